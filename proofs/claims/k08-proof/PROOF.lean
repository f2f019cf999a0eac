import PyProof.Rows.All
import HandS.Comp
import Wide.All
import OpenK.AllK
import Wide.FinOn
import PyProof.P3In
import HandS.ForMost
import HandS.IsInst
import HandS.TupAny
import HandS.TupMul
import HandS.Flow
import HandS.Deep
import HandS.Zip
import HandS.Lambda
import HandS.More
import HandS.Small
import HandS.Conv
import HandS.TupLe
import KE.SortKeyHeap
import KE.KTupSum
import HandS.DictComp
import HandS.Star
import HandS.FStr
import HandS.RaiseMore
import HandS.WordsExc
import HandS.TryMany
import HandS.ExcOwn
import HandS.Wide
import HandS.Exc
import PyProof.Draws
import KE.GoesEnumKw
import HandS.ExcField
import HandS.ExcInit
import HandS.ExcSuper
import KE.KExcSuper
import KE.KSuper
import HandS.Text
import HandS.EndTab
import PySem.Challenge.RW_noticeways_k08_texts_of_notices
set_option Elab.async false
set_option linter.all false
set_option maxRecDepth 100000
set_option maxHeartbeats 2000000
/-! comprehensions with any number of clauses -/
namespace DW
open PySem PySem.Spec PyProof.Rows L2

theorem turnN_out {elt : Expr} {gs : List Comprehension} {scope : Scope} {pos : Pos} {d : Nat} {it acc : Value} {env : Env} {t0 i0 t1 i1 : Expr} {ifs0 ifs1 : List Expr} (h0 : gs[d]? = some ⟨t0, i0, ifs0, 0⟩) (h1 : gs[d + 1]? = some ⟨t1, i1, ifs1, 0⟩) :
    compTurn (.ListComp elt gs scope pos) d it acc env = (do
      standAt i0.pos
      match ← pyNext it with
      | none => pure (.done .next)
      | some v =>
        letOwnedTupleGo t0 it v
        assign t0 env v
        let mut ok := true
        for c in ifs0 do
          if ok then ok ← isTrue c env (eval c env)
        if ok then
          let x ← eval i1 env
          standAt i1.pos
          let x ← foldedSetIterable i1 env x
          let _ ← runOwn (.compStart (.ListComp elt gs scope pos) (d + 1) (← holding [x] (pyIter x)) acc env) env
        again (.compLoop (.ListComp elt gs scope pos) d it acc env)) := by
  unfold compTurn
  simp only [h0, h1]
  rfl
theorem turnN_in {elt : Expr} {gs : List Comprehension} {scope : Scope} {pos : Pos} {d : Nat} {it acc : Value} {env : Env} {t0 i0 : Expr} {ifs0 : List Expr} (h0 : gs[d]? = some ⟨t0, i0, ifs0, 0⟩) (h1 : gs[d + 1]? = none) :
    compTurn (.ListComp elt gs scope pos) d it acc env = (do
      standAt i0.pos
      match ← pyNext it with
      | none => pure (.done .next)
      | some v =>
        letOwnedTupleGo t0 it v
        assign t0 env v
        let mut ok := true
        for c in ifs0 do
          if ok then ok ← isTrue c env (eval c env)
        if ok then
          (do let _ ← call (.builtin "list.append") [acc, ← eval elt env])
        again (.compLoop (.ListComp elt gs scope pos) d it acc env)) := by
  unfold compTurn
  simp only [h0, h1]
  rfl

/-- a clause behind the first one: what it walks, its store, its tests, its own slots -/
structure Gn where
  wi : TI
  g : TG
  tt : TT
  vs : List Nat
def tInner (te : TE) (D : Addr) : List Gn → L2.St → Hp → (Hp → Prop) → Prop
  | [], σ, H, Nx => te σ H fun y H1 => ∃ acc, H1 D = some (.lst acc) ∧ acc.length < sizeLine ∧ Nx (upd H1 D (.lst (acc ++ [y])))
  | G :: r, σ, H, Nx => G.wi σ H fun J H1 => ∃ V : Nat → Nat → Hp → Prop, (∃ m, V 0 m H1) ∧ ∀ j k H, V j k H →
      (J.stop j H ∧ Nx H) ∨ (J.go j H ∧ ∃ My : Hp → Prop, (∀ H', My H' → ∃ k', k' < k ∧ V (j + 1) k' H') ∧ ∀ x H', J.yld j H x H' → G.g x (wipe σ G.vs) H' fun σ2 H2 => wipe σ2 G.vs = wipe σ G.vs ∧ G.tt σ2 H2 fun b H3 =>
        if b = true then tInner te D r σ2 H3 My else My H3)
/-- the loop of a clause that has its iterator -/
def loopR (te : TE) (D : Addr) (G : Gn) (r : List Gn) (J : It) (σ : L2.St) (Nx : Hp → Prop) (H0 : Hp) : Prop := ∃ V : Nat → Nat → Hp → Prop, (∃ m, V 0 m H0) ∧ ∀ j k H, V j k H →
      (J.stop j H ∧ Nx H) ∨ (J.go j H ∧ ∃ My : Hp → Prop, (∀ H', My H' → ∃ k', k' < k ∧ V (j + 1) k' H') ∧ ∀ x H', J.yld j H x H' → G.g x (wipe σ G.vs) H' fun σ2 H2 => wipe σ2 G.vs = wipe σ G.vs ∧ G.tt σ2 H2 fun b H3 =>
        if b = true then tInner te D r σ2 H3 My else My H3)
structure GnOk0 (Y : Cx) (c : Comprehension) (G : Gn) : Prop where
  sync : c.is_async = 0
  pg : PG Y c.target G.g
  pt : PTs Y c.ifs G.tt
structure GnOk (Y : Cx) (c : Comprehension) (G : Gn) : Prop extends GnOk0 Y c G where
  pi : PI Y c.target c.iter G.wi
  fold : ∀ x, foldedSetIterable c.iter Y.env x = pure x
inductive GnsOk (Y : Cx) : List Comprehension → List Gn → Prop
  | nil : GnsOk Y [] []
  | cons {c : Comprehension} {G : Gn} {cs : List Comprehension} {Gs : List Gn} : GnOk Y c G → GnsOk Y cs Gs → GnsOk Y (c :: cs) (G :: Gs)

theorem thnX {α : Type} {t : Sem α} {Q Q' : α → Shared → Prop} {M : Model} {A : Around} {E F : Value → Shared → Prop} {s : Shared} (hF : F = fun _ _ => False) (h : wpAny M A t Q F s) (hQ : ∀ a s, Q a s → Q' a s) : wpAny M A t Q' E s :=
  wpAny_mono h hQ fun _ _ z => by rw [hF] at z; exact z.elim

section
variable {prog : Program} {w : World} {A : Around} {elt : Expr} {gs : List Comprehension} {scope : Scope} {pos : Pos} {d : Nat} {it acc : Value} {env : Env} {P : Shared → Prop}
/-- what a loop within is to reach -/
abbrev PR (P : Shared → Prop) : Result → Shared → Prop := fun r s => r = .ok .next ∧ P s
theorem loopN_out {R : Result → Shared → Prop} {tg0 io0 tg1 io1 : Expr} {fs0 fs1 : List Expr} (g0 : gs[d]? = some ⟨tg0, io0, fs0, 0⟩) (g1 : gs[d + 1]? = some ⟨tg1, io1, fs1, 0⟩) (hs : ∀ x, foldedSetIterable io1 env x = pure x) (I : Nat → Shared → Prop)
    (turn : ∀ n s, I n s → wpAny (model prog w) A (pyNext it) (fun r sa => match r with
      | none => R (.ok .next) sa
      | some v => wpAny (model prog w) A (letOwnedTupleGo tg0 it v) (fun _ sb => wpAny (model prog w) A (assign tg0 env v) (fun _ sc =>
          wpAny (model prog w) A (forIn fs0 true fun c r => if r = true then do let ok ← isTrue c env (eval c env); pure (ForInStep.yield ok) else pure (ForInStep.yield r)) (fun ok sd =>
            if ok = true then wpAny (model prog w) A (eval io1 env) (fun x se => wpAny (model prog w) A (pyIter x) (fun it1 sf =>
              codeAny (model prog w) A (.compStart (.ListComp elt gs scope pos) (d + 1) it1 acc env) (PR fun s' => ∃ m, m < n ∧ I m s') sf) (fun _ _ => False) se) (fun _ _ => False) sd
            else ∃ m, m < n ∧ I m sd) (fun _ _ => False) sc) (fun _ _ => False) sb) (fun _ _ => False) sa) (fun _ _ => False) s)
    (n : Nat) (s : Shared) (h : I n s) : codeAny (model prog w) A (.compLoop (.ListComp elt gs scope pos) d it acc env) R s := by
  refine codeAny_loop rfl I (fun n s hI => ?_) n h
  show wpAny _ A ((compTurn (.ListComp elt gs scope pos) d it acc env).onRaise (fun x => do noteFrame x env; theTreesLotGoes x)) _ _ s
  refine wpAny_noted ?_
  rw [turnN_out g0 g1]
  refine wpAny_bind (wpAny_standAt (wpAny_bind (thnF (turn n s hI) fun r sa ha => ?_)))
  cases r with
  | none => exact wpAny_pure ha
  | some v =>
    refine wpAny_bind (thnF ha fun _ sb hb => ?_)
    refine wpAny_bind (thnF hb fun _ sc hc => wpAny_bind (thnF hc fun ok sd hd => ?_))
    cases ok with
    | false => exact wpAny_pure ⟨rfl, hd⟩
    | true =>
      refine wpAny_bind (thnF hd fun x se he => ?_)
      refine wpAny_bind (wpAny_standAt (wpAny_bind (wpAny_of_eq (hs x) (wpAny_bind (wpAny_holding (thnF he fun it1 sf hf => ?_))))))
      refine wpAny_bind (wpAny_runOwn ?_)
      rw [Around.mark_none]
      refine codeAny_mono hf fun r s' hr => ?_
      obtain ⟨er, hr⟩ := hr
      subst er
      first
        | exact wpAny_pure ⟨rfl, hr⟩
        | exact wpAny_bind (wpAny_pure (wpAny_pure ⟨rfl, hr⟩))
theorem loopN_in {R : Result → Shared → Prop} {tg0 io0 : Expr} {fs0 : List Expr} (g0 : gs[d]? = some ⟨tg0, io0, fs0, 0⟩) (g1 : gs[d + 1]? = none) (I : Nat → Shared → Prop)
    (turn : ∀ n s, I n s → wpAny (model prog w) A (pyNext it) (fun r sa => match r with
      | none => R (.ok .next) sa
      | some v => wpAny (model prog w) A (letOwnedTupleGo tg0 it v) (fun _ sb => wpAny (model prog w) A (assign tg0 env v) (fun _ sc =>
          wpAny (model prog w) A (forIn fs0 true fun c r => if r = true then do let ok ← isTrue c env (eval c env); pure (ForInStep.yield ok) else pure (ForInStep.yield r)) (fun ok sd =>
            if ok = true then wpAny (model prog w) A (eval elt env) (fun x se =>
              wpAny (model prog w) A (call (.builtin "list.append") [acc, x]) (fun _ sf => ∃ m, m < n ∧ I m sf) (fun _ _ => False) se) (fun _ _ => False) sd
            else ∃ m, m < n ∧ I m sd) (fun _ _ => False) sc) (fun _ _ => False) sb) (fun _ _ => False) sa) (fun _ _ => False) s)
    (n : Nat) (s : Shared) (h : I n s) : codeAny (model prog w) A (.compLoop (.ListComp elt gs scope pos) d it acc env) R s := by
  refine codeAny_loop rfl I (fun n s hI => ?_) n h
  show wpAny _ A ((compTurn (.ListComp elt gs scope pos) d it acc env).onRaise (fun x => do noteFrame x env; theTreesLotGoes x)) _ _ s
  refine wpAny_noted ?_
  rw [turnN_in g0 g1]
  refine wpAny_bind (wpAny_standAt (wpAny_bind (thnF (turn n s hI) fun r sa ha => ?_)))
  cases r with
  | none => exact wpAny_pure ha
  | some v =>
    refine wpAny_bind (thnF ha fun _ sb hb => ?_)
    refine wpAny_bind (thnF hb fun _ sc hc => wpAny_bind (thnF hc fun ok sd hd => ?_))
    cases ok with
    | false => exact wpAny_pure ⟨rfl, hd⟩
    | true => exact wpAny_bind (wpAny_bind (thnF hd fun x se he => wpAny_bind (thnF he fun _ sf hf => wpAny_pure (wpAny_pure ⟨rfl, hf⟩))))
/-- a further clause's start -/
theorem startN {R : Result → Shared → Prop} {s : Shared} {c : Comprehension} (g0 : gs[d]? = some c) (hc : c.is_async = 0) (h0 : codeAny (model prog w) A (.compLoop (.ListComp elt gs scope pos) d it acc env) R s)
    (h : wpAny (model prog w) A (pyIter it) (fun it' s' => codeAny (model prog w) A (.compLoop (.ListComp elt gs scope pos) d it' acc env) R s') (fun _ _ => False) s) (hd : (Code.compStart (.ListComp elt gs scope pos) d it acc env).isFrame = false) :
    codeAny (model prog w) A (.compStart (.ListComp elt gs scope pos) d it acc env) R s := by
  refine codeAny_of_tree ?_
  show wpAny _ _ (if (Code.compStart (.ListComp elt gs scope pos) d it acc env).isFrame then (compStart (.ListComp elt gs scope pos) d it acc env).onRaise (leaving env) else (compStart (.ListComp elt gs scope pos) d it acc env).onRaise (fun x => do noteFrame x env; standAt theWindowsPlace)) _ _ s
  rw [hd]
  refine wpAny_notedAt ?_
  unfold compStart
  have e1 : (clausesOf (.ListComp elt gs scope pos))[d]? = some c := g0
  simp only [e1, Option.elim_some, hc, bne_self_eq_false, Bool.false_eq_true, if_false]
  refine wpAny_bind (wpAny_askSetting (wpAny_ite ?_))
  split
  · first
      | exact wpAny_bind (wpAny_pure (wpAny_pure (And.intro rfl h0)))
      | exact wpAny_pure (And.intro rfl h0)
  · refine wpAny_bind (wpAny_rule ?_)
    refine wpAny_bind (wpAny_standAt ?_)
    exact wpAny_bind (thnF h fun it' s' h' => wpAny_pure (And.intro rfl h'))
end

/-- what stands behind a clause's tests -/
def bodyN (Y : Cx) (elt : Expr) (gs : List Comprehension) (scope : Scope) (pos : Pos) (d : Nat) (D : Addr) : List Comprehension → (Shared → Prop) → Shared → Prop
  | [], P, sd => wpAny (model Y.prog Y.w) Y.A (eval elt Y.env) (fun x se => wpAny (model Y.prog Y.w) Y.A (call (.builtin "list.append") [.ref D, x]) (fun _ sf => P sf) (fun _ _ => False) se) (fun _ _ => False) sd
  | c1 :: _, P, sd => wpAny (model Y.prog Y.w) Y.A (eval c1.iter Y.env) (fun x se => wpAny (model Y.prog Y.w) Y.A (pyIter x) (fun it1 sf => codeAny (model Y.prog Y.w) Y.A (.compStart (.ListComp elt gs scope pos) (d + 1) it1 (.ref D) Y.env) (PR P) sf) (fun _ _ => False) se) (fun _ _ => False) sd
/-- each clause's own slots are among those of the clause ahead of it -/
inductive Nest : List Nat → List Gn → Prop
  | nil {vs : List Nat} : Nest vs []
  | cons {vs : List Nat} {G : Gn} {Gs : List Gn} : (∀ i ∈ G.vs, i ∈ vs) → Nest G.vs Gs → Nest vs (G :: Gs)
theorem wipe_sub {σ σ2 : L2.St} {vs ws : List Nat} (hw : wipe σ2 vs = wipe σ vs) (hv : ∀ i ∈ ws, i ∈ vs) : (wipe σ vs).length = (wipe σ2 ws).length ∧ ∀ (j : Nat) v, (wipe σ vs)[j]? = some (some v) → (wipe σ2 ws)[j]? = some (some v) := by
  refine ⟨by rw [← hw, wipe_length, wipe_length], fun j v e => ?_⟩
  rw [← hw] at e
  obtain ⟨e1, e2⟩ := wipe_some e
  rw [wipe_out fun z => e2 (hv j z)]
  exact e1
/-- the loop of a clause behind the first one, with all that stand behind it -/
theorem innerN {Y : Cx} {elt : Expr} {gs : List Comprehension} {scope : Scope} {pos : Pos} {D : Addr} {te : TE} (hc : Y.calm = true) (hx : Y.xe = fun _ _ => False) (pe : PE Y elt te) (hf : ∀ d it acc, (Code.compStart (.ListComp elt gs scope pos) d it acc Y.env).isFrame = false) :
    ∀ (rest : List Comprehension) (Gs : List Gn) (c : Comprehension) (G : Gn) (d : Nat), gs.drop d = c :: rest → GnOk0 Y c G → GnsOk Y rest Gs → Nest G.vs Gs → ∀ (pins : List (Addr × Obj)) (σ : L2.St) (H : Hp) (s : Shared) (it : Addr) (fp : List Addr) (tn : Nat → Heap → Prop) (J : It) (Nx : Hp → Prop) (P : Shared → Prop),
      Inv Y pins σ H s → Turn Y.prog Y.w Y.K c.target J fp it tn → tn 0 s.heap → (∀ b ∈ fp, FpOk Y pins H b) → loopR te D G Gs J σ Nx H → (∀ s' H', Inv Y pins (wipe σ G.vs) H' s' → Nx H' → P s') →
      codeAny (model Y.prog Y.w) Y.A (.compLoop (.ListComp elt gs scope pos) d (.ref it) (.ref D) Y.env) (PR P) s
  | rest, Gs, c, G, d, hd, ok, oks, nst, pins, σ, H, s, it, fp, tn, J, Nx, P, I, T, st, ff, q, fin => by
    obtain ⟨tg, iter, ifs, asy⟩ := c
    obtain ⟨a0, apg, apt⟩ := ok
    simp only at a0 apg apt T
    subst a0
    have g0 : gs[d]? = some ⟨tg, iter, ifs, 0⟩ := by
      have := congrArg (·[0]?) hd
      simpa using this
    have gd : gs.drop (d + 1) = rest := by
      have := congrArg List.tail hd
      simpa [List.tail_drop] using this
    obtain ⟨V, ⟨m, v0⟩, turn⟩ := q
    have stat : ∀ {H' : Hp}, (∀ b ∈ fp, H' b = none) → ∀ b ∈ fp, FpOk Y pins H' b := fun hn b hb => ⟨hn b hb, (ff b hb).2⟩
    let L : Nat → Shared → Prop := fun k s' => ∃ j H', Inv Y pins (wipe σ G.vs) H' s' ∧ tn j s'.heap ∧ (∀ b ∈ fp, H' b = none) ∧ V j k H'
    have l0 : L m s := ⟨0, H, I.weak (wipe_length _ _) (fun j v e => (wipe_some e).1), st, fun b hb => (ff b hb).1, v0⟩
    -- a turn, up to its tests; then what the tests open
    have main : ∀ (inn : ∀ (k j : Nat) (My : Hp → Prop) (σ2 : L2.St) (H3 : Hp) (sd : Shared) (h7 : Heap), (∀ H', My H' → ∃ k', k' < k ∧ V (j + 1) k' H') → wipe σ2 G.vs = wipe σ G.vs → tn (j + 1) h7 → Inv Y (pins ++ pinsAt fp h7) σ2 H3 sd → tInner te D Gs σ2 H3 My →
          (∀ (s' : Shared) (H' : Hp) (σ3 : L2.St), Inv Y (pins ++ pinsAt fp h7) σ3 H' s' → (wipe σ G.vs).length = σ3.length → (∀ (j : Nat) v, (wipe σ G.vs)[j]? = some (some v) → σ3[j]? = some (some v)) → My H' → ∃ k', k' < k ∧ L k' s') →
          bodyN Y elt gs scope pos d D rest (fun s' => ∃ m, m < k ∧ L m s') sd),
        ∀ n sa, L n sa → wpAny (model Y.prog Y.w) Y.A (pyNext (.ref it)) (fun r sa => match r with
          | none => PR P (.ok .next) sa
          | some v => wpAny (model Y.prog Y.w) Y.A (letOwnedTupleGo tg (.ref it) v) (fun _ sb => wpAny (model Y.prog Y.w) Y.A (assign tg Y.env v) (fun _ sc =>
              wpAny (model Y.prog Y.w) Y.A (forIn ifs true fun c r => if r = true then do let ok ← isTrue c Y.env (eval c Y.env); pure (ForInStep.yield ok) else pure (ForInStep.yield r)) (fun ok sd =>
                if ok = true then bodyN Y elt gs scope pos d D rest (fun s' => ∃ m, m < n ∧ L m s') sd
                else ∃ m, m < n ∧ L m sd) (fun _ _ => False) sc) (fun _ _ => False) sb) (fun _ _ => False) sa) (fun _ _ => False) sa := by
      rintro inn n sa ⟨j, Ha, Ia, sta, na, va⟩
      rcases turn j n Ha va with ⟨stop, nx⟩ | ⟨go, My, hMy, step⟩
      · refine thnF (T.done Y rfl rfl rfl hc j _ sa (wipe σ G.vs) Ha (fun _ _ => False) Ia (stat na) sta stop) fun r sb ⟨hr, Ib⟩ => ?_
        subst hr
        exact ⟨rfl, fin sb Ha Ib nx⟩
      · refine thnF (T.item Y rfl rfl rfl hc j _ sa (wipe σ G.vs) Ha (fun _ _ => False) Ia (stat na) sta go) fun r sb ⟨u, hr, hb⟩ => ?_
        subst hr
        refine thnF hb fun _ sc ⟨x, Hc, Ic, rc, yc, stc, nc⟩ => ?_
        have Ic' := Ic.pinned (stat nc) (T.obj _ _ stc)
        refine thnX hx (apg.run _ sc (wipe σ G.vs) Hc x u _ Ic' rc (step x Hc yc)) fun _ sd ⟨σ2, Hd, Id, hw, qd⟩ => ?_
        refine thnX hx (apt.run _ sd σ2 Hd _ Id qd) fun b se ⟨He, Ie, qe⟩ => ?_
        have back : ∀ (s' : Shared) (H' : Hp) (σ3 : L2.St), Inv Y (pins ++ pinsAt fp sc.heap) σ3 H' s' → (wipe σ G.vs).length = σ3.length → (∀ (j : Nat) v, (wipe σ G.vs)[j]? = some (some v) → σ3[j]? = some (some v)) → My H' → ∃ k', k' < n ∧ L k' s' := fun s' H' σ3 I' hl hk nx => by
          obtain ⟨k', hk', v'⟩ := hMy H' nx
          have pin' : ∀ b ∈ fp, ∀ o, sc.heap.get? b = some o → s'.heap.get? b = some o ∧ H' b = none := fun b hb o e =>
            let z := I'.pin (b, o) (List.mem_append_right _ (List.mem_append_right _ (mem_pinsAt hb e)))
            ⟨z.1, z.2.1⟩
          refine ⟨k', hk', j + 1, H', (I'.unpinned).weak hl hk, T.keep _ _ _ stc fun b hb o e => (pin' b hb o e).1, fun b hb => ?_, v'⟩
          obtain ⟨o, e, _⟩ := T.obj _ _ stc b hb
          exact (pin' b hb o e).2
        cases b with
        | false =>
          simp only [Bool.false_eq_true, if_false] at qe ⊢
          exact back se He σ2 Ie (by rw [← hw, wipe_length]) (fun j v e => by rw [← hw] at e; exact (wipe_some e).1) qe
        | true =>
          simp only [if_true] at qe
          exact inn n j My σ2 He se sc.heap hMy hw stc Ie qe back
    cases rest with
    | nil =>
      cases oks
      have g1 : gs[d + 1]? = none := by
        have := congrArg (·[0]?) gd
        simpa using this
      refine loopN_in g0 g1 L (main fun k j My σ2 H3 sd h7 hMy hw st7 I3 q3 back => ?_) m s l0
      refine thnX hx (pe.run _ sd σ2 H3 _ I3 q3) fun z se ⟨y, H4, I4, r4, ac, hD, hz, nx⟩ => ?_
      exact app_ok (X := Y) I4 hD hz r4 fun sf I5 => back sf _ σ2 I5 (by rw [← hw, wipe_length]) (fun j v e => by rw [← hw] at e; exact (wipe_some e).1) nx
    | cons c1 rest1 =>
      cases oks with
      | @cons _ G1 _ Gs1 ok1 oks1 =>
        obtain ⟨hv1, nst1⟩ : (∀ i ∈ G1.vs, i ∈ G.vs) ∧ Nest G1.vs Gs1 := by cases nst with | cons a b => exact ⟨a, b⟩
        have g1 : gs[d + 1]? = some c1 := by
          have := congrArg (·[0]?) gd
          simpa using this
        obtain ⟨tg1, it1, ifs1, as1⟩ := c1
        have a1 : as1 = 0 := ok1.sync
        subst a1
        refine loopN_out g0 g1 ok1.fold L (main fun k j My σ2 H3 sd h7 hMy hw st7 I3 q3 back => ?_) m s l0
        refine thnX hx (ok1.pi.run _ sd σ2 H3 _ I3 q3) fun xv se hse => thnX hx hse fun itv sf hsf => ?_
        obtain ⟨i1, fp1, tn1, J1, H4, e1, I4, T1, st4, f4, q4⟩ := hsf
        subst e1
        have lp : codeAny (model Y.prog Y.w) Y.A (.compLoop (.ListComp elt gs scope pos) (d + 1) (.ref i1) (.ref D) Y.env) (PR fun s' => ∃ m, m < k ∧ L m s') sf :=
          innerN hc hx pe hf rest1 Gs1 _ G1 (d + 1) gd ok1.toGnOk0 oks1 nst1 _ σ2 H4 sf i1 fp1 tn1 J1 My _ I4 T1 st4 f4 q4 fun s' H' I' nx =>
            back s' H' _ I' (wipe_sub hw hv1).1 (wipe_sub hw hv1).2 nx
        exact startN g1 rfl lp (T1.self Y.A 0 _ _ _ st4 lp) (hf _ _ _)

theorem wipe_wipe (σ : L2.St) (vs : List Nat) : wipe (wipe σ vs) vs = wipe σ vs := by
  apply List.ext_getElem?
  intro j
  have aux : ∀ (σ : L2.St) (ws : List Nat), j ∈ ws → (wipe σ ws)[j]? = if j < σ.length then some none else none := by
    intro σ ws
    induction ws with
    | nil => intro h; cases h
    | cons v r ih =>
      intro h
      show ((wipe σ r).set v none)[j]? = _
      by_cases hv : v = j
      · subst hv
        by_cases hl : v < σ.length
        · rw [if_pos hl, List.getElem?_set_self (by rw [wipe_length]; exact hl)]
        · rw [if_neg hl, List.getElem?_eq_none (by rw [List.length_set, wipe_length]; omega)]
      · rw [List.getElem?_set_ne hv]
        exact ih (by rcases List.mem_cons.mp h with z | z; exact absurd z.symm hv; exact z)
  by_cases hj : j ∈ vs
  · rw [aux _ _ hj, aux _ _ hj, wipe_length]
  · rw [wipe_out hj]
section
variable {X : Cx}
/-- a comprehension with clauses G, Gs -/
def tLcN (wi : TI) (G : Gn) (Gs : List Gn) (te : TE) : TE := fun σ H Q => wi σ H fun J H1 => ∀ D, H1 D = none → loopR te D G Gs J (wipe σ G.vs) (fun H' => Q (.ref D) H') (upd H1 D (.lst []))
theorem coreN {pins : List (Addr × Obj)} {s : Shared} {σ : L2.St} {H : Hp} {Q : VK} {elt : Expr} {c : Comprehension} {cs : List Comprehension} {scope : Scope} {own : List (Str × Nat)} {pos pz : Pos} {wi : TI} {G : Gn} {Gs : List Gn} {te : TE} {use : Option (Value → Sem Unit)} {Qf : Value → Shared → Prop}
    (calm : X.calm = true) (nd : X.N.Nodup) (I : Inv X pins σ H s) (hi : PI X c.target c.iter wi) (ok : BlkOk X.N X.env.scope scope own) (hG : G.vs = own.map (·.2)) (nest : Nest G.vs Gs)
    (h0 : ∀ (s : Shared) (H : Hp) (C : Addr) (cl : List (Str × Addr)) (fp : List Addr), GnOk0 (X.blk s H scope (compEnvC scope cl C X.env) fp) c G) (h1 : ∀ (s : Shared) (H : Hp) (C : Addr) (cl : List (Str × Addr)) (fp : List Addr), GnsOk (X.blk s H scope (compEnvC scope cl C X.env) fp) cs Gs)
    (he : ∀ (s : Shared) (H : Hp) (C : Addr) (cl : List (Str × Addr)) (fp : List Addr), PE (X.blk s H scope (compEnvC scope cl C X.env) fp) elt te) (hs : ∀ x, foldedSetIterable c.iter X.env x = pure x) (h : tLcN wi G Gs te σ H Q)
    (after : ∀ D C s' m H', Inv X pins σ H' s' → Q (.ref D) H' → s'.heap.Ns C m → FpOk X pins H' C → compPost (model X.prog X.w) X.A X.xe use Qf (.ref D) C (.ok .next) s') :
    wpAny (model X.prog X.w) X.A (comprehension (.ListComp elt (c :: cs) scope pos) scope X.env pz (newList []) false (eval c.iter X.env) use) Qf X.xe s := by
  have frees : ∀ y ∈ scope.names, y.2 = .free → ∃ a, X.env.cells.lookup y.1 = some a := fun y hy e =>
    (ok.free y hy e).elim (fun k => I.ok.has _ (.inl k)) (fun k => I.ok.has _ (.inr k))
  obtain ⟨tg, iter, ifs, asy⟩ := c
  have a0 : asy = 0 := (h0 s H 0 [] []).sync
  subst a0
  refine wpAny_comprehension_free (use := use) rfl hs (closure_ok frees) ok.kind (fun y hy e => by rw [ok.uniq y hy, e]) (thn (hi.run pins s σ H _ I h) fun xv sa hx => thn hx fun itv sb hb => ?_)
  obtain ⟨it, fp, tn, J, Hb, e, Ib, T, stb, fb, q⟩ := hb
  subst e
  refine wpAny_newObj_type (newEnv_comp ?_) (by show 0 ≤ sizeLine; decide)
  generalize hD : sb.heap.objs.size = D
  have nD : Hb D = none := Ib.hok.fresh (Nat.le_of_eq hD)
  have q' := q D nD
  generalize hsc : ({ sb with heap := sb.heap.push { cls := .type "list", data := .seq ([] : List Value).toArray } } : Shared) = sc
  have Ic : Inv X pins σ (upd Hb D (.lst [])) sc := by
    subst hsc
    refine Ib.laid (t' := sb.toks) (fun b o e => Heap.get?_push_of_some _ e) (Nat.le_of_eq hD) ⟨Nat.zero_le _, [], 0, .nil, ?_⟩
    subst hD
    exact Heap.get?_push_size _ rfl
  have hc : sc.heap = sb.heap.push { cls := .type "list", data := .seq ([] : List Value).toArray } := by subst hsc; rfl
  have small : ∀ b ∈ fp, b < sb.heap.objs.size := fun b hb => let ⟨_, e, _⟩ := T.obj _ _ stb b hb; Heap.lt_size e
  have fc : ∀ b ∈ fp, FpOk X pins (upd Hb D (.lst [])) b ∧ b < sc.heap.objs.size := fun b hb => by
    have lt := small b hb
    refine ⟨⟨?_, (fb b hb).2⟩, by rw [hc, Heap.size_push]; exact Nat.lt_succ_of_lt lt⟩
    rw [upd_ne (by subst hD; exact Nat.ne_of_lt lt)]
    exact (fb b hb).1
  have stc : tn 0 sc.heap := T.keep _ _ _ stb fun b _ o e => by rw [hc]; exact Heap.get?_push_of_some _ e
  have Id := block_start Ic ok nd fc
  have k0 := h0 sc (upd Hb D (.lst [])) sc.heap.objs.size (cellsFrom (sc.heap.objs.size + 1) scope.names (cloFrom X.env.cells scope.names [])) fp
  have k1 := h1 sc (upd Hb D (.lst [])) sc.heap.objs.size (cellsFrom (sc.heap.objs.size + 1) scope.names (cloFrom X.env.cells scope.names [])) fp
  have ke := he sc (upd Hb D (.lst [])) sc.heap.objs.size (cellsFrom (sc.heap.objs.size + 1) scope.names (cloFrom X.env.cells scope.names [])) fp
  show codeAny _ _ (.compStart (.ListComp elt (⟨tg, iter, ifs, 0⟩ :: cs) scope pos) 0 (.ref it) (.ref D) (compEnvC scope (cellsFrom (sc.heap.objs.size + 1) scope.names (cloFrom X.env.cells scope.names [])) sc.heap.objs.size X.env)) (compPost (model X.prog X.w) X.A X.xe use Qf (.ref D) sc.heap.objs.size) { sc with heap := pushCells (sc.heap.push { cls := .type "dict", data := .dict #[] }) scope.names }
  have nfp : ∀ b ∈ fp, (upd Hb D (.lst [])) b = none := fun b hb => (fc b hb).1.1
  generalize hce : compEnvC scope (cellsFrom (sc.heap.objs.size + 1) scope.names (cloFrom X.env.cells scope.names [])) sc.heap.objs.size X.env = ce at Id k0 k1 ke ⊢
  have cL : ce.locals = sc.heap.objs.size := by subst hce; rfl
  generalize hHc : upd Hb D (.lst []) = Hc at Ic Id k0 k1 ke nfp fc q'
  generalize hsd : ({ sc with heap := pushCells (sc.heap.push { cls := .type "dict", data := .dict #[] }) scope.names } : Shared) = sd at Id ⊢
  have std : tn 0 sd.heap := T.keep _ _ _ stc fun b _ o e => by subst hsd; exact pushCells_keeps _ _ _ _ (Heap.get?_push_of_some _ e)
  have fd : ∀ b ∈ fp, FpOk (X.blk sc Hc scope ce fp) [] Hc b := fun b hb => ⟨nfp b hb, (Id.ok.exf b hb).1, Id.ok.exfs b hb, .inl hb, fun x c e => (Id.ok.exf b hb).2 x c e, fun p hp => absurd (show p ∈ ([] : List (Addr × Obj)) ++ [] from hp) (by simp)⟩
  have run : codeAny (model X.prog X.w) X.A (.compLoop (.ListComp elt (⟨tg, iter, ifs, 0⟩ :: cs) scope pos) 0 (.ref it) (.ref D) ce) (PR fun s' => compPost (model X.prog X.w) X.A X.xe use Qf (.ref D) sc.heap.objs.size (.ok .next) s') sd := by
    refine innerN (Y := X.blk sc Hc scope ce fp) calm rfl ke (fun _ _ _ => rfl) cs Gs _ G 0 rfl k0 k1 nest [] (wipe σ (own.map (·.2))) Hc sd it fp tn J (fun H' => Q (.ref D) H') _ Id T std fd (by rw [hG] at q'; exact q') fun s' H' I' hq => ?_
    have J2 : Inv X pins σ H' s' := Ic.call' (ch := fp) I'.os I'.base I'.hok I'.bare fun b hb => ⟨(fc b hb).1.2.2.2.1, (fc b hb).1.2.1, (fc b hb).1.2.2.2.2.1, (fc b hb).1.2.2.2.2.2⟩
    have nC : H' sc.heap.objs.size = none := by
      have z : H' ce.locals = none := I'.free
      rw [cL] at z
      exact z
    obtain ⟨m, hn, _⟩ := I'.loc
    have hn : s'.heap.Ns ce.locals m := hn
    rw [cL] at hn
    exact after D sc.heap.objs.size s' m H' J2 hq hn (Ic.fpOk (Nat.le_refl _) nC)
  have run2 := codeAny_mono run fun r s' hr => (show compPost (model X.prog X.w) X.A X.xe use Qf (.ref D) sc.heap.objs.size r s' from by obtain ⟨er, hr⟩ := hr; subst er; exact hr)
  exact codeAny_compStart_list run2 (T.self X.A 0 _ _ _ std run2)
theorem pe_lcN {elt : Expr} {c : Comprehension} {cs : List Comprehension} {scope : Scope} {own : List (Str × Nat)} {pos : Pos} {wi : TI} {G : Gn} {Gs : List Gn} {te : TE} (calm : X.calm = true) (nd : X.N.Nodup) (hi : PI X c.target c.iter wi) (ok : BlkOk X.N X.env.scope scope own) (hG : G.vs = own.map (·.2)) (nest : Nest G.vs Gs)
    (h0 : ∀ (s : Shared) (H : Hp) (C : Addr) (cl : List (Str × Addr)) (fp : List Addr), GnOk0 (X.blk s H scope (compEnvC scope cl C X.env) fp) c G) (h1 : ∀ (s : Shared) (H : Hp) (C : Addr) (cl : List (Str × Addr)) (fp : List Addr), GnsOk (X.blk s H scope (compEnvC scope cl C X.env) fp) cs Gs)
    (he : ∀ (s : Shared) (H : Hp) (C : Addr) (cl : List (Str × Addr)) (fp : List Addr), PE (X.blk s H scope (compEnvC scope cl C X.env) fp) elt te) (hs : ∀ x, foldedSetIterable c.iter X.env x = pure x) :
    PE X (.ListComp elt (c :: cs) scope pos) (tLcN wi G Gs te) := by
  refine ⟨fun pins s σ H Q I h => ?_⟩
  rw [eval_ListComp]
  obtain ⟨tg, iter, ifs, asy⟩ := c
  have a0 : asy = 0 := (h0 s H 0 [] []).sync
  subst a0
  show wpAny _ _ (comprehension (.ListComp elt (⟨tg, iter, ifs, 0⟩ :: cs) scope pos) scope X.env _ (newList []) false (eval iter X.env) none) _ _ _
  refine coreN calm nd I hi ok hG nest h0 h1 he hs h fun D C s' m H' I' q hn f => ⟨m, hn, fun h'' sb => ?_⟩
  obtain ⟨f0, f1, f2, f3, f4, f5⟩ := f
  exact ⟨.ref D, H', I'.turned (t' := s'.toks) (fun b o hb e => (sb.2 b hb).trans e) f0 f1 f3 f4 f5, rfl, q⟩
theorem ps_setLcN {i : Nat} {y : Str} {py : Pos} {elt : Expr} {c : Comprehension} {cs : List Comprehension} {scope : Scope} {own : List (Str × Nat)} {pos spos : Pos} {wi : TI} {G : Gn} {Gs : List Gn} {te : TE} (calm : X.calm = true) (nd : X.N.Nodup) (hy : X.N[i]? = some y) (hyl : X.env.scope.names.lookup y = some .local)
    (hsw : swapsWith (.ListComp elt (c :: cs) scope pos) (some (.Name y py)) spos.line X.env = pure true) (hi : PI X c.target c.iter wi) (ok : BlkOk X.N X.env.scope scope own) (hG : G.vs = own.map (·.2)) (nest : Nest G.vs Gs)
    (h0 : ∀ (s : Shared) (H : Hp) (C : Addr) (cl : List (Str × Addr)) (fp : List Addr), GnOk0 (X.blk s H scope (compEnvC scope cl C X.env) fp) c G) (h1 : ∀ (s : Shared) (H : Hp) (C : Addr) (cl : List (Str × Addr)) (fp : List Addr), GnsOk (X.blk s H scope (compEnvC scope cl C X.env) fp) cs Gs)
    (he : ∀ (s : Shared) (H : Hp) (C : Addr) (cl : List (Str × Addr)) (fp : List Addr), PE (X.blk s H scope (compEnvC scope cl C X.env) fp) elt te) (hs : ∀ x, foldedSetIterable c.iter X.env x = pure x) :
    PS X (.Assign [.Name y py] (.ListComp elt (c :: cs) scope pos) spos) (tAsg (tLcN wi G Gs te) (gName i)) := by
  refine ⟨fun pins s σ H D I h => ?_⟩
  rw [exec_Assign_Name_used _ _ _ _ hsw]
  obtain ⟨tg, iter, ifs, asy⟩ := c
  have a0 : asy = 0 := (h0 s H 0 [] []).sync
  subst a0
  refine wpAny_bind (wpAny_standAt (wpAny_bind ?_))
  show wpAny _ X.A (do let _ ← comprehension (.ListComp elt (⟨tg, iter, ifs, 0⟩ :: cs) scope pos) scope X.env (firstIterPos (⟨tg, iter, ifs, 0⟩ :: cs) pos) (newList []) false (eval iter X.env) (some (assign (.Name y py) X.env))) _ _ s
  have h : tLcN wi G Gs te σ H (fun x H1 => gName i x σ H1 D.nx) := h
  refine wpAny_bind (thn (coreN (Qf := fun _ s' => SP X pins D .next s') calm nd I hi ok hG nest h0 h1 he hs h fun L C s' m H' I' q hn f => ?_) fun _ s' hq => wpAny_pure (wpAny_pure hq))
  show wpAny _ _ (assign (.Name y py) X.env (.ref L)) _ _ _
  refine wpAny_assign_Name (store_ok2 (v := V.ref L) I' nd hy (.inl hyl) rfl (fun sb Ib ⟨a, sbb, ha⟩ => ?_) (.inr hyl))
  obtain ⟨f0, f1, f2, f3, f4, f5⟩ := f
  have ca : C ≠ a := by
    rcases ha with z | z
    · rw [z]; exact f1
    · exact fun e => f4 y a z e.symm
  refine ⟨m, hn.sameBut sbb ca, fun hc sb3 => ?_⟩
  exact ⟨_, H', Ib.turned (t' := sb.toks) (fun b o hb e => (sb3.2 b hb).trans e) f0 f1 f3 f4 f5, q⟩
end
end DW

set_option Elab.async false
set_option linter.all false
set_option maxRecDepth 100000
set_option maxHeartbeats 2000000
/-! data, stores, representation -/
namespace DW
open PySem PySem.Spec PyProof.Rows L2

/-- what is known of the program: the tables of the code objects that make lambdas; its functions; its classes of errors, each with the attribute it sets; its other classes -/
class Tbl where
  t : List (Addr × Str)
  fn : List (Str × Addr) := []
  cl : List (Str × Addr × Option Str) := []
  oc : List (Str × Addr) := []
/-- data: a value without addresses; ref n: the n-th object of the store; rol: a list that is only read; ktup: a tuple of the module; ty: a built-in type -/
inductive D where
  | non | bl (b : Bool) | int (i : Int) | str (x : Str) | tup (xs : List D) | rol (xs : List D) | ref (n : Nat) | ty (n : String) | ktup (xs : List D) | fnv (f : Str)
/-- an object of the store: a list; a dict with tuple keys; one with int and text keys, and the same while it is walked; an instance -/
inductive Ob where
  | lst (xs : List D)
  | dct (kvs : List (List L2.Key × D))
  | dk (kvs : List (L2.Key × D))
  | dkl (kvs : List (L2.Key × D))
  | ins (c : Str) (fs : List (Str × D))
abbrev Sto := List Ob
abbrev En := List (Option D)
abbrev KQ := D → Sto → Prop
abbrev KB := Bool → Sto → Prop
abbrev KL := List D → Sto → Prop
/-- what is wanted if an error is let out: its class, its attribute -/
abbrev KX := Str → D → Sto → Prop
abbrev FSp := List D → Sto → KQ → KX → Prop

/-- a list that nobody writes -/
def SqR (K : PySem.W.Frag) (H : Hp) (a : Addr) (xs : List V) : Prop :=
  (∃ o, H a = some (.frz o (.lst xs))) ∨ ∃ (o : Obj) (its : Array Value) (n : Nat), K.lookup a = some o ∧ o.cls = .type "list" ∧ o.dict = none ∧ o.data = .seq its n ∧ its.size ≤ sizeLine ∧ Vals xs its.toList
theorem SqR.l {K : PySem.W.Frag} {H : Hp} {a : Addr} {xs : List V} (h : SqR K H a xs) : SqL K H a xs := by
  rcases h with ⟨o, h⟩ | h
  · exact .inl (.inr ⟨o, h⟩)
  · exact .inr h

section
variable [Tb : Tbl]
mutual
inductive Rep (K : PySem.W.Frag) (φ : List Addr) (H : Hp) : V → D → Prop
  | non : Rep K φ H .non .non
  | bl (b : Bool) : Rep K φ H (.bl b) (.bl b)
  | int (i : Int) : Rep K φ H (.int i) (.int i)
  | str (x : Str) : Rep K φ H (.str x) (.str x)
  | ty (n : String) : Rep K φ H (.ty n) (.ty n)
  | tup {a : Addr} {vs : List V} {ds : List D} : H a = some (.tup vs) → RepL K φ H vs ds → Rep K φ H (.ref a) (.tup ds)
  | ktup {a : Addr} {vs : List V} {ds : List D} : SqT K H a vs → RepL K φ H vs ds → Rep K φ H (.ref a) (.ktup ds)
  | rol {a : Addr} {vs : List V} {ds : List D} : SqR K H a vs → RepL K φ H vs ds → Rep K φ H (.ref a) (.rol ds)
  | ref {a : Addr} {n : Nat} : φ[n]? = some a → Rep K φ H (.ref a) (.ref n)
  | fnv {a : Addr} {f : Str} : Tb.fn.lookup f = some a → Rep K φ H (.ref a) (.fnv f)
inductive RepL (K : PySem.W.Frag) (φ : List Addr) (H : Hp) : List V → List D → Prop
  | nil : RepL K φ H [] []
  | cons {v : V} {vs : List V} {d : D} {ds : List D} : Rep K φ H v d → RepL K φ H vs ds → RepL K φ H (v :: vs) (d :: ds)
end
end

theorem codeO_is {c : Addr} {q : Str} : ∃ φ, LamX.CodeO c q = .ext φ := ⟨_, rfl⟩
/-- a thing that is no table and no code object is written -/
theorem tabs_upd {T : List (Addr × Str)} {H : Hp} {p : Addr} {u o : HO} (h : H p = some u) (h1 : ∀ ps, u ≠ .tbl ps) (h2 : ∀ φ, u ≠ .ext φ) (t : LamX.Tabs T H) : LamX.Tabs T (upd H p o) := by
  intro x hx
  obtain ⟨ps, a, b, c⟩ := t x hx
  refine ⟨ps, by rw [upd_ne (ne_of a h fun z => h1 _ z.symm)]; exact a, b, fun pos cv hc => ?_⟩
  obtain ⟨k, e1, e2⟩ := c pos cv hc
  obtain ⟨φ, e3⟩ := codeO_is (c := k) (q := x.2)
  exact ⟨k, e1, by rw [upd_ne (ne_of e2 h fun z => h2 φ (z.symm.trans e3))]; exact e2⟩
theorem tabs_new {T : List (Addr × Str)} {H : Hp} {p : Addr} {o : HO} (h : H p = none) (t : LamX.Tabs T H) : LamX.Tabs T (upd H p o) := t.ext fun b u e => by rw [upd_ne (ne_of_none e h)]; exact e
theorem mapM_nil' {α β : Type} {f : α → Option β} : ([] : List α).mapM f = some [] := rfl
theorem mapM_cons' {α β : Type} {f : α → Option β} {x : α} {xs : List α} {zs : List β} (h : (x :: xs).mapM f = some zs) : ∃ y ys, zs = y :: ys ∧ f x = some y ∧ xs.mapM f = some ys := by
  rw [List.mapM_cons] at h
  cases e : f x with
  | none => rw [e] at h; cases h
  | some y =>
    rw [e] at h
    cases e2 : xs.mapM f with
    | none => rw [e2] at h; cases h
    | some ys => rw [e2] at h; cases h; exact ⟨y, ys, rfl, rfl, rfl⟩
variable [Tb : Tbl]
/-- what never changes has stayed -/
structure TupLe0 (H H' : Hp) : Prop where
  t : ∀ a xs, H a = some (.tup xs) → H' a = some (.tup xs)
  fl : ∀ a o xs, H a = some (.frz o (.lst xs)) → H' a = some (.frz o (.lst xs))
  ft : ∀ a o xs, H a = some (.frz o (.tup xs)) → H' a = some (.frz o (.tup xs))
  b : LamX.Tabs Tb.t H → LamX.Tabs Tb.t H'
/-- .. and the dicts that are walked -/
structure TupLe (H H' : Hp) : Prop extends TupLe0 H H' where
  fd : ∀ a o (xs : List (Key × V)), H a = some (.frz o (.dK xs)) → H' a = some (.frz o (.dK xs))
theorem TupLe.refl (H : Hp) : TupLe H H := ⟨⟨fun _ _ h => h, fun _ _ _ h => h, fun _ _ _ h => h, fun h => h⟩, fun _ _ _ h => h⟩
theorem TupLe.trans {H H1 H2 : Hp} (a : TupLe H H1) (b : TupLe H1 H2) : TupLe H H2 := ⟨⟨fun x xs h => b.t x xs (a.t x xs h), fun x o u h => b.fl x o u (a.fl x o u h), fun x o u h => b.ft x o u (a.ft x o u h), fun h => b.b (a.b h)⟩, fun x o u h => b.fd x o u (a.fd x o u h)⟩
theorem TupLe.new {H : Hp} {p : Addr} {o : HO} (h : H p = none) : TupLe H (upd H p o) :=
  ⟨⟨fun a xs e => by rw [upd_ne (ne_of_none e h)]; exact e, fun a ob u e => by rw [upd_ne (ne_of_none e h)]; exact e, fun a ob u e => by rw [upd_ne (ne_of_none e h)]; exact e, tabs_new h⟩, fun a ob u e => by rw [upd_ne (ne_of_none e h)]; exact e⟩
theorem TupLe.ext {H H' : Hp} (h : ∀ b o, H b = some o → H' b = some o) : TupLe H H' := ⟨⟨fun a xs e => h _ _ e, fun a ob u e => h _ _ e, fun a ob u e => h _ _ e, fun t => t.ext h⟩, fun a ob u e => h _ _ e⟩
/-- a thing that is neither a tuple nor a list that is only read is written -/
def Mutb0 : HO → Prop
  | .lst _ => True
  | .dT _ => True
  | .dK _ => True
  | .ins .. => True
  | .xd _ => True
  | .frz _ (.dK _) => True
  | .frz _ (.dT _) => True
  | _ => False
def Mutb : HO → Prop
  | .lst _ => True
  | .dT _ => True
  | .dK _ => True
  | .ins .. => True
  | .xd _ => True
  | _ => False
theorem Mutb.m0 {u : HO} (m : Mutb u) : Mutb0 u := by
  unfold Mutb at m
  unfold Mutb0
  split at m <;> first | trivial | exact m.elim
theorem TupLe0.mutO {H : Hp} {p : Addr} {u o : HO} (h : H p = some u) (m : Mutb0 u) : TupLe0 H (upd H p o) :=
  ⟨fun a ys e => by rw [upd_ne (ne_of e h (by rintro rfl; exact m))]; exact e, fun a ob ys e => by rw [upd_ne (ne_of e h (by rintro rfl; exact m))]; exact e, fun a ob ys e => by rw [upd_ne (ne_of e h (by rintro rfl; exact m))]; exact e,
    tabs_upd h (fun ps z => by subst z; exact m) (fun φ z => by subst z; exact m)⟩
theorem TupLe.mutO {H : Hp} {p : Addr} {u o : HO} (h : H p = some u) (m : Mutb u) : TupLe H (upd H p o) :=
  ⟨TupLe0.mutO h m.m0, fun a ob ys e => by rw [upd_ne (ne_of e h (by rintro rfl; exact m))]; exact e⟩
theorem TupLe.mut {H : Hp} {p : Addr} {xs : List V} {o : HO} (h : H p = some (.lst xs)) : TupLe H (upd H p o) := TupLe.mutO h trivial
theorem TupLe.mutT {H : Hp} {p : Addr} {xs : List (List L2.Key × V)} {o : HO} (h : H p = some (.dT xs)) : TupLe H (upd H p o) := TupLe.mutO h trivial
theorem TupLe.mutK {H : Hp} {p : Addr} {xs : List (L2.Key × V)} {o : HO} (h : H p = some (.dK xs)) : TupLe H (upd H p o) := TupLe.mutO h trivial
/-- behind a walk over a dict -/
theorem TupLe.unlock {H H' : Hp} {p : Addr} {xs : List (L2.Key × V)} {od : Obj} (h : H p = some (.dK xs)) (l : TupLe (upd H p (.frz od (.dK xs))) H') : TupLe H (upd H' p (.dK xs)) := by
  have e := l.fd p od xs upd_same
  have t0 : TupLe0 H' (upd H' p (.dK xs)) := TupLe0.mutO e trivial
  have t1 : TupLe H (upd H p (.frz od (.dK xs))) := TupLe.mutK h
  have t2 := t1.trans l
  refine ⟨⟨fun a ys q => t0.t _ _ (t2.t _ _ q), fun a o ys q => t0.fl _ _ _ (t2.fl _ _ _ q), fun a o ys q => t0.ft _ _ _ (t2.ft _ _ _ q), fun q => t0.b (t2.b q)⟩, fun a o ys q => ?_⟩
  have ne : a ≠ p := fun z => by rw [z, h] at q; cases q
  rw [upd_ne ne]
  exact t2.fd _ _ _ q
theorem TupLe0.sqT {K : PySem.W.Frag} {H H' : Hp} {a : Addr} {xs : List V} (l : TupLe0 H H') (h : SqT K H a xs) : SqT K H' a xs := by
  rcases h with (h | ⟨o, h⟩) | h
  · exact .inl (.inl (l.t _ _ h))
  · exact .inl (.inr ⟨o, l.ft _ _ _ h⟩)
  · exact .inr h
theorem TupLe0.sqR {K : PySem.W.Frag} {H H' : Hp} {a : Addr} {xs : List V} (l : TupLe0 H H') (h : SqR K H a xs) : SqR K H' a xs := by
  rcases h with ⟨o, h⟩ | h
  · exact .inl ⟨o, l.fl _ _ _ h⟩
  · exact .inr h
theorem TupLe.sqT {K : PySem.W.Frag} {H H' : Hp} {a : Addr} {xs : List V} (l : TupLe H H') (h : SqT K H a xs) : SqT K H' a xs := l.toTupLe0.sqT h
theorem TupLe.sqR {K : PySem.W.Frag} {H H' : Hp} {a : Addr} {xs : List V} (l : TupLe H H') (h : SqR K H a xs) : SqR K H' a xs := l.toTupLe0.sqR h

/-- φ grows at its end -/
def Le (φ φ' : List Addr) : Prop := ∀ (n : Nat) (a : Addr), φ[n]? = some a → φ'[n]? = some a
theorem Le.refl (φ : List Addr) : Le φ φ := fun _ _ h => h
theorem Le.trans {φ φ1 φ2 : List Addr} (a : Le φ φ1) (b : Le φ1 φ2) : Le φ φ2 := fun n x h => b n x (a n x h)
theorem Le.app (φ : List Addr) (xs : List Addr) : Le φ (φ ++ xs) := fun n a h => by
  have hl := (List.getElem?_eq_some_iff.mp h).1
  rw [List.getElem?_append_left hl]; exact h


section
variable {K : PySem.W.Frag} {φ φ' : List Addr} {H H' : Hp}
mutual
theorem Rep.mono0 (l : Le φ φ') (t : TupLe0 H H') : ∀ {v : V} {d : D}, Rep K φ H v d → Rep K φ' H' v d
  | _, _, .non => .non
  | _, _, .bl b => .bl b
  | _, _, .int i => .int i
  | _, _, .str x => .str x
  | _, _, .ty n => .ty n
  | _, _, .tup h r => .tup (t.t _ _ h) (RepL.mono0 l t r)
  | _, _, .ktup h r => .ktup (t.sqT h) (RepL.mono0 l t r)
  | _, _, .rol h r => .rol (t.sqR h) (RepL.mono0 l t r)
  | _, _, .ref h => .ref (l _ _ h)
  | _, _, .fnv h => .fnv h
theorem RepL.mono0 (l : Le φ φ') (t : TupLe0 H H') : ∀ {vs : List V} {ds : List D}, RepL K φ H vs ds → RepL K φ' H' vs ds
  | _, _, .nil => .nil
  | _, _, .cons r rs => .cons (Rep.mono0 l t r) (RepL.mono0 l t rs)
end
theorem Rep.mono (l : Le φ φ') (t : TupLe H H') {v : V} {d : D} (r : Rep K φ H v d) : Rep K φ' H' v d := r.mono0 l t.toTupLe0
theorem RepL.mono (l : Le φ φ') (t : TupLe H H') {vs : List V} {ds : List D} (r : RepL K φ H vs ds) : RepL K φ' H' vs ds := r.mono0 l t.toTupLe0
theorem RepL.length : ∀ {vs : List V} {ds : List D}, RepL K φ H vs ds → vs.length = ds.length
  | _, _, .nil => rfl
  | _, _, .cons _ r => by rw [List.length_cons, List.length_cons, RepL.length r]
theorem RepL.app : ∀ {vs ws : List V} {ds es : List D}, RepL K φ H vs ds → RepL K φ H ws es → RepL K φ H (vs ++ ws) (ds ++ es)
  | _, _, _, _, .nil, s => s
  | _, _, _, _, .cons r t, s => .cons r (RepL.app t s)
theorem RepL.get : ∀ {vs : List V} {ds : List D} {i : Nat} {d : D}, RepL K φ H vs ds → ds[i]? = some d → ∃ v, vs[i]? = some v ∧ Rep K φ H v d
  | _, _, 0, _, .cons r _, e => by simp at e; subst e; exact ⟨_, rfl, r⟩
  | _, _, i + 1, _, .cons _ t, e => by
    obtain ⟨v, h1, h2⟩ := RepL.get (i := i) t (by simpa using e)
    exact ⟨v, by simpa using h1, h2⟩
  | _, _, _, _, .nil, e => by simp at e
theorem RepL.getV : ∀ {vs : List V} {ds : List D} {i : Nat} {v : V}, RepL K φ H vs ds → vs[i]? = some v → ∃ d, ds[i]? = some d ∧ Rep K φ H v d
  | _, _, 0, _, .cons r _, e => by simp at e; subst e; exact ⟨_, rfl, r⟩
  | _, _, i + 1, _, .cons _ t, e => by
    obtain ⟨v, h1, h2⟩ := RepL.getV (i := i) t (by simpa using e)
    exact ⟨v, by simpa using h1, h2⟩
  | _, _, _, _, .nil, e => by simp at e
theorem RepL.set : ∀ {vs : List V} {ds : List D} (i : Nat) {v : V} {d : D}, Rep K φ H v d → RepL K φ H vs ds → RepL K φ H (vs.set i v) (ds.set i d)
  | _, _, _, _, _, _, .nil => .nil
  | _, _, 0, _, _, r, .cons _ t => .cons r t
  | _, _, i + 1, _, _, r, .cons q t => .cons q (RepL.set i r t)
theorem RepL.take : ∀ {vs : List V} {ds : List D} (n : Nat), RepL K φ H vs ds → RepL K φ H (vs.take n) (ds.take n)
  | _, _, 0, _ => .nil
  | _, _, _ + 1, .nil => .nil
  | _, _, n + 1, .cons r t => .cons r (RepL.take n t)
theorem RepL.drop : ∀ {vs : List V} {ds : List D} (n : Nat), RepL K φ H vs ds → RepL K φ H (vs.drop n) (ds.drop n)
  | _, _, 0, r => r
  | _, _, _ + 1, .nil => .nil
  | _, _, n + 1, .cons _ t => RepL.drop n t
theorem RepL.rep {vs : List V} {ds : List D} (r : RepL K φ H vs ds) : ∀ k : Nat, RepL K φ H (List.replicate k vs).flatten (List.replicate k ds).flatten
  | 0 => .nil
  | k + 1 => by
    rw [List.replicate_succ, List.replicate_succ, List.flatten_cons, List.flatten_cons]
    exact r.app (RepL.rep r k)

/-- an object of the store, as it is tracked -/
def ObRel (K : PySem.W.Frag) (φ : List Addr) (H : Hp) : Ob → Option HO → Prop
  | .lst ds, o => ∃ vs, o = some (.lst vs) ∧ RepL K φ H vs ds
  | .dct kvs, o => ∃ vs, o = some (.dT vs) ∧ vs.map (·.1) = kvs.map (·.1) ∧ RepL K φ H (vs.map (·.2)) (kvs.map (·.2))
  | .dk kvs, o => ∃ vs, o = some (.dK vs) ∧ vs.map (·.1) = kvs.map (·.1) ∧ RepL K φ H (vs.map (·.2)) (kvs.map (·.2))
  | .dkl kvs, o => ∃ od vs, o = some (.frz od (.dK vs)) ∧ vs.map (·.1) = kvs.map (·.1) ∧ RepL K φ H (vs.map (·.2)) (kvs.map (·.2))
  | .ins c fs, o => ∃ C dx vs, Tb.oc.lookup c = some C ∧ o = some (.ins C dx vs) ∧ vs.map (·.1) = fs.map (·.1) ∧ RepL K φ H (vs.map (·.2)) (fs.map (·.2))
structure SRel (K : PySem.W.Frag) (φ : List Addr) (S : Sto) (H : Hp) : Prop where
  len : φ.length = S.length
  nd : φ.Nodup
  ob : ∀ (n : Nat) (a : Addr) (o : Ob), φ[n]? = some a → S[n]? = some o → ObRel K φ H o (H a)
  tb : LamX.Tabs Tb.t H
theorem ObRel.there {o : Ob} {h : Option HO} (r : ObRel K φ H o h) : ∃ u, h = some u := by
  cases o with
  | lst ds => obtain ⟨vs, e, _⟩ := r; exact ⟨_, e⟩
  | dct ds => obtain ⟨vs, e, _⟩ := r; exact ⟨_, e⟩
  | dk ds => obtain ⟨vs, e, _⟩ := r; exact ⟨_, e⟩
  | dkl ds => obtain ⟨od, vs, e, _⟩ := r; exact ⟨_, e⟩
  | ins c ds => obtain ⟨C, dx, vs, _, e, _⟩ := r; exact ⟨_, e⟩
theorem ObRel.mono0 {o : Ob} {h : Option HO} (l : Le φ φ') (t : TupLe0 H H') (r : ObRel K φ H o h) : ObRel K φ' H' o h := by
  cases o with
  | lst ds => obtain ⟨vs, e, q⟩ := r; exact ⟨vs, e, q.mono0 l t⟩
  | dct ds => obtain ⟨vs, e, k, q⟩ := r; exact ⟨vs, e, k, q.mono0 l t⟩
  | dk ds => obtain ⟨vs, e, k, q⟩ := r; exact ⟨vs, e, k, q.mono0 l t⟩
  | dkl ds => obtain ⟨od, vs, e, k, q⟩ := r; exact ⟨od, vs, e, k, q.mono0 l t⟩
  | ins c ds => obtain ⟨C, dx, vs, c, e, k, q⟩ := r; exact ⟨C, dx, vs, c, e, k, q.mono0 l t⟩
theorem ObRel.mono {o : Ob} {h : Option HO} (l : Le φ φ') (t : TupLe H H') (r : ObRel K φ H o h) : ObRel K φ' H' o h := r.mono0 l t.toTupLe0
variable {S : Sto}
theorem SRel.at_ (s : SRel K φ S H) {n : Nat} {ds : List D} (h : S[n]? = some (.lst ds)) : ∃ a vs, φ[n]? = some a ∧ H a = some (.lst vs) ∧ RepL K φ H vs ds := by
  have hl := (List.getElem?_eq_some_iff.mp h).1
  have e : φ[n]? = some (φ[n]'(by rw [s.len]; exact hl)) := List.getElem?_eq_getElem _
  obtain ⟨vs, e1, r⟩ := s.ob n _ _ e h
  exact ⟨_, vs, e, e1, r⟩
theorem SRel.has (s : SRel K φ S H) {n : Nat} {a : Addr} (h : φ[n]? = some a) : ∃ u, H a = some u := by
  have hl := (List.getElem?_eq_some_iff.mp h).1
  have e : S[n]? = some (S[n]'(by rw [← s.len]; exact hl)) := List.getElem?_eq_getElem _
  exact (s.ob n a _ h e).there
theorem SRel.notin (s : SRel K φ S H) {p : Addr} (h : H p = none) : p ∉ φ := fun hp => by
  obtain ⟨n, hn⟩ := List.getElem?_of_mem hp
  obtain ⟨u, e⟩ := s.has hn
  rw [h] at e; cases e
/-- a new object that we don't track -/
theorem SRel.new (s : SRel K φ S H) {p : Addr} {o : HO} (h : H p = none) : SRel K φ S (upd H p o) :=
  ⟨s.len, s.nd, fun n a ob e1 e2 => by
    have ne : a ≠ p := fun z => s.notin h (by rw [← z]; exact List.mem_of_getElem? e1)
    rw [upd_ne ne]
    exact (s.ob n a ob e1 e2).mono (Le.refl φ) (TupLe.new h), tabs_new h s.tb⟩
/-- more objects that we don't track -/
theorem SRel.ext (s : SRel K φ S H) (h : ∀ b o, H b = some o → H' b = some o) : SRel K φ S H' :=
  ⟨s.len, s.nd, fun n a ob e1 e2 => by
    have q := s.ob n a ob e1 e2
    obtain ⟨u, e⟩ := q.there
    rw [h _ _ e, ← e]
    exact q.mono (Le.refl φ) (TupLe.ext h), s.tb.ext h⟩
/-- a new object -/
theorem SRel.allocO (s : SRel K φ S H) {p : Addr} {o : Ob} {u : HO} (h : H p = none) (r : ObRel K φ H o (some u)) : SRel K (φ ++ [p]) (S ++ [o]) (upd H p u) := by
  have hp := s.notin h
  refine ⟨by simp [s.len], ?_, fun n a ob e1 e2 => ?_, tabs_new h s.tb⟩
  · rw [List.nodup_append]
    refine ⟨s.nd, by simp, fun x hx y hy => ?_⟩
    have : y = p := by simpa using hy
    rw [this]; exact fun z => hp (z ▸ hx)
  · by_cases hn : n < φ.length
    · rw [List.getElem?_append_left hn] at e1
      rw [List.getElem?_append_left (by rw [← s.len]; exact hn)] at e2
      have ne : a ≠ p := fun z => hp (by rw [← z]; exact List.mem_of_getElem? e1)
      rw [upd_ne ne]
      exact (s.ob n a ob e1 e2).mono (Le.app φ [p]) (TupLe.new h)
    · rw [List.getElem?_append_right (by omega)] at e1
      rw [List.getElem?_append_right (by rw [← s.len]; omega)] at e2
      have hn2 : n - φ.length = 0 := by
        have := (List.getElem?_eq_some_iff.mp e1).1
        simp at this; omega
      rw [hn2] at e1
      rw [← s.len, hn2] at e2
      simp at e1 e2
      subst e1 e2
      rw [upd_same]
      exact r.mono (Le.app φ [p]) (TupLe.new h)
/-- a new list -/
theorem SRel.alloc (s : SRel K φ S H) {p : Addr} {vs : List V} {ds : List D} (h : H p = none) (r : RepL K φ H vs ds) : SRel K (φ ++ [p]) (S ++ [.lst ds]) (upd H p (.lst vs)) := s.allocO (o := .lst ds) h ⟨vs, rfl, r⟩
theorem SRel.idx (s : SRel K φ S H) {p : Addr} : (φ ++ [p])[S.length]? = some p := by
  rw [← s.len]; simp
/-- an object is written -/
theorem SRel.putO0 (s : SRel K φ S H) {n : Nat} {a : Addr} {o : Ob} {u : HO} (h : φ[n]? = some a) (tl : TupLe0 H (upd H a u)) (r : ObRel K φ H o (some u)) : SRel K φ (S.set n o) (upd H a u) := by
  refine ⟨by simp [s.len], s.nd, fun m b ob e1 e2 => ?_, tl.b s.tb⟩
  by_cases hm : m = n
  · subst hm
    rw [h] at e1; cases e1
    have hl : m < S.length := by rw [← s.len]; exact (List.getElem?_eq_some_iff.mp h).1
    rw [List.getElem?_set_self hl] at e2
    cases e2
    rw [upd_same]
    exact r.mono0 (Le.refl φ) tl
  · rw [List.getElem?_set_ne (Ne.symm hm)] at e2
    have ne : b ≠ a := fun z => by
      subst z
      obtain ⟨h1', e1'⟩ := List.getElem?_eq_some_iff.mp e1
      obtain ⟨h2', e2'⟩ := List.getElem?_eq_some_iff.mp h
      exact hm ((List.getElem_inj s.nd).mp (e1'.trans e2'.symm))
    rw [upd_ne ne]
    exact (s.ob m b ob e1 e2).mono0 (Le.refl φ) tl
theorem SRel.putO (s : SRel K φ S H) {n : Nat} {a : Addr} {o : Ob} {u : HO} (h : φ[n]? = some a) (tl : TupLe H (upd H a u)) (r : ObRel K φ H o (some u)) : SRel K φ (S.set n o) (upd H a u) := s.putO0 h tl.toTupLe0 r
/-- a list is written -/
theorem SRel.put (s : SRel K φ S H) {n : Nat} {a : Addr} {vs us : List V} {ds : List D} (h : φ[n]? = some a) (h1 : H a = some (.lst us)) (r : RepL K φ H vs ds) : SRel K φ (S.set n (.lst ds)) (upd H a (.lst vs)) := s.putO (o := .lst ds) h (TupLe.mut h1) ⟨vs, rfl, r⟩
end

/-- an error in the air: its class, its own dict -/
def ExcR [Tb : Tbl] (K : PySem.W.Frag) (φ : List Addr) (H : Hp) (c : Str) (d : D) (cls : Value) (dx : Option Addr) : Prop :=
  ∃ C at', Tb.cl.lookup c = some (C, at') ∧ cls = .ref C ∧ match at' with
    | none => dx = none ∧ d = .non
    | some f => ∃ dd v, dx = some dd ∧ H dd = some (.xd [(f, v)]) ∧ Rep K φ H v d

/-! ### deep reading -/
def toPy : Nat → Sto → D → Option PyData
  | 0, _, _ => none
  | k + 1, S, d => match d with
    | .non => some .none
    | .bl b => some (.bool b)
    | .int i => some (.int i)
    | .str x => some (.str x)
    | .tup ds => (ds.mapM (toPy k S)).map .tuple
    | .ktup ds => (ds.mapM (toPy k S)).map .tuple
    | .rol ds => (ds.mapM (toPy k S)).map .list
    | .ref n => match S[n]? with
      | some (.lst ds) => (ds.mapM (toPy k S)).map .list
      | _ => none
    | .ty _ => none
    | .fnv _ => none
section
variable {K : PySem.W.Frag} {φ : List Addr} {H : Hp} {S : Sto}
theorem dpAll_of {k : Nat} (ih : ∀ (v : V) (d : D) (p : PyData), Rep K φ H v d → toPy k S d = some p → Dp K H v p) : ∀ {vs : List V} {ds : List D} {ps : List PyData}, RepL K φ H vs ds → ds.mapM (toPy k S) = some ps → DpAll K H vs ps
  | _, _, _, .nil, h => by cases h; exact .nil
  | _, _, _, .cons r t, h => by
    obtain ⟨y, ys, rfl, h1, h2⟩ := mapM_cons' h
    exact .cons (ih _ _ _ r h1) (dpAll_of ih t h2)
theorem dp_of (s : SRel K φ S H) : ∀ (k : Nat) (v : V) (d : D) (p : PyData), Rep K φ H v d → toPy k S d = some p → Dp K H v p
  | 0, _, _, _, _, h => by cases h
  | k + 1, v, d, p, r, h => by
    cases r with
    | non => cases h; exact .non
    | bl b => cases h; exact .bl b
    | int i => cases h; exact .int i
    | str x => cases h; exact .str x
    | ty n => cases h
    | @tup a vs ds hs rl =>
      simp only [toPy] at h
      cases e : ds.mapM (toPy k S) with
      | none => rw [e] at h; cases h
      | some ps => rw [e] at h; cases h; exact (.tup (SqT.of hs) (dpAll_of (dp_of s k) rl e))
    | @ktup a vs ds hs rl =>
      simp only [toPy] at h
      cases e : ds.mapM (toPy k S) with
      | none => rw [e] at h; cases h
      | some ps => rw [e] at h; cases h; exact .tup hs (dpAll_of (dp_of s k) rl e)
    | @rol a vs ds hs rl =>
      simp only [toPy] at h
      cases e : ds.mapM (toPy k S) with
      | none => rw [e] at h; cases h
      | some ps => rw [e] at h; cases h; exact .lst hs.l (dpAll_of (dp_of s k) rl e)
    | @ref a n hn =>
      simp only [toPy] at h
      cases e0 : S[n]? with
      | none => rw [e0] at h; cases h
      | some o =>
        cases o with
        | lst ds =>
          rw [e0] at h
          simp only at h
          obtain ⟨vs, e1, rl⟩ := s.ob n a _ hn e0
          cases e : ds.mapM (toPy k S) with
          | none => rw [e] at h; cases h
          | some ps => rw [e] at h; cases h; exact .lst (SqL.of e1) (dpAll_of (dp_of s k) rl e)
        | _ => rw [e0] at h; cases h
    | fnv h1 => cases h
end
end DW

set_option Elab.async false
set_option linter.all false
set_option maxRecDepth 100000
set_option maxHeartbeats 2000000
/-! a small language, what it means, and how the program's text becomes it -/
namespace DW
open PySem PySem.Spec PyProof.Rows L2

inductive Bn where
  | len | isinst | all | any | abs | int | min2 | max2 | list | tuple | sum | sorted | str
  deriving DecidableEq

mutual
inductive IE where
  | var (i : Nat)
  | cst (d : D)
  | tup (as : IA)
  | lst (as : IA)
  | bin (op : Operator) (a b : IE)
  | not (a : IE)
  | neg (a : IE)
  | and (a b : IE)
  | or (a b : IE)
  | cmp (op : CmpOp) (a b : IE)
  | chn (op op' : CmpOp) (a b c : IE)
  | ite (t : IT) (a b : IE)
  | fn (f : Str) (as : IA)
  | blt (f : Bn) (as : IA)
  | idx (a i : IE)
  | slc (a : IE) (lo hi : IO)
  | app (o a : IE)
  | extd (o a : IE)
  | lcp (own : List Nat) (g : IG) (it : II) (t : ITs) (elt : IE)
  | ddsp (ks : List Str) (vs : IA)
  | dget (d k x : IE)
  | jn (a b : IE)
  | spl (a b : IE)
  | ixof (o a : IE)
  | dcp (own : List Nat) (g : IG) (it : II) (t : ITs) (k v : IE)
  | thk
  | dnew
  | dknew
  | csub (kds : List (Str × D)) (x : IE)
  | lrng (a : IE)
  | lcn (own : List Nat) (g : IG) (it : II) (t : ITs) (c : IC)
inductive IC where
  | elt (e : IE)
  | gen (vs : List Nat) (g : IG) (it : II) (t : ITs) (c : IC)
inductive IA where
  | nil
  | cons (e : IE) (as : IA)
  | star (e : IE) (as : IA)
inductive IO where
  | no
  | yes (e : IE)
inductive IT where
  | val (e : IE)
  | cmp (op : CmpOp) (a b : IE)
  | chn (op op' : CmpOp) (a b c : IE)
  | and (a b : IT)
  | or (a b : IT)
  | not (a : IT)
inductive ITs where
  | none
  | one (t : IT)
inductive IG where
  | name (i : Nat)
  | tup (gs : IGs)
  | sub (o i : IE)
inductive IGs where
  | nil
  | cons (g : IG) (gs : IGs)
inductive II where
  | val (e : IE)
  | rng1 (a : IE)
  | rng2 (a b : IE)
  | enum (a : IE)
  | enum1 (a : IE)
  | zip (a b : IE)
end

mutual
inductive IS where
  | ret (e : IE)
  | retN
  | expr (e : IE)
  | asg (g : IG) (e : IE)
  | par (i j : Nat) (a b : IE)
  | ifs (t : IT) (a b : IB)
  | fr (g : IG) (it : II) (body : IB)
  | wh (t : IT) (body : IB)
  | pass
  | brk
  | cont
  | frk (g : IG) (v : Nat) (body : IB)
  | rai (c : Str)
  | raiA (c : Str) (e : IE)
  | tryx (b : IB) (hs : IHs)
inductive IB where
  | nil
  | cons (s : IS) (b : IB)
/-- except clauses: a suite; x = e.f; return e.f; return e.f == k; x = "pre" + str(e.f) (i: the place of e) -/
inductive IHs where
  | nil
  | suite (c : Str) (b : IB) (r : IHs)
  | asgA (c : Str) (i j : Nat) (r : IHs)
  | retA (c : Str) (i : Nat) (r : IHs)
  | retEq (c : Str) (i : Nat) (k : Int) (r : IHs)
  | asgS (c : Str) (i j : Nat) (pre : Str) (r : IHs)
end

mutual
def gSlots : IG → List Nat
  | .name i => [i]
  | .tup gs => gsSlots gs
  | .sub _ _ => []
def gsSlots : IGs → List Nat
  | .nil => []
  | .cons g gs => gSlots g ++ gsSlots gs
end

def gsLen : IGs → Nat
  | .nil => 0
  | .cons _ gs => gsLen gs + 1

/-! ### operations on data -/
def LIM : Nat := 100000
theorem LIM_le : LIM ≤ sizeLine := by rw [sizeLine_eq]; decide
theorem lim_le {n : Nat} (h : n ≤ LIM) : n ≤ sizeLine := Nat.le_trans h LIM_le
theorem lim_lt {n : Nat} (h : n < LIM) : n < sizeLine := Nat.lt_of_lt_of_le h LIM_le

def isRef : D → Bool
  | .ref _ => true
  | _ => false
def isNon : D → Bool
  | .non => true
  | _ => false

/-- a key of a dict whose keys are tuples -/
def key1 : D → Option L2.Key
  | .int i => some (.inl i)
  | .str x => some (.inr x)
  | _ => none
def keyL : List D → Option (List L2.Key)
  | [] => some []
  | d :: r => match key1 d, keyL r with
    | some k, some ks => some (k :: ks)
    | _, _ => none
def keyOf : D → Option (List L2.Key)
  | .tup ds => keyL ds
  | _ => none
def valD {α : Type} [DecidableEq α] (kvs : List (α × D)) (k : α) : Option D := (kvs.find? fun kv => decide (kv.1 = k)).map (·.2)
/-- a dict with int and text keys -/
def dkOf : Option Ob → Option (List (L2.Key × D))
  | some (.dk kvs) => some kvs
  | some (.dkl kvs) => some kvs
  | _ => none
def putD {α : Type} [DecidableEq α] (kvs : List (α × D)) (k : α) (d : D) : List (α × D) :=
  if (kvs.any fun kv => decide (kv.1 = k)) = true then kvs.map (fun kv => if kv.1 = k then (kv.1, d) else kv) else kvs ++ [(k, d)]
/-- one factor below 2^64, or both together below a million bits -/
def CMulD (i j : Int) : Prop := (-(2 ^ 64) < i ∧ i < 2 ^ 64) ∨ ((-(2 ^ 64) < j ∧ j < 2 ^ 64) ∨ CMulW i j)
def dOp (op : Operator) (x y : D) (S : Sto) (Q : KQ) : Prop :=
  match op, x, y with
  | .Add, .int i, .int j => Q (.int (i + j)) S
  | .Sub, .int i, .int j => Q (.int (i - j)) S
  | .Mult, .int i, .int j => CMulD i j ∧ Q (.int (i * j)) S
  | .FloorDiv, .int i, .int j => CDiv i j ∧ Q (.int (i / j)) S
  | .Mod, .int i, .int j => 0 < j ∧ Q (.int (i % j)) S
  | .Pow, .int i, .int j => CPow i j ∧ Q (.int (i ^ j.toNat)) S
  | .Add, .str i, .str j => i.length + j.length ≤ LIM ∧ Q (.str (i ++ j)) S
  | .Add, .tup xs, .tup ys => xs.length + ys.length ≤ LIM ∧ Q (.tup (xs ++ ys)) S
  | .Add, .ref m, .ref n => match S[m]?, S[n]? with
    | some (.lst xs), some (.lst ys) => xs.length + ys.length ≤ LIM ∧ Q (.ref S.length) (S ++ [.lst (xs ++ ys)])
    | _, _ => False
  | .Mult, .ref m, .int k => match S[m]? with
    | some (.lst xs) => (-(2 ^ 63) ≤ k ∧ k < 2 ^ 63 ∧ xs.length * k.toNat ≤ LIM) ∧ Q (.ref S.length) (S ++ [.lst (List.replicate k.toNat xs).flatten])
    | _ => False
  | .LShift, .int i, .int j => CPow i j ∧ Q (.int (i * 2 ^ j.toNat)) S
  | .RShift, .int i, .int j => 0 ≤ j ∧ Q (.int (i / 2 ^ j.toNat)) S
  | .BitAnd, .int i, .int j => Q (.int (Builtin.bitAnd i j)) S
  | .BitOr, .int i, .int j => Q (.int (Builtin.bitOr i j)) S
  | .BitXor, .int i, .int j => Q (.int (Builtin.bitXor i j)) S
  | .Mult, .tup xs, .int k => (xs ≠ [] ∧ 2 ≤ k ∧ k ≤ 1000 ∧ xs.length ≤ 1000) ∧ Q (.tup (List.replicate k.toNat xs).flatten) S
  | _, _, _ => False

/-- two data as Python compares them -/
def dEq (x y : D) (S : Sto) (Q : KB) : Prop :=
  ∃ p q, toPy 66 S x = some p ∧ toPy 66 S y = some q ∧ SeqAt.shaped p = true ∧ SeqAt.shaped q = true ∧ Q (PyData.eqv p q) S
def dIn (x y : D) (S : Sto) (Q : KB) : Prop :=
  ∃ p q, toPy 66 S x = some p ∧ toPy 66 S y = some q ∧ SeqAt.shaped p = true ∧ SeqAt.shaped q = true ∧
    ((∃ qs, q = .tuple qs ∧ Q (qs.any fun z => PyData.eqv z p) S) ∨ (∃ qs, q = .list qs ∧ Q (qs.any fun z => PyData.eqv z p) S))
/-- .. of a dict, too -/
def dInA (x y : D) (S : Sto) (Q : KB) : Prop :=
  match y with
  | .ref n => match S[n]? with
    | some (.dct kvs) => ∃ k, keyOf x = some k ∧ Q (valD kvs k).isSome S
    | some (.dk kvs) => ∃ k, key1 x = some k ∧ Q (valD kvs k).isSome S
    | some (.dkl kvs) => ∃ k, key1 x = some k ∧ Q (valD kvs k).isSome S
    | _ => dIn x (.ref n) S Q
  | y => dIn x y S Q
def dCmp (op : CmpOp) (x y : D) (S : Sto) (Q : KB) : Prop :=
  match op with
  | .Eq => dEq x y S Q
  | .NotEq => dEq x y S fun b S' => Q (!b) S'
  | .In => dInA x y S Q
  | .NotIn => dInA x y S fun b S' => Q (!b) S'
  | .Lt => match x, y with | .int i, .int j => Q (decide (i < j)) S | _, _ => False
  | .LtE => match x, y with | .int i, .int j => Q (decide (i ≤ j)) S | _, _ => False
  | .Gt => match x, y with | .int i, .int j => Q (decide (j < i)) S | _, _ => False
  | .GtE => match x, y with | .int i, .int j => Q (decide (j ≤ i)) S | _, _ => False
  | .Is => match x, y with | x, .non => Q (isNon x) S | .bl a, .bl b => Q (decide (a = b)) S | _, _ => False
  | .IsNot => match x, y with | x, .non => Q (!isNon x) S | .bl a, .bl b => Q (!decide (a = b)) S | _, _ => False
def dTru (x : D) (S : Sto) (Q : KB) : Prop :=
  match x with
  | .non => Q false S
  | .bl b => Q b S
  | .int i => Q (i != 0) S
  | .str y => y.length ≤ LIM ∧ Q ((y.length : Int) != 0) S
  | .tup xs => Q (!xs.isEmpty) S
  | .ktup xs => Q (!xs.isEmpty) S
  | .rol xs => Q (!xs.isEmpty) S
  | .ref n => match S[n]? with
    | some (.lst xs) => Q (!xs.isEmpty) S
    | _ => False
  | .ty _ => False
  | .fnv _ => False
def dIdx (x i : D) (S : Sto) (Q : KQ) : Prop :=
  match x, i with
  | .tup xs, .int k => ∃ v, atI xs k = some v ∧ Q v S
  | .ktup xs, .int k => ∃ v, atI xs k = some v ∧ Q v S
  | .rol xs, .int k => ∃ v, atI xs k = some v ∧ Q v S
  | .ref n, .int k => match S[n]? with
    | some (.lst xs) => ∃ v, atI xs k = some v ∧ Q v S
    | o => ∃ kvs v, dkOf o = some kvs ∧ valD kvs (.inl k) = some v ∧ Q v S
  | .ref n, .str x => ∃ kvs v, dkOf S[n]? = some kvs ∧ valD kvs (.inr x) = some v ∧ Q v S
  | .ref n, .tup ks => match S[n]? with
    | some (.dct kvs) => ∃ k v, keyL ks = some k ∧ valD kvs k = some v ∧ Q v S
    | _ => False
  | _, _ => False
def cutD (xs : List D) (lo hi : Option Int) : List D := (xs.drop (HT.sIx xs.length 0 lo)).take (HT.sIx xs.length xs.length hi - HT.sIx xs.length 0 lo)
def dSlc (x : D) (lo hi : Option Int) (S : Sto) (Q : KQ) : Prop :=
  match x with
  | .tup xs => Q (.tup (cutD xs lo hi)) S
  | .rol xs => Q (.ref S.length) (S ++ [.lst (cutD xs lo hi)])
  | .ref n => match S[n]? with
    | some (.lst xs) => Q (.ref S.length) (S ++ [.lst (cutD xs lo hi)])
    | _ => False
  | .str z => z.length ≤ LIM ∧ Q (.str (cutS z lo hi)) S
  | _ => False
/-- the name of a value's type -/
def tyOf : D → String
  | .non => "NoneType"
  | .bl _ => "bool"
  | .int _ => "int"
  | .str _ => "str"
  | .tup _ => "tuple"
  | .ktup _ => "tuple"
  | .rol _ => "list"
  | .ref _ => "list"
  | .ty _ => "type"
  | .fnv _ => "function"
def bools : List D → Option (List Bool)
  | [] => some []
  | .bl b :: r => (bools r).map (b :: ·)
  | _ :: _ => none
def items (S : Sto) : D → Option (List D)
  | .tup xs => some xs
  | .ktup xs => some xs
  | .rol xs => some xs
  | .ref n => match S[n]? with
    | some (.lst xs) => some xs
    | _ => none
  | _ => none
def kD : L2.Key → D
  | .inl i => .int i
  | .inr x => .str x
def dLen (x : D) (S : Sto) (Q : KQ) : Prop :=
  match x with
  | .str z => z.length ≤ LIM ∧ Q (.int z.length) S
  | .ref n => match S[n]? with
    | some (.lst xs) => Q (.int xs.length) S
    | o => ∃ kvs, dkOf o = some kvs ∧ Q (.int kvs.length) S
  | x => match items S x with
    | some xs => Q (.int xs.length) S
    | _ => False
def dIsi (x t : D) (S : Sto) (Q : KQ) : Prop :=
  match t with
  | .ty t => (match x with
    | .ty _ => False
    | .fnv _ => False
    | .ref n => (match S[n]? with
      | some (.lst _) => True
      | _ => False)
    | _ => True) ∧ match kitB (tyOf x) t with
    | some b => Q (.bl b) S
    | _ => False
  | _ => False
def dBools (x : D) (S : Sto) (k : List Bool → Prop) : Prop :=
  match x with
  | .ref n => match S[n]? with
    | some (.lst xs) => match bools xs with
      | some bs => k bs
      | _ => False
    | _ => False
  | _ => False
def dInt1 (x : D) (k : Int → Prop) : Prop :=
  match x with
  | .int i => k i
  | _ => False
def dItems (x : D) (S : Sto) (k : List D → Prop) : Prop :=
  match items S x with
  | some xs => k xs
  | none => False
def allI : List D → Option (List Int)
  | [] => some []
  | .int b :: r => (allI r).map (b :: ·)
  | _ :: _ => none
def dInts (x : D) (S : Sto) (k : List Int → Prop) : Prop :=
  match x with
  | .ref n => match S[n]? with
    | some (.lst xs) => match allI xs with
      | some is => k is
      | _ => False
    | _ => False
  | .rol xs => match allI xs with
    | some is => k is
    | _ => False
  | .tup xs => match allI xs with
    | some is => k is
    | _ => False
  | _ => False
/-- all texts -/
def allS : List D → Option (List Str)
  | [] => some []
  | .str b :: r => (allS r).map (b :: ·)
  | _ :: _ => none
def dStrs (x : D) (S : Sto) (k : List Str → Prop) : Prop :=
  match items S x with
  | some xs => match allS xs with
    | some ys => k ys
    | _ => False
  | none => False
def dJoin (x y : D) (S : Sto) (Q : KQ) : Prop :=
  match x with
  | .str a => dStrs y S fun ys => (ys.map (·.length)).sum + ys.length * a.length ≤ LIM ∧ Q (.str (Txt.join a ys)) S
  | _ => False
def dSplit (x y : D) (S : Sto) (Q : KQ) : Prop :=
  match x, y with
  | .str a, .str b => (b.length == 0) = false ∧ a.length + 2 ≤ LIM ∧ Q (.ref S.length) (S ++ [.lst ((Txt.split a b).map D.str)])
  | _, _ => False
def dStr (x : D) (S : Sto) (Q : KQ) : Prop :=
  match x with
  | .str a => Q (.str a) S
  | .int i => i.natAbs.log2 < 1920 ∧ Q (.str (toString i)) S
  | _ => False
/-- xs.index(y) -/
def dIxof (x y : D) (S : Sto) (Q : KQ) : Prop :=
  match x with
  | .ref n => ∃ ds ps p j q, S[n]? = some (.lst ds) ∧ ds.mapM (toPy 65 S) = some ps ∧ toPy 66 S y = some p ∧ SeqAt.shaped (.list ps) = true ∧ SeqAt.shaped p = true ∧ ps[j]? = some q ∧ PyData.eqv q p = true ∧ (∀ m r, m < j → ps[m]? = some r → PyData.eqv r p = false) ∧ Q (.int (j : Nat)) S
  | _ => False
/-- d.get(k, x) -/
def dGet (d k x : D) (S : Sto) (Q : KQ) : Prop :=
  match d with
  | .ref n => ∃ kvs key, dkOf S[n]? = some kvs ∧ key1 k = some key ∧ Q ((valD kvs key).getD x) S
  | _ => False
/-- sorted(xs): the data in their order, equal ones in their turns -/
def sortD (ds : List D) (ps : List PyData) : List D := ((ds.zip ps).mergeSort fun a b => PySem.W.dataLe false (fun z : D × PyData => z.2) a b).map (·.1)
def dSort (x : D) (S : Sto) (Q : KQ) : Prop :=
  match x with
  | .ref n => match S[n]? with
    | some (.dk kvs) => ∃ ss : List Str, kvs.map (·.1) = ss.map Sum.inr ∧ ss.length < 64 ∧ ∀ ys : List Str, ys.Perm ss → Q (.ref S.length) (S ++ [.lst (ys.map D.str)])
    | some (.dkl kvs) => ∃ ss : List Str, kvs.map (·.1) = ss.map Sum.inr ∧ ss.length < 64 ∧ ∀ ys : List Str, ys.Perm ss → Q (.ref S.length) (S ++ [.lst (ys.map D.str)])
    | some (.lst ds) => ∃ ps, ds.mapM (toPy 66 S) = some ps ∧ PySem.W.AllAlike ps ∧ PySem.W.Sortable ps ∧ ds.length ≤ LIM ∧ (∀ p ∈ ps, p.depth ≤ 60) ∧ Q (.ref S.length) (S ++ [.lst (sortD ds ps)])
    | _ => False
  | _ => False
/-- sorted(xs, key=lambda x: (sum(x), x)) of tuples of ints -/
def keySum (ns : List Int) : PyData := .tuple [.int ns.sum, .tuple (ns.map .int)]
def dSortK (x : D) (S : Sto) (Q : KQ) : Prop :=
  match x with
  | .ref n => ∃ nss : List (List Int), S[n]? = some (.lst (nss.map fun ns => D.tup (ns.map D.int))) ∧ nss.length ≤ LIM ∧ Q (.ref S.length) (S ++ [.lst ((nss.mergeSort fun a b => PySem.W.dataLe false keySum a b).map fun ns => D.tup (ns.map D.int))])
  | _ => False
def dBlt (f : Bn) (xs : List D) (S : Sto) (Q : KQ) : Prop :=
  match xs with
  | [x] => match f with
    | .len => dLen x S Q
    | .all => dBools x S fun bs => Q (.bl (bs.all id)) S
    | .any => dBools x S fun bs => Q (.bl (bs.any id)) S
    | .abs => dInt1 x fun i => Q (.int (if i < 0 then -i else i)) S
    | .sum => dInts x S fun is => Q (.int is.sum) S
    | .int => dInt1 x fun i => Q (.int i) S
    | .list => dItems x S fun xs => Q (.ref S.length) (S ++ [.lst xs])
    | .sorted => dSort x S Q
    | .str => dStr x S Q
    | .tuple => match x with
      | .ktup xs => Q (.ktup xs) S
      | x => dItems x S fun xs => Q (.tup xs) S
    | _ => False
  | [x, y] => match f with
    | .isinst => dIsi x y S Q
    | .min2 => dInt1 x fun i => dInt1 y fun j => Q (.int (if j < i then j else i)) S
    | .max2 => dInt1 x fun i => dInt1 y fun j => Q (.int (if j > i then j else i)) S
    | _ => False
  | _ => False
def isStrD : D → Prop
  | .str _ => True
  | _ => False
def dApp (o a : D) (S : Sto) (Q : KQ) : Prop :=
  match o with
  | .ref n => match S[n]? with
    | some (.lst xs) => xs.length < LIM ∧ Q .non (S.set n (.lst (xs ++ [a])))
    | _ => False
  | _ => False
/-- a list that can be written -/
def isLst (x : D) (S : Sto) : Prop :=
  match x with
  | .ref n => match S[n]? with
    | some (.lst _) => True
    | _ => False
  | _ => False
def dExt (o a : D) (S : Sto) (Q : KQ) : Prop :=
  match o, a with
  | .ref n, .ref m => match S[n]?, S[m]? with
    | some (.lst xs), some (.lst ys) => xs.length + ys.length ≤ LIM ∧ Q .non (S.set n (.lst (xs ++ ys)))
    | _, _ => False
  | _, _ => False
def dSet (o i d : D) (S : Sto) (Q : Sto → Prop) : Prop :=
  match o, i with
  | .ref n, .int k => match S[n]? with
    | some (.lst xs) => ∃ j, ixN xs.length k = some j ∧ Q (S.set n (.lst (xs.set j d)))
    | some (.dk kvs) => kvs.length < LIM ∧ Q (S.set n (.dk (putD kvs (.inl k) d)))
    | _ => False
  | .ref n, .str x => match S[n]? with
    | some (.dk kvs) => kvs.length < LIM ∧ Q (S.set n (.dk (putD kvs (.inr x) d)))
    | _ => False
  | .ref n, .tup ks => match S[n]? with
    | some (.dct kvs) => ∃ k, keyL ks = some k ∧ kvs.length < LIM ∧ Q (S.set n (.dct (putD kvs k d)))
    | _ => False
  | _, _ => False
def intsFrom (lo : Int) (n : Nat) : List D := (List.range n).map fun (i : Nat) => D.int (lo + (i : Int))
def wipeD (ρ : En) : List Nat → En
  | [] => ρ
  | v :: vs => (wipeD ρ vs).set v none
abbrev KI := List D → (Sto → Prop) → Sto → Prop
def dIter (d : D) (S : Sto) (k : KI) : Prop :=
  match d with
  | .tup ds => k ds (fun _ => True) S
  | .ktup ds => k ds (fun _ => True) S
  | .rol ds => k ds (fun _ => True) S
  | .ref n => match S[n]? with
    | some (.lst ds) => k ds (fun S' => S'[n]? = some (.lst ds)) S
    | _ => False
  | _ => False
/-- a list's items, and that it still holds them -/
def dLIter (d : D) (S : Sto) (k : List D → (Sto → Prop) → Prop) : Prop :=
  match d with
  | .rol ds => k ds fun _ => True
  | .ref n => match S[n]? with
    | some (.lst ds) => k ds fun S' => S'[n]? = some (.lst ds)
    | _ => False
  | _ => False
def enumD (ds : List D) : List D := ds.mapIdx fun i d => .tup [.int (i : Nat), d]
def enum1D (ds : List D) : List D := ds.mapIdx fun i d => .tup [.int ((i : Nat) + 1 : Int), d]
def zipD (xs ys : List D) : List D := List.zipWith (fun x y => D.tup [x, y]) xs ys
def dZip (x y : D) (S : Sto) (Q : KI) : Prop :=
  match x, y with
  | .tup xs, .tup ys => Q (zipD xs ys) (fun _ => True) S
  | x, y => dLIter x S fun xs c => dLIter y S fun ys c' => Q (zipD xs ys) (fun S' => c S' ∧ c' S') S
/-- the comprehension's loop -/
def cLoop (n : Nat) (chk : Sto → Prop) (turn : D → Sto → (D → Sto → Prop) → (Sto → Prop) → Prop) (k : Sto → Prop) : List D → Sto → Prop
  | [], S => chk S ∧ k S
  | d :: r, S => chk S ∧ turn d S (fun y S4 => ∃ acc, S4[n]? = some (.lst acc) ∧ acc.length < LIM ∧ cLoop n chk turn k r (S4.set n (.lst (acc ++ [y])))) (cLoop n chk turn k r)

/-- the loop of a dict comprehension -/
def kLoop (n : Nat) (chk : Sto → Prop) (turn : D → Sto → (D → D → Sto → Prop) → (Sto → Prop) → Prop) (k : Sto → Prop) : List D → Sto → Prop
  | [], S => chk S ∧ k S
  | d :: r, S => chk S ∧ turn d S (fun y z S4 => ∃ key kvs, key1 y = some key ∧ S4[n]? = some (.dk kvs) ∧ kvs.length < LIM ∧ kLoop n chk turn k r (S4.set n (.dk (putD kvs key z)))) (kLoop n chk turn k r)
/-- the loop of a clause of a comprehension -/
def iLoop (chk : Sto → Prop) (turn : D → Sto → (Sto → Prop) → Prop) (k : Sto → Prop) : List D → Sto → Prop
  | [], S => chk S ∧ k S
  | d :: r, S => chk S ∧ turn d S (iLoop chk turn k r)

/-! ### what the language means -/
abbrev Thk := Sto → KQ → KX → Prop
/-- the defs by their names; the lambda that the def itself was handed -/
structure FEnv where
  f : Str → Option FSp
  t : Thk := fun _ _ _ => False
/-- nothing may be raised -/
def noX : KX := fun _ _ _ => False
section
variable (fs : FEnv)
mutual
def wE : IE → En → Sto → KX → KQ → Prop
  | .var i, ρ, S, _, Q => match ρ[i]? with
    | some (some d) => Q d S
    | _ => False
  | .cst d, _, S, _, Q => Q d S
  | .tup as, ρ, S, X, Q => wA as ρ S X fun ds S1 => ds.length ≤ LIM ∧ Q (.tup ds) S1
  | .lst as, ρ, S, X, Q => wA as ρ S X fun ds S1 => ds.length ≤ LIM ∧ Q (.ref S1.length) (S1 ++ [.lst ds])
  | .bin op a b, ρ, S, X, Q => wE a ρ S X fun x S1 => wE b ρ S1 X fun y S2 => dOp op x y S2 Q
  | .not a, ρ, S, X, Q => wE a ρ S X fun x S1 => dTru x S1 fun b S2 => Q (.bl (!b)) S2
  | .neg a, ρ, S, X, Q => wE a ρ S X fun x S1 => match x with
    | .int i => Q (.int (-i)) S1
    | _ => False
  | .and a b, ρ, S, X, Q => wE a ρ S X fun x S1 => dTru x S1 fun k S2 => if k = true then wE b ρ S2 X Q else Q x S2
  | .or a b, ρ, S, X, Q => wE a ρ S X fun x S1 => dTru x S1 fun k S2 => if k = true then Q x S2 else wE b ρ S2 X Q
  | .cmp op a b, ρ, S, X, Q => wE a ρ S X fun x S1 => wE b ρ S1 X fun y S2 => dCmp op x y S2 fun k S3 => Q (.bl k) S3
  | .chn op op' a b c, ρ, S, X, Q => wE a ρ S X fun x S1 => wE b ρ S1 X fun y S2 => dCmp op x y S2 fun k S3 => if k = true then wE c ρ S3 X fun z S4 => dCmp op' y z S4 fun k' S5 => Q (.bl k') S5 else Q (.bl false) S3
  | .ite t a b, ρ, S, X, Q => wT t ρ S X fun k S1 => if k = true then wE a ρ S1 X Q else wE b ρ S1 X Q
  | .fn f as, ρ, S, X, Q => wA as ρ S X fun ds S1 => match fs.f f with
    | some sp => sp ds S1 Q X
    | _ => False
  | .blt f as, ρ, S, X, Q => wA as ρ S X fun ds S1 => dBlt f ds S1 Q
  | .idx a i, ρ, S, X, Q => wE a ρ S X fun x S1 => wE i ρ S1 X fun y S2 => dIdx x y S2 Q
  | .slc a lo hi, ρ, S, X, Q => wE a ρ S X fun x S1 => wO lo ρ S1 X fun l S2 => wO hi ρ S2 X fun h S3 => dSlc x l h S3 Q
  | .app o a, ρ, S, X, Q => wE o ρ S X fun x S1 => isLst x S1 ∧ wE a ρ S1 X fun y S2 => dApp x y S2 Q
  | .extd o a, ρ, S, X, Q => wE o ρ S X fun x S1 => isLst x S1 ∧ wE a ρ S1 X fun y S2 => dExt x y S2 Q
  | .lcp own g it t elt, ρ, S, X, Q => wI it ρ S X fun ds chk S1 =>
      cLoop S1.length chk (fun d S2 ky kn => wG g d (wipeD ρ own) S2 noX fun ρ2 S3 => wTs t ρ2 S3 noX fun k S4 => if k = true then wE elt ρ2 S4 noX ky else kn S4) (Q (.ref S1.length)) ds (S1 ++ [.lst []])
  | .ddsp ks vs, ρ, S, X, Q => wA vs ρ (S ++ [.dk []]) X fun ds S1 => S1[S.length]? = some (.dk []) ∧ ks.length = ds.length ∧ Q (.ref S.length) (S1.set S.length (.dk ((ks.map Sum.inr).zip ds)))
  | .dget d k x, ρ, S, X, Q => wE d ρ S X fun o S1 => wE k ρ S1 X fun y S2 => wE x ρ S2 X fun z S3 => dGet o y z S3 Q
  | .jn a b, ρ, S, X, Q => wE a ρ S X fun x S1 => isStrD x ∧ wE b ρ S1 X fun y S2 => dJoin x y S2 Q
  | .spl a b, ρ, S, X, Q => wE a ρ S X fun x S1 => isStrD x ∧ wE b ρ S1 X fun y S2 => dSplit x y S2 Q
  | .ixof o a, ρ, S, X, Q => wE o ρ S X fun x S1 => isLst x S1 ∧ wE a ρ S1 X fun y S2 => dIxof x y S2 Q
  | .dcp own g it t k v, ρ, S, X, Q => wI it ρ S X fun ds chk S1 =>
      kLoop S1.length chk (fun d S2 ky kn => wG g d (wipeD ρ own) S2 noX fun ρ2 S3 => wTs t ρ2 S3 noX fun b S4 => if b = true then wE k ρ2 S4 noX fun y S5 => wE v ρ2 S5 noX fun z S6 => ky y z S6 else kn S4) (Q (.ref S1.length)) ds (S1 ++ [.dk []])
  | .thk, _, S, X, Q => fs.t S Q X
  | .dnew, _, S, _, Q => Q (.ref S.length) (S ++ [.dct []])
  | .dknew, _, S, _, Q => Q (.ref S.length) (S ++ [.dk []])
  | .csub kds x, ρ, S, X, Q => wE x ρ S X fun d S1 => match d with
    | .str y => ∃ v, kds.lookup y = some v ∧ Q v S1
    | _ => False
  | .lrng a, ρ, S, X, Q => wE a ρ S X fun d S1 => match d with
    | .int j => (0 ≤ j ∧ j ≤ 16777216) ∧ Q (.ref S1.length) (S1 ++ [.lst (intsFrom 0 j.toNat)])
    | _ => False
  | .lcn own g it t c, ρ, S, X, Q => wI it ρ S X fun ds chk S1 =>
      iLoop chk (fun d S2 k2 => wG g d (wipeD (wipeD ρ own) own) S2 noX fun ρ2 S3 => wTs t ρ2 S3 noX fun b S4 => if b = true then wC c ρ2 S4 S1.length k2 else k2 S4) (Q (.ref S1.length)) ds (S1 ++ [.lst []])
def wC : IC → En → Sto → Nat → (Sto → Prop) → Prop
  | .elt e, ρ, S, n, k => wE e ρ S noX fun y S1 => ∃ acc, S1[n]? = some (.lst acc) ∧ acc.length < LIM ∧ k (S1.set n (.lst (acc ++ [y])))
  | .gen vs g it t c, ρ, S, n, k => wI it ρ S noX fun ds chk S1 => iLoop chk (fun d S2 k2 => wG g d (wipeD ρ vs) S2 noX fun ρ2 S3 => wTs t ρ2 S3 noX fun b S4 => if b = true then wC c ρ2 S4 n k2 else k2 S4) k ds S1
def wA : IA → En → Sto → KX → KL → Prop
  | .nil, _, S, _, Q => Q [] S
  | .cons e as, ρ, S, X, Q => wE e ρ S X fun d S1 => wA as ρ S1 X fun ds S2 => Q (d :: ds) S2
  | .star e as, ρ, S, X, Q => wE e ρ S X fun d S1 => dItems d S1 fun xs => wA as ρ S1 X fun ds S2 => Q (xs ++ ds) S2
def wO : IO → En → Sto → KX → (Option Int → Sto → Prop) → Prop
  | .no, _, S, _, Q => Q none S
  | .yes e, ρ, S, X, Q => wE e ρ S X fun d S1 => match d with
    | .int i => Q (some i) S1
    | _ => False
def wT : IT → En → Sto → KX → KB → Prop
  | .val e, ρ, S, X, Q => wE e ρ S X fun x S1 => dTru x S1 Q
  | .cmp op a b, ρ, S, X, Q => wE a ρ S X fun x S1 => wE b ρ S1 X fun y S2 => dCmp op x y S2 Q
  | .chn op op' a b c, ρ, S, X, Q => wE a ρ S X fun x S1 => wE b ρ S1 X fun y S2 => dCmp op x y S2 fun k S3 => if k = true then wE c ρ S3 X fun z S4 => dCmp op' y z S4 Q else Q false S3
  | .and a b, ρ, S, X, Q => wT a ρ S X fun k S1 => if k = true then wT b ρ S1 X Q else Q false S1
  | .or a b, ρ, S, X, Q => wT a ρ S X fun k S1 => if k = true then Q true S1 else wT b ρ S1 X Q
  | .not a, ρ, S, X, Q => wT a ρ S X fun k S1 => Q (!k) S1
def wTs : ITs → En → Sto → KX → KB → Prop
  | .none, _, S, _, Q => Q true S
  | .one t, ρ, S, X, Q => wT t ρ S X Q
def wG : IG → D → En → Sto → KX → (En → Sto → Prop) → Prop
  | .name i, d, ρ, S, _, Q => Q (ρ.set i (some d)) S
  | .tup gs, d, ρ, S, X, Q => match d with
    | .tup ds => ds.length = gsLen gs ∧ wGs gs ds ρ S X Q
    | .ktup ds => ds.length = gsLen gs ∧ wGs gs ds ρ S X Q
    | _ => False
  | .sub o i, d, ρ, S, X, Q => wE o ρ S X fun od S1 => wE i ρ S1 X fun id S2 => dSet od id d S2 fun S3 => Q ρ S3
def wGs : IGs → List D → En → Sto → KX → (En → Sto → Prop) → Prop
  | .nil, ds, ρ, S, _, Q => ds = [] ∧ Q ρ S
  | .cons g gs, ds, ρ, S, X, Q => match ds with
    | d :: r => wG g d ρ S X fun ρ1 S1 => wGs gs r ρ1 S1 X Q
    | [] => False
def wI : II → En → Sto → KX → KI → Prop
  | .val e, ρ, S, X, Q => wE e ρ S X fun d S1 => dIter d S1 Q
  | .rng1 a, ρ, S, X, Q => wE a ρ S X fun d S1 => match d with
    | .int j => (-(2 ^ 62) ≤ j ∧ j < 2 ^ 62) ∧ Q (intsFrom 0 j.toNat) (fun _ => True) S1
    | _ => False
  | .rng2 a b, ρ, S, X, Q => wE a ρ S X fun d S1 => wE b ρ S1 X fun e S2 => match d, e with
    | .int i, .int j => (-(2 ^ 62) ≤ i ∧ i < 2 ^ 62 ∧ -(2 ^ 62) ≤ j ∧ j < 2 ^ 62) ∧ Q (intsFrom i (j - i).toNat) (fun _ => True) S2
    | _, _ => False
  | .enum a, ρ, S, X, Q => wE a ρ S X fun d S1 => dLIter d S1 fun ds chk => Q (enumD ds) chk S1
  | .enum1 a, ρ, S, X, Q => wE a ρ S X fun d S1 => dLIter d S1 fun ds chk => Q (enum1D ds) chk S1
  | .zip a b, ρ, S, X, Q => wE a ρ S X fun d S1 => wE b ρ S1 X fun e S2 => dZip d e S2 Q
end

structure DEnds where
  nx : En → Sto → Prop
  rt : KQ
  bk : En → Sto → Prop
  ct : En → Sto → Prop
  xx : Str → D → En → Sto → Prop
def xk (E : DEnds) (ρ : En) : KX := fun c d S => E.xx c d ρ S
def fLoop (chk : Sto → Prop) (tg : D → En → Sto → (En → Sto → Prop) → Prop) (body : DEnds → En → Sto → Prop) (E : DEnds) : List D → En → Sto → Prop
  | [], ρ, S => chk S ∧ E.nx ρ S
  | d :: r, ρ, S => chk S ∧ tg d ρ S fun ρ2 S2 => body { E with nx := fLoop chk tg body E r, ct := fLoop chk tg body E r, bk := E.nx } ρ2 S2
def hLoop (c : En → Sto → KB → Prop) (body : DEnds → En → Sto → Prop) (E : DEnds) : Nat → En → Sto → Prop
  | 0, _, _ => False
  | n + 1, ρ, S => c ρ S fun k S1 => if k = true then body { E with nx := hLoop c body E n, ct := hLoop c body E n, bk := E.nx } ρ S1 else E.nx ρ S1
/-- behind a loop over a dict -/
def unl (n : Nat) (kvs : List (L2.Key × D)) (S : Sto) (k : Sto → Prop) : Prop := S[n]? = some (.dkl kvs) ∧ k (S.set n (.dk kvs))
def unlE (n : Nat) (kvs : List (L2.Key × D)) (E : DEnds) : DEnds :=
  { nx := fun ρ S => unl n kvs S fun S' => E.nx ρ S', rt := fun d S => unl n kvs S fun S' => E.rt d S', bk := fun ρ S => unl n kvs S fun S' => E.bk ρ S', ct := fun ρ S => unl n kvs S fun S' => E.ct ρ S', xx := fun _ _ _ _ => False }
mutual
def wS : IS → DEnds → En → Sto → Prop
  | .ret e, E, ρ, S => wE fs e ρ S (xk E ρ) E.rt
  | .retN, E, _, S => E.rt .non S
  | .expr e, E, ρ, S => wE fs e ρ S (xk E ρ) fun _ S1 => E.nx ρ S1
  | .asg g e, E, ρ, S => wE fs e ρ S (xk E ρ) fun d S1 => wG fs g d ρ S1 noX E.nx
  | .par i j a b, E, ρ, S => wE fs a ρ S (xk E ρ) fun x S1 => wE fs b ρ S1 (xk E ρ) fun y S2 => E.nx ((ρ.set i (some x)).set j (some y)) S2
  | .ifs t a b, E, ρ, S => wT fs t ρ S (xk E ρ) fun k S1 => if k = true then wB a E ρ S1 else wB b E ρ S1
  | .fr g it body, E, ρ, S => wI fs it ρ S (xk E ρ) fun ds chk S1 => fLoop chk (fun d ρ' S' k => wG fs g d ρ' S' noX k) (fun E' ρ' S' => wB body E' ρ' S') E ds ρ S1
  | .wh t body, E, ρ, S => ∃ n, hLoop (fun ρ' S' k => wT fs t ρ' S' (xk E ρ') k) (fun E' ρ' S' => wB body E' ρ' S') E n ρ S
  | .pass, E, ρ, S => E.nx ρ S
  | .brk, E, ρ, S => E.bk ρ S
  | .cont, E, ρ, S => E.ct ρ S
  | .frk g v body, E, ρ, S => match ρ[v]? with
    | some (some (.ref n)) => ∃ kvs, S[n]? = some (.dk kvs) ∧ fLoop (fun S' => S'[n]? = some (.dkl kvs)) (fun d ρ' S' k => wG fs g d ρ' S' noX k) (fun E' ρ' S' => wB body E' ρ' S') (unlE n kvs E) (kvs.map fun kv => kD kv.1) ρ (S.set n (.dkl kvs))
    | _ => False
  | .rai c, E, ρ, S => E.xx c .non ρ S
  | .raiA c e, E, ρ, S => wE fs e ρ S noX fun d S1 => ∃ i : Int, d = .int i ∧ i.natAbs < 10 ^ 40 ∧ E.xx c d ρ S1
  | .tryx b hs, E, ρ, S => wB b { E with xx := fun c d ρ' S' => wH hs c d E ρ' S' } ρ S
def wB : IB → DEnds → En → Sto → Prop
  | .nil, E, ρ, S => E.nx ρ S
  | .cons s b, E, ρ, S => wS s { E with nx := fun ρ' S' => wB b E ρ' S' } ρ S
def wH : IHs → Str → D → DEnds → En → Sto → Prop
  | .nil, c, d, E, ρ, S => E.xx c d ρ S
  | .suite x b r, c, d, E, ρ, S => if c = x then wB b { E with xx := fun _ _ _ _ => False } ρ S else wH r c d E ρ S
  | .asgA x i j r, c, d, E, ρ, S => if c = x then (i ≠ j ∧ i < ρ.length) ∧ E.nx ((ρ.set j (some d)).set i none) S else wH r c d E ρ S
  | .retA x i r, c, d, E, ρ, S => if c = x then i < ρ.length ∧ E.rt d S else wH r c d E ρ S
  | .retEq x i k r, c, d, E, ρ, S => if c = x then i < ρ.length ∧ ∃ z : Int, d = .int z ∧ E.rt (.bl (decide (z = k))) S else wH r c d E ρ S
  | .asgS x i j pre r, c, d, E, ρ, S => if c = x then (i ≠ j ∧ i < ρ.length) ∧ pre.length ≤ 100 ∧ ∃ z : Int, d = .int z ∧ 0 ≤ z ∧ z < 10 ^ 40 ∧ E.nx ((ρ.set j (some (.str (pre ++ toString z)))).set i none) S else wH r c d E ρ S
end
end
end DW

set_option Elab.async false
set_option linter.all false
set_option maxRecDepth 100000
set_option maxHeartbeats 2000000
/-! the program's text becomes the small language -/
namespace DW
open PySem PySem.Spec PyProof.Rows L2

structure Ctx where
  N : List Str
  sc : Scope
  blk : Option Scope := none
  con : List (Str × D) := []
  /-- defs that can be called -/
  fn : List Str := []
  bn : List Str := []
  /-- the module's dicts with text keys -/
  dcn : List (Str × List (Str × D)) := []
  /-- sorted(.., key=lambda x: (sum(x), x)) is a promise -/
  srt : Bool := false
  /-- x(lambda: f(..)) is a promise -/
  lam : List (Str × Str) := []
  /-- within an except suite -/
  hot : Bool := false
  /-- classes of errors, and the attribute that they set -/
  exs : List (Str × Option Str) := []
  /-- a new {} has int and text keys -/
  dk : Bool := false
  /-- names whose dict is walked -/
  dkv : List Str := []
  /-- the name of a lambda that the def was handed -/
  thk : Option Str := none

/-- the name of the promise x(lambda: f(..)) -/
def lamN (x f : Str) : Str := x ++ "|" ++ f
def Ctx.kind (C : Ctx) (x : Str) : Option NameKind := C.sc.names.lookup x
/-- one of the names is a cell -/
def cellT (C : Ctx) (tt : List Expr) : Bool := tt.any fun e => match e with
  | .Name x _ => C.kind x == some .cell
  | _ => false
/-- a name that can be stored -/
def Ctx.okSt (C : Ctx) (x : Str) : Bool :=
  match C.kind x with
  | some .local => true
  | some .cell => match C.blk with
    | none => true
    | some s => s.names.lookup x == some .cell
  | _ => false
def idxOf (N : List Str) (x : Str) : Option Nat :=
  match N with
  | [] => none
  | y :: r => if y = x then some 0 else (idxOf r x).map (· + 1)
theorem idxOf_get : ∀ {N : List Str} {x : Str} {i : Nat}, idxOf N x = some i → N[i]? = some x
  | [], _, _, h => by cases h
  | y :: r, x, i, h => by
    unfold idxOf at h
    by_cases e : y = x
    · rw [if_pos e] at h; cases h; simp [e]
    · rw [if_neg e] at h
      cases q : idxOf r x with
      | none => rw [q] at h; cases h
      | some j => rw [q] at h; cases h; simpa using idxOf_get q

def isTupE : Expr → Bool
  | .Tuple _ _ _ => true
  | _ => false
def tyName (x : Str) : Option String :=
  if x = "tuple" then some "tuple" else if x = "int" then some "int" else if x = "bool" then some "bool" else if x = "str" then some "str" else if x = "list" then some "list" else none
def bnOf (x : Str) (n : Nat) : Option Bn :=
  if x = "len" ∧ n = 1 then some .len else if x = "isinstance" ∧ n = 2 then some .isinst else if x = "all" ∧ n = 1 then some .all else if x = "any" ∧ n = 1 then some .any else if x = "abs" ∧ n = 1 then some .abs
  else if x = "int" ∧ n = 1 then some .int else if x = "min" ∧ n = 2 then some .min2 else if x = "max" ∧ n = 2 then some .max2 else if x = "list" ∧ n = 1 then some .list else if x = "tuple" ∧ n = 1 then some .tuple else if x = "sum" ∧ n = 1 then some .sum else if x = "sorted" ∧ n = 1 then some .sorted else if x = "str" ∧ n = 1 then some .str else none
/-- the names that a block owns, with their places -/
def ownOf (N : List Str) : List (Str × NameKind) → List (Str × Nat)
  | [] => []
  | (x, k) :: r => if k = .local ∨ k = .cell then match idxOf N x with
      | some i => (x, i) :: ownOf N r
      | none => ownOf N r
    else ownOf N r

def constD : Const → Option D
  | .none => some .non
  | .bool b => some (.bl b)
  | .int i => some (.int i)
  | .str x => some (.str x)
  | _ => none
def compA (f : Expr → Option IE) : List Expr → Option IA
  | [] => some .nil
  | e :: r => match f e, compA f r with
    | some a, some b => some (.cons a b)
    | _, _ => none
/-- .. with stars -/
def compAS (f : Expr → Option IE) : List Expr → Option IA
  | [] => some .nil
  | .Starred e _ :: r => match f e, compAS f r with
    | some a, some b => some (.star a b)
    | _, _ => none
  | e :: r => match f e, compAS f r with
    | some a, some b => some (.cons a b)
    | _, _ => none
def hasStar : List Expr → Bool
  | [] => false
  | .Starred _ _ :: _ => true
  | _ :: r => hasStar r
def compK (f : Expr → Option IE) : List (Option Expr) → Option (List Str)
  | [] => some []
  | some e :: r => match f e, compK f r with
    | some (.cst (.str k)), some ks => some (k :: ks)
    | _, _ => none
  | none :: _ => none
def compO (f : Expr → Option IE) : Option Expr → Option IO
  | none => some .no
  | some e => (f e).map .yes
def compGs (f : Expr → Option IG) : List Expr → Option IGs
  | [] => some .nil
  | e :: r => match f e, compGs f r with
    | some a, some b => some (.cons a b)
    | _, _ => none
def okName (x : Str) : Bool := !(x == ("__debug__" : Str)) && !(x == ("__classdict__" : Str)) && !(x == ("__name__" : Str))

/-- a name or a text: its methods are read plainly -/
def plainO : Expr → Bool
  | .Name _ _ => true
  | .Constant (.str _) _ _ => true
  | _ => false
/-- list(range(a)) -/
def lrngOf (x : Str) (es : List Expr) : Option Expr :=
  match es with
  | [.Call (.Name r _) [a] [] _] => if x = "list" ∧ r = "range" then some a else none
  | _ => none
/-- lambda x: (sum(x), x) -/
def isSumKey (ks : List Keyword) : Option (Arguments × Expr × Scope × Pos × Str) :=
  match ks with
  | [⟨some n, .Lambda params (.Tuple [.Call (.Name s ps) [.Name h1 p1] [] pc, .Name h2 p2] k pt) scope lpos, _⟩] =>
    match params with
    | ⟨[], [⟨h, none, _⟩], none, [], [], none, []⟩ => if n = "key" ∧ s = "sum" ∧ h1 = h ∧ h2 = h ∧ h ≠ "sum" ∧ okName h = true ∧ scope.names = [(h, .local), ("sum", .globalImplicit)] ∧ scope.kind = .function ∧ scope.isCoroutine = false ∧ scope.isGenerator = false then some (params, .Tuple [.Call (.Name s ps) [.Name h1 p1] [] pc, .Name h2 p2] k pt, scope, lpos, h) else none
    | _ => none
  | _ => none
/-- x(lambda: f(..)) -/
def lamOf (sc : Scope) (tab : List (Str × Str)) (x : Str) (es : List Expr) : Option (Str × List Expr × Scope) :=
  match es with
  | [.Lambda params (.Call (.Name f _) as [] _) scope _] => match params with
    | ⟨[], [], none, [], [], none, []⟩ => if LamX.lamSB sc scope = true ∧ scope.names.lookup f = some .globalImplicit ∧ okName f = true ∧ as ≠ [] ∧ tab.contains (x, f) = true then some (f, as, scope) else none
    | _ => none
  | _ => none
/-- start=1 -/
def isStart1 (ks : List Keyword) : Bool :=
  match ks with
  | [⟨some n, .Constant (.int 1) _ _, _⟩] => n == "start"
  | _ => false

mutual
def compE : Nat → Ctx → Expr → Option IE
  | 0, _, _ => none
  | n + 1, C, e => match e with
    | .Constant c _ _ => (constD c).map .cst
    | .Name x _ => if okName x = true then match C.kind x with
        | some .local => (idxOf C.N x).map .var
        | some .cell => (idxOf C.N x).map .var
        | some .free => (idxOf C.N x).map .var
        | some .globalImplicit => match C.con.lookup x with
          | some d => some (.cst d)
          | none => if C.bn.contains x = true then (tyName x).map fun t => .cst (.ty t) else none
        | _ => none
      else none
    | .Tuple es _ _ => (compA (compE n C) es).map .tup
    | .List es _ => if hasStar es = true then (if C.hot = true then none else (compAS (compE n C) es).map .lst) else (compA (compE n C) es).map .lst
    | .BinOp a op b _ => match compE n C a, compE n C b with
      | some x, some y => some (.bin op x y)
      | _, _ => none
    | .UnaryOp .Not a _ => (compE n C a).map .not
    | .UnaryOp .USub a _ => (compE n C a).map .neg
    | .BoolOp op es p => match es with
      | [a] => compE n C a
      | a :: b :: r => match compE n C a, compE n C (.BoolOp op (b :: r) p) with
        | some x, some y => some (match op with
          | .And => .and x y
          | .Or => .or x y)
        | _, _ => none
      | [] => none
    | .Compare a ops es _ => match ops, es with
      | [op], [b] => match compE n C a, compE n C b with
        | some x, some y => some (.cmp op x y)
        | _, _ => none
      | [op, op'], [b, c] => match compE n C a, compE n C b, compE n C c with
        | some x, some y, some z => some (.chn op op' x y z)
        | _, _, _ => none
      | _, _ => none
    | .IfExp c a b _ => match compT n C c, compE n C a, compE n C b with
      | some t, some x, some y => some (.ite t x y)
      | _, _, _ => none
    | .Call f es ks p => match f, ks with
      | .Name x _, [] => if C.hot = true then none else if es.isEmpty = true ∧ C.thk = some x ∧ C.blk.isNone = true then some .thk else if okName x = true ∧ C.kind x = some .globalImplicit then match lamOf C.sc C.lam x es with
          | some (f, as, scope) => (compA (compE n { C with sc := scope, blk := some scope, fn := [], bn := [], dcn := [], srt := false, lam := [], exs := [], thk := none }) as).map (.fn (lamN x f))
          | none => if C.fn.contains x = true then (compA (compE n C) es).map (.fn x) else if C.bn.contains x = true then match lrngOf x es with
              | some a => if C.kind "range" = some .globalImplicit ∧ C.bn.contains "range" = true then (compE n C a).map .lrng else none
              | none => match bnOf x es.length with
                | some b => (compA (compE n C) es).map (.blt b)
                | none => none
            else none
        else none
      | .Name x _, ks => match es, isSumKey ks, C.srt with
        | [a], some _, true => if C.hot = false ∧ x = "sorted" ∧ C.kind x = some .globalImplicit ∧ C.bn.contains x = true ∧ C.bn.contains "sum" = true ∧ C.blk.isNone = true then (compE n C a).map fun y => .fn "@srt" (.cons y .nil) else none
        | _, _, _ => none
      | .Attribute o m ap, [] => if C.hot = true ∨ (ap.endLine == p.line) = false then none else match es with
        | [a] => if m = "append" then match o, compE n C o, compE n C a with
            | .Name _ _, some x, some y => some (.app x y)
            | _, _, _ => none
          else if m = "extend" then match o, compE n C o, compE n C a with
            | .Name _ _, some x, some y => some (.extd x y)
            | _, _, _ => none
          else if m = "join" then match compE n C o, compE n C a with
            | some x, some y => if plainO o = true then some (.jn x y) else none
            | _, _ => none
          else if m = "split" then match compE n C o, compE n C a with
            | some x, some y => if plainO o = true then some (.spl x y) else none
            | _, _ => none
          else none
        | _ => none
      | _, _ => none
    | .Subscript a i _ => match i with
      | .Slice lo hi none _ => match compE n C a, compO (compE n C) lo, compO (compE n C) hi with
        | some x, some l, some h => some (.slc x l h)
        | _, _, _ => none
      | i => match compE n C a, compE n C i with
        | some x, some y => some (.idx x y)
        | none, some y => match a with
          | .Name x _ => if okName x = true ∧ C.kind x = some .globalImplicit then (C.dcn.lookup x).map fun kds => .csub kds y else none
          | _ => none
        | _, _ => none
    | .Dict keys vs _ => match keys, vs with
      | [], [] => some (if C.dk = true then .dknew else .dnew)
      | _, _ => match compK (compE n C) keys, compA (compE n C) vs with
        | some ks, some as => if keys.length = vs.length ∧ keys.length ≤ 15 ∧ 0 < keys.length ∧ ks.Nodup ∧ keys.all (·.isSome) = true then some (.ddsp ks as) else none
        | _, _ => none
    | .DictComp k v gs scope _ => match gs with
      | [g] => match compDc n C k v g scope with
        | some (own, g', it', t', k', v') => some (.dcp own g' it' t' k' v')
        | none => none
      | _ => none
    | .ListComp elt gs scope _ => match gs with
      | g :: g2 :: gr => match compLn n C elt g (g2 :: gr) scope with
        | some (own, g', it', t', c) => some (.lcn own g' it' t' c)
        | none => none
      | [g] => match compLc n C elt g scope with
        | some (own, g', it', t', e') => some (.lcp own g' it' t' e')
        | none => none
      | _ => none
    | _ => none
def compLc : Nat → Ctx → Expr → Comprehension → Scope → Option (List Nat × IG × II × ITs × IE)
  | 0, _, _, _, _ => none
  | n + 1, C, elt, g, scope =>
    let own := ownOf C.N scope.names
    let C' : Ctx := { C with sc := relS scope C.sc, blk := some scope }
    if C.hot = false ∧ g.is_async = 0 ∧ blkC C.N C.sc scope own = true then
      match compG n C' g.target, compI n C g.target g.iter, compTs n C' g.ifs, compE n C' elt with
      | some a, some b, some c, some d => if (gSlots a).all (fun i => (own.map (·.2)).contains i) = true then some (own.map (·.2), a, b, c, d) else none
      | _, _, _, _ => none
    else none
def compDc : Nat → Ctx → Expr → Expr → Comprehension → Scope → Option (List Nat × IG × II × ITs × IE × IE)
  | 0, _, _, _, _, _ => none
  | n + 1, C, k, v, g, scope =>
    let own := ownOf C.N scope.names
    let C' : Ctx := { C with sc := relS scope C.sc, blk := some scope }
    if C.hot = false ∧ g.is_async = 0 ∧ blkC C.N C.sc scope own = true then
      match compG n C' g.target, compI n C g.target g.iter, compTs n C' g.ifs, compE n C' k, compE n C' v with
      | some a, some b, some c, some d, some e => if (gSlots a).all (fun i => (own.map (·.2)).contains i) = true then some (own.map (·.2), a, b, c, d, e) else none
      | _, _, _, _, _ => none
    else none
def compLn : Nat → Ctx → Expr → Comprehension → List Comprehension → Scope → Option (List Nat × IG × II × ITs × IC)
  | 0, _, _, _, _, _ => none
  | n + 1, C, elt, g, gr, scope =>
    let own := ownOf C.N scope.names
    let C' : Ctx := { C with sc := relS scope C.sc, blk := some scope }
    if C.hot = false ∧ g.is_async = 0 ∧ blkC C.N C.sc scope own = true then
      match compG n C' g.target, compI n C g.target g.iter, compTs n C' g.ifs, compC n C' elt gr with
      | some a, some b, some c, some (d, vs) => if (gSlots a ++ vs).all (fun i => (own.map (·.2)).contains i) = true then some (own.map (·.2), a, b, c, d) else none
      | _, _, _, _ => none
    else none
/-- the further clauses, and the slots that they store to -/
def compC : Nat → Ctx → Expr → List Comprehension → Option (IC × List Nat)
  | 0, _, _, _ => none
  | n + 1, C, elt, gr => match gr with
    | [] => (compE n C elt).map fun e => (.elt e, [])
    | g :: r => match compG n C g.target, compI n C g.target g.iter, compTs n C g.ifs, compC n C elt r with
      | some a, some b, some c, some (d, vs) => if g.is_async = 0 then some (.gen (gSlots a ++ vs) a b c d, gSlots a ++ vs) else none
      | _, _, _, _ => none
def compT : Nat → Ctx → Expr → Option IT
  | 0, _, _ => none
  | n + 1, C, e => match e with
    | .UnaryOp .Not a _ => (compT n C a).map .not
    | .BoolOp op es p => match es with
      | [a] => compT n C a
      | a :: b :: r => match compT n C a, compT n C (.BoolOp op (b :: r) p) with
        | some x, some y => some (match op with
          | .And => .and x y
          | .Or => .or x y)
        | _, _ => none
      | [] => none
    | .Compare a ops es _ => match ops, es with
      | [op], [b] => match compE n C a, compE n C b with
        | some x, some y => some (.cmp op x y)
        | _, _ => none
      | [op, op'], [b, c] => match compE n C a, compE n C b, compE n C c with
        | some x, some y, some z => some (.chn op op' x y z)
        | _, _, _ => none
      | _, _ => none
    | .IfExp .. => none
    | e => (compE n C e).map .val
def compTs : Nat → Ctx → List Expr → Option ITs
  | 0, _, _ => none
  | n + 1, C, es => match es with
    | [] => some .none
    | [t] => (compT n C t).map .one
    | _ => none
def compG : Nat → Ctx → Expr → Option IG
  | 0, _, _ => none
  | n + 1, C, e => match e with
    | .Name x _ => if C.okSt x = true then (idxOf C.N x).map .name else none
    | .Tuple es _ _ => if C.hot = true then none else (compGs (compG n C) es).map .tup
    | .Subscript o i _ => match i with
      | .Slice .. => none
      | i => match compE n C o, compE n C i with
        | some x, some y => some (.sub x y)
        | _, _ => none
    | _ => none
def compI : Nat → Ctx → Expr → Expr → Option II
  | 0, _, _, _ => none
  | n + 1, C, tg, e => match e with
    | .Call (.Name x _) es [] _ => if x = "range" ∧ C.kind x = some .globalImplicit ∧ C.bn.contains x = true then match es with
        | [a] => (compE n C a).map .rng1
        | [a, b] => match compE n C a, compE n C b with
          | some x, some y => some (.rng2 x y)
          | _, _ => none
        | _ => none
      else if x = "enumerate" ∧ C.kind x = some .globalImplicit ∧ C.bn.contains x = true ∧ isTupE tg = true then match es with
        | [a] => if C.hot = true then none else (compE n C a).map .enum
        | _ => none
      else if x = "zip" ∧ C.kind x = some .globalImplicit ∧ C.bn.contains x = true ∧ isTupE tg = true then match es with
        | [a, b] => match compE n C a, compE n C b with
          | some x, some y => some (.zip x y)
          | _, _ => none
        | _ => none
      else (compE n C e).map .val
    | .Call (.Name x _) [a] ks _ => if C.hot = false ∧ x = "enumerate" ∧ C.kind x = some .globalImplicit ∧ C.bn.contains x = true ∧ isTupE tg = true ∧ isStart1 ks = true then (compE n C a).map .enum1 else none
    | e => (compE n C e).map .val
end

/-- is e a comprehension of a kind that a store could take in -/
def isComp : Expr → Bool
  | .ListComp .. => true
  | .SetComp .. => true
  | .DictComp .. => true
  | _ => false
/-- two plain local names, each its own -/
def isParT : List Expr → Bool
  | [.Name _ _, .Name _ _] => true
  | _ => false
/-- e.f, e a name -/
def attrOf (n : Str) : Expr → Option Str
  | .Attribute (.Name m _) f _ => if m = n then some f else none
  | _ => none
def okLc (C : Ctx) (x : Str) (px : Pos) (v : Expr) : Bool :=
  match v with
  | .ListComp _ _ sc p => decide (C.kind x = some .local) && decide (C.sc.kind = .function) && (px.line == p.line) && !(sc.names.any fun (n, k) => n == x && (k == .local || k == .cell))
  | .DictComp _ _ _ sc p => decide (C.kind x = some .local) && decide (C.sc.kind = .function) && (px.line == p.line) && !(sc.names.any fun (n, k) => n == x && (k == .local || k == .cell))
  | _ => false
/-- is it a name whose dict is walked -/
def walkedN (C : Ctx) : Expr → Bool
  | .Name x _ => C.dkv.contains x
  | _ => false
mutual
def compS : Nat → Ctx → Stmt → Option IS
  | 0, _, _ => none
  | n + 1, C, s => match s with
    | .Return v _ => match v with
      | some e => (compE n C e).map .ret
      | none => some .retN
    | .Expr e _ => match e with
      | .Constant (.str _) _ _ => some .pass
      | e => if isComp e = true then none else (compE n C e).map .expr
    | .Assign ts v p => match ts with
      | [.Name x px] => match compE n C v, idxOf C.N x with
        | some e, some i =>
          if isComp v = true then (if C.hot = false ∧ okLc C x px v = true then some (.asg (.name i) e) else if C.kind x = some .cell ∧ C.okSt x = true then some (.asg (.name i) e) else none)
          else if C.okSt x = true then some (.asg (.name i) e) else none
        | _, _ => none
      | [.Tuple tt kt pt] => match v with
        | .Tuple vs kv pv => if (vs.all (foldedForSure 8) || cellT C tt) = true then match compE n C (.Tuple vs kv pv), compG n C (.Tuple tt kt pt) with
            | some e, some g => some (.asg g e)
            | _, _ => none
          else match tt, vs with
          | [.Name x px, .Name y py], [a, b] => match idxOf C.N x, idxOf C.N y, compE n C a, compE n C b with
            | some i, some j, some ea, some eb => if C.hot = false ∧ i ≠ j ∧ x ≠ y ∧ C.kind x = some .local ∧ C.kind y = some .local ∧ C.sc.kind = .function ∧ (py.line == px.line) = true ∧ [a, b].all (foldedForSure 8) = false ∧ [a, b].all (constantsAlone 8) = false then some (.par i j ea eb) else none
            | _, _, _, _ => none
          | _, _ => none
        | v => if isComp v = true then none else match compE n C v, compG n C (.Tuple tt kt pt) with
          | some e, some g => some (.asg g e)
          | _, _ => none
      | [.Subscript o i q] => if isComp v = true then none else match compE n C v, compG n C (.Subscript o i q) with
        | some e, some g => some (.asg g e)
        | _, _ => none
      | _ => none
    | .If c a b _ => match compT n C c, compB n C a, compB n C b with
      | some t, some x, some y => some (.ifs t x y)
      | _, _, _ => none
    | .For tg it body els _ => match els with
      | [] => if walkedN C it = true then (match it with
        | .Name x _ => (if C.hot = false ∧ okName x = true ∧ (C.kind x = some .local ∨ C.kind x = some .cell) then match compG n C tg, idxOf C.N x, compB n C body with
          | some g, some i, some b => some (.frk g i b)
          | _, _, _ => none
          else none)
        | _ => none)
      else if C.hot = true then none else match compG n C tg, compI n C tg it, compB n C body with
        | some g, some i, some b => some (.fr g i b)
        | _, _, _ => none
      | _ => none
    | .While c body els _ => match els with
      | [] => match compT n C c, compB n C body with
        | some t, some b => some (.wh t b)
        | _, _ => none
      | _ => none
    | .Pass _ => some .pass
    | .Break _ => some .brk
    | .Continue _ => some .cont
    | .Raise e none _ => if C.hot = true ∨ C.blk.isSome = true then none else match e with
      | some (.Call (.Name c _) [a] [] _) => if C.kind c = some .globalImplicit ∧ okName c = true then match C.exs.lookup c with
          | some none => (match a with
            | .Constant (.str _) _ _ => some (.rai c)
            | _ => none)
          | some (some _) => (compE n C a).map (.raiA c)
          | none => none
        else none
      | _ => none
    | .Try b hs [] [] _ => if C.hot = true ∨ C.blk.isSome = true ∨ hs.isEmpty = true then none else match compB n C b, compH n C hs with
      | some x, some y => some (.tryx x y)
      | _, _ => none
    | _ => none
def compB : Nat → Ctx → List Stmt → Option IB
  | 0, _, _ => none
  | n + 1, C, ss => match ss with
    | [] => some .nil
    | s :: r => match compS n C s, compB n C r with
      | some a, some b => some (.cons a b)
      | _, _ => none
/-- except clauses -/
def compH : Nat → Ctx → List ExceptHandler → Option IHs
  | 0, _, _ => none
  | n + 1, C, hs => match hs with
    | [] => some .nil
    | .ExceptHandler (some (.Name c _)) nm suite _ :: r => if C.kind c = some .globalImplicit ∧ okName c = true then match C.exs.lookup c, nm, compH n C r with
      | some _, none, some q => (match compB n { C with hot := true } suite with
        | some b => if suite.isEmpty = true then none else some (.suite c b q)
        | none => none)
      | some (some f), some e, some q => if C.kind e = some .local ∧ okName e = true then match idxOf C.N e, suite with
          | some i, [.Assign [.Name x px] (.Attribute (.Name e2 _) f2 _) _] => (match idxOf C.N x with
            | some j => if e2 = e ∧ f2 = f ∧ C.kind x = some .local ∧ i ≠ j then some (.asgA c i j q) else none
            | none => none)
          | some i, [.Return (some (.Attribute (.Name e2 _) f2 _)) _] => if e2 = e ∧ f2 = f then some (.retA c i q) else none
          | some i, [.Return (some (.Compare (.Attribute (.Name e2 _) f2 _) [.Eq] [.Constant (.int k) _ _] _)) _] => if e2 = e ∧ f2 = f then some (.retEq c i k q) else none
          | _, _ => none
        else none
      | _, _, _ => none
      else none
    | _ => none
end
end DW

set_option Elab.async false
set_option linter.all false
set_option maxRecDepth 100000
set_option maxHeartbeats 2000000
/-! operations on data are what the program's operations do -/
namespace DW
open PySem PySem.Spec PyProof.Rows L2

variable [Tb : Tbl]
section
variable {K : PySem.W.Frag} {φ φ' : List Addr} {H H' : Hp} {S : Sto}

structure EnvRel (K : PySem.W.Frag) (φ : List Addr) (H : Hp) (ρ : En) (σ : L2.St) : Prop where
  len : ρ.length = σ.length
  at_ : ∀ (i : Nat) (d : D), ρ[i]? = some (some d) → ∃ v, σ[i]? = some (some v) ∧ Rep K φ H v d
theorem EnvRel.mono {ρ : En} {σ : L2.St} (l : Le φ φ') (t : TupLe H H') (r : EnvRel K φ H ρ σ) : EnvRel K φ' H' ρ σ :=
  ⟨r.len, fun i d h => let ⟨v, e, q⟩ := r.at_ i d h; ⟨v, e, q.mono l t⟩⟩
theorem EnvRel.mono0 {ρ : En} {σ : L2.St} (l : Le φ φ') (t : TupLe0 H H') (r : EnvRel K φ H ρ σ) : EnvRel K φ' H' ρ σ :=
  ⟨r.len, fun i d h => by obtain ⟨v, e, q⟩ := r.at_ i d h; exact ⟨v, e, q.mono0 l t⟩⟩
theorem EnvRel.set {ρ : En} {σ : L2.St} {v : V} {d : D} (i : Nat) (r : EnvRel K φ H ρ σ) (q : Rep K φ H v d) : EnvRel K φ H (ρ.set i (some d)) (σ.set i (some v)) := by
  refine ⟨by rw [List.length_set, List.length_set]; exact r.len, fun j e h => ?_⟩
  by_cases hj : i = j
  · subst hj
    by_cases hl : i < ρ.length
    · rw [List.getElem?_set_self hl] at h
      cases h
      exact ⟨v, List.getElem?_set_self (by rw [← r.len]; exact hl), q⟩
    · rw [List.getElem?_eq_none (by rw [List.length_set]; omega)] at h; cases h
  · rw [List.getElem?_set_ne hj] at h
    rw [List.getElem?_set_ne hj]
    exact r.at_ j e h
theorem EnvRel.unset {ρ : En} {σ : L2.St} (i : Nat) (r : EnvRel K φ H ρ σ) : EnvRel K φ H (ρ.set i none) (σ.set i none) := by
  refine ⟨by rw [List.length_set, List.length_set]; exact r.len, fun j e h => ?_⟩
  by_cases hj : i = j
  · subst hj
    by_cases hl : i < ρ.length
    · rw [List.getElem?_set_self hl] at h; cases h
    · rw [List.getElem?_eq_none (by rw [List.length_set]; omega)] at h; cases h
  · rw [List.getElem?_set_ne hj] at h
    rw [List.getElem?_set_ne hj]
    exact r.at_ j e h
theorem EnvRel.wipe {ρ : En} {σ : L2.St} (r : EnvRel K φ H ρ σ) : ∀ own : List Nat, EnvRel K φ H (wipeD ρ own) (L2.wipe σ own)
  | [] => r
  | v :: vs => (EnvRel.wipe r vs).unset v

/-- only the slots told have changed -/
structure Only (σ σ2 : L2.St) (slots : List Nat) : Prop where
  len : σ2.length = σ.length
  at_ : ∀ j : Nat, j ∉ slots → σ2[j]? = σ[j]?
theorem Only.refl (σ : L2.St) (s : List Nat) : Only σ σ s := ⟨rfl, fun _ _ => rfl⟩
theorem Only.set (σ : L2.St) (i : Nat) (o : Option V) : Only σ (σ.set i o) [i] := ⟨by simp, fun j h => by
  rw [List.getElem?_set_ne]; intro e; exact h (by simp [e])⟩
theorem Only.trans {σ σ1 σ2 : L2.St} {s t : List Nat} (a : Only σ σ1 s) (b : Only σ1 σ2 t) : Only σ σ2 (s ++ t) :=
  ⟨b.len.trans a.len, fun j h => by
    rw [List.mem_append, not_or] at h
    rw [b.at_ j h.2, a.at_ j h.1]⟩
theorem wipe_get (σ : L2.St) (j : Nat) : ∀ own : List Nat, (L2.wipe σ own)[j]? = if j ∈ own then (if j < σ.length then some none else none) else σ[j]?
  | [] => by rw [if_neg (by simp)]; rfl
  | v :: vs => by
    show ((L2.wipe σ vs).set v none)[j]? = _
    have ih := wipe_get σ j vs
    by_cases hv : v = j
    · subst hv
      rw [if_pos (by simp)]
      by_cases hl : v < σ.length
      · rw [if_pos hl, List.getElem?_set_self (by rw [L2.wipe_length]; exact hl)]
      · rw [if_neg hl, List.getElem?_eq_none (by rw [List.length_set, L2.wipe_length]; omega)]
    · rw [List.getElem?_set_ne hv, ih]
      by_cases hm : j ∈ vs
      · rw [if_pos hm, if_pos (List.mem_cons_of_mem _ hm)]
      · rw [if_neg hm, if_neg (by simp only [List.mem_cons, not_or]; exact ⟨Ne.symm hv, hm⟩)]
theorem Only.wipe {σ σ2 : L2.St} {s own : List Nat} (a : Only σ σ2 s) (h : ∀ i ∈ s, i ∈ own) : L2.wipe σ2 own = L2.wipe σ own := by
  apply List.ext_getElem?
  intro j
  rw [wipe_get, wipe_get, a.len]
  by_cases hm : j ∈ own
  · rw [if_pos hm, if_pos hm]
  · rw [if_neg hm, if_neg hm, a.at_ j fun z => hm (h j z)]
theorem Only.wipe2 {σ σ2 : L2.St} {s own : List Nat} (a : Only (L2.wipe σ own) σ2 s) (h : ∀ i ∈ s, i ∈ own) : L2.wipe σ2 own = L2.wipe σ own := by
  apply List.ext_getElem?
  intro j
  rw [wipe_get, wipe_get, a.len, L2.wipe_length]
  by_cases hm : j ∈ own
  · rw [if_pos hm, if_pos hm]
  · rw [if_neg hm, if_neg hm, a.at_ j fun z => hm (h j z), wipe_get, if_neg hm]

/-! ### what is wanted of an end -/
/-- what is wanted of an error that is let out -/
def PostX (K : PySem.W.Frag) (φ : List Addr) (H : Hp) (W : XK) (XD : KX) : Prop := ∀ (c : Str) (d : D) (S' : Sto) (cls : Value) (dx : Option Addr) (H' : Hp) (φ' : List Addr), Le φ φ' → TupLe H H' → SRel K φ' S' H' → ExcR K φ' H' c d cls dx → XD c d S' → W cls dx H'
theorem PostX.mono {W : XK} {XD : KX} (p : PostX K φ H W XD) (l : Le φ φ') (t : TupLe H H') : PostX K φ' H' W XD := fun c d S' cls dx H2 φ2 l2 t2 s r q => p c d S' cls dx H2 φ2 (l.trans l2) (t.trans t2) s r q
theorem PostX.no {W : XK} : PostX K φ H W noX := fun _ _ _ _ _ _ _ _ _ _ _ q => q.elim
def Post (K : PySem.W.Frag) (φ : List Addr) (H : Hp) (Q : VK) (QD : KQ) : Prop := ∀ (d : D) (S' : Sto) (v : V) (H' : Hp) (φ' : List Addr), Le φ φ' → TupLe H H' → SRel K φ' S' H' → Rep K φ' H' v d → QD d S' → Q v H'
def PostB (K : PySem.W.Frag) (φ : List Addr) (H : Hp) (Q : Bool → Hp → Prop) (QD : KB) : Prop := ∀ (b : Bool) (S' : Sto) (H' : Hp) (φ' : List Addr), Le φ φ' → TupLe H H' → SRel K φ' S' H' → QD b S' → Q b H'
def PostL (K : PySem.W.Frag) (φ : List Addr) (H : Hp) (Q : List V → Hp → Prop) (QD : KL) : Prop := ∀ (ds : List D) (S' : Sto) (vs : List V) (H' : Hp) (φ' : List Addr), Le φ φ' → TupLe H H' → SRel K φ' S' H' → RepL K φ' H' vs ds → QD ds S' → Q vs H'
def PostO (K : PySem.W.Frag) (φ : List Addr) (H : Hp) (Q : Option Int → Hp → Prop) (QD : Option Int → Sto → Prop) : Prop := ∀ (o : Option Int) (S' : Sto) (H' : Hp) (φ' : List Addr), Le φ φ' → TupLe H H' → SRel K φ' S' H' → QD o S' → Q o H'
theorem Post.mono {Q : VK} {QD : KQ} (p : Post K φ H Q QD) (l : Le φ φ') (t : TupLe H H') : Post K φ' H' Q QD := fun d S' v H2 φ2 l2 t2 s r q => p d S' v H2 φ2 (l.trans l2) (t.trans t2) s r q
theorem PostB.mono {Q : Bool → Hp → Prop} {QD : KB} (p : PostB K φ H Q QD) (l : Le φ φ') (t : TupLe H H') : PostB K φ' H' Q QD := fun d S' H2 φ2 l2 t2 s q => p d S' H2 φ2 (l.trans l2) (t.trans t2) s q
theorem PostL.mono {Q : List V → Hp → Prop} {QD : KL} (p : PostL K φ H Q QD) (l : Le φ φ') (t : TupLe H H') : PostL K φ' H' Q QD := fun d S' v H2 φ2 l2 t2 s r q => p d S' v H2 φ2 (l.trans l2) (t.trans t2) s r q
theorem PostO.mono {Q : Option Int → Hp → Prop} {QD : Option Int → Sto → Prop} (p : PostO K φ H Q QD) (l : Le φ φ') (t : TupLe H H') : PostO K φ' H' Q QD := fun d S' H2 φ2 l2 t2 s q => p d S' H2 φ2 (l.trans l2) (t.trans t2) s q
theorem Post.here {Q : VK} {QD : KQ} (p : Post K φ H Q QD) (s : SRel K φ S H) {v : V} {d : D} (r : Rep K φ H v d) (q : QD d S) : Q v H := p d S v H φ (Le.refl φ) (TupLe.refl H) s r q
theorem PostB.here {Q : Bool → Hp → Prop} {QD : KB} (p : PostB K φ H Q QD) (s : SRel K φ S H) {b : Bool} (q : QD b S) : Q b H := p b S H φ (Le.refl φ) (TupLe.refl H) s q
/-- a new tuple -/
theorem Post.tup {Q : VK} {QD : KQ} (p : Post K φ H Q QD) (s : SRel K φ S H) {vs : List V} {ds : List D} (r : RepL K φ H vs ds) (q : QD (.tup ds) S) {a : Addr} (h : H a = none) : Q (.ref a) (upd H a (.tup vs)) :=
  p _ S _ _ φ (Le.refl φ) (TupLe.new h) (s.new h) (.tup upd_same (r.mono (Le.refl φ) (TupLe.new h))) q
/-- a new list -/
theorem Post.lst {Q : VK} {QD : KQ} (p : Post K φ H Q QD) (s : SRel K φ S H) {vs : List V} {ds : List D} (r : RepL K φ H vs ds) (q : QD (.ref S.length) (S ++ [.lst ds])) {a : Addr} (h : H a = none) : Q (.ref a) (upd H a (.lst vs)) :=
  p _ _ _ _ (φ ++ [a]) (Le.app φ [a]) (TupLe.new h) (s.alloc h r) (.ref s.idx) q

/-! ### readings over data -/
def rOp (K : PySem.W.Frag) (f : D → D → Sto → KQ → Prop) : R2 := fun x y H Q => ∃ (dx dy : D) (S : Sto) (φ : List Addr) (QD : KQ), Rep K φ H x dx ∧ Rep K φ H y dy ∧ SRel K φ S H ∧ f dx dy S QD ∧ Post K φ H Q QD
def rCp (K : PySem.W.Frag) (op : CmpOp) : R2 := fun x y H Q => ∃ (dx dy : D) (S : Sto) (φ : List Addr) (QD : KB), Rep K φ H x dx ∧ Rep K φ H y dy ∧ SRel K φ S H ∧ dCmp op dx dy S QD ∧ ∀ b, QD b S → Q (.bl b) H
end

section
variable {X : Cx} {φ : List Addr} {H : Hp} {S : Sto}
theorem opD (op : Operator) : OpR X (binaryOp op) (rOp X.K (dOp op)) := by
  intro pins s σ H x y v u Q I rx ry h
  obtain ⟨dx, dy, S, φ, QD, hx, hy, hs, hw, hp⟩ := h
  unfold dOp at hw
  split at hw
  · cases hx; cases hy
    exact op_add pins s σ H _ _ v u Q I rx ry ⟨_, _, rfl, rfl, hp.here hs (.int _) hw⟩
  · cases hx; cases hy
    exact op_sub pins s σ H _ _ v u Q I rx ry ⟨_, _, rfl, rfl, hp.here hs (.int _) hw⟩
  · cases hx; cases hy
    rcases hw.1 with c | c | c
    · exact op_mul pins s σ H _ _ v u Q I rx ry ⟨_, _, rfl, rfl, .inl c, hp.here hs (.int _) hw.2⟩
    · exact op_mul pins s σ H _ _ v u Q I rx ry ⟨_, _, rfl, rfl, .inr c, hp.here hs (.int _) hw.2⟩
    · exact op_mulW pins s σ H _ _ v u Q I rx ry ⟨_, _, rfl, rfl, c, hp.here hs (.int _) hw.2⟩
  · cases hx; cases hy
    exact op_fdiv pins s σ H _ _ v u Q I rx ry ⟨_, _, rfl, rfl, hw.1, hp.here hs (.int _) hw.2⟩
  · cases hx; cases hy
    exact op_mod pins s σ H _ _ v u Q I rx ry ⟨_, _, rfl, rfl, hw.1, hp.here hs (.int _) hw.2⟩
  · cases hx; cases hy
    exact op_pow pins s σ H _ _ v u Q I rx ry ⟨_, _, rfl, rfl, hw.1, hp.here hs (.int _) hw.2⟩
  · cases hx; cases hy
    exact op_add_str pins s σ H _ _ v u Q I rx ry ⟨_, _, rfl, rfl, lim_le hw.1, hp.here hs (.str _) hw.2⟩
  · cases hx with
    | @tup a vs _ h1 r1 =>
      cases hy with
      | @tup b ws _ h2 r2 =>
        have e1 := r1.length
        have e2 := r2.length
        refine op_catA pins s σ H _ _ v u Q I rx ry ⟨a, b, vs, ws, rfl, rfl, SqT.of h1, SqT.of h2, lim_le (by rw [e1, e2]; exact hw.1), fun z => ?_, fun z z2 => ?_, fun _ _ p hpn => ?_⟩
        · subst z
          cases r1
          exact hp.here hs (.tup h2 r2) hw.2
        · subst z2
          cases r2
          have q := hw.2
          rw [List.append_nil] at q
          exact hp.here hs (.tup h1 r1) q
        · exact hp.tup hs (r1.app r2) hw.2 hpn
  · cases hx with
    | @ref a m hm =>
      cases hy with
      | @ref b n hn =>
        split at hw
        · rename_i xs ys e1 e2
          obtain ⟨vs, f1, r1⟩ := hs.ob _ _ _ hm e1
          obtain ⟨ws, f2, r2⟩ := hs.ob _ _ _ hn e2
          have l1 := r1.length
          have l2 := r2.length
          exact op_cat pins s σ H _ _ v u Q I rx ry ⟨a, b, vs, ws, rfl, rfl, f1, f2, lim_le (by rw [l1, l2]; exact hw.1), fun p hpn => hp.lst hs (r1.app r2) hw.2 hpn⟩
        · exact hw.elim
  · cases hx with
    | @ref a m hm =>
      cases hy
      split at hw
      · rename_i xs e1
        obtain ⟨vs, f1, r1⟩ := hs.ob _ _ _ hm e1
        have l1 := r1.length
        exact op_rep pins s σ H _ _ v u Q I rx ry ⟨a, _, vs, rfl, rfl, f1, hw.1.1, hw.1.2.1, lim_le (by rw [l1]; exact hw.1.2.2), fun p hpn => hp.lst hs (r1.rep _) hw.2 hpn⟩
      · exact hw.elim
  · cases hx; cases hy
    exact op_shl pins s σ H _ _ v u Q I rx ry ⟨_, _, rfl, rfl, hw.1, hp.here hs (.int _) hw.2⟩
  · cases hx; cases hy
    exact op_shr pins s σ H _ _ v u Q I rx ry ⟨_, _, rfl, rfl, hw.1, hp.here hs (.int _) hw.2⟩
  · cases hx; cases hy
    exact op_and pins s σ H _ _ v u Q I rx ry ⟨_, _, rfl, rfl, hp.here hs (.int _) hw⟩
  · cases hx; cases hy
    exact op_or pins s σ H _ _ v u Q I rx ry ⟨_, _, rfl, rfl, hp.here hs (.int _) hw⟩
  · cases hx; cases hy
    exact op_xor pins s σ H _ _ v u Q I rx ry ⟨_, _, rfl, rfl, hp.here hs (.int _) hw⟩
  · cases hx with
    | @tup a vs _ h1 r1 =>
      cases hy
      have l1 := r1.length
      obtain ⟨⟨g1, g2, g3, g4⟩, g5⟩ := hw
      refine op_repT pins s σ H _ _ v u Q I rx ry ⟨a, _, vs, rfl, rfl, SqT.of h1, fun z => ?_, g2, g3, by rw [l1]; exact g4, fun p hpn => hp.tup hs (r1.rep _) g5 hpn⟩
      subst z
      cases r1
      exact g1 rfl
  · exact hw.elim

theorem rep_none {K : PySem.W.Frag} {v : V} {d : D} (r : Rep K φ H v d) : decide (v = .non) = isNon d := by
  cases r <;> simp [isNon]
/-- a tuple is a key -/
theorem keyT {pins : List (Addr × Obj)} {σ : L2.St} {s : Shared} {a : Addr} {ks : List L2.Key} (I : Inv X pins σ H s) (h : SqT X.K H a (ks.map kV)) : (tupleKind (mixKind X.prog X.w)).is s.heap ks a := by
  obtain ⟨its, r, ⟨o, h1, h2, n, h3⟩, _⟩ := I.tuple h
  exact ⟨o, its.toArray, n, h1, h2, h3, by simpa using items_are r⟩
theorem key1_rep {K : PySem.W.Frag} {v : V} {d : D} {k : L2.Key} (r : Rep K φ H v d) (h : key1 d = some k) : v = kV k := by
  cases r <;> simp only [key1, Option.some.injEq, reduceCtorEq] at h <;> subst h <;> rfl
theorem keyL_rep {K : PySem.W.Frag} : ∀ {ds : List D} {vs : List V} {ks : List L2.Key}, RepL K φ H vs ds → keyL ds = some ks → vs = ks.map kV
  | [], _, _, r, h => by cases r; cases h; rfl
  | d :: ds, _, _, .cons r t, h => by
    unfold keyL at h
    split at h
    · rename_i k ks e1 e2
      cases h
      rw [key1_rep r e1, keyL_rep t e2]; rfl
    · cases h
theorem keyOf_rep {K : PySem.W.Frag} {v : V} {d : D} {ks : List L2.Key} (r : Rep K φ H v d) (h : keyOf d = some ks) : ∃ a, v = .ref a ∧ H a = some (.tup (ks.map kV)) := by
  cases r with
  | @tup a vs ds h1 r1 => exact ⟨a, rfl, by rw [← keyL_rep r1 h]; exact h1⟩
  | _ => cases h
/-- what is found in a dict -/
theorem val_rep {α : Type} [DecidableEq α] {K : PySem.W.Frag} : ∀ {vs : List (α × V)} {kvs : List (α × D)} (k : α), vs.map (·.1) = kvs.map (·.1) → RepL K φ H (vs.map (·.2)) (kvs.map (·.2)) →
    (valD kvs k = none ∧ valV vs k = none) ∨ ∃ d v, valD kvs k = some d ∧ valV vs k = some v ∧ Rep K φ H v d
  | [], [], _, _, _ => .inl ⟨rfl, rfl⟩
  | [], _ :: _, _, h, _ => by cases h
  | _ :: _, [], _, h, _ => by cases h
  | (a, v) :: vs, (b, d) :: kvs, k, h, r => by
    simp only [List.map_cons, List.cons.injEq] at h
    obtain ⟨rfl, h⟩ := h
    cases r with
    | cons r t =>
      by_cases e : a = k
      · exact .inr ⟨d, v, by simp [valD, e], valV_pos e, r⟩
      · have e1 : valD ((a, d) :: kvs) k = valD kvs k := by simp [valD, e]
        have e2 : valV ((a, v) :: vs) k = valV vs k := valV_neg e
        rw [e1, e2]
        exact val_rep k h t
theorem put_rep {α : Type} [DecidableEq α] {K : PySem.W.Frag} {v : V} {d : D} (r : Rep K φ H v d) (k : α) : ∀ {vs : List (α × V)} {kvs : List (α × D)}, vs.map (·.1) = kvs.map (·.1) → RepL K φ H (vs.map (·.2)) (kvs.map (·.2)) →
    (putK vs k v).map (·.1) = (putD kvs k d).map (·.1) ∧ RepL K φ H ((putK vs k v).map (·.2)) ((putD kvs k d).map (·.2)) := by
  intro vs kvs h q
  have an : (vs.any fun kv => decide (kv.1 = k)) = (kvs.any fun kv => decide (kv.1 = k)) := by
    have : ∀ {β : Type} (l : List (α × β)), (l.any fun kv => decide (kv.1 = k)) = ((l.map (·.1)).any fun z => decide (z = k)) := fun l => by rw [List.any_map]; rfl
    rw [this, this, h]
  unfold putK putD
  rw [an]
  split
  · have : ∀ {vs : List (α × V)} {kvs : List (α × D)}, vs.map (·.1) = kvs.map (·.1) → RepL K φ H (vs.map (·.2)) (kvs.map (·.2)) →
        (vs.map fun kv => if kv.1 = k then (kv.1, v) else kv).map (·.1) = (kvs.map fun kv => if kv.1 = k then (kv.1, d) else kv).map (·.1) ∧ RepL K φ H ((vs.map fun kv => if kv.1 = k then (kv.1, v) else kv).map (·.2)) ((kvs.map fun kv => if kv.1 = k then (kv.1, d) else kv).map (·.2)) := by
      intro vs
      induction vs with
      | nil => intro kvs h q; cases kvs with
        | nil => exact ⟨rfl, .nil⟩
        | cons => cases h
      | cons p vs ih => intro kvs h q; cases kvs with
        | nil => cases h
        | cons b kvs =>
          simp only [List.map_cons, List.cons.injEq] at h
          cases q with
          | cons q1 q2 =>
            obtain ⟨i1, i2⟩ := ih h.2 q2
            simp only [List.map_cons]
            rw [← h.1, i1]
            by_cases e : p.1 = k
            · rw [if_pos e, if_pos (h.1 ▸ e)]
              exact ⟨by simp [h.1], .cons r i2⟩
            · rw [if_neg e, if_neg (h.1 ▸ e)]
              exact ⟨by simp [h.1], .cons q1 i2⟩
    exact this h q
  · rw [List.map_append, List.map_append, List.map_append, List.map_append, h]
    exact ⟨rfl, q.app (.cons r .nil)⟩
/-- a dict with int and text keys, free or walked -/
theorem dk_at {K : PySem.W.Frag} {n : Nat} {a : Addr} {kvs : List (L2.Key × D)} (hs : SRel K φ S H) (hn : φ[n]? = some a) (h : dkOf S[n]? = some kvs) : ∃ vs, Rd H a (.dK vs) ∧ vs.map (·.1) = kvs.map (·.1) ∧ RepL K φ H (vs.map (·.2)) (kvs.map (·.2)) := by
  cases e : S[n]? with
  | none => rw [e] at h; cases h
  | some o =>
    rw [e] at h
    cases o with
    | dk ks =>
      cases h
      obtain ⟨vs, f1, f2, f3⟩ := hs.ob _ _ _ hn e
      exact ⟨vs, .inl f1, f2, f3⟩
    | dkl ks =>
      cases h
      obtain ⟨od, vs, f1, f2, f3⟩ := hs.ob _ _ _ hn e
      exact ⟨vs, .inr ⟨od, f1⟩, f2, f3⟩
    | _ => cases h
theorem dk_get {K : PySem.W.Frag} {n : Nat} {a : Addr} {kvs : List (L2.Key × D)} {y : V} {dy : D} {k : L2.Key} (hs : SRel K φ S H) (hn : φ[n]? = some a) (h : dkOf S[n]? = some kvs) (ry : Rep K φ H y dy) (hk : key1 dy = some k) :
    (valD kvs k = none ∧ DGet H a y none) ∨ ∃ d v, valD kvs k = some d ∧ DGet H a y (some v) ∧ Rep K φ H v d := by
  obtain ⟨vs, f1, f2, f3⟩ := dk_at hs hn h
  have ek := key1_rep ry hk
  rcases val_rep k f2 f3 with ⟨v1, v2⟩ | ⟨d, v, v1, v2, rv⟩
  · exact .inl ⟨v1, .inl ⟨vs, k, f1, ek, v2.symm⟩⟩
  · exact .inr ⟨d, v, v1, .inl ⟨vs, k, f1, ek, v2.symm⟩, rv⟩
/-- x in a dict -/
theorem inA {x y : V} {dx dy : D} {QB : KB} {P : Prop} (hs : SRel X.K φ S H) (hx : Rep X.K φ H x dx) (hy : Rep X.K φ H y dy) (hw : dInA dx dy S QB) (h1 : dIn dx dy S QB → P) (h2 : ∀ a o, y = .ref a → DGet H a x o → QB o.isSome S → P) : P := by
  unfold dInA at hw
  split at hw
  · rename_i n
    split at hw
    · rename_i kvs e
      obtain ⟨k, e1, q⟩ := hw
      cases hy with
      | @ref a _ hn =>
        obtain ⟨vs, f1, f2, f3⟩ := hs.ob _ _ _ hn e
        obtain ⟨b, rfl, hb⟩ := keyOf_rep hx e1
        refine h2 a (valV vs k) rfl (DGet.t f1 hb) ?_
        rcases val_rep k f2 f3 with ⟨v1, v2⟩ | ⟨d, v, v1, v2, _⟩
        · rw [v1] at q; rw [v2]; exact q
        · rw [v1] at q; rw [v2]; exact q
    · rename_i kvs e
      obtain ⟨k, e1, q⟩ := hw
      cases hy with
      | @ref a _ hn =>
        rcases dk_get hs hn (by rw [e]; rfl) hx e1 with ⟨v1, g⟩ | ⟨d, v, v1, g, _⟩
        · exact h2 a _ rfl g (by rw [v1] at q; exact q)
        · exact h2 a _ rfl g (by rw [v1] at q; exact q)
    · rename_i kvs e
      obtain ⟨k, e1, q⟩ := hw
      cases hy with
      | @ref a _ hn =>
        rcases dk_get hs hn (by rw [e]; rfl) hx e1 with ⟨v1, g⟩ | ⟨d, v, v1, g, _⟩
        · exact h2 a _ rfl g (by rw [v1] at q; exact q)
        · exact h2 a _ rfl g (by rw [v1] at q; exact q)
    · exact h1 hw
  · exact h1 hw
theorem cpD (op : CmpOp) (hu : X.A.units + 66 < cLine) : OpR X (compareOp op) (rCp X.K op) := by
  intro pins s σ H x y v u Q I rx ry h
  obtain ⟨dx, dy, S, φ, QD, hx, hy, hs, hw, hp⟩ := h
  cases op with
  | Eq =>
    obtain ⟨p, q, e1, e2, s1, s2, k⟩ := hw
    exact op_eqD (by omega) pins s σ H _ _ v u Q I rx ry ⟨p, q, dp_of hs _ _ _ _ hx e1, dp_of hs _ _ _ _ hy e2, s1, s2, hp _ k⟩
  | NotEq =>
    obtain ⟨p, q, e1, e2, s1, s2, k⟩ := hw
    exact op_neD (by omega) pins s σ H _ _ v u Q I rx ry ⟨p, q, dp_of hs _ _ _ _ hx e1, dp_of hs _ _ _ _ hy e2, s1, s2, hp _ k⟩
  | In =>
    refine inA hs hx hy (show dInA dx dy S QD from hw) (fun hw => ?_) fun a o ey g q => (by
      subst ey
      cases ry
      exact d_in (by omega) I g rx fun s3 I3 => ⟨.bl o.isSome, H, I3, rfl, hp _ q⟩)
    obtain ⟨p, q, e1, e2, s1, s2, k⟩ := hw
    have hd := dp_of hs _ _ _ _ hx e1
    have he := dp_of hs _ _ _ _ hy e2
    rcases k with ⟨qs, rfl, k⟩ | ⟨qs, rfl, k⟩
    · obtain ⟨as, q1⟩ := Dp.reads I _ x v hd rx
      obtain ⟨bs, q2⟩ := Dp.reads I _ y u he ry
      have hroom : X.A.units + 1 + min (PyData.depthAll qs) p.depth < cLine := by
        have := SeqAt.depth_of_shaped s1
        omega
      exact SeqAt.in_tuple_reads q2 q1 (by have := SeqAt.canLay_of_shaped s2; simpa [PyData.canLay0] using this) (SeqAt.canLay_of_shaped s1) hroom ⟨.bl _, H, I, rfl, hp _ k⟩
    · exact op_inD (by omega) pins s σ H _ _ v u Q I rx ry ⟨p, qs, hd, he, s1, s2, hp _ k⟩
  | NotIn =>
    refine inA hs hx hy (show dInA dx dy S (fun b S' => QD (!b) S') from hw) (fun hw => ?_) fun a o ey g q => (by
      subst ey
      cases ry
      exact d_notIn (by omega) I g rx fun s3 I3 => ⟨.bl (!o.isSome), H, I3, rfl, hp _ q⟩)
    obtain ⟨p, q, e1, e2, s1, s2, k⟩ := hw
    have hd := dp_of hs _ _ _ _ hx e1
    have he := dp_of hs _ _ _ _ hy e2
    rcases k with ⟨qs, rfl, k⟩ | ⟨qs, rfl, k⟩
    · obtain ⟨as, q1⟩ := Dp.reads I _ x v hd rx
      obtain ⟨bs, q2⟩ := Dp.reads I _ y u he ry
      have hroom : X.A.units + 1 + min (PyData.depthAll qs) p.depth < cLine := by
        have := SeqAt.depth_of_shaped s1
        omega
      exact SeqAt.notIn_tuple_reads q2 q1 (by have := SeqAt.canLay_of_shaped s2; simpa [PyData.canLay0] using this) (SeqAt.canLay_of_shaped s1) hroom ⟨.bl _, H, I, rfl, hp _ k⟩
    · exact op_notInD (by omega) pins s σ H _ _ v u Q I rx ry ⟨p, qs, hd, he, s1, s2, hp _ k⟩
  | Lt =>
    simp only [dCmp] at hw
    split at hw
    · cases hx; cases hy
      exact op_lt pins s σ H _ _ v u Q I rx ry ⟨_, _, rfl, rfl, hp _ hw⟩
    · exact hw.elim
  | LtE =>
    simp only [dCmp] at hw
    split at hw
    · cases hx; cases hy
      exact op_le pins s σ H _ _ v u Q I rx ry ⟨_, _, rfl, rfl, hp _ hw⟩
    · exact hw.elim
  | Gt =>
    simp only [dCmp] at hw
    split at hw
    · cases hx; cases hy
      exact op_gt pins s σ H _ _ v u Q I rx ry ⟨_, _, rfl, rfl, hp _ hw⟩
    · exact hw.elim
  | GtE =>
    simp only [dCmp] at hw
    split at hw
    · cases hx; cases hy
      exact op_ge pins s σ H _ _ v u Q I rx ry ⟨_, _, rfl, rfl, hp _ hw⟩
    · exact hw.elim
  | Is =>
    simp only [dCmp] at hw
    split at hw
    · cases hy
      refine op_isN pins s σ H _ _ v u Q I rx ry ⟨rfl, ?_⟩
      rw [rep_none hx]
      exact hp _ hw
    · cases hx; cases hy
      exact op_is_bl pins s σ H _ _ v u Q I rx ry ⟨_, _, rfl, rfl, hp _ hw⟩
    · exact hw.elim
  | IsNot =>
    simp only [dCmp] at hw
    split at hw
    · cases hy
      refine op_notN pins s σ H _ _ v u Q I rx ry ⟨rfl, ?_⟩
      rw [rep_none hx]
      exact hp _ hw
    · cases hx; cases hy
      exact op_isnot_bl pins s σ H _ _ v u Q I rx ry ⟨_, _, rfl, rfl, hp _ hw⟩
    · exact hw.elim

theorem truD {K : PySem.W.Frag} {v : V} {d : D} {QB : KB} (s : SRel K φ S H) (r : Rep K φ H v d) (h : dTru d S QB) : ∃ k, TruV K v H k ∧ QB k S := by
  cases r with
  | non => exact ⟨false, rfl, h⟩
  | bl b => exact ⟨b, rfl, h⟩
  | int i => exact ⟨_, rfl, h⟩
  | str x => exact ⟨_, ⟨lim_le h.1, rfl⟩, h.2⟩
  | ty n => exact h.elim
  | fnv _ => exact h.elim
  | @tup a vs ds h1 r1 =>
    have e : vs.isEmpty = ds.isEmpty := by cases r1 <;> rfl
    exact ⟨!vs.isEmpty, .inr (.inl ⟨vs, SqT.of h1, rfl⟩), by rw [e]; exact h⟩
  | @ktup a vs ds h1 r1 =>
    have e : vs.isEmpty = ds.isEmpty := by cases r1 <;> rfl
    exact ⟨!vs.isEmpty, .inr (.inl ⟨vs, h1, rfl⟩), by rw [e]; exact h⟩
  | @rol a vs ds h1 r1 =>
    have e : vs.isEmpty = ds.isEmpty := by cases r1 <;> rfl
    exact ⟨!vs.isEmpty, .inl ⟨vs, h1.l, rfl⟩, by rw [e]; exact h⟩
  | @ref a n hn =>
    unfold dTru at h
    simp only at h
    split at h
    · rename_i xs e1
      obtain ⟨vs, f1, r1⟩ := s.ob _ _ _ hn e1
      have e : vs.isEmpty = xs.isEmpty := by cases r1 <;> rfl
      exact ⟨!vs.isEmpty, .inl ⟨vs, SqL.of f1, rfl⟩, by rw [e]; exact h⟩
    · exact h.elim

theorem atI_rep {K : PySem.W.Frag} {vs : List V} {ds : List D} {k : Int} {d : D} (r : RepL K φ H vs ds) (h : atI ds k = some d) : ∃ v, atI vs k = some v ∧ Rep K φ H v d := by
  unfold atI at h ⊢
  rw [r.length]
  cases e : ixN ds.length k with
  | none => rw [e] at h; cases h
  | some j =>
    rw [e] at h
    exact r.get h
theorem ixD (hu : X.A.units + 66 < cLine) : IxR X (rOp X.K dIdx) := by
  intro value slice pins s σ H x y v u Q I rx ry h hsb
  obtain ⟨dx, dy, S, φ, QD, hx, hy, hs, hw, hp⟩ := h
  unfold dIdx at hw
  split at hw
  · cases hy
    cases hx with
    | @tup a vs ds h1 r1 =>
      obtain ⟨w, e, q⟩ := hw
      obtain ⟨v', e', rv⟩ := atI_rep r1 e
      exact ix_tup value slice pins s σ H _ _ v u Q I rx ry ⟨a, vs, _, v', rfl, rfl, SqT.of h1, e', hp.here hs rv q⟩ hsb
  · cases hy
    cases hx with
    | @ktup a vs ds h1 r1 =>
      obtain ⟨w, e, q⟩ := hw
      obtain ⟨v', e', rv⟩ := atI_rep r1 e
      exact ix_tup value slice pins s σ H _ _ v u Q I rx ry ⟨a, vs, _, v', rfl, rfl, h1, e', hp.here hs rv q⟩ hsb
  · cases hy
    cases hx with
    | @rol a vs ds h1 r1 =>
      obtain ⟨w, e, q⟩ := hw
      obtain ⟨v', e', rv⟩ := atI_rep r1 e
      exact ix_list value slice pins s σ H _ _ v u Q I rx ry ⟨a, vs, _, v', rfl, rfl, h1.l, e', hp.here hs rv q⟩ hsb
  · cases hy
    cases hx with
    | @ref a n hn =>
      split at hw
      · rename_i xs e1
        obtain ⟨vs, f1, r1⟩ := hs.ob _ _ _ hn e1
        obtain ⟨w, e, q⟩ := hw
        obtain ⟨v', e', rv⟩ := atI_rep r1 e
        exact ix_list value slice pins s σ H _ _ v u Q I rx ry ⟨a, vs, _, v', rfl, rfl, SqL.of f1, e', hp.here hs rv q⟩ hsb
      · obtain ⟨kvs, w, e1, e2, q⟩ := hw
        rcases dk_get hs hn e1 (.int _) rfl with ⟨v1, g⟩ | ⟨d, v', v1, g, rv⟩
        · rw [v1] at e2; cases e2
        · rw [v1] at e2
          cases e2
          obtain rfl : v = Value.ref a := rx
          exact tail_any (dict_typeIs I g) PySem.F.slot_dict_getitem.lookup (d_getItem (by omega) I g ry fun w' s3 I3 rw' => ⟨v', H, I3, rw', hp.here hs rv q⟩) hsb
  · cases hy
    cases hx with
    | @ref a n hn =>
      obtain ⟨kvs, w, e1, e2, q⟩ := hw
      rcases dk_get hs hn e1 (.str _) rfl with ⟨v1, g⟩ | ⟨d, v', v1, g, rv⟩
      · rw [v1] at e2; cases e2
      · rw [v1] at e2
        cases e2
        obtain rfl : v = Value.ref a := rx
        exact tail_any (dict_typeIs I g) PySem.F.slot_dict_getitem.lookup (d_getItem (by omega) I g ry fun w' s3 I3 rw' => ⟨v', H, I3, rw', hp.here hs rv q⟩) hsb
  · cases hx with
    | @ref a n hn =>
      split at hw
      · rename_i kvs e1
        obtain ⟨vs, f1, f2, f3⟩ := hs.ob _ _ _ hn e1
        obtain ⟨k, w, e2, e3, q⟩ := hw
        obtain ⟨b, rfl, hb⟩ := keyOf_rep (ks := k) hy e2
        rcases val_rep k f2 f3 with ⟨v1, v2⟩ | ⟨d, v', v1, v2, rv⟩
        · rw [v1] at e3; cases e3
        · rw [v1] at e3
          cases e3
          have g : DGet H a (.ref b) (some v') := by rw [← v2]; exact DGet.t f1 hb
          obtain rfl : v = Value.ref a := rx
          exact tail_any (dict_typeIs I g) PySem.F.slot_dict_getitem.lookup (d_getItem (by omega) I g ry fun w' s3 I3 rw' => ⟨v', H, I3, rw', hp.here hs rv q⟩) hsb
      · exact hw.elim
  · exact hw.elim

theorem cut_rep {K : PySem.W.Frag} {vs : List V} {ds : List D} (r : RepL K φ H vs ds) (lo hi : Option Int) : RepL K φ H (cutV vs lo hi) (cutD ds lo hi) := by
  unfold cutV cutD
  rw [r.length]
  exact (r.drop _).take _
theorem cut_whole {ds : List D} {lo hi : Option Int} (h : HT.sIx ds.length 0 lo = 0 ∧ HT.sIx ds.length ds.length hi = ds.length) : cutD ds lo hi = ds := by
  unfold cutD
  rw [h.1, h.2]
  simp
def rSl (K : PySem.W.Frag) : V → Option Int → Option Int → Hp → VK → Prop := fun x lo hi H Q => ∃ (dx : D) (S : Sto) (φ : List Addr) (QD : KQ), Rep K φ H x dx ∧ SRel K φ S H ∧ dSlc dx lo hi S QD ∧ Post K φ H Q QD
theorem slD : SlR X (rSl X.K) := by
  intro pins s σ H x v vl vu lo hi sl Q I rx hsl pl pu h
  obtain ⟨dx, S, φ, QD, hx, hs, hw, hp⟩ := h
  cases hx with
  | @tup a vs ds h1 r1 =>
    have e1 := r1.length
    refine sl_tupA pins s σ H _ v vl vu lo hi sl Q I rx hsl pl pu ⟨a, vs, rfl, SqT.of h1, fun z => ?_, fun _ p hpn => hp.tup hs (cut_rep r1 lo hi) hw hpn⟩
    have q : QD (.tup (cutD ds lo hi)) S := hw
    rw [e1] at z
    rw [cut_whole z] at q
    exact hp.here hs (.tup h1 r1) q
  | @rol a vs ds h1 r1 =>
    exact sl_list pins s σ H _ v vl vu lo hi sl Q I rx hsl pl pu ⟨a, vs, rfl, h1.l, fun p hpn => hp.lst hs (cut_rep r1 lo hi) hw hpn⟩
  | @ref a n hn =>
    unfold dSlc at hw
    simp only at hw
    split at hw
    · rename_i xs e1
      obtain ⟨vs, f1, r1⟩ := hs.ob _ _ _ hn e1
      exact sl_list pins s σ H _ v vl vu lo hi sl Q I rx hsl pl pu ⟨a, vs, rfl, SqL.of f1, fun p hpn => hp.lst hs (cut_rep r1 lo hi) hw hpn⟩
    · exact hw.elim
  | non => exact hw.elim
  | bl b => exact hw.elim
  | int i => exact hw.elim
  | str z =>
    exact sl_str pins s σ H _ v vl vu lo hi sl Q I rx hsl pl pu ⟨z, rfl, lim_le hw.1, hp.here hs (.str _) hw.2⟩
  | ty n => exact hw.elim
  | fnv _ => exact hw.elim
  | ktup h1 r1 => exact hw.elim

/-! ### built-ins -/
theorem items_rep {K : PySem.W.Frag} {v : V} {d : D} {xs : List D} (s : SRel K φ S H) (r : Rep K φ H v d) (h : items S d = some xs) : ∃ a vs, v = .ref a ∧ (SqL K H a vs ∨ SqT K H a vs) ∧ RepL K φ H vs xs := by
  cases r with
  | @tup a vs ds h1 r1 => cases h; exact ⟨a, vs, rfl, .inr (SqT.of h1), r1⟩
  | @ktup a vs ds h1 r1 => cases h; exact ⟨a, vs, rfl, .inr h1, r1⟩
  | @rol a vs ds h1 r1 => cases h; exact ⟨a, vs, rfl, .inl h1.l, r1⟩
  | @ref a n hn =>
    unfold items at h
    simp only at h
    split at h
    · rename_i ys e1
      cases h
      obtain ⟨vs, f1, r1⟩ := s.ob _ _ _ hn e1
      exact ⟨a, vs, rfl, .inl (SqL.of f1), r1⟩
    · cases h
  | non => cases h
  | bl b => cases h
  | int i => cases h
  | str z => cases h
  | ty n => cases h
  | fnv _ => cases h
theorem bools_rep {K : PySem.W.Frag} : ∀ {ds : List D} {vs : List V} {bs : List Bool}, RepL K φ H vs ds → bools ds = some bs → vs = bs.map V.bl
  | [], _, _, .nil, h => by cases h; rfl
  | d :: ds, _, bs, .cons r t, h => by
    cases d with
    | bl b =>
      cases r
      simp only [bools] at h
      cases e : bools ds with
      | none => rw [e] at h; cases h
      | some cs => rw [e] at h; cases h; rw [bools_rep t e]; rfl
    | _ => cases h
theorem ty_rep {K : PySem.W.Frag} {v : V} {d : D} (s : SRel K φ S H) (r : Rep K φ H v d) (h : ∀ n, d ≠ .ty n) (h' : ∀ n, d ≠ .fnv n) (hS : ∀ n, d = .ref n → ∃ xs, S[n]? = some (.lst xs)) : TyX K H v (.type (tyOf d)) := by
  cases r with
  | non => exact .base .non
  | bl b => exact .base (.bl b)
  | int i => exact .base (.int i)
  | str z => exact .base (.str z)
  | ty n => exact absurd rfl (h n)
  | fnv _ => exact absurd rfl (h' _)
  | @tup a vs ds h1 r1 => exact .base (.tup h1)
  | @ktup a vs ds h1 r1 =>
    rcases h1 with (h1 | ⟨o, h1⟩) | ⟨o, its, n, hk, hc, _⟩
    · exact .base (.tup h1)
    · exact .fTuple h1
    · exact .kTuple hk hc
  | @rol a vs ds h1 r1 =>
    rcases h1 with ⟨o, h1⟩ | ⟨o, its, n, hk, hc, _⟩
    · exact .base (.frz h1)
    · exact .kList hk hc
  | @ref a n hn =>
    obtain ⟨xs, e⟩ := hS n rfl
    obtain ⟨vs, f1, r1⟩ := s.ob _ _ _ hn e
    exact .base (.lst f1)
def rBl (K : PySem.W.Frag) (f : Bn) : List V → Hp → VK → Prop := fun vs H Q => ∃ (ds : List D) (S : Sto) (φ : List Addr) (QD : KQ), RepL K φ H vs ds ∧ SRel K φ S H ∧ dBlt f ds S QD ∧ Post K φ H Q QD
def bnV : Bn → Value
  | .len => .builtin "len" | .isinst => .builtin "isinstance" | .all => .builtin "all" | .any => .builtin "any" | .abs => .builtin "abs" | .int => .type "int" | .min2 => .builtin "min" | .max2 => .builtin "max" | .list => .type "list" | .tuple => .type "tuple" | .sum => .builtin "sum" | .sorted => .builtin "sorted" | .str => .type "str"
theorem ref_lt {K : PySem.W.Frag} {a : Addr} {n : Nat} (s : SRel K φ S H) (h : φ[n]? = some a) : n < S.length := by rw [← s.len]; exact (List.getElem?_eq_some_iff.mp h).1
theorem repL1 {K : PySem.W.Frag} {vs : List V} {d : D} (r : RepL K φ H vs [d]) : ∃ v, vs = [v] ∧ Rep K φ H v d := by
  cases r with
  | cons r t => cases t; exact ⟨_, rfl, r⟩
theorem repL2 {K : PySem.W.Frag} {vs : List V} {d e : D} (r : RepL K φ H vs [d, e]) : ∃ v w, vs = [v, w] ∧ Rep K φ H v d ∧ Rep K φ H w e := by
  cases r with
  | cons r t => cases t with
    | cons r2 t2 => cases t2; exact ⟨_, _, rfl, r, r2⟩
theorem int1 {v : V} {d : D} {K : PySem.W.Frag} {k : Int → Prop} (r : Rep K φ H v d) (h : dInt1 d k) : ∃ i, v = .int i ∧ k i := by
  cases r with
  | int i => exact ⟨i, rfl, h⟩
  | _ => exact False.elim h
theorem bools1 {v : V} {d : D} {K : PySem.W.Frag} {k : List Bool → Prop} (s : SRel K φ S H) (r : Rep K φ H v d) (h : dBools d S k) : ∃ a bs, v = .ref a ∧ SqL K H a (bs.map V.bl) ∧ k bs := by
  cases r with
  | @ref a n hn =>
    simp only [dBools] at h
    split at h
    · rename_i xs e
      split at h
      · rename_i bs e2
        obtain ⟨vs, f1, r1⟩ := s.ob _ _ _ hn e
        have := bools_rep r1 e2
        subst this
        exact ⟨a, bs, rfl, SqL.of f1, h⟩
      · exact h.elim
    · exact h.elim
  | _ => exact False.elim h
theorem ints_vs {K : PySem.W.Frag} : ∀ {xs : List D} {vs : List V} {is : List Int}, RepL K φ H vs xs → allI xs = some is → vs = is.map V.int
  | [], _, _, r, e => by cases r; cases e; rfl
  | d :: ds, _, _, r, e => by
    cases r with
    | cons r t =>
      cases d with
      | int i =>
        simp only [allI, Option.map_eq_some_iff] at e
        obtain ⟨js, e, rfl⟩ := e
        cases r
        rw [ints_vs t e]
        rfl
      | _ => cases e
theorem ints1 {v : V} {d : D} {K : PySem.W.Frag} {k : List Int → Prop} (s : SRel K φ S H) (r : Rep K φ H v d) (h : dInts d S k) : ∃ a is, v = .ref a ∧ (SqL K H a (is.map V.int) ∨ SqT K H a (is.map V.int)) ∧ k is := by
  cases r with
  | @ref a n hn =>
    simp only [dInts] at h
    split at h
    · rename_i xs e
      split at h
      · rename_i is e2
        obtain ⟨vs, f1, r1⟩ := s.ob _ _ _ hn e
        have := ints_vs r1 e2
        subst this
        exact ⟨a, is, rfl, .inl (SqL.of f1), h⟩
      · exact h.elim
    · exact h.elim
  | @rol a vs ds h1 r1 =>
    simp only [dInts] at h
    split at h
    · rename_i is e2
      have := ints_vs r1 e2
      subst this
      exact ⟨a, is, rfl, .inl h1.l, h⟩
    · exact h.elim
  | @tup a vs ds h1 r1 =>
    simp only [dInts] at h
    split at h
    · rename_i is e2
      have := ints_vs r1 e2
      subst this
      exact ⟨a, is, rfl, .inr (SqT.of h1), h⟩
    · exact h.elim
  | _ => exact False.elim h
/-- sum of a tuple of ints -/
theorem sum_tupV {pins : List (Addr × Obj)} {σ : L2.St} {s : Shared} {a : Addr} {is : List Int} {Q : Value → Shared → Prop} {A : Around} {E : Value → Shared → Prop} (hh : A.handled = none) (I : Inv X pins σ H s) (h : SqT X.K H a (is.map V.int)) (q : ∀ h' tk t', (∀ b o, s.heap.get? b = some o → h'.get? b = some o) → Q (.int is.sum t') { s with heap := h', toks := tk }) :
    wpAny (model X.prog X.w) A (call (.builtin "sum") [.ref a]) Q E s := by
  obtain ⟨its, rv, p, _⟩ := I.tuple h
  have hi := rv.ints
  obtain ⟨xs, e⟩ := hi.allInts.items
  have hn : numsOf (intItems xs).toList = is := by rw [← e]; exact hi.numsOf
  rw [nums_intItems] at hn
  have p' : s.heap.IsTuple a (intItems xs) := by rw [← e]; exact p
  refine PySem.W.ktm_sumG hh p' fun h' tk t' hk => ?_
  have := q h' tk t' hk
  rw [preSum_eq, List.take_of_length_le (by simp), hn]
  exact this
theorem cr_sumT (hc : X.calm = true) : CallR X (.builtin "sum") (fun vs H Q => ∃ (a : Addr) (is : List Int), vs = [V.ref a] ∧ (SqL X.K H a (is.map V.int) ∨ SqT X.K H a (is.map V.int)) ∧ Q (.int is.sum) H) := by
  intro pins s σ H vs us Q I r h
  obtain ⟨a, is, rfl, hs | hs, q⟩ := h
  · exact cr_sum hc pins s σ H _ us Q I r ⟨a, is, rfl, hs, q⟩
  · rw [Vals.ref1 r]
    exact sum_tupV (I.ok.hd hc) I hs fun h' tk t' hk => ⟨.int _, H, I.kept hk, ⟨_, rfl⟩, q⟩
theorem items1 {v : V} {d : D} {K : PySem.W.Frag} {k : List D → Prop} (s : SRel K φ S H) (r : Rep K φ H v d) (h : dItems d S k) : ∃ a vs xs, v = .ref a ∧ (SqL K H a vs ∨ (SqT K H a vs ∧ Rep K φ H v (.tup xs)) ∨ (SqT K H a vs ∧ d = .ktup xs)) ∧ RepL K φ H vs xs ∧ k xs := by
  unfold dItems at h
  split at h
  · rename_i xs e
    cases r with
    | @tup a vs ds h1 r1 => cases e; exact ⟨a, vs, _, rfl, .inr (.inl ⟨SqT.of h1, .tup h1 r1⟩), r1, h⟩
    | @ktup a vs ds h1 r1 => cases e; exact ⟨a, vs, _, rfl, .inr (.inr ⟨h1, rfl⟩), r1, h⟩
    | @rol a vs ds h1 r1 => cases e; exact ⟨a, vs, _, rfl, .inl h1.l, r1, h⟩
    | @ref a n hn =>
      unfold items at e
      simp only at e
      split at e
      · rename_i ys e1
        cases e
        obtain ⟨vs, f1, r1⟩ := s.ob _ _ _ hn e1
        exact ⟨a, vs, _, rfl, .inl (SqL.of f1), r1, h⟩
      · cases e
    | _ => cases e
  · exact h.elim
theorem strs_repD {K : PySem.W.Frag} : ∀ xs : List Str, RepL K φ H (xs.map V.str) (xs.map D.str)
  | [] => .nil
  | x :: xs => .cons (.str x) (strs_repD xs)
theorem strs_vs {K : PySem.W.Frag} : ∀ {xs : List D} {vs : List V} {ys : List Str}, RepL K φ H vs xs → allS xs = some ys → vs = ys.map V.str
  | [], _, _, r, e => by cases r; cases e; rfl
  | d :: ds, _, _, r, e => by
    cases r with
    | cons r t =>
      cases d with
      | str i =>
        simp only [allS, Option.map_eq_some_iff] at e
        obtain ⟨js, e, rfl⟩ := e
        cases r
        rw [strs_vs t e]
        rfl
      | _ => cases e
open PySem.W in
theorem each_zip {K : PySem.W.Frag} {R : Value → D × PyData → Prop} (f : ∀ x v d p, L2.RelV x v → Rep K φ H x d → toPy 66 S d = some p → R v (d, p)) : ∀ {vs : List V} {its : List Value} {ds : List D} {ps : List PyData}, Vals vs its → RepL K φ H vs ds → ds.mapM (toPy 66 S) = some ps → EachIs R its (ds.zip ps)
  | _, _, _, _, .nil, .nil, h => by cases h; exact .nil
  | _, _, _, _, .cons r t, .cons q u, h => by
    obtain ⟨y, ys, rfl, h1, h2⟩ := mapM_cons' h
    exact .cons (f _ _ _ _ r q h1) (each_zip f t u h2)
theorem mapM_len {α β : Type} {f : α → Option β} : ∀ {l : List α} {r : List β}, l.mapM f = some r → r.length = l.length
  | [], _, h => by cases h; rfl
  | x :: xs, _, h => by
    obtain ⟨y, ys, rfl, _, h2⟩ := mapM_cons' h
    rw [List.length_cons, List.length_cons, mapM_len h2]
open PySem.W in
theorem each_back {K : PySem.W.Frag} {β : Type} {g : β → D} : ∀ {out : List Value} {bs : List β}, EachIs (fun v z => ∃ x, L2.RelV x v ∧ Rep K φ H x (g z)) out bs → ∃ vs, Vals vs out ∧ RepL K φ H vs (bs.map g)
  | _, _, .nil => ⟨[], .nil, .nil⟩
  | _, _, .cons ⟨x, r, q⟩ t => by
    obtain ⟨vs, h1, h2⟩ := each_back t
    exact ⟨x :: vs, .cons r h1, .cons q h2⟩
theorem sortOk (hc : X.calm = true) (hu : X.A.units + 66 < cLine) {pins : List (Addr × Obj)} {σ : L2.St} {s : Shared} {v : V} {us : List Value} {x : D} {Q : VK} {QD : KQ} (I : Inv X pins σ H s) (r : Vals [v] us) (hs : SRel X.K φ S H) (rv : Rep X.K φ H v x) (hw : dSort x S QD) (hp : Post X.K φ H Q QD) :
    wpAny (model X.prog X.w) X.A (call (.builtin "sorted") us) (EP X pins σ Q) X.xe s := by
  unfold dSort at hw
  split at hw
  · cases rv with
    | @ref a n hn =>
      split at hw
      · rename_i kvs e1
        obtain ⟨ss, h1, h2, q⟩ := hw
        obtain ⟨vs, f1, f2, f3⟩ := dk_at hs hn (by rw [e1]; rfl)
        exact call_sortedD hc pins s σ H _ us Q I r ⟨a, vs, ss, rfl, f1, f2.trans h1, h2, fun ys p hperm _ np => hp.lst hs (strs_repD ys) (q ys hperm) np⟩
      · rename_i kvs e1
        obtain ⟨ss, h1, h2, q⟩ := hw
        obtain ⟨vs, f1, f2, f3⟩ := dk_at hs hn (by rw [e1]; rfl)
        exact call_sortedD hc pins s σ H _ us Q I r ⟨a, vs, ss, rfl, f1, f2.trans h1, h2, fun ys p hperm _ np => hp.lst hs (strs_repD ys) (q ys hperm) np⟩
      · rename_i ds e1
        obtain ⟨ps, hm, hal, hk, hz, hd, q⟩ := hw
        obtain ⟨vs, f1, r1⟩ := hs.ob _ _ _ hn e1
        obtain ⟨its, rv2, hl, hz2⟩ := I.list (SqL.of f1)
        rw [Vals.ref1 r]
        have hpl := mapM_len hm
        have em : (ds.zip ps).map (fun z => z.2) = ps := by rw [List.map_snd_zip]; omega
        refine PySem.W.sorted_data (bs := ds.zip ps) (enc := fun z => z.2) (R := fun v z => ∃ x, L2.RelV x v ∧ Rep X.K φ H x z.1) hl.isList
          (each_zip (fun x v d p r q _ => ⟨x, r, q⟩) rv2 r1 hm) (each_zip (R := fun v z => ∃ as, Reads s.heap v z.2 as) (fun x v d p r q e => Dp.reads I _ x v (dp_of hs _ _ _ _ q e) r) rv2 r1 hm)
          (by rw [em]; exact hal) (by rw [em]; exact hk) (by rw [List.length_zip]; exact Nat.le_trans (Nat.min_le_left _ _) (lim_le hz)) (fun b hb => ?_) fun out ho eo => ?_
        · have := hd b.2 (List.of_mem_zip hb).2
          omega
        · obtain ⟨vs', w1, w2⟩ := each_back eo
          obtain ⟨c, hc⟩ := sortedAll_at s.heap its out.toArray
          have hle : vs'.length ≤ sizeLine := by
            rw [w1.length, ho, List.length_zip]; exact Nat.le_trans (Nat.min_le_left _ _) (lim_le hz)
          have np : H (s.heap.objs.size + 1) = none := I.hok.fresh (Nat.le_succ _)
          exact ⟨.ref (s.heap.objs.size + 1), _, I.laid (a := s.heap.objs.size + 1) (o := .lst vs') (t' := s.toks) (fun b o e => sortedAll_old e) (Nat.le_succ _) ⟨hle, out, c, w1, hc⟩, rfl, hp.lst hs w2 q np⟩
      · exact hw.elim
  · exact hw.elim
theorem bltD (hc : X.calm = true) (hu : X.A.units + 66 < cLine) (f : Bn) : CallR X (bnV f) (rBl X.K f) := by
  intro pins s σ H vs us Q I r h
  obtain ⟨ds, S, φ, QD, hr, hs, hw, hp⟩ := h
  match ds, hr, hw with
  | [], hr, hw => exact False.elim hw
  | _ :: _ :: _ :: _, hr, hw => exact False.elim hw
  | [x], hr, hw =>
    obtain ⟨v, rfl, rv⟩ := repL1 hr
    cases f with
    | len =>
      have hw : dLen x S QD := hw
      have seq : ∀ xs, items S x = some xs → QD (.int xs.length) S → wpAny (model X.prog X.w) X.A (call (bnV .len) us) (EP X pins σ Q) X.xe s := fun xs e q => by
        obtain ⟨a, ws, rfl, hq, rl⟩ := items_rep (xs := xs) hs rv e
        exact call_len_seq pins s σ H _ us Q I r ⟨a, ws, rfl, hq, by rw [rl.length]; exact hp.here hs (.int _) q⟩
      cases x with
      | str z =>
        cases rv
        obtain ⟨h1, h2⟩ := hw
        exact call_len_str pins s σ H _ us Q I r ⟨z, rfl, lim_le h1, hp.here hs (.int _) h2⟩
      | non => exact False.elim hw
      | bl b => exact False.elim hw
      | int i => exact False.elim hw
      | ty n => exact False.elim hw
      | tup xs => exact seq xs rfl hw
      | ktup xs => exact seq xs rfl hw
      | rol xs => exact seq xs rfl hw
      | fnv _ => exact False.elim hw
      | ref n =>
        simp only [dLen] at hw
        split at hw
        · rename_i xs e
          exact seq xs (by simp only [items, e]) hw
        · obtain ⟨kvs, e, q⟩ := hw
          cases rv with
          | @ref a _ hn =>
            obtain ⟨vs, f1, f2, f3⟩ := dk_at hs hn e
            have el : vs.length = kvs.length := by simpa using congrArg List.length f2
            obtain ⟨u, rfl, ru⟩ := vals1 r
            cases ru
            exact d_len I f1 fun t s' I' => ⟨.int vs.length, H, I', ⟨t, rfl⟩, by rw [el]; exact hp.here hs (.int _) q⟩
    | all =>
      obtain ⟨a, bs, rfl, hq, k⟩ := bools1 hs rv (show dBools x S _ from hw)
      exact cr_all hc pins s σ H _ us Q I r ⟨a, bs, rfl, hq, hp.here hs (.bl _) k⟩
    | any =>
      obtain ⟨a, bs, rfl, hq, k⟩ := bools1 hs rv (show dBools x S _ from hw)
      exact cr_any hc pins s σ H _ us Q I r ⟨a, bs, rfl, hq, hp.here hs (.bl _) k⟩
    | abs =>
      obtain ⟨i, rfl, k⟩ := int1 rv (show dInt1 x _ from hw)
      exact call_abs pins s σ H _ us Q I r ⟨i, rfl, hp.here hs (.int _) k⟩
    | int =>
      obtain ⟨i, rfl, k⟩ := int1 rv (show dInt1 x _ from hw)
      exact call_int1 pins s σ H _ us Q I r (.inl ⟨i, rfl, hp.here hs (.int _) k⟩)
    | list =>
      obtain ⟨a, ws, xs, rfl, hq, rl, k⟩ := items1 hs rv (show dItems x S _ from hw)
      exact call_list_of pins s σ H _ us Q I r ⟨a, ws, rfl, (by rcases hq with z | z | z; exact .inl z; exact .inr z.1; exact .inr z.1), fun l hl => hp.lst hs rl k hl⟩
    | tuple =>
      have go : dItems x S (fun xs => QD (.tup xs) S) → (∀ xs, x ≠ .ktup xs) → wpAny (model X.prog X.w) X.A (call (bnV .tuple) us) (EP X pins σ Q) X.xe s := fun hw hne => by
        obtain ⟨a, ws, xs, rfl, hq, rl, k⟩ := items1 hs rv hw
        rcases hq with hq | ⟨hq, e⟩ | ⟨hq, e⟩
        · exact call_tuple_of pins s σ H _ us Q I r ⟨a, ws, rfl, .inl ⟨hq, fun l hl => hp.tup hs rl k hl⟩⟩
        · exact call_tuple_of pins s σ H _ us Q I r ⟨a, ws, rfl, .inr ⟨hq, hp.here hs e k⟩⟩
        · exact absurd e (hne _)
      cases x with
      | ktup xs => cases rv with
        | @ktup a ws _ h1 r1 => exact call_tuple_of pins s σ H _ us Q I r ⟨a, ws, rfl, .inr ⟨h1, hp.here hs (.ktup h1 r1) hw⟩⟩
      | _ => exact go hw (fun _ z => by cases z)
    | sum =>
      obtain ⟨a, is, rfl, hq, k⟩ := ints1 hs rv (show dInts x S _ from hw)
      exact cr_sumT hc pins s σ H _ us Q I r ⟨a, is, rfl, hq, hp.here hs (.int _) k⟩
    | sorted => exact sortOk hc hu I r hs rv hw hp
    | str =>
      have hw : dStr x S QD := hw
      unfold dStr at hw
      split at hw
      · cases rv; exact SkE.call_str_str pins s σ H _ us Q I r ⟨_, rfl, hp.here hs (.str _) hw⟩
      · cases rv; exact call_str_int pins s σ H _ us Q I r ⟨_, rfl, hw.1, hp.here hs (.str _) hw.2⟩
      · exact hw.elim
    | isinst => exact False.elim hw
    | min2 => exact False.elim hw
    | max2 => exact False.elim hw
  | [x, y], hr, hw =>
    obtain ⟨v, w, rfl, rv, rw'⟩ := repL2 hr
    cases f with
    | isinst =>
      have hw : dIsi x y S QD := hw
      unfold dIsi at hw
      split at hw
      · cases rw'
        obtain ⟨h1, h2⟩ := hw
        split at h2
        · rename_i b e
          refine call_isi pins s σ H _ us Q I r ⟨v, .ty _, .type (tyOf x), .type _, b, rfl, .ty _, ty_rep hs rv (fun n e => ?_) (fun n e => ?_) (fun n e => ?_), kit_ty e, hp.here hs (.bl b) h2⟩
          · subst e; exact h1
          · subst e; exact h1
          · subst e
            simp only at h1
            split at h1
            · rename_i xs e; exact ⟨xs, e⟩
            · exact h1.elim
        · exact h2.elim
      · exact hw.elim
    | min2 =>
      obtain ⟨i, rfl, k⟩ := int1 rv (show dInt1 x _ from hw)
      obtain ⟨j, rfl, k⟩ := int1 rw' k
      exact call_min2 hc pins s σ H _ us Q I r ⟨i, j, rfl, hp.here hs (.int _) k⟩
    | max2 =>
      obtain ⟨i, rfl, k⟩ := int1 rv (show dInt1 x _ from hw)
      obtain ⟨j, rfl, k⟩ := int1 rw' k
      exact call_max2 hc pins s σ H _ us Q I r ⟨i, j, rfl, hp.here hs (.int _) k⟩
    | len => exact False.elim hw
    | all => exact False.elim hw
    | any => exact False.elim hw
    | abs => exact False.elim hw
    | int => exact False.elim hw
    | list => exact False.elim hw
    | tuple => exact False.elim hw
    | sum => exact False.elim hw
    | sorted => exact False.elim hw
    | str => exact False.elim hw
theorem appD : MtR X "list.append" (fun x xs H Q => ∃ (dx dy : D) (y : V) (S : Sto) (φ : List Addr) (QD : KQ), xs = [y] ∧ Rep X.K φ H x dx ∧ Rep X.K φ H y dy ∧ SRel X.K φ S H ∧ dApp dx dy S QD ∧ Post X.K φ H Q QD) := by
  intro pins s σ H x xs v us Q I rx rs h
  obtain ⟨dx, dy, y, S, φ, QD, rfl, hx, hy, hs, hw, hp⟩ := h
  unfold dApp at hw
  split at hw
  · cases hx with
    | @ref a n hn =>
      split at hw
      · rename_i ds e
        obtain ⟨vs, f1, r1⟩ := hs.ob _ _ _ hn e
        have e1 := r1.length
        refine mt_append pins s σ H _ _ v us Q I rx rs ⟨a, vs, y, rfl, rfl, f1, lim_lt (by rw [e1]; exact hw.1), ?_⟩
        exact hp _ _ _ _ φ (Le.refl φ) (TupLe.mut f1) (hs.put hn f1 (r1.app (.cons hy .nil))) .non hw.2
      · exact hw.elim
  · exact hw.elim
theorem setD (hu : X.A.units + 66 < cLine) : PSet X (fun o i v H Q => ∃ (dx di dv : D) (S : Sto) (φ : List Addr) (QS : Sto → Prop), Rep X.K φ H o dx ∧ Rep X.K φ H i di ∧ Rep X.K φ H v dv ∧ SRel X.K φ S H ∧ dSet dx di dv S QS ∧ ∀ S' H', TupLe H H' → SRel X.K φ S' H' → QS S' → Q H') := by
  intro pins s σ H o i v ov iv u Q I ro ri rv h
  obtain ⟨dx, di, dv, S, φ, QS, hx, hi, hv, hs, hw, hp⟩ := h
  have dkset : ∀ (kvs : List (L2.Key × D)) (y : V) (a : Addr) (n : Nat) (dy : D) (k : L2.Key), φ[n]? = some a → S[n]? = some (.dk kvs) → kvs.length < LIM → Rep X.K φ H y dy → key1 dy = some k → L2.RelV y iv → L2.RelV (.ref a) ov → QS (S.set n (.dk (putD kvs k dv))) →
      wpAny (model X.prog X.w) X.A (setItem ov iv u) (fun _ s' => ∃ H', Inv X pins σ H' s' ∧ Q H') X.xe s := fun kvs y a n dy k hn e hl ry hk ri' ro' q => by
    obtain ⟨vs, f1, f2, f3⟩ := hs.ob _ _ _ hn e
    have el : vs.length = kvs.length := by simpa using congrArg List.length f2
    obtain ⟨w1, w2⟩ := put_rep hv k f2 f3
    obtain rfl := key1_rep ry hk
    refine set_dict (by omega) pins s σ H _ _ v ov iv u Q I ro' ri' rv ⟨a, _, rfl, DPut.k f1 (lim_lt (by rw [el]; exact hl)), ?_⟩
    exact hp _ _ (TupLe.mutK f1) (hs.putO (o := .dk (putD kvs k dv)) hn (TupLe.mutK f1) ⟨_, rfl, w1, w2⟩) q
  unfold dSet at hw
  split at hw
  · cases hi
    cases hx with
    | @ref a n hn =>
      split at hw
      · rename_i ds e
        obtain ⟨vs, f1, r1⟩ := hs.ob _ _ _ hn e
        obtain ⟨j, e2, q⟩ := hw
        refine set_list pins s σ H _ _ v ov iv u Q I ro ri rv ⟨a, vs, _, j, rfl, rfl, f1, by rw [r1.length]; exact e2, ?_⟩
        exact hp _ _ (TupLe.mut f1) (hs.put hn f1 (r1.set j hv)) q
      · rename_i kvs e
        exact dkset kvs _ a _ (.int _) (.inl _) hn e hw.1 (.int _) rfl ri ro hw.2
      · exact hw.elim
  · cases hi
    cases hx with
    | @ref a n hn =>
      split at hw
      · rename_i kvs e
        exact dkset kvs _ a _ (.str _) (.inr _) hn e hw.1 (.str _) rfl ri ro hw.2
      · exact hw.elim
  · cases hx with
    | @ref a n hn =>
      split at hw
      · rename_i kvs e
        obtain ⟨vs, f1, f2, f3⟩ := hs.ob _ _ _ hn e
        obtain ⟨k, e2, hl, q⟩ := hw
        obtain ⟨b, rfl, hb⟩ := keyOf_rep (ks := k) hi e2
        obtain ⟨w1, w2⟩ := put_rep hv k f2 f3
        have el : vs.length = kvs.length := by simpa using congrArg List.length f2
        refine set_dict (by omega) pins s σ H _ _ v ov iv u Q I ro ri rv ⟨a, _, rfl, DPut.t f1 hb (lim_lt (by rw [el]; exact hl)), ?_⟩
        exact hp _ _ (TupLe.mutT f1) (hs.putO (o := .dct (putD kvs k dv)) hn (TupLe.mutT f1) ⟨_, rfl, w1, w2⟩) q
      · exact hw.elim
  · exact hw.elim
end
end DW

set_option Elab.async false
set_option linter.all false
set_option maxRecDepth 100000
set_option maxHeartbeats 2000000
/-! rules of my own beside the hand layer's: enumerate(xs, start=1); several except clauses of both kinds; a local name for a dict comprehension -/
namespace GX
open PySem PySem.Spec PyProof.Rows L2

/-! ### enumerate(xs, start=1) -/
/-- the same iterator, its places told by one more -/
theorem draws_up {P : Program} {w : World} {A : Around} {it : Addr} {fp : List Addr} {n : Nat} {V : Nat → Value → Prop} {St : Nat → Heap → Prop} (D : Draws P w A it fp n V St) :
    Draws P w A it fp (n + 1) (fun j x => 1 ≤ j ∧ V (j - 1) x) (fun j h => 1 ≤ j ∧ St (j - 1) h) where
  live := fun j h q => D.live _ h q.2
  frame := fun j h h' q k => ⟨q.1, D.frame _ h h' q.2 k⟩
  item := fun j s Q E hj q hQ => D.item (j - 1) s Q E (by have := q.1; omega) q.2 fun x h' tk a b c => hQ x h' tk ⟨q.1, a⟩ ⟨by omega, by
    have e : j + 1 - 1 = (j - 1) + 1 := by have := q.1; omega
    rw [e]; exact b⟩ c
  done := fun s Q E q hE => D.done s Q E (by simpa using q.2) hE
def Ite1 (K : PySem.W.Frag) (a : Addr) : It where
  go := fun i H => ∃ (xs : List L2.V) (x : L2.V), SqL K H a xs ∧ xs[i]? = some x
  yld := fun i H v H' => ∃ (T : Addr) (x : L2.V), v = .ref T ∧ H T = none ∧ H' = upd H T (.tup [.int ((i : Nat) + 1 : Int), x]) ∧ ∀ xs, SqL K H a xs → xs[i]? = some x
  stop := fun i H => ∃ xs : List L2.V, SqL K H a xs ∧ xs.length = i
/-- where the iterator stands at the i-th turn -/
def En1 (a e it : Addr) (i : Nat) (h : Heap) : Prop := (∃ old, IsEnum h e it ((i + 1 : Nat) : Int) old) ∧ h.IsListIter it a i ∧ e ≠ it ∧ a ≠ it ∧ a ≠ e
theorem turn1 {P : Program} {w : World} {K : PySem.W.Frag} {elts : List Expr} {kk : Nat} {tp : Pos} (a e it : Addr) : Turn P w K (.Tuple elts kk tp) (Ite1 K a) [e, it] e (En1 a e it) where
  mem := List.mem_cons_self
  obj := fun i h st b hb => by
    obtain ⟨⟨old, q⟩, ⟨o, r1, r2, r3⟩, _⟩ := st
    simp only [List.mem_cons, List.not_mem_nil, or_false] at hb
    rcases hb with rfl | rfl
    · exact ⟨_, q, by intro v z; cases z⟩
    · exact ⟨o, r1, by intro v z; rw [r3] at z; cases z⟩
  keep := fun i h h' st k => by
    obtain ⟨⟨old, q⟩, r, n⟩ := st
    exact ⟨⟨old, k e List.mem_cons_self _ q⟩, r.at (fun o z => k it (List.mem_cons_of_mem _ List.mem_cons_self) o z), n⟩
  item := by
    intro X hP hw hK hc i pins s σ H E I hf st hg
    subst hP hw hK
    obtain ⟨⟨old, he⟩, hit, n1, n2, n3⟩ := st
    obtain ⟨xs, x, hq, hx⟩ := hg
    obtain ⟨its, rv, pl, hz⟩ := I.list hq
    obtain ⟨u, hu, ru⟩ := rv.get hx
    have lt : i < its.length := (List.getElem?_eq_some_iff.mp hu).1
    have le : e < s.heap.objs.size := Heap.lt_size he
    have li : it < s.heap.objs.size := by
      obtain ⟨_, z, _⟩ := hit
      exact Heap.lt_size z
    have D := draws_up (Draws.list (prog := X.prog) (w := X.w) (A := X.A.in1) (I.ok.hd hc) it a n2 its.toArray)
    refine wpAny_pyNext_enum_itemD D he (i := i + 1) ⟨by omega, by simpa using hit, pl.isList⟩ (by simpa using lt) n1 (by simp only [List.mem_cons, List.not_mem_nil, or_false, not_or]; exact ⟨n1, Ne.symm n3⟩) fun y h' tk hy out hst tT hsz hk => ?_
    obtain ⟨_, hy⟩ := hy
    have eu : y = u := by
      have z : its[i]? = some y := by simpa using hy
      rw [hu] at z
      exact (Option.some.inj z).symm
    subst eu
    refine ⟨_, rfl, wpAny_letOwnedTupleGo_enum (s := { s with heap := h', toks := tk + 1 }) out fun h2 en sb => ?_⟩
    have ne : s.heap.objs.size ≠ e := Nat.ne_of_gt le
    have t2 : h2.get? s.heap.objs.size = some { cls := .type "tuple", data := .seq #[.int ((i + 1 : Nat) : Int) tk, y] } := (sb.2 _ ne).trans tT
    have c1 : ((i + 1 : Nat) : Int) = (i : Int) + 1 := by omega
    have new : ObjOk X.prog X.w (upd H s.heap.objs.size (.tup [.int ((i : Nat) + 1 : Int), x])) h2 s.heap.objs.size (.tup [.int ((i : Nat) + 1 : Int), x]) :=
      ⟨by show 2 ≤ sizeLine; decide, [.int ((i + 1 : Nat) : Int) tk, y], .cons ⟨tk, by rw [c1]⟩ (.cons ru .nil), ⟨_, t2, rfl, _, rfl⟩⟩
    have J : Inv X pins σ (upd H s.heap.objs.size (.tup [.int ((i : Nat) + 1 : Int), x])) { s with heap := h2, toks := tk + 1 } :=
      I.turnedNew (ch := [e, it]) (fun b ob hb q => by
        simp only [List.mem_cons, List.not_mem_nil, or_false, not_or] at hb
        exact (sb.2 b hb.1).trans (hk b ob hb.1 hb.2 q)) hf (Nat.le_refl _) new
    refine ⟨.ref s.heap.objs.size, _, J, rfl, ⟨_, x, rfl, I.hok.fresh (Nat.le_refl _), rfl, fun ys hy => by rw [I.list_inj hy hq]; exact hx⟩, ⟨⟨y, ?_⟩, ?_, n1, n2, n3⟩, fun b hb => ?_⟩
    · have c2 : ((i + 1 + 1 : Nat) : Int) = ((i + 1 : Nat) : Int) + 1 := by omega
      rw [c2]
      exact en
    · obtain ⟨_, z, _⟩ := hst
      exact (show Heap.IsListIter h' it a (i + 1) by simpa using z).at fun o q => (sb.2 it (Ne.symm n1)).trans q
    · have z : b < s.heap.objs.size := by
        simp only [List.mem_cons, List.not_mem_nil, or_false] at hb
        rcases hb with rfl | rfl
        · exact le
        · exact li
      rw [upd_ne (Nat.ne_of_lt z)]
      exact (hf b hb).1
  done := by
    intro X hP hw hK hc i pins s σ H E I hf st hg
    subst hP hw hK
    obtain ⟨⟨old, he⟩, hit, n1, n2, n3⟩ := st
    obtain ⟨xs, hq, hx⟩ := hg
    obtain ⟨its, rv, pl, hz⟩ := I.list hq
    obtain ⟨g0, g1, g2, g3, g4, g5⟩ := hf it (List.mem_cons_of_mem _ List.mem_cons_self)
    have hl := rv.length
    have D := draws_up (Draws.list (prog := X.prog) (w := X.w) (A := X.A.in1) (I.ok.hd hc) it a n2 its.toArray)
    refine wpAny_pyNext_enum_endD D he ⟨by omega, ?_, pl.isList⟩ fun h' eb => ⟨rfl, I.turned (t' := s.toks) (fun b o hb q => eb b o hb q) g0 g1 g3 g4 g5⟩
    have z : its.toArray.size = i := by simp only [List.size_toArray]; omega
    rw [Nat.add_sub_cancel, z]
    exact hit
  self := fun A i s Q E st h => by
    obtain ⟨⟨old, q⟩, _⟩ := st
    exact wpAny_pyIter_enum q h
def iEnum1 (K : PySem.W.Frag) (ta : TE) : TI := fun σ H R => ta σ H fun v H1 => ∃ (a : Addr) (xs : List L2.V), v = .ref a ∧ SqL K H1 a xs ∧ R (Ite1 K a) H1
theorem callWith_typeKw {M : Model} {A : Around} {E : Value → Shared → Prop} {s : Shared} {pos : Pos} {T : String} {x : Sem Value} {kws : List (Option Str × Sem Value)} {Q : Value → Shared → Prop} (h1 : kws.all (·.1.isSome) = true) (h2 : kws.any (·.1.isNone) = false)
    (h : wpAny M A (spliced [(false, x)]) (fun vs s1 => wpAny M A (evalAll (kws.map (·.2))) (fun ks s2 => wpAny M A (call (.type T) vs ((kws.filterMap (·.1)).zip ks)) Q E s2) E s1) E s) :
    wpAny M A (callWith pos (.type T) [] [(false, x)] kws) Q E s := by
  unfold callWith
  refine wpAny_bind (wpAny_holding (wpAny_mono (evalArgs_kwB (f := .type T) (Q := fun a s2 => wpAny M A (call (.type T) a.pos a.kw) Q E s2) h1 h) (fun a s1 q => wpAny_bind (wpAny_standAt ?_)) fun _ _ z => z))
  rw [h2]
  refine wpAny_bind (wpAny_pure (wpAny_bind (wpAny_mono q (fun r s2 z => wpAny_bind (wpAny_holding (wpAny_point (wpAny_pure z)))) fun _ _ z => z)))
theorem pi_enum1 {X : Cx} {e : Expr} {te : TE} {p pos tp kp np : Pos} {j : Nat} {elts : List Expr} {kk : Nat} (hg : Gl X "enumerate") (hm : X.mg "enumerate" = none) (he : PE X e te) (hs : starEach [e] X.env = [(false, eval e X.env)]) :
    PI X (.Tuple elts kk tp) (.Call (.Name "enumerate" p) [e] [⟨some "start", .Constant (.int 1) j np, kp⟩] pos) (iEnum1 X.K te) := by
  refine ⟨fun pins s σ H R I h => ?_⟩
  show wpAny _ _ (do callWith pos (← eval (.Name "enumerate" p) X.env) [] (backTo pos (starEach [e] X.env)) (backToKw pos (keywordEach [⟨some "start", .Constant (.int 1) j np, kp⟩] X.env))) _ _ _
  refine wpAny_bind (ld_blt I hg hm boot_enumerate ?_)
  have pa : PA X [e] (tCons te tNil) := pa_cons he pa_nil (by rw [hs]; rfl)
  have run := pa.run pos pins s σ H (fun vs H1 => ∃ (a : Addr) (xs : List L2.V), vs = [.ref a] ∧ SqL X.K H1 a xs ∧ R (Ite1 X.K a) H1) I (by
    show te σ H fun v H1 => tNil σ H1 fun vs H2 => ∃ (a : Addr) (xs : List L2.V), v :: vs = [.ref a] ∧ SqL X.K H2 a xs ∧ R (Ite1 X.K a) H2
    have z : (fun (v : L2.V) H1 => tNil σ H1 fun vs H2 => ∃ (a : Addr) (xs : List L2.V), v :: vs = [.ref a] ∧ SqL X.K H2 a xs ∧ R (Ite1 X.K a) H2) = fun v H1 => ∃ (a : Addr) (xs : List L2.V), v = .ref a ∧ SqL X.K H1 a xs ∧ R (Ite1 X.K a) H1 := by
      funext v H1
      simp only [tNil, List.cons.injEq, and_true]
    rw [z]
    exact h)
  rw [hs] at run ⊢
  refine callWith_typeKw rfl rfl (thn run fun us s1 q => ?_)
  obtain ⟨vs, H1, I1, r1, a, xs, rfl, hq, k⟩ := q
  obtain ⟨u, rfl, ru⟩ := vals1 r1
  cases ru
  refine kws_cons (wpAny_Constant_int (kws_nil ?_))
  obtain ⟨its, rv, pl, hz⟩ := I1.list hq
  show wpAny _ _ (call (.type "enumerate") [.ref a] [(Str.ofString "start", .int 1 s1.toks)]) _ _ _
  refine enum_begins_start (begins_list a its.toArray) pl.isList (by decide) (by decide) fun h' en hit hsz hk => ?_
  refine wpAny_pyIter_enum en ?_
  have sz : a < s1.heap.objs.size := by
    obtain ⟨o, z, _⟩ := pl.isList
    exact Heap.lt_size z
  have I2 : Inv X pins σ H1 { s1 with heap := h', toks := s1.toks + 1 } := I1.kept hk
  refine ⟨s1.heap.objs.size + 1, [s1.heap.objs.size + 1, s1.heap.objs.size], _, _, H1, rfl, I2, turn1 a (s1.heap.objs.size + 1) s1.heap.objs.size, ⟨⟨.none, en⟩, ⟨_, hit, rfl, rfl⟩, Nat.succ_ne_self _, Nat.ne_of_lt sz, Nat.ne_of_lt (Nat.lt_succ_of_lt sz)⟩, fun b hb => ?_, k⟩
  have ge : s1.heap.objs.size ≤ b := by
    simp only [List.mem_cons, List.not_mem_nil, or_false] at hb
    rcases hb with rfl | rfl
    · exact Nat.le_succ _
    · exact Nat.le_refl _
  exact I1.fpOk ge (I1.hok.fresh ge)
end GX

set_option Elab.async false
set_option linter.all false
set_option maxRecDepth 100000
set_option maxHeartbeats 2000000
namespace GX
open PySem PySem.Spec PyProof.Rows L2

/-! ### several except clauses, with and without a name -/
abbrev Clause := Value × Option Nat × (Addr → Value → Option Addr → TS)
/-- behind a clause's suite its name, slot i, is gone -/
def without (i : Nat) (D : Ends) : Ends := ⟨fun τ G => D.nx (τ.set i none) G, D.rt, fun τ G => D.bk (τ.set i none) G, fun τ G => D.ct (τ.set i none) G⟩
def suiteW (D : Ends) (l : Option Nat) (ts : TS) (a : Addr) (τ : L2.St) (G : Hp) : Prop := match l with
  | none => ts D τ G
  | some i => ts (without i D) (τ.set i (some (.ref a))) G
def wAll (K : PySem.W.Frag) (Wo : WX) (D : Ends) : List Clause → WX
  | [] => Wo
  | cl :: r => fun cls d τ G => ∃ b, PySem.W.exmOne K cls cl.1 = some b ∧ (b = true → ∀ a, G a = none → suiteW D cl.2.1 (cl.2.2 a cls d) a τ G) ∧ (b = false → wAll K Wo D r cls d τ G)
inductive Cls (X : Cx) : List ExceptHandler → List Clause → Prop
  | nil : Cls X [] []
  | plain {x : Str} {c : Value} {ts : Addr → Value → Option Addr → TS} {s0 : Stmt} {ss : List Stmt} {np q : Pos} {hs : List ExceptHandler} {l : List Clause} (hc : Names X x c)
      (hb : ∀ (a : Addr) (oe : Obj) (cls : Value) (d : Option Addr) (pn : List (Addr × Obj)), Zc cls d oe → (∃ vs, oe.data = .fields vs) → PSs (X.suite a ((a, oe) :: pn)) (s0 :: ss) (ts a cls d)) (r : Cls X hs l) :
      Cls X (.ExceptHandler (some (.Name x np)) none (s0 :: ss) q :: hs) ((c, none, ts) :: l)
  | named {x n : Str} {i : Nat} {c : Value} {ts : Addr → Value → Option Addr → TS} {s0 : Stmt} {ss : List Stmt} {np q : Pos} {hs : List ExceptHandler} {l : List Clause} (hc : Names X x c) (hN : X.N.Nodup) (hi : X.N[i]? = some n) (hl : X.env.kindOf n = some .local)
      (hb : ∀ (a : Addr) (oe : Obj) (cls : Value) (d : Option Addr) (pn : List (Addr × Obj)), Zc cls d oe → (∃ vs, oe.data = .fields vs) → PSs (X.suite a ((a, oe) :: pn)) (s0 :: ss) (ts a cls d)) (r : Cls X hs l) :
      Cls X (.ExceptHandler (some (.Name x np)) (some n) (s0 :: ss) q :: hs) ((c, some i, ts) :: l)
section
variable {X : Cx} {Wo : WX} {D : Ends}
/-- the class that a clause names is looked up -/
theorem named_at {x : Str} {c : Value} {np : Pos} {a : Addr} {oe : Obj} {pn : List (Addr × Obj)} {τ : L2.St} {G : Hp} {s : Shared} {Q E : Value → Shared → Prop} (I : Inv (X.suite a ((a, oe) :: pn)) [] τ G s) (hc : Names X x c) (q : Q c s) : wpAny (model X.prog X.w) (X.A.mark (some (.ref a))) (eval (.Name x np) X.env) Q E s := by
  obtain ⟨k1, k2, k3⟩ := hc
  rcases k3 with k | ⟨k, k4, k5⟩
  · exact ld_glob (X := X.suite a ((a, oe) :: pn)) I k1 k q k2
  · exact ld_blt (X := X.suite a ((a, oe) :: pn)) I k1 k k4 q k5 k2
/-- a clause's suite has ended -/
theorem suite_end {a : Addr} {oe : Obj} {pins : List (Addr × Obj)} {f : Flow} {s : Shared} (ok : X.Ok) (h : SP (X.suite a ((a, oe) :: (X.pn ++ pins))) [] D f s) : SP X pins D f s := by
  cases f with
  | ret u =>
    obtain ⟨v, τ, G, I, r, q⟩ := h
    exact ⟨v, τ, G, I.unsuite ok, r, q⟩
  | next =>
    obtain ⟨τ, G, I, q⟩ := h
    exact ⟨τ, G, I.unsuite ok, q⟩
  | brk =>
    obtain ⟨τ, G, I, q⟩ := h
    exact ⟨τ, G, I.unsuite ok, q⟩
  | cont =>
    obtain ⟨τ, G, I, q⟩ := h
    exact ⟨τ, G, I.unsuite ok, q⟩
theorem clauses {pins : List (Addr × Obj)} {a : Addr} {B : Heap} {sI s : Shared} {τ : L2.St} {G : Hp} {cls : Value} {d : Option Addr} (hst : X.stack = X.env :: X.outer) (hf : X.env.frame = some X.env.locals) (tk : Takes X Wo) (J : Inv X pins τ G sI)
    (nb : ∀ b o, sI.heap.get? b = some o → b ∉ frs X.stack → B.get? b = some o) (up : sI.heap.UpToSlots s.heap) (fl : HandSPX.FlyingZ B (X.env :: X.outer) a (Zc cls d) s.heap) (na : G a = none) (os : s.os = sI.os) (ag : AllBare s.gens) :
    ∀ {hs : List ExceptHandler} {l : List Clause}, Cls X hs l → wAll X.K Wo D l cls d τ G → wpAny (model X.prog X.w) X.A (handleBy (.ref a) X.env hs) (SP X pins D) X.xe s := by
  have ok := J.ok
  have out : ∀ {h : Heap} {o : Obj} {vs : Array Value}, h.FunFrames B (X.env :: X.outer) → h.get? a = some o → o.data = .fields vs → a ∉ frs (X.env :: X.outer) := fun {h o vs} ff e dd hm => by
    obtain ⟨_, o2, e2, nf⟩ := ff.mem hm
    rw [e] at e2
    exact nf vs (by rw [← Option.some.inj e2]; exact dd)
  -- at a heap where the error is noted, the state is ours with the error's object beside it
  have at_ : ∀ h, HandSPX.FlyingZ B (X.env :: X.outer) a (Zc cls d) h → s.heap.UpToSlots h → ∃ oe vs, h.get? a = some oe ∧ Zc cls d oe ∧ oe.data = .fields vs ∧ Inv X pins τ G { s with heap := h } ∧ Inv (X.suite a ((a, oe) :: (X.pn ++ pins))) [] τ G { s with heap := h } := fun h f2 u2 => by
    obtain ⟨oe, vs, e1, e2, e3⟩ := f2.there
    have nfr := out f2.2.2.1 e1 e3
    have I2 : Inv X pins τ G { s with heap := h } := J.landed nb f2.1 (up.trans u2) os ag
    refine ⟨oe, vs, e1, e2, e3, I2, I2.suite e1 e3 na (fun z => nfr (List.mem_filterMap.mpr ⟨X.env, List.mem_cons_self, by rw [hf, z]⟩)) fun hm => ?_⟩
    obtain ⟨en, m1, m2⟩ := List.mem_filterMap.mp hm
    exact nfr (List.mem_filterMap.mpr ⟨en, List.mem_cons_of_mem _ m1, m2⟩)
  obtain ⟨oe, vs, e1, e2, e3, I0, S0⟩ := at_ s.heap fl (Heap.UpToSlots.refl _)
  have kind : PySem.W.Looks (model X.prog X.w) s.heap (typeOf (.ref a)) cls := fun A Q E t k q => wpAny_typeOf_ref (k _ _ e1) (by rw [e2.1]; exact q)
  intro hs l hk
  induction hk with
  | nil =>
    intro w
    refine wpAny_handleBy_nil ?_
    obtain ⟨_, _, _, oe1, us, T, oT, ts, z1, _, z3, z4, _⟩ := id fl
    unfold PySem.passOn
    refine wpAny_bind (wpAny_field z1 z3 z4 ?_)
    have nn : ¬ ((Value.ref T == Value.none) = true) := by simp
    rw [if_neg nn]
    have last : wpAny (model X.prog X.w) X.A (setFlight (.ref a) X.env.frame) (fun _ s4 => wpAny (model X.prog X.w) X.A (throw (.ref a) : Sem Flow) (SP X pins D) X.xe s4) X.xe s := by
      rw [hf]
      refine HandSPX.setFlight_upZ fl fun h4 f4 u4 => wpAny_throw (tk _ _ ?_)
      exact ⟨a, B, sI, pins, τ, G, cls, d, rfl, J, nb, up.trans u4, .inr (.inr (by rw [hst]; exact f4)), na, os, ag, w⟩
    first
      | exact wpAny_bind (wpAny_pure (wpAny_bind last))
      | exact wpAny_bind last
  | @plain x c ts s0 ss np q hs2 l2 hc hb r ih =>
    intro w
    obtain ⟨b, w1, yes, no⟩ := w
    refine wpAny_handleBy_cons (codeAny_handlers_test ?_) (by intro z; cases z)
    refine named_at S0 hc ((PySem.W.exm_one (M := model X.prog X.w) I0.kIn kind w1).here ?_)
    cases b with
    | false => exact ih (no rfl)
    | true =>
      refine codeAny_handlers_suite (HandSPX.lands_againZ fl fun h4 f4 u4 => ?_)
      obtain ⟨oe4, vs4, y1, y2, y3, _, S4⟩ := at_ h4 f4 u4
      have z : ts a cls d D τ G := yes rfl a na
      exact wpAny_mono ((hb a oe4 cls d (X.pn ++ pins) y2 ⟨_, y3⟩).run [] _ τ G D S4 z) (fun f s6 h6 => by have := suite_end ok h6; cases f <;> exact this) fun _ _ z => z.elim
  | @named x n i c ts s0 ss np q hs2 l2 hc hN hi hl hb r ih =>
    intro w
    obtain ⟨b, w1, yes, no⟩ := w
    refine wpAny_handleBy_cons (codeAny_handlers_test ?_) (by intro z; cases z)
    refine named_at S0 hc ((PySem.W.exm_one (M := model X.prog X.w) I0.kIn kind w1).here ?_)
    cases b with
    | false => exact ih (no rfl)
    | true =>
      refine codeAny_handlers_suite_as (HandSPX.lands_againZ fl fun h4 f4 u4 => ?_)
      obtain ⟨oe4, vs4, y1, y2, y3, _, S4⟩ := at_ h4 f4 u4
      have z : ts a cls d (without i D) (τ.set i (some (.ref a))) G := yes rfl a na
      refine store_ok (X := X.suite a ((a, oe4) :: (X.pn ++ pins))) (v := .ref a) S4 hN hi (.inl hl) rfl (fun s5 S5 => ?_) (.inr hl)
      refine wpAny_mono ((hb a oe4 cls d (X.pn ++ pins) y2 ⟨_, y3⟩).run [] s5 _ G (without i D) S5 z) (fun f s6 h6 => ?_) fun _ _ z => z.elim
      have h7 := suite_end ok h6
      cases f with
      | ret u =>
        obtain ⟨v, τ6, G6, I6, r6, q6⟩ := h7
        exact gone_ok I6 hN hi hl fun s7 I7 => ⟨v, _, G6, I7, r6, q6⟩
      | next =>
        obtain ⟨τ6, G6, I6, q6⟩ := h7
        exact gone_ok I6 hN hi hl fun s7 I7 => ⟨_, G6, I7, q6⟩
      | brk =>
        obtain ⟨τ6, G6, I6, q6⟩ := h7
        exact gone_ok I6 hN hi hl fun s7 I7 => ⟨_, G6, I7, q6⟩
      | cont =>
        obtain ⟨τ6, G6, I6, q6⟩ := h7
        exact gone_ok I6 hN hi hl fun s7 I7 => ⟨_, G6, I7, q6⟩
theorem ps_tryAll {body : List Stmt} {h0 : ExceptHandler} {hs : List ExceptHandler} {l : List Clause} {pos : Pos} {tb : WX → TS} (hst : X.stack = X.env :: X.outer) (hf : X.env.frame = some X.env.locals) (tk : Takes X Wo)
    (hb : ∀ (W : WX) (pn : List (Addr × Obj)) (xe : Value → Shared → Prop), Takes (X.tr pn xe) W → PassesOwn (model X.prog X.w) X.A X.env xe → PSs (X.tr pn xe) body (tb W)) (hk : Cls X (h0 :: hs) l) :
    PS X (.Try body (h0 :: hs) [] [] pos) (fun D σ H => tb (wAll X.K Wo D l) D σ H) := by
  refine ⟨fun pins s σ H D I h => wpAny_Try_except ?_⟩
  have ok := I.ok
  have fr : X.A.frames = some (X.env :: X.outer) := by rw [ok.frames, hst]
  have go := (hb (wAll X.K Wo D l) (X.pn ++ pins) (fun e s1 => wpAny (model X.prog X.w) X.A (noteFrame e X.env) (fun _ s2 => wpAny (model X.prog X.w) X.A (setFlight e none) (fun _ s3 => wpAny (model X.prog X.w) X.A (handleBy e X.env (h0 :: hs)) (SP X pins D) X.xe s3) X.xe s2) X.xe s1)
    (fun u s2 air => by
      obtain ⟨a, B, sI, p2, τ, G, cls, d, rfl, J, nb, up, sky, na, os, ag, w⟩ := air
      rw [show (X.tr (X.pn ++ pins) _).stack = X.env :: X.outer from hst] at sky
      exact Sky.land Zc.steady fr hf sky fun h3 f3 u3 => clauses (s := { s2 with heap := h3 }) hst hf tk (J.ofTry ok) nb (up.trans u3) f3 na os ag hk w) PassesOwn.looking).run [] s σ H D (I.toTry _) h
  refine wpAny_mono go (fun f s1 h1 => ?_) fun e s1 z => z
  cases f with
  | ret u =>
    obtain ⟨v, τ, G, J, r, q⟩ := h1
    exact ⟨v, τ, G, J.ofTry ok, r, q⟩
  | next =>
    obtain ⟨τ, G, J, q⟩ := h1
    exact wpAny_execs_nil ⟨τ, G, J.ofTry ok, q⟩
  | brk =>
    obtain ⟨τ, G, J, q⟩ := h1
    exact ⟨τ, G, J.ofTry ok, q⟩
  | cont =>
    obtain ⟨τ, G, J, q⟩ := h1
    exact ⟨τ, G, J.ofTry ok, q⟩
end
end GX

set_option Elab.async false
set_option linter.all false
set_option maxRecDepth 100000
set_option maxHeartbeats 2000000
/-! the small language means what the program's text means -/
namespace DW
open PySem PySem.Spec PyProof.Rows L2

theorem _root_.L2.PE.sub {X : Cx} {e : Expr} {t t' : TE} (h : PE X e t) (i : ∀ σ H Q, t' σ H Q → t σ H Q) : PE X e t' := ⟨fun pins s σ H Q I q => h.run pins s σ H Q I (i σ H Q q)⟩
theorem _root_.L2.PT.sub {X : Cx} {e : Expr} {t t' : TT} (h : PT X e t) (i : ∀ σ H Q, t' σ H Q → t σ H Q) : PT X e t' := ⟨fun pins s σ H Q I q => h.run pins s σ H Q I (i σ H Q q)⟩
theorem _root_.L2.PW.sub {X : Cx} {e : Expr} {t t' : TT} (h : PW X e t) (i : ∀ σ H Q, t' σ H Q → t σ H Q) : PW X e t' := ⟨fun wh pins s σ H Q I q => h.run wh pins s σ H Q I (i σ H Q q)⟩
theorem _root_.L2.PA.sub {X : Cx} {e : List Expr} {t t' : TA} (h : PA X e t) (i : ∀ σ H Q, t' σ H Q → t σ H Q) : PA X e t' := ⟨fun pos pins s σ H Q I q => h.run pos pins s σ H Q I (i σ H Q q)⟩
theorem _root_.L2.PO.sub {X : Cx} {e : Option Expr} {t t' : TO} (h : PO X e t) (i : ∀ σ H Q, t' σ H Q → t σ H Q) : PO X e t' := ⟨fun pins s σ H Q I q => h.run pins s σ H Q I (i σ H Q q)⟩
theorem _root_.L2.PG.sub {X : Cx} {e : Expr} {t t' : TG} (h : PG X e t) (i : ∀ v σ H Q, t' v σ H Q → t v σ H Q) : PG X e t' := ⟨fun pins s σ H v u Q I r q => h.run pins s σ H v u Q I r (i v σ H Q q)⟩
theorem _root_.L2.PGs.sub {X : Cx} {e : List Expr} {t t' : TGs} (h : PGs X e t) (i : ∀ v σ H Q, t' v σ H Q → t v σ H Q) : PGs X e t' := ⟨fun pins s σ H v u Q I r q => h.run pins s σ H v u Q I r (i v σ H Q q)⟩
theorem _root_.L2.PS.sub {X : Cx} {e : Stmt} {t t' : TS} (h : PS X e t) (i : ∀ D σ H, t' D σ H → t D σ H) : PS X e t' := ⟨fun pins s σ H D I q => h.run pins s σ H D I (i D σ H q)⟩
theorem _root_.L2.PSs.sub {X : Cx} {e : List Stmt} {t t' : TS} (h : PSs X e t) (i : ∀ D σ H, t' D σ H → t D σ H) : PSs X e t' := ⟨fun pins s σ H D I q => h.run pins s σ H D I (i D σ H q)⟩
theorem _root_.L2.PI.sub {X : Cx} {tg e : Expr} {t t' : TI} (h : PI X tg e t) (i : ∀ σ H R, t' σ H R → t σ H R) : PI X tg e t' := ⟨fun pins s σ H R I q => h.run pins s σ H R I (i σ H R q)⟩

variable [Tb : Tbl]
/-- a def's promise over data -/
def spD (K : PySem.W.Frag) (sp : FSp) : Sp := fun vs H Q E => ∃ (ds : List D) (S : Sto) (φ : List Addr) (XD : KX) (QD : KQ), RepL K φ H vs ds ∧ SRel K φ S H ∧ sp ds S QD XD ∧ PostX K φ H E XD ∧ Post K φ H Q QD

/-- a def that can be called -/
structure Callable (X : Cx) (x : Str) (sp : FSp) : Prop where
  ex : ∃ (f : Addr) (fd : FuncData) (ps : List Str) (k : Nat), FnOk X.prog X.w X.K X.mg X.base (L2.CX X.prog X.w) k f fd ps (spD X.K sp) ∧ Room k X.A ∧ X.mg x = some (.ref f) ∧ PySem.W.keepIn X.K (.ref f) = true ∧ Binds X.K fd ps []

section
variable (fs : FEnv) (K : PySem.W.Frag) (W : WX)
def sE (e : IE) : TE := fun σ H Q => ∃ (ρ : En) (S : Sto) (φ : List Addr) (XD : KX) (QD : KQ), EnvRel K φ H ρ σ ∧ SRel K φ S H ∧ wE fs e ρ S XD QD ∧ PostX K φ H (WE W σ) XD ∧ Post K φ H Q QD
def sT (e : IT) : TT := fun σ H Q => ∃ (ρ : En) (S : Sto) (φ : List Addr) (XD : KX) (QD : KB), EnvRel K φ H ρ σ ∧ SRel K φ S H ∧ wT fs e ρ S XD QD ∧ PostX K φ H (WE W σ) XD ∧ PostB K φ H Q QD
def sTs (e : ITs) : TT := fun σ H Q => ∃ (ρ : En) (S : Sto) (φ : List Addr) (XD : KX) (QD : KB), EnvRel K φ H ρ σ ∧ SRel K φ S H ∧ wTs fs e ρ S XD QD ∧ PostX K φ H (WE W σ) XD ∧ PostB K φ H Q QD
def sA (e : IA) : TA := fun σ H Q => ∃ (ρ : En) (S : Sto) (φ : List Addr) (XD : KX) (QD : KL), EnvRel K φ H ρ σ ∧ SRel K φ S H ∧ wA fs e ρ S XD QD ∧ PostX K φ H (WE W σ) XD ∧ PostL K φ H Q QD
def sO (e : IO) : TO := fun σ H Q => ∃ (ρ : En) (S : Sto) (φ : List Addr) (XD : KX) (QD : Option Int → Sto → Prop), EnvRel K φ H ρ σ ∧ SRel K φ S H ∧ wO fs e ρ S XD QD ∧ PostX K φ H (WE W σ) XD ∧ PostO K φ H Q QD
end
/-- contexts of one run of one def -/
structure Like (X X' : Cx) : Prop where
  prog : X'.prog = X.prog
  w : X'.w = X.w
  K : X'.K = X.K
  mg : X'.mg = X.mg
  base : X'.base = X.base
  A : X'.A = X.A
  N : X'.N = X.N
  code : X'.env.code = X.env.code
  qual : X'.env.qual = X.env.qual
theorem Like.refl (X : Cx) : Like X X := ⟨rfl, rfl, rfl, rfl, rfl, rfl, rfl, rfl, rfl⟩
theorem Like.trans {X Y Z : Cx} (a : Like X Y) (b : Like Y Z) : Like X Z := ⟨b.prog.trans a.prog, b.w.trans a.w, b.K.trans a.K, b.mg.trans a.mg, b.base.trans a.base, b.A.trans a.A, b.N.trans a.N, b.code.trans a.code, b.qual.trans a.qual⟩
/-- sorted(.., key=lambda x: (sum(x), x)) -/
def SrtOk (fs : FEnv) (X : Cx) : Prop := ∀ (W : WX) (a : Expr) (ks : List Keyword) (pn p : Pos) (y : IE), (isSumKey ks).isSome = true → Gl X "sorted" → PE X a (sE fs X.K W y) → starEach [a] X.env = [(false, eval a X.env)] → PE X (.Call (.Name "sorted" pn) [a] ks p) (sE fs X.K W (.fn "@srt" (.cons y .nil)))
/-- x(lambda: f(..)) -/
def LamOk (fs : FEnv) (tab : List (Str × Str)) (X : Cx) : Prop := ∀ (W : WX) (x : Str) (es : List Expr) (f : Str) (as : List Expr) (scope : Scope) (pn p : Pos) (aa : IA), Takes X W → lamOf X.env.scope tab x es = some (f, as, scope) → Gl X x → okName x = true → (∀ (e : Expr) (r : List Expr) (env : Env), as = e :: r → starEach (e :: r) env = (false, eval e env) :: starEach r env ∧ (starEach r env).any (·.1) = false) →
  (∀ (A : Around) (outer : List Env) (s : Shared) (H : Hp) (E : XK) (f c' : Addr), (A.deeper (LamX.lamEnv X scope s.heap.objs.size f c')).units + 66 < cLine → PA (LamX.lamCx X A outer s H E scope f c').nox as (sA fs X.K (fun _ _ _ _ => False) aa)) →
  PE X (.Call (.Name x pn) es [] p) (sE fs X.K W (.fn (lamN x f) aa))
/-- the lambda that the def was handed -/
def ThkOk (fs : FEnv) (X : Cx) (x : Str) : Prop := ∀ (W : WX) (pn : List (Addr × Obj)) (xe : Value → Shared → Prop) (p1 p2 : Pos), Takes (X.tr pn xe) W → PE (X.tr pn xe) (.Call (.Name x p1) [] [] p2) (sE fs X.K W .thk)
/-- raise c(e), c with its own __init__ -/
def tMkE (f : Str) (C : Addr) (te : TE) : L2.St → Hp → XK → Prop := fun σ H Q => te σ H fun v H1 => ∃ i : Int, v = .int i ∧ i.natAbs < 10 ^ 40 ∧ ∀ d, H1 d = none → Q (.ref C) (some d) (upd H1 d (.xd [(f, .int i)]))
/-- a class of errors -/
structure ErrC (X : Cx) (c : Str) (at' : Option Str) (C : Addr) : Prop where
  cl : Tb.cl.lookup c = some (C, at')
  mg : X.mg c = some (.ref C)
  exm : ∀ c' C' a', Tb.cl.lookup c' = some (C', a') → PySem.W.exmOne X.K (.ref C') (.ref C) = some (decide (c' = c))
  mk0 : at' = none → ∃ (B newId initId : String) (bmB : List Value), ExcBaseFacts B newId initId bmB ∧ PySem.W.excIn X.K C bmB newId = true ∧ PySem.W.keepIn X.K (.ref C) = true ∧ Raises X (.ref C)
  mk1 : ∀ f, at' = some f → (∀ (pn : List (Addr × Obj)) (xe : Value → Shared → Prop) (e : Expr) (te : TE) (p pos : Pos), Gl X c → okName c = true → PE (X.tr pn xe) e te → starEach [e] X.env = [(false, eval e X.env)] → PMk (X.tr pn xe) (.Call (.Name c p) [e] [] pos) (tMkE f C te)) ∧
    XfC X.K C ∧ PySem.W.findIn X.K (.ref C) f = some none
abbrev noW : WX := fun _ _ _ _ => False
structure CxOk (fs : FEnv) (X : Cx) (W : WX) (C : Ctx) : Prop where
  hN : X.N = C.N
  nd : X.N.Nodup
  sc : X.env.scope = C.sc
  calm : C.hot = false → X.calm = true
  fnc : ∀ x, (match C.blk with | none => true | some s => s.names.lookup x == some .cell) = true → X.fn x = true
  un : X.A.units + 66 < cLine
  con : ∀ x d, C.con.lookup x = some d → ∃ v u, X.mg x = some u ∧ RelV v u ∧ ∀ φ H, Rep X.K φ H v d
  fns : C.hot = false → ∀ (x : Str), C.fn.contains x = true → ∃ sp, fs.f x = some sp ∧ Callable X x sp
  bns : ∀ x, C.bn.contains x = true → X.mg x = none
  tk : Takes X W
  own : PassesOwn (model X.prog X.w) X.A X.env X.xe
  dcn : ∀ n kds, C.dcn.lookup n = some kds → ∃ a, X.mg n = some (.ref a) ∧ ∀ y d, kds.lookup y = some d → ∃ v, KDct X.K X.w a y v ∧ ∀ φ H, Rep X.K φ H v d
  srt : C.srt = true → C.blk = none → C.hot = false → ∀ X', Like X X' → X'.env = X.env → X'.calm = true → SrtOk fs X'
  lam : C.hot = false → ∀ X', Like X X' → X'.calm = true → LamOk fs C.lam X'
  exs : C.blk = none → C.hot = false → ∀ c a, C.exs.lookup c = some a → ∃ Ca, ErrC X c a Ca
  fr : C.blk = none → C.hot = false → X.stack = X.env :: X.outer ∧ X.env.frame = some X.env.locals
  thk : C.blk = none → C.hot = false → ∀ x, C.thk = some x → ThkOk fs X x

section
variable (fs : FEnv) (K : PySem.W.Frag) (W : WX)
/-- what is wanted behind a store -/
def PostG (φ : List Addr) (H : Hp) (σ : L2.St) (slots : List Nat) (Q : L2.St → Hp → Prop) (QD : En → Sto → Prop) : Prop :=
  ∀ (ρ' : En) (S' : Sto) (σ' : L2.St) (H' : Hp) (φ' : List Addr), Le φ φ' → TupLe H H' → EnvRel K φ' H' ρ' σ' → SRel K φ' S' H' → Only σ σ' slots → QD ρ' S' → Q σ' H'
def sG (g : IG) : TG := fun v σ H Q => ∃ (d : D) (ρ : En) (S : Sto) (φ : List Addr) (QD : En → Sto → Prop), Rep K φ H v d ∧ EnvRel K φ H ρ σ ∧ SRel K φ S H ∧ wG fs g d ρ S noX QD ∧ PostG K φ H σ (gSlots g) Q QD
def sGs (g : IGs) : TGs := fun vs σ H Q => ∃ (ds : List D) (ρ : En) (S : Sto) (φ : List Addr) (QD : En → Sto → Prop), RepL K φ H vs ds ∧ EnvRel K φ H ρ σ ∧ SRel K φ S H ∧ wGs fs g ds ρ S noX QD ∧ PostG K φ H σ (gsSlots g) Q QD
/-- an iterator that walks these data -/
def Walks (φ₁ : List Addr) (H₁ : Hp) (J : It) (ds : List D) (chk : Sto → Prop) : Prop :=
  ∀ (i : Nat) (S : Sto) (φ : List Addr) (H : Hp), Le φ₁ φ → TupLe H₁ H → SRel K φ S H → chk S →
    (∀ d, ds[i]? = some d → J.go i H ∧ ∀ x H', J.yld i H x H' → TupLe H H' ∧ SRel K φ S H' ∧ Rep K φ H' x d) ∧ (ds.length = i → J.stop i H)
def sI (it : II) : TI := fun σ H R => ∃ (ρ : En) (S : Sto) (φ : List Addr) (XD : KX) (QD : KI), EnvRel K φ H ρ σ ∧ SRel K φ S H ∧ wI fs it ρ S XD QD ∧ PostX K φ H (WE W σ) XD ∧
  ∀ (ds : List D) (chk : Sto → Prop) (S' : Sto) (J : It) (H' : Hp) (φ' : List Addr), Le φ φ' → TupLe H H' → SRel K φ' S' H' → Walks K φ' H' J ds chk → QD ds chk S' → R J H'
/-- what is wanted behind a statement -/
structure PostS (φ : List Addr) (H : Hp) (Dn : Ends) (E : DEnds) : Prop where
  nx : ∀ (ρ' : En) (S' : Sto) (σ' : L2.St) (H' : Hp) (φ' : List Addr), Le φ φ' → TupLe H H' → EnvRel K φ' H' ρ' σ' → SRel K φ' S' H' → E.nx ρ' S' → Dn.nx σ' H'
  rt : Post K φ H Dn.rt E.rt
  bk : ∀ (ρ' : En) (S' : Sto) (σ' : L2.St) (H' : Hp) (φ' : List Addr), Le φ φ' → TupLe H H' → EnvRel K φ' H' ρ' σ' → SRel K φ' S' H' → E.bk ρ' S' → Dn.bk σ' H'
  ct : ∀ (ρ' : En) (S' : Sto) (σ' : L2.St) (H' : Hp) (φ' : List Addr), Le φ φ' → TupLe H H' → EnvRel K φ' H' ρ' σ' → SRel K φ' S' H' → E.ct ρ' S' → Dn.ct σ' H'
  xx : ∀ (c : Str) (d : D) (ρ' : En) (S' : Sto) (σ' : L2.St) (cls : Value) (dx : Option Addr) (H' : Hp) (φ' : List Addr), Le φ φ' → TupLe H H' → EnvRel K φ' H' ρ' σ' → SRel K φ' S' H' → ExcR K φ' H' c d cls dx → E.xx c d ρ' S' → W cls dx σ' H'
def sS (s : IS) : TS := fun D σ H => ∃ (ρ : En) (S : Sto) (φ : List Addr) (E : DEnds), EnvRel K φ H ρ σ ∧ SRel K φ S H ∧ wS fs s E ρ S ∧ PostS K W φ H D E
def sB (s : IB) : TS := fun D σ H => ∃ (ρ : En) (S : Sto) (φ : List Addr) (E : DEnds), EnvRel K φ H ρ σ ∧ SRel K φ S H ∧ wB fs s E ρ S ∧ PostS K W φ H D E
end
theorem PostG.mono {K : PySem.W.Frag} {φ φ' : List Addr} {H H' : Hp} {σ : L2.St} {sl : List Nat} {Q : L2.St → Hp → Prop} {QD : En → Sto → Prop} (p : PostG K φ H σ sl Q QD) (l : Le φ φ') (t : TupLe H H') : PostG K φ' H' σ sl Q QD :=
  fun ρ' S' σ' H2 φ2 l2 t2 r s o q => p ρ' S' σ' H2 φ2 (l.trans l2) (t.trans t2) r s o q
theorem PostS.mono {K : PySem.W.Frag} {W : WX} {φ φ' : List Addr} {H H' : Hp} {D : Ends} {E : DEnds} (p : PostS K W φ H D E) (l : Le φ φ') (t : TupLe H H') : PostS K W φ' H' D E :=
  ⟨fun ρ' S' σ' H2 φ2 l2 t2 r s q => p.nx ρ' S' σ' H2 φ2 (l.trans l2) (t.trans t2) r s q, p.rt.mono l t, fun ρ' S' σ' H2 φ2 l2 t2 r s q => p.bk ρ' S' σ' H2 φ2 (l.trans l2) (t.trans t2) r s q, fun ρ' S' σ' H2 φ2 l2 t2 r s q => p.ct ρ' S' σ' H2 φ2 (l.trans l2) (t.trans t2) r s q,
    fun c d ρ' S' σ' cls dx H2 φ2 l2 t2 r s x q => p.xx c d ρ' S' σ' cls dx H2 φ2 (l.trans l2) (t.trans t2) r s x q⟩
theorem PostS.x {K : PySem.W.Frag} {W : WX} {φ : List Addr} {H : Hp} {D : Ends} {E : DEnds} {ρ : En} {σ : L2.St} (p : PostS K W φ H D E) (he : EnvRel K φ H ρ σ) : PostX K φ H (WE W σ) (xk E ρ) :=
  fun c d S' cls dx H' φ' l t s x q => p.xx c d ρ S' σ cls dx H' φ' l t (he.mono l t) s x q

section
variable {fs : FEnv} {X : Cx} {W : WX} {C : Ctx} {e a b c : Expr} {x y z : IE} {p : Pos}

/-! ### expressions -/
theorem snd_var {i : Nat} {n : Str} (ok : CxOk fs X W C) (h : idxOf C.N n = some i) (hk : C.kind n = some .local ∨ C.kind n = some .cell ∨ C.kind n = some .free) (hn : okName n = true) : PE X (.Name n p) (sE fs X.K W (.var i)) := by
  have hv : Vis X.env.scope n := by rw [ok.sc]; exact hk
  unfold okName at hn
  simp only [Bool.and_eq_true, Bool.not_eq_true'] at hn
  refine (pe_var (i := i) (by rw [ok.hN]; exact idxOf_get h) hv hn.1.1 hn.1.2).sub fun σ H Q q => ?_
  obtain ⟨ρ, S, φ, XD, QD, he, hs, hw, hx, hp⟩ := q
  simp only [wE] at hw
  split at hw
  · rename_i d e
    obtain ⟨v, e1, r⟩ := he.at_ _ _ e
    exact ⟨v, e1, hp.here hs r hw⟩
  · exact hw.elim
theorem snd_cst {d : D} {v : V} (h : PE X e (tC v)) (r : ∀ φ H, Rep X.K φ H v d) : PE X e (sE fs X.K W (.cst d)) :=
  h.sub fun σ H Q ⟨ρ, S, φ, XD, QD, he, hs, hw, hx, hp⟩ => hp.here hs (r φ H) hw
theorem snd_const {cc : Const} {d : D} {k : Nat} (h : constD cc = some d) : PE X (.Constant cc k p) (sE fs X.K W (.cst d)) := by
  cases cc with
  | none => cases h; exact snd_cst pe_non fun _ _ => .non
  | bool b => cases h; exact snd_cst pe_bl fun _ _ => .bl b
  | int i => cases h; exact snd_cst pe_int fun _ _ => .int i
  | str i => cases h; exact snd_cst pe_str fun _ _ => .str i
  | _ => cases h
theorem snd_con {n : Str} {d : D} (ok : CxOk fs X W C) (hk : C.kind n = some .globalImplicit) (h : C.con.lookup n = some d) (hn : okName n = true) : PE X (.Name n p) (sE fs X.K W (.cst d)) := by
  obtain ⟨v, u, hm, r, q⟩ := ok.con n d h
  unfold okName at hn
  simp only [Bool.and_eq_true, Bool.not_eq_true'] at hn
  exact snd_cst (pe_glob (by show X.env.scope.names.lookup n = _; rw [ok.sc]; exact hk) hm r hn.1.1) q
theorem ty_boot {n : Str} {t : String} (h : tyName n = some t) : bootBuiltins n = some (.type t) := by
  unfold tyName at h
  repeat' split at h
  all_goals first
    | (rename_i e; subst e; cases h; decide +kernel)
    | cases h
theorem ok_name {n : Str} (hn : okName n = true) : n ≠ "__name__" ∧ (n == ("__debug__" : Str)) = false := by
  unfold okName at hn
  simp only [Bool.and_eq_true, Bool.not_eq_true'] at hn
  exact ⟨by simpa using hn.2, hn.1.1⟩
theorem snd_ty {n : Str} {t : String} (ok : CxOk fs X W C) (hk : C.kind n = some .globalImplicit) (hb : C.bn.contains n = true) (h : tyName n = some t) (hn : okName n = true) : PE X (.Name n p) (sE fs X.K W (.cst (.ty t))) := by
  obtain ⟨h1, h2⟩ := ok_name hn
  exact snd_cst (pe_bltn (v := .ty t) (by show X.env.scope.names.lookup n = _; rw [ok.sc]; exact hk) (ok.bns n hb) (ty_boot h) rfl h1 h2) fun _ _ => .ty t

theorem snd_tup {es : List Expr} {k : Nat} {as : IA} (h : PA X es (sA fs X.K W as)) : PE X (.Tuple es k p) (sE fs X.K W (.tup as)) := by
  refine (pe_tup h).sub fun σ H Q ⟨ρ, S, φ, XD, QD, he, hs, hw, hx, hp⟩ => ?_
  refine ⟨ρ, S, φ, XD, _, he, hs, hw, hx, fun ds S1 vs H1 φ1 l t s r q => ?_⟩
  exact ⟨by rw [r.length]; exact lim_le q.1, fun a ha => (hp.mono l t).tup s r q.2 ha⟩
theorem snd_lst {es : List Expr} {as : IA} (h : PA X es (sA fs X.K W as)) : PE X (.List es p) (sE fs X.K W (.lst as)) := by
  refine (pe_lst h).sub fun σ H Q ⟨ρ, S, φ, XD, QD, he, hs, hw, hx, hp⟩ => ?_
  refine ⟨ρ, S, φ, XD, _, he, hs, hw, hx, fun ds S1 vs H1 φ1 l t s r q => ?_⟩
  exact ⟨by rw [r.length]; exact lim_le q.1, fun a ha => (hp.mono l t).lst s r q.2 ha⟩
theorem snd_anil : PA X [] (sA fs X.K W .nil) :=
  pa_nil.sub fun σ H Q ⟨ρ, S, φ, XD, QD, he, hs, hw, hx, hp⟩ => hp [] S [] H φ (Le.refl φ) (TupLe.refl H) hs .nil hw
theorem snd_acons {es : List Expr} {as : IA} (h : PE X e (sE fs X.K W x)) (hr : PA X es (sA fs X.K W as)) (hs : starEach (e :: es) X.env = (false, eval e X.env) :: starEach es X.env) : PA X (e :: es) (sA fs X.K W (.cons x as)) := by
  refine (pa_cons h hr hs).sub fun σ H Q ⟨ρ, S, φ, XD, QD, he, hs, hw, hx, hp⟩ => ?_
  refine ⟨ρ, S, φ, XD, _, he, hs, hw, hx, fun d S1 v H1 φ1 l t s r q => ?_⟩
  refine ⟨ρ, S1, φ1, XD, _, he.mono l t, s, q, hx.mono l t, fun ds S2 vs H2 φ2 l2 t2 s2 r2 q2 => ?_⟩
  exact hp _ _ _ _ φ2 (l.trans l2) (t.trans t2) s2 (.cons (r.mono l2 t2) r2) q2
/-- two parts, one behind the other -/
theorem two {σ : L2.St} {H : Hp} {ρ : En} {S : Sto} {φ : List Addr} {XD : KX} {QD : D → D → Sto → Prop} {R : V → V → Hp → Prop} (he : EnvRel X.K φ H ρ σ) (hs : SRel X.K φ S H) (hw : wE fs x ρ S XD fun dx S1 => wE fs y ρ S1 XD fun dy S2 => QD dx dy S2) (hx : PostX X.K φ H (WE W σ) XD)
    (k : ∀ dx dy S2 vx vy H2 φ2, Le φ φ2 → TupLe H H2 → SRel X.K φ2 S2 H2 → Rep X.K φ2 H2 vx dx → Rep X.K φ2 H2 vy dy → QD dx dy S2 → R vx vy H2) :
    sE fs X.K W x σ H fun vx H1 => sE fs X.K W y σ H1 fun vy H2 => R vx vy H2 :=
  ⟨ρ, S, φ, XD, _, he, hs, hw, hx, fun dx S1 vx H1 φ1 l t s r q => ⟨ρ, S1, φ1, XD, _, he.mono l t, s, q, hx.mono l t, fun dy S2 vy H2 φ2 l2 t2 s2 r2 q2 => k dx dy S2 vx vy H2 φ2 (l.trans l2) (t.trans t2) s2 (r.mono l2 t2) r2 q2⟩⟩
theorem snd_bin {op : Operator} (ha : PE X a (sE fs X.K W x)) (hb : PE X b (sE fs X.K W y)) : PE X (.BinOp a op b p) (sE fs X.K W (.bin op x y)) := by
  refine (pe_op (opD op) ha hb).sub fun σ H Q ⟨ρ, S, φ, XD, QD, he, hs, hw, hx, hp⟩ => ?_
  exact two he hs hw hx fun dx dy S2 vx vy H2 φ2 l t s r1 r2 q => ⟨dx, dy, S2, φ2, QD, r1, r2, s, q, hp.mono l t⟩
theorem snd_not (ha : PE X a (sE fs X.K W x)) : PE X (.UnaryOp .Not a p) (sE fs X.K W (.not x)) := by
  refine (pe_notT ha).sub fun σ H Q ⟨ρ, S, φ, XD, QD, he, hs, hw, hx, hp⟩ => ?_
  refine ⟨ρ, S, φ, XD, _, he, hs, hw, hx, fun d S1 v H1 φ1 l t s r q => ?_⟩
  obtain ⟨k, hk, q⟩ := truD s r q
  exact ⟨k, hk, (hp.mono l t).here s (.bl _) q⟩
theorem snd_neg (ha : PE X a (sE fs X.K W x)) : PE X (.UnaryOp .USub a p) (sE fs X.K W (.neg x)) := by
  refine (pe_un un_neg ha).sub fun σ H Q ⟨ρ, S, φ, XD, QD, he, hs, hw, hx, hp⟩ => ?_
  refine ⟨ρ, S, φ, XD, _, he, hs, hw, hx, fun d S1 v H1 φ1 l t s r q => ?_⟩
  try dsimp only at q
  split at q
  · cases r
    exact ⟨_, rfl, (hp.mono l t).here s (.int _) q⟩
  · exact q.elim
theorem snd_and {rest : List Expr} (ha : PE X a (sE fs X.K W x)) (hb : PE X (.BoolOp .And (b :: rest) p) (sE fs X.K W y)) : PE X (.BoolOp .And (a :: b :: rest) p) (sE fs X.K W (.and x y)) := by
  refine (pe_andT ha hb).sub fun σ H Q ⟨ρ, S, φ, XD, QD, he, hs, hw, hx, hp⟩ => ?_
  refine ⟨ρ, S, φ, XD, _, he, hs, hw, hx, fun d S1 v H1 φ1 l t s r q => ?_⟩
  obtain ⟨k, hk, q⟩ := truD s r q
  refine ⟨k, hk, ?_⟩
  cases k with
  | true => exact ⟨ρ, S1, φ1, XD, QD, he.mono l t, s, q, hx.mono l t, hp.mono l t⟩
  | false => exact (hp.mono l t).here s r q
theorem snd_or {rest : List Expr} (ha : PE X a (sE fs X.K W x)) (hb : PE X (.BoolOp .Or (b :: rest) p) (sE fs X.K W y)) : PE X (.BoolOp .Or (a :: b :: rest) p) (sE fs X.K W (.or x y)) := by
  refine (pe_orT ha hb).sub fun σ H Q ⟨ρ, S, φ, XD, QD, he, hs, hw, hx, hp⟩ => ?_
  refine ⟨ρ, S, φ, XD, _, he, hs, hw, hx, fun d S1 v H1 φ1 l t s r q => ?_⟩
  obtain ⟨k, hk, q⟩ := truD s r q
  refine ⟨k, hk, ?_⟩
  cases k with
  | true => exact (hp.mono l t).here s r q
  | false => exact ⟨ρ, S1, φ1, XD, QD, he.mono l t, s, q, hx.mono l t, hp.mono l t⟩
theorem snd_cmp {op : CmpOp} (ok : CxOk fs X W C) (ha : PE X a (sE fs X.K W x)) (hb : PE X b (sE fs X.K W y)) (hm : behindInMarks op b = false) : PE X (.Compare a [op] [b] p) (sE fs X.K W (.cmp op x y)) := by
  refine (pe_cmpR (cpD op ok.un) ha hb hm).sub fun σ H Q ⟨ρ, S, φ, XD, QD, he, hs, hw, hx, hp⟩ => ?_
  exact two he hs hw hx fun dx dy S2 vx vy H2 φ2 l t s r1 r2 q => ⟨dx, dy, S2, φ2, _, r1, r2, s, q, fun k qk => by
    -- dCmp keeps the store
    exact (hp.mono l t).here s (.bl k) qk⟩

theorem snd_chn {op op' : CmpOp} (ok : CxOk fs X W C) (ha : PE X a (sE fs X.K W x)) (hb : PE X b (sE fs X.K W y)) (hc : PE X c (sE fs X.K W z)) (hm : lastMarks [op, op'] [b, c] = false) : PE X (.Compare a [op, op'] [b, c] p) (sE fs X.K W (.chn op op' x y z)) := by
  refine (pe_chain (cpD op ok.un) (cpD op' ok.un) ha hb hc hm).sub fun σ H Q ⟨ρ, S, φ, XD, QD, he, hs, hw, hx, hp⟩ => ?_
  refine two he hs hw hx fun dx dy S2 vx vy H2 φ2 l t s r1 r2 q => ⟨dx, dy, S2, φ2, _, r1, r2, s, q, fun k qk => ⟨k, rfl, ?_⟩⟩
  cases k with
  | true =>
    refine ⟨ρ, S2, φ2, XD, _, he.mono l t, s, qk, hx.mono l t, fun dz S3 vz H3 φ3 l3 t3 s3 r3 q3 => ?_⟩
    exact ⟨dy, dz, S3, φ3, _, r2.mono l3 t3, r3, s3, q3, fun k' q4 => (hp.mono (l.trans l3) (t.trans t3)).here s3 (.bl k') q4⟩
  | false => exact (hp.mono l t).here s (.bl false) qk
theorem snd_ite {tt : IT} (hc : PT X c (sT fs X.K W tt)) (ha : PE X a (sE fs X.K W x)) (hb : PE X b (sE fs X.K W y)) : PE X (.IfExp c a b p) (sE fs X.K W (.ite tt x y)) := by
  refine (pe_ifExp hc ha hb).sub fun σ H Q ⟨ρ, S, φ, XD, QD, he, hs, hw, hx, hp⟩ => ?_
  refine ⟨ρ, S, φ, XD, _, he, hs, hw, hx, fun k S1 H1 φ1 l t s q => ?_⟩
  cases k with
  | true => exact ⟨ρ, S1, φ1, XD, QD, he.mono l t, s, q, hx.mono l t, hp.mono l t⟩
  | false => exact ⟨ρ, S1, φ1, XD, QD, he.mono l t, s, q, hx.mono l t, hp.mono l t⟩

/-! ### tests -/
theorem snd_tval (ha : PE X a (sE fs X.K W x)) (h : ∀ whole, isTrue a X.env whole = (do let v ← whole; standAt a.pos; holding [v] (truthy v))) : PT X a (sT fs X.K W (.val x)) := by
  refine (pt_truth ha h).sub fun σ H Q ⟨ρ, S, φ, XD, QD, he, hs, hw, hx, hp⟩ => ?_
  refine ⟨ρ, S, φ, XD, _, he, hs, hw, hx, fun d S1 v H1 φ1 l t s r q => ?_⟩
  obtain ⟨k, hk, q⟩ := truD s r q
  exact ⟨k, hk, (hp.mono l t).here s q⟩
theorem snd_tcmp {op : CmpOp} (ok : CxOk fs X W C) (ha : PE X a (sE fs X.K W x)) (hb : PE X b (sE fs X.K W y)) (hm : behindInMarks op b = false) : PT X (.Compare a [op] [b] p) (sT fs X.K W (.cmp op x y)) := by
  refine (pt_cmpR (cpD op ok.un) ha hb hm).sub fun σ H Q ⟨ρ, S, φ, XD, QD, he, hs, hw, hx, hp⟩ => ?_
  exact two he hs hw hx fun dx dy S2 vx vy H2 φ2 l t s r1 r2 q => ⟨dx, dy, S2, φ2, _, r1, r2, s, q, fun k qk => ⟨k, rfl, (hp.mono l t).here s qk⟩⟩
theorem snd_tchn {op op' : CmpOp} (ok : CxOk fs X W C) (ha : PE X a (sE fs X.K W x)) (hb : PE X b (sE fs X.K W y)) (hc : PE X c (sE fs X.K W z)) (hm : lastMarks [op, op'] [b, c] = false) : PT X (.Compare a [op, op'] [b, c] p) (sT fs X.K W (.chn op op' x y z)) := by
  refine (pt_chain (cpD op ok.un) (cpD op' ok.un) ha hb hc hm).sub fun σ H Q ⟨ρ, S, φ, XD, QD, he, hs, hw, hx, hp⟩ => ?_
  refine two he hs hw hx fun dx dy S2 vx vy H2 φ2 l t s r1 r2 q => ⟨dx, dy, S2, φ2, _, r1, r2, s, q, fun k qk => ⟨k, rfl, ?_⟩⟩
  cases k with
  | true =>
    refine ⟨ρ, S2, φ2, XD, _, he.mono l t, s, qk, hx.mono l t, fun dz S3 vz H3 φ3 l3 t3 s3 r3 q3 => ?_⟩
    exact ⟨dy, dz, S3, φ3, _, r2.mono l3 t3, r3, s3, q3, fun k' q4 => ⟨k', rfl, (hp.mono (l.trans l3) (t.trans t3)).here s3 q4⟩⟩
  | false => exact ⟨false, rfl, (hp.mono l t).here s qk⟩
theorem snd_tand {rest : List Expr} {t u : IT} (ha : PT X a (sT fs X.K W t)) (hb : PW X (.BoolOp .And (b :: rest) p) (sT fs X.K W u)) : PW X (.BoolOp .And (a :: b :: rest) p) (sT fs X.K W (.and t u)) := by
  refine (pw_and ha hb).sub fun σ H Q ⟨ρ, S, φ, XD, QD, he, hs, hw, hx, hp⟩ => ?_
  refine ⟨ρ, S, φ, XD, _, he, hs, hw, hx, fun k S1 H1 φ1 l t s q => ?_⟩
  cases k with
  | true => exact ⟨ρ, S1, φ1, XD, QD, he.mono l t, s, q, hx.mono l t, hp.mono l t⟩
  | false => exact (hp.mono l t).here s q
theorem snd_tor {rest : List Expr} {t u : IT} (ha : PT X a (sT fs X.K W t)) (hb : PW X (.BoolOp .Or (b :: rest) p) (sT fs X.K W u)) : PW X (.BoolOp .Or (a :: b :: rest) p) (sT fs X.K W (.or t u)) := by
  refine (pw_or ha hb).sub fun σ H Q ⟨ρ, S, φ, XD, QD, he, hs, hw, hx, hp⟩ => ?_
  refine ⟨ρ, S, φ, XD, _, he, hs, hw, hx, fun k S1 H1 φ1 l t s q => ?_⟩
  cases k with
  | true => exact (hp.mono l t).here s q
  | false => exact ⟨ρ, S1, φ1, XD, QD, he.mono l t, s, q, hx.mono l t, hp.mono l t⟩
theorem snd_tnot {t : IT} (ha : PT X a (sT fs X.K W t)) : PT X (.UnaryOp .Not a p) (sT fs X.K W (.not t)) := by
  refine (pt_not ha).sub fun σ H Q ⟨ρ, S, φ, XD, QD, he, hs, hw, hx, hp⟩ => ?_
  exact ⟨ρ, S, φ, XD, _, he, hs, hw, hx, fun k S1 H1 φ1 l t s q => hp _ _ _ φ1 l t s q⟩
theorem snd_tsnil : PTs X [] (sTs fs X.K W .none) :=
  ⟨fun pins s σ H Q I ⟨ρ, S, φ, XD, QD, he, hs, hw, hx, hp⟩ => pts_nil.run pins s σ H Q I (hp.here hs hw)⟩
theorem snd_tsone {t : IT} (h : PT X a (sT fs X.K W t)) : PTs X [a] (sTs fs X.K W (.one t)) :=
  ⟨fun pins s σ H Q I ⟨ρ, S, φ, XD, QD, he, hs, hw, hx, hp⟩ => (pts_one h).run pins s σ H Q I ⟨ρ, S, φ, XD, QD, he, hs, hw, hx, hp⟩⟩

/-! ### calls -/
theorem gl_of {n : Str} (ok : CxOk fs X W C) (hk : C.kind n = some .globalImplicit) : Gl X n := by
  show X.env.scope.names.lookup n = _
  rw [ok.sc]; exact hk
theorem snd_fn {n : Str} {e : Expr} {r : List Expr} {as : IA} {pn : Pos} (ok : CxOk fs X W C) (hot : C.hot = false) (hk : C.kind n = some .globalImplicit) (hn : okName n = true) (hi : C.fn.contains n = true) (ha : PA X (e :: r) (sA fs X.K W as))
    (he : starEach (e :: r) X.env = (false, eval e X.env) :: starEach r X.env) (hpl : (backTo p (starEach r X.env)).any (·.1) = false) : PE X (.Call (.Name n pn) (e :: r) [] p) (sE fs X.K W (.fn n as)) := by
  obtain ⟨sp, hsp, ⟨f, fd, ps, k, F, hr, hm, hkp, hb⟩⟩ := ok.fns hot n hi
  obtain ⟨_, hd⟩ := ok_name hn
  refine (pe_callS F hr (gl_of ok hk) hm hkp hb (fun σ => passAt ok.tk σ) ha hd he hpl).sub fun σ H Q ⟨ρ, S, φ, XD, QD, hee, hs, hw, hx, hp⟩ => ?_
  simp only [wE, hsp] at hw
  refine ⟨ρ, S, φ, XD, _, hee, hs, hw, hx, fun ds S1 vs H1 φ1 l t s r q => ?_⟩
  exact ⟨ds, S1, φ1, XD, QD, r, s, q, hx.mono l t, hp.mono l t⟩
theorem pe_call0S {X : Cx} {W : WX} {CX : CXT} {k : Nat} {f : Addr} {fd : FuncData} {ps : List Str} {sp : Sp} {E : L2.St → XK} {x : Str} {p pos : Pos} (F : FnOk X.prog X.w X.K X.mg X.base CX k f fd ps sp) (hr : Room k X.A) (hg : Gl X x) (hm : X.mg x = some (.ref f)) (hk : PySem.W.keepIn X.K (.ref f) = true) (hb : Binds X.K fd ps []) (hx : ∀ σ, PassesAt CX X σ (E σ))
    (hdb : (x == ("__debug__" : Str)) = false := by decide) : PE X (.Call (.Name x p) [] [] pos) (fun σ H Q => sp [] H Q (E σ)) := by
  refine ⟨fun pins s σ H Q I h => ?_⟩
  refine wpAny_Call_Name_kw (ld_glob I hg hm ?_ hdb)
  exact PySem.W.callWith_K0 I.kIn hk (run_fnS (us := []) F hr hb (hx σ) I .nil h)
theorem snd_fn0 {n : Str} {pn : Pos} (ok : CxOk fs X W C) (hot : C.hot = false) (hk : C.kind n = some .globalImplicit) (hn : okName n = true) (hi : C.fn.contains n = true) : PE X (.Call (.Name n pn) [] [] p) (sE fs X.K W (.fn n .nil)) := by
  obtain ⟨sp, hsp, ⟨f, fd, ps, k, F, hr, hm, hkp, hb⟩⟩ := ok.fns hot n hi
  obtain ⟨_, hd⟩ := ok_name hn
  refine (pe_call0S (W := W) F hr (gl_of ok hk) hm hkp hb (fun σ => passAt ok.tk σ) hd).sub fun σ H Q ⟨ρ, S, φ, XD, QD, hee, hs, hw, hx, hp⟩ => ?_
  simp only [wE, hsp, wA] at hw
  exact ⟨[], S, φ, XD, QD, .nil, hs, hw, hx, hp⟩
theorem ite_step {c : Prop} [Decidable c] {a f : Bn} {b : Option Bn} (h : (if c then some a else b) = some f) : (c ∧ a = f) ∨ b = some f := by
  by_cases e : c
  · rw [if_pos e] at h; exact .inl ⟨e, Option.some.inj h⟩
  · rw [if_neg e] at h; exact .inr h
theorem bn_boot {n : Str} {k : Nat} {f : Bn} (h : bnOf n k = some f) : bootBuiltins n = some (bnV f) := by
  unfold bnOf at h
  rcases ite_step h with ⟨e, rfl⟩ | h
  · rw [e.1]; decide +kernel
  rcases ite_step h with ⟨e, rfl⟩ | h
  · rw [e.1]; decide +kernel
  rcases ite_step h with ⟨e, rfl⟩ | h
  · rw [e.1]; decide +kernel
  rcases ite_step h with ⟨e, rfl⟩ | h
  · rw [e.1]; decide +kernel
  rcases ite_step h with ⟨e, rfl⟩ | h
  · rw [e.1]; decide +kernel
  rcases ite_step h with ⟨e, rfl⟩ | h
  · rw [e.1]; decide +kernel
  rcases ite_step h with ⟨e, rfl⟩ | h
  · rw [e.1]; decide +kernel
  rcases ite_step h with ⟨e, rfl⟩ | h
  · rw [e.1]; decide +kernel
  rcases ite_step h with ⟨e, rfl⟩ | h
  · rw [e.1]; decide +kernel
  rcases ite_step h with ⟨e, rfl⟩ | h
  · rw [e.1]; decide +kernel
  rcases ite_step h with ⟨e, rfl⟩ | h
  · rw [e.1]; decide +kernel
  rcases ite_step h with ⟨e, rfl⟩ | h
  · rw [e.1]; decide +kernel
  rcases ite_step h with ⟨e, rfl⟩ | h
  · rw [e.1]; decide +kernel
  cases h
theorem snd_blt {n : Str} {f : Bn} {e : Expr} {r : List Expr} {as : IA} {pn : Pos} {k : Nat} (ok : CxOk fs X W C) (hot : C.hot = false) (hk : C.kind n = some .globalImplicit) (hn : okName n = true) (hb : C.bn.contains n = true) (hf : bnOf n k = some f) (ha : PA X (e :: r) (sA fs X.K W as))
    (he : starEach (e :: r) X.env = (false, eval e X.env) :: starEach r X.env) (hpl : (backTo p (starEach r X.env)).any (·.1) = false) : PE X (.Call (.Name n pn) (e :: r) [] p) (sE fs X.K W (.blt f as)) := by
  obtain ⟨hd0, hd⟩ := ok_name hn
  have hv := bn_boot hf
  have hm := ok.bns n hb
  have hg : Gl X n := gl_of ok hk
  have base : PE X (.Call (.Name n pn) (e :: r) [] p) (tCB (rBl X.K f) (sA fs X.K W as)) := by
    have hc := bltD (X := X) (ok.calm hot) ok.un f
    cases f <;> first
      | exact pe_callB hc hg hm hv ha hd0 hd he hpl
      | exact pe_callTy hc hg hm hv ha hd0 hd he hpl
  refine base.sub fun σ H Q ⟨ρ, S, φ, XD, QD, hee, hs, hw, hx, hp⟩ => ?_
  exact ⟨ρ, S, φ, XD, _, hee, hs, hw, hx, fun ds S1 vs H1 φ1 l t s r q => ⟨ds, S1, φ1, QD, r, s, q, hp.mono l t⟩⟩
theorem snd_app {n : Str} {pn ap : Pos} (ho : PE X (.Name n pn) (sE fs X.K W x)) (ha : PE X a (sE fs X.K W y)) (hline : (ap.endLine == p.line) = true) (he : starEach [a] X.env = [(false, eval a X.env)]) :
    PE X (.Call (.Attribute (.Name n pn) "append" ap) [a] [] p) (sE fs X.K W (.app x y)) := by
  have h2 : PA X [a] (sA fs X.K W (.cons y .nil)) := snd_acons ha snd_anil (by rw [he]; rfl)
  refine (pe_bm (T := "list") PySem.F.plainAttrs_list PySem.F.slot_list_append PySem.F.type_list_append appD ho h2 rfl (by rw [he]; rfl) hline (by rw [he]; rfl) rfl).sub fun σ H Q ⟨ρ, S, φ, XD, QD, hee, hs, hw, hx, hp⟩ => ?_
  refine ⟨ρ, S, φ, XD, _, hee, hs, hw, hx, fun dx S1 vx H1 φ1 l t s r q => ?_⟩
  obtain ⟨hr, q⟩ := q
  refine ⟨?_, ρ, S1, φ1, XD, fun ds S2 => match ds with | [dy] => dApp dx dy S2 QD | _ => False, hee.mono l t, s, q, hx.mono l t, fun ds S2 vs H2 φ2 l2 t2 s2 r2 q2 => ?_⟩
  · cases r with
    | @ref ad m hm =>
      simp only [isLst] at hr
      split at hr
      · rename_i ds e
        obtain ⟨vs, f1, _⟩ := s.ob _ _ _ hm e
        exact .inl ⟨rfl, vs, SqL.of f1⟩
      · exact hr.elim
    | _ => exact False.elim hr
  · match ds, r2, q2 with
    | [dy], r2, q2 =>
      obtain ⟨v, rfl, rv⟩ := repL1 r2
      exact ⟨dx, dy, v, S2, φ2, QD, rfl, r.mono l2 t2, rv, s2, q2, hp.mono (l.trans l2) (t.trans t2)⟩
    | [], _, q2 => exact q2.elim
    | _ :: _ :: _, _, q2 => exact q2.elim
theorem extD : MtR X "list.extend" (fun x xs H Q => ∃ (dx dy : D) (y : V) (S : Sto) (φ : List Addr) (QD : KQ), xs = [y] ∧ Rep X.K φ H x dx ∧ Rep X.K φ H y dy ∧ SRel X.K φ S H ∧ dExt dx dy S QD ∧ Post X.K φ H Q QD) := by
  intro pins s σ H x xs v us Q I rx rs h
  obtain ⟨dx, dy, y, S, φ, QD, rfl, hx, hy, hs, hw, hp⟩ := h
  unfold dExt at hw
  split at hw
  · cases hx with
    | @ref a n hn =>
      cases hy with
      | @ref b m hm =>
        split at hw
        · rename_i ds es e1 e2
          obtain ⟨vs, f1, r1⟩ := hs.ob _ _ _ hn e1
          obtain ⟨ws, f2, r2⟩ := hs.ob _ _ _ hm e2
          have l1 := r1.length
          have l2 := r2.length
          refine mt_extend pins s σ H _ _ v us Q I rx rs ⟨a, b, vs, ws, rfl, rfl, f1, f2, lim_le (by rw [l1, l2]; exact hw.1), ?_⟩
          exact hp _ _ _ _ φ (Le.refl φ) (TupLe.mut f1) (hs.put hn f1 (r1.app r2)) .non hw.2
        · exact hw.elim
  · exact hw.elim
theorem snd_ext {n : Str} {pn ap : Pos} (ho : PE X (.Name n pn) (sE fs X.K W x)) (ha : PE X a (sE fs X.K W y)) (hline : (ap.endLine == p.line) = true) (he : starEach [a] X.env = [(false, eval a X.env)]) :
    PE X (.Call (.Attribute (.Name n pn) "extend" ap) [a] [] p) (sE fs X.K W (.extd x y)) := by
  have h2 : PA X [a] (sA fs X.K W (.cons y .nil)) := snd_acons ha snd_anil (by rw [he]; rfl)
  refine (pe_bm (T := "list") PySem.F.plainAttrs_list PySem.F.slot_list_extend PySem.F.type_list_extend extD ho h2 rfl (by rw [he]; rfl) hline (by rw [he]; rfl) rfl).sub fun σ H Q ⟨ρ, S, φ, XD, QD, hee, hs, hw, hx, hp⟩ => ?_
  refine ⟨ρ, S, φ, XD, _, hee, hs, hw, hx, fun dx S1 vx H1 φ1 l t s r q => ?_⟩
  obtain ⟨hr, q⟩ := q
  refine ⟨?_, ρ, S1, φ1, XD, fun ds S2 => match ds with | [dy] => dExt dx dy S2 QD | _ => False, hee.mono l t, s, q, hx.mono l t, fun ds S2 vs H2 φ2 l2 t2 s2 r2 q2 => ?_⟩
  · cases r with
    | @ref ad m hm =>
      simp only [isLst] at hr
      split at hr
      · rename_i ds e
        obtain ⟨vs, f1, _⟩ := s.ob _ _ _ hm e
        exact .inl ⟨rfl, vs, SqL.of f1⟩
      · exact hr.elim
    | _ => exact False.elim hr
  · match ds, r2, q2 with
    | [dy], r2, q2 =>
      obtain ⟨v, rfl, rv⟩ := repL1 r2
      exact ⟨dx, dy, v, S2, φ2, QD, rfl, r.mono l2 t2, rv, s2, q2, hp.mono (l.trans l2) (t.trans t2)⟩
    | [], _, q2 => exact q2.elim
    | _ :: _ :: _, _, q2 => exact q2.elim
theorem snd_dnew : PE X (.Dict [] [] p) (sE fs X.K W .dnew) := by
  refine pe_dnewT.sub fun σ H Q ⟨ρ, S, φ, XD, QD, he, hs, hw, hx, hp⟩ => ?_
  intro a ha
  exact hp _ _ _ _ (φ ++ [a]) (Le.app φ [a]) (TupLe.new ha) (hs.allocO (o := .dct []) ha ⟨[], rfl, rfl, .nil⟩) (.ref hs.idx) hw
theorem snd_csub {n : Str} {kds : List (Str × D)} {pn : Pos} (ok : CxOk fs X W C) (hk : C.kind n = some .globalImplicit) (hn : okName n = true) (h : C.dcn.lookup n = some kds) (hi : PE X b (sE fs X.K W x)) (hpi : PlainIx b) : PE X (.Subscript (.Name n pn) b p) (sE fs X.K W (.csub kds x)) := by
  obtain ⟨ad, hm, hd⟩ := ok.dcn n kds h
  unfold okName at hn
  simp only [Bool.and_eq_true, Bool.not_eq_true'] at hn
  have hg : PE X (.Name n pn) (tC (.ref ad)) := pe_glob (by show X.env.scope.names.lookup n = _; rw [ok.sc]; exact hk) hm rfl hn.1.1
  refine (pe_ix ix_kdict hg hi hpi).sub fun σ H Q ⟨ρ, S, φ, XD, QD, he, hs, hw, hx, hp⟩ => ?_
  refine ⟨ρ, S, φ, XD, _, he, hs, hw, hx, fun d S1 v H1 φ1 l t s r q => ?_⟩
  try dsimp only at q
  split at q
  · obtain ⟨e, h1, q⟩ := q
    cases r
    obtain ⟨w, k1, k2⟩ := hd _ _ h1
    exact ⟨ad, _, w, rfl, rfl, k1, hp _ _ _ _ φ1 l t s (k2 _ _) q⟩
  · exact q.elim
theorem rg_ints {φ0 : List Addr} {H0 : Hp} (j : Int) (h : 0 ≤ j) : RepL X.K φ0 H0 (rgV 0 j) (intsFrom 0 j.toNat) := by
  have : ∀ (f : Nat → Int) (l : List Nat), RepL X.K φ0 H0 (l.map fun i => V.int (f i)) (l.map fun i => D.int (f i)) := fun f l => by
    induction l with
    | nil => exact .nil
    | cons a r ih => exact .cons (.int _) ih
  unfold rgV intsFrom
  rw [Int.sub_zero]
  exact this (fun i => 0 + (i : Int)) _
theorem snd_lrng {pn pr prc : Pos} (ok : CxOk fs X W C) (hot : C.hot = false) (hl : C.kind "list" = some .globalImplicit) (hbl : C.bn.contains "list" = true) (hr : C.kind "range" = some .globalImplicit) (hbr : C.bn.contains "range" = true) (ha : PE X a (sE fs X.K W x)) (he : starEach [a] X.env = [(false, eval a X.env)]) :
    PE X (.Call (.Name "list" pn) [.Call (.Name "range" pr) [a] [] prc] [] p) (sE fs X.K W (.lrng x)) := by
  have gl : Gl X "list" := by show X.env.scope.names.lookup _ = _; rw [ok.sc]; exact hl
  have gr : Gl X "range" := by show X.env.scope.names.lookup _ = _; rw [ok.sc]; exact hr
  refine (pe_listRg (ok.calm hot) gl (ok.bns _ hbl) (prg_1 gr (ok.bns _ hbr) ha (by rw [he]; rfl))).sub fun σ H Q ⟨ρ, S, φ, XD, QD, hee, hs, hw, hx, hp⟩ => ?_
  refine ⟨ρ, S, φ, XD, _, hee, hs, hw, hx, fun d S1 v H1 φ1 l t s r q => ?_⟩
  try dsimp only at q
  split at q
  · obtain ⟨⟨q1, q2⟩, q⟩ := q
    cases r
    refine ⟨_, rfl, ?_⟩
    exact ⟨⟨by omega, by omega, by omega, by omega, by omega⟩, fun z hz => (hp.mono l t).lst s (rg_ints _ q1) q hz⟩
  · exact q.elim
theorem snd_idx (hu : X.A.units + 66 < cLine) (ha : PE X a (sE fs X.K W x)) (hb : PE X b (sE fs X.K W y)) (hp : PlainIx b) : PE X (.Subscript a b p) (sE fs X.K W (.idx x y)) := by
  refine (pe_ix (ixD hu) ha hb hp).sub fun σ H Q ⟨ρ, S, φ, XD, QD, he, hs, hw, hx, hp⟩ => ?_
  exact two he hs hw hx fun dx dy S2 vx vy H2 φ2 l t s r1 r2 q => ⟨dx, dy, S2, φ2, QD, r1, r2, s, q, hp.mono l t⟩
/-- a written dict -/
def trsOf (fs : FEnv) (K : PySem.W.Frag) (W : WX) : List Str → IA → List (TE × TE)
  | k :: ks, .cons e as => (sE fs K W (.cst (.str k)), sE fs K W e) :: trsOf fs K W ks as
  | _, _ => []
def alen : IA → Nat
  | .nil => 0
  | .cons _ as => alen as + 1
  | .star _ as => alen as + 1
def noStar : IA → Bool
  | .nil => true
  | .cons _ as => noStar as
  | .star _ _ => false
theorem pairs_of {fs : FEnv} {K : PySem.W.Frag} {W : WX} : ∀ (ks : List Str) (as : IA) {ρ : En} {S : Sto} {φ : List Addr} {σ : L2.St} {H : Hp} {XD : KX} {QL : KL} {Q : List (V × V) → Hp → Prop}, noStar as = true → EnvRel K φ H ρ σ → SRel K φ S H → wA fs as ρ S XD QL → PostX K φ H (WE W σ) XD → alen as = ks.length →
    (∀ ds S' vs H' φ', Le φ φ' → TupLe H H' → SRel K φ' S' H' → RepL K φ' H' vs ds → QL ds S' → vs.length = ks.length → Q (List.zipWith (fun k v => (V.str k, v)) ks vs) H') → tPairs (trsOf fs K W ks as) σ H Q
  | [], .nil, ρ, S, φ, σ, H, XD, QL, Q, _, he, hs, hw, hx, _, h => h [] S [] H φ (Le.refl φ) (TupLe.refl H) hs .nil hw rfl
  | [], .cons _ _, _, _, _, _, _, _, _, _, _, _, _, _, _, hl, _ => by simp [alen] at hl
  | _, .star _ _, _, _, _, _, _, _, _, _, hn, _, _, _, _, _, _ => by cases hn
  | _ :: _, .nil, _, _, _, _, _, _, _, _, _, _, _, _, _, hl, _ => by simp [alen] at hl
  | k :: ks, .cons e as, ρ, S, φ, σ, H, XD, QL, Q, hn, he, hs, hw, hx, hl, h => by
    refine ⟨ρ, S, φ, noX, fun d S1 => d = .str k ∧ S1 = S, he, hs, ⟨rfl, rfl⟩, PostX.no, fun d S1 v H1 φ1 l t s r q => ?_⟩
    obtain ⟨rfl, rfl⟩ := q
    cases r
    refine ⟨ρ, S1, φ1, XD, _, he.mono l t, s, hw, hx.mono l t, fun d S2 v H2 φ2 l2 t2 s2 r2 q2 => ?_⟩
    refine pairs_of ks as hn (he.mono (l.trans l2) (t.trans t2)) s2 q2 (hx.mono (l.trans l2) (t.trans t2)) (by simpa [alen] using hl) fun ds S' vs H' φ' l3 t3 s3 r3 q3 hv => ?_
    exact h (d :: ds) S' (v :: vs) H' φ' ((l.trans l2).trans l3) ((t.trans t2).trans t3) s3 (.cons (r2.mono l3 t3) r3) q3 (by simp [hv])
theorem merge_new {κ : Type} [DecidableEq κ] : ∀ (more acc : List (κ × V)), (∀ kv ∈ more, ∀ e ∈ acc, e.1 ≠ kv.1) → (more.map (·.1)).Nodup → more.foldl (fun acc kv => putK acc kv.1 kv.2) acc = acc ++ more
  | [], acc, _, _ => by simp
  | kv :: r, acc, h, hn => by
    have e : putK acc kv.1 kv.2 = acc ++ [kv] := by
      unfold putK
      rw [if_neg]
      simp only [List.any_eq_true, decide_eq_true_eq, not_exists, not_and]
      exact fun x hx => h kv List.mem_cons_self x hx
    rw [List.map_cons, List.nodup_cons] at hn
    rw [List.foldl_cons, e, merge_new r (acc ++ [kv]) (fun x hx y hy => ?_) hn.2]
    · simp
    · rcases List.mem_append.mp hy with hy | hy
      · exact h x (List.mem_cons_of_mem _ hx) y hy
      · rw [List.mem_singleton.mp hy]
        exact fun z => hn.1 (by rw [z]; exact List.mem_map_of_mem (f := fun p : κ × V => p.1) hx)
theorem zip_keys : ∀ (ks : List Str) (vs : List V), vs.length = ks.length → ((List.zipWith (fun k v => ((.inr k : Key), v)) ks vs).map (·.1)) = ks.map Sum.inr
  | [], [], _ => rfl
  | [], _ :: _, h => by simp at h
  | _ :: _, [], h => by simp at h
  | k :: ks, v :: vs, h => by
    simp only [List.zipWith_cons_cons, List.map_cons]
    rw [zip_keys ks vs (by simpa using h)]
theorem zip_vals : ∀ (ks : List Str) (vs : List V), vs.length = ks.length → ((List.zipWith (fun k v => ((.inr k : Key), v)) ks vs).map (·.2)) = vs
  | [], [], _ => rfl
  | [], _ :: _, h => by simp at h
  | _ :: _, [], h => by simp at h
  | k :: ks, v :: vs, h => by
    simp only [List.zipWith_cons_cons, List.map_cons]
    rw [zip_vals ks vs (by simpa using h)]
theorem snd_ddsp {keys : List (Option Expr)} {values : List Expr} {ks : List Str} {as : IA} (hP : PPs X p keys values (trsOf fs X.K W ks as)) (hal : alen as = ks.length) (hns : noStar as = true) (hall : keys.all (·.isSome) = true) (hl : keys.length = values.length) (h0 : 0 < keys.length) (h15 : keys.length ≤ 15) (hkl : ks.length = keys.length) (hn : ks.Nodup) :
    PE X (.Dict keys values p) (sE fs X.K W (.ddsp ks as)) := by
  refine (pe_disp hP hall hl (fun z => by rw [z] at h0; simp at h0) h15).sub fun σ H Q ⟨ρ, S, φ, XD, QD, he, hs, hw, hx, hp⟩ => ?_
  intro a ha
  have t0 : TupLe H (upd H a (.dK [])) := TupLe.new ha
  have s0 : SRel X.K (φ ++ [a]) (S ++ [.dk []]) (upd H a (.dK [])) := hs.allocO (o := .dk []) ha ⟨[], rfl, rfl, .nil⟩
  have ia : (φ ++ [a])[S.length]? = some a := hs.idx
  refine pairs_of ks as hns (he.mono (Le.app φ [a]) t0) s0 hw (hx.mono (Le.app φ [a]) t0) hal fun ds S2 vs H2 φ2 l2 t2 s2 r2 q2 hv => ?_
  obtain ⟨e1, e3, q⟩ := q2
  have i2 := l2 _ _ ia
  obtain ⟨us, f1, f2, f3⟩ := s2.ob _ _ _ i2 e1
  have : us = [] := by
    cases us with
    | nil => rfl
    | cons => cases f2
  subst this
  refine ⟨f1, List.zipWith (fun k v => ((.inr k : Key), v)) ks vs, ?_, ?_, ?_⟩
  · rw [List.map_zipWith]; rfl
  · rw [List.length_zipWith]; omega
  · have mk : mergeK [] (List.zipWith (fun k v => ((.inr k : Key), v)) ks vs) = List.zipWith (fun k v => ((.inr k : Key), v)) ks vs := by
      unfold mergeK
      rw [merge_new _ [] (fun _ _ _ z => by cases z) (by rw [zip_keys ks vs hv]; exact List.pairwise_map.mpr (hn.imp fun z w => z (Sum.inr.inj w)))]
      rfl
    rw [mk]
    refine hp _ _ _ _ φ2 ((Le.app φ [a]).trans l2) (t0.trans (t2.trans (TupLe.mutK f1))) (s2.putO (o := .dk ((ks.map Sum.inr).zip ds)) i2 (TupLe.mutK f1) ⟨_, rfl, ?_, ?_⟩) (.ref i2) q
    · rw [zip_keys ks vs hv, List.map_fst_zip]
      simp; omega
    · rw [zip_vals ks vs hv, List.map_snd_zip]
      · exact r2
      · simp; omega
theorem snd_dknew : PE X (.Dict [] [] p) (sE fs X.K W .dknew) := by
  refine pe_dnewK.sub fun σ H Q ⟨ρ, S, φ, XD, QD, he, hs, hw, hx, hp⟩ => ?_
  intro a ha
  exact hp _ _ _ _ (φ ++ [a]) (Le.app φ [a]) (TupLe.new ha) (hs.allocO (o := .dk []) ha ⟨[], rfl, rfl, .nil⟩) (.ref hs.idx) hw
theorem snd_astar {es : List Expr} {as : IA} {ps : Pos} (h : PE X e (sE fs X.K W x)) (hr : PA X es (sA fs X.K W as)) (hs : starEach (.Starred e ps :: es) X.env = (true, eval e X.env) :: starEach es X.env) : PA X (.Starred e ps :: es) (sA fs X.K W (.star x as)) := by
  refine (StX.pa_star h hr hs).sub fun σ H Q ⟨ρ, S, φ, XD, QD, he, hs, hw, hx, hp⟩ => ?_
  refine ⟨ρ, S, φ, XD, _, he, hs, hw, hx, fun d S1 v H1 φ1 l t s r q => ?_⟩
  obtain ⟨a, vs, xs, rfl, hq, rl, k⟩ := items1 s r q
  refine ⟨a, vs, rfl, ?_, ρ, S1, φ1, XD, _, he.mono l t, s, k, hx.mono l t, fun ds S2 ws H2 φ2 l2 t2 s2 r2 q2 => ?_⟩
  · rcases hq with hq | hq | hq
    · exact .inr hq
    · exact .inl hq.1
    · exact .inl hq.1
  · exact hp _ _ _ _ φ2 (l.trans l2) (t.trans t2) s2 ((rl.mono l2 t2).app r2) q2
theorem strs1 {v : V} {d : D} {K : PySem.W.Frag} {φ : List Addr} {H : Hp} {S : Sto} {k : List Str → Prop} (s : SRel K φ S H) (r : Rep K φ H v d) (h : dStrs d S k) : ∃ a ys, v = .ref a ∧ (SqL K H a (ys.map V.str) ∨ SqT K H a (ys.map V.str)) ∧ k ys := by
  unfold dStrs at h
  split at h
  · rename_i xs e
    split at h
    · rename_i ys e2
      obtain ⟨a, vs, rfl, hq, rl⟩ := items_rep s r e
      have := strs_vs rl e2
      subst this
      exact ⟨a, ys, rfl, hq, h⟩
    · exact h.elim
  · exact h.elim
theorem lim_big {n : Nat} (h : n ≤ LIM) : n ≤ 16777216 := Nat.le_trans h (by decide)
theorem snd_jn {o : Expr} {apos : Pos} (ho : PE X o (sE fs X.K W x)) (ha : PE X a (sE fs X.K W y)) (hs : starEach [a] X.env = [(false, eval a X.env)]) (hbase : attributeBase o "join" X.env (eval o X.env) = eval o X.env) (hline : (apos.endLine == p.line) = true) :
    PE X (.Call (.Attribute o "join" apos) [a] [] p) (sE fs X.K W (.jn x y)) := by
  refine (pe_join ho ha hs hbase hline).sub fun σ H Q ⟨ρ, S, φ, XD, QD, he, hs, hw, hx, hp⟩ => ?_
  refine ⟨ρ, S, φ, XD, _, he, hs, hw, hx, fun d S1 v H1 φ1 l t s r q => ?_⟩
  obtain ⟨q0, q⟩ := q
  cases r with
  | str z =>
    refine ⟨⟨z, rfl⟩, ρ, S1, φ1, XD, _, he.mono l t, s, q, hx.mono l t, fun d2 S2 v2 H2 φ2 l2 t2 s2 r2 q2 => ?_⟩
    obtain ⟨ad, ys, rfl, hq, k1, k2⟩ := strs1 s2 r2 q2
    exact ⟨z, ad, ys, rfl, rfl, hq, lim_big k1, hp _ _ _ _ φ2 (l.trans l2) (t.trans t2) s2 (.str _) k2⟩
  | _ => exact False.elim q0
theorem snd_spl {o : Expr} {apos : Pos} (ho : PE X o (sE fs X.K W x)) (ha : PE X a (sE fs X.K W y)) (hs : starEach [a] X.env = [(false, eval a X.env)]) (hbase : attributeBase o "split" X.env (eval o X.env) = eval o X.env) (hline : (apos.endLine == p.line) = true) :
    PE X (.Call (.Attribute o "split" apos) [a] [] p) (sE fs X.K W (.spl x y)) := by
  refine (pe_split ho ha hs hbase hline).sub fun σ H Q ⟨ρ, S, φ, XD, QD, he, hs, hw, hx, hp⟩ => ?_
  refine ⟨ρ, S, φ, XD, _, he, hs, hw, hx, fun d S1 v H1 φ1 l t s r q => ?_⟩
  obtain ⟨q0, q⟩ := q
  cases r with
  | str z =>
    refine ⟨⟨z, rfl⟩, ρ, S1, φ1, XD, _, he.mono l t, s, q, hx.mono l t, fun d2 S2 v2 H2 φ2 l2 t2 s2 r2 q2 => ?_⟩
    cases r2 with
    | str u =>
      obtain ⟨k1, k2, k3⟩ := q2
      exact ⟨z, u, rfl, rfl, k1, lim_le k2, fun ad had => (hp.mono (l.trans l2) (t.trans t2)).lst s2 (strs_repD _) k3 had⟩
    | _ => exact False.elim q2
  | _ => exact False.elim q0
theorem py_lst {S : Sto} {n k : Nat} {ds : List D} {ps : List PyData} (e : S[n]? = some (.lst ds)) (e2 : ds.mapM (toPy k S) = some ps) : toPy (k + 1) S (.ref n) = some (.list ps) := by
  simp only [toPy, e, e2]; rfl
theorem ixofD : MtR X "list.index" (fun x xs H Q => ∃ (dx dy : D) (y : V) (S : Sto) (φ : List Addr) (QD : KQ), xs = [y] ∧ Rep X.K φ H x dx ∧ Rep X.K φ H y dy ∧ SRel X.K φ S H ∧ X.A.units + 65 < cLine ∧ dIxof dx dy S QD ∧ Post X.K φ H Q QD) := by
  intro pins s σ H x xs v us Q I rx rs h
  obtain ⟨dx, dy, y, S, φ, QD, rfl, hx, hy, hs, hu, hw, hp⟩ := h
  unfold dIxof at hw
  split at hw
  · cases hx with
    | @ref a n hn =>
      obtain ⟨ds, ps, pp, j, q, e1, e2, e3, h1, h2, h3, h4, h5, k⟩ := hw
      have hd : Dp X.K H (V.ref a) (.list ps) := dp_of hs (65 + 1) _ _ _ (.ref hn) (py_lst e1 e2)
      exact mt_indexD hu pins s σ H _ _ v us Q I rx rs ⟨a, y, pp, ps, j, q, rfl, rfl, hd, dp_of hs _ _ _ _ hy e3, h1, h2, h3, h4, h5, hp.here hs (.int _) k⟩
  · exact hw.elim
theorem snd_ixof {n : Str} (hu : X.A.units + 66 < cLine) {pn ap : Pos} (ho : PE X (.Name n pn) (sE fs X.K W x)) (ha : PE X a (sE fs X.K W y)) (hline : (ap.endLine == p.line) = true) (he : starEach [a] X.env = [(false, eval a X.env)]) :
    PE X (.Call (.Attribute (.Name n pn) "index" ap) [a] [] p) (sE fs X.K W (.ixof x y)) := by
  have h2 : PA X [a] (sA fs X.K W (.cons y .nil)) := snd_acons ha snd_anil (by rw [he]; rfl)
  refine (pe_bm (T := "list") PySem.F.plainAttrs_list PySem.F.slot_list_index PySem.F.type_list_index ixofD ho h2 rfl (by rw [he]; rfl) hline (by rw [he]; rfl) rfl).sub fun σ H Q ⟨ρ, S, φ, XD, QD, hee, hs, hw, hx, hp⟩ => ?_
  refine ⟨ρ, S, φ, XD, _, hee, hs, hw, hx, fun dx S1 vx H1 φ1 l t s r q => ?_⟩
  obtain ⟨hr, q⟩ := q
  refine ⟨?_, ρ, S1, φ1, XD, fun ds S2 => match ds with | [dy] => dIxof dx dy S2 QD | _ => False, hee.mono l t, s, q, hx.mono l t, fun ds S2 vs H2 φ2 l2 t2 s2 r2 q2 => ?_⟩
  · cases r with
    | @ref ad m hm =>
      simp only [isLst] at hr
      split at hr
      · rename_i ds e
        obtain ⟨vs, f1, _⟩ := s.ob _ _ _ hm e
        exact .inl ⟨rfl, vs, SqL.of f1⟩
      · exact hr.elim
    | _ => exact False.elim hr
  · match ds, r2, q2 with
    | [dy], r2, q2 =>
      obtain ⟨v, rfl, rv⟩ := repL1 r2
      exact ⟨dx, dy, v, S2, φ2, QD, rfl, r.mono l2 t2, rv, s2, by omega, q2, hp.mono (l.trans l2) (t.trans t2)⟩
    | [], _, q2 => exact q2.elim
    | _ :: _ :: _, _, q2 => exact q2.elim
theorem snd_ono : PO X none (sO fs X.K W .no) :=
  po_none.sub fun σ H Q ⟨ρ, S, φ, XD, QD, he, hs, hw, hx, hp⟩ => hp _ _ _ φ (Le.refl φ) (TupLe.refl H) hs hw
theorem snd_oyes (ha : PE X a (sE fs X.K W x)) : PO X (some a) (sO fs X.K W (.yes x)) := by
  refine (po_some ha).sub fun σ H Q ⟨ρ, S, φ, XD, QD, he, hs, hw, hx, hp⟩ => ?_
  refine ⟨ρ, S, φ, XD, _, he, hs, hw, hx, fun d S1 v H1 φ1 l t s r q => ?_⟩
  try dsimp only at q
  split at q
  · cases r
    exact ⟨_, rfl, hp _ _ _ φ1 l t s q⟩
  · exact q.elim
theorem snd_slc {lo hi : Option Expr} {ol oh : IO} {p2 : Pos} (ha : PE X a (sE fs X.K W x)) (hl : PO X lo (sO fs X.K W ol)) (hh : PO X hi (sO fs X.K W oh)) : PE X (.Subscript a (.Slice lo hi none p2) p) (sE fs X.K W (.slc x ol oh)) := by
  refine (pe_slice slD ha hl hh).sub fun σ H Q ⟨ρ, S, φ, XD, QD, he, hs, hw, hx, hp⟩ => ?_
  refine ⟨ρ, S, φ, XD, _, he, hs, hw, hx, fun d S1 v H1 φ1 l t s r q => ?_⟩
  refine ⟨ρ, S1, φ1, XD, _, he.mono l t, s, q, hx.mono l t, fun o1 S2 H2 φ2 l2 t2 s2 q2 => ?_⟩
  refine ⟨ρ, S2, φ2, XD, _, (he.mono l t).mono l2 t2, s2, q2, (hx.mono l t).mono l2 t2, fun o2 S3 H3 φ3 l3 t3 s3 q3 => ?_⟩
  exact ⟨d, S3, φ3, QD, (r.mono l2 t2).mono l3 t3, s3, q3, hp.mono ((l.trans l2).trans l3) ((t.trans t2).trans t3)⟩

/-! ### targets -/
theorem snd_gname {n : Str} {i : Nat} (ok : CxOk fs X W C) (hi : idxOf C.N n = some i) (ho : C.okSt n = true) : PG X (.Name n p) (sG fs X.K (.name i)) := by
  have hst : (X.env.scope.names.lookup n = some .local) ∨ (X.env.scope.names.lookup n = some .cell ∧ X.fn n = true) := by
    rw [ok.sc]
    unfold Ctx.okSt Ctx.kind at ho
    split at ho
    · rename_i e; exact .inl e
    · rename_i e; exact .inr ⟨e, ok.fnc n ho⟩
    · cases ho
  have hl : Loc X.env.scope n := hst.elim .inl fun z => .inr z.1
  refine (pg_name ok.nd (by rw [ok.hN]; exact idxOf_get hi) hl (hst.elim .inr fun z => .inl z.2)).sub fun v σ H Q ⟨d, ρ, S, φ, QD, r, he, hs, hw, hp⟩ => ?_
  exact hp _ _ _ _ φ (Le.refl φ) (TupLe.refl H) (he.set i r) hs (Only.set σ i _) hw
theorem snd_gnil : PGs X [] (sGs fs X.K .nil) := by
  refine pgs_nil.sub fun v σ H Q ⟨ds, ρ, S, φ, QD, r, he, hs, hw, hp⟩ => ?_
  obtain ⟨rfl, hw⟩ := hw
  cases r
  exact ⟨rfl, hp _ _ _ _ φ (Le.refl φ) (TupLe.refl H) he hs (Only.refl σ _) hw⟩
theorem snd_gcons {es : List Expr} {g : IG} {gs : IGs} (h1 : PG X e (sG fs X.K g)) (h2 : PGs X es (sGs fs X.K gs)) (h : (assignEach (e :: es) X.env).map (·.2) = assign e X.env :: (assignEach es X.env).map (·.2)) : PGs X (e :: es) (sGs fs X.K (.cons g gs)) := by
  refine (pgs_cons h1 h2 h).sub fun v σ H Q ⟨ds, ρ, S, φ, QD, r, he, hs, hw, hp⟩ => ?_
  cases r with
  | nil => exact False.elim hw
  | @cons v vs d ds r1 r2 =>
    refine ⟨v, vs, rfl, d, ρ, S, φ, _, r1, he, hs, hw, fun ρ1 S1 σ1 H1 φ1 l t he1 s1 o1 q1 => ?_⟩
    refine ⟨ds, ρ1, S1, φ1, QD, r2.mono l t, he1, s1, q1, fun ρ2 S2 σ2 H2 φ2 l2 t2 he2 s2 o2 q2 => ?_⟩
    exact hp _ _ _ _ φ2 (l.trans l2) (t.trans t2) he2 s2 (o1.trans o2) q2
theorem snd_gtup {es : List Expr} {k : Nat} {gs : IGs} (ok : CxOk fs X W C) (hot : C.hot = false) (h : PGs X es (sGs fs X.K gs)) (hlen : gsLen gs = es.length) (hn : (assignEach es X.env).length = es.length) (hst : (assignEach es X.env).findIdx? (·.1) = none) : PG X (.Tuple es k p) (sG fs X.K (.tup gs)) := by
  refine (pg_tup (ok.calm hot) h hn hst).sub fun v σ H Q ⟨d, ρ, S, φ, QD, r, he, hs, hw, hp⟩ => ?_
  cases r with
  | @tup ad vs ds h1 r1 =>
    obtain ⟨hl, hw⟩ : ds.length = gsLen gs ∧ wGs fs gs ds ρ S noX QD := hw
    exact ⟨ad, vs, rfl, SqT.of h1, by rw [r1.length, hl, hlen], ds, ρ, S, φ, QD, r1, he, hs, hw, hp⟩
  | @ktup ad vs ds h1 r1 =>
    obtain ⟨hl, hw⟩ : ds.length = gsLen gs ∧ wGs fs gs ds ρ S noX QD := hw
    exact ⟨ad, vs, rfl, h1, by rw [r1.length, hl, hlen], ds, ρ, S, φ, QD, r1, he, hs, hw, hp⟩
  | _ => exact False.elim hw
theorem snd_gsub (hu : X.A.units + 66 < cLine) (ho : PE X a (sE fs X.K W x)) (hi : PE X b (sE fs X.K W y)) (ha : ∀ v, assign (.Subscript a b p) X.env v = (do
      let ov ← holding [v] (eval a X.env)
      let iv ← holding [v, ov] (eval b X.env)
      standAt p
      holding [v, ov, iv] (setItem ov iv v)
      release [v, ov, iv] [])) : PG X (.Subscript a b p) (sG fs X.K (.sub x y)) := by
  refine (pg_sub ho hi (setD hu) ha).sub fun v σ H Q ⟨d, ρ, S, φ, QD, r, he, hs, hw, hp⟩ => ?_
  exact two (W := W) he hs hw PostX.no fun dx dy S2 vx vy H2 φ2 l t s r1 r2 q => ⟨dx, dy, d, S2, φ2, _, r1, r2, r.mono l t, s, q, fun S' H' t' s' q' => hp _ _ _ _ φ2 l (t.trans t') ((he.mono l t).mono (Le.refl φ2) t') s' (Only.refl σ _) q'⟩

/-! ### what is walked -/
theorem walks_tup {K : PySem.W.Frag} {φ : List Addr} {H : Hp} {ad : Addr} {vs : List V} {ds : List D} (h : SqT K H ad vs) (r : RepL K φ H vs ds) : Walks K φ H (Itt K ad) ds fun _ => True := by
  intro i S φ' H' l t s _
  refine ⟨fun d hd => ?_, fun hl => ⟨vs, t.sqT h, by rw [r.length]; exact Nat.le_of_eq hl⟩⟩
  obtain ⟨v, e, rv⟩ := r.get hd
  refine ⟨⟨vs, v, t.sqT h, e⟩, fun x H2 hy => ?_⟩
  obtain ⟨rfl, hy⟩ := hy
  have e2 := hy vs (t.sqT h)
  rw [e] at e2; cases e2
  exact ⟨TupLe.refl _, s, rv.mono l t⟩
theorem walks_rol {K : PySem.W.Frag} {φ : List Addr} {H : Hp} {ad : Addr} {vs : List V} {ds : List D} (h : SqR K H ad vs) (r : RepL K φ H vs ds) : Walks K φ H (Itl K ad) ds fun _ => True := by
  intro i S φ' H' l t s _
  refine ⟨fun d hd => ?_, fun hl => ⟨vs, (t.sqR h).l, by rw [r.length]; exact Nat.le_of_eq hl⟩⟩
  obtain ⟨v, e, rv⟩ := r.get hd
  refine ⟨⟨vs, v, (t.sqR h).l, e⟩, fun x H2 hy => ?_⟩
  obtain ⟨rfl, hy⟩ := hy
  have e2 := hy vs (t.sqR h).l
  rw [e] at e2; cases e2
  exact ⟨TupLe.refl _, s, rv.mono l t⟩
theorem walks_ref {K : PySem.W.Frag} {φ : List Addr} {H : Hp} {ad : Addr} {n : Nat} {ds : List D} (h : φ[n]? = some ad) : Walks K φ H (Itl K ad) ds fun S => S[n]? = some (.lst ds) := by
  intro i S φ' H' l t s c
  obtain ⟨vs, f1, r⟩ := s.ob _ _ _ (l _ _ h) c
  refine ⟨fun d hd => ?_, fun hl => ⟨vs, SqL.of f1, by rw [r.length]; exact Nat.le_of_eq hl⟩⟩
  obtain ⟨v, e, rv⟩ := r.get hd
  refine ⟨⟨vs, v, SqL.of f1, e⟩, fun x H2 hy => ?_⟩
  obtain ⟨rfl, hy⟩ := hy
  have e2 := hy vs (SqL.of f1)
  rw [e] at e2; cases e2
  exact ⟨TupLe.refl _, s, rv⟩
theorem ints_get {lo : Int} {n i : Nat} {d : D} (h : (intsFrom lo n)[i]? = some d) : i < n ∧ d = .int (lo + i) := by
  unfold intsFrom at h
  rw [List.getElem?_map] at h
  cases e : (List.range n)[i]? with
  | none => rw [e] at h; cases h
  | some j =>
    rw [e] at h
    obtain ⟨hl, ej⟩ := List.getElem?_eq_some_iff.mp e
    simp at hl ej
    subst ej
    cases h
    exact ⟨hl, rfl⟩
theorem walks_rng {K : PySem.W.Frag} {φ : List Addr} {H : Hp} {lo : Int} {n : Nat} : Walks K φ H (Itr lo n) (intsFrom lo n) fun _ => True := by
  intro i S φ' H' l t s _
  refine ⟨fun d hd => ?_, fun hl => ?_⟩
  · obtain ⟨h1, rfl⟩ := ints_get hd
    refine ⟨h1, fun x H2 hy => ?_⟩
    obtain ⟨rfl, rfl⟩ := hy
    exact ⟨TupLe.refl _, s, .int _⟩
  · have e : (intsFrom lo n).length = n := by unfold intsFrom; simp
    rw [e] at hl
    exact Nat.le_of_eq hl
/-- a list that is walked -/
def Lists (K : PySem.W.Frag) (φ₁ : List Addr) (H₁ : Hp) (a : Addr) (ds : List D) (chk : Sto → Prop) : Prop :=
  ∀ (S : Sto) (φ : List Addr) (H : Hp), Le φ₁ φ → TupLe H₁ H → SRel K φ S H → chk S → ∃ vs, SqL K H a vs ∧ RepL K φ H vs ds
theorem lists1 {K : PySem.W.Frag} {φ : List Addr} {S : Sto} {H : Hp} {v : V} {d : D} {k : List D → (Sto → Prop) → Prop} (s : SRel K φ S H) (r : Rep K φ H v d) (h : dLIter d S k) : ∃ a ds chk, v = .ref a ∧ (∃ vs, SqL K H a vs) ∧ Lists K φ H a ds chk ∧ k ds chk := by
  cases r with
  | @rol a vs ds h1 r1 => exact ⟨a, ds, _, rfl, ⟨vs, h1.l⟩, fun S' φ' H' l t _ _ => ⟨vs, (t.sqR h1).l, r1.mono l t⟩, h⟩
  | @ref a n hn =>
    simp only [dLIter] at h
    split at h
    · rename_i ds e
      obtain ⟨vs, f1, r1⟩ := s.ob _ _ _ hn e
      refine ⟨a, ds, _, rfl, ⟨vs, SqL.of f1⟩, fun S' φ' H' l t s' c => ?_, h⟩
      obtain ⟨ws, f2, r2⟩ := s'.ob _ _ _ (l _ _ hn) c
      exact ⟨ws, SqL.of f2, r2⟩
    · exact h.elim
  | _ => exact False.elim h
theorem walks_enum {K : PySem.W.Frag} {φ : List Addr} {H : Hp} {a : Addr} {ds : List D} {chk : Sto → Prop} (h : Lists K φ H a ds chk) : Walks K φ H (Ite K a) (enumD ds) chk := by
  intro i S φ' H' l t s c
  obtain ⟨vs, hq, r⟩ := h S φ' H' l t s c
  refine ⟨fun d hd => ?_, fun hl => ⟨vs, hq, by rw [r.length]; simp only [enumD, List.length_mapIdx] at hl; omega⟩⟩
  unfold enumD at hd
  rw [List.getElem?_mapIdx, Option.map_eq_some_iff] at hd
  obtain ⟨d0, e0, rfl⟩ := hd
  obtain ⟨v, e, rv⟩ := r.get e0
  refine ⟨⟨vs, v, hq, e⟩, fun x H2 hy => ?_⟩
  obtain ⟨T, x', rfl, hT, rfl, hx⟩ := hy
  have := hx vs hq
  rw [e] at this
  cases this
  exact ⟨TupLe.new hT, s.new hT, .tup upd_same (.cons (.int _) (.cons (rv.mono (Le.refl _) (TupLe.new hT)) .nil))⟩
theorem walks_enum1 {K : PySem.W.Frag} {φ : List Addr} {H : Hp} {a : Addr} {ds : List D} {chk : Sto → Prop} (h : Lists K φ H a ds chk) : Walks K φ H (GX.Ite1 K a) (enum1D ds) chk := by
  intro i S φ' H' l t s c
  obtain ⟨vs, hq, r⟩ := h S φ' H' l t s c
  refine ⟨fun d hd => ?_, fun hl => ⟨vs, hq, by rw [r.length]; simp only [enum1D, List.length_mapIdx] at hl; omega⟩⟩
  unfold enum1D at hd
  rw [List.getElem?_mapIdx, Option.map_eq_some_iff] at hd
  obtain ⟨d0, e0, rfl⟩ := hd
  obtain ⟨v, e, rv⟩ := r.get e0
  refine ⟨⟨vs, v, hq, e⟩, fun x H2 hy => ?_⟩
  obtain ⟨T, x', rfl, hT, rfl, hx⟩ := hy
  have := hx vs hq
  rw [e] at this
  cases this
  exact ⟨TupLe.new hT, s.new hT, .tup upd_same (.cons (.int _) (.cons (rv.mono (Le.refl _) (TupLe.new hT)) .nil))⟩
theorem zip_get {xs ys : List D} {i : Nat} {d : D} (h : (zipD xs ys)[i]? = some d) : ∃ x y, xs[i]? = some x ∧ ys[i]? = some y ∧ d = .tup [x, y] := by
  unfold zipD at h
  rw [List.getElem?_zipWith] at h
  split at h
  · rename_i x y e1 e2
    exact ⟨x, y, e1, e2, by cases h; rfl⟩
  · cases h
theorem walks_zip {K : PySem.W.Frag} {φ : List Addr} {H : Hp} {a b : Addr} {xs ys : List D} {c1 c2 : Sto → Prop} (h1 : Lists K φ H a xs c1) (h2 : Lists K φ H b ys c2) : Walks K φ H (Itz K a b) (zipD xs ys) fun S => c1 S ∧ c2 S := by
  intro i S φ' H' l t s c
  obtain ⟨vs, hq, r⟩ := h1 S φ' H' l t s c.1
  obtain ⟨ws, hq2, r2⟩ := h2 S φ' H' l t s c.2
  refine ⟨fun d hd => ?_, fun hl => ⟨vs, ws, hq, hq2, by rw [r.length, r2.length]; simp only [zipD, List.length_zipWith] at hl; omega⟩⟩
  obtain ⟨x, y, e1, e2, rfl⟩ := zip_get hd
  obtain ⟨v, f1, rv⟩ := r.get e1
  obtain ⟨w, f2, rw2⟩ := r2.get e2
  refine ⟨⟨vs, ws, v, w, hq, hq2, f1, f2⟩, fun u H2 hy => ?_⟩
  obtain ⟨T, x', y', rfl, hT, rfl, hx, hy⟩ := hy
  have q1 := hx vs hq
  have q2 := hy ws hq2
  rw [f1] at q1
  rw [f2] at q2
  cases q1
  cases q2
  exact ⟨TupLe.new hT, s.new hT, .tup upd_same (.cons (rv.mono (Le.refl _) (TupLe.new hT)) (.cons (rw2.mono (Le.refl _) (TupLe.new hT)) .nil))⟩
theorem walks_zipT {K : PySem.W.Frag} {φ : List Addr} {H : Hp} {a b : Addr} {vs ws : List V} {xs ys : List D} (h1 : SqT K H a vs) (r : RepL K φ H vs xs) (h2 : SqT K H b ws) (r2 : RepL K φ H ws ys) : Walks K φ H (RZ.ItzT K a b) (zipD xs ys) fun _ => True := by
  intro i S φ' H' l t s _
  have hq := t.sqT h1
  have hq2 := t.sqT h2
  refine ⟨fun d hd => ?_, fun hl => ⟨vs, ws, hq, hq2, by rw [r.length, r2.length]; simp only [zipD, List.length_zipWith] at hl; omega⟩⟩
  obtain ⟨x, y, e1, e2, rfl⟩ := zip_get hd
  obtain ⟨v, f1, rv⟩ := r.get e1
  obtain ⟨w, f2, rw2⟩ := r2.get e2
  refine ⟨⟨vs, ws, v, w, hq, hq2, f1, f2⟩, fun u H2 hy => ?_⟩
  obtain ⟨T, x', y', rfl, hT, rfl, hx, hy⟩ := hy
  have q1 := hx vs hq
  have q2 := hy ws hq2
  rw [f1] at q1
  rw [f2] at q2
  cases q1
  cases q2
  exact ⟨TupLe.new hT, s.new hT, .tup upd_same (.cons ((rv.mono l t).mono (Le.refl _) (TupLe.new hT)) (.cons ((rw2.mono l t).mono (Le.refl _) (TupLe.new hT)) .nil))⟩
theorem snd_ival {tg : Expr} (ha : PE X a (sE fs X.K W x)) : PI X tg a (sI fs X.K W (.val x)) := by
  refine ⟨fun pins s σ H R I ⟨ρ, S, φ, XD, QD, he, hs, hw, hx, hp⟩ => ?_⟩
  -- a tuple or a list: by the value that comes
  have hR : sE fs X.K W x σ H fun v H1 => (∃ a, v = .ref a ∧ (∃ xs, SqL X.K H1 a xs) ∧ R (Itl X.K a) H1) ∨ (∃ a, v = .ref a ∧ (∃ xs, SqT X.K H1 a xs) ∧ R (Itt X.K a) H1) := by
    refine ⟨ρ, S, φ, XD, _, he, hs, hw, hx, fun d S1 v H1 φ1 l t s r q => ?_⟩
    unfold dIter at q
    try dsimp only at q
    split at q
    · cases r with
      | @tup ad vs ds h1 r1 => exact .inr ⟨ad, rfl, ⟨vs, SqT.of h1⟩, hp _ _ _ _ _ φ1 l t s (walks_tup (SqT.of h1) r1) q⟩
    · cases r with
      | @ktup ad vs ds h1 r1 => exact .inr ⟨ad, rfl, ⟨vs, h1⟩, hp _ _ _ _ _ φ1 l t s (walks_tup h1 r1) q⟩
    · cases r with
      | @rol ad vs ds h1 r1 => exact .inl ⟨ad, rfl, ⟨vs, h1.l⟩, hp _ _ _ _ _ φ1 l t s (walks_rol h1 r1) q⟩
    · cases r with
      | @ref ad n hn =>
        try dsimp only at q
        split at q
        · rename_i ds e
          obtain ⟨vs, f1, r1⟩ := s.ob _ _ _ hn e
          exact .inl ⟨ad, rfl, ⟨vs, SqL.of f1⟩, hp _ _ _ _ _ φ1 l t s (walks_ref hn) q⟩
        · exact q.elim
    · exact q.elim
  refine thn (ha.run pins s σ H _ I hR) fun v s1 ⟨w, H1, I1, r1, q1⟩ => ?_
  rcases q1 with ⟨ad, rfl, ⟨xs, hq⟩, q⟩ | ⟨ad, rfl, ⟨xs, hq⟩, q⟩
  · cases r1
    obtain ⟨its, rv, p, hz⟩ := I1.list hq
    refine wpAny_pyIter_list p.isList ?_
    refine ⟨s1.heap.objs.size, [s1.heap.objs.size], _, _, H1, rfl, I1.kept (t' := s1.toks) fun b o e => Heap.get?_push_of_some _ e, turn_list ad _, ⟨_, Heap.get?_push_size _ rfl, rfl, rfl⟩, fun b hb => ?_, q⟩
    have e : b = s1.heap.objs.size := by simpa using hb
    subst e
    exact I1.fpOk (Nat.le_refl _) (I1.hok.fresh (Nat.le_refl _))
  · cases r1
    obtain ⟨its, rv, p, hz⟩ := I1.tuple hq
    refine wpAny_pyIter_tuple (show s1.heap.IsTuple ad its.toArray from p) ?_
    refine ⟨s1.heap.objs.size, [s1.heap.objs.size], _, _, H1, rfl, I1.kept (t' := s1.toks) fun b o e => Heap.get?_push_of_some _ e, turn_tuple ad _, ⟨_, Heap.get?_push_size _ rfl, rfl, rfl⟩, fun b hb => ?_, q⟩
    have e : b = s1.heap.objs.size := by simpa using hb
    subst e
    exact I1.fpOk (Nat.le_refl _) (I1.hok.fresh (Nat.le_refl _))
theorem snd_irng1 {tg : Expr} {pn : Pos} (ok : CxOk fs X W C) (hk : C.kind "range" = some .globalImplicit) (hb : C.bn.contains "range" = true) (ha : PE X a (sE fs X.K W x)) (he : starEach [a] X.env = [(false, eval a X.env)]) :
    PI X tg (.Call (.Name "range" pn) [a] [] p) (sI fs X.K W (.rng1 x)) := by
  refine (pi_range1 (gl_of ok hk) (ok.bns _ hb) (pa_cons ha pa_nil (by rw [he]; rfl)) he).sub fun σ H R ⟨ρ, S, φ, XD, QD, hee, hs, hw, hx, hp⟩ => ?_
  refine ⟨ρ, S, φ, XD, _, hee, hs, hw, hx, fun d S1 v H1 φ1 l t s r q => ?_⟩
  try dsimp only at q
  split at q
  · cases r
    exact ⟨_, rfl, q.1.1, q.1.2, hp _ _ _ _ _ φ1 l t s walks_rng q.2⟩
  · exact q.elim
theorem snd_irng2 {tg : Expr} {pn : Pos} (ok : CxOk fs X W C) (hk : C.kind "range" = some .globalImplicit) (hb : C.bn.contains "range" = true) (ha : PE X a (sE fs X.K W x)) (hbb : PE X b (sE fs X.K W y)) (he : starEach [a, b] X.env = [(false, eval a X.env), (false, eval b X.env)]) (he2 : starEach [b] X.env = [(false, eval b X.env)]) :
    PI X tg (.Call (.Name "range" pn) [a, b] [] p) (sI fs X.K W (.rng2 x y)) := by
  refine (pi_range2 (gl_of ok hk) (ok.bns _ hb) (pa_cons ha (pa_cons hbb pa_nil (by rw [he2]; rfl)) (by rw [he, he2])) he he2).sub fun σ H R ⟨ρ, S, φ, XD, QD, hee, hs, hw, hx, hp⟩ => ?_
  refine two hee hs hw hx fun dx dy S2 vx vy H2 φ2 l t s r1 r2 q => ?_
  try dsimp only at q
  split at q
  · cases r1; cases r2
    exact ⟨_, _, rfl, q.1, hp _ _ _ _ _ φ2 l t s walks_rng q.2⟩
  · exact q.elim
theorem snd_ienum {elts : List Expr} {kk : Nat} {tpos : Pos} {pn : Pos} (ok : CxOk fs X W C) (hk : C.kind "enumerate" = some .globalImplicit) (hb : C.bn.contains "enumerate" = true) (ha : PE X a (sE fs X.K W x)) (he : starEach [a] X.env = [(false, eval a X.env)]) :
    PI X (.Tuple elts kk tpos) (.Call (.Name "enumerate" pn) [a] [] p) (sI fs X.K W (.enum x)) := by
  refine (pi_enum (gl_of ok hk) (ok.bns _ hb) (pa_cons ha pa_nil (by rw [he]; rfl)) he).sub fun σ H R ⟨ρ, S, φ, XD, QD, hee, hs, hw, hx, hp⟩ => ?_
  refine ⟨ρ, S, φ, XD, _, hee, hs, hw, hx, fun d S1 v H1 φ1 l t s r q => ?_⟩
  obtain ⟨ad, ds, chk, rfl, ⟨vs, hq⟩, hl, k⟩ := lists1 s r q
  exact ⟨ad, vs, rfl, hq, hp _ _ _ _ _ φ1 l t s (walks_enum hl) k⟩
theorem snd_izip {elts : List Expr} {kk : Nat} {tpos : Pos} {pn : Pos} (ok : CxOk fs X W C) (hk : C.kind "zip" = some .globalImplicit) (hb : C.bn.contains "zip" = true) (ha : PE X a (sE fs X.K W x)) (hbb : PE X b (sE fs X.K W y)) (he : starEach [a, b] X.env = [(false, eval a X.env), (false, eval b X.env)]) (he2 : starEach [b] X.env = [(false, eval b X.env)]) :
    PI X (.Tuple elts kk tpos) (.Call (.Name "zip" pn) [a, b] [] p) (sI fs X.K W (.zip x y)) := by
  refine (RZ.pi_zipA (gl_of ok hk) (ok.bns _ hb) (pa_cons ha (pa_cons hbb pa_nil (by rw [he2]; rfl)) (by rw [he, he2])) (by rw [he, he2]) (by rw [he2]; rfl)).sub fun σ H R ⟨ρ, S, φ, XD, QD, hee, hs, hw, hx, hp⟩ => ?_
  refine two hee hs hw hx fun dx dy S2 vx vy H2 φ2 l t s r1 r2 q => ?_
  have lsts : (dLIter dx S2 fun xs c => dLIter dy S2 fun ys c' => QD (zipD xs ys) (fun S' => c S' ∧ c' S') S2) → ∃ a b xs ys, [vx, vy] = [V.ref a, V.ref b] ∧ ((SqL X.K H2 a xs ∧ SqL X.K H2 b ys ∧ R (Itz X.K a b) H2) ∨ (SqT X.K H2 a xs ∧ SqT X.K H2 b ys ∧ R (RZ.ItzT X.K a b) H2)) := fun q => by
    obtain ⟨ad, xs, c1, rfl, ⟨vs, hq⟩, hl, k⟩ := lists1 s r1 q
    obtain ⟨bd, ys, c2, rfl, ⟨ws, hq2⟩, hl2, k⟩ := lists1 s r2 k
    exact ⟨ad, bd, vs, ws, rfl, .inl ⟨hq, hq2, hp _ _ _ _ _ φ2 l t s (walks_zip hl hl2) k⟩⟩
  unfold dZip at q
  try dsimp only at q
  split at q
  · cases r1 with
    | @tup ad vs ds h1 q1 =>
      cases r2 with
      | @tup bd ws es h2 q2 => exact ⟨ad, bd, vs, ws, rfl, .inr ⟨SqT.of h1, SqT.of h2, hp _ _ _ _ _ φ2 l t s (walks_zipT (SqT.of h1) q1 (SqT.of h2) q2) q⟩⟩
  · exact lsts q
theorem snd_ienum1 {elts : List Expr} {kk j : Nat} {tpos kp np pn : Pos} (ok : CxOk fs X W C) (hk : C.kind "enumerate" = some .globalImplicit) (hb : C.bn.contains "enumerate" = true) (ha : PE X a (sE fs X.K W x)) (he : starEach [a] X.env = [(false, eval a X.env)]) :
    PI X (.Tuple elts kk tpos) (.Call (.Name "enumerate" pn) [a] [⟨some "start", .Constant (.int 1) j np, kp⟩] p) (sI fs X.K W (.enum1 x)) := by
  refine (GX.pi_enum1 (gl_of ok hk) (ok.bns _ hb) ha he).sub fun σ H R ⟨ρ, S, φ, XD, QD, hee, hs, hw, hx, hp⟩ => ?_
  refine ⟨ρ, S, φ, XD, _, hee, hs, hw, hx, fun d S1 v H1 φ1 l t s r q => ?_⟩
  obtain ⟨ad, ds, chk, rfl, ⟨vs, hq⟩, hl, k⟩ := lists1 s r q
  exact ⟨ad, vs, rfl, hq, hp _ _ _ _ _ φ1 l t s (walks_enum1 hl) k⟩
end
end DW

set_option Elab.async false
set_option linter.all false
set_option maxRecDepth 100000
set_option maxHeartbeats 2000000
namespace DW
open PySem PySem.Spec PyProof.Rows L2

variable [Tb : Tbl]
section
variable {fs : FEnv} {X : Cx} {W : WX} {C : Ctx} {e a b c : Expr} {x y z : IE} {p : Pos}

theorem blk_ok (ok : CxOk fs X W C) {s : Shared} {H : Hp} {scope : Scope} {A : Addr} {cl : List (Str × Addr)} {fp : List Addr} : CxOk fs (X.blk s H scope (compEnvC scope cl A X.env) fp) noW { C with sc := relS scope C.sc, blk := some scope } where
  hN := ok.hN
  nd := ok.nd
  sc := by
    show relS scope X.env.scope = relS scope C.sc
    rw [ok.sc]
  calm := ok.calm
  fnc := fun x h => h
  un := ok.un
  con := ok.con
  fns := fun hot n h => by
    obtain ⟨sp, h1, h2⟩ := ok.fns hot n h
    exact ⟨sp, h1, ⟨h2.ex⟩⟩
  bns := ok.bns
  tk := LamX.takes0
  own := PassesOwn.never
  dcn := ok.dcn
  srt := fun _ h => by cases h
  lam := fun hot X' l => ok.lam hot X' ((Like.mk rfl rfl rfl rfl rfl rfl rfl rfl rfl : Like X (X.blk s H scope (compEnvC scope cl A X.env) fp)).trans l)
  exs := fun h => by cases h
  fr := fun h => by cases h
  thk := fun h => by cases h
/-- the context of a lambda's body -/
theorem lam_ok (ok : CxOk fs X W C) {A : Around} {outer : List Env} {s : Shared} {H : Hp} {E : XK} {scope : Scope} {f c' : Addr} (L : LamX.LamS X.env.scope scope) (un : (A.deeper (LamX.lamEnv X scope s.heap.objs.size f c')).units + 66 < cLine) :
    CxOk fs (LamX.lamCx X A outer s H E scope f c').nox noW { C with sc := scope, blk := some scope, fn := [], bn := [], dcn := [], srt := false, lam := [], exs := [], thk := none } where
  hN := ok.hN
  nd := ok.nd
  sc := rfl
  calm := fun _ => rfl
  fnc := fun x h => by
    have h : (scope.names.lookup x == some .cell) = true := h
    exact absurd rfl (L.own _ (PySem.mem_of_lookup (eq_of_beq h))).2
  un := un
  con := ok.con
  fns := fun _ n h => by cases h
  bns := fun x h => by cases h
  tk := LamX.takes0
  own := PassesOwn.never
  dcn := fun n kds h => by cases h
  srt := fun h => by cases h
  lam := fun _ X' _ _ W x es f as scope pn p aa _ h => by
    unfold lamOf at h
    split at h
    · split at h
      · split at h
        · rename_i q
          exact absurd q.2.2.2.2 (by simp)
        · cases h
      · cases h
    · cases h
  exs := fun h => by cases h
  fr := fun h => by cases h
  thk := fun h => by cases h

theorem snd_lcp {elt tg iter : Expr} {ifs : List Expr} {scope : Scope} {own : List (Str × Nat)} {g : IG} {it : II} {t : ITs} (ok : CxOk fs X W C) (hb : blkC C.N C.sc scope own = true) (hsl : ∀ i ∈ gSlots g, i ∈ own.map (·.2))
    (hi : PI X tg iter (sI fs X.K W it))
    (hg : ∀ (s : Shared) (H : Hp) (A : Addr) (cl : List (Str × Addr)) (fp : List Addr), PG (X.blk s H scope (compEnvC scope cl A X.env) fp) tg (sG fs X.K g))
    (ht : ∀ (s : Shared) (H : Hp) (A : Addr) (cl : List (Str × Addr)) (fp : List Addr), PTs (X.blk s H scope (compEnvC scope cl A X.env) fp) ifs (sTs fs X.K noW t))
    (he : ∀ (s : Shared) (H : Hp) (A : Addr) (cl : List (Str × Addr)) (fp : List Addr), PE (X.blk s H scope (compEnvC scope cl A X.env) fp) elt (sE fs X.K noW x)) (hs : ∀ v, foldedSetIterable iter X.env v = pure v) :
    BlkOk X.N X.env.scope scope own ∧ ∀ σ H Q, sE fs X.K W (.lcp (own.map (·.2)) g it t x) σ H Q → tLc (sI fs X.K W it) (sG fs X.K g) (sTs fs X.K noW t) (sE fs X.K noW x) (own.map (·.2)) σ H Q := by
  refine ⟨by rw [ok.hN, ok.sc]; exact blkOk_by hb, fun σ H Q ⟨ρ, S, φ, XD, QD, hee, hss, hw, hx, hp⟩ => ?_⟩
  refine ⟨ρ, S, φ, XD, _, hee, hss, hw, hx, fun ds chk S1 J H1 φ1 l1 t1 s1 wk q1 => ?_⟩
  intro Da hDa
  have hix : (φ1 ++ [Da])[S1.length]? = some Da := s1.idx
  let Wp : Nat → Hp → Prop := fun i H => ∃ (S : Sto) (φ : List Addr), Le (φ1 ++ [Da]) φ ∧ TupLe H1 H ∧ SRel X.K φ S H ∧
    cLoop S1.length chk (fun d S2 ky kn => wG fs g d (wipeD ρ (own.map (·.2))) S2 noX fun ρ2 S3 => wTs fs t ρ2 S3 noX fun k S4 => if k = true then wE fs x ρ2 S4 noX ky else kn S4) (QD (.ref S1.length)) (ds.drop i) S
  refine ⟨fun i m H => m = ds.length - i ∧ i ≤ ds.length ∧ Wp i H, ⟨ds.length, by simp, Nat.zero_le _, ?_⟩, ?_⟩
  · refine ⟨S1 ++ [.lst []], φ1 ++ [Da], Le.refl _, TupLe.new hDa, s1.alloc hDa .nil, ?_⟩
    rw [List.drop_zero]
    exact q1
  · rintro i m H2 ⟨rfl, hile, S2, φ2, l2, t2, s2, q2⟩
    have l12 : Le φ1 φ2 := (Le.app φ1 [Da]).trans l2
    by_cases hlt : i < ds.length
    · rw [List.drop_eq_getElem_cons hlt] at q2
      obtain ⟨hchk, q2⟩ := q2
      obtain ⟨hgo, hyl⟩ := (wk i S2 φ2 H2 l12 t2 s2 hchk).1 _ (List.getElem?_eq_getElem hlt)
      refine .inr ⟨hgo, Wp (i + 1), fun H' w' => ⟨ds.length - (i + 1), by omega, rfl, hlt, w'⟩, fun v H3 hy => ?_⟩
      obtain ⟨t3, s3, r3⟩ := hyl v H3 hy
      have e3 : EnvRel X.K φ2 H3 (wipeD ρ (own.map (·.2))) (wipe σ (own.map (·.2))) := ((hee.mono l1 t1).mono l12 (t2.trans t3)).wipe _
      refine ⟨_, _, S2, φ2, _, r3, e3, s3, q2, fun ρ4 S4 σ4 H4 φ4 l4 t4 e4 s4 o4 q4 => ⟨o4.wipe2 hsl, ?_⟩⟩
      refine ⟨ρ4, S4, φ4, noX, _, e4, s4, q4, PostX.no, fun k S5 H5 φ5 l5 t5 s5 q5 => ?_⟩
      cases k with
      | true =>
        refine ⟨ρ4, S5, φ5, noX, _, e4.mono l5 t5, s5, q5, PostX.no, fun d6 S6 v6 H6 φ6 l6 t6 s6 r6 q6 => ?_⟩
        obtain ⟨acc, ea, el, q6⟩ := q6
        have hD : φ6[S1.length]? = some Da := ((l2.trans l4).trans (l5.trans l6)) _ _ hix
        obtain ⟨us, f1, ru⟩ := s6.ob _ _ _ hD ea
        refine ⟨us, f1, lim_lt (by rw [ru.length]; exact el), S6.set S1.length (.lst (acc ++ [d6])), φ6, (l2.trans l4).trans (l5.trans l6), ?_, ?_, q6⟩
        · exact ((t2.trans t3).trans t4).trans ((t5.trans t6).trans (TupLe.mut f1))
        · exact s6.put hD f1 (ru.app (.cons r6 .nil))
      | false => exact ⟨S5, φ5, (l2.trans l4).trans l5, ((t2.trans t3).trans t4).trans t5, s5, q5⟩
    · have e : i = ds.length := by omega
      subst e
      rw [List.drop_length] at q2
      obtain ⟨hchk, q2⟩ := q2
      refine .inl ⟨(wk _ S2 φ2 H2 l12 t2 s2 hchk).2 rfl, ?_⟩
      exact hp _ _ _ _ φ2 (l1.trans l12) (t1.trans t2) s2 (.ref (l2 _ _ hix)) q2

/-! ### comprehensions with several clauses -/
/-- what the language says of a further clause -/
def gnOf (fs : FEnv) (K : PySem.W.Frag) (vs : List Nat) (g : IG) (it : II) (t : ITs) : Gn := ⟨sI fs K noW it, sG fs K g, sTs fs K noW t, vs⟩
def gnsOf (fs : FEnv) (K : PySem.W.Frag) : IC → List Gn
  | .elt _ => []
  | .gen vs g it t c => gnOf fs K vs g it t :: gnsOf fs K c
def eltOf : IC → IE
  | .elt e => e
  | .gen _ _ _ _ c => eltOf c
/-- each clause's slots are among those of the clause ahead of it, and hold what it stores to -/
def nestC : List Nat → IC → Prop
  | _, .elt _ => True
  | ws, .gen vs g _ _ c => (∀ i ∈ vs, i ∈ ws) ∧ (∀ i ∈ gSlots g, i ∈ vs) ∧ nestC vs c
/-- the loop that is to be run, once its iterator is there -/
theorem loop_read {K : PySem.W.Frag} {σ : L2.St} {H1 : Hp} {ρ : En} {vs : List Nat} {g : IG} {it : II} {t : ITs} {c : IC} {J : It} {ds : List D} {chk : Sto → Prop} {S1 : Sto} {φ1 : List Addr} {n : Nat} {k : Sto → Prop} {Nx : Hp → Prop} {D : Addr} (hsl : ∀ i ∈ gSlots g, i ∈ vs)
    (he : EnvRel K φ1 H1 ρ σ) (hs : SRel K φ1 S1 H1) (wk : Walks K φ1 H1 J ds chk) (hD : φ1[n]? = some D)
    (hw : iLoop chk (fun d S2 k2 => wG fs g d (wipeD ρ vs) S2 noX fun ρ2 S3 => wTs fs t ρ2 S3 noX fun b S4 => if b = true then wC fs c ρ2 S4 n k2 else k2 S4) k ds S1)
    (inner : ∀ (ρ2 : En) (S : Sto) (φ : List Addr) (σ2 : L2.St) (H : Hp) (k2 : Sto → Prop) (My : Hp → Prop), Le φ1 φ → TupLe H1 H → EnvRel K φ H ρ2 σ2 → SRel K φ S H → wC fs c ρ2 S n k2 → (∀ S' φ' H', Le φ φ' → TupLe H H' → SRel K φ' S' H' → k2 S' → My H') → tInner (sE fs K noW (eltOf c)) D (gnsOf fs K c) σ2 H My)
    (fin : ∀ S' φ' H', Le φ1 φ' → TupLe H1 H' → SRel K φ' S' H' → k S' → Nx H') : loopR (sE fs K noW (eltOf c)) D (gnOf fs K vs g it t) (gnsOf fs K c) J σ Nx H1 := by
  let Wp : Nat → Hp → Prop := fun i H => ∃ (S : Sto) (φ : List Addr), Le φ1 φ ∧ TupLe H1 H ∧ SRel K φ S H ∧
    iLoop chk (fun d S2 k2 => wG fs g d (wipeD ρ vs) S2 noX fun ρ2 S3 => wTs fs t ρ2 S3 noX fun b S4 => if b = true then wC fs c ρ2 S4 n k2 else k2 S4) k (ds.drop i) S
  refine ⟨fun i m H => m = ds.length - i ∧ i ≤ ds.length ∧ Wp i H, ⟨ds.length, by simp, Nat.zero_le _, S1, φ1, Le.refl _, TupLe.refl _, hs, by rw [List.drop_zero]; exact hw⟩, ?_⟩
  rintro i m H2 ⟨rfl, hile, S2, φ2, l2, t2, s2, q2⟩
  by_cases hlt : i < ds.length
  · rw [List.drop_eq_getElem_cons hlt] at q2
    obtain ⟨hchk, q2⟩ := q2
    obtain ⟨hgo, hyl⟩ := (wk i S2 φ2 H2 l2 t2 s2 hchk).1 _ (List.getElem?_eq_getElem hlt)
    refine .inr ⟨hgo, Wp (i + 1), fun H' w' => ⟨ds.length - (i + 1), by omega, rfl, hlt, w'⟩, fun v H3 hy => ?_⟩
    obtain ⟨t3, s3, r3⟩ := hyl v H3 hy
    have e3 : EnvRel K φ2 H3 (wipeD ρ vs) (wipe σ vs) := (he.mono l2 (t2.trans t3)).wipe _
    refine ⟨_, _, S2, φ2, _, r3, e3, s3, q2, fun ρ4 S4 σ4 H4 φ4 l4 t4 e4 s4 o4 q4 => ⟨o4.wipe2 hsl, ?_⟩⟩
    refine ⟨ρ4, S4, φ4, noX, _, e4, s4, q4, PostX.no, fun b S5 H5 φ5 l5 t5 s5 q5 => ?_⟩
    have L5 : Le φ1 φ5 := (l2.trans l4).trans l5
    have T5 : TupLe H1 H5 := ((t2.trans t3).trans t4).trans t5
    cases b with
    | true => exact inner ρ4 S5 φ5 σ4 H5 _ _ L5 T5 (e4.mono l5 t5) s5 q5 fun S6 φ6 H6 l6 t6 s6 q6 => ⟨S6, φ6, L5.trans l6, T5.trans t6, s6, q6⟩
    | false => exact ⟨S5, φ5, L5, T5, s5, q5⟩
  · have e : i = ds.length := by omega
    subst e
    rw [List.drop_length] at q2
    obtain ⟨hchk, q2⟩ := q2
    exact .inl ⟨(wk _ S2 φ2 H2 l2 t2 s2 hchk).2 rfl, fin _ _ _ l2 t2 s2 q2⟩
theorem inner_read {K : PySem.W.Frag} {n : Nat} {D : Addr} : ∀ (c : IC) (ws : List Nat), nestC ws c → ∀ (ρ2 : En) (S : Sto) (φ : List Addr) (σ2 : L2.St) (H : Hp) (k2 : Sto → Prop) (My : Hp → Prop), φ[n]? = some D → EnvRel K φ H ρ2 σ2 → SRel K φ S H → wC fs c ρ2 S n k2 →
    (∀ S' φ' H', Le φ φ' → TupLe H H' → SRel K φ' S' H' → k2 S' → My H') → tInner (sE fs K noW (eltOf c)) D (gnsOf fs K c) σ2 H My
  | .elt e, _, _, ρ2, S, φ, σ2, H, k2, My, hD, he, hs, hw, fin => by
    refine ⟨ρ2, S, φ, noX, _, he, hs, hw, PostX.no, fun d S1 v H1 φ1 l t s r q => ?_⟩
    obtain ⟨acc, ea, el, q⟩ := q
    obtain ⟨us, f1, ru⟩ := s.ob _ _ _ (l _ _ hD) ea
    refine ⟨us, f1, lim_lt (by rw [ru.length]; exact el), ?_⟩
    exact fin (S1.set n (.lst (acc ++ [d]))) φ1 _ l (t.trans (TupLe.mut f1)) (s.put (l _ _ hD) f1 (ru.app (.cons r .nil))) q
  | .gen vs g it t c, ws, hn, ρ2, S, φ, σ2, H, k2, My, hD, he, hs, hw, fin => by
    obtain ⟨_, hsl, hn⟩ := hn
    refine ⟨ρ2, S, φ, noX, _, he, hs, hw, PostX.no, fun ds chk S1 J H1 φ1 l1 t1 s1 wk q1 => ?_⟩
    refine loop_read (it := it) hsl (he.mono l1 t1) s1 wk (l1 _ _ hD) q1 (fun ρ3 S3 φ3 σ3 H3 k3 M3 l3 t3 e3 s3 q3 f3 => inner_read c vs hn ρ3 S3 φ3 σ3 H3 k3 M3 (l3 _ _ (l1 _ _ hD)) e3 s3 q3 f3) fun S' φ' H' l t s q => fin S' φ' H' (l1.trans l) (t1.trans t) s q
theorem nest_of {K : PySem.W.Frag} : ∀ (c : IC) (ws : List Nat), nestC ws c → Nest ws (gnsOf fs K c)
  | .elt _, _, _ => .nil
  | .gen vs g it t c, ws, h => .cons h.1 (nest_of c vs h.2.2)
theorem snd_lcn {g : IG} {it : II} {t : ITs} {c : IC} {own : List (Str × Nat)} (hsl : ∀ i ∈ gSlots g, i ∈ own.map (·.2)) (hn : nestC (own.map (·.2)) c) {σ : L2.St} {H : Hp} {Q : VK} (h : sE fs X.K W (.lcn (own.map (·.2)) g it t c) σ H Q) :
    tLcN (sI fs X.K W it) (gnOf fs X.K (own.map (·.2)) g it t) (gnsOf fs X.K c) (sE fs X.K noW (eltOf c)) σ H Q := by
  obtain ⟨ρ, S, φ, XD, QD, he, hs, hw, hx, hp⟩ := h
  refine ⟨ρ, S, φ, XD, _, he, hs, hw, hx, fun ds chk S1 J H1 φ1 l1 t1 s1 wk q1 => ?_⟩
  intro Da hDa
  have hix : (φ1 ++ [Da])[S1.length]? = some Da := s1.idx
  have t0 : TupLe H1 (upd H1 Da (.lst [])) := TupLe.new hDa
  have wk' : Walks X.K (φ1 ++ [Da]) (upd H1 Da (.lst [])) J ds chk := fun i S φ H l t s k => wk i S φ H ((Le.app φ1 [Da]).trans l) (t0.trans t) s k
  refine loop_read (it := it) (ρ := wipeD ρ (own.map (·.2))) (n := S1.length) (k := QD (.ref S1.length)) hsl (((he.mono l1 t1).mono (Le.app φ1 [Da]) t0).wipe _) (s1.alloc hDa .nil) wk' hix q1 (fun ρ3 S3 φ3 σ3 H3 k3 M3 l3 t3 e3 s3 q3 f3 => inner_read c _ hn ρ3 S3 φ3 σ3 H3 k3 M3 (l3 _ _ hix) e3 s3 q3 f3) fun S' φ' H' l t s q => ?_
  exact hp _ _ _ _ φ' (l1.trans ((Le.app φ1 [Da]).trans l)) (t1.trans (t0.trans t)) s (.ref (l _ _ hix)) q

/-! ### statements -/
theorem snd_ret (ha : PE X a (sE fs X.K W x)) : PS X (.Return (some a) p) (sS fs X.K W (.ret x)) :=
  (ps_ret ha).sub fun D σ H ⟨ρ, S, φ, E, he, hs, hw, hp⟩ => ⟨ρ, S, φ, _, E.rt, he, hs, hw, hp.x he, hp.rt⟩
theorem snd_retN : PS X (.Return none p) (sS fs X.K W .retN) :=
  ps_retN.sub fun D σ H ⟨ρ, S, φ, E, he, hs, hw, hp⟩ => hp.rt.here hs .non hw
theorem here_nx {K : PySem.W.Frag} {φ : List Addr} {H : Hp} {D : Ends} {E : DEnds} {ρ : En} {σ : L2.St} {S : Sto} {W : WX} (hp : PostS K W φ H D E) (he : EnvRel K φ H ρ σ) (hs : SRel K φ S H) (q : E.nx ρ S) : D.nx σ H := hp.nx _ _ _ _ φ (Le.refl φ) (TupLe.refl H) he hs q
theorem snd_pass : PS X (.Pass p) (sS fs X.K W .pass) := ps_pass.sub fun D σ H ⟨ρ, S, φ, E, he, hs, hw, hp⟩ => here_nx hp he hs hw
theorem snd_doc {n : Str} {k : Nat} {p2 : Pos} : PS X (.Expr (.Constant (.str n) k p2) p) (sS fs X.K W .pass) := ps_doc.sub fun D σ H ⟨ρ, S, φ, E, he, hs, hw, hp⟩ => here_nx hp he hs hw
theorem snd_brk : PS X (.Break p) (sS fs X.K W .brk) := ps_break.sub fun D σ H ⟨ρ, S, φ, E, he, hs, hw, hp⟩ => hp.bk _ _ _ _ φ (Le.refl φ) (TupLe.refl H) he hs hw
theorem snd_cont : PS X (.Continue p) (sS fs X.K W .cont) := ps_continue.sub fun D σ H ⟨ρ, S, φ, E, he, hs, hw, hp⟩ => hp.ct _ _ _ _ φ (Le.refl φ) (TupLe.refl H) he hs hw
theorem snd_expr (ha : PE X a (sE fs X.K W x)) (h : swapsWith a none p.line X.env = pure false) : PS X (.Expr a p) (sS fs X.K W (.expr x)) := by
  refine (ps_expr ha h).sub fun D σ H ⟨ρ, S, φ, E, he, hs, hw, hp⟩ => ?_
  exact ⟨ρ, S, φ, _, _, he, hs, hw, hp.x he, fun d S1 v H1 φ1 l t s r q => hp.nx _ _ _ _ φ1 l t (he.mono l t) s q⟩
theorem asg_read {g : IG} {D : Ends} {σ : L2.St} {H : Hp} (h : sS fs X.K W (.asg g x) D σ H) : tAsg (sE fs X.K W x) (sG fs X.K g) D σ H := by
  obtain ⟨ρ, S, φ, E, he, hs, hw, hp⟩ := h
  refine ⟨ρ, S, φ, _, _, he, hs, hw, hp.x he, fun d S1 v H1 φ1 l t s r q => ?_⟩
  exact ⟨d, ρ, S1, φ1, E.nx, r, he.mono l t, s, q, fun ρ2 S2 σ2 H2 φ2 l2 t2 e2 s2 _ q2 => hp.nx _ _ _ _ φ2 (l.trans l2) (t.trans t2) e2 s2 q2⟩
theorem snd_asg {tg : Expr} {g : IG} (ha : PE X a (sE fs X.K W x)) (hg : PG X tg (sG fs X.K g)) (h1 : swapsWithSole [tg] a p.line X.env = pure false) (h2 : swappedStores [tg] a X.env = pure none) (h3 : (assignEach [tg] X.env).map (·.2) = [assign tg X.env]) :
    PS X (.Assign [tg] a p) (sS fs X.K W (.asg g x)) :=
  (ps_asg ha hg h1 h2 h3).sub fun D σ H h => asg_read h
theorem gName_read {i : Nat} {v : V} {σ : L2.St} {H : Hp} {Q : L2.St → Hp → Prop} (h : sG fs X.K (.name i) v σ H Q) : gName i v σ H Q := by
  obtain ⟨d, ρ, S, φ, QD, r, he, hs, hw, hp⟩ := h
  exact hp _ _ _ _ φ (Le.refl φ) (TupLe.refl H) (he.set i r) hs (Only.set σ i _) hw
theorem asgN_read {i : Nat} {D : Ends} {σ : L2.St} {H : Hp} (h : sS fs X.K W (.asg (.name i) x) D σ H) : tAsg (sE fs X.K W x) (gName i) D σ H := by
  obtain ⟨ρ, S, φ, E, he, hs, hw, hp⟩ := h
  refine ⟨ρ, S, φ, _, _, he, hs, hw, hp.x he, fun d S1 v H1 φ1 l t s r q => ?_⟩
  exact hp.nx _ _ _ _ φ1 l t ((he.mono l t).set i r) s q
theorem snd_set {n : Str} {i : Nat} {pn : Pos} (ok : CxOk fs X W C) (hi : idxOf C.N n = some i) (ho : C.okSt n = true) (ha : PE X a (sE fs X.K W x)) (h1 : swapsWith a (some (.Name n pn)) p.line X.env = pure false) : PS X (.Assign [.Name n pn] a p) (sS fs X.K W (.asg (.name i) x)) := by
  have hst : (X.env.scope.names.lookup n = some .local) ∨ (X.env.scope.names.lookup n = some .cell ∧ X.fn n = true) := by
    rw [ok.sc]
    unfold Ctx.okSt Ctx.kind at ho
    split at ho
    · rename_i e; exact .inl e
    · rename_i e; exact .inr ⟨e, ok.fnc n ho⟩
    · cases ho
  have hl : Loc X.env.scope n := hst.elim .inl fun z => .inr z.1
  exact (ps_set ok.nd (by rw [ok.hN]; exact idxOf_get hi) hl ha h1 (hst.elim .inr fun z => .inl z.2)).sub fun D σ H h => asgN_read h
theorem snd_par {n m : Str} {i j : Nat} {pn pm pt pt2 : Pos} {k1 k2 : Nat} (ok : CxOk fs X W C) (hot : C.hot = false) (hi : idxOf C.N n = some i) (hj : idxOf C.N m = some j) (hij : i ≠ j) (hn : C.kind n = some .local) (hm : C.kind m = some .local) (ha : PE X a (sE fs X.K W x)) (hb : PE X b (sE fs X.K W y))
    (he : starEach [a, b] X.env = [(false, eval a X.env), (false, eval b X.env)]) (he2 : starEach [b] X.env = [(false, eval b X.env)])
    (hw : swappedStores [.Tuple [.Name n pn, .Name m pm] k1 pt] (.Tuple [a, b] k2 pt2) X.env = pure (some [n, m])) :
    PS X (.Assign [.Tuple [.Name n pn, .Name m pm] k1 pt] (.Tuple [a, b] k2 pt2) p) (sS fs X.K W (.par i j x y)) := by
  refine (ps_par (ok.calm hot) ok.nd (by rw [ok.hN]; exact idxOf_get hi) (by rw [ok.hN]; exact idxOf_get hj) hij (by rw [ok.sc]; exact hn) (by rw [ok.sc]; exact hm) (pa_cons ha (pa_cons hb pa_nil (by rw [he2]; rfl)) (by rw [he, he2])) hw rfl).sub fun D σ H ⟨ρ, S, φ, E, hee, hs, hww, hp⟩ => ?_
  exact two hee hs hww (hp.x hee) fun dx dy S2 vx vy H2 φ2 l t s r1 r2 q => ⟨vx, vy, rfl, hp.nx _ _ _ _ φ2 l t (((hee.mono l t).set i r1).set j r2) s q⟩
theorem snd_if {aa bb : List Stmt} {t : IT} {u w : IB} (hc : PT X c (sT fs X.K W t)) (ha : PSs X aa (sB fs X.K W u)) (hb : PSs X bb (sB fs X.K W w)) : PS X (.If c aa bb p) (sS fs X.K W (.ifs t u w)) := by
  refine (ps_if hc ha hb).sub fun D σ H ⟨ρ, S, φ, E, he, hs, hw, hp⟩ => ?_
  refine ⟨ρ, S, φ, _, _, he, hs, hw, hp.x he, fun k S1 H1 φ1 l t s q => ?_⟩
  cases k with
  | true => exact ⟨ρ, S1, φ1, E, he.mono l t, s, q, hp.mono l t⟩
  | false => exact ⟨ρ, S1, φ1, E, he.mono l t, s, q, hp.mono l t⟩
theorem snd_for {tg iter : Expr} {body : List Stmt} {g : IG} {it : II} {u : IB} (ok : CxOk fs X W C) (hot : C.hot = false) (hi : PI X tg iter (sI fs X.K W it)) (hg : PG X tg (sG fs X.K g)) (hb : PSs X body (sB fs X.K W u)) (hs : ∀ v, foldedSetIterable iter X.env v = pure v) :
    PS X (.For tg iter body [] p) (sS fs X.K W (.fr g it u)) := by
  refine (ps_for ok.own (ok.calm hot) hi hg hb hs).sub fun D σ H ⟨ρ, S, φ, E, he, hs, hw, hp⟩ => ?_
  refine ⟨ρ, S, φ, _, _, he, hs, hw, hp.x he, fun ds chk S1 J H1 φ1 l1 t1 s1 wk q1 => ?_⟩
  let Wp : Nat → L2.St → Hp → Prop := fun i σ H => ∃ (ρ : En) (S : Sto) (φ : List Addr), Le φ1 φ ∧ TupLe H1 H ∧ EnvRel X.K φ H ρ σ ∧ SRel X.K φ S H ∧
    fLoop chk (fun d ρ' S' k => wG fs g d ρ' S' noX k) (fun E' ρ' S' => wB fs u E' ρ' S') E (ds.drop i) ρ S
  refine ⟨fun i m σ H => m = ds.length - i ∧ i ≤ ds.length ∧ Wp i σ H, ⟨ds.length, by simp, Nat.zero_le _, ρ, S1, φ1, Le.refl _, TupLe.refl _, he.mono l1 t1, s1, by rw [List.drop_zero]; exact q1⟩, ?_⟩
  rintro i m σ2 H2 ⟨rfl, hile, ρ2, S2, φ2, l2, t2, e2, s2, q2⟩
  by_cases hlt : i < ds.length
  · rw [List.drop_eq_getElem_cons hlt] at q2
    obtain ⟨hchk, q2⟩ := q2
    obtain ⟨hgo, hyl⟩ := (wk i S2 φ2 H2 l2 t2 s2 hchk).1 _ (List.getElem?_eq_getElem hlt)
    refine .inr ⟨hgo, Wp (i + 1), fun σ' H' w' => ⟨ds.length - (i + 1), by omega, rfl, hlt, w'⟩, fun v H3 hy => ?_⟩
    obtain ⟨t3, s3, r3⟩ := hyl v H3 hy
    refine ⟨_, ρ2, S2, φ2, _, r3, e2.mono (Le.refl _) t3, s3, q2, fun ρ4 S4 σ4 H4 φ4 l4 t4 e4 s4 _ q4 => ?_⟩
    refine ⟨ρ4, S4, φ4, _, e4, s4, q4, ?_⟩
    have L4 : Le φ φ4 := l1.trans (l2.trans l4)
    have T4 : TupLe H H4 := t1.trans (t2.trans (t3.trans t4))
    exact ⟨fun ρ5 S5 σ5 H5 φ5 l5 t5 e5 s5 q5 => ⟨ρ5, S5, φ5, (l2.trans l4).trans l5, ((t2.trans t3).trans t4).trans t5, e5, s5, q5⟩, hp.rt.mono L4 T4,
      fun ρ5 S5 σ5 H5 φ5 l5 t5 e5 s5 q5 => hp.nx _ _ _ _ φ5 (L4.trans l5) (T4.trans t5) e5 s5 q5,
      fun ρ5 S5 σ5 H5 φ5 l5 t5 e5 s5 q5 => ⟨ρ5, S5, φ5, (l2.trans l4).trans l5, ((t2.trans t3).trans t4).trans t5, e5, s5, q5⟩, (hp.mono L4 T4).xx⟩
  · have e : i = ds.length := by omega
    subst e
    rw [List.drop_length] at q2
    obtain ⟨hchk, q2⟩ := q2
    exact .inl ⟨(wk _ S2 φ2 H2 l2 t2 s2 hchk).2 rfl, hp.nx _ _ _ _ φ2 (l1.trans l2) (t1.trans t2) e2 s2 q2⟩
theorem snd_wh {body : List Stmt} {t : IT} {u : IB} (ok : CxOk fs X W C) (hc : PT X c (sT fs X.K W t)) (hb : PSs X body (sB fs X.K W u)) : PS X (.While c body [] p) (sS fs X.K W (.wh t u)) := by
  refine (ps_while ok.own hc hb).sub fun D σ H ⟨ρ, S, φ, E, he, hs, hw, hp⟩ => ?_
  obtain ⟨n, hw⟩ := hw
  let Wp : Nat → L2.St → Hp → Prop := fun m σ' H' => ∃ (ρ : En) (S : Sto) (φ' : List Addr), Le φ φ' ∧ TupLe H H' ∧ EnvRel X.K φ' H' ρ σ' ∧ SRel X.K φ' S H' ∧
    hLoop (fun ρ' S' k => wT fs t ρ' S' (xk E ρ') k) (fun E' ρ' S' => wB fs u E' ρ' S') E m ρ S
  refine ⟨Wp, ⟨n, ρ, S, φ, Le.refl _, TupLe.refl _, he, hs, hw⟩, ?_⟩
  rintro m σ2 H2 ⟨ρ2, S2, φ2, l2, t2, e2, s2, q2⟩
  cases m with
  | zero => exact q2.elim
  | succ m =>
    refine ⟨ρ2, S2, φ2, _, _, e2, s2, q2, (hp.mono l2 t2).x e2, fun k S3 H3 φ3 l3 t3 s3 q3 => ?_⟩
    cases k with
    | true =>
      refine ⟨Wp m, fun σ' H' w => ⟨m, Nat.lt_succ_self m, w⟩, ρ2, S3, φ3, _, e2.mono l3 t3, s3, q3, ?_⟩
      have L3 : Le φ φ3 := l2.trans l3
      have T3 : TupLe H H3 := t2.trans t3
      exact ⟨fun ρ5 S5 σ5 H5 φ5 l5 t5 e5 s5 q5 => ⟨ρ5, S5, φ5, L3.trans l5, T3.trans t5, e5, s5, q5⟩, hp.rt.mono L3 T3,
        fun ρ5 S5 σ5 H5 φ5 l5 t5 e5 s5 q5 => hp.nx _ _ _ _ φ5 (L3.trans l5) (T3.trans t5) e5 s5 q5,
        fun ρ5 S5 σ5 H5 φ5 l5 t5 e5 s5 q5 => ⟨ρ5, S5, φ5, L3.trans l5, T3.trans t5, e5, s5, q5⟩, (hp.mono L3 T3).xx⟩
    | false => exact hp.nx _ _ _ _ φ3 (l2.trans l3) (t2.trans t3) (e2.mono l3 t3) s3 q3
theorem snd_bnil : PSs X [] (sB fs X.K W .nil) := pss_nil.sub fun D σ H ⟨ρ, S, φ, E, he, hs, hw, hp⟩ => here_nx hp he hs hw
theorem snd_bcons {st : Stmt} {r : List Stmt} {u : IS} {w : IB} (h1 : PS X st (sS fs X.K W u)) (h2 : PSs X r (sB fs X.K W w)) : PSs X (st :: r) (sB fs X.K W (.cons u w)) := by
  refine (pss_cons h1 h2).sub fun D σ H ⟨ρ, S, φ, E, he, hs, hw, hp⟩ => ?_
  refine ⟨ρ, S, φ, _, he, hs, hw, ?_⟩
  exact ⟨fun ρ' S' σ' H' φ' l t e s q => ⟨ρ', S', φ', E, e, s, q, hp.mono l t⟩, hp.rt, hp.bk, hp.ct, hp.xx⟩

/-! ### dict comprehensions -/
theorem snd_dcp {scope : Scope} {own : List (Str × Nat)} {g : IG} {it : II} {t : ITs} (ok : CxOk fs X W C) (hb : blkC C.N C.sc scope own = true) (hsl : ∀ i ∈ gSlots g, i ∈ own.map (·.2)) {σ : L2.St} {H : Hp} {Q : VK}
    (h : sE fs X.K W (.dcp (own.map (·.2)) g it t x y) σ H Q) : tDc (sI fs X.K W it) (sG fs X.K g) (sTs fs X.K noW t) (sE fs X.K noW x) (sE fs X.K noW y) (own.map (·.2)) σ H Q := by
  obtain ⟨ρ, S, φ, XD, QD, hee, hss, hw, hx, hp⟩ := h
  refine ⟨ρ, S, φ, XD, _, hee, hss, hw, hx, fun ds chk S1 J H1 φ1 l1 t1 s1 wk q1 => ?_⟩
  intro Da hDa
  have hix : (φ1 ++ [Da])[S1.length]? = some Da := s1.idx
  let Wp : Nat → Hp → Prop := fun i H => ∃ (S : Sto) (φ : List Addr), Le (φ1 ++ [Da]) φ ∧ TupLe H1 H ∧ SRel X.K φ S H ∧
    kLoop S1.length chk (fun d S2 ky kn => wG fs g d (wipeD ρ (own.map (·.2))) S2 noX fun ρ2 S3 => wTs fs t ρ2 S3 noX fun b S4 => if b = true then wE fs x ρ2 S4 noX fun y1 S5 => wE fs y ρ2 S5 noX fun z S6 => ky y1 z S6 else kn S4) (QD (.ref S1.length)) (ds.drop i) S
  refine ⟨fun i m H => m = ds.length - i ∧ i ≤ ds.length ∧ Wp i H, ⟨ds.length, by simp, Nat.zero_le _, ?_⟩, ?_⟩
  · refine ⟨S1 ++ [.dk []], φ1 ++ [Da], Le.refl _, TupLe.new hDa, s1.allocO (o := .dk []) hDa ⟨[], rfl, rfl, .nil⟩, ?_⟩
    rw [List.drop_zero]
    exact q1
  · rintro i m H2 ⟨rfl, hile, S2, φ2, l2, t2, s2, q2⟩
    have l12 : Le φ1 φ2 := (Le.app φ1 [Da]).trans l2
    by_cases hlt : i < ds.length
    · rw [List.drop_eq_getElem_cons hlt] at q2
      obtain ⟨hchk, q2⟩ := q2
      obtain ⟨hgo, hyl⟩ := (wk i S2 φ2 H2 l12 t2 s2 hchk).1 _ (List.getElem?_eq_getElem hlt)
      refine .inr ⟨hgo, Wp (i + 1), fun H' w' => ⟨ds.length - (i + 1), by omega, rfl, hlt, w'⟩, fun v H3 hy => ?_⟩
      obtain ⟨t3, s3, r3⟩ := hyl v H3 hy
      have e3 : EnvRel X.K φ2 H3 (wipeD ρ (own.map (·.2))) (wipe σ (own.map (·.2))) := ((hee.mono l1 t1).mono l12 (t2.trans t3)).wipe _
      refine ⟨_, _, S2, φ2, _, r3, e3, s3, q2, fun ρ4 S4 σ4 H4 φ4 l4 t4 e4 s4 o4 q4 => ⟨o4.wipe2 hsl, ?_⟩⟩
      refine ⟨ρ4, S4, φ4, noX, _, e4, s4, q4, PostX.no, fun k S5 H5 φ5 l5 t5 s5 q5 => ?_⟩
      cases k with
      | true =>
        refine ⟨ρ4, S5, φ5, noX, _, e4.mono l5 t5, s5, q5, PostX.no, fun d6 S6 v6 H6 φ6 l6 t6 s6 r6 q6 => ?_⟩
        refine ⟨ρ4, S6, φ6, noX, _, (e4.mono l5 t5).mono l6 t6, s6, q6, PostX.no, fun d7 S7 v7 H7 φ7 l7 t7 s7 r7 q7 => ?_⟩
        obtain ⟨key, kvs, ek, ea, el, q7⟩ := q7
        have hD : φ7[S1.length]? = some Da := ((l2.trans l4).trans ((l5.trans l6).trans l7)) _ _ hix
        obtain ⟨us, f1, f2, f3⟩ := s7.ob _ _ _ hD ea
        have elen : us.length = kvs.length := by simpa using congrArg List.length f2
        obtain ⟨w1, w2⟩ := put_rep r7 key f2 f3
        refine ⟨us, key, key1_rep r6 ek, f1, lim_lt (by rw [elen]; exact el), S7.set S1.length (.dk (putD kvs key d7)), φ7, (l2.trans l4).trans ((l5.trans l6).trans l7), ?_, ?_, q7⟩
        · exact ((t2.trans t3).trans t4).trans (((t5.trans t6).trans t7).trans (TupLe.mutK f1))
        · exact s7.putO (o := .dk (putD kvs key d7)) hD (TupLe.mutK f1) ⟨_, rfl, w1, w2⟩
      | false => exact ⟨S5, φ5, (l2.trans l4).trans l5, ((t2.trans t3).trans t4).trans t5, s5, q5⟩
    · have e : i = ds.length := by omega
      subst e
      rw [List.drop_length] at q2
      obtain ⟨hchk, q2⟩ := q2
      refine .inl ⟨(wk _ S2 φ2 H2 l12 t2 s2 hchk).2 rfl, ?_⟩
      exact hp _ _ _ _ φ2 (l1.trans l12) (t1.trans t2) s2 (.ref (l2 _ _ hix)) q2
/-- a local name for a dict comprehension -/
theorem ps_setDc {i : Nat} {n : Str} {py : Pos} {kx vx tg iter : Expr} {ifs : List Expr} {scope : Scope} {own : List (Str × Nat)} {pos spos : Pos} {wi : TI} {g : TG} {tt : TT} {tk tv : TE} (hc : X.calm = true) (hN : X.N.Nodup) (hy : X.N[i]? = some n) (hyl : X.env.scope.names.lookup n = some .local)
    (hsw : swapsWith (.DictComp kx vx [⟨tg, iter, ifs, 0⟩] scope pos) (some (.Name n py)) spos.line X.env = pure true) (hi : PI X tg iter wi) (ok : BlkOk X.N X.env.scope scope own)
    (hg : ∀ (s : Shared) (H : Hp) (A : Addr) (cl : List (Str × Addr)) (fp : List Addr), PG (X.blk s H scope (compEnvC scope cl A X.env) fp) tg g) (ht : ∀ (s : Shared) (H : Hp) (A : Addr) (cl : List (Str × Addr)) (fp : List Addr), PTs (X.blk s H scope (compEnvC scope cl A X.env) fp) ifs tt)
    (hk : ∀ (s : Shared) (H : Hp) (A : Addr) (cl : List (Str × Addr)) (fp : List Addr), PE (X.blk s H scope (compEnvC scope cl A X.env) fp) kx tk) (he : ∀ (s : Shared) (H : Hp) (A : Addr) (cl : List (Str × Addr)) (fp : List Addr), PE (X.blk s H scope (compEnvC scope cl A X.env) fp) vx tv)
    (hs : ∀ v, foldedSetIterable iter X.env v = pure v) : PS X (.Assign [.Name n py] (.DictComp kx vx [⟨tg, iter, ifs, 0⟩] scope pos) spos) (tAsg (tDc wi g tt tk tv (own.map (·.2))) (gName i)) := by
  refine ⟨fun pins s σ H D I h => ?_⟩
  rw [exec_Assign_Name_used _ _ _ _ hsw]
  refine wpAny_bind (wpAny_standAt (wpAny_bind ?_))
  have h : tDc wi g tt tk tv (own.map (·.2)) σ H (fun v H1 => gName i v σ H1 D.nx) := h
  refine wpAny_bind (thn (dc_core (Qf := fun _ s' => SP X pins D .next s') hc hN I hi ok hg ht hk he hs h fun L A s' m H' I' q hn f => ?_) fun _ s' hq => wpAny_pure (wpAny_pure hq))
  show wpAny _ _ (assign (.Name n py) X.env (.ref L)) _ _ _
  refine wpAny_assign_Name (store_ok2 (v := V.ref L) I' hN hy (.inl hyl) rfl (fun s2 I2 ⟨a, sb, ha⟩ => ?_) (.inr hyl))
  obtain ⟨f0, f1, f2, f3, f4, f5⟩ := f
  have ne : A ≠ a := by
    rcases ha with z | z
    · rw [z]; exact f1
    · exact fun e => f4 n a z e.symm
  refine ⟨m, hn.sameBut sb ne, fun h3 sb3 => ?_⟩
  exact ⟨_, H', I2.turned (t' := s2.toks) (fun b o hb e => (sb3.2 b hb).trans e) f0 f1 f3 f4 f5, q⟩

/-! ### for key in d: -/
/-- the walk of a locked dict's keys -/
theorem walks_keys {K : PySem.W.Frag} {φ : List Addr} {H : Hp} {ad : Addr} {n : Nat} {od : Obj} {vs : List (L2.Key × V)} {kvs : List (L2.Key × D)} (h : φ[n]? = some ad) (ha : H ad = some (.frz od (.dK vs))) (hk : vs.map (·.1) = kvs.map (·.1)) : Walks K φ H (Itk ad od vs) (kvs.map fun kv => kD kv.1) fun S => S[n]? = some (.dkl kvs) := by
  intro i S φ' H' l t s c
  have ha' := t.fd _ _ _ ha
  have hlen : vs.length = kvs.length := by simpa using congrArg List.length hk
  refine ⟨fun d hd => ?_, fun hl => ⟨ha', by rw [hlen]; rw [List.length_map] at hl; omega⟩⟩
  rw [List.getElem?_map, Option.map_eq_some_iff] at hd
  obtain ⟨kv, e0, rfl⟩ := hd
  have lt := (List.getElem?_eq_some_iff.mp e0).1
  refine ⟨⟨ha', by omega⟩, fun x H2 hy => ?_⟩
  obtain ⟨rfl, k, v, ek, rfl⟩ := hy
  have q : (vs.map (·.1))[i]? = (kvs.map (·.1))[i]? := by rw [hk]
  rw [List.getElem?_map, List.getElem?_map, ek, e0] at q
  obtain rfl : k = kv.1 := by simpa using q
  refine ⟨TupLe.refl _, s, ?_⟩
  obtain ⟨k, v'⟩ := kv
  cases k with
  | inl j => exact .int j
  | inr z => exact .str z
theorem snd_frk {n : Str} {i : Nat} {pn : Pos} {tg : Expr} {body : List Stmt} {g : IG} {u : IB} (ok : CxOk fs X W C) (hot : C.hot = false) (hi : idxOf C.N n = some i) (hk : C.kind n = some .local ∨ C.kind n = some .cell) (hn : okName n = true) (hg : PG X tg (sG fs X.K g)) (hb : PSs X body (sB fs X.K W u)) :
    PS X (.For tg (.Name n pn) body [] p) (sS fs X.K W (.frk g i u)) := by
  have hv : Vis X.env.scope n := by rw [ok.sc]; exact hk.elim .inl fun z => .inr (.inl z)
  have hn2 := hn
  unfold okName at hn2
  simp only [Bool.and_eq_true, Bool.not_eq_true'] at hn2
  have pn' := pe_var (X := X) (i := i) (pos := pn) (by rw [ok.hN]; exact idxOf_get hi) hv hn2.1.1 hn2.1.2
  refine (ps_lock (ps_for (pos := p) ok.own (ok.calm hot) (pi_keys pn') hg hb fun _ => rfl)).sub fun Dn σ H ⟨ρ, S, φ, E, he, hs, hw, hp⟩ => ?_
  simp only [wS] at hw
  split at hw
  · rename_i m e
    obtain ⟨kvs, e1, hw⟩ := hw
    obtain ⟨v, ev, rv⟩ := he.at_ _ _ e
    cases rv with
    | @ref a _ hm =>
      obtain ⟨vs, f1, f2, f3⟩ := hs.ob _ _ _ hm e1
      have sl : S[m]? = some (.dk kvs) := e1
      have ml : m < S.length := (List.getElem?_eq_some_iff.mp e1).1
      refine ⟨a, .dK vs, f1, trivial, fun od => ?_⟩
      have tl : TupLe H (upd H a (.frz od (.dK vs))) := TupLe.mutK f1
      have he1 : EnvRel X.K φ (upd H a (.frz od (.dK vs))) ρ σ := he.mono (Le.refl φ) tl
      have hs1 : SRel X.K φ (S.set m (.dkl kvs)) (upd H a (.frz od (.dK vs))) := hs.putO (o := .dkl kvs) hm tl ⟨od, vs, rfl, f2, f3⟩
      refine ⟨_, ev, a, od, rfl, .inl ⟨vs, upd_same, ?_⟩⟩
      -- what is left behind the walk
      have back : ∀ {φ' : List Addr} {H' : Hp} {S' : Sto}, Le φ φ' → TupLe (upd H a (.frz od (.dK vs))) H' → SRel X.K φ' S' H' → S'[m]? = some (.dkl kvs) → H' a = some (.frz od (.dK vs)) ∧ TupLe H (upd H' a (.dK vs)) ∧ SRel X.K φ' (S'.set m (.dk kvs)) (upd H' a (.dK vs)) := fun {φ' H' S'} l t s e' => by
        have q := t.fd _ _ _ upd_same
        have t0 : TupLe0 H' (upd H' a (.dK vs)) := TupLe0.mutO q trivial
        exact ⟨q, TupLe.unlock f1 t, s.putO0 (o := .dk kvs) (l _ _ hm) t0 ⟨vs, rfl, f2, f3.mono l (tl.trans t)⟩⟩
      have wk := walks_keys (K := X.K) (φ := φ) (H := upd H a (.frz od (.dK vs))) (od := od) (kvs := kvs) hm upd_same f2
      generalize (kvs.map fun kv => kD kv.1) = ks at wk hw
      let Wp : Nat → L2.St → Hp → Prop := fun i σ' H' => ∃ (ρ : En) (S' : Sto) (φ' : List Addr), Le φ φ' ∧ TupLe (upd H a (.frz od (.dK vs))) H' ∧ EnvRel X.K φ' H' ρ σ' ∧ SRel X.K φ' S' H' ∧
        fLoop (fun S' => S'[m]? = some (.dkl kvs)) (fun d ρ' S' k => wG fs g d ρ' S' noX k) (fun E' ρ' S' => wB fs u E' ρ' S') (unlE m kvs E) (ks.drop i) ρ S'
      refine ⟨fun i k σ' H' => k = ks.length - i ∧ i ≤ ks.length ∧ Wp i σ' H', ⟨ks.length, by simp, Nat.zero_le _, ρ, _, φ, Le.refl _, TupLe.refl _, he1, hs1, by rw [List.drop_zero]; exact hw⟩, ?_⟩
      rintro i k σ2 H2 ⟨rfl, hile, ρ2, S2, φ2, l2, t2, e2, s2, q2⟩
      -- how a turn of the loop ends
      have ends : ∀ {φ4 : List Addr} {H4 : Hp}, Le φ φ4 → TupLe (upd H a (.frz od (.dK vs))) H4 → ∀ (ρ5 : En) (S5 : Sto) (σ5 : L2.St) (H5 : Hp) (φ5 : List Addr), Le φ4 φ5 → TupLe H4 H5 → EnvRel X.K φ5 H5 ρ5 σ5 → SRel X.K φ5 S5 H5 → (unlE m kvs E).nx ρ5 S5 → H5 a = some (.frz od (.dK vs)) ∧ Dn.nx σ5 (upd H5 a (.dK vs)) := fun {φ4 H4} l4 t4 ρ5 S5 σ5 H5 φ5 l5 t5 e5 s5 q5 => by
        obtain ⟨x1, x2⟩ := q5
        obtain ⟨b1, b2, b3⟩ := back (l4.trans l5) (t4.trans t5) s5 x1
        exact ⟨b1, hp.nx _ _ _ _ φ5 (l4.trans l5) b2 (e5.mono0 (Le.refl _) (TupLe0.mutO b1 trivial)) b3 x2⟩
      by_cases hlt : i < ks.length
      · rw [List.drop_eq_getElem_cons hlt] at q2
        obtain ⟨hchk, q2⟩ := q2
        obtain ⟨hgo, hyl⟩ := (wk i S2 φ2 H2 l2 t2 s2 hchk).1 _ (List.getElem?_eq_getElem hlt)
        refine .inr ⟨hgo, Wp (i + 1), fun σ' H' w' => ⟨ks.length - (i + 1), by omega, rfl, hlt, w'⟩, fun v H3 hy => ?_⟩
        obtain ⟨t3, s3, r3⟩ := hyl v H3 hy
        refine ⟨_, ρ2, S2, φ2, _, r3, e2.mono (Le.refl _) t3, s3, q2, fun ρ4 S4 σ4 H4 φ4 l4 t4 e4 s4 _ q4 => ?_⟩
        refine ⟨ρ4, S4, φ4, _, e4, s4, q4, ?_⟩
        have L4 : Le φ φ4 := l2.trans l4
        have T4 : TupLe (upd H a (.frz od (.dK vs))) H4 := t2.trans (t3.trans t4)
        have nxt : ∀ (ρ5 : En) (S5 : Sto) (σ5 : L2.St) (H5 : Hp) (φ5 : List Addr), Le φ4 φ5 → TupLe H4 H5 → EnvRel X.K φ5 H5 ρ5 σ5 → SRel X.K φ5 S5 H5 → fLoop (fun S' => S'[m]? = some (.dkl kvs)) (fun d ρ' S' k => wG fs g d ρ' S' noX k) (fun E' ρ' S' => wB fs u E' ρ' S') (unlE m kvs E) (ks.drop (i + 1)) ρ5 S5 → Wp (i + 1) σ5 H5 := fun ρ5 S5 σ5 H5 φ5 l5 t5 e5 s5 q5 => ⟨ρ5, S5, φ5, L4.trans l5, T4.trans t5, e5, s5, q5⟩
        refine ⟨nxt, ?_, ends L4 T4, nxt, fun c d ρ' S' σ' cls dx H' φ' l t e s x q => q.elim⟩
        intro d5 S5 v5 H5 φ5 l5 t5 s5 r5 q5
        obtain ⟨x1, x2⟩ := q5
        obtain ⟨b1, b2, b3⟩ := back (L4.trans l5) (T4.trans t5) s5 x1
        exact ⟨b1, hp.rt _ _ _ _ φ5 (L4.trans l5) b2 b3 (r5.mono0 (Le.refl _) (TupLe0.mutO b1 trivial)) x2⟩
      · have e : i = ks.length := by omega
        subst e
        rw [List.drop_length] at q2
        obtain ⟨hchk, q2⟩ := q2
        exact .inl ⟨(wk _ S2 φ2 H2 l2 t2 s2 hchk).2 rfl, ends l2 t2 _ _ _ _ φ2 (Le.refl _) (TupLe.refl _) e2 s2 q2⟩
  · exact hw.elim

/-! ### errors -/
theorem snd_rai {n m : Str} {j : Nat} {pn p2 pc : Pos} {Ca : Addr} (ok : CxOk fs X W C) (hot : C.hot = false) (hk : C.kind n = some .globalImplicit) (hn : okName n = true) (hx : ErrC X n none Ca) : PS X (.Raise (some (.Call (.Name n pn) [.Constant (.str m) j p2] [] pc)) none p) (sS fs X.K W (.rai n)) := by
  obtain ⟨B, newId, initId, bmB, F, q, kC, r⟩ := hx.mk0 rfl
  refine (ps_raise (ok.calm hot) ok.tk (pmk_own F q hx.mg kC r (gl_of ok hk) (ok_name hn).2)).sub fun D σ H ⟨ρ, S, φ, E, he, hs, hw, hp⟩ => ?_
  exact hp.xx n .non ρ S σ _ _ H φ (Le.refl φ) (TupLe.refl H) he hs ⟨Ca, none, hx.cl, rfl, rfl, rfl⟩ hw
theorem snd_raiA {n f : Str} {pn pc : Pos} {Ca : Addr} (ok : CxOk fs X W C) (hot : C.hot = false) (hk : C.kind n = some .globalImplicit) (hn : okName n = true) (hx : ErrC X n (some f) Ca) (ha : PE X a (sE fs X.K W x)) (hst : starEach [a] X.env = [(false, eval a X.env)]) :
    PS X (.Raise (some (.Call (.Name n pn) [a] [] pc)) none p) (sS fs X.K W (.raiA n x)) := by
  have mk := (hx.mk1 f rfl).1 X.pn X.xe a _ pn pc (gl_of ok hk) hn ha hst
  refine (ps_raise (ok.calm hot) ok.tk mk).sub fun D σ H ⟨ρ, S, φ, E, he, hs, hw, hp⟩ => ?_
  refine ⟨ρ, S, φ, noX, _, he, hs, hw, PostX.no, fun d S1 v H1 φ1 l t s r q => ?_⟩
  obtain ⟨i, rfl, hi, q⟩ := q
  cases r
  refine ⟨i, rfl, hi, fun dd hd => ?_⟩
  have t2 : TupLe H1 (upd H1 dd (.xd [(f, .int i)])) := TupLe.new hd
  exact hp.xx n (.int i) ρ S1 σ _ _ _ φ1 l (t.trans t2) ((he.mono l t).mono (Le.refl _) t2) (s.new hd) ⟨Ca, some f, hx.cl, rfl, dd, .int i, rfl, upd_same, .int i⟩ q
end
end DW

set_option Elab.async false
set_option linter.all false
set_option maxRecDepth 100000
set_option maxHeartbeats 4000000
namespace DW
open PySem PySem.Spec PyProof.Rows L2
variable [Tb : Tbl]

theorem star_of {n : Nat} {C : Ctx} {e : Expr} {ie : IE} (h : compE n C e = some ie) (r : List Expr) (env : Env) : starEach (e :: r) env = (false, eval e env) :: starEach r env := by
  cases n with
  | zero => cases h
  | succ n => cases e <;> first | rfl | (simp only [compE] at h; cases h)
theorem backTo_any (p : Pos) (xs : List (Bool × Sem Value)) : (backTo p xs).any (·.1) = xs.any (·.1) := by
  unfold backTo
  rw [List.any_map]
  rfl
theorem star_any {n : Nat} {C : Ctx} : ∀ {es : List Expr} {as : IA} (env : Env), compA (compE n C) es = some as → (starEach es env).any (·.1) = false
  | [], _, _, _ => rfl
  | e :: r, as, env, h => by
    unfold compA at h
    cases h1 : compE n C e with
    | none => rw [h1] at h; cases h
    | some a =>
      rw [h1] at h
      cases h2 : compA (compE n C) r with
      | none => rw [h2] at h; cases h
      | some b =>
        rw [star_of h1, List.any_cons, star_any env h2]
        rfl
theorem plain_of {n : Nat} {C : Ctx} {e : Expr} {ie : IE} (h : compE n C e = some ie) : PlainIx e := by
  cases n with
  | zero => cases h
  | succ n => cases e <;> first | exact fun _ _ => rfl | (simp only [compE] at h; cases h)
theorem nosl_of {n : Nat} {C : Ctx} {e : Expr} {ie : IE} (h : compE n C e = some ie) : NoSl e := by
  cases n with
  | zero => cases h
  | succ n => cases e <;> first | exact fun _ _ => rfl | (simp only [compE] at h; cases h)
theorem alen_of {f : Expr → Option IE} : ∀ {vs : List Expr} {as : IA}, compA f vs = some as → alen as = vs.length
  | [], as, h => by cases h; rfl
  | e :: r, as, h => by
    simp only [compA] at h
    split at h
    · rename_i a b h1 h2
      cases h
      simp only [alen, List.length_cons, alen_of h2]
    · cases h
theorem keys_len {f : Expr → Option IE} : ∀ {keys : List (Option Expr)} {ks : List Str}, compK f keys = some ks → ks.length = keys.length ∧ True
  | [], ks, h => by cases h; exact ⟨rfl, trivial⟩
  | none :: r, ks, h => by cases h
  | some e :: r, ks, h => by
    simp only [compK] at h
    split at h
    · rename_i k ks' h1 h2
      cases h
      exact ⟨by simp only [List.length_cons, (keys_len h2).1], trivial⟩
    · cases h
theorem pps_of {fs : FEnv} {X : Cx} {W : WX} {n : Nat} {C : Ctx} {dp : Pos} (hE : ∀ e x, compE n C e = some x → PE X e (sE fs X.K W x)) : ∀ {keys : List (Option Expr)} {vs : List Expr} {ks : List Str} {as : IA}, compK (compE n C) keys = some ks → compA (compE n C) vs = some as → keys.length = vs.length → PPs X dp keys vs (trsOf fs X.K W ks as)
  | [], [], ks, as, h1, h2, _ => by cases h1; cases h2; exact pps_nil
  | [], _ :: _, _, _, _, _, h => by simp at h
  | _ :: _, [], _, _, _, _, h => by simp at h
  | none :: _, _ :: _, _, _, h1, _, _ => by cases h1
  | some e :: r, v :: vs, ks, as, h1, h2, h => by
    simp only [compK] at h1
    split at h1
    · rename_i k ks' q1 q2
      cases h1
      simp only [compA] at h2
      split at h2
      · rename_i a b p1 p2
        cases h2
        exact pps_cons (hE _ _ q1) (hE _ _ p1) (pps_of hE q2 p2 (by simpa using h))
      · cases h2
    · cases h1
theorem mark_of {n : Nat} {C : Ctx} {e : Expr} {ie : IE} (h : compE n C e = some ie) (op : CmpOp) : behindInMarks op e = false := by
  cases n with
  | zero => cases h
  | succ n => cases e <;> first | rfl | (simp only [compE] at h; cases h)
theorem fold_of {n : Nat} {C : Ctx} {e : Expr} {ie : IE} (h : compE n C e = some ie) (env : Env) (v : Value) : foldedSetIterable e env v = pure v := by
  cases n with
  | zero => cases h
  | succ n => cases e <;> first | rfl | (simp only [compE] at h; cases h)
theorem asub_of {n : Nat} {C : Ctx} {o e : Expr} {ie : IE} {p : Pos} {env : Env} (h : compE n C e = some ie) : ∀ v, assign (.Subscript o e p) env v = (do
      let ov ← holding [v] (eval o env)
      let iv ← holding [v, ov] (eval e env)
      standAt p
      holding [v, ov, iv] (setItem ov iv v)
      release [v, ov, iv] []) := by
  cases n with
  | zero => cases h
  | succ n => cases e <;> first | exact fun _ => rfl | (simp only [compE] at h; cases h)
theorem swaps_of {e : Expr} (h : isComp e = false) (t : Option Expr) (l : Nat) (env : Env) : swapsWith e t l env = pure false := by
  cases e <;> first | rfl | cases h

theorem nostar_of {f : Expr → Option IE} : ∀ {vs : List Expr} {as : IA}, compA f vs = some as → noStar as = true
  | [], as, h => by cases h; rfl
  | e :: r, as, h => by
    simp only [compA] at h
    split at h
    · rename_i a b h1 h2
      cases h
      show noStar b = true
      exact nostar_of h2
    · cases h
theorem base_plain {o : Expr} (h : plainO o = true) (m : Str) (env : Env) : attributeBase o m env (eval o env) = eval o env := by
  cases o <;> first | rfl | cases h
/-- of a fuel -/
structure Snd (fs : FEnv) (n : Nat) : Prop where
  E : ∀ (X : Cx) (W : WX) (C : Ctx) (e : Expr) (ie : IE), CxOk fs X W C → compE n C e = some ie → PE X e (sE fs X.K W ie)
  T : ∀ (X : Cx) (W : WX) (C : Ctx) (e : Expr) (it : IT), CxOk fs X W C → compT n C e = some it → PT X e (sT fs X.K W it) ∧ ∀ op es p, e = .BoolOp op es p → PW X e (sT fs X.K W it)
  G : ∀ (X : Cx) (W : WX) (C : Ctx) (e : Expr) (g : IG), CxOk fs X W C → compG n C e = some g → PG X e (sG fs X.K g)
  I : ∀ (X : Cx) (W : WX) (C : Ctx) (tg e : Expr) (it : II), CxOk fs X W C → compI n C tg e = some it → PI X tg e (sI fs X.K W it) ∧ ∀ v, foldedSetIterable e X.env v = pure v
  Ts : ∀ (X : Cx) (W : WX) (C : Ctx) (es : List Expr) (t : ITs), CxOk fs X W C → compTs n C es = some t → PTs X es (sTs fs X.K W t)
  L : ∀ (X : Cx) (W : WX) (C : Ctx) (elt : Expr) (g : Comprehension) (scope : Scope) (r : List Nat × IG × II × ITs × IE), CxOk fs X W C → compLc n C elt g scope = some r → ∃ (tg iter : Expr) (ifs : List Expr) (own : List (Str × Nat)), C.hot = false ∧ g = ⟨tg, iter, ifs, 0⟩ ∧ r.1 = own.map (·.2) ∧
    blkC C.N C.sc scope own = true ∧ (∀ i ∈ gSlots r.2.1, i ∈ own.map (·.2)) ∧ PI X tg iter (sI fs X.K W r.2.2.1) ∧ (∀ v, foldedSetIterable iter X.env v = pure v) ∧
    (∀ (s : Shared) (H : Hp) (A : Addr) (cl : List (Str × Addr)) (fp : List Addr), PG (X.blk s H scope (compEnvC scope cl A X.env) fp) tg (sG fs X.K r.2.1)) ∧
    (∀ (s : Shared) (H : Hp) (A : Addr) (cl : List (Str × Addr)) (fp : List Addr), PTs (X.blk s H scope (compEnvC scope cl A X.env) fp) ifs (sTs fs X.K noW r.2.2.2.1)) ∧
    (∀ (s : Shared) (H : Hp) (A : Addr) (cl : List (Str × Addr)) (fp : List Addr), PE (X.blk s H scope (compEnvC scope cl A X.env) fp) elt (sE fs X.K noW r.2.2.2.2))
  D : ∀ (X : Cx) (W : WX) (C : Ctx) (kx vx : Expr) (g : Comprehension) (scope : Scope) (r : List Nat × IG × II × ITs × IE × IE), CxOk fs X W C → compDc n C kx vx g scope = some r → ∃ (tg iter : Expr) (ifs : List Expr) (own : List (Str × Nat)), C.hot = false ∧ g = ⟨tg, iter, ifs, 0⟩ ∧ r.1 = own.map (·.2) ∧
    blkC C.N C.sc scope own = true ∧ (∀ i ∈ gSlots r.2.1, i ∈ own.map (·.2)) ∧ PI X tg iter (sI fs X.K W r.2.2.1) ∧ (∀ v, foldedSetIterable iter X.env v = pure v) ∧
    (∀ (s : Shared) (H : Hp) (A : Addr) (cl : List (Str × Addr)) (fp : List Addr), PG (X.blk s H scope (compEnvC scope cl A X.env) fp) tg (sG fs X.K r.2.1)) ∧
    (∀ (s : Shared) (H : Hp) (A : Addr) (cl : List (Str × Addr)) (fp : List Addr), PTs (X.blk s H scope (compEnvC scope cl A X.env) fp) ifs (sTs fs X.K noW r.2.2.2.1)) ∧
    (∀ (s : Shared) (H : Hp) (A : Addr) (cl : List (Str × Addr)) (fp : List Addr), PE (X.blk s H scope (compEnvC scope cl A X.env) fp) kx (sE fs X.K noW r.2.2.2.2.1)) ∧
    (∀ (s : Shared) (H : Hp) (A : Addr) (cl : List (Str × Addr)) (fp : List Addr), PE (X.blk s H scope (compEnvC scope cl A X.env) fp) vx (sE fs X.K noW r.2.2.2.2.2))
  Cn : ∀ (X : Cx) (C : Ctx) (elt : Expr) (gr : List Comprehension) (c : IC) (vs : List Nat), CxOk fs X noW C → compC n C elt gr = some (c, vs) → GnsOk X gr (gnsOf fs X.K c) ∧ PE X elt (sE fs X.K noW (eltOf c)) ∧ ∀ ws : List Nat, (∀ i ∈ vs, i ∈ ws) → nestC ws c
  Ln : ∀ (X : Cx) (W : WX) (C : Ctx) (elt : Expr) (g : Comprehension) (gr : List Comprehension) (scope : Scope) (own' : List Nat) (a : IG) (b : II) (t : ITs) (c : IC), CxOk fs X W C → compLn n C elt g gr scope = some (own', a, b, t, c) → ∃ (own : List (Str × Nat)), C.hot = false ∧ own' = own.map (·.2) ∧
    blkC C.N C.sc scope own = true ∧ (∀ i ∈ gSlots a, i ∈ own.map (·.2)) ∧ nestC (own.map (·.2)) c ∧ PI X g.target g.iter (sI fs X.K W b) ∧ (∀ v, foldedSetIterable g.iter X.env v = pure v) ∧
    (∀ (s : Shared) (H : Hp) (A : Addr) (cl : List (Str × Addr)) (fp : List Addr), GnOk0 (X.blk s H scope (compEnvC scope cl A X.env) fp) g (gnOf fs X.K (own.map (·.2)) a b t)) ∧
    (∀ (s : Shared) (H : Hp) (A : Addr) (cl : List (Str × Addr)) (fp : List Addr), GnsOk (X.blk s H scope (compEnvC scope cl A X.env) fp) gr (gnsOf fs X.K c)) ∧
    (∀ (s : Shared) (H : Hp) (A : Addr) (cl : List (Str × Addr)) (fp : List Addr), PE (X.blk s H scope (compEnvC scope cl A X.env) fp) elt (sE fs X.K noW (eltOf c)))

section
variable {fs : FEnv} {n : Nat}
theorem Snd.A (h : Snd fs n) {X : Cx} {W : WX} {C : Ctx} (ok : CxOk fs X W C) : ∀ {es : List Expr} {as : IA}, compA (compE n C) es = some as → PA X es (sA fs X.K W as)
  | [], _, e => by cases e; exact snd_anil
  | x :: r, as, e => by
    unfold compA at e
    cases h1 : compE n C x with
    | none => rw [h1] at e; cases e
    | some a =>
      rw [h1] at e
      cases h2 : compA (compE n C) r with
      | none => rw [h2] at e; cases e
      | some b =>
        rw [h2] at e; cases e
        exact snd_acons (h.E X W C x a ok h1) (Snd.A h ok h2) (star_of h1 r X.env)
theorem Snd.AS (h : Snd fs n) {X : Cx} {W : WX} {C : Ctx} (ok : CxOk fs X W C) : ∀ {es : List Expr} {as : IA}, compAS (compE n C) es = some as → PA X es (sA fs X.K W as)
  | [], _, e => by cases e; exact snd_anil
  | x :: r, as, e => by
    cases x <;> unfold compAS at e <;> first
      | (split at e
         · rename_i a b h1 h2
           cases e
           first
             | exact snd_acons (h.E X W C _ a ok h1) (Snd.AS h ok h2) (star_of h1 r X.env)
             | exact snd_astar (h.E X W C _ a ok h1) (Snd.AS h ok h2) rfl
         · cases e)
theorem Snd.O (h : Snd fs n) {X : Cx} {W : WX} {C : Ctx} (ok : CxOk fs X W C) {e : Option Expr} {o : IO} (q : compO (compE n C) e = some o) : PO X e (sO fs X.K W o) := by
  cases e with
  | none => cases q; exact snd_ono
  | some e =>
    simp only [compO] at q
    cases h1 : compE n C e with
    | none => rw [h1] at q; cases q
    | some a => rw [h1] at q; cases q; exact snd_oyes (h.E X W C e a ok h1)
theorem asg_star {n : Nat} {C : Ctx} {e : Expr} {g : IG} (h : compG n C e = some g) (r : List Expr) (env : Env) : assignEach (e :: r) env = (false, assign e env) :: assignEach r env := by
  cases n with
  | zero => cases h
  | succ n => cases e <;> first | rfl | (simp only [compG] at h; cases h)
theorem Snd.Gs (h : Snd fs n) {X : Cx} {W : WX} {C : Ctx} (ok : CxOk fs X W C) : ∀ {es : List Expr} {gs : IGs}, compGs (compG n C) es = some gs → PGs X es (sGs fs X.K gs) ∧ gsLen gs = es.length ∧ (assignEach es X.env).length = es.length ∧ (assignEach es X.env).findIdx? (·.1) = none
  | [], _, e => by cases e; exact ⟨snd_gnil, rfl, rfl, rfl⟩
  | x :: r, gs, e => by
    unfold compGs at e
    cases h1 : compG n C x with
    | none => rw [h1] at e; cases e
    | some a =>
      rw [h1] at e
      cases h2 : compGs (compG n C) r with
      | none => rw [h2] at e; cases e
      | some b =>
        rw [h2] at e; cases e
        obtain ⟨q1, q2, q3, q4⟩ := Snd.Gs h ok h2
        have hst := asg_star h1 r X.env
        refine ⟨snd_gcons (h.G X W C x a ok h1) q1 (by rw [hst]; rfl), ?_, ?_, ?_⟩
        · show gsLen b + 1 = r.length + 1
          rw [q2]
        · rw [hst, List.length_cons, List.length_cons, q3]
        · rw [hst, List.findIdx?_cons]
          simp [q4]

theorem compA_cons {f : Expr → Option IE} {e : Expr} {r : List Expr} {as : IA} (h : compA f (e :: r) = some as) : ∃ a b, f e = some a ∧ compA f r = some b ∧ as = .cons a b := by
  unfold compA at h
  cases h1 : f e with
  | none => rw [h1] at h; cases h
  | some a =>
    rw [h1] at h
    cases h2 : compA f r with
    | none => rw [h2] at h; cases h
    | some b => rw [h2] at h; cases h; exact ⟨a, b, rfl, rfl, rfl⟩
theorem some_map {α β : Type} {o : Option α} {f : α → β} {b : β} (h : o.map f = some b) : ∃ a, o = some a ∧ b = f a := by
  cases o with
  | none => cases h
  | some a => cases h; exact ⟨a, rfl, rfl⟩

theorem snd_all (fs : FEnv) : ∀ n, Snd fs n
  | 0 => {
      E := fun _ _ _ _ _ _ h => by cases h
      T := fun _ _ _ _ _ _ h => by cases h
      G := fun _ _ _ _ _ _ h => by cases h
      I := fun _ _ _ _ _ _ _ h => by cases h
      Ts := fun _ _ _ _ _ _ h => by cases h
      L := fun _ _ _ _ _ _ _ _ h => by cases h
      D := fun _ _ _ _ _ _ _ _ _ h => by cases h
      Cn := fun _ _ _ _ _ _ _ h => by cases h
      Ln := fun _ _ _ _ _ _ _ _ _ _ _ _ _ h => by cases h }
  | n + 1 => by
    have ih := snd_all fs n
    refine ⟨?E, ?T, ?G, ?I, ?Ts, ?L, ?D, ?Cn, ?Ln⟩
    case E =>
      intro X W C e ie ok h
      cases e with
      | Constant cc k p =>
        simp only [compE] at h
        obtain ⟨d, h1, rfl⟩ := some_map h
        exact snd_const h1
      | Name x p =>
        simp only [compE] at h
        split at h
        · rename_i hn
          split at h
          · rename_i hk
            obtain ⟨i, h1, rfl⟩ := some_map h
            exact snd_var ok h1 (.inl hk) hn
          · rename_i hk
            obtain ⟨i, h1, rfl⟩ := some_map h
            exact snd_var ok h1 (.inr (.inl hk)) hn
          · rename_i hk
            obtain ⟨i, h1, rfl⟩ := some_map h
            exact snd_var ok h1 (.inr (.inr hk)) hn
          · rename_i hk
            split at h
            · rename_i d hd
              cases h
              exact snd_con ok hk hd hn
            · split at h
              · rename_i hb
                obtain ⟨t, h1, rfl⟩ := some_map h
                exact snd_ty ok hk hb h1 hn
              · cases h
          · cases h
        · cases h
      | Tuple es k p =>
        simp only [compE] at h
        obtain ⟨as, h1, rfl⟩ := some_map h
        exact snd_tup (ih.A ok h1)
      | List es p =>
        simp only [compE] at h
        split at h
        · split at h
          · cases h
          · obtain ⟨as, h1, rfl⟩ := some_map h
            exact snd_lst (ih.AS ok h1)
        · obtain ⟨as, h1, rfl⟩ := some_map h
          exact snd_lst (ih.A ok h1)
      | BinOp a op b p =>
        simp only [compE] at h
        split at h
        · rename_i x y h1 h2
          cases h
          exact snd_bin (ih.E X W C a x ok h1) (ih.E X W C b y ok h2)
        · cases h
      | UnaryOp op a p =>
        cases op with
        | Not =>
          simp only [compE] at h
          obtain ⟨x, h1, rfl⟩ := some_map h
          exact snd_not (ih.E X W C a x ok h1)
        | USub =>
          simp only [compE] at h
          obtain ⟨x, h1, rfl⟩ := some_map h
          exact snd_neg (ih.E X W C a x ok h1)
        | Invert => simp only [compE] at h; cases h
        | UAdd => simp only [compE] at h; cases h
      | BoolOp op es p =>
        match es, h with
        | [], h => simp only [compE] at h; cases h
        | [a], h =>
          simp only [compE] at h
          exact pe_one (ih.E X W C a ie ok h)
        | a :: b :: r, h =>
          simp only [compE] at h
          split at h
          · rename_i x y h1 h2
            cases h
            cases op with
            | And => exact snd_and (ih.E X W C a x ok h1) (ih.E X W C _ y ok h2)
            | Or => exact snd_or (ih.E X W C a x ok h1) (ih.E X W C _ y ok h2)
          · cases h
      | Compare a ops es p =>
        simp only [compE] at h
        split at h
        · split at h
          · rename_i h1 h2
            cases h
            exact snd_cmp ok (ih.E X W C a _ ok h1) (ih.E X W C _ _ ok h2) (mark_of h2 _)
          · cases h
        · split at h
          · rename_i h1 h2 h3
            cases h
            refine snd_chn ok (ih.E X W C a _ ok h1) (ih.E X W C _ _ ok h2) (ih.E X W C _ _ ok h3) ?_
            show behindInMarks _ _ = false
            exact mark_of h3 _
          · cases h
        · cases h
      | IfExp c a b p =>
        simp only [compE] at h
        split at h
        · rename_i h1 h2 h3
          cases h
          exact snd_ite (ih.T X W C c _ ok h1).1 (ih.E X W C a _ ok h2) (ih.E X W C b _ ok h3)
        · cases h
      | Call f es ks p =>
        simp only [compE] at h
        split at h
        · rename_i x0 pn0
          split at h
          · cases h
          rename_i hot
          have hot : C.hot = false := by simpa using hot
          split at h
          · rename_i ht
            obtain ⟨t1, t2, t3⟩ := ht
            cases h
            cases es with
            | nil => exact ok.thk (Option.isNone_iff_eq_none.mp t3) hot _ t2 W X.pn X.xe _ _ ok.tk
            | cons _ _ => cases t1
          split at h
          · rename_i hn
            obtain ⟨hn, hk⟩ := hn
            split at h
            · rename_i f as scope hl
              obtain ⟨aa, h1, rfl⟩ := some_map h
              have L : LamX.LamS X.env.scope scope := by
                have q := hl
                unfold lamOf at q
                split at q
                · split at q
                  · split at q
                    · rename_i hc
                      cases q
                      exact LamX.lamS_by (by rw [ok.sc]; exact hc.1)
                    · cases q
                  · cases q
                · cases q
              exact ok.lam hot X (Like.refl X) (ok.calm hot) W _ _ _ _ _ _ _ aa ok.tk (by rw [ok.sc]; exact hl) (gl_of ok hk) hn (fun e r env he => by
                subst he
                obtain ⟨a, b, g1, g2, _⟩ := compA_cons h1
                exact ⟨star_of g1 r env, star_any env g2⟩) fun A outer s H E f c' un => ih.A (lam_ok ok L un) h1
            · split at h
              · rename_i hi
                obtain ⟨as, h1, rfl⟩ := some_map h
                cases es with
                | nil => cases h1; exact snd_fn0 ok hot hk hn hi
                | cons e r =>
                  obtain ⟨a, b, g1, g2, _⟩ := compA_cons h1
                  exact snd_fn ok hot hk hn hi (ih.A ok h1) (star_of g1 r X.env) (by rw [backTo_any]; exact star_any X.env g2)
              · split at h
                · rename_i hb
                  split at h
                  · rename_i a hlr
                    split at h
                    · rename_i hr
                      obtain ⟨x, h1, rfl⟩ := some_map h
                      unfold lrngOf at hlr
                      split at hlr
                      · split at hlr
                        · rename_i hxr
                          obtain ⟨rfl, rfl⟩ := hxr
                          cases hlr
                          exact snd_lrng ok hot hk hb hr.1 hr.2 (ih.E X W C _ x ok h1) (star_of h1 [] X.env)
                        · cases hlr
                      · cases hlr
                    · cases h
                  split at h
                  · rename_i f hf
                    obtain ⟨as, h1, rfl⟩ := some_map h
                    cases es with
                    | nil =>
                      exfalso
                      unfold bnOf at hf
                      simp at hf
                    | cons e r =>
                      obtain ⟨a, b, g1, g2, _⟩ := compA_cons h1
                      exact snd_blt ok hot hk hn hb hf (ih.A ok h1) (star_of g1 r X.env) (by rw [backTo_any]; exact star_any X.env g2)
                  · cases h
                · cases h
          · cases h
        · -- a keyword
          split at h
          · rename_i kw a1 z hz hi
            split at h
            · rename_i hc
              obtain ⟨hot, rfl, hk, hb, hsum, hbl⟩ := hc
              obtain ⟨y, h1, rfl⟩ := some_map h
              exact ok.srt hi (Option.isNone_iff_eq_none.mp hbl) hot X (Like.refl X) rfl (ok.calm hot) W _ _ _ _ y (by rw [hz]; rfl) (gl_of ok hk) (ih.E X W C _ y ok h1) (star_of h1 [] X.env)
            · cases h
          · cases h
        · rename_i o m ap
          split at h
          · cases h
          rename_i hot
          have hl : (ap.endLine == p.line) = true := by
            cases q : (ap.endLine == p.line) with
            | true => rfl
            | false => exact absurd (.inr q) hot
          split at h
          · split at h
            · rename_i hm
              subst hm
              split at h
              · rename_i h1 h2
                cases h
                exact snd_app (ih.E X W C _ _ ok h2) (ih.E X W C _ _ ok h1) hl (star_of h1 [] X.env)
              · cases h
            · split at h
              · rename_i hm
                subst hm
                split at h
                · rename_i h1 h2
                  cases h
                  exact snd_ext (ih.E X W C _ _ ok h2) (ih.E X W C _ _ ok h1) hl (star_of h1 [] X.env)
                · cases h
              · split at h
                · rename_i hm
                  subst hm
                  split at h
                  · rename_i h1 h2
                    split at h
                    · rename_i hp
                      cases h
                      exact snd_jn (ih.E X W C _ _ ok h1) (ih.E X W C _ _ ok h2) (star_of h2 [] X.env) (base_plain hp _ _) hl
                    · cases h
                  · cases h
                · split at h
                  · rename_i hm
                    subst hm
                    split at h
                    · rename_i h1 h2
                      split at h
                      · rename_i hp
                        cases h
                        exact snd_spl (ih.E X W C _ _ ok h1) (ih.E X W C _ _ ok h2) (star_of h2 [] X.env) (base_plain hp _ _) hl
                      · cases h
                    · cases h
                  · cases h
          · cases h
        · cases h
      | Subscript a i p =>
        simp only [compE] at h
        split at h
        · split at h
          · rename_i h1 h2 h3
            cases h
            exact snd_slc (ih.E X W C a _ ok h1) (ih.O ok h2) (ih.O ok h3)
          · cases h
        · split at h
          · rename_i h1 h2
            cases h
            exact snd_idx ok.un (ih.E X W C a _ ok h1) (ih.E X W C _ _ ok h2) (plain_of h2)
          · rename_i h1 h2
            split at h
            · split at h
              · rename_i hc
                obtain ⟨kds, hkd, rfl⟩ := some_map h
                exact snd_csub ok hc.2 hc.1 hkd (ih.E X W C _ _ ok h2) (plain_of h2)
              · cases h
            · cases h
          · cases h
      | Dict keys vs p =>
        simp only [compE] at h
        split at h
        · split at h
          · cases h; exact snd_dknew
          · cases h; exact snd_dnew
        · split at h
          · rename_i h3 h4
            split at h
            · rename_i hc
              obtain ⟨c1, c2, c3, c4, c5⟩ := hc
              cases h
              obtain ⟨q1, q2⟩ := keys_len h3
              exact snd_ddsp (pps_of (fun e x q => ih.E X W C e x ok q) h3 h4 c1) ((alen_of h4).trans (c1.symm.trans q1.symm)) (nostar_of h4) c5 c1 c3 c2 q1 c4
            · cases h
          · cases h
      | DictComp kx vx gs scope p =>
        simp only [compE] at h
        split at h
        · split at h
          · rename_i own' g' it' t' k' v' h1
            cases h
            obtain ⟨tg, iter, ifs, own, hot, rfl, e1, hb, hsl, hi, hf, hg, ht, hk, he⟩ := ih.D X W C kx vx _ scope _ ok h1
            simp only at e1 hsl hi hg ht hk he
            subst e1
            have bo : BlkOk X.N X.env.scope scope own := by rw [ok.hN, ok.sc]; exact blkOk_by hb
            exact (pe_dc (ok.calm hot) ok.nd hi bo hg ht hk he hf).sub fun σ H Q q => snd_dcp ok hb hsl q
          · cases h
        · cases h
      | ListComp elt gs scope p =>
        simp only [compE] at h
        split at h
        · split at h
          · rename_i g g2 gr own' a b t c h1
            cases h
            obtain ⟨own, hot, rfl, hb, hsl, hn, hi, hf, h0, hN, he⟩ := ih.Ln X W C elt _ _ scope own' a b t c ok h1
            have bo : BlkOk X.N X.env.scope scope own := by rw [ok.hN, ok.sc]; exact blkOk_by hb
            exact (pe_lcN (ok.calm hot) ok.nd hi bo rfl (nest_of c _ hn) h0 hN he hf).sub fun σ H Q q => snd_lcn hsl hn q
          · cases h
        · split at h
          · rename_i g' it' t' e' h1
            cases h
            obtain ⟨tg, iter, ifs, own, hot, rfl, e1, hb, hsl, hi, hf, hg, ht, he⟩ := ih.L X W C elt _ scope _ ok h1
            simp only at e1 hsl hi hg ht he
            subst e1
            obtain ⟨bo, hr⟩ := snd_lcp ok hb hsl hi hg ht he hf
            exact (pe_lc (ok.calm hot) ok.nd hi bo hg ht he hf).sub hr
          · cases h
        · cases h
      | _ => simp only [compE] at h; cases h
    case T =>
      intro X W C e it ok h
      have other : (∀ op es p, e ≠ .BoolOp op es p) → PT X e (sT fs X.K W it) → PT X e (sT fs X.K W it) ∧ ∀ op es p, e = .BoolOp op es p → PW X e (sT fs X.K W it) := fun hne q => ⟨q, fun op es p z => absurd z (hne op es p)⟩
      have val : ∀ {e : Expr} {it : IT}, (compE n C e).map .val = some it → (∀ whole, isTrue e X.env whole = (do let v ← whole; standAt e.pos; holding [v] (truthy v))) → PT X e (sT fs X.K W it) := fun {e it} q hp => by
        obtain ⟨x, h1, rfl⟩ := some_map q
        exact snd_tval (ih.E X W C e x ok h1) hp
      cases e with
      | UnaryOp op a p =>
        refine other (fun _ _ _ z => by cases z) ?_
        cases op with
        | Not =>
          simp only [compT] at h
          obtain ⟨x, h1, rfl⟩ := some_map h
          exact snd_tnot (ih.T X W C a x ok h1).1
        | USub => simp only [compT] at h; exact val h fun _ => rfl
        | Invert => simp only [compT] at h; exact val h fun _ => rfl
        | UAdd => simp only [compT] at h; exact val h fun _ => rfl
      | BoolOp op es p =>
        have pw : PW X (.BoolOp op es p) (sT fs X.K W it) := by
          match es, h with
          | [], h => simp only [compT] at h; cases h
          | [a], hh =>
            simp only [compT] at hh
            have q := (ih.T X W C a it ok hh).1
            cases op with
            | And => exact pw_and1 q
            | Or => exact pw_or1 q
          | a :: b :: r, h =>
            simp only [compT] at h
            split at h
            · rename_i x y h1 h2
              cases h
              cases op with
              | And => exact snd_tand (ih.T X W C a x ok h1).1 ((ih.T X W C _ y ok h2).2 _ _ _ rfl)
              | Or => exact snd_tor (ih.T X W C a x ok h1).1 ((ih.T X W C _ y ok h2).2 _ _ _ rfl)
            · cases h
        exact ⟨pw.pt, fun _ _ _ z => by cases z; exact pw⟩
      | Compare a ops es p =>
        refine other (fun _ _ _ z => by cases z) ?_
        simp only [compT] at h
        split at h
        · split at h
          · rename_i h1 h2
            cases h
            exact snd_tcmp ok (ih.E X W C a _ ok h1) (ih.E X W C _ _ ok h2) (mark_of h2 _)
          · cases h
        · split at h
          · rename_i h1 h2 h3
            cases h
            refine snd_tchn ok (ih.E X W C a _ ok h1) (ih.E X W C _ _ ok h2) (ih.E X W C _ _ ok h3) ?_
            show behindInMarks _ _ = false
            exact mark_of h3 _
          · cases h
        · cases h
      | IfExp c a b p => simp only [compT] at h; cases h
      | _ => exact other (fun _ _ _ z => by cases z) (by simp only [compT] at h; exact val h fun _ => rfl)
    case G =>
      intro X W C e g ok h
      cases e with
      | Name x p =>
        simp only [compG] at h
        split at h
        · rename_i ho
          obtain ⟨i, h1, rfl⟩ := some_map h
          exact snd_gname ok h1 ho
        · cases h
      | Tuple es k p =>
        simp only [compG] at h
        split at h
        · cases h
        · rename_i hot
          obtain ⟨gs, h1, rfl⟩ := some_map h
          obtain ⟨q1, q2, q3, q4⟩ := ih.Gs ok h1
          exact snd_gtup ok (by simpa using hot) q1 q2 q3 q4
      | Subscript o i p =>
        simp only [compG] at h
        split at h
        · cases h
        · split at h
          · rename_i h1 h2
            cases h
            exact snd_gsub ok.un (ih.E X W C o _ ok h1) (ih.E X W C _ _ ok h2) (asub_of h2)
          · cases h
      | _ => simp only [compG] at h; cases h
    case I =>
      intro X W C tg e it ok h
      have val : ∀ {e : Expr} {it : II}, (compE n C e).map .val = some it → PI X tg e (sI fs X.K W it) ∧ ∀ v, foldedSetIterable e X.env v = pure v := fun {e it} q => by
        obtain ⟨x, h1, rfl⟩ := some_map q
        exact ⟨snd_ival (ih.E X W C e x ok h1), fold_of h1 X.env⟩
      simp only [compI] at h
      split at h
      · split at h
        · rename_i hr
          obtain ⟨rfl, hk, hb⟩ := hr
          refine ⟨?_, fun _ => rfl⟩
          split at h
          · obtain ⟨x, h1, rfl⟩ := some_map h
            exact snd_irng1 ok hk hb (ih.E X W C _ x ok h1) (star_of h1 [] X.env)
          · split at h
            · rename_i h1 h2
              cases h
              exact snd_irng2 ok hk hb (ih.E X W C _ _ ok h1) (ih.E X W C _ _ ok h2) (by rw [star_of h1, star_of h2]; rfl) (star_of h2 [] X.env)
            · cases h
          · cases h
        · split at h
          · rename_i hr
            obtain ⟨rfl, hk, hb, ht⟩ := hr
            refine ⟨?_, fun _ => rfl⟩
            split at h
            · split at h
              · cases h
              obtain ⟨x, h1, rfl⟩ := some_map h
              cases tg with
              | Tuple es kk tp => exact snd_ienum ok hk hb (ih.E X W C _ x ok h1) (star_of h1 [] X.env)
              | _ => cases ht
            · cases h
          · split at h
            · rename_i hr
              obtain ⟨rfl, hk, hb, ht⟩ := hr
              refine ⟨?_, fun _ => rfl⟩
              split at h
              · split at h
                · rename_i h1 h2
                  cases h
                  cases tg with
                  | Tuple es kk tp => exact snd_izip ok hk hb (ih.E X W C _ _ ok h1) (ih.E X W C _ _ ok h2) (by rw [star_of h1, star_of h2]; rfl) (star_of h2 [] X.env)
                  | _ => cases ht
                · cases h
              · cases h
            · exact val h
      · split at h
        · rename_i hr
          obtain ⟨hot, rfl, hk, hb, ht, hs⟩ := hr
          refine ⟨?_, fun _ => rfl⟩
          obtain ⟨x, h1, rfl⟩ := some_map h
          unfold isStart1 at hs
          split at hs
          · cases tg with
            | Tuple es kk tp =>
              obtain rfl := eq_of_beq hs
              exact snd_ienum1 ok hk hb (ih.E X W C _ x ok h1) (star_of h1 [] X.env)
            | _ => cases ht
          · cases hs
        · cases h
      · exact val h
    case Ts =>
      intro X W C es t ok h
      simp only [compTs] at h
      split at h
      · cases h; exact snd_tsnil
      · obtain ⟨x, h1, rfl⟩ := some_map h
        exact snd_tsone (ih.T X W C _ x ok h1).1
      · cases h
    case L =>
      intro X W C elt g scope r ok h
      simp only [compLc] at h
      split at h
      · rename_i hc
        obtain ⟨hot, ha, hb⟩ := hc
        split at h
        · rename_i a b c d h1 h2 h3 h4
          split at h
          · rename_i hs
            cases h
            obtain ⟨tg, iter, ifs, asy⟩ := g
            simp only at ha h1 h2 h3
            subst ha
            have ok' := fun (s : Shared) (H : Hp) (A : Addr) (cl : List (Str × Addr)) (fp : List Addr) => blk_ok (s := s) (H := H) (scope := scope) (A := A) (cl := cl) (fp := fp) ok
            refine ⟨tg, iter, ifs, ownOf C.N scope.names, hot, rfl, rfl, hb, fun i hi => ?_, (ih.I X W C tg iter b ok h2).1, (ih.I X W C tg iter b ok h2).2, fun s H A cl fp => ih.G _ _ _ tg a (ok' s H A cl fp) h1, fun s H A cl fp => ih.Ts _ _ _ ifs c (ok' s H A cl fp) h3, fun s H A cl fp => ih.E _ _ _ elt d (ok' s H A cl fp) h4⟩
            have q := List.all_eq_true.mp hs i hi
            simpa using q
          · cases h
        · cases h
      · cases h
    case D =>
      intro X W C kx vx g scope r ok h
      simp only [compDc] at h
      split at h
      · rename_i hc
        obtain ⟨hot, ha, hb⟩ := hc
        split at h
        · rename_i a b c d e h1 h2 h3 h4 h5
          split at h
          · rename_i hs
            cases h
            obtain ⟨tg, iter, ifs, asy⟩ := g
            simp only at ha h1 h2 h3
            subst ha
            have ok' := fun (s : Shared) (H : Hp) (A : Addr) (cl : List (Str × Addr)) (fp : List Addr) => blk_ok (s := s) (H := H) (scope := scope) (A := A) (cl := cl) (fp := fp) ok
            refine ⟨tg, iter, ifs, ownOf C.N scope.names, hot, rfl, rfl, hb, fun i hi => ?_, (ih.I X W C tg iter b ok h2).1, (ih.I X W C tg iter b ok h2).2, fun s H A cl fp => ih.G _ _ _ tg a (ok' s H A cl fp) h1, fun s H A cl fp => ih.Ts _ _ _ ifs c (ok' s H A cl fp) h3, fun s H A cl fp => ih.E _ _ _ kx d (ok' s H A cl fp) h4, fun s H A cl fp => ih.E _ _ _ vx e (ok' s H A cl fp) h5⟩
            have q := List.all_eq_true.mp hs i hi
            simpa using q
          · cases h
        · cases h
      · cases h
    case Cn =>
      intro X C elt gr c vs ok h
      simp only [compC] at h
      split at h
      · obtain ⟨e, h1, h2⟩ := some_map h
        cases h2
        exact ⟨.nil, ih.E X noW C elt e ok h1, fun _ _ => trivial⟩
      · rename_i g r
        split at h
        · rename_i a b t d vs' h1 h2 h3 h4
          split at h
          · rename_i ha
            cases h
            obtain ⟨q1, q2, q3⟩ := ih.Cn X C elt r d vs' ok h4
            have gi := ih.I X noW C _ _ b ok h2
            exact ⟨.cons ⟨⟨ha, ih.G X noW C _ a ok h1, ih.Ts X noW C _ t ok h3⟩, gi.1, gi.2⟩ q1, q2, fun ws hw => ⟨hw, fun i hi => List.mem_append_left _ hi, q3 _ fun i hi => List.mem_append_right _ hi⟩⟩
          · cases h
        · cases h
    case Ln =>
      intro X W C elt g gr scope own' a b t c ok h
      simp only [compLn] at h
      split at h
      · rename_i hc
        obtain ⟨hot, ha, hb⟩ := hc
        split at h
        · rename_i a' b' c' d vs h1 h2 h3 h4
          split at h
          · rename_i hs
            cases h
            have ok' := fun (s : Shared) (H : Hp) (A : Addr) (cl : List (Str × Addr)) (fp : List Addr) => blk_ok (s := s) (H := H) (scope := scope) (A := A) (cl := cl) (fp := fp) ok
            have hm : ∀ i, i ∈ gSlots a ++ vs → i ∈ (ownOf C.N scope.names).map (·.2) := fun i hi => by
              have q := List.all_eq_true.mp hs i hi
              simpa using q
            have gi := ih.I X W C _ _ b ok h2
            exact ⟨ownOf C.N scope.names, hot, rfl, hb, fun i hi => hm i (List.mem_append_left _ hi), (ih.Cn _ _ elt gr c vs (ok' ({} : Shared) (fun _ => none) 0 [] []) h4).2.2 _ fun i hi => hm i (List.mem_append_right _ hi), gi.1, gi.2,
              fun s H A cl fp => ⟨ha, ih.G _ _ _ _ a (ok' s H A cl fp) h1, ih.Ts _ _ _ _ t (ok' s H A cl fp) h3⟩, fun s H A cl fp => (ih.Cn _ _ elt gr c vs (ok' s H A cl fp) h4).1, fun s H A cl fp => (ih.Cn _ _ elt gr c vs (ok' s H A cl fp) h4).2.1⟩
          · cases h
        · cases h
      · cases h
end
end DW

set_option Elab.async false
set_option linter.all false
set_option maxRecDepth 100000
set_option maxHeartbeats 4000000
namespace DW
open PySem PySem.Spec PyProof.Rows L2
variable [Tb : Tbl]

theorem swapped_par {n m : Str} {pn pm pt pt2 : Pos} {k1 k2 : Nat} {a b : Expr} {env : Env} (hk : env.scope.kind = .function) (hne : n ≠ m) (hn : env.scope.names.lookup n = some .local) (hm : env.scope.names.lookup m = some .local) (hl : (pm.line == pn.line) = true)
    (h1 : [a, b].all (foldedForSure 8) = false) (h2 : [a, b].all (constantsAlone 8) = false) (hs : ∀ env, starEach [a, b] env = [(false, eval a env), (false, eval b env)]) :
    swappedStores [.Tuple [.Name n pn, .Name m pm] k1 pt] (.Tuple [a, b] k2 pt2) env = pure (some [n, m]) := by
  have hb : env.blockKind = .function := by unfold Env.blockKind; rw [hk]; rfl
  have ka : env.kindOf n = some .local := hn
  have kb : env.kindOf m = some .local := hm
  have hnm : (m == n) = false := by simpa using Ne.symm hne
  have hnm2 : (n == m) = false := by simpa using hne
  have e : [n, m].eraseDups = [n, m] := by
    simp [List.eraseDups, List.eraseDupsBy, List.eraseDupsBy.loop, hnm, hnm2]
  unfold swappedStores
  simp only [List.length_cons, List.length_nil, hb, List.filterMap_cons, List.filterMap_nil, ka, kb, List.head?_cons, Option.map_some, Option.getD_some, Expr.pos, hl, beq_self_eq_true, Bool.and_self, if_true, h1, h2, e]
  refine (if_neg ?_).trans ?_
  · simp
  refine (if_neg ?_).trans ?_
  · intro hc
    rw [List.any_cons, List.any_cons, List.any_nil, Bool.or_false, Bool.or_eq_true] at hc
    have q := hs env
    rcases hc with hc | hc
    · cases a <;> first | (exact absurd (show false = true from hc) Bool.false_ne_true) | (simp [starEach] at q)
    · cases b <;> first | (exact absurd (show false = true from hc) Bool.false_ne_true) | (cases a <;> simp [starEach] at q)
  simp
theorem swap_folded {tt vs : List Expr} {kt kv : Nat} {pt pv : Pos} {env : Env} (h : vs.all (foldedForSure 8) = true) : swappedStores [.Tuple tt kt pt] (.Tuple vs kv pv) env = pure none := by
  unfold swappedStores
  simp only
  split
  · rfl
  · split
    · rfl
    · split
      · rfl
      · first | rfl | (rw [if_pos h]; rfl)
theorem filterMap_lt {α β : Type} {f : α → Option β} : ∀ {l : List α}, (∃ e ∈ l, f e = none) → (l.filterMap f).length < l.length
  | [], ⟨e, h, _⟩ => by cases h
  | x :: r, ⟨e, h, q⟩ => by
    rw [List.filterMap_cons]
    rcases List.mem_cons.mp h with z | z
    · subst z
      rw [q]
      exact Nat.lt_succ_of_le (List.length_filterMap_le f r)
    · have := filterMap_lt ⟨e, z, q⟩
      split
      · exact Nat.lt_succ_of_lt this
      · exact Nat.succ_lt_succ this
theorem swap_cell {tt vs : List Expr} {kt kv : Nat} {pt pv : Pos} {env : Env} (h : ∃ x p, Expr.Name x p ∈ tt ∧ env.kindOf x = some .cell) : swappedStores [.Tuple tt kt pt] (.Tuple vs kv pv) env = pure none := by
  obtain ⟨x, p, hm, hk⟩ := h
  unfold swappedStores
  simp only
  split
  · rfl
  · split
    · rfl
    · split
      · rfl
      · rename_i hne
        exfalso
        apply hne
        rw [Bool.or_eq_true]
        left
        rw [bne_iff_ne]
        refine Nat.ne_of_lt (filterMap_lt ⟨_, hm, ?_⟩)
        simp [hk]
theorem swap_or {X : Cx} {W : WX} {C : Ctx} {fs : FEnv} (ok : CxOk fs X W C) {tt vs : List Expr} {kt kv : Nat} {pt pv : Pos} (h : (vs.all (foldedForSure 8) || cellT C tt) = true) : swappedStores [.Tuple tt kt pt] (.Tuple vs kv pv) X.env = pure none := by
  rcases Bool.or_eq_true_iff.mp h with h | h
  · exact swap_folded h
  · obtain ⟨e, he, q⟩ := List.any_eq_true.mp h
    cases e <;> first | (cases q; done) | skip
    case Name x p => exact swap_cell ⟨x, p, he, by
      show X.env.scope.names.lookup x = _
      rw [ok.sc]
      exact eq_of_beq q⟩
theorem sw_trueD {kx vx : Expr} {gs : List Comprehension} {scope : Scope} {pos py : Pos} {y : Str} {l : Nat} {env : Env} (hk : env.scope.kind = .function) (hy : env.scope.names.lookup y = some .local) (hl : (py.line == pos.line) = true)
    (ha : (scope.names.any fun (n, k) => n == y && (k == .local || k == .cell)) = false) : swapsWith (.DictComp kx vx gs scope pos) (some (.Name y py)) l env = pure true := by
  have kindy : env.kindOf y = some .local := hy
  have blk : env.blockKind = .function := by unfold Env.blockKind; rw [hk]; rfl
  unfold swapsWith
  simp only [blk, kindy, ha, Expr.pos, hl]
  rfl
/-- a comprehension into a cell is stored as any value is -/
theorem swaps_cell {v : Expr} {y : Str} {py : Pos} {l : Nat} {env : Env} (hy : env.scope.names.lookup y = some .cell) : swapsWith v (some (.Name y py)) l env = pure false := by
  have kindy : env.kindOf y = some .cell := hy
  unfold swapsWith
  cases v <;> first
    | rfl
    | (simp only [kindy, show (some NameKind.cell == some NameKind.local) = false from rfl, Bool.and_false, Bool.false_and]
       done)
    | (simp only [kindy, show (some NameKind.cell == some NameKind.local) = false from rfl, Bool.and_false, Bool.false_and]
       rfl)
section
variable {fs : FEnv} {X : Cx} {W : WX} {C : Ctx} {p : Pos}
/-! ### try and except -/
/-- the context of a try's body -/
theorem tr_ok (ok : CxOk fs X W C) (hb : C.blk = none) (hot : C.hot = false) {W' : WX} {pn : List (Addr × Obj)} {xe : Value → Shared → Prop} (tk : Takes (X.tr pn xe) W') (own : PassesOwn (model X.prog X.w) X.A X.env xe) : CxOk fs (X.tr pn xe) W' C where
  hN := ok.hN
  nd := ok.nd
  sc := ok.sc
  calm := ok.calm
  fnc := ok.fnc
  un := ok.un
  con := ok.con
  fns := fun h n hn => by
    obtain ⟨sp, h1, h2⟩ := ok.fns h n hn
    exact ⟨sp, h1, ⟨h2.ex⟩⟩
  bns := ok.bns
  tk := tk
  own := own
  dcn := ok.dcn
  srt := fun h1 h2 h3 X' l e => ok.srt h1 h2 h3 X' ((Like.mk rfl rfl rfl rfl rfl rfl rfl rfl rfl : Like X (X.tr pn xe)).trans l) e
  lam := fun h X' l => ok.lam h X' ((Like.mk rfl rfl rfl rfl rfl rfl rfl rfl rfl : Like X (X.tr pn xe)).trans l)
  exs := fun h1 h2 c a h => by
    obtain ⟨Ca, E⟩ := ok.exs h1 h2 c a h
    exact ⟨Ca, ⟨E.cl, E.mg, E.exm, E.mk0, E.mk1⟩⟩
  fr := ok.fr
  thk := fun h1 h2 x h => ok.thk h1 h2 x h
/-- the context of an except clause's suite -/
theorem suite_ok (ok : CxOk fs X W C) {a : Addr} {pn : List (Addr × Obj)} : CxOk fs (X.suite a pn) noW { C with hot := true } where
  hN := ok.hN
  nd := ok.nd
  sc := ok.sc
  calm := fun h => by cases h
  fnc := ok.fnc
  un := ok.un
  con := ok.con
  fns := fun h => by cases h
  bns := ok.bns
  tk := LamX.takes0
  own := PassesOwn.never
  dcn := ok.dcn
  srt := fun _ _ h => by cases h
  lam := fun h => by cases h
  exs := fun _ h => by cases h
  fr := fun _ h => by cases h
  thk := fun _ h => by cases h
/-- what the clauses do with an error of the body -/
def HRead (fs : FEnv) (X : Cx) (W : WX) (q : IHs) (l : List GX.Clause) : Prop := ∀ (c : Str) (d : D) (ρ : En) (S : Sto) (φ : List Addr) (σ : L2.St) (H : Hp) (cls : Value) (dx : Option Addr) (Dn : Ends) (E : DEnds),
  EnvRel X.K φ H ρ σ → SRel X.K φ S H → ExcR X.K φ H c d cls dx → wH fs q c d E ρ S → PostS X.K W φ H Dn E → GX.wAll X.K W Dn l cls dx σ H
theorem read_nil : HRead fs X W .nil [] := fun c d ρ S φ σ H cls dx Dn E he hs hx hw hp => hp.xx _ _ _ _ _ _ _ _ _ (Le.refl φ) (TupLe.refl H) he hs hx hw
theorem names_of {n : Str} {at' : Option Str} {Ca : Addr} (ok : CxOk fs X W C) (hk : C.kind n = some .globalImplicit) (hn : okName n = true) (hx : ErrC X n at' Ca) : Names X n (.ref Ca) := ⟨gl_of ok hk, (ok_name hn).2, .inl hx.mg⟩
/-- a clause looks at an error's class -/
theorem read_step {n : Str} {at' : Option Str} {Ca : Addr} {c : Str} {d : D} {φ : List Addr} {H : Hp} {cls : Value} {dx : Option Addr} {σ : L2.St} {Dn : Ends} {l : List GX.Clause} {i : Option Nat} {ts : Addr → Value → Option Addr → TS} (hx : ErrC X n at' Ca) (he : ExcR X.K φ H c d cls dx)
    (yes : c = n → ∀ a, H a = none → GX.suiteW Dn i (ts a cls dx) a σ H) (no : c ≠ n → GX.wAll X.K W Dn l cls dx σ H) : GX.wAll X.K W Dn ((.ref Ca, i, ts) :: l) cls dx σ H := by
  obtain ⟨C', a', h1, rfl, h3⟩ := he
  exact ⟨_, hx.exm c C' a' h1, fun e => yes (of_decide_eq_true e), fun e => no (of_decide_eq_false e)⟩
theorem read_suite {n : Str} {at' : Option Str} {Ca : Addr} {b : IB} {q : IHs} {l : List GX.Clause} (hx : ErrC X n at' Ca) (r : HRead fs X W q l) : HRead fs X W (.suite n b q) ((.ref Ca, none, fun _ _ _ => sB fs X.K noW b) :: l) := by
  intro c d ρ S φ σ H cls dx Dn E he hs ex hw hp
  simp only [wH] at hw
  refine read_step hx ex (fun e a ha => ?_) fun e => ?_
  · rw [if_pos e] at hw
    exact ⟨ρ, S, φ, _, he, hs, hw, ⟨hp.nx, hp.rt, hp.bk, hp.ct, fun _ _ _ _ _ _ _ _ _ _ _ _ _ _ z => z.elim⟩⟩
  · rw [if_neg e] at hw
    exact r c d ρ S φ σ H cls dx Dn E he hs ex hw hp
/-- the error's own field, as it is read in a clause -/
theorem field_at {n f : Str} {Ca : Addr} {c : Str} {d : D} {φ : List Addr} {H : Hp} {cls : Value} {dx : Option Addr} (hx : ErrC X n (some f) Ca) (he : ExcR X.K φ H c d cls dx) (e : c = n) : cls = .ref Ca ∧ ∃ dd v, dx = some dd ∧ H dd = some (.xd [(f, v)]) ∧ Rep X.K φ H v d := by
  obtain ⟨C', a', h1, rfl, h3⟩ := he
  subst e
  rw [hx.cl] at h1
  cases h1
  exact ⟨rfl, h3⟩
def tsField (C : Addr) (f : Str) (i : Nat) (a : Addr) (cls : Value) (d : Option Addr) : TE := tXf a cls d C f (tVar i)
theorem field_run {f : Str} {Ca : Addr} {cls : Value} {dx : Option Addr} {i : Nat} {a dd : Addr} {v : V} {σ : L2.St} {H : Hp} {Q : VK} (e1 : cls = .ref Ca) (e2 : dx = some dd) (e3 : H dd = some (.xd [(f, v)])) (hi : i < σ.length) (q : Q v H) : tsField Ca f i a cls dx (σ.set i (some (.ref a))) H Q :=
  ⟨.ref a, List.getElem?_set_self hi, rfl, e1, dd, [(f, v)], v, e2, e3, by simp [List.lookup], q⟩
theorem read_asgA {n f : Str} {Ca : Addr} {i j : Nat} {q : IHs} {l : List GX.Clause} (hx : ErrC X n (some f) Ca) (r : HRead fs X W q l) : HRead fs X W (.asgA n i j q) ((.ref Ca, some i, fun a cls d => tSeq (tAsg (tsField Ca f i a cls d) (gName j)) tNext) :: l) := by
  intro c d ρ S φ σ H cls dx Dn E he hs ex hw hp
  simp only [wH] at hw
  refine read_step hx ex (fun e a ha => ?_) fun e => ?_
  · rw [if_pos e] at hw
    obtain ⟨⟨hij, hi⟩, hw⟩ := hw
    obtain ⟨e1, dd, v, e2, e3, rv⟩ := field_at hx ex e
    have hi' : i < σ.length := by rw [← he.len]; exact hi
    refine field_run e1 e2 e3 hi' ?_
    show Dn.nx _ H
    have z : (((σ.set i (some (.ref a))).set j (some v)).set i none) = (σ.set j (some v)).set i none := by
      rw [List.set_comm _ _ (Ne.symm hij), List.set_set, List.set_comm _ _ hij]
    rw [z]
    exact hp.nx _ _ _ _ φ (Le.refl φ) (TupLe.refl H) ((he.set j rv).unset i) hs hw
  · rw [if_neg e] at hw
    exact r c d ρ S φ σ H cls dx Dn E he hs ex hw hp
theorem read_retA {n f : Str} {Ca : Addr} {i : Nat} {q : IHs} {l : List GX.Clause} (hx : ErrC X n (some f) Ca) (r : HRead fs X W q l) : HRead fs X W (.retA n i q) ((.ref Ca, some i, fun a cls d => tSeq (tRet (tsField Ca f i a cls d)) tNext) :: l) := by
  intro c d ρ S φ σ H cls dx Dn E he hs ex hw hp
  simp only [wH] at hw
  refine read_step hx ex (fun e a ha => ?_) fun e => ?_
  · rw [if_pos e] at hw
    obtain ⟨hi, hw⟩ := hw
    obtain ⟨e1, dd, v, e2, e3, rv⟩ := field_at hx ex e
    have hi' : i < σ.length := by rw [← he.len]; exact hi
    exact field_run e1 e2 e3 hi' (hp.rt.here hs rv hw)
  · rw [if_neg e] at hw
    exact r c d ρ S φ σ H cls dx Dn E he hs ex hw hp
/-- e.f == k -/
def tsEq (K : PySem.W.Frag) (C : Addr) (f : Str) (i : Nat) (k : Int) (a : Addr) (cls : Value) (d : Option Addr) : TE := tOp (rCp K .Eq) (tsField C f i a cls d) (tC (.int k))
theorem read_retEq {n f : Str} {Ca : Addr} {i : Nat} {k : Int} {q : IHs} {l : List GX.Clause} (hx : ErrC X n (some f) Ca) (r : HRead fs X W q l) : HRead fs X W (.retEq n i k q) ((.ref Ca, some i, fun a cls d => tSeq (tRet (tsEq X.K Ca f i k a cls d)) tNext) :: l) := by
  intro c d ρ S φ σ H cls dx Dn E he hs ex hw hp
  simp only [wH] at hw
  refine read_step hx ex (fun e a ha => ?_) fun e => ?_
  · rw [if_pos e] at hw
    obtain ⟨hi, z, rfl, hw⟩ := hw
    obtain ⟨e1, dd, v, e2, e3, rv⟩ := field_at hx ex e
    have hi' : i < σ.length := by rw [← he.len]; exact hi
    show tOp (rCp X.K .Eq) (tsField Ca f i a cls dx) (tC (.int k)) (σ.set i (some (.ref a))) H Dn.rt
    refine field_run (Q := fun v H1 => tC (.int k) (σ.set i (some (.ref a))) H1 fun w H2 => rCp X.K .Eq v w H2 Dn.rt) e1 e2 e3 hi' ?_
    exact ⟨.int z, .int k, S, φ, fun b _ => E.rt (.bl b) S, rv, .int k, hs, ⟨.int z, .int k, rfl, rfl, rfl, rfl, hw⟩, fun b qb => hp.rt.here hs (.bl b) qb⟩
  · rw [if_neg e] at hw
    exact r c d ρ S φ σ H cls dx Dn E he hs ex hw hp
theorem snd_try {body : List Stmt} {h0 : ExceptHandler} {hs : List ExceptHandler} {b : IB} {q : IHs} {l : List GX.Clause} (ok : CxOk fs X W C) (hbk : C.blk = none) (hot : C.hot = false) (hb : ∀ (W' : WX) (pn : List (Addr × Obj)) (xe : Value → Shared → Prop), CxOk fs (X.tr pn xe) W' C → PSs (X.tr pn xe) body (sB fs X.K W' b)) (hk : GX.Cls X (h0 :: hs) l) (hr : HRead fs X W q l) :
    PS X (.Try body (h0 :: hs) [] [] p) (sS fs X.K W (.tryx b q)) := by
  obtain ⟨f1, f2⟩ := ok.fr hbk hot
  refine (GX.ps_tryAll (tb := fun W' => sB fs X.K W' b) f1 f2 ok.tk (fun W' pn xe tk own => hb W' pn xe (tr_ok ok hbk hot tk own)) hk).sub fun Dn σ H ⟨ρ, S, φ, E, he, hss, hw, hp⟩ => ?_
  exact ⟨ρ, S, φ, _, he, hss, hw, ⟨hp.nx, hp.rt, hp.bk, hp.ct, fun c d ρ' S' σ' cls dx H' φ' l t e s x z => hr c d ρ' S' φ' σ' H' cls dx Dn E e s x z (hp.mono l t)⟩⟩
end

theorem snd_sb (fs : FEnv) : ∀ (n : Nat), (∀ (X : Cx) (W : WX) (C : Ctx) (s : Stmt) (u : IS), CxOk fs X W C → compS n C s = some u → PS X s (sS fs X.K W u)) ∧ (∀ (X : Cx) (W : WX) (C : Ctx) (ss : List Stmt) (u : IB), CxOk fs X W C → compB n C ss = some u → PSs X ss (sB fs X.K W u)) ∧
    (∀ (X : Cx) (W : WX) (C : Ctx) (hs : List ExceptHandler) (q : IHs), CxOk fs X W C → C.blk = none → C.hot = false → compH n C hs = some q → ∃ l, GX.Cls X hs l ∧ HRead fs X W q l)
  | 0 => ⟨fun _ _ _ _ _ _ h => (by cases h), fun _ _ _ _ _ _ h => (by cases h), fun _ _ _ _ _ _ _ _ h => (by cases h)⟩
  | n + 1 => by
    obtain ⟨ihS, ihB, ihH⟩ := snd_sb fs n
    have ih := snd_all fs n
    refine ⟨fun X W C s u ok h => ?_, fun X W C ss u ok h => ?_, fun X W C hs q ok hbk hot h => ?_⟩
    · cases s with
      | Return v p =>
        simp only [compS] at h
        split at h
        · obtain ⟨x, h1, rfl⟩ := some_map h
          exact snd_ret (ih.E X W C _ x ok h1)
        · cases h; exact snd_retN
      | Expr e p =>
        simp only [compS] at h
        split at h
        · cases h; exact snd_doc
        · split at h
          · cases h
          · rename_i hc
            obtain ⟨x, h1, rfl⟩ := some_map h
            exact snd_expr (ih.E X W C _ x ok h1) (swaps_of (by simpa using hc) _ _ _)
      | Assign ts v p =>
        simp only [compS] at h
        split at h
        · -- a name
          rename_i x px
          split at h
          · rename_i e i h1 h2
            by_cases hc : isComp v = true
            · rw [if_pos hc] at h
              by_cases hk : C.hot = false ∧ okLc C x px v = true
              · rw [if_pos hk] at h
                obtain ⟨hot, hk⟩ := hk
                cases h
                cases v with
                | ListComp elt gs scope p2 =>
                  simp only [okLc, Bool.and_eq_true, decide_eq_true_eq, Bool.not_eq_true'] at hk
                  obtain ⟨⟨⟨k1, k2⟩, k3⟩, k4⟩ := hk
                  have hsw : swapsWith (.ListComp elt gs scope p2) (some (.Name x px)) p.line X.env = pure true :=
                    sw_true (by rw [ok.sc]; exact k2) (by rw [ok.sc]; exact k1) k3 k4
                  cases n with
                  | zero => cases h1
                  | succ n =>
                    have ih2 := snd_all fs n
                    simp only [compE] at h1
                    split at h1
                    · split at h1
                      · rename_i g g2 gr own' a b t c h3
                        cases h1
                        obtain ⟨own, _, rfl, hb, hsl, hn, hi, hf, h0, hN, he⟩ := ih2.Ln X W C elt _ _ scope own' a b t c ok h3
                        have bo : BlkOk X.N X.env.scope scope own := by rw [ok.hN, ok.sc]; exact blkOk_by hb
                        refine (ps_setLcN (i := i) (ok.calm hot) ok.nd (by rw [ok.hN]; exact idxOf_get h2) (by rw [ok.sc]; exact k1) hsw hi bo rfl (nest_of c _ hn) h0 hN he hf).sub fun D σ H q => ?_
                        obtain ⟨ρ, S, φ, XD, QD, w1, w2, w3, w4, w5⟩ := asgN_read q
                        exact snd_lcn hsl hn ⟨ρ, S, φ, XD, QD, w1, w2, w3, w4, w5⟩
                      · cases h1
                    · split at h1
                      · rename_i g' it' t' e' h3
                        cases h1
                        obtain ⟨tg, iter, ifs, own, _, rfl, e1, hb, hsl, hi, hf, hg, ht, he⟩ := ih2.L X W C elt _ scope _ ok h3
                        simp only at e1 hsl hi hg ht he
                        subst e1
                        obtain ⟨bo, hr⟩ := snd_lcp ok hb hsl hi hg ht he hf
                        refine (ps_setLc (i := i) (ok.calm hot) ok.nd (by rw [ok.hN]; exact idxOf_get h2) (by rw [ok.sc]; exact k1) hsw hi bo hg ht he hf).sub fun D σ H q => ?_
                        have z := asgN_read q
                        obtain ⟨ρ, S, φ, XD, QD, w1, w2, w3, w4, w5⟩ := z
                        exact hr _ _ _ ⟨ρ, S, φ, XD, QD, w1, w2, w3, w4, w5⟩
                      · cases h1
                    · cases h1
                | DictComp kx vx gs scope p2 =>
                  simp only [okLc, Bool.and_eq_true, decide_eq_true_eq, Bool.not_eq_true'] at hk
                  obtain ⟨⟨⟨k1, k2⟩, k3⟩, k4⟩ := hk
                  have hsw : swapsWith (.DictComp kx vx gs scope p2) (some (.Name x px)) p.line X.env = pure true :=
                    sw_trueD (by rw [ok.sc]; exact k2) (by rw [ok.sc]; exact k1) k3 k4
                  cases n with
                  | zero => cases h1
                  | succ n =>
                    have ih2 := snd_all fs n
                    simp only [compE] at h1
                    split at h1
                    · split at h1
                      · rename_i own' g' it' t' k' v' h3
                        cases h1
                        obtain ⟨tg, iter, ifs, own, _, rfl, e1, hb, hsl, hi, hf, hg, ht, hk2, he⟩ := ih2.D X W C kx vx _ scope _ ok h3
                        simp only at e1 hsl hi hg ht hk2 he
                        subst e1
                        have bo : BlkOk X.N X.env.scope scope own := by rw [ok.hN, ok.sc]; exact blkOk_by hb
                        refine (ps_setDc (i := i) (ok.calm hot) ok.nd (by rw [ok.hN]; exact idxOf_get h2) (by rw [ok.sc]; exact k1) hsw hi bo hg ht hk2 he hf).sub fun D σ H q => ?_
                        obtain ⟨ρ, S, φ, XD, QD, w1, w2, w3, w4, w5⟩ := asgN_read q
                        exact snd_dcp ok hb hsl ⟨ρ, S, φ, XD, QD, w1, w2, w3, w4, w5⟩
                      · cases h1
                    · cases h1
                | _ => cases hk
              · rw [if_neg hk] at h
                split at h
                · rename_i hc2
                  cases h
                  exact snd_set ok h2 hc2.2 (ih.E X W C v e ok h1) (swaps_cell (by rw [ok.sc]; exact hc2.1))
                · cases h
            · rw [if_neg hc] at h
              split at h
              · rename_i ho
                cases h
                exact snd_set ok h2 ho (ih.E X W C v e ok h1) (swaps_of (by simpa using hc) _ _ _)
              · cases h
          · cases h
        · -- several targets
          split at h
          · rename_i vs kv pv
            split at h
            · rename_i hf
              split at h
              · rename_i e g h1 h2
                cases h
                exact snd_asg (ih.E X W C _ e ok h1) (ih.G X W C _ g ok h2) (by unfold swapsWithSole; exact swaps_of rfl _ _ _) (swap_or ok hf) (by rw [asg_star h2]; rfl)
              · cases h
            split at h
            · rename_i x px y py a b _
              split at h
              · rename_i i j ea eb h1 h2 h3 h4
                split at h
                · rename_i hk
                  obtain ⟨hot, k1, k2, k3, k4, k5, k6, k7, k8⟩ := hk
                  cases h
                  have st : ∀ env, starEach [a, b] env = [(false, eval a env), (false, eval b env)] := fun env => by rw [star_of h3, star_of h4]; rfl
                  exact snd_par ok hot h1 h2 k1 k3 k4 (ih.E X W C a ea ok h3) (ih.E X W C b eb ok h4) (st _) (star_of h4 [] X.env)
                    (swapped_par (by rw [ok.sc]; exact k5) k2 (by rw [ok.sc]; exact k3) (by rw [ok.sc]; exact k4) k6 k7 k8 st)
                · cases h
              · cases h
            · cases h
          · rename_i _ hv
            split at h
            · cases h
            · rename_i hc
              split at h
              · rename_i e g h1 h2
                cases h
                refine snd_asg (ih.E X W C _ e ok h1) (ih.G X W C _ g ok h2) (by unfold swapsWithSole; exact swaps_of (by simpa using hc) _ _ _) ?_ (by rw [asg_star h2]; rfl)
                cases v with
                | Tuple vs kv pv => exact (hv _ _ _ rfl).elim
                | _ => rfl
              · cases h
        · -- o[i]
          split at h
          · cases h
          · rename_i hc
            split at h
            · rename_i e g h1 h2
              cases h
              exact snd_asg (ih.E X W C v e ok h1) (ih.G X W C _ g ok h2) (by unfold swapsWithSole; exact swaps_of (by simpa using hc) _ _ _) (by unfold swappedStores; rfl) (by rw [asg_star h2]; rfl)
            · cases h
        · cases h
      | If c a b p =>
        simp only [compS] at h
        split at h
        · rename_i t x y h1 h2 h3
          cases h
          exact snd_if (ih.T X W C c t ok h1).1 (ihB X W C a x ok h2) (ihB X W C b y ok h3)
        · cases h
      | For tg it body els p =>
        simp only [compS] at h
        cases els with
        | cons _ _ => cases h
        | nil =>
          dsimp only at h
          by_cases hq : walkedN C it = true
          · rw [if_pos hq] at h
            cases it with
            | Name x px =>
              dsimp only at h
              split at h
              · rename_i hc
                obtain ⟨hot, hn, hk⟩ := hc
                split at h
                · rename_i g i b h1 h2 h3
                  cases h
                  exact snd_frk ok hot h2 hk hn (ih.G X W C tg g ok h1) (ihB X W C body b ok h3)
                · cases h
              · cases h
            | _ => cases hq
          · rw [if_neg hq] at h
            split at h
            · cases h
            · rename_i hot
              have hot : C.hot = false := by simpa using hot
              split at h
              · rename_i g i b h1 h2 h3
                cases h
                exact snd_for ok hot (ih.I X W C tg it i ok h2).1 (ih.G X W C tg g ok h1) (ihB X W C body b ok h3) (ih.I X W C tg it i ok h2).2
              · cases h
      | While c body els p =>
        simp only [compS] at h
        split at h
        · split at h
          · rename_i t b h1 h2
            cases h
            exact snd_wh ok (ih.T X W C c t ok h1).1 (ihB X W C body b ok h2)
          · cases h
        · cases h
      | Pass p => simp only [compS] at h; cases h; exact snd_pass
      | Break p => simp only [compS] at h; cases h; exact snd_brk
      | Continue p => simp only [compS] at h; cases h; exact snd_cont
      | Raise e c p =>
        cases c with
        | some c => simp only [compS] at h; cases h
        | none =>
          simp only [compS] at h
          split at h
          · cases h
          · rename_i hh
            have hot : C.hot = false := by
              cases q : C.hot with
              | false => rfl
              | true => exact absurd (.inl q) hh
            have hbk : C.blk = none := by
              cases q : C.blk with
              | none => rfl
              | some s => exact absurd (.inr (by rw [q]; rfl)) hh
            split at h
            · rename_i cn pn a pc
              split at h
              · rename_i hc
                obtain ⟨hk, hn⟩ := hc
                split at h
                · rename_i he
                  obtain ⟨Ca, E⟩ := ok.exs hbk hot _ _ he
                  split at h
                  · cases h
                    exact snd_rai ok hot hk hn E
                  · cases h
                · rename_i f he
                  obtain ⟨Ca, E⟩ := ok.exs hbk hot _ _ he
                  obtain ⟨x, h1, rfl⟩ := some_map h
                  exact snd_raiA ok hot hk hn E (ih.E X W C _ x ok h1) (star_of h1 [] X.env)
                · cases h
              · cases h
            · cases h
      | Try body hs els fin p =>
        cases els with
        | cons _ _ => simp only [compS] at h; cases h
        | nil =>
          cases fin with
          | cons _ _ => simp only [compS] at h; cases h
          | nil =>
            simp only [compS] at h
            split at h
            · cases h
            · rename_i hh
              have hot : C.hot = false := by
                cases q : C.hot with
                | false => rfl
                | true => exact absurd (.inl q) hh
              have hbk : C.blk = none := by
                cases q : C.blk with
                | none => rfl
                | some s => exact absurd (.inr (.inl (by rw [q]; rfl))) hh
              split at h
              · rename_i b q h1 h2
                cases h
                obtain ⟨l, hc, hr⟩ := ihH X W C hs q ok hbk hot h2
                cases hs with
                | nil => exact absurd (.inr (.inr rfl)) hh
                | cons h0 hs => exact snd_try ok hbk hot (fun W' pn xe ok' => ihB (X.tr pn xe) W' C body b ok' h1) hc hr
              · cases h
      | _ => simp only [compS] at h; cases h
    · simp only [compB] at h
      split at h
      · cases h; exact snd_bnil
      · split at h
        · rename_i a b h1 h2
          cases h
          exact snd_bcons (ihS X W C _ a ok h1) (ihB X W C _ b ok h2)
        · cases h
    · simp only [compH] at h
      split at h
      · cases h; exact ⟨[], .nil, read_nil⟩
      · rename_i c np nm suite q0 r
        split at h
        · rename_i hc
          obtain ⟨hk, hn⟩ := hc
          split at h
          · -- a clause without a name
            rename_i a' q' hx hr
            obtain ⟨Ca, E⟩ := ok.exs hbk hot _ _ hx
            obtain ⟨l, k1, k2⟩ := ihH X W C _ _ ok hbk hot hr
            split at h
            · rename_i b h1
              split at h
              · cases h
              · rename_i hne
                cases h
                cases suite with
                | nil => exact absurd rfl hne
                | cons s0 ss => exact ⟨_, .plain (names_of ok hk hn E) (fun a oe cls d pn _ _ => ihB _ noW _ _ b (suite_ok ok) h1) k1, read_suite E k2⟩
            · cases h
          · rename_i f e q' hx hr
            obtain ⟨Ca, E⟩ := ok.exs hbk hot _ _ hx
            obtain ⟨l, k1, k2⟩ := ihH X W C _ _ ok hbk hot hr
            obtain ⟨_, xf, xn⟩ := E.mk1 f rfl
            split at h
            · rename_i hkl
              obtain ⟨hkl, hne⟩ := hkl
              have hv : Vis X.env.scope e := by rw [ok.sc]; exact .inl hkl
              have hd1 : (e == ("__debug__" : Str)) = false := (ok_name hne).2
              have hd2 : (e == ("__classdict__" : Str)) = false := by
                unfold okName at hne
                simp only [Bool.and_eq_true, Bool.not_eq_true'] at hne
                exact hne.1.2
              have hle : X.env.kindOf e = some .local := by
                show X.env.scope.names.lookup e = _
                rw [ok.sc]; exact hkl
              split at h
              · rename_i i x px e2 pe2 f2 pf pa hi
                split at h
                · rename_i j hj
                  split at h
                  · rename_i hc
                    obtain ⟨rfl, rfl, hxl, hij⟩ := hc
                    cases h
                    have hN : X.N[i]? = some e2 := by rw [ok.hN]; exact idxOf_get hi
                    have hxl' : X.env.scope.names.lookup x = some .local := by rw [ok.sc]; exact hxl
                    exact ⟨_, .named (names_of ok hk hn E) ok.nd hN hle (fun a oe cls d pn hz hf => pss_cons (ps_set (X := X.suite a ((a, oe) :: pn)) ok.nd (by show X.N[j]? = _; rw [ok.hN]; exact idxOf_get hj) (.inl hxl') (pe_xf xf xn hz hf (pe_var hN hv hd1 hd2) rfl) rfl (.inr hxl')) pss_nil) k1, read_asgA E k2⟩
                  · cases h
                · cases h
              · rename_i i e2 pe2 f2 pf pa hi
                split at h
                · rename_i hc
                  obtain ⟨rfl, rfl⟩ := hc
                  cases h
                  have hN : X.N[i]? = some e2 := by rw [ok.hN]; exact idxOf_get hi
                  exact ⟨_, .named (names_of ok hk hn E) ok.nd hN hle (fun a oe cls d pn hz hf => pss_cons (ps_ret (pe_xf xf xn hz hf (pe_var hN hv hd1 hd2) rfl)) pss_nil) k1, read_retA E k2⟩
                · cases h
              · rename_i i e2 pe2 f2 pf k kk pk pcc pa hi
                split at h
                · rename_i hc
                  obtain ⟨rfl, rfl⟩ := hc
                  cases h
                  have hN : X.N[i]? = some e2 := by rw [ok.hN]; exact idxOf_get hi
                  exact ⟨_, .named (names_of ok hk hn E) ok.nd hN hle (fun a oe cls d pn hz hf => pss_cons (ps_ret (pe_cmpR (X := X.suite a ((a, oe) :: pn)) (cpD (X := X.suite a ((a, oe) :: pn)) .Eq ok.un) (pe_xf xf xn hz hf (pe_var hN hv hd1 hd2) rfl) pe_int rfl)) pss_nil) k1, read_retEq E k2⟩
                · cases h
              · cases h
            · cases h
          · cases h
        · cases h
      · cases h

end DW

set_option Elab.async false
set_option linter.all false
set_option maxRecDepth 100000
set_option maxHeartbeats 2000000
/-! raise C(e), where C's own __init__ says super().__init__(f"..") and self.f = x -/
namespace GX
open PySem PySem.Spec PyProof.Rows L2
open PySem.W (ksEnv ksFn ks_superIn)

/-- f"..{x}.." -/
def sayE (a : Str) (b : Option Str) (x : Str) (j1 j2 : Nat) (p1 p2 p3 p4 pos : Pos) : Expr := .JoinedStr (.Constant (.str a) j1 p1 :: .FormattedValue (.Name x p2) (-1) none p3 :: (match b with | none => [] | some y => [.Constant (.str y) j2 p4])) pos
/-- super().__init__(f"..{x}.."); self.f = x -/
def iniB (a : Str) (b : Option Str) (x f : Str) (j1 j2 : Nat) (p0 p1 p2 p3 p4 p5 p6 p7 p8 p9 pc pd pe pf : Pos) : List Stmt :=
  [.Expr (.Call (.Attribute (.Call (.Name "super" p0) [] [] p1) "__init__" p2) [sayE a b x j1 j2 pc pd pe p9 p3] [] p4) p5, .Assign [.Attribute (.Name "self" p6) f p7] (.Name x p8) pf]
def iniA (x : Str) (pa pb : Pos) : Arguments := ⟨[], [⟨"self", none, pa⟩, ⟨x, none, pb⟩], none, [], [], none, []⟩
def iniS (x : Str) (more : List (Str × Const)) : Scope := ⟨.function, [("self", .local), (x, .local), ("__class__", .free), ("super", .globalImplicit)], false, false, more⟩

section
variable {prog : Program} {w : World} {A : Around} {E : Value → Shared → Prop} {env : Env} {s : Shared}
/-- a text with an int in it, then perhaps a text -/
theorem say {x : Str} {m : Str → Option Value} {a : Str} {b : Option Str} {j1 j2 : Nat} {p1 p2 p3 p4 pos : Pos} {i : Int} {tk : Tok} {Q : Value → Shared → Prop} (hk : env.scope.kind = .function) (hl : env.kindOf x = some .local) (hd : (x == ("__debug__" : Str)) = false)
    (hn : s.heap.Ns env.locals m) (hv : m x = some (.int i tk)) (hi : i.natAbs < 10 ^ 40) (ha : a.length ≤ 1000) (hb : ∀ y, b = some y → y.length ≤ 1000) (h : ∀ out tk' t', out.length ≤ sizeLine → Q (.str out tk') { s with toks := t' }) :
    wpAny (model prog w) A (eval (sayE a b x j1 j2 p1 p2 p3 p4 pos) env) Q E s := by
  have hlog : i.natAbs.log2 < 1920 := by
    by_cases z : i.natAbs = 0
    · rw [z]; decide
    · exact (Nat.log2_lt z).mpr (Nat.lt_trans hi (by decide))
  have hlen : (PySem.Str.ofString (toString i)).length ≤ 41 := by
    rw [PySem.ofString_length]
    exact PySem.int_text_length_le10 (k := 40) (by decide) hi
  have sl := sizeLine_eq
  have l1 : (Str.empty ++ a : Str).length ≤ 1000 := by
    rw [PySem.Str.length_append]
    have : (Str.empty : Str).length = 0 := rfl
    omega
  refine wpAny_JoinedStr ?_
  refine PySem.wpAny_Constant_str ?_
  refine ⟨a, _, rfl, by omega, ?_⟩
  refine wpAny_FormattedValue_plain (wpAny_Name (wpAny_loadName_local hk hl hn hv ?_) hd)
  refine wpAny_formatField_int hlog ?_
  have l2 : (Str.empty ++ a ++ (PySem.Str.ofString (toString i)) : Str).length ≤ 1041 := by
    rw [PySem.Str.length_append]
    omega
  refine ⟨_, _, rfl, by omega, ?_⟩
  cases b with
  | none => exact ⟨by omega, h _ _ _ (by omega)⟩
  | some y =>
    refine PySem.wpAny_Constant_str ?_
    have l3 : (Str.empty ++ a ++ (PySem.Str.ofString (toString i)) ++ y : Str).length ≤ 2041 := by
      rw [PySem.Str.length_append]
      have := hb y rfl
      omega
    exact ⟨_, _, rfl, by omega, by omega, h _ _ _ (by omega)⟩
end

theorem spliced_nil {M : Model} {A : Around} {E : Value → Shared → Prop} {s : Shared} {Q : List Value → Shared → Prop} (h : Q [] s) : wpAny M A (spliced []) Q E s := by
  rw [spliced]
  exact wpAny_pure h
/-- what the written part shows of a class of errors whose __init__ is said so -/
structure Ini (prog : Program) (K : PySem.W.Frag) (mg : Str → Option Value) (C fI : Addr) (x f : Str) (a : Str) (b : Option Str) : Prop where
  oex : OexC K C
  iC : PySem.W.findIn K (.ref C) "__init__" = some (some (.ref fI))
  tI : PySem.W.typeIn K (.ref fI) = some (.type "function")
  fd : ∃ (oc ccl cl : Value) (od cdd cld : Option Addr) (osl ccs csl : Array (Option Value)) (cda cc : Addr) (vs : Array Value) (qual file : Str) (tf : Tok) (dV kV doc pm ct : Value) (an : Option Addr) (p0 p1 p2 p3 p4 p5 p6 p7 p8 p9 pa pb pc pd pe pf : Pos) (j1 j2 : Nat) (more : List (Str × Const)),
    K.lookup fI = some ⟨oc, od, .func (ksFn "__init__" qual (iniA x pa pb) (iniB a b x f j1 j2 p0 p1 p2 p3 p4 p5 p6 p7 p8 p9 pc pd pe pf) (iniS x more) dV kV doc pm an (.ref cda) ct cc), osl⟩ ∧
    (∀ e u : Value, bindArgs (ksFn "__init__" qual (iniA x pa pb) (iniB a b x f j1 j2 p0 p1 p2 p3 p4 p5 p6 p7 p8 p9 pc pd pe pf) (iniS x more) dV kV doc pm an (.ref cda) ct cc) ⟨[e, u], []⟩ = pure [((PySem.Str.ofString "self"), e), (x, u)]) ∧
    (∀ env : Env, ∃ pl : Sem Bool, eval (.Call (.Attribute (.Call (.Name "super" p0) [] [] p1) "__init__" p2) [sayE a b x j1 j2 pc pd pe p9 p3] [] p4) env = (do
      let ov ← attributeBase (.Call (.Name "super" p0) [] [] p1) "__init__" env (eval (.Call (.Name "super" p0) [] [] p1) env)
      standAt p2.atName
      let (g, first) ← holding [ov] (getMethod ov "__init__" pl)
      callWith p4 g first (backTo p4 (starEach [sayE a b x j1 j2 pc pd pe p9 p3] env)) [])) ∧
    PySem.W.codeIn K (.ref cda) qual = true ∧ K.lookup cda = some ⟨ccl, cdd, .fields vs, ccs⟩ ∧ vs[2]? = some (.str file tf) ∧ ((prog.main.file : Str) == file) = true ∧ K.lookup cc = some ⟨cl, cld, .cell (some (.ref C)), csl⟩
  xs : x ≠ "self" ∧ x ≠ "super" ∧ x ≠ "__class__" ∧ x ≠ "__debug__"
  la : a.length ≤ 1000
  lb : ∀ y, b = some y → y.length ≤ 1000
  sub : PySem.W.mroIn K C (.ref C) = some true
  sup : mg "super" = none
  opq : PySem.W.nsIn K cStatics "thirdparty.any" = some none
  nm : ks_superIn K C C "__init__" = some (some (.builtin "ValueError.__init__"))
  ve : PySem.W.subIn K (.ref C) (.type "ValueError") = some true
  nof : PySem.W.findIn K (.ref C) f = some none
  main : (prog.main.scope.names.lookup ("super" : Str)).isSome = false


section
variable {prog : Program} {w : World} {A : Around} {K : PySem.W.Frag} {mg : Str → Option Value} {base : Heap} {C fI : Addr} {x f : Str} {a : Str} {b : Option Str}
/-- the own __init__ runs -/
theorem init_run {R : Result → Shared → Prop} {s : Shared} {e t0 : Addr} {i : Int} {tk : Tok} (T : Ini prog K mg C fI x f a b) (M : Mod K mg base) (bk : ∀ c o, base.get? c = some o → s.heap.get? c = some o) (en : base.get? e = none) (he : s.heap.get? e = some (PySem.HandSPX.excO C t0)) (hi : i.natAbs < 10 ^ 40)
    (room : A.depth < recursionLimit)
    (hR : ∀ h' tk' t1 dx, (∀ c o, c ≠ e → s.heap.get? c = some o → h'.get? c = some o) → s.heap.objs.size ≤ dx → dx ≠ e → h'.get? e = some ({ cls := .ref C, dict := some dx, data := .fields #[.ref t1, .none, .none, .none, .bool false, .none] } : Obj) →
      h'.Ns1 dx (fun y => if y = f then some (.int i tk) else none) → R (.ok (.ret .none)) { s with heap := h', toks := tk' }) :
    codeAny (model prog w) A (.call (.ref fI) ⟨[.ref e, .int i tk], []⟩) R s := by
  obtain ⟨oc, ccl, cl, od, cdd, cld, osl, ccs, csl, cda, cc, vs, qual, file, tf, dV, kV, doc, pm, ct, an, p0, p1, p2, p3, p4, p5, p6, p7, p8, p9, pa, pb, pc, pd, pe, pf, j1, j2, more, lf, lbind, lev, lcode, lcda, hvs, hfile, lcell⟩ := T.fd
  obtain ⟨x1, x2, x3, x4⟩ := T.xs
  have X : K.In s.heap := M.kin.keeps bk
  have lim : s.heap.NoLimit := M.nolimit.keeps bk
  have xs : (x == ("self" : Str)) = false := by simpa using x1
  have kx : (iniS x more).names.lookup x = some .local := by
    show List.lookup x [((PySem.Str.ofString "self"), NameKind.local), (x, .local), ("__class__", .free), ("super", .globalImplicit)] = _
    rw [List.lookup_cons, xs]
    simp [List.lookup_cons]
  have knot : ∀ {y : Str} {k : NameKind}, (x == y) = false → List.lookup y [((PySem.Str.ofString "self"), NameKind.local), ("__class__", .free), ("super", .globalImplicit)] = some k → (iniS x more).names.lookup y = some k := fun {y k} h1 h2 => by
    have h1' : (y == x) = false := by
      rw [Bool.eq_false_iff] at h1 ⊢
      intro z
      exact h1 (by rw [eq_of_beq z]; simp)
    show List.lookup y [((PySem.Str.ofString "self"), NameKind.local), (x, .local), ("__class__", .free), ("super", .globalImplicit)] = _
    rw [List.lookup_cons] at h2 ⊢
    cases q : (y == (PySem.Str.ofString "self")) with
    | true => rw [q] at h2; exact h2
    | false =>
      rw [q] at h2
      simp only at h2 ⊢
      rw [List.lookup_cons, h1']
      exact h2
  have kself : (iniS x more).names.lookup ("self" : Str) = some .local := knot xs (by decide +kernel)
  have ksup : (iniS x more).names.lookup ("super" : Str) = some .globalImplicit := knot (by simpa using x2) (by decide +kernel)
  have kcls : (iniS x more).names.lookup ("__class__" : Str) = some .free := knot (by simpa using x3) (by decide +kernel)
  have xd : (x == ("__debug__" : Str)) = false := by simpa using x4
  refine ks_codeAny_call_defAt room (X _ _ lf) rfl lim (PySem.W.codeRec_of X lcode) rfl (.of_eq (lbind _ _)) ?_ ?_ (fun h₀ hns k0 => ?_)
  · intro y hy
    have hy : y ∈ [((PySem.Str.ofString "self"), NameKind.local), (x, .local), ("__class__", .free), ("super", .globalImplicit)] := hy
    simp only [List.mem_cons, List.not_mem_nil, or_false] at hy
    rcases hy with rfl | rfl | rfl | rfl <;> (intro z; cases z)
  · intro y hy
    simp only [List.mem_cons, List.not_mem_nil, or_false] at hy
    rcases hy with rfl | rfl
    · exact kself
    · exact kx
  obtain ⟨hp, gs, dr, tk0, os⟩ := s
  have X0 : K.In h₀ := X.keeps k0
  have he0 := k0 _ _ he
  obtain ⟨nm, q, N, bs, bm, sn, sub, ab, col, dd, c0, c1, c2, c3, c5, lC, hbm⟩ := T.oex.cls
  have hcl : PySem.W.clsIn K C = some { name := nm, bases := bs, mro := .ref C :: bm, ns := N, qualname := q, hasDict := true, slotNames := sn, subclasses := sub, abstract := ab, collection := col, hasDel := false } := by unfold PySem.W.clsIn; rw [lC] <;> rfl
  have gC := X0 _ _ lC
  have eL : e ≠ hp.objs.size := Nat.ne_of_lt (Heap.lt_size he)
  show PySem.wpAt (model prog w) _ (.func _ (ksEnv qual (iniS x more) hp.objs.size fI (.ref cda) cc)) (execs (iniB a b x f j1 j2 p0 p1 p2 p3 p4 p5 p6 p7 p8 p9 pc pd pe pf) (ksEnv qual (iniS x more) hp.objs.size fI (.ref cda) cc)) _ _ _
  obtain ⟨mb, hb1, hb2⟩ := M.blt
  have hboot : bootBuiltins ("super" : Str) = some (.type "super") := by decide +kernel
  have mself : List.lookup ("self" : Str) [((PySem.Str.ofString "self"), Value.ref e), (x, Value.int i tk)].reverse = some (.ref e) := by
    have xs' : ((PySem.Str.ofString "self") == x) = false := by simpa using Ne.symm x1
    simp [List.lookup_cons, xs']
  have mx : List.lookup x [((PySem.Str.ofString "self"), Value.ref e), (x, Value.int i tk)].reverse = some (.int i tk) := by
    simp [List.lookup_cons]
  have keep0 : ∀ c o, base.get? c = some o → h₀.get? c = some o := fun c o z => k0 c o (bk c o z)
  obtain ⟨pl, lev⟩ := lev (ksEnv qual (iniS x more) hp.objs.size fI (.ref cda) cc)
  refine ks_wpAt_execs_cons (ks_wpAt_Expr_any (ks_wpAt_MethodCall (he := lev) (ks_wpAt_super_base (env := ksEnv qual (iniS x more) hp.objs.size fI (.ref cda) cc) ksup kcls (by decide) rfl (X0 _ _ lf) rfl rfl rfl (X0 _ _ lcda) rfl hvs hfile T.main ?_)))
  refine PySem.W.ks_loadName_global rfl ksup (Calls.loadGlobal_builtin (M.glob.keeps keep0) T.sup (hb1.keeps keep0) ((hb2 ("super" : Str) (by decide)).trans hboot) ⟨rfl, ?_⟩)
  refine wpAny_loadName_free rfl kcls rfl ⟨_, X0 _ _ lcell, rfl⟩ ?_
  refine wpAny_loadName_local rfl kself hns mself ?_
  refine ks_wpAny_isType_cls gC rfl ⟨rfl, ?_⟩
  refine ks_wpAny_call_super gC rfl he0 rfl (fun c z => by cases z) (PySem.W.looks_mroIn X0 T.sub) (fun h1 e1 k1 => ?_)
  -- super().__init__
  have X1 : K.In h1 := X0.keeps k1
  have he1 := k1 _ _ he0
  have I1 : PySem.W.InstAt h1 e (PySem.HandSPX.excO C t0) C none := ⟨he1, rfl, rfl, trivial⟩
  have ne : e ≠ C := PySem.W.ks_ne X1 I1 hcl
  have hsup := T.nm
  unfold ks_superIn at hsup
  rw [hcl] at hsup
  refine PySem.W.kxs_getMethod PySem.W.kxs_ValueError e1 (PySem.W.looks_opaque X1 T.opq) (l₀ := .ref C :: bm) (fun A Q E s k z => wpAny_bind ((PySem.W.looks_clsIn X1 hcl) A _ E s k (wpAny_pure z))) rfl X1 hsup (I1.type.andThen (PySem.W.looks_subIn X1 T.ve)) ne (by decide) ?_
  have X2 : K.In (h1.push (PySem.W.kxs_mw "ValueError.__init__" e)) := X1.keeps fun c o z => Heap.get?_push_of_some _ z
  have hmw : (h1.push (PySem.W.kxs_mw "ValueError.__init__" e)).get? h1.objs.size = some (PySem.W.kxs_mw "ValueError.__init__" e) := Heap.get?_push_at rfl rfl
  have k01 : ∀ c o, h₀.get? c = some o → (h1.push (PySem.W.kxs_mw "ValueError.__init__" e)).get? c = some o := fun c o z => Heap.get?_push_of_some _ (k1 c o z)
  have hns2 : (h1.push (PySem.W.kxs_mw "ValueError.__init__" e)).Ns hp.objs.size _ := hns.keeps k01
  refine PySem.W.kxs_callWith (i := "ValueError.__init__") (x := e) (by rfl) ?_
  refine Calls.evalArgs_plain (Calls.spliced_cons (say (w := w) (pos := p3) (env := ksEnv qual (iniS x more) hp.objs.size fI (.ref cda) cc) (x := x) (m := fun y => List.lookup y [((PySem.Str.ofString "self"), Value.ref e), (x, Value.int i tk)].reverse) rfl kx xd hns2 mx hi T.la T.lb fun out tk2 t2 hz => ?_))
  refine spliced_nil ?_
  refine ⟨hmw, ?_⟩
  have gC2 := X2 _ _ lC
  have he2 : (h1.push (PySem.W.kxs_mw "ValueError.__init__" e)).get? e = some (PySem.HandSPX.excO C t0) := Heap.get?_push_of_some _ he1
  refine wpAny_call (codeAny_of_tree ?_)
  show wpAny _ _ (callAny (.ref h1.objs.size) ⟨[.str out tk2], []⟩) _ _ _
  simp only [callAny]
  refine wpAny_bind (wpAny_load hmw ?_)
  simp only [PySem.W.kxs_mw, show (Value.type "method-wrapper" == Value.type "method" || Value.type "method-wrapper" == Value.type "builtin_function_or_method" || Value.type "method-wrapper" == Value.type "method-wrapper") = true by decide, if_true]
  refine PySem.W.KFB.if_so (by decide) ?_
  refine wpAny_bind (PySem.W.check_bound_init PySem.F.excBase_ValueError.toExcCallFacts gC2 he2 rfl ?_)
  refine wpAny_bind (wpAny_pure (wpAny_pure ?_))
  refine ⟨plainId_quiet PySem.F.excBase_ValueError.init.plain _, codeAny_builtin PySem.F.excBase_ValueError.initEntry ?_⟩
  refine PySem.W.exc_init_tree (cls := .ref C) (t0 := t0) (dv := none) (c2 := .none) (c3 := .none) (b4 := .bool false) he2 (by show 1 ≤ sizeLine; rw [sizeLine_eq]; decide) fun h3 k3 e3 _ => ?_
  -- self.f = x
  have k3' : ∀ c o, c ≠ e → hp.get? c = some o → h3.get? c = some o := fun c o z q => k3 c o z (k01 _ _ (k0 _ _ q))
  have X3 : K.In h3 := M.kin.keeps fun c o z => k3' c o (fun y => by rw [y, en] at z; cases z) (bk c o z)
  obtain ⟨oL, eL1, eL2, gL, eL3⟩ := hns2
  have hns3 : h3.Ns hp.objs.size (fun y => List.lookup y [((PySem.Str.ofString "self"), Value.ref e), (x, Value.int i tk)].reverse) := ⟨oL, eL1, eL2, k3 _ _ (Ne.symm eL) gL, eL3⟩
  refine PySem.wpAt_of_wpAny (wpAny_execs_cons ?_)
  refine plainObj_wpAny_Assign_Attribute (wpAny_Name (wpAny_loadName_local rfl kx hns3 mx ?_) xd) rfl
  refine wpAny_Name (wpAny_loadName_local rfl kself hns3 mself ?_) (by decide)
  refine PySem.W.set_plain X3 (ox := { cls := .ref C, dict := none, data := .fields #[.ref _, .none, .none, .none, .bool false, .none] }) (od := none) ⟨e3, rfl, rfl, trivial⟩ T.oex.sa ?_
  refine PySem.HandSPX.exc_osa X3 e3 hcl (show PySem.HandSPX.refsVE (.ref C :: bm) = true from hbm) rfl T.nof (fun h4 tk4 dx k4 dn dne hx hn => ?_)
  refine wpAny_execs_nil ?_
  have lt : hp.objs.size < h3.objs.size := Heap.lt_size (k3 _ _ (Ne.symm eL) gL)
  exact hR h4 tk4 _ dx (fun c o z q => k4 c o z (k3' c o z q)) (Nat.le_trans (Nat.le_of_lt lt) dn) dne hx hn
end

/-- C(e) in a raise: e an int of at most forty figures -/
theorem pmk_ini {X : Cx} {C fI : Addr} {c x f : Str} {a : Str} {b : Option Str} {e : Expr} {te : TE} {p pos : Pos} (T : Ini X.prog X.K X.mg C fI x f a b) (hm : X.mg c = some (.ref C)) (hr : Room 1 X.A) (hg : Gl X c) (hd : (c == ("__debug__" : Str)) = false)
    (he : PE X e te) (hs : starEach [e] X.env = [(false, eval e X.env)]) :
    PMk X (.Call (.Name c p) [e] [] pos) (fun σ H Q => te σ H fun v H1 => ∃ i : Int, v = .int i ∧ i.natAbs < 10 ^ 40 ∧ ∀ d, H1 d = none → Q (.ref C) (some d) (upd H1 d (.xd [(f, .int i)]))) := by
  intro pins s σ H Q I h
  obtain ⟨nm, q, N, bs, bm, sn, sub, ab, col, dd, k0, k1, k2, k3, k5, hC, hbm⟩ := T.oex.cls
  refine wpAny_Call_Name_kw (ld_glob I hg hm ?_ hd)
  have pa : PA X [e] (tCons te tNil) := pa_cons he pa_nil (by rw [hs]; rfl)
  have run := pa.run pos pins s σ H (fun vs H1 => ∃ i : Int, vs = [.int i] ∧ i.natAbs < 10 ^ 40 ∧ ∀ d, H1 d = none → Q (.ref C) (some d) (upd H1 d (.xd [(f, .int i)]))) I (by
    show te σ H fun v H1 => tNil σ H1 fun vs H2 => ∃ i : Int, v :: vs = [.int i] ∧ i.natAbs < 10 ^ 40 ∧ ∀ d, H2 d = none → Q (.ref C) (some d) (upd H2 d (.xd [(f, .int i)]))
    have z : (fun (v : L2.V) H1 => tNil σ H1 fun vs H2 => ∃ i : Int, v :: vs = [.int i] ∧ i.natAbs < 10 ^ 40 ∧ ∀ d, H2 d = none → Q (.ref C) (some d) (upd H2 d (.xd [(f, .int i)]))) = fun v H1 => ∃ i : Int, v = .int i ∧ i.natAbs < 10 ^ 40 ∧ ∀ d, H1 d = none → Q (.ref C) (some d) (upd H1 d (.xd [(f, .int i)])) := by
      funext v H1
      simp only [tNil, List.cons.injEq, and_true]
    rw [z]
    exact h)
  refine PySem.W.callWith_K (h₀ := X.base) I.ok.mod.kin T.oex.kC (thn run fun us s1 ⟨vs, H1, I1, r1, i, ev, hi, q1⟩ => ⟨I1.kIn, ?_⟩) (by rw [hs]; rfl) (by rfl)
  subst ev
  obtain ⟨u, rfl, ru⟩ := vals1 r1
  obtain ⟨tk, rfl⟩ := ru
  show wpAny _ _ (call (.ref C) [.int i tk]) _ _ _
  obtain ⟨hp, g, dr, t1, os⟩ := s1
  have fresh : ∀ {b : Addr}, hp.objs.size ≤ b → H1 b = none := fun {b} z => I1.hok.fresh z
  have bk := I1.bk
  have en : X.base.get? (hp.objs.size + 1) = none := by
    cases z : X.base.get? (hp.objs.size + 1) with
    | none => rfl
    | some o => exact absurd (Heap.lt_size (bk _ _ z)) (by show ¬ hp.objs.size + 1 < hp.objs.size; omega)
  have kk : ∀ b o, hp.get? b = some o → ((hp.push (PySem.W.kdv_tup [.int i tk])).push (PySem.HandSPX.excO C hp.objs.size)).get? b = some o := fun b o e => Heap.get?_push_of_some _ (Heap.get?_push_of_some _ e)
  have hget : ((hp.push (PySem.W.kdv_tup [.int i tk])).push (PySem.HandSPX.excO C hp.objs.size)).get? (hp.objs.size + 1) = some (PySem.HandSPX.excO C hp.objs.size) := by heap_get
  refine wpAny_call (PySem.HandSPX.call_own PySem.F.excBase_ValueError (fun Y => PySem.HandSPX.refsVE_contains Y bm hbm) (I1.kIn _ _ hC) (PySem.W.looks_findIn I1.kIn T.iC) (fun self => PySem.W.bind_fn I1.kIn self T.tI) (by show 1 ≤ sizeLine; rw [sizeLine_eq]; decide)
    (init_run T I.ok.mod (fun c o z => kk _ _ (bk c o z)) en hget hi ?_ fun h' tk' t' dx k n ne e' hn => ?_))
  · exact (hr.make C [.int i tk] []).depth
  -- what stands without the error
  obtain ⟨G, g1, g2⟩ := restrict h' fun b => decide (b ≠ hp.objs.size + 1)
  have gk : ∀ b, b ≠ hp.objs.size + 1 → G.get? b = h'.get? b := fun b hb => g1 b (decide_eq_true hb)
  have nh : ∀ {b : Addr} {o : Obj}, hp.get? b = some o → b ≠ hp.objs.size + 1 := fun {b o} z y => by
    have lt : b < hp.objs.size := Heap.lt_size z
    rw [y] at lt
    exact absurd lt (Nat.not_lt_of_le (Nat.le_succ _))
  have kG : ∀ b o, hp.get? b = some o → G.get? b = some o := fun b o z => by
    rw [gk b (nh z)]
    exact k b o (nh z) (kk _ _ z)
  have szl : hp.objs.size ≤ dx := by
    refine Nat.le_trans ?_ n
    show hp.objs.size ≤ ((hp.push (PySem.W.kdv_tup [.int i tk])).push (PySem.HandSPX.excO C hp.objs.size)).objs.size
    rw [Heap.size_push, Heap.size_push]
    exact Nat.le_succ_of_le (Nat.le_succ _)
  have hnG : G.Ns1 dx (fun y => if y = f then some (.int i tk) else none) := hn.at fun o z => (gk dx ne).trans z
  have rel : ∀ y, RelO ([(f, V.int i)].lookup y) ((fun y => if y = f then some (Value.int i tk) else none) y) := fun y => relO_put (fs := []) (f := f) (y := .int i) (u := .int i tk) (mA := fun _ => none) ⟨tk, rfl⟩ (fun _ => trivial) y
  have J : Inv X pins σ (upd H1 dx (.xd [(f, .int i)])) ⟨G, g, dr, tk', os⟩ := I1.laid (t' := tk') (a := dx) (o := .xd [(f, .int i)]) (h' := G) kG szl ⟨_, hnG, rel⟩
  refine ⟨rfl, hp.objs.size + 1, _, _, ⟨G, g, dr, tk', os⟩, _, .ref C, some dx, rfl, J, fun b o z => ?_, g2 _ (by simp), e', ⟨rfl, rfl⟩, rfl, rfl, ?_, rfl, J.bare, raises_own T.oex.exC T.oex.tyC, q1 dx (fresh szl)⟩
  · by_cases hb : b = hp.objs.size + 1
    · rw [hb, g2 _ (by simp)] at z; cases z
    · exact (gk b hb).symm.trans z
  · rw [upd_ne (Ne.symm ne)]
    exact fresh (Nat.le_succ _)
end GX

set_option Elab.async false
set_option linter.all false
set_option maxRecDepth 100000
set_option maxHeartbeats 2000000
/-! a def keeps its promise -/
namespace DW
open PySem PySem.Spec PyProof.Rows L2
variable [Tb : Tbl]

/-- the names' data at the entry -/
def startD (N : List Str) (ds : List D) : En := ds.map some ++ List.replicate (N.length - ds.length) none
theorem start_rel {K : PySem.W.Frag} {φ : List Addr} {H : Hp} {N : List Str} {vs : List V} {ds : List D} (r : RepL K φ H vs ds) : EnvRel K φ H (startD N ds) (L2.start N vs) := by
  have hl := r.length
  refine ⟨by simp [startD, L2.start, hl], fun i d h => ?_⟩
  unfold startD at h
  unfold L2.start
  by_cases hi : i < ds.length
  · rw [List.getElem?_append_left (by simpa using hi), List.getElem?_map] at h
    rw [List.getElem?_append_left (by simpa [hl] using hi), List.getElem?_map]
    cases e : ds[i]? with
    | none => rw [e] at h; cases h
    | some d' =>
      rw [e] at h
      cases h
      obtain ⟨v, e1, q⟩ := r.get e
      exact ⟨v, by rw [e1]; rfl, q⟩
  · rw [List.getElem?_append_right (by simp; omega)] at h
    rw [List.getElem?_replicate] at h
    split at h <;> cases h

/-- a class of errors, as the written part shows it -/
structure ErrK (P : Program) (K : PySem.W.Frag) (mm : Str → Option Value) (c : Str) (at' : Option Str) (Ca : Addr) : Prop where
  cl : Tb.cl.lookup c = some (Ca, at')
  mg : mm c = some (.ref Ca)
  exm : ∀ c' C' a', Tb.cl.lookup c' = some (C', a') → PySem.W.exmOne K (.ref C') (.ref Ca) = some (decide (c' = c))
  s : PySem.W.subIn K (.ref Ca) (.type "BaseException") = some true
  t : PySem.W.typeIn K (.ref Ca) = some (.type "type")
  k : PySem.W.keepIn K (.ref Ca) = true
  mk0 : at' = none → ∃ (B newId initId : String) (bmB : List Value), ExcBaseFacts B newId initId bmB ∧ PySem.W.excIn K Ca bmB newId = true
  mk1 : ∀ f, at' = some f → (∃ fI x a b, GX.Ini P K mm Ca fI x f a b) ∧ XfC K Ca
theorem ErrK.at_ {X : Cx} {c : Str} {at' : Option Str} {Ca : Addr} (h : ErrK X.prog X.K X.mg c at' Ca) (hr : Room 1 X.A) : ErrC X c at' Ca where
  cl := h.cl
  mg := h.mg
  exm := h.exm
  mk0 := fun e => by
    obtain ⟨B, n, i, bm, q1, q2⟩ := h.mk0 e
    exact ⟨B, n, i, bm, q1, q2, h.k, raises_own h.s h.t⟩
  mk1 := fun f e => by
    obtain ⟨⟨fI, x, a, b, T⟩, xf⟩ := h.mk1 f e
    refine ⟨fun pn xe e te p pos hg hn he hs => ?_, xf, T.nof⟩
    exact GX.pmk_ini (X := X.tr pn xe) (C := Ca) T h.mg hr hg (ok_name hn).2 he hs

/-- what holds of the module, whatever def runs -/
structure Top (P : Program) (w : World) (K : PySem.W.Frag) (mg : Str → Option Value) (base : Heap) (k : Nat) (fs : FEnv) (C : Ctx) : Prop where
  con : ∀ x d, C.con.lookup x = some d → ∃ v u, mg x = some u ∧ RelV v u ∧ ∀ φ H, Rep K φ H v d
  fns : ∀ (x : Str), C.fn.contains x = true → ∃ sp, fs.f x = some sp ∧ ∃ (f : Addr) (fd : FuncData) (ps : List Str), FnOk P w K mg base (L2.CX P w) k f fd ps (spD K sp) ∧ mg x = some (.ref f) ∧ PySem.W.keepIn K (.ref f) = true ∧ Binds K fd ps []
  bns : ∀ x, C.bn.contains x = true → mg x = none
  dcn : ∀ n kds, C.dcn.lookup n = some kds → ∃ a, mg n = some (.ref a) ∧ ∀ y d, kds.lookup y = some d → ∃ v, KDct K w a y v ∧ ∀ φ H, Rep K φ H v d
  exs : ∀ c a, C.exs.lookup c = some a → ∃ Ca, ErrK P K mg c a Ca
/-- no lambda is made -/
theorem lam_none {fs : FEnv} {X : Cx} : LamOk fs [] X := fun W x es f as scope pn p aa _ h => by
  unfold lamOf at h
  split at h
  · split at h
    · split at h
      · rename_i q
        exact absurd q.2.2.2.2 (by simp)
      · cases h
    · cases h
  · cases h
/-- the ends of a def's body -/
def defEnds (Q : KQ) (X : KX) : DEnds := { nx := fun _ S => Q .non S, rt := Q, bk := fun _ _ => False, ct := fun _ _ => False, xx := fun c d _ S => X c d S }
section
variable {P : Program} {w : World} {K : PySem.W.Frag} {mg : Str → Option Value} {base : Heap} {k n : Nat} {fs : FEnv} {x qual : Str} {st : Stmt} {f : Addr} {fd : FuncData} {ps : List Str} {C : Ctx} {ir : IB} {sp : FSp}
/-- the context of a def's body -/
theorem cx_ok {cdv : Value} {A : Around} {outer : List Env} {s : Shared} {H : Hp} {E : XK} (S : FnScope C.N ps (defScope st)) (hsc : C.sc = defScope st) (hbl : C.blk = none) (T : Top P w K mg base k fs C) (hr : Room k (A.deeper (envOfC qual (defScope st) s.heap.objs.size f cdv))) (h1 : 1 ≤ k)
    (hsrt : C.srt = true → ∀ X', Like (cxOf (L2.CX P w) P w K mg base C.N qual (defScope st) f cdv A outer s H E) X' → X'.env = (cxOf (L2.CX P w) P w K mg base C.N qual (defScope st) f cdv A outer s H E).env → X'.calm = true → SrtOk fs X')
    (hlam : ∀ X', Like (cxOf (L2.CX P w) P w K mg base C.N qual (defScope st) f cdv A outer s H E) X' → X'.calm = true → LamOk fs C.lam X')
    (hthk : ∀ x, C.thk = some x → ThkOk fs (cxOf (L2.CX P w) P w K mg base C.N qual (defScope st) f cdv A outer s H E) x) :
    CxOk fs (cxOf (L2.CX P w) P w K mg base C.N qual (defScope st) f cdv A outer s H E) (fun cls d _ H' => E cls d H') C :=
  { hN := rfl
    nd := S.nd
    sc := hsc.symm
    calm := fun _ => rfl
    fnc := fun _ _ => rfl
    un := by
      have := hr.un
      show (A.deeper _).units + 66 < cLine
      omega
    con := T.con
    fns := fun _ x hx => by
      obtain ⟨sp', h1, f', fd', ps', h2, h3, h4, h5⟩ := T.fns x hx
      exact ⟨sp', h1, ⟨f', fd', ps', k, h2, hr, h3, h4, h5⟩⟩
    bns := T.bns
    tk := takes_of rfl rfl rfl rfl
    own := passes_of rfl
    dcn := T.dcn
    srt := fun h _ _ => hsrt h
    lam := fun _ => hlam
    exs := fun _ _ c a h => by
      obtain ⟨Ca, e⟩ := T.exs c a h
      exact ⟨Ca, ErrK.at_ (X := cxOf (L2.CX P w) P w K mg base C.N qual (defScope st) f cdv A outer s H E) e (hr.mono h1)⟩
    fr := fun _ _ => ⟨rfl, rfl⟩
    thk := fun _ _ => hthk }
theorem fn_okL (F : Fun K x qual st f fd) (S : FnScope C.N ps (defScope st)) (hsc : C.sc = defScope st) (hbl : C.blk = none) (hc : compB n C (defBody st) = some ir) (h1 : 1 ≤ k) (T : Top P w K mg base k fs C)
    (mk : ∀ (cdv : Value) (A : Around) (outer : List Env) (s : Shared) (H : Hp) (E : XK), Room k (A.deeper (envOfC qual (defScope st) s.heap.objs.size f cdv)) →
      (C.srt = true → ∀ X', Like (cxOf (L2.CX P w) P w K mg base C.N qual (defScope st) f cdv A outer s H E) X' → X'.env = (cxOf (L2.CX P w) P w K mg base C.N qual (defScope st) f cdv A outer s H E).env → X'.calm = true → SrtOk fs X') ∧
      (∀ X', Like (cxOf (L2.CX P w) P w K mg base C.N qual (defScope st) f cdv A outer s H E) X' → X'.calm = true → LamOk fs C.lam X') ∧ ∀ x, C.thk = some x → ThkOk fs (cxOf (L2.CX P w) P w K mg base C.N qual (defScope st) f cdv A outer s H E) x)
    (hlen : ∀ ds St Q XD, sp ds St Q XD → ds.length = ps.length) (hsp : ∀ ds St Q XD, sp ds St Q XD → wB fs ir (defEnds Q XD) (startD C.N ds) St) :
    FnOk P w K mg base (L2.CX P w) (k + 1) f fd ps (spD K sp) := by
  refine F.okX S (fun vs H Q E h => ?_) (fun cdv A outer s H vs Q E hr h => ?_)
  · obtain ⟨ds, St, φ, XD, QD, r, _, q, _⟩ := h
    rw [r.length]; exact hlen _ _ _ _ q
  · obtain ⟨ds, St, φ, XD, QD, r, hs, q, hx, hp⟩ := h
    obtain ⟨m1, m2, m3⟩ := mk cdv A outer s H E hr
    have ok := cx_ok (fs := fs) (E := E) (outer := outer) (s := s) (H := H) S hsc hbl T hr h1 m1 m2 m3
    refine ⟨sB fs K _ ir, (snd_sb fs n).2.1 _ _ C _ ir ok hc, ?_⟩
    refine ⟨startD C.N ds, St, φ, defEnds QD XD, start_rel r, hs, hsp _ _ _ _ q, ?_⟩
    exact ⟨fun ρ' S' σ' H' φ' l t e s' q' => hp _ _ _ _ φ' l t s' .non q', hp, fun _ _ _ _ _ _ _ _ _ q' => q'.elim, fun _ _ _ _ _ _ _ _ _ q' => q'.elim, fun c d ρ' S' σ' cls dx H' φ' l t e s' x q' => hx _ _ _ _ _ _ φ' l t s' x q'⟩
theorem fn_ok (F : Fun K x qual st f fd) (S : FnScope C.N ps (defScope st)) (hsc : C.sc = defScope st) (hbl : C.blk = none) (hsrt : C.srt = false) (hlam : C.lam = []) (hthk : C.thk = none) (hc : compB n C (defBody st) = some ir) (h1 : 1 ≤ k) (T : Top P w K mg base k fs C)
    (hlen : ∀ ds St Q XD, sp ds St Q XD → ds.length = ps.length) (hsp : ∀ ds St Q XD, sp ds St Q XD → wB fs ir (defEnds Q XD) (startD C.N ds) St) :
    FnOk P w K mg base (L2.CX P w) (k + 1) f fd ps (spD K sp) :=
  fn_okL F S hsc hbl hc h1 T (fun _ _ _ _ _ _ _ => ⟨fun h => (by rw [hsrt] at h; cases h), fun X' _ _ => (by rw [hlam]; exact lam_none), fun x h => (by rw [hthk] at h; cases h)⟩) hlen hsp
end
end DW

set_option Elab.async false
set_option linter.all false
set_option maxRecDepth 100000
set_option maxHeartbeats 2000000
/-! working with data: stores that grow, values that can be compared, comprehensions -/
namespace DW
open PySem PySem.Spec PyProof.Rows L2

/-- all that stood in the store stands as before -/
def Ext (S S' : Sto) : Prop := ∀ (n : Nat) (o : Ob), S[n]? = some o → S'[n]? = some o
theorem Ext.refl (S : Sto) : Ext S S := fun _ _ h => h
theorem Ext.trans {S S1 S2 : Sto} (a : Ext S S1) (b : Ext S1 S2) : Ext S S2 := fun n o h => b n o (a n o h)
theorem Ext.app (S T : Sto) : Ext S (S ++ T) := fun n o h => by
  have hl := (List.getElem?_eq_some_iff.mp h).1
  rw [List.getElem?_append_left hl]; exact h
theorem Ext.len {S S' : Sto} (a : Ext S S') : S.length ≤ S'.length := by
  by_cases h : S.length = 0
  · omega
  · have e : S[S.length - 1]? = some (S[S.length - 1]'(by omega)) := List.getElem?_eq_getElem _
    have := (List.getElem?_eq_some_iff.mp (a _ _ e)).1
    omega
theorem Ext.set {S S' : Sto} (a : Ext S S') {n : Nat} (h : S.length ≤ n) (o : Ob) : Ext S (S'.set n o) := fun m u e => by
  have hl := (List.getElem?_eq_some_iff.mp e).1
  rw [List.getElem?_set_ne (by omega)]
  exact a m u e
/-- all but one object stand as before -/
def ExtB (k : Nat) (S S' : Sto) : Prop := S.length ≤ S'.length ∧ ∀ (n : Nat) (o : Ob), n ≠ k → S[n]? = some o → S'[n]? = some o
theorem Ext.b {S S' : Sto} (a : Ext S S') (k : Nat) : ExtB k S S' := ⟨a.len, fun n o _ h => a n o h⟩
theorem ExtB.refl (k : Nat) (S : Sto) : ExtB k S S := (Ext.refl S).b k
theorem ExtB.trans {k : Nat} {S S1 S2 : Sto} (a : ExtB k S S1) (b : ExtB k S1 S2) : ExtB k S S2 := ⟨Nat.le_trans a.1 b.1, fun n o e h => b.2 n o e (a.2 n o e h)⟩
theorem ExtB.set (k : Nat) (S : Sto) (o : Ob) : ExtB k S (S.set k o) := ⟨by simp, fun n u e h => by rw [List.getElem?_set_ne (Ne.symm e)]; exact h⟩
theorem ExtB.app (k : Nat) (S T : Sto) : ExtB k S (S ++ T) := (Ext.app S T).b k
theorem ExtB.set' {k : Nat} {S S' : Sto} (a : ExtB k S S') {n : Nat} (h : S.length ≤ n) (o : Ob) : ExtB k S (S'.set n o) := ⟨by simp; exact a.1, fun m u e hm => by
  have hl := (List.getElem?_eq_some_iff.mp hm).1
  rw [List.getElem?_set_ne (by omega)]
  exact a.2 m u e hm⟩
theorem sto_last (S : Sto) (o : Ob) : (S ++ [o])[S.length]? = some o := by simp
theorem sto_at0 (S T : Sto) : (S ++ T)[S.length]? = T[0]? := by rw [List.getElem?_append_right (Nat.le_refl _), Nat.sub_self]
theorem sto_at (S T : Sto) (i : Nat) : (S ++ T)[S.length + i]? = T[i]? := by rw [List.getElem?_append_right (by omega), Nat.add_sub_cancel_left]
theorem sto_set {S : Sto} {n : Nat} {o u : Ob} (h : S[n]? = some o) : (S.set n u)[n]? = some u := List.getElem?_set_self (List.getElem?_eq_some_iff.mp h).1

/-! ### values that can be compared -/
/-- at most k deep, tuples and lists at most L long -/
def okd (L : Nat) : Nat → Sto → D → Bool
  | 0, _, _ => false
  | k + 1, S, d => match d with
    | .non => true
    | .bl _ => true
    | .int _ => true
    | .str z => PyData.strOk z
    | .tup ds => decide (ds.length ≤ L) && ds.all (okd L k S)
    | .ktup _ => false
    | .rol _ => false
    | .ref n => match S[n]? with
      | some (.lst ds) => decide (ds.length ≤ L) && ds.all (okd L k S)
      | _ => false
    | .ty _ => false
    | .fnv _ => false
theorem all_mono {p q : D → Bool} {ds : List D} (h : ∀ d ∈ ds, p d = true → q d = true) (a : ds.all p = true) : ds.all q = true := by
  rw [List.all_eq_true] at a ⊢
  exact fun d hd => h d hd (a d hd)
theorem okd_ext {L : Nat} {S S' : Sto} (e : Ext S S') : ∀ {k : Nat} {d : D}, okd L k S d = true → okd L k S' d = true
  | 0, _, h => by cases h
  | k + 1, d, h => by
    cases d with
    | tup ds =>
      simp only [okd, Bool.and_eq_true] at h ⊢
      exact ⟨h.1, all_mono (fun d _ q => okd_ext e q) h.2⟩
    | ktup _ => cases h
    | ref n =>
      simp only [okd] at h ⊢
      cases e1 : S[n]? with
      | none => rw [e1] at h; cases h
      | some o =>
        cases o with
        | lst ds =>
          rw [e1] at h
          rw [e n _ e1]
          simp only [Bool.and_eq_true] at h ⊢
          exact ⟨h.1, all_mono (fun d _ q => okd_ext e q) h.2⟩
        | _ => rw [e1] at h; cases h
    | rol _ => cases h
    | ty _ => cases h
    | fnv _ => cases h
    | str z => exact h
    | _ => rfl
theorem okd_mono {L L' : Nat} (hL : L ≤ L') {S : Sto} : ∀ {k k' : Nat} {d : D}, k ≤ k' → okd L k S d = true → okd L' k' S d = true
  | 0, _, _, _, h => by cases h
  | k + 1, 0, _, hk, h => by omega
  | k + 1, k' + 1, d, hk, h => by
    cases d with
    | tup ds =>
      simp only [okd, Bool.and_eq_true, decide_eq_true_eq] at h ⊢
      exact ⟨by omega, all_mono (fun d _ q => okd_mono hL (by omega) q) h.2⟩
    | ktup _ => cases h
    | ref n =>
      simp only [okd] at h ⊢
      cases e1 : S[n]? with
      | none => rw [e1] at h; cases h
      | some o =>
        cases o with
        | lst ds =>
          rw [e1] at h
          simp only [Bool.and_eq_true, decide_eq_true_eq] at h ⊢
          exact ⟨by omega, all_mono (fun d _ q => okd_mono hL (by omega) q) h.2⟩
        | _ => rw [e1] at h; cases h
    | rol _ => cases h
    | ty _ => cases h
    | fnv _ => cases h
    | str z => exact h
    | _ => rfl
/-- what Python's data stand for such a value -/
theorem mapM_some {α β : Type} {f : α → Option β} {R : β → Prop} : ∀ {xs : List α}, (∀ x ∈ xs, ∃ y, f x = some y ∧ R y) → ∃ ys, xs.mapM f = some ys ∧ (∀ y ∈ ys, R y) ∧ ys.length = xs.length
  | [], _ => ⟨[], rfl, fun _ h => (by cases h), rfl⟩
  | x :: xs, h => by
    obtain ⟨y, e, r⟩ := h x List.mem_cons_self
    obtain ⟨ys, es, rs, hl⟩ := mapM_some (xs := xs) fun z hz => h z (List.mem_cons_of_mem _ hz)
    refine ⟨y :: ys, by rw [List.mapM_cons, e, es]; rfl, fun z hz => ?_, by rw [List.length_cons, List.length_cons, hl]⟩
    rcases List.mem_cons.mp hz with rfl | hz
    · exact r
    · exact rs z hz
theorem lay_all : ∀ {ps : List PyData}, (∀ p ∈ ps, p.canLay0 = true) → PyData.canLayAll0 ps = true
  | [], _ => by simp [PyData.canLayAll0]
  | p :: ps, h => by
    simp only [PyData.canLayAll0, Bool.and_eq_true]
    exact ⟨h p List.mem_cons_self, lay_all fun q hq => h q (List.mem_cons_of_mem _ hq)⟩
theorem depth_all {k : Nat} : ∀ {ps : List PyData}, (∀ p ∈ ps, p.depth ≤ k) → PyData.depthAll ps ≤ k
  | [], _ => by simp [PyData.depthAll]
  | p :: ps, h => by
    simp only [PyData.depthAll]
    have h1 := h p List.mem_cons_self
    have h2 := depth_all (ps := ps) fun q hq => h q (List.mem_cons_of_mem _ hq)
    omega
theorem py_of {L : Nat} {S : Sto} : ∀ {k j : Nat} {d : D}, k ≤ j → okd L k S d = true → ∃ p, toPy j S d = some p ∧ p.canLay0 = true ∧ p.depth ≤ k
  | 0, _, _, _, h => by cases h
  | k + 1, 0, _, hk, h => by omega
  | k + 1, j + 1, d, hk, h => by
    have seq : ∀ ds : List D, ds.all (okd L k S) = true → ∃ ps, ds.mapM (toPy j S) = some ps ∧ PyData.canLayAll0 ps = true ∧ PyData.depthAll ps ≤ k := fun ds hd => by
      rw [List.all_eq_true] at hd
      obtain ⟨ps, e, r, _⟩ := mapM_some (f := toPy j S) (R := fun p => p.canLay0 = true ∧ p.depth ≤ k) (xs := ds) fun x hx => by
        obtain ⟨p, e, q⟩ := py_of (j := j) (by omega) (hd x hx)
        exact ⟨p, e, q⟩
      exact ⟨ps, e, lay_all fun p hp => (r p hp).1, depth_all fun p hp => (r p hp).2⟩
    cases d with
    | non => exact ⟨_, rfl, by simp [PyData.canLay0], by simp [PyData.depth]⟩
    | bl b => exact ⟨_, rfl, by simp [PyData.canLay0], by simp [PyData.depth]⟩
    | int i => exact ⟨_, rfl, by simp [PyData.canLay0], by simp [PyData.depth]⟩
    | str z => exact ⟨_, rfl, by simpa [PyData.canLay0, okd] using h, by simp [PyData.depth]⟩
    | tup ds =>
      simp only [okd, Bool.and_eq_true] at h
      obtain ⟨ps, e, h1, h2⟩ := seq ds h.2
      exact ⟨.tuple ps, by simp only [toPy, e]; rfl, by simp only [PyData.canLay0]; exact h1, by simp only [PyData.depth]; omega⟩
    | ktup _ => cases h
    | ref n =>
      simp only [okd] at h
      cases e1 : S[n]? with
      | none => rw [e1] at h; cases h
      | some o =>
        cases o with
        | lst ds =>
          rw [e1] at h
          simp only [Bool.and_eq_true] at h
          obtain ⟨ps, e, h1, h2⟩ := seq ds h.2
          exact ⟨.list ps, by simp only [toPy, e1, e]; rfl, by simp only [PyData.canLay0]; exact h1, by simp only [PyData.depth]; omega⟩
        | _ => rw [e1] at h; cases h
    | rol _ => cases h
    | ty _ => cases h
    | fnv _ => cases h
theorem py_shaped {L : Nat} {S : Sto} {k : Nat} {d : D} (hk : k ≤ 62) (h : okd L k S d = true) : ∃ p, toPy 66 S d = some p ∧ SeqAt.shaped p = true := by
  obtain ⟨p, e, h1, h2⟩ := py_of (j := 66) (by omega) h
  refine ⟨p, e, ?_⟩
  show (p.canLay0 && decide (p.depth ≤ 64)) = true
  rw [h1, Bool.true_and]
  exact decide_eq_true (by omega)

/-! ### a value against a written one -/
mutual
/-- whether a value equals a written one (which holds no lists) -/
def eqc : D → D → Bool
  | d, .non => match d with
    | .non => true
    | _ => false
  | d, .bl b => match d with
    | .bl c => c == b
    | .int i => i == (if b then 1 else 0)
    | _ => false
  | d, .int i => match d with
    | .bl c => (if c then 1 else 0) == i
    | .int j => j == i
    | _ => false
  | d, .str x => match d with
    | .str y => y == x
    | _ => false
  | d, .tup cs => match d with
    | .tup ds => eqcs ds cs
    | .ktup ds => eqcs ds cs
    | _ => false
  | _, _ => false
def eqcs : List D → List D → Bool
  | [], [] => true
  | d :: ds, c :: cs => eqc d c && eqcs ds cs
  | [], _ :: _ => false
  | _ :: _, [] => false
end
mutual
/-- a written value: no lists -/
def wr : D → Bool
  | .non => true
  | .bl _ => true
  | .int _ => true
  | .str _ => true
  | .tup cs => wrs cs
  | _ => false
def wrs : List D → Bool
  | [] => true
  | c :: cs => wr c && wrs cs
end
mutual
/-- the data of a written value -/
def pyc : D → PyData
  | .non => .none
  | .bl b => .bool b
  | .int i => .int i
  | .str x => .str x
  | .tup cs => .tuple (pycs cs)
  | _ => .none
def pycs : List D → List PyData
  | [] => []
  | c :: cs => pyc c :: pycs cs
end
theorem eqvs_of {S : Sto} {k : Nat} (ih : ∀ (c : D), wr c = true → ∀ (d : D) (p : PyData), toPy k S d = some p → PyData.eqv p (pyc c) = eqc d c ∧ PyData.eqv (pyc c) p = eqc d c) :
    ∀ (cs : List D), wrs cs = true → ∀ (ds : List D) (ps : List PyData), ds.mapM (toPy k S) = some ps → PyData.eqvAll ps (pycs cs) = eqcs ds cs ∧ PyData.eqvAll (pycs cs) ps = eqcs ds cs
  | [], _, [], ps, h => by cases h; simp [pycs, eqcs, PyData.eqvAll]
  | [], _, d :: ds, ps, h => by
    obtain ⟨y, ys, rfl, _, _⟩ := mapM_cons' h
    simp [pycs, eqcs, PyData.eqvAll]
  | c :: cs, _, [], ps, h => by cases h; simp [pycs, eqcs, PyData.eqvAll]
  | c :: cs, hc, d :: ds, ps, h => by
    simp only [wrs, Bool.and_eq_true] at hc
    obtain ⟨y, ys, rfl, h1, h2⟩ := mapM_cons' h
    have q1 := ih c hc.1 d y h1
    have q2 := eqvs_of ih cs hc.2 ds ys h2
    simp only [pycs, eqcs, PyData.eqvAll]
    rw [q1.1, q1.2, q2.1, q2.2]
    exact ⟨rfl, rfl⟩
/-- what kind of data a value stands for -/
theorem py_kind {S : Sto} {k : Nat} {d : D} {p : PyData} (h : toPy (k + 1) S d = some p) : (d = .non ∧ p = .none) ∨ (∃ b, d = .bl b ∧ p = .bool b) ∨ (∃ i, d = .int i ∧ p = .int i) ∨ (∃ x, d = .str x ∧ p = .str x) ∨
    (∃ ds ps, (d = .tup ds ∨ d = .ktup ds) ∧ p = .tuple ps ∧ ds.mapM (toPy k S) = some ps) ∨ (∃ ps, p = .list ps ∧ ((∃ n, d = .ref n) ∨ ∃ ds, d = .rol ds)) := by
  have lists : ∀ (ds : List D) (f : List PyData → PyData), (ds.mapM (toPy k S)).map f = some p → ∃ ps, ds.mapM (toPy k S) = some ps ∧ p = f ps := fun ds f q => by
    cases e : ds.mapM (toPy k S) with
    | none => rw [e] at q; cases q
    | some ps => rw [e] at q; cases q; exact ⟨ps, rfl, rfl⟩
  cases d with
  | non => cases h; exact .inl ⟨rfl, rfl⟩
  | bl b => cases h; exact .inr (.inl ⟨b, rfl, rfl⟩)
  | int i => cases h; exact .inr (.inr (.inl ⟨i, rfl, rfl⟩))
  | str x => cases h; exact .inr (.inr (.inr (.inl ⟨x, rfl, rfl⟩)))
  | tup ds =>
    simp only [toPy] at h
    obtain ⟨ps, e, rfl⟩ := lists ds .tuple h
    exact .inr (.inr (.inr (.inr (.inl ⟨ds, ps, .inl rfl, rfl, e⟩))))
  | ktup ds =>
    simp only [toPy] at h
    obtain ⟨ps, e, rfl⟩ := lists ds .tuple h
    exact .inr (.inr (.inr (.inr (.inl ⟨ds, ps, .inr rfl, rfl, e⟩))))
  | rol ds =>
    simp only [toPy] at h
    obtain ⟨ps, e, rfl⟩ := lists ds .list h
    exact .inr (.inr (.inr (.inr (.inr ⟨ps, rfl, .inr ⟨ds, rfl⟩⟩))))
  | ref n =>
    simp only [toPy] at h
    cases e1 : S[n]? with
    | none => rw [e1] at h; cases h
    | some o =>
      cases o with
      | lst ds =>
        rw [e1] at h
        obtain ⟨ps, e, rfl⟩ := lists ds .list h
        exact .inr (.inr (.inr (.inr (.inr ⟨ps, rfl, .inl ⟨n, rfl⟩⟩))))
      | _ => rw [e1] at h; cases h
  | ty n => cases h
  | fnv n => cases h
theorem beq_sym {α : Type} [BEq α] [LawfulBEq α] (a b : α) : (a == b) = (b == a) := by
  rw [Bool.eq_iff_iff]
  simp only [beq_iff_eq]
  exact ⟨Eq.symm, Eq.symm⟩
theorem eqv_pyc {S : Sto} : ∀ (k : Nat) (c : D), wr c = true → ∀ (d : D) (p : PyData), toPy k S d = some p → PyData.eqv p (pyc c) = eqc d c ∧ PyData.eqv (pyc c) p = eqc d c
  | 0, c, _, d, p, h => by cases h
  | k + 1, c, hc, d, p, h => by
    have ih := eqv_pyc (S := S) k
    cases c with
    | ref n => cases hc
    | rol n => cases hc
    | ty n => cases hc
    | fnv n => cases hc
    | tup cs =>
      have hcs : wrs cs = true := by simpa [wr] using hc
      rcases py_kind h with ⟨rfl, rfl⟩ | ⟨b, rfl, rfl⟩ | ⟨i, rfl, rfl⟩ | ⟨x, rfl, rfl⟩ | ⟨ds, ps, rfl | rfl, rfl, e⟩ | ⟨ps, rfl, ⟨n, rfl⟩ | ⟨ds, rfl⟩⟩ <;> first
        | (simp [pyc, eqc, PyData.eqv]; done)
        | (simp only [pyc, eqc, PyData.eqv]; exact eqvs_of ih cs hcs ds ps e)
    | ktup cs => cases hc
    | non => rcases py_kind h with ⟨rfl, rfl⟩ | ⟨b, rfl, rfl⟩ | ⟨i, rfl, rfl⟩ | ⟨x, rfl, rfl⟩ | ⟨ds, ps, rfl | rfl, rfl, e⟩ | ⟨ps, rfl, ⟨n, rfl⟩ | ⟨ds, rfl⟩⟩ <;> simp [pyc, eqc, PyData.eqv]
    | bl b => rcases py_kind h with ⟨rfl, rfl⟩ | ⟨b, rfl, rfl⟩ | ⟨i, rfl, rfl⟩ | ⟨x, rfl, rfl⟩ | ⟨ds, ps, rfl | rfl, rfl, e⟩ | ⟨ps, rfl, ⟨n, rfl⟩ | ⟨ds, rfl⟩⟩ <;> simp only [pyc, eqc, PyData.eqv] <;> first | exact ⟨trivial, trivial⟩ | exact ⟨rfl, beq_sym _ _⟩ | exact ⟨trivial, beq_sym _ _⟩ | trivial
    | int b => rcases py_kind h with ⟨rfl, rfl⟩ | ⟨b, rfl, rfl⟩ | ⟨i, rfl, rfl⟩ | ⟨x, rfl, rfl⟩ | ⟨ds, ps, rfl | rfl, rfl, e⟩ | ⟨ps, rfl, ⟨n, rfl⟩ | ⟨ds, rfl⟩⟩ <;> simp only [pyc, eqc, PyData.eqv] <;> first | exact ⟨trivial, trivial⟩ | exact ⟨rfl, beq_sym _ _⟩ | exact ⟨trivial, beq_sym _ _⟩ | trivial
    | str b => rcases py_kind h with ⟨rfl, rfl⟩ | ⟨b, rfl, rfl⟩ | ⟨i, rfl, rfl⟩ | ⟨x, rfl, rfl⟩ | ⟨ds, ps, rfl | rfl, rfl, e⟩ | ⟨ps, rfl, ⟨n, rfl⟩ | ⟨ds, rfl⟩⟩ <;> simp only [pyc, eqc, PyData.eqv] <;> first | exact ⟨trivial, trivial⟩ | exact ⟨rfl, beq_sym _ _⟩ | exact ⟨trivial, beq_sym _ _⟩ | trivial
theorem eqvs_any {S : Sto} {k : Nat} {d : D} {p : PyData} (h : toPy k S d = some p) : ∀ {cs : List D}, wrs cs = true → ((pycs cs).any fun z => PyData.eqv z p) = cs.any fun c => eqc d c
  | [], _ => rfl
  | c :: cs, hc => by
    simp only [wrs, Bool.and_eq_true] at hc
    simp only [pycs, List.any_cons]
    rw [(eqv_pyc k c hc.1 d p h).2, eqvs_any h hc.2]
theorem toPys_of {S : Sto} {k : Nat} (ih : ∀ (c : D), wr c = true → (∃ S0, okd 1000 k S0 c = true) → toPy k S c = some (pyc c)) : ∀ (cs : List D), wrs cs = true → (∀ d ∈ cs, ∃ S0, okd 1000 k S0 d = true) → cs.mapM (toPy k S) = some (pycs cs)
  | [], _, _ => rfl
  | c :: cs, hw, h => by
    simp only [wrs, Bool.and_eq_true] at hw
    rw [List.mapM_cons, ih c hw.1 (h c List.mem_cons_self), toPys_of ih cs hw.2 fun d hd => h d (List.mem_cons_of_mem _ hd)]
    rfl
theorem toPy_wr {S : Sto} : ∀ (k : Nat) (c : D), wr c = true → (∃ S0, okd 1000 k S0 c = true) → toPy k S c = some (pyc c)
  | 0, c, _, ⟨S0, h⟩ => by cases h
  | k + 1, c, hw, ⟨S0, h⟩ => by
    cases c with
    | tup cs =>
      simp only [okd, Bool.and_eq_true, List.all_eq_true] at h
      simp only [toPy, toPys_of (toPy_wr k) cs (by simpa [wr] using hw) fun d hd => ⟨S0, h.2 d hd⟩]
      rfl
    | ktup _ => cases h
    | non => rfl
    | bl b => rfl
    | int i => rfl
    | str x => rfl
    | ref n => cases hw
    | rol n => cases hw
    | ty n => cases hw
    | fnv n => cases hw
/-- a written value that is fit to be compared -/
def wk (c : D) : Bool := wr c && okd 1000 20 [] c
theorem wk_py {S : Sto} {c : D} (h : wk c = true) : toPy 66 S c = some (pyc c) ∧ SeqAt.shaped (pyc c) = true ∧ wr c = true := by
  unfold wk at h
  rw [Bool.and_eq_true] at h
  have h1 : okd 1000 66 [] c = true := okd_mono (Nat.le_refl _) (by omega) h.2
  have e1 := toPy_wr (S := S) 66 c h.1 ⟨[], h1⟩
  have e2 := toPy_wr (S := []) 66 c h.1 ⟨[], h1⟩
  obtain ⟨p, e3, s⟩ := py_shaped (by omega) h.2
  rw [e2] at e3
  cases e3
  exact ⟨e1, s, h.1⟩
/-- a value that is fit, at hand -/
def Fit (S : Sto) (d : D) : Prop := ∃ L k, k ≤ 62 ∧ okd L k S d = true
theorem Fit.py {S : Sto} {d : D} (h : Fit S d) : ∃ p, toPy 66 S d = some p ∧ SeqAt.shaped p = true := by
  obtain ⟨L, k, hk, h⟩ := h
  exact py_shaped hk h
theorem Fit.ext {S S' : Sto} {d : D} (e : Ext S S') (h : Fit S d) : Fit S' d := by
  obtain ⟨L, k, hk, h⟩ := h
  exact ⟨L, k, hk, okd_ext e h⟩
theorem dEq_c {S : Sto} {d c : D} {Q : KB} (h : Fit S d) (hc : wk c = true) (q : Q (eqc d c) S) : dEq d c S Q := by
  obtain ⟨p, e, s⟩ := h.py
  obtain ⟨e1, s1, hw⟩ := wk_py (S := S) hc
  exact ⟨p, pyc c, e, e1, s, s1, by rw [(eqv_pyc 66 c hw d p e).1]; exact q⟩
theorem dEq_c' {S : Sto} {d c : D} {Q : KB} (h : Fit S d) (hc : wk c = true) (q : Q (eqc d c) S) : dEq c d S Q := by
  obtain ⟨p, e, s⟩ := h.py
  obtain ⟨e1, s1, hw⟩ := wk_py (S := S) hc
  exact ⟨pyc c, p, e1, e, s1, s, by rw [(eqv_pyc 66 c hw d p e).2]; exact q⟩
theorem dIn_c {S : Sto} {d : D} {cs : List D} {Q : KB} (h : Fit S d) (hc : wk (.tup cs) = true) (q : Q (cs.any fun c => eqc d c) S) : dIn d (.tup cs) S Q := by
  obtain ⟨p, e, s⟩ := h.py
  obtain ⟨e1, s1, hw⟩ := wk_py (S := S) hc
  refine ⟨p, _, e, e1, s, s1, .inl ⟨pycs cs, rfl, ?_⟩⟩
  rw [eqvs_any e (by simpa [wr] using hw)]
  exact q
theorem toPy_tup (k : Nat) (S : Sto) (ds : List D) : toPy (k + 1) S (.tup ds) = (ds.mapM (toPy k S)).map .tuple := rfl
theorem toPy_ref (k : Nat) {S : Sto} {n : Nat} {ds : List D} (h : S[n]? = some (.lst ds)) : toPy (k + 1) S (.ref n) = (ds.mapM (toPy k S)).map .list := by
  simp only [toPy, h]
/-- .. in a list of written values -/
theorem dIn_l {S : Sto} {d : D} {n : Nat} {cs : List D} {Q : KB} (h : Fit S d) (hn : S[n]? = some (.lst cs)) (hc : wk (.tup cs) = true) (q : Q (cs.any fun c => eqc d c) S) : dIn d (.ref n) S Q := by
  obtain ⟨p, e, s⟩ := h.py
  obtain ⟨e1, s1, hw⟩ := wk_py (S := S) hc
  have hw' : wrs cs = true := by simpa [wr] using hw
  have e2 : toPy 66 S (.ref n) = some (.list (pycs cs)) := by
    have e1' := (toPy_tup 65 S cs).symm.trans e1
    rw [toPy_ref 65 hn]
    cases q1 : cs.mapM (toPy 65 S) with
    | none => rw [q1] at e1'; cases e1'
    | some ps =>
      rw [q1] at e1'
      have e3 : PyData.tuple ps = PyData.tuple (pycs cs) := Option.some.inj e1'
      injection e3 with e3
      rw [e3]
      rfl
  have s2 : SeqAt.shaped (.list (pycs cs)) = true := by
    simpa [SeqAt.shaped, PyData.canLay0, PyData.depth, pyc] using s1
  refine ⟨p, _, e, e2, s, s2, .inr ⟨pycs cs, rfl, ?_⟩⟩
  rw [eqvs_any e hw']
  exact q

theorem dEq_iff {S : Sto} {d c : D} {Q : KB} (h : Fit S d) (hc : wk c = true) : dEq d c S Q ↔ Q (eqc d c) S := by
  refine ⟨fun ⟨p, q, e1, e2, _, _, k⟩ => ?_, dEq_c h hc⟩
  obtain ⟨e3, _, hw⟩ := wk_py (S := S) hc
  rw [e3] at e2
  cases e2
  rw [← (eqv_pyc 66 c hw d p e1).1]
  exact k
theorem dEq_iff' {S : Sto} {d c : D} {Q : KB} (h : Fit S d) (hc : wk c = true) : dEq c d S Q ↔ Q (eqc d c) S := by
  refine ⟨fun ⟨p, q, e1, e2, _, _, k⟩ => ?_, dEq_c' h hc⟩
  obtain ⟨e3, _, hw⟩ := wk_py (S := S) hc
  rw [e3] at e1
  cases e1
  rw [← (eqv_pyc 66 c hw d q e2).2]
  exact k
theorem wk_pys {cs : List D} (h : wk (.tup cs) = true) : wrs cs = true := by
  unfold wk at h
  rw [Bool.and_eq_true] at h
  simpa [wr] using h.1
theorem dIn_iff {S : Sto} {d : D} {cs : List D} {Q : KB} (h : Fit S d) (hc : wk (.tup cs) = true) : dIn d (.tup cs) S Q ↔ Q (cs.any fun c => eqc d c) S := by
  refine ⟨fun ⟨p, q, e1, e2, _, _, k⟩ => ?_, dIn_c h hc⟩
  obtain ⟨e3, _, hw⟩ := wk_py (S := S) hc
  rw [e3] at e2
  cases e2
  rcases k with ⟨qs, e, k⟩ | ⟨qs, e, k⟩
  · injection e with e
    subst e
    rw [eqvs_any e1 (wk_pys hc)] at k
    exact k
  · cases e
/-- a written value is fit -/
theorem wk_fit {S : Sto} {c : D} (h : wk c = true) : Fit S c := by
  unfold wk at h
  rw [Bool.and_eq_true] at h
  exact ⟨1000, 20, by omega, okd_ext (fun n o e => by cases e) h.2⟩
/-- the parts of a fit tuple are fit -/
theorem Fit.parts {S : Sto} {ds : List D} (h : Fit S (.tup ds)) : ∀ d ∈ ds, Fit S d := fun d hd => by
  obtain ⟨L, k, hk, h⟩ := h
  cases k with
  | zero => cases h
  | succ k =>
    simp only [okd, Bool.and_eq_true, List.all_eq_true] at h
    exact ⟨L, k, by omega, h.2 d hd⟩
theorem Fit.sub {S : Sto} {n : Nat} {ds : List D} (h : Fit S (.ref n)) (e : S[n]? = some (.lst ds)) : ∀ d ∈ ds, Fit S d := fun d hd => by
  obtain ⟨L, k, hk, h⟩ := h
  cases k with
  | zero => cases h
  | succ k =>
    simp only [okd, e, Bool.and_eq_true, List.all_eq_true] at h
    exact ⟨L, k, by omega, h.2 d hd⟩

/-! ### single steps -/
section
variable {S : Sto} {Q : KQ} {B : KB}
theorem tru_non : dTru .non S B = B false S := rfl
theorem tru_bl {b : Bool} : dTru (.bl b) S B = B b S := rfl
theorem tru_int {i : Int} : dTru (.int i) S B = B (i != 0) S := rfl
theorem tru_tup {xs : List D} : dTru (.tup xs) S B = B (!xs.isEmpty) S := rfl
theorem op_addi {i j : Int} : dOp .Add (.int i) (.int j) S Q = Q (.int (i + j)) S := rfl
theorem op_subi {i j : Int} : dOp .Sub (.int i) (.int j) S Q = Q (.int (i - j)) S := rfl
theorem op_muli {i j : Int} : dOp .Mult (.int i) (.int j) S Q = (CMulD i j ∧ Q (.int (i * j)) S) := rfl
theorem op_divi {i j : Int} : dOp .FloorDiv (.int i) (.int j) S Q = (CDiv i j ∧ Q (.int (i / j)) S) := rfl
theorem op_modi {i j : Int} : dOp .Mod (.int i) (.int j) S Q = (0 < j ∧ Q (.int (i % j)) S) := rfl
theorem op_powi {i j : Int} : dOp .Pow (.int i) (.int j) S Q = (CPow i j ∧ Q (.int (i ^ j.toNat)) S) := rfl
theorem op_addt {xs ys : List D} : dOp .Add (.tup xs) (.tup ys) S Q = (xs.length + ys.length ≤ LIM ∧ Q (.tup (xs ++ ys)) S) := rfl
theorem op_addl {m n : Nat} {xs ys : List D} (h1 : S[m]? = some (.lst xs)) (h2 : S[n]? = some (.lst ys)) : dOp .Add (.ref m) (.ref n) S Q = (xs.length + ys.length ≤ LIM ∧ Q (.ref S.length) (S ++ [.lst (xs ++ ys)])) := by
  simp only [dOp, h1, h2]
theorem op_rept {xs : List D} {k : Int} : dOp .Mult (.tup xs) (.int k) S Q = ((xs ≠ [] ∧ 2 ≤ k ∧ k ≤ 1000 ∧ xs.length ≤ 1000) ∧ Q (.tup (List.replicate k.toNat xs).flatten) S) := rfl
theorem op_repl {m : Nat} {xs : List D} {k : Int} (h1 : S[m]? = some (.lst xs)) : dOp .Mult (.ref m) (.int k) S Q = ((-(2 ^ 63) ≤ k ∧ k < 2 ^ 63 ∧ xs.length * k.toNat ≤ LIM) ∧ Q (.ref S.length) (S ++ [.lst (List.replicate k.toNat xs).flatten])) := by
  simp only [dOp, h1]
theorem cmp_lt {i j : Int} : dCmp .Lt (.int i) (.int j) S B = B (decide (i < j)) S := rfl
theorem cmp_le {i j : Int} : dCmp .LtE (.int i) (.int j) S B = B (decide (i ≤ j)) S := rfl
theorem cmp_gt {i j : Int} : dCmp .Gt (.int i) (.int j) S B = B (decide (j < i)) S := rfl
theorem cmp_ge {i j : Int} : dCmp .GtE (.int i) (.int j) S B = B (decide (j ≤ i)) S := rfl
theorem cmp_eq {x y : D} : dCmp .Eq x y S B = dEq x y S B := rfl
theorem cmp_ne {x y : D} : dCmp .NotEq x y S B = dEq x y S fun b S' => B (!b) S' := rfl
theorem toPy_k (k : Nat) (ds : List D) : toPy (k + 1) S (.ktup ds) = toPy (k + 1) S (.tup ds) := rfl
theorem cmp_in {x y : D} : dCmp .In x y S B = dInA x y S B := rfl
theorem cmp_nin {x y : D} : dCmp .NotIn x y S B = dInA x y S fun b S' => B (!b) S' := rfl
theorem inA_tup {x : D} {cs : List D} : dInA x (.tup cs) S B = dIn x (.tup cs) S B := rfl
theorem inA_ktup {x : D} {cs : List D} : dInA x (.ktup cs) S B = dIn x (.tup cs) S B := by
  show dIn x (.ktup cs) S B = _
  unfold dIn
  rw [toPy_k]
theorem inA_ref {x : D} {n : Nat} {cs : List D} (h : S[n]? = some (.lst cs)) : dInA x (.ref n) S B = dIn x (.ref n) S B := by
  simp only [dInA, h]
theorem inA_dct {x : D} {n : Nat} {kvs : List (List L2.Key × D)} (h : S[n]? = some (.dct kvs)) : dInA x (.ref n) S B = ∃ k, keyOf x = some k ∧ B (valD kvs k).isSome S := by
  simp only [dInA, h]
theorem idx_dct {n : Nat} {ks : List D} {kvs : List (List L2.Key × D)} (h : S[n]? = some (.dct kvs)) : dIdx (.ref n) (.tup ks) S Q = ∃ k v, keyL ks = some k ∧ valD kvs k = some v ∧ Q v S := by
  simp only [dIdx, h]
theorem op_shl' {i j : Int} : dOp .LShift (.int i) (.int j) S Q = (CPow i j ∧ Q (.int (i * 2 ^ j.toNat)) S) := rfl
theorem op_shr' {i j : Int} : dOp .RShift (.int i) (.int j) S Q = (0 ≤ j ∧ Q (.int (i / 2 ^ j.toNat)) S) := rfl
theorem op_and' {i j : Int} : dOp .BitAnd (.int i) (.int j) S Q = Q (.int (Builtin.bitAnd i j)) S := rfl
theorem op_or' {i j : Int} : dOp .BitOr (.int i) (.int j) S Q = Q (.int (Builtin.bitOr i j)) S := rfl
theorem op_xor' {i j : Int} : dOp .BitXor (.int i) (.int j) S Q = Q (.int (Builtin.bitXor i j)) S := rfl
theorem is_bl {a b : Bool} : dCmp .Is (.bl a) (.bl b) S B = B (decide (a = b)) S := rfl
theorem isn_bl {a b : Bool} : dCmp .IsNot (.bl a) (.bl b) S B = B (!decide (a = b)) S := rfl
theorem iter_ktup {xs : List D} {k : KI} : dIter (.ktup xs) S k = k xs (fun _ => True) S := rfl
theorem isl_ref {n : Nat} {xs : List D} (h : S[n]? = some (.lst xs)) : isLst (.ref n) S = True := by
  simp only [isLst, h]
theorem len_tup {xs : List D} : dLen (.tup xs) S Q = Q (.int xs.length) S := rfl
theorem len_rol {xs : List D} : dLen (.rol xs) S Q = Q (.int xs.length) S := rfl
theorem len_ref {n : Nat} {xs : List D} (h : S[n]? = some (.lst xs)) : dLen (.ref n) S Q = Q (.int xs.length) S := by
  simp only [dLen, items, h]
theorem idx_tup {xs : List D} {k : Int} : dIdx (.tup xs) (.int k) S Q = ∃ v, atI xs k = some v ∧ Q v S := rfl
theorem idx_rol {xs : List D} {k : Int} : dIdx (.rol xs) (.int k) S Q = ∃ v, atI xs k = some v ∧ Q v S := rfl
theorem idx_ref {n : Nat} {xs : List D} {k : Int} (h : S[n]? = some (.lst xs)) : dIdx (.ref n) (.int k) S Q = ∃ v, atI xs k = some v ∧ Q v S := by
  simp only [dIdx, h]
theorem slc_tup {xs : List D} {lo hi : Option Int} : dSlc (.tup xs) lo hi S Q = Q (.tup (cutD xs lo hi)) S := rfl
theorem slc_ref {n : Nat} {xs : List D} {lo hi : Option Int} (h : S[n]? = some (.lst xs)) : dSlc (.ref n) lo hi S Q = Q (.ref S.length) (S ++ [.lst (cutD xs lo hi)]) := by
  simp only [dSlc, h]
theorem iter_tup {xs : List D} {k : KI} : dIter (.tup xs) S k = k xs (fun _ => True) S := rfl
theorem iter_rol {xs : List D} {k : KI} : dIter (.rol xs) S k = k xs (fun _ => True) S := rfl
theorem iter_ref {n : Nat} {xs : List D} {k : KI} (h : S[n]? = some (.lst xs)) : dIter (.ref n) S k = k xs (fun S' => S'[n]? = some (.lst xs)) S := by
  simp only [dIter, h]
theorem bools_map (bs : List Bool) : bools (bs.map D.bl) = some bs := by
  induction bs with
  | nil => rfl
  | cons b r ih => simp only [List.map_cons, bools, ih, Option.map_some]
theorem bools_ref {n : Nat} {bs : List Bool} {k : List Bool → Prop} (h : S[n]? = some (.lst (bs.map D.bl))) : dBools (.ref n) S k = k bs := by
  simp only [dBools, h, bools_map]
theorem eqc_int (i j : Int) : eqc (.int i) (.int j) = decide (i = j) := by
  rw [Bool.eq_iff_iff]; simp [eqc]
theorem app_ref {n : Nat} {xs : List D} {a : D} (h : S[n]? = some (.lst xs)) : dApp (.ref n) a S Q = (xs.length < LIM ∧ Q .non (S.set n (.lst (xs ++ [a])))) := by
  simp only [dApp, h]
theorem set_ref {n : Nat} {xs : List D} {a : D} {k : Int} {R : Sto → Prop} (h : S[n]? = some (.lst xs)) : dSet (.ref n) (.int k) a S R = ∃ j, ixN xs.length k = some j ∧ R (S.set n (.lst (xs.set j a))) := by
  simp only [dSet, h]
end

/-! ### comprehensions -/
theorem cLoop_gen {n : Nat} {chk : Sto → Prop} {turn : D → Sto → (D → Sto → Prop) → (Sto → Prop) → Prop} {k : Sto → Prop} (J : List D → List D → Sto → Prop)
    (hchk : ∀ r acc S, J r acc S → chk S)
    (hturn : ∀ d r acc S ky kn, J (d :: r) acc S → (∀ y S', S'[n]? = some (.lst acc) → acc.length < LIM → J r (acc ++ [y]) (S'.set n (.lst (acc ++ [y]))) → ky y S') → (∀ S', J r acc S' → kn S') → turn d S ky kn)
    (hk : ∀ acc S, J [] acc S → k S) : ∀ (r acc : List D) (S : Sto), J r acc S → cLoop n chk turn k r S
  | [], acc, S, h => ⟨hchk _ _ _ h, hk _ _ h⟩
  | d :: r, acc, S, h => by
    refine ⟨hchk _ _ _ h, hturn d r acc S _ _ h (fun y S' e1 e2 j => ⟨acc, e1, e2, ?_⟩) fun S' j => ?_⟩
    · exact cLoop_gen J hchk hturn hk r _ _ j
    · exact cLoop_gen J hchk hturn hk r _ _ j
/-- the elements are a function of the items; the store grows only -/
theorem cLoop_ext {S : Sto} {chk : Sto → Prop} {turn : D → Sto → (D → Sto → Prop) → (Sto → Prop) → Prop} {k : Sto → Prop} {items : List D} (f : D → Option D) (hl : items.length < LIM) (hchk : ∀ S', Ext S S' → chk S')
    (hturn : ∀ d ∈ items, ∀ S1 ky kn, Ext S S1 → (∀ S2, Ext S1 S2 → match f d with | some y => ky y S2 | none => kn S2) → turn d S1 ky kn)
    (hk : ∀ S', Ext S S' → S'[S.length]? = some (.lst (items.filterMap f)) → k S') : cLoop S.length chk turn k items (S ++ [.lst []]) := by
  refine cLoop_gen (J := fun r acc S' => ∃ done, items = done ++ r ∧ acc = done.filterMap f ∧ Ext S S' ∧ S'[S.length]? = some (.lst acc)) ?_ ?_ ?_ items [] _ ⟨[], rfl, rfl, Ext.app S _, sto_last S _⟩
  · rintro r acc S' ⟨done, _, _, e, _⟩
    exact hchk S' e
  · rintro d r acc S1 ky kn ⟨done, e1, e2, e3, e4⟩ h1 h2
    refine hturn d (by rw [e1]; simp) S1 ky kn e3 fun S2 e5 => ?_
    have hlen : acc.length < LIM := by
      have q1 : acc.length ≤ done.length := by rw [e2]; exact List.length_filterMap_le f done
      have q2 : done.length ≤ items.length := by rw [e1]; simp
      omega
    cases q : f d with
    | some y =>
      simp only [q]
      refine h1 y S2 (e5 _ _ e4) hlen ⟨done ++ [d], by rw [e1]; simp, by rw [List.filterMap_append, e2]; simp [q], (e3.trans e5).set (Nat.le_refl _) _, sto_set (e5 _ _ e4)⟩
    | none =>
      simp only [q]
      exact h2 S2 ⟨done ++ [d], by rw [e1]; simp, by rw [List.filterMap_append, e2]; simp [q], e3.trans e5, e5 _ _ e4⟩
  · rintro acc S' ⟨done, e1, e2, e3, e4⟩
    rw [List.append_nil] at e1
    subst e1
    subst e2
    exact hk S' e3 e4
end DW

set_option Elab.async false
set_option linter.all false
set_option maxRecDepth 100000
/-! the program's defs, and those that several laws have, as terms of the small language -/
namespace KP
open PySem PySem.Spec L2 DW
def c_JOINTS : D := D.ktup [(D.str "and"), (D.str "or"), (D.str "unless"), (D.str "onlyif")]
def c_MOST_SIGNS : D := D.int 16
def c_MOST_CLAUSES : D := D.int 4
def c_MOST_PEOPLE : D := D.int 1000000000000000000000000000000
def c_MOST_DEPTH : D := D.int 10
def c_MOST_TOLD : D := D.int 3
def c_SORTS : D := D.int 4
def c_MARK_CLAUSES : D := D.ktup [(D.str "all"), (D.str "some"), (D.str "no"), (D.str "allnot")]
def c_COUNT_CLAUSES : D := D.ktup [(D.str "has")]
def c_MARKS : D := D.ktup [(D.ktup [(D.str "a"), (D.str "b")]), (D.ktup [(D.str "b"), (D.str "a")])]
def c_COUNTED : D := D.ktup [(D.str "a"), (D.str "b"), (D.str "both")]
def c_OTHER_SIGNS : D := D.ktup [(D.str "not"), (D.str "("), (D.str ")")]
def c_PAIR_WORDS : D := D.ktup [(D.str "and"), (D.str "or"), (D.str "if"), (D.str "other")]
def c_MOST_TOLD_APART : D := D.int 4
def c_SORT_WITH_BOTH : D := D.int 3
def c_MOST_READINGS : D := D.int 300
def c_MOST_DECIDED : D := D.int 6
def c_MOST_QUESTIONS : D := D.int 7
def c_MOST_UNLIKE : D := D.int 8
def c_CLAUSE_LIMIT : D := D.int 3
def c_SIGN_LIMIT : D := D.int 9
def c_MOST_PAIRS : D := D.int 2
def c_MOST_NOTICES : D := D.int 3
def c_MOST_MEANINGS : D := D.int 2000
def dc_SORT_WITH_ALONE : List (Str × D) := [("a", D.int 1), ("b", D.int 2)]
def dc_SORTS_WITH : List (Str × D) := [("a", D.ktup [(D.int 1), (D.int 3)]), ("b", D.ktup [(D.int 2), (D.int 3)]), ("both", D.ktup [(D.int 3)])]
def dc_JOINT_WORDS : List (Str × D) := [("and", D.ktup [(D.str "and")]), ("or", D.ktup [(D.str "or")]), ("onlyif", D.ktup [(D.str "if")]), ("unless", D.ktup [(D.str "or"), (D.str "other")])]
/-! is_row: 0 signs, 1 depth, 2 part_due, 3 sign -/
abbrev N_is_row : List Str := ["signs", "depth", "part_due", "sign"]
def ir_is_row_b0 : IB := .cons (.ifs (.and (.cmp .Eq (.var 3) (.cst (D.str "("))) (.val (.var 2))) (.cons (.asg (.name 1) (.bin .Add (.var 1) (.cst (D.int 1)))) .nil) (.cons (.ifs (.and (.cmp .Eq (.var 3) (.cst (D.str ")"))) (.and (.not (.val (.var 2))) (.cmp .Gt (.var 1) (.cst (D.int 0))))) (.cons (.asg (.name 1) (.bin .Sub (.var 1) (.cst (D.int 1)))) .nil) (.cons (.ifs (.and (.cmp .In (.var 3) (.cst c_JOINTS)) (.not (.val (.var 2)))) (.cons (.asg (.name 2) (.cst (D.bl true))) .nil) (.cons (.ifs (.and (.val (.blt .isinst (.cons (.var 3) (.cons (.cst (D.ty "tuple")) .nil)))) (.val (.var 2))) (.cons (.asg (.name 2) (.cst (D.bl false))) .nil) (.cons (.ifs (.or (.cmp .NotEq (.var 3) (.cst (D.str "not"))) (.not (.val (.var 2)))) (.cons (.ret (.cst (D.bl false))) .nil) .nil) .nil)) .nil)) .nil)) .nil)) .nil
def ir_is_row : IB := .cons (.asg (.name 1) (.cst (D.int 0))) (.cons (.asg (.name 2) (.cst (D.bl true))) (.cons (.fr (.name 3) (.val (.var 0)) ir_is_row_b0) (.cons (.ret (.and (.cmp .Eq (.var 1) (.cst (D.int 0))) (.not (.var 2)))) .nil)))
/-! is_notice: 0 value, 1 clauses, 2 sign -/
abbrev N_is_notice : List Str := ["value", "clauses", "sign"]
def ir_is_notice_l0 : IE := .lcp [2] (.name 2) (.val (.var 0)) (.one (.val (.blt .isinst (.cons (.var 2) (.cons (.cst (D.ty "tuple")) .nil))))) (.var 2)
def ir_is_notice_l1 : IE := .lcp [2] (.name 2) (.val (.var 0)) .none (.fn "is_sign" (.cons (.var 2) .nil))
def ir_is_notice : IB := .cons (.ifs (.or (.not (.val (.blt .isinst (.cons (.var 0) (.cons (.cst (D.ty "tuple")) .nil))))) (.not (.chn .LtE .LtE (.cst (D.int 1)) (.blt .len (.cons (.var 0) .nil)) (.cst c_MOST_SIGNS)))) (.cons (.ret (.cst (D.bl false))) .nil) .nil) (.cons (.ifs (.not (.val (.blt .all (.cons ir_is_notice_l1 .nil)))) (.cons (.ret (.cst (D.bl false))) .nil) .nil) (.cons (.asg (.name 1) ir_is_notice_l0) (.cons (.ret (.and (.cmp .LtE (.blt .len (.cons (.var 1) .nil)) (.cst c_MOST_CLAUSES)) (.fn "is_row" (.cons (.var 0) .nil)))) .nil)))
/-! is_house: 0 value, 1 many -/
abbrev N_is_house : List Str := ["value", "many"]
def ir_is_house_l0 : IE := .lcp [1] (.name 1) (.val (.var 0)) .none (.fn "is_number" (.cons (.var 1) (.cons (.cst (D.int 0)) (.cons (.cst c_MOST_PEOPLE) .nil))))
def ir_is_house : IB := .cons (.ifs (.or (.not (.val (.blt .isinst (.cons (.var 0) (.cons (.cst (D.ty "tuple")) .nil))))) (.cmp .NotEq (.blt .len (.cons (.var 0) .nil)) (.cst c_SORTS))) (.cons (.ret (.cst (D.bl false))) .nil) .nil) (.cons (.ret (.blt .all (.cons ir_is_house_l0 .nil))) .nil)
/-! is_formula: 0 value -/
abbrev N_is_formula : List Str := ["value"]
def ir_is_formula : IB := .cons (.ret (.fn "_is_nested" (.cons (.var 0) (.cons (.cst c_MOST_DEPTH) .nil)))) .nil
/-! is_sign: 0 value -/
abbrev N_is_sign : List Str := ["value"]
def ir_is_sign : IB := .cons (.ifs (.val (.blt .isinst (.cons (.var 0) (.cons (.cst (D.ty "str")) .nil)))) (.cons (.ret (.or (.cmp .In (.var 0) (.cst c_JOINTS)) (.cmp .In (.var 0) (.cst c_OTHER_SIGNS)))) .nil) .nil) (.cons (.ret (.fn "_is_triple" (.cons (.var 0) (.cons (.cst c_MARK_CLAUSES) (.cons (.cst c_COUNT_CLAUSES) .nil))))) .nil)
/-! is_number: 0 value, 1 least, 2 most -/
abbrev N_is_number : List Str := ["value", "least", "most"]
def ir_is_number : IB := .cons (.ifs (.or (.not (.val (.blt .isinst (.cons (.var 0) (.cons (.cst (D.ty "int")) .nil))))) (.val (.blt .isinst (.cons (.var 0) (.cons (.cst (D.ty "bool")) .nil))))) (.cons (.ret (.cst (D.bl false))) .nil) .nil) (.cons (.ret (.chn .LtE .LtE (.var 1) (.var 0) (.var 2))) .nil)
/-! _is_triple: 0 value, 1 mark_words, 2 count_words, 3 word, 4 first, 5 second -/
abbrev N__is_triple : List Str := ["value", "mark_words", "count_words", "word", "first", "second"]
def ir__is_triple : IB := .cons (.ifs (.or (.not (.val (.blt .isinst (.cons (.var 0) (.cons (.cst (D.ty "tuple")) .nil))))) (.cmp .NotEq (.blt .len (.cons (.var 0) .nil)) (.cst (D.int 3)))) (.cons (.ret (.cst (D.bl false))) .nil) .nil) (.cons (.asg (.tup (.cons (.name 3) (.cons (.name 4) (.cons (.name 5) .nil)))) (.var 0)) (.cons (.ifs (.cmp .In (.var 3) (.var 1)) (.cons (.ret (.cmp .In (.tup (.cons (.var 4) (.cons (.var 5) .nil))) (.cst c_MARKS))) .nil) .nil) (.cons (.ret (.and (.cmp .In (.var 3) (.var 2)) (.and (.fn "is_number" (.cons (.var 4) (.cons (.cst (D.int 1)) (.cons (.cst c_MOST_TOLD) .nil)))) (.cmp .In (.var 5) (.cst c_COUNTED))))) .nil)))
/-! _is_nested: 0 value, 1 depth -/
abbrev N__is_nested : List Str := ["value", "depth"]
def ir__is_nested : IB := .cons (.ifs (.or (.cmp .Eq (.var 1) (.cst (D.int 0))) (.or (.not (.val (.blt .isinst (.cons (.var 0) (.cons (.cst (D.ty "tuple")) .nil))))) (.cmp .Eq (.blt .len (.cons (.var 0) .nil)) (.cst (D.int 0))))) (.cons (.ret (.cst (D.bl false))) .nil) .nil) (.cons (.ifs (.cmp .Eq (.idx (.var 0) (.cst (D.int 0))) (.cst (D.str "not"))) (.cons (.ret (.and (.cmp .Eq (.blt .len (.cons (.var 0) .nil)) (.cst (D.int 2))) (.fn "_is_nested" (.cons (.idx (.var 0) (.cst (D.int 1))) (.cons (.bin .Sub (.var 1) (.cst (D.int 1))) .nil))))) .nil) .nil) (.cons (.ifs (.cmp .In (.idx (.var 0) (.cst (D.int 0))) (.cst c_PAIR_WORDS)) (.cons (.ret (.and (.cmp .Eq (.blt .len (.cons (.var 0) .nil)) (.cst (D.int 3))) (.and (.fn "_is_nested" (.cons (.idx (.var 0) (.cst (D.int 1))) (.cons (.bin .Sub (.var 1) (.cst (D.int 1))) .nil))) (.fn "_is_nested" (.cons (.idx (.var 0) (.cst (D.int 2))) (.cons (.bin .Sub (.var 1) (.cst (D.int 1))) .nil)))))) .nil) .nil) (.cons (.ret (.fn "_is_triple" (.cons (.var 0) (.cons (.tup (.cons (.cst (D.str "all")) (.cons (.cst (D.str "some")) (.cons (.cst (D.str "no")) .nil)))) (.cons (.tup (.cons (.cst (D.str "least")) (.cons (.cst (D.str "just")) .nil))) .nil))))) .nil)))
/-! _law_source: 0 _law_script, 1 _law_k, 2 _law_cell -/
abbrev N__law_source : List Str := ["_law_script", "_law_k", "_law_cell"]
def ir__law_source : IB := .cons (.asg (.name 2) (.ite (.cmp .Lt (.var 1) (.blt .len (.cons (.var 0) .nil))) (.blt .abs (.cons (.blt .int (.cons (.idx (.var 0) (.var 1)) .nil)) .nil)) (.bin .Add (.bin .Mult (.cst (D.int 101)) (.var 1)) (.cst (D.int 47))))) (.cons (.ret (.lst (.cons (.ite (.cmp .Gt (.var 2) (.bin .Pow (.cst (D.int 10)) (.cst (D.int 17)))) (.var 2) (.cst (D.int 0))) (.cons (.bin .Mod (.blt .int (.cons (.bin .Add (.bin .Add (.bin .Mult (.var 2) (.cst (D.int 16807))) (.bin .Mult (.cst (D.int 10009)) (.var 1))) (.cst (D.int 71))) .nil)) (.cst (D.int 2147483237))) .nil)))) .nil)
/-! _law_draw: 0 _law_source_here, 1 _law_many, 2 _law_rest, 3 _law_wide -/
abbrev N__law_draw : List Str := ["_law_source_here", "_law_many", "_law_rest", "_law_wide"]
def ir__law_draw : IB := .cons (.ifs (.cmp .Gt (.idx (.var 0) (.cst (D.int 0))) (.cst (D.int 0))) (.cons (.asg (.name 2) (.bin .Mod (.blt .int (.cons (.idx (.var 0) (.cst (D.int 0))) .nil)) (.var 1))) (.cons (.asg (.sub (.var 0) (.cst (D.int 0))) (.bin .FloorDiv (.idx (.var 0) (.cst (D.int 0))) (.var 1))) (.cons (.ret (.var 2)) .nil))) .nil) (.cons (.asg (.sub (.var 0) (.cst (D.int 1))) (.bin .Mod (.blt .int (.cons (.bin .Add (.bin .Mult (.idx (.var 0) (.cst (D.int 1))) (.cst (D.int 48271))) (.cst (D.int 83))) .nil)) (.cst (D.int 2147483237)))) (.cons (.asg (.name 3) (.bin .Mod (.blt .int (.cons (.bin .Mult (.idx (.var 0) (.cst (D.int 1))) (.bin .Add (.bin .FloorDiv (.idx (.var 0) (.cst (D.int 1))) (.cst (D.int 41))) (.cst (D.int 26)))) .nil)) (.cst (D.int 2147483179)))) (.cons (.ret (.bin .Mod (.blt .int (.cons (.bin .FloorDiv (.var 3) (.cst (D.int 32))) .nil)) (.var 1))) .nil)))
/-! _law_choice: 0 _law_source_here, 1 _law_some -/
abbrev N__law_choice : List Str := ["_law_source_here", "_law_some"]
def ir__law_choice : IB := .cons (.ret (.idx (.var 1) (.fn "_law_draw" (.cons (.var 0) (.cons (.blt .len (.cons (.var 1) .nil)) .nil))))) .nil
/-! _law_from: 0 _law_value, 1 _law_low, 2 _law_high -/
abbrev N__law_from : List Str := ["_law_value", "_law_low", "_law_high"]
def ir__law_from : IB := .cons (.ret (.and (.blt .isinst (.cons (.var 0) (.cons (.cst (D.ty "int")) .nil))) (.and (.not (.blt .isinst (.cons (.var 0) (.cons (.cst (D.ty "bool")) .nil)))) (.chn .LtE .LtE (.var 1) (.var 0) (.var 2))))) .nil
/-! _law_clause: 0 _law_source_here, 1 _law_pair -/
abbrev N__law_clause : List Str := ["_law_source_here", "_law_pair"]
def ir__law_clause : IB := .cons (.asg (.name 1) (.fn "_law_choice" (.cons (.var 0) (.cons (.lst (.cons (.tup (.cons (.cst (D.str "a")) (.cons (.cst (D.str "b")) .nil))) (.cons (.tup (.cons (.cst (D.str "b")) (.cons (.cst (D.str "a")) .nil))) .nil))) .nil)))) (.cons (.ifs (.cmp .Lt (.fn "_law_draw" (.cons (.var 0) (.cons (.cst (D.int 5)) .nil))) (.cst (D.int 2))) (.cons (.ret (.tup (.cons (.cst (D.str "has")) (.cons (.bin .Add (.cst (D.int 1)) (.fn "_law_draw" (.cons (.var 0) (.cons (.cst (D.int 3)) .nil)))) (.cons (.fn "_law_choice" (.cons (.var 0) (.cons (.lst (.cons (.cst (D.str "a")) (.cons (.cst (D.str "b")) (.cons (.cst (D.str "both")) .nil)))) .nil))) .nil))))) .nil) .nil) (.cons (.ret (.bin .Add (.tup (.cons (.fn "_law_choice" (.cons (.var 0) (.cons (.lst (.cons (.cst (D.str "all")) (.cons (.cst (D.str "some")) (.cons (.cst (D.str "no")) (.cons (.cst (D.str "allnot")) .nil))))) .nil))) .nil)) (.var 1))) .nil))
/-! _law_notice: 0 _law_source_here, 1 _law_most, 2 _law_parts, 3 _law_turn, 4 _law_part, 5 _law_at, 6 _law_joint, 7 _law_whole, 8 _law_found -/
abbrev N__law_notice : List Str := ["_law_source_here", "_law_most", "_law_parts", "_law_turn", "_law_part", "_law_at", "_law_joint", "_law_whole", "_law_found"]
def ir__law_notice_b0 : IB := .cons (.asg (.name 8) (.bin .Add (.bin .Add (.var 8) (.tup (.cons (.fn "_law_choice" (.cons (.var 0) (.cons (.lst (.cons (.cst (D.str "and")) (.cons (.cst (D.str "and")) (.cons (.cst (D.str "or")) (.cons (.cst (D.str "or")) (.cons (.cst (D.str "unless")) (.cons (.cst (D.str "onlyif")) .nil))))))) .nil))) .nil))) (.var 4))) .nil
def ir__law_notice_b1 : IB := .cons (.asg (.name 4) (.tup (.cons (.fn "_law_clause" (.cons (.var 0) .nil)) .nil))) (.cons (.ifs (.cmp .Eq (.fn "_law_draw" (.cons (.var 0) (.cons (.cst (D.int 4)) .nil))) (.cst (D.int 0))) (.cons (.asg (.name 4) (.bin .Add (.tup (.cons (.cst (D.str "not")) .nil)) (.var 4))) .nil) .nil) (.cons (.expr (.app (.var 2) (.var 4))) .nil))
def ir__law_notice : IB := .cons (.asg (.name 2) (.lst .nil)) (.cons (.fr (.name 3) (.rng1 (.bin .Add (.cst (D.int 1)) (.fn "_law_draw" (.cons (.var 0) (.cons (.var 1) .nil))))) ir__law_notice_b1) (.cons (.ifs (.and (.cmp .Gt (.blt .len (.cons (.var 2) .nil)) (.cst (D.int 1))) (.cmp .Eq (.fn "_law_draw" (.cons (.var 0) (.cons (.cst (D.int 3)) .nil))) (.cst (D.int 0)))) (.cons (.asg (.name 5) (.fn "_law_draw" (.cons (.var 0) (.cons (.bin .Sub (.blt .len (.cons (.var 2) .nil)) (.cst (D.int 1))) .nil)))) (.cons (.asg (.name 6) (.fn "_law_choice" (.cons (.var 0) (.cons (.lst (.cons (.cst (D.str "and")) (.cons (.cst (D.str "or")) (.cons (.cst (D.str "unless")) (.cons (.cst (D.str "onlyif")) .nil))))) .nil)))) (.cons (.asg (.name 7) (.bin .Add (.bin .Add (.bin .Add (.bin .Add (.tup (.cons (.cst (D.str "(")) .nil)) (.idx (.var 2) (.var 5))) (.tup (.cons (.var 6) .nil))) (.idx (.var 2) (.bin .Add (.var 5) (.cst (D.int 1))))) (.tup (.cons (.cst (D.str ")")) .nil)))) (.cons (.asg (.name 2) (.bin .Add (.bin .Add (.slc (.var 2) .no (.yes (.var 5))) (.lst (.cons (.ite (.cmp .Eq (.fn "_law_draw" (.cons (.var 0) (.cons (.cst (D.int 3)) .nil))) (.cst (D.int 0))) (.bin .Add (.tup (.cons (.cst (D.str "not")) .nil)) (.var 7)) (.var 7)) .nil))) (.slc (.var 2) (.yes (.bin .Add (.var 5) (.cst (D.int 2)))) .no))) .nil)))) .nil) (.cons (.asg (.name 8) (.idx (.var 2) (.cst (D.int 0)))) (.cons (.fr (.name 4) (.val (.slc (.var 2) (.yes (.cst (D.int 1))) .no)) ir__law_notice_b0) (.cons (.ret (.var 8)) .nil)))))
/-! _law_formula: 0 _law_source_here, 1 _law_deep, 2 _law_way, 3 _law_word, 4 _law_one -/
abbrev N__law_formula : List Str := ["_law_source_here", "_law_deep", "_law_way", "_law_word", "_law_one"]
def ir__law_formula : IB := .cons (.asg (.name 2) (.fn "_law_draw" (.cons (.var 0) (.cons (.cst (D.int 7)) .nil)))) (.cons (.ifs (.and (.cmp .Gt (.var 1) (.cst (D.int 1))) (.cmp .Gt (.var 2) (.cst (D.int 2)))) (.cons (.ifs (.cmp .Eq (.var 2) (.cst (D.int 3))) (.cons (.ret (.tup (.cons (.cst (D.str "not")) (.cons (.fn "_law_formula" (.cons (.var 0) (.cons (.bin .Sub (.var 1) (.cst (D.int 1))) .nil))) .nil)))) .nil) .nil) (.cons (.asg (.name 3) (.fn "_law_choice" (.cons (.var 0) (.cons (.lst (.cons (.cst (D.str "and")) (.cons (.cst (D.str "or")) (.cons (.cst (D.str "if")) (.cons (.cst (D.str "other")) .nil))))) .nil)))) (.cons (.asg (.name 4) (.fn "_law_formula" (.cons (.var 0) (.cons (.bin .Sub (.var 1) (.cst (D.int 1))) .nil)))) (.cons (.ret (.tup (.cons (.var 3) (.cons (.var 4) (.cons (.fn "_law_formula" (.cons (.var 0) (.cons (.bin .Sub (.var 1) (.cst (D.int 1))) .nil))) .nil))))) .nil)))) .nil) (.cons (.ifs (.cmp .Eq (.bin .Mod (.var 2) (.cst (D.int 2))) (.cst (D.int 0))) (.cons (.asg (.name 3) (.fn "_law_choice" (.cons (.var 0) (.cons (.lst (.cons (.cst (D.str "least")) (.cons (.cst (D.str "just")) .nil))) .nil)))) (.cons (.ret (.tup (.cons (.var 3) (.cons (.bin .Add (.cst (D.int 1)) (.fn "_law_draw" (.cons (.var 0) (.cons (.cst (D.int 3)) .nil)))) (.cons (.fn "_law_choice" (.cons (.var 0) (.cons (.lst (.cons (.cst (D.str "a")) (.cons (.cst (D.str "b")) (.cons (.cst (D.str "both")) .nil)))) .nil))) .nil))))) .nil)) .nil) (.cons (.ret (.bin .Add (.tup (.cons (.fn "_law_choice" (.cons (.var 0) (.cons (.lst (.cons (.cst (D.str "all")) (.cons (.cst (D.str "some")) (.cons (.cst (D.str "no")) .nil)))) .nil))) .nil)) (.fn "_law_choice" (.cons (.var 0) (.cons (.lst (.cons (.tup (.cons (.cst (D.str "a")) (.cons (.cst (D.str "b")) .nil))) (.cons (.tup (.cons (.cst (D.str "b")) (.cons (.cst (D.str "a")) .nil))) .nil))) .nil))))) .nil)))
/-! check_formula: 0 value -/
abbrev N_check_formula : List Str := ["value"]
def ir_check_formula : IB := .cons (.ifs (.not (.val (.fn "is_formula" (.cons (.var 0) .nil)))) (.cons (.rai "InvalidFormula") .nil) .nil) .nil
/-! check_house: 0 value -/
abbrev N_check_house : List Str := ["value"]
def ir_check_house : IB := .cons (.ifs (.not (.val (.fn "is_house" (.cons (.var 0) .nil)))) (.cons (.rai "InvalidHouse") .nil) .nil) .nil
/-! check_truth: 0 value -/
abbrev N_check_truth : List Str := ["value"]
def ir_check_truth : IB := .cons (.ifs (.not (.val (.blt .isinst (.cons (.var 0) (.cons (.cst (D.ty "bool")) .nil))))) (.cons (.rai "InvalidTruth") .nil) .nil) .nil
/-! small_houses: 0 counts, 1 houses, 2 one, 3 other, 4 both -/
abbrev N_small_houses : List Str := ["counts", "houses", "one", "other", "both"]
def ir_small_houses_l0 : IE := .lcn [2, 3, 4] (.name 2) (.val (.var 0)) .none (.gen [3, 4] (.name 3) (.val (.var 0)) .none (.gen [4] (.name 4) (.val (.var 0)) .none (.elt (.tup (.cons (.cst (D.int 0)) (.cons (.var 2) (.cons (.var 3) (.cons (.var 4) .nil))))))))
def ir_small_houses : IB := .cons (.asg (.name 0) (.lrng (.bin .Add (.cst c_MOST_TOLD_APART) (.cst (D.int 1))))) (.cons (.asg (.name 1) ir_small_houses_l0) (.cons (.ret (.fn "@srt" (.cons (.var 1) .nil))) .nil))
/-! meanings: 0 formulas, 1 houses, 2 simple, 3 formula -/
abbrev N_meanings : List Str := ["formulas", "houses", "simple", "formula"]
def ir_meanings_l0 : IE := .lcp [3] (.name 3) (.val (.var 0)) .none (.fn "_meaning" (.cons (.var 3) (.cons (.var 2) (.cons (.fn "everywhere" (.cons (.var 1) .nil)) .nil))))
def ir_meanings : IB := .cons (.asg (.name 2) (.fn "_simple_meanings" (.cons (.var 0) (.cons (.var 1) .nil)))) (.cons (.ret ir_meanings_l0) .nil)
/-! everywhere: 0 houses -/
abbrev N_everywhere : List Str := ["houses"]
def ir_everywhere : IB := .cons (.ret (.bin .Sub (.bin .LShift (.cst (D.int 1)) (.blt .len (.cons (.var 0) .nil))) (.cst (D.int 1)))) .nil
/-! holds_at: 0 meaning, 1 at -/
abbrev N_holds_at : List Str := ["meaning", "at"]
def ir_holds_at : IB := .cons (.ret (.cmp .Eq (.bin .BitAnd (.bin .RShift (.var 0) (.var 1)) (.cst (D.int 1))) (.cst (D.int 1)))) .nil
/-! houses_of: 0 meaning, 1 houses, 2 at, 3 house -/
abbrev N_houses_of : List Str := ["meaning", "houses", "at", "house"]
def ir_houses_of_l0 : IE := .lcp [2, 3] (.tup (.cons (.name 2) (.cons (.name 3) .nil))) (.enum (.var 1)) (.one (.val (.fn "holds_at" (.cons (.var 0) (.cons (.var 2) .nil))))) (.var 3)
def ir_houses_of : IB := .cons (.ret ir_houses_of_l0) .nil
/-! first_of_all: 0 formula, 1 houses, 2 found -/
abbrev N_first_of_all : List Str := ["formula", "houses", "found"]
def ir_first_of_all : IB := .cons (.asg (.name 1) (.fn "small_houses" .nil)) (.cons (.asg (.name 2) (.fn "houses_of" (.cons (.idx (.fn "meanings" (.cons (.lst (.cons (.var 0) .nil)) (.cons (.var 1) .nil))) (.cst (D.int 0))) (.cons (.var 1) .nil)))) (.cons (.ret (.ite (.val (.var 2)) (.idx (.var 2) (.cst (D.int 0))) (.cst (D.non)))) .nil))
/-! _meaning: 0 formula, 1 simple, 2 whole, 3 word, 4 one, 5 other -/
abbrev N__meaning : List Str := ["formula", "simple", "whole", "word", "one", "other"]
def ir__meaning : IB := .cons (.asg (.name 3) (.idx (.var 0) (.cst (D.int 0)))) (.cons (.ifs (.cmp .Eq (.var 3) (.cst (D.str "not"))) (.cons (.ret (.bin .BitXor (.var 2) (.fn "_meaning" (.cons (.idx (.var 0) (.cst (D.int 1))) (.cons (.var 1) (.cons (.var 2) .nil)))))) .nil) .nil) (.cons (.ifs (.cmp .NotIn (.var 3) (.cst c_PAIR_WORDS)) (.cons (.ret (.idx (.var 1) (.var 0))) .nil) .nil) (.cons (.asg (.name 4) (.fn "_meaning" (.cons (.idx (.var 0) (.cst (D.int 1))) (.cons (.var 1) (.cons (.var 2) .nil))))) (.cons (.asg (.name 5) (.fn "_meaning" (.cons (.idx (.var 0) (.cst (D.int 2))) (.cons (.var 1) (.cons (.var 2) .nil))))) (.cons (.ifs (.cmp .Eq (.var 3) (.cst (D.str "and"))) (.cons (.ret (.bin .BitAnd (.var 4) (.var 5))) .nil) .nil) (.cons (.ifs (.cmp .Eq (.var 3) (.cst (D.str "or"))) (.cons (.ret (.bin .BitOr (.var 4) (.var 5))) .nil) .nil) (.cons (.ifs (.cmp .Eq (.var 3) (.cst (D.str "if"))) (.cons (.ret (.bin .BitOr (.bin .BitXor (.var 2) (.var 4)) (.var 5))) .nil) .nil) (.cons (.ret (.bin .BitXor (.var 4) (.var 5))) .nil))))))))
/-! _simple_meanings: 0 formulas, 1 houses, 2 found, 3 formula, 4 part, 5 at, 6 house -/
abbrev N__simple_meanings : List Str := ["formulas", "houses", "found", "formula", "part", "at", "house"]
def ir__simple_meanings_l0 : IE := .lcp [5, 6] (.tup (.cons (.name 5) (.cons (.name 6) .nil))) (.enum (.var 1)) (.one (.val (.fn "_holds_simply" (.cons (.var 4) (.cons (.var 6) .nil))))) (.bin .LShift (.cst (D.int 1)) (.var 5))
def ir__simple_meanings_b0 : IB := .cons (.ifs (.cmp .NotIn (.var 4) (.var 2)) (.cons (.asg (.sub (.var 2) (.var 4)) (.blt .sum (.cons ir__simple_meanings_l0 .nil))) .nil) .nil) .nil
def ir__simple_meanings_b1 : IB := .cons (.fr (.name 4) (.val (.fn "_simple_parts" (.cons (.var 3) .nil))) ir__simple_meanings_b0) .nil
def ir__simple_meanings : IB := .cons (.asg (.name 2) .dnew) (.cons (.fr (.name 3) (.val (.var 0)) ir__simple_meanings_b1) (.cons (.ret (.var 2)) .nil))
/-! _simple_parts: 0 formula -/
abbrev N__simple_parts : List Str := ["formula"]
def ir__simple_parts : IB := .cons (.ifs (.cmp .Eq (.idx (.var 0) (.cst (D.int 0))) (.cst (D.str "not"))) (.cons (.ret (.fn "_simple_parts" (.cons (.idx (.var 0) (.cst (D.int 1))) .nil))) .nil) .nil) (.cons (.ifs (.cmp .In (.idx (.var 0) (.cst (D.int 0))) (.cst c_PAIR_WORDS)) (.cons (.ret (.bin .Add (.fn "_simple_parts" (.cons (.idx (.var 0) (.cst (D.int 1))) .nil)) (.fn "_simple_parts" (.cons (.idx (.var 0) (.cst (D.int 2))) .nil)))) .nil) .nil) (.cons (.ret (.lst (.cons (.var 0) .nil))) .nil))
/-! _holds_simply: 0 formula, 1 house, 2 word, 3 first, 4 second, 5 many, 6 sort -/
abbrev N__holds_simply : List Str := ["formula", "house", "word", "first", "second", "many", "sort"]
def ir__holds_simply_l0 : IE := .lcp [6] (.name 6) (.val (.csub dc_SORTS_WITH (.var 4))) .none (.idx (.var 1) (.var 6))
def ir__holds_simply : IB := .cons (.asg (.tup (.cons (.name 2) (.cons (.name 3) (.cons (.name 4) .nil)))) (.var 0)) (.cons (.ifs (.cmp .Eq (.var 2) (.cst (D.str "all"))) (.cons (.ret (.cmp .Eq (.idx (.var 1) (.csub dc_SORT_WITH_ALONE (.var 3))) (.cst (D.int 0)))) .nil) .nil) (.cons (.ifs (.cmp .Eq (.var 2) (.cst (D.str "some"))) (.cons (.ret (.cmp .Gt (.idx (.var 1) (.cst c_SORT_WITH_BOTH)) (.cst (D.int 0)))) .nil) .nil) (.cons (.ifs (.cmp .Eq (.var 2) (.cst (D.str "no"))) (.cons (.ret (.cmp .Eq (.idx (.var 1) (.cst c_SORT_WITH_BOTH)) (.cst (D.int 0)))) .nil) .nil) (.cons (.asg (.name 5) (.blt .sum (.cons ir__holds_simply_l0 .nil))) (.cons (.ret (.ite (.cmp .Eq (.var 2) (.cst (D.str "least"))) (.cmp .GtE (.var 5) (.var 3)) (.cmp .Eq (.var 5) (.var 3)))) .nil)))))
/-! holds: 0 formula, 1 house -/
abbrev N_holds : List Str := ["formula", "house"]
def ir_holds : IB := .cons (.expr (.fn "check_formula" (.cons (.var 0) .nil))) (.cons (.expr (.fn "check_house" (.cons (.var 1) .nil))) (.cons (.ret (.cmp .Eq (.fn "meanings" (.cons (.lst (.cons (.var 0) .nil)) (.cons (.lst (.cons (.var 1) .nil)) .nil))) (.lst (.cons (.cst (D.int 1)) .nil)))) .nil))
/-! how: 0 formula, 1 houses, 2 meaning -/
abbrev N_how : List Str := ["formula", "houses", "meaning"]
def ir_how : IB := .cons (.expr (.fn "check_formula" (.cons (.var 0) .nil))) (.cons (.asg (.name 1) (.fn "small_houses" .nil)) (.cons (.asg (.name 2) (.idx (.fn "meanings" (.cons (.lst (.cons (.var 0) .nil)) (.cons (.var 1) .nil))) (.cst (D.int 0)))) (.cons (.ifs (.cmp .Eq (.var 2) (.fn "everywhere" (.cons (.var 1) .nil))) (.cons (.ret (.cst (D.str "always"))) .nil) .nil) (.cons (.ret (.ite (.cmp .Eq (.var 2) (.cst (D.int 0))) (.cst (D.str "never")) (.cst (D.str "sometimes")))) .nil))))
/-! first_house: 0 formula, 1 truth -/
abbrev N_first_house : List Str := ["formula", "truth"]
def ir_first_house : IB := .cons (.expr (.fn "check_formula" (.cons (.var 0) .nil))) (.cons (.expr (.fn "check_truth" (.cons (.var 1) .nil))) (.cons (.ret (.fn "first_of_all" (.cons (.ite (.val (.var 1)) (.var 0) (.tup (.cons (.cst (D.str "not")) (.cons (.var 0) .nil)))) .nil))) .nil))
/-! _law_holds: 0 _law_formula, 1 _law_house, 2 _law_word, 3 _law_truths_here, 4 _law_many, 5 _law_part -/
abbrev N__law_holds : List Str := ["_law_formula", "_law_house", "_law_word", "_law_truths_here", "_law_many", "_law_part"]
def ir__law_holds_l0 : IE := .lcp [5] (.name 5) (.val (.slc (.var 0) (.yes (.cst (D.int 1))) .no)) .none (.fn "_law_holds" (.cons (.var 5) (.cons (.var 1) .nil)))
def ir__law_holds : IB := .cons (.asg (.name 2) (.idx (.var 0) (.cst (D.int 0)))) (.cons (.ifs (.cmp .In (.var 2) (.lst (.cons (.cst (D.str "not")) (.cons (.cst (D.str "and")) (.cons (.cst (D.str "or")) (.cons (.cst (D.str "if")) (.cons (.cst (D.str "other")) .nil))))))) (.cons (.asg (.name 3) ir__law_holds_l0) (.cons (.ifs (.cmp .Eq (.var 2) (.cst (D.str "not"))) (.cons (.ret (.not (.idx (.var 3) (.cst (D.int 0))))) .nil) .nil) (.cons (.ifs (.cmp .Eq (.var 2) (.cst (D.str "and"))) (.cons (.ret (.cmp .NotIn (.cst (D.bl false)) (.var 3))) .nil) .nil) (.cons (.ifs (.cmp .Eq (.var 2) (.cst (D.str "or"))) (.cons (.ret (.cmp .In (.cst (D.bl true)) (.var 3))) .nil) .nil) (.cons (.ret (.ite (.cmp .Eq (.var 2) (.cst (D.str "if"))) (.cmp .NotEq (.var 3) (.lst (.cons (.cst (D.bl true)) (.cons (.cst (D.bl false)) .nil)))) (.cmp .NotEq (.idx (.var 3) (.cst (D.int 0))) (.idx (.var 3) (.cst (D.int 1)))))) .nil))))) .nil) (.cons (.ifs (.cmp .Eq (.var 2) (.cst (D.str "all"))) (.cons (.ret (.cmp .Eq (.idx (.var 1) (.idx (.ddsp ["a", "b"] (.cons (.cst (D.int 1)) (.cons (.cst (D.int 2)) .nil))) (.idx (.var 0) (.cst (D.int 1))))) (.cst (D.int 0)))) .nil) .nil) (.cons (.ifs (.cmp .In (.var 2) (.lst (.cons (.cst (D.str "some")) (.cons (.cst (D.str "no")) .nil)))) (.cons (.ret (.cmp .Eq (.cmp .Eq (.idx (.var 1) (.cst (D.int 3))) (.cst (D.int 0))) (.cmp .Eq (.var 2) (.cst (D.str "no"))))) .nil) .nil) (.cons (.asg (.name 4) (.bin .Add (.idx (.var 1) (.cst (D.int 3))) (.idx (.ddsp ["a", "b", "both"] (.cons (.idx (.var 1) (.cst (D.int 1))) (.cons (.idx (.var 1) (.cst (D.int 2))) (.cons (.cst (D.int 0)) .nil)))) (.idx (.var 0) (.cst (D.int 2)))))) (.cons (.ret (.ite (.cmp .Eq (.var 2) (.cst (D.str "least"))) (.cmp .GtE (.var 4) (.idx (.var 0) (.cst (D.int 1)))) (.cmp .Eq (.var 4) (.idx (.var 0) (.cst (D.int 1)))))) .nil)))))
/-! _law_houses: 0 _law_most, 1 _law_found, 2 _law_sort, 3 _law_later, 4 _law_count, 5 _law_house, 6 _law_people -/
abbrev N__law_houses : List Str := ["_law_most", "_law_found", "_law_sort", "_law_later", "_law_count", "_law_house", "_law_people"]
def ir__law_houses_l0 : IE := .lcp [6, 5] (.tup (.cons (.name 6) (.cons (.name 5) .nil))) (.val (.blt .sorted (.cons (.var 1) .nil))) .none (.var 5)
def ir__law_houses_l1 : IE := .lcp [5] (.name 5) (.val (.var 1)) .none (.tup (.cons (.blt .sum (.cons (.var 5) .nil)) (.cons (.var 5) .nil)))
def ir__law_houses_l2 : IE := .lcp [5] (.name 5) (.val (.var 1)) .none (.bin .Add (.var 5) (.tup (.cons (.var 4) .nil)))
def ir__law_houses_b0 : IB := .cons (.asg (.name 3) (.bin .Add (.var 3) ir__law_houses_l2)) .nil
def ir__law_houses_b1 : IB := .cons (.asg (.name 3) (.lst .nil)) (.cons (.fr (.name 4) (.rng1 (.bin .Add (.var 0) (.cst (D.int 1)))) ir__law_houses_b0) (.cons (.asg (.name 1) (.var 3)) .nil))
def ir__law_houses : IB := .cons (.asg (.name 1) (.lst (.cons (.tup .nil) .nil))) (.cons (.fr (.name 2) (.rng1 (.cst (D.int 4))) ir__law_houses_b1) (.cons (.asg (.name 1) ir__law_houses_l1) (.cons (.ret ir__law_houses_l0) .nil)))
/-! _law_truths: 0 _law_formula, 1 _law_houses_here, 2 _law_house -/
abbrev N__law_truths : List Str := ["_law_formula", "_law_houses_here", "_law_house"]
def ir__law_truths_l0 : IE := .lcp [2] (.name 2) (.val (.var 1)) .none (.fn "_law_holds" (.cons (.var 0) (.cons (.var 2) .nil)))
def ir__law_truths : IB := .cons (.ret ir__law_truths_l0) .nil
/-! check_people: 0 value -/
abbrev N_check_people : List Str := ["value"]
def ir_check_people : IB := .cons (.ifs (.not (.val (.fn "is_number" (.cons (.var 0) (.cons (.cst (D.int 0)) (.cons (.cst c_MOST_PEOPLE) .nil)))))) (.cons (.rai "InvalidNumber") .nil) .nil) .nil
/-! count_houses: 0 formula, 1 people, 2 houses, 3 found, 4 house -/
abbrev N_count_houses : List Str := ["formula", "people", "houses", "found", "house"]
def ir_count_houses_l0 : IE := .lcp [4] (.name 4) (.val (.var 3)) .none (.fn "_count_like" (.cons (.var 4) (.cons (.var 1) .nil)))
def ir_count_houses : IB := .cons (.expr (.fn "check_formula" (.cons (.var 0) .nil))) (.cons (.expr (.fn "check_people" (.cons (.var 1) .nil))) (.cons (.asg (.name 2) (.fn "small_houses" .nil)) (.cons (.asg (.name 3) (.fn "houses_of" (.cons (.idx (.fn "meanings" (.cons (.lst (.cons (.var 0) .nil)) (.cons (.var 2) .nil))) (.cst (D.int 0))) (.cons (.var 2) .nil)))) (.cons (.ret (.blt .sum (.cons ir_count_houses_l0 .nil))) .nil))))
/-! joint_places: 0 signs, 1 found, 2 depth, 3 at, 4 sign -/
abbrev N_joint_places : List Str := ["signs", "found", "depth", "at", "sign"]
def ir_joint_places_b0 : IB := .cons (.ifs (.cmp .Eq (.var 4) (.cst (D.str "("))) (.cons (.asg (.name 2) (.bin .Add (.var 2) (.cst (D.int 1)))) .nil) (.cons (.ifs (.cmp .Eq (.var 4) (.cst (D.str ")"))) (.cons (.asg (.name 2) (.bin .Sub (.var 2) (.cst (D.int 1)))) .nil) (.cons (.ifs (.and (.cmp .Eq (.var 2) (.cst (D.int 0))) (.cmp .In (.var 4) (.cst c_JOINTS))) (.cons (.expr (.app (.var 1) (.var 3))) .nil) .nil) .nil)) .nil)) .nil
def ir_joint_places : IB := .cons (.asg (.name 1) (.lst .nil)) (.cons (.asg (.name 2) (.cst (D.int 0))) (.cons (.fr (.tup (.cons (.name 3) (.cons (.name 4) .nil))) (.enum (.var 0)) ir_joint_places_b0) (.cons (.ret (.var 1)) .nil)))
/-! is_bracketed: 0 signs -/
abbrev N_is_bracketed : List Str := ["signs"]
def ir_is_bracketed : IB := .cons (.ret (.and (.cmp .Eq (.idx (.var 0) (.cst (D.int 0))) (.cst (D.str "("))) (.not (.fn "joint_places" (.cons (.var 0) .nil))))) .nil
/-! check_notice: 0 value -/
abbrev N_check_notice : List Str := ["value"]
def ir_check_notice : IB := .cons (.ifs (.not (.val (.fn "is_notice" (.cons (.var 0) .nil)))) (.cons (.rai "InvalidNotice") .nil) .nil) .nil
/-! readings: 0 notice -/
abbrev N_readings : List Str := ["notice"]
def ir_readings : IB := .cons (.expr (.fn "check_notice" (.cons (.var 0) .nil))) (.cons (.expr (.fn "check_readings" (.cons (.var 0) .nil))) (.cons (.ret (.blt .sorted (.cons (.fn "_row_readings" (.cons (.var 0) .nil)) .nil))) .nil))
/-! check_readings: 0 notice -/
abbrev N_check_readings : List Str := ["notice"]
def ir_check_readings : IB := .cons (.ifs (.cmp .Gt (.fn "_count_row" (.cons (.var 0) .nil)) (.cst c_MOST_READINGS)) (.cons (.raiA "TooMany" (.cst c_MOST_READINGS)) .nil) .nil) .nil
/-! _count_row: 0 signs, 1 total, 2 at, 3 both -/
abbrev N__count_row : List Str := ["signs", "total", "at", "both"]
def ir__count_row_b0 : IB := .cons (.asg (.name 3) (.bin .Mult (.fn "_count_row" (.cons (.slc (.var 0) .no (.yes (.var 2))) .nil)) (.fn "_count_row" (.cons (.slc (.var 0) (.yes (.bin .Add (.var 2) (.cst (D.int 1)))) .no) .nil)))) (.cons (.asg (.name 1) (.bin .Add (.var 1) (.bin .Mult (.blt .len (.cons (.csub dc_JOINT_WORDS (.idx (.var 0) (.var 2))) .nil)) (.var 3)))) .nil)
def ir__count_row : IB := .cons (.ifs (.cmp .Eq (.blt .len (.cons (.var 0) .nil)) (.cst (D.int 1))) (.cons (.ret (.blt .len (.cons (.fn "_clause_readings" (.cons (.idx (.var 0) (.cst (D.int 0))) .nil)) .nil))) .nil) .nil) (.cons (.ifs (.val (.fn "is_bracketed" (.cons (.var 0) .nil))) (.cons (.ret (.fn "_count_row" (.cons (.slc (.var 0) (.yes (.cst (D.int 1))) (.yes (.neg (.cst (D.int 1))))) .nil))) .nil) .nil) (.cons (.asg (.name 1) (.cst (D.int 0))) (.cons (.ifs (.cmp .Eq (.idx (.var 0) (.cst (D.int 0))) (.cst (D.str "not"))) (.cons (.asg (.name 1) (.fn "_count_row" (.cons (.slc (.var 0) (.yes (.cst (D.int 1))) .no) .nil))) .nil) .nil) (.cons (.fr (.name 2) (.val (.fn "joint_places" (.cons (.var 0) .nil))) ir__count_row_b0) (.cons (.ret (.var 1)) .nil)))))
/-! _row_readings: 0 signs, 1 found, 2 at, 3 ahead, 4 behind, 5 one, 6 word, 7 other -/
abbrev N__row_readings : List Str := ["signs", "found", "at", "ahead", "behind", "one", "word", "other"]
def ir__row_readings_l0 : IE := .lcn [6, 5, 7] (.name 6) (.val (.csub dc_JOINT_WORDS (.idx (.var 0) (.var 2)))) .none (.gen [5, 7] (.name 5) (.val (.var 3)) .none (.gen [7] (.name 7) (.val (.var 4)) .none (.elt (.tup (.cons (.var 6) (.cons (.var 5) (.cons (.var 7) .nil)))))))
def ir__row_readings_b0 : IB := .cons (.asg (.name 3) (.fn "_row_readings" (.cons (.slc (.var 0) .no (.yes (.var 2))) .nil))) (.cons (.asg (.name 4) (.fn "_row_readings" (.cons (.slc (.var 0) (.yes (.bin .Add (.var 2) (.cst (D.int 1)))) .no) .nil))) (.cons (.expr (.extd (.var 1) ir__row_readings_l0)) .nil))
def ir__row_readings_l1 : IE := .lcp [5] (.name 5) (.val (.fn "_row_readings" (.cons (.slc (.var 0) (.yes (.cst (D.int 1))) .no) .nil))) .none (.tup (.cons (.cst (D.str "not")) (.cons (.var 5) .nil)))
def ir__row_readings : IB := .cons (.ifs (.cmp .Eq (.blt .len (.cons (.var 0) .nil)) (.cst (D.int 1))) (.cons (.ret (.fn "_clause_readings" (.cons (.idx (.var 0) (.cst (D.int 0))) .nil))) .nil) .nil) (.cons (.ifs (.val (.fn "is_bracketed" (.cons (.var 0) .nil))) (.cons (.ret (.fn "_row_readings" (.cons (.slc (.var 0) (.yes (.cst (D.int 1))) (.yes (.neg (.cst (D.int 1))))) .nil))) .nil) .nil) (.cons (.asg (.name 1) (.lst .nil)) (.cons (.ifs (.cmp .Eq (.idx (.var 0) (.cst (D.int 0))) (.cst (D.str "not"))) (.cons (.asg (.name 1) ir__row_readings_l1) .nil) .nil) (.cons (.fr (.name 2) (.val (.fn "joint_places" (.cons (.var 0) .nil))) ir__row_readings_b0) (.cons (.ret (.var 1)) .nil)))))
/-! _clause_readings: 0 clause, 1 word, 2 first, 3 second -/
abbrev N__clause_readings : List Str := ["clause", "word", "first", "second"]
def ir__clause_readings : IB := .cons (.asg (.tup (.cons (.name 1) (.cons (.name 2) (.cons (.name 3) .nil)))) (.var 0)) (.cons (.ifs (.cmp .Eq (.var 1) (.cst (D.str "allnot"))) (.cons (.ret (.lst (.cons (.tup (.cons (.cst (D.str "no")) (.cons (.var 2) (.cons (.var 3) .nil)))) (.cons (.tup (.cons (.cst (D.str "not")) (.cons (.tup (.cons (.cst (D.str "all")) (.cons (.var 2) (.cons (.var 3) .nil)))) .nil))) .nil)))) .nil) .nil) (.cons (.ifs (.cmp .Eq (.var 1) (.cst (D.str "has"))) (.cons (.ret (.lst (.cons (.tup (.cons (.cst (D.str "least")) (.cons (.var 2) (.cons (.var 3) .nil)))) (.cons (.tup (.cons (.cst (D.str "just")) (.cons (.var 2) (.cons (.var 3) .nil)))) .nil)))) .nil) .nil) (.cons (.ret (.lst (.cons (.var 0) .nil))) .nil)))
/-! relation: 0 one, 1 other, 2 first, 3 second, 4 shared -/
abbrev N_relation : List Str := ["one", "other", "first", "second", "shared"]
def ir_relation : IB := .cons (.expr (.fn "check_formula" (.cons (.var 0) .nil))) (.cons (.expr (.fn "check_formula" (.cons (.var 1) .nil))) (.cons (.asg (.tup (.cons (.name 2) (.cons (.name 3) .nil))) (.fn "meanings" (.cons (.lst (.cons (.var 0) (.cons (.var 1) .nil))) (.cons (.fn "small_houses" .nil) .nil)))) (.cons (.asg (.name 4) (.bin .BitAnd (.var 2) (.var 3))) (.cons (.ifs (.cmp .Eq (.var 2) (.var 3)) (.cons (.ret (.cst (D.str "same"))) .nil) .nil) (.cons (.ifs (.cmp .Eq (.var 4) (.var 2)) (.cons (.ret (.cst (D.str "within"))) .nil) .nil) (.cons (.ifs (.cmp .Eq (.var 4) (.var 3)) (.cons (.ret (.cst (D.str "around"))) .nil) .nil) (.cons (.ret (.ite (.cmp .Eq (.var 4) (.cst (D.int 0))) (.cst (D.str "apart")) (.cst (D.str "crossing")))) .nil)))))))
/-! parting: 0 one, 1 other -/
abbrev N_parting : List Str := ["one", "other"]
def ir_parting : IB := .cons (.expr (.fn "check_formula" (.cons (.var 0) .nil))) (.cons (.expr (.fn "check_formula" (.cons (.var 1) .nil))) (.cons (.ret (.fn "first_of_all" (.cons (.tup (.cons (.cst (D.str "other")) (.cons (.var 0) (.cons (.var 1) .nil)))) .nil))) .nil))
/-! harmless: 0 notice -/
abbrev N_harmless : List Str := ["notice"]
def ir_harmless : IB := .cons (.expr (.fn "check_notice" (.cons (.var 0) .nil))) (.cons (.ret (.cmp .Eq (.blt .len (.cons (.fn "kept_readings" (.cons (.var 0) (.cons (.tup .nil) .nil))) .nil)) (.cst (D.int 1)))) .nil)
/-! check_cases: 0 value, 1 pair -/
abbrev N_check_cases : List Str := ["value", "pair"]
def ir_check_cases_l0 : IE := .lcp [1] (.name 1) (.val (.var 0)) .none (.fn "_is_case" (.cons (.var 1) .nil))
def ir_check_cases : IB := .cons (.ifs (.or (.not (.val (.blt .isinst (.cons (.var 0) (.cons (.cst (D.ty "tuple")) .nil))))) (.or (.cmp .Gt (.blt .len (.cons (.var 0) .nil)) (.cst c_MOST_DECIDED)) (.not (.val (.blt .all (.cons ir_check_cases_l0 .nil)))))) (.cons (.rai "InvalidCases") .nil) .nil) .nil
/-! _is_case: 0 value -/
abbrev N__is_case : List Str := ["value"]
def ir__is_case : IB := .cons (.ifs (.or (.not (.val (.blt .isinst (.cons (.var 0) (.cons (.cst (D.ty "tuple")) .nil))))) (.cmp .NotEq (.blt .len (.cons (.var 0) .nil)) (.cst (D.int 2)))) (.cons (.ret (.cst (D.bl false))) .nil) .nil) (.cons (.ret (.and (.fn "is_house" (.cons (.idx (.var 0) (.cst (D.int 0))) .nil)) (.blt .isinst (.cons (.idx (.var 0) (.cst (D.int 1))) (.cons (.cst (D.ty "bool")) .nil))))) .nil)
/-! left: 0 notice, 1 decided -/
abbrev N_left : List Str := ["notice", "decided"]
def ir_left : IB := .cons (.expr (.fn "check_notice" (.cons (.var 0) .nil))) (.cons (.expr (.fn "check_cases" (.cons (.var 1) .nil))) (.cons (.ret (.fn "kept_numbers" (.cons (.var 0) (.cons (.var 1) .nil)))) .nil))
/-! told: 0 notice, 1 decided, 2 house, 3 at, 4 truths, 5 meaning -/
abbrev N_told : List Str := ["notice", "decided", "house", "at", "truths", "meaning"]
def ir_told_l0 : IE := .lcp [5] (.name 5) (.val (.fn "kept_readings" (.cons (.var 0) (.cons (.var 1) .nil)))) .none (.fn "holds_at" (.cons (.var 5) (.cons (.var 3) .nil)))
def ir_told : IB := .cons (.expr (.fn "check_notice" (.cons (.var 0) .nil))) (.cons (.expr (.fn "check_cases" (.cons (.var 1) .nil))) (.cons (.expr (.fn "check_house" (.cons (.var 2) .nil))) (.cons (.asg (.name 3) (.fn "place_of" (.cons (.var 2) (.cons (.fn "small_houses" .nil) .nil)))) (.cons (.asg (.name 4) ir_told_l0) (.cons (.ifs (.and (.cmp .In (.cst (D.bl true)) (.var 4)) (.cmp .In (.cst (D.bl false)) (.var 4))) (.cons (.ret (.cst (D.non))) .nil) .nil) (.cons (.ret (.ite (.val (.var 4)) (.idx (.var 4) (.cst (D.int 0))) (.cst (D.non)))) .nil))))))
/-! check_plan: 0 value, 1 many -/
abbrev N_check_plan : List Str := ["value", "many"]
def ir_check_plan : IB := .cons (.ifs (.not (.val (.fn "_is_plan" (.cons (.var 0) (.cons (.var 1) (.cons (.cst c_MOST_QUESTIONS) .nil)))))) (.cons (.rai "InvalidPlan") .nil) .nil) .nil
/-! _is_plan: 0 value, 1 many, 2 questions -/
abbrev N__is_plan : List Str := ["value", "many", "questions"]
def ir__is_plan : IB := .cons (.ifs (.not (.val (.blt .isinst (.cons (.var 0) (.cons (.cst (D.ty "tuple")) .nil))))) (.cons (.ret (.fn "is_number" (.cons (.var 0) (.cons (.cst (D.int 0)) (.cons (.bin .Sub (.var 1) (.cst (D.int 1))) .nil))))) .nil) .nil) (.cons (.ifs (.or (.cmp .NotEq (.blt .len (.cons (.var 0) .nil)) (.cst (D.int 4))) (.or (.cmp .NotEq (.idx (.var 0) (.cst (D.int 0))) (.cst (D.str "ask"))) (.or (.not (.val (.fn "is_house" (.cons (.idx (.var 0) (.cst (D.int 1))) .nil)))) (.cmp .Eq (.var 2) (.cst (D.int 0)))))) (.cons (.ret (.cst (D.bl false))) .nil) .nil) (.cons (.ret (.and (.fn "_is_plan" (.cons (.idx (.var 0) (.cst (D.int 2))) (.cons (.var 1) (.cons (.bin .Sub (.var 2) (.cst (D.int 1))) .nil)))) (.fn "_is_plan" (.cons (.idx (.var 0) (.cst (D.int 3))) (.cons (.var 1) (.cons (.bin .Sub (.var 2) (.cst (D.int 1))) .nil)))))) .nil))
/-! best_house: 0 notice, 1 decided, 2 unlike, 3 houses, 4 many, 5 at -/
abbrev N_best_house : List Str := ["notice", "decided", "unlike", "houses", "many", "at"]
def ir_best_house_l0 : IE := .lcp [5] (.name 5) (.rng1 (.blt .len (.cons (.var 3) .nil))) .none (.tup (.cons (.fn "_most_left" (.cons (.var 2) (.cons (.var 5) .nil))) (.cons (.var 5) .nil)))
def ir_best_house : IB := .cons (.expr (.fn "check_notice" (.cons (.var 0) .nil))) (.cons (.expr (.fn "check_cases" (.cons (.var 1) .nil))) (.cons (.asg (.name 2) (.blt .list (.cons (.fn "kept_readings" (.cons (.var 0) (.cons (.var 1) .nil))) .nil))) (.cons (.ifs (.cmp .Lt (.blt .len (.cons (.var 2) .nil)) (.cst (D.int 2))) (.cons (.ret (.cst (D.non))) .nil) .nil) (.cons (.asg (.name 3) (.fn "small_houses" .nil)) (.cons (.asg (.tup (.cons (.name 4) (.cons (.name 5) .nil))) (.blt .min2 (.cons ir_best_house_l0 .nil))) (.cons (.ret (.tup (.cons (.var 4) (.cons (.idx (.var 3) (.var 5)) .nil)))) .nil))))))
/-! fewest_questions: 0 notice, 1 decided -/
abbrev N_fewest_questions : List Str := ["notice", "decided"]
def ir_fewest_questions : IB := .cons (.expr (.fn "check_notice" (.cons (.var 0) .nil))) (.cons (.expr (.fn "check_cases" (.cons (.var 1) .nil))) (.cons (.ret (.idx (.fn "_best_plan" (.cons (.var 0) (.cons (.var 1) .nil))) (.cst (D.int 0)))) .nil))
/-! plan_for: 0 notice, 1 decided -/
abbrev N_plan_for : List Str := ["notice", "decided"]
def ir_plan_for : IB := .cons (.expr (.fn "check_notice" (.cons (.var 0) .nil))) (.cons (.expr (.fn "check_cases" (.cons (.var 1) .nil))) (.cons (.ret (.idx (.fn "_best_plan" (.cons (.var 0) (.cons (.var 1) .nil))) (.cst (D.int 1)))) .nil))
/-! _most_left: 0 unlike, 1 at, 2 let, 3 meaning -/
abbrev N__most_left : List Str := ["unlike", "at", "let", "meaning"]
def ir__most_left_l0 : IE := .lcp [3] (.name 3) (.val (.var 0)) (.one (.val (.fn "holds_at" (.cons (.var 3) (.cons (.var 1) .nil))))) (.cst (D.int 1))
def ir__most_left : IB := .cons (.asg (.name 2) (.blt .sum (.cons ir__most_left_l0 .nil))) (.cons (.ret (.blt .max2 (.cons (.var 2) (.cons (.bin .Sub (.blt .len (.cons (.var 0) .nil)) (.var 2)) .nil)))) .nil)
/-! _group_at: 0 unlike, 1 at, 2 number, 3 meaning -/
abbrev N__group_at : List Str := ["unlike", "at", "number", "meaning"]
def ir__group_at_l0 : IE := .lcp [2, 3] (.tup (.cons (.name 2) (.cons (.name 3) .nil))) (.enum (.var 0)) (.one (.val (.fn "holds_at" (.cons (.var 3) (.cons (.var 1) .nil))))) (.bin .LShift (.cst (D.int 1)) (.var 2))
def ir__group_at : IB := .cons (.ret (.blt .sum (.cons ir__group_at_l0 .nil))) .nil
/-! _questions: 0 group, 1 let, 2 best, 3 yes, 4 no -/
abbrev N__questions : List Str := ["group", "let", "best", "yes", "no"]
def ir__questions : IB := .cons (.asg (.tup (.cons (.name 3) (.cons (.name 4) .nil))) (.fn "_parted" (.cons (.var 0) (.cons (.var 1) .nil)))) (.cons (.ret (.bin .Add (.cst (D.int 1)) (.blt .max2 (.cons (.idx (.idx (.var 2) (.var 3)) (.cst (D.int 0))) (.cons (.idx (.idx (.var 2) (.var 4)) (.cst (D.int 0))) .nil))))) .nil)
/-! _end: 0 plan, 1 meaning, 2 houses, 3 at -/
abbrev N__end : List Str := ["plan", "meaning", "houses", "at"]
def ir__end_c0 : IT := .val (.blt .isinst (.cons (.var 0) (.cons (.cst (D.ty "tuple")) .nil)))
def ir__end_b0 : IB := .cons (.asg (.name 3) (.fn "place_of" (.cons (.idx (.var 0) (.cst (D.int 1))) (.cons (.var 2) .nil)))) (.cons (.asg (.name 0) (.ite (.val (.fn "holds_at" (.cons (.var 1) (.cons (.var 3) .nil)))) (.idx (.var 0) (.cst (D.int 2))) (.idx (.var 0) (.cst (D.int 3))))) .nil)
def ir__end : IB := .cons (.wh ir__end_c0 ir__end_b0) (.cons (.ret (.var 0)) .nil)
/-! notice_text: 0 notice, 1 sign -/
abbrev N_notice_text : List Str := ["notice", "sign"]
def ir_notice_text_l0 : IE := .lcp [1] (.name 1) (.val (.var 0)) .none (.fn "_word" (.cons (.var 1) .nil))
def ir_notice_text : IB := .cons (.expr (.fn "check_notice" (.cons (.var 0) .nil))) (.cons (.ret (.jn (.cst (D.str " ")) ir_notice_text_l0)) .nil)
/-! read_notice: 0 value, 1 signs, 2 words, 3 number, 4 word, 5 notice, 6 sign -/
abbrev N_read_notice : List Str := ["value", "signs", "words", "number", "word", "notice", "sign"]
def ir_read_notice_l0 : IE := .lcp [4] (.name 4) (.val (.var 2)) .none (.idx (.var 1) (.var 4))
def ir_read_notice_b0 : IB := .cons (.ifs (.cmp .NotIn (.var 4) (.var 1)) (.cons (.raiA "InvalidText" (.var 3)) .nil) .nil) .nil
def ir_read_notice_d0 : IE := .dcp [6] (.name 6) (.val (.fn "_all_signs" .nil)) .none (.fn "_word" (.cons (.var 6) .nil)) (.var 6)
def ir_read_notice : IB := .cons (.ifs (.not (.val (.blt .isinst (.cons (.var 0) (.cons (.cst (D.ty "str")) .nil))))) (.cons (.raiA "InvalidText" (.cst (D.int 0))) .nil) .nil) (.cons (.asg (.name 1) ir_read_notice_d0) (.cons (.asg (.name 2) (.spl (.var 0) (.cst (D.str " ")))) (.cons (.fr (.tup (.cons (.name 3) (.cons (.name 4) .nil))) (.enum1 (.var 2)) ir_read_notice_b0) (.cons (.asg (.name 5) (.blt .tuple (.cons ir_read_notice_l0 .nil))) (.cons (.ifs (.not (.val (.fn "is_notice" (.cons (.var 5) .nil)))) (.cons (.raiA "InvalidText" (.bin .Add (.blt .len (.cons (.var 2) .nil)) (.cst (D.int 1)))) .nil) .nil) (.cons (.ret (.var 5)) .nil))))))
/-! _word: 0 sign, 1 item -/
abbrev N__word : List Str := ["sign", "item"]
def ir__word_l0 : IE := .lcp [1] (.name 1) (.val (.var 0)) .none (.blt .str (.cons (.var 1) .nil))
def ir__word : IB := .cons (.ifs (.val (.blt .isinst (.cons (.var 0) (.cons (.cst (D.ty "str")) .nil)))) (.cons (.ret (.var 0)) .nil) .nil) (.cons (.ret (.jn (.cst (D.str "-")) ir__word_l0)) .nil)
/-! _all_signs: 0 marked, 1 counted, 2 word, 3 first, 4 second, 5 many, 6 mark -/
abbrev N__all_signs : List Str := ["marked", "counted", "word", "first", "second", "many", "mark"]
def ir__all_signs_l0 : IE := .lcn [2, 5, 6] (.name 2) (.val (.cst c_COUNT_CLAUSES)) .none (.gen [5, 6] (.name 5) (.rng2 (.cst (D.int 1)) (.bin .Add (.cst c_MOST_TOLD) (.cst (D.int 1)))) .none (.gen [6] (.name 6) (.val (.cst c_COUNTED)) .none (.elt (.tup (.cons (.var 2) (.cons (.var 5) (.cons (.var 6) .nil)))))))
def ir__all_signs_l1 : IE := .lcn [2, 3, 4] (.name 2) (.val (.cst c_MARK_CLAUSES)) .none (.gen [3, 4] (.tup (.cons (.name 3) (.cons (.name 4) .nil))) (.val (.cst c_MARKS)) .none (.elt (.tup (.cons (.var 2) (.cons (.var 3) (.cons (.var 4) .nil))))))
def ir__all_signs : IB := .cons (.asg (.name 0) ir__all_signs_l1) (.cons (.asg (.name 1) ir__all_signs_l0) (.cons (.ret (.lst (.star (.cst c_JOINTS) (.star (.cst c_OTHER_SIGNS) (.star (.var 0) (.star (.var 1) .nil)))))) .nil))
/-! least_brackets: 0 notice, 1 tried, 2 found, 3 _, 4 sign -/
abbrev N_least_brackets : List Str := ["notice", "tried", "found", "_", "sign"]
def ir_least_brackets_b0 : IB := .cons (.ifs (.not (.val (.var 2))) (.cons (.asg (.name 1) (.fn "_with_a_pair_more" (.cons (.var 1) .nil))) (.cons (.asg (.name 2) (.fn "_harmless_ones" (.cons (.var 1) .nil))) .nil)) .nil) .nil
def ir_least_brackets_l0 : IE := .lcp [4] (.name 4) (.val (.var 0)) (.one (.val (.blt .isinst (.cons (.var 4) (.cons (.cst (D.ty "tuple")) .nil))))) (.var 4)
def ir_least_brackets : IB := .cons (.expr (.fn "check_notice" (.cons (.var 0) .nil))) (.cons (.expr (.fn "check_readings" (.cons (.var 0) .nil))) (.cons (.ifs (.cmp .Gt (.blt .len (.cons ir_least_brackets_l0 .nil)) (.cst c_CLAUSE_LIMIT)) (.cons (.raiA "TooMany" (.cst c_CLAUSE_LIMIT)) .nil) .nil) (.cons (.ifs (.cmp .Gt (.blt .len (.cons (.var 0) .nil)) (.cst c_SIGN_LIMIT)) (.cons (.raiA "TooMany" (.cst c_SIGN_LIMIT)) .nil) .nil) (.cons (.asg (.name 1) (.lst (.cons (.var 0) .nil))) (.cons (.asg (.name 2) (.fn "_harmless_ones" (.cons (.var 1) .nil))) (.cons (.fr (.name 3) (.rng1 (.cst c_MOST_PAIRS)) ir_least_brackets_b0) (.cons (.ret (.fn "@srt" (.cons (.var 2) .nil))) .nil)))))))
/-! _harmless_ones: 0 notices, 1 one -/
abbrev N__harmless_ones : List Str := ["notices", "one"]
def ir__harmless_ones_l0 : IE := .lcp [1] (.name 1) (.val (.var 0)) (.one (.val (.fn "harmless" (.cons (.var 1) .nil)))) (.var 1)
def ir__harmless_ones : IB := .cons (.ret ir__harmless_ones_l0) .nil
/-! is_book: 0 value, 1 notice -/
abbrev N_is_book : List Str := ["value", "notice"]
def ir_is_book_l0 : IE := .lcp [1] (.name 1) (.val (.var 0)) .none (.fn "is_notice" (.cons (.var 1) .nil))
def ir_is_book : IB := .cons (.ifs (.or (.not (.val (.blt .isinst (.cons (.var 0) (.cons (.cst (D.ty "tuple")) .nil))))) (.not (.chn .LtE .LtE (.cst (D.int 1)) (.blt .len (.cons (.var 0) .nil)) (.cst c_MOST_NOTICES)))) (.cons (.ret (.cst (D.bl false))) .nil) .nil) (.cons (.ret (.blt .all (.cons ir_is_book_l0 .nil))) .nil)
/-! count_meanings: 0 book -/
abbrev N_count_meanings : List Str := ["book"]
def ir_count_meanings : IB := .cons (.expr (.fn "_check_book" (.cons (.var 0) .nil))) (.cons (.ret (.blt .len (.cons (.fn "_joined" (.cons (.fn "_rows" (.cons (.var 0) .nil)) .nil)) .nil))) .nil)
/-! clash: 0 book, 1 found -/
abbrev N_clash : List Str := ["book", "found"]
def ir_clash : IB := .cons (.expr (.fn "_check_book" (.cons (.var 0) .nil))) (.cons (.asg (.name 1) (.fn "_joined" (.cons (.fn "_rows" (.cons (.var 0) .nil)) .nil))) (.cons (.ifs (.cmp .NotIn (.cst (D.int 0)) (.var 1)) (.cons (.ret (.cst (D.str "never"))) .nil) .nil) (.cons (.ret (.ite (.cmp .Eq (.blt .len (.cons (.var 1) .nil)) (.cst (D.int 1))) (.cst (D.str "always")) (.cst (D.str "sometimes")))) .nil)))
/-! silent: 0 book, 1 rows, 2 at, 3 row -/
abbrev N_silent : List Str := ["book", "rows", "at", "row"]
def ir_silent_l0 : IE := .lcp [2, 3] (.tup (.cons (.name 2) (.cons (.name 3) .nil))) (.enum (.var 1)) (.one (.val (.fn "_adds_nothing" (.cons (.var 3) (.cons (.fn "_joined" (.cons (.bin .Add (.slc (.var 1) .no (.yes (.var 2))) (.slc (.var 1) (.yes (.bin .Add (.var 2) (.cst (D.int 1)))) .no)) .nil)) .nil))))) (.var 2)
def ir_silent : IB := .cons (.expr (.fn "_check_book" (.cons (.var 0) .nil))) (.cons (.asg (.name 1) (.fn "_rows" (.cons (.var 0) .nil))) (.cons (.expr (.fn "_joined" (.cons (.var 1) .nil))) (.cons (.ret ir_silent_l0) .nil)))
/-! alike: 0 one, 1 other, 2 first, 3 second -/
abbrev N_alike : List Str := ["one", "other", "first", "second"]
def ir_alike : IB := .cons (.asg (.tup (.cons (.name 2) (.cons (.name 3) .nil))) (.fn "_both_joined" (.cons (.var 0) (.cons (.var 1) .nil)))) (.cons (.ret (.cmp .Eq (.var 2) (.var 3))) .nil)
/-! only_in: 0 one, 1 other, 2 first, 3 second, 4 meaning -/
abbrev N_only_in : List Str := ["one", "other", "first", "second", "meaning"]
def ir_only_in_l0 : IE := .lcp [4] (.name 4) (.val (.var 2)) (.one (.cmp .NotIn (.var 4) (.var 3))) (.var 4)
def ir_only_in : IB := .cons (.asg (.tup (.cons (.name 2) (.cons (.name 3) .nil))) (.fn "_both_joined" (.cons (.var 0) (.cons (.var 1) .nil)))) (.cons (.ret (.blt .len (.cons ir_only_in_l0 .nil))) .nil)
/-! _check_book: 0 value -/
abbrev N__check_book : List Str := ["value"]
def ir__check_book : IB := .cons (.ifs (.not (.val (.fn "is_book" (.cons (.var 0) .nil)))) (.cons (.rai "InvalidBook") .nil) .nil) .nil
/-! _rows: 0 book, 1 notice -/
abbrev N__rows : List Str := ["book", "notice"]
def ir__rows_l0 : IE := .lcp [1] (.name 1) (.val (.var 0)) .none (.blt .list (.cons (.fn "kept_readings" (.cons (.var 1) (.cons (.tup .nil) .nil))) .nil))
def ir__rows : IB := .cons (.ret ir__rows_l0) .nil
/-! _adds_nothing: 0 row, 1 others, 2 whole, 3 meaning -/
abbrev N__adds_nothing : List Str := ["row", "others", "whole", "meaning"]
def ir__adds_nothing_l0 : IE := .lcp [3] (.name 3) (.val (.var 0)) .none (.cmp .Eq (.bin .BitAnd (.var 3) (.var 2)) (.var 2))
def ir__adds_nothing_b0 : IB := .cons (.asg (.name 2) (.bin .BitOr (.var 2) (.var 3))) .nil
def ir__adds_nothing : IB := .cons (.asg (.name 2) (.cst (D.int 0))) (.cons (.fr (.name 3) (.val (.var 1)) ir__adds_nothing_b0) (.cons (.ret (.blt .all (.cons ir__adds_nothing_l0 .nil))) .nil))
/-! reach: 0 formula -/
abbrev N_reach : List Str := ["formula"]
def ir_reach : IB := .cons (.expr (.fn "check_formula" (.cons (.var 0) .nil))) (.cons (.ret (.fn "_reach" (.cons (.fn "_small_houses_of" (.cons (.var 0) .nil)) .nil))) .nil)
/-! table: 0 formula, 1 found, 2 most, 3 house, 4 sort -/
abbrev N_table : List Str := ["formula", "found", "most", "house", "sort"]
def ir_table_l0 : IE := .lcp [4] (.name 4) (.rng1 (.cst c_SORTS)) .none (.cmp .LtE (.idx (.var 3) (.var 4)) (.idx (.var 2) (.var 4)))
def ir_table_l1 : IE := .lcp [3] (.name 3) (.val (.var 1)) (.one (.val (.blt .all (.cons ir_table_l0 .nil)))) (.var 3)
def ir_table : IB := .cons (.expr (.fn "check_formula" (.cons (.var 0) .nil))) (.cons (.asg (.name 1) (.fn "_small_houses_of" (.cons (.var 0) .nil))) (.cons (.asg (.name 2) (.fn "_reach" (.cons (.var 1) .nil))) (.cons (.ret (.blt .sorted (.cons ir_table_l1 .nil))) .nil)))
/-! _small_houses_of: 0 formula, 1 houses -/
abbrev N__small_houses_of : List Str := ["formula", "houses"]
def ir__small_houses_of : IB := .cons (.asg (.name 1) (.fn "small_houses" .nil)) (.cons (.ret (.fn "houses_of" (.cons (.idx (.fn "meanings" (.cons (.lst (.cons (.var 0) .nil)) (.cons (.var 1) .nil))) (.cst (D.int 0))) (.cons (.var 1) .nil)))) .nil)
/-! _last_matters: 0 house, 1 sort, 2 held, 3 fewer -/
abbrev N__last_matters : List Str := ["house", "sort", "held", "fewer"]
def ir__last_matters : IB := .cons (.ifs (.cmp .Eq (.idx (.var 0) (.var 1)) (.cst (D.int 0))) (.cons (.ret (.cst (D.bl false))) .nil) .nil) (.cons (.asg (.name 3) (.bin .Add (.bin .Add (.slc (.var 0) .no (.yes (.var 1))) (.tup (.cons (.bin .Sub (.idx (.var 0) (.var 1)) (.cst (D.int 1))) .nil))) (.slc (.var 0) (.yes (.bin .Add (.var 1) (.cst (D.int 1)))) .no))) (.cons (.ret (.cmp .NotEq (.cmp .In (.var 0) (.var 2)) (.cmp .In (.var 3) (.var 2)))) .nil))
/-! check_index: 0 value, 1 many -/
abbrev N_check_index : List Str := ["value", "many"]
def ir_check_index : IB := .cons (.ifs (.not (.val (.fn "is_number" (.cons (.var 0) (.cons (.cst (D.int 0)) (.cons (.bin .Sub (.var 1) (.cst (D.int 1))) .nil)))))) (.cons (.rai "InvalidIndex") .nil) .nil) .nil
/-! _wall: 0 k -/
abbrev N__wall : List Str := ["k"]
def ir__wall_c0 : IT := .val (.cst (D.bl true))
def ir__wall_b0 : IB := .cons .pass .nil
def ir__wall : IB := .cons (.wh ir__wall_c0 ir__wall_b0) .nil
/-! is_reading: 0 notice, 1 formula -/
abbrev N_is_reading : List Str := ["notice", "formula"]
def ir_is_reading : IB := .cons (.expr (.fn "check_notice" (.cons (.var 0) .nil))) (.cons (.expr (.fn "check_formula" (.cons (.var 1) .nil))) (.cons (.ret (.fn "_reads_as" (.cons (.var 0) (.cons (.var 1) .nil)))) .nil))
/-! _reads_as: 0 signs, 1 formula, 2 at -/
abbrev N__reads_as : List Str := ["signs", "formula", "at"]
def ir__reads_as_b0 : IB := .cons (.ifs (.and (.cmp .In (.idx (.var 1) (.cst (D.int 0))) (.csub dc_JOINT_WORDS (.idx (.var 0) (.var 2)))) (.val (.fn "_reads_as" (.cons (.slc (.var 0) .no (.yes (.var 2))) (.cons (.idx (.var 1) (.cst (D.int 1))) .nil))))) (.cons (.ifs (.val (.fn "_reads_as" (.cons (.slc (.var 0) (.yes (.bin .Add (.var 2) (.cst (D.int 1)))) .no) (.cons (.idx (.var 1) (.cst (D.int 2))) .nil)))) (.cons (.ret (.cst (D.bl true))) .nil) .nil) .nil) .nil) .nil
def ir__reads_as : IB := .cons (.ifs (.cmp .Eq (.blt .len (.cons (.var 0) .nil)) (.cst (D.int 1))) (.cons (.ret (.cmp .In (.var 1) (.fn "_clause_readings" (.cons (.idx (.var 0) (.cst (D.int 0))) .nil)))) .nil) .nil) (.cons (.ifs (.val (.fn "is_bracketed" (.cons (.var 0) .nil))) (.cons (.ret (.fn "_reads_as" (.cons (.slc (.var 0) (.yes (.cst (D.int 1))) (.yes (.neg (.cst (D.int 1))))) (.cons (.var 1) .nil)))) .nil) .nil) (.cons (.ifs (.cmp .Eq (.idx (.var 1) (.cst (D.int 0))) (.cst (D.str "not"))) (.cons (.ret (.and (.cmp .Eq (.idx (.var 0) (.cst (D.int 0))) (.cst (D.str "not"))) (.fn "_reads_as" (.cons (.slc (.var 0) (.yes (.cst (D.int 1))) .no) (.cons (.idx (.var 1) (.cst (D.int 1))) .nil))))) .nil) .nil) (.cons (.fr (.name 2) (.val (.fn "joint_places" (.cons (.var 0) .nil))) ir__reads_as_b0) (.cons (.ret (.cst (D.bl false))) .nil))))
end KP

set_option Elab.async false
set_option linter.all false
set_option maxRecDepth 100000
set_option maxHeartbeats 1000000

namespace KS
open PySem PySem.Spec PyProof.Rows L2 DW KP

/-! ### written values -/
theorem bb (b : Bool) : b = true ∨ b = false := by cases b <;> simp
abbrev sD (x : String) : D := .str (Str.ofString x)
theorem wk_op : wk (.str "(") = true := by decide +kernel
theorem wk_cl : wk (.str ")") = true := by decide +kernel
theorem wk_not : wk (.str "not") = true := by decide +kernel
theorem wk_J : wk (.tup [.str "and", .str "or", .str "unless", .str "onlyif"]) = true := by decide +kernel
theorem wk_O : wk (.tup [.str "not", .str "(", .str ")"]) = true := by decide +kernel
theorem wk_P : wk (.tup [.str "and", .str "or", .str "if", .str "other"]) = true := by decide +kernel
theorem wk_M : wk (.tup [.tup [.str "a", .str "b"], .tup [.str "b", .str "a"]]) = true := by decide +kernel
theorem wk_C : wk (.tup [.str "a", .str "b", .str "both"]) = true := by decide +kernel
theorem wk_w4 : wk (.tup [.str "all", .str "some", .str "no", .str "allnot"]) = true := by decide +kernel
theorem wk_w3 : wk (.tup [.str "all", .str "some", .str "no"]) = true := by decide +kernel
theorem wk_h : wk (.tup [.str "has"]) = true := by decide +kernel
theorem wk_lj : wk (.tup [.str "least", .str "just"]) = true := by decide +kernel
theorem wk_int (i : Int) : wk (.int i) = true := rfl
theorem fit_int (S : Sto) (i : Int) : Fit S (.int i) := ⟨1, 1, by omega, rfl⟩

/-! ### kinds of values -/
def isTup : D → Bool
  | .tup _ => true
  | .ktup _ => true
  | _ => false
def isStr : D → Bool
  | .str _ => true
  | _ => false
def isInt : D → Bool
  | .int _ => true
  | .bl _ => true
  | _ => false
def isBl : D → Bool
  | .bl _ => true
  | _ => false
theorem kit_tuple (d : D) (h : ∀ n, d ≠ .ty n) : kitB (tyOf d) "tuple" = some (isTup d) := by
  cases d with
  | ty n => exact absurd rfl (h n)
  | non => exact (by decide +kernel : kitB "NoneType" "tuple" = some false)
  | bl b => exact (by decide +kernel : kitB "bool" "tuple" = some false)
  | int b => exact (by decide +kernel : kitB "int" "tuple" = some false)
  | str b => exact (by decide +kernel : kitB "str" "tuple" = some false)
  | tup b => exact (by decide +kernel : kitB "tuple" "tuple" = some true)
  | rol b => exact (by decide +kernel : kitB "list" "tuple" = some false)
  | ref b => exact (by decide +kernel : kitB "list" "tuple" = some false)
  | ktup b => exact (by decide +kernel : kitB "tuple" "tuple" = some true)
  | fnv b => exact (by decide +kernel : kitB "function" "tuple" = some false)
theorem kit_str (d : D) (h : ∀ n, d ≠ .ty n) : kitB (tyOf d) "str" = some (isStr d) := by
  cases d with
  | ty n => exact absurd rfl (h n)
  | non => exact (by decide +kernel : kitB "NoneType" "str" = some false)
  | bl b => exact (by decide +kernel : kitB "bool" "str" = some false)
  | int b => exact (by decide +kernel : kitB "int" "str" = some false)
  | str b => exact (by decide +kernel : kitB "str" "str" = some true)
  | tup b => exact (by decide +kernel : kitB "tuple" "str" = some false)
  | rol b => exact (by decide +kernel : kitB "list" "str" = some false)
  | ref b => exact (by decide +kernel : kitB "list" "str" = some false)
  | ktup b => exact (by decide +kernel : kitB "tuple" "str" = some false)
  | fnv b => exact (by decide +kernel : kitB "function" "str" = some false)
theorem kit_int (d : D) (h : ∀ n, d ≠ .ty n) : kitB (tyOf d) "int" = some (isInt d) := by
  cases d with
  | ty n => exact absurd rfl (h n)
  | non => exact (by decide +kernel : kitB "NoneType" "int" = some false)
  | bl b => exact (by decide +kernel : kitB "bool" "int" = some true)
  | int b => exact (by decide +kernel : kitB "int" "int" = some true)
  | str b => exact (by decide +kernel : kitB "str" "int" = some false)
  | tup b => exact (by decide +kernel : kitB "tuple" "int" = some false)
  | rol b => exact (by decide +kernel : kitB "list" "int" = some false)
  | ref b => exact (by decide +kernel : kitB "list" "int" = some false)
  | ktup b => exact (by decide +kernel : kitB "tuple" "int" = some false)
  | fnv b => exact (by decide +kernel : kitB "function" "int" = some false)
theorem kit_bool (d : D) (h : ∀ n, d ≠ .ty n) : kitB (tyOf d) "bool" = some (isBl d) := by
  cases d with
  | ty n => exact absurd rfl (h n)
  | non => exact (by decide +kernel : kitB "NoneType" "bool" = some false)
  | bl b => exact (by decide +kernel : kitB "bool" "bool" = some true)
  | int b => exact (by decide +kernel : kitB "int" "bool" = some false)
  | str b => exact (by decide +kernel : kitB "str" "bool" = some false)
  | tup b => exact (by decide +kernel : kitB "tuple" "bool" = some false)
  | rol b => exact (by decide +kernel : kitB "list" "bool" = some false)
  | ref b => exact (by decide +kernel : kitB "list" "bool" = some false)
  | ktup b => exact (by decide +kernel : kitB "tuple" "bool" = some false)
  | fnv b => exact (by decide +kernel : kitB "function" "bool" = some false)
theorem _root_.DW.Fit.nty {S : Sto} {d : D} (h : Fit S d) : ∀ n, d ≠ .ty n := fun n e => by
  subst e
  obtain ⟨L, k, _, h⟩ := h
  cases k <;> cases h
theorem _root_.DW.Fit.nk {S : Sto} {d : D} (h : Fit S d) : ∀ n, d ≠ .ktup n := fun n e => by
  subst e
  obtain ⟨L, k, _, h⟩ := h
  cases k <;> cases h
theorem _root_.DW.Fit.nf {S : Sto} {d : D} (h : Fit S d) : ∀ n, d ≠ .fnv n := fun n e => by
  subst e
  obtain ⟨L, k, _, h⟩ := h
  cases k <;> cases h
theorem _root_.DW.Fit.nrol {S : Sto} {d : D} (h : Fit S d) : ∀ n, d ≠ .rol n := fun n e => by
  subst e
  obtain ⟨L, k, _, h⟩ := h
  cases k <;> cases h

/-! ### the mirrors -/
def isP (d : D) : Bool := [sD "and", sD "or", sD "if", sD "other"].any fun c => eqc d c
def isC (d : D) : Bool := [sD "a", sD "b", sD "both"].any fun c => eqc d c
def isM (f s : D) : Bool := [D.tup [sD "a", sD "b"], D.tup [sD "b", sD "a"]].any fun c => eqc (.tup [f, s]) c
def isNum (d : D) (lo hi : Int) : Bool := match d with
  | .int i => decide (lo ≤ i) && decide (i ≤ hi)
  | _ => false
def isTriple (d : D) (ms cs : List D) : Bool := match d with
  | .tup [w, f, s] => if (ms.any fun c => eqc w c) = true then isM f s else (cs.any fun c => eqc w c) && (isNum f 1 3 && isC s)
  | _ => false
abbrev w4 : List D := [sD "all", sD "some", sD "no", sD "allnot"]
abbrev w3 : List D := [sD "all", sD "some", sD "no"]
abbrev wh : List D := [sD "has"]
abbrev wlj : List D := [sD "least", sD "just"]
def big : Int := 1000000000000000000000000000000
def isHouse (d : D) : Bool := match d with
  | .tup cs => decide (cs.length = 4) && cs.all fun c => isNum c 0 big
  | _ => false
def isNest : Nat → D → Bool
  | 0, _ => false
  | j + 1, d => match d with
    | .tup (w :: r) =>
      if eqc w (sD "not") = true then (match r with
        | [f] => isNest j f
        | _ => false)
      else if isP w = true then (match r with
        | [f, g] => isNest j f && isNest j g
        | _ => false)
      else isTriple (.tup (w :: r)) w3 wlj
    | _ => false


def isJ (d : D) : Bool := [sD "and", sD "or", sD "unless", sD "onlyif"].any fun c => eqc d c
def isO (d : D) : Bool := [sD "not", sD "(", sD ")"].any fun c => eqc d c
def isSign (d : D) : Bool := if isStr d = true then isJ d || isO d else isTriple d w4 wh
/-- the program's own step over a row -/
def rowStep (k : Int) (due : Bool) (d : D) : Option (Int × Bool) :=
    if (eqc d (sD "(") && due) = true then some (k + 1, due)
    else if (eqc d (sD ")") && (!due && decide (0 < k))) = true then some (k - 1, due)
    else if (isJ d && !due) = true then some (k, true)
    else if (isTup d && due) = true then some (k, false)
    else if (!eqc d (sD "not") || !due) = true then none
    else some (k, due)
def rowOk : Int → Bool → List D → Bool
  | k, due, [] => decide (k = 0) && !due
  | k, due, d :: r => match rowStep k due d with
    | some (k', due') => rowOk k' due' r
    | none => false
def isNotice (d : D) : Bool := match d with
  | .tup ss => (decide (1 ≤ ss.length) && decide (ss.length ≤ 16)) && (ss.all isSign && (decide ((ss.filter isTup).length ≤ 4) && rowOk 0 true ss))
  | _ => false

/-! ### what several laws draw from -/
abbrev M : Int := 2147483237
/-- the source of draws at n -/
def Src (S : Sto) (n : Nat) : Prop := ∃ a b : Int, S[n]? = some (.lst [.int a, .int b]) ∧ 0 ≤ a ∧ 0 ≤ b ∧ b < M
/-- the script: a list that is only read -/
def Scr (S : Sto) (d : D) (ns : List Int) : Prop := d = .rol (ns.map D.int) ∨ ∃ m, d = .ref m ∧ S[m]? = some (.lst (ns.map D.int))
theorem Scr.ext {S S' : Sto} {d : D} {ns : List Int} (e : Ext S S') (h : Scr S d ns) : Scr S' d ns := by
  rcases h with h | ⟨m, h1, h2⟩
  · exact .inl h
  · exact .inr ⟨m, h1, e _ _ h2⟩
theorem Scr.len {S : Sto} {d : D} {ns : List Int} (h : Scr S d ns) (Q : KQ) : dLen d S Q = Q (.int (ns.length : Nat)) S := by
  rcases h with rfl | ⟨m, rfl, h2⟩
  · rw [len_rol, List.length_map]
  · rw [len_ref h2, List.length_map]
theorem Scr.idx {S : Sto} {d : D} {ns : List Int} (h : Scr S d ns) (i : Int) (Q : KQ) : dIdx d (.int i) S Q = dIdx (.rol (ns.map D.int)) (.int i) S Q := by
  rcases h with rfl | ⟨m, rfl, h2⟩
  · rfl
  · rw [idx_ref h2]; rfl
/-- a clause as the laws draw it -/
def Clause (d : D) : Prop := isTriple d w4 wh = true ∧ ∀ S, okd 3 2 S d = true
def NoticeG (d : D) : Prop := isNotice d = true ∧ ∀ S, okd 16 3 S d = true

/-! ### promises -/
abbrev lv (n h : Nat) (sp : FSp) : FSp := fun ds S Q X => h ≤ n ∧ sp ds S Q X
/-- one value in, a value out, nothing changed -/
def pur1 (f : D → D) : FSp := fun ds S Q _ => ∃ d, ds = [d] ∧ Fit S d ∧ ∀ S', Ext S S' → Q (f d) S'
def spIsRow : FSp := fun ds S Q _ => ∃ signs, ds = [.tup signs] ∧ (∀ d ∈ signs, Fit S d) ∧ Q (.bl (rowOk 0 true signs)) S
def spIsNotice : FSp := pur1 fun d => .bl (isNotice d)
def spIsNumber : FSp := fun ds S Q _ => ∃ d lo hi, ds = [d, .int lo, .int hi] ∧ Fit S d ∧ Q (.bl (isNum d lo hi)) S
def spIsSign : FSp := fun ds S Q _ => ∃ d, ds = [d] ∧ Fit S d ∧ Q (.bl (isSign d)) S
def spIsTriple : FSp := fun ds S Q _ => ∃ d ms cs dm dc, ds = [d, dm, dc] ∧ (dm = .tup ms ∨ dm = .ktup ms) ∧ (dc = .tup cs ∨ dc = .ktup cs) ∧ Fit S d ∧ wk (.tup ms) = true ∧ wk (.tup cs) = true ∧ Q (.bl (isTriple d ms cs)) S
/-- .. or the error c -/
def spCheck (f : D → Bool) (c : Str) : FSp := fun ds S Q X => ∃ d, ds = [d] ∧ Fit S d ∧ ∀ S', Ext S S' → if f d = true then Q .non S' else X c .non S'
def spSource : FSp := fun ds S Q _ => ∃ (d : D) (ns : List Int) (k : Nat), ds = [d, .int k] ∧ Scr S d ns ∧ ns.length ≤ 63 ∧ k ≤ 63 ∧ ∀ S' n, Ext S S' → S.length ≤ n → Src S' n → Q (.ref n) S'
def spDraw : FSp := fun ds S Q _ => ∃ (n : Nat) (m : Int), ds = [.ref n, .int m] ∧ Src S n ∧ 0 < m ∧ m < 1000000 ∧ ∀ S' r, ExtB n S S' → Src S' n → 0 ≤ r → r < m → Q (.int r) S'
def spChoice : FSp := fun ds S Q _ => ∃ (n m : Nat) (xs : List D), ds = [.ref n, .ref m] ∧ Src S n ∧ m ≠ n ∧ S[m]? = some (.lst xs) ∧ 0 < xs.length ∧ xs.length < 1000 ∧ ∀ S' x, ExtB n S S' → Src S' n → x ∈ xs → Q x S'
def spClause : FSp := fun ds S Q _ => ∃ n, ds = [.ref n] ∧ Src S n ∧ ∀ S' c, ExtB n S S' → Src S' n → Clause c → Q c S'
def spNotice : FSp := fun ds S Q _ => ∃ n m : Nat, ds = [.ref n, .int m] ∧ 1 ≤ m ∧ m ≤ 4 ∧ Src S n ∧ ∀ S' v, ExtB n S S' → Src S' n → NoticeG v → Q v S'
end KS

set_option Elab.async false
set_option linter.all false
set_option maxRecDepth 100000
set_option maxHeartbeats 1000000

namespace KS
open PySem PySem.Spec PyProof.Rows L2 DW KP

theorem isi_fit {S : Sto} {d : D} {t : String} {b : Bool} {Q : KQ} (hf : Fit S d) (hk : kitB (tyOf d) t = some b) : dIsi d (.ty t) S Q = Q (.bl b) S := by
  unfold dIsi
  simp only [hk]
  cases d with
  | ty n => exact absurd rfl (hf.nty n)
  | fnv n => exact absurd rfl (hf.nf n)
  | ref n =>
    obtain ⟨L, k, _, h⟩ := hf
    cases k with
    | zero => cases h
    | succ k =>
      simp only [okd] at h
      cases e : S[n]? with
      | none => rw [e] at h; cases h
      | some o =>
        cases o with
        | lst xs => simp [e]
        | _ => rw [e] at h; cases h
  | _ => simp
theorem in_marks {S : Sto} {x : D} {B : KB} : dIn x (.tup [.ktup [.str "a", .str "b"], .ktup [.str "b", .str "a"]]) S B = dIn x (.tup [.tup [.str "a", .str "b"], .tup [.str "b", .str "a"]]) S B := by
  unfold dIn
  rw [show toPy 66 S (.tup [.ktup [.str "a", .str "b"], .ktup [.str "b", .str "a"]]) = toPy 66 S (.tup [.tup [.str "a", .str "b"], .tup [.str "b", .str "a"]]) from rfl]
theorem ob_is_number {fs : FEnv} (n : Nat) (ds : List D) (S : Sto) (Q : KQ) (X : KX) (h : lv (n + 1) 2 spIsNumber ds S Q X) : wB fs ir_is_number (defEnds Q X) (startD N_is_number ds) S := by
  obtain ⟨_, d, lo, hi, rfl, hf, q⟩ := h
  have hty := hf.nty
  simp only [DW.wG, DW.wGs, gsLen, List.set_cons_succ, List.set_cons_zero, wB, wS, DW.wT, DW.wTs, DW.wE, DW.wA, DW.wO, DW.wI, List.getElem?_cons_succ, List.getElem?_cons_zero, cmp_eq, cmp_ne, cmp_in, cmp_nin, inA_tup, inA_ktup, op_shl', op_shr', op_and', op_or', op_xor', is_bl, isn_bl, iter_ktup, cmp_lt, cmp_le, cmp_gt, cmp_ge, tru_non, tru_bl, tru_int, tru_tup, op_addi, op_subi, op_muli, op_divi, op_modi, op_powi, op_addt, op_rept, len_tup, len_rol, idx_tup, idx_rol, slc_tup, iter_tup, iter_rol, eqc_int, LIM, Nat.reduceLeDiff, dBlt, dInt1, defEnds, startD, List.map_cons, List.map_nil, List.length_cons, List.length_nil, List.replicate_succ, List.replicate_zero, List.cons_append, List.nil_append, Nat.reduceAdd, Nat.reduceSub, Nat.zero_add, and_true, true_and, if_true, Bool.false_eq_true, if_false, ir_is_number, isi_fit hf (kit_int d hty), isi_fit hf (kit_bool d hty)]
  cases d with
  | ty n => exact absurd rfl (hty n)
  | ktup n => exact absurd rfl (hf.nk n)
  | fnv n => exact absurd rfl (hf.nf n)
  | int i =>
    simp only [isInt, isBl, cmp_le, if_true, true_and, Bool.false_eq_true, if_false, Bool.and_true, Bool.and_false, Bool.true_and, Bool.false_and, Bool.not_true, Bool.not_false, Bool.or_true, Bool.or_false, Bool.true_or, Bool.false_or, isNum] at q ⊢
    rcases bb (decide (lo ≤ i)) with h1 | h1 <;> simp only [h1, if_true, true_and, Bool.false_eq_true, if_false, Bool.and_true, Bool.and_false, Bool.true_and, Bool.false_and, Bool.not_true, Bool.not_false, Bool.or_true, Bool.or_false, Bool.true_or, Bool.false_or] at q ⊢ <;> exact q
  | _ => simp only [isInt, isBl, if_true, true_and, Bool.false_eq_true, if_false, Bool.and_true, Bool.and_false, Bool.true_and, Bool.false_and, Bool.not_true, Bool.not_false, Bool.or_true, Bool.or_false, Bool.true_or, Bool.false_or, isNum] at q ⊢ <;> exact q
theorem any_marks (f s : D) : ([D.tup [D.str "a", D.str "b"], D.tup [D.str "b", D.str "a"]].any fun c => eqc (.tup [f, s]) c) = isM f s := rfl
theorem any_cnt (d : D) : ([D.str "a", D.str "b", D.str "both"].any fun c => eqc d c) = isC d := rfl
theorem _root_.DW.Fit.two {S : Sto} {w f s : D} (h : Fit S (.tup [w, f, s])) : Fit S (.tup [f, s]) := by
  obtain ⟨L, k, hk, h⟩ := h
  refine ⟨L, k, hk, ?_⟩
  cases k with
  | zero => cases h
  | succ k =>
    simp only [okd, List.length_cons, List.length_nil, Bool.and_eq_true, decide_eq_true_eq, List.all_cons, List.all_nil] at h ⊢
    exact ⟨by omega, h.2.2⟩
theorem ob__is_triple {fs : FEnv} (n : Nat) (f1 : fs.f "is_number" = some (lv n 2 spIsNumber)) (ds : List D) (S : Sto) (Q : KQ) (X : KX) (h : lv (n + 1) 3 spIsTriple ds S Q X) : wB fs ir__is_triple (defEnds Q X) (startD N__is_triple ds) S := by
  obtain ⟨hl, d, ms, cs, dm, dc, rfl, hdm, hdc, hf, hm, hc, q⟩ := h
  have im : ∀ {x : D} {B : KB}, dInA x dm S B = dIn x (.tup ms) S B := fun {x B} => by rcases hdm with rfl | rfl <;> first | exact inA_tup | exact inA_ktup
  have ic : ∀ {x : D} {B : KB}, dInA x dc S B = dIn x (.tup cs) S B := fun {x B} => by rcases hdc with rfl | rfl <;> first | exact inA_tup | exact inA_ktup
  have hty := hf.nty
  simp only [DW.wG, DW.wGs, gsLen, List.set_cons_succ, List.set_cons_zero, wB, wS, DW.wT, DW.wTs, DW.wE, DW.wA, DW.wO, DW.wI, List.getElem?_cons_succ, List.getElem?_cons_zero, cmp_eq, cmp_ne, cmp_in, cmp_nin, inA_tup, inA_ktup, op_shl', op_shr', op_and', op_or', op_xor', is_bl, isn_bl, iter_ktup, cmp_lt, cmp_le, cmp_gt, cmp_ge, tru_non, tru_bl, tru_int, tru_tup, op_addi, op_subi, op_muli, op_divi, op_modi, op_powi, op_addt, op_rept, len_tup, len_rol, idx_tup, idx_rol, slc_tup, iter_tup, iter_rol, eqc_int, LIM, Nat.reduceLeDiff, dBlt, dInt1, defEnds, startD, List.map_cons, List.map_nil, List.length_cons, List.length_nil, List.replicate_succ, List.replicate_zero, List.cons_append, List.nil_append, Nat.reduceAdd, Nat.reduceSub, Nat.zero_add, and_true, true_and, if_true, Bool.false_eq_true, if_false, ir__is_triple, isi_fit hf (kit_tuple d hty), c_MARKS, c_COUNTED, f1, c_MOST_TOLD]
  cases d with
  | ty n => exact absurd rfl (hty n)
  | ktup n => exact absurd rfl (hf.nk n)
  | fnv n => exact absurd rfl (hf.nf n)
  | tup xs =>
    simp only [isTup, len_tup, dEq_iff (fit_int S _) (wk_int 3), eqc_int, if_true, true_and, Bool.false_eq_true, if_false, Bool.and_true, Bool.and_false, Bool.true_and, Bool.false_and, Bool.not_true, Bool.not_false, Bool.or_true, Bool.or_false, Bool.true_or, Bool.false_or]
    match xs, hf, q with
    | [], hf, q => simpa [isTriple] using q
    | [a], hf, q => simpa [isTriple] using q
    | [a, b], hf, q => simpa [isTriple] using q
    | [w, f, s], hf, q =>
      have hw : Fit S w := hf.parts w (by simp)
      have hff : Fit S f := hf.parts f (by simp)
      have hs : Fit S s := hf.parts s (by simp)
      have h2 := hf.two
      simp only [isTriple] at q
      simp only [List.length_cons, List.length_nil, Nat.reduceAdd, show ((3 : Nat) : Int) = 3 from rfl, decide_true, im, ic, dIn_iff hw hm, dIn_iff hw hc, in_marks, dIn_iff h2 wk_M, if_true, true_and, Bool.false_eq_true, if_false, Bool.and_true, Bool.and_false, Bool.true_and, Bool.false_and, Bool.not_true, Bool.not_false, Bool.or_true, Bool.or_false, Bool.true_or, Bool.false_or]
      rcases bb (ms.any fun c => eqc w c) with h1 | h1
      · simp only [h1, if_true, any_marks] at q ⊢
        exact q
      · simp only [h1, Bool.false_eq_true, if_false] at q ⊢
        rcases bb (cs.any fun c => eqc w c) with h3 | h3
        · simp only [h3, if_true, Bool.true_and] at q ⊢
          refine ⟨by omega, f, 1, 3, rfl, hff, ?_⟩
          simp only [tru_bl, dIn_iff hs wk_C, any_cnt]
          rcases bb (isNum f 1 3) with h4 | h4 <;> simp only [h4, if_true, true_and, Bool.false_eq_true, if_false, Bool.and_true, Bool.and_false, Bool.true_and, Bool.false_and, Bool.not_true, Bool.not_false, Bool.or_true, Bool.or_false, Bool.true_or, Bool.false_or] at q ⊢ <;> exact q
        · simp only [h3, Bool.false_eq_true, if_false, Bool.false_and] at q ⊢
          exact q
    | a :: b :: c :: e :: r, hf, q =>
      have : ¬ (((a :: b :: c :: e :: r).length : Nat) : Int) = 3 := by simp only [List.length_cons]; omega
      simp only [this, decide_false, if_true, true_and, Bool.false_eq_true, if_false, Bool.and_true, Bool.and_false, Bool.true_and, Bool.false_and, Bool.not_true, Bool.not_false, Bool.or_true, Bool.or_false, Bool.true_or, Bool.false_or]
      simpa [isTriple] using q
  | _ => simpa [isTup, isTriple] using q

theorem row_body {fs : FEnv} {E : DEnds} {S : Sto} {sg d : D} {k : Int} {due : Bool} (hf : Fit S d) (h : match rowStep k due d with
    | some (k', due') => E.nx [some sg, some (.int k'), some (.bl due'), some d] S
    | none => E.rt (.bl false) S) : wB fs ir_is_row_b0 E [some sg, some (.int k), some (.bl due), some d] S := by
  have hty : ∀ n, d ≠ .ty n := hf.nty
  simp only [DW.wG, DW.wGs, gsLen, List.set_cons_succ, List.set_cons_zero, wB, wS, DW.wT, DW.wTs, DW.wE, DW.wA, DW.wO, DW.wI, List.getElem?_cons_succ, List.getElem?_cons_zero, cmp_eq, cmp_ne, cmp_in, cmp_nin, inA_tup, inA_ktup, op_shl', op_shr', op_and', op_or', op_xor', is_bl, isn_bl, iter_ktup, cmp_lt, cmp_le, cmp_gt, cmp_ge, tru_non, tru_bl, tru_int, tru_tup, op_addi, op_subi, op_muli, op_divi, op_modi, op_powi, op_addt, op_rept, len_tup, len_rol, idx_tup, idx_rol, slc_tup, iter_tup, iter_rol, eqc_int, LIM, Nat.reduceLeDiff, dBlt, dInt1, defEnds, startD, List.map_cons, List.map_nil, List.length_cons, List.length_nil, List.replicate_succ, List.replicate_zero, List.cons_append, List.nil_append, Nat.reduceAdd, Nat.reduceSub, Nat.zero_add, and_true, true_and, if_true, Bool.false_eq_true, if_false, ir_is_row_b0, c_JOINTS, dEq_iff hf wk_op, dEq_iff hf wk_cl, dEq_iff hf wk_not, dIn_iff hf wk_J, isi_fit hf (kit_tuple d hty)]
  have hJ : ([D.str "and", D.str "or", D.str "unless", D.str "onlyif"].any fun c => eqc d c) = isJ d := rfl
  simp only [hJ]
  simp only [rowStep] at h
  clear hJ hf hty
  rcases bb (eqc d (.str "(")) with h1 | h1 <;> rcases bb (eqc d (.str ")")) with h2 | h2 <;> rcases bb (eqc d (.str "not")) with h3 | h3 <;> rcases bb (isJ d) with h4 | h4 <;> rcases bb (isTup d) with h5 | h5 <;> rcases bb (decide (0 < k)) with h6 | h6 <;> cases due <;>
    simp only [h1, h2, h3, h4, h5, h6, if_true, true_and, Bool.false_eq_true, if_false, Bool.and_true, Bool.and_false, Bool.true_and, Bool.false_and, Bool.not_true, Bool.not_false, Bool.or_true, Bool.or_false, Bool.true_or, Bool.false_or] at h ⊢ <;> exact h
theorem row_loop (fs : FEnv) {Q : KQ} {E : DEnds} {S : Sto} {sg : D} (hn : ∀ k' due' x', Q (.bl (decide (k' = 0) && !due')) S → E.nx [some sg, some (.int k'), some (.bl due'), x'] S) (hr : Q (.bl false) S → E.rt (.bl false) S) : ∀ (l : List D) (k : Int) (due : Bool) (x : Option D), (∀ d ∈ l, Fit S d) → Q (.bl (rowOk k due l)) S →
    fLoop (fun _ => True) (fun d ρ' S' k => DW.wG fs (.name 3) d ρ' S' noX k) (fun E' ρ' S' => wB fs ir_is_row_b0 E' ρ' S') E l [some sg, some (.int k), some (.bl due), x] S
  | [], k, due, x, hf, q => ⟨trivial, hn k due x q⟩
  | d :: r, k, due, x, hf, q => by
    refine ⟨trivial, ?_⟩
    have ih := row_loop fs (Q := Q) (E := E) (S := S) (sg := sg) hn hr r
    show wB fs ir_is_row_b0 _ [some sg, some (.int k), some (.bl due), some d] S
    refine row_body (hf d List.mem_cons_self) ?_
    unfold rowOk at q
    cases e : rowStep k due d with
    | none => rw [e] at q; exact hr q
    | some p =>
      obtain ⟨k', due'⟩ := p
      rw [e] at q
      exact ih k' due' (some d) (fun z hz => hf z (List.mem_cons_of_mem _ hz)) q
theorem ob_is_row {fs : FEnv} (n : Nat) (ds : List D) (S : Sto) (Q : KQ) (X : KX) (h : lv (n + 1) 2 spIsRow ds S Q X) : wB fs ir_is_row (defEnds Q X) (startD N_is_row ds) S := by
  obtain ⟨_, signs, rfl, hf, q⟩ := h
  simp only [DW.wG, DW.wGs, gsLen, List.set_cons_succ, List.set_cons_zero, wB, wS, DW.wT, DW.wTs, DW.wE, DW.wA, DW.wO, DW.wI, List.getElem?_cons_succ, List.getElem?_cons_zero, cmp_eq, cmp_ne, cmp_in, cmp_nin, inA_tup, inA_ktup, op_shl', op_shr', op_and', op_or', op_xor', is_bl, isn_bl, iter_ktup, cmp_lt, cmp_le, cmp_gt, cmp_ge, tru_non, tru_bl, tru_int, tru_tup, op_addi, op_subi, op_muli, op_divi, op_modi, op_powi, op_addt, op_rept, len_tup, len_rol, idx_tup, idx_rol, slc_tup, iter_tup, iter_rol, eqc_int, LIM, Nat.reduceLeDiff, dBlt, dInt1, defEnds, startD, List.map_cons, List.map_nil, List.length_cons, List.length_nil, List.replicate_succ, List.replicate_zero, List.cons_append, List.nil_append, Nat.reduceAdd, Nat.reduceSub, Nat.zero_add, and_true, true_and, if_true, Bool.false_eq_true, if_false, ir_is_row, dIter]
  refine row_loop fs (Q := Q) (fun k' due' x' q' => ?_) (fun q' => q') signs 0 true none hf q
  simp only [DW.wG, DW.wGs, gsLen, List.set_cons_succ, List.set_cons_zero, wB, wS, DW.wT, DW.wTs, DW.wE, DW.wA, DW.wO, DW.wI, List.getElem?_cons_succ, List.getElem?_cons_zero, cmp_eq, cmp_ne, cmp_in, cmp_nin, inA_tup, inA_ktup, op_shl', op_shr', op_and', op_or', op_xor', is_bl, isn_bl, iter_ktup, cmp_lt, cmp_le, cmp_gt, cmp_ge, tru_non, tru_bl, tru_int, tru_tup, op_addi, op_subi, op_muli, op_divi, op_modi, op_powi, op_addt, op_rept, len_tup, len_rol, idx_tup, idx_rol, slc_tup, iter_tup, iter_rol, eqc_int, LIM, Nat.reduceLeDiff, dBlt, dInt1, defEnds, startD, List.map_cons, List.map_nil, List.length_cons, List.length_nil, List.replicate_succ, List.replicate_zero, List.cons_append, List.nil_append, Nat.reduceAdd, Nat.reduceSub, Nat.zero_add, and_true, true_and, if_true, Bool.false_eq_true, if_false, dEq_iff (fit_int S k') (wk_int 0)]
  rcases bb (decide (k' = 0)) with h1 | h1 <;> simp only [h1, if_true, true_and, Bool.false_eq_true, if_false, Bool.and_true, Bool.and_false, Bool.true_and, Bool.false_and, Bool.not_true, Bool.not_false, Bool.or_true, Bool.or_false, Bool.true_or, Bool.false_or] at q' ⊢ <;> exact q'

theorem ob_is_sign {fs : FEnv} (n : Nat) (f1 : fs.f "_is_triple" = some (lv n 3 spIsTriple)) (ds : List D) (S : Sto) (Q : KQ) (X : KX) (h : lv (n + 1) 4 spIsSign ds S Q X) : wB fs ir_is_sign (defEnds Q X) (startD N_is_sign ds) S := by
  obtain ⟨hl, d, rfl, hf, q⟩ := h
  have hty := hf.nty
  simp only [DW.wG, DW.wGs, gsLen, List.set_cons_succ, List.set_cons_zero, wB, wS, DW.wT, DW.wTs, DW.wE, DW.wA, DW.wO, DW.wI, List.getElem?_cons_succ, List.getElem?_cons_zero, cmp_eq, cmp_ne, cmp_in, cmp_nin, inA_tup, inA_ktup, op_shl', op_shr', op_and', op_or', op_xor', is_bl, isn_bl, iter_ktup, cmp_lt, cmp_le, cmp_gt, cmp_ge, tru_non, tru_bl, tru_int, tru_tup, op_addi, op_subi, op_muli, op_divi, op_modi, op_powi, op_addt, op_rept, len_tup, len_rol, idx_tup, idx_rol, slc_tup, iter_tup, iter_rol, eqc_int, LIM, Nat.reduceLeDiff, dBlt, dInt1, defEnds, startD, List.map_cons, List.map_nil, List.length_cons, List.length_nil, List.replicate_succ, List.replicate_zero, List.cons_append, List.nil_append, Nat.reduceAdd, Nat.reduceSub, Nat.zero_add, and_true, true_and, if_true, Bool.false_eq_true, if_false, ir_is_sign, isi_fit hf (kit_str d hty), c_JOINTS, c_OTHER_SIGNS, c_MARK_CLAUSES, c_COUNT_CLAUSES, dIn_iff hf wk_J, dIn_iff hf wk_O, f1]
  have hJ : ([D.str "and", D.str "or", D.str "unless", D.str "onlyif"].any fun c => eqc d c) = isJ d := rfl
  have hO : ([D.str "not", D.str "(", D.str ")"].any fun c => eqc d c) = isO d := rfl
  simp only [hJ, hO]
  have ht : Q (.bl (isTriple d w4 wh)) S → lv n 3 spIsTriple [d, .ktup w4, .ktup wh] S Q X := fun z => ⟨by omega, d, w4, wh, _, _, rfl, .inr rfl, .inr rfl, hf, wk_w4, wk_h, z⟩
  unfold isSign at q
  rcases bb (isStr d) with h1 | h1 <;> rcases bb (isJ d) with h2 | h2 <;> simp only [h1, h2, if_true, true_and, Bool.false_eq_true, if_false, Bool.and_true, Bool.and_false, Bool.true_and, Bool.false_and, Bool.not_true, Bool.not_false, Bool.or_true, Bool.or_false, Bool.true_or, Bool.false_or] at q ⊢ <;> first | exact q | exact ht q
theorem all_lcp {fs : FEnv} {S : Sto} {ρ : En} {xs : List D} {i : Nat} {elt : IE} {own : List Nat} {B : KQ} (f : D → Bool) (hl : xs.length ≤ 1000) (hv : wipeD ρ own = wipeD ρ own)
    (helt : ∀ d ∈ xs, ∀ S1 (R : KQ), Ext S S1 → (∀ S2, Ext S1 S2 → R (.bl (f d)) S2) → DW.wE fs elt ((wipeD ρ own).set i (some d)) S1 noX R)
    (hB : ∀ S', Ext S S' → S'[S.length]? = some (.lst (xs.map fun d => D.bl (f d))) → B (.ref S.length) S') {X : KX} {e : IE} (he : DW.wE fs e ρ S X = fun R => R (.tup xs) S) :
    DW.wE fs (.lcp own (.name i) (.val e) .none elt) ρ S X B := by
  simp only [DW.wE, DW.wI, he, iter_tup]
  refine cLoop_ext (fun d => some (.bl (f d))) (by simp only [LIM]; omega) (fun _ _ => trivial) (fun d hd S1 ky kn e1 k => ?_) fun S' e1 e2 => hB S' e1 (by rw [e2]; simp)
  simp only [DW.wG, DW.wTs, if_true]
  exact helt d hd S1 _ e1 k
theorem map_bl (xs : List D) (f : D → Bool) : (xs.map fun d => D.bl (f d)) = (xs.map f).map D.bl := by simp
theorem fm_filter (f : D → Bool) (xs : List D) : (xs.filterMap fun d => if f d = true then some d else none) = xs.filter f := by
  induction xs with
  | nil => rfl
  | cons x r ih =>
    rw [List.filterMap_cons, List.filter_cons, ih]
    cases f x <;> rfl
/-- a comprehension that keeps some of a sequence's parts, by an answer that the test gives -/
theorem keep_lcp {fs : FEnv} {S : Sto} {ρ : En} {xs : List D} {i : Nat} {t : IT} {elt it : IE} {own : List Nat} {B : KQ} (f : D → Bool) (hl : xs.length ≤ 1000)
    (ht : ∀ d ∈ xs, ∀ S1 (R : KB), Ext S S1 → (∀ S2, Ext S1 S2 → R (f d) S2) → DW.wT fs t ((wipeD ρ own).set i (some d)) S1 noX R)
    (helt : ∀ d ∈ xs, ∀ S1, DW.wE fs elt ((wipeD ρ own).set i (some d)) S1 noX = fun R => R d S1)
    (hB : ∀ S', Ext S S' → S'[S.length]? = some (.lst (xs.filter f)) → B (.ref S.length) S') {X : KX} (he : DW.wE fs it ρ S X = fun R => R (.tup xs) S) :
    DW.wE fs (.lcp own (.name i) (.val it) (.one t) elt) ρ S X B := by
  simp only [DW.wE, DW.wI, he, iter_tup]
  refine cLoop_ext (fun d => if f d = true then some d else none) (by simp only [LIM]; omega) (fun _ _ => trivial) (fun d hd S1 ky kn e1 k => ?_) fun S' e1 e2 => hB S' e1 (by rw [e2, fm_filter])
  simp only [DW.wG, DW.wTs]
  refine ht d hd S1 _ e1 fun S2 e2 => ?_
  have q := k S2 e2
  rcases bb (f d) with h | h
  · simp only [h, if_true, helt d hd] at q ⊢
    exact q
  · simp only [h, Bool.false_eq_true, if_false] at q ⊢
    exact q
theorem ob_is_notice {fs : FEnv} (n : Nat) (f4 : fs.f "is_sign" = some (lv n 4 spIsSign)) (f0 : fs.f "is_row" = some (lv n 2 spIsRow)) (ds : List D) (S : Sto) (Q : KQ) (X : KX) (h : lv (n + 1) 5 spIsNotice ds S Q X) : wB fs ir_is_notice (defEnds Q X) (startD N_is_notice ds) S := by
  obtain ⟨hl, d, rfl, hf, q⟩ := h
  have hty := hf.nty
  simp only [DW.wG, DW.wGs, gsLen, List.set_cons_succ, List.set_cons_zero, wB, wS, DW.wT, DW.wTs, DW.wE, DW.wA, DW.wO, DW.wI, List.getElem?_cons_succ, List.getElem?_cons_zero, cmp_eq, cmp_ne, cmp_in, cmp_nin, inA_tup, inA_ktup, op_shl', op_shr', op_and', op_or', op_xor', is_bl, isn_bl, iter_ktup, cmp_lt, cmp_le, cmp_gt, cmp_ge, tru_non, tru_bl, tru_int, tru_tup, op_addi, op_subi, op_muli, op_divi, op_modi, op_powi, op_addt, op_rept, len_tup, len_rol, idx_tup, idx_rol, slc_tup, iter_tup, iter_rol, eqc_int, LIM, Nat.reduceLeDiff, dBlt, dInt1, defEnds, startD, List.map_cons, List.map_nil, List.length_cons, List.length_nil, List.replicate_succ, List.replicate_zero, List.cons_append, List.nil_append, Nat.reduceAdd, Nat.reduceSub, Nat.zero_add, and_true, true_and, if_true, Bool.false_eq_true, if_false, ir_is_notice, isi_fit hf (kit_tuple d hty), c_MOST_SIGNS, c_MOST_CLAUSES]
  cases d with
  | ty n => exact absurd rfl (hty n)
  | ktup n => exact absurd rfl (hf.nk n)
  | fnv n => exact absurd rfl (hf.nf n)
  | tup xs =>
    simp only [isTup, len_tup, if_true, true_and, Bool.false_eq_true, if_false, Bool.and_true, Bool.and_false, Bool.true_and, Bool.false_and, Bool.not_true, Bool.not_false, Bool.or_true, Bool.or_false, Bool.true_or, Bool.false_or, iter_tup, cmp_le]
    have e1 : decide ((1 : Int) ≤ xs.length) = decide (1 ≤ xs.length) := by rw [Bool.eq_iff_iff]; simp; omega
    have e2 : decide ((xs.length : Int) ≤ 16) = decide (xs.length ≤ 16) := by rw [Bool.eq_iff_iff]; simp; omega
    simp only [e1, e2]
    unfold isNotice at q
    rcases bb (decide (1 ≤ xs.length)) with h1 | h1
    · rcases bb (decide (xs.length ≤ 16)) with h2 | h2
      · have hl2 : xs.length ≤ 16 := of_decide_eq_true h2
        simp only [h1, h2, if_true, true_and, Bool.false_eq_true, if_false, Bool.and_true, Bool.and_false, Bool.true_and, Bool.false_and, Bool.not_true, Bool.not_false, Bool.or_true, Bool.or_false, Bool.true_or, Bool.false_or] at q ⊢
        unfold ir_is_notice_l1
        refine all_lcp (xs := xs) isSign (by omega) rfl (fun d hd S1 R e1 k => ?_) (fun S' e1 e2 => ?_) (he := by funext R; rfl)
        · simp only [DW.wG, DW.wGs, gsLen, List.set_cons_succ, List.set_cons_zero, wB, wS, DW.wT, DW.wTs, DW.wE, DW.wA, DW.wO, DW.wI, List.getElem?_cons_succ, List.getElem?_cons_zero, cmp_eq, cmp_ne, cmp_in, cmp_nin, inA_tup, inA_ktup, op_shl', op_shr', op_and', op_or', op_xor', is_bl, isn_bl, iter_ktup, cmp_lt, cmp_le, cmp_gt, cmp_ge, tru_non, tru_bl, tru_int, tru_tup, op_addi, op_subi, op_muli, op_divi, op_modi, op_powi, op_addt, op_rept, len_tup, len_rol, idx_tup, idx_rol, slc_tup, iter_tup, iter_rol, eqc_int, LIM, Nat.reduceLeDiff, dBlt, dInt1, defEnds, startD, List.map_cons, List.map_nil, List.length_cons, List.length_nil, List.replicate_succ, List.replicate_zero, List.cons_append, List.nil_append, Nat.reduceAdd, Nat.reduceSub, Nat.zero_add, and_true, true_and, if_true, Bool.false_eq_true, if_false, wipeD, f4]
          exact ⟨by omega, d, rfl, (hf.parts d hd).ext e1, k S1 (Ext.refl S1)⟩
        · rw [map_bl] at e2
          rw [bools_ref e2]
          try simp only [tru_bl]
          rw [show (xs.map isSign).all id = xs.all isSign from by rw [List.all_map]; rfl]
          rcases bb (xs.all isSign) with h3 | h3
          · simp only [h3, if_true, true_and, Bool.false_eq_true, if_false, Bool.and_true, Bool.and_false, Bool.true_and, Bool.false_and, Bool.not_true, Bool.not_false, Bool.or_true, Bool.or_false, Bool.true_or, Bool.false_or] at q ⊢
            unfold ir_is_notice_l0
            refine keep_lcp (xs := xs) isTup (by omega) (fun d hd S1 R e3 k => ?_) (fun d hd S1 => by funext R; rfl) (fun S2 e3 e4 => ?_) (by funext R; rfl)
            · have hfd := hf.parts d hd
              simp only [DW.wG, DW.wGs, gsLen, List.set_cons_succ, List.set_cons_zero, wB, wS, DW.wT, DW.wTs, DW.wE, DW.wA, DW.wO, DW.wI, List.getElem?_cons_succ, List.getElem?_cons_zero, cmp_eq, cmp_ne, cmp_in, cmp_nin, inA_tup, inA_ktup, op_shl', op_shr', op_and', op_or', op_xor', is_bl, isn_bl, iter_ktup, cmp_lt, cmp_le, cmp_gt, cmp_ge, tru_non, tru_bl, tru_int, tru_tup, op_addi, op_subi, op_muli, op_divi, op_modi, op_powi, op_addt, op_rept, len_tup, len_rol, idx_tup, idx_rol, slc_tup, iter_tup, iter_rol, eqc_int, LIM, Nat.reduceLeDiff, dBlt, dInt1, defEnds, startD, List.map_cons, List.map_nil, List.length_cons, List.length_nil, List.replicate_succ, List.replicate_zero, List.cons_append, List.nil_append, Nat.reduceAdd, Nat.reduceSub, Nat.zero_add, and_true, true_and, if_true, Bool.false_eq_true, if_false, wipeD, isi_fit ((hfd.ext e1).ext e3) (kit_tuple d hfd.nty)]
              first | exact k S1 (Ext.refl S1) | (simp only [tru_bl]; exact k S1 (Ext.refl S1))
            · try simp only [List.set_cons_succ, List.set_cons_zero, List.getElem?_cons_succ, List.getElem?_cons_zero]
              rw [len_ref e4]
              try simp only [cmp_le, tru_bl]
              have e6 : decide (((xs.filter isTup).length : Int) ≤ 4) = decide ((xs.filter isTup).length ≤ 4) := by rw [Bool.eq_iff_iff]; simp; omega
              rw [e6]
              rcases bb (decide ((xs.filter isTup).length ≤ 4)) with h4 | h4
              · simp only [h4, if_true, true_and, Bool.false_eq_true, if_false, Bool.and_true, Bool.and_false, Bool.true_and, Bool.false_and, Bool.not_true, Bool.not_false, Bool.or_true, Bool.or_false, Bool.true_or, Bool.false_or, f0] at q ⊢
                exact ⟨by omega, xs, rfl, fun d hd => (hf.parts d hd).ext (e1.trans e3), q S2 (e1.trans e3)⟩
              · simp only [h4, if_true, true_and, Bool.false_eq_true, if_false, Bool.and_true, Bool.and_false, Bool.true_and, Bool.false_and, Bool.not_true, Bool.not_false, Bool.or_true, Bool.or_false, Bool.true_or, Bool.false_or] at q ⊢
                exact q S2 (e1.trans e3)
          · simp only [h3, if_true, true_and, Bool.false_eq_true, if_false, Bool.and_true, Bool.and_false, Bool.true_and, Bool.false_and, Bool.not_true, Bool.not_false, Bool.or_true, Bool.or_false, Bool.true_or, Bool.false_or] at q ⊢
            exact q S' e1
      · simp only [h1, h2, if_true, true_and, Bool.false_eq_true, if_false, Bool.and_true, Bool.and_false, Bool.true_and, Bool.false_and, Bool.not_true, Bool.not_false, Bool.or_true, Bool.or_false, Bool.true_or, Bool.false_or] at q ⊢
        exact q S (Ext.refl S)
    · simp only [h1, if_true, true_and, Bool.false_eq_true, if_false, Bool.and_true, Bool.and_false, Bool.true_and, Bool.false_and, Bool.not_true, Bool.not_false, Bool.or_true, Bool.or_false, Bool.true_or, Bool.false_or] at q ⊢
      exact q S (Ext.refl S)
  | _ => simpa [isTup, isNotice] using q S (Ext.refl S)
end KS

set_option Elab.async false
set_option linter.all false
set_option maxRecDepth 100000
set_option maxHeartbeats 1000000

namespace KS
open PySem PySem.Spec PyProof.Rows L2 DW KP

theorem at0 (w : D) (r : List D) : atI (w :: r) 0 = some w := atI_nat (xs := w :: r) (j := 0) rfl
abbrev jts : List D := [sD "and", sD "or", sD "unless", sD "onlyif"]
theorem Src.ext {S S' : Sto} {n : Nat} (h : Src S n) (e : Ext S S') : Src S' n := by
  obtain ⟨a, b, h, q⟩ := h
  exact ⟨a, b, e _ _ h, q⟩
theorem Src.lt {S : Sto} {n : Nat} (h : Src S n) : n < S.length := by
  obtain ⟨a, b, h, q⟩ := h
  exact (List.getElem?_eq_some_iff.mp h).1
theorem Src.ne {S : Sto} {n : Nat} (h : Src S n) : S.length ≠ n := by
  have := h.lt
  omega

theorem ob__law_source {fs : FEnv} (n : Nat) (ds : List D) (S : Sto) (Q : KQ) (X : KX) (h : lv (n + 1) 2 spSource ds S Q X) : wB fs ir__law_source (defEnds Q X) (startD N__law_source ds) S := by
  obtain ⟨_, d, ns, k, rfl, hsc, hl, hk, q⟩ := h
  simp only [DW.wG, DW.wGs, gsLen, List.set_cons_succ, List.set_cons_zero, wB, wS, DW.wT, DW.wTs, DW.wE, DW.wA, DW.wO, DW.wI, List.getElem?_cons_succ, List.getElem?_cons_zero, cmp_eq, cmp_ne, cmp_in, cmp_nin, inA_tup, inA_ktup, op_shl', op_shr', op_and', op_or', op_xor', is_bl, isn_bl, iter_ktup, cmp_lt, cmp_le, cmp_gt, cmp_ge, tru_non, tru_bl, tru_int, tru_tup, op_addi, op_subi, op_muli, op_divi, op_modi, op_powi, op_addt, op_rept, len_tup, len_rol, idx_tup, idx_rol, slc_tup, iter_tup, iter_rol, eqc_int, LIM, Nat.reduceLeDiff, dBlt, dInt1, defEnds, startD, List.map_cons, List.map_nil, List.length_cons, List.length_nil, List.replicate_succ, List.replicate_zero, List.cons_append, List.nil_append, Nat.reduceAdd, Nat.reduceSub, Nat.zero_add, and_true, true_and, if_true, Bool.false_eq_true, if_false, ir__law_source, hsc.len, hsc.idx, idx_rol, List.length_map]
  -- behind the cell
  have fin : ∀ c : Int, 0 ≤ c → (if decide ((10 : Int) ^ (17 : Int).toNat < c) = true then
      (CMulD c 16807 ∧ CMulD 10009 (k : Int) ∧ (0 : Int) < 2147483237 ∧ Q (.ref S.length) (S ++ [Ob.lst [.int c, .int ((c * 16807 + 10009 * (k : Int) + 71) % 2147483237)]]))
      else (CMulD c 16807 ∧ CMulD 10009 (k : Int) ∧ (0 : Int) < 2147483237 ∧ Q (.ref S.length) (S ++ [Ob.lst [.int 0, .int ((c * 16807 + 10009 * (k : Int) + 71) % 2147483237)]]))) := fun c hc => by
    have m1 : CMulD c 16807 := .inr (.inl ⟨by decide, by decide⟩)
    have m2 : CMulD 10009 (k : Int) := .inl ⟨by decide, by decide⟩
    have r0 := Int.emod_nonneg (c * 16807 + 10009 * (k : Int) + 71) (show (2147483237 : Int) ≠ 0 by decide)
    have r1 := Int.emod_lt_of_pos (c * 16807 + 10009 * (k : Int) + 71) (show (0 : Int) < 2147483237 by decide)
    split
    · exact ⟨m1, m2, by decide, q _ _ (Ext.app S _) (Nat.le_refl _) ⟨_, _, sto_last S _, hc, r0, r1⟩⟩
    · exact ⟨m1, m2, by decide, q _ _ (Ext.app S _) (Nat.le_refl _) ⟨_, _, sto_last S _, by decide, r0, r1⟩⟩
  by_cases hk2 : (k : Int) < (ns.length : Int)
  · simp only [hk2, decide_true, if_true]
    have hj : k < ns.length := by omega
    refine ⟨.int (ns[k]'hj), atI_nat (xs := ns.map D.int) (j := k) (by rw [List.getElem?_map, List.getElem?_eq_getElem hj]; rfl), ?_⟩
    have := fin (if ns[k]'hj < 0 then -(ns[k]'hj) else ns[k]'hj) (by split <;> omega)
    exact ⟨⟨by decide, by decide, by decide⟩, this⟩
  · simp only [hk2, decide_false, Bool.false_eq_true, if_false]
    have := fin (101 * (k : Int) + 47) (by omega)
    exact ⟨.inl ⟨by decide, by decide⟩, ⟨by decide, by decide, by decide⟩, this⟩
theorem ob__law_draw {fs : FEnv} (n : Nat) (ds : List D) (S : Sto) (Q : KQ) (X : KX) (h : lv (n + 1) 2 spDraw ds S Q X) : wB fs ir__law_draw (defEnds Q X) (startD N__law_draw ds) S := by
  obtain ⟨_, m, many, rfl, ⟨a, b, hs, ha, hb, hM⟩, h0, h1, q⟩ := h
  simp only [DW.wG, DW.wGs, gsLen, List.set_cons_succ, List.set_cons_zero, wB, wS, DW.wT, DW.wTs, DW.wE, DW.wA, DW.wO, DW.wI, List.getElem?_cons_succ, List.getElem?_cons_zero, cmp_eq, cmp_ne, cmp_in, cmp_nin, inA_tup, inA_ktup, op_shl', op_shr', op_and', op_or', op_xor', is_bl, isn_bl, iter_ktup, cmp_lt, cmp_le, cmp_gt, cmp_ge, tru_non, tru_bl, tru_int, tru_tup, op_addi, op_subi, op_muli, op_divi, op_modi, op_powi, op_addt, op_rept, len_tup, len_rol, idx_tup, idx_rol, slc_tup, iter_tup, iter_rol, eqc_int, LIM, Nat.reduceLeDiff, dBlt, dInt1, defEnds, startD, List.map_cons, List.map_nil, List.length_cons, List.length_nil, List.replicate_succ, List.replicate_zero, List.cons_append, List.nil_append, Nat.reduceAdd, Nat.reduceSub, Nat.zero_add, and_true, true_and, if_true, Bool.false_eq_true, if_false, ir__law_draw]
  rw [idx_ref hs]
  refine ⟨.int a, rfl, ?_⟩
  simp only [cmp_gt]
  have hml : m < S.length := (List.getElem?_eq_some_iff.mp hs).1
  by_cases hp : 0 < a
  · simp only [hp, decide_true, if_true]
    rw [idx_ref hs]
    refine ⟨.int a, rfl, ?_⟩
    simp only [op_modi]
    refine ⟨h0, ?_⟩
    rw [idx_ref hs]
    refine ⟨.int a, rfl, ?_⟩
    simp only [op_divi]
    refine ⟨⟨h0, by omega⟩, ?_⟩
    rw [set_ref hs]
    refine ⟨0, rfl, ?_⟩
    simp only [List.set_cons_zero]
    refine q _ _ (ExtB.set m S _) ⟨a / many, b, sto_set hs, Int.ediv_nonneg ha (by omega), hb, hM⟩ (Int.emod_nonneg _ (by omega)) (Int.emod_lt_of_pos _ h0)
  · simp only [hp, decide_false, Bool.false_eq_true, if_false]
    rw [idx_ref hs]
    refine ⟨.int b, rfl, ?_⟩
    simp only [op_muli, op_addi]
    refine ⟨.inr (.inl ⟨by decide, by decide⟩), ?_⟩
    try simp only [dInt1, op_modi]
    refine ⟨by decide, ?_⟩
    rw [set_ref hs]
    refine ⟨1, rfl, ?_⟩
    simp only [List.set_cons_succ, List.set_cons_zero]
    have r0 := Int.emod_nonneg (b * 48271 + 83) (show (2147483237 : Int) ≠ 0 by decide)
    have r1 := Int.emod_lt_of_pos (b * 48271 + 83) (show (0 : Int) < 2147483237 by decide)
    generalize (b * 48271 + 83) % 2147483237 = b1 at r0 r1
    have hs1 : (S.set m (.lst [.int a, .int b1]))[m]? = some (.lst [.int a, .int b1]) := sto_set hs
    rw [idx_ref hs1]
    refine ⟨.int b1, rfl, ?_⟩
    rw [idx_ref hs1]
    refine ⟨.int b1, rfl, ?_⟩
    simp only [op_divi, op_addi, op_muli]
    refine ⟨⟨by decide, by decide⟩, .inl ⟨by omega, by omega⟩, ?_⟩
    try simp only [dInt1, op_modi]
    refine ⟨by decide, ?_⟩
    refine ⟨⟨by decide, by decide⟩, h0, ?_⟩
    exact q _ _ (ExtB.set m S _) ⟨a, b1, hs1, ha, r0, r1⟩ (Int.emod_nonneg _ (by omega)) (Int.emod_lt_of_pos _ h0)
theorem ob__law_choice {fs : FEnv} (n : Nat) (f21 : fs.f "_law_draw" = some (lv n 2 spDraw)) (ds : List D) (S : Sto) (Q : KQ) (X : KX) (h : lv (n + 1) 3 spChoice ds S Q X) : wB fs ir__law_choice (defEnds Q X) (startD N__law_choice ds) S := by
  obtain ⟨hl, m, k, xs, rfl, hs, hne, hx, h0, h1, q⟩ := h
  simp only [DW.wG, DW.wGs, gsLen, List.set_cons_succ, List.set_cons_zero, wB, wS, DW.wT, DW.wTs, DW.wE, DW.wA, DW.wO, DW.wI, List.getElem?_cons_succ, List.getElem?_cons_zero, cmp_eq, cmp_ne, cmp_in, cmp_nin, inA_tup, inA_ktup, op_shl', op_shr', op_and', op_or', op_xor', is_bl, isn_bl, iter_ktup, cmp_lt, cmp_le, cmp_gt, cmp_ge, tru_non, tru_bl, tru_int, tru_tup, op_addi, op_subi, op_muli, op_divi, op_modi, op_powi, op_addt, op_rept, len_tup, len_rol, idx_tup, idx_rol, slc_tup, iter_tup, iter_rol, eqc_int, LIM, Nat.reduceLeDiff, dBlt, dInt1, defEnds, startD, List.map_cons, List.map_nil, List.length_cons, List.length_nil, List.replicate_succ, List.replicate_zero, List.cons_append, List.nil_append, Nat.reduceAdd, Nat.reduceSub, Nat.zero_add, and_true, true_and, if_true, Bool.false_eq_true, if_false, ir__law_choice, f21]
  rw [len_ref hx]
  refine ⟨by omega, m, _, rfl, hs, by omega, by omega, fun S' r e1 s1 r0 r1 => ?_⟩
  show dIdx (.ref k) (.int r) S' Q
  rw [idx_ref (e1.2 _ _ hne hx)]
  obtain ⟨j, rfl⟩ := Int.eq_ofNat_of_zero_le r0
  have hj : j < xs.length := by omega
  have e : xs[j]? = some (xs[j]'hj) := List.getElem?_eq_getElem _
  exact ⟨_, atI_nat e, q S' _ e1 s1 (List.mem_of_getElem? e)⟩

theorem sign_tup {d : D} (h : isStr d = false) (h2 : isSign d = true) : isTup d = true := by
  unfold isSign at h2
  rw [h] at h2
  simp only [Bool.false_eq_true, if_false] at h2
  unfold isTriple at h2
  split at h2
  · rfl
  · cases h2
inductive Tk where
  | x | nt | op | cl | ja | jo | ju | ji
  deriving DecidableEq
def Tk.s : Tk → String
  | .x => "x" | .nt => "not" | .op => "(" | .cl => ")" | .ja => "and" | .jo => "or" | .ju => "unless" | .ji => "onlyif"
def Tk.toD (t : Tk) : D := .str (Str.ofString t.s)
def Tk.isj : Tk → Bool
  | .ja | .jo | .ju | .ji => true
  | _ => false
theorem eqc_tk (a b : Tk) : eqc a.toD b.toD = decide (a = b) := by
  cases a <;> cases b <;> rfl
theorem wk_tk (t : Tk) : wr t.toD = true ∧ okd 1000 19 [] t.toD = true := by cases t <;> decide +kernel
/-- a sign's token -/
def tk (d : D) : Tk := if isTup d = true then .x else if eqc d (sD "and") = true then .ja else if eqc d (sD "or") = true then .jo else if eqc d (sD "unless") = true then .ju else if eqc d (sD "onlyif") = true then .ji
  else if eqc d (sD "not") = true then .nt else if eqc d (sD "(") = true then .op else .cl
theorem eqc_s {d : D} {z : String} (h : eqc d (sD z) = true) : d = sD z := by
  cases d with
  | str y =>
    simp only [sD, eqc, beq_iff_eq] at h
    rw [h]
  | _ => cases h
theorem sign_tk {d : D} (h : isSign d = true) (ht : isTup d = false) : d = (tk d).toD ∧ tk d ≠ .x := by
  have hs : isStr d = true := by
    rcases bb (isStr d) with z | z
    · exact z
    · rw [sign_tup z h] at ht; cases ht
  unfold isSign at h
  rw [if_pos hs] at h
  unfold tk
  rw [if_neg (by rw [ht]; decide)]
  simp only [isJ, isO, List.any_cons, List.any_nil, Bool.or_eq_true, Bool.or_false] at h
  split
  · rename_i e; exact ⟨eqc_s e, by decide⟩
  · split
    · rename_i e; exact ⟨eqc_s e, by decide⟩
    · split
      · rename_i e; exact ⟨eqc_s e, by decide⟩
      · split
        · rename_i e; exact ⟨eqc_s e, by decide⟩
        · split
          · rename_i e; exact ⟨eqc_s e, by decide⟩
          · split
            · rename_i e; exact ⟨eqc_s e, by decide⟩
            · rename_i n1 n2 n3 n4 n5 n6
              refine ⟨?_, by decide⟩
              rcases h with (h | h | h | h) | h | h | h
              · exact absurd h n1
              · exact absurd h n2
              · exact absurd h n3
              · exact absurd h n4
              · exact absurd h n5
              · exact absurd h n6
              · exact eqc_s h
theorem step_tk (k : Int) (due : Bool) (t : Tk) (h : t ≠ .x) : rowStep k due t.toD = match t with
    | .op => if due = true then some (k + 1, true) else none
    | .cl => if due = true then none else if 0 < k then some (k - 1, false) else none
    | .nt => if due = true then some (k, true) else none
    | .x => none
    | _ => if due = true then none else some (k, true) := by
  have e : ∀ u : Tk, eqc t.toD (sD u.s) = decide (t = u) := fun u => eqc_tk t u
  have e1 := e .op
  have e2 := e .cl
  have e3 := e .nt
  have ej : isJ t.toD = t.isj := by cases t <;> rfl
  have et : isTup t.toD = false := rfl
  simp only [Tk.s] at e1 e2 e3
  unfold rowStep
  rw [e1, e2, e3, ej, et]
  cases t <;> cases due <;> first | exact absurd rfl h | rfl | (by_cases hk : 0 < k <;> simp [hk, Tk.isj])
theorem step_tup (k : Int) (due : Bool) (ds : List D) : rowStep k due (.tup ds) = if due = true then some (k, false) else none := by
  cases due <;> rfl
theorem cut_lo (xs : List D) (i : Nat) : DW.cutD xs none (some (i : Int)) = xs.take i := by
  unfold DW.cutD
  rw [HT.sIx_none, HT.sIx_nat, List.drop_zero, Nat.sub_zero]
  by_cases h : i ≤ xs.length
  · rw [Nat.min_eq_left h]
  · rw [Nat.min_eq_right (by omega), List.take_of_length_le (by omega), List.take_of_length_le (by omega)]
theorem cut_hi (xs : List D) (i n : Nat) : DW.cutD xs (some ((i : Int) + (n : Int))) none = xs.drop (i + n) := by
  unfold DW.cutD
  have e1 : HT.sIx xs.length 0 (some ((i : Int) + (n : Int))) = min (i + n) xs.length := HT.sIx_nat xs.length 0 (i + n)
  rw [e1, HT.sIx_none]
  by_cases h : i + n ≤ xs.length
  · rw [Nat.min_eq_left h, List.take_of_length_le (by simp)]
  · rw [Nat.min_eq_right (by omega), List.drop_eq_nil_of_le (by omega : xs.length ≤ i + n), List.drop_length]
    simp
theorem okd_tup {L k : Nat} {S : Sto} {xs : List D} (hl : xs.length ≤ L) (h : ∀ d ∈ xs, okd L k S d = true) : okd L (k + 1) S (.tup xs) = true := by
  simp only [okd, Bool.and_eq_true, decide_eq_true_eq, List.all_eq_true]
  exact ⟨hl, h⟩
theorem cut1 (w : D) (r : List D) : DW.cutD (w :: r) (some 1) none = r := by
  unfold DW.cutD HT.sIx
  simp

theorem clause_has (r : Int) (c : D) (h0 : 0 ≤ r) (h1 : r < 3) (hc : c ∈ [D.str "a", D.str "b", D.str "both"]) : Clause (.tup [.str "has", .int (1 + r), c]) := by
  have hr : isNum (.int (1 + r)) 1 3 = true := by simp [isNum]; omega
  simp only [List.mem_cons, List.not_mem_nil, or_false] at hc
  constructor
  · have e1 : (w4.any fun z => eqc (D.str "has") z) = false := by decide +kernel
    have e2 : (wh.any fun z => eqc (D.str "has") z) = true := by decide +kernel
    show (if (w4.any fun z => eqc (D.str "has") z) = true then isM (.int (1 + r)) c else (wh.any fun z => eqc (D.str "has") z) && (isNum (.int (1 + r)) 1 3 && isC c)) = true
    have e3 : isC c = true := by rcases hc with rfl | rfl | rfl <;> decide +kernel
    rw [e1, e2, hr, e3]
    rfl
  · intro S
    rcases hc with rfl | rfl | rfl <;> simp [okd] <;> decide +kernel
theorem clause_pair (w p : D) (hw : w ∈ [D.str "all", D.str "some", D.str "no", D.str "allnot"]) (hp : p ∈ [D.tup [D.str "a", D.str "b"], D.tup [D.str "b", D.str "a"]]) : ∃ x y, p = .tup [x, y] ∧ Clause (.tup [w, x, y]) := by
  simp only [List.mem_cons, List.not_mem_nil, or_false] at hw hp
  rcases hp with rfl | rfl <;> refine ⟨_, _, rfl, ?_, fun S => ?_⟩ <;> rcases hw with rfl | rfl | rfl | rfl <;> first | (decide +kernel) | (simp [okd] <;> decide +kernel)
theorem ob__law_clause {fs : FEnv} (n : Nat) (f9 : fs.f "_law_draw" = some (lv n 2 spDraw)) (f10 : fs.f "_law_choice" = some (lv n 3 spChoice)) (ds : List D) (S : Sto) (Q : KQ) (X : KX) (h : lv (n + 1) 4 spClause ds S Q X) : wB fs ir__law_clause (defEnds Q X) (startD N__law_clause ds) S := by
  obtain ⟨hl, m, rfl, hs, q⟩ := h
  simp only [DW.wG, DW.wGs, gsLen, List.set_cons_succ, List.set_cons_zero, wB, wS, DW.wT, DW.wTs, DW.wE, DW.wA, DW.wO, DW.wI, List.getElem?_cons_succ, List.getElem?_cons_zero, cmp_eq, cmp_ne, cmp_in, cmp_nin, inA_tup, inA_ktup, op_shl', op_shr', op_and', op_or', op_xor', is_bl, isn_bl, iter_ktup, cmp_lt, cmp_le, cmp_gt, cmp_ge, tru_non, tru_bl, tru_int, tru_tup, op_addi, op_subi, op_muli, op_divi, op_modi, op_powi, op_addt, op_rept, len_tup, len_rol, idx_tup, idx_rol, slc_tup, iter_tup, iter_rol, eqc_int, LIM, Nat.reduceLeDiff, dBlt, dInt1, defEnds, startD, List.map_cons, List.map_nil, List.length_cons, List.length_nil, List.replicate_succ, List.replicate_zero, List.cons_append, List.nil_append, Nat.reduceAdd, Nat.reduceSub, Nat.zero_add, and_true, true_and, if_true, Bool.false_eq_true, if_false, ir__law_clause, f9, f10]
  have e1 := Ext.app S [Ob.lst [D.tup [D.str "a", D.str "b"], D.tup [D.str "b", D.str "a"]]]
  refine ⟨by omega, m, _, _, rfl, hs.ext e1, hs.ne, sto_last S _, by decide, by decide, fun S2 p e2 s2 hp => ?_⟩
  refine ⟨by omega, m, 5, rfl, s2, by decide, by decide, fun S3 r e3 s3 r0 r1 => ?_⟩
  simp only [cmp_lt]
  have E3 := ((e1.b m).trans e2).trans e3
  by_cases hr : r < 2
  · simp only [hr, decide_true, if_true]
    refine ⟨by omega, m, 3, rfl, s3, by decide, by decide, fun S4 r' e4 s4 r0' r1' => ?_⟩
    simp only [op_addi]
    have e5 := Ext.app S4 [Ob.lst [D.str "a", D.str "b", D.str "both"]]
    refine ⟨by omega, m, _, _, rfl, s4.ext e5, s4.ne, sto_last S4 _, by decide, by decide, fun S6 c e6 s6 hc => ?_⟩
    refine q S6 _ (((E3.trans e4).trans (e5.b m)).trans e6) s6 (clause_has r' c r0' r1' hc)
  · simp only [hr, decide_false, Bool.false_eq_true, if_false]
    have e5 := Ext.app S3 [Ob.lst [D.str "all", D.str "some", D.str "no", D.str "allnot"]]
    refine ⟨by omega, m, _, _, rfl, s3.ext e5, s3.ne, sto_last S3 _, by decide, by decide, fun S6 w e6 s6 hw => ?_⟩
    obtain ⟨x, y, rfl, hc⟩ := clause_pair w p hw hp
    simp only [op_addt, LIM]
    refine ⟨by simp, ?_⟩
    exact q S6 _ ((E3.trans (e5.b m)).trans e6) s6 hc
/-! ### parts of a notice -/
structure Prt (c l : Nat) (ds : List D) : Prop where
  sg : ∀ d ∈ ds, isSign d = true ∧ ∀ S, okd 3 2 S d = true
  cl : (ds.filter isTup).length ≤ c
  ln : ds.length ≤ l
  pt : ∀ (k : Int) (r : List D), 0 ≤ k → rowOk k true (ds ++ r) = rowOk k false r
  ne : 0 < ds.length
theorem sign_str {x : String} (h : isSign (D.str (Str.ofString x)) = true) (h2 : PyData.strOk (Str.ofString x) = true) : isSign (D.str (Str.ofString x)) = true ∧ ∀ S, okd 3 2 S (D.str (Str.ofString x)) = true := ⟨h, fun _ => h2⟩
theorem sg_not : isSign (D.str "not") = true ∧ ∀ S, okd 3 2 S (D.str "not") = true := sign_str (by decide +kernel) (by decide +kernel)
theorem sg_op : isSign (D.str "(") = true ∧ ∀ S, okd 3 2 S (D.str "(") = true := sign_str (by decide +kernel) (by decide +kernel)
theorem sg_cl : isSign (D.str ")") = true ∧ ∀ S, okd 3 2 S (D.str ")") = true := sign_str (by decide +kernel) (by decide +kernel)
theorem clause_tup {c : D} (h : Clause c) : isTup c = true := by
  have := h.1
  unfold isTriple at this
  split at this
  · rfl
  · cases this
theorem clause_sign {c : D} (h : Clause c) : isSign c = true := by
  have ht := clause_tup h
  unfold isSign
  cases c with
  | tup ds => exact h.1
  | ktup _ => cases h.1
  | _ => cases ht
theorem prt_clause {c : D} (h : Clause c) : Prt 1 1 [c] := by
  have ht := clause_tup h
  refine ⟨fun d hd => by rw [List.mem_singleton.mp hd]; exact ⟨clause_sign h, h.2⟩, List.length_filter_le _ _, Nat.le_refl _, fun k r hk => ?_, by simp⟩
  cases c with
  | tup ds =>
    show rowOk k true (.tup ds :: r) = _
    conv => lhs; unfold rowOk
    rw [step_tup]
    rfl
  | ktup _ => cases h.1
  | _ => cases ht
theorem prt_not {c l : Nat} {ds : List D} (h : Prt c l ds) : Prt c (l + 1) ([D.str "not"] ++ ds) := by
  refine ⟨fun d hd => ?_, ?_, ?_, fun k r hk => ?_, by simp⟩
  · rcases List.mem_append.mp hd with hd | hd
    · rw [List.mem_singleton.mp hd]; exact sg_not
    · exact h.sg d hd
  · rw [List.filter_append]
    have : ([D.str "not"].filter isTup) = [] := rfl
    rw [this]
    exact h.cl
  · have := h.ln
    simp only [List.length_append, List.length_cons, List.length_nil]; omega
  · show rowOk k true (Tk.nt.toD :: (ds ++ r)) = _
    conv => lhs; unfold rowOk
    rw [step_tk k true .nt (by decide)]
    exact h.pt k r hk
theorem jt_tk {w : D} (h : w ∈ jts) : ∃ t : Tk, t.isj = true ∧ w = t.toD := by
  simp only [jts, List.mem_cons, List.not_mem_nil, or_false] at h
  rcases h with rfl | rfl | rfl | rfl
  · exact ⟨.ja, rfl, rfl⟩
  · exact ⟨.jo, rfl, rfl⟩
  · exact ⟨.ju, rfl, rfl⟩
  · exact ⟨.ji, rfl, rfl⟩
theorem jt_sg {t : Tk} (h : t.isj = true) : (isSign t.toD = true ∧ ∀ S, okd 3 2 S t.toD = true) ∧ isTup t.toD = false := by
  cases t <;> first | (exact absurd h (by decide)) | exact ⟨sign_str (by decide +kernel) (by decide +kernel), rfl⟩
theorem prt_join {c1 l1 c2 l2 : Nat} {ds es : List D} {w : D} (h1 : Prt c1 l1 ds) (hw : w ∈ jts) (h2 : Prt c2 l2 es) : Prt (c1 + c2) (l1 + 1 + l2) (ds ++ [w] ++ es) := by
  obtain ⟨t, ht, rfl⟩ := jt_tk hw
  obtain ⟨g1, g2⟩ := jt_sg ht
  refine ⟨fun d hd => ?_, ?_, ?_, fun k r hk => ?_, ?_⟩
  · rcases List.mem_append.mp hd with hd | hd
    · rcases List.mem_append.mp hd with hd | hd
      · exact h1.sg d hd
      · rw [List.mem_singleton.mp hd]; exact g1
    · exact h2.sg d hd
  · rw [List.filter_append, List.filter_append]
    have : ([t.toD].filter isTup) = [] := by simp [g2]
    rw [this]
    have a := h1.cl
    have b := h2.cl
    simp only [List.length_append, List.length_nil]; omega
  · have a := h1.ln
    have b := h2.ln
    simp only [List.length_append, List.length_cons, List.length_nil]; omega
  · rw [List.append_assoc, List.append_assoc, h1.pt k _ hk]
    show rowOk k false (t.toD :: (es ++ r)) = _
    conv => lhs; unfold rowOk
    rw [step_tk k false t (by cases t <;> first | decide | (exact absurd ht (by decide)))]
    cases t <;> first | (exact absurd ht (by decide)) | exact h2.pt k r hk
  · have := h1.ne
    simp only [List.length_append]; omega
theorem prt_br {c l : Nat} {ds : List D} (h : Prt c l ds) : Prt c (l + 2) ([D.str "("] ++ ds ++ [D.str ")"]) := by
  refine ⟨fun d hd => ?_, ?_, ?_, fun k r hk => ?_, by simp⟩
  · rcases List.mem_append.mp hd with hd | hd
    · rcases List.mem_append.mp hd with hd | hd
      · rw [List.mem_singleton.mp hd]; exact sg_op
      · exact h.sg d hd
    · rw [List.mem_singleton.mp hd]; exact sg_cl
  · rw [List.filter_append, List.filter_append]
    have e1 : ([D.str "("].filter isTup) = [] := rfl
    have e2 : ([D.str ")"].filter isTup) = [] := rfl
    rw [e1, e2]
    have := h.cl
    simpa using this
  · have := h.ln
    simp only [List.length_append, List.length_cons, List.length_nil]; omega
  · rw [List.append_assoc, List.append_assoc]
    show rowOk k true (Tk.op.toD :: (ds ++ ([D.str ")"] ++ r))) = _
    conv => lhs; unfold rowOk
    rw [step_tk k true .op (by decide)]
    simp only [if_true]
    rw [h.pt (k + 1) _ (by omega)]
    show rowOk (k + 1) false (Tk.cl.toD :: r) = _
    conv => lhs; unfold rowOk
    rw [step_tk (k + 1) false .cl (by decide)]
    have : (0 : Int) < k + 1 := by omega
    simp only [Bool.false_eq_true, if_false, this, if_true]
    rw [show k + 1 - 1 = k from by omega]
theorem prt_notice {c l : Nat} {ds : List D} (h : Prt c l ds) (hc : c ≤ 4) (hl : l ≤ 16) : NoticeG (.tup ds) := by
  have a := h.cl
  have b := h.ln
  have n := h.ne
  constructor
  · unfold isNotice
    have e := h.pt 0 [] (by omega)
    rw [List.append_nil] at e
    have e1 : decide (1 ≤ ds.length) = true := decide_eq_true (by omega)
    have e2 : decide (ds.length ≤ 16) = true := decide_eq_true (by omega)
    have e3 : ds.all isSign = true := List.all_eq_true.mpr fun d hd => (h.sg d hd).1
    have e4 : decide ((ds.filter isTup).length ≤ 4) = true := decide_eq_true (by omega)
    show ((decide (1 ≤ ds.length) && decide (ds.length ≤ 16)) && (ds.all isSign && (decide ((ds.filter isTup).length ≤ 4) && rowOk 0 true ds))) = true
    rw [e1, e2, e3, e4, e]
    rfl
  · intro S
    exact okd_tup (by omega) fun d hd => okd_mono (by omega) (Nat.le_refl _) ((h.sg d hd).2 S)
/-- several parts -/
inductive Pts : Nat → Nat → List D → Prop
  | nil : Pts 0 0 []
  | cons {c l c' l' : Nat} {ds : List D} {xs : List D} : Prt c l ds → Pts c' l' xs → Pts (c + c') (l + 1 + l') (.tup ds :: xs)
/-- small parts -/
def Uni (xs : List D) : Prop := ∀ x ∈ xs, ∃ ds, x = .tup ds ∧ Prt 1 2 ds
theorem uni_pts : ∀ {xs : List D}, Uni xs → Pts xs.length (3 * xs.length) xs
  | [], _ => .nil
  | x :: xs, h => by
    obtain ⟨ds, rfl, p⟩ := h x List.mem_cons_self
    have q := uni_pts (xs := xs) fun z hz => h z (List.mem_cons_of_mem _ hz)
    have := Pts.cons p q
    rw [show 1 + xs.length = (D.tup ds :: xs).length from by simp; omega, show 2 + 1 + 3 * xs.length = 3 * (D.tup ds :: xs).length from by simp; omega] at this
    exact this
theorem pts_app {c l c' l' : Nat} {xs ys : List D} (h : Pts c l xs) (h2 : Pts c' l' ys) : Pts (c + c') (l + l') (xs ++ ys) := by
  induction h with
  | nil => simpa using h2
  | @cons c1 l1 c2 l2 ds zs p q ih =>
    have := Pts.cons p ih
    rw [show c1 + (c2 + c') = c1 + c2 + c' from by omega, show l1 + 1 + (l2 + l') = l1 + 1 + l2 + l' from by omega] at this
    exact this

/-- all but two objects stand as before -/
def Ext2 (m p : Nat) (S S' : Sto) : Prop := S.length ≤ S'.length ∧ ∀ (i : Nat) (o : Ob), i ≠ m → i ≠ p → S[i]? = some o → S'[i]? = some o
theorem Ext2.refl (m p : Nat) (S : Sto) : Ext2 m p S S := ⟨Nat.le_refl _, fun _ _ _ _ h => h⟩
theorem Ext2.trans {m p : Nat} {S S1 S2 : Sto} (a : Ext2 m p S S1) (b : Ext2 m p S1 S2) : Ext2 m p S S2 := ⟨Nat.le_trans a.1 b.1, fun i o h1 h2 h => b.2 i o h1 h2 (a.2 i o h1 h2 h)⟩
theorem Ext2.of {m p : Nat} {S S' : Sto} (a : ExtB m S S') : Ext2 m p S S' := ⟨a.1, fun i o h1 _ h => a.2 i o h1 h⟩
theorem Ext2.set (m p : Nat) (S : Sto) (o : Ob) : Ext2 m p S (S.set p o) := ⟨by simp, fun i u _ h2 h => by rw [List.getElem?_set_ne (Ne.symm h2)]; exact h⟩
theorem Ext2.b {m p : Nat} {S0 S S' : Sto} (a : ExtB m S0 S) (b : Ext2 m p S S') (h : S0.length ≤ p) : ExtB m S0 S' := ⟨Nat.le_trans a.1 b.1, fun i o hi e => b.2 i o hi (by have := (List.getElem?_eq_some_iff.mp e).1; omega) (a.2 i o hi e)⟩
theorem Src.set {S : Sto} {m p : Nat} (h : Src S m) (hp : p ≠ m) (o : Ob) : Src (S.set p o) m := by
  obtain ⟨a, b, h, q⟩ := h
  exact ⟨a, b, by rw [List.getElem?_set_ne hp]; exact h, q⟩
theorem Prt.mono {c l c' l' : Nat} {ds : List D} (h : Prt c l ds) (hc : c ≤ c') (hl : l ≤ l') : Prt c' l' ds := ⟨h.sg, Nat.le_trans h.cl hc, Nat.le_trans h.ln hl, h.pt, h.ne⟩
theorem not_b1 {fs : FEnv} {n : Nat} {E : DEnds} {S : Sto} {m p : Nat} {xs : List D} {mo x3 x4 x5 x6 x7 x8 : Option D} (f9 : fs.f "_law_draw" = some (lv n 2 spDraw)) (f12 : fs.f "_law_clause" = some (lv n 4 spClause)) (hl : 4 ≤ n) (hs : Src S m) (hp : p ≠ m) (hx : S[p]? = some (.lst xs)) (hlen : xs.length ≤ 10)
    (hE : ∀ S' x4' ds, Ext2 m p S S' → Src S' m → Prt 1 2 ds → S'[p]? = some (.lst (xs ++ [.tup ds])) → E.nx [some (.ref m), mo, some (.ref p), x3, x4', x5, x6, x7, x8] S') :
    wB fs ir__law_notice_b1 E [some (.ref m), mo, some (.ref p), x3, x4, x5, x6, x7, x8] S := by
  simp only [DW.wG, DW.wGs, gsLen, List.set_cons_succ, List.set_cons_zero, wB, wS, DW.wT, DW.wTs, DW.wE, DW.wA, DW.wO, DW.wI, List.getElem?_cons_succ, List.getElem?_cons_zero, cmp_eq, cmp_ne, cmp_in, cmp_nin, inA_tup, inA_ktup, op_shl', op_shr', op_and', op_or', op_xor', is_bl, isn_bl, iter_ktup, cmp_lt, cmp_le, cmp_gt, cmp_ge, tru_non, tru_bl, tru_int, tru_tup, op_addi, op_subi, op_muli, op_divi, op_modi, op_powi, op_addt, op_rept, len_tup, len_rol, idx_tup, idx_rol, slc_tup, iter_tup, iter_rol, eqc_int, LIM, Nat.reduceLeDiff, dBlt, dInt1, defEnds, startD, List.map_cons, List.map_nil, List.length_cons, List.length_nil, List.replicate_succ, List.replicate_zero, List.cons_append, List.nil_append, Nat.reduceAdd, Nat.reduceSub, Nat.zero_add, and_true, true_and, if_true, Bool.false_eq_true, if_false, ir__law_notice_b1, f9, f12]
  refine ⟨by omega, m, rfl, hs, fun S1 c e1 s1 hc => ?_⟩
  refine ⟨by omega, m, 4, rfl, s1, by decide, by decide, fun S2 r e2 s2 r0 r1 => ?_⟩
  have E2 := e1.trans e2
  have hx2 := E2.2 _ _ hp hx
  -- behind the append
  have fin : ∀ ds, Prt 1 2 ds → E.nx [some (.ref m), mo, some (.ref p), x3, some (.tup ds), x5, x6, x7, x8] (S2.set p (.lst (xs ++ [.tup ds]))) := fun ds hds =>
    hE _ _ ds ((Ext2.of E2).trans (Ext2.set m p S2 _)) (s2.set hp _) hds (sto_set hx2)
  simp only [dEq_iff (fit_int S2 r) (wk_int 0), eqc_int]
  by_cases h0 : r = 0
  · simp only [h0, decide_true, if_true]
    rw [app_ref hx2]
    exact ⟨by rw [isl_ref hx2]; trivial, by simp only [LIM]; omega, fin _ (prt_not (prt_clause hc))⟩
  · simp only [h0, decide_false, Bool.false_eq_true, if_false]
    rw [app_ref hx2]
    exact ⟨by rw [isl_ref hx2]; trivial, by simp only [LIM]; omega, fin _ ((prt_clause hc).mono (Nat.le_refl _) (by omega))⟩
theorem not_l1 {fs : FEnv} {n : Nat} {E : DEnds} {m p : Nat} {mo x5 x6 x7 x8 : Option D} (f9 : fs.f "_law_draw" = some (lv n 2 spDraw)) (f12 : fs.f "_law_clause" = some (lv n 4 spClause)) (hl : 4 ≤ n) (hp : p ≠ m) : ∀ (l : List D) (S : Sto) (xs : List D) (x3 x4 : Option D), Src S m → S[p]? = some (.lst xs) → xs.length + l.length ≤ 4 → Uni xs →
    (∀ S' x3' x4' xs', Ext2 m p S S' → Src S' m → S'[p]? = some (.lst xs') → xs'.length = xs.length + l.length → Uni xs' → E.nx [some (.ref m), mo, some (.ref p), x3', x4', x5, x6, x7, x8] S') →
    fLoop (fun _ => True) (fun d ρ' S' k => DW.wG fs (.name 3) d ρ' S' noX k) (fun E' ρ' S' => wB fs ir__law_notice_b1 E' ρ' S') E l [some (.ref m), mo, some (.ref p), x3, x4, x5, x6, x7, x8] S
  | [], S, xs, x3, x4, hs, hx, hlen, hu, hE => ⟨trivial, hE S x3 x4 xs (Ext2.refl m p S) hs hx rfl hu⟩
  | d :: r, S, xs, x3, x4, hs, hx, hlen, hu, hE => by
    refine ⟨trivial, ?_⟩
    show wB fs ir__law_notice_b1 _ [some (.ref m), mo, some (.ref p), some d, x4, x5, x6, x7, x8] S
    simp only [List.length_cons] at hlen
    refine not_b1 f9 f12 hl hs hp hx (by omega) fun S1 x4' ds e1 s1 hds hx1 => ?_
    refine not_l1 f9 f12 hl hp r S1 (xs ++ [.tup ds]) _ x4' s1 hx1 (by simp; omega) (fun x hx => ?_) fun S2 x3' x4'' xs' e2 s2 hx2 hl2 hu2 => ?_
    · rcases List.mem_append.mp hx with hx | hx
      · exact hu x hx
      · rw [List.mem_singleton.mp hx]; exact ⟨ds, rfl, hds⟩
    · exact hE S2 x3' x4'' xs' (e1.trans e2) s2 hx2 (by rw [hl2]; simp; omega) hu2
theorem j6 {w : D} (h : w ∈ [D.str "and", D.str "and", D.str "or", D.str "or", D.str "unless", D.str "onlyif"]) : w ∈ jts := by
  simp only [List.mem_cons, List.not_mem_nil, or_false, jts] at h ⊢
  rcases h with h | h | h | h | h | h <;> simp [h]
theorem not_b0 {fs : FEnv} {n : Nat} {E : DEnds} {S : Sto} {m : Nat} {mo x2 x3 x5 x6 x7 : Option D} {ds es : List D} (f10 : fs.f "_law_choice" = some (lv n 3 spChoice)) (hl : 3 ≤ n) (hs : Src S m) (hd : ds.length ≤ 100) (he : es.length ≤ 100)
    (hE : ∀ S' w, ExtB m S S' → Src S' m → w ∈ jts → E.nx [some (.ref m), mo, x2, x3, some (.tup es), x5, x6, x7, some (.tup (ds ++ [w] ++ es))] S') :
    wB fs ir__law_notice_b0 E [some (.ref m), mo, x2, x3, some (.tup es), x5, x6, x7, some (.tup ds)] S := by
  simp only [DW.wG, DW.wGs, gsLen, List.set_cons_succ, List.set_cons_zero, wB, wS, DW.wT, DW.wTs, DW.wE, DW.wA, DW.wO, DW.wI, List.getElem?_cons_succ, List.getElem?_cons_zero, cmp_eq, cmp_ne, cmp_in, cmp_nin, inA_tup, inA_ktup, op_shl', op_shr', op_and', op_or', op_xor', is_bl, isn_bl, iter_ktup, cmp_lt, cmp_le, cmp_gt, cmp_ge, tru_non, tru_bl, tru_int, tru_tup, op_addi, op_subi, op_muli, op_divi, op_modi, op_powi, op_addt, op_rept, len_tup, len_rol, idx_tup, idx_rol, slc_tup, iter_tup, iter_rol, eqc_int, LIM, Nat.reduceLeDiff, dBlt, dInt1, defEnds, startD, List.map_cons, List.map_nil, List.length_cons, List.length_nil, List.replicate_succ, List.replicate_zero, List.cons_append, List.nil_append, Nat.reduceAdd, Nat.reduceSub, Nat.zero_add, and_true, true_and, if_true, Bool.false_eq_true, if_false, ir__law_notice_b0, f10]
  have e1 := Ext.app S [Ob.lst [D.str "and", D.str "and", D.str "or", D.str "or", D.str "unless", D.str "onlyif"]]
  refine ⟨by omega, m, _, _, rfl, hs.ext e1, hs.ne, sto_last S _, by simp, by simp, fun S2 w e2 s2 hw => ?_⟩
  refine ⟨by omega, by simp only [List.length_append, List.length_cons, List.length_nil]; omega, ?_⟩
  exact hE S2 w ((e1.b m).trans e2) s2 (j6 hw)
/-- the parts joined -/
theorem not_l2 {fs : FEnv} {n : Nat} {E : DEnds} {m : Nat} {mo x2 x3 x5 x6 x7 : Option D} (f10 : fs.f "_law_choice" = some (lv n 3 spChoice)) (hl : 3 ≤ n) : ∀ (xs : List D) (c' l' : Nat), Pts c' l' xs → ∀ (chk : Sto → Prop) (S : Sto) (c l : Nat) (ds : List D) (x4 : Option D), (∀ S', ExtB m S S' → chk S') → Src S m → Prt c l ds → l + l' ≤ 100 →
    (∀ S' x4' ds', ExtB m S S' → Src S' m → Prt (c + c') (l + l') ds' → E.nx [some (.ref m), mo, x2, x3, x4', x5, x6, x7, some (.tup ds')] S') →
    fLoop chk (fun d ρ' S' k => DW.wG fs (.name 4) d ρ' S' noX k) (fun E' ρ' S' => wB fs ir__law_notice_b0 E' ρ' S') E xs [some (.ref m), mo, x2, x3, x4, x5, x6, x7, some (.tup ds)] S := by
  intro xs c' l' h
  induction h with
  | nil => exact fun chk S c l ds x4 hc hs hp _ hE => ⟨hc S (ExtB.refl m S), hE S x4 ds (ExtB.refl m S) hs hp⟩
  | @cons c1 l1 c2 l2 es zs p q ih =>
    intro chk S c l ds x4 hc hs hp hlen hE
    refine ⟨hc S (ExtB.refl m S), ?_⟩
    show wB fs ir__law_notice_b0 _ [some (.ref m), mo, x2, x3, some (.tup es), x5, x6, x7, some (.tup ds)] S
    have a1 := hp.ln
    have a2 := p.ln
    refine not_b0 f10 hl hs (by omega) (by omega) fun S2 w E2 s2 hw => ?_
    have J := prt_join hp hw p
    refine ih chk S2 _ _ _ _ (fun S' e => hc S' (E2.trans e)) s2 J (by omega) fun S' x4' ds' e s' hp' => ?_
    refine hE S' x4' ds' (E2.trans e) s' ?_
    rw [show c + (c1 + c2) = c + c1 + c2 from by omega, show l + (l1 + 1 + l2) = l + 1 + l1 + l2 from by omega]
    exact hp'
abbrev sN (k : Nat) : IS := match k, ir__law_notice with
  | 0, .cons s _ => s
  | 1, .cons _ (.cons s _) => s
  | 2, .cons _ (.cons _ (.cons s _)) => s
  | _, _ => .pass
abbrev restN : IB := match ir__law_notice with
  | .cons _ (.cons _ (.cons _ r)) => r
  | _ => .nil
theorem not_rest {fs : FEnv} {n : Nat} {Q : KQ} {X : KX} {S S3 : Sto} {m p : Nat} {ys : List D} {mo x3 x4 x5 x6 x7 : Option D} {c l : Nat} (f10 : fs.f "_law_choice" = some (lv n 3 spChoice)) (hn : 4 ≤ n) (q : ∀ S' v, ExtB m S S' → Src S' m → NoticeG v → Q v S') (E3 : ExtB m S S3) (s3 : Src S3 m) (h3 : S3[p]? = some (.lst ys)) (hy : 0 < ys.length)
    (hP : Pts c l ys) (hc : c ≤ 4) (hlen : l ≤ 17) : wB fs restN (defEnds Q X) [some (.ref m), mo, some (.ref p), x3, x4, x5, x6, x7, none] S3 := by
  simp only [DW.wG, DW.wGs, gsLen, List.set_cons_succ, List.set_cons_zero, wB, wS, DW.wT, DW.wTs, DW.wE, DW.wA, DW.wO, DW.wI, List.getElem?_cons_succ, List.getElem?_cons_zero, cmp_eq, cmp_ne, cmp_in, cmp_nin, inA_tup, inA_ktup, op_shl', op_shr', op_and', op_or', op_xor', is_bl, isn_bl, iter_ktup, cmp_lt, cmp_le, cmp_gt, cmp_ge, tru_non, tru_bl, tru_int, tru_tup, op_addi, op_subi, op_muli, op_divi, op_modi, op_powi, op_addt, op_rept, len_tup, len_rol, idx_tup, idx_rol, slc_tup, iter_tup, iter_rol, eqc_int, LIM, Nat.reduceLeDiff, dBlt, dInt1, defEnds, startD, List.map_cons, List.map_nil, List.length_cons, List.length_nil, List.replicate_succ, List.replicate_zero, List.cons_append, List.nil_append, Nat.reduceAdd, Nat.reduceSub, Nat.zero_add, and_true, true_and, if_true, Bool.false_eq_true, if_false, restN, ir__law_notice]
  rw [idx_ref h3]
  cases hP with
  | nil => simp at hy
  | @cons c1 l1 c2 l2 es zs p1 q1 =>
    refine ⟨_, at0 _ _, ?_⟩
    rw [slc_ref h3, cut1]
    simp only [iter_ref (sto_last S3 (.lst zs))]
    have e4 := Ext.app S3 [Ob.lst zs]
    refine not_l2 f10 (by omega) zs c2 l2 q1 _ _ c1 l1 es _ (fun S' e => e.2 _ _ s3.ne (sto_last S3 _)) (s3.ext e4) p1 (by omega) fun S5 x4' ds' e5 s5 hp5 => ?_
    simp only [DW.wG, DW.wGs, gsLen, List.set_cons_succ, List.set_cons_zero, wB, wS, DW.wT, DW.wTs, DW.wE, DW.wA, DW.wO, DW.wI, List.getElem?_cons_succ, List.getElem?_cons_zero, cmp_eq, cmp_ne, cmp_in, cmp_nin, inA_tup, inA_ktup, op_shl', op_shr', op_and', op_or', op_xor', is_bl, isn_bl, iter_ktup, cmp_lt, cmp_le, cmp_gt, cmp_ge, tru_non, tru_bl, tru_int, tru_tup, op_addi, op_subi, op_muli, op_divi, op_modi, op_powi, op_addt, op_rept, len_tup, len_rol, idx_tup, idx_rol, slc_tup, iter_tup, iter_rol, eqc_int, LIM, Nat.reduceLeDiff, dBlt, dInt1, defEnds, startD, List.map_cons, List.map_nil, List.length_cons, List.length_nil, List.replicate_succ, List.replicate_zero, List.cons_append, List.nil_append, Nat.reduceAdd, Nat.reduceSub, Nat.zero_add, and_true, true_and, if_true, Bool.false_eq_true, if_false]
    have hne := hp5.ln
    exact q S5 _ ((E3.trans (e4.b m)).trans e5) s5 (prt_notice hp5 (by omega) (by omega))
theorem not_s2 {fs : FEnv} {n : Nat} {E : DEnds} {S : Sto} {m p : Nat} {xs : List D} {mo x3 x4 x8 : Option D} (f9 : fs.f "_law_draw" = some (lv n 2 spDraw)) (f10 : fs.f "_law_choice" = some (lv n 3 spChoice)) (hn : 4 ≤ n) (hs : Src S m) (hp : p ≠ m) (hx : S[p]? = some (.lst xs)) (h0 : 0 < xs.length) (h4 : xs.length ≤ 4) (hu : Uni xs)
    (hE : ∀ S' p' ys x5 x6 x7 c l, ExtB m S S' → Src S' m → S'[p']? = some (.lst ys) → 0 < ys.length → Pts c l ys → c ≤ 4 → l ≤ 17 → E.nx [some (.ref m), mo, some (.ref p'), x3, x4, x5, x6, x7, x8] S') :
    wS fs (sN 2) E [some (.ref m), mo, some (.ref p), x3, x4, none, none, none, x8] S := by
  have plain : ∀ S', ExtB m S S' → Src S' m → E.nx [some (.ref m), mo, some (.ref p), x3, x4, none, none, none, x8] S' := fun S' e s => hE S' p xs none none none _ _ e s (e.2 _ _ hp hx) h0 (uni_pts hu) h4 (by omega)
  simp only [DW.wG, DW.wGs, gsLen, List.set_cons_succ, List.set_cons_zero, wB, wS, DW.wT, DW.wTs, DW.wE, DW.wA, DW.wO, DW.wI, List.getElem?_cons_succ, List.getElem?_cons_zero, cmp_eq, cmp_ne, cmp_in, cmp_nin, inA_tup, inA_ktup, op_shl', op_shr', op_and', op_or', op_xor', is_bl, isn_bl, iter_ktup, cmp_lt, cmp_le, cmp_gt, cmp_ge, tru_non, tru_bl, tru_int, tru_tup, op_addi, op_subi, op_muli, op_divi, op_modi, op_powi, op_addt, op_rept, len_tup, len_rol, idx_tup, idx_rol, slc_tup, iter_tup, iter_rol, eqc_int, LIM, Nat.reduceLeDiff, dBlt, dInt1, defEnds, startD, List.map_cons, List.map_nil, List.length_cons, List.length_nil, List.replicate_succ, List.replicate_zero, List.cons_append, List.nil_append, Nat.reduceAdd, Nat.reduceSub, Nat.zero_add, and_true, true_and, if_true, Bool.false_eq_true, if_false, sN, ir__law_notice, f9, f10]
  rw [len_ref hx]
  simp only [cmp_gt]
  by_cases h1 : (1 : Int) < xs.length
  · simp only [h1, decide_true, if_true]
    refine ⟨by omega, m, 3, rfl, hs, by decide, by decide, fun S1 r e1 s1 r0 r1 => ?_⟩
    simp only [dEq_iff (fit_int S1 r) (wk_int 0), eqc_int]
    have hx1 := e1.2 _ _ hp hx
    by_cases hr : r = 0
    · simp only [hr, decide_true, if_true]
      rw [len_ref hx1]
      simp only [op_subi]
      refine ⟨by omega, m, _, rfl, s1, by omega, by omega, fun S2 a e2 s2 a0 a1 => ?_⟩
      obtain ⟨a, rfl⟩ := Int.eq_ofNat_of_zero_le a0
      have e3 := Ext.app S2 [Ob.lst [D.str "and", D.str "or", D.str "unless", D.str "onlyif"]]
      refine ⟨by omega, m, _, _, rfl, s2.ext e3, s2.ne, sto_last S2 _, by simp, by simp, fun S4 w e4 s4 hw => ?_⟩
      have E4 := ((e1.trans e2).trans (e3.b m)).trans e4
      have hx4 := E4.2 _ _ hp hx
      have ha : a < xs.length := by omega
      have ha1 : a + 1 < xs.length := by omega
      have g1 : xs[a]? = some (xs[a]'ha) := List.getElem?_eq_getElem _
      have g2 : xs[a + 1]? = some (xs[a + 1]'ha1) := List.getElem?_eq_getElem _
      obtain ⟨ds1, h1', p1⟩ := hu _ (List.mem_of_getElem? g1)
      obtain ⟨ds2, h2', p2⟩ := hu _ (List.mem_of_getElem? g2)
      rw [h1'] at g1
      rw [h2'] at g2
      have l1 := p1.ln
      have l2 := p2.ln
      dsimp only
      rw [idx_ref hx4]
      refine ⟨_, atI_nat g1, ?_⟩
      simp only [op_addt, op_addi, LIM]
      refine ⟨by simp only [List.length_cons, List.length_nil]; omega, by simp only [List.length_append, List.length_cons, List.length_nil]; omega, ?_⟩
      rw [idx_ref hx4]
      refine ⟨_, atI_nat (j := a + 1) g2, ?_⟩
      simp only [op_addt, LIM]
      refine ⟨by simp only [List.length_append, List.length_cons, List.length_nil]; omega, by simp only [List.length_append, List.length_cons, List.length_nil]; omega, ?_⟩
      have whole : Prt 2 7 ([D.str "("] ++ ds1 ++ [w] ++ ds2 ++ [D.str ")"]) := by
        have := prt_br (prt_join p1 hw p2)
        rw [show [D.str "("] ++ (ds1 ++ [w] ++ ds2) ++ [D.str ")"] = [D.str "("] ++ ds1 ++ [w] ++ ds2 ++ [D.str ")"] from by simp] at this
        exact this
      generalize [D.str "("] ++ ds1 ++ [w] ++ ds2 ++ [D.str ")"] = W at whole ⊢
      have lw := whole.ln
      rw [slc_ref hx4, cut_lo]
      have e5 := Ext.app S4 [Ob.lst (xs.take a)]
      refine ⟨by omega, m, 3, rfl, s4.ext e5, by decide, by decide, fun S6 r' e6 s6 r0' r1' => ?_⟩
      have E6 := (E4.trans (e5.b m)).trans e6
      simp only [dEq_iff (fit_int S6 r') (wk_int 0), eqc_int]
      have hx6 := E6.2 _ _ hp hx
      have ht6 : S6[S4.length]? = some (.lst (xs.take a)) := e6.2 _ _ s4.ne (sto_last S4 _)
      -- the list of the parts, put together
      have fin : ∀ V, Prt 2 8 V → dOp .Add (.ref S4.length) (.ref S6.length) (S6 ++ [Ob.lst [.tup V]]) (fun x S1 => dOp .Add (.int (a : Int)) (.int 2) S1 fun d S1 => match d with
          | .int i => dSlc (.ref p) (some i) none S1 fun y S2 => dOp .Add x y S2 fun d S1 => E.nx [some (.ref m), mo, some d, x3, x4, some (.int (a : Int)), some w, some (.tup W), x8] S1
          | _ => False) := fun V hV => by
        rw [op_addl (Ext.app S6 _ _ _ ht6) (sto_last S6 _)]
        refine ⟨by simp only [List.length_take, List.length_cons, List.length_nil, LIM]; omega, ?_⟩
        simp only [op_addi]
        have e7 := (Ext.app S6 [Ob.lst [.tup V]]).trans (Ext.app _ [Ob.lst (xs.take a ++ [.tup V])])
        rw [slc_ref (e7 _ _ hx6)]
        rw [show DW.cutD xs (some ((a : Int) + 2)) none = xs.drop (a + 2) from cut_hi xs a 2]
        rw [op_addl (Ext.app _ _ _ _ (sto_last _ _)) (sto_last _ _)]
        refine ⟨by simp only [List.length_append, List.length_take, List.length_drop, List.length_cons, List.length_nil, LIM]; omega, ?_⟩
        have e9 := e7.trans ((Ext.app _ [Ob.lst (xs.drop (a + 2))]).trans (Ext.app _ [Ob.lst (xs.take a ++ [.tup V] ++ xs.drop (a + 2))]))
        have E9 := E6.trans (e9.b m)
        have s9 := s6.ext e9
        have u1 : Uni (xs.take a) := fun x hx => hu x (List.mem_of_mem_take hx)
        have u2 : Uni (xs.drop (a + 2)) := fun x hx => hu x (List.mem_of_mem_drop hx)
        have P := pts_app (pts_app (uni_pts u1) (Pts.cons hV .nil)) (uni_pts u2)
        have q1 : (xs.take a).length = a := by rw [List.length_take]; omega
        have q2 : (xs.drop (a + 2)).length = xs.length - (a + 2) := List.length_drop
        exact hE _ _ _ _ _ _ _ _ E9 s9 (sto_last _ _) (by simp only [List.length_append, List.length_cons, List.length_nil]; omega) P (by omega) (by omega)
      by_cases hr' : r' = 0
      · simp only [hr', decide_true, if_true]
        refine ⟨by simp only [List.length_cons, List.length_nil]; omega, ?_⟩
        exact fin _ (prt_not whole)
      · simp only [hr', decide_false, Bool.false_eq_true, if_false]
        exact fin _ (whole.mono (Nat.le_refl _) (by omega))
    · simp only [hr, decide_false, Bool.false_eq_true, if_false]
      exact plain S1 e1 s1
  · simp only [h1, decide_false, Bool.false_eq_true, if_false]
    exact plain S (ExtB.refl m S) hs
theorem ob__law_notice {fs : FEnv} (n : Nat) (f9 : fs.f "_law_draw" = some (lv n 2 spDraw)) (f10 : fs.f "_law_choice" = some (lv n 3 spChoice)) (f12 : fs.f "_law_clause" = some (lv n 4 spClause)) (ds : List D) (S : Sto) (Q : KQ) (X : KX) (h : lv (n + 1) 5 spNotice ds S Q X) : wB fs ir__law_notice (defEnds Q X) (startD N__law_notice ds) S := by
  obtain ⟨hl, m, mo, rfl, mo1, mo4, hs, q⟩ := h
  show wS fs (sN 0) { defEnds Q X with nx := fun ρ S => wS fs (sN 1) { defEnds Q X with nx := fun ρ S => wS fs (sN 2) { defEnds Q X with nx := fun ρ S => wB fs restN (defEnds Q X) ρ S } ρ S } ρ S } _ S
  have hpm : S.length ≠ m := hs.ne
  have st0 : ∀ (E : DEnds), E.nx [some (.ref m), some (.int (mo : Int)), some (.ref S.length), none, none, none, none, none, none] (S ++ [Ob.lst []]) → wS fs (sN 0) E (startD N__law_notice [.ref m, .int (mo : Int)]) S := fun E h => by
    simp only [DW.wG, DW.wGs, gsLen, List.set_cons_succ, List.set_cons_zero, wB, wS, DW.wT, DW.wTs, DW.wE, DW.wA, DW.wO, DW.wI, List.getElem?_cons_succ, List.getElem?_cons_zero, cmp_eq, cmp_ne, cmp_in, cmp_nin, inA_tup, inA_ktup, op_shl', op_shr', op_and', op_or', op_xor', is_bl, isn_bl, iter_ktup, cmp_lt, cmp_le, cmp_gt, cmp_ge, tru_non, tru_bl, tru_int, tru_tup, op_addi, op_subi, op_muli, op_divi, op_modi, op_powi, op_addt, op_rept, len_tup, len_rol, idx_tup, idx_rol, slc_tup, iter_tup, iter_rol, eqc_int, LIM, Nat.reduceLeDiff, dBlt, dInt1, defEnds, startD, List.map_cons, List.map_nil, List.length_cons, List.length_nil, List.replicate_succ, List.replicate_zero, List.cons_append, List.nil_append, Nat.reduceAdd, Nat.reduceSub, Nat.zero_add, and_true, true_and, if_true, Bool.false_eq_true, if_false, sN, ir__law_notice]
    exact h
  have e0 := Ext.app S [Ob.lst []]
  have st1 : ∀ (E : DEnds), (∀ S2 x3 x4 xs, ExtB m S S2 → Src S2 m → S2[S.length]? = some (.lst xs) → 0 < xs.length → xs.length ≤ 4 → Uni xs → E.nx [some (.ref m), some (.int (mo : Int)), some (.ref S.length), x3, x4, none, none, none, none] S2) →
      wS fs (sN 1) E [some (.ref m), some (.int (mo : Int)), some (.ref S.length), none, none, none, none, none, none] (S ++ [Ob.lst []]) := fun E h => by
    simp only [DW.wG, DW.wGs, gsLen, List.set_cons_succ, List.set_cons_zero, wB, wS, DW.wT, DW.wTs, DW.wE, DW.wA, DW.wO, DW.wI, List.getElem?_cons_succ, List.getElem?_cons_zero, cmp_eq, cmp_ne, cmp_in, cmp_nin, inA_tup, inA_ktup, op_shl', op_shr', op_and', op_or', op_xor', is_bl, isn_bl, iter_ktup, cmp_lt, cmp_le, cmp_gt, cmp_ge, tru_non, tru_bl, tru_int, tru_tup, op_addi, op_subi, op_muli, op_divi, op_modi, op_powi, op_addt, op_rept, len_tup, len_rol, idx_tup, idx_rol, slc_tup, iter_tup, iter_rol, eqc_int, LIM, Nat.reduceLeDiff, dBlt, dInt1, defEnds, startD, List.map_cons, List.map_nil, List.length_cons, List.length_nil, List.replicate_succ, List.replicate_zero, List.cons_append, List.nil_append, Nat.reduceAdd, Nat.reduceSub, Nat.zero_add, and_true, true_and, if_true, Bool.false_eq_true, if_false, sN, ir__law_notice, f9]
    refine ⟨by omega, m, mo, rfl, hs.ext e0, by omega, by omega, fun S1 r e1 s1 r0 r1 => ?_⟩
    obtain ⟨r, rfl⟩ := Int.eq_ofNat_of_zero_le r0
    simp only [op_addi]
    refine ⟨⟨by omega, by omega⟩, ?_⟩
    have hN : (DW.intsFrom 0 (1 + (r : Int)).toNat).length = r + 1 := by
      unfold DW.intsFrom
      simp
      omega
    have hx1 := e1.2 _ _ hpm (sto_last S (.lst []))
    refine not_l1 f9 f12 (by omega) hpm _ S1 [] none none s1 hx1 (by rw [hN]; simp; omega) (fun x h => by cases h) fun S2 x3 x4 xs e2 s2 hx2 hlx hu => ?_
    rw [hN] at hlx
    simp only [List.length_nil, Nat.zero_add] at hlx
    exact h S2 x3 x4 xs (Ext2.b ((e0.b m).trans e1) e2 (Nat.le_refl _)) s2 hx2 (by omega) (by omega) hu
  refine st0 _ (st1 _ fun S2 x3 x4 xs E2 s2 hx2 h0 h4 hu => ?_)
  refine not_s2 f9 f10 (by omega) s2 hpm hx2 h0 h4 hu fun S3 p' ys x5 x6 x7 c l E3 s3 h3 hy hP hc hl' => ?_
  exact not_rest f10 (by omega) q (E2.trans E3) s3 h3 hy hP hc hl'
end KS

set_option Elab.async false
set_option linter.all false
set_option maxRecDepth 100000
set_option maxHeartbeats 1000000

namespace KS
open PySem PySem.Spec PyProof.Rows L2 DW KP

/-! ### signs and their words -/
/-- all signs, as the program lists them -/
def SG : List D := [sD "and", sD "or", sD "unless", sD "onlyif", sD "not", sD "(", sD ")",
  .tup [sD "all", sD "a", sD "b"], .tup [sD "all", sD "b", sD "a"], .tup [sD "some", sD "a", sD "b"], .tup [sD "some", sD "b", sD "a"], .tup [sD "no", sD "a", sD "b"], .tup [sD "no", sD "b", sD "a"], .tup [sD "allnot", sD "a", sD "b"], .tup [sD "allnot", sD "b", sD "a"],
  .tup [sD "has", .int 1, sD "a"], .tup [sD "has", .int 1, sD "b"], .tup [sD "has", .int 1, sD "both"], .tup [sD "has", .int 2, sD "a"], .tup [sD "has", .int 2, sD "b"], .tup [sD "has", .int 2, sD "both"], .tup [sD "has", .int 3, sD "a"], .tup [sD "has", .int 3, sD "b"], .tup [sD "has", .int 3, sD "both"]]
def itS : D → Str
  | .str x => x
  | .int i => Str.ofString (toString i)
  | _ => Str.empty
/-- a sign's word -/
def wd : D → Str
  | .str x => x
  | .tup [a, b, c] => itS a ++ ("-" : Str) ++ itS b ++ ("-" : Str) ++ itS c
  | _ => Str.empty
theorem isM_of {f s : D} (h : isM f s = true) : (f = sD "a" ∧ s = sD "b") ∨ (f = sD "b" ∧ s = sD "a") := by
  simp only [isM, List.any_cons, List.any_nil, Bool.or_false, Bool.or_eq_true] at h
  rcases h with h | h
  · simp only [eqc, eqcs, Bool.and_true, Bool.and_eq_true] at h
    exact .inl ⟨eqc_s h.1, eqc_s h.2⟩
  · simp only [eqc, eqcs, Bool.and_true, Bool.and_eq_true] at h
    exact .inr ⟨eqc_s h.1, eqc_s h.2⟩
theorem any_s {w : D} : ∀ {xs : List String}, ((xs.map sD).any fun c => eqc w c) = true → ∃ x ∈ xs, w = sD x
  | [], h => by cases h
  | x :: xs, h => by
    simp only [List.map_cons, List.any_cons, Bool.or_eq_true] at h
    rcases h with h | h
    · exact ⟨x, List.mem_cons_self, eqc_s h⟩
    · obtain ⟨y, hy, e⟩ := any_s h
      exact ⟨y, List.mem_cons_of_mem _ hy, e⟩
theorem isC_of {s : D} (h : isC s = true) : s = sD "a" ∨ s = sD "b" ∨ s = sD "both" := by
  obtain ⟨x, hx, e⟩ := any_s (xs := ["a", "b", "both"]) h
  simp only [List.mem_cons, List.not_mem_nil, or_false] at hx
  rcases hx with rfl | rfl | rfl <;> simp [e]
theorem isNum_of {d : D} (h : isNum d 1 3 = true) : d = .int 1 ∨ d = .int 2 ∨ d = .int 3 := by
  unfold isNum at h
  split at h
  · rename_i i
    simp only [Bool.and_eq_true, decide_eq_true_eq] at h
    have : i = 1 ∨ i = 2 ∨ i = 3 := by omega
    rcases this with rfl | rfl | rfl <;> simp
  · cases h
theorem sg_of {d : D} (h : isSign d = true) : d ∈ SG := by
  unfold isSign at h
  split at h
  · rw [Bool.or_eq_true] at h
    rcases h with h | h
    · obtain ⟨x, hx, rfl⟩ := any_s (xs := ["and", "or", "unless", "onlyif"]) h
      simp only [List.mem_cons, List.not_mem_nil, or_false] at hx
      rcases hx with rfl | rfl | rfl | rfl <;> simp [SG]
    · obtain ⟨x, hx, rfl⟩ := any_s (xs := ["not", "(", ")"]) h
      simp only [List.mem_cons, List.not_mem_nil, or_false] at hx
      rcases hx with rfl | rfl | rfl <;> simp [SG]
  · unfold isTriple at h
    split at h
    · rename_i w f s
      split at h
      · rename_i hw
        obtain ⟨x, hx, rfl⟩ := any_s (xs := ["all", "some", "no", "allnot"]) hw
        simp only [List.mem_cons, List.not_mem_nil, or_false] at hx
        rcases isM_of h with ⟨rfl, rfl⟩ | ⟨rfl, rfl⟩ <;> rcases hx with rfl | rfl | rfl | rfl <;> simp [SG]
      · simp only [Bool.and_eq_true] at h
        obtain ⟨h1, h2, h3⟩ := h
        obtain ⟨x, hx, rfl⟩ := any_s (xs := ["has"]) h1
        simp only [List.mem_cons, List.not_mem_nil, or_false] at hx
        subst hx
        rcases isNum_of h2 with rfl | rfl | rfl <;> rcases isC_of h3 with rfl | rfl | rfl <;> simp [SG]
    · cases h
theorem sg_all {p : D → Bool} (h : SG.all p = true) : ∀ d ∈ SG, p d = true := List.all_eq_true.mp h
theorem sg_sign : ∀ d ∈ SG, isSign d = true := sg_all (by decide +kernel)
theorem sg_okd {d : D} (h : d ∈ SG) (S : Sto) : okd 3 2 S d = true := okd_ext (S := []) (fun n o e => by cases e) (sg_all (p := okd 3 2 []) (by decide +kernel) d h)
theorem sg_len : ∀ d ∈ SG, (wd d).length ≤ 10 := fun d h => of_decide_eq_true (sg_all (p := fun d => decide ((wd d).length ≤ 10)) (by decide +kernel) d h)
theorem sg_free : ∀ d ∈ SG, 32 ∉ TL.tl (wd d) := fun d h => of_decide_eq_true (sg_all (p := fun d => decide (32 ∉ TL.tl (wd d))) (by decide +kernel) d h)
theorem sg_ok : ∀ d ∈ SG, PyData.strOk (wd d) = true := sg_all (by decide +kernel)
theorem sg_nodup : (SG.map wd).Nodup := by decide +kernel
theorem sg_kind {d : D} (h : d ∈ SG) : (∃ x : String, d = sD x ∧ wd d = Str.ofString x) ∨ ∃ a b c, d = .tup [a, b, c] ∧ (∃ x : String, a = sD x) ∧ ((∃ x : String, b = sD x) ∨ ∃ i : Int, b = .int i ∧ 1 ≤ i ∧ i ≤ 3) ∧ ∃ x : String, c = sD x := by
  simp only [SG, List.mem_cons, List.not_mem_nil, or_false] at h
  rcases h with rfl | rfl | rfl | rfl | rfl | rfl | rfl | rfl | rfl | rfl | rfl | rfl | rfl | rfl | rfl | rfl | rfl | rfl | rfl | rfl | rfl | rfl | rfl | rfl
  all_goals first
    | exact .inl ⟨_, rfl, rfl⟩
    | exact .inr ⟨_, _, _, rfl, ⟨_, rfl⟩, .inl ⟨_, rfl⟩, _, rfl⟩
    | exact .inr ⟨_, _, _, rfl, ⟨_, rfl⟩, .inr ⟨_, rfl, by decide, by decide⟩, _, rfl⟩

/-! ### a table of words -/
/-- each word with its sign -/
def kvOf (l : List D) : List (L2.Key × D) := l.map fun s => (.inr (wd s), s)
theorem kv_find : ∀ {l : List D}, (l.map wd).Nodup → ∀ {d : D}, d ∈ l → valD (kvOf l) (.inr (wd d)) = some d
  | [], _, _, h => by cases h
  | x :: l, hn, d, h => by
    rw [List.map_cons, List.nodup_cons] at hn
    unfold valD kvOf
    rw [List.map_cons, List.find?_cons]
    rcases List.mem_cons.mp h with rfl | h
    · simp
    · have ne : ¬ wd x = wd d := fun e => hn.1 (by rw [e]; exact List.mem_map_of_mem h)
      have e2 : decide ((Sum.inr (wd x) : L2.Key) = .inr (wd d)) = false := decide_eq_false fun z => ne (Sum.inr.inj z)
      simp only [e2]
      exact kv_find hn.2 h
theorem kv_some {l : List D} {t : Str} {d : D} (h : valD (kvOf l) (.inr t) = some d) : d ∈ l ∧ wd d = t := by
  unfold valD at h
  rw [Option.map_eq_some_iff] at h
  obtain ⟨kv, e, rfl⟩ := h
  have m := List.mem_of_find?_eq_some e
  have p := List.find?_some e
  simp only [decide_eq_true_eq] at p
  obtain ⟨s, hs, rfl⟩ := List.mem_map.mp m
  exact ⟨hs, Sum.inr.inj p⟩
/-- the sign of a word -/
def look (t : Str) : Option D := valD (kvOf SG) (.inr t)
theorem look_wd {d : D} (h : d ∈ SG) : look (wd d) = some d := kv_find sg_nodup h
theorem look_some {t : Str} {d : D} (h : look t = some d) : d ∈ SG ∧ wd d = t := kv_some h
/-- another table with the same signs -/
theorem look_perm {l : List D} (hn : (l.map wd).Nodup) (h1 : ∀ d ∈ l, d ∈ SG) (h2 : ∀ d ∈ SG, d ∈ l) (t : Str) : valD (kvOf l) (.inr t) = look t := by
  cases e : look t with
  | some d =>
    obtain ⟨m, rfl⟩ := look_some e
    exact kv_find hn (h2 d m)
  | none =>
    cases e2 : valD (kvOf l) (.inr t) with
    | none => rfl
    | some d =>
      obtain ⟨m, rfl⟩ := kv_some e2
      rw [look_wd (h1 d m)] at e
      cases e

/-! ### the reading of a text -/
abbrev sp1 : Str := " "
theorem tl_sp : TL.tl sp1 = 32 :: [] := by decide +kernel
/-- the text of signs -/
def txt (ds : List D) : Str := Txt.join sp1 (ds.map wd)
def txtD : D → Str
  | .tup ds => txt ds
  | _ => Str.empty
/-- how many words ahead of the first that is none -/
def okW (ws : List Str) : Nat := (ws.takeWhile fun w => (look w).isSome).length
def rdW (ws : List Str) : D ⊕ Int :=
  if okW ws < ws.length then .inr ((okW ws : Nat) + 1 : Int) else if isNotice (.tup (ws.filterMap look)) = true then .inl (.tup (ws.filterMap look)) else .inr ((ws.length : Nat) + 1 : Int)
/-- what a value's reading is: a notice, or the number that is told -/
def rd : D → D ⊕ Int
  | .str t => rdW (Txt.split t sp1)
  | _ => .inr 0
theorem map_look : ∀ {ds : List D}, (∀ d ∈ ds, d ∈ SG) → (ds.map wd).filterMap look = ds ∧ okW (ds.map wd) = ds.length
  | [], _ => ⟨rfl, rfl⟩
  | d :: ds, h => by
    obtain ⟨e1, e2⟩ := map_look (ds := ds) fun x hx => h x (List.mem_cons_of_mem _ hx)
    have e := look_wd (h d List.mem_cons_self)
    constructor
    · rw [List.map_cons, List.filterMap_cons, e, e1]
    · unfold okW at e2 ⊢
      rw [List.map_cons, List.takeWhile_cons]
      simp only [e, Option.isSome_some, if_true, List.length_cons, e2]
theorem split_txt {ds : List D} (h : ∀ d ∈ ds, d ∈ SG) (hne : ds ≠ []) : Txt.split (txt ds) sp1 = ds.map wd :=
  TL.split_join tl_sp (by decide +kernel) (by simpa using hne) fun p hp => by
    obtain ⟨d, hd, rfl⟩ := List.mem_map.mp hp
    exact sg_free d (h d hd)
theorem notice_ne {ds : List D} (h : isNotice (.tup ds) = true) : ds ≠ [] := by
  rintro rfl
  exact absurd h (by decide)
theorem notice_parts {ds : List D} (h : isNotice (.tup ds) = true) : (1 ≤ ds.length ∧ ds.length ≤ 16) ∧ ∀ d ∈ ds, d ∈ SG := by
  unfold isNotice at h
  simp only [Bool.and_eq_true, decide_eq_true_eq, List.all_eq_true] at h
  exact ⟨h.1, fun d hd => sg_of (h.2.1 d hd)⟩
/-- THE READ-BACK -/
theorem rd_txt {ds : List D} (h : isNotice (.tup ds) = true) : rd (.str (txt ds)) = .inl (.tup ds) := by
  obtain ⟨_, m⟩ := notice_parts h
  show rdW (Txt.split (txt ds) sp1) = _
  unfold rdW
  rw [split_txt m (notice_ne h)]
  obtain ⟨e1, e2⟩ := map_look m
  rw [e1, e2, List.length_map, if_neg (Nat.lt_irrefl _), if_pos h]

/-! ### lengths -/
theorem glued_len (y : Str) : ∀ (l : List Str), (Str.join y l).length + y.length = (l.map (·.length)).sum + l.length * y.length ∨ l = []
  | [] => .inr rfl
  | [x] => .inl (by simp [Str.join])
  | x :: z :: r => by
    have ih := glued_len y (z :: r)
    rcases ih with ih | ih
    · left
      show (x ++ y ++ Str.join y (z :: r)).length + y.length = _
      rw [PySem.Str.length_append, PySem.Str.length_append, List.map_cons, List.sum_cons, List.length_cons, Nat.succ_mul]
      omega
    · cases ih
theorem sp1_len : sp1.length = 1 := by decide +kernel
/-- the words of a text, put together again -/
theorem split_sum (t : Str) : ((Txt.split t sp1).map (·.length)).sum + (Txt.split t sp1).length ≤ t.length + 1 := by
  rcases glued_len sp1 (Txt.split t sp1) with h | h
  · rw [PySem.StrLaws.join_split, sp1_len, Nat.mul_one] at h
    omega
  · rw [h]; simp
theorem split_len (t : Str) : (Txt.split t sp1).length ≤ t.length + 1 := Nat.le_trans (Nat.le_add_left _ _) (split_sum t)
theorem split_ne (t : Str) : 1 ≤ (Txt.split t sp1).length := by
  unfold Txt.split
  split
  · simp
  · split
    · simp
    · unfold Builtin.Str.partsBetween
      simp
end KS

set_option Elab.async false
set_option linter.all false
set_option maxRecDepth 100000
set_option maxHeartbeats 1000000

namespace KS
open PySem PySem.Spec PyProof.Rows L2 DW KP

/-! ### loops -/
theorem fLoop_gen {chk : Sto → Prop} {tg : D → En → Sto → (En → Sto → Prop) → Prop} {body : DEnds → En → Sto → Prop} {E : DEnds} (J : List D → En → Sto → Prop) (hc : ∀ r ρ S, J r ρ S → chk S) (hn : ∀ ρ S, J [] ρ S → E.nx ρ S)
    (hs : ∀ d r ρ S (N : En → Sto → Prop), J (d :: r) ρ S → (∀ ρ' S', J r ρ' S' → N ρ' S') → tg d ρ S fun ρ2 S2 => body { E with nx := N, ct := N, bk := E.nx } ρ2 S2) : ∀ r ρ S, J r ρ S → fLoop chk tg body E r ρ S
  | [], ρ, S, h => ⟨hc _ _ _ h, hn ρ S h⟩
  | d :: r, ρ, S, h => ⟨hc _ _ _ h, hs d r ρ S _ h fun ρ' S' h' => fLoop_gen J hc hn hs r ρ' S' h'⟩
/-- what an iterator walks -/
def Its (fs : FEnv) (it : II) (ρ : En) (S : Sto) (X : KX) (xs : List D) : Prop := ∀ k : KI, (∀ (chk : Sto → Prop) (S1 : Sto), Ext S S1 → (∀ S', Ext S1 S' → chk S') → k xs chk S1) → DW.wI fs it ρ S X k
/-- a comprehension: each item's own value -/
theorem map_lcp {fs : FEnv} {S : Sto} {ρ : En} {X : KX} {xs : List D} {i : Nat} {elt : IE} {it : II} {own : List Nat} {B : KQ} (f : D → D) (hl : xs.length < LIM) (hi : Its fs it ρ S X xs)
    (helt : ∀ d ∈ xs, ∀ S1 (R : KQ), Ext S S1 → (∀ S2, Ext S1 S2 → R (f d) S2) → DW.wE fs elt ((wipeD ρ own).set i (some d)) S1 noX R)
    (hB : ∀ S' n, Ext S S' → S.length ≤ n → S'[n]? = some (.lst (xs.map f)) → B (.ref n) S') : DW.wE fs (.lcp own (.name i) it .none elt) ρ S X B := by
  simp only [DW.wE]
  refine hi _ fun chk S0 e0 hc => ?_
  refine cLoop_ext (fun d => some (f d)) hl hc (fun d hd S1 ky kn e1 k => ?_) fun S' e1 e2 => hB S' _ (e0.trans e1) e0.len (by rw [e2]; simp)
  simp only [DW.wG, DW.wTs, if_true]
  exact helt d hd S1 _ (e0.trans e1) k
theorem it_tup {fs : FEnv} {S : Sto} {ρ : En} {X : KX} {e : IE} {xs : List D} (h : ∀ k : KQ, k (.tup xs) S → DW.wE fs e ρ S X k) : Its fs (.val e) ρ S X xs := fun k q => by
  simp only [DW.wI]
  exact h _ (by simp only [iter_tup]; exact q _ S (Ext.refl S) fun _ _ => trivial)
theorem it_ref {fs : FEnv} {S : Sto} {ρ : En} {X : KX} {e : IE} {n : Nat} {xs : List D} (hn : S[n]? = some (.lst xs)) (h : ∀ k : KQ, k (.ref n) S → DW.wE fs e ρ S X k) : Its fs (.val e) ρ S X xs := fun k q => by
  simp only [DW.wI]
  exact h _ (by rw [iter_ref hn]; exact q _ S (Ext.refl S) fun S' e => e _ _ hn)
/-- a list that is made for the walk -/
theorem it_new {fs : FEnv} {S : Sto} {ρ : En} {X : KX} {e : IE} {xs : List D} (h : ∀ k : KQ, (∀ S' n, Ext S S' → S'[n]? = some (.lst xs) → k (.ref n) S') → DW.wE fs e ρ S X k) : Its fs (.val e) ρ S X xs := fun k q => by
  simp only [DW.wI]
  exact h _ fun S' n e1 hn => by rw [iter_ref hn]; exact q _ S' e1 fun S2 e => e _ _ hn
theorem kLoop_gen {n : Nat} {chk : Sto → Prop} {turn : D → Sto → (D → D → Sto → Prop) → (Sto → Prop) → Prop} {k : Sto → Prop} (J : List D → List (L2.Key × D) → Sto → Prop) (hc : ∀ r kvs S, J r kvs S → chk S)
    (hs : ∀ d r kvs S ky kn, J (d :: r) kvs S → (∀ y key z S', key1 y = some key → S'[n]? = some (.dk kvs) → kvs.length < LIM → J r (putD kvs key z) (S'.set n (.dk (putD kvs key z))) → ky y z S') → (∀ S', J r kvs S' → kn S') → turn d S ky kn)
    (hk : ∀ kvs S, J [] kvs S → k S) : ∀ (r : List D) (kvs : List (L2.Key × D)) (S : Sto), J r kvs S → kLoop n chk turn k r S
  | [], kvs, S, h => ⟨hc _ _ _ h, hk _ _ h⟩
  | d :: r, kvs, S, h => by
    refine ⟨hc _ _ _ h, hs d r kvs S _ _ h (fun y key z S' e1 e2 e3 j => ⟨key, kvs, e1, e2, e3, ?_⟩) fun S' j => ?_⟩
    · exact kLoop_gen J hc hs hk r _ _ j
    · exact kLoop_gen J hc hs hk r _ _ j
theorem putD_new {kvs : List (L2.Key × D)} {k : L2.Key} {d : D} (h : k ∉ kvs.map (·.1)) : putD kvs k d = kvs ++ [(k, d)] := by
  unfold putD
  rw [if_neg]
  intro z
  obtain ⟨kv, m, e⟩ := List.any_eq_true.mp z
  exact h (by rw [← of_decide_eq_true e]; exact List.mem_map_of_mem m)
/-- a dict comprehension: each item by its own word -/
theorem map_dcp {fs : FEnv} {S : Sto} {ρ : En} {X : KX} {xs : List D} {i : Nat} {ke ve : IE} {it : II} {own : List Nat} {B : KQ} (f : D → Str) (g : D → D) (hn : (xs.map f).Nodup) (hl : xs.length < LIM) (hi : Its fs it ρ S X xs)
    (hkey : ∀ d ∈ xs, ∀ S1 (R : KQ), Ext S S1 → (∀ S2, Ext S1 S2 → R (.str (f d)) S2) → DW.wE fs ke ((wipeD ρ own).set i (some d)) S1 noX R)
    (hval : ∀ d ∈ xs, ∀ S1 (R : KQ), Ext S S1 → (∀ S2, Ext S1 S2 → R (g d) S2) → DW.wE fs ve ((wipeD ρ own).set i (some d)) S1 noX R)
    (hB : ∀ S' n, Ext S S' → S.length ≤ n → S'[n]? = some (.dk (xs.map fun d => (.inr (f d), g d))) → B (.ref n) S') : DW.wE fs (.dcp own (.name i) it .none ke ve) ρ S X B := by
  simp only [DW.wE]
  refine hi _ fun chk S0 e0 hc => ?_
  refine kLoop_gen (J := fun r kvs S' => ∃ done, xs = done ++ r ∧ kvs = (done.map fun d => (.inr (f d), g d)) ∧ Ext S0 S' ∧ S'[S0.length]? = some (.dk kvs)) ?_ ?_ ?_ xs [] _ ⟨[], rfl, rfl, Ext.app S0 _, sto_last S0 _⟩
  · rintro r kvs S' ⟨_, _, _, e, _⟩
    exact hc S' e
  · rintro d r kvs S1 ky kn ⟨done, e1, e2, e3, e4⟩ h1 h2
    have hd : d ∈ xs := by rw [e1]; simp
    simp only [DW.wG, DW.wTs, if_true]
    refine hkey d hd S1 _ (e0.trans e3) fun S2 e5 => ?_
    refine hval d hd S2 _ ((e0.trans e3).trans e5) fun S3 e6 => ?_
    have nk : (Sum.inr (f d) : L2.Key) ∉ kvs.map (·.1) := fun z => by
      rw [e2, List.map_map] at z
      obtain ⟨d', m', e'⟩ := List.mem_map.mp z
      have e' : f d' = f d := Sum.inr.inj e'
      rw [e1, List.map_append, List.map_cons, List.nodup_append] at hn
      exact hn.2.2 _ (List.mem_map_of_mem m') _ List.mem_cons_self e'
    have e7 := (e5.trans e6) _ _ e4
    have len : kvs.length < LIM := by
      rw [e2, List.length_map]
      have : xs.length = done.length + (d :: r).length := by rw [e1, List.length_append]
      simp only [List.length_cons] at this
      omega
    refine h1 _ (.inr (f d)) _ S3 rfl e7 len ⟨done ++ [d], by rw [e1]; simp, by rw [putD_new nk, e2]; simp, ((e3.trans e5).trans e6).set (Nat.le_refl _) _, sto_set e7⟩
  · rintro kvs S' ⟨done, e1, e2, e3, e4⟩
    rw [List.append_nil] at e1
    subst e1 e2
    exact hB S' _ (e0.trans e3) e0.len e4
theorem allS_map (xs : List Str) : allS (xs.map D.str) = some xs := by
  induction xs with
  | nil => rfl
  | cons x r ih => simp only [List.map_cons, allS, ih, Option.map_some]
theorem join_ref {S : Sto} {n : Nat} {a : Str} {ys : List Str} {Q : KQ} (h : S[n]? = some (.lst (ys.map D.str))) : dJoin (.str a) (.ref n) S Q = ((ys.map (·.length)).sum + ys.length * a.length ≤ LIM ∧ Q (.str (Txt.join a ys)) S) := by
  simp only [dJoin, dStrs, items, h, allS_map]
/-! ### promises -/
def spWord : FSp := fun ds S Q _ => ∃ d, ds = [d] ∧ d ∈ SG ∧ ∀ S', Ext S S' → Q (.str (wd d)) S'
def spAllSigns : FSp := fun ds S Q _ => ds = [] ∧ ∀ S' n, Ext S S' → S.length ≤ n → S'[n]? = some (.lst SG) → Q (.ref n) S'
def spText : FSp := fun ds S Q X => ∃ d, ds = [d] ∧ Fit S d ∧ ∀ S', Ext S S' → if isNotice d = true then Q (.str (txtD d)) S' else X "InvalidNotice" .non S'
def spRead : FSp := fun ds S Q X => ∃ d, ds = [d] ∧ ((∃ t : Str, d = .str t ∧ t.length ≤ 50000) ∨ (Fit S d ∧ isStr d = false)) ∧ ∀ S', Ext S S' → match rd d with
  | .inl v => Q v S'
  | .inr i => X "InvalidText" (.int i) S'
theorem ob_check_notice {fs : FEnv} (n : Nat) (f1 : fs.f "is_notice" = some (lv n 5 spIsNotice)) (ds : List D) (S : Sto) (Q : KQ) (X : KX) (h : lv (n + 1) 6 (spCheck isNotice "InvalidNotice") ds S Q X) : wB fs ir_check_notice (defEnds Q X) (startD N_check_notice ds) S := by
  obtain ⟨hl, d, rfl, hf, q⟩ := h
  simp only [DW.wG, DW.wGs, gsLen, List.set_cons_succ, List.set_cons_zero, wB, wS, DW.wT, DW.wTs, DW.wE, DW.wA, DW.wO, DW.wI, List.getElem?_cons_succ, List.getElem?_cons_zero, cmp_eq, cmp_ne, cmp_in, cmp_nin, inA_tup, inA_ktup, op_shl', op_shr', op_and', op_or', op_xor', is_bl, isn_bl, iter_ktup, cmp_lt, cmp_le, cmp_gt, cmp_ge, tru_non, tru_bl, tru_int, tru_tup, op_addi, op_subi, op_muli, op_divi, op_modi, op_powi, op_addt, op_rept, len_tup, len_rol, idx_tup, idx_rol, slc_tup, iter_tup, iter_rol, eqc_int, LIM, Nat.reduceLeDiff, dBlt, dInt1, defEnds, startD, List.map_cons, List.map_nil, List.length_cons, List.length_nil, List.replicate_succ, List.replicate_zero, List.cons_append, List.nil_append, Nat.reduceAdd, Nat.reduceSub, Nat.zero_add, and_true, true_and, if_true, Bool.false_eq_true, if_false, ir_check_notice, f1]
  refine ⟨by omega, d, rfl, hf, fun S' e => ?_⟩
  have := q S' e
  simp only [tru_bl]
  rcases bb (isNotice d) with h1 | h1 <;> simp only [h1, if_true, true_and, Bool.false_eq_true, if_false, Bool.and_true, Bool.and_false, Bool.true_and, Bool.false_and, Bool.not_true, Bool.not_false, Bool.or_true, Bool.or_false, Bool.true_or, Bool.false_or] at this ⊢ <;> exact this
theorem ob__word {fs : FEnv} (n : Nat) (ds : List D) (S : Sto) (Q : KQ) (X : KX) (h : lv (n + 1) 2 spWord ds S Q X) : wB fs ir__word (defEnds Q X) (startD N__word ds) S := by
  obtain ⟨hl, d, rfl, hd, q⟩ := h
  have hf : Fit S d := ⟨3, 2, by omega, sg_okd hd S⟩
  simp only [DW.wG, DW.wGs, gsLen, List.set_cons_succ, List.set_cons_zero, wB, wS, DW.wT, DW.wTs, DW.wE, DW.wA, DW.wO, DW.wI, List.getElem?_cons_succ, List.getElem?_cons_zero, cmp_eq, cmp_ne, cmp_in, cmp_nin, inA_tup, inA_ktup, op_shl', op_shr', op_and', op_or', op_xor', is_bl, isn_bl, iter_ktup, cmp_lt, cmp_le, cmp_gt, cmp_ge, tru_non, tru_bl, tru_int, tru_tup, op_addi, op_subi, op_muli, op_divi, op_modi, op_powi, op_addt, op_rept, len_tup, len_rol, idx_tup, idx_rol, slc_tup, iter_tup, iter_rol, eqc_int, LIM, Nat.reduceLeDiff, dBlt, dInt1, defEnds, startD, List.map_cons, List.map_nil, List.length_cons, List.length_nil, List.replicate_succ, List.replicate_zero, List.cons_append, List.nil_append, Nat.reduceAdd, Nat.reduceSub, Nat.zero_add, and_true, true_and, if_true, Bool.false_eq_true, if_false, ir__word, isi_fit hf (kit_str d hf.nty)]
  rcases sg_kind hd with ⟨x, rfl, e⟩ | ⟨a, b, c, rfl, ⟨x, rfl⟩, hb, z, rfl⟩
  · simp only [isStr, if_true, true_and, Bool.false_eq_true, if_false, Bool.and_true, Bool.and_false, Bool.true_and, Bool.false_and, Bool.not_true, Bool.not_false, Bool.or_true, Bool.or_false, Bool.true_or, Bool.false_or]
    exact q S (Ext.refl S)
  · simp only [isStr, if_true, true_and, Bool.false_eq_true, if_false, Bool.and_true, Bool.and_false, Bool.true_and, Bool.false_and, Bool.not_true, Bool.not_false, Bool.or_true, Bool.or_false, Bool.true_or, Bool.false_or]
    refine ⟨trivial, ?_⟩
    unfold ir__word_l0
    refine map_lcp (fun d => .str (itS d)) (xs := [sD x, b, sD z]) (by simp only [List.length_cons, List.length_nil, LIM]; omega) (it_tup fun k q => (by simp only [DW.wG, DW.wGs, gsLen, List.set_cons_succ, List.set_cons_zero, wB, wS, DW.wT, DW.wTs, DW.wE, DW.wA, DW.wO, DW.wI, List.getElem?_cons_succ, List.getElem?_cons_zero, cmp_eq, cmp_ne, cmp_in, cmp_nin, inA_tup, inA_ktup, op_shl', op_shr', op_and', op_or', op_xor', is_bl, isn_bl, iter_ktup, cmp_lt, cmp_le, cmp_gt, cmp_ge, tru_non, tru_bl, tru_int, tru_tup, op_addi, op_subi, op_muli, op_divi, op_modi, op_powi, op_addt, op_rept, len_tup, len_rol, idx_tup, idx_rol, slc_tup, iter_tup, iter_rol, eqc_int, LIM, Nat.reduceLeDiff, dBlt, dInt1, defEnds, startD, List.map_cons, List.map_nil, List.length_cons, List.length_nil, List.replicate_succ, List.replicate_zero, List.cons_append, List.nil_append, Nat.reduceAdd, Nat.reduceSub, Nat.zero_add, and_true, true_and, if_true, Bool.false_eq_true, if_false]; exact q)) (fun d' hd' S1 R e1 k => ?_) fun S' n' e1 _ e2 => ?_
    · simp only [DW.wG, DW.wGs, gsLen, List.set_cons_succ, List.set_cons_zero, wB, wS, DW.wT, DW.wTs, DW.wE, DW.wA, DW.wO, DW.wI, List.getElem?_cons_succ, List.getElem?_cons_zero, cmp_eq, cmp_ne, cmp_in, cmp_nin, inA_tup, inA_ktup, op_shl', op_shr', op_and', op_or', op_xor', is_bl, isn_bl, iter_ktup, cmp_lt, cmp_le, cmp_gt, cmp_ge, tru_non, tru_bl, tru_int, tru_tup, op_addi, op_subi, op_muli, op_divi, op_modi, op_powi, op_addt, op_rept, len_tup, len_rol, idx_tup, idx_rol, slc_tup, iter_tup, iter_rol, eqc_int, LIM, Nat.reduceLeDiff, dBlt, dInt1, defEnds, startD, List.map_cons, List.map_nil, List.length_cons, List.length_nil, List.replicate_succ, List.replicate_zero, List.cons_append, List.nil_append, Nat.reduceAdd, Nat.reduceSub, Nat.zero_add, and_true, true_and, if_true, Bool.false_eq_true, if_false, wipeD]
      have k := k S1 (Ext.refl S1)
      simp only [List.mem_cons, List.not_mem_nil, or_false] at hd'
      rcases hd' with rfl | rfl | rfl
      · exact k
      · rcases hb with ⟨y, rfl⟩ | ⟨i, rfl, i1, i2⟩
        · exact k
        · exact ⟨by have : i = 1 ∨ i = 2 ∨ i = 3 := by omega
                    rcases this with rfl | rfl | rfl <;> decide, k⟩
      · exact k
    · have e2 : S'[n']? = some (.lst ([itS (sD x), itS b, itS (sD z)].map D.str)) := e2
      rw [join_ref e2]
      refine ⟨?_, q S' e1⟩
      have l := sg_len _ hd
      have l : (itS (sD x) ++ ("-" : Str) ++ itS b ++ ("-" : Str) ++ itS (sD z)).length ≤ 10 := l
      simp only [PySem.Str.length_append] at l
      have h1 : ("-" : Str).length = 1 := by decide +kernel
      simp only [List.map_cons, List.map_nil, List.sum_cons, List.sum_nil, List.length_cons, List.length_nil, h1, LIM]
      omega

theorem set_last {S : Sto} {o u : Ob} : (S ++ [o]).set S.length u = S ++ [u] := by
  rw [List.set_append_right _ _ (Nat.le_refl _), Nat.sub_self]
  rfl
/-- an element more -/
theorem put_last {S : Sto} {acc : List D} {y : D} {k : Sto → Prop} (hl : acc.length < LIM) (h : k (S ++ [.lst (acc ++ [y])])) : ∃ a, (S ++ [Ob.lst acc])[S.length]? = some (.lst a) ∧ a.length < LIM ∧ k ((S ++ [Ob.lst acc]).set S.length (.lst (a ++ [y]))) :=
  ⟨acc, sto_last S _, hl, by rw [set_last]; exact h⟩
theorem iLoop_nil {chk : Sto → Prop} {turn : D → Sto → (Sto → Prop) → Prop} {k : Sto → Prop} {S : Sto} (h1 : chk S) (h2 : k S) : iLoop chk turn k [] S := ⟨h1, h2⟩
theorem iLoop_cons {chk : Sto → Prop} {turn : D → Sto → (Sto → Prop) → Prop} {k : Sto → Prop} {S : Sto} {d : D} {r : List D} (h1 : chk S) (h2 : turn d S (iLoop chk turn k r)) : iLoop chk turn k (d :: r) S := ⟨h1, h2⟩
def marked : List D := [.tup [sD "all", sD "a", sD "b"], .tup [sD "all", sD "b", sD "a"], .tup [sD "some", sD "a", sD "b"], .tup [sD "some", sD "b", sD "a"], .tup [sD "no", sD "a", sD "b"], .tup [sD "no", sD "b", sD "a"], .tup [sD "allnot", sD "a", sD "b"], .tup [sD "allnot", sD "b", sD "a"]]
def counted : List D := [.tup [sD "has", .int 1, sD "a"], .tup [sD "has", .int 1, sD "b"], .tup [sD "has", .int 1, sD "both"], .tup [sD "has", .int 2, sD "a"], .tup [sD "has", .int 2, sD "b"], .tup [sD "has", .int 2, sD "both"], .tup [sD "has", .int 3, sD "a"], .tup [sD "has", .int 3, sD "b"], .tup [sD "has", .int 3, sD "both"]]
theorem run_marked {fs : FEnv} {S : Sto} {B : KQ} {X : KX} {ρ : En} (hr : ρ = [none, none, none, none, none, none, none]) (h : B (.ref S.length) (S ++ [.lst marked])) : DW.wE fs ir__all_signs_l1 ρ S X B := by
  subst hr
  simp only [DW.wG, DW.wGs, gsLen, List.set_cons_succ, List.set_cons_zero, wB, wS, DW.wT, DW.wTs, DW.wE, DW.wA, DW.wO, DW.wI, List.getElem?_cons_succ, List.getElem?_cons_zero, cmp_eq, cmp_ne, cmp_in, cmp_nin, inA_tup, inA_ktup, op_shl', op_shr', op_and', op_or', op_xor', is_bl, isn_bl, iter_ktup, cmp_lt, cmp_le, cmp_gt, cmp_ge, tru_non, tru_bl, tru_int, tru_tup, op_addi, op_subi, op_muli, op_divi, op_modi, op_powi, op_addt, op_rept, len_tup, len_rol, idx_tup, idx_rol, slc_tup, iter_tup, iter_rol, eqc_int, LIM, Nat.reduceLeDiff, dBlt, dInt1, defEnds, startD, List.map_cons, List.map_nil, List.length_cons, List.length_nil, List.replicate_succ, List.replicate_zero, List.cons_append, List.nil_append, Nat.reduceAdd, Nat.reduceSub, Nat.zero_add, and_true, true_and, if_true, Bool.false_eq_true, if_false, ir__all_signs_l1, c_MARK_CLAUSES, c_MARKS, DW.wC, wipeD]
  repeat (first
    | refine iLoop_cons trivial ?_
    | refine iLoop_nil trivial ?_
    | refine ⟨rfl, ?_⟩
    | refine put_last (by simp only [List.length_cons, List.length_nil, List.length_append, LIM]; omega) ?_
    | (simp only [DW.wG, DW.wGs, gsLen, List.set_cons_succ, List.set_cons_zero, wB, wS, DW.wT, DW.wTs, DW.wE, DW.wA, DW.wO, DW.wI, List.getElem?_cons_succ, List.getElem?_cons_zero, cmp_eq, cmp_ne, cmp_in, cmp_nin, inA_tup, inA_ktup, op_shl', op_shr', op_and', op_or', op_xor', is_bl, isn_bl, iter_ktup, cmp_lt, cmp_le, cmp_gt, cmp_ge, tru_non, tru_bl, tru_int, tru_tup, op_addi, op_subi, op_muli, op_divi, op_modi, op_powi, op_addt, op_rept, len_tup, len_rol, idx_tup, idx_rol, slc_tup, iter_tup, iter_rol, eqc_int, LIM, Nat.reduceLeDiff, dBlt, dInt1, defEnds, startD, List.map_cons, List.map_nil, List.length_cons, List.length_nil, List.replicate_succ, List.replicate_zero, List.cons_append, List.nil_append, Nat.reduceAdd, Nat.reduceSub, Nat.zero_add, and_true, true_and, if_true, Bool.false_eq_true, if_false]))
  exact h
theorem words_sum : ∀ {xs : List D}, (∀ d ∈ xs, d ∈ SG) → ((xs.map wd).map (·.length)).sum ≤ xs.length * 10
  | [], _ => by simp
  | x :: r, h => by
    have ih := words_sum (xs := r) fun d hd => h d (List.mem_cons_of_mem _ hd)
    have l := sg_len x (h x List.mem_cons_self)
    rw [List.map_cons, List.map_cons, List.sum_cons, List.length_cons, Nat.succ_mul]
    omega
theorem run_counted {fs : FEnv} {S : Sto} {B : KQ} {X : KX} {ρ : En} {m : D} (hr : ρ = [some m, none, none, none, none, none, none]) (h : B (.ref S.length) (S ++ [.lst counted])) : DW.wE fs ir__all_signs_l0 ρ S X B := by
  subst hr
  simp only [DW.wG, DW.wGs, gsLen, List.set_cons_succ, List.set_cons_zero, wB, wS, DW.wT, DW.wTs, DW.wE, DW.wA, DW.wO, DW.wI, List.getElem?_cons_succ, List.getElem?_cons_zero, cmp_eq, cmp_ne, cmp_in, cmp_nin, inA_tup, inA_ktup, op_shl', op_shr', op_and', op_or', op_xor', is_bl, isn_bl, iter_ktup, cmp_lt, cmp_le, cmp_gt, cmp_ge, tru_non, tru_bl, tru_int, tru_tup, op_addi, op_subi, op_muli, op_divi, op_modi, op_powi, op_addt, op_rept, len_tup, len_rol, idx_tup, idx_rol, slc_tup, iter_tup, iter_rol, eqc_int, LIM, Nat.reduceLeDiff, dBlt, dInt1, defEnds, startD, List.map_cons, List.map_nil, List.length_cons, List.length_nil, List.replicate_succ, List.replicate_zero, List.cons_append, List.nil_append, Nat.reduceAdd, Nat.reduceSub, Nat.zero_add, and_true, true_and, if_true, Bool.false_eq_true, if_false, ir__all_signs_l0, c_COUNT_CLAUSES, c_COUNTED, c_MOST_TOLD, DW.wC, wipeD]
  have r3 : DW.intsFrom 1 ((3 : Int) + 1 - 1).toNat = [.int 1, .int 2, .int 3] := rfl
  repeat (first
    | refine iLoop_cons trivial ?_
    | refine iLoop_nil trivial ?_
    | refine ⟨rfl, ?_⟩
    | refine put_last (by simp only [List.length_cons, List.length_nil, List.length_append, LIM]; omega) ?_
    | (refine ⟨⟨by decide, by decide, by decide, by decide⟩, ?_⟩; rw [r3])
    | (simp only [DW.wG, DW.wGs, gsLen, List.set_cons_succ, List.set_cons_zero, wB, wS, DW.wT, DW.wTs, DW.wE, DW.wA, DW.wO, DW.wI, List.getElem?_cons_succ, List.getElem?_cons_zero, cmp_eq, cmp_ne, cmp_in, cmp_nin, inA_tup, inA_ktup, op_shl', op_shr', op_and', op_or', op_xor', is_bl, isn_bl, iter_ktup, cmp_lt, cmp_le, cmp_gt, cmp_ge, tru_non, tru_bl, tru_int, tru_tup, op_addi, op_subi, op_muli, op_divi, op_modi, op_powi, op_addt, op_rept, len_tup, len_rol, idx_tup, idx_rol, slc_tup, iter_tup, iter_rol, eqc_int, LIM, Nat.reduceLeDiff, dBlt, dInt1, defEnds, startD, List.map_cons, List.map_nil, List.length_cons, List.length_nil, List.replicate_succ, List.replicate_zero, List.cons_append, List.nil_append, Nat.reduceAdd, Nat.reduceSub, Nat.zero_add, and_true, true_and, if_true, Bool.false_eq_true, if_false]))
  exact h
theorem ob__all_signs {fs : FEnv} (n : Nat) (ds : List D) (S : Sto) (Q : KQ) (X : KX) (h : lv (n + 1) 2 spAllSigns ds S Q X) : wB fs ir__all_signs (defEnds Q X) (startD N__all_signs ds) S := by
  obtain ⟨hl, rfl, q⟩ := h
  simp only [DW.wG, DW.wGs, gsLen, List.set_cons_succ, List.set_cons_zero, wB, wS, DW.wT, DW.wTs, DW.wE, DW.wA, DW.wO, DW.wI, List.getElem?_cons_succ, List.getElem?_cons_zero, cmp_eq, cmp_ne, cmp_in, cmp_nin, inA_tup, inA_ktup, op_shl', op_shr', op_and', op_or', op_xor', is_bl, isn_bl, iter_ktup, cmp_lt, cmp_le, cmp_gt, cmp_ge, tru_non, tru_bl, tru_int, tru_tup, op_addi, op_subi, op_muli, op_divi, op_modi, op_powi, op_addt, op_rept, len_tup, len_rol, idx_tup, idx_rol, slc_tup, iter_tup, iter_rol, eqc_int, LIM, Nat.reduceLeDiff, dBlt, dInt1, defEnds, startD, List.map_cons, List.map_nil, List.length_cons, List.length_nil, List.replicate_succ, List.replicate_zero, List.cons_append, List.nil_append, Nat.reduceAdd, Nat.reduceSub, Nat.zero_add, and_true, true_and, if_true, Bool.false_eq_true, if_false, ir__all_signs]
  refine run_marked rfl ?_
  try simp only [DW.wG, DW.wGs, gsLen, List.set_cons_succ, List.set_cons_zero, wB, wS, DW.wT, DW.wTs, DW.wE, DW.wA, DW.wO, DW.wI, List.getElem?_cons_succ, List.getElem?_cons_zero, cmp_eq, cmp_ne, cmp_in, cmp_nin, inA_tup, inA_ktup, op_shl', op_shr', op_and', op_or', op_xor', is_bl, isn_bl, iter_ktup, cmp_lt, cmp_le, cmp_gt, cmp_ge, tru_non, tru_bl, tru_int, tru_tup, op_addi, op_subi, op_muli, op_divi, op_modi, op_powi, op_addt, op_rept, len_tup, len_rol, idx_tup, idx_rol, slc_tup, iter_tup, iter_rol, eqc_int, LIM, Nat.reduceLeDiff, dBlt, dInt1, defEnds, startD, List.map_cons, List.map_nil, List.length_cons, List.length_nil, List.replicate_succ, List.replicate_zero, List.cons_append, List.nil_append, Nat.reduceAdd, Nat.reduceSub, Nat.zero_add, and_true, true_and, if_true, Bool.false_eq_true, if_false]
  refine run_counted rfl ?_
  simp only [DW.wG, DW.wGs, gsLen, List.set_cons_succ, List.set_cons_zero, wB, wS, DW.wT, DW.wTs, DW.wE, DW.wA, DW.wO, DW.wI, List.getElem?_cons_succ, List.getElem?_cons_zero, cmp_eq, cmp_ne, cmp_in, cmp_nin, inA_tup, inA_ktup, op_shl', op_shr', op_and', op_or', op_xor', is_bl, isn_bl, iter_ktup, cmp_lt, cmp_le, cmp_gt, cmp_ge, tru_non, tru_bl, tru_int, tru_tup, op_addi, op_subi, op_muli, op_divi, op_modi, op_powi, op_addt, op_rept, len_tup, len_rol, idx_tup, idx_rol, slc_tup, iter_tup, iter_rol, eqc_int, LIM, Nat.reduceLeDiff, dBlt, dInt1, defEnds, startD, List.map_cons, List.map_nil, List.length_cons, List.length_nil, List.replicate_succ, List.replicate_zero, List.cons_append, List.nil_append, Nat.reduceAdd, Nat.reduceSub, Nat.zero_add, and_true, true_and, if_true, Bool.false_eq_true, if_false, c_JOINTS, c_OTHER_SIGNS, dItems, items]
  have h1 : (S ++ [Ob.lst marked] ++ [Ob.lst counted])[S.length]? = some (.lst marked) := Ext.app _ _ _ _ (sto_last S _)
  have h2 : (S ++ [Ob.lst marked] ++ [Ob.lst counted])[(S ++ [Ob.lst marked]).length]? = some (.lst counted) := sto_last _ _
  simp only [List.length_append, List.length_cons, List.length_nil, Nat.zero_add] at h2
  simp only [h1, List.length_append, List.length_cons, List.length_nil, Nat.zero_add, h2]
  refine ⟨by decide, ?_⟩
  refine q _ _ (((Ext.app S [Ob.lst marked]).trans (Ext.app _ [Ob.lst counted])).trans (Ext.app _ _)) ?_ ?_
  · first | omega | (simp only [List.length_append, List.length_cons, List.length_nil]; omega)
  · have e : (S ++ [Ob.lst marked] ++ [Ob.lst counted]).length = S.length + 1 + 1 := by simp
    rw [← e, sto_last]
    rfl
theorem ob_notice_text {fs : FEnv} (n : Nat) (f1 : fs.f "check_notice" = some (lv n 6 (spCheck isNotice "InvalidNotice"))) (f2 : fs.f "_word" = some (lv n 2 spWord)) (ds : List D) (S : Sto) (Q : KQ) (X : KX) (h : lv (n + 1) 7 spText ds S Q X) : wB fs ir_notice_text (defEnds Q X) (startD N_notice_text ds) S := by
  obtain ⟨hl, d, rfl, hf, q⟩ := h
  simp only [DW.wG, DW.wGs, gsLen, List.set_cons_succ, List.set_cons_zero, wB, wS, DW.wT, DW.wTs, DW.wE, DW.wA, DW.wO, DW.wI, List.getElem?_cons_succ, List.getElem?_cons_zero, cmp_eq, cmp_ne, cmp_in, cmp_nin, inA_tup, inA_ktup, op_shl', op_shr', op_and', op_or', op_xor', is_bl, isn_bl, iter_ktup, cmp_lt, cmp_le, cmp_gt, cmp_ge, tru_non, tru_bl, tru_int, tru_tup, op_addi, op_subi, op_muli, op_divi, op_modi, op_powi, op_addt, op_rept, len_tup, len_rol, idx_tup, idx_rol, slc_tup, iter_tup, iter_rol, eqc_int, LIM, Nat.reduceLeDiff, dBlt, dInt1, defEnds, startD, List.map_cons, List.map_nil, List.length_cons, List.length_nil, List.replicate_succ, List.replicate_zero, List.cons_append, List.nil_append, Nat.reduceAdd, Nat.reduceSub, Nat.zero_add, and_true, true_and, if_true, Bool.false_eq_true, if_false, ir_notice_text, f1]
  refine ⟨by omega, d, rfl, hf, fun S' e => ?_⟩
  have q' := q S' e
  rcases bb (isNotice d) with h1 | h1
  · simp only [h1, if_true] at q' ⊢
    refine ⟨trivial, ?_⟩
    cases d with
    | tup xs =>
      obtain ⟨⟨l1, l2⟩, m⟩ := notice_parts h1
      unfold ir_notice_text_l0
      refine map_lcp (fun d => .str (wd d)) (xs := xs) (by simp only [LIM]; omega) (it_tup fun k q => (by simp only [DW.wG, DW.wGs, gsLen, List.set_cons_succ, List.set_cons_zero, wB, wS, DW.wT, DW.wTs, DW.wE, DW.wA, DW.wO, DW.wI, List.getElem?_cons_succ, List.getElem?_cons_zero, cmp_eq, cmp_ne, cmp_in, cmp_nin, inA_tup, inA_ktup, op_shl', op_shr', op_and', op_or', op_xor', is_bl, isn_bl, iter_ktup, cmp_lt, cmp_le, cmp_gt, cmp_ge, tru_non, tru_bl, tru_int, tru_tup, op_addi, op_subi, op_muli, op_divi, op_modi, op_powi, op_addt, op_rept, len_tup, len_rol, idx_tup, idx_rol, slc_tup, iter_tup, iter_rol, eqc_int, LIM, Nat.reduceLeDiff, dBlt, dInt1, defEnds, startD, List.map_cons, List.map_nil, List.length_cons, List.length_nil, List.replicate_succ, List.replicate_zero, List.cons_append, List.nil_append, Nat.reduceAdd, Nat.reduceSub, Nat.zero_add, and_true, true_and, if_true, Bool.false_eq_true, if_false]; exact q)) (fun d' hd' S1 R e1 k => ?_) fun S2 n' e2 _ e3 => ?_
      · simp only [DW.wG, DW.wGs, gsLen, List.set_cons_succ, List.set_cons_zero, wB, wS, DW.wT, DW.wTs, DW.wE, DW.wA, DW.wO, DW.wI, List.getElem?_cons_succ, List.getElem?_cons_zero, cmp_eq, cmp_ne, cmp_in, cmp_nin, inA_tup, inA_ktup, op_shl', op_shr', op_and', op_or', op_xor', is_bl, isn_bl, iter_ktup, cmp_lt, cmp_le, cmp_gt, cmp_ge, tru_non, tru_bl, tru_int, tru_tup, op_addi, op_subi, op_muli, op_divi, op_modi, op_powi, op_addt, op_rept, len_tup, len_rol, idx_tup, idx_rol, slc_tup, iter_tup, iter_rol, eqc_int, LIM, Nat.reduceLeDiff, dBlt, dInt1, defEnds, startD, List.map_cons, List.map_nil, List.length_cons, List.length_nil, List.replicate_succ, List.replicate_zero, List.cons_append, List.nil_append, Nat.reduceAdd, Nat.reduceSub, Nat.zero_add, and_true, true_and, if_true, Bool.false_eq_true, if_false, wipeD, f2]
        exact ⟨by omega, d', rfl, m d' hd', k⟩
      · have e3 : S2[n']? = some (.lst ((xs.map wd).map D.str)) := by rw [e3]; simp
        rw [join_ref e3]
        have q2 := q S2 (e.trans e2)
        simp only [h1, if_true] at q2
        refine ⟨?_, q2⟩
        have s := words_sum m
        have e1 : (" " : Str).length = 1 := sp1_len
        rw [List.length_map, e1]
        simp only [LIM]
        omega
    | _ => cases h1
  · simp only [h1, Bool.false_eq_true, if_false] at q' ⊢
    exact q'

/-! ### read_notice -/
theorem enum1_get {xs : List D} {i : Nat} {d : D} (h : (enum1D xs)[i]? = some d) : ∃ x, xs[i]? = some x ∧ d = .tup [.int ((i : Nat) + 1 : Int), x] := by
  unfold enum1D at h
  rw [List.getElem?_mapIdx, Option.map_eq_some_iff] at h
  obtain ⟨x, e, rfl⟩ := h
  exact ⟨x, e, rfl⟩
theorem okW_le (ws : List Str) : okW ws ≤ ws.length := by
  unfold okW
  exact List.takeWhile_sublist _ |>.length_le
/-- ahead of the first word that is none, each is one -/
theorem okW_lt : ∀ {ws : List Str} {i : Nat} {w : Str}, i < okW ws → ws[i]? = some w → (look w).isSome = true
  | [], i, w, h, _ => by simp [okW] at h
  | x :: ws, i, w, h, e => by
    unfold okW at h
    rw [List.takeWhile_cons] at h
    split at h
    · rename_i hx
      cases i with
      | zero => simp at e; subst e; exact hx
      | succ i => exact okW_lt (ws := ws) (i := i) (by unfold okW; simpa using h) (by simpa using e)
    · simp at h
theorem okW_at : ∀ {ws : List Str} {w : Str}, ws[okW ws]? = some w → look w = none
  | [], w, e => by simp [okW] at e
  | x :: ws, w, e => by
    unfold okW at e
    rw [List.takeWhile_cons] at e
    split at e
    · exact okW_at (ws := ws) (by simpa [okW] using e)
    · rename_i hx
      simp at e
      subst e
      cases q : look x with
      | none => rfl
      | some d => rw [q] at hx; exact absurd rfl hx
theorem nin_dk {S : Sto} {x : D} {n : Nat} {kvs : List (L2.Key × D)} {B : KB} (h : S[n]? = some (.dk kvs)) : dInA x (.ref n) S B = ∃ k, key1 x = some k ∧ B (valD kvs k).isSome S := by
  simp only [dInA, h]
theorem idx_dk {S : Sto} {x : Str} {n : Nat} {kvs : List (L2.Key × D)} {Q : KQ} (h : S[n]? = some (.dk kvs)) : dIdx (.ref n) (.str x) S Q = ∃ v, valD kvs (.inr x) = some v ∧ Q v S := by
  simp only [dIdx, h, dkOf, Option.some.injEq]
  exact propext ⟨fun ⟨k, v, e, q⟩ => ⟨v, by rw [e]; exact q.1, q.2⟩, fun ⟨v, e, q⟩ => ⟨kvs, v, rfl, e, q⟩⟩
/-- .. of a dict with the same words -/
def Tab (S : Sto) (n : Nat) : Prop := ∃ kvs, S[n]? = some (.dk kvs) ∧ ∀ t, valD kvs (.inr t) = look t
theorem Tab.ext {S S' : Sto} {n : Nat} (h : Tab S n) (e : Ext S S') : Tab S' n := by
  obtain ⟨kvs, h1, h2⟩ := h
  exact ⟨kvs, e _ _ h1, h2⟩
theorem Tab.nin {S : Sto} {n : Nat} (h : Tab S n) {x : Str} {B : KB} (q : B (look x).isSome S) : dInA (.str x) (.ref n) S B := by
  obtain ⟨kvs, h1, h2⟩ := h
  rw [nin_dk h1]
  exact ⟨_, rfl, by rw [h2]; exact q⟩
theorem Tab.idx {S : Sto} {n : Nat} (h : Tab S n) {x : Str} {Q : KQ} {d : D} (e : look x = some d) (q : Q d S) : dIdx (.ref n) (.str x) S Q := by
  obtain ⟨kvs, h1, h2⟩ := h
  rw [idx_dk h1]
  exact ⟨d, by rw [h2]; exact e, q⟩
theorem read_loop {fs : FEnv} {E : DEnds} {S : Sto} {v : Option D} {k m : Nat} {ws : List Str} (hk : Tab S k) (hm : S[m]? = some (.lst (ws.map D.str))) (hl : ws.length ≤ 2000000)
    (hE : okW ws = ws.length → ∀ x3 x4, E.nx [v, some (.ref k), some (.ref m), x3, x4, none, none] S) (hX : okW ws < ws.length → ∀ ρ, E.xx "InvalidText" (.int ((okW ws : Nat) + 1 : Int)) ρ S) :
    ∀ (r : List D) (x3 x4 : Option D), (∃ i, i ≤ okW ws ∧ r = (enum1D (ws.map D.str)).drop i) →
      fLoop (fun S' => S'[m]? = some (.lst (ws.map D.str))) (fun d ρ' S' k => DW.wG fs (.tup (.cons (.name 3) (.cons (.name 4) .nil))) d ρ' S' noX k) (fun E' ρ' S' => wB fs ir_read_notice_b0 E' ρ' S') E r [v, some (.ref k), some (.ref m), x3, x4, none, none] S := by
  intro r x3 x4 hr
  refine fLoop_gen (J := fun r ρ S' => S' = S ∧ ∃ i x3 x4, i ≤ okW ws ∧ r = (enum1D (ws.map D.str)).drop i ∧ ρ = [v, some (.ref k), some (.ref m), x3, x4, none, none]) ?_ ?_ ?_ r _ S ?_
  · rintro r ρ S' ⟨rfl, _⟩
    exact hm
  · rintro ρ S' ⟨rfl, i, x3, x4, hi, e, rfl⟩
    have e := (List.drop_eq_nil_iff).mp e.symm
    have el : (enum1D (ws.map D.str)).length = ws.length := by simp [enum1D]
    have := okW_le ws
    exact hE (by omega) x3 x4
  · rintro d r ρ S' N ⟨rfl, i, x3, x4, hi, e, rfl⟩ hN
    have lt : i < (enum1D (ws.map D.str)).length := by
      have := congrArg List.length e
      simp only [List.length_cons, List.length_drop] at this
      omega
    rw [List.drop_eq_getElem_cons lt] at e
    obtain ⟨e1, e2⟩ := List.cons.inj e
    have g : (enum1D (ws.map D.str))[i]? = some d := by rw [List.getElem?_eq_getElem lt, e1]
    obtain ⟨x, gx, rfl⟩ := enum1_get g
    rw [List.getElem?_map, Option.map_eq_some_iff] at gx
    obtain ⟨w, gw, rfl⟩ := gx
    simp only [DW.wG, DW.wGs, gsLen, List.set_cons_succ, List.set_cons_zero, wB, wS, DW.wT, DW.wTs, DW.wE, DW.wA, DW.wO, DW.wI, List.getElem?_cons_succ, List.getElem?_cons_zero, cmp_eq, cmp_ne, cmp_in, cmp_nin, inA_tup, inA_ktup, op_shl', op_shr', op_and', op_or', op_xor', is_bl, isn_bl, iter_ktup, cmp_lt, cmp_le, cmp_gt, cmp_ge, tru_non, tru_bl, tru_int, tru_tup, op_addi, op_subi, op_muli, op_divi, op_modi, op_powi, op_addt, op_rept, len_tup, len_rol, idx_tup, idx_rol, slc_tup, iter_tup, iter_rol, eqc_int, LIM, Nat.reduceLeDiff, dBlt, dInt1, defEnds, startD, List.map_cons, List.map_nil, List.length_cons, List.length_nil, List.replicate_succ, List.replicate_zero, List.cons_append, List.nil_append, Nat.reduceAdd, Nat.reduceSub, Nat.zero_add, and_true, true_and, if_true, Bool.false_eq_true, if_false, ir_read_notice_b0]
    refine hk.nin ?_
    by_cases hlt : i < okW ws
    · simp only [okW_lt hlt gw, Bool.not_true, Bool.false_eq_true, if_false]
      exact hN _ _ ⟨rfl, i + 1, _, _, hlt, e2, rfl⟩
    · obtain rfl : i = okW ws := by omega
      have q := okW_at gw
      simp only [q, Option.isSome_none, Bool.not_false, if_true]
      have := (List.getElem?_eq_some_iff.mp gw).1
      exact ⟨_, rfl, by omega, hX this _⟩
  · obtain ⟨i, hi, rfl⟩ := hr
    exact ⟨rfl, i, x3, x4, hi, rfl, rfl⟩
theorem isi_str {S : Sto} {t : Str} {Q : KQ} : dIsi (.str t) (.ty "str") S Q = Q (.bl true) S := by
  unfold dIsi
  simp only [show kitB (tyOf (.str t)) "str" = some true from (by decide +kernel : kitB "str" "str" = some true)]
  simp
theorem rd_int {t : Str} (h : okW (Txt.split t sp1) < (Txt.split t sp1).length) : rd (.str t) = .inr ((okW (Txt.split t sp1) : Nat) + 1 : Int) := by
  show rdW (Txt.split t sp1) = _
  unfold rdW
  rw [if_pos h]
theorem rd_all {t : Str} (h : okW (Txt.split t sp1) = (Txt.split t sp1).length) : rd (.str t) = if isNotice (.tup ((Txt.split t sp1).filterMap look)) = true then .inl (.tup ((Txt.split t sp1).filterMap look)) else .inr (((Txt.split t sp1).length : Nat) + 1 : Int) := by
  show rdW (Txt.split t sp1) = _
  unfold rdW
  rw [if_neg (by omega)]
theorem all_look {ws : List Str} (h : okW ws = ws.length) : ∀ w ∈ ws, ∃ d, look w = some d := fun w hw => by
  obtain ⟨i, hi⟩ := List.getElem?_of_mem hw
  have lt := (List.getElem?_eq_some_iff.mp hi).1
  have := okW_lt (i := i) (by omega) hi
  cases e : look w with
  | some d => exact ⟨d, rfl⟩
  | none => rw [e] at this; cases this
/-- the sign of a word, as a datum -/
def lookD : D → D
  | .str w => (look w).getD .non
  | _ => .non
theorem map_lookD {ws : List Str} (h : ∀ w ∈ ws, ∃ d, look w = some d) : (ws.map D.str).map lookD = ws.filterMap look := by
  induction ws with
  | nil => rfl
  | cons w r ih =>
    obtain ⟨d, e⟩ := h w List.mem_cons_self
    rw [List.map_cons, List.map_cons, List.filterMap_cons, e, ih fun z hz => h z (List.mem_cons_of_mem _ hz)]
    simp [lookD, e]
theorem look_parts {ws : List Str} : ∀ d ∈ ws.filterMap look, d ∈ SG := fun d hd => by
  obtain ⟨w, _, e⟩ := List.mem_filterMap.mp hd
  exact (look_some e).1
theorem fit_signs {S : Sto} {ds : List D} (h : ∀ d ∈ ds, d ∈ SG) : Fit S (.tup ds) := ⟨max 3 ds.length, 3, by omega, okd_tup (by omega) fun d hd => okd_mono (by omega) (Nat.le_refl _) (sg_okd (h d hd) S)⟩
theorem spl_step {S : Sto} {t : Str} {Q : KQ} (hl : t.length ≤ 50000) (q : Q (.ref S.length) (S ++ [.lst ((Txt.split t sp1).map D.str)])) : dSplit (.str t) (.str " ") S Q := by
  refine ⟨by decide +kernel, by simp only [LIM]; omega, q⟩
theorem ob_read_notice {fs : FEnv} (n : Nat) (f1 : fs.f "is_notice" = some (lv n 5 spIsNotice)) (f2 : fs.f "_word" = some (lv n 2 spWord)) (f3 : fs.f "_all_signs" = some (lv n 2 spAllSigns)) (ds : List D) (S : Sto) (Q : KQ) (X : KX) (h : lv (n + 1) 6 spRead ds S Q X) : wB fs ir_read_notice (defEnds Q X) (startD N_read_notice ds) S := by
  obtain ⟨hl, d, rfl, hd, q⟩ := h
  rcases hd with ⟨t, rfl, ht⟩ | ⟨hf, hs⟩
  · simp only [DW.wG, DW.wGs, gsLen, List.set_cons_succ, List.set_cons_zero, wB, wS, DW.wT, DW.wTs, DW.wE, DW.wA, DW.wO, DW.wI, List.getElem?_cons_succ, List.getElem?_cons_zero, cmp_eq, cmp_ne, cmp_in, cmp_nin, inA_tup, inA_ktup, op_shl', op_shr', op_and', op_or', op_xor', is_bl, isn_bl, iter_ktup, cmp_lt, cmp_le, cmp_gt, cmp_ge, tru_non, tru_bl, tru_int, tru_tup, op_addi, op_subi, op_muli, op_divi, op_modi, op_powi, op_addt, op_rept, len_tup, len_rol, idx_tup, idx_rol, slc_tup, iter_tup, iter_rol, eqc_int, LIM, Nat.reduceLeDiff, dBlt, dInt1, defEnds, startD, List.map_cons, List.map_nil, List.length_cons, List.length_nil, List.replicate_succ, List.replicate_zero, List.cons_append, List.nil_append, Nat.reduceAdd, Nat.reduceSub, Nat.zero_add, and_true, true_and, if_true, Bool.false_eq_true, if_false, ir_read_notice, isi_str, Bool.not_true]
    unfold ir_read_notice_d0
    have sp := split_len t
    refine map_dcp wd id (xs := SG) sg_nodup (by decide) (it_new fun k q => ?_) (fun d hd S1 R e k => ?_) (fun d hd S1 R e k => ?_) fun S1 k1 e1 _ h1 => ?_
    · simp only [DW.wG, DW.wGs, gsLen, List.set_cons_succ, List.set_cons_zero, wB, wS, DW.wT, DW.wTs, DW.wE, DW.wA, DW.wO, DW.wI, List.getElem?_cons_succ, List.getElem?_cons_zero, cmp_eq, cmp_ne, cmp_in, cmp_nin, inA_tup, inA_ktup, op_shl', op_shr', op_and', op_or', op_xor', is_bl, isn_bl, iter_ktup, cmp_lt, cmp_le, cmp_gt, cmp_ge, tru_non, tru_bl, tru_int, tru_tup, op_addi, op_subi, op_muli, op_divi, op_modi, op_powi, op_addt, op_rept, len_tup, len_rol, idx_tup, idx_rol, slc_tup, iter_tup, iter_rol, eqc_int, LIM, Nat.reduceLeDiff, dBlt, dInt1, defEnds, startD, List.map_cons, List.map_nil, List.length_cons, List.length_nil, List.replicate_succ, List.replicate_zero, List.cons_append, List.nil_append, Nat.reduceAdd, Nat.reduceSub, Nat.zero_add, and_true, true_and, if_true, Bool.false_eq_true, if_false, f3]
      exact ⟨by omega, rfl, fun S' n e _ hn => q S' n e hn⟩
    · simp only [DW.wG, DW.wGs, gsLen, List.set_cons_succ, List.set_cons_zero, wB, wS, DW.wT, DW.wTs, DW.wE, DW.wA, DW.wO, DW.wI, List.getElem?_cons_succ, List.getElem?_cons_zero, cmp_eq, cmp_ne, cmp_in, cmp_nin, inA_tup, inA_ktup, op_shl', op_shr', op_and', op_or', op_xor', is_bl, isn_bl, iter_ktup, cmp_lt, cmp_le, cmp_gt, cmp_ge, tru_non, tru_bl, tru_int, tru_tup, op_addi, op_subi, op_muli, op_divi, op_modi, op_powi, op_addt, op_rept, len_tup, len_rol, idx_tup, idx_rol, slc_tup, iter_tup, iter_rol, eqc_int, LIM, Nat.reduceLeDiff, dBlt, dInt1, defEnds, startD, List.map_cons, List.map_nil, List.length_cons, List.length_nil, List.replicate_succ, List.replicate_zero, List.cons_append, List.nil_append, Nat.reduceAdd, Nat.reduceSub, Nat.zero_add, and_true, true_and, if_true, Bool.false_eq_true, if_false, f2, wipeD]
      exact ⟨by omega, d, rfl, hd, k⟩
    · simp only [DW.wG, DW.wGs, gsLen, List.set_cons_succ, List.set_cons_zero, wB, wS, DW.wT, DW.wTs, DW.wE, DW.wA, DW.wO, DW.wI, List.getElem?_cons_succ, List.getElem?_cons_zero, cmp_eq, cmp_ne, cmp_in, cmp_nin, inA_tup, inA_ktup, op_shl', op_shr', op_and', op_or', op_xor', is_bl, isn_bl, iter_ktup, cmp_lt, cmp_le, cmp_gt, cmp_ge, tru_non, tru_bl, tru_int, tru_tup, op_addi, op_subi, op_muli, op_divi, op_modi, op_powi, op_addt, op_rept, len_tup, len_rol, idx_tup, idx_rol, slc_tup, iter_tup, iter_rol, eqc_int, LIM, Nat.reduceLeDiff, dBlt, dInt1, defEnds, startD, List.map_cons, List.map_nil, List.length_cons, List.length_nil, List.replicate_succ, List.replicate_zero, List.cons_append, List.nil_append, Nat.reduceAdd, Nat.reduceSub, Nat.zero_add, and_true, true_and, if_true, Bool.false_eq_true, if_false, wipeD]
      exact k S1 (Ext.refl S1)
    · have tab : Tab S1 k1 := ⟨_, h1, fun t => rfl⟩
      refine ⟨trivial, spl_step ht ?_⟩
      generalize hws : Txt.split t sp1 = ws at sp
      have e2 := Ext.app S1 [Ob.lst (ws.map D.str)]
      have tab2 := tab.ext e2
      have hw := sto_last S1 (Ob.lst (ws.map D.str))
      have E2 := e1.trans e2
      generalize S1 ++ [Ob.lst (ws.map D.str)] = S2 at e2 tab2 hw E2
      simp only [dLIter, hw]
      refine read_loop tab2 hw (by omega) (fun hall x3 x4 => ?_) (fun hbad ρ => ?_) _ none none ⟨0, Nat.zero_le _, rfl⟩
      · have hl := all_look hall
        simp only [DW.wG, DW.wGs, gsLen, List.set_cons_succ, List.set_cons_zero, wB, wS, DW.wT, DW.wTs, DW.wE, DW.wA, DW.wO, DW.wI, List.getElem?_cons_succ, List.getElem?_cons_zero, cmp_eq, cmp_ne, cmp_in, cmp_nin, inA_tup, inA_ktup, op_shl', op_shr', op_and', op_or', op_xor', is_bl, isn_bl, iter_ktup, cmp_lt, cmp_le, cmp_gt, cmp_ge, tru_non, tru_bl, tru_int, tru_tup, op_addi, op_subi, op_muli, op_divi, op_modi, op_powi, op_addt, op_rept, len_tup, len_rol, idx_tup, idx_rol, slc_tup, iter_tup, iter_rol, eqc_int, LIM, Nat.reduceLeDiff, dBlt, dInt1, defEnds, startD, List.map_cons, List.map_nil, List.length_cons, List.length_nil, List.replicate_succ, List.replicate_zero, List.cons_append, List.nil_append, Nat.reduceAdd, Nat.reduceSub, Nat.zero_add, and_true, true_and, if_true, Bool.false_eq_true, if_false]
        unfold ir_read_notice_l0
        refine map_lcp lookD (xs := ws.map D.str) (by rw [List.length_map]; simp only [LIM]; omega) (it_ref hw fun k q => (by simp only [DW.wG, DW.wGs, gsLen, List.set_cons_succ, List.set_cons_zero, wB, wS, DW.wT, DW.wTs, DW.wE, DW.wA, DW.wO, DW.wI, List.getElem?_cons_succ, List.getElem?_cons_zero, cmp_eq, cmp_ne, cmp_in, cmp_nin, inA_tup, inA_ktup, op_shl', op_shr', op_and', op_or', op_xor', is_bl, isn_bl, iter_ktup, cmp_lt, cmp_le, cmp_gt, cmp_ge, tru_non, tru_bl, tru_int, tru_tup, op_addi, op_subi, op_muli, op_divi, op_modi, op_powi, op_addt, op_rept, len_tup, len_rol, idx_tup, idx_rol, slc_tup, iter_tup, iter_rol, eqc_int, LIM, Nat.reduceLeDiff, dBlt, dInt1, defEnds, startD, List.map_cons, List.map_nil, List.length_cons, List.length_nil, List.replicate_succ, List.replicate_zero, List.cons_append, List.nil_append, Nat.reduceAdd, Nat.reduceSub, Nat.zero_add, and_true, true_and, if_true, Bool.false_eq_true, if_false]; exact q)) (fun d hd S3 R e k => ?_) fun S3 m e3 _ h3 => ?_
        · obtain ⟨w, hw', rfl⟩ := List.mem_map.mp hd
          obtain ⟨d, ed⟩ := hl w hw'
          simp only [DW.wG, DW.wGs, gsLen, List.set_cons_succ, List.set_cons_zero, wB, wS, DW.wT, DW.wTs, DW.wE, DW.wA, DW.wO, DW.wI, List.getElem?_cons_succ, List.getElem?_cons_zero, cmp_eq, cmp_ne, cmp_in, cmp_nin, inA_tup, inA_ktup, op_shl', op_shr', op_and', op_or', op_xor', is_bl, isn_bl, iter_ktup, cmp_lt, cmp_le, cmp_gt, cmp_ge, tru_non, tru_bl, tru_int, tru_tup, op_addi, op_subi, op_muli, op_divi, op_modi, op_powi, op_addt, op_rept, len_tup, len_rol, idx_tup, idx_rol, slc_tup, iter_tup, iter_rol, eqc_int, LIM, Nat.reduceLeDiff, dBlt, dInt1, defEnds, startD, List.map_cons, List.map_nil, List.length_cons, List.length_nil, List.replicate_succ, List.replicate_zero, List.cons_append, List.nil_append, Nat.reduceAdd, Nat.reduceSub, Nat.zero_add, and_true, true_and, if_true, Bool.false_eq_true, if_false, wipeD]
          refine (tab2.ext e).idx ed ?_
          have := k S3 (Ext.refl S3)
          simp only [lookD, ed, Option.getD_some] at this
          exact this
        · rw [map_lookD hl] at h3
          simp only [dItems, items, h3, f1]
          generalize hds : ws.filterMap look = ds at h3
          have hm : ∀ d ∈ ds, d ∈ SG := fun d hd => look_parts d (by rw [hds]; exact hd)
          refine ⟨by omega, _, rfl, fit_signs hm, fun S4 e4 => ?_⟩
          have hE := (E2.trans e3).trans e4
          have q := q S4 hE
          rw [rd_all (by rw [hws]; exact hall), hws, hds] at q
          simp only [tru_bl]
          rcases bb (isNotice (.tup ds)) with h1 | h1
          · simp only [h1, if_true, true_and, Bool.false_eq_true, if_false, Bool.and_true, Bool.and_false, Bool.true_and, Bool.false_and, Bool.not_true, Bool.not_false, Bool.or_true, Bool.or_false, Bool.true_or, Bool.false_or] at q ⊢
            exact q
          · simp only [h1, if_true, true_and, Bool.false_eq_true, if_false, Bool.and_true, Bool.and_false, Bool.true_and, Bool.false_and, Bool.not_true, Bool.not_false, Bool.or_true, Bool.or_false, Bool.true_or, Bool.false_or] at q ⊢
            rw [len_ref ((e3.trans e4) _ _ hw), List.length_map]
            exact ⟨_, rfl, by omega, q⟩
      · have q := q S2 E2
        rw [rd_int (by rw [hws]; exact hbad), hws] at q
        exact q
  · simp only [DW.wG, DW.wGs, gsLen, List.set_cons_succ, List.set_cons_zero, wB, wS, DW.wT, DW.wTs, DW.wE, DW.wA, DW.wO, DW.wI, List.getElem?_cons_succ, List.getElem?_cons_zero, cmp_eq, cmp_ne, cmp_in, cmp_nin, inA_tup, inA_ktup, op_shl', op_shr', op_and', op_or', op_xor', is_bl, isn_bl, iter_ktup, cmp_lt, cmp_le, cmp_gt, cmp_ge, tru_non, tru_bl, tru_int, tru_tup, op_addi, op_subi, op_muli, op_divi, op_modi, op_powi, op_addt, op_rept, len_tup, len_rol, idx_tup, idx_rol, slc_tup, iter_tup, iter_rol, eqc_int, LIM, Nat.reduceLeDiff, dBlt, dInt1, defEnds, startD, List.map_cons, List.map_nil, List.length_cons, List.length_nil, List.replicate_succ, List.replicate_zero, List.cons_append, List.nil_append, Nat.reduceAdd, Nat.reduceSub, Nat.zero_add, and_true, true_and, if_true, Bool.false_eq_true, if_false, ir_read_notice, isi_fit hf (kit_str d hf.nty), hs, Bool.not_false]
    have e : rd d = .inr 0 := by
      cases d <;> first | rfl | cases hs
    have q := q S (Ext.refl S)
    rw [e] at q
    exact ⟨0, rfl, by decide, q⟩
end KS

set_option Elab.async false
set_option linter.all false
set_option maxRecDepth 100000
set_option maxHeartbeats 1000000

namespace KS
open PySem PySem.Spec PyProof.Rows L2 DW KP

/-! ### values compared -/
theorem wk_mapM {S : Sto} {k : Nat} {cs : List D} (hk : 20 ≤ k) (h : wk (.tup cs) = true) : cs.mapM (toPy k S) = some (pycs cs) := by
  unfold wk at h
  rw [Bool.and_eq_true] at h
  obtain ⟨h1, h2⟩ := h
  have hw : wrs cs = true := by simpa [wr] using h1
  have h3 : decide (cs.length ≤ 1000) = true ∧ cs.all (okd 1000 19 []) = true := by
    have := h2
    unfold okd at this
    rw [Bool.and_eq_true] at this
    exact this
  refine toPys_of (toPy_wr k) cs hw fun d hd => ⟨[], ?_⟩
  exact okd_mono (Nat.le_refl _) (by omega) (List.all_eq_true.mp h3.2 d hd)
theorem wk_shape {cs : List D} (h : wk (.tup cs) = true) : SeqAt.shaped (.list (pycs cs)) = true ∧ (pyc (.tup cs)).depth ≤ 20 ∧ PyData.canLayAll0 (pycs cs) = true := by
  obtain ⟨_, s1, _⟩ := wk_py (S := []) h
  have h0 := h
  unfold wk at h
  rw [Bool.and_eq_true] at h
  obtain ⟨p, e3, h1, h2⟩ := py_of (j := 20) (Nat.le_refl _) h.2
  have e4 := toPy_wr (S := []) 20 (.tup cs) h.1 ⟨[], h.2⟩
  rw [e4] at e3
  cases e3
  exact ⟨by simpa [SeqAt.shaped, PyData.canLay0, PyData.depth, pyc] using s1, h2, by simpa [pyc, PyData.canLay0] using h1⟩
theorem dEq_ll {S : Sto} {a b : Nat} {xs ys : List D} {Q : KB} (h1 : S[a]? = some (.lst xs)) (h2 : S[b]? = some (.lst ys)) (w1 : wk (.tup xs) = true) (w2 : wk (.tup ys) = true) (q : Q (eqcs xs ys) S) : dEq (.ref a) (.ref b) S Q := by
  have m1 := wk_mapM (S := S) (k := 65) (by omega) w1
  have m2 := wk_mapM (S := S) (k := 65) (by omega) w2
  refine ⟨.list (pycs xs), .list (pycs ys), by rw [toPy_ref 65 h1, m1]; rfl, by rw [toPy_ref 65 h2, m2]; rfl, (wk_shape w1).1, (wk_shape w2).1, ?_⟩
  have e := (eqvs_of (S := S) (k := 65) (eqv_pyc 65) ys (wk_pys w2) xs (pycs xs) m1).1
  show Q (PyData.eqvAll (pycs xs) (pycs ys)) S
  rw [e]
  exact q
mutual
theorem eqc_refl : ∀ d : D, wr d = true → eqc d d = true
  | .non, _ => rfl
  | .bl b, _ => by simp [eqc]
  | .int i, _ => by simp [eqc]
  | .str x, _ => by simp [eqc]
  | .tup cs, h => by
    simp only [eqc]
    exact eqcs_refl cs (by simpa [wr] using h)
  | .ref _, h => by cases h
  | .rol _, h => by cases h
  | .ktup _, h => by cases h
  | .ty _, h => by cases h
  | .fnv _, h => by cases h
theorem eqcs_refl : ∀ cs : List D, wrs cs = true → eqcs cs cs = true
  | [], _ => rfl
  | c :: cs, h => by
    simp only [wrs, Bool.and_eq_true] at h
    simp only [eqcs, eqc_refl c h.1, eqcs_refl cs h.2, Bool.and_self]
end
/-- a value against itself -/
theorem dEq_w {S : Sto} {d : D} {Q : KB} (h : wk d = true) (q : Q true S) : dEq d d S Q := by
  refine dEq_c (wk_fit h) h ?_
  rw [eqc_refl d (by unfold wk at h; rw [Bool.and_eq_true] at h; exact h.1)]
  exact q
theorem strOk_app {a b : Str} (ha : PyData.strOk a = true) (hb : PyData.strOk b = true) : PyData.strOk (a ++ b) = true := by
  unfold PyData.strOk at *
  rw [PySem.Str.cps_append, Array.all_append, ha, hb]
  rfl
theorem strOk_join {y : Str} (hy : PyData.strOk y = true) : ∀ {l : List Str}, (∀ w ∈ l, PyData.strOk w = true) → PyData.strOk (Str.join y l) = true
  | [], _ => by
    show PyData.strOk Str.empty = true
    decide +kernel
  | [x], h => h x (by simp)
  | x :: z :: r, h => strOk_app (strOk_app (h x List.mem_cons_self) hy) (strOk_join (l := z :: r) hy fun w hw => h w (List.mem_cons_of_mem _ hw))
theorem txt_ok {ds : List D} (h : ∀ d ∈ ds, d ∈ SG) : PyData.strOk (txt ds) = true := by
  unfold txt
  rw [TL.join_eq]
  refine strOk_join (by decide +kernel) fun w hw => ?_
  obtain ⟨d, hd, rfl⟩ := List.mem_map.mp hw
  exact sg_ok d (h d hd)
theorem wk_str {x : Str} (h : PyData.strOk x = true) : wk (.str x) = true := by
  unfold wk
  rw [Bool.and_eq_true]
  exact ⟨rfl, h⟩
theorem sg_wr : ∀ d ∈ SG, wr d = true := sg_all (by decide +kernel)
theorem wrs_of {ds : List D} (h : ∀ d ∈ ds, wr d = true) : wrs ds = true := by
  induction ds with
  | nil => rfl
  | cons d r ih =>
    simp only [wrs, Bool.and_eq_true]
    exact ⟨h d List.mem_cons_self, ih fun x hx => h x (List.mem_cons_of_mem _ hx)⟩
theorem wk_signs {ds : List D} (h : ∀ d ∈ ds, d ∈ SG) (hl : ds.length ≤ 1000) : wk (.tup ds) = true := by
  unfold wk
  rw [Bool.and_eq_true]
  exact ⟨by simpa [wr] using wrs_of fun d hd => sg_wr d (h d hd), okd_tup hl fun d hd => okd_mono (by omega) (by omega) (sg_okd (h d hd) [])⟩
theorem txt_len {ds : List D} (h : ∀ d ∈ ds, d ∈ SG) : (txt ds).length ≤ ds.length * 11 := by
  unfold txt
  rw [TL.join_eq]
  refine Nat.le_trans (PySem.StrLaws.join_length_le _ _) ?_
  have := words_sum h
  rw [List.length_map, sp1_len]
  omega
theorem txt_one (d : D) : txt [d] = wd d := rfl
end KS

set_option Elab.async false
set_option linter.all false
set_option maxRecDepth 100000
set_option maxHeartbeats 1000000

namespace KS
open PySem PySem.Spec PyProof.Rows L2 DW

/-! ### the module's own part -/
theorem look_mem {α β : Type} [BEq α] [LawfulBEq α] {x : α} {d : β} : ∀ {l : List (α × β)}, l.lookup x = some d → (x, d) ∈ l
  | [], h => by cases h
  | (y, e) :: r, h => by
    rw [List.lookup_cons] at h
    cases q : x == y with
    | true =>
      rw [q] at h
      have q1 := eq_of_beq q
      cases h
      rw [q1]
      exact List.mem_cons_self
    | false =>
      rw [q] at h
      exact List.mem_cons_of_mem _ (look_mem h)
/-- a def stands in the written part -/
structure FunAt (K : PySem.W.Frag) (x : Str) (st : Stmt) : Prop where
  ex : ∃ (f : Addr) (oc : Value) (od : Option Addr) (kV doc pm : Value) (an : Option Addr) (cdv ct : Value) (osl : Array (Option Value)), PySem.W.nsIn K mainGlobals x = some (some (.ref f)) ∧
    K.lookup f = some ⟨oc, od, .func (PySem.W.fnOf x x (defArgs st) (defBody st) (defScope st) .none kV doc pm an cdv ct), osl⟩ ∧ PySem.W.codeIn K cdv x = true ∧ PySem.W.keepIn K (.ref f) = true
theorem fun_at {K : PySem.W.Frag} {x : Str} {st : Stmt} {f : Addr} {oc : Value} {od an : Option Addr} {kV doc pm cdv ct : Value} {osl : Array (Option Value)} (a : PySem.W.nsIn K mainGlobals x = some (some (.ref f)))
    (l : K.lookup f = some ⟨oc, od, .func (PySem.W.fnOf x x (defArgs st) (defBody st) (defScope st) .none kV doc pm an cdv ct), osl⟩) (c : PySem.W.codeIn K cdv x = true) (k : PySem.W.keepIn K (.ref f) = true) : FunAt K x st :=
  ⟨f, oc, od, kV, doc, pm, an, cdv, ct, osl, a, l, c, k⟩
/-- a name of the module and its data -/
structure ConAt (K : PySem.W.Frag) (x : Str) (d : D) : Prop where
  ex : ∃ (v : V) (u : Value), PySem.W.nsIn K mainGlobals x = some (some u) ∧ RelV v u ∧ ∀ [Tb : Tbl] φ H, Rep K φ H v d
theorem con_int {K : PySem.W.Frag} {x : Str} {i : Int} {t : Tok} (a : PySem.W.nsIn K mainGlobals x = some (some (.int i t))) : ConAt K x (.int i) := ⟨.int i, _, a, ⟨t, rfl⟩, fun _ _ => .int i⟩
/-- a value that is a text -/
def strV : Value → Option Str
  | .str x _ => some x
  | _ => none
theorem strs_rel {K : PySem.W.Frag} : ∀ {us : List Value} {xs : List Str}, us.map strV = xs.map some → Vals (xs.map V.str) us
  | [], [], _ => .nil
  | [], _ :: _, h => by cases h
  | _ :: _, [], h => by cases h
  | u :: us, x :: xs, h => by
    simp only [List.map_cons, List.cons.injEq] at h
    refine .cons ?_ (strs_rel (K := K) h.2)
    cases u <;> first | (cases h.1; done) | skip
    case str y t => exact ⟨t, by have := Option.some.inj h.1; rw [this]⟩
theorem strs_rep [Tb : Tbl] {K : PySem.W.Frag} {φ : List Addr} {H : Hp} : ∀ xs : List Str, RepL K φ H (xs.map V.str) (xs.map D.str)
  | [] => .nil
  | x :: xs => .cons (.str x) (strs_rep xs)
theorem tup_at [Tb : Tbl] {K : PySem.W.Frag} {p : Addr} {od : Option Addr} {its : Array Value} {n : Nat} {osl : Array (Option Value)} (xs : List Str) (l : K.lookup p = some ⟨.type "tuple", od, .seq its n, osl⟩) (h : its.toList.map strV = xs.map some) (hl : xs.length ≤ 100) (φ : List Addr) (H : Hp) : Rep K φ H (.ref p) (.ktup (xs.map D.str)) := by
  refine .ktup (.inr ⟨_, its, n, l, rfl, rfl, ?_, strs_rel (K := K) h⟩) (strs_rep xs)
  have : its.toList.length = xs.length := by simpa using congrArg List.length h
  rw [← Array.length_toList, this]
  exact Nat.le_trans hl (by decide)
theorem con_strs {K : PySem.W.Frag} {x : Str} {p : Addr} {od : Option Addr} {its : Array Value} {n : Nat} {osl : Array (Option Value)} (xs : List Str) (hl : xs.length ≤ 100) (a : PySem.W.nsIn K mainGlobals x = some (some (.ref p))) (l : K.lookup p = some ⟨.type "tuple", od, .seq its n, osl⟩) (h : its.toList.map strV = xs.map some) : ConAt K x (.ktup (xs.map D.str)) :=
  ⟨.ref p, _, a, rfl, fun φ H => tup_at xs l h hl φ H⟩
theorem con_marks {K : PySem.W.Frag} {x : Str} {p a b : Addr} {od od1 od2 : Option Addr} {its its1 its2 : Array Value} {n n1 n2 : Nat} {osl osl1 osl2 : Array (Option Value)} (xs ys : List Str) (hx : xs.length ≤ 100) (hy : ys.length ≤ 100) (e : PySem.W.nsIn K mainGlobals x = some (some (.ref p)))
    (l : K.lookup p = some ⟨.type "tuple", od, .seq its n, osl⟩) (h : its.toList = [.ref a, .ref b]) (l1 : K.lookup a = some ⟨.type "tuple", od1, .seq its1 n1, osl1⟩) (h1 : its1.toList.map strV = xs.map some) (l2 : K.lookup b = some ⟨.type "tuple", od2, .seq its2 n2, osl2⟩) (h2 : its2.toList.map strV = ys.map some) : ConAt K x (.ktup [.ktup (xs.map D.str), .ktup (ys.map D.str)]) := by
  refine ⟨.ref p, _, e, rfl, fun φ H => .ktup (vs := [.ref a, .ref b]) (.inr ⟨_, its, n, l, rfl, rfl, ?_, ?_⟩) (.cons (tup_at xs l1 h1 hx φ H) (.cons (tup_at ys l2 h2 hy φ H) .nil))⟩
  · rw [← Array.length_toList, h]
    show 2 ≤ sizeLine
    decide
  · rw [h]
    exact .cons rfl (.cons rfl .nil)
/-- a value that is an int -/
def intV : Value → Option Int
  | .int x _ => some x
  | _ => none
theorem ints_rel {K : PySem.W.Frag} : ∀ {us : List Value} {xs : List Int}, us.map intV = xs.map some → Vals (xs.map V.int) us
  | [], [], _ => .nil
  | [], _ :: _, h => by cases h
  | _ :: _, [], h => by cases h
  | u :: us, x :: xs, h => by
    simp only [List.map_cons, List.cons.injEq] at h
    refine .cons ?_ (ints_rel (K := K) h.2)
    cases u <;> first | (cases h.1; done) | skip
    case int y t => exact ⟨t, by have := Option.some.inj h.1; rw [this]⟩
theorem ints_rep [Tb : Tbl] {K : PySem.W.Frag} {φ : List Addr} {H : Hp} : ∀ ns : List Int, RepL K φ H (ns.map V.int) (ns.map D.int)
  | [] => .nil
  | i :: r => .cons (.int i) (ints_rep r)
theorem itup_at [Tb : Tbl] {K : PySem.W.Frag} {p : Addr} {od : Option Addr} {its : Array Value} {n : Nat} {osl : Array (Option Value)} (xs : List Int) (l : K.lookup p = some ⟨.type "tuple", od, .seq its n, osl⟩) (h : its.toList.map intV = xs.map some) (hl : xs.length ≤ 100) (φ : List Addr) (H : Hp) : Rep K φ H (.ref p) (.ktup (xs.map D.int)) := by
  refine .ktup (.inr ⟨_, its, n, l, rfl, rfl, ?_, ints_rel (K := K) h⟩) (ints_rep xs)
  have : its.toList.length = xs.length := by simpa using congrArg List.length h
  rw [← Array.length_toList, this]
  exact Nat.le_trans hl (by decide)
/-- an own class of errors in the written part -/
structure ErrG (K : PySem.W.Frag) (x : Str) (C : Addr) : Prop where
  g : PySem.W.nsIn K mainGlobals x = some (some (.ref C))
  k : PySem.W.keepIn K (.ref C) = true
  s : PySem.W.subIn K (.ref C) (.type "BaseException") = some true
  t : PySem.W.typeIn K (.ref C) = some (.type "type")
  i : PySem.W.isClsIn K C = true
/-- .. without an __init__ of its own -/
structure Err0 (K : PySem.W.Frag) (C : Addr) : Prop where
  bas : ∃ (B newId initId : String) (bmB : List Value), ExcBaseFacts B newId initId bmB ∧ PySem.W.excIn K C bmB newId = true
/-- .. with one -/
structure Err1 (P : Program) (K : PySem.W.Frag) (C : Addr) (x f a : Str) (b : Option Str) : Prop where
  xf : XfC K C
  sup : PySem.W.nsIn K mainGlobals "super" = some none
  ini : ∃ fI, ∀ mg : Str → Option Value, mg "super" = none → GX.Ini P K mg C fI x f a b
theorem err1_at {P : Program} {K : PySem.W.Frag} {C fI : Addr} (x f a : Str) (b : Option Str) {oc ccl cl : Value} {od cdd cld : Option Addr} {osl ccs csl : Array (Option Value)} {cda cc : Addr} {vs : Array Value} {qual file : Str} {tf : Tok} {dV kV doc pm ct : Value} {an : Option Addr} {p0 p1 p2 p3 p4 p5 p6 p7 p8 p9 pa pb pc pd pe pf : Pos} {j1 j2 : Nat} {more : List (Str × Const)}
    (xf : XfC K C) (sup : PySem.W.nsIn K mainGlobals "super" = some none) (oex : OexC K C) (iC : PySem.W.findIn K (.ref C) "__init__" = some (some (.ref fI))) (tI : PySem.W.typeIn K (.ref fI) = some (.type "function"))
    (l : K.lookup fI = some ⟨oc, od, .func (PySem.W.ksFn "__init__" qual (GX.iniA x pa pb) (GX.iniB a b x f j1 j2 p0 p1 p2 p3 p4 p5 p6 p7 p8 p9 pc pd pe pf) (GX.iniS x more) dV kV doc pm an (.ref cda) ct cc), osl⟩)
    (bd : ∀ e u : Value, bindArgs (PySem.W.ksFn "__init__" qual (GX.iniA x pa pb) (GX.iniB a b x f j1 j2 p0 p1 p2 p3 p4 p5 p6 p7 p8 p9 pc pd pe pf) (GX.iniS x more) dV kV doc pm an (.ref cda) ct cc) ⟨[e, u], []⟩ = pure [((PySem.Str.ofString "self"), e), (x, u)])
    (ev : ∀ env : Env, ∃ pl : Sem Bool, eval (.Call (.Attribute (.Call (.Name "super" p0) [] [] p1) "__init__" p2) [GX.sayE a b x j1 j2 pc pd pe p9 p3] [] p4) env = (do
      let ov ← attributeBase (.Call (.Name "super" p0) [] [] p1) "__init__" env (eval (.Call (.Name "super" p0) [] [] p1) env)
      standAt p2.atName
      let (g, first) ← holding [ov] (getMethod ov "__init__" pl)
      callWith p4 g first (backTo p4 (starEach [GX.sayE a b x j1 j2 pc pd pe p9 p3] env)) []))
    (cd : PySem.W.codeIn K (.ref cda) qual = true) (lc : K.lookup cda = some ⟨ccl, cdd, .fields vs, ccs⟩) (v2 : vs[2]? = some (.str file tf)) (hf : ((P.main.file : Str) == file) = true) (cell : K.lookup cc = some ⟨cl, cld, .cell (some (.ref C)), csl⟩)
    (xs : x ≠ "self" ∧ x ≠ "super" ∧ x ≠ "__class__" ∧ x ≠ "__debug__") (la : a.length ≤ 1000) (lb : ∀ y, b = some y → y.length ≤ 1000) (sub : PySem.W.mroIn K C (.ref C) = some true) (opq : PySem.W.nsIn K cStatics "thirdparty.any" = some none)
    (nm : PySem.W.ks_superIn K C C "__init__" = some (some (.builtin "ValueError.__init__"))) (ve : PySem.W.subIn K (.ref C) (.type "ValueError") = some true) (nof : PySem.W.findIn K (.ref C) f = some none) (main : (P.main.scope.names.lookup ("super" : Str)).isSome = false) : Err1 P K C x f a b :=
  ⟨xf, sup, fI, fun mg hs => ⟨oex, iC, tI, ⟨oc, ccl, cl, od, cdd, cld, osl, ccs, csl, cda, cc, vs, qual, file, tf, dV, kV, doc, pm, ct, an, p0, p1, p2, p3, p4, p5, p6, p7, p8, p9, pa, pb, pc, pd, pe, pf, j1, j2, more, l, bd, ev, cd, lc, v2, hf, cell⟩, xs, la, lb, sub, hs, opq, nm, ve, nof, main⟩⟩
theorem exm_of {K : PySem.W.Frag} {C S : Addr} {b : Bool} (h1 : PySem.W.subIn K (.ref S) (.type "BaseException") = some true) (h2 : PySem.W.isClsIn K S = true) (h3 : PySem.W.typeIn K (.ref S) = some (.type "type")) (h4 : PySem.W.subIn K (.ref C) (.ref S) = some b) :
    PySem.W.exmOne K (.ref C) (.ref S) = some b := by
  have e1 : (PySem.W.subIn K (.ref S) (.type "BaseException") == some true) = true := by rw [h1] <;> rfl
  have e2 : ((PySem.W.clsIn K S).isSome && PySem.W.typeIn K (.ref S) == some (.type "type")) = true := by
    have h2' : (PySem.W.clsIn K S).isSome = true := h2
    rw [h2', h3] <;> rfl
  unfold PySem.W.exmOne PySem.W.kitCls
  simp only [e1, e2, if_true]
  exact h4
section
variable [Tb : Tbl] {P : Program} {w : World} {K : PySem.W.Frag} {mg : Str → Option Value} {base : Heap}
theorem errk0 {h : Heap} (X : K.In h) (G : h.Ns mainGlobals mg) {c : Str} {C : Addr} (e : ErrG K c C) (e0 : Err0 K C) (cl : Tb.cl.lookup c = some (C, none)) (ex : ∀ c' C' a', Tb.cl.lookup c' = some (C', a') → PySem.W.subIn K (.ref C') (.ref C) = some (decide (c' = c))) : ErrK P K mg c none C where
  cl := cl
  mg := PySem.W.mg_of X G e.g
  exm := fun c' C' a' h => exm_of e.s e.i e.t (ex c' C' a' h)
  s := e.s
  t := e.t
  k := e.k
  mk0 := fun _ => e0.bas
  mk1 := fun _ h => by cases h
theorem errk1 {h : Heap} (X : K.In h) (G : h.Ns mainGlobals mg) {c x f a : Str} {b : Option Str} {C : Addr} (e : ErrG K c C) (e1 : Err1 P K C x f a b) (cl : Tb.cl.lookup c = some (C, some f)) (ex : ∀ c' C' a', Tb.cl.lookup c' = some (C', a') → PySem.W.subIn K (.ref C') (.ref C) = some (decide (c' = c))) : ErrK P K mg c (some f) C where
  cl := cl
  mg := PySem.W.mg_of X G e.g
  exm := fun c' C' a' h => exm_of e.s e.i e.t (ex c' C' a' h)
  s := e.s
  t := e.t
  k := e.k
  mk0 := fun h => by cases h
  mk1 := fun g h => by
    cases h
    obtain ⟨fI, q⟩ := e1.ini
    exact ⟨⟨fI, x, a, b, q mg (PySem.W.mg_none_of X G e1.sup)⟩, e1.xf⟩
theorem none_at {f : Addr} {fd : FuncData} {ps : List Str} {sp : FSp} {CX : CXT} {k : Nat} (h : ∀ ds S Q XD, ¬ sp ds S Q XD) : FnOk P w K mg base CX k f fd ps (spD K sp) := by
  have no : ∀ vs H Q E, ¬ spD K sp vs H Q E := fun vs H Q E z => by
    obtain ⟨ds, S, φ, XD, QD, _, _, q, _⟩ := z
    exact h ds S QD XD q
  exact ⟨fun vs H Q E h => absurd h (no vs H Q E), fun A outer s H args us vs Q E _ _ _ _ h => absurd h (no vs H Q E)⟩
theorem con_of {h : Heap} (X : K.In h) (G : h.Ns mainGlobals mg) {x : Str} {d : D} (c : ConAt K x d) : ∃ v u, mg x = some u ∧ RelV v u ∧ ∀ φ H, Rep K φ H v d := by
  obtain ⟨v, u, a, r, q⟩ := c.ex
  exact ⟨v, u, PySem.W.mg_of X G a, r, q⟩
/-- the def keeps its promise with n calls -/
def Ok1 (P : Program) (w : World) (K : PySem.W.Frag) (mg : Str → Option Value) (base : Heap) (n : Nat) (fs : FEnv) (x : Str) : Prop :=
  ∃ sp, fs.f x = some sp ∧ ∃ (f : Addr) (fd : FuncData) (ps : List Str), FnOk P w K mg base (L2.CX P w) n f fd ps (spD K sp) ∧ mg x = some (.ref f) ∧ PySem.W.keepIn K (.ref f) = true ∧ Binds K fd ps []
def AllOk (P : Program) (w : World) (K : PySem.W.Frag) (mg : Str → Option Value) (base : Heap) (FN : List Str) (n : Nat) (fs : FEnv) : Prop := ∀ (x : Str), FN.contains x = true → Ok1 P w K mg base n fs x
/-- the script as the law gets it -/
theorem scr_in {H : Hp} {a : Addr} {ns : List Int} {sp : FSp} {E : XK} (hT : LamX.Tabs Tb.t H) (hS : SqL K H a (ns.map V.int)) (hsp : ∀ d S, Scr S d ns → sp [d] S (fun d _ => d = .bl true) (fun _ _ _ => False)) : spD K sp [.ref a] H (fun v _ => v = .bl true) E := by
  have post : ∀ φ, Post K φ H (fun v _ => v = .bl true) (fun d _ => d = .bl true) := fun φ d S' v H' φ' _ _ _ r q => by
    subst q
    cases r
    rfl
  have ro : SqR K H a (ns.map V.int) → spD K sp [.ref a] H (fun v _ => v = .bl true) E := fun hR =>
    ⟨[.rol (ns.map D.int)], [], [], fun _ _ _ => False, fun d _ => d = .bl true, .cons (.rol hR (ints_rep ns)) .nil, ⟨rfl, List.nodup_nil, fun n a o h => (by cases h), hT⟩, hsp _ _ (.inl rfl), fun _ _ _ _ _ _ _ _ _ _ _ z => z.elim, post _⟩
  rcases hS with (h | h) | h
  · refine ⟨[.ref 0], [.lst (ns.map D.int)], [a], fun _ _ _ => False, fun d _ => d = .bl true, .cons (.ref rfl) .nil, ⟨rfl, by simp, fun n b o h1 h2 => ?_, hT⟩, hsp _ _ (.inr ⟨0, rfl, rfl⟩), fun _ _ _ _ _ _ _ _ _ _ _ z => z.elim, post _⟩
    cases n with
    | zero =>
      obtain rfl : a = b := Option.some.inj h1
      obtain rfl : Ob.lst (ns.map D.int) = o := Option.some.inj h2
      exact ⟨ns.map V.int, h, ints_rep ns⟩
    | succ n => cases h1
  · exact ro (.inl h)
  · exact ro (.inr h)
end
end KS

set_option Elab.async false
set_option linter.all false
set_option maxRecDepth 100000
set_option maxHeartbeats 4000000
namespace K08
open PySem PySem.Spec PyProof.Rows L2 DW KP
def top (i : Nat) : Stmt := PySem.Challenge.pw_noticeways_k08_texts_of_notices.main.body.getD i (.Pass ⟨0, 0, 0, 0⟩)
abbrev DCN : List (Str × List (Str × D)) := []
abbrev LAM : List (Str × Str) := []
abbrev EXS : List (Str × Option Str) := [("InvalidNotice", none), ("InvalidText", some "word")]
abbrev CON : List (Str × D) := [("JOINTS", c_JOINTS), ("MOST_SIGNS", c_MOST_SIGNS), ("MOST_CLAUSES", c_MOST_CLAUSES), ("MOST_TOLD", c_MOST_TOLD), ("MARK_CLAUSES", c_MARK_CLAUSES), ("COUNT_CLAUSES", c_COUNT_CLAUSES), ("MARKS", c_MARKS), ("COUNTED", c_COUNTED), ("OTHER_SIGNS", c_OTHER_SIGNS)]
abbrev FN : List Str := ["is_row", "is_notice", "is_sign", "is_number", "_is_triple", "check_notice", "notice_text", "read_notice", "_word", "_all_signs", "_law_source", "_law_draw", "_law_choice", "_law_clause", "_law_notice", "_law_word_of", "_law_words", "_law_due", "_law_bent", "_law_tried", "law"]
abbrev BN : List Str := ["str", "sorted", "enumerate", "len", "isinstance", "all", "abs", "int", "min", "tuple", "bool", "range"]
/-! is_row: 0 signs, 1 depth, 2 part_due, 3 sign -/
abbrev s_is_row : Stmt := top 6
abbrev C_is_row : DW.Ctx := { N := ["signs", "depth", "part_due", "sign"], sc := defScope s_is_row, blk := none, con := CON, fn := FN, bn := BN, dcn := DCN, srt := false, lam := [], exs := EXS, dk := false, dkv := [] }
theorem sc_is_row : FnScope C_is_row.N ["signs"] (defScope s_is_row) := ⟨rfl, rfl, rfl, by decide +kernel, rfl, by decide +kernel, by decide +kernel⟩
theorem co_is_row : compB 60 C_is_row (defBody s_is_row) = some ir_is_row := by rfl
/-! is_notice: 0 value, 1 clauses, 2 sign -/
abbrev s_is_notice : Stmt := top 16
abbrev C_is_notice : DW.Ctx := { N := ["value", "clauses", "sign"], sc := defScope s_is_notice, blk := none, con := CON, fn := FN, bn := BN, dcn := DCN, srt := false, lam := [], exs := EXS, dk := false, dkv := [] }
theorem sc_is_notice : FnScope C_is_notice.N ["value"] (defScope s_is_notice) := ⟨rfl, rfl, rfl, by decide +kernel, rfl, by decide +kernel, by decide +kernel⟩
theorem co_is_notice : compB 60 C_is_notice (defBody s_is_notice) = some ir_is_notice := by rfl
/-! is_sign: 0 value -/
abbrev s_is_sign : Stmt := top 17
abbrev C_is_sign : DW.Ctx := { N := ["value"], sc := defScope s_is_sign, blk := none, con := CON, fn := FN, bn := BN, dcn := DCN, srt := false, lam := [], exs := EXS, dk := false, dkv := [] }
theorem sc_is_sign : FnScope C_is_sign.N ["value"] (defScope s_is_sign) := ⟨rfl, rfl, rfl, by decide +kernel, rfl, by decide +kernel, by decide +kernel⟩
theorem co_is_sign : compB 60 C_is_sign (defBody s_is_sign) = some ir_is_sign := by rfl
/-! is_number: 0 value, 1 least, 2 most -/
abbrev s_is_number : Stmt := top 18
abbrev C_is_number : DW.Ctx := { N := ["value", "least", "most"], sc := defScope s_is_number, blk := none, con := CON, fn := FN, bn := BN, dcn := DCN, srt := false, lam := [], exs := EXS, dk := false, dkv := [] }
theorem sc_is_number : FnScope C_is_number.N ["value", "least", "most"] (defScope s_is_number) := ⟨rfl, rfl, rfl, by decide +kernel, rfl, by decide +kernel, by decide +kernel⟩
theorem co_is_number : compB 60 C_is_number (defBody s_is_number) = some ir_is_number := by rfl
/-! _is_triple: 0 value, 1 mark_words, 2 count_words, 3 word, 4 first, 5 second -/
abbrev s__is_triple : Stmt := top 19
abbrev C__is_triple : DW.Ctx := { N := ["value", "mark_words", "count_words", "word", "first", "second"], sc := defScope s__is_triple, blk := none, con := CON, fn := FN, bn := BN, dcn := DCN, srt := false, lam := [], exs := EXS, dk := false, dkv := [] }
theorem sc__is_triple : FnScope C__is_triple.N ["value", "mark_words", "count_words"] (defScope s__is_triple) := ⟨rfl, rfl, rfl, by decide +kernel, rfl, by decide +kernel, by decide +kernel⟩
theorem co__is_triple : compB 60 C__is_triple (defBody s__is_triple) = some ir__is_triple := by rfl
/-! check_notice: 0 value -/
abbrev s_check_notice : Stmt := top 21
abbrev C_check_notice : DW.Ctx := { N := ["value"], sc := defScope s_check_notice, blk := none, con := CON, fn := FN, bn := BN, dcn := DCN, srt := false, lam := [], exs := EXS, dk := false, dkv := [] }
theorem sc_check_notice : FnScope C_check_notice.N ["value"] (defScope s_check_notice) := ⟨rfl, rfl, rfl, by decide +kernel, rfl, by decide +kernel, by decide +kernel⟩
theorem co_check_notice : compB 60 C_check_notice (defBody s_check_notice) = some ir_check_notice := by rfl
/-! notice_text: 0 notice, 1 sign -/
abbrev s_notice_text : Stmt := top 23
abbrev C_notice_text : DW.Ctx := { N := ["notice", "sign"], sc := defScope s_notice_text, blk := none, con := CON, fn := FN, bn := BN, dcn := DCN, srt := false, lam := [], exs := EXS, dk := false, dkv := [] }
theorem sc_notice_text : FnScope C_notice_text.N ["notice"] (defScope s_notice_text) := ⟨rfl, rfl, rfl, by decide +kernel, rfl, by decide +kernel, by decide +kernel⟩
theorem co_notice_text : compB 60 C_notice_text (defBody s_notice_text) = some ir_notice_text := by rfl
/-! read_notice: 0 value, 1 signs, 2 words, 3 number, 4 word, 5 notice, 6 sign -/
abbrev s_read_notice : Stmt := top 24
abbrev C_read_notice : DW.Ctx := { N := ["value", "signs", "words", "number", "word", "notice", "sign"], sc := defScope s_read_notice, blk := none, con := CON, fn := FN, bn := BN, dcn := DCN, srt := false, lam := [], exs := EXS, dk := true, dkv := [] }
theorem sc_read_notice : FnScope C_read_notice.N ["value"] (defScope s_read_notice) := ⟨rfl, rfl, rfl, by decide +kernel, rfl, by decide +kernel, by decide +kernel⟩
theorem co_read_notice : compB 60 C_read_notice (defBody s_read_notice) = some ir_read_notice := by rfl
/-! _word: 0 sign, 1 item -/
abbrev s__word : Stmt := top 25
abbrev C__word : DW.Ctx := { N := ["sign", "item"], sc := defScope s__word, blk := none, con := CON, fn := FN, bn := BN, dcn := DCN, srt := false, lam := [], exs := EXS, dk := false, dkv := [] }
theorem sc__word : FnScope C__word.N ["sign"] (defScope s__word) := ⟨rfl, rfl, rfl, by decide +kernel, rfl, by decide +kernel, by decide +kernel⟩
theorem co__word : compB 60 C__word (defBody s__word) = some ir__word := by rfl
/-! _all_signs: 0 marked, 1 counted, 2 word, 3 first, 4 second, 5 many, 6 mark -/
abbrev s__all_signs : Stmt := top 26
abbrev C__all_signs : DW.Ctx := { N := ["marked", "counted", "word", "first", "second", "many", "mark"], sc := defScope s__all_signs, blk := none, con := CON, fn := FN, bn := BN, dcn := DCN, srt := false, lam := [], exs := EXS, dk := false, dkv := [] }
theorem sc__all_signs : FnScope C__all_signs.N [] (defScope s__all_signs) := ⟨rfl, rfl, rfl, by decide +kernel, rfl, by decide +kernel, by decide +kernel⟩
theorem co__all_signs : compB 60 C__all_signs (defBody s__all_signs) = some ir__all_signs := by rfl
/-! _law_source: 0 _law_script, 1 _law_k, 2 _law_cell -/
abbrev s__law_source : Stmt := top 28
abbrev C__law_source : DW.Ctx := { N := ["_law_script", "_law_k", "_law_cell"], sc := defScope s__law_source, blk := none, con := CON, fn := FN, bn := BN, dcn := DCN, srt := false, lam := [], exs := EXS, dk := false, dkv := [] }
theorem sc__law_source : FnScope C__law_source.N ["_law_script", "_law_k"] (defScope s__law_source) := ⟨rfl, rfl, rfl, by decide +kernel, rfl, by decide +kernel, by decide +kernel⟩
theorem co__law_source : compB 60 C__law_source (defBody s__law_source) = some ir__law_source := by rfl
/-! _law_draw: 0 _law_source_here, 1 _law_many, 2 _law_rest, 3 _law_wide -/
abbrev s__law_draw : Stmt := top 29
abbrev C__law_draw : DW.Ctx := { N := ["_law_source_here", "_law_many", "_law_rest", "_law_wide"], sc := defScope s__law_draw, blk := none, con := CON, fn := FN, bn := BN, dcn := DCN, srt := false, lam := [], exs := EXS, dk := false, dkv := [] }
theorem sc__law_draw : FnScope C__law_draw.N ["_law_source_here", "_law_many"] (defScope s__law_draw) := ⟨rfl, rfl, rfl, by decide +kernel, rfl, by decide +kernel, by decide +kernel⟩
theorem co__law_draw : compB 60 C__law_draw (defBody s__law_draw) = some ir__law_draw := by rfl
/-! _law_choice: 0 _law_source_here, 1 _law_some -/
abbrev s__law_choice : Stmt := top 30
abbrev C__law_choice : DW.Ctx := { N := ["_law_source_here", "_law_some"], sc := defScope s__law_choice, blk := none, con := CON, fn := FN, bn := BN, dcn := DCN, srt := false, lam := [], exs := EXS, dk := false, dkv := [] }
theorem sc__law_choice : FnScope C__law_choice.N ["_law_source_here", "_law_some"] (defScope s__law_choice) := ⟨rfl, rfl, rfl, by decide +kernel, rfl, by decide +kernel, by decide +kernel⟩
theorem co__law_choice : compB 60 C__law_choice (defBody s__law_choice) = some ir__law_choice := by rfl
/-! _law_clause: 0 _law_source_here, 1 _law_pair -/
abbrev s__law_clause : Stmt := top 31
abbrev C__law_clause : DW.Ctx := { N := ["_law_source_here", "_law_pair"], sc := defScope s__law_clause, blk := none, con := CON, fn := FN, bn := BN, dcn := DCN, srt := false, lam := [], exs := EXS, dk := false, dkv := [] }
theorem sc__law_clause : FnScope C__law_clause.N ["_law_source_here"] (defScope s__law_clause) := ⟨rfl, rfl, rfl, by decide +kernel, rfl, by decide +kernel, by decide +kernel⟩
theorem co__law_clause : compB 60 C__law_clause (defBody s__law_clause) = some ir__law_clause := by rfl
/-! _law_notice: 0 _law_source_here, 1 _law_most, 2 _law_parts, 3 _law_turn, 4 _law_part, 5 _law_at, 6 _law_joint, 7 _law_whole, 8 _law_found -/
abbrev s__law_notice : Stmt := top 32
abbrev C__law_notice : DW.Ctx := { N := ["_law_source_here", "_law_most", "_law_parts", "_law_turn", "_law_part", "_law_at", "_law_joint", "_law_whole", "_law_found"], sc := defScope s__law_notice, blk := none, con := CON, fn := FN, bn := BN, dcn := DCN, srt := false, lam := [], exs := EXS, dk := false, dkv := [] }
theorem sc__law_notice : FnScope C__law_notice.N ["_law_source_here", "_law_most"] (defScope s__law_notice) := ⟨rfl, rfl, rfl, by decide +kernel, rfl, by decide +kernel, by decide +kernel⟩
theorem co__law_notice : compB 60 C__law_notice (defBody s__law_notice) = some ir__law_notice := by rfl
/-! _law_word_of: 0 _law_sign -/
abbrev s__law_word_of : Stmt := top 33
abbrev C__law_word_of : DW.Ctx := { N := ["_law_sign"], sc := defScope s__law_word_of, blk := none, con := CON, fn := FN, bn := BN, dcn := DCN, srt := false, lam := [], exs := EXS, dk := false, dkv := [] }
def ir__law_word_of : IB := .cons (.ifs (.val (.blt .isinst (.cons (.var 0) (.cons (.cst (D.ty "str")) .nil)))) (.cons (.ret (.var 0)) .nil) .nil) (.cons (.ret (.bin .Add (.bin .Add (.bin .Add (.bin .Add (.idx (.var 0) (.cst (D.int 0))) (.cst (D.str "-"))) (.blt .str (.cons (.idx (.var 0) (.cst (D.int 1))) .nil))) (.cst (D.str "-"))) (.idx (.var 0) (.cst (D.int 2))))) .nil)
theorem sc__law_word_of : FnScope C__law_word_of.N ["_law_sign"] (defScope s__law_word_of) := ⟨rfl, rfl, rfl, by decide +kernel, rfl, by decide +kernel, by decide +kernel⟩
theorem co__law_word_of : compB 60 C__law_word_of (defBody s__law_word_of) = some ir__law_word_of := by rfl
/-! _law_words: 0 _law_found, 1 _law_word, 2 _law_first, 3 _law_second, 4 _law_many, 5 _law_mark -/
abbrev s__law_words : Stmt := top 34
abbrev C__law_words : DW.Ctx := { N := ["_law_found", "_law_word", "_law_first", "_law_second", "_law_many", "_law_mark"], sc := defScope s__law_words, blk := none, con := CON, fn := FN, bn := BN, dcn := DCN, srt := false, lam := [], exs := EXS, dk := true, dkv := [] }
def ir__law_words_b0 : IB := .cons (.asg (.sub (.var 0) (.bin .Add (.bin .Add (.bin .Add (.cst (D.str "has-")) (.blt .str (.cons (.var 4) .nil))) (.cst (D.str "-"))) (.var 5))) (.tup (.cons (.cst (D.str "has")) (.cons (.var 4) (.cons (.var 5) .nil))))) .nil
def ir__law_words_b1 : IB := .cons (.fr (.name 5) (.val (.lst (.cons (.cst (D.str "a")) (.cons (.cst (D.str "b")) (.cons (.cst (D.str "both")) .nil))))) ir__law_words_b0) .nil
def ir__law_words_b2 : IB := .cons (.asg (.sub (.var 0) (.bin .Add (.bin .Add (.bin .Add (.bin .Add (.var 1) (.cst (D.str "-"))) (.var 2)) (.cst (D.str "-"))) (.var 3))) (.tup (.cons (.var 1) (.cons (.var 2) (.cons (.var 3) .nil))))) .nil
def ir__law_words_b3 : IB := .cons (.fr (.name 1) (.val (.lst (.cons (.cst (D.str "all")) (.cons (.cst (D.str "some")) (.cons (.cst (D.str "no")) (.cons (.cst (D.str "allnot")) .nil)))))) ir__law_words_b2) .nil
def ir__law_words_b4 : IB := .cons (.asg (.sub (.var 0) (.var 1)) (.var 1)) .nil
def ir__law_words : IB := .cons (.asg (.name 0) .dknew) (.cons (.fr (.name 1) (.val (.lst (.cons (.cst (D.str "and")) (.cons (.cst (D.str "or")) (.cons (.cst (D.str "unless")) (.cons (.cst (D.str "onlyif")) (.cons (.cst (D.str "not")) (.cons (.cst (D.str "(")) (.cons (.cst (D.str ")")) .nil))))))))) ir__law_words_b4) (.cons (.fr (.tup (.cons (.name 2) (.cons (.name 3) .nil))) (.val (.lst (.cons (.tup (.cons (.cst (D.str "a")) (.cons (.cst (D.str "b")) .nil))) (.cons (.tup (.cons (.cst (D.str "b")) (.cons (.cst (D.str "a")) .nil))) .nil)))) ir__law_words_b3) (.cons (.fr (.name 4) (.val (.tup (.cons (.cst (D.int 1)) (.cons (.cst (D.int 2)) (.cons (.cst (D.int 3)) .nil))))) ir__law_words_b1) (.cons (.ret (.var 0)) .nil))))
theorem sc__law_words : FnScope C__law_words.N [] (defScope s__law_words) := ⟨rfl, rfl, rfl, by decide +kernel, rfl, by decide +kernel, by decide +kernel⟩
theorem co__law_words : compB 60 C__law_words (defBody s__law_words) = some ir__law_words := by rfl
/-! _law_due: 0 _law_text, 1 _law_known, 2 _law_words_here, 3 _law_at, 4 _law_word, 5 _law_signs -/
abbrev s__law_due : Stmt := top 35
abbrev C__law_due : DW.Ctx := { N := ["_law_text", "_law_known", "_law_words_here", "_law_at", "_law_word", "_law_signs"], sc := defScope s__law_due, blk := none, con := CON, fn := FN, bn := BN, dcn := DCN, srt := false, lam := [], exs := EXS, dk := false, dkv := [] }
def ir__law_due_l0 : IE := .lcp [4] (.name 4) (.val (.var 2)) .none (.idx (.var 1) (.var 4))
def ir__law_due_b0 : IB := .cons (.ifs (.cmp .NotIn (.var 4) (.var 1)) (.cons (.ret (.bin .Add (.var 3) (.cst (D.int 1)))) .nil) .nil) .nil
def ir__law_due : IB := .cons (.asg (.name 2) (.spl (.var 0) (.cst (D.str " ")))) (.cons (.fr (.tup (.cons (.name 3) (.cons (.name 4) .nil))) (.enum (.var 2)) ir__law_due_b0) (.cons (.asg (.name 5) (.blt .tuple (.cons ir__law_due_l0 .nil))) (.cons (.ret (.ite (.val (.fn "is_notice" (.cons (.var 5) .nil))) (.var 5) (.bin .Add (.blt .len (.cons (.var 2) .nil)) (.cst (D.int 1))))) .nil)))
theorem sc__law_due : FnScope C__law_due.N ["_law_text", "_law_known"] (defScope s__law_due) := ⟨rfl, rfl, rfl, by decide +kernel, rfl, by decide +kernel, by decide +kernel⟩
theorem co__law_due : compB 60 C__law_due (defBody s__law_due) = some ir__law_due := by rfl
/-! _law_bent: 0 _law_source_here, 1 _law_text, 2 _law_known, 3 _law_signs, 4 _law_words_here, 5 _law_at, 6 _law_more -/
abbrev s__law_bent : Stmt := top 36
abbrev C__law_bent : DW.Ctx := { N := ["_law_source_here", "_law_text", "_law_known", "_law_signs", "_law_words_here", "_law_at", "_law_more"], sc := defScope s__law_bent, blk := none, con := CON, fn := FN, bn := BN, dcn := DCN, srt := false, lam := [], exs := EXS, dk := false, dkv := [] }
def ir__law_bent : IB := .cons (.asg (.name 3) (.lst (.cons (.cst (D.str " ")) (.cons (.cst (D.str "-")) (.cons (.cst (D.str "a")) (.cons (.cst (D.str "b")) (.cons (.cst (D.str "1")) (.cons (.cst (D.str "4")) (.cons (.cst (D.str "")) (.cons (.cst (D.str "not ")) (.cons (.cst (D.str " and")) (.cons (.cst (D.str "(")) (.cons (.cst (D.str ")")) (.cons (.cst (D.str "has-1-a")) (.cons (.cst (D.str " ( ")) (.cons (.cst (D.str "no-b-a")) (.cons (.cst (D.str "02")) .nil))))))))))))))))) (.cons (.ifs (.cmp .Eq (.fn "_law_draw" (.cons (.var 0) (.cons (.cst (D.int 2)) .nil))) (.cst (D.int 0))) (.cons (.asg (.name 4) (.spl (.var 1) (.cst (D.str " ")))) (.cons (.asg (.name 5) (.fn "_law_draw" (.cons (.var 0) (.cons (.blt .len (.cons (.var 4) .nil)) .nil)))) (.cons (.asg (.name 6) (.fn "_law_choice" (.cons (.var 0) (.cons (.lst (.cons (.lst .nil) (.cons (.slc (.slc (.blt .sorted (.cons (.var 2) .nil)) (.yes (.fn "_law_draw" (.cons (.var 0) (.cons (.blt .len (.cons (.var 2) .nil)) .nil)))) .no) .no (.yes (.cst (D.int 1)))) (.cons (.lst (.cons (.cst (D.str "and")) (.cons (.cst (D.str "all-a-b")) .nil))) (.cons (.lst (.cons (.cst (D.str "x")) .nil)) .nil))))) .nil)))) (.cons (.ret (.jn (.cst (D.str " ")) (.bin .Add (.bin .Add (.slc (.var 4) .no (.yes (.var 5))) (.var 6)) (.slc (.var 4) (.yes (.bin .Add (.var 5) (.fn "_law_draw" (.cons (.var 0) (.cons (.cst (D.int 2)) .nil))))) .no)))) .nil)))) .nil) (.cons (.asg (.name 5) (.fn "_law_draw" (.cons (.var 0) (.cons (.bin .Add (.blt .len (.cons (.var 1) .nil)) (.cst (D.int 1))) .nil)))) (.cons (.ret (.bin .Add (.bin .Add (.slc (.var 1) .no (.yes (.var 5))) (.fn "_law_choice" (.cons (.var 0) (.cons (.var 3) .nil)))) (.slc (.var 1) (.yes (.bin .Add (.var 5) (.fn "_law_draw" (.cons (.var 0) (.cons (.cst (D.int 3)) .nil))))) .no))) .nil)))
theorem sc__law_bent : FnScope C__law_bent.N ["_law_source_here", "_law_text", "_law_known"] (defScope s__law_bent) := ⟨rfl, rfl, rfl, by decide +kernel, rfl, by decide +kernel, by decide +kernel⟩
theorem co__law_bent : compB 60 C__law_bent (defBody s__law_bent) = some ir__law_bent := by rfl
/-! _law_tried: 0 _law_value, 1 _law_found, 2 e -/
abbrev s__law_tried : Stmt := top 37
abbrev C__law_tried : DW.Ctx := { N := ["_law_value", "_law_found", "e"], sc := defScope s__law_tried, blk := none, con := CON, fn := FN, bn := BN, dcn := DCN, srt := false, lam := [], exs := EXS, dk := false, dkv := [] }
def ir__law_tried_t0 : IB := .cons (.asg (.name 1) (.fn "read_notice" (.cons (.var 0) .nil))) .nil
def ir__law_tried : IB := .cons (.asg (.name 1) (.cst (D.non))) (.cons (.tryx ir__law_tried_t0 (.asgA "InvalidText" 2 1 .nil)) (.cons (.ret (.var 1)) .nil))
theorem sc__law_tried : FnScope C__law_tried.N ["_law_value"] (defScope s__law_tried) := ⟨rfl, rfl, rfl, by decide +kernel, rfl, by decide +kernel, by decide +kernel⟩
theorem co__law_tried : compB 60 C__law_tried (defBody s__law_tried) = some ir__law_tried := by rfl
/-! law: 0 _law_script, 1 _law_known, 2 _law_k, 3 _law_source_here, 4 _law_notice_here, 5 _law_first, 6 _law_text, 7 _law_turn, 8 _law_odd, 9 _law_word, 10 _law_sign, 11 _law_rows -/
abbrev s_law : Stmt := top 38
abbrev C_law : DW.Ctx := { N := ["_law_script", "_law_known", "_law_k", "_law_source_here", "_law_notice_here", "_law_first", "_law_text", "_law_turn", "_law_odd", "_law_word", "_law_sign", "_law_rows"], sc := defScope s_law, blk := none, con := CON, fn := FN, bn := BN, dcn := DCN, srt := false, lam := [], exs := EXS, dk := false, dkv := ["_law_known"] }
def ir_law_l0 : IE := .lcp [6] (.name 6) (.val (.var 11)) .none (.fn "_law_tried" (.cons (.var 6) .nil))
def ir_law_b0 : IB := .cons (.asg (.name 10) (.idx (.var 1) (.var 9))) (.cons (.ifs (.and (.val (.blt .isinst (.cons (.var 10) (.cons (.cst (D.ty "tuple")) .nil)))) (.cmp .NotEq (.tup (.cons (.fn "read_notice" (.cons (.var 9) .nil)) (.cons (.fn "notice_text" (.cons (.tup (.cons (.var 10) .nil)) .nil)) .nil))) (.tup (.cons (.tup (.cons (.var 10) .nil)) (.cons (.var 9) .nil))))) (.cons (.ret (.cst (D.bl false))) .nil) .nil) .nil)
def ir_law_b1 : IB := .cons (.ifs (.cmp .NotEq (.fn "_law_tried" (.cons (.var 8) .nil)) (.cst (D.int 0))) (.cons (.ret (.cst (D.bl false))) .nil) .nil) .nil
def ir_law_b2 : IB := .cons (.asg (.name 6) (.slc (.fn "_law_bent" (.cons (.var 3) (.cons (.ite (.cmp .Eq (.bin .Mod (.var 7) (.cst (D.int 3))) (.cst (D.int 0))) (.var 5) (.var 6)) (.cons (.var 1) .nil)))) .no (.yes (.cst (D.int 400))))) (.cons (.ifs (.cmp .NotEq (.fn "_law_tried" (.cons (.var 6) .nil)) (.fn "_law_due" (.cons (.var 6) (.cons (.var 1) .nil)))) (.cons (.ret (.cst (D.bl false))) .nil) .nil) .nil)
def ir_law_l1 : IE := .lcp [10] (.name 10) (.val (.var 4)) .none (.fn "_law_word_of" (.cons (.var 10) .nil))
def ir_law_b3 : IB := .cons (.asg (.name 3) (.fn "_law_source" (.cons (.var 0) (.cons (.var 2) .nil)))) (.cons (.asg (.name 4) (.fn "_law_notice" (.cons (.var 3) (.cons (.cst (D.int 4)) .nil)))) (.cons (.asg (.name 5) (.jn (.cst (D.str " ")) ir_law_l1)) (.cons (.ifs (.or (.cmp .NotEq (.fn "notice_text" (.cons (.var 4) .nil)) (.var 5)) (.cmp .NotEq (.fn "read_notice" (.cons (.var 5) .nil)) (.var 4))) (.cons (.ret (.cst (D.bl false))) .nil) .nil) (.cons (.asg (.name 6) (.var 5)) (.cons (.fr (.name 7) (.rng1 (.cst (D.int 20))) ir_law_b2) (.cons (.fr (.name 8) (.val (.lst (.cons (.cst (D.non)) (.cons (.cst (D.int 5)) (.cons (.tup (.cons (.var 5) .nil)) (.cons (.lst (.cons (.var 5) .nil)) (.cons (.cst (D.bl true)) (.cons (.var 4) .nil)))))))) ir_law_b1) .nil))))))
def ir_law : IB := .cons (.asg (.name 1) (.fn "_law_words" .nil)) (.cons (.fr (.name 2) (.rng1 (.bin .Add (.cst (D.int 1)) (.blt .min2 (.cons (.blt .len (.cons (.var 0) .nil)) (.cons (.cst (D.int 10)) .nil))))) ir_law_b3) (.cons (.frk (.name 9) 1 ir_law_b0) (.cons (.asg (.name 11) (.lst (.cons (.cst (D.str "")) (.cons (.cst (D.str "and")) (.cons (.cst (D.str "all-a-b and")) (.cons (.cst (D.str "all-a-a")) (.cons (.cst (D.str "has-4-a")) (.cons (.cst (D.str "has-01-a")) (.cons (.cst (D.str "all-a-b  and all-b-a")) .nil))))))))) (.cons (.asg (.name 11) (.bin .Add (.var 11) (.lst (.cons (.cst (D.str "all-a-b all-b-a")) (.cons (.cst (D.str "All-a-b")) .nil))))) (.cons (.asg (.name 11) (.bin .Add (.var 11) (.lst (.cons (.cst (D.str "( all-a-b")) (.cons (.cst (D.str "not")) (.cons (.cst (D.str " all-a-b")) (.cons (.cst (D.str "all-a-b ")) (.cons (.cst (D.str "some-b-a or not-")) (.cons (.cst (D.str "least-1-a")) (.cons (.cst (D.str "1-has-a")) .nil)))))))))) (.cons (.ret (.cmp .Eq ir_law_l0 (.lst (.cons (.cst (D.int 1)) (.cons (.cst (D.int 2)) (.cons (.cst (D.int 3)) (.cons (.cst (D.int 1)) (.cons (.cst (D.int 1)) (.cons (.cst (D.int 1)) (.cons (.cst (D.int 2)) (.cons (.cst (D.int 3)) (.cons (.cst (D.int 1)) (.cons (.cst (D.int 3)) (.cons (.cst (D.int 2)) (.cons (.cst (D.int 1)) (.cons (.cst (D.int 2)) (.cons (.cst (D.int 3)) (.cons (.cst (D.int 1)) (.cons (.cst (D.int 1)) .nil))))))))))))))))))) .nil))))))
theorem sc_law : FnScope C_law.N ["_law_script"] (defScope s_law) := ⟨rfl, rfl, rfl, by decide +kernel, rfl, by decide +kernel, by decide +kernel⟩
theorem co_law : compB 60 C_law (defBody s_law) = some ir_law := by rfl
end K08

set_option Elab.async false
set_option linter.all false
set_option maxRecDepth 100000
set_option maxHeartbeats 1000000

namespace K08
open PySem PySem.Spec PyProof.Rows L2 DW KP KS

/-! ### the law's own table -/
/-- all signs, as the law lists them -/
def LG : List D := [sD "and", sD "or", sD "unless", sD "onlyif", sD "not", sD "(", sD ")",
  .tup [sD "all", sD "a", sD "b"], .tup [sD "some", sD "a", sD "b"], .tup [sD "no", sD "a", sD "b"], .tup [sD "allnot", sD "a", sD "b"], .tup [sD "all", sD "b", sD "a"], .tup [sD "some", sD "b", sD "a"], .tup [sD "no", sD "b", sD "a"], .tup [sD "allnot", sD "b", sD "a"],
  .tup [sD "has", .int 1, sD "a"], .tup [sD "has", .int 1, sD "b"], .tup [sD "has", .int 1, sD "both"], .tup [sD "has", .int 2, sD "a"], .tup [sD "has", .int 2, sD "b"], .tup [sD "has", .int 2, sD "both"], .tup [sD "has", .int 3, sD "a"], .tup [sD "has", .int 3, sD "b"], .tup [sD "has", .int 3, sD "both"]]
theorem lg_perm (t : Str) : valD (kvOf LG) (.inr t) = look t := by
  refine look_perm (by decide +kernel) (fun d h => ?_) (fun d h => ?_) t
  · simp only [LG, SG, List.mem_cons, List.not_mem_nil, or_false] at h ⊢
    rcases h with h | h | h | h | h | h | h | h | h | h | h | h | h | h | h | h | h | h | h | h | h | h | h | h <;> simp [h]
  · simp only [LG, SG, List.mem_cons, List.not_mem_nil, or_false] at h ⊢
    rcases h with h | h | h | h | h | h | h | h | h | h | h | h | h | h | h | h | h | h | h | h | h | h | h | h <;> simp [h]
/-- the law's table stands at n -/
def TabL (S : Sto) (n : Nat) : Prop := S[n]? = some (.dk (kvOf LG))
theorem TabL.tab {S : Sto} {n : Nat} (h : TabL S n) : Tab S n := ⟨_, h, lg_perm⟩
/-- what the law's reading gives -/
def dueD (d : D) : D := match rd d with
  | .inl v => v
  | .inr i => .int i
/-! ### promises -/
def okV (S : Sto) (d : D) : Prop := (∃ t : Str, d = .str t ∧ t.length ≤ 50000) ∨ (Fit S d ∧ isStr d = false)
def spWords : FSp := fun ds S Q _ => ds = [] ∧ ∀ S' n, Ext S S' → S.length ≤ n → TabL S' n → Q (.ref n) S'
def spDue : FSp := fun ds S Q _ => ∃ (t : Str) (k : Nat), ds = [.str t, .ref k] ∧ t.length ≤ 50000 ∧ Tab S k ∧ ∀ S', Ext S S' → Q (dueD (.str t)) S'
def spTried : FSp := fun ds S Q _ => ∃ d, ds = [d] ∧ okV S d ∧ ∀ S', Ext S S' → Q (dueD d) S'
def spBent : FSp := fun ds S Q _ => ∃ (n k : Nat) (t : Str), ds = [.ref n, .str t, .ref k] ∧ Src S n ∧ TabL S k ∧ t.length ≤ 400 ∧ ∀ S' t', ExtB n S S' → Src S' n → t'.length ≤ 2000 → Q (.str t') S'
def spLaw : FSp := fun ds S Q _ => ∃ (d : D) (ns : List Int), ds = [d] ∧ Scr S d ns ∧ ns.length ≤ 63 ∧ ∀ S', Q (.bl true) S'
abbrev sps (n : Nat) : List (Str × FSp) := [("is_row", lv n 2 spIsRow), ("is_notice", lv n 5 spIsNotice), ("is_sign", lv n 4 spIsSign), ("is_number", lv n 2 spIsNumber), ("_is_triple", lv n 3 spIsTriple), ("check_notice", lv n 6 (spCheck isNotice "InvalidNotice")), ("notice_text", lv n 7 spText), ("read_notice", lv n 6 spRead), ("_word", lv n 2 spWord), ("_all_signs", lv n 2 spAllSigns),
  ("_law_source", lv n 2 spSource), ("_law_draw", lv n 2 spDraw), ("_law_choice", lv n 3 spChoice), ("_law_clause", lv n 4 spClause), ("_law_notice", lv n 5 spNotice), ("_law_word_of", lv n 2 spWord), ("_law_words", lv n 2 spWords), ("_law_due", lv n 6 spDue), ("_law_bent", lv n 4 spBent), ("_law_tried", lv n 7 spTried), ("law", lv n 20 spLaw)]
def fsN (n : Nat) : FEnv := { f := fun x => (sps n).lookup x }
theorem f_is_row (n : Nat) : (fsN n).f "is_row" = some (lv n 2 spIsRow) := rfl
theorem f_is_notice (n : Nat) : (fsN n).f "is_notice" = some (lv n 5 spIsNotice) := rfl
theorem f_is_sign (n : Nat) : (fsN n).f "is_sign" = some (lv n 4 spIsSign) := rfl
theorem f_is_number (n : Nat) : (fsN n).f "is_number" = some (lv n 2 spIsNumber) := rfl
theorem f__is_triple (n : Nat) : (fsN n).f "_is_triple" = some (lv n 3 spIsTriple) := rfl
theorem f_check_notice (n : Nat) : (fsN n).f "check_notice" = some (lv n 6 (spCheck isNotice "InvalidNotice")) := rfl
theorem f_notice_text (n : Nat) : (fsN n).f "notice_text" = some (lv n 7 spText) := rfl
theorem f_read_notice (n : Nat) : (fsN n).f "read_notice" = some (lv n 6 spRead) := rfl
theorem f__word (n : Nat) : (fsN n).f "_word" = some (lv n 2 spWord) := rfl
theorem f__all_signs (n : Nat) : (fsN n).f "_all_signs" = some (lv n 2 spAllSigns) := rfl
theorem f__law_source (n : Nat) : (fsN n).f "_law_source" = some (lv n 2 spSource) := rfl
theorem f__law_draw (n : Nat) : (fsN n).f "_law_draw" = some (lv n 2 spDraw) := rfl
theorem f__law_choice (n : Nat) : (fsN n).f "_law_choice" = some (lv n 3 spChoice) := rfl
theorem f__law_clause (n : Nat) : (fsN n).f "_law_clause" = some (lv n 4 spClause) := rfl
theorem f__law_notice (n : Nat) : (fsN n).f "_law_notice" = some (lv n 5 spNotice) := rfl
theorem f__law_word_of (n : Nat) : (fsN n).f "_law_word_of" = some (lv n 2 spWord) := rfl
theorem f__law_words (n : Nat) : (fsN n).f "_law_words" = some (lv n 2 spWords) := rfl
theorem f__law_due (n : Nat) : (fsN n).f "_law_due" = some (lv n 6 spDue) := rfl
theorem f__law_bent (n : Nat) : (fsN n).f "_law_bent" = some (lv n 4 spBent) := rfl
theorem f__law_tried (n : Nat) : (fsN n).f "_law_tried" = some (lv n 7 spTried) := rfl

theorem ob__law_word_of {fs : FEnv} (n : Nat) (ds : List D) (S : Sto) (Q : KQ) (X : KX) (h : lv (n + 1) 2 spWord ds S Q X) : wB fs ir__law_word_of (defEnds Q X) (startD C__law_word_of.N ds) S := by
  obtain ⟨hl, d, rfl, hd, q⟩ := h
  have hf : Fit S d := ⟨3, 2, by omega, sg_okd hd S⟩
  simp only [DW.wG, DW.wGs, gsLen, List.set_cons_succ, List.set_cons_zero, wB, wS, DW.wT, DW.wTs, DW.wE, DW.wA, DW.wO, DW.wI, List.getElem?_cons_succ, List.getElem?_cons_zero, cmp_eq, cmp_ne, cmp_in, cmp_nin, inA_tup, inA_ktup, op_shl', op_shr', op_and', op_or', op_xor', is_bl, isn_bl, iter_ktup, cmp_lt, cmp_le, cmp_gt, cmp_ge, tru_non, tru_bl, tru_int, tru_tup, op_addi, op_subi, op_muli, op_divi, op_modi, op_powi, op_addt, op_rept, len_tup, len_rol, idx_tup, idx_rol, slc_tup, iter_tup, iter_rol, eqc_int, LIM, Nat.reduceLeDiff, dBlt, dInt1, defEnds, startD, List.map_cons, List.map_nil, List.length_cons, List.length_nil, List.replicate_succ, List.replicate_zero, List.cons_append, List.nil_append, Nat.reduceAdd, Nat.reduceSub, Nat.zero_add, and_true, true_and, if_true, Bool.false_eq_true, if_false, ir__law_word_of, isi_fit hf (kit_str d hf.nty)]
  rcases sg_kind hd with ⟨x, rfl, e⟩ | ⟨a, b, c, rfl, ⟨x, rfl⟩, hb, z, rfl⟩
  · simp only [isStr, if_true, true_and, Bool.false_eq_true, if_false, Bool.and_true, Bool.and_false, Bool.true_and, Bool.false_and, Bool.not_true, Bool.not_false, Bool.or_true, Bool.or_false, Bool.true_or, Bool.false_or]
    exact q S (Ext.refl S)
  · simp only [isStr, if_true, true_and, Bool.false_eq_true, if_false, Bool.and_true, Bool.and_false, Bool.true_and, Bool.false_and, Bool.not_true, Bool.not_false, Bool.or_true, Bool.or_false, Bool.true_or, Bool.false_or]
    have q := q S (Ext.refl S)
    have l := sg_len _ hd
    have l : (itS (sD x) ++ ("-" : Str) ++ itS b ++ ("-" : Str) ++ itS (sD z)).length ≤ 10 := l
    simp only [PySem.Str.length_append] at l
    have h1 : ("-" : Str).length = 1 := by decide +kernel
    refine ⟨_, at0 _ _, ?_⟩
    have lx : (itS (sD x)).length = (Str.ofString x).length := rfl
    have lz : (itS (sD z)).length = (Str.ofString z).length := rfl
    refine ⟨by simp only [PySem.Str.length_append, h1, LIM]; omega, ?_⟩
    refine ⟨b, rfl, ?_⟩
    rcases hb with ⟨y, rfl⟩ | ⟨i, rfl, i1, i2⟩
    · have ly : (itS (sD y)).length = (Str.ofString y).length := rfl
      simp only [dStr, dOp]
      exact ⟨by simp only [PySem.Str.length_append, h1, LIM]; omega, by simp only [PySem.Str.length_append, h1, LIM]; omega, _, rfl, by simp only [PySem.Str.length_append, h1, LIM]; omega, q⟩
    · have ly : (itS (.int i)).length = (Str.ofString (toString i)).length := rfl
      simp only [dStr, dOp]
      exact ⟨by have : i = 1 ∨ i = 2 ∨ i = 3 := by omega
                rcases this with rfl | rfl | rfl <;> decide, by simp only [PySem.Str.length_append, h1, LIM]; omega, by simp only [PySem.Str.length_append, h1, LIM]; omega, _, rfl, by simp only [PySem.Str.length_append, h1, LIM]; omega, q⟩
end K08

set_option Elab.async false
set_option linter.all false
set_option maxRecDepth 100000
set_option maxHeartbeats 1000000

namespace K08
open PySem PySem.Spec PyProof.Rows L2 DW KP KS

theorem set_dk {S : Sto} {n : Nat} {kvs : List (L2.Key × D)} {x : Str} {d : D} {R : Sto → Prop} (h : S[n]? = some (.dk kvs)) : dSet (.ref n) (.str x) d S R = (kvs.length < LIM ∧ R (S.set n (.dk (putD kvs (.inr x) d)))) := by
  simp only [dSet, h]
theorem lg_nodup : (LG.map wd).Nodup := by decide +kernel
/-- a word more -/
theorem put_take {i : Nat} {s : D} (h : LG[i]? = some s) : putD (kvOf (LG.take i)) (.inr (wd s)) s = kvOf (LG.take (i + 1)) := by
  have lt := (List.getElem?_eq_some_iff.mp h).1
  have e : LG.take (i + 1) = LG.take i ++ [s] := by rw [List.take_succ, h]; rfl
  have nd := lg_nodup
  rw [show LG = LG.take (i + 1) ++ LG.drop (i + 1) from (List.take_append_drop _ _).symm, e, List.map_append, List.map_append] at nd
  have nd2 := (List.nodup_append.mp nd).1
  rw [List.nodup_append] at nd2
  rw [putD_new, e]
  · simp [kvOf]
  · intro z
    obtain ⟨kv, m, e2⟩ := List.mem_map.mp z
    obtain ⟨s', hs, rfl⟩ := List.mem_map.mp m
    exact nd2.2.2 _ (List.mem_map_of_mem hs) _ (by simp) (Sum.inr.inj e2)
theorem take_len (i : Nat) : (kvOf (LG.take i)).length < LIM := by
  have : (kvOf (LG.take i)).length ≤ 24 := by
    unfold kvOf
    rw [List.length_map, List.length_take]
    have : LG.length = 24 := rfl
    omega
  simp only [LIM]; omega
/-- a loop that puts a word for each item -/
theorem fill {fs : FEnv} {body : IB} {E : DEnds} {n j base : Nat} {ds : List D} {chk : Sto → Prop} {ρf : Option D → En} {S1 : Sto} (sg : Nat → D) (hj : ∀ x d, (ρf x).set j (some d) = ρf (some d)) (hc : ∀ S', ExtB n S1 S' → chk S') (hs : ∀ i, i < ds.length → LG[base + i]? = some (sg i))
    (hb : ∀ i d (E' : DEnds) S' kvs, ds[i]? = some d → S'[n]? = some (.dk kvs) → kvs.length < LIM → E'.nx (ρf (some d)) (S'.set n (.dk (putD kvs (.inr (wd (sg i))) (sg i)))) → wB fs body E' (ρf (some d)) S')
    (hE : ∀ x S', ExtB n S1 S' → S'[n]? = some (.dk (kvOf (LG.take (base + ds.length)))) → E.nx (ρf x) S') (x : Option D) (h1 : S1[n]? = some (.dk (kvOf (LG.take base)))) :
    fLoop chk (fun d ρ' S' k => DW.wG fs (.name j) d ρ' S' noX k) (fun E' ρ' S' => wB fs body E' ρ' S') E ds (ρf x) S1 := by
  refine fLoop_gen (J := fun r ρ S' => ∃ i x, i ≤ ds.length ∧ r = ds.drop i ∧ ρ = ρf x ∧ ExtB n S1 S' ∧ S'[n]? = some (.dk (kvOf (LG.take (base + i))))) ?_ ?_ ?_ _ _ _ ⟨0, x, Nat.zero_le _, rfl, rfl, ExtB.refl _ _, h1⟩
  · rintro r ρ S' ⟨i, x, _, _, _, e, _⟩
    exact hc S' e
  · rintro ρ S' ⟨i, x, hi, e, rfl, e1, e2⟩
    have := List.drop_eq_nil_iff.mp e.symm
    obtain rfl : i = ds.length := by omega
    exact hE x S' e1 e2
  · rintro d r ρ S' N ⟨i, x, hi, e, rfl, e1, e2⟩ hN
    have lt : i < ds.length := by
      have := congrArg List.length e
      simp only [List.length_cons, List.length_drop] at this
      omega
    rw [List.drop_eq_getElem_cons lt] at e
    obtain ⟨q1, q2⟩ := List.cons.inj e
    have g : ds[i]? = some d := by rw [List.getElem?_eq_getElem lt, q1]
    simp only [DW.wG, hj]
    refine hb i d _ S' _ g e2 (take_len _) (hN _ _ ⟨i + 1, some d, lt, q2, rfl, e1.trans (ExtB.set n S' _), ?_⟩)
    rw [put_take (hs i lt)]
    exact sto_set e2
abbrev wds4 : List D := [sD "all", sD "some", sD "no", sD "allnot"]
theorem words_b4 {fs : FEnv} {E : DEnds} {n : Nat} {r : List (Option D)} {S1 : Sto} {w : Str} {kvs : List (L2.Key × D)} (h : S1[n]? = some (.dk kvs)) (hl : kvs.length < LIM) (hE : E.nx [some (.ref n), some (.str w), none, none, none, none] (S1.set n (.dk (putD kvs (.inr w) (.str w))))) : wB fs ir__law_words_b4 E [some (.ref n), some (.str w), none, none, none, none] S1 := by
  simp only [DW.wG, DW.wGs, gsLen, List.set_cons_succ, List.set_cons_zero, wB, wS, DW.wT, DW.wTs, DW.wE, DW.wA, DW.wO, DW.wI, List.getElem?_cons_succ, List.getElem?_cons_zero, cmp_eq, cmp_ne, cmp_in, cmp_nin, inA_tup, inA_ktup, op_shl', op_shr', op_and', op_or', op_xor', is_bl, isn_bl, iter_ktup, cmp_lt, cmp_le, cmp_gt, cmp_ge, tru_non, tru_bl, tru_int, tru_tup, op_addi, op_subi, op_muli, op_divi, op_modi, op_powi, op_addt, op_rept, len_tup, len_rol, idx_tup, idx_rol, slc_tup, iter_tup, iter_rol, eqc_int, LIM, Nat.reduceLeDiff, dBlt, dInt1, defEnds, startD, List.map_cons, List.map_nil, List.length_cons, List.length_nil, List.replicate_succ, List.replicate_zero, List.cons_append, List.nil_append, Nat.reduceAdd, Nat.reduceSub, Nat.zero_add, and_true, true_and, if_true, Bool.false_eq_true, if_false, ir__law_words_b4]
  rw [set_dk h]
  exact ⟨hl, hE⟩
theorem words_b2 {fs : FEnv} {E : DEnds} {n : Nat} {S1 : Sto} {w f s : String} {x5 x6 : Option D} {kvs : List (L2.Key × D)} (hw : (Str.ofString w).length ≤ 10) (hf : (Str.ofString f).length ≤ 10) (hs : (Str.ofString s).length ≤ 10) (h : S1[n]? = some (.dk kvs)) (hl : kvs.length < LIM)
    (hE : E.nx [some (.ref n), some (sD w), some (sD f), some (sD s), x5, x6] (S1.set n (.dk (putD kvs (.inr (wd (.tup [sD w, sD f, sD s]))) (.tup [sD w, sD f, sD s]))))) : wB fs ir__law_words_b2 E [some (.ref n), some (sD w), some (sD f), some (sD s), x5, x6] S1 := by
  have h1 : ("-" : Str).length = 1 := by decide +kernel
  simp only [DW.wG, DW.wGs, gsLen, List.set_cons_succ, List.set_cons_zero, wB, wS, DW.wT, DW.wTs, DW.wE, DW.wA, DW.wO, DW.wI, List.getElem?_cons_succ, List.getElem?_cons_zero, cmp_eq, cmp_ne, cmp_in, cmp_nin, inA_tup, inA_ktup, op_shl', op_shr', op_and', op_or', op_xor', is_bl, isn_bl, iter_ktup, cmp_lt, cmp_le, cmp_gt, cmp_ge, tru_non, tru_bl, tru_int, tru_tup, op_addi, op_subi, op_muli, op_divi, op_modi, op_powi, op_addt, op_rept, len_tup, len_rol, idx_tup, idx_rol, slc_tup, iter_tup, iter_rol, eqc_int, LIM, Nat.reduceLeDiff, dBlt, dInt1, defEnds, startD, List.map_cons, List.map_nil, List.length_cons, List.length_nil, List.replicate_succ, List.replicate_zero, List.cons_append, List.nil_append, Nat.reduceAdd, Nat.reduceSub, Nat.zero_add, and_true, true_and, if_true, Bool.false_eq_true, if_false, ir__law_words_b2, dOp]
  refine ⟨by simp only [PySem.Str.length_append, h1, LIM]; omega, by simp only [PySem.Str.length_append, h1, LIM]; omega, by simp only [PySem.Str.length_append, h1, LIM]; omega, by simp only [PySem.Str.length_append, h1, LIM]; omega, ?_⟩
  rw [set_dk h]
  exact ⟨hl, hE⟩
theorem words_b0 {fs : FEnv} {E : DEnds} {n : Nat} {S1 : Sto} {i : Int} {s : String} {x1 x2 x3 : Option D} {kvs : List (L2.Key × D)} (hi : 1 ≤ i ∧ i ≤ 3) (hs : (Str.ofString s).length ≤ 10) (h : S1[n]? = some (.dk kvs)) (hl : kvs.length < LIM)
    (hE : E.nx [some (.ref n), x1, x2, x3, some (.int i), some (sD s)] (S1.set n (.dk (putD kvs (.inr (wd (.tup [sD "has", .int i, sD s]))) (.tup [sD "has", .int i, sD s]))))) : wB fs ir__law_words_b0 E [some (.ref n), x1, x2, x3, some (.int i), some (sD s)] S1 := by
  have h1 : ("-" : Str).length = 1 := by decide +kernel
  have h4 : ("has-" : Str).length = 4 := by decide +kernel
  have hd : ("has-" : Str) = Str.ofString "has" ++ ("-" : Str) := by decide +kernel
  have h2 : (Str.ofString (toString i)).length ≤ 10 := by
    have : i = 1 ∨ i = 2 ∨ i = 3 := by omega
    rcases this with rfl | rfl | rfl <;> decide +kernel
  simp only [DW.wG, DW.wGs, gsLen, List.set_cons_succ, List.set_cons_zero, wB, wS, DW.wT, DW.wTs, DW.wE, DW.wA, DW.wO, DW.wI, List.getElem?_cons_succ, List.getElem?_cons_zero, cmp_eq, cmp_ne, cmp_in, cmp_nin, inA_tup, inA_ktup, op_shl', op_shr', op_and', op_or', op_xor', is_bl, isn_bl, iter_ktup, cmp_lt, cmp_le, cmp_gt, cmp_ge, tru_non, tru_bl, tru_int, tru_tup, op_addi, op_subi, op_muli, op_divi, op_modi, op_powi, op_addt, op_rept, len_tup, len_rol, idx_tup, idx_rol, slc_tup, iter_tup, iter_rol, eqc_int, LIM, Nat.reduceLeDiff, dBlt, dInt1, defEnds, startD, List.map_cons, List.map_nil, List.length_cons, List.length_nil, List.replicate_succ, List.replicate_zero, List.cons_append, List.nil_append, Nat.reduceAdd, Nat.reduceSub, Nat.zero_add, and_true, true_and, if_true, Bool.false_eq_true, if_false, ir__law_words_b0, dOp, dStr]
  refine ⟨by have : i = 1 ∨ i = 2 ∨ i = 3 := by omega
             rcases this with rfl | rfl | rfl <;> decide, by simp only [PySem.Str.length_append, h1, h4, LIM]; omega, by simp only [PySem.Str.length_append, h1, h4, LIM]; omega, by simp only [PySem.Str.length_append, h1, h4, LIM]; omega, ?_⟩
  rw [set_dk h, hd]
  exact ⟨hl, hE⟩

abbrev tlB : IB → IB
  | .cons _ r => r
  | .nil => .nil
theorem ext_of {S S1 S' : Sto} {n : Nat} (h : Ext S S1) (hn : S.length ≤ n) (e : ExtB n S1 S') : Ext S S' := fun i o q => by
  have lt := (List.getElem?_eq_some_iff.mp q).1
  exact e.2 i o (by omega) (h i o q)
/-- three marks of a count -/
theorem words_b1 {fs : FEnv} {E : DEnds} {n b : Nat} {S1 : Sto} {i : Int} {x1 x2 x3 x5 : Option D} (hi : 1 ≤ i ∧ i ≤ 3) (hs : ∀ (j : Nat) (s : String), ["a", "b", "both"][j]? = some s → LG[b + j]? = some (.tup [sD "has", .int i, sD s])) (hn : n < S1.length) (h : S1[n]? = some (.dk (kvOf (LG.take b))))
    (hE : ∀ x5 S', ExtB n S1 S' → S'[n]? = some (.dk (kvOf (LG.take (b + 3)))) → E.nx [some (.ref n), x1, x2, x3, some (.int i), x5] S') : wB fs ir__law_words_b1 E [some (.ref n), x1, x2, x3, some (.int i), x5] S1 := by
  simp only [DW.wG, DW.wGs, gsLen, List.set_cons_succ, List.set_cons_zero, wB, wS, DW.wT, DW.wTs, DW.wE, DW.wA, DW.wO, DW.wI, List.getElem?_cons_succ, List.getElem?_cons_zero, cmp_eq, cmp_ne, cmp_in, cmp_nin, inA_tup, inA_ktup, op_shl', op_shr', op_and', op_or', op_xor', is_bl, isn_bl, iter_ktup, cmp_lt, cmp_le, cmp_gt, cmp_ge, tru_non, tru_bl, tru_int, tru_tup, op_addi, op_subi, op_muli, op_divi, op_modi, op_powi, op_addt, op_rept, len_tup, len_rol, idx_tup, idx_rol, slc_tup, iter_tup, iter_rol, eqc_int, LIM, Nat.reduceLeDiff, dBlt, dInt1, defEnds, startD, List.map_cons, List.map_nil, List.length_cons, List.length_nil, List.replicate_succ, List.replicate_zero, List.cons_append, List.nil_append, Nat.reduceAdd, Nat.reduceSub, Nat.zero_add, and_true, true_and, if_true, Bool.false_eq_true, if_false, ir__law_words_b1]
  have e1 := ExtB.app n S1 [Ob.lst [sD "a", sD "b", sD "both"]]
  rw [iter_ref (sto_last S1 _)]
  refine fill (ds := [sD "a", sD "b", sD "both"]) (base := b) (ρf := fun x => [some (.ref n), x1, x2, x3, some (.int i), x]) (fun j => .tup [sD "has", .int i, [sD "a", sD "b", sD "both"].getD j .non]) (fun x d => rfl) (fun S' e => e.2 _ _ (by omega) (sto_last S1 _)) (fun j hj => ?_) (fun j d E' S' kvs hd h1 h2 h3 => ?_) (fun x S' e q => hE x S' (e1.trans e) q) x5 ((Ext.app S1 _) _ _ h)
  · match j, hj with
    | 0, _ => exact hs 0 "a" rfl
    | 1, _ => exact hs 1 "b" rfl
    | 2, _ => exact hs 2 "both" rfl
    | k + 3, h => exact absurd h (by simp)
  · match j, hd with
    | 0, hd => cases hd; exact words_b0 hi (by decide +kernel) h1 h2 h3
    | 1, hd => cases hd; exact words_b0 hi (by decide +kernel) h1 h2 h3
    | 2, hd => cases hd; exact words_b0 hi (by decide +kernel) h1 h2 h3
    | k + 3, hd => exact absurd hd (by simp)
/-- four words of a pair -/
theorem words_b3 {fs : FEnv} {E : DEnds} {n b : Nat} {S1 : Sto} {f s : String} {x1 x5 x6 : Option D} (hf : (Str.ofString f).length ≤ 10) (hs' : (Str.ofString s).length ≤ 10) (hs : ∀ (j : Nat) (w : String), ["all", "some", "no", "allnot"][j]? = some w → LG[b + j]? = some (.tup [sD w, sD f, sD s])) (hn : n < S1.length) (h : S1[n]? = some (.dk (kvOf (LG.take b))))
    (hE : ∀ x1 S', ExtB n S1 S' → S'[n]? = some (.dk (kvOf (LG.take (b + 4)))) → E.nx [some (.ref n), x1, some (sD f), some (sD s), x5, x6] S') : wB fs ir__law_words_b3 E [some (.ref n), x1, some (sD f), some (sD s), x5, x6] S1 := by
  simp only [DW.wG, DW.wGs, gsLen, List.set_cons_succ, List.set_cons_zero, wB, wS, DW.wT, DW.wTs, DW.wE, DW.wA, DW.wO, DW.wI, List.getElem?_cons_succ, List.getElem?_cons_zero, cmp_eq, cmp_ne, cmp_in, cmp_nin, inA_tup, inA_ktup, op_shl', op_shr', op_and', op_or', op_xor', is_bl, isn_bl, iter_ktup, cmp_lt, cmp_le, cmp_gt, cmp_ge, tru_non, tru_bl, tru_int, tru_tup, op_addi, op_subi, op_muli, op_divi, op_modi, op_powi, op_addt, op_rept, len_tup, len_rol, idx_tup, idx_rol, slc_tup, iter_tup, iter_rol, eqc_int, LIM, Nat.reduceLeDiff, dBlt, dInt1, defEnds, startD, List.map_cons, List.map_nil, List.length_cons, List.length_nil, List.replicate_succ, List.replicate_zero, List.cons_append, List.nil_append, Nat.reduceAdd, Nat.reduceSub, Nat.zero_add, and_true, true_and, if_true, Bool.false_eq_true, if_false, ir__law_words_b3]
  have e1 := ExtB.app n S1 [Ob.lst wds4]
  rw [iter_ref (sto_last S1 _)]
  refine fill (ds := wds4) (base := b) (ρf := fun x => [some (.ref n), x, some (sD f), some (sD s), x5, x6]) (fun j => .tup [wds4.getD j .non, sD f, sD s]) (fun x d => rfl) (fun S' e => e.2 _ _ (by omega) (sto_last S1 _)) (fun j hj => ?_) (fun j d E' S' kvs hd h1 h2 h3 => ?_) (fun x S' e q => hE x S' (e1.trans e) q) x1 ((Ext.app S1 _) _ _ h)
  · match j, hj with
    | 0, _ => exact hs 0 "all" rfl
    | 1, _ => exact hs 1 "some" rfl
    | 2, _ => exact hs 2 "no" rfl
    | 3, _ => exact hs 3 "allnot" rfl
    | k + 4, h => exact absurd h (by simp)
  · match j, hd with
    | 0, hd => cases hd; exact words_b2 (by decide +kernel) hf hs' h1 h2 h3
    | 1, hd => cases hd; exact words_b2 (by decide +kernel) hf hs' h1 h2 h3
    | 2, hd => cases hd; exact words_b2 (by decide +kernel) hf hs' h1 h2 h3
    | 3, hd => cases hd; exact words_b2 (by decide +kernel) hf hs' h1 h2 h3
    | k + 4, hd => exact absurd hd (by simp)
theorem ob__law_words {fs : FEnv} (n : Nat) (ds : List D) (S : Sto) (Q : KQ) (X : KX) (h : lv (n + 1) 2 spWords ds S Q X) : wB fs ir__law_words (defEnds Q X) (startD C__law_words.N ds) S := by
  obtain ⟨hl, rfl, q⟩ := h
  simp only [DW.wG, DW.wGs, gsLen, List.set_cons_succ, List.set_cons_zero, wB, wS, DW.wT, DW.wTs, DW.wE, DW.wA, DW.wO, DW.wI, List.getElem?_cons_succ, List.getElem?_cons_zero, cmp_eq, cmp_ne, cmp_in, cmp_nin, inA_tup, inA_ktup, op_shl', op_shr', op_and', op_or', op_xor', is_bl, isn_bl, iter_ktup, cmp_lt, cmp_le, cmp_gt, cmp_ge, tru_non, tru_bl, tru_int, tru_tup, op_addi, op_subi, op_muli, op_divi, op_modi, op_powi, op_addt, op_rept, len_tup, len_rol, idx_tup, idx_rol, slc_tup, iter_tup, iter_rol, eqc_int, LIM, Nat.reduceLeDiff, dBlt, dInt1, defEnds, startD, List.map_cons, List.map_nil, List.length_cons, List.length_nil, List.replicate_succ, List.replicate_zero, List.cons_append, List.nil_append, Nat.reduceAdd, Nat.reduceSub, Nat.zero_add, and_true, true_and, if_true, Bool.false_eq_true, if_false, ir__law_words]
  have n1 : (S ++ [Ob.dk []])[S.length]? = some (.dk []) := sto_last S _
  have n0 : S.length < (S ++ [Ob.dk []]).length := by simp
  have e0 : Ext S (S ++ [Ob.dk []]) := Ext.app S _
  generalize S ++ [Ob.dk []] = S1 at n1 n0 e0
  generalize hN : S.length = n' at n1 n0
  have nl : S.length ≤ n' := Nat.le_of_eq hN
  -- seven words
  rw [iter_ref (sto_last S1 _)]
  have e1 := ExtB.app n' S1 [Ob.lst [sD "and", sD "or", sD "unless", sD "onlyif", sD "not", sD "(", sD ")"]]
  refine fill (ds := [sD "and", sD "or", sD "unless", sD "onlyif", sD "not", sD "(", sD ")"]) (base := 0) (ρf := fun x => [some (.ref n'), x, none, none, none, none]) (fun j => [sD "and", sD "or", sD "unless", sD "onlyif", sD "not", sD "(", sD ")"].getD j .non) (fun x d => rfl) (fun S' e => e.2 _ _ (by omega) (sto_last S1 _)) (fun j hj => ?_) (fun j d E' S' kvs hd h1 h2 h3 => ?_) (fun x S2 e2 q2 => ?_) none ((Ext.app S1 _) _ _ n1)
  · match j, hj with
    | 0, _ => rfl
    | 1, _ => rfl
    | 2, _ => rfl
    | 3, _ => rfl
    | 4, _ => rfl
    | 5, _ => rfl
    | 6, _ => rfl
    | k + 7, h => exact absurd h (by simp)
  · match j, hd with
    | 0, hd => cases hd; exact words_b4 (r := []) h1 h2 h3
    | 1, hd => cases hd; exact words_b4 (r := []) h1 h2 h3
    | 2, hd => cases hd; exact words_b4 (r := []) h1 h2 h3
    | 3, hd => cases hd; exact words_b4 (r := []) h1 h2 h3
    | 4, hd => cases hd; exact words_b4 (r := []) h1 h2 h3
    | 5, hd => cases hd; exact words_b4 (r := []) h1 h2 h3
    | 6, hd => cases hd; exact words_b4 (r := []) h1 h2 h3
    | k + 7, hd => exact absurd hd (by simp)
  -- two pairs
  have E2 := e1.trans e2
  have n2 : n' < S2.length := Nat.lt_of_lt_of_le n0 E2.1
  simp only [DW.wG, DW.wGs, gsLen, List.set_cons_succ, List.set_cons_zero, wB, wS, DW.wT, DW.wTs, DW.wE, DW.wA, DW.wO, DW.wI, List.getElem?_cons_succ, List.getElem?_cons_zero, cmp_eq, cmp_ne, cmp_in, cmp_nin, inA_tup, inA_ktup, op_shl', op_shr', op_and', op_or', op_xor', is_bl, isn_bl, iter_ktup, cmp_lt, cmp_le, cmp_gt, cmp_ge, tru_non, tru_bl, tru_int, tru_tup, op_addi, op_subi, op_muli, op_divi, op_modi, op_powi, op_addt, op_rept, len_tup, len_rol, idx_tup, idx_rol, slc_tup, iter_tup, iter_rol, eqc_int, LIM, Nat.reduceLeDiff, dBlt, dInt1, defEnds, startD, List.map_cons, List.map_nil, List.length_cons, List.length_nil, List.replicate_succ, List.replicate_zero, List.cons_append, List.nil_append, Nat.reduceAdd, Nat.reduceSub, Nat.zero_add, and_true, true_and, if_true, Bool.false_eq_true, if_false]
  have e3 := ExtB.app n' S2 [Ob.lst [D.tup [sD "a", sD "b"], D.tup [sD "b", sD "a"]]]
  have c3 := sto_last S2 (Ob.lst [D.tup [sD "a", sD "b"], D.tup [sD "b", sD "a"]])
  have q3 := (Ext.app S2 [Ob.lst [D.tup [sD "a", sD "b"], D.tup [sD "b", sD "a"]]]) _ _ q2
  have n3 : n' < (S2 ++ [Ob.lst [D.tup [sD "a", sD "b"], D.tup [sD "b", sD "a"]]]).length := Nat.lt_of_lt_of_le n2 e3.1
  rw [iter_ref c3]
  have m3 : S2.length ≠ n' := by omega
  generalize S2 ++ [Ob.lst [D.tup [sD "a", sD "b"], D.tup [sD "b", sD "a"]]] = S3 at e3 c3 q3 n3
  refine ⟨c3, ?_⟩
  refine ⟨rfl, rfl, ?_⟩
  show wB fs ir__law_words_b3 _ [some (.ref n'), x, some (sD "a"), some (sD "b"), none, none] S3
  refine words_b3 (b := 7) (by decide +kernel) (by decide +kernel) (fun j w hw => ?_) n3 q3 fun x1 S4 e4 q4 => ?_
  · match j, hw with
    | 0, hw => cases hw; rfl
    | 1, hw => cases hw; rfl
    | 2, hw => cases hw; rfl
    | 3, hw => cases hw; rfl
    | k + 4, hw => exact absurd hw (by simp)
  have n4 : n' < S4.length := Nat.lt_of_lt_of_le n3 e4.1
  refine ⟨e4.2 _ _ m3 c3, ?_⟩
  refine ⟨rfl, rfl, ?_⟩
  show wB fs ir__law_words_b3 _ [some (.ref n'), x1, some (sD "b"), some (sD "a"), none, none] S4
  refine words_b3 (b := 11) (by decide +kernel) (by decide +kernel) (fun j w hw => ?_) n4 q4 fun x2 S5 e5 q5 => ?_
  · match j, hw with
    | 0, hw => cases hw; rfl
    | 1, hw => cases hw; rfl
    | 2, hw => cases hw; rfl
    | 3, hw => cases hw; rfl
    | k + 4, hw => exact absurd hw (by simp)
  have n5 : n' < S5.length := Nat.lt_of_lt_of_le n4 e5.1
  refine ⟨(e4.trans e5).2 _ _ m3 c3, ?_⟩
  -- three counts
  simp only [DW.wG, DW.wGs, gsLen, List.set_cons_succ, List.set_cons_zero, wB, wS, DW.wT, DW.wTs, DW.wE, DW.wA, DW.wO, DW.wI, List.getElem?_cons_succ, List.getElem?_cons_zero, cmp_eq, cmp_ne, cmp_in, cmp_nin, inA_tup, inA_ktup, op_shl', op_shr', op_and', op_or', op_xor', is_bl, isn_bl, iter_ktup, cmp_lt, cmp_le, cmp_gt, cmp_ge, tru_non, tru_bl, tru_int, tru_tup, op_addi, op_subi, op_muli, op_divi, op_modi, op_powi, op_addt, op_rept, len_tup, len_rol, idx_tup, idx_rol, slc_tup, iter_tup, iter_rol, eqc_int, LIM, Nat.reduceLeDiff, dBlt, dInt1, defEnds, startD, List.map_cons, List.map_nil, List.length_cons, List.length_nil, List.replicate_succ, List.replicate_zero, List.cons_append, List.nil_append, Nat.reduceAdd, Nat.reduceSub, Nat.zero_add, and_true, true_and, if_true, Bool.false_eq_true, if_false]
  refine ⟨trivial, ?_⟩
  show wB fs ir__law_words_b1 _ [some (.ref n'), x2, some (sD "b"), some (sD "a"), some (.int 1), none] S5
  refine words_b1 (b := 15) ⟨by decide, by decide⟩ (fun j w hw => ?_) n5 q5 fun x3 S6 e6 q6 => ?_
  · match j, hw with
    | 0, hw => cases hw; rfl
    | 1, hw => cases hw; rfl
    | 2, hw => cases hw; rfl
    | k + 3, hw => exact absurd hw (by simp)
  have n6 : n' < S6.length := Nat.lt_of_lt_of_le n5 e6.1
  refine ⟨trivial, ?_⟩
  show wB fs ir__law_words_b1 _ [some (.ref n'), x2, some (sD "b"), some (sD "a"), some (.int 2), x3] S6
  refine words_b1 (b := 18) ⟨by decide, by decide⟩ (fun j w hw => ?_) n6 q6 fun x4 S7 e7 q7 => ?_
  · match j, hw with
    | 0, hw => cases hw; rfl
    | 1, hw => cases hw; rfl
    | 2, hw => cases hw; rfl
    | k + 3, hw => exact absurd hw (by simp)
  have n7 : n' < S7.length := Nat.lt_of_lt_of_le n6 e7.1
  refine ⟨trivial, ?_⟩
  show wB fs ir__law_words_b1 _ [some (.ref n'), x2, some (sD "b"), some (sD "a"), some (.int 3), x4] S7
  refine words_b1 (b := 21) ⟨by decide, by decide⟩ (fun j w hw => ?_) n7 q7 fun x5 S8 e8 q8 => ?_
  · match j, hw with
    | 0, hw => cases hw; rfl
    | 1, hw => cases hw; rfl
    | 2, hw => cases hw; rfl
    | k + 3, hw => exact absurd hw (by simp)
  refine ⟨trivial, ?_⟩
  simp only [DW.wG, DW.wGs, gsLen, List.set_cons_succ, List.set_cons_zero, wB, wS, DW.wT, DW.wTs, DW.wE, DW.wA, DW.wO, DW.wI, List.getElem?_cons_succ, List.getElem?_cons_zero, cmp_eq, cmp_ne, cmp_in, cmp_nin, inA_tup, inA_ktup, op_shl', op_shr', op_and', op_or', op_xor', is_bl, isn_bl, iter_ktup, cmp_lt, cmp_le, cmp_gt, cmp_ge, tru_non, tru_bl, tru_int, tru_tup, op_addi, op_subi, op_muli, op_divi, op_modi, op_powi, op_addt, op_rept, len_tup, len_rol, idx_tup, idx_rol, slc_tup, iter_tup, iter_rol, eqc_int, LIM, Nat.reduceLeDiff, dBlt, dInt1, defEnds, startD, List.map_cons, List.map_nil, List.length_cons, List.length_nil, List.replicate_succ, List.replicate_zero, List.cons_append, List.nil_append, Nat.reduceAdd, Nat.reduceSub, Nat.zero_add, and_true, true_and, if_true, Bool.false_eq_true, if_false]
  exact q S8 n' (ext_of e0 nl (((((E2.trans e3).trans e4).trans e5).trans e6).trans (e7.trans e8))) nl q8
end K08

set_option Elab.async false
set_option linter.all false
set_option maxRecDepth 100000
set_option maxHeartbeats 1000000

namespace K08
open PySem PySem.Spec PyProof.Rows L2 DW KP KS

theorem enum_get {xs : List D} {i : Nat} {d : D} (h : (enumD xs)[i]? = some d) : ∃ x, xs[i]? = some x ∧ d = .tup [.int (i : Nat), x] := by
  unfold enumD at h
  rw [List.getElem?_mapIdx, Option.map_eq_some_iff] at h
  obtain ⟨x, e, rfl⟩ := h
  exact ⟨x, e, rfl⟩
theorem due_loop {fs : FEnv} {E : DEnds} {S : Sto} {v : Option D} {k m : Nat} {ws : List Str} (hk : Tab S k) (hm : S[m]? = some (.lst (ws.map D.str)))
    (hE : okW ws = ws.length → ∀ x3 x4, E.nx [v, some (.ref k), some (.ref m), x3, x4, none] S) (hX : okW ws < ws.length → E.rt (.int ((okW ws : Nat) + 1 : Int)) S) :
    fLoop (fun S' => S'[m]? = some (.lst (ws.map D.str))) (fun d ρ' S' k => DW.wG fs (.tup (.cons (.name 3) (.cons (.name 4) .nil))) d ρ' S' noX k) (fun E' ρ' S' => wB fs ir__law_due_b0 E' ρ' S') E (enumD (ws.map D.str)) [v, some (.ref k), some (.ref m), none, none, none] S := by
  refine fLoop_gen (J := fun r ρ S' => S' = S ∧ ∃ i x3 x4, i ≤ okW ws ∧ r = (enumD (ws.map D.str)).drop i ∧ ρ = [v, some (.ref k), some (.ref m), x3, x4, none]) ?_ ?_ ?_ _ _ S ⟨rfl, 0, none, none, Nat.zero_le _, rfl, rfl⟩
  · rintro r ρ S' ⟨rfl, _⟩
    exact hm
  · rintro ρ S' ⟨rfl, i, x3, x4, hi, e, rfl⟩
    have e := (List.drop_eq_nil_iff).mp e.symm
    have el : (enumD (ws.map D.str)).length = ws.length := by simp [enumD]
    have := okW_le ws
    exact hE (by omega) x3 x4
  · rintro d r ρ S' N ⟨rfl, i, x3, x4, hi, e, rfl⟩ hN
    have lt : i < (enumD (ws.map D.str)).length := by
      have := congrArg List.length e
      simp only [List.length_cons, List.length_drop] at this
      omega
    rw [List.drop_eq_getElem_cons lt] at e
    obtain ⟨e1, e2⟩ := List.cons.inj e
    have g : (enumD (ws.map D.str))[i]? = some d := by rw [List.getElem?_eq_getElem lt, e1]
    obtain ⟨x, gx, rfl⟩ := enum_get g
    rw [List.getElem?_map, Option.map_eq_some_iff] at gx
    obtain ⟨w, gw, rfl⟩ := gx
    simp only [DW.wG, DW.wGs, gsLen, List.set_cons_succ, List.set_cons_zero, wB, wS, DW.wT, DW.wTs, DW.wE, DW.wA, DW.wO, DW.wI, List.getElem?_cons_succ, List.getElem?_cons_zero, cmp_eq, cmp_ne, cmp_in, cmp_nin, inA_tup, inA_ktup, op_shl', op_shr', op_and', op_or', op_xor', is_bl, isn_bl, iter_ktup, cmp_lt, cmp_le, cmp_gt, cmp_ge, tru_non, tru_bl, tru_int, tru_tup, op_addi, op_subi, op_muli, op_divi, op_modi, op_powi, op_addt, op_rept, len_tup, len_rol, idx_tup, idx_rol, slc_tup, iter_tup, iter_rol, eqc_int, LIM, Nat.reduceLeDiff, dBlt, dInt1, defEnds, startD, List.map_cons, List.map_nil, List.length_cons, List.length_nil, List.replicate_succ, List.replicate_zero, List.cons_append, List.nil_append, Nat.reduceAdd, Nat.reduceSub, Nat.zero_add, and_true, true_and, if_true, Bool.false_eq_true, if_false, ir__law_due_b0]
    refine hk.nin ?_
    by_cases hlt : i < okW ws
    · simp only [okW_lt hlt gw, Bool.not_true, Bool.false_eq_true, if_false]
      exact hN _ _ ⟨rfl, i + 1, _, _, hlt, e2, rfl⟩
    · obtain rfl : i = okW ws := by omega
      have q := okW_at gw
      simp only [q, Option.isSome_none, Bool.not_false, if_true]
      exact hX (List.getElem?_eq_some_iff.mp gw).1
theorem ob__law_due {fs : FEnv} (n : Nat) (f1 : fs.f "is_notice" = some (lv n 5 spIsNotice)) (ds : List D) (S : Sto) (Q : KQ) (X : KX) (h : lv (n + 1) 6 spDue ds S Q X) : wB fs ir__law_due (defEnds Q X) (startD C__law_due.N ds) S := by
  obtain ⟨hl, t, k, rfl, ht, tab, q⟩ := h
  simp only [DW.wG, DW.wGs, gsLen, List.set_cons_succ, List.set_cons_zero, wB, wS, DW.wT, DW.wTs, DW.wE, DW.wA, DW.wO, DW.wI, List.getElem?_cons_succ, List.getElem?_cons_zero, cmp_eq, cmp_ne, cmp_in, cmp_nin, inA_tup, inA_ktup, op_shl', op_shr', op_and', op_or', op_xor', is_bl, isn_bl, iter_ktup, cmp_lt, cmp_le, cmp_gt, cmp_ge, tru_non, tru_bl, tru_int, tru_tup, op_addi, op_subi, op_muli, op_divi, op_modi, op_powi, op_addt, op_rept, len_tup, len_rol, idx_tup, idx_rol, slc_tup, iter_tup, iter_rol, eqc_int, LIM, Nat.reduceLeDiff, dBlt, dInt1, defEnds, startD, List.map_cons, List.map_nil, List.length_cons, List.length_nil, List.replicate_succ, List.replicate_zero, List.cons_append, List.nil_append, Nat.reduceAdd, Nat.reduceSub, Nat.zero_add, and_true, true_and, if_true, Bool.false_eq_true, if_false, ir__law_due]
  have sp := KS.split_len t
  refine ⟨trivial, spl_step ht ?_⟩
  generalize hws : Txt.split t sp1 = ws at sp
  have e2 := Ext.app S [Ob.lst (ws.map D.str)]
  have tab2 := tab.ext e2
  have hw := sto_last S (Ob.lst (ws.map D.str))
  generalize S ++ [Ob.lst (ws.map D.str)] = S2 at e2 tab2 hw
  simp only [dLIter, hw]
  refine due_loop tab2 hw (fun hall x3 x4 => ?_) (fun hbad => ?_)
  · have hl := all_look hall
    simp only [DW.wG, DW.wGs, gsLen, List.set_cons_succ, List.set_cons_zero, wB, wS, DW.wT, DW.wTs, DW.wE, DW.wA, DW.wO, DW.wI, List.getElem?_cons_succ, List.getElem?_cons_zero, cmp_eq, cmp_ne, cmp_in, cmp_nin, inA_tup, inA_ktup, op_shl', op_shr', op_and', op_or', op_xor', is_bl, isn_bl, iter_ktup, cmp_lt, cmp_le, cmp_gt, cmp_ge, tru_non, tru_bl, tru_int, tru_tup, op_addi, op_subi, op_muli, op_divi, op_modi, op_powi, op_addt, op_rept, len_tup, len_rol, idx_tup, idx_rol, slc_tup, iter_tup, iter_rol, eqc_int, LIM, Nat.reduceLeDiff, dBlt, dInt1, defEnds, startD, List.map_cons, List.map_nil, List.length_cons, List.length_nil, List.replicate_succ, List.replicate_zero, List.cons_append, List.nil_append, Nat.reduceAdd, Nat.reduceSub, Nat.zero_add, and_true, true_and, if_true, Bool.false_eq_true, if_false]
    unfold ir__law_due_l0
    refine map_lcp lookD (xs := ws.map D.str) (by rw [List.length_map]; simp only [LIM]; omega) (it_ref hw fun k q => (by simp only [DW.wG, DW.wGs, gsLen, List.set_cons_succ, List.set_cons_zero, wB, wS, DW.wT, DW.wTs, DW.wE, DW.wA, DW.wO, DW.wI, List.getElem?_cons_succ, List.getElem?_cons_zero, cmp_eq, cmp_ne, cmp_in, cmp_nin, inA_tup, inA_ktup, op_shl', op_shr', op_and', op_or', op_xor', is_bl, isn_bl, iter_ktup, cmp_lt, cmp_le, cmp_gt, cmp_ge, tru_non, tru_bl, tru_int, tru_tup, op_addi, op_subi, op_muli, op_divi, op_modi, op_powi, op_addt, op_rept, len_tup, len_rol, idx_tup, idx_rol, slc_tup, iter_tup, iter_rol, eqc_int, LIM, Nat.reduceLeDiff, dBlt, dInt1, defEnds, startD, List.map_cons, List.map_nil, List.length_cons, List.length_nil, List.replicate_succ, List.replicate_zero, List.cons_append, List.nil_append, Nat.reduceAdd, Nat.reduceSub, Nat.zero_add, and_true, true_and, if_true, Bool.false_eq_true, if_false]; exact q)) (fun d hd S3 R e k => ?_) fun S3 m e3 _ h3 => ?_
    · obtain ⟨w, hw', rfl⟩ := List.mem_map.mp hd
      obtain ⟨d, ed⟩ := hl w hw'
      simp only [DW.wG, DW.wGs, gsLen, List.set_cons_succ, List.set_cons_zero, wB, wS, DW.wT, DW.wTs, DW.wE, DW.wA, DW.wO, DW.wI, List.getElem?_cons_succ, List.getElem?_cons_zero, cmp_eq, cmp_ne, cmp_in, cmp_nin, inA_tup, inA_ktup, op_shl', op_shr', op_and', op_or', op_xor', is_bl, isn_bl, iter_ktup, cmp_lt, cmp_le, cmp_gt, cmp_ge, tru_non, tru_bl, tru_int, tru_tup, op_addi, op_subi, op_muli, op_divi, op_modi, op_powi, op_addt, op_rept, len_tup, len_rol, idx_tup, idx_rol, slc_tup, iter_tup, iter_rol, eqc_int, LIM, Nat.reduceLeDiff, dBlt, dInt1, defEnds, startD, List.map_cons, List.map_nil, List.length_cons, List.length_nil, List.replicate_succ, List.replicate_zero, List.cons_append, List.nil_append, Nat.reduceAdd, Nat.reduceSub, Nat.zero_add, and_true, true_and, if_true, Bool.false_eq_true, if_false, wipeD]
      refine (tab2.ext e).idx ed ?_
      have := k S3 (Ext.refl S3)
      simp only [lookD, ed, Option.getD_some] at this
      exact this
    · rw [map_lookD hl] at h3
      simp only [dItems, items, h3, f1]
      generalize hds : ws.filterMap look = ds at h3
      have hm : ∀ d ∈ ds, d ∈ SG := fun d hd => look_parts d (by rw [hds]; exact hd)
      refine ⟨by omega, _, rfl, fit_signs hm, fun S4 e4 => ?_⟩
      have hE := (e2.trans e3).trans e4
      have q := q S4 hE
      unfold dueD at q
      rw [rd_all (by rw [hws]; exact hall), hws, hds] at q
      simp only [tru_bl]
      rcases bb (isNotice (.tup ds)) with h1 | h1
      · simp only [h1, if_true, true_and, Bool.false_eq_true, if_false, Bool.and_true, Bool.and_false, Bool.true_and, Bool.false_and, Bool.not_true, Bool.not_false, Bool.or_true, Bool.or_false, Bool.true_or, Bool.false_or] at q ⊢
        exact q
      · simp only [h1, if_true, true_and, Bool.false_eq_true, if_false, Bool.and_true, Bool.and_false, Bool.true_and, Bool.false_and, Bool.not_true, Bool.not_false, Bool.or_true, Bool.or_false, Bool.true_or, Bool.false_or] at q ⊢
        rw [len_ref ((e3.trans e4) _ _ hw), List.length_map]
        exact q
  · have q := q S2 e2
    unfold dueD at q
    rw [rd_int (by rw [hws]; exact hbad), hws] at q
    exact q
theorem ob__law_tried {fs : FEnv} (n : Nat) (f1 : fs.f "read_notice" = some (lv n 6 spRead)) (ds : List D) (S : Sto) (Q : KQ) (X : KX) (h : lv (n + 1) 7 spTried ds S Q X) : wB fs ir__law_tried (defEnds Q X) (startD C__law_tried.N ds) S := by
  obtain ⟨hl, d, rfl, hd, q⟩ := h
  simp only [DW.wG, DW.wGs, gsLen, List.set_cons_succ, List.set_cons_zero, wB, wS, DW.wT, DW.wTs, DW.wE, DW.wA, DW.wO, DW.wI, List.getElem?_cons_succ, List.getElem?_cons_zero, cmp_eq, cmp_ne, cmp_in, cmp_nin, inA_tup, inA_ktup, op_shl', op_shr', op_and', op_or', op_xor', is_bl, isn_bl, iter_ktup, cmp_lt, cmp_le, cmp_gt, cmp_ge, tru_non, tru_bl, tru_int, tru_tup, op_addi, op_subi, op_muli, op_divi, op_modi, op_powi, op_addt, op_rept, len_tup, len_rol, idx_tup, idx_rol, slc_tup, iter_tup, iter_rol, eqc_int, LIM, Nat.reduceLeDiff, dBlt, dInt1, defEnds, startD, List.map_cons, List.map_nil, List.length_cons, List.length_nil, List.replicate_succ, List.replicate_zero, List.cons_append, List.nil_append, Nat.reduceAdd, Nat.reduceSub, Nat.zero_add, and_true, true_and, if_true, Bool.false_eq_true, if_false, ir__law_tried, ir__law_tried_t0, f1, wH, xk]
  refine ⟨by omega, d, rfl, hd, fun S' e => ?_⟩
  have q := q S' e
  unfold dueD at q
  cases e1 : rd d with
  | inl v =>
    rw [e1] at q
    exact q
  | inr i =>
    rw [e1] at q
    simp only [if_true, List.length_cons, List.length_nil, DW.wG, DW.wGs, gsLen, List.set_cons_succ, List.set_cons_zero, wB, wS, DW.wT, DW.wTs, DW.wE, DW.wA, DW.wO, DW.wI, List.getElem?_cons_succ, List.getElem?_cons_zero, cmp_eq, cmp_ne, cmp_in, cmp_nin, inA_tup, inA_ktup, op_shl', op_shr', op_and', op_or', op_xor', is_bl, isn_bl, iter_ktup, cmp_lt, cmp_le, cmp_gt, cmp_ge, tru_non, tru_bl, tru_int, tru_tup, op_addi, op_subi, op_muli, op_divi, op_modi, op_powi, op_addt, op_rept, len_tup, len_rol, idx_tup, idx_rol, slc_tup, iter_tup, iter_rol, eqc_int, LIM, Nat.reduceLeDiff, dBlt, dInt1, defEnds, startD, List.map_cons, List.map_nil, List.length_cons, List.length_nil, List.replicate_succ, List.replicate_zero, List.cons_append, List.nil_append, Nat.reduceAdd, Nat.reduceSub, Nat.zero_add, and_true, true_and, if_true, Bool.false_eq_true, if_false]
    exact ⟨⟨by decide, by simp⟩, q⟩
end K08

set_option Elab.async false
set_option linter.all false
set_option maxRecDepth 100000
set_option maxHeartbeats 1000000

namespace K08
open PySem PySem.Spec PyProof.Rows L2 DW KP KS

theorem TabL.ext {S S' : Sto} {n : Nat} (h : TabL S n) (e : Ext S S') : TabL S' n := e _ _ h
theorem TabL.b {S S' : Sto} {n m : Nat} (h : TabL S n) (e : ExtB m S S') (hm : n ≠ m) : TabL S' n := e.2 _ _ hm h
theorem TabL.ne {S : Sto} {n m : Nat} (h : TabL S n) (hs : Src S m) : n ≠ m := fun z => by
  subst z
  obtain ⟨a, b, q, _⟩ := hs
  rw [h] at q
  cases q
theorem sort_tab {S : Sto} {k : Nat} {Q : KQ} (h : TabL S k) (q : ∀ ys : List Str, ys.Perm (LG.map wd) → Q (.ref S.length) (S ++ [.lst (ys.map D.str)])) : dSort (.ref k) S Q := by
  simp only [dSort]
  unfold TabL at h
  rw [h]
  exact ⟨LG.map wd, by unfold kvOf; rw [List.map_map, List.map_map]; rfl, by rw [List.length_map]; decide, q⟩
theorem len_tab {S : Sto} {k : Nat} {Q : KQ} (h : TabL S k) (q : Q (.int 24) S) : dLen (.ref k) S Q := by
  unfold TabL at h
  simp only [dLen, h]
  exact ⟨_, rfl, q⟩
/-- the texts in a list -/
def txts (S : Sto) (d : D) (ws : List Str) : Prop := ∃ n, d = .ref n ∧ S[n]? = some (.lst (ws.map D.str))
theorem cut_str (ws : List Str) (lo hi : Option Int) : DW.cutD (ws.map D.str) lo hi = (((ws.drop (HT.sIx ws.length 0 lo)).take (HT.sIx ws.length ws.length hi - HT.sIx ws.length 0 lo)).map D.str) := by
  unfold DW.cutD
  rw [List.length_map, ← List.map_drop, ← List.map_take]
theorem sum_drop (ws : List Str) (i : Nat) : ((ws.drop i).map (·.length)).sum ≤ (ws.map (·.length)).sum := by
  induction ws generalizing i with
  | nil => simp
  | cons w r ih =>
    cases i with
    | zero => exact Nat.le_refl _
    | succ i =>
      have := ih i
      simp only [List.drop_succ_cons, List.map_cons, List.sum_cons]
      omega
theorem sum_take (ws : List Str) (i : Nat) : ((ws.take i).map (·.length)).sum ≤ (ws.map (·.length)).sum := by
  induction ws generalizing i with
  | nil => simp
  | cons w r ih =>
    cases i with
    | zero => simp
    | succ i =>
      have := ih i
      simp only [List.take_succ_cons, List.map_cons, List.sum_cons]
      omega
/-- a part of the texts in a list: no more of them, and not longer -/
theorem slc_txts {S : Sto} {n : Nat} {ws : List Str} {lo hi : Option Int} {Q : KQ} (h : S[n]? = some (.lst (ws.map D.str))) (q : ∀ vs : List Str, vs.length ≤ ws.length → (vs.map (·.length)).sum ≤ (ws.map (·.length)).sum → (∀ v ∈ vs, v ∈ ws) → Q (.ref S.length) (S ++ [.lst (vs.map D.str)])) : dSlc (.ref n) lo hi S Q := by
  rw [slc_ref h, cut_str]
  refine q _ ?_ ?_ fun v hv => List.mem_of_mem_drop (List.mem_of_mem_take hv)
  · rw [List.length_take, List.length_drop]; omega
  · exact Nat.le_trans (sum_take _ _) (sum_drop _ _)
theorem slc_one {S : Sto} {n : Nat} {ws : List Str} {Q : KQ} (h : S[n]? = some (.lst (ws.map D.str))) (q : ∀ vs : List Str, vs.length ≤ 1 → (∀ v ∈ vs, v ∈ ws) → Q (.ref S.length) (S ++ [.lst (vs.map D.str)])) : dSlc (.ref n) none (some 1) S Q := by
  rw [slc_ref h, cut_str]
  refine q _ ?_ fun v hv => List.mem_of_mem_drop (List.mem_of_mem_take hv)
  have : HT.sIx ws.length ws.length (some 1) = min 1 ws.length := HT.sIx_nat _ _ 1
  rw [List.length_take, this]
  omega
theorem add_txts {S : Sto} {m n : Nat} {vs ws : List Str} {Q : KQ} (h1 : S[m]? = some (.lst (vs.map D.str))) (h2 : S[n]? = some (.lst (ws.map D.str))) (hl : vs.length + ws.length ≤ 10000) (q : Q (.ref S.length) (S ++ [.lst ((vs ++ ws).map D.str)])) : dOp .Add (.ref m) (.ref n) S Q := by
  rw [op_addl h1 h2]
  refine ⟨by rw [List.length_map, List.length_map]; simp only [LIM]; omega, ?_⟩
  rw [List.map_append] at q
  exact q
theorem lg_word {w : Str} (h : w ∈ LG.map wd) : w.length ≤ 10 := by
  have : (LG.map wd).all (fun w => decide (w.length ≤ 10)) = true := by decide +kernel
  exact of_decide_eq_true (List.all_eq_true.mp this w h)
theorem sum_one {ws : List Str} {b : Nat} (hl : ws.length ≤ 1) (h : ∀ w ∈ ws, w.length ≤ b) : (ws.map (·.length)).sum ≤ b := by
  match ws, hl with
  | [], _ => simp
  | [w], _ => simpa using h w (by simp)
theorem slc_str {S : Sto} {z : Str} {lo hi : Option Int} {Q : KQ} (hz : z.length ≤ 10000) (q : ∀ y : Str, y.length ≤ z.length → Q (.str y) S) : dSlc (.str z) lo hi S Q := by
  refine ⟨by simp only [LIM]; omega, q _ ?_⟩
  show (L2.cutS z lo hi).cps.size ≤ z.cps.size
  unfold L2.cutS
  rw [List.size_toArray, List.length_take, List.length_drop, Array.length_toList]
  omega
theorem ob__law_bent {fs : FEnv} (n : Nat) (f1 : fs.f "_law_draw" = some (lv n 2 spDraw)) (f2 : fs.f "_law_choice" = some (lv n 3 spChoice)) (ds : List D) (S : Sto) (Q : KQ) (X : KX) (h : lv (n + 1) 4 spBent ds S Q X) : wB fs ir__law_bent (defEnds Q X) (startD C__law_bent.N ds) S := by
  obtain ⟨hl, m, k, t, rfl, hs, tab, ht, q⟩ := h
  have km := tab.ne hs
  simp only [DW.wG, DW.wGs, gsLen, List.set_cons_succ, List.set_cons_zero, wB, wS, DW.wT, DW.wTs, DW.wE, DW.wA, DW.wO, DW.wI, List.getElem?_cons_succ, List.getElem?_cons_zero, cmp_eq, cmp_ne, cmp_in, cmp_nin, inA_tup, inA_ktup, op_shl', op_shr', op_and', op_or', op_xor', is_bl, isn_bl, iter_ktup, cmp_lt, cmp_le, cmp_gt, cmp_ge, tru_non, tru_bl, tru_int, tru_tup, op_addi, op_subi, op_muli, op_divi, op_modi, op_powi, op_addt, op_rept, len_tup, len_rol, idx_tup, idx_rol, slc_tup, iter_tup, iter_rol, eqc_int, LIM, Nat.reduceLeDiff, dBlt, dInt1, defEnds, startD, List.map_cons, List.map_nil, List.length_cons, List.length_nil, List.replicate_succ, List.replicate_zero, List.cons_append, List.nil_append, Nat.reduceAdd, Nat.reduceSub, Nat.zero_add, and_true, true_and, if_true, Bool.false_eq_true, if_false, ir__law_bent, f1]
  have e1 := Ext.app S [Ob.lst [sD " ", sD "-", sD "a", sD "b", sD "1", sD "4", sD "", sD "not ", sD " and", sD "(", sD ")", sD "has-1-a", sD " ( ", sD "no-b-a", sD "02"]]
  have h15 := sto_last S (Ob.lst [sD " ", sD "-", sD "a", sD "b", sD "1", sD "4", sD "", sD "not ", sD " and", sD "(", sD ")", sD "has-1-a", sD " ( ", sD "no-b-a", sD "02"])
  have m15 : S.length ≠ m := hs.ne
  generalize S ++ [Ob.lst [sD " ", sD "-", sD "a", sD "b", sD "1", sD "4", sD "", sD "not ", sD " and", sD "(", sD ")", sD "has-1-a", sD " ( ", sD "no-b-a", sD "02"]] = S1 at e1 h15
  refine ⟨by omega, m, 2, rfl, hs.ext e1, by decide, by decide, fun S2 r e2 s2 r0 r1 => ?_⟩
  show dEq (.int r) (.int 0) S2 _
  rw [dEq_iff (fit_int _ _) (wk_int 0), eqc_int]
  have E2 := (e1.b m).trans e2
  have tab2 := tab.b E2 km
  by_cases hr : r = 0
  · simp only [hr, decide_true, if_true]
    refine ⟨trivial, spl_step (by omega) ?_⟩
    have sl := KS.split_len t
    have ss := split_sum t
    have sn := split_ne t
    generalize Txt.split t sp1 = ws at sl ss sn
    have e3 := Ext.app S2 [Ob.lst (ws.map D.str)]
    have w3 := sto_last S2 (Ob.lst (ws.map D.str))
    have wm : S2.length ≠ m := s2.ne
    generalize hS3 : S2 ++ [Ob.lst (ws.map D.str)] = S3 at e3 w3
    rw [len_ref w3, List.length_map]
    refine ⟨by omega, m, _, rfl, s2.ext e3, by omega, by omega, fun S4 a e4 s4 a0 a1 => ?_⟩
    have E4 := (E2.trans (e3.b m)).trans e4
    have w4 := e4.2 _ _ wm w3
    have e5 := Ext.app S4 [Ob.lst []]
    have h5 := sto_last S4 (Ob.lst [])
    have m5 := s4.ne
    have tab5 := (tab.b E4 km).ext e5
    refine sort_tab tab5 fun ys hy => ?_
    have e6 := Ext.app (S4 ++ [Ob.lst []]) [Ob.lst (ys.map D.str)]
    have h6 := sto_last (S4 ++ [Ob.lst []]) (Ob.lst (ys.map D.str))
    generalize hS5 : S4 ++ [Ob.lst []] = S5 at e5 h5 tab5 e6 h6
    have n5 : S5.length = S4.length + 1 := by rw [← hS5]; simp
    have n6 : (S5 ++ [Ob.lst (ys.map D.str)]).length = S5.length + 1 := by simp
    generalize S5 ++ [Ob.lst (ys.map D.str)] = S6 at e6 h6 n6
    refine len_tab (tab5.ext e6) ?_
    have s6 := (s4.ext e5).ext e6
    refine ⟨by omega, m, 24, rfl, s6, by decide, by decide, fun S7 b e7 s7 b0 b1 => ?_⟩
    have mm : m < S4.length := s4.lt
    have h7 := e7.2 _ _ (by omega) h6
    have ylen : ys.length = 24 := by rw [hy.length_eq, List.length_map]; rfl
    have yw : ∀ y ∈ ys, y.length ≤ 10 := fun y hm => lg_word (hy.mem_iff.mp hm)
    show dSlc (.ref S5.length) (some b) none S7 _
    refine slc_txts h7 fun vs v1 v2 v3 => ?_
    have h8 := sto_last S7 (Ob.lst (vs.map D.str))
    have e8 := Ext.app S7 [Ob.lst (vs.map D.str)]
    have n7 := e7.1
    have n8 : (S7 ++ [Ob.lst (vs.map D.str)]).length = S7.length + 1 := by simp
    generalize S7 ++ [Ob.lst (vs.map D.str)] = S8 at h8 e8 n8
    refine slc_one h8 fun us u1 u2 => ?_
    simp only [f2]
    have h9 := sto_last S8 (Ob.lst (us.map D.str))
    have e9 := Ext.app S8 [Ob.lst (us.map D.str)]
    have n9 : (S8 ++ [Ob.lst (us.map D.str)]).length = S8.length + 1 := by simp
    generalize S8 ++ [Ob.lst (us.map D.str)] = S9 at h9 e9 n9
    have h10 := sto_last S9 (Ob.lst ([("and" : Str), "all-a-b"].map D.str))
    have e10 := Ext.app S9 [Ob.lst ([("and" : Str), "all-a-b"].map D.str)]
    have n10 : (S9 ++ [Ob.lst ([("and" : Str), "all-a-b"].map D.str)]).length = S9.length + 1 := by simp
    simp only [List.map_cons, List.map_nil] at h10 e10 n10
    generalize S9 ++ [Ob.lst [D.str (Str.ofString "and"), D.str (Str.ofString "all-a-b")]] = S10 at h10 e10 n10 ⊢
    have h11 := sto_last S10 (Ob.lst [D.str "x"])
    have e11 := Ext.app S10 [Ob.lst [D.str "x"]]
    have n11 : (S10 ++ [Ob.lst [D.str "x"]]).length = S10.length + 1 := by simp
    generalize S10 ++ [Ob.lst [D.str "x"]] = S11 at h11 e11 n11 ⊢
    have e12 := Ext.app S11 [Ob.lst [D.ref S4.length, D.ref S8.length, D.ref S9.length, D.ref S10.length]]
    have h12 := sto_last S11 (Ob.lst [D.ref S4.length, D.ref S8.length, D.ref S9.length, D.ref S10.length])
    -- what may be put in
    have e57 : ExtB m S5 S11 := (((((e6.b m).trans e7).trans (e8.b m)).trans (e9.b m)).trans (e10.b m)).trans (e11.b m)
    have s11 := (((s7.ext e8).ext e9).ext e10).ext e11
    refine ⟨by omega, m, _, _, rfl, s11.ext e12, by omega, h12, by simp, by simp, fun S13 x e13 s13 hx => ?_⟩
    have E13 : ExtB m S11 S13 := (e12.b m).trans e13
    have more : ∃ zs : List Str, txts S13 x zs ∧ zs.length ≤ 2 ∧ (zs.map (·.length)).sum ≤ 20 := by
      simp only [List.mem_cons, List.not_mem_nil, or_false] at hx
      rcases hx with rfl | rfl | rfl | rfl
      · exact ⟨[], ⟨_, rfl, (e57.trans E13).2 _ _ (by omega) h5⟩, by simp, by simp⟩
      · exact ⟨us, ⟨_, rfl, (((e10.trans e11).b m).trans E13).2 _ _ (by omega) h9⟩, by omega, Nat.le_trans (sum_one u1 (b := 10) fun w hw => yw w (v3 w (u2 w hw))) (by omega)⟩
      · exact ⟨["and", "all-a-b"], ⟨_, rfl, ((e11.b m).trans E13).2 _ _ (by omega) h10⟩, by simp, by decide +kernel⟩
      · exact ⟨["x"], ⟨_, rfl, E13.2 _ _ (by omega) h11⟩, by simp, by decide +kernel⟩
    obtain ⟨zs, ⟨p, rfl, hz⟩, z1, z2⟩ := more
    have w13 : S13[S2.length]? = some (.lst (ws.map D.str)) := (((e5.b m).trans e57).trans E13).2 _ _ wm w4
    refine ⟨trivial, slc_txts w13 fun as a1' a2' _ => ?_⟩
    have e14 := Ext.app S13 [Ob.lst (as.map D.str)]
    have h14 := sto_last S13 (Ob.lst (as.map D.str))
    have s14 := s13.ext e14
    have n14 : (S13 ++ [Ob.lst (as.map D.str)]).length = S13.length + 1 := by simp
    have hz14 := e14 _ _ hz
    have w14 := e14 _ _ w13
    have mlt := s13.lt
    generalize S13 ++ [Ob.lst (as.map D.str)] = S14 at e14 h14 s14 hz14 w14 n14
    refine add_txts h14 hz14 (by omega) ?_
    have e15 := Ext.app S14 [Ob.lst ((as ++ zs).map D.str)]
    have g15 := sto_last S14 (Ob.lst ((as ++ zs).map D.str))
    have w15 := e15 _ _ w14
    have s15 := s14.ext e15
    generalize S14 ++ [Ob.lst ((as ++ zs).map D.str)] = S15 at e15 g15 w15 s15
    refine ⟨by omega, m, 2, rfl, s15, by decide, by decide, fun S16 c e16 s16 c0 c1 => ?_⟩
    simp only [op_addi]
    have w16 := e16.2 _ _ wm w15
    have g16 := e16.2 _ _ (by omega) g15
    refine slc_txts w16 fun bs b1' b2' _ => ?_
    have e17 := Ext.app S16 [Ob.lst (bs.map D.str)]
    have h17 := sto_last S16 (Ob.lst (bs.map D.str))
    have g17 := e17 _ _ g16
    have s17 := s16.ext e17
    generalize S16 ++ [Ob.lst (bs.map D.str)] = S17 at e17 h17 g17 s17
    refine add_txts g17 h17 (by rw [List.length_append]; omega) ?_
    have e18 := Ext.app S17 [Ob.lst ((as ++ zs ++ bs).map D.str)]
    have h18 := sto_last S17 (Ob.lst ((as ++ zs ++ bs).map D.str))
    have s18 := s17.ext e18
    rw [join_ref h18]
    have tot : (((as ++ zs ++ bs).map (·.length)).sum + (as ++ zs ++ bs).length * (" " : Str).length) ≤ 1700 := by
      have e1 : (" " : Str).length = 1 := sp1_len
      rw [e1, List.map_append, List.map_append, List.sum_append, List.sum_append, List.length_append, List.length_append]
      omega
    refine ⟨by simp only [LIM]; omega, q _ _ ?_ s18 ?_⟩
    · exact (((((E4.trans (e5.b m)).trans e57).trans E13).trans ((e14.trans e15).b m)).trans e16).trans ((e17.trans e18).b m)
    · have := PySem.StrLaws.join_length_le (" " : Str) (as ++ zs ++ bs)
      rw [← TL.join_eq] at this
      omega
  · simp only [hr, decide_false, Bool.false_eq_true, if_false]
    have h15' := e2.2 _ _ m15 h15
    refine ⟨by simp only [LIM]; omega, ?_⟩
    refine ⟨by omega, m, _, rfl, s2, by omega, by omega, fun S3 a e3 s3 a0 a1 => ?_⟩
    have h3 := e3.2 _ _ m15 h15'
    simp only [f2]
    refine slc_str (by omega) fun y1 l1 => ?_
    refine ⟨by omega, m, _, _, rfl, s3, m15, h3, by simp, by simp, fun S4 x e4 s4 hx => ?_⟩
    have hx : ∃ w : Str, x = .str w ∧ w.length ≤ 10 := by
      simp only [List.mem_cons, List.not_mem_nil, or_false] at hx
      rcases hx with rfl | rfl | rfl | rfl | rfl | rfl | rfl | rfl | rfl | rfl | rfl | rfl | rfl | rfl | rfl <;> exact ⟨_, rfl, by decide +kernel⟩
    obtain ⟨w, rfl, lw⟩ := hx
    refine ⟨by simp only [LIM]; omega, ?_⟩
    refine ⟨by omega, m, 3, rfl, s4, by decide, by decide, fun S5 c e5 s5 c0 c1 => ?_⟩
    simp only [op_addi]
    refine slc_str (by omega) fun y2 l2 => ?_
    refine ⟨by simp only [PySem.Str.length_append, LIM]; omega, q _ _ (((E2.trans e3).trans e4).trans e5) s5 (by simp only [PySem.Str.length_append]; omega)⟩
end K08

set_option Elab.async false
set_option linter.all false
set_option maxRecDepth 100000
set_option maxHeartbeats 1000000

namespace K08
open PySem PySem.Spec PyProof.Rows L2 DW KP KS

theorem tried_ok {S : Sto} {d : D} (h : okV S d) : True := trivial
theorem rd_odd {d : D} (h : isStr d = false) : dueD d = .int 0 := by
  cases d <;> first | rfl | cases h
/-- what is read out of a text: a number, or signs -/
theorem due_wk (t : Str) (ht : t.length ≤ 900) : wk (dueD (.str t)) = true := by
  have sl := KS.split_len t
  show wk (match rdW (Txt.split t sp1) with | .inl v => v | .inr i => .int i) = true
  unfold rdW
  split
  · rename_i v e
    split at e
    · cases e
    · split at e
      · cases e
        refine wk_signs look_parts ?_
        have := List.length_filterMap_le look (Txt.split t sp1)
        omega
      · cases e
  · exact wk_int _
/-- one odd value -/
theorem law_b1 {fs : FEnv} {n : Nat} (f1 : fs.f "_law_tried" = some (lv n 7 spTried)) (hl : 7 ≤ n) {E : DEnds} {S : Sto} {x0 x1 x2 x3 x4 x5 x6 x7 d x9 x10 x11 : Option D} {v : D} (hd : d = some v) (hf : Fit S v) (hs : isStr v = false) (hE : ∀ S', Ext S S' → E.nx [x0, x1, x2, x3, x4, x5, x6, x7, d, x9, x10, x11] S') :
    wB fs ir_law_b1 E [x0, x1, x2, x3, x4, x5, x6, x7, d, x9, x10, x11] S := by
  subst hd
  simp only [DW.wG, DW.wGs, gsLen, List.set_cons_succ, List.set_cons_zero, wB, wS, DW.wT, DW.wTs, DW.wE, DW.wA, DW.wO, DW.wI, List.getElem?_cons_succ, List.getElem?_cons_zero, cmp_eq, cmp_ne, cmp_in, cmp_nin, inA_tup, inA_ktup, op_shl', op_shr', op_and', op_or', op_xor', is_bl, isn_bl, iter_ktup, cmp_lt, cmp_le, cmp_gt, cmp_ge, tru_non, tru_bl, tru_int, tru_tup, op_addi, op_subi, op_muli, op_divi, op_modi, op_powi, op_addt, op_rept, len_tup, len_rol, idx_tup, idx_rol, slc_tup, iter_tup, iter_rol, eqc_int, LIM, Nat.reduceLeDiff, dBlt, dInt1, defEnds, startD, List.map_cons, List.map_nil, List.length_cons, List.length_nil, List.replicate_succ, List.replicate_zero, List.cons_append, List.nil_append, Nat.reduceAdd, Nat.reduceSub, Nat.zero_add, and_true, true_and, if_true, Bool.false_eq_true, if_false, ir_law_b1, f1]
  refine ⟨hl, v, rfl, .inr ⟨hf, hs⟩, fun S' e => ?_⟩
  rw [rd_odd hs]
  show dEq (.int 0) (.int 0) S' _
  rw [dEq_iff (fit_int _ _) (wk_int 0), eqc_int]
  simp only [decide_true, if_true, true_and, Bool.false_eq_true, if_false, Bool.and_true, Bool.and_false, Bool.true_and, Bool.false_and, Bool.not_true, Bool.not_false, Bool.or_true, Bool.or_false, Bool.true_or, Bool.false_or]
  exact hE S' e
/-- one changed text -/
theorem cut_400 (z : Str) : (L2.cutS z none (some 400)).length ≤ 400 := by
  show (L2.cutS z none (some 400)).cps.size ≤ 400
  unfold L2.cutS
  have h : HT.sIx z.length z.length (some 400) = min 400 z.length := HT.sIx_nat _ _ 400
  rw [List.size_toArray, List.length_take, h]
  omega
theorem law_b2 {fs : FEnv} {n : Nat} (f1 : fs.f "_law_tried" = some (lv n 7 spTried)) (f2 : fs.f "_law_due" = some (lv n 6 spDue)) (f3 : fs.f "_law_bent" = some (lv n 4 spBent)) (hl : 7 ≤ n) {E : DEnds} {S : Sto} {x0 x2 x4 x8 x9 x10 x11 : Option D} {k m : Nat} {i : Int} {t u : Str} (tab : TabL S k) (hs : Src S m) (ht : t.length ≤ 400) (hu : u.length ≤ 400)
    (hE : ∀ S' y, ExtB m S S' → Src S' m → y.length ≤ 400 → E.nx [x0, some (.ref k), x2, some (.ref m), x4, some (.str t), some (.str y), some (.int i), x8, x9, x10, x11] S') :
    wB fs ir_law_b2 E [x0, some (.ref k), x2, some (.ref m), x4, some (.str t), some (.str u), some (.int i), x8, x9, x10, x11] S := by
  have km := tab.ne hs
  -- behind the choice of a text
  have go : ∀ w : Str, w.length ≤ 400 → lv n 4 spBent [.ref m, .str w, .ref k] S (fun d S1 => dSlc d none (some 400) S1 fun d S1 => wS fs (.ifs (.cmp .NotEq (.fn "_law_tried" (.cons (.var 6) .nil)) (.fn "_law_due" (.cons (.var 6) (.cons (.var 1) .nil)))) (.cons (.ret (.cst (D.bl false))) .nil) .nil) E [x0, some (.ref k), x2, some (.ref m), x4, some (.str t), some d, some (.int i), x8, x9, x10, x11] S1) (fun _ _ _ => True) := fun w hw => by
    refine ⟨by omega, m, k, w, rfl, hs, tab, hw, fun S1 y e1 s1 hy => ?_⟩
    refine ⟨by simp only [LIM]; omega, ?_⟩
    have l4 := cut_400 y
    generalize L2.cutS y none (some 400) = y' at l4
    simp only [DW.wG, DW.wGs, gsLen, List.set_cons_succ, List.set_cons_zero, wB, wS, DW.wT, DW.wTs, DW.wE, DW.wA, DW.wO, DW.wI, List.getElem?_cons_succ, List.getElem?_cons_zero, cmp_eq, cmp_ne, cmp_in, cmp_nin, inA_tup, inA_ktup, op_shl', op_shr', op_and', op_or', op_xor', is_bl, isn_bl, iter_ktup, cmp_lt, cmp_le, cmp_gt, cmp_ge, tru_non, tru_bl, tru_int, tru_tup, op_addi, op_subi, op_muli, op_divi, op_modi, op_powi, op_addt, op_rept, len_tup, len_rol, idx_tup, idx_rol, slc_tup, iter_tup, iter_rol, eqc_int, LIM, Nat.reduceLeDiff, dBlt, dInt1, defEnds, startD, List.map_cons, List.map_nil, List.length_cons, List.length_nil, List.replicate_succ, List.replicate_zero, List.cons_append, List.nil_append, Nat.reduceAdd, Nat.reduceSub, Nat.zero_add, and_true, true_and, if_true, Bool.false_eq_true, if_false, f1, f2]
    refine ⟨hl, _, rfl, .inl ⟨y', rfl, by omega⟩, fun S2 e2 => ?_⟩
    have tab2 := (tab.b e1 km).ext e2
    refine ⟨by omega, y', k, rfl, by omega, tab2.tab, fun S3 e3 => ?_⟩
    refine dEq_w (due_wk y' (by omega)) ?_
    simp only [if_true, true_and, Bool.false_eq_true, if_false, Bool.and_true, Bool.and_false, Bool.true_and, Bool.false_and, Bool.not_true, Bool.not_false, Bool.or_true, Bool.or_false, Bool.true_or, Bool.false_or]
    exact hE S3 y' (e1.trans ((e2.trans e3).b m)) ((s1.ext e2).ext e3) l4
  simp only [DW.wG, DW.wGs, gsLen, List.set_cons_succ, List.set_cons_zero, wB, wS, DW.wT, DW.wTs, DW.wE, DW.wA, DW.wO, DW.wI, List.getElem?_cons_succ, List.getElem?_cons_zero, cmp_eq, cmp_ne, cmp_in, cmp_nin, inA_tup, inA_ktup, op_shl', op_shr', op_and', op_or', op_xor', is_bl, isn_bl, iter_ktup, cmp_lt, cmp_le, cmp_gt, cmp_ge, tru_non, tru_bl, tru_int, tru_tup, op_addi, op_subi, op_muli, op_divi, op_modi, op_powi, op_addt, op_rept, len_tup, len_rol, idx_tup, idx_rol, slc_tup, iter_tup, iter_rol, eqc_int, LIM, Nat.reduceLeDiff, dBlt, dInt1, defEnds, startD, List.map_cons, List.map_nil, List.length_cons, List.length_nil, List.replicate_succ, List.replicate_zero, List.cons_append, List.nil_append, Nat.reduceAdd, Nat.reduceSub, Nat.zero_add, and_true, true_and, if_true, Bool.false_eq_true, if_false, ir_law_b2, f3]
  refine ⟨by decide, ?_⟩
  show dEq (.int (i % 3)) (.int 0) S _
  rw [dEq_iff (fit_int _ _) (wk_int 0), eqc_int]
  by_cases h3 : i % 3 = 0
  · simp only [h3, decide_true, if_true]
    have := go t ht
    simp only [DW.wG, DW.wGs, gsLen, List.set_cons_succ, List.set_cons_zero, wB, wS, DW.wT, DW.wTs, DW.wE, DW.wA, DW.wO, DW.wI, List.getElem?_cons_succ, List.getElem?_cons_zero, cmp_eq, cmp_ne, cmp_in, cmp_nin, inA_tup, inA_ktup, op_shl', op_shr', op_and', op_or', op_xor', is_bl, isn_bl, iter_ktup, cmp_lt, cmp_le, cmp_gt, cmp_ge, tru_non, tru_bl, tru_int, tru_tup, op_addi, op_subi, op_muli, op_divi, op_modi, op_powi, op_addt, op_rept, len_tup, len_rol, idx_tup, idx_rol, slc_tup, iter_tup, iter_rol, eqc_int, LIM, Nat.reduceLeDiff, dBlt, dInt1, defEnds, startD, List.map_cons, List.map_nil, List.length_cons, List.length_nil, List.replicate_succ, List.replicate_zero, List.cons_append, List.nil_append, Nat.reduceAdd, Nat.reduceSub, Nat.zero_add, and_true, true_and, if_true, Bool.false_eq_true, if_false] at this
    exact this
  · simp only [h3, decide_false, Bool.false_eq_true, if_false]
    have := go u hu
    simp only [DW.wG, DW.wGs, gsLen, List.set_cons_succ, List.set_cons_zero, wB, wS, DW.wT, DW.wTs, DW.wE, DW.wA, DW.wO, DW.wI, List.getElem?_cons_succ, List.getElem?_cons_zero, cmp_eq, cmp_ne, cmp_in, cmp_nin, inA_tup, inA_ktup, op_shl', op_shr', op_and', op_or', op_xor', is_bl, isn_bl, iter_ktup, cmp_lt, cmp_le, cmp_gt, cmp_ge, tru_non, tru_bl, tru_int, tru_tup, op_addi, op_subi, op_muli, op_divi, op_modi, op_powi, op_addt, op_rept, len_tup, len_rol, idx_tup, idx_rol, slc_tup, iter_tup, iter_rol, eqc_int, LIM, Nat.reduceLeDiff, dBlt, dInt1, defEnds, startD, List.map_cons, List.map_nil, List.length_cons, List.length_nil, List.replicate_succ, List.replicate_zero, List.cons_append, List.nil_append, Nat.reduceAdd, Nat.reduceSub, Nat.zero_add, and_true, true_and, if_true, Bool.false_eq_true, if_false] at this
    exact this
end K08

set_option Elab.async false
set_option linter.all false
set_option maxRecDepth 100000
set_option maxHeartbeats 1000000

namespace K08
open PySem PySem.Spec PyProof.Rows L2 DW KP KS

theorem notice_txt {v : D} (h : isNotice v = true) : ∃ ds, v = .tup ds ∧ ds ≠ [] ∧ ds.length ≤ 16 ∧ (∀ d ∈ ds, d ∈ SG) ∧ isNotice (.tup ds) = true := by
  cases v with
  | tup ds =>
    obtain ⟨⟨l1, l2⟩, m⟩ := notice_parts h
    exact ⟨ds, rfl, notice_ne h, l2, m, h⟩
  | _ => cases h
theorem fit_str {S : Sto} {t : Str} (h : PyData.strOk t = true) : Fit S (.str t) := ⟨1, 1, by omega, h⟩
/-- the odd values -/
theorem odd_loop {fs : FEnv} {n : Nat} (f1 : fs.f "_law_tried" = some (lv n 7 spTried)) (hl : 7 ≤ n) {E : DEnds} {x0 x1 x2 x3 x4 x5 x6 x7 x9 x10 x11 : Option D} {chk : Sto → Prop} {S0 : Sto} (hc : ∀ S', Ext S0 S' → chk S') :
    ∀ (vs : List D), (∀ v ∈ vs, Fit S0 v ∧ isStr v = false) → ∀ (x8 : Option D) (S : Sto), Ext S0 S → (∀ S' x8, Ext S0 S' → E.nx [x0, x1, x2, x3, x4, x5, x6, x7, x8, x9, x10, x11] S') →
      fLoop chk (fun d ρ' S' k => DW.wG fs (.name 8) d ρ' S' noX k) (fun E' ρ' S' => wB fs ir_law_b1 E' ρ' S') E vs [x0, x1, x2, x3, x4, x5, x6, x7, x8, x9, x10, x11] S
  | [], _, x8, S, e, hE => ⟨hc S e, hE S x8 e⟩
  | v :: r, hv, x8, S, e, hE => by
    refine ⟨hc S e, ?_⟩
    simp only [DW.wG, DW.wGs, gsLen, List.set_cons_succ, List.set_cons_zero, wB, wS, DW.wT, DW.wTs, DW.wE, DW.wA, DW.wO, DW.wI, List.getElem?_cons_succ, List.getElem?_cons_zero, cmp_eq, cmp_ne, cmp_in, cmp_nin, inA_tup, inA_ktup, op_shl', op_shr', op_and', op_or', op_xor', is_bl, isn_bl, iter_ktup, cmp_lt, cmp_le, cmp_gt, cmp_ge, tru_non, tru_bl, tru_int, tru_tup, op_addi, op_subi, op_muli, op_divi, op_modi, op_powi, op_addt, op_rept, len_tup, len_rol, idx_tup, idx_rol, slc_tup, iter_tup, iter_rol, eqc_int, LIM, Nat.reduceLeDiff, dBlt, dInt1, defEnds, startD, List.map_cons, List.map_nil, List.length_cons, List.length_nil, List.replicate_succ, List.replicate_zero, List.cons_append, List.nil_append, Nat.reduceAdd, Nat.reduceSub, Nat.zero_add, and_true, true_and, if_true, Bool.false_eq_true, if_false]
    obtain ⟨h1, h2⟩ := hv v List.mem_cons_self
    refine law_b1 f1 hl rfl (h1.ext e) h2 fun S' e' => ?_
    exact odd_loop f1 hl hc r (fun w hw => hv w (List.mem_cons_of_mem _ hw)) _ S' (e.trans e') hE
/-- the changed texts -/
theorem bent_loop {fs : FEnv} {n : Nat} (f1 : fs.f "_law_tried" = some (lv n 7 spTried)) (f2 : fs.f "_law_due" = some (lv n 6 spDue)) (f3 : fs.f "_law_bent" = some (lv n 4 spBent)) (hl : 7 ≤ n) {E : DEnds} {x0 x2 x4 x8 x9 x10 x11 : Option D} {k m : Nat} {t : Str} (ht : t.length ≤ 400) {S0 : Sto} (tab : TabL S0 k) (km : k ≠ m) :
    ∀ (vs : List D), (∀ v ∈ vs, ∃ i : Int, v = .int i) → ∀ (x7 : Option D) (u : Str) (S : Sto), u.length ≤ 400 → ExtB m S0 S → Src S m → (∀ S' x7 y, ExtB m S0 S' → Src S' m → E.nx [x0, some (.ref k), x2, some (.ref m), x4, some (.str t), some (.str y), x7, x8, x9, x10, x11] S') →
      fLoop (fun _ => True) (fun d ρ' S' k => DW.wG fs (.name 7) d ρ' S' noX k) (fun E' ρ' S' => wB fs ir_law_b2 E' ρ' S') E vs [x0, some (.ref k), x2, some (.ref m), x4, some (.str t), some (.str u), x7, x8, x9, x10, x11] S
  | [], _, x7, u, S, hu, e, s, hE => ⟨trivial, hE S x7 u e s⟩
  | v :: r, hv, x7, u, S, hu, e, s, hE => by
    refine ⟨trivial, ?_⟩
    simp only [DW.wG, DW.wGs, gsLen, List.set_cons_succ, List.set_cons_zero, wB, wS, DW.wT, DW.wTs, DW.wE, DW.wA, DW.wO, DW.wI, List.getElem?_cons_succ, List.getElem?_cons_zero, cmp_eq, cmp_ne, cmp_in, cmp_nin, inA_tup, inA_ktup, op_shl', op_shr', op_and', op_or', op_xor', is_bl, isn_bl, iter_ktup, cmp_lt, cmp_le, cmp_gt, cmp_ge, tru_non, tru_bl, tru_int, tru_tup, op_addi, op_subi, op_muli, op_divi, op_modi, op_powi, op_addt, op_rept, len_tup, len_rol, idx_tup, idx_rol, slc_tup, iter_tup, iter_rol, eqc_int, LIM, Nat.reduceLeDiff, dBlt, dInt1, defEnds, startD, List.map_cons, List.map_nil, List.length_cons, List.length_nil, List.replicate_succ, List.replicate_zero, List.cons_append, List.nil_append, Nat.reduceAdd, Nat.reduceSub, Nat.zero_add, and_true, true_and, if_true, Bool.false_eq_true, if_false]
    obtain ⟨i, rfl⟩ := hv v List.mem_cons_self
    refine law_b2 f1 f2 f3 hl (tab.b e km) s ht hu fun S' y e' s' hy => ?_
    exact bent_loop f1 f2 f3 hl ht tab km r (fun w hw => hv w (List.mem_cons_of_mem _ hw)) _ y S' hy (e.trans e') s' hE
theorem law_b3 {fs : FEnv} {n : Nat} (f1 : fs.f "_law_tried" = some (lv n 7 spTried)) (f2 : fs.f "_law_due" = some (lv n 6 spDue)) (f3 : fs.f "_law_bent" = some (lv n 4 spBent)) (f4 : fs.f "_law_source" = some (lv n 2 spSource)) (f5 : fs.f "_law_notice" = some (lv n 5 spNotice)) (f6 : fs.f "_law_word_of" = some (lv n 2 spWord)) (f7 : fs.f "notice_text" = some (lv n 7 spText)) (f8 : fs.f "read_notice" = some (lv n 6 spRead)) (hl : 7 ≤ n)
    {E : DEnds} {S : Sto} {x3 x4 x5 x6 x7 x8 x9 x10 x11 : Option D} {k j : Nat} {d : D} {ns : List Int} (hd : Scr S d ns) (hn : ns.length ≤ 63) (hj : j ≤ 63) (tab : TabL S k)
    (hE : ∀ S' x3 x4 x5 x6 x7 x8, Ext S S' → E.nx [some d, some (.ref k), some (.int j), x3, x4, x5, x6, x7, x8, x9, x10, x11] S') :
    wB fs ir_law_b3 E [some d, some (.ref k), some (.int j), x3, x4, x5, x6, x7, x8, x9, x10, x11] S := by
  simp only [DW.wG, DW.wGs, gsLen, List.set_cons_succ, List.set_cons_zero, wB, wS, DW.wT, DW.wTs, DW.wE, DW.wA, DW.wO, DW.wI, List.getElem?_cons_succ, List.getElem?_cons_zero, cmp_eq, cmp_ne, cmp_in, cmp_nin, inA_tup, inA_ktup, op_shl', op_shr', op_and', op_or', op_xor', is_bl, isn_bl, iter_ktup, cmp_lt, cmp_le, cmp_gt, cmp_ge, tru_non, tru_bl, tru_int, tru_tup, op_addi, op_subi, op_muli, op_divi, op_modi, op_powi, op_addt, op_rept, len_tup, len_rol, idx_tup, idx_rol, slc_tup, iter_tup, iter_rol, eqc_int, LIM, Nat.reduceLeDiff, dBlt, dInt1, defEnds, startD, List.map_cons, List.map_nil, List.length_cons, List.length_nil, List.replicate_succ, List.replicate_zero, List.cons_append, List.nil_append, Nat.reduceAdd, Nat.reduceSub, Nat.zero_add, and_true, true_and, if_true, Bool.false_eq_true, if_false, ir_law_b3, f4]
  refine ⟨by omega, d, ns, j, rfl, hd, hn, hj, fun S1 m e1 hm s1 => ?_⟩
  have kn : k ≠ m := by
    have := (List.getElem?_eq_some_iff.mp tab).1
    omega
  simp only [DW.wG, DW.wGs, gsLen, List.set_cons_succ, List.set_cons_zero, wB, wS, DW.wT, DW.wTs, DW.wE, DW.wA, DW.wO, DW.wI, List.getElem?_cons_succ, List.getElem?_cons_zero, cmp_eq, cmp_ne, cmp_in, cmp_nin, inA_tup, inA_ktup, op_shl', op_shr', op_and', op_or', op_xor', is_bl, isn_bl, iter_ktup, cmp_lt, cmp_le, cmp_gt, cmp_ge, tru_non, tru_bl, tru_int, tru_tup, op_addi, op_subi, op_muli, op_divi, op_modi, op_powi, op_addt, op_rept, len_tup, len_rol, idx_tup, idx_rol, slc_tup, iter_tup, iter_rol, eqc_int, LIM, Nat.reduceLeDiff, dBlt, dInt1, defEnds, startD, List.map_cons, List.map_nil, List.length_cons, List.length_nil, List.replicate_succ, List.replicate_zero, List.cons_append, List.nil_append, Nat.reduceAdd, Nat.reduceSub, Nat.zero_add, and_true, true_and, if_true, Bool.false_eq_true, if_false, f5]
  refine ⟨by omega, m, 4, rfl, by decide, by decide, s1, fun S2 v e2 s2 hv => ?_⟩
  obtain ⟨ds, rfl, ne, l16, sg, hv1⟩ := notice_txt hv.1
  have E2 : Ext S S2 := ext_of e1 hm e2
  refine ⟨trivial, ?_⟩
  unfold ir_law_l1
  refine map_lcp (fun d => .str (wd d)) (xs := ds) (by simp only [LIM]; omega) (it_tup fun k q => (by simp only [DW.wG, DW.wGs, gsLen, List.set_cons_succ, List.set_cons_zero, wB, wS, DW.wT, DW.wTs, DW.wE, DW.wA, DW.wO, DW.wI, List.getElem?_cons_succ, List.getElem?_cons_zero, cmp_eq, cmp_ne, cmp_in, cmp_nin, inA_tup, inA_ktup, op_shl', op_shr', op_and', op_or', op_xor', is_bl, isn_bl, iter_ktup, cmp_lt, cmp_le, cmp_gt, cmp_ge, tru_non, tru_bl, tru_int, tru_tup, op_addi, op_subi, op_muli, op_divi, op_modi, op_powi, op_addt, op_rept, len_tup, len_rol, idx_tup, idx_rol, slc_tup, iter_tup, iter_rol, eqc_int, LIM, Nat.reduceLeDiff, dBlt, dInt1, defEnds, startD, List.map_cons, List.map_nil, List.length_cons, List.length_nil, List.replicate_succ, List.replicate_zero, List.cons_append, List.nil_append, Nat.reduceAdd, Nat.reduceSub, Nat.zero_add, and_true, true_and, if_true, Bool.false_eq_true, if_false]; exact q)) (fun d' hd' S3 R e k => ?_) fun S3 p e3 hp h3 => ?_
  · simp only [DW.wG, DW.wGs, gsLen, List.set_cons_succ, List.set_cons_zero, wB, wS, DW.wT, DW.wTs, DW.wE, DW.wA, DW.wO, DW.wI, List.getElem?_cons_succ, List.getElem?_cons_zero, cmp_eq, cmp_ne, cmp_in, cmp_nin, inA_tup, inA_ktup, op_shl', op_shr', op_and', op_or', op_xor', is_bl, isn_bl, iter_ktup, cmp_lt, cmp_le, cmp_gt, cmp_ge, tru_non, tru_bl, tru_int, tru_tup, op_addi, op_subi, op_muli, op_divi, op_modi, op_powi, op_addt, op_rept, len_tup, len_rol, idx_tup, idx_rol, slc_tup, iter_tup, iter_rol, eqc_int, LIM, Nat.reduceLeDiff, dBlt, dInt1, defEnds, startD, List.map_cons, List.map_nil, List.length_cons, List.length_nil, List.replicate_succ, List.replicate_zero, List.cons_append, List.nil_append, Nat.reduceAdd, Nat.reduceSub, Nat.zero_add, and_true, true_and, if_true, Bool.false_eq_true, if_false, wipeD, f6]
    exact ⟨by omega, d', rfl, sg d' hd', k⟩
  have h3 : S3[p]? = some (.lst ((ds.map wd).map D.str)) := by rw [h3]; simp
  rw [join_ref h3]
  have tl := txt_len sg
  have ssum := words_sum sg
  refine ⟨?_, ?_⟩
  · have e1 : (" " : Str).length = 1 := sp1_len
    rw [List.length_map, e1]
    simp only [LIM]
    omega
  have tx : Txt.join (Str.ofString " ") (ds.map wd) = txt ds := rfl
  simp only [tx, f7]
  refine ⟨hl, .tup ds, rfl, fit_signs sg, fun S4 e4 => ?_⟩
  rw [if_pos hv1]
  show dEq (.str (txt ds)) (.str (txt ds)) S4 _
  refine dEq_w (wk_str (txt_ok sg)) ?_
  simp only [if_true, true_and, Bool.false_eq_true, if_false, Bool.and_true, Bool.and_false, Bool.true_and, Bool.false_and, Bool.not_true, Bool.not_false, Bool.or_true, Bool.or_false, Bool.true_or, Bool.false_or, f8]
  refine ⟨by omega, .str (txt ds), rfl, .inl ⟨_, rfl, by omega⟩, fun S5 e5 => ?_⟩
  rw [rd_txt hv1]
  show dEq (.tup ds) (.tup ds) S5 _
  refine dEq_w (wk_signs sg (by omega)) ?_
  simp only [if_true, true_and, Bool.false_eq_true, if_false, Bool.and_true, Bool.and_false, Bool.true_and, Bool.false_and, Bool.not_true, Bool.not_false, Bool.or_true, Bool.or_false, Bool.true_or, Bool.false_or]
  refine ⟨by decide, ?_⟩
  have e25 := (e3.trans e4).trans e5
  have s5 := s2.ext e25
  have tab5 := tab.ext (E2.trans e25)
  refine bent_loop f1 f2 f3 hl (by omega) tab5 kn _ (fun v hv => ?_) _ _ S5 (by omega) (ExtB.refl _ _) s5 fun S6 x7 y e6 s6 => ?_
  · simp only [DW.intsFrom] at hv
    obtain ⟨i, _, rfl⟩ := List.mem_map.mp hv
    exact ⟨_, rfl⟩
  have E6 : Ext S S6 := ext_of e1 hm (e2.trans ((e25.b m).trans e6))
  simp only [DW.wG, DW.wGs, gsLen, List.set_cons_succ, List.set_cons_zero, wB, wS, DW.wT, DW.wTs, DW.wE, DW.wA, DW.wO, DW.wI, List.getElem?_cons_succ, List.getElem?_cons_zero, cmp_eq, cmp_ne, cmp_in, cmp_nin, inA_tup, inA_ktup, op_shl', op_shr', op_and', op_or', op_xor', is_bl, isn_bl, iter_ktup, cmp_lt, cmp_le, cmp_gt, cmp_ge, tru_non, tru_bl, tru_int, tru_tup, op_addi, op_subi, op_muli, op_divi, op_modi, op_powi, op_addt, op_rept, len_tup, len_rol, idx_tup, idx_rol, slc_tup, iter_tup, iter_rol, eqc_int, LIM, Nat.reduceLeDiff, dBlt, dInt1, defEnds, startD, List.map_cons, List.map_nil, List.length_cons, List.length_nil, List.replicate_succ, List.replicate_zero, List.cons_append, List.nil_append, Nat.reduceAdd, Nat.reduceSub, Nat.zero_add, and_true, true_and, if_true, Bool.false_eq_true, if_false]
  have ft : Fit S6 (.str (txt ds)) := fit_str (txt_ok sg)
  have e7 := Ext.app S6 [Ob.lst [D.str (txt ds)]]
  have h7 := sto_last S6 (Ob.lst [D.str (txt ds)])
  generalize S6 ++ [Ob.lst [D.str (txt ds)]] = S7 at e7 h7
  have e8 := Ext.app S7 [Ob.lst [.non, .int 5, .tup [.str (txt ds)], .ref S6.length, .bl true, .tup ds]]
  have h8 := sto_last S7 (Ob.lst [.non, .int 5, .tup [.str (txt ds)], .ref S6.length, .bl true, .tup ds])
  rw [iter_ref h8]
  refine odd_loop f1 hl (S0 := S7 ++ [Ob.lst [.non, .int 5, .tup [.str (txt ds)], .ref S6.length, .bl true, .tup ds]]) (fun S' e => e _ _ h8) _ (fun v hv => ?_) _ _ (Ext.refl _) fun S' x8 e => hE S' _ _ _ _ _ _ (((E6.trans e7).trans e8).trans e)
  have ok1 : ∀ S', okd 1 1 S' (.str (txt ds)) = true := fun S' => txt_ok sg
  simp only [List.mem_cons, List.not_mem_nil, or_false] at hv
  rcases hv with rfl | rfl | rfl | rfl | rfl | rfl
  · exact ⟨⟨1, 1, by omega, rfl⟩, rfl⟩
  · exact ⟨fit_int _ _, rfl⟩
  · exact ⟨⟨1, 2, by omega, by simp [okd, txt_ok sg]⟩, rfl⟩
  · exact ⟨⟨1, 2, by omega, by simp [okd, e8 _ _ h7, txt_ok sg]⟩, rfl⟩
  · exact ⟨⟨1, 1, by omega, rfl⟩, rfl⟩
  · exact ⟨fit_signs sg, rfl⟩
end K08

set_option Elab.async false
set_option linter.all false
set_option maxRecDepth 100000
set_option maxHeartbeats 1000000

namespace K08
open PySem PySem.Spec PyProof.Rows L2 DW KP KS

theorem idx_dkl {S : Sto} {x : Str} {n : Nat} {kvs : List (L2.Key × D)} {Q : KQ} {v : D} (h : S[n]? = some (.dkl kvs)) (e : valD kvs (.inr x) = some v) (q : Q v S) : dIdx (.ref n) (.str x) S Q := by
  simp only [dIdx, h, dkOf, Option.some.injEq]
  exact ⟨kvs, v, rfl, e, q⟩
theorem lg_sg : ∀ d ∈ LG, d ∈ SG := fun d h => by
  simp only [LG, SG, List.mem_cons, List.not_mem_nil, or_false] at h ⊢
  rcases h with h | h | h | h | h | h | h | h | h | h | h | h | h | h | h | h | h | h | h | h | h | h | h | h <;> simp [h]
theorem sg_one : ∀ d ∈ SG, isTup d = true → isNotice (.tup [d]) = true := fun d h t => by
  have := sg_all (p := fun d => !isTup d || isNotice (.tup [d])) (by decide +kernel) d h
  simpa [t] using this
theorem sg_two : ∀ d ∈ SG, wk (.tup [.tup [d], .str (wd d)]) = true := sg_all (by decide +kernel)
theorem law_b0 {fs : FEnv} {n : Nat} (f7 : fs.f "notice_text" = some (lv n 7 spText)) (f8 : fs.f "read_notice" = some (lv n 6 spRead)) (hl : 7 ≤ n) {E : DEnds} {S : Sto} {x0 x2 x3 x4 x5 x6 x7 x8 x10 x11 : Option D} {k : Nat} {d : D} (hd : d ∈ LG) (hk : S[k]? = some (.dkl (kvOf LG)))
    (hE : ∀ S' x10, Ext S S' → E.nx [x0, some (.ref k), x2, x3, x4, x5, x6, x7, x8, some (.str (wd d)), x10, x11] S') :
    wB fs ir_law_b0 E [x0, some (.ref k), x2, x3, x4, x5, x6, x7, x8, some (.str (wd d)), x10, x11] S := by
  have sg := lg_sg d hd
  have hf : Fit S d := ⟨3, 2, by omega, sg_okd sg S⟩
  simp only [DW.wG, DW.wGs, gsLen, List.set_cons_succ, List.set_cons_zero, wB, wS, DW.wT, DW.wTs, DW.wE, DW.wA, DW.wO, DW.wI, List.getElem?_cons_succ, List.getElem?_cons_zero, cmp_eq, cmp_ne, cmp_in, cmp_nin, inA_tup, inA_ktup, op_shl', op_shr', op_and', op_or', op_xor', is_bl, isn_bl, iter_ktup, cmp_lt, cmp_le, cmp_gt, cmp_ge, tru_non, tru_bl, tru_int, tru_tup, op_addi, op_subi, op_muli, op_divi, op_modi, op_powi, op_addt, op_rept, len_tup, len_rol, idx_tup, idx_rol, slc_tup, iter_tup, iter_rol, eqc_int, LIM, Nat.reduceLeDiff, dBlt, dInt1, defEnds, startD, List.map_cons, List.map_nil, List.length_cons, List.length_nil, List.replicate_succ, List.replicate_zero, List.cons_append, List.nil_append, Nat.reduceAdd, Nat.reduceSub, Nat.zero_add, and_true, true_and, if_true, Bool.false_eq_true, if_false, ir_law_b0]
  refine idx_dkl hk (kv_find lg_nodup hd) ?_
  simp only [DW.wG, DW.wGs, gsLen, List.set_cons_succ, List.set_cons_zero, wB, wS, DW.wT, DW.wTs, DW.wE, DW.wA, DW.wO, DW.wI, List.getElem?_cons_succ, List.getElem?_cons_zero, cmp_eq, cmp_ne, cmp_in, cmp_nin, inA_tup, inA_ktup, op_shl', op_shr', op_and', op_or', op_xor', is_bl, isn_bl, iter_ktup, cmp_lt, cmp_le, cmp_gt, cmp_ge, tru_non, tru_bl, tru_int, tru_tup, op_addi, op_subi, op_muli, op_divi, op_modi, op_powi, op_addt, op_rept, len_tup, len_rol, idx_tup, idx_rol, slc_tup, iter_tup, iter_rol, eqc_int, LIM, Nat.reduceLeDiff, dBlt, dInt1, defEnds, startD, List.map_cons, List.map_nil, List.length_cons, List.length_nil, List.replicate_succ, List.replicate_zero, List.cons_append, List.nil_append, Nat.reduceAdd, Nat.reduceSub, Nat.zero_add, and_true, true_and, if_true, Bool.false_eq_true, if_false, isi_fit hf (kit_tuple d hf.nty), f8]
  rcases bb (isTup d) with h1 | h1
  · simp only [h1, if_true, true_and, Bool.false_eq_true, if_false, Bool.and_true, Bool.and_false, Bool.true_and, Bool.false_and, Bool.not_true, Bool.not_false, Bool.or_true, Bool.or_false, Bool.true_or, Bool.false_or]
    have n1 := sg_one d sg h1
    refine ⟨by omega, .str (wd d), rfl, .inl ⟨_, rfl, Nat.le_trans (sg_len d sg) (by omega)⟩, fun S1 e1 => ?_⟩
    have r := rd_txt n1
    rw [txt_one] at r
    rw [r]
    simp only [DW.wG, DW.wGs, gsLen, List.set_cons_succ, List.set_cons_zero, wB, wS, DW.wT, DW.wTs, DW.wE, DW.wA, DW.wO, DW.wI, List.getElem?_cons_succ, List.getElem?_cons_zero, cmp_eq, cmp_ne, cmp_in, cmp_nin, inA_tup, inA_ktup, op_shl', op_shr', op_and', op_or', op_xor', is_bl, isn_bl, iter_ktup, cmp_lt, cmp_le, cmp_gt, cmp_ge, tru_non, tru_bl, tru_int, tru_tup, op_addi, op_subi, op_muli, op_divi, op_modi, op_powi, op_addt, op_rept, len_tup, len_rol, idx_tup, idx_rol, slc_tup, iter_tup, iter_rol, eqc_int, LIM, Nat.reduceLeDiff, dBlt, dInt1, defEnds, startD, List.map_cons, List.map_nil, List.length_cons, List.length_nil, List.replicate_succ, List.replicate_zero, List.cons_append, List.nil_append, Nat.reduceAdd, Nat.reduceSub, Nat.zero_add, and_true, true_and, if_true, Bool.false_eq_true, if_false, f7]
    refine ⟨hl, .tup [d], rfl, (fit_signs (by simpa using sg)), fun S2 e2 => ?_⟩
    rw [if_pos n1]
    show dEq (.tup [.tup [d], .str (wd d)]) (.tup [.tup [d], .str (wd d)]) S2 _
    refine dEq_w (sg_two d sg) ?_
    simp only [if_true, true_and, Bool.false_eq_true, if_false, Bool.and_true, Bool.and_false, Bool.true_and, Bool.false_and, Bool.not_true, Bool.not_false, Bool.or_true, Bool.or_false, Bool.true_or, Bool.false_or]
    exact hE S2 _ (e1.trans e2)
  · simp only [h1, if_true, true_and, Bool.false_eq_true, if_false, Bool.and_true, Bool.and_false, Bool.true_and, Bool.false_and, Bool.not_true, Bool.not_false, Bool.or_true, Bool.or_false, Bool.true_or, Bool.false_or]
    exact hE S _ (Ext.refl S)
theorem walk_loop {fs : FEnv} {n : Nat} (f7 : fs.f "notice_text" = some (lv n 7 spText)) (f8 : fs.f "read_notice" = some (lv n 6 spRead)) (hl : 7 ≤ n) {E : DEnds} {x0 x2 x3 x4 x5 x6 x7 x8 x11 : Option D} {k : Nat} :
    ∀ (vs : List D), (∀ v ∈ vs, v ∈ LG) → ∀ (x9 x10 : Option D) (S : Sto), S[k]? = some (.dkl (kvOf LG)) → (∀ S' x9 x10, S'[k]? = some (.dkl (kvOf LG)) → E.nx [x0, some (.ref k), x2, x3, x4, x5, x6, x7, x8, x9, x10, x11] S') →
      fLoop (fun S' => S'[k]? = some (.dkl (kvOf LG))) (fun d ρ' S' k => DW.wG fs (.name 9) d ρ' S' noX k) (fun E' ρ' S' => wB fs ir_law_b0 E' ρ' S') E (vs.map fun v => .str (wd v)) [x0, some (.ref k), x2, x3, x4, x5, x6, x7, x8, x9, x10, x11] S
  | [], _, x9, x10, S, hk, hE => ⟨hk, hE S x9 x10 hk⟩
  | v :: r, hv, x9, x10, S, hk, hE => by
    refine ⟨hk, ?_⟩
    simp only [DW.wG, DW.wGs, gsLen, List.set_cons_succ, List.set_cons_zero, wB, wS, DW.wT, DW.wTs, DW.wE, DW.wA, DW.wO, DW.wI, List.getElem?_cons_succ, List.getElem?_cons_zero, cmp_eq, cmp_ne, cmp_in, cmp_nin, inA_tup, inA_ktup, op_shl', op_shr', op_and', op_or', op_xor', is_bl, isn_bl, iter_ktup, cmp_lt, cmp_le, cmp_gt, cmp_ge, tru_non, tru_bl, tru_int, tru_tup, op_addi, op_subi, op_muli, op_divi, op_modi, op_powi, op_addt, op_rept, len_tup, len_rol, idx_tup, idx_rol, slc_tup, iter_tup, iter_rol, eqc_int, LIM, Nat.reduceLeDiff, dBlt, dInt1, defEnds, startD, List.map_cons, List.map_nil, List.length_cons, List.length_nil, List.replicate_succ, List.replicate_zero, List.cons_append, List.nil_append, Nat.reduceAdd, Nat.reduceSub, Nat.zero_add, and_true, true_and, if_true, Bool.false_eq_true, if_false]
    refine law_b0 f7 f8 hl (hv v List.mem_cons_self) hk fun S' x10 e' => ?_
    exact walk_loop f7 f8 hl r (fun w hw => hv w (List.mem_cons_of_mem _ hw)) _ x10 S' (e' _ _ hk) hE
theorem main_loop {fs : FEnv} {n : Nat} (f1 : fs.f "_law_tried" = some (lv n 7 spTried)) (f2 : fs.f "_law_due" = some (lv n 6 spDue)) (f3 : fs.f "_law_bent" = some (lv n 4 spBent)) (f4 : fs.f "_law_source" = some (lv n 2 spSource)) (f5 : fs.f "_law_notice" = some (lv n 5 spNotice)) (f6 : fs.f "_law_word_of" = some (lv n 2 spWord)) (f7 : fs.f "notice_text" = some (lv n 7 spText)) (f8 : fs.f "read_notice" = some (lv n 6 spRead)) (hl : 7 ≤ n)
    {E : DEnds} {k : Nat} {d : D} {ns : List Int} (hn : ns.length ≤ 63) {S0 : Sto} (hd : Scr S0 d ns) (tab : TabL S0 k) {x9 x10 x11 : Option D} :
    ∀ (vs : List D), (∀ v ∈ vs, ∃ j : Nat, v = .int j ∧ j ≤ 63) → ∀ (x2 x3 x4 x5 x6 x7 x8 : Option D) (S : Sto), Ext S0 S → (∀ S' x2 x3 x4 x5 x6 x7 x8, Ext S0 S' → E.nx [some d, some (.ref k), x2, x3, x4, x5, x6, x7, x8, x9, x10, x11] S') →
      fLoop (fun _ => True) (fun d ρ' S' k => DW.wG fs (.name 2) d ρ' S' noX k) (fun E' ρ' S' => wB fs ir_law_b3 E' ρ' S') E vs [some d, some (.ref k), x2, x3, x4, x5, x6, x7, x8, x9, x10, x11] S
  | [], _, x2, x3, x4, x5, x6, x7, x8, S, e, hE => ⟨trivial, hE S x2 x3 x4 x5 x6 x7 x8 e⟩
  | v :: r, hv, x2, x3, x4, x5, x6, x7, x8, S, e, hE => by
    refine ⟨trivial, ?_⟩
    simp only [DW.wG, DW.wGs, gsLen, List.set_cons_succ, List.set_cons_zero, wB, wS, DW.wT, DW.wTs, DW.wE, DW.wA, DW.wO, DW.wI, List.getElem?_cons_succ, List.getElem?_cons_zero, cmp_eq, cmp_ne, cmp_in, cmp_nin, inA_tup, inA_ktup, op_shl', op_shr', op_and', op_or', op_xor', is_bl, isn_bl, iter_ktup, cmp_lt, cmp_le, cmp_gt, cmp_ge, tru_non, tru_bl, tru_int, tru_tup, op_addi, op_subi, op_muli, op_divi, op_modi, op_powi, op_addt, op_rept, len_tup, len_rol, idx_tup, idx_rol, slc_tup, iter_tup, iter_rol, eqc_int, LIM, Nat.reduceLeDiff, dBlt, dInt1, defEnds, startD, List.map_cons, List.map_nil, List.length_cons, List.length_nil, List.replicate_succ, List.replicate_zero, List.cons_append, List.nil_append, Nat.reduceAdd, Nat.reduceSub, Nat.zero_add, and_true, true_and, if_true, Bool.false_eq_true, if_false]
    obtain ⟨j, rfl, hj⟩ := hv v List.mem_cons_self
    refine law_b3 f1 f2 f3 f4 f5 f6 f7 f8 hl (hd.ext e) hn hj (tab.ext e) fun S' x3 x4 x5 x6 x7 x8 e' => ?_
    exact main_loop f1 f2 f3 f4 f5 f6 f7 f8 hl hn hd tab r (fun w hw => hv w (List.mem_cons_of_mem _ hw)) _ _ _ _ _ _ _ S' (e.trans e') hE
/-! ### the rows at the end -/
def rowsT : List Str := ["", "and", "all-a-b and", "all-a-a", "has-4-a", "has-01-a", "all-a-b  and all-b-a", "all-a-b all-b-a", "All-a-b", "( all-a-b", "not", " all-a-b", "all-a-b ", "some-b-a or not-", "least-1-a", "1-has-a"]
def rowsA : List D := [.int 1, .int 2, .int 3, .int 1, .int 1, .int 1, .int 2, .int 3, .int 1, .int 3, .int 2, .int 1, .int 2, .int 3, .int 1, .int 1]
theorem rows_len : ∀ t ∈ rowsT, t.length ≤ 50000 := by
  have : rowsT.all (fun t => decide (t.length ≤ 50000)) = true := by decide +kernel
  exact fun t h => of_decide_eq_true (List.all_eq_true.mp this t h)
theorem rows_due : rowsT.map (fun t => dueD (.str t)) = rowsA := by kernel_rfl
theorem add_ls {S : Sto} {xs ys : List D} {Q : KQ} (hq : ∀ S' m, S'[m]? = some (.lst (xs ++ ys)) → Q (.ref m) S') (hl : xs.length + ys.length ≤ LIM := by decide) : dOp .Add (.ref S.length) (.ref (S ++ [Ob.lst xs]).length) (S ++ [Ob.lst xs] ++ [Ob.lst ys]) Q := by
  rw [op_addl (Ext.app _ _ _ _ (sto_last S _)) (sto_last _ _)]
  exact ⟨hl, hq _ _ (sto_last _ _)⟩
theorem add_l {S : Sto} {m : Nat} {xs ys : List D} {Q : KQ} (h : S[m]? = some (.lst xs)) (hq : ∀ S' m, S'[m]? = some (.lst (xs ++ ys)) → Q (.ref m) S') (hl : xs.length + ys.length ≤ LIM := by decide) : dOp .Add (.ref m) (.ref S.length) (S ++ [Ob.lst ys]) Q := by
  rw [op_addl (Ext.app _ _ _ _ h) (sto_last _ _)]
  exact ⟨hl, hq _ _ (sto_last _ _)⟩
theorem ob_law {fs : FEnv} (n : Nat) (f0 : fs.f "_law_words" = some (lv n 2 spWords)) (f1 : fs.f "_law_tried" = some (lv n 7 spTried)) (f2 : fs.f "_law_due" = some (lv n 6 spDue)) (f3 : fs.f "_law_bent" = some (lv n 4 spBent)) (f4 : fs.f "_law_source" = some (lv n 2 spSource)) (f5 : fs.f "_law_notice" = some (lv n 5 spNotice)) (f6 : fs.f "_law_word_of" = some (lv n 2 spWord)) (f7 : fs.f "notice_text" = some (lv n 7 spText)) (f8 : fs.f "read_notice" = some (lv n 6 spRead)) (ds : List D) (S : Sto) (Q : KQ) (X : KX) (h : lv (n + 1) 20 spLaw ds S Q X) : wB fs ir_law (defEnds Q X) (startD C_law.N ds) S := by
  obtain ⟨hl, d, ns, rfl, hd, hn, q⟩ := h
  simp only [DW.wG, DW.wGs, gsLen, List.set_cons_succ, List.set_cons_zero, wB, wS, DW.wT, DW.wTs, DW.wE, DW.wA, DW.wO, DW.wI, List.getElem?_cons_succ, List.getElem?_cons_zero, cmp_eq, cmp_ne, cmp_in, cmp_nin, inA_tup, inA_ktup, op_shl', op_shr', op_and', op_or', op_xor', is_bl, isn_bl, iter_ktup, cmp_lt, cmp_le, cmp_gt, cmp_ge, tru_non, tru_bl, tru_int, tru_tup, op_addi, op_subi, op_muli, op_divi, op_modi, op_powi, op_addt, op_rept, len_tup, len_rol, idx_tup, idx_rol, slc_tup, iter_tup, iter_rol, eqc_int, LIM, Nat.reduceLeDiff, dBlt, dInt1, defEnds, startD, List.map_cons, List.map_nil, List.length_cons, List.length_nil, List.replicate_succ, List.replicate_zero, List.cons_append, List.nil_append, Nat.reduceAdd, Nat.reduceSub, Nat.zero_add, and_true, true_and, if_true, Bool.false_eq_true, if_false, ir_law, f0]
  refine ⟨by omega, rfl, fun S1 k e1 _ tab => ?_⟩
  simp only [DW.wG, DW.wGs, gsLen, List.set_cons_succ, List.set_cons_zero, wB, wS, DW.wT, DW.wTs, DW.wE, DW.wA, DW.wO, DW.wI, List.getElem?_cons_succ, List.getElem?_cons_zero, cmp_eq, cmp_ne, cmp_in, cmp_nin, inA_tup, inA_ktup, op_shl', op_shr', op_and', op_or', op_xor', is_bl, isn_bl, iter_ktup, cmp_lt, cmp_le, cmp_gt, cmp_ge, tru_non, tru_bl, tru_int, tru_tup, op_addi, op_subi, op_muli, op_divi, op_modi, op_powi, op_addt, op_rept, len_tup, len_rol, idx_tup, idx_rol, slc_tup, iter_tup, iter_rol, eqc_int, LIM, Nat.reduceLeDiff, dBlt, dInt1, defEnds, startD, List.map_cons, List.map_nil, List.length_cons, List.length_nil, List.replicate_succ, List.replicate_zero, List.cons_append, List.nil_append, Nat.reduceAdd, Nat.reduceSub, Nat.zero_add, and_true, true_and, if_true, Bool.false_eq_true, if_false]
  rw [(hd.ext e1).len]
  simp only [DW.wG, DW.wGs, gsLen, List.set_cons_succ, List.set_cons_zero, wB, wS, DW.wT, DW.wTs, DW.wE, DW.wA, DW.wO, DW.wI, List.getElem?_cons_succ, List.getElem?_cons_zero, cmp_eq, cmp_ne, cmp_in, cmp_nin, inA_tup, inA_ktup, op_shl', op_shr', op_and', op_or', op_xor', is_bl, isn_bl, iter_ktup, cmp_lt, cmp_le, cmp_gt, cmp_ge, tru_non, tru_bl, tru_int, tru_tup, op_addi, op_subi, op_muli, op_divi, op_modi, op_powi, op_addt, op_rept, len_tup, len_rol, idx_tup, idx_rol, slc_tup, iter_tup, iter_rol, eqc_int, LIM, Nat.reduceLeDiff, dBlt, dInt1, defEnds, startD, List.map_cons, List.map_nil, List.length_cons, List.length_nil, List.replicate_succ, List.replicate_zero, List.cons_append, List.nil_append, Nat.reduceAdd, Nat.reduceSub, Nat.zero_add, and_true, true_and, if_true, Bool.false_eq_true, if_false]
  refine ⟨⟨by omega, by omega⟩, ?_⟩
  refine main_loop f1 f2 f3 f4 f5 f6 f7 f8 (by omega) hn (hd.ext e1) tab _ (fun v hv => ?_) _ _ _ _ _ _ _ S1 (Ext.refl _) fun S2 x2 x3 x4 x5 x6 x7 x8 e2 => ?_
  · obtain ⟨i, hi, rfl⟩ := List.mem_map.mp hv
    have := List.mem_range.mp hi
    refine ⟨i, by simp, ?_⟩
    split at this <;> omega
  have tab2 := tab.ext e2
  simp only [DW.wG, DW.wGs, gsLen, List.set_cons_succ, List.set_cons_zero, wB, wS, DW.wT, DW.wTs, DW.wE, DW.wA, DW.wO, DW.wI, List.getElem?_cons_succ, List.getElem?_cons_zero, cmp_eq, cmp_ne, cmp_in, cmp_nin, inA_tup, inA_ktup, op_shl', op_shr', op_and', op_or', op_xor', is_bl, isn_bl, iter_ktup, cmp_lt, cmp_le, cmp_gt, cmp_ge, tru_non, tru_bl, tru_int, tru_tup, op_addi, op_subi, op_muli, op_divi, op_modi, op_powi, op_addt, op_rept, len_tup, len_rol, idx_tup, idx_rol, slc_tup, iter_tup, iter_rol, eqc_int, LIM, Nat.reduceLeDiff, dBlt, dInt1, defEnds, startD, List.map_cons, List.map_nil, List.length_cons, List.length_nil, List.replicate_succ, List.replicate_zero, List.cons_append, List.nil_append, Nat.reduceAdd, Nat.reduceSub, Nat.zero_add, and_true, true_and, if_true, Bool.false_eq_true, if_false]
  refine ⟨kvOf LG, tab2, ?_⟩
  have kl : (kvOf LG).map (fun kv => kD kv.1) = LG.map (fun v => .str (wd v)) := by
    unfold kvOf
    rw [List.map_map]
    rfl
  rw [kl]
  refine walk_loop f7 f8 (by omega) LG (fun v h => h) _ _ _ (sto_set tab2) fun S3 x9 x10 h3 => ?_
  refine ⟨h3, ?_⟩
  generalize S3.set k (.dk (kvOf LG)) = S4
  simp only [DW.wG, DW.wGs, gsLen, List.set_cons_succ, List.set_cons_zero, wB, wS, DW.wT, DW.wTs, DW.wE, DW.wA, DW.wO, DW.wI, List.getElem?_cons_succ, List.getElem?_cons_zero, cmp_eq, cmp_ne, cmp_in, cmp_nin, inA_tup, inA_ktup, op_shl', op_shr', op_and', op_or', op_xor', is_bl, isn_bl, iter_ktup, cmp_lt, cmp_le, cmp_gt, cmp_ge, tru_non, tru_bl, tru_int, tru_tup, op_addi, op_subi, op_muli, op_divi, op_modi, op_powi, op_addt, op_rept, len_tup, len_rol, idx_tup, idx_rol, slc_tup, iter_tup, iter_rol, eqc_int, LIM, Nat.reduceLeDiff, dBlt, dInt1, defEnds, startD, List.map_cons, List.map_nil, List.length_cons, List.length_nil, List.replicate_succ, List.replicate_zero, List.cons_append, List.nil_append, Nat.reduceAdd, Nat.reduceSub, Nat.zero_add, and_true, true_and, if_true, Bool.false_eq_true, if_false]
  -- the rows
  refine add_ls fun S5 m5 h5 => ?_
  refine add_l (h5) fun S6 m6 h6 => ?_
  have h6 : S6[m6]? = some (.lst (rowsT.map D.str)) := h6
  unfold ir_law_l0
  refine map_lcp dueD (xs := rowsT.map D.str) (by rw [List.length_map]; decide) (it_ref h6 fun k q => (by simp only [DW.wG, DW.wGs, gsLen, List.set_cons_succ, List.set_cons_zero, wB, wS, DW.wT, DW.wTs, DW.wE, DW.wA, DW.wO, DW.wI, List.getElem?_cons_succ, List.getElem?_cons_zero, cmp_eq, cmp_ne, cmp_in, cmp_nin, inA_tup, inA_ktup, op_shl', op_shr', op_and', op_or', op_xor', is_bl, isn_bl, iter_ktup, cmp_lt, cmp_le, cmp_gt, cmp_ge, tru_non, tru_bl, tru_int, tru_tup, op_addi, op_subi, op_muli, op_divi, op_modi, op_powi, op_addt, op_rept, len_tup, len_rol, idx_tup, idx_rol, slc_tup, iter_tup, iter_rol, eqc_int, LIM, Nat.reduceLeDiff, dBlt, dInt1, defEnds, startD, List.map_cons, List.map_nil, List.length_cons, List.length_nil, List.replicate_succ, List.replicate_zero, List.cons_append, List.nil_append, Nat.reduceAdd, Nat.reduceSub, Nat.zero_add, and_true, true_and, if_true, Bool.false_eq_true, if_false]; exact q)) (fun v hv S7 R e7 kk => ?_) fun S7 p e7 _ h7 => ?_
  · obtain ⟨t, ht, rfl⟩ := List.mem_map.mp hv
    simp only [DW.wG, DW.wGs, gsLen, List.set_cons_succ, List.set_cons_zero, wB, wS, DW.wT, DW.wTs, DW.wE, DW.wA, DW.wO, DW.wI, List.getElem?_cons_succ, List.getElem?_cons_zero, cmp_eq, cmp_ne, cmp_in, cmp_nin, inA_tup, inA_ktup, op_shl', op_shr', op_and', op_or', op_xor', is_bl, isn_bl, iter_ktup, cmp_lt, cmp_le, cmp_gt, cmp_ge, tru_non, tru_bl, tru_int, tru_tup, op_addi, op_subi, op_muli, op_divi, op_modi, op_powi, op_addt, op_rept, len_tup, len_rol, idx_tup, idx_rol, slc_tup, iter_tup, iter_rol, eqc_int, LIM, Nat.reduceLeDiff, dBlt, dInt1, defEnds, startD, List.map_cons, List.map_nil, List.length_cons, List.length_nil, List.replicate_succ, List.replicate_zero, List.cons_append, List.nil_append, Nat.reduceAdd, Nat.reduceSub, Nat.zero_add, and_true, true_and, if_true, Bool.false_eq_true, if_false, wipeD, f1]
    exact ⟨by omega, _, rfl, .inl ⟨t, rfl, rows_len t ht⟩, kk⟩
  · have h7 : S7[p]? = some (.lst rowsA) := by rw [h7, List.map_map]; exact congrArg (fun x => some (Ob.lst x)) rows_due
    refine dEq_ll (xs := rowsA) (ys := rowsA) (Ext.app S7 _ _ _ h7) (sto_last S7 _) (by decide +kernel) (by decide +kernel) ?_
    have : eqcs rowsA rowsA = true := by decide +kernel
    rw [this]
    exact q _
end K08

set_option Elab.async false
set_option linter.all false
set_option maxRecDepth 100000
set_option maxHeartbeats 1000000

namespace K08
open PySem PySem.Spec PyProof.Rows L2 DW KP KS

/-- what the written part must show -/
structure Facts (P : Program) (K : PySem.W.Frag) (CInvalidNotice CInvalidText : Addr) : Prop where
  f_is_row : FunAt K "is_row" s_is_row
  f_is_notice : FunAt K "is_notice" s_is_notice
  f_is_sign : FunAt K "is_sign" s_is_sign
  f_is_number : FunAt K "is_number" s_is_number
  f__is_triple : FunAt K "_is_triple" s__is_triple
  f_check_notice : FunAt K "check_notice" s_check_notice
  f_notice_text : FunAt K "notice_text" s_notice_text
  f_read_notice : FunAt K "read_notice" s_read_notice
  f__word : FunAt K "_word" s__word
  f__all_signs : FunAt K "_all_signs" s__all_signs
  f__law_source : FunAt K "_law_source" s__law_source
  f__law_draw : FunAt K "_law_draw" s__law_draw
  f__law_choice : FunAt K "_law_choice" s__law_choice
  f__law_clause : FunAt K "_law_clause" s__law_clause
  f__law_notice : FunAt K "_law_notice" s__law_notice
  f__law_word_of : FunAt K "_law_word_of" s__law_word_of
  f__law_words : FunAt K "_law_words" s__law_words
  f__law_due : FunAt K "_law_due" s__law_due
  f__law_bent : FunAt K "_law_bent" s__law_bent
  f__law_tried : FunAt K "_law_tried" s__law_tried
  f_law : FunAt K "law" s_law
  k_JOINTS : ConAt K "JOINTS" c_JOINTS
  k_MOST_SIGNS : ConAt K "MOST_SIGNS" c_MOST_SIGNS
  k_MOST_CLAUSES : ConAt K "MOST_CLAUSES" c_MOST_CLAUSES
  k_MOST_TOLD : ConAt K "MOST_TOLD" c_MOST_TOLD
  k_MARK_CLAUSES : ConAt K "MARK_CLAUSES" c_MARK_CLAUSES
  k_COUNT_CLAUSES : ConAt K "COUNT_CLAUSES" c_COUNT_CLAUSES
  k_MARKS : ConAt K "MARKS" c_MARKS
  k_COUNTED : ConAt K "COUNTED" c_COUNTED
  k_OTHER_SIGNS : ConAt K "OTHER_SIGNS" c_OTHER_SIGNS
  g_InvalidNotice : ErrG K "InvalidNotice" CInvalidNotice
  e_InvalidNotice : Err0 K CInvalidNotice
  g_InvalidText : ErrG K "InvalidText" CInvalidText
  e_InvalidText : Err1 P K CInvalidText "word" "word" "no text of a notice, as word " (some " shows")
  s_InvalidNotice_InvalidNotice : PySem.W.subIn K (.ref CInvalidNotice) (.ref CInvalidNotice) = some true
  s_InvalidNotice_InvalidText : PySem.W.subIn K (.ref CInvalidNotice) (.ref CInvalidText) = some false
  s_InvalidText_InvalidNotice : PySem.W.subIn K (.ref CInvalidText) (.ref CInvalidNotice) = some false
  s_InvalidText_InvalidText : PySem.W.subIn K (.ref CInvalidText) (.ref CInvalidText) = some true
  b_str : PySem.W.nsIn K mainGlobals "str" = some none
  b_sorted : PySem.W.nsIn K mainGlobals "sorted" = some none
  b_enumerate : PySem.W.nsIn K mainGlobals "enumerate" = some none
  b_len : PySem.W.nsIn K mainGlobals "len" = some none
  b_isinstance : PySem.W.nsIn K mainGlobals "isinstance" = some none
  b_all : PySem.W.nsIn K mainGlobals "all" = some none
  b_abs : PySem.W.nsIn K mainGlobals "abs" = some none
  b_int : PySem.W.nsIn K mainGlobals "int" = some none
  b_min : PySem.W.nsIn K mainGlobals "min" = some none
  b_tuple : PySem.W.nsIn K mainGlobals "tuple" = some none
  b_bool : PySem.W.nsIn K mainGlobals "bool" = some none
  b_range : PySem.W.nsIn K mainGlobals "range" = some none
/-- the classes -/
abbrev cls (CInvalidNotice CInvalidText : Addr) : List (Str × Addr × Option Str) := [("InvalidNotice", CInvalidNotice, none), ("InvalidText", CInvalidText, (some "word"))]
section
variable [Tb : Tbl] {P : Program} {w : World} {K : PySem.W.Frag} {mg : Str → Option Value} {base : Heap} {CInvalidNotice CInvalidText : Addr}
theorem cons_of {h : Heap} (X : K.In h) (G : h.Ns mainGlobals mg) (Fa : Facts P K CInvalidNotice CInvalidText) : ∀ (x : Str) (d : D), CON.lookup x = some d → ∃ v u, mg x = some u ∧ RelV v u ∧ ∀ φ H, Rep K φ H v d := by
  intro x d e
  have m := look_mem e
  simp only [CON, List.mem_cons, List.not_mem_nil, or_false, Prod.mk.injEq] at m
  rcases m with ⟨rfl, rfl⟩ | ⟨rfl, rfl⟩ | ⟨rfl, rfl⟩ | ⟨rfl, rfl⟩ | ⟨rfl, rfl⟩ | ⟨rfl, rfl⟩ | ⟨rfl, rfl⟩ | ⟨rfl, rfl⟩ | ⟨rfl, rfl⟩
  · exact con_of X G Fa.k_JOINTS
  · exact con_of X G Fa.k_MOST_SIGNS
  · exact con_of X G Fa.k_MOST_CLAUSES
  · exact con_of X G Fa.k_MOST_TOLD
  · exact con_of X G Fa.k_MARK_CLAUSES
  · exact con_of X G Fa.k_COUNT_CLAUSES
  · exact con_of X G Fa.k_MARKS
  · exact con_of X G Fa.k_COUNTED
  · exact con_of X G Fa.k_OTHER_SIGNS
theorem bns_of {h : Heap} (X : K.In h) (G : h.Ns mainGlobals mg) (Fa : Facts P K CInvalidNotice CInvalidText) : ∀ x, BN.contains x = true → mg x = none := by
  intro x e
  have m := List.contains_iff_mem.mp e
  simp only [BN, List.mem_cons, List.not_mem_nil, or_false] at m
  rcases m with rfl | rfl | rfl | rfl | rfl | rfl | rfl | rfl | rfl | rfl | rfl | rfl
  · exact PySem.W.mg_none_of X G Fa.b_str
  · exact PySem.W.mg_none_of X G Fa.b_sorted
  · exact PySem.W.mg_none_of X G Fa.b_enumerate
  · exact PySem.W.mg_none_of X G Fa.b_len
  · exact PySem.W.mg_none_of X G Fa.b_isinstance
  · exact PySem.W.mg_none_of X G Fa.b_all
  · exact PySem.W.mg_none_of X G Fa.b_abs
  · exact PySem.W.mg_none_of X G Fa.b_int
  · exact PySem.W.mg_none_of X G Fa.b_min
  · exact PySem.W.mg_none_of X G Fa.b_tuple
  · exact PySem.W.mg_none_of X G Fa.b_bool
  · exact PySem.W.mg_none_of X G Fa.b_range
theorem errs_of {h : Heap} (X : K.In h) (G : h.Ns mainGlobals mg) (hcl : Tb.cl = cls CInvalidNotice CInvalidText) (Fa : Facts P K CInvalidNotice CInvalidText) : ∀ c a, EXS.lookup c = some a → ∃ Ca, ErrK P K mg c a Ca := by
  intro c a e
  have m := look_mem e
  simp only [EXS, List.mem_cons, List.not_mem_nil, or_false, Prod.mk.injEq] at m
  rcases m with ⟨rfl, rfl⟩ | ⟨rfl, rfl⟩
  · refine ⟨CInvalidNotice, errk0 X G Fa.g_InvalidNotice Fa.e_InvalidNotice (by rw [hcl]; rfl) fun c' C' a' h => ?_⟩
    rw [hcl] at h
    have m := look_mem h
    simp only [cls, List.mem_cons, List.not_mem_nil, or_false, Prod.mk.injEq] at m
    rcases m with ⟨rfl, rfl, rfl⟩ | ⟨rfl, rfl, rfl⟩
    · exact Fa.s_InvalidNotice_InvalidNotice
    · exact Fa.s_InvalidText_InvalidNotice
  · refine ⟨CInvalidText, errk1 X G Fa.g_InvalidText Fa.e_InvalidText (by rw [hcl]; rfl) fun c' C' a' h => ?_⟩
    rw [hcl] at h
    have m := look_mem h
    simp only [cls, List.mem_cons, List.not_mem_nil, or_false, Prod.mk.injEq] at m
    rcases m with ⟨rfl, rfl, rfl⟩ | ⟨rfl, rfl, rfl⟩
    · exact Fa.s_InvalidNotice_InvalidText
    · exact Fa.s_InvalidText_InvalidText
theorem top_of {h : Heap} (X : K.In h) (G : h.Ns mainGlobals mg) (hcl : Tb.cl = cls CInvalidNotice CInvalidText) (Fa : Facts P K CInvalidNotice CInvalidText) {n : Nat} (A : AllOk P w K mg base FN n (fsN n)) (C : DW.Ctx) (h1 : C.con = CON) (h2 : C.fn = FN) (h3 : C.bn = BN) (h4 : C.dcn = DCN) (h5 : C.exs = EXS) : Top P w K mg base n (fsN n) C :=
  ⟨by rw [h1]; exact cons_of X G Fa, by rw [h2]; exact A, by rw [h3]; exact bns_of X G Fa, by rw [h4]; exact fun _ _ h => (by cases h), by rw [h5]; exact errs_of X G hcl Fa⟩
theorem ok_is_row {h : Heap} (X : K.In h) (G : h.Ns mainGlobals mg) (Fa : Facts P K CInvalidNotice CInvalidText) {n : Nat} (T : ∀ m, n = m + 1 → Top P w K mg base m (fsN m) C_is_row) : Ok1 P w K mg base n (fsN n) "is_row" := by
  obtain ⟨f, oc, od, kV, doc, pm, an, cdv, ct, osl, a, l, c, k⟩ := Fa.f_is_row.ex
  have F := fun_mk (st := s_is_row) l c k
  refine ⟨lv n 2 spIsRow, rfl, f, _, ["signs"], ?_, PySem.W.mg_of X G a, k, F.binds fun _ _ _ _ _ _ us hl => match us, hl with | [_], _ => rfl⟩
  match n, T with
  | 0, _ => exact none_at fun ds S Q XD h => by have := h.1; omega
  | 1, _ => exact none_at fun ds S Q XD h => by have := h.1; omega
  | m + 2, T => exact fn_ok F sc_is_row rfl rfl rfl rfl rfl co_is_row (by omega) (T _ rfl) (fun ds S Q XD h => by first | (obtain ⟨_, rfl, _⟩ := h; rfl) | (obtain ⟨_, _, rfl, _⟩ := h; rfl) | (obtain ⟨_, _, _, rfl, _⟩ := h; rfl) | (obtain ⟨_, _, _, _, rfl, _⟩ := h; rfl) | (obtain ⟨_, _, _, _, _, rfl, _⟩ := h; rfl) | (obtain ⟨_, _, _, _, _, _, rfl, _⟩ := h; rfl) | (obtain ⟨_, _, _, _, _, _, _, rfl, _⟩ := h; rfl)) (fun ds S Q XD h => ob_is_row (m + 1)  ds S Q XD h)
theorem ok_is_notice {h : Heap} (X : K.In h) (G : h.Ns mainGlobals mg) (Fa : Facts P K CInvalidNotice CInvalidText) {n : Nat} (T : ∀ m, n = m + 1 → Top P w K mg base m (fsN m) C_is_notice) : Ok1 P w K mg base n (fsN n) "is_notice" := by
  obtain ⟨f, oc, od, kV, doc, pm, an, cdv, ct, osl, a, l, c, k⟩ := Fa.f_is_notice.ex
  have F := fun_mk (st := s_is_notice) l c k
  refine ⟨lv n 5 spIsNotice, rfl, f, _, ["value"], ?_, PySem.W.mg_of X G a, k, F.binds fun _ _ _ _ _ _ us hl => match us, hl with | [_], _ => rfl⟩
  match n, T with
  | 0, _ => exact none_at fun ds S Q XD h => by have := h.1; omega
  | 1, _ => exact none_at fun ds S Q XD h => by have := h.1; omega
  | m + 2, T => exact fn_ok F sc_is_notice rfl rfl rfl rfl rfl co_is_notice (by omega) (T _ rfl) (fun ds S Q XD h => by first | (obtain ⟨_, rfl, _⟩ := h; rfl) | (obtain ⟨_, _, rfl, _⟩ := h; rfl) | (obtain ⟨_, _, _, rfl, _⟩ := h; rfl) | (obtain ⟨_, _, _, _, rfl, _⟩ := h; rfl) | (obtain ⟨_, _, _, _, _, rfl, _⟩ := h; rfl) | (obtain ⟨_, _, _, _, _, _, rfl, _⟩ := h; rfl) | (obtain ⟨_, _, _, _, _, _, _, rfl, _⟩ := h; rfl)) (fun ds S Q XD h => ob_is_notice (m + 1) (f_is_sign _) (f_is_row _) ds S Q XD h)
theorem ok_is_sign {h : Heap} (X : K.In h) (G : h.Ns mainGlobals mg) (Fa : Facts P K CInvalidNotice CInvalidText) {n : Nat} (T : ∀ m, n = m + 1 → Top P w K mg base m (fsN m) C_is_sign) : Ok1 P w K mg base n (fsN n) "is_sign" := by
  obtain ⟨f, oc, od, kV, doc, pm, an, cdv, ct, osl, a, l, c, k⟩ := Fa.f_is_sign.ex
  have F := fun_mk (st := s_is_sign) l c k
  refine ⟨lv n 4 spIsSign, rfl, f, _, ["value"], ?_, PySem.W.mg_of X G a, k, F.binds fun _ _ _ _ _ _ us hl => match us, hl with | [_], _ => rfl⟩
  match n, T with
  | 0, _ => exact none_at fun ds S Q XD h => by have := h.1; omega
  | 1, _ => exact none_at fun ds S Q XD h => by have := h.1; omega
  | m + 2, T => exact fn_ok F sc_is_sign rfl rfl rfl rfl rfl co_is_sign (by omega) (T _ rfl) (fun ds S Q XD h => by first | (obtain ⟨_, rfl, _⟩ := h; rfl) | (obtain ⟨_, _, rfl, _⟩ := h; rfl) | (obtain ⟨_, _, _, rfl, _⟩ := h; rfl) | (obtain ⟨_, _, _, _, rfl, _⟩ := h; rfl) | (obtain ⟨_, _, _, _, _, rfl, _⟩ := h; rfl) | (obtain ⟨_, _, _, _, _, _, rfl, _⟩ := h; rfl) | (obtain ⟨_, _, _, _, _, _, _, rfl, _⟩ := h; rfl)) (fun ds S Q XD h => ob_is_sign (m + 1) (f__is_triple _) ds S Q XD h)
theorem ok_is_number {h : Heap} (X : K.In h) (G : h.Ns mainGlobals mg) (Fa : Facts P K CInvalidNotice CInvalidText) {n : Nat} (T : ∀ m, n = m + 1 → Top P w K mg base m (fsN m) C_is_number) : Ok1 P w K mg base n (fsN n) "is_number" := by
  obtain ⟨f, oc, od, kV, doc, pm, an, cdv, ct, osl, a, l, c, k⟩ := Fa.f_is_number.ex
  have F := fun_mk (st := s_is_number) l c k
  refine ⟨lv n 2 spIsNumber, rfl, f, _, ["value", "least", "most"], ?_, PySem.W.mg_of X G a, k, F.binds fun _ _ _ _ _ _ us hl => match us, hl with | [_, _, _], _ => rfl⟩
  match n, T with
  | 0, _ => exact none_at fun ds S Q XD h => by have := h.1; omega
  | 1, _ => exact none_at fun ds S Q XD h => by have := h.1; omega
  | m + 2, T => exact fn_ok F sc_is_number rfl rfl rfl rfl rfl co_is_number (by omega) (T _ rfl) (fun ds S Q XD h => by first | (obtain ⟨_, rfl, _⟩ := h; rfl) | (obtain ⟨_, _, rfl, _⟩ := h; rfl) | (obtain ⟨_, _, _, rfl, _⟩ := h; rfl) | (obtain ⟨_, _, _, _, rfl, _⟩ := h; rfl) | (obtain ⟨_, _, _, _, _, rfl, _⟩ := h; rfl) | (obtain ⟨_, _, _, _, _, _, rfl, _⟩ := h; rfl) | (obtain ⟨_, _, _, _, _, _, _, rfl, _⟩ := h; rfl)) (fun ds S Q XD h => ob_is_number (m + 1)  ds S Q XD h)
theorem ok__is_triple {h : Heap} (X : K.In h) (G : h.Ns mainGlobals mg) (Fa : Facts P K CInvalidNotice CInvalidText) {n : Nat} (T : ∀ m, n = m + 1 → Top P w K mg base m (fsN m) C__is_triple) : Ok1 P w K mg base n (fsN n) "_is_triple" := by
  obtain ⟨f, oc, od, kV, doc, pm, an, cdv, ct, osl, a, l, c, k⟩ := Fa.f__is_triple.ex
  have F := fun_mk (st := s__is_triple) l c k
  refine ⟨lv n 3 spIsTriple, rfl, f, _, ["value", "mark_words", "count_words"], ?_, PySem.W.mg_of X G a, k, F.binds fun _ _ _ _ _ _ us hl => match us, hl with | [_, _, _], _ => rfl⟩
  match n, T with
  | 0, _ => exact none_at fun ds S Q XD h => by have := h.1; omega
  | 1, _ => exact none_at fun ds S Q XD h => by have := h.1; omega
  | m + 2, T => exact fn_ok F sc__is_triple rfl rfl rfl rfl rfl co__is_triple (by omega) (T _ rfl) (fun ds S Q XD h => by first | (obtain ⟨_, rfl, _⟩ := h; rfl) | (obtain ⟨_, _, rfl, _⟩ := h; rfl) | (obtain ⟨_, _, _, rfl, _⟩ := h; rfl) | (obtain ⟨_, _, _, _, rfl, _⟩ := h; rfl) | (obtain ⟨_, _, _, _, _, rfl, _⟩ := h; rfl) | (obtain ⟨_, _, _, _, _, _, rfl, _⟩ := h; rfl) | (obtain ⟨_, _, _, _, _, _, _, rfl, _⟩ := h; rfl)) (fun ds S Q XD h => ob__is_triple (m + 1) (f_is_number _) ds S Q XD h)
theorem ok_check_notice {h : Heap} (X : K.In h) (G : h.Ns mainGlobals mg) (Fa : Facts P K CInvalidNotice CInvalidText) {n : Nat} (T : ∀ m, n = m + 1 → Top P w K mg base m (fsN m) C_check_notice) : Ok1 P w K mg base n (fsN n) "check_notice" := by
  obtain ⟨f, oc, od, kV, doc, pm, an, cdv, ct, osl, a, l, c, k⟩ := Fa.f_check_notice.ex
  have F := fun_mk (st := s_check_notice) l c k
  refine ⟨lv n 6 (spCheck isNotice "InvalidNotice"), rfl, f, _, ["value"], ?_, PySem.W.mg_of X G a, k, F.binds fun _ _ _ _ _ _ us hl => match us, hl with | [_], _ => rfl⟩
  match n, T with
  | 0, _ => exact none_at fun ds S Q XD h => by have := h.1; omega
  | 1, _ => exact none_at fun ds S Q XD h => by have := h.1; omega
  | m + 2, T => exact fn_ok F sc_check_notice rfl rfl rfl rfl rfl co_check_notice (by omega) (T _ rfl) (fun ds S Q XD h => by first | (obtain ⟨_, rfl, _⟩ := h; rfl) | (obtain ⟨_, _, rfl, _⟩ := h; rfl) | (obtain ⟨_, _, _, rfl, _⟩ := h; rfl) | (obtain ⟨_, _, _, _, rfl, _⟩ := h; rfl) | (obtain ⟨_, _, _, _, _, rfl, _⟩ := h; rfl) | (obtain ⟨_, _, _, _, _, _, rfl, _⟩ := h; rfl) | (obtain ⟨_, _, _, _, _, _, _, rfl, _⟩ := h; rfl)) (fun ds S Q XD h => ob_check_notice (m + 1) (f_is_notice _) ds S Q XD h)
theorem ok_notice_text {h : Heap} (X : K.In h) (G : h.Ns mainGlobals mg) (Fa : Facts P K CInvalidNotice CInvalidText) {n : Nat} (T : ∀ m, n = m + 1 → Top P w K mg base m (fsN m) C_notice_text) : Ok1 P w K mg base n (fsN n) "notice_text" := by
  obtain ⟨f, oc, od, kV, doc, pm, an, cdv, ct, osl, a, l, c, k⟩ := Fa.f_notice_text.ex
  have F := fun_mk (st := s_notice_text) l c k
  refine ⟨lv n 7 spText, rfl, f, _, ["notice"], ?_, PySem.W.mg_of X G a, k, F.binds fun _ _ _ _ _ _ us hl => match us, hl with | [_], _ => rfl⟩
  match n, T with
  | 0, _ => exact none_at fun ds S Q XD h => by have := h.1; omega
  | 1, _ => exact none_at fun ds S Q XD h => by have := h.1; omega
  | m + 2, T => exact fn_ok F sc_notice_text rfl rfl rfl rfl rfl co_notice_text (by omega) (T _ rfl) (fun ds S Q XD h => by first | (obtain ⟨_, rfl, _⟩ := h; rfl) | (obtain ⟨_, _, rfl, _⟩ := h; rfl) | (obtain ⟨_, _, _, rfl, _⟩ := h; rfl) | (obtain ⟨_, _, _, _, rfl, _⟩ := h; rfl) | (obtain ⟨_, _, _, _, _, rfl, _⟩ := h; rfl) | (obtain ⟨_, _, _, _, _, _, rfl, _⟩ := h; rfl) | (obtain ⟨_, _, _, _, _, _, _, rfl, _⟩ := h; rfl)) (fun ds S Q XD h => ob_notice_text (m + 1) (f_check_notice _) (f__word _) ds S Q XD h)
theorem ok_read_notice {h : Heap} (X : K.In h) (G : h.Ns mainGlobals mg) (Fa : Facts P K CInvalidNotice CInvalidText) {n : Nat} (T : ∀ m, n = m + 1 → Top P w K mg base m (fsN m) C_read_notice) : Ok1 P w K mg base n (fsN n) "read_notice" := by
  obtain ⟨f, oc, od, kV, doc, pm, an, cdv, ct, osl, a, l, c, k⟩ := Fa.f_read_notice.ex
  have F := fun_mk (st := s_read_notice) l c k
  refine ⟨lv n 6 spRead, rfl, f, _, ["value"], ?_, PySem.W.mg_of X G a, k, F.binds fun _ _ _ _ _ _ us hl => match us, hl with | [_], _ => rfl⟩
  match n, T with
  | 0, _ => exact none_at fun ds S Q XD h => by have := h.1; omega
  | 1, _ => exact none_at fun ds S Q XD h => by have := h.1; omega
  | m + 2, T => exact fn_ok F sc_read_notice rfl rfl rfl rfl rfl co_read_notice (by omega) (T _ rfl) (fun ds S Q XD h => by first | (obtain ⟨_, rfl, _⟩ := h; rfl) | (obtain ⟨_, _, rfl, _⟩ := h; rfl) | (obtain ⟨_, _, _, rfl, _⟩ := h; rfl) | (obtain ⟨_, _, _, _, rfl, _⟩ := h; rfl) | (obtain ⟨_, _, _, _, _, rfl, _⟩ := h; rfl) | (obtain ⟨_, _, _, _, _, _, rfl, _⟩ := h; rfl) | (obtain ⟨_, _, _, _, _, _, _, rfl, _⟩ := h; rfl)) (fun ds S Q XD h => ob_read_notice (m + 1) (f_is_notice _) (f__word _) (f__all_signs _) ds S Q XD h)
theorem ok__word {h : Heap} (X : K.In h) (G : h.Ns mainGlobals mg) (Fa : Facts P K CInvalidNotice CInvalidText) {n : Nat} (T : ∀ m, n = m + 1 → Top P w K mg base m (fsN m) C__word) : Ok1 P w K mg base n (fsN n) "_word" := by
  obtain ⟨f, oc, od, kV, doc, pm, an, cdv, ct, osl, a, l, c, k⟩ := Fa.f__word.ex
  have F := fun_mk (st := s__word) l c k
  refine ⟨lv n 2 spWord, rfl, f, _, ["sign"], ?_, PySem.W.mg_of X G a, k, F.binds fun _ _ _ _ _ _ us hl => match us, hl with | [_], _ => rfl⟩
  match n, T with
  | 0, _ => exact none_at fun ds S Q XD h => by have := h.1; omega
  | 1, _ => exact none_at fun ds S Q XD h => by have := h.1; omega
  | m + 2, T => exact fn_ok F sc__word rfl rfl rfl rfl rfl co__word (by omega) (T _ rfl) (fun ds S Q XD h => by first | (obtain ⟨_, rfl, _⟩ := h; rfl) | (obtain ⟨_, _, rfl, _⟩ := h; rfl) | (obtain ⟨_, _, _, rfl, _⟩ := h; rfl) | (obtain ⟨_, _, _, _, rfl, _⟩ := h; rfl) | (obtain ⟨_, _, _, _, _, rfl, _⟩ := h; rfl) | (obtain ⟨_, _, _, _, _, _, rfl, _⟩ := h; rfl) | (obtain ⟨_, _, _, _, _, _, _, rfl, _⟩ := h; rfl)) (fun ds S Q XD h => ob__word (m + 1)  ds S Q XD h)
theorem ok__all_signs {h : Heap} (X : K.In h) (G : h.Ns mainGlobals mg) (Fa : Facts P K CInvalidNotice CInvalidText) {n : Nat} (T : ∀ m, n = m + 1 → Top P w K mg base m (fsN m) C__all_signs) : Ok1 P w K mg base n (fsN n) "_all_signs" := by
  obtain ⟨f, oc, od, kV, doc, pm, an, cdv, ct, osl, a, l, c, k⟩ := Fa.f__all_signs.ex
  have F := fun_mk (st := s__all_signs) l c k
  refine ⟨lv n 2 spAllSigns, rfl, f, _, [], ?_, PySem.W.mg_of X G a, k, F.binds fun _ _ _ _ _ _ us hl => match us, hl with | [], _ => rfl⟩
  match n, T with
  | 0, _ => exact none_at fun ds S Q XD h => by have := h.1; omega
  | 1, _ => exact none_at fun ds S Q XD h => by have := h.1; omega
  | m + 2, T => exact fn_ok F sc__all_signs rfl rfl rfl rfl rfl co__all_signs (by omega) (T _ rfl) (fun ds S Q XD h => by first | (obtain ⟨_, rfl, _⟩ := h; rfl) | (obtain ⟨_, _, rfl, _⟩ := h; rfl) | (obtain ⟨_, _, _, rfl, _⟩ := h; rfl) | (obtain ⟨_, _, _, _, rfl, _⟩ := h; rfl) | (obtain ⟨_, _, _, _, _, rfl, _⟩ := h; rfl) | (obtain ⟨_, _, _, _, _, _, rfl, _⟩ := h; rfl) | (obtain ⟨_, _, _, _, _, _, _, rfl, _⟩ := h; rfl)) (fun ds S Q XD h => ob__all_signs (m + 1)  ds S Q XD h)
theorem ok__law_source {h : Heap} (X : K.In h) (G : h.Ns mainGlobals mg) (Fa : Facts P K CInvalidNotice CInvalidText) {n : Nat} (T : ∀ m, n = m + 1 → Top P w K mg base m (fsN m) C__law_source) : Ok1 P w K mg base n (fsN n) "_law_source" := by
  obtain ⟨f, oc, od, kV, doc, pm, an, cdv, ct, osl, a, l, c, k⟩ := Fa.f__law_source.ex
  have F := fun_mk (st := s__law_source) l c k
  refine ⟨lv n 2 spSource, rfl, f, _, ["_law_script", "_law_k"], ?_, PySem.W.mg_of X G a, k, F.binds fun _ _ _ _ _ _ us hl => match us, hl with | [_, _], _ => rfl⟩
  match n, T with
  | 0, _ => exact none_at fun ds S Q XD h => by have := h.1; omega
  | 1, _ => exact none_at fun ds S Q XD h => by have := h.1; omega
  | m + 2, T => exact fn_ok F sc__law_source rfl rfl rfl rfl rfl co__law_source (by omega) (T _ rfl) (fun ds S Q XD h => by first | (obtain ⟨_, rfl, _⟩ := h; rfl) | (obtain ⟨_, _, rfl, _⟩ := h; rfl) | (obtain ⟨_, _, _, rfl, _⟩ := h; rfl) | (obtain ⟨_, _, _, _, rfl, _⟩ := h; rfl) | (obtain ⟨_, _, _, _, _, rfl, _⟩ := h; rfl) | (obtain ⟨_, _, _, _, _, _, rfl, _⟩ := h; rfl) | (obtain ⟨_, _, _, _, _, _, _, rfl, _⟩ := h; rfl)) (fun ds S Q XD h => ob__law_source (m + 1)  ds S Q XD h)
theorem ok__law_draw {h : Heap} (X : K.In h) (G : h.Ns mainGlobals mg) (Fa : Facts P K CInvalidNotice CInvalidText) {n : Nat} (T : ∀ m, n = m + 1 → Top P w K mg base m (fsN m) C__law_draw) : Ok1 P w K mg base n (fsN n) "_law_draw" := by
  obtain ⟨f, oc, od, kV, doc, pm, an, cdv, ct, osl, a, l, c, k⟩ := Fa.f__law_draw.ex
  have F := fun_mk (st := s__law_draw) l c k
  refine ⟨lv n 2 spDraw, rfl, f, _, ["_law_source_here", "_law_many"], ?_, PySem.W.mg_of X G a, k, F.binds fun _ _ _ _ _ _ us hl => match us, hl with | [_, _], _ => rfl⟩
  match n, T with
  | 0, _ => exact none_at fun ds S Q XD h => by have := h.1; omega
  | 1, _ => exact none_at fun ds S Q XD h => by have := h.1; omega
  | m + 2, T => exact fn_ok F sc__law_draw rfl rfl rfl rfl rfl co__law_draw (by omega) (T _ rfl) (fun ds S Q XD h => by first | (obtain ⟨_, rfl, _⟩ := h; rfl) | (obtain ⟨_, _, rfl, _⟩ := h; rfl) | (obtain ⟨_, _, _, rfl, _⟩ := h; rfl) | (obtain ⟨_, _, _, _, rfl, _⟩ := h; rfl) | (obtain ⟨_, _, _, _, _, rfl, _⟩ := h; rfl) | (obtain ⟨_, _, _, _, _, _, rfl, _⟩ := h; rfl) | (obtain ⟨_, _, _, _, _, _, _, rfl, _⟩ := h; rfl)) (fun ds S Q XD h => ob__law_draw (m + 1)  ds S Q XD h)
theorem ok__law_choice {h : Heap} (X : K.In h) (G : h.Ns mainGlobals mg) (Fa : Facts P K CInvalidNotice CInvalidText) {n : Nat} (T : ∀ m, n = m + 1 → Top P w K mg base m (fsN m) C__law_choice) : Ok1 P w K mg base n (fsN n) "_law_choice" := by
  obtain ⟨f, oc, od, kV, doc, pm, an, cdv, ct, osl, a, l, c, k⟩ := Fa.f__law_choice.ex
  have F := fun_mk (st := s__law_choice) l c k
  refine ⟨lv n 3 spChoice, rfl, f, _, ["_law_source_here", "_law_some"], ?_, PySem.W.mg_of X G a, k, F.binds fun _ _ _ _ _ _ us hl => match us, hl with | [_, _], _ => rfl⟩
  match n, T with
  | 0, _ => exact none_at fun ds S Q XD h => by have := h.1; omega
  | 1, _ => exact none_at fun ds S Q XD h => by have := h.1; omega
  | m + 2, T => exact fn_ok F sc__law_choice rfl rfl rfl rfl rfl co__law_choice (by omega) (T _ rfl) (fun ds S Q XD h => by first | (obtain ⟨_, rfl, _⟩ := h; rfl) | (obtain ⟨_, _, rfl, _⟩ := h; rfl) | (obtain ⟨_, _, _, rfl, _⟩ := h; rfl) | (obtain ⟨_, _, _, _, rfl, _⟩ := h; rfl) | (obtain ⟨_, _, _, _, _, rfl, _⟩ := h; rfl) | (obtain ⟨_, _, _, _, _, _, rfl, _⟩ := h; rfl) | (obtain ⟨_, _, _, _, _, _, _, rfl, _⟩ := h; rfl)) (fun ds S Q XD h => ob__law_choice (m + 1) (f__law_draw _) ds S Q XD h)
theorem ok__law_clause {h : Heap} (X : K.In h) (G : h.Ns mainGlobals mg) (Fa : Facts P K CInvalidNotice CInvalidText) {n : Nat} (T : ∀ m, n = m + 1 → Top P w K mg base m (fsN m) C__law_clause) : Ok1 P w K mg base n (fsN n) "_law_clause" := by
  obtain ⟨f, oc, od, kV, doc, pm, an, cdv, ct, osl, a, l, c, k⟩ := Fa.f__law_clause.ex
  have F := fun_mk (st := s__law_clause) l c k
  refine ⟨lv n 4 spClause, rfl, f, _, ["_law_source_here"], ?_, PySem.W.mg_of X G a, k, F.binds fun _ _ _ _ _ _ us hl => match us, hl with | [_], _ => rfl⟩
  match n, T with
  | 0, _ => exact none_at fun ds S Q XD h => by have := h.1; omega
  | 1, _ => exact none_at fun ds S Q XD h => by have := h.1; omega
  | m + 2, T => exact fn_ok F sc__law_clause rfl rfl rfl rfl rfl co__law_clause (by omega) (T _ rfl) (fun ds S Q XD h => by first | (obtain ⟨_, rfl, _⟩ := h; rfl) | (obtain ⟨_, _, rfl, _⟩ := h; rfl) | (obtain ⟨_, _, _, rfl, _⟩ := h; rfl) | (obtain ⟨_, _, _, _, rfl, _⟩ := h; rfl) | (obtain ⟨_, _, _, _, _, rfl, _⟩ := h; rfl) | (obtain ⟨_, _, _, _, _, _, rfl, _⟩ := h; rfl) | (obtain ⟨_, _, _, _, _, _, _, rfl, _⟩ := h; rfl)) (fun ds S Q XD h => ob__law_clause (m + 1) (f__law_draw _) (f__law_choice _) ds S Q XD h)
theorem ok__law_notice {h : Heap} (X : K.In h) (G : h.Ns mainGlobals mg) (Fa : Facts P K CInvalidNotice CInvalidText) {n : Nat} (T : ∀ m, n = m + 1 → Top P w K mg base m (fsN m) C__law_notice) : Ok1 P w K mg base n (fsN n) "_law_notice" := by
  obtain ⟨f, oc, od, kV, doc, pm, an, cdv, ct, osl, a, l, c, k⟩ := Fa.f__law_notice.ex
  have F := fun_mk (st := s__law_notice) l c k
  refine ⟨lv n 5 spNotice, rfl, f, _, ["_law_source_here", "_law_most"], ?_, PySem.W.mg_of X G a, k, F.binds fun _ _ _ _ _ _ us hl => match us, hl with | [_, _], _ => rfl⟩
  match n, T with
  | 0, _ => exact none_at fun ds S Q XD h => by have := h.1; omega
  | 1, _ => exact none_at fun ds S Q XD h => by have := h.1; omega
  | m + 2, T => exact fn_ok F sc__law_notice rfl rfl rfl rfl rfl co__law_notice (by omega) (T _ rfl) (fun ds S Q XD h => by first | (obtain ⟨_, rfl, _⟩ := h; rfl) | (obtain ⟨_, _, rfl, _⟩ := h; rfl) | (obtain ⟨_, _, _, rfl, _⟩ := h; rfl) | (obtain ⟨_, _, _, _, rfl, _⟩ := h; rfl) | (obtain ⟨_, _, _, _, _, rfl, _⟩ := h; rfl) | (obtain ⟨_, _, _, _, _, _, rfl, _⟩ := h; rfl) | (obtain ⟨_, _, _, _, _, _, _, rfl, _⟩ := h; rfl)) (fun ds S Q XD h => ob__law_notice (m + 1) (f__law_draw _) (f__law_choice _) (f__law_clause _) ds S Q XD h)
theorem ok__law_word_of {h : Heap} (X : K.In h) (G : h.Ns mainGlobals mg) (Fa : Facts P K CInvalidNotice CInvalidText) {n : Nat} (T : ∀ m, n = m + 1 → Top P w K mg base m (fsN m) C__law_word_of) : Ok1 P w K mg base n (fsN n) "_law_word_of" := by
  obtain ⟨f, oc, od, kV, doc, pm, an, cdv, ct, osl, a, l, c, k⟩ := Fa.f__law_word_of.ex
  have F := fun_mk (st := s__law_word_of) l c k
  refine ⟨lv n 2 spWord, rfl, f, _, ["_law_sign"], ?_, PySem.W.mg_of X G a, k, F.binds fun _ _ _ _ _ _ us hl => match us, hl with | [_], _ => rfl⟩
  match n, T with
  | 0, _ => exact none_at fun ds S Q XD h => by have := h.1; omega
  | 1, _ => exact none_at fun ds S Q XD h => by have := h.1; omega
  | m + 2, T => exact fn_ok F sc__law_word_of rfl rfl rfl rfl rfl co__law_word_of (by omega) (T _ rfl) (fun ds S Q XD h => by first | (obtain ⟨_, rfl, _⟩ := h; rfl) | (obtain ⟨_, _, rfl, _⟩ := h; rfl) | (obtain ⟨_, _, _, rfl, _⟩ := h; rfl) | (obtain ⟨_, _, _, _, rfl, _⟩ := h; rfl) | (obtain ⟨_, _, _, _, _, rfl, _⟩ := h; rfl) | (obtain ⟨_, _, _, _, _, _, rfl, _⟩ := h; rfl) | (obtain ⟨_, _, _, _, _, _, _, rfl, _⟩ := h; rfl)) (fun ds S Q XD h => ob__law_word_of (m + 1)  ds S Q XD h)
theorem ok__law_words {h : Heap} (X : K.In h) (G : h.Ns mainGlobals mg) (Fa : Facts P K CInvalidNotice CInvalidText) {n : Nat} (T : ∀ m, n = m + 1 → Top P w K mg base m (fsN m) C__law_words) : Ok1 P w K mg base n (fsN n) "_law_words" := by
  obtain ⟨f, oc, od, kV, doc, pm, an, cdv, ct, osl, a, l, c, k⟩ := Fa.f__law_words.ex
  have F := fun_mk (st := s__law_words) l c k
  refine ⟨lv n 2 spWords, rfl, f, _, [], ?_, PySem.W.mg_of X G a, k, F.binds fun _ _ _ _ _ _ us hl => match us, hl with | [], _ => rfl⟩
  match n, T with
  | 0, _ => exact none_at fun ds S Q XD h => by have := h.1; omega
  | 1, _ => exact none_at fun ds S Q XD h => by have := h.1; omega
  | m + 2, T => exact fn_ok F sc__law_words rfl rfl rfl rfl rfl co__law_words (by omega) (T _ rfl) (fun ds S Q XD h => by first | (obtain ⟨_, rfl, _⟩ := h; rfl) | (obtain ⟨_, _, rfl, _⟩ := h; rfl) | (obtain ⟨_, _, _, rfl, _⟩ := h; rfl) | (obtain ⟨_, _, _, _, rfl, _⟩ := h; rfl) | (obtain ⟨_, _, _, _, _, rfl, _⟩ := h; rfl) | (obtain ⟨_, _, _, _, _, _, rfl, _⟩ := h; rfl) | (obtain ⟨_, _, _, _, _, _, _, rfl, _⟩ := h; rfl)) (fun ds S Q XD h => ob__law_words (m + 1)  ds S Q XD h)
theorem ok__law_due {h : Heap} (X : K.In h) (G : h.Ns mainGlobals mg) (Fa : Facts P K CInvalidNotice CInvalidText) {n : Nat} (T : ∀ m, n = m + 1 → Top P w K mg base m (fsN m) C__law_due) : Ok1 P w K mg base n (fsN n) "_law_due" := by
  obtain ⟨f, oc, od, kV, doc, pm, an, cdv, ct, osl, a, l, c, k⟩ := Fa.f__law_due.ex
  have F := fun_mk (st := s__law_due) l c k
  refine ⟨lv n 6 spDue, rfl, f, _, ["_law_text", "_law_known"], ?_, PySem.W.mg_of X G a, k, F.binds fun _ _ _ _ _ _ us hl => match us, hl with | [_, _], _ => rfl⟩
  match n, T with
  | 0, _ => exact none_at fun ds S Q XD h => by have := h.1; omega
  | 1, _ => exact none_at fun ds S Q XD h => by have := h.1; omega
  | m + 2, T => exact fn_ok F sc__law_due rfl rfl rfl rfl rfl co__law_due (by omega) (T _ rfl) (fun ds S Q XD h => by first | (obtain ⟨_, rfl, _⟩ := h; rfl) | (obtain ⟨_, _, rfl, _⟩ := h; rfl) | (obtain ⟨_, _, _, rfl, _⟩ := h; rfl) | (obtain ⟨_, _, _, _, rfl, _⟩ := h; rfl) | (obtain ⟨_, _, _, _, _, rfl, _⟩ := h; rfl) | (obtain ⟨_, _, _, _, _, _, rfl, _⟩ := h; rfl) | (obtain ⟨_, _, _, _, _, _, _, rfl, _⟩ := h; rfl)) (fun ds S Q XD h => ob__law_due (m + 1) (f_is_notice _) ds S Q XD h)
theorem ok__law_bent {h : Heap} (X : K.In h) (G : h.Ns mainGlobals mg) (Fa : Facts P K CInvalidNotice CInvalidText) {n : Nat} (T : ∀ m, n = m + 1 → Top P w K mg base m (fsN m) C__law_bent) : Ok1 P w K mg base n (fsN n) "_law_bent" := by
  obtain ⟨f, oc, od, kV, doc, pm, an, cdv, ct, osl, a, l, c, k⟩ := Fa.f__law_bent.ex
  have F := fun_mk (st := s__law_bent) l c k
  refine ⟨lv n 4 spBent, rfl, f, _, ["_law_source_here", "_law_text", "_law_known"], ?_, PySem.W.mg_of X G a, k, F.binds fun _ _ _ _ _ _ us hl => match us, hl with | [_, _, _], _ => rfl⟩
  match n, T with
  | 0, _ => exact none_at fun ds S Q XD h => by have := h.1; omega
  | 1, _ => exact none_at fun ds S Q XD h => by have := h.1; omega
  | m + 2, T => exact fn_ok F sc__law_bent rfl rfl rfl rfl rfl co__law_bent (by omega) (T _ rfl) (fun ds S Q XD h => by first | (obtain ⟨_, rfl, _⟩ := h; rfl) | (obtain ⟨_, _, rfl, _⟩ := h; rfl) | (obtain ⟨_, _, _, rfl, _⟩ := h; rfl) | (obtain ⟨_, _, _, _, rfl, _⟩ := h; rfl) | (obtain ⟨_, _, _, _, _, rfl, _⟩ := h; rfl) | (obtain ⟨_, _, _, _, _, _, rfl, _⟩ := h; rfl) | (obtain ⟨_, _, _, _, _, _, _, rfl, _⟩ := h; rfl)) (fun ds S Q XD h => ob__law_bent (m + 1) (f__law_draw _) (f__law_choice _) ds S Q XD h)
theorem ok__law_tried {h : Heap} (X : K.In h) (G : h.Ns mainGlobals mg) (Fa : Facts P K CInvalidNotice CInvalidText) {n : Nat} (T : ∀ m, n = m + 1 → Top P w K mg base m (fsN m) C__law_tried) : Ok1 P w K mg base n (fsN n) "_law_tried" := by
  obtain ⟨f, oc, od, kV, doc, pm, an, cdv, ct, osl, a, l, c, k⟩ := Fa.f__law_tried.ex
  have F := fun_mk (st := s__law_tried) l c k
  refine ⟨lv n 7 spTried, rfl, f, _, ["_law_value"], ?_, PySem.W.mg_of X G a, k, F.binds fun _ _ _ _ _ _ us hl => match us, hl with | [_], _ => rfl⟩
  match n, T with
  | 0, _ => exact none_at fun ds S Q XD h => by have := h.1; omega
  | 1, _ => exact none_at fun ds S Q XD h => by have := h.1; omega
  | m + 2, T => exact fn_ok F sc__law_tried rfl rfl rfl rfl rfl co__law_tried (by omega) (T _ rfl) (fun ds S Q XD h => by first | (obtain ⟨_, rfl, _⟩ := h; rfl) | (obtain ⟨_, _, rfl, _⟩ := h; rfl) | (obtain ⟨_, _, _, rfl, _⟩ := h; rfl) | (obtain ⟨_, _, _, _, rfl, _⟩ := h; rfl) | (obtain ⟨_, _, _, _, _, rfl, _⟩ := h; rfl) | (obtain ⟨_, _, _, _, _, _, rfl, _⟩ := h; rfl) | (obtain ⟨_, _, _, _, _, _, _, rfl, _⟩ := h; rfl)) (fun ds S Q XD h => ob__law_tried (m + 1) (f_read_notice _) ds S Q XD h)
theorem ok_law {h : Heap} (X : K.In h) (G : h.Ns mainGlobals mg) (Fa : Facts P K CInvalidNotice CInvalidText) {n : Nat} (T : ∀ m, n = m + 1 → Top P w K mg base m (fsN m) C_law) : Ok1 P w K mg base n (fsN n) "law" := by
  obtain ⟨f, oc, od, kV, doc, pm, an, cdv, ct, osl, a, l, c, k⟩ := Fa.f_law.ex
  have F := fun_mk (st := s_law) l c k
  refine ⟨lv n 20 spLaw, rfl, f, _, ["_law_script"], ?_, PySem.W.mg_of X G a, k, F.binds fun _ _ _ _ _ _ us hl => match us, hl with | [_], _ => rfl⟩
  match n, T with
  | 0, _ => exact none_at fun ds S Q XD h => by have := h.1; omega
  | 1, _ => exact none_at fun ds S Q XD h => by have := h.1; omega
  | m + 2, T => exact fn_ok F sc_law rfl rfl rfl rfl rfl co_law (by omega) (T _ rfl) (fun ds S Q XD h => by first | (obtain ⟨_, rfl, _⟩ := h; rfl) | (obtain ⟨_, _, rfl, _⟩ := h; rfl) | (obtain ⟨_, _, _, rfl, _⟩ := h; rfl) | (obtain ⟨_, _, _, _, rfl, _⟩ := h; rfl) | (obtain ⟨_, _, _, _, _, rfl, _⟩ := h; rfl) | (obtain ⟨_, _, _, _, _, _, rfl, _⟩ := h; rfl) | (obtain ⟨_, _, _, _, _, _, _, rfl, _⟩ := h; rfl)) (fun ds S Q XD h => ob_law (m + 1) (f__law_words _) (f__law_tried _) (f__law_due _) (f__law_bent _) (f__law_source _) (f__law_notice _) (f__law_word_of _) (f_notice_text _) (f_read_notice _) ds S Q XD h)
theorem all_ok {h : Heap} (X : K.In h) (G : h.Ns mainGlobals mg) (hcl : Tb.cl = cls CInvalidNotice CInvalidText) (Fa : Facts P K CInvalidNotice CInvalidText) : ∀ n, AllOk P w K mg base FN n (fsN n) := by
  intro n
  induction n using Nat.strongRecOn with
  | ind n ih =>
    intro x e
    have T : ∀ (C : DW.Ctx), C.con = CON → C.fn = FN → C.bn = BN → C.dcn = DCN → C.exs = EXS → ∀ m, n = m + 1 → Top P w K mg base m (fsN m) C := fun C h1 h2 h3 h4 h5 m hm => top_of X G hcl Fa (ih m (by omega)) C h1 h2 h3 h4 h5
    have m := List.contains_iff_mem.mp e
    simp only [FN, List.mem_cons, List.not_mem_nil, or_false] at m
    rcases m with rfl | rfl | rfl | rfl | rfl | rfl | rfl | rfl | rfl | rfl | rfl | rfl | rfl | rfl | rfl | rfl | rfl | rfl | rfl | rfl | rfl
    · exact ok_is_row X G Fa (T C_is_row rfl rfl rfl rfl rfl)
    · exact ok_is_notice X G Fa (T C_is_notice rfl rfl rfl rfl rfl)
    · exact ok_is_sign X G Fa (T C_is_sign rfl rfl rfl rfl rfl)
    · exact ok_is_number X G Fa (T C_is_number rfl rfl rfl rfl rfl)
    · exact ok__is_triple X G Fa (T C__is_triple rfl rfl rfl rfl rfl)
    · exact ok_check_notice X G Fa (T C_check_notice rfl rfl rfl rfl rfl)
    · exact ok_notice_text X G Fa (T C_notice_text rfl rfl rfl rfl rfl)
    · exact ok_read_notice X G Fa (T C_read_notice rfl rfl rfl rfl rfl)
    · exact ok__word X G Fa (T C__word rfl rfl rfl rfl rfl)
    · exact ok__all_signs X G Fa (T C__all_signs rfl rfl rfl rfl rfl)
    · exact ok__law_source X G Fa (T C__law_source rfl rfl rfl rfl rfl)
    · exact ok__law_draw X G Fa (T C__law_draw rfl rfl rfl rfl rfl)
    · exact ok__law_choice X G Fa (T C__law_choice rfl rfl rfl rfl rfl)
    · exact ok__law_clause X G Fa (T C__law_clause rfl rfl rfl rfl rfl)
    · exact ok__law_notice X G Fa (T C__law_notice rfl rfl rfl rfl rfl)
    · exact ok__law_word_of X G Fa (T C__law_word_of rfl rfl rfl rfl rfl)
    · exact ok__law_words X G Fa (T C__law_words rfl rfl rfl rfl rfl)
    · exact ok__law_due X G Fa (T C__law_due rfl rfl rfl rfl rfl)
    · exact ok__law_bent X G Fa (T C__law_bent rfl rfl rfl rfl rfl)
    · exact ok__law_tried X G Fa (T C__law_tried rfl rfl rfl rfl rfl)
    · exact ok_law X G Fa (T C_law rfl rfl rfl rfl rfl)
end
theorem walk {l : PySem.W.OpenLaw} {q : Program} {loose : List Str} {XP : (Str → Option Value) → Heap → Prop} {YP : World → Heap → Prop} {d : DefRec} {K : Params → PySem.W.Frag} (hn : l.most = some 63) (hdf : d.params.defaults = []) (hd : d.name = "law")
    (hY : ∀ (w : World) (h : Heap), YP w h → (K w.params).In h)
    (F : ∀ (w : World) (h : Heap), (K w.params).In h → ∃ CInvalidNotice CInvalidText, Facts l.prog (K w.params) CInvalidNotice CInvalidText) : PySem.W.WalkO q loose XP YP l.row.toRowW d [] (fun f vs => PySem.call f vs) := by
  refine Att.attach_callB hn hdf fun w s₀ s₁ mg mb fa o pm cd doc a vs ns G Y ho hdat hcd hmg hobj hints hlen hbits hg => ?_
  have KX := hY w _ Y
  obtain ⟨CInvalidNotice, CInvalidText, Fa⟩ := F w _ KX
  have NS := G.T.g
  letI : Tbl := { t := [], cl := cls CInvalidNotice CInvalidText }
  obtain ⟨f, oc, od, kV, doc', pm', an, cdv, ct, osl, b1, b2, b3, b4⟩ := Fa.f_law.ex
  have hfa : fa = f := by
    have m := PySem.W.mg_of KX NS b1
    rw [hd] at hmg
    rw [hmg] at m
    cases m
    rfl
  subst hfa
  have F1 := fun_mk (st := s_law) b2 b3 b4
  refine LamX.law_callTs (cs := []) (k := 60) (x := "_law_script") (CX := L2.CX l.prog w) (sp := spD (K w.params) (lv 60 20 spLaw)) (fd := PySem.W.fnOf "law" "law" (defArgs s_law) (defBody s_law) (defScope s_law) .none kV doc' pm' an cdv ct) KX NS G.T.b G.T.builtins G.T.nolimit hg (fun p hp => by cases hp) (fun p hp => by cases hp) (fun p hp => by cases hp) G.T.bmain hobj hints (Nat.le_trans hlen (by decide)) ⟨rfl, by decide, by decide⟩ (fun base KB NB TB => ?_) (fun s u => .of_eq rfl) (fun H hH hS => scr_in (fun p hp => by cases hp) hS fun d S hS => ⟨by omega, d, ns, rfl, hS, hlen, fun _ => rfl⟩) (fun H e s' z => ?_)
  · exact fn_ok F1 sc_law rfl rfl rfl rfl rfl co_law (by decide) (top_of KB NB rfl Fa (all_ok KB NB rfl Fa 59) C_law rfl rfl rfl rfl rfl) (fun ds S Q XD h => by first | (obtain ⟨_, rfl, _⟩ := h; rfl) | (obtain ⟨_, _, rfl, _⟩ := h; rfl) | (obtain ⟨_, _, _, rfl, _⟩ := h; rfl) | (obtain ⟨_, _, _, _, rfl, _⟩ := h; rfl) | (obtain ⟨_, _, _, _, _, rfl, _⟩ := h; rfl) | (obtain ⟨_, _, _, _, _, _, rfl, _⟩ := h; rfl) | (obtain ⟨_, _, _, _, _, _, _, rfl, _⟩ := h; rfl)) (fun ds S Q XD h => ob_law 59 (f__law_words _) (f__law_tried _) (f__law_due _) (f__law_bent _) (f__law_source _) (f__law_notice _) (f__law_word_of _) (f_notice_text _) (f_read_notice _) ds S Q XD h)
  · obtain ⟨_, _, _, _, _, _, _, _, _, _, _, _, z⟩ := z
    exact z
end K08

open PySem PySem.W PyProof.Rows
set_option maxRecDepth 100000 in
set_option maxHeartbeats 0 in
theorem PySem.Challenge.cw_noticeways_k08_texts_of_notices_holds : PySem.Challenge.rw_noticeways_k08_texts_of_notices.Holds := by
  w_on; o_law; k_head; (case hw => w_witness2)
  k_fill
  refine K08.walk (l := PySem.Challenge.rw_noticeways_k08_texts_of_notices) rfl rfl ?D (fun w h Y => PySem.W.kIn_of Y) ?F
  case D => rfl
  case F =>
    intro w h KX
    refine' ⟨_, _, K08.Facts.mk ?f_is_row ?f_is_notice ?f_is_sign ?f_is_number ?f__is_triple ?f_check_notice ?f_notice_text ?f_read_notice ?f__word ?f__all_signs ?f__law_source ?f__law_draw ?f__law_choice ?f__law_clause ?f__law_notice ?f__law_word_of ?f__law_words ?f__law_due ?f__law_bent ?f__law_tried ?f_law ?k_JOINTS ?k_MOST_SIGNS ?k_MOST_CLAUSES ?k_MOST_TOLD ?k_MARK_CLAUSES ?k_COUNT_CLAUSES ?k_MARKS ?k_COUNTED ?k_OTHER_SIGNS ?g_InvalidNotice ?e_InvalidNotice ?g_InvalidText ?e_InvalidText ?s_InvalidNotice_InvalidNotice ?s_InvalidNotice_InvalidText ?s_InvalidText_InvalidNotice ?s_InvalidText_InvalidText ?b_str ?b_sorted ?b_enumerate ?b_len ?b_isinstance ?b_all ?b_abs ?b_int ?b_min ?b_tuple ?b_bool ?b_range⟩
    (case f_is_row => refine' KS.fun_at ?a ?l ?c ?k; (case a => k_is); (case l => k_is); (case c => k_is); (case k => k_is))
    (case f_is_notice => refine' KS.fun_at ?a ?l ?c ?k; (case a => k_is); (case l => k_is); (case c => k_is); (case k => k_is))
    (case f_is_sign => refine' KS.fun_at ?a ?l ?c ?k; (case a => k_is); (case l => k_is); (case c => k_is); (case k => k_is))
    (case f_is_number => refine' KS.fun_at ?a ?l ?c ?k; (case a => k_is); (case l => k_is); (case c => k_is); (case k => k_is))
    (case f__is_triple => refine' KS.fun_at ?a ?l ?c ?k; (case a => k_is); (case l => k_is); (case c => k_is); (case k => k_is))
    (case f_check_notice => refine' KS.fun_at ?a ?l ?c ?k; (case a => k_is); (case l => k_is); (case c => k_is); (case k => k_is))
    (case f_notice_text => refine' KS.fun_at ?a ?l ?c ?k; (case a => k_is); (case l => k_is); (case c => k_is); (case k => k_is))
    (case f_read_notice => refine' KS.fun_at ?a ?l ?c ?k; (case a => k_is); (case l => k_is); (case c => k_is); (case k => k_is))
    (case f__word => refine' KS.fun_at ?a ?l ?c ?k; (case a => k_is); (case l => k_is); (case c => k_is); (case k => k_is))
    (case f__all_signs => refine' KS.fun_at ?a ?l ?c ?k; (case a => k_is); (case l => k_is); (case c => k_is); (case k => k_is))
    (case f__law_source => refine' KS.fun_at ?a ?l ?c ?k; (case a => k_is); (case l => k_is); (case c => k_is); (case k => k_is))
    (case f__law_draw => refine' KS.fun_at ?a ?l ?c ?k; (case a => k_is); (case l => k_is); (case c => k_is); (case k => k_is))
    (case f__law_choice => refine' KS.fun_at ?a ?l ?c ?k; (case a => k_is); (case l => k_is); (case c => k_is); (case k => k_is))
    (case f__law_clause => refine' KS.fun_at ?a ?l ?c ?k; (case a => k_is); (case l => k_is); (case c => k_is); (case k => k_is))
    (case f__law_notice => refine' KS.fun_at ?a ?l ?c ?k; (case a => k_is); (case l => k_is); (case c => k_is); (case k => k_is))
    (case f__law_word_of => refine' KS.fun_at ?a ?l ?c ?k; (case a => k_is); (case l => k_is); (case c => k_is); (case k => k_is))
    (case f__law_words => refine' KS.fun_at ?a ?l ?c ?k; (case a => k_is); (case l => k_is); (case c => k_is); (case k => k_is))
    (case f__law_due => refine' KS.fun_at ?a ?l ?c ?k; (case a => k_is); (case l => k_is); (case c => k_is); (case k => k_is))
    (case f__law_bent => refine' KS.fun_at ?a ?l ?c ?k; (case a => k_is); (case l => k_is); (case c => k_is); (case k => k_is))
    (case f__law_tried => refine' KS.fun_at ?a ?l ?c ?k; (case a => k_is); (case l => k_is); (case c => k_is); (case k => k_is))
    (case f_law => refine' KS.fun_at ?a ?l ?c ?k; (case a => k_is); (case l => k_is); (case c => k_is); (case k => k_is))
    (case k_JOINTS => refine' KS.con_strs ["and", "or", "unless", "onlyif"] (by decide) ?a ?l ?h; (case a => k_is); (case l => k_is); (case h => rfl))
    (case k_MOST_SIGNS => refine' KS.con_int ?a; (case a => k_is))
    (case k_MOST_CLAUSES => refine' KS.con_int ?a; (case a => k_is))
    (case k_MOST_TOLD => refine' KS.con_int ?a; (case a => k_is))
    (case k_MARK_CLAUSES => refine' KS.con_strs ["all", "some", "no", "allnot"] (by decide) ?a ?l ?h; (case a => k_is); (case l => k_is); (case h => rfl))
    (case k_COUNT_CLAUSES => refine' KS.con_strs ["has"] (by decide) ?a ?l ?h; (case a => k_is); (case l => k_is); (case h => rfl))
    (case k_MARKS => refine' KS.con_marks ["a", "b"] ["b", "a"] (by decide) (by decide) ?e ?l ?h ?l1 ?h1 ?l2 ?h2; (case e => k_is); (case l => k_is); (case h => rfl); (case l1 => k_is); (case h1 => rfl); (case l2 => k_is); (case h2 => rfl))
    (case k_COUNTED => refine' KS.con_strs ["a", "b", "both"] (by decide) ?a ?l ?h; (case a => k_is); (case l => k_is); (case h => rfl))
    (case k_OTHER_SIGNS => refine' KS.con_strs ["not", "(", ")"] (by decide) ?a ?l ?h; (case a => k_is); (case l => k_is); (case h => rfl))
    (case g_InvalidNotice => refine' KS.ErrG.mk ?g ?k ?s ?t ?i; (case g => k_is); (case k => k_is); (case s => k_is); (case t => k_is); (case i => k_is))
    (case e_InvalidNotice => exact ⟨⟨_, _, _, _, PySem.F.excBase_ValueError, by first | kernel_rfl | rfl | decide +kernel⟩⟩)
    (case g_InvalidText => refine' KS.ErrG.mk ?g ?k ?s ?t ?i; (case g => k_is); (case k => k_is); (case s => k_is); (case t => k_is); (case i => k_is))
    (case e_InvalidText => refine' KS.err1_at "word" "word" "no text of a notice, as word " (some " shows") ?xf ?sup ?oex ?iC ?tI ?l ?bd ?ev ?cd ?lc ?v2 ?hf ?cell ?xs ?la ?lb ?sub ?opq ?nm ?ve ?nof ?main; (case xf => exact L2.XfC.mk (by k_is) (by k_is) (by k_is) (by k_is)); (case sup => k_is); (case oex => exact L2.OexC.mk ⟨_, _, _, _, _, _, _, _, _, _, _, _, _, _, _, by k_is, rfl⟩ (by k_is) (by k_is) (by k_is) (by k_is)); (case iC => k_is); (case tI => k_is); (case l => k_is); (case bd => intro e u; rfl); (case ev => intro env; exact ⟨_, rfl⟩); (case cd => k_is); (case lc => k_is); (case v2 => rfl); (case hf => rfl); (case cell => k_is); (case xs => decide); (case la => decide); (case lb => intro y hy; cases hy; decide); (case sub => k_is); (case opq => k_is); (case nm => ks_is); (case ve => k_is); (case nof => k_is); (case main => rfl))
    (case s_InvalidNotice_InvalidNotice => first | k_is | rfl)
    (case s_InvalidNotice_InvalidText => first | k_is | rfl)
    (case s_InvalidText_InvalidNotice => first | k_is | rfl)
    (case s_InvalidText_InvalidText => first | k_is | rfl)
    (case b_str => k_is)
    (case b_sorted => k_is)
    (case b_enumerate => k_is)
    (case b_len => k_is)
    (case b_isinstance => k_is)
    (case b_all => k_is)
    (case b_abs => k_is)
    (case b_int => k_is)
    (case b_min => k_is)
    (case b_tuple => k_is)
    (case b_bool => k_is)
    (case b_range => k_is)
