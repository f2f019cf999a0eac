import PyProof.Rows.All
import HandS.Comp
import Wide.All
import OpenK.AllK
import Wide.FinOn
import PyProof.P3In
import HandS.ForMost
import HandS.IsInst
import HandS.TupAny
import HandS.TupMul
import HandS.Flow
import HandS.Deep
import HandS.Zip
import HandS.Lambda
import HandS.More
import HandS.Small
import HandS.Conv
import HandS.TupLe
import KE.SortKeyHeap
import KE.KTupSum
import HandS.Wide
import KE.OsArith
import HandS.TryMany
import HandS.ExcOwn
import HandS.WordsExc
import KE.KSortKey
import HandS.EndTab
import PySem.Challenge.RW_noticeways_k03_whole_formulas_in_houses
set_option Elab.async false
set_option linter.all false
set_option maxRecDepth 100000
set_option maxHeartbeats 2000000
/-! comprehensions with any number of clauses -/
namespace DW
open PySem PySem.Spec PyProof.Rows L2

theorem turnN_out {elt : Expr} {gs : List Comprehension} {scope : Scope} {pos : Pos} {d : Nat} {it acc : Value} {env : Env} {t0 i0 t1 i1 : Expr} {ifs0 ifs1 : List Expr} (h0 : gs[d]? = some ⟨t0, i0, ifs0, 0⟩) (h1 : gs[d + 1]? = some ⟨t1, i1, ifs1, 0⟩) :
    compTurn (.ListComp elt gs scope pos) d it acc env = (do
      standAt i0.pos
      match ← pyNext it with
      | none => pure (.done .next)
      | some v =>
        letOwnedTupleGo t0 it v
        assign t0 env v
        let mut ok := true
        for c in ifs0 do
          if ok then ok ← isTrue c env (eval c env)
        if ok then
          let x ← eval i1 env
          standAt i1.pos
          let x ← foldedSetIterable i1 env x
          let _ ← runOwn (.compStart (.ListComp elt gs scope pos) (d + 1) (← holding [x] (pyIter x)) acc env) env
        again (.compLoop (.ListComp elt gs scope pos) d it acc env)) := by
  unfold compTurn
  simp only [h0, h1]
  rfl
theorem turnN_in {elt : Expr} {gs : List Comprehension} {scope : Scope} {pos : Pos} {d : Nat} {it acc : Value} {env : Env} {t0 i0 : Expr} {ifs0 : List Expr} (h0 : gs[d]? = some ⟨t0, i0, ifs0, 0⟩) (h1 : gs[d + 1]? = none) :
    compTurn (.ListComp elt gs scope pos) d it acc env = (do
      standAt i0.pos
      match ← pyNext it with
      | none => pure (.done .next)
      | some v =>
        letOwnedTupleGo t0 it v
        assign t0 env v
        let mut ok := true
        for c in ifs0 do
          if ok then ok ← isTrue c env (eval c env)
        if ok then
          (do let _ ← call (.builtin "list.append") [acc, ← eval elt env])
        again (.compLoop (.ListComp elt gs scope pos) d it acc env)) := by
  unfold compTurn
  simp only [h0, h1]
  rfl

/-- a clause behind the first one: what it walks, its store, its tests, its own slots -/
structure Gn where
  wi : TI
  g : TG
  tt : TT
  vs : List Nat
def tInner (te : TE) (D : Addr) : List Gn → L2.St → Hp → (Hp → Prop) → Prop
  | [], σ, H, Nx => te σ H fun y H1 => ∃ acc, H1 D = some (.lst acc) ∧ acc.length < sizeLine ∧ Nx (upd H1 D (.lst (acc ++ [y])))
  | G :: r, σ, H, Nx => G.wi σ H fun J H1 => ∃ V : Nat → Nat → Hp → Prop, (∃ m, V 0 m H1) ∧ ∀ j k H, V j k H →
      (J.stop j H ∧ Nx H) ∨ (J.go j H ∧ ∃ My : Hp → Prop, (∀ H', My H' → ∃ k', k' < k ∧ V (j + 1) k' H') ∧ ∀ x H', J.yld j H x H' → G.g x (wipe σ G.vs) H' fun σ2 H2 => wipe σ2 G.vs = wipe σ G.vs ∧ G.tt σ2 H2 fun b H3 =>
        if b = true then tInner te D r σ2 H3 My else My H3)
/-- the loop of a clause that has its iterator -/
def loopR (te : TE) (D : Addr) (G : Gn) (r : List Gn) (J : It) (σ : L2.St) (Nx : Hp → Prop) (H0 : Hp) : Prop := ∃ V : Nat → Nat → Hp → Prop, (∃ m, V 0 m H0) ∧ ∀ j k H, V j k H →
      (J.stop j H ∧ Nx H) ∨ (J.go j H ∧ ∃ My : Hp → Prop, (∀ H', My H' → ∃ k', k' < k ∧ V (j + 1) k' H') ∧ ∀ x H', J.yld j H x H' → G.g x (wipe σ G.vs) H' fun σ2 H2 => wipe σ2 G.vs = wipe σ G.vs ∧ G.tt σ2 H2 fun b H3 =>
        if b = true then tInner te D r σ2 H3 My else My H3)
structure GnOk0 (Y : Cx) (c : Comprehension) (G : Gn) : Prop where
  sync : c.is_async = 0
  pg : PG Y c.target G.g
  pt : PTs Y c.ifs G.tt
structure GnOk (Y : Cx) (c : Comprehension) (G : Gn) : Prop extends GnOk0 Y c G where
  pi : PI Y c.target c.iter G.wi
  fold : ∀ x, foldedSetIterable c.iter Y.env x = pure x
inductive GnsOk (Y : Cx) : List Comprehension → List Gn → Prop
  | nil : GnsOk Y [] []
  | cons {c : Comprehension} {G : Gn} {cs : List Comprehension} {Gs : List Gn} : GnOk Y c G → GnsOk Y cs Gs → GnsOk Y (c :: cs) (G :: Gs)

theorem thnX {α : Type} {t : Sem α} {Q Q' : α → Shared → Prop} {M : Model} {A : Around} {E F : Value → Shared → Prop} {s : Shared} (hF : F = fun _ _ => False) (h : wpAny M A t Q F s) (hQ : ∀ a s, Q a s → Q' a s) : wpAny M A t Q' E s :=
  wpAny_mono h hQ fun _ _ z => by rw [hF] at z; exact z.elim

section
variable {prog : Program} {w : World} {A : Around} {elt : Expr} {gs : List Comprehension} {scope : Scope} {pos : Pos} {d : Nat} {it acc : Value} {env : Env} {P : Shared → Prop}
/-- what a loop within is to reach -/
abbrev PR (P : Shared → Prop) : Result → Shared → Prop := fun r s => r = .ok .next ∧ P s
theorem loopN_out {R : Result → Shared → Prop} {tg0 io0 tg1 io1 : Expr} {fs0 fs1 : List Expr} (g0 : gs[d]? = some ⟨tg0, io0, fs0, 0⟩) (g1 : gs[d + 1]? = some ⟨tg1, io1, fs1, 0⟩) (hs : ∀ x, foldedSetIterable io1 env x = pure x) (I : Nat → Shared → Prop)
    (turn : ∀ n s, I n s → wpAny (model prog w) A (pyNext it) (fun r sa => match r with
      | none => R (.ok .next) sa
      | some v => wpAny (model prog w) A (letOwnedTupleGo tg0 it v) (fun _ sb => wpAny (model prog w) A (assign tg0 env v) (fun _ sc =>
          wpAny (model prog w) A (forIn fs0 true fun c r => if r = true then do let ok ← isTrue c env (eval c env); pure (ForInStep.yield ok) else pure (ForInStep.yield r)) (fun ok sd =>
            if ok = true then wpAny (model prog w) A (eval io1 env) (fun x se => wpAny (model prog w) A (pyIter x) (fun it1 sf =>
              codeAny (model prog w) A (.compStart (.ListComp elt gs scope pos) (d + 1) it1 acc env) (PR fun s' => ∃ m, m < n ∧ I m s') sf) (fun _ _ => False) se) (fun _ _ => False) sd
            else ∃ m, m < n ∧ I m sd) (fun _ _ => False) sc) (fun _ _ => False) sb) (fun _ _ => False) sa) (fun _ _ => False) s)
    (n : Nat) (s : Shared) (h : I n s) : codeAny (model prog w) A (.compLoop (.ListComp elt gs scope pos) d it acc env) R s := by
  refine codeAny_loop rfl I (fun n s hI => ?_) n h
  show wpAny _ A ((compTurn (.ListComp elt gs scope pos) d it acc env).onRaise (fun x => do noteFrame x env; theTreesLotGoes x)) _ _ s
  refine wpAny_noted ?_
  rw [turnN_out g0 g1]
  refine wpAny_bind (wpAny_standAt (wpAny_bind (thnF (turn n s hI) fun r sa ha => ?_)))
  cases r with
  | none => exact wpAny_pure ha
  | some v =>
    refine wpAny_bind (thnF ha fun _ sb hb => ?_)
    refine wpAny_bind (thnF hb fun _ sc hc => wpAny_bind (thnF hc fun ok sd hd => ?_))
    cases ok with
    | false => exact wpAny_pure ⟨rfl, hd⟩
    | true =>
      refine wpAny_bind (thnF hd fun x se he => ?_)
      refine wpAny_bind (wpAny_standAt (wpAny_bind (wpAny_of_eq (hs x) (wpAny_bind (wpAny_holding (thnF he fun it1 sf hf => ?_))))))
      refine wpAny_bind (wpAny_runOwn ?_)
      rw [Around.mark_none]
      refine codeAny_mono hf fun r s' hr => ?_
      obtain ⟨er, hr⟩ := hr
      subst er
      first
        | exact wpAny_pure ⟨rfl, hr⟩
        | exact wpAny_bind (wpAny_pure (wpAny_pure ⟨rfl, hr⟩))
theorem loopN_in {R : Result → Shared → Prop} {tg0 io0 : Expr} {fs0 : List Expr} (g0 : gs[d]? = some ⟨tg0, io0, fs0, 0⟩) (g1 : gs[d + 1]? = none) (I : Nat → Shared → Prop)
    (turn : ∀ n s, I n s → wpAny (model prog w) A (pyNext it) (fun r sa => match r with
      | none => R (.ok .next) sa
      | some v => wpAny (model prog w) A (letOwnedTupleGo tg0 it v) (fun _ sb => wpAny (model prog w) A (assign tg0 env v) (fun _ sc =>
          wpAny (model prog w) A (forIn fs0 true fun c r => if r = true then do let ok ← isTrue c env (eval c env); pure (ForInStep.yield ok) else pure (ForInStep.yield r)) (fun ok sd =>
            if ok = true then wpAny (model prog w) A (eval elt env) (fun x se =>
              wpAny (model prog w) A (call (.builtin "list.append") [acc, x]) (fun _ sf => ∃ m, m < n ∧ I m sf) (fun _ _ => False) se) (fun _ _ => False) sd
            else ∃ m, m < n ∧ I m sd) (fun _ _ => False) sc) (fun _ _ => False) sb) (fun _ _ => False) sa) (fun _ _ => False) s)
    (n : Nat) (s : Shared) (h : I n s) : codeAny (model prog w) A (.compLoop (.ListComp elt gs scope pos) d it acc env) R s := by
  refine codeAny_loop rfl I (fun n s hI => ?_) n h
  show wpAny _ A ((compTurn (.ListComp elt gs scope pos) d it acc env).onRaise (fun x => do noteFrame x env; theTreesLotGoes x)) _ _ s
  refine wpAny_noted ?_
  rw [turnN_in g0 g1]
  refine wpAny_bind (wpAny_standAt (wpAny_bind (thnF (turn n s hI) fun r sa ha => ?_)))
  cases r with
  | none => exact wpAny_pure ha
  | some v =>
    refine wpAny_bind (thnF ha fun _ sb hb => ?_)
    refine wpAny_bind (thnF hb fun _ sc hc => wpAny_bind (thnF hc fun ok sd hd => ?_))
    cases ok with
    | false => exact wpAny_pure ⟨rfl, hd⟩
    | true => exact wpAny_bind (wpAny_bind (thnF hd fun x se he => wpAny_bind (thnF he fun _ sf hf => wpAny_pure (wpAny_pure ⟨rfl, hf⟩))))
/-- a further clause's start -/
theorem startN {R : Result → Shared → Prop} {s : Shared} {c : Comprehension} (g0 : gs[d]? = some c) (hc : c.is_async = 0) (h0 : codeAny (model prog w) A (.compLoop (.ListComp elt gs scope pos) d it acc env) R s)
    (h : wpAny (model prog w) A (pyIter it) (fun it' s' => codeAny (model prog w) A (.compLoop (.ListComp elt gs scope pos) d it' acc env) R s') (fun _ _ => False) s) (hd : (Code.compStart (.ListComp elt gs scope pos) d it acc env).isFrame = false) :
    codeAny (model prog w) A (.compStart (.ListComp elt gs scope pos) d it acc env) R s := by
  refine codeAny_of_tree ?_
  show wpAny _ _ (if (Code.compStart (.ListComp elt gs scope pos) d it acc env).isFrame then (compStart (.ListComp elt gs scope pos) d it acc env).onRaise (leaving env) else (compStart (.ListComp elt gs scope pos) d it acc env).onRaise (fun x => do noteFrame x env; standAt theWindowsPlace)) _ _ s
  rw [hd]
  refine wpAny_notedAt ?_
  unfold compStart
  have e1 : (clausesOf (.ListComp elt gs scope pos))[d]? = some c := g0
  simp only [e1, Option.elim_some, hc, bne_self_eq_false, Bool.false_eq_true, if_false]
  refine wpAny_bind (wpAny_askSetting (wpAny_ite ?_))
  split
  · first
      | exact wpAny_bind (wpAny_pure (wpAny_pure (And.intro rfl h0)))
      | exact wpAny_pure (And.intro rfl h0)
  · refine wpAny_bind (wpAny_rule ?_)
    refine wpAny_bind (wpAny_standAt ?_)
    exact wpAny_bind (thnF h fun it' s' h' => wpAny_pure (And.intro rfl h'))
end

/-- what stands behind a clause's tests -/
def bodyN (Y : Cx) (elt : Expr) (gs : List Comprehension) (scope : Scope) (pos : Pos) (d : Nat) (D : Addr) : List Comprehension → (Shared → Prop) → Shared → Prop
  | [], P, sd => wpAny (model Y.prog Y.w) Y.A (eval elt Y.env) (fun x se => wpAny (model Y.prog Y.w) Y.A (call (.builtin "list.append") [.ref D, x]) (fun _ sf => P sf) (fun _ _ => False) se) (fun _ _ => False) sd
  | c1 :: _, P, sd => wpAny (model Y.prog Y.w) Y.A (eval c1.iter Y.env) (fun x se => wpAny (model Y.prog Y.w) Y.A (pyIter x) (fun it1 sf => codeAny (model Y.prog Y.w) Y.A (.compStart (.ListComp elt gs scope pos) (d + 1) it1 (.ref D) Y.env) (PR P) sf) (fun _ _ => False) se) (fun _ _ => False) sd
/-- each clause's own slots are among those of the clause ahead of it -/
inductive Nest : List Nat → List Gn → Prop
  | nil {vs : List Nat} : Nest vs []
  | cons {vs : List Nat} {G : Gn} {Gs : List Gn} : (∀ i ∈ G.vs, i ∈ vs) → Nest G.vs Gs → Nest vs (G :: Gs)
theorem wipe_sub {σ σ2 : L2.St} {vs ws : List Nat} (hw : wipe σ2 vs = wipe σ vs) (hv : ∀ i ∈ ws, i ∈ vs) : (wipe σ vs).length = (wipe σ2 ws).length ∧ ∀ (j : Nat) v, (wipe σ vs)[j]? = some (some v) → (wipe σ2 ws)[j]? = some (some v) := by
  refine ⟨by rw [← hw, wipe_length, wipe_length], fun j v e => ?_⟩
  rw [← hw] at e
  obtain ⟨e1, e2⟩ := wipe_some e
  rw [wipe_out fun z => e2 (hv j z)]
  exact e1
/-- the loop of a clause behind the first one, with all that stand behind it -/
theorem innerN {Y : Cx} {elt : Expr} {gs : List Comprehension} {scope : Scope} {pos : Pos} {D : Addr} {te : TE} (hc : Y.calm = true) (hx : Y.xe = fun _ _ => False) (pe : PE Y elt te) (hf : ∀ d it acc, (Code.compStart (.ListComp elt gs scope pos) d it acc Y.env).isFrame = false) :
    ∀ (rest : List Comprehension) (Gs : List Gn) (c : Comprehension) (G : Gn) (d : Nat), gs.drop d = c :: rest → GnOk0 Y c G → GnsOk Y rest Gs → Nest G.vs Gs → ∀ (pins : List (Addr × Obj)) (σ : L2.St) (H : Hp) (s : Shared) (it : Addr) (fp : List Addr) (tn : Nat → Heap → Prop) (J : It) (Nx : Hp → Prop) (P : Shared → Prop),
      Inv Y pins σ H s → Turn Y.prog Y.w Y.K c.target J fp it tn → tn 0 s.heap → (∀ b ∈ fp, FpOk Y pins H b) → loopR te D G Gs J σ Nx H → (∀ s' H', Inv Y pins (wipe σ G.vs) H' s' → Nx H' → P s') →
      codeAny (model Y.prog Y.w) Y.A (.compLoop (.ListComp elt gs scope pos) d (.ref it) (.ref D) Y.env) (PR P) s
  | rest, Gs, c, G, d, hd, ok, oks, nst, pins, σ, H, s, it, fp, tn, J, Nx, P, I, T, st, ff, q, fin => by
    obtain ⟨tg, iter, ifs, asy⟩ := c
    obtain ⟨a0, apg, apt⟩ := ok
    simp only at a0 apg apt T
    subst a0
    have g0 : gs[d]? = some ⟨tg, iter, ifs, 0⟩ := by
      have := congrArg (·[0]?) hd
      simpa using this
    have gd : gs.drop (d + 1) = rest := by
      have := congrArg List.tail hd
      simpa [List.tail_drop] using this
    obtain ⟨V, ⟨m, v0⟩, turn⟩ := q
    have stat : ∀ {H' : Hp}, (∀ b ∈ fp, H' b = none) → ∀ b ∈ fp, FpOk Y pins H' b := fun hn b hb => ⟨hn b hb, (ff b hb).2⟩
    let L : Nat → Shared → Prop := fun k s' => ∃ j H', Inv Y pins (wipe σ G.vs) H' s' ∧ tn j s'.heap ∧ (∀ b ∈ fp, H' b = none) ∧ V j k H'
    have l0 : L m s := ⟨0, H, I.weak (wipe_length _ _) (fun j v e => (wipe_some e).1), st, fun b hb => (ff b hb).1, v0⟩
    -- a turn, up to its tests; then what the tests open
    have main : ∀ (inn : ∀ (k j : Nat) (My : Hp → Prop) (σ2 : L2.St) (H3 : Hp) (sd : Shared) (h7 : Heap), (∀ H', My H' → ∃ k', k' < k ∧ V (j + 1) k' H') → wipe σ2 G.vs = wipe σ G.vs → tn (j + 1) h7 → Inv Y (pins ++ pinsAt fp h7) σ2 H3 sd → tInner te D Gs σ2 H3 My →
          (∀ (s' : Shared) (H' : Hp) (σ3 : L2.St), Inv Y (pins ++ pinsAt fp h7) σ3 H' s' → (wipe σ G.vs).length = σ3.length → (∀ (j : Nat) v, (wipe σ G.vs)[j]? = some (some v) → σ3[j]? = some (some v)) → My H' → ∃ k', k' < k ∧ L k' s') →
          bodyN Y elt gs scope pos d D rest (fun s' => ∃ m, m < k ∧ L m s') sd),
        ∀ n sa, L n sa → wpAny (model Y.prog Y.w) Y.A (pyNext (.ref it)) (fun r sa => match r with
          | none => PR P (.ok .next) sa
          | some v => wpAny (model Y.prog Y.w) Y.A (letOwnedTupleGo tg (.ref it) v) (fun _ sb => wpAny (model Y.prog Y.w) Y.A (assign tg Y.env v) (fun _ sc =>
              wpAny (model Y.prog Y.w) Y.A (forIn ifs true fun c r => if r = true then do let ok ← isTrue c Y.env (eval c Y.env); pure (ForInStep.yield ok) else pure (ForInStep.yield r)) (fun ok sd =>
                if ok = true then bodyN Y elt gs scope pos d D rest (fun s' => ∃ m, m < n ∧ L m s') sd
                else ∃ m, m < n ∧ L m sd) (fun _ _ => False) sc) (fun _ _ => False) sb) (fun _ _ => False) sa) (fun _ _ => False) sa := by
      rintro inn n sa ⟨j, Ha, Ia, sta, na, va⟩
      rcases turn j n Ha va with ⟨stop, nx⟩ | ⟨go, My, hMy, step⟩
      · refine thnF (T.done Y rfl rfl rfl hc j _ sa (wipe σ G.vs) Ha (fun _ _ => False) Ia (stat na) sta stop) fun r sb ⟨hr, Ib⟩ => ?_
        subst hr
        exact ⟨rfl, fin sb Ha Ib nx⟩
      · refine thnF (T.item Y rfl rfl rfl hc j _ sa (wipe σ G.vs) Ha (fun _ _ => False) Ia (stat na) sta go) fun r sb ⟨u, hr, hb⟩ => ?_
        subst hr
        refine thnF hb fun _ sc ⟨x, Hc, Ic, rc, yc, stc, nc⟩ => ?_
        have Ic' := Ic.pinned (stat nc) (T.obj _ _ stc)
        refine thnX hx (apg.run _ sc (wipe σ G.vs) Hc x u _ Ic' rc (step x Hc yc)) fun _ sd ⟨σ2, Hd, Id, hw, qd⟩ => ?_
        refine thnX hx (apt.run _ sd σ2 Hd _ Id qd) fun b se ⟨He, Ie, qe⟩ => ?_
        have back : ∀ (s' : Shared) (H' : Hp) (σ3 : L2.St), Inv Y (pins ++ pinsAt fp sc.heap) σ3 H' s' → (wipe σ G.vs).length = σ3.length → (∀ (j : Nat) v, (wipe σ G.vs)[j]? = some (some v) → σ3[j]? = some (some v)) → My H' → ∃ k', k' < n ∧ L k' s' := fun s' H' σ3 I' hl hk nx => by
          obtain ⟨k', hk', v'⟩ := hMy H' nx
          have pin' : ∀ b ∈ fp, ∀ o, sc.heap.get? b = some o → s'.heap.get? b = some o ∧ H' b = none := fun b hb o e =>
            let z := I'.pin (b, o) (List.mem_append_right _ (List.mem_append_right _ (mem_pinsAt hb e)))
            ⟨z.1, z.2.1⟩
          refine ⟨k', hk', j + 1, H', (I'.unpinned).weak hl hk, T.keep _ _ _ stc fun b hb o e => (pin' b hb o e).1, fun b hb => ?_, v'⟩
          obtain ⟨o, e, _⟩ := T.obj _ _ stc b hb
          exact (pin' b hb o e).2
        cases b with
        | false =>
          simp only [Bool.false_eq_true, if_false] at qe ⊢
          exact back se He σ2 Ie (by rw [← hw, wipe_length]) (fun j v e => by rw [← hw] at e; exact (wipe_some e).1) qe
        | true =>
          simp only [if_true] at qe
          exact inn n j My σ2 He se sc.heap hMy hw stc Ie qe back
    cases rest with
    | nil =>
      cases oks
      have g1 : gs[d + 1]? = none := by
        have := congrArg (·[0]?) gd
        simpa using this
      refine loopN_in g0 g1 L (main fun k j My σ2 H3 sd h7 hMy hw st7 I3 q3 back => ?_) m s l0
      refine thnX hx (pe.run _ sd σ2 H3 _ I3 q3) fun z se ⟨y, H4, I4, r4, ac, hD, hz, nx⟩ => ?_
      exact app_ok (X := Y) I4 hD hz r4 fun sf I5 => back sf _ σ2 I5 (by rw [← hw, wipe_length]) (fun j v e => by rw [← hw] at e; exact (wipe_some e).1) nx
    | cons c1 rest1 =>
      cases oks with
      | @cons _ G1 _ Gs1 ok1 oks1 =>
        obtain ⟨hv1, nst1⟩ : (∀ i ∈ G1.vs, i ∈ G.vs) ∧ Nest G1.vs Gs1 := by cases nst with | cons a b => exact ⟨a, b⟩
        have g1 : gs[d + 1]? = some c1 := by
          have := congrArg (·[0]?) gd
          simpa using this
        obtain ⟨tg1, it1, ifs1, as1⟩ := c1
        have a1 : as1 = 0 := ok1.sync
        subst a1
        refine loopN_out g0 g1 ok1.fold L (main fun k j My σ2 H3 sd h7 hMy hw st7 I3 q3 back => ?_) m s l0
        refine thnX hx (ok1.pi.run _ sd σ2 H3 _ I3 q3) fun xv se hse => thnX hx hse fun itv sf hsf => ?_
        obtain ⟨i1, fp1, tn1, J1, H4, e1, I4, T1, st4, f4, q4⟩ := hsf
        subst e1
        have lp : codeAny (model Y.prog Y.w) Y.A (.compLoop (.ListComp elt gs scope pos) (d + 1) (.ref i1) (.ref D) Y.env) (PR fun s' => ∃ m, m < k ∧ L m s') sf :=
          innerN hc hx pe hf rest1 Gs1 _ G1 (d + 1) gd ok1.toGnOk0 oks1 nst1 _ σ2 H4 sf i1 fp1 tn1 J1 My _ I4 T1 st4 f4 q4 fun s' H' I' nx =>
            back s' H' _ I' (wipe_sub hw hv1).1 (wipe_sub hw hv1).2 nx
        exact startN g1 rfl lp (T1.self Y.A 0 _ _ _ st4 lp) (hf _ _ _)

theorem wipe_wipe (σ : L2.St) (vs : List Nat) : wipe (wipe σ vs) vs = wipe σ vs := by
  apply List.ext_getElem?
  intro j
  have aux : ∀ (σ : L2.St) (ws : List Nat), j ∈ ws → (wipe σ ws)[j]? = if j < σ.length then some none else none := by
    intro σ ws
    induction ws with
    | nil => intro h; cases h
    | cons v r ih =>
      intro h
      show ((wipe σ r).set v none)[j]? = _
      by_cases hv : v = j
      · subst hv
        by_cases hl : v < σ.length
        · rw [if_pos hl, List.getElem?_set_self (by rw [wipe_length]; exact hl)]
        · rw [if_neg hl, List.getElem?_eq_none (by rw [List.length_set, wipe_length]; omega)]
      · rw [List.getElem?_set_ne hv]
        exact ih (by rcases List.mem_cons.mp h with z | z; exact absurd z.symm hv; exact z)
  by_cases hj : j ∈ vs
  · rw [aux _ _ hj, aux _ _ hj, wipe_length]
  · rw [wipe_out hj]
section
variable {X : Cx}
/-- a comprehension with clauses G, Gs -/
def tLcN (wi : TI) (G : Gn) (Gs : List Gn) (te : TE) : TE := fun σ H Q => wi σ H fun J H1 => ∀ D, H1 D = none → loopR te D G Gs J (wipe σ G.vs) (fun H' => Q (.ref D) H') (upd H1 D (.lst []))
theorem coreN {pins : List (Addr × Obj)} {s : Shared} {σ : L2.St} {H : Hp} {Q : VK} {elt : Expr} {c : Comprehension} {cs : List Comprehension} {scope : Scope} {own : List (Str × Nat)} {pos pz : Pos} {wi : TI} {G : Gn} {Gs : List Gn} {te : TE} {use : Option (Value → Sem Unit)} {Qf : Value → Shared → Prop}
    (calm : X.calm = true) (nd : X.N.Nodup) (I : Inv X pins σ H s) (hi : PI X c.target c.iter wi) (ok : BlkOk X.N X.env.scope scope own) (hG : G.vs = own.map (·.2)) (nest : Nest G.vs Gs)
    (h0 : ∀ (s : Shared) (H : Hp) (C : Addr) (cl : List (Str × Addr)) (fp : List Addr), GnOk0 (X.blk s H scope (compEnvC scope cl C X.env) fp) c G) (h1 : ∀ (s : Shared) (H : Hp) (C : Addr) (cl : List (Str × Addr)) (fp : List Addr), GnsOk (X.blk s H scope (compEnvC scope cl C X.env) fp) cs Gs)
    (he : ∀ (s : Shared) (H : Hp) (C : Addr) (cl : List (Str × Addr)) (fp : List Addr), PE (X.blk s H scope (compEnvC scope cl C X.env) fp) elt te) (hs : ∀ x, foldedSetIterable c.iter X.env x = pure x) (h : tLcN wi G Gs te σ H Q)
    (after : ∀ D C s' m H', Inv X pins σ H' s' → Q (.ref D) H' → s'.heap.Ns C m → FpOk X pins H' C → compPost (model X.prog X.w) X.A X.xe use Qf (.ref D) C (.ok .next) s') :
    wpAny (model X.prog X.w) X.A (comprehension (.ListComp elt (c :: cs) scope pos) scope X.env pz (newList []) false (eval c.iter X.env) use) Qf X.xe s := by
  have frees : ∀ y ∈ scope.names, y.2 = .free → ∃ a, X.env.cells.lookup y.1 = some a := fun y hy e =>
    (ok.free y hy e).elim (fun k => I.ok.has _ (.inl k)) (fun k => I.ok.has _ (.inr k))
  obtain ⟨tg, iter, ifs, asy⟩ := c
  have a0 : asy = 0 := (h0 s H 0 [] []).sync
  subst a0
  refine wpAny_comprehension_free (use := use) rfl hs (closure_ok frees) ok.kind (fun y hy e => by rw [ok.uniq y hy, e]) (thn (hi.run pins s σ H _ I h) fun xv sa hx => thn hx fun itv sb hb => ?_)
  obtain ⟨it, fp, tn, J, Hb, e, Ib, T, stb, fb, q⟩ := hb
  subst e
  refine wpAny_newObj_type (newEnv_comp ?_) (by show 0 ≤ sizeLine; decide)
  generalize hD : sb.heap.objs.size = D
  have nD : Hb D = none := Ib.hok.fresh (Nat.le_of_eq hD)
  have q' := q D nD
  generalize hsc : ({ sb with heap := sb.heap.push { cls := .type "list", data := .seq ([] : List Value).toArray } } : Shared) = sc
  have Ic : Inv X pins σ (upd Hb D (.lst [])) sc := by
    subst hsc
    refine Ib.laid (t' := sb.toks) (fun b o e => Heap.get?_push_of_some _ e) (Nat.le_of_eq hD) ⟨Nat.zero_le _, [], 0, .nil, ?_⟩
    subst hD
    exact Heap.get?_push_size _ rfl
  have hc : sc.heap = sb.heap.push { cls := .type "list", data := .seq ([] : List Value).toArray } := by subst hsc; rfl
  have small : ∀ b ∈ fp, b < sb.heap.objs.size := fun b hb => let ⟨_, e, _⟩ := T.obj _ _ stb b hb; Heap.lt_size e
  have fc : ∀ b ∈ fp, FpOk X pins (upd Hb D (.lst [])) b ∧ b < sc.heap.objs.size := fun b hb => by
    have lt := small b hb
    refine ⟨⟨?_, (fb b hb).2⟩, by rw [hc, Heap.size_push]; exact Nat.lt_succ_of_lt lt⟩
    rw [upd_ne (by subst hD; exact Nat.ne_of_lt lt)]
    exact (fb b hb).1
  have stc : tn 0 sc.heap := T.keep _ _ _ stb fun b _ o e => by rw [hc]; exact Heap.get?_push_of_some _ e
  have Id := block_start Ic ok nd fc
  have k0 := h0 sc (upd Hb D (.lst [])) sc.heap.objs.size (cellsFrom (sc.heap.objs.size + 1) scope.names (cloFrom X.env.cells scope.names [])) fp
  have k1 := h1 sc (upd Hb D (.lst [])) sc.heap.objs.size (cellsFrom (sc.heap.objs.size + 1) scope.names (cloFrom X.env.cells scope.names [])) fp
  have ke := he sc (upd Hb D (.lst [])) sc.heap.objs.size (cellsFrom (sc.heap.objs.size + 1) scope.names (cloFrom X.env.cells scope.names [])) fp
  show codeAny _ _ (.compStart (.ListComp elt (⟨tg, iter, ifs, 0⟩ :: cs) scope pos) 0 (.ref it) (.ref D) (compEnvC scope (cellsFrom (sc.heap.objs.size + 1) scope.names (cloFrom X.env.cells scope.names [])) sc.heap.objs.size X.env)) (compPost (model X.prog X.w) X.A X.xe use Qf (.ref D) sc.heap.objs.size) { sc with heap := pushCells (sc.heap.push { cls := .type "dict", data := .dict #[] }) scope.names }
  have nfp : ∀ b ∈ fp, (upd Hb D (.lst [])) b = none := fun b hb => (fc b hb).1.1
  generalize hce : compEnvC scope (cellsFrom (sc.heap.objs.size + 1) scope.names (cloFrom X.env.cells scope.names [])) sc.heap.objs.size X.env = ce at Id k0 k1 ke ⊢
  have cL : ce.locals = sc.heap.objs.size := by subst hce; rfl
  generalize hHc : upd Hb D (.lst []) = Hc at Ic Id k0 k1 ke nfp fc q'
  generalize hsd : ({ sc with heap := pushCells (sc.heap.push { cls := .type "dict", data := .dict #[] }) scope.names } : Shared) = sd at Id ⊢
  have std : tn 0 sd.heap := T.keep _ _ _ stc fun b _ o e => by subst hsd; exact pushCells_keeps _ _ _ _ (Heap.get?_push_of_some _ e)
  have fd : ∀ b ∈ fp, FpOk (X.blk sc Hc scope ce fp) [] Hc b := fun b hb => ⟨nfp b hb, (Id.ok.exf b hb).1, Id.ok.exfs b hb, .inl hb, fun x c e => (Id.ok.exf b hb).2 x c e, fun p hp => absurd (show p ∈ ([] : List (Addr × Obj)) ++ [] from hp) (by simp)⟩
  have run : codeAny (model X.prog X.w) X.A (.compLoop (.ListComp elt (⟨tg, iter, ifs, 0⟩ :: cs) scope pos) 0 (.ref it) (.ref D) ce) (PR fun s' => compPost (model X.prog X.w) X.A X.xe use Qf (.ref D) sc.heap.objs.size (.ok .next) s') sd := by
    refine innerN (Y := X.blk sc Hc scope ce fp) calm rfl ke (fun _ _ _ => rfl) cs Gs _ G 0 rfl k0 k1 nest [] (wipe σ (own.map (·.2))) Hc sd it fp tn J (fun H' => Q (.ref D) H') _ Id T std fd (by rw [hG] at q'; exact q') fun s' H' I' hq => ?_
    have J2 : Inv X pins σ H' s' := Ic.call' (ch := fp) I'.os I'.base I'.hok I'.bare fun b hb => ⟨(fc b hb).1.2.2.2.1, (fc b hb).1.2.1, (fc b hb).1.2.2.2.2.1, (fc b hb).1.2.2.2.2.2⟩
    have nC : H' sc.heap.objs.size = none := by
      have z : H' ce.locals = none := I'.free
      rw [cL] at z
      exact z
    obtain ⟨m, hn, _⟩ := I'.loc
    have hn : s'.heap.Ns ce.locals m := hn
    rw [cL] at hn
    exact after D sc.heap.objs.size s' m H' J2 hq hn (Ic.fpOk (Nat.le_refl _) nC)
  have run2 := codeAny_mono run fun r s' hr => (show compPost (model X.prog X.w) X.A X.xe use Qf (.ref D) sc.heap.objs.size r s' from by obtain ⟨er, hr⟩ := hr; subst er; exact hr)
  exact codeAny_compStart_list run2 (T.self X.A 0 _ _ _ std run2)
theorem pe_lcN {elt : Expr} {c : Comprehension} {cs : List Comprehension} {scope : Scope} {own : List (Str × Nat)} {pos : Pos} {wi : TI} {G : Gn} {Gs : List Gn} {te : TE} (calm : X.calm = true) (nd : X.N.Nodup) (hi : PI X c.target c.iter wi) (ok : BlkOk X.N X.env.scope scope own) (hG : G.vs = own.map (·.2)) (nest : Nest G.vs Gs)
    (h0 : ∀ (s : Shared) (H : Hp) (C : Addr) (cl : List (Str × Addr)) (fp : List Addr), GnOk0 (X.blk s H scope (compEnvC scope cl C X.env) fp) c G) (h1 : ∀ (s : Shared) (H : Hp) (C : Addr) (cl : List (Str × Addr)) (fp : List Addr), GnsOk (X.blk s H scope (compEnvC scope cl C X.env) fp) cs Gs)
    (he : ∀ (s : Shared) (H : Hp) (C : Addr) (cl : List (Str × Addr)) (fp : List Addr), PE (X.blk s H scope (compEnvC scope cl C X.env) fp) elt te) (hs : ∀ x, foldedSetIterable c.iter X.env x = pure x) :
    PE X (.ListComp elt (c :: cs) scope pos) (tLcN wi G Gs te) := by
  refine ⟨fun pins s σ H Q I h => ?_⟩
  rw [eval_ListComp]
  obtain ⟨tg, iter, ifs, asy⟩ := c
  have a0 : asy = 0 := (h0 s H 0 [] []).sync
  subst a0
  show wpAny _ _ (comprehension (.ListComp elt (⟨tg, iter, ifs, 0⟩ :: cs) scope pos) scope X.env _ (newList []) false (eval iter X.env) none) _ _ _
  refine coreN calm nd I hi ok hG nest h0 h1 he hs h fun D C s' m H' I' q hn f => ⟨m, hn, fun h'' sb => ?_⟩
  obtain ⟨f0, f1, f2, f3, f4, f5⟩ := f
  exact ⟨.ref D, H', I'.turned (t' := s'.toks) (fun b o hb e => (sb.2 b hb).trans e) f0 f1 f3 f4 f5, rfl, q⟩
theorem ps_setLcN {i : Nat} {y : Str} {py : Pos} {elt : Expr} {c : Comprehension} {cs : List Comprehension} {scope : Scope} {own : List (Str × Nat)} {pos spos : Pos} {wi : TI} {G : Gn} {Gs : List Gn} {te : TE} (calm : X.calm = true) (nd : X.N.Nodup) (hy : X.N[i]? = some y) (hyl : X.env.scope.names.lookup y = some .local)
    (hsw : swapsWith (.ListComp elt (c :: cs) scope pos) (some (.Name y py)) spos.line X.env = pure true) (hi : PI X c.target c.iter wi) (ok : BlkOk X.N X.env.scope scope own) (hG : G.vs = own.map (·.2)) (nest : Nest G.vs Gs)
    (h0 : ∀ (s : Shared) (H : Hp) (C : Addr) (cl : List (Str × Addr)) (fp : List Addr), GnOk0 (X.blk s H scope (compEnvC scope cl C X.env) fp) c G) (h1 : ∀ (s : Shared) (H : Hp) (C : Addr) (cl : List (Str × Addr)) (fp : List Addr), GnsOk (X.blk s H scope (compEnvC scope cl C X.env) fp) cs Gs)
    (he : ∀ (s : Shared) (H : Hp) (C : Addr) (cl : List (Str × Addr)) (fp : List Addr), PE (X.blk s H scope (compEnvC scope cl C X.env) fp) elt te) (hs : ∀ x, foldedSetIterable c.iter X.env x = pure x) :
    PS X (.Assign [.Name y py] (.ListComp elt (c :: cs) scope pos) spos) (tAsg (tLcN wi G Gs te) (gName i)) := by
  refine ⟨fun pins s σ H D I h => ?_⟩
  rw [exec_Assign_Name_used _ _ _ _ hsw]
  obtain ⟨tg, iter, ifs, asy⟩ := c
  have a0 : asy = 0 := (h0 s H 0 [] []).sync
  subst a0
  refine wpAny_bind (wpAny_standAt (wpAny_bind ?_))
  show wpAny _ X.A (do let _ ← comprehension (.ListComp elt (⟨tg, iter, ifs, 0⟩ :: cs) scope pos) scope X.env (firstIterPos (⟨tg, iter, ifs, 0⟩ :: cs) pos) (newList []) false (eval iter X.env) (some (assign (.Name y py) X.env))) _ _ s
  have h : tLcN wi G Gs te σ H (fun x H1 => gName i x σ H1 D.nx) := h
  refine wpAny_bind (thn (coreN (Qf := fun _ s' => SP X pins D .next s') calm nd I hi ok hG nest h0 h1 he hs h fun L C s' m H' I' q hn f => ?_) fun _ s' hq => wpAny_pure (wpAny_pure hq))
  show wpAny _ _ (assign (.Name y py) X.env (.ref L)) _ _ _
  refine wpAny_assign_Name (store_ok2 (v := V.ref L) I' nd hy (.inl hyl) rfl (fun sb Ib ⟨a, sbb, ha⟩ => ?_) (.inr hyl))
  obtain ⟨f0, f1, f2, f3, f4, f5⟩ := f
  have ca : C ≠ a := by
    rcases ha with z | z
    · rw [z]; exact f1
    · exact fun e => f4 y a z e.symm
  refine ⟨m, hn.sameBut sbb ca, fun hc sb3 => ?_⟩
  exact ⟨_, H', Ib.turned (t' := sb.toks) (fun b o hb e => (sb3.2 b hb).trans e) f0 f1 f3 f4 f5, q⟩
end
end DW

set_option Elab.async false
set_option linter.all false
set_option maxRecDepth 100000
set_option maxHeartbeats 2000000
/-! data, stores, representation -/
namespace DW
open PySem PySem.Spec PyProof.Rows L2

/-- data: a value without addresses; ref n: the n-th object of the store; rol: a list that is only read; ktup: a tuple of the module; ty: a built-in type -/
inductive D where
  | non | bl (b : Bool) | int (i : Int) | str (x : Str) | tup (xs : List D) | rol (xs : List D) | ref (n : Nat) | ty (n : String) | ktup (xs : List D)
inductive Ob where
  | lst (xs : List D)
  | dct (kvs : List (List L2.Key × D))
abbrev Sto := List Ob
abbrev En := List (Option D)
abbrev KQ := D → Sto → Prop
abbrev KB := Bool → Sto → Prop
abbrev KL := List D → Sto → Prop
abbrev FSp := List D → Sto → KQ → Prop

/-- a list that nobody writes -/
def SqR (K : PySem.W.Frag) (H : Hp) (a : Addr) (xs : List V) : Prop :=
  (∃ o, H a = some (.frz o (.lst xs))) ∨ ∃ (o : Obj) (its : Array Value) (n : Nat), K.lookup a = some o ∧ o.cls = .type "list" ∧ o.dict = none ∧ o.data = .seq its n ∧ its.size ≤ sizeLine ∧ Vals xs its.toList
theorem SqR.l {K : PySem.W.Frag} {H : Hp} {a : Addr} {xs : List V} (h : SqR K H a xs) : SqL K H a xs := by
  rcases h with ⟨o, h⟩ | h
  · exact .inl (.inr ⟨o, h⟩)
  · exact .inr h

mutual
inductive Rep (K : PySem.W.Frag) (φ : List Addr) (H : Hp) : V → D → Prop
  | non : Rep K φ H .non .non
  | bl (b : Bool) : Rep K φ H (.bl b) (.bl b)
  | int (i : Int) : Rep K φ H (.int i) (.int i)
  | str (x : Str) : Rep K φ H (.str x) (.str x)
  | ty (n : String) : Rep K φ H (.ty n) (.ty n)
  | tup {a : Addr} {vs : List V} {ds : List D} : H a = some (.tup vs) → RepL K φ H vs ds → Rep K φ H (.ref a) (.tup ds)
  | ktup {a : Addr} {vs : List V} {ds : List D} : SqT K H a vs → RepL K φ H vs ds → Rep K φ H (.ref a) (.ktup ds)
  | rol {a : Addr} {vs : List V} {ds : List D} : SqR K H a vs → RepL K φ H vs ds → Rep K φ H (.ref a) (.rol ds)
  | ref {a : Addr} {n : Nat} : φ[n]? = some a → Rep K φ H (.ref a) (.ref n)
inductive RepL (K : PySem.W.Frag) (φ : List Addr) (H : Hp) : List V → List D → Prop
  | nil : RepL K φ H [] []
  | cons {v : V} {vs : List V} {d : D} {ds : List D} : Rep K φ H v d → RepL K φ H vs ds → RepL K φ H (v :: vs) (d :: ds)
end

/-- the tables of the code objects that make lambdas -/
class Tbl where
  t : List (Addr × Str)
theorem codeO_is {c : Addr} {q : Str} : ∃ φ, LamX.CodeO c q = .ext φ := ⟨_, rfl⟩
/-- a thing that is no table and no code object is written -/
theorem tabs_upd {T : List (Addr × Str)} {H : Hp} {p : Addr} {u o : HO} (h : H p = some u) (h1 : ∀ ps, u ≠ .tbl ps) (h2 : ∀ φ, u ≠ .ext φ) (t : LamX.Tabs T H) : LamX.Tabs T (upd H p o) := by
  intro x hx
  obtain ⟨ps, a, b, c⟩ := t x hx
  refine ⟨ps, by rw [upd_ne (ne_of a h fun z => h1 _ z.symm)]; exact a, b, fun pos cv hc => ?_⟩
  obtain ⟨k, e1, e2⟩ := c pos cv hc
  obtain ⟨φ, e3⟩ := codeO_is (c := k) (q := x.2)
  exact ⟨k, e1, by rw [upd_ne (ne_of e2 h fun z => h2 φ (z.symm.trans e3))]; exact e2⟩
theorem tabs_new {T : List (Addr × Str)} {H : Hp} {p : Addr} {o : HO} (h : H p = none) (t : LamX.Tabs T H) : LamX.Tabs T (upd H p o) := t.ext fun b u e => by rw [upd_ne (ne_of_none e h)]; exact e
theorem mapM_nil' {α β : Type} {f : α → Option β} : ([] : List α).mapM f = some [] := rfl
theorem mapM_cons' {α β : Type} {f : α → Option β} {x : α} {xs : List α} {zs : List β} (h : (x :: xs).mapM f = some zs) : ∃ y ys, zs = y :: ys ∧ f x = some y ∧ xs.mapM f = some ys := by
  rw [List.mapM_cons] at h
  cases e : f x with
  | none => rw [e] at h; cases h
  | some y =>
    rw [e] at h
    cases e2 : xs.mapM f with
    | none => rw [e2] at h; cases h
    | some ys => rw [e2] at h; cases h; exact ⟨y, ys, rfl, rfl, rfl⟩
variable [Tb : Tbl]
/-- what never changes has stayed -/
structure TupLe0 (H H' : Hp) : Prop where
  t : ∀ a xs, H a = some (.tup xs) → H' a = some (.tup xs)
  f : ∀ a o u, H a = some (.frz o u) → H' a = some (.frz o u)
  b : LamX.Tabs Tb.t H → LamX.Tabs Tb.t H'
/-- .. and the dicts, which nobody writes -/
structure TupLe (H H' : Hp) : Prop extends TupLe0 H H' where
  k : ∀ a (u : List (Key × V)), H a = some (.dK u) → H' a = some (.dK u)
theorem TupLe.refl (H : Hp) : TupLe H H := ⟨⟨fun _ _ h => h, fun _ _ _ h => h, fun h => h⟩, fun _ _ h => h⟩
theorem TupLe.trans {H H1 H2 : Hp} (a : TupLe H H1) (b : TupLe H1 H2) : TupLe H H2 := ⟨⟨fun x xs h => b.t x xs (a.t x xs h), fun x o u h => b.f x o u (a.f x o u h), fun h => b.b (a.b h)⟩, fun x u h => b.k x u (a.k x u h)⟩
theorem TupLe.new {H : Hp} {p : Addr} {o : HO} (h : H p = none) : TupLe H (upd H p o) :=
  ⟨⟨fun a xs e => by rw [upd_ne (ne_of_none e h)]; exact e, fun a ob u e => by rw [upd_ne (ne_of_none e h)]; exact e, tabs_new h⟩, fun a u e => by rw [upd_ne (ne_of_none e h)]; exact e⟩
theorem TupLe.ext {H H' : Hp} (h : ∀ b o, H b = some o → H' b = some o) : TupLe H H' := ⟨⟨fun a xs e => h _ _ e, fun a ob u e => h _ _ e, fun t => t.ext h⟩, fun a u e => h _ _ e⟩
theorem TupLe.mut {H : Hp} {p : Addr} {xs : List V} {o : HO} (h : H p = some (.lst xs)) : TupLe H (upd H p o) :=
  ⟨⟨fun a ys e => by rw [upd_ne (ne_of e h (by intro z; cases z))]; exact e, fun a ob u e => by rw [upd_ne (ne_of e h (by intro z; cases z))]; exact e, tabs_upd h (fun _ z => by cases z) (fun _ z => by cases z)⟩, fun a u e => by rw [upd_ne (ne_of e h (by intro z; cases z))]; exact e⟩
theorem TupLe.mutT {H : Hp} {p : Addr} {xs : List (List L2.Key × V)} {o : HO} (h : H p = some (.dT xs)) : TupLe H (upd H p o) :=
  ⟨⟨fun a ys e => by rw [upd_ne (ne_of e h (by intro z; cases z))]; exact e, fun a ob u e => by rw [upd_ne (ne_of e h (by intro z; cases z))]; exact e, tabs_upd h (fun _ z => by cases z) (fun _ z => by cases z)⟩, fun a u e => by rw [upd_ne (ne_of e h (by intro z; cases z))]; exact e⟩
/-- a dict is filled -/
theorem TupLe0.fill {H : Hp} {p : Addr} {u : List (Key × V)} {o : HO} (h : H p = some (.dK u)) : TupLe0 H (upd H p o) :=
  ⟨fun a ys e => by rw [upd_ne (ne_of e h (by intro z; cases z))]; exact e, fun a ob u e => by rw [upd_ne (ne_of e h (by intro z; cases z))]; exact e, tabs_upd h (fun _ z => by cases z) (fun _ z => by cases z)⟩
theorem TupLe.fill {H H' : Hp} {p : Addr} {kv : List (Key × V)} {o' : HO} (h : H p = none) (t : TupLe (upd H p (.dK kv)) H') : TupLe H (upd H' p o') := by
  have g := (TupLe.new (o := .dK kv) h).trans t
  refine ⟨⟨fun a xs e => ?_, fun a ob u e => ?_, fun q => tabs_upd (t.k _ _ upd_same) (fun _ z => by cases z) (fun _ z => by cases z) (g.b q)⟩, fun a u e => ?_⟩
  · rw [upd_ne (ne_of_none e h)]; exact g.t _ _ e
  · rw [upd_ne (ne_of_none e h)]; exact g.f _ _ _ e
  · rw [upd_ne (ne_of_none e h)]; exact g.k _ _ e
theorem TupLe0.sqT {K : PySem.W.Frag} {H H' : Hp} {a : Addr} {xs : List V} (l : TupLe0 H H') (h : SqT K H a xs) : SqT K H' a xs := by
  rcases h with (h | ⟨o, h⟩) | h
  · exact .inl (.inl (l.t _ _ h))
  · exact .inl (.inr ⟨o, l.f _ _ _ h⟩)
  · exact .inr h
theorem TupLe0.sqR {K : PySem.W.Frag} {H H' : Hp} {a : Addr} {xs : List V} (l : TupLe0 H H') (h : SqR K H a xs) : SqR K H' a xs := by
  rcases h with ⟨o, h⟩ | h
  · exact .inl ⟨o, l.f _ _ _ h⟩
  · exact .inr h

/-- φ grows at its end -/
def Le (φ φ' : List Addr) : Prop := ∀ (n : Nat) (a : Addr), φ[n]? = some a → φ'[n]? = some a
theorem Le.refl (φ : List Addr) : Le φ φ := fun _ _ h => h
theorem Le.trans {φ φ1 φ2 : List Addr} (a : Le φ φ1) (b : Le φ1 φ2) : Le φ φ2 := fun n x h => b n x (a n x h)
theorem Le.app (φ : List Addr) (xs : List Addr) : Le φ (φ ++ xs) := fun n a h => by
  have hl := (List.getElem?_eq_some_iff.mp h).1
  rw [List.getElem?_append_left hl]; exact h

theorem TupLe.sqT {K : PySem.W.Frag} {H H' : Hp} {a : Addr} {xs : List V} (l : TupLe H H') (h : SqT K H a xs) : SqT K H' a xs := l.toTupLe0.sqT h
theorem TupLe.sqR {K : PySem.W.Frag} {H H' : Hp} {a : Addr} {xs : List V} (l : TupLe H H') (h : SqR K H a xs) : SqR K H' a xs := l.toTupLe0.sqR h

section
variable {K : PySem.W.Frag} {φ φ' : List Addr} {H H' : Hp}
mutual
theorem Rep.mono0 (l : Le φ φ') (t : TupLe0 H H') : ∀ {v : V} {d : D}, Rep K φ H v d → Rep K φ' H' v d
  | _, _, .non => .non
  | _, _, .bl b => .bl b
  | _, _, .int i => .int i
  | _, _, .str x => .str x
  | _, _, .ty n => .ty n
  | _, _, .tup h r => .tup (t.t _ _ h) (RepL.mono0 l t r)
  | _, _, .ktup h r => .ktup (t.sqT h) (RepL.mono0 l t r)
  | _, _, .rol h r => .rol (t.sqR h) (RepL.mono0 l t r)
  | _, _, .ref h => .ref (l _ _ h)
theorem RepL.mono0 (l : Le φ φ') (t : TupLe0 H H') : ∀ {vs : List V} {ds : List D}, RepL K φ H vs ds → RepL K φ' H' vs ds
  | _, _, .nil => .nil
  | _, _, .cons r rs => .cons (Rep.mono0 l t r) (RepL.mono0 l t rs)
end
theorem Rep.mono (l : Le φ φ') (t : TupLe H H') {v : V} {d : D} (r : Rep K φ H v d) : Rep K φ' H' v d := r.mono0 l t.toTupLe0
theorem RepL.mono (l : Le φ φ') (t : TupLe H H') {vs : List V} {ds : List D} (r : RepL K φ H vs ds) : RepL K φ' H' vs ds := r.mono0 l t.toTupLe0
theorem RepL.length : ∀ {vs : List V} {ds : List D}, RepL K φ H vs ds → vs.length = ds.length
  | _, _, .nil => rfl
  | _, _, .cons _ r => by rw [List.length_cons, List.length_cons, RepL.length r]
theorem RepL.app : ∀ {vs ws : List V} {ds es : List D}, RepL K φ H vs ds → RepL K φ H ws es → RepL K φ H (vs ++ ws) (ds ++ es)
  | _, _, _, _, .nil, s => s
  | _, _, _, _, .cons r t, s => .cons r (RepL.app t s)
theorem RepL.get : ∀ {vs : List V} {ds : List D} {i : Nat} {d : D}, RepL K φ H vs ds → ds[i]? = some d → ∃ v, vs[i]? = some v ∧ Rep K φ H v d
  | _, _, 0, _, .cons r _, e => by simp at e; subst e; exact ⟨_, rfl, r⟩
  | _, _, i + 1, _, .cons _ t, e => by
    obtain ⟨v, h1, h2⟩ := RepL.get (i := i) t (by simpa using e)
    exact ⟨v, by simpa using h1, h2⟩
  | _, _, _, _, .nil, e => by simp at e
theorem RepL.getV : ∀ {vs : List V} {ds : List D} {i : Nat} {v : V}, RepL K φ H vs ds → vs[i]? = some v → ∃ d, ds[i]? = some d ∧ Rep K φ H v d
  | _, _, 0, _, .cons r _, e => by simp at e; subst e; exact ⟨_, rfl, r⟩
  | _, _, i + 1, _, .cons _ t, e => by
    obtain ⟨v, h1, h2⟩ := RepL.getV (i := i) t (by simpa using e)
    exact ⟨v, by simpa using h1, h2⟩
  | _, _, _, _, .nil, e => by simp at e
theorem RepL.set : ∀ {vs : List V} {ds : List D} (i : Nat) {v : V} {d : D}, Rep K φ H v d → RepL K φ H vs ds → RepL K φ H (vs.set i v) (ds.set i d)
  | _, _, _, _, _, _, .nil => .nil
  | _, _, 0, _, _, r, .cons _ t => .cons r t
  | _, _, i + 1, _, _, r, .cons q t => .cons q (RepL.set i r t)
theorem RepL.take : ∀ {vs : List V} {ds : List D} (n : Nat), RepL K φ H vs ds → RepL K φ H (vs.take n) (ds.take n)
  | _, _, 0, _ => .nil
  | _, _, _ + 1, .nil => .nil
  | _, _, n + 1, .cons r t => .cons r (RepL.take n t)
theorem RepL.drop : ∀ {vs : List V} {ds : List D} (n : Nat), RepL K φ H vs ds → RepL K φ H (vs.drop n) (ds.drop n)
  | _, _, 0, r => r
  | _, _, _ + 1, .nil => .nil
  | _, _, n + 1, .cons _ t => RepL.drop n t
theorem RepL.rep {vs : List V} {ds : List D} (r : RepL K φ H vs ds) : ∀ k : Nat, RepL K φ H (List.replicate k vs).flatten (List.replicate k ds).flatten
  | 0 => .nil
  | k + 1 => by
    rw [List.replicate_succ, List.replicate_succ, List.flatten_cons, List.flatten_cons]
    exact r.app (RepL.rep r k)

/-- an object of the store, as it is tracked -/
def ObRel (K : PySem.W.Frag) (φ : List Addr) (H : Hp) : Ob → Option HO → Prop
  | .lst ds, o => ∃ vs, o = some (.lst vs) ∧ RepL K φ H vs ds
  | .dct kvs, o => ∃ vs, o = some (.dT vs) ∧ vs.map (·.1) = kvs.map (·.1) ∧ RepL K φ H (vs.map (·.2)) (kvs.map (·.2))
structure SRel (K : PySem.W.Frag) (φ : List Addr) (S : Sto) (H : Hp) : Prop where
  len : φ.length = S.length
  nd : φ.Nodup
  ob : ∀ (n : Nat) (a : Addr) (o : Ob), φ[n]? = some a → S[n]? = some o → ObRel K φ H o (H a)
  tb : LamX.Tabs Tb.t H
theorem ObRel.there {o : Ob} {h : Option HO} (r : ObRel K φ H o h) : ∃ u, h = some u := by
  cases o with
  | lst ds => obtain ⟨vs, e, _⟩ := r; exact ⟨_, e⟩
  | dct ds => obtain ⟨vs, e, _⟩ := r; exact ⟨_, e⟩
theorem ObRel.mono {o : Ob} {h : Option HO} (l : Le φ φ') (t : TupLe H H') (r : ObRel K φ H o h) : ObRel K φ' H' o h := by
  cases o with
  | lst ds => obtain ⟨vs, e, q⟩ := r; exact ⟨vs, e, q.mono l t⟩
  | dct ds => obtain ⟨vs, e, k, q⟩ := r; exact ⟨vs, e, k, q.mono l t⟩
variable {S : Sto}
theorem SRel.at_ (s : SRel K φ S H) {n : Nat} {ds : List D} (h : S[n]? = some (.lst ds)) : ∃ a vs, φ[n]? = some a ∧ H a = some (.lst vs) ∧ RepL K φ H vs ds := by
  have hl := (List.getElem?_eq_some_iff.mp h).1
  have e : φ[n]? = some (φ[n]'(by rw [s.len]; exact hl)) := List.getElem?_eq_getElem _
  obtain ⟨vs, e1, r⟩ := s.ob n _ _ e h
  exact ⟨_, vs, e, e1, r⟩
theorem SRel.has (s : SRel K φ S H) {n : Nat} {a : Addr} (h : φ[n]? = some a) : ∃ u, H a = some u := by
  have hl := (List.getElem?_eq_some_iff.mp h).1
  have e : S[n]? = some (S[n]'(by rw [← s.len]; exact hl)) := List.getElem?_eq_getElem _
  exact (s.ob n a _ h e).there
theorem SRel.notin (s : SRel K φ S H) {p : Addr} (h : H p = none) : p ∉ φ := fun hp => by
  obtain ⟨n, hn⟩ := List.getElem?_of_mem hp
  obtain ⟨u, e⟩ := s.has hn
  rw [h] at e; cases e
/-- a dict that we don't track is filled -/
theorem SRel.fill (s : SRel K φ S H) {p : Addr} {u : List (Key × V)} {o : HO} (h : H p = some (.dK u)) : SRel K φ S (upd H p o) :=
  ⟨s.len, s.nd, fun n a ob e1 e2 => by
    have q := s.ob n a ob e1 e2
    cases ob with
    | lst ds =>
      obtain ⟨vs, e, r⟩ := q
      have ne : a ≠ p := fun z => by rw [z, h] at e; cases e
      rw [upd_ne ne]
      exact ⟨vs, e, r.mono0 (Le.refl φ) (TupLe0.fill h)⟩
    | dct ds =>
      obtain ⟨vs, e, k, r⟩ := q
      have ne : a ≠ p := fun z => by rw [z, h] at e; cases e
      rw [upd_ne ne]
      exact ⟨vs, e, k, r.mono0 (Le.refl φ) (TupLe0.fill h)⟩, (TupLe0.fill h).b s.tb⟩
/-- a new object that we don't track -/
theorem SRel.new (s : SRel K φ S H) {p : Addr} {o : HO} (h : H p = none) : SRel K φ S (upd H p o) :=
  ⟨s.len, s.nd, fun n a ob e1 e2 => by
    have ne : a ≠ p := fun z => s.notin h (by rw [← z]; exact List.mem_of_getElem? e1)
    rw [upd_ne ne]
    exact (s.ob n a ob e1 e2).mono (Le.refl φ) (TupLe.new h), tabs_new h s.tb⟩
/-- more objects that we don't track -/
theorem SRel.ext (s : SRel K φ S H) (h : ∀ b o, H b = some o → H' b = some o) : SRel K φ S H' :=
  ⟨s.len, s.nd, fun n a ob e1 e2 => by
    have q := s.ob n a ob e1 e2
    obtain ⟨u, e⟩ := q.there
    rw [h _ _ e, ← e]
    exact q.mono (Le.refl φ) (TupLe.ext h), s.tb.ext h⟩
/-- a new object -/
theorem SRel.allocO (s : SRel K φ S H) {p : Addr} {o : Ob} {u : HO} (h : H p = none) (r : ObRel K φ H o (some u)) : SRel K (φ ++ [p]) (S ++ [o]) (upd H p u) := by
  have hp := s.notin h
  refine ⟨by simp [s.len], ?_, fun n a ob e1 e2 => ?_, tabs_new h s.tb⟩
  · rw [List.nodup_append]
    refine ⟨s.nd, by simp, fun x hx y hy => ?_⟩
    have : y = p := by simpa using hy
    rw [this]; exact fun z => hp (z ▸ hx)
  · by_cases hn : n < φ.length
    · rw [List.getElem?_append_left hn] at e1
      rw [List.getElem?_append_left (by rw [← s.len]; exact hn)] at e2
      have ne : a ≠ p := fun z => hp (by rw [← z]; exact List.mem_of_getElem? e1)
      rw [upd_ne ne]
      exact (s.ob n a ob e1 e2).mono (Le.app φ [p]) (TupLe.new h)
    · rw [List.getElem?_append_right (by omega)] at e1
      rw [List.getElem?_append_right (by rw [← s.len]; omega)] at e2
      have hn2 : n - φ.length = 0 := by
        have := (List.getElem?_eq_some_iff.mp e1).1
        simp at this; omega
      rw [hn2] at e1
      rw [← s.len, hn2] at e2
      simp at e1 e2
      subst e1 e2
      rw [upd_same]
      exact r.mono (Le.app φ [p]) (TupLe.new h)
/-- a new list -/
theorem SRel.alloc (s : SRel K φ S H) {p : Addr} {vs : List V} {ds : List D} (h : H p = none) (r : RepL K φ H vs ds) : SRel K (φ ++ [p]) (S ++ [.lst ds]) (upd H p (.lst vs)) := s.allocO (o := .lst ds) h ⟨vs, rfl, r⟩
theorem SRel.idx (s : SRel K φ S H) {p : Addr} : (φ ++ [p])[S.length]? = some p := by
  rw [← s.len]; simp
/-- an object is written -/
theorem SRel.putO (s : SRel K φ S H) {n : Nat} {a : Addr} {o : Ob} {u : HO} (h : φ[n]? = some a) (tl : TupLe H (upd H a u)) (r : ObRel K φ H o (some u)) : SRel K φ (S.set n o) (upd H a u) := by
  refine ⟨by simp [s.len], s.nd, fun m b ob e1 e2 => ?_, tl.b s.tb⟩
  by_cases hm : m = n
  · subst hm
    rw [h] at e1; cases e1
    have hl : m < S.length := by rw [← s.len]; exact (List.getElem?_eq_some_iff.mp h).1
    rw [List.getElem?_set_self hl] at e2
    cases e2
    rw [upd_same]
    exact r.mono (Le.refl φ) tl
  · rw [List.getElem?_set_ne (Ne.symm hm)] at e2
    have ne : b ≠ a := fun z => by
      subst z
      obtain ⟨h1', e1'⟩ := List.getElem?_eq_some_iff.mp e1
      obtain ⟨h2', e2'⟩ := List.getElem?_eq_some_iff.mp h
      exact hm ((List.getElem_inj s.nd).mp (e1'.trans e2'.symm))
    rw [upd_ne ne]
    exact (s.ob m b ob e1 e2).mono (Le.refl φ) tl
/-- a list is written -/
theorem SRel.put (s : SRel K φ S H) {n : Nat} {a : Addr} {vs us : List V} {ds : List D} (h : φ[n]? = some a) (h1 : H a = some (.lst us)) (r : RepL K φ H vs ds) : SRel K φ (S.set n (.lst ds)) (upd H a (.lst vs)) := s.putO (o := .lst ds) h (TupLe.mut h1) ⟨vs, rfl, r⟩
end

/-! ### deep reading -/
def toPy : Nat → Sto → D → Option PyData
  | 0, _, _ => none
  | k + 1, S, d => match d with
    | .non => some .none
    | .bl b => some (.bool b)
    | .int i => some (.int i)
    | .str x => some (.str x)
    | .tup ds => (ds.mapM (toPy k S)).map .tuple
    | .ktup ds => (ds.mapM (toPy k S)).map .tuple
    | .rol ds => (ds.mapM (toPy k S)).map .list
    | .ref n => match S[n]? with
      | some (.lst ds) => (ds.mapM (toPy k S)).map .list
      | _ => none
    | .ty _ => none
section
variable {K : PySem.W.Frag} {φ : List Addr} {H : Hp} {S : Sto}
theorem dpAll_of {k : Nat} (ih : ∀ (v : V) (d : D) (p : PyData), Rep K φ H v d → toPy k S d = some p → Dp K H v p) : ∀ {vs : List V} {ds : List D} {ps : List PyData}, RepL K φ H vs ds → ds.mapM (toPy k S) = some ps → DpAll K H vs ps
  | _, _, _, .nil, h => by cases h; exact .nil
  | _, _, _, .cons r t, h => by
    obtain ⟨y, ys, rfl, h1, h2⟩ := mapM_cons' h
    exact .cons (ih _ _ _ r h1) (dpAll_of ih t h2)
theorem dp_of (s : SRel K φ S H) : ∀ (k : Nat) (v : V) (d : D) (p : PyData), Rep K φ H v d → toPy k S d = some p → Dp K H v p
  | 0, _, _, _, _, h => by cases h
  | k + 1, v, d, p, r, h => by
    cases r with
    | non => cases h; exact .non
    | bl b => cases h; exact .bl b
    | int i => cases h; exact .int i
    | str x => cases h; exact .str x
    | ty n => cases h
    | @tup a vs ds hs rl =>
      simp only [toPy] at h
      cases e : ds.mapM (toPy k S) with
      | none => rw [e] at h; cases h
      | some ps => rw [e] at h; cases h; exact (.tup (SqT.of hs) (dpAll_of (dp_of s k) rl e))
    | @ktup a vs ds hs rl =>
      simp only [toPy] at h
      cases e : ds.mapM (toPy k S) with
      | none => rw [e] at h; cases h
      | some ps => rw [e] at h; cases h; exact .tup hs (dpAll_of (dp_of s k) rl e)
    | @rol a vs ds hs rl =>
      simp only [toPy] at h
      cases e : ds.mapM (toPy k S) with
      | none => rw [e] at h; cases h
      | some ps => rw [e] at h; cases h; exact .lst hs.l (dpAll_of (dp_of s k) rl e)
    | @ref a n hn =>
      simp only [toPy] at h
      cases e0 : S[n]? with
      | none => rw [e0] at h; cases h
      | some o =>
        cases o with
        | lst ds =>
          rw [e0] at h
          simp only at h
          obtain ⟨vs, e1, rl⟩ := s.ob n a _ hn e0
          cases e : ds.mapM (toPy k S) with
          | none => rw [e] at h; cases h
          | some ps => rw [e] at h; cases h; exact .lst (SqL.of e1) (dpAll_of (dp_of s k) rl e)
        | dct ds => rw [e0] at h; cases h
end
end DW

set_option Elab.async false
set_option linter.all false
set_option maxRecDepth 100000
set_option maxHeartbeats 2000000
/-! a small language, what it means, and how the program's text becomes it -/
namespace DW
open PySem PySem.Spec PyProof.Rows L2

inductive Bn where
  | len | isinst | all | any | abs | int | min2 | max2 | list | tuple | sum | sorted
  deriving DecidableEq

mutual
inductive IE where
  | var (i : Nat)
  | cst (d : D)
  | tup (as : IA)
  | lst (as : IA)
  | bin (op : Operator) (a b : IE)
  | not (a : IE)
  | neg (a : IE)
  | and (a b : IE)
  | or (a b : IE)
  | cmp (op : CmpOp) (a b : IE)
  | chn (op op' : CmpOp) (a b c : IE)
  | ite (t : IT) (a b : IE)
  | fn (f : Nat) (as : IA)
  | blt (f : Bn) (as : IA)
  | idx (a i : IE)
  | slc (a : IE) (lo hi : IO)
  | app (o a : IE)
  | extd (o a : IE)
  | lcp (own : List Nat) (g : IG) (it : II) (t : ITs) (elt : IE)
  | dsub (ks : List Str) (vs : IA) (x : IE)
  | dnew
  | csub (kds : List (Str × D)) (x : IE)
  | lrng (a : IE)
  | lcn (own : List Nat) (g : IG) (it : II) (t : ITs) (c : IC)
inductive IC where
  | elt (e : IE)
  | gen (vs : List Nat) (g : IG) (it : II) (t : ITs) (c : IC)
inductive IA where
  | nil
  | cons (e : IE) (as : IA)
inductive IO where
  | no
  | yes (e : IE)
inductive IT where
  | val (e : IE)
  | cmp (op : CmpOp) (a b : IE)
  | chn (op op' : CmpOp) (a b c : IE)
  | and (a b : IT)
  | or (a b : IT)
  | not (a : IT)
inductive ITs where
  | none
  | one (t : IT)
inductive IG where
  | name (i : Nat)
  | tup (gs : IGs)
  | sub (o i : IE)
inductive IGs where
  | nil
  | cons (g : IG) (gs : IGs)
inductive II where
  | val (e : IE)
  | rng1 (a : IE)
  | rng2 (a b : IE)
  | enum (a : IE)
  | zip (a b : IE)
end

mutual
inductive IS where
  | ret (e : IE)
  | retN
  | expr (e : IE)
  | asg (g : IG) (e : IE)
  | par (i j : Nat) (a b : IE)
  | ifs (t : IT) (a b : IB)
  | fr (g : IG) (it : II) (body : IB)
  | wh (t : IT) (body : IB)
  | pass
  | brk
  | cont
  | nev
inductive IB where
  | nil
  | cons (s : IS) (b : IB)
end

mutual
def gSlots : IG → List Nat
  | .name i => [i]
  | .tup gs => gsSlots gs
  | .sub _ _ => []
def gsSlots : IGs → List Nat
  | .nil => []
  | .cons g gs => gSlots g ++ gsSlots gs
end

def gsLen : IGs → Nat
  | .nil => 0
  | .cons _ gs => gsLen gs + 1

/-! ### operations on data -/
def LIM : Nat := 100000
theorem LIM_le : LIM ≤ sizeLine := by rw [sizeLine_eq]; decide
theorem lim_le {n : Nat} (h : n ≤ LIM) : n ≤ sizeLine := Nat.le_trans h LIM_le
theorem lim_lt {n : Nat} (h : n < LIM) : n < sizeLine := Nat.lt_of_lt_of_le h LIM_le

def isRef : D → Bool
  | .ref _ => true
  | _ => false
def isNon : D → Bool
  | .non => true
  | _ => false

/-- a key of a dict whose keys are tuples -/
def key1 : D → Option L2.Key
  | .int i => some (.inl i)
  | .str x => some (.inr x)
  | _ => none
def keyL : List D → Option (List L2.Key)
  | [] => some []
  | d :: r => match key1 d, keyL r with
    | some k, some ks => some (k :: ks)
    | _, _ => none
def keyOf : D → Option (List L2.Key)
  | .tup ds => keyL ds
  | _ => none
def valD (kvs : List (List L2.Key × D)) (k : List L2.Key) : Option D := (kvs.find? fun kv => decide (kv.1 = k)).map (·.2)
def putD (kvs : List (List L2.Key × D)) (k : List L2.Key) (d : D) : List (List L2.Key × D) :=
  if (kvs.any fun kv => decide (kv.1 = k)) = true then kvs.map (fun kv => if kv.1 = k then (kv.1, d) else kv) else kvs ++ [(k, d)]
/-- one factor below 2^64, or both together below a million bits -/
def CMulD (i j : Int) : Prop := (-(2 ^ 64) < i ∧ i < 2 ^ 64) ∨ ((-(2 ^ 64) < j ∧ j < 2 ^ 64) ∨ CMulW i j)
def dOp (op : Operator) (x y : D) (S : Sto) (Q : KQ) : Prop :=
  match op, x, y with
  | .Add, .int i, .int j => Q (.int (i + j)) S
  | .Sub, .int i, .int j => Q (.int (i - j)) S
  | .Mult, .int i, .int j => CMulD i j ∧ Q (.int (i * j)) S
  | .FloorDiv, .int i, .int j => CDiv i j ∧ Q (.int (i / j)) S
  | .Mod, .int i, .int j => 0 < j ∧ Q (.int (i % j)) S
  | .Pow, .int i, .int j => CPow i j ∧ Q (.int (i ^ j.toNat)) S
  | .Add, .str i, .str j => i.length + j.length ≤ LIM ∧ Q (.str (i ++ j)) S
  | .Add, .tup xs, .tup ys => xs.length + ys.length ≤ LIM ∧ Q (.tup (xs ++ ys)) S
  | .Add, .ref m, .ref n => match S[m]?, S[n]? with
    | some (.lst xs), some (.lst ys) => xs.length + ys.length ≤ LIM ∧ Q (.ref S.length) (S ++ [.lst (xs ++ ys)])
    | _, _ => False
  | .Mult, .ref m, .int k => match S[m]? with
    | some (.lst xs) => (-(2 ^ 63) ≤ k ∧ k < 2 ^ 63 ∧ xs.length * k.toNat ≤ LIM) ∧ Q (.ref S.length) (S ++ [.lst (List.replicate k.toNat xs).flatten])
    | _ => False
  | .LShift, .int i, .int j => CPow i j ∧ Q (.int (i * 2 ^ j.toNat)) S
  | .RShift, .int i, .int j => 0 ≤ j ∧ Q (.int (i / 2 ^ j.toNat)) S
  | .BitAnd, .int i, .int j => Q (.int (Builtin.bitAnd i j)) S
  | .BitOr, .int i, .int j => Q (.int (Builtin.bitOr i j)) S
  | .BitXor, .int i, .int j => Q (.int (Builtin.bitXor i j)) S
  | .Mult, .tup xs, .int k => (xs ≠ [] ∧ 2 ≤ k ∧ k ≤ 1000 ∧ xs.length ≤ 1000) ∧ Q (.tup (List.replicate k.toNat xs).flatten) S
  | _, _, _ => False

/-- two data as Python compares them -/
def dEq (x y : D) (S : Sto) (Q : KB) : Prop :=
  ∃ p q, toPy 66 S x = some p ∧ toPy 66 S y = some q ∧ SeqAt.shaped p = true ∧ SeqAt.shaped q = true ∧ Q (PyData.eqv p q) S
def dIn (x y : D) (S : Sto) (Q : KB) : Prop :=
  ∃ p q, toPy 66 S x = some p ∧ toPy 66 S y = some q ∧ SeqAt.shaped p = true ∧ SeqAt.shaped q = true ∧
    ((∃ qs, q = .tuple qs ∧ Q (qs.any fun z => PyData.eqv z p) S) ∨ (∃ qs, q = .list qs ∧ Q (qs.any fun z => PyData.eqv z p) S))
/-- .. of a dict, too -/
def dInA (x y : D) (S : Sto) (Q : KB) : Prop :=
  match y with
  | .ref n => match S[n]? with
    | some (.dct kvs) => ∃ k, keyOf x = some k ∧ Q (valD kvs k).isSome S
    | _ => dIn x (.ref n) S Q
  | y => dIn x y S Q
def dCmp (op : CmpOp) (x y : D) (S : Sto) (Q : KB) : Prop :=
  match op with
  | .Eq => dEq x y S Q
  | .NotEq => dEq x y S fun b S' => Q (!b) S'
  | .In => dInA x y S Q
  | .NotIn => dInA x y S fun b S' => Q (!b) S'
  | .Lt => match x, y with | .int i, .int j => Q (decide (i < j)) S | _, _ => False
  | .LtE => match x, y with | .int i, .int j => Q (decide (i ≤ j)) S | _, _ => False
  | .Gt => match x, y with | .int i, .int j => Q (decide (j < i)) S | _, _ => False
  | .GtE => match x, y with | .int i, .int j => Q (decide (j ≤ i)) S | _, _ => False
  | .Is => match x, y with | x, .non => Q (isNon x) S | .bl a, .bl b => Q (decide (a = b)) S | _, _ => False
  | .IsNot => match x, y with | x, .non => Q (!isNon x) S | .bl a, .bl b => Q (!decide (a = b)) S | _, _ => False
def dTru (x : D) (S : Sto) (Q : KB) : Prop :=
  match x with
  | .non => Q false S
  | .bl b => Q b S
  | .int i => Q (i != 0) S
  | .str y => y.length ≤ LIM ∧ Q ((y.length : Int) != 0) S
  | .tup xs => Q (!xs.isEmpty) S
  | .ktup xs => Q (!xs.isEmpty) S
  | .rol xs => Q (!xs.isEmpty) S
  | .ref n => match S[n]? with
    | some (.lst xs) => Q (!xs.isEmpty) S
    | _ => False
  | .ty _ => False
def dIdx (x i : D) (S : Sto) (Q : KQ) : Prop :=
  match x, i with
  | .tup xs, .int k => ∃ v, atI xs k = some v ∧ Q v S
  | .ktup xs, .int k => ∃ v, atI xs k = some v ∧ Q v S
  | .rol xs, .int k => ∃ v, atI xs k = some v ∧ Q v S
  | .ref n, .int k => match S[n]? with
    | some (.lst xs) => ∃ v, atI xs k = some v ∧ Q v S
    | _ => False
  | .ref n, .tup ks => match S[n]? with
    | some (.dct kvs) => ∃ k v, keyL ks = some k ∧ valD kvs k = some v ∧ Q v S
    | _ => False
  | _, _ => False
def cutD (xs : List D) (lo hi : Option Int) : List D := (xs.drop (HT.sIx xs.length 0 lo)).take (HT.sIx xs.length xs.length hi - HT.sIx xs.length 0 lo)
def dSlc (x : D) (lo hi : Option Int) (S : Sto) (Q : KQ) : Prop :=
  match x with
  | .tup xs => Q (.tup (cutD xs lo hi)) S
  | .rol xs => Q (.ref S.length) (S ++ [.lst (cutD xs lo hi)])
  | .ref n => match S[n]? with
    | some (.lst xs) => Q (.ref S.length) (S ++ [.lst (cutD xs lo hi)])
    | _ => False
  | _ => False
/-- the name of a value's type -/
def tyOf : D → String
  | .non => "NoneType"
  | .bl _ => "bool"
  | .int _ => "int"
  | .str _ => "str"
  | .tup _ => "tuple"
  | .ktup _ => "tuple"
  | .rol _ => "list"
  | .ref _ => "list"
  | .ty _ => "type"
def bools : List D → Option (List Bool)
  | [] => some []
  | .bl b :: r => (bools r).map (b :: ·)
  | _ :: _ => none
def items (S : Sto) : D → Option (List D)
  | .tup xs => some xs
  | .ktup xs => some xs
  | .rol xs => some xs
  | .ref n => match S[n]? with
    | some (.lst xs) => some xs
    | _ => none
  | _ => none
def dLen (x : D) (S : Sto) (Q : KQ) : Prop :=
  match x with
  | .str z => z.length ≤ LIM ∧ Q (.int z.length) S
  | x => match items S x with
    | some xs => Q (.int xs.length) S
    | _ => False
def dIsi (x t : D) (S : Sto) (Q : KQ) : Prop :=
  match t with
  | .ty t => (match x with
    | .ty _ => False
    | .ref n => (match S[n]? with
      | some (.lst _) => True
      | _ => False)
    | _ => True) ∧ match kitB (tyOf x) t with
    | some b => Q (.bl b) S
    | _ => False
  | _ => False
def dBools (x : D) (S : Sto) (k : List Bool → Prop) : Prop :=
  match x with
  | .ref n => match S[n]? with
    | some (.lst xs) => match bools xs with
      | some bs => k bs
      | _ => False
    | _ => False
  | _ => False
def dInt1 (x : D) (k : Int → Prop) : Prop :=
  match x with
  | .int i => k i
  | _ => False
def dItems (x : D) (S : Sto) (k : List D → Prop) : Prop :=
  match items S x with
  | some xs => k xs
  | none => False
def allI : List D → Option (List Int)
  | [] => some []
  | .int b :: r => (allI r).map (b :: ·)
  | _ :: _ => none
def dInts (x : D) (S : Sto) (k : List Int → Prop) : Prop :=
  match x with
  | .ref n => match S[n]? with
    | some (.lst xs) => match allI xs with
      | some is => k is
      | _ => False
    | _ => False
  | .rol xs => match allI xs with
    | some is => k is
    | _ => False
  | .tup xs => match allI xs with
    | some is => k is
    | _ => False
  | _ => False
/-- sorted(xs): the data in their order, equal ones in their turns -/
def sortD (ds : List D) (ps : List PyData) : List D := ((ds.zip ps).mergeSort fun a b => PySem.W.dataLe false (fun z : D × PyData => z.2) a b).map (·.1)
def dSort (x : D) (S : Sto) (Q : KQ) : Prop :=
  match x with
  | .ref n => match S[n]? with
    | some (.lst ds) => ∃ ps, ds.mapM (toPy 66 S) = some ps ∧ PySem.W.AllAlike ps ∧ PySem.W.Sortable ps ∧ ds.length ≤ LIM ∧ (∀ p ∈ ps, p.depth ≤ 60) ∧ Q (.ref S.length) (S ++ [.lst (sortD ds ps)])
    | _ => False
  | _ => False
/-- sorted(xs, key=lambda x: (sum(x), x)) of tuples of ints -/
def keySum (ns : List Int) : PyData := .tuple [.int ns.sum, .tuple (ns.map .int)]
def dSortK (x : D) (S : Sto) (Q : KQ) : Prop :=
  match x with
  | .ref n => ∃ nss : List (List Int), S[n]? = some (.lst (nss.map fun ns => D.tup (ns.map D.int))) ∧ nss.length ≤ LIM ∧ Q (.ref S.length) (S ++ [.lst ((nss.mergeSort fun a b => PySem.W.dataLe false keySum a b).map fun ns => D.tup (ns.map D.int))])
  | _ => False
def dBlt (f : Bn) (xs : List D) (S : Sto) (Q : KQ) : Prop :=
  match xs with
  | [x] => match f with
    | .len => dLen x S Q
    | .all => dBools x S fun bs => Q (.bl (bs.all id)) S
    | .any => dBools x S fun bs => Q (.bl (bs.any id)) S
    | .abs => dInt1 x fun i => Q (.int (if i < 0 then -i else i)) S
    | .sum => dInts x S fun is => Q (.int is.sum) S
    | .int => dInt1 x fun i => Q (.int i) S
    | .list => dItems x S fun xs => Q (.ref S.length) (S ++ [.lst xs])
    | .sorted => dSort x S Q
    | .tuple => match x with
      | .ktup xs => Q (.ktup xs) S
      | x => dItems x S fun xs => Q (.tup xs) S
    | _ => False
  | [x, y] => match f with
    | .isinst => dIsi x y S Q
    | .min2 => dInt1 x fun i => dInt1 y fun j => Q (.int (if j < i then j else i)) S
    | .max2 => dInt1 x fun i => dInt1 y fun j => Q (.int (if j > i then j else i)) S
    | _ => False
  | _ => False
def dApp (o a : D) (S : Sto) (Q : KQ) : Prop :=
  match o with
  | .ref n => match S[n]? with
    | some (.lst xs) => xs.length < LIM ∧ Q .non (S.set n (.lst (xs ++ [a])))
    | _ => False
  | _ => False
/-- a list that can be written -/
def isLst (x : D) (S : Sto) : Prop :=
  match x with
  | .ref n => match S[n]? with
    | some (.lst _) => True
    | _ => False
  | _ => False
def dExt (o a : D) (S : Sto) (Q : KQ) : Prop :=
  match o, a with
  | .ref n, .ref m => match S[n]?, S[m]? with
    | some (.lst xs), some (.lst ys) => xs.length + ys.length ≤ LIM ∧ Q .non (S.set n (.lst (xs ++ ys)))
    | _, _ => False
  | _, _ => False
def dSet (o i d : D) (S : Sto) (Q : Sto → Prop) : Prop :=
  match o, i with
  | .ref n, .int k => match S[n]? with
    | some (.lst xs) => ∃ j, ixN xs.length k = some j ∧ Q (S.set n (.lst (xs.set j d)))
    | _ => False
  | .ref n, .tup ks => match S[n]? with
    | some (.dct kvs) => ∃ k, keyL ks = some k ∧ kvs.length < LIM ∧ Q (S.set n (.dct (putD kvs k d)))
    | _ => False
  | _, _ => False
def intsFrom (lo : Int) (n : Nat) : List D := (List.range n).map fun (i : Nat) => D.int (lo + (i : Int))
def wipeD (ρ : En) : List Nat → En
  | [] => ρ
  | v :: vs => (wipeD ρ vs).set v none
abbrev KI := List D → (Sto → Prop) → Sto → Prop
def dIter (d : D) (S : Sto) (k : KI) : Prop :=
  match d with
  | .tup ds => k ds (fun _ => True) S
  | .ktup ds => k ds (fun _ => True) S
  | .rol ds => k ds (fun _ => True) S
  | .ref n => match S[n]? with
    | some (.lst ds) => k ds (fun S' => S'[n]? = some (.lst ds)) S
    | _ => False
  | _ => False
/-- what a written dict holds -/
def dLook : List Str → List D → Str → Option D
  | k :: ks, d :: ds, y => if k = y then some d else dLook ks ds y
  | _, _, _ => none
/-- a list's items, and that it still holds them -/
def dLIter (d : D) (S : Sto) (k : List D → (Sto → Prop) → Prop) : Prop :=
  match d with
  | .rol ds => k ds fun _ => True
  | .ref n => match S[n]? with
    | some (.lst ds) => k ds fun S' => S'[n]? = some (.lst ds)
    | _ => False
  | _ => False
def enumD (ds : List D) : List D := ds.mapIdx fun i d => .tup [.int (i : Nat), d]
def zipD (xs ys : List D) : List D := List.zipWith (fun x y => D.tup [x, y]) xs ys
def dZip (x y : D) (S : Sto) (Q : KI) : Prop :=
  match x, y with
  | .tup xs, .tup ys => Q (zipD xs ys) (fun _ => True) S
  | x, y => dLIter x S fun xs c => dLIter y S fun ys c' => Q (zipD xs ys) (fun S' => c S' ∧ c' S') S
/-- the comprehension's loop -/
def cLoop (n : Nat) (chk : Sto → Prop) (turn : D → Sto → (D → Sto → Prop) → (Sto → Prop) → Prop) (k : Sto → Prop) : List D → Sto → Prop
  | [], S => chk S ∧ k S
  | d :: r, S => chk S ∧ turn d S (fun y S4 => ∃ acc, S4[n]? = some (.lst acc) ∧ acc.length < LIM ∧ cLoop n chk turn k r (S4.set n (.lst (acc ++ [y])))) (cLoop n chk turn k r)

/-- the loop of a clause of a comprehension -/
def iLoop (chk : Sto → Prop) (turn : D → Sto → (Sto → Prop) → Prop) (k : Sto → Prop) : List D → Sto → Prop
  | [], S => chk S ∧ k S
  | d :: r, S => chk S ∧ turn d S (iLoop chk turn k r)

/-! ### what the language means -/
section
variable (fs : List FSp)
mutual
def wE : IE → En → Sto → KQ → Prop
  | .var i, ρ, S, Q => match ρ[i]? with
    | some (some d) => Q d S
    | _ => False
  | .cst d, _, S, Q => Q d S
  | .tup as, ρ, S, Q => wA as ρ S fun ds S1 => ds.length ≤ LIM ∧ Q (.tup ds) S1
  | .lst as, ρ, S, Q => wA as ρ S fun ds S1 => ds.length ≤ LIM ∧ Q (.ref S1.length) (S1 ++ [.lst ds])
  | .bin op a b, ρ, S, Q => wE a ρ S fun x S1 => wE b ρ S1 fun y S2 => dOp op x y S2 Q
  | .not a, ρ, S, Q => wE a ρ S fun x S1 => dTru x S1 fun b S2 => Q (.bl (!b)) S2
  | .neg a, ρ, S, Q => wE a ρ S fun x S1 => match x with
    | .int i => Q (.int (-i)) S1
    | _ => False
  | .and a b, ρ, S, Q => wE a ρ S fun x S1 => dTru x S1 fun k S2 => if k = true then wE b ρ S2 Q else Q x S2
  | .or a b, ρ, S, Q => wE a ρ S fun x S1 => dTru x S1 fun k S2 => if k = true then Q x S2 else wE b ρ S2 Q
  | .cmp op a b, ρ, S, Q => wE a ρ S fun x S1 => wE b ρ S1 fun y S2 => dCmp op x y S2 fun k S3 => Q (.bl k) S3
  | .chn op op' a b c, ρ, S, Q => wE a ρ S fun x S1 => wE b ρ S1 fun y S2 => dCmp op x y S2 fun k S3 => if k = true then wE c ρ S3 fun z S4 => dCmp op' y z S4 fun k' S5 => Q (.bl k') S5 else Q (.bl false) S3
  | .ite t a b, ρ, S, Q => wT t ρ S fun k S1 => if k = true then wE a ρ S1 Q else wE b ρ S1 Q
  | .fn f as, ρ, S, Q => wA as ρ S fun ds S1 => match fs[f]? with
    | some sp => sp ds S1 Q
    | _ => False
  | .blt f as, ρ, S, Q => wA as ρ S fun ds S1 => dBlt f ds S1 Q
  | .idx a i, ρ, S, Q => wE a ρ S fun x S1 => wE i ρ S1 fun y S2 => dIdx x y S2 Q
  | .slc a lo hi, ρ, S, Q => wE a ρ S fun x S1 => wO lo ρ S1 fun l S2 => wO hi ρ S2 fun h S3 => dSlc x l h S3 Q
  | .app o a, ρ, S, Q => wE o ρ S fun x S1 => isLst x S1 ∧ wE a ρ S1 fun y S2 => dApp x y S2 Q
  | .extd o a, ρ, S, Q => wE o ρ S fun x S1 => isLst x S1 ∧ wE a ρ S1 fun y S2 => dExt x y S2 Q
  | .lcp own g it t elt, ρ, S, Q => wI it ρ S fun ds chk S1 =>
      cLoop S1.length chk (fun d S2 ky kn => wG g d (wipeD ρ own) S2 fun ρ2 S3 => wTs t ρ2 S3 fun k S4 => if k = true then wE elt ρ2 S4 ky else kn S4) (Q (.ref S1.length)) ds (S1 ++ [.lst []])
  | .dsub ks vs x, ρ, S, Q => wA vs ρ S fun ds S1 => wE x ρ S1 fun d S2 => match d with
    | .str y => ∃ v, dLook ks ds y = some v ∧ Q v S2
    | _ => False
  | .dnew, _, S, Q => Q (.ref S.length) (S ++ [.dct []])
  | .csub kds x, ρ, S, Q => wE x ρ S fun d S1 => match d with
    | .str y => ∃ v, kds.lookup y = some v ∧ Q v S1
    | _ => False
  | .lrng a, ρ, S, Q => wE a ρ S fun d S1 => match d with
    | .int j => (0 ≤ j ∧ j ≤ 16777216) ∧ Q (.ref S1.length) (S1 ++ [.lst (intsFrom 0 j.toNat)])
    | _ => False
  | .lcn own g it t c, ρ, S, Q => wI it ρ S fun ds chk S1 =>
      iLoop chk (fun d S2 k2 => wG g d (wipeD (wipeD ρ own) own) S2 fun ρ2 S3 => wTs t ρ2 S3 fun b S4 => if b = true then wC c ρ2 S4 S1.length k2 else k2 S4) (Q (.ref S1.length)) ds (S1 ++ [.lst []])
def wC : IC → En → Sto → Nat → (Sto → Prop) → Prop
  | .elt e, ρ, S, n, k => wE e ρ S fun y S1 => ∃ acc, S1[n]? = some (.lst acc) ∧ acc.length < LIM ∧ k (S1.set n (.lst (acc ++ [y])))
  | .gen vs g it t c, ρ, S, n, k => wI it ρ S fun ds chk S1 => iLoop chk (fun d S2 k2 => wG g d (wipeD ρ vs) S2 fun ρ2 S3 => wTs t ρ2 S3 fun b S4 => if b = true then wC c ρ2 S4 n k2 else k2 S4) k ds S1
def wA : IA → En → Sto → KL → Prop
  | .nil, _, S, Q => Q [] S
  | .cons e as, ρ, S, Q => wE e ρ S fun d S1 => wA as ρ S1 fun ds S2 => Q (d :: ds) S2
def wO : IO → En → Sto → (Option Int → Sto → Prop) → Prop
  | .no, _, S, Q => Q none S
  | .yes e, ρ, S, Q => wE e ρ S fun d S1 => match d with
    | .int i => Q (some i) S1
    | _ => False
def wT : IT → En → Sto → KB → Prop
  | .val e, ρ, S, Q => wE e ρ S fun x S1 => dTru x S1 Q
  | .cmp op a b, ρ, S, Q => wE a ρ S fun x S1 => wE b ρ S1 fun y S2 => dCmp op x y S2 Q
  | .chn op op' a b c, ρ, S, Q => wE a ρ S fun x S1 => wE b ρ S1 fun y S2 => dCmp op x y S2 fun k S3 => if k = true then wE c ρ S3 fun z S4 => dCmp op' y z S4 Q else Q false S3
  | .and a b, ρ, S, Q => wT a ρ S fun k S1 => if k = true then wT b ρ S1 Q else Q false S1
  | .or a b, ρ, S, Q => wT a ρ S fun k S1 => if k = true then Q true S1 else wT b ρ S1 Q
  | .not a, ρ, S, Q => wT a ρ S fun k S1 => Q (!k) S1
def wTs : ITs → En → Sto → KB → Prop
  | .none, _, S, Q => Q true S
  | .one t, ρ, S, Q => wT t ρ S Q
def wG : IG → D → En → Sto → (En → Sto → Prop) → Prop
  | .name i, d, ρ, S, Q => Q (ρ.set i (some d)) S
  | .tup gs, d, ρ, S, Q => match d with
    | .tup ds => ds.length = gsLen gs ∧ wGs gs ds ρ S Q
    | _ => False
  | .sub o i, d, ρ, S, Q => wE o ρ S fun od S1 => wE i ρ S1 fun id S2 => dSet od id d S2 fun S3 => Q ρ S3
def wGs : IGs → List D → En → Sto → (En → Sto → Prop) → Prop
  | .nil, ds, ρ, S, Q => ds = [] ∧ Q ρ S
  | .cons g gs, ds, ρ, S, Q => match ds with
    | d :: r => wG g d ρ S fun ρ1 S1 => wGs gs r ρ1 S1 Q
    | [] => False
def wI : II → En → Sto → KI → Prop
  | .val e, ρ, S, Q => wE e ρ S fun d S1 => dIter d S1 Q
  | .rng1 a, ρ, S, Q => wE a ρ S fun d S1 => match d with
    | .int j => (-(2 ^ 62) ≤ j ∧ j < 2 ^ 62) ∧ Q (intsFrom 0 j.toNat) (fun _ => True) S1
    | _ => False
  | .rng2 a b, ρ, S, Q => wE a ρ S fun d S1 => wE b ρ S1 fun e S2 => match d, e with
    | .int i, .int j => (-(2 ^ 62) ≤ i ∧ i < 2 ^ 62 ∧ -(2 ^ 62) ≤ j ∧ j < 2 ^ 62) ∧ Q (intsFrom i (j - i).toNat) (fun _ => True) S2
    | _, _ => False
  | .enum a, ρ, S, Q => wE a ρ S fun d S1 => dLIter d S1 fun ds chk => Q (enumD ds) chk S1
  | .zip a b, ρ, S, Q => wE a ρ S fun d S1 => wE b ρ S1 fun e S2 => dZip d e S2 Q
end

structure DEnds where
  nx : En → Sto → Prop
  rt : KQ
  bk : En → Sto → Prop
  ct : En → Sto → Prop
def fLoop (chk : Sto → Prop) (tg : D → En → Sto → (En → Sto → Prop) → Prop) (body : DEnds → En → Sto → Prop) (E : DEnds) : List D → En → Sto → Prop
  | [], ρ, S => chk S ∧ E.nx ρ S
  | d :: r, ρ, S => chk S ∧ tg d ρ S fun ρ2 S2 => body { E with nx := fLoop chk tg body E r, ct := fLoop chk tg body E r, bk := E.nx } ρ2 S2
def hLoop (c : En → Sto → KB → Prop) (body : DEnds → En → Sto → Prop) (E : DEnds) : Nat → En → Sto → Prop
  | 0, _, _ => False
  | n + 1, ρ, S => c ρ S fun k S1 => if k = true then body { E with nx := hLoop c body E n, ct := hLoop c body E n, bk := E.nx } ρ S1 else E.nx ρ S1
mutual
def wS : IS → DEnds → En → Sto → Prop
  | .ret e, E, ρ, S => wE fs e ρ S E.rt
  | .retN, E, _, S => E.rt .non S
  | .expr e, E, ρ, S => wE fs e ρ S fun _ S1 => E.nx ρ S1
  | .asg g e, E, ρ, S => wE fs e ρ S fun d S1 => wG fs g d ρ S1 E.nx
  | .par i j a b, E, ρ, S => wE fs a ρ S fun x S1 => wE fs b ρ S1 fun y S2 => E.nx ((ρ.set i (some x)).set j (some y)) S2
  | .ifs t a b, E, ρ, S => wT fs t ρ S fun k S1 => if k = true then wB a E ρ S1 else wB b E ρ S1
  | .fr g it body, E, ρ, S => wI fs it ρ S fun ds chk S1 => fLoop chk (fun d ρ' S' k => wG fs g d ρ' S' k) (fun E' ρ' S' => wB body E' ρ' S') E ds ρ S1
  | .wh t body, E, ρ, S => ∃ n, hLoop (fun ρ' S' k => wT fs t ρ' S' k) (fun E' ρ' S' => wB body E' ρ' S') E n ρ S
  | .pass, E, ρ, S => E.nx ρ S
  | .brk, E, ρ, S => E.bk ρ S
  | .cont, E, ρ, S => E.ct ρ S
  | .nev, _, _, _ => False
def wB : IB → DEnds → En → Sto → Prop
  | .nil, E, ρ, S => E.nx ρ S
  | .cons s b, E, ρ, S => wS s { E with nx := fun ρ' S' => wB b E ρ' S' } ρ S
end
end
end DW

set_option Elab.async false
set_option linter.all false
set_option maxRecDepth 100000
set_option maxHeartbeats 2000000
/-! the program's text becomes the small language -/
namespace DW
open PySem PySem.Spec PyProof.Rows L2

structure Ctx where
  N : List Str
  sc : Scope
  blk : Option Scope
  con : List (Str × D)
  fn : List Str
  bn : List Str
  /-- the module's dicts with text keys -/
  dcn : List (Str × List (Str × D)) := []
  /-- sorted(.., key=lambda x: (sum(x), x)) is the promise at this place -/
  srt : Option Nat := none
  /-- x(lambda: f(..)) is the promise at this place -/
  lam : List ((Str × Str) × Nat) := []

def Ctx.kind (C : Ctx) (x : Str) : Option NameKind := C.sc.names.lookup x
/-- one of the names is a cell -/
def cellT (C : Ctx) (tt : List Expr) : Bool := tt.any fun e => match e with
  | .Name x _ => C.kind x == some .cell
  | _ => false
/-- a name that can be stored -/
def Ctx.okSt (C : Ctx) (x : Str) : Bool :=
  match C.kind x with
  | some .local => true
  | some .cell => match C.blk with
    | none => true
    | some s => s.names.lookup x == some .cell
  | _ => false
def idxOf (N : List Str) (x : Str) : Option Nat :=
  match N with
  | [] => none
  | y :: r => if y = x then some 0 else (idxOf r x).map (· + 1)
theorem idxOf_get : ∀ {N : List Str} {x : Str} {i : Nat}, idxOf N x = some i → N[i]? = some x
  | [], _, _, h => by cases h
  | y :: r, x, i, h => by
    unfold idxOf at h
    by_cases e : y = x
    · rw [if_pos e] at h; cases h; simp [e]
    · rw [if_neg e] at h
      cases q : idxOf r x with
      | none => rw [q] at h; cases h
      | some j => rw [q] at h; cases h; simpa using idxOf_get q

def isTupE : Expr → Bool
  | .Tuple _ _ _ => true
  | _ => false
def tyName (x : Str) : Option String :=
  if x = "tuple" then some "tuple" else if x = "int" then some "int" else if x = "bool" then some "bool" else if x = "str" then some "str" else if x = "list" then some "list" else none
def bnOf (x : Str) (n : Nat) : Option Bn :=
  if x = "len" ∧ n = 1 then some .len else if x = "isinstance" ∧ n = 2 then some .isinst else if x = "all" ∧ n = 1 then some .all else if x = "any" ∧ n = 1 then some .any else if x = "abs" ∧ n = 1 then some .abs
  else if x = "int" ∧ n = 1 then some .int else if x = "min" ∧ n = 2 then some .min2 else if x = "max" ∧ n = 2 then some .max2 else if x = "list" ∧ n = 1 then some .list else if x = "tuple" ∧ n = 1 then some .tuple else if x = "sum" ∧ n = 1 then some .sum else if x = "sorted" ∧ n = 1 then some .sorted else none
/-- the names that a block owns, with their places -/
def ownOf (N : List Str) : List (Str × NameKind) → List (Str × Nat)
  | [] => []
  | (x, k) :: r => if k = .local ∨ k = .cell then match idxOf N x with
      | some i => (x, i) :: ownOf N r
      | none => ownOf N r
    else ownOf N r

def constD : Const → Option D
  | .none => some .non
  | .bool b => some (.bl b)
  | .int i => some (.int i)
  | .str x => some (.str x)
  | _ => none
def compA (f : Expr → Option IE) : List Expr → Option IA
  | [] => some .nil
  | e :: r => match f e, compA f r with
    | some a, some b => some (.cons a b)
    | _, _ => none
def compK (f : Expr → Option IE) : List (Option Expr) → Option (List Str)
  | [] => some []
  | some e :: r => match f e, compK f r with
    | some (.cst (.str k)), some ks => some (k :: ks)
    | _, _ => none
  | none :: _ => none
def compO (f : Expr → Option IE) : Option Expr → Option IO
  | none => some .no
  | some e => (f e).map .yes
def compGs (f : Expr → Option IG) : List Expr → Option IGs
  | [] => some .nil
  | e :: r => match f e, compGs f r with
    | some a, some b => some (.cons a b)
    | _, _ => none
def okName (x : Str) : Bool := !(x == ("__debug__" : Str)) && !(x == ("__classdict__" : Str)) && !(x == ("__name__" : Str))

/-- list(range(a)) -/
def lrngOf (x : Str) (es : List Expr) : Option Expr :=
  match es with
  | [.Call (.Name r _) [a] [] _] => if x = "list" ∧ r = "range" then some a else none
  | _ => none
/-- lambda x: (sum(x), x) -/
def isSumKey (ks : List Keyword) : Option (Arguments × Expr × Scope × Pos × Str) :=
  match ks with
  | [⟨some n, .Lambda params (.Tuple [.Call (.Name s ps) [.Name h1 p1] [] pc, .Name h2 p2] k pt) scope lpos, _⟩] =>
    match params with
    | ⟨[], [⟨h, none, _⟩], none, [], [], none, []⟩ => if n = "key" ∧ s = "sum" ∧ h1 = h ∧ h2 = h ∧ h ≠ "sum" ∧ okName h = true ∧ scope.names = [(h, .local), ("sum", .globalImplicit)] ∧ scope.kind = .function ∧ scope.isCoroutine = false ∧ scope.isGenerator = false then some (params, .Tuple [.Call (.Name s ps) [.Name h1 p1] [] pc, .Name h2 p2] k pt, scope, lpos, h) else none
    | _ => none
  | _ => none
/-- x(lambda: f(..)) -/
def lamOf (sc : Scope) (tab : List ((Str × Str) × Nat)) (x : Str) (es : List Expr) : Option (Nat × List Expr × Scope) :=
  match es with
  | [.Lambda params (.Call (.Name f _) as [] _) scope _] => match params with
    | ⟨[], [], none, [], [], none, []⟩ => if LamX.lamSB sc scope = true ∧ scope.names.lookup f = some .globalImplicit ∧ okName f = true ∧ as ≠ [] then (tab.lookup (x, f)).map fun i => (i, as, scope) else none
    | _ => none
  | _ => none

mutual
def compE : Nat → Ctx → Expr → Option IE
  | 0, _, _ => none
  | n + 1, C, e => match e with
    | .Constant c _ _ => (constD c).map .cst
    | .Name x _ => if okName x = true then match C.kind x with
        | some .local => (idxOf C.N x).map .var
        | some .cell => (idxOf C.N x).map .var
        | some .free => (idxOf C.N x).map .var
        | some .globalImplicit => match C.con.lookup x with
          | some d => some (.cst d)
          | none => if C.bn.contains x = true then (tyName x).map fun t => .cst (.ty t) else none
        | _ => none
      else none
    | .Tuple es _ _ => (compA (compE n C) es).map .tup
    | .List es _ => (compA (compE n C) es).map .lst
    | .BinOp a op b _ => match compE n C a, compE n C b with
      | some x, some y => some (.bin op x y)
      | _, _ => none
    | .UnaryOp .Not a _ => (compE n C a).map .not
    | .UnaryOp .USub a _ => (compE n C a).map .neg
    | .BoolOp op es p => match es with
      | [a] => compE n C a
      | a :: b :: r => match compE n C a, compE n C (.BoolOp op (b :: r) p) with
        | some x, some y => some (match op with
          | .And => .and x y
          | .Or => .or x y)
        | _, _ => none
      | [] => none
    | .Compare a ops es _ => match ops, es with
      | [op], [b] => match compE n C a, compE n C b with
        | some x, some y => some (.cmp op x y)
        | _, _ => none
      | [op, op'], [b, c] => match compE n C a, compE n C b, compE n C c with
        | some x, some y, some z => some (.chn op op' x y z)
        | _, _, _ => none
      | _, _ => none
    | .IfExp c a b _ => match compT n C c, compE n C a, compE n C b with
      | some t, some x, some y => some (.ite t x y)
      | _, _, _ => none
    | .Call f es ks p => match f, ks with
      | .Name x _, [] => if okName x = true ∧ C.kind x = some .globalImplicit then match idxOf C.fn x with
          | some i => match lamOf C.sc C.lam x es with
            | some (j, as, scope) => (compA (compE n { C with sc := scope, blk := some scope, fn := [], bn := [], dcn := [], srt := none, lam := [] }) as).map (.fn j)
            | none => (compA (compE n C) es).map (.fn i)
          | none => if C.bn.contains x = true then match lrngOf x es with
              | some a => if C.kind "range" = some .globalImplicit ∧ C.bn.contains "range" = true then (compE n C a).map .lrng else none
              | none => match bnOf x es.length with
                | some b => (compA (compE n C) es).map (.blt b)
                | none => none
            else none
        else none
      | .Name x _, ks => match es, isSumKey ks, C.srt with
        | [a], some _, some i => if x = "sorted" ∧ C.kind x = some .globalImplicit ∧ C.bn.contains x = true ∧ C.bn.contains "sum" = true ∧ C.blk.isNone = true then (compE n C a).map fun y => .fn i (.cons y .nil) else none
        | _, _, _ => none
      | .Attribute o m ap, [] => match o, es with
        | .Name _ _, [a] => if m = "append" ∧ (ap.endLine == p.line) = true then match compE n C o, compE n C a with
            | some x, some y => some (.app x y)
            | _, _ => none
          else if m = "extend" ∧ (ap.endLine == p.line) = true then match compE n C o, compE n C a with
            | some x, some y => some (.extd x y)
            | _, _ => none
          else none
        | _, _ => none
      | _, _ => none
    | .Subscript a i _ => match i with
      | .Slice lo hi none _ => match compE n C a, compO (compE n C) lo, compO (compE n C) hi with
        | some x, some l, some h => some (.slc x l h)
        | _, _, _ => none
      | i => match compE n C a, compE n C i with
        | some x, some y => some (.idx x y)
        | none, some y => match a with
          | .Dict keys vs _ => match compK (compE n C) keys, compA (compE n C) vs with
            | some ks, some as => if keys.length = vs.length ∧ keys.length ≤ 15 ∧ 0 < keys.length ∧ ks.Nodup ∧ keys.all (·.isSome) = true then some (.dsub ks as y) else none
            | _, _ => none
          | .Name x _ => if okName x = true ∧ C.kind x = some .globalImplicit then (C.dcn.lookup x).map fun kds => .csub kds y else none
          | _ => none
        | _, _ => none
    | .Dict keys vs _ => match keys, vs with
      | [], [] => some .dnew
      | _, _ => none
    | .ListComp elt gs scope _ => match gs with
      | g :: g2 :: gr => match compLn n C elt g (g2 :: gr) scope with
        | some (own, g', it', t', c) => some (.lcn own g' it' t' c)
        | none => none
      | [g] => match compLc n C elt g scope with
        | some (own, g', it', t', e') => some (.lcp own g' it' t' e')
        | none => none
      | _ => none
    | _ => none
def compLc : Nat → Ctx → Expr → Comprehension → Scope → Option (List Nat × IG × II × ITs × IE)
  | 0, _, _, _, _ => none
  | n + 1, C, elt, g, scope =>
    let own := ownOf C.N scope.names
    let C' : Ctx := { C with sc := relS scope C.sc, blk := some scope }
    if g.is_async = 0 ∧ blkC C.N C.sc scope own = true then
      match compG n C' g.target, compI n C g.target g.iter, compTs n C' g.ifs, compE n C' elt with
      | some a, some b, some c, some d => if (gSlots a).all (fun i => (own.map (·.2)).contains i) = true then some (own.map (·.2), a, b, c, d) else none
      | _, _, _, _ => none
    else none
def compLn : Nat → Ctx → Expr → Comprehension → List Comprehension → Scope → Option (List Nat × IG × II × ITs × IC)
  | 0, _, _, _, _, _ => none
  | n + 1, C, elt, g, gr, scope =>
    let own := ownOf C.N scope.names
    let C' : Ctx := { C with sc := relS scope C.sc, blk := some scope }
    if g.is_async = 0 ∧ blkC C.N C.sc scope own = true then
      match compG n C' g.target, compI n C g.target g.iter, compTs n C' g.ifs, compC n C' elt gr with
      | some a, some b, some c, some (d, vs) => if (gSlots a ++ vs).all (fun i => (own.map (·.2)).contains i) = true then some (own.map (·.2), a, b, c, d) else none
      | _, _, _, _ => none
    else none
/-- the further clauses, and the slots that they store to -/
def compC : Nat → Ctx → Expr → List Comprehension → Option (IC × List Nat)
  | 0, _, _, _ => none
  | n + 1, C, elt, gr => match gr with
    | [] => (compE n C elt).map fun e => (.elt e, [])
    | g :: r => match compG n C g.target, compI n C g.target g.iter, compTs n C g.ifs, compC n C elt r with
      | some a, some b, some c, some (d, vs) => if g.is_async = 0 then some (.gen (gSlots a ++ vs) a b c d, gSlots a ++ vs) else none
      | _, _, _, _ => none
def compT : Nat → Ctx → Expr → Option IT
  | 0, _, _ => none
  | n + 1, C, e => match e with
    | .UnaryOp .Not a _ => (compT n C a).map .not
    | .BoolOp op es p => match es with
      | [a] => compT n C a
      | a :: b :: r => match compT n C a, compT n C (.BoolOp op (b :: r) p) with
        | some x, some y => some (match op with
          | .And => .and x y
          | .Or => .or x y)
        | _, _ => none
      | [] => none
    | .Compare a ops es _ => match ops, es with
      | [op], [b] => match compE n C a, compE n C b with
        | some x, some y => some (.cmp op x y)
        | _, _ => none
      | [op, op'], [b, c] => match compE n C a, compE n C b, compE n C c with
        | some x, some y, some z => some (.chn op op' x y z)
        | _, _, _ => none
      | _, _ => none
    | .IfExp .. => none
    | e => (compE n C e).map .val
def compTs : Nat → Ctx → List Expr → Option ITs
  | 0, _, _ => none
  | n + 1, C, es => match es with
    | [] => some .none
    | [t] => (compT n C t).map .one
    | _ => none
def compG : Nat → Ctx → Expr → Option IG
  | 0, _, _ => none
  | n + 1, C, e => match e with
    | .Name x _ => if C.okSt x = true then (idxOf C.N x).map .name else none
    | .Tuple es _ _ => (compGs (compG n C) es).map .tup
    | .Subscript o i _ => match i with
      | .Slice .. => none
      | i => match compE n C o, compE n C i with
        | some x, some y => some (.sub x y)
        | _, _ => none
    | _ => none
def compI : Nat → Ctx → Expr → Expr → Option II
  | 0, _, _, _ => none
  | n + 1, C, tg, e => match e with
    | .Call (.Name x _) es [] _ => if x = "range" ∧ C.kind x = some .globalImplicit ∧ C.bn.contains x = true then match es with
        | [a] => (compE n C a).map .rng1
        | [a, b] => match compE n C a, compE n C b with
          | some x, some y => some (.rng2 x y)
          | _, _ => none
        | _ => none
      else if x = "enumerate" ∧ C.kind x = some .globalImplicit ∧ C.bn.contains x = true ∧ isTupE tg = true then match es with
        | [a] => (compE n C a).map .enum
        | _ => none
      else if x = "zip" ∧ C.kind x = some .globalImplicit ∧ C.bn.contains x = true ∧ isTupE tg = true then match es with
        | [a, b] => match compE n C a, compE n C b with
          | some x, some y => some (.zip x y)
          | _, _ => none
        | _ => none
      else (compE n C e).map .val
    | e => (compE n C e).map .val
end

/-- is e a comprehension of a kind that a store could take in -/
def isComp : Expr → Bool
  | .ListComp .. => true
  | .SetComp .. => true
  | .DictComp .. => true
  | _ => false
/-- two plain local names, each its own -/
def isParT : List Expr → Bool
  | [.Name _ _, .Name _ _] => true
  | _ => false
def okLc (C : Ctx) (x : Str) (px : Pos) (v : Expr) : Bool :=
  match v with
  | .ListComp _ _ sc p => decide (C.kind x = some .local) && decide (C.sc.kind = .function) && (px.line == p.line) && !(sc.names.any fun (n, k) => n == x && (k == .local || k == .cell))
  | _ => false
mutual
def compS : Nat → Ctx → Stmt → Option IS
  | 0, _, _ => none
  | n + 1, C, s => match s with
    | .Return v _ => match v with
      | some e => (compE n C e).map .ret
      | none => some .retN
    | .Expr e _ => match e with
      | .Constant (.str _) _ _ => some .pass
      | e => if isComp e = true then none else (compE n C e).map .expr
    | .Assign ts v p => match ts with
      | [.Name x px] => match compE n C v, idxOf C.N x with
        | some e, some i =>
          if isComp v = true then (if okLc C x px v = true then some (.asg (.name i) e) else none)
          else if C.okSt x = true then some (.asg (.name i) e) else none
        | _, _ => none
      | [.Tuple tt kt pt] => match v with
        | .Tuple vs kv pv => if (vs.all (foldedForSure 8) || cellT C tt) = true then match compE n C (.Tuple vs kv pv), compG n C (.Tuple tt kt pt) with
            | some e, some g => some (.asg g e)
            | _, _ => none
          else match tt, vs with
          | [.Name x px, .Name y py], [a, b] => match idxOf C.N x, idxOf C.N y, compE n C a, compE n C b with
            | some i, some j, some ea, some eb => if i ≠ j ∧ x ≠ y ∧ C.kind x = some .local ∧ C.kind y = some .local ∧ C.sc.kind = .function ∧ (py.line == px.line) = true ∧ [a, b].all (foldedForSure 8) = false ∧ [a, b].all (constantsAlone 8) = false then some (.par i j ea eb) else none
            | _, _, _, _ => none
          | _, _ => none
        | v => if isComp v = true then none else match compE n C v, compG n C (.Tuple tt kt pt) with
          | some e, some g => some (.asg g e)
          | _, _ => none
      | [.Subscript o i q] => if isComp v = true then none else match compE n C v, compG n C (.Subscript o i q) with
        | some e, some g => some (.asg g e)
        | _, _ => none
      | _ => none
    | .If c a b _ => match compT n C c, compB n C a, compB n C b with
      | some t, some x, some y => some (.ifs t x y)
      | _, _, _ => none
    | .For tg it body els _ => match els with
      | [] => match compG n C tg, compI n C tg it, compB n C body with
        | some g, some i, some b => some (.fr g i b)
        | _, _, _ => none
      | _ => none
    | .While c body els _ => match els with
      | [] => match compT n C c, compB n C body with
        | some t, some b => some (.wh t b)
        | _, _ => none
      | _ => none
    | .Pass _ => some .pass
    | .Break _ => some .brk
    | .Continue _ => some .cont
    | .Raise .. => some .nev
    | _ => none
def compB : Nat → Ctx → List Stmt → Option IB
  | 0, _, _ => none
  | n + 1, C, ss => match ss with
    | [] => some .nil
    | s :: r => match compS n C s, compB n C r with
      | some a, some b => some (.cons a b)
      | _, _ => none
end
end DW

set_option Elab.async false
set_option linter.all false
set_option maxRecDepth 100000
set_option maxHeartbeats 2000000
/-! operations on data are what the program's operations do -/
namespace DW
open PySem PySem.Spec PyProof.Rows L2

variable [Tb : Tbl]
section
variable {K : PySem.W.Frag} {φ φ' : List Addr} {H H' : Hp} {S : Sto}

structure EnvRel (K : PySem.W.Frag) (φ : List Addr) (H : Hp) (ρ : En) (σ : L2.St) : Prop where
  len : ρ.length = σ.length
  at_ : ∀ (i : Nat) (d : D), ρ[i]? = some (some d) → ∃ v, σ[i]? = some (some v) ∧ Rep K φ H v d
theorem EnvRel.mono {ρ : En} {σ : L2.St} (l : Le φ φ') (t : TupLe H H') (r : EnvRel K φ H ρ σ) : EnvRel K φ' H' ρ σ :=
  ⟨r.len, fun i d h => let ⟨v, e, q⟩ := r.at_ i d h; ⟨v, e, q.mono l t⟩⟩
theorem EnvRel.set {ρ : En} {σ : L2.St} {v : V} {d : D} (i : Nat) (r : EnvRel K φ H ρ σ) (q : Rep K φ H v d) : EnvRel K φ H (ρ.set i (some d)) (σ.set i (some v)) := by
  refine ⟨by rw [List.length_set, List.length_set]; exact r.len, fun j e h => ?_⟩
  by_cases hj : i = j
  · subst hj
    by_cases hl : i < ρ.length
    · rw [List.getElem?_set_self hl] at h
      cases h
      exact ⟨v, List.getElem?_set_self (by rw [← r.len]; exact hl), q⟩
    · rw [List.getElem?_eq_none (by rw [List.length_set]; omega)] at h; cases h
  · rw [List.getElem?_set_ne hj] at h
    rw [List.getElem?_set_ne hj]
    exact r.at_ j e h
theorem EnvRel.unset {ρ : En} {σ : L2.St} (i : Nat) (r : EnvRel K φ H ρ σ) : EnvRel K φ H (ρ.set i none) (σ.set i none) := by
  refine ⟨by rw [List.length_set, List.length_set]; exact r.len, fun j e h => ?_⟩
  by_cases hj : i = j
  · subst hj
    by_cases hl : i < ρ.length
    · rw [List.getElem?_set_self hl] at h; cases h
    · rw [List.getElem?_eq_none (by rw [List.length_set]; omega)] at h; cases h
  · rw [List.getElem?_set_ne hj] at h
    rw [List.getElem?_set_ne hj]
    exact r.at_ j e h
theorem EnvRel.wipe {ρ : En} {σ : L2.St} (r : EnvRel K φ H ρ σ) : ∀ own : List Nat, EnvRel K φ H (wipeD ρ own) (L2.wipe σ own)
  | [] => r
  | v :: vs => (EnvRel.wipe r vs).unset v

/-- only the slots told have changed -/
structure Only (σ σ2 : L2.St) (slots : List Nat) : Prop where
  len : σ2.length = σ.length
  at_ : ∀ j : Nat, j ∉ slots → σ2[j]? = σ[j]?
theorem Only.refl (σ : L2.St) (s : List Nat) : Only σ σ s := ⟨rfl, fun _ _ => rfl⟩
theorem Only.set (σ : L2.St) (i : Nat) (o : Option V) : Only σ (σ.set i o) [i] := ⟨by simp, fun j h => by
  rw [List.getElem?_set_ne]; intro e; exact h (by simp [e])⟩
theorem Only.trans {σ σ1 σ2 : L2.St} {s t : List Nat} (a : Only σ σ1 s) (b : Only σ1 σ2 t) : Only σ σ2 (s ++ t) :=
  ⟨b.len.trans a.len, fun j h => by
    rw [List.mem_append, not_or] at h
    rw [b.at_ j h.2, a.at_ j h.1]⟩
theorem wipe_get (σ : L2.St) (j : Nat) : ∀ own : List Nat, (L2.wipe σ own)[j]? = if j ∈ own then (if j < σ.length then some none else none) else σ[j]?
  | [] => by rw [if_neg (by simp)]; rfl
  | v :: vs => by
    show ((L2.wipe σ vs).set v none)[j]? = _
    have ih := wipe_get σ j vs
    by_cases hv : v = j
    · subst hv
      rw [if_pos (by simp)]
      by_cases hl : v < σ.length
      · rw [if_pos hl, List.getElem?_set_self (by rw [L2.wipe_length]; exact hl)]
      · rw [if_neg hl, List.getElem?_eq_none (by rw [List.length_set, L2.wipe_length]; omega)]
    · rw [List.getElem?_set_ne hv, ih]
      by_cases hm : j ∈ vs
      · rw [if_pos hm, if_pos (List.mem_cons_of_mem _ hm)]
      · rw [if_neg hm, if_neg (by simp only [List.mem_cons, not_or]; exact ⟨Ne.symm hv, hm⟩)]
theorem Only.wipe {σ σ2 : L2.St} {s own : List Nat} (a : Only σ σ2 s) (h : ∀ i ∈ s, i ∈ own) : L2.wipe σ2 own = L2.wipe σ own := by
  apply List.ext_getElem?
  intro j
  rw [wipe_get, wipe_get, a.len]
  by_cases hm : j ∈ own
  · rw [if_pos hm, if_pos hm]
  · rw [if_neg hm, if_neg hm, a.at_ j fun z => hm (h j z)]
theorem Only.wipe2 {σ σ2 : L2.St} {s own : List Nat} (a : Only (L2.wipe σ own) σ2 s) (h : ∀ i ∈ s, i ∈ own) : L2.wipe σ2 own = L2.wipe σ own := by
  apply List.ext_getElem?
  intro j
  rw [wipe_get, wipe_get, a.len, L2.wipe_length]
  by_cases hm : j ∈ own
  · rw [if_pos hm, if_pos hm]
  · rw [if_neg hm, if_neg hm, a.at_ j fun z => hm (h j z), wipe_get, if_neg hm]

/-! ### what is wanted of an end -/
def Post (K : PySem.W.Frag) (φ : List Addr) (H : Hp) (Q : VK) (QD : KQ) : Prop := ∀ (d : D) (S' : Sto) (v : V) (H' : Hp) (φ' : List Addr), Le φ φ' → TupLe H H' → SRel K φ' S' H' → Rep K φ' H' v d → QD d S' → Q v H'
def PostB (K : PySem.W.Frag) (φ : List Addr) (H : Hp) (Q : Bool → Hp → Prop) (QD : KB) : Prop := ∀ (b : Bool) (S' : Sto) (H' : Hp) (φ' : List Addr), Le φ φ' → TupLe H H' → SRel K φ' S' H' → QD b S' → Q b H'
def PostL (K : PySem.W.Frag) (φ : List Addr) (H : Hp) (Q : List V → Hp → Prop) (QD : KL) : Prop := ∀ (ds : List D) (S' : Sto) (vs : List V) (H' : Hp) (φ' : List Addr), Le φ φ' → TupLe H H' → SRel K φ' S' H' → RepL K φ' H' vs ds → QD ds S' → Q vs H'
def PostO (K : PySem.W.Frag) (φ : List Addr) (H : Hp) (Q : Option Int → Hp → Prop) (QD : Option Int → Sto → Prop) : Prop := ∀ (o : Option Int) (S' : Sto) (H' : Hp) (φ' : List Addr), Le φ φ' → TupLe H H' → SRel K φ' S' H' → QD o S' → Q o H'
theorem Post.mono {Q : VK} {QD : KQ} (p : Post K φ H Q QD) (l : Le φ φ') (t : TupLe H H') : Post K φ' H' Q QD := fun d S' v H2 φ2 l2 t2 s r q => p d S' v H2 φ2 (l.trans l2) (t.trans t2) s r q
theorem PostB.mono {Q : Bool → Hp → Prop} {QD : KB} (p : PostB K φ H Q QD) (l : Le φ φ') (t : TupLe H H') : PostB K φ' H' Q QD := fun d S' H2 φ2 l2 t2 s q => p d S' H2 φ2 (l.trans l2) (t.trans t2) s q
theorem PostL.mono {Q : List V → Hp → Prop} {QD : KL} (p : PostL K φ H Q QD) (l : Le φ φ') (t : TupLe H H') : PostL K φ' H' Q QD := fun d S' v H2 φ2 l2 t2 s r q => p d S' v H2 φ2 (l.trans l2) (t.trans t2) s r q
theorem PostO.mono {Q : Option Int → Hp → Prop} {QD : Option Int → Sto → Prop} (p : PostO K φ H Q QD) (l : Le φ φ') (t : TupLe H H') : PostO K φ' H' Q QD := fun d S' H2 φ2 l2 t2 s q => p d S' H2 φ2 (l.trans l2) (t.trans t2) s q
theorem Post.here {Q : VK} {QD : KQ} (p : Post K φ H Q QD) (s : SRel K φ S H) {v : V} {d : D} (r : Rep K φ H v d) (q : QD d S) : Q v H := p d S v H φ (Le.refl φ) (TupLe.refl H) s r q
theorem PostB.here {Q : Bool → Hp → Prop} {QD : KB} (p : PostB K φ H Q QD) (s : SRel K φ S H) {b : Bool} (q : QD b S) : Q b H := p b S H φ (Le.refl φ) (TupLe.refl H) s q
/-- a new tuple -/
theorem Post.tup {Q : VK} {QD : KQ} (p : Post K φ H Q QD) (s : SRel K φ S H) {vs : List V} {ds : List D} (r : RepL K φ H vs ds) (q : QD (.tup ds) S) {a : Addr} (h : H a = none) : Q (.ref a) (upd H a (.tup vs)) :=
  p _ S _ _ φ (Le.refl φ) (TupLe.new h) (s.new h) (.tup upd_same (r.mono (Le.refl φ) (TupLe.new h))) q
/-- a new list -/
theorem Post.lst {Q : VK} {QD : KQ} (p : Post K φ H Q QD) (s : SRel K φ S H) {vs : List V} {ds : List D} (r : RepL K φ H vs ds) (q : QD (.ref S.length) (S ++ [.lst ds])) {a : Addr} (h : H a = none) : Q (.ref a) (upd H a (.lst vs)) :=
  p _ _ _ _ (φ ++ [a]) (Le.app φ [a]) (TupLe.new h) (s.alloc h r) (.ref s.idx) q

/-! ### readings over data -/
def rOp (K : PySem.W.Frag) (f : D → D → Sto → KQ → Prop) : R2 := fun x y H Q => ∃ (dx dy : D) (S : Sto) (φ : List Addr) (QD : KQ), Rep K φ H x dx ∧ Rep K φ H y dy ∧ SRel K φ S H ∧ f dx dy S QD ∧ Post K φ H Q QD
def rCp (K : PySem.W.Frag) (op : CmpOp) : R2 := fun x y H Q => ∃ (dx dy : D) (S : Sto) (φ : List Addr) (QD : KB), Rep K φ H x dx ∧ Rep K φ H y dy ∧ SRel K φ S H ∧ dCmp op dx dy S QD ∧ ∀ b, QD b S → Q (.bl b) H
end

section
variable {X : Cx} {φ : List Addr} {H : Hp} {S : Sto}
theorem opD (op : Operator) : OpR X (binaryOp op) (rOp X.K (dOp op)) := by
  intro pins s σ H x y v u Q I rx ry h
  obtain ⟨dx, dy, S, φ, QD, hx, hy, hs, hw, hp⟩ := h
  unfold dOp at hw
  split at hw
  · cases hx; cases hy
    exact op_add pins s σ H _ _ v u Q I rx ry ⟨_, _, rfl, rfl, hp.here hs (.int _) hw⟩
  · cases hx; cases hy
    exact op_sub pins s σ H _ _ v u Q I rx ry ⟨_, _, rfl, rfl, hp.here hs (.int _) hw⟩
  · cases hx; cases hy
    rcases hw.1 with c | c | c
    · exact op_mul pins s σ H _ _ v u Q I rx ry ⟨_, _, rfl, rfl, .inl c, hp.here hs (.int _) hw.2⟩
    · exact op_mul pins s σ H _ _ v u Q I rx ry ⟨_, _, rfl, rfl, .inr c, hp.here hs (.int _) hw.2⟩
    · exact op_mulW pins s σ H _ _ v u Q I rx ry ⟨_, _, rfl, rfl, c, hp.here hs (.int _) hw.2⟩
  · cases hx; cases hy
    exact op_fdiv pins s σ H _ _ v u Q I rx ry ⟨_, _, rfl, rfl, hw.1, hp.here hs (.int _) hw.2⟩
  · cases hx; cases hy
    exact op_mod pins s σ H _ _ v u Q I rx ry ⟨_, _, rfl, rfl, hw.1, hp.here hs (.int _) hw.2⟩
  · cases hx; cases hy
    exact op_pow pins s σ H _ _ v u Q I rx ry ⟨_, _, rfl, rfl, hw.1, hp.here hs (.int _) hw.2⟩
  · cases hx; cases hy
    exact op_add_str pins s σ H _ _ v u Q I rx ry ⟨_, _, rfl, rfl, lim_le hw.1, hp.here hs (.str _) hw.2⟩
  · cases hx with
    | @tup a vs _ h1 r1 =>
      cases hy with
      | @tup b ws _ h2 r2 =>
        have e1 := r1.length
        have e2 := r2.length
        refine op_catA pins s σ H _ _ v u Q I rx ry ⟨a, b, vs, ws, rfl, rfl, SqT.of h1, SqT.of h2, lim_le (by rw [e1, e2]; exact hw.1), fun z => ?_, fun z z2 => ?_, fun _ _ p hpn => ?_⟩
        · subst z
          cases r1
          exact hp.here hs (.tup h2 r2) hw.2
        · subst z2
          cases r2
          have q := hw.2
          rw [List.append_nil] at q
          exact hp.here hs (.tup h1 r1) q
        · exact hp.tup hs (r1.app r2) hw.2 hpn
  · cases hx with
    | @ref a m hm =>
      cases hy with
      | @ref b n hn =>
        split at hw
        · rename_i xs ys e1 e2
          obtain ⟨vs, f1, r1⟩ := hs.ob _ _ _ hm e1
          obtain ⟨ws, f2, r2⟩ := hs.ob _ _ _ hn e2
          have l1 := r1.length
          have l2 := r2.length
          exact op_cat pins s σ H _ _ v u Q I rx ry ⟨a, b, vs, ws, rfl, rfl, f1, f2, lim_le (by rw [l1, l2]; exact hw.1), fun p hpn => hp.lst hs (r1.app r2) hw.2 hpn⟩
        · exact hw.elim
  · cases hx with
    | @ref a m hm =>
      cases hy
      split at hw
      · rename_i xs e1
        obtain ⟨vs, f1, r1⟩ := hs.ob _ _ _ hm e1
        have l1 := r1.length
        exact op_rep pins s σ H _ _ v u Q I rx ry ⟨a, _, vs, rfl, rfl, f1, hw.1.1, hw.1.2.1, lim_le (by rw [l1]; exact hw.1.2.2), fun p hpn => hp.lst hs (r1.rep _) hw.2 hpn⟩
      · exact hw.elim
  · cases hx; cases hy
    exact op_shl pins s σ H _ _ v u Q I rx ry ⟨_, _, rfl, rfl, hw.1, hp.here hs (.int _) hw.2⟩
  · cases hx; cases hy
    exact op_shr pins s σ H _ _ v u Q I rx ry ⟨_, _, rfl, rfl, hw.1, hp.here hs (.int _) hw.2⟩
  · cases hx; cases hy
    exact op_and pins s σ H _ _ v u Q I rx ry ⟨_, _, rfl, rfl, hp.here hs (.int _) hw⟩
  · cases hx; cases hy
    exact op_or pins s σ H _ _ v u Q I rx ry ⟨_, _, rfl, rfl, hp.here hs (.int _) hw⟩
  · cases hx; cases hy
    exact op_xor pins s σ H _ _ v u Q I rx ry ⟨_, _, rfl, rfl, hp.here hs (.int _) hw⟩
  · cases hx with
    | @tup a vs _ h1 r1 =>
      cases hy
      have l1 := r1.length
      obtain ⟨⟨g1, g2, g3, g4⟩, g5⟩ := hw
      refine op_repT pins s σ H _ _ v u Q I rx ry ⟨a, _, vs, rfl, rfl, SqT.of h1, fun z => ?_, g2, g3, by rw [l1]; exact g4, fun p hpn => hp.tup hs (r1.rep _) g5 hpn⟩
      subst z
      cases r1
      exact g1 rfl
  · exact hw.elim

theorem rep_none {K : PySem.W.Frag} {v : V} {d : D} (r : Rep K φ H v d) : decide (v = .non) = isNon d := by
  cases r <;> simp [isNon]
/-- a tuple is a key -/
theorem keyT {pins : List (Addr × Obj)} {σ : L2.St} {s : Shared} {a : Addr} {ks : List L2.Key} (I : Inv X pins σ H s) (h : SqT X.K H a (ks.map kV)) : (tupleKind (mixKind X.prog X.w)).is s.heap ks a := by
  obtain ⟨its, r, ⟨o, h1, h2, n, h3⟩, _⟩ := I.tuple h
  exact ⟨o, its.toArray, n, h1, h2, h3, by simpa using items_are r⟩
theorem key1_rep {K : PySem.W.Frag} {v : V} {d : D} {k : L2.Key} (r : Rep K φ H v d) (h : key1 d = some k) : v = kV k := by
  cases r <;> simp only [key1, Option.some.injEq, reduceCtorEq] at h <;> subst h <;> rfl
theorem keyL_rep {K : PySem.W.Frag} : ∀ {ds : List D} {vs : List V} {ks : List L2.Key}, RepL K φ H vs ds → keyL ds = some ks → vs = ks.map kV
  | [], _, _, r, h => by cases r; cases h; rfl
  | d :: ds, _, _, .cons r t, h => by
    unfold keyL at h
    split at h
    · rename_i k ks e1 e2
      cases h
      rw [key1_rep r e1, keyL_rep t e2]; rfl
    · cases h
theorem keyOf_rep {K : PySem.W.Frag} {v : V} {d : D} {ks : List L2.Key} (r : Rep K φ H v d) (h : keyOf d = some ks) : ∃ a, v = .ref a ∧ H a = some (.tup (ks.map kV)) := by
  cases r with
  | @tup a vs ds h1 r1 => exact ⟨a, rfl, by rw [← keyL_rep r1 h]; exact h1⟩
  | _ => cases h
/-- what is found in a dict -/
theorem val_rep {K : PySem.W.Frag} : ∀ {vs : List (List L2.Key × V)} {kvs : List (List L2.Key × D)} (k : List L2.Key), vs.map (·.1) = kvs.map (·.1) → RepL K φ H (vs.map (·.2)) (kvs.map (·.2)) →
    (valD kvs k = none ∧ valV vs k = none) ∨ ∃ d v, valD kvs k = some d ∧ valV vs k = some v ∧ Rep K φ H v d
  | [], [], _, _, _ => .inl ⟨rfl, rfl⟩
  | [], _ :: _, _, h, _ => by cases h
  | _ :: _, [], _, h, _ => by cases h
  | (a, v) :: vs, (b, d) :: kvs, k, h, r => by
    simp only [List.map_cons, List.cons.injEq] at h
    obtain ⟨rfl, h⟩ := h
    cases r with
    | cons r t =>
      by_cases e : a = k
      · exact .inr ⟨d, v, by simp [valD, e], valV_pos e, r⟩
      · have e1 : valD ((a, d) :: kvs) k = valD kvs k := by simp [valD, e]
        have e2 : valV ((a, v) :: vs) k = valV vs k := valV_neg e
        rw [e1, e2]
        exact val_rep k h t
theorem put_rep {K : PySem.W.Frag} {v : V} {d : D} (r : Rep K φ H v d) (k : List L2.Key) : ∀ {vs : List (List L2.Key × V)} {kvs : List (List L2.Key × D)}, vs.map (·.1) = kvs.map (·.1) → RepL K φ H (vs.map (·.2)) (kvs.map (·.2)) →
    (putK vs k v).map (·.1) = (putD kvs k d).map (·.1) ∧ RepL K φ H ((putK vs k v).map (·.2)) ((putD kvs k d).map (·.2)) := by
  intro vs kvs h q
  have an : (vs.any fun kv => decide (kv.1 = k)) = (kvs.any fun kv => decide (kv.1 = k)) := by
    have : ∀ {α : Type} (l : List (List L2.Key × α)), (l.any fun kv => decide (kv.1 = k)) = ((l.map (·.1)).any fun z => decide (z = k)) := fun l => by rw [List.any_map]; rfl
    rw [this, this, h]
  unfold putK putD
  rw [an]
  split
  · have : ∀ {vs : List (List L2.Key × V)} {kvs : List (List L2.Key × D)}, vs.map (·.1) = kvs.map (·.1) → RepL K φ H (vs.map (·.2)) (kvs.map (·.2)) →
        (vs.map fun kv => if kv.1 = k then (kv.1, v) else kv).map (·.1) = (kvs.map fun kv => if kv.1 = k then (kv.1, d) else kv).map (·.1) ∧ RepL K φ H ((vs.map fun kv => if kv.1 = k then (kv.1, v) else kv).map (·.2)) ((kvs.map fun kv => if kv.1 = k then (kv.1, d) else kv).map (·.2)) := by
      intro vs
      induction vs with
      | nil => intro kvs h q; cases kvs with
        | nil => exact ⟨rfl, .nil⟩
        | cons => cases h
      | cons p vs ih => intro kvs h q; cases kvs with
        | nil => cases h
        | cons b kvs =>
          simp only [List.map_cons, List.cons.injEq] at h
          cases q with
          | cons q1 q2 =>
            obtain ⟨i1, i2⟩ := ih h.2 q2
            simp only [List.map_cons]
            rw [← h.1, i1]
            by_cases e : p.1 = k
            · rw [if_pos e, if_pos (h.1 ▸ e)]
              exact ⟨by simp [h.1], .cons r i2⟩
            · rw [if_neg e, if_neg (h.1 ▸ e)]
              exact ⟨by simp [h.1], .cons q1 i2⟩
    exact this h q
  · rw [List.map_append, List.map_append, List.map_append, List.map_append, h]
    exact ⟨rfl, q.app (.cons r .nil)⟩
/-- x in a dict -/
theorem inA {x y : V} {dx dy : D} {QB : KB} {P : Prop} (hs : SRel X.K φ S H) (hx : Rep X.K φ H x dx) (hy : Rep X.K φ H y dy) (hw : dInA dx dy S QB) (h1 : dIn dx dy S QB → P) (h2 : ∀ a o, y = .ref a → DGet H a x o → QB o.isSome S → P) : P := by
  unfold dInA at hw
  split at hw
  · rename_i n
    split at hw
    · rename_i kvs e
      obtain ⟨k, e1, q⟩ := hw
      cases hy with
      | @ref a _ hn =>
        obtain ⟨vs, f1, f2, f3⟩ := hs.ob _ _ _ hn e
        obtain ⟨b, rfl, hb⟩ := keyOf_rep hx e1
        refine h2 a (valV vs k) rfl (DGet.t f1 hb) ?_
        rcases val_rep k f2 f3 with ⟨v1, v2⟩ | ⟨d, v, v1, v2, _⟩
        · rw [v1] at q; rw [v2]; exact q
        · rw [v1] at q; rw [v2]; exact q
    · exact h1 hw
  · exact h1 hw
theorem cpD (op : CmpOp) (hu : X.A.units + 66 < cLine) : OpR X (compareOp op) (rCp X.K op) := by
  intro pins s σ H x y v u Q I rx ry h
  obtain ⟨dx, dy, S, φ, QD, hx, hy, hs, hw, hp⟩ := h
  cases op with
  | Eq =>
    obtain ⟨p, q, e1, e2, s1, s2, k⟩ := hw
    exact op_eqD (by omega) pins s σ H _ _ v u Q I rx ry ⟨p, q, dp_of hs _ _ _ _ hx e1, dp_of hs _ _ _ _ hy e2, s1, s2, hp _ k⟩
  | NotEq =>
    obtain ⟨p, q, e1, e2, s1, s2, k⟩ := hw
    exact op_neD (by omega) pins s σ H _ _ v u Q I rx ry ⟨p, q, dp_of hs _ _ _ _ hx e1, dp_of hs _ _ _ _ hy e2, s1, s2, hp _ k⟩
  | In =>
    refine inA hs hx hy (show dInA dx dy S QD from hw) (fun hw => ?_) fun a o ey g q => (by
      subst ey
      cases ry
      exact d_in (by omega) I g rx fun s3 I3 => ⟨.bl o.isSome, H, I3, rfl, hp _ q⟩)
    obtain ⟨p, q, e1, e2, s1, s2, k⟩ := hw
    have hd := dp_of hs _ _ _ _ hx e1
    have he := dp_of hs _ _ _ _ hy e2
    rcases k with ⟨qs, rfl, k⟩ | ⟨qs, rfl, k⟩
    · obtain ⟨as, q1⟩ := Dp.reads I _ x v hd rx
      obtain ⟨bs, q2⟩ := Dp.reads I _ y u he ry
      have hroom : X.A.units + 1 + min (PyData.depthAll qs) p.depth < cLine := by
        have := SeqAt.depth_of_shaped s1
        omega
      exact SeqAt.in_tuple_reads q2 q1 (by have := SeqAt.canLay_of_shaped s2; simpa [PyData.canLay0] using this) (SeqAt.canLay_of_shaped s1) hroom ⟨.bl _, H, I, rfl, hp _ k⟩
    · exact op_inD (by omega) pins s σ H _ _ v u Q I rx ry ⟨p, qs, hd, he, s1, s2, hp _ k⟩
  | NotIn =>
    refine inA hs hx hy (show dInA dx dy S (fun b S' => QD (!b) S') from hw) (fun hw => ?_) fun a o ey g q => (by
      subst ey
      cases ry
      exact d_notIn (by omega) I g rx fun s3 I3 => ⟨.bl (!o.isSome), H, I3, rfl, hp _ q⟩)
    obtain ⟨p, q, e1, e2, s1, s2, k⟩ := hw
    have hd := dp_of hs _ _ _ _ hx e1
    have he := dp_of hs _ _ _ _ hy e2
    rcases k with ⟨qs, rfl, k⟩ | ⟨qs, rfl, k⟩
    · obtain ⟨as, q1⟩ := Dp.reads I _ x v hd rx
      obtain ⟨bs, q2⟩ := Dp.reads I _ y u he ry
      have hroom : X.A.units + 1 + min (PyData.depthAll qs) p.depth < cLine := by
        have := SeqAt.depth_of_shaped s1
        omega
      exact SeqAt.notIn_tuple_reads q2 q1 (by have := SeqAt.canLay_of_shaped s2; simpa [PyData.canLay0] using this) (SeqAt.canLay_of_shaped s1) hroom ⟨.bl _, H, I, rfl, hp _ k⟩
    · exact op_notInD (by omega) pins s σ H _ _ v u Q I rx ry ⟨p, qs, hd, he, s1, s2, hp _ k⟩
  | Lt =>
    simp only [dCmp] at hw
    split at hw
    · cases hx; cases hy
      exact op_lt pins s σ H _ _ v u Q I rx ry ⟨_, _, rfl, rfl, hp _ hw⟩
    · exact hw.elim
  | LtE =>
    simp only [dCmp] at hw
    split at hw
    · cases hx; cases hy
      exact op_le pins s σ H _ _ v u Q I rx ry ⟨_, _, rfl, rfl, hp _ hw⟩
    · exact hw.elim
  | Gt =>
    simp only [dCmp] at hw
    split at hw
    · cases hx; cases hy
      exact op_gt pins s σ H _ _ v u Q I rx ry ⟨_, _, rfl, rfl, hp _ hw⟩
    · exact hw.elim
  | GtE =>
    simp only [dCmp] at hw
    split at hw
    · cases hx; cases hy
      exact op_ge pins s σ H _ _ v u Q I rx ry ⟨_, _, rfl, rfl, hp _ hw⟩
    · exact hw.elim
  | Is =>
    simp only [dCmp] at hw
    split at hw
    · cases hy
      refine op_isN pins s σ H _ _ v u Q I rx ry ⟨rfl, ?_⟩
      rw [rep_none hx]
      exact hp _ hw
    · cases hx; cases hy
      exact op_is_bl pins s σ H _ _ v u Q I rx ry ⟨_, _, rfl, rfl, hp _ hw⟩
    · exact hw.elim
  | IsNot =>
    simp only [dCmp] at hw
    split at hw
    · cases hy
      refine op_notN pins s σ H _ _ v u Q I rx ry ⟨rfl, ?_⟩
      rw [rep_none hx]
      exact hp _ hw
    · cases hx; cases hy
      exact op_isnot_bl pins s σ H _ _ v u Q I rx ry ⟨_, _, rfl, rfl, hp _ hw⟩
    · exact hw.elim

theorem truD {K : PySem.W.Frag} {v : V} {d : D} {QB : KB} (s : SRel K φ S H) (r : Rep K φ H v d) (h : dTru d S QB) : ∃ k, TruV K v H k ∧ QB k S := by
  cases r with
  | non => exact ⟨false, rfl, h⟩
  | bl b => exact ⟨b, rfl, h⟩
  | int i => exact ⟨_, rfl, h⟩
  | str x => exact ⟨_, ⟨lim_le h.1, rfl⟩, h.2⟩
  | ty n => exact h.elim
  | @tup a vs ds h1 r1 =>
    have e : vs.isEmpty = ds.isEmpty := by cases r1 <;> rfl
    exact ⟨!vs.isEmpty, .inr (.inl ⟨vs, SqT.of h1, rfl⟩), by rw [e]; exact h⟩
  | @ktup a vs ds h1 r1 =>
    have e : vs.isEmpty = ds.isEmpty := by cases r1 <;> rfl
    exact ⟨!vs.isEmpty, .inr (.inl ⟨vs, h1, rfl⟩), by rw [e]; exact h⟩
  | @rol a vs ds h1 r1 =>
    have e : vs.isEmpty = ds.isEmpty := by cases r1 <;> rfl
    exact ⟨!vs.isEmpty, .inl ⟨vs, h1.l, rfl⟩, by rw [e]; exact h⟩
  | @ref a n hn =>
    unfold dTru at h
    simp only at h
    split at h
    · rename_i xs e1
      obtain ⟨vs, f1, r1⟩ := s.ob _ _ _ hn e1
      have e : vs.isEmpty = xs.isEmpty := by cases r1 <;> rfl
      exact ⟨!vs.isEmpty, .inl ⟨vs, SqL.of f1, rfl⟩, by rw [e]; exact h⟩
    · exact h.elim

theorem atI_rep {K : PySem.W.Frag} {vs : List V} {ds : List D} {k : Int} {d : D} (r : RepL K φ H vs ds) (h : atI ds k = some d) : ∃ v, atI vs k = some v ∧ Rep K φ H v d := by
  unfold atI at h ⊢
  rw [r.length]
  cases e : ixN ds.length k with
  | none => rw [e] at h; cases h
  | some j =>
    rw [e] at h
    exact r.get h
theorem ixD (hu : X.A.units + 66 < cLine) : IxR X (rOp X.K dIdx) := by
  intro value slice pins s σ H x y v u Q I rx ry h hsb
  obtain ⟨dx, dy, S, φ, QD, hx, hy, hs, hw, hp⟩ := h
  unfold dIdx at hw
  split at hw
  · cases hy
    cases hx with
    | @tup a vs ds h1 r1 =>
      obtain ⟨w, e, q⟩ := hw
      obtain ⟨v', e', rv⟩ := atI_rep r1 e
      exact ix_tup value slice pins s σ H _ _ v u Q I rx ry ⟨a, vs, _, v', rfl, rfl, SqT.of h1, e', hp.here hs rv q⟩ hsb
  · cases hy
    cases hx with
    | @ktup a vs ds h1 r1 =>
      obtain ⟨w, e, q⟩ := hw
      obtain ⟨v', e', rv⟩ := atI_rep r1 e
      exact ix_tup value slice pins s σ H _ _ v u Q I rx ry ⟨a, vs, _, v', rfl, rfl, h1, e', hp.here hs rv q⟩ hsb
  · cases hy
    cases hx with
    | @rol a vs ds h1 r1 =>
      obtain ⟨w, e, q⟩ := hw
      obtain ⟨v', e', rv⟩ := atI_rep r1 e
      exact ix_list value slice pins s σ H _ _ v u Q I rx ry ⟨a, vs, _, v', rfl, rfl, h1.l, e', hp.here hs rv q⟩ hsb
  · cases hy
    cases hx with
    | @ref a n hn =>
      split at hw
      · rename_i xs e1
        obtain ⟨vs, f1, r1⟩ := hs.ob _ _ _ hn e1
        obtain ⟨w, e, q⟩ := hw
        obtain ⟨v', e', rv⟩ := atI_rep r1 e
        exact ix_list value slice pins s σ H _ _ v u Q I rx ry ⟨a, vs, _, v', rfl, rfl, SqL.of f1, e', hp.here hs rv q⟩ hsb
      · exact hw.elim
  · cases hx with
    | @ref a n hn =>
      split at hw
      · rename_i kvs e1
        obtain ⟨vs, f1, f2, f3⟩ := hs.ob _ _ _ hn e1
        obtain ⟨k, w, e2, e3, q⟩ := hw
        obtain ⟨b, rfl, hb⟩ := keyOf_rep (ks := k) hy e2
        rcases val_rep k f2 f3 with ⟨v1, v2⟩ | ⟨d, v', v1, v2, rv⟩
        · rw [v1] at e3; cases e3
        · rw [v1] at e3
          cases e3
          have g : DGet H a (.ref b) (some v') := by rw [← v2]; exact DGet.t f1 hb
          obtain rfl : v = Value.ref a := rx
          exact tail_any (dict_typeIs I g) PySem.F.slot_dict_getitem.lookup (d_getItem (by omega) I g ry fun w' s3 I3 rw' => ⟨v', H, I3, rw', hp.here hs rv q⟩) hsb
      · exact hw.elim
  · exact hw.elim

theorem cut_rep {K : PySem.W.Frag} {vs : List V} {ds : List D} (r : RepL K φ H vs ds) (lo hi : Option Int) : RepL K φ H (cutV vs lo hi) (cutD ds lo hi) := by
  unfold cutV cutD
  rw [r.length]
  exact (r.drop _).take _
theorem cut_whole {ds : List D} {lo hi : Option Int} (h : HT.sIx ds.length 0 lo = 0 ∧ HT.sIx ds.length ds.length hi = ds.length) : cutD ds lo hi = ds := by
  unfold cutD
  rw [h.1, h.2]
  simp
def rSl (K : PySem.W.Frag) : V → Option Int → Option Int → Hp → VK → Prop := fun x lo hi H Q => ∃ (dx : D) (S : Sto) (φ : List Addr) (QD : KQ), Rep K φ H x dx ∧ SRel K φ S H ∧ dSlc dx lo hi S QD ∧ Post K φ H Q QD
theorem slD : SlR X (rSl X.K) := by
  intro pins s σ H x v vl vu lo hi sl Q I rx hsl pl pu h
  obtain ⟨dx, S, φ, QD, hx, hs, hw, hp⟩ := h
  cases hx with
  | @tup a vs ds h1 r1 =>
    have e1 := r1.length
    refine sl_tupA pins s σ H _ v vl vu lo hi sl Q I rx hsl pl pu ⟨a, vs, rfl, SqT.of h1, fun z => ?_, fun _ p hpn => hp.tup hs (cut_rep r1 lo hi) hw hpn⟩
    have q : QD (.tup (cutD ds lo hi)) S := hw
    rw [e1] at z
    rw [cut_whole z] at q
    exact hp.here hs (.tup h1 r1) q
  | @rol a vs ds h1 r1 =>
    exact sl_list pins s σ H _ v vl vu lo hi sl Q I rx hsl pl pu ⟨a, vs, rfl, h1.l, fun p hpn => hp.lst hs (cut_rep r1 lo hi) hw hpn⟩
  | @ref a n hn =>
    unfold dSlc at hw
    simp only at hw
    split at hw
    · rename_i xs e1
      obtain ⟨vs, f1, r1⟩ := hs.ob _ _ _ hn e1
      exact sl_list pins s σ H _ v vl vu lo hi sl Q I rx hsl pl pu ⟨a, vs, rfl, SqL.of f1, fun p hpn => hp.lst hs (cut_rep r1 lo hi) hw hpn⟩
    · exact hw.elim
  | non => exact hw.elim
  | bl b => exact hw.elim
  | int i => exact hw.elim
  | str z => exact hw.elim
  | ty n => exact hw.elim
  | ktup h1 r1 => exact hw.elim

/-! ### built-ins -/
theorem items_rep {K : PySem.W.Frag} {v : V} {d : D} {xs : List D} (s : SRel K φ S H) (r : Rep K φ H v d) (h : items S d = some xs) : ∃ a vs, v = .ref a ∧ (SqL K H a vs ∨ SqT K H a vs) ∧ RepL K φ H vs xs := by
  cases r with
  | @tup a vs ds h1 r1 => cases h; exact ⟨a, vs, rfl, .inr (SqT.of h1), r1⟩
  | @ktup a vs ds h1 r1 => cases h; exact ⟨a, vs, rfl, .inr h1, r1⟩
  | @rol a vs ds h1 r1 => cases h; exact ⟨a, vs, rfl, .inl h1.l, r1⟩
  | @ref a n hn =>
    unfold items at h
    simp only at h
    split at h
    · rename_i ys e1
      cases h
      obtain ⟨vs, f1, r1⟩ := s.ob _ _ _ hn e1
      exact ⟨a, vs, rfl, .inl (SqL.of f1), r1⟩
    · cases h
  | non => cases h
  | bl b => cases h
  | int i => cases h
  | str z => cases h
  | ty n => cases h
theorem bools_rep {K : PySem.W.Frag} : ∀ {ds : List D} {vs : List V} {bs : List Bool}, RepL K φ H vs ds → bools ds = some bs → vs = bs.map V.bl
  | [], _, _, .nil, h => by cases h; rfl
  | d :: ds, _, bs, .cons r t, h => by
    cases d with
    | bl b =>
      cases r
      simp only [bools] at h
      cases e : bools ds with
      | none => rw [e] at h; cases h
      | some cs => rw [e] at h; cases h; rw [bools_rep t e]; rfl
    | _ => cases h
theorem ty_rep {K : PySem.W.Frag} {v : V} {d : D} (s : SRel K φ S H) (r : Rep K φ H v d) (h : ∀ n, d ≠ .ty n) (hS : ∀ n, d = .ref n → ∃ xs, S[n]? = some (.lst xs)) : TyX K H v (.type (tyOf d)) := by
  cases r with
  | non => exact .base .non
  | bl b => exact .base (.bl b)
  | int i => exact .base (.int i)
  | str z => exact .base (.str z)
  | ty n => exact absurd rfl (h n)
  | @tup a vs ds h1 r1 => exact .base (.tup h1)
  | @ktup a vs ds h1 r1 =>
    rcases h1 with (h1 | ⟨o, h1⟩) | ⟨o, its, n, hk, hc, _⟩
    · exact .base (.tup h1)
    · exact .fTuple h1
    · exact .kTuple hk hc
  | @rol a vs ds h1 r1 =>
    rcases h1 with ⟨o, h1⟩ | ⟨o, its, n, hk, hc, _⟩
    · exact .base (.frz h1)
    · exact .kList hk hc
  | @ref a n hn =>
    obtain ⟨xs, e⟩ := hS n rfl
    obtain ⟨vs, f1, r1⟩ := s.ob _ _ _ hn e
    exact .base (.lst f1)
def rBl (K : PySem.W.Frag) (f : Bn) : List V → Hp → VK → Prop := fun vs H Q => ∃ (ds : List D) (S : Sto) (φ : List Addr) (QD : KQ), RepL K φ H vs ds ∧ SRel K φ S H ∧ dBlt f ds S QD ∧ Post K φ H Q QD
def bnV : Bn → Value
  | .len => .builtin "len" | .isinst => .builtin "isinstance" | .all => .builtin "all" | .any => .builtin "any" | .abs => .builtin "abs" | .int => .type "int" | .min2 => .builtin "min" | .max2 => .builtin "max" | .list => .type "list" | .tuple => .type "tuple" | .sum => .builtin "sum" | .sorted => .builtin "sorted"
theorem ref_lt {K : PySem.W.Frag} {a : Addr} {n : Nat} (s : SRel K φ S H) (h : φ[n]? = some a) : n < S.length := by rw [← s.len]; exact (List.getElem?_eq_some_iff.mp h).1
theorem repL1 {K : PySem.W.Frag} {vs : List V} {d : D} (r : RepL K φ H vs [d]) : ∃ v, vs = [v] ∧ Rep K φ H v d := by
  cases r with
  | cons r t => cases t; exact ⟨_, rfl, r⟩
theorem repL2 {K : PySem.W.Frag} {vs : List V} {d e : D} (r : RepL K φ H vs [d, e]) : ∃ v w, vs = [v, w] ∧ Rep K φ H v d ∧ Rep K φ H w e := by
  cases r with
  | cons r t => cases t with
    | cons r2 t2 => cases t2; exact ⟨_, _, rfl, r, r2⟩
theorem int1 {v : V} {d : D} {K : PySem.W.Frag} {k : Int → Prop} (r : Rep K φ H v d) (h : dInt1 d k) : ∃ i, v = .int i ∧ k i := by
  cases r with
  | int i => exact ⟨i, rfl, h⟩
  | _ => exact False.elim h
theorem bools1 {v : V} {d : D} {K : PySem.W.Frag} {k : List Bool → Prop} (s : SRel K φ S H) (r : Rep K φ H v d) (h : dBools d S k) : ∃ a bs, v = .ref a ∧ SqL K H a (bs.map V.bl) ∧ k bs := by
  cases r with
  | @ref a n hn =>
    simp only [dBools] at h
    split at h
    · rename_i xs e
      split at h
      · rename_i bs e2
        obtain ⟨vs, f1, r1⟩ := s.ob _ _ _ hn e
        have := bools_rep r1 e2
        subst this
        exact ⟨a, bs, rfl, SqL.of f1, h⟩
      · exact h.elim
    · exact h.elim
  | _ => exact False.elim h
theorem ints_vs {K : PySem.W.Frag} : ∀ {xs : List D} {vs : List V} {is : List Int}, RepL K φ H vs xs → allI xs = some is → vs = is.map V.int
  | [], _, _, r, e => by cases r; cases e; rfl
  | d :: ds, _, _, r, e => by
    cases r with
    | cons r t =>
      cases d with
      | int i =>
        simp only [allI, Option.map_eq_some_iff] at e
        obtain ⟨js, e, rfl⟩ := e
        cases r
        rw [ints_vs t e]
        rfl
      | _ => cases e
theorem ints1 {v : V} {d : D} {K : PySem.W.Frag} {k : List Int → Prop} (s : SRel K φ S H) (r : Rep K φ H v d) (h : dInts d S k) : ∃ a is, v = .ref a ∧ (SqL K H a (is.map V.int) ∨ SqT K H a (is.map V.int)) ∧ k is := by
  cases r with
  | @ref a n hn =>
    simp only [dInts] at h
    split at h
    · rename_i xs e
      split at h
      · rename_i is e2
        obtain ⟨vs, f1, r1⟩ := s.ob _ _ _ hn e
        have := ints_vs r1 e2
        subst this
        exact ⟨a, is, rfl, .inl (SqL.of f1), h⟩
      · exact h.elim
    · exact h.elim
  | @rol a vs ds h1 r1 =>
    simp only [dInts] at h
    split at h
    · rename_i is e2
      have := ints_vs r1 e2
      subst this
      exact ⟨a, is, rfl, .inl h1.l, h⟩
    · exact h.elim
  | @tup a vs ds h1 r1 =>
    simp only [dInts] at h
    split at h
    · rename_i is e2
      have := ints_vs r1 e2
      subst this
      exact ⟨a, is, rfl, .inr (SqT.of h1), h⟩
    · exact h.elim
  | _ => exact False.elim h
/-- sum of a tuple of ints -/
theorem sum_tupV {pins : List (Addr × Obj)} {σ : L2.St} {s : Shared} {a : Addr} {is : List Int} {Q : Value → Shared → Prop} {A : Around} {E : Value → Shared → Prop} (hh : A.handled = none) (I : Inv X pins σ H s) (h : SqT X.K H a (is.map V.int)) (q : ∀ h' tk t', (∀ b o, s.heap.get? b = some o → h'.get? b = some o) → Q (.int is.sum t') { s with heap := h', toks := tk }) :
    wpAny (model X.prog X.w) A (call (.builtin "sum") [.ref a]) Q E s := by
  obtain ⟨its, rv, p, _⟩ := I.tuple h
  have hi := rv.ints
  obtain ⟨xs, e⟩ := hi.allInts.items
  have hn : numsOf (intItems xs).toList = is := by rw [← e]; exact hi.numsOf
  rw [nums_intItems] at hn
  have p' : s.heap.IsTuple a (intItems xs) := by rw [← e]; exact p
  refine PySem.W.ktm_sumG hh p' fun h' tk t' hk => ?_
  have := q h' tk t' hk
  rw [preSum_eq, List.take_of_length_le (by simp), hn]
  exact this
theorem cr_sumT (hc : X.calm = true) : CallR X (.builtin "sum") (fun vs H Q => ∃ (a : Addr) (is : List Int), vs = [V.ref a] ∧ (SqL X.K H a (is.map V.int) ∨ SqT X.K H a (is.map V.int)) ∧ Q (.int is.sum) H) := by
  intro pins s σ H vs us Q I r h
  obtain ⟨a, is, rfl, hs | hs, q⟩ := h
  · exact cr_sum hc pins s σ H _ us Q I r ⟨a, is, rfl, hs, q⟩
  · rw [Vals.ref1 r]
    exact sum_tupV (I.ok.hd hc) I hs fun h' tk t' hk => ⟨.int _, H, I.kept hk, ⟨_, rfl⟩, q⟩
theorem items1 {v : V} {d : D} {K : PySem.W.Frag} {k : List D → Prop} (s : SRel K φ S H) (r : Rep K φ H v d) (h : dItems d S k) : ∃ a vs xs, v = .ref a ∧ (SqL K H a vs ∨ (SqT K H a vs ∧ Rep K φ H v (.tup xs)) ∨ (SqT K H a vs ∧ d = .ktup xs)) ∧ RepL K φ H vs xs ∧ k xs := by
  unfold dItems at h
  split at h
  · rename_i xs e
    cases r with
    | @tup a vs ds h1 r1 => cases e; exact ⟨a, vs, _, rfl, .inr (.inl ⟨SqT.of h1, .tup h1 r1⟩), r1, h⟩
    | @ktup a vs ds h1 r1 => cases e; exact ⟨a, vs, _, rfl, .inr (.inr ⟨h1, rfl⟩), r1, h⟩
    | @rol a vs ds h1 r1 => cases e; exact ⟨a, vs, _, rfl, .inl h1.l, r1, h⟩
    | @ref a n hn =>
      unfold items at e
      simp only at e
      split at e
      · rename_i ys e1
        cases e
        obtain ⟨vs, f1, r1⟩ := s.ob _ _ _ hn e1
        exact ⟨a, vs, _, rfl, .inl (SqL.of f1), r1, h⟩
      · cases e
    | _ => cases e
  · exact h.elim
open PySem.W in
theorem each_zip {K : PySem.W.Frag} {R : Value → D × PyData → Prop} (f : ∀ x v d p, L2.RelV x v → Rep K φ H x d → toPy 66 S d = some p → R v (d, p)) : ∀ {vs : List V} {its : List Value} {ds : List D} {ps : List PyData}, Vals vs its → RepL K φ H vs ds → ds.mapM (toPy 66 S) = some ps → EachIs R its (ds.zip ps)
  | _, _, _, _, .nil, .nil, h => by cases h; exact .nil
  | _, _, _, _, .cons r t, .cons q u, h => by
    obtain ⟨y, ys, rfl, h1, h2⟩ := mapM_cons' h
    exact .cons (f _ _ _ _ r q h1) (each_zip f t u h2)
theorem mapM_len {α β : Type} {f : α → Option β} : ∀ {l : List α} {r : List β}, l.mapM f = some r → r.length = l.length
  | [], _, h => by cases h; rfl
  | x :: xs, _, h => by
    obtain ⟨y, ys, rfl, _, h2⟩ := mapM_cons' h
    rw [List.length_cons, List.length_cons, mapM_len h2]
open PySem.W in
theorem each_back {K : PySem.W.Frag} {β : Type} {g : β → D} : ∀ {out : List Value} {bs : List β}, EachIs (fun v z => ∃ x, L2.RelV x v ∧ Rep K φ H x (g z)) out bs → ∃ vs, Vals vs out ∧ RepL K φ H vs (bs.map g)
  | _, _, .nil => ⟨[], .nil, .nil⟩
  | _, _, .cons ⟨x, r, q⟩ t => by
    obtain ⟨vs, h1, h2⟩ := each_back t
    exact ⟨x :: vs, .cons r h1, .cons q h2⟩
theorem sortOk (hu : X.A.units + 66 < cLine) {pins : List (Addr × Obj)} {σ : L2.St} {s : Shared} {v : V} {us : List Value} {x : D} {Q : VK} {QD : KQ} (I : Inv X pins σ H s) (r : Vals [v] us) (hs : SRel X.K φ S H) (rv : Rep X.K φ H v x) (hw : dSort x S QD) (hp : Post X.K φ H Q QD) :
    wpAny (model X.prog X.w) X.A (call (.builtin "sorted") us) (EP X pins σ Q) X.xe s := by
  unfold dSort at hw
  split at hw
  · cases rv with
    | @ref a n hn =>
      split at hw
      · rename_i ds e1
        obtain ⟨ps, hm, hal, hk, hz, hd, q⟩ := hw
        obtain ⟨vs, f1, r1⟩ := hs.ob _ _ _ hn e1
        obtain ⟨its, rv2, hl, hz2⟩ := I.list (SqL.of f1)
        rw [Vals.ref1 r]
        have hpl := mapM_len hm
        have em : (ds.zip ps).map (fun z => z.2) = ps := by rw [List.map_snd_zip]; omega
        refine PySem.W.sorted_data (bs := ds.zip ps) (enc := fun z => z.2) (R := fun v z => ∃ x, L2.RelV x v ∧ Rep X.K φ H x z.1) hl.isList
          (each_zip (fun x v d p r q _ => ⟨x, r, q⟩) rv2 r1 hm) (each_zip (R := fun v z => ∃ as, Reads s.heap v z.2 as) (fun x v d p r q e => Dp.reads I _ x v (dp_of hs _ _ _ _ q e) r) rv2 r1 hm)
          (by rw [em]; exact hal) (by rw [em]; exact hk) (by rw [List.length_zip]; exact Nat.le_trans (Nat.min_le_left _ _) (lim_le hz)) (fun b hb => ?_) fun out ho eo => ?_
        · have := hd b.2 (List.of_mem_zip hb).2
          omega
        · obtain ⟨vs', w1, w2⟩ := each_back eo
          obtain ⟨c, hc⟩ := sortedAll_at s.heap its out.toArray
          have hle : vs'.length ≤ sizeLine := by
            rw [w1.length, ho, List.length_zip]; exact Nat.le_trans (Nat.min_le_left _ _) (lim_le hz)
          have np : H (s.heap.objs.size + 1) = none := I.hok.fresh (Nat.le_succ _)
          exact ⟨.ref (s.heap.objs.size + 1), _, I.laid (a := s.heap.objs.size + 1) (o := .lst vs') (t' := s.toks) (fun b o e => sortedAll_old e) (Nat.le_succ _) ⟨hle, out, c, w1, hc⟩, rfl, hp.lst hs w2 q np⟩
      · exact hw.elim
  · exact hw.elim
theorem bltD (hc : X.calm = true) (hu : X.A.units + 66 < cLine) (f : Bn) : CallR X (bnV f) (rBl X.K f) := by
  intro pins s σ H vs us Q I r h
  obtain ⟨ds, S, φ, QD, hr, hs, hw, hp⟩ := h
  match ds, hr, hw with
  | [], hr, hw => exact False.elim hw
  | _ :: _ :: _ :: _, hr, hw => exact False.elim hw
  | [x], hr, hw =>
    obtain ⟨v, rfl, rv⟩ := repL1 hr
    cases f with
    | len =>
      have hw : dLen x S QD := hw
      have seq : ∀ xs, items S x = some xs → QD (.int xs.length) S → wpAny (model X.prog X.w) X.A (call (bnV .len) us) (EP X pins σ Q) X.xe s := fun xs e q => by
        obtain ⟨a, ws, rfl, hq, rl⟩ := items_rep (xs := xs) hs rv e
        exact call_len_seq pins s σ H _ us Q I r ⟨a, ws, rfl, hq, by rw [rl.length]; exact hp.here hs (.int _) q⟩
      cases x with
      | str z =>
        cases rv
        obtain ⟨h1, h2⟩ := hw
        exact call_len_str pins s σ H _ us Q I r ⟨z, rfl, lim_le h1, hp.here hs (.int _) h2⟩
      | non => exact False.elim hw
      | bl b => exact False.elim hw
      | int i => exact False.elim hw
      | ty n => exact False.elim hw
      | tup xs => exact seq xs rfl hw
      | ktup xs => exact seq xs rfl hw
      | rol xs => exact seq xs rfl hw
      | ref n =>
        simp only [dLen] at hw
        split at hw
        · rename_i xs e
          exact seq xs e hw
        · exact False.elim hw
    | all =>
      obtain ⟨a, bs, rfl, hq, k⟩ := bools1 hs rv (show dBools x S _ from hw)
      exact cr_all hc pins s σ H _ us Q I r ⟨a, bs, rfl, hq, hp.here hs (.bl _) k⟩
    | any =>
      obtain ⟨a, bs, rfl, hq, k⟩ := bools1 hs rv (show dBools x S _ from hw)
      exact cr_any hc pins s σ H _ us Q I r ⟨a, bs, rfl, hq, hp.here hs (.bl _) k⟩
    | abs =>
      obtain ⟨i, rfl, k⟩ := int1 rv (show dInt1 x _ from hw)
      exact call_abs pins s σ H _ us Q I r ⟨i, rfl, hp.here hs (.int _) k⟩
    | int =>
      obtain ⟨i, rfl, k⟩ := int1 rv (show dInt1 x _ from hw)
      exact call_int1 pins s σ H _ us Q I r (.inl ⟨i, rfl, hp.here hs (.int _) k⟩)
    | list =>
      obtain ⟨a, ws, xs, rfl, hq, rl, k⟩ := items1 hs rv (show dItems x S _ from hw)
      exact call_list_of pins s σ H _ us Q I r ⟨a, ws, rfl, (by rcases hq with z | z | z; exact .inl z; exact .inr z.1; exact .inr z.1), fun l hl => hp.lst hs rl k hl⟩
    | tuple =>
      have go : dItems x S (fun xs => QD (.tup xs) S) → (∀ xs, x ≠ .ktup xs) → wpAny (model X.prog X.w) X.A (call (bnV .tuple) us) (EP X pins σ Q) X.xe s := fun hw hne => by
        obtain ⟨a, ws, xs, rfl, hq, rl, k⟩ := items1 hs rv hw
        rcases hq with hq | ⟨hq, e⟩ | ⟨hq, e⟩
        · exact call_tuple_of pins s σ H _ us Q I r ⟨a, ws, rfl, .inl ⟨hq, fun l hl => hp.tup hs rl k hl⟩⟩
        · exact call_tuple_of pins s σ H _ us Q I r ⟨a, ws, rfl, .inr ⟨hq, hp.here hs e k⟩⟩
        · exact absurd e (hne _)
      cases x with
      | ktup xs => cases rv with
        | @ktup a ws _ h1 r1 => exact call_tuple_of pins s σ H _ us Q I r ⟨a, ws, rfl, .inr ⟨h1, hp.here hs (.ktup h1 r1) hw⟩⟩
      | _ => exact go hw (fun _ z => by cases z)
    | sum =>
      obtain ⟨a, is, rfl, hq, k⟩ := ints1 hs rv (show dInts x S _ from hw)
      exact cr_sumT hc pins s σ H _ us Q I r ⟨a, is, rfl, hq, hp.here hs (.int _) k⟩
    | sorted => exact sortOk hu I r hs rv hw hp
    | isinst => exact False.elim hw
    | min2 => exact False.elim hw
    | max2 => exact False.elim hw
  | [x, y], hr, hw =>
    obtain ⟨v, w, rfl, rv, rw'⟩ := repL2 hr
    cases f with
    | isinst =>
      have hw : dIsi x y S QD := hw
      unfold dIsi at hw
      split at hw
      · cases rw'
        obtain ⟨h1, h2⟩ := hw
        split at h2
        · rename_i b e
          refine call_isi pins s σ H _ us Q I r ⟨v, .ty _, .type (tyOf x), .type _, b, rfl, .ty _, ty_rep hs rv (fun n e => ?_) (fun n e => ?_), kit_ty e, hp.here hs (.bl b) h2⟩
          · subst e; exact h1
          · subst e
            simp only at h1
            split at h1
            · rename_i xs e; exact ⟨xs, e⟩
            · exact h1.elim
        · exact h2.elim
      · exact hw.elim
    | min2 =>
      obtain ⟨i, rfl, k⟩ := int1 rv (show dInt1 x _ from hw)
      obtain ⟨j, rfl, k⟩ := int1 rw' k
      exact call_min2 hc pins s σ H _ us Q I r ⟨i, j, rfl, hp.here hs (.int _) k⟩
    | max2 =>
      obtain ⟨i, rfl, k⟩ := int1 rv (show dInt1 x _ from hw)
      obtain ⟨j, rfl, k⟩ := int1 rw' k
      exact call_max2 hc pins s σ H _ us Q I r ⟨i, j, rfl, hp.here hs (.int _) k⟩
    | len => exact False.elim hw
    | all => exact False.elim hw
    | any => exact False.elim hw
    | abs => exact False.elim hw
    | int => exact False.elim hw
    | list => exact False.elim hw
    | tuple => exact False.elim hw
    | sum => exact False.elim hw
    | sorted => exact False.elim hw
theorem appD : MtR X "list.append" (fun x xs H Q => ∃ (dx dy : D) (y : V) (S : Sto) (φ : List Addr) (QD : KQ), xs = [y] ∧ Rep X.K φ H x dx ∧ Rep X.K φ H y dy ∧ SRel X.K φ S H ∧ dApp dx dy S QD ∧ Post X.K φ H Q QD) := by
  intro pins s σ H x xs v us Q I rx rs h
  obtain ⟨dx, dy, y, S, φ, QD, rfl, hx, hy, hs, hw, hp⟩ := h
  unfold dApp at hw
  split at hw
  · cases hx with
    | @ref a n hn =>
      split at hw
      · rename_i ds e
        obtain ⟨vs, f1, r1⟩ := hs.ob _ _ _ hn e
        have e1 := r1.length
        refine mt_append pins s σ H _ _ v us Q I rx rs ⟨a, vs, y, rfl, rfl, f1, lim_lt (by rw [e1]; exact hw.1), ?_⟩
        exact hp _ _ _ _ φ (Le.refl φ) (TupLe.mut f1) (hs.put hn f1 (r1.app (.cons hy .nil))) .non hw.2
      · exact hw.elim
  · exact hw.elim
theorem setD (hu : X.A.units + 66 < cLine) : PSet X (fun o i v H Q => ∃ (dx di dv : D) (S : Sto) (φ : List Addr) (QS : Sto → Prop), Rep X.K φ H o dx ∧ Rep X.K φ H i di ∧ Rep X.K φ H v dv ∧ SRel X.K φ S H ∧ dSet dx di dv S QS ∧ ∀ S' H', TupLe H H' → SRel X.K φ S' H' → QS S' → Q H') := by
  intro pins s σ H o i v ov iv u Q I ro ri rv h
  obtain ⟨dx, di, dv, S, φ, QS, hx, hi, hv, hs, hw, hp⟩ := h
  unfold dSet at hw
  split at hw
  · cases hi
    cases hx with
    | @ref a n hn =>
      split at hw
      · rename_i ds e
        obtain ⟨vs, f1, r1⟩ := hs.ob _ _ _ hn e
        obtain ⟨j, e2, q⟩ := hw
        refine set_list pins s σ H _ _ v ov iv u Q I ro ri rv ⟨a, vs, _, j, rfl, rfl, f1, by rw [r1.length]; exact e2, ?_⟩
        exact hp _ _ (TupLe.mut f1) (hs.put hn f1 (r1.set j hv)) q
      · exact hw.elim
  · cases hx with
    | @ref a n hn =>
      split at hw
      · rename_i kvs e
        obtain ⟨vs, f1, f2, f3⟩ := hs.ob _ _ _ hn e
        obtain ⟨k, e2, hl, q⟩ := hw
        obtain ⟨b, rfl, hb⟩ := keyOf_rep (ks := k) hi e2
        obtain ⟨w1, w2⟩ := put_rep hv k f2 f3
        have el : vs.length = kvs.length := by simpa using congrArg List.length f2
        refine set_dict (by omega) pins s σ H _ _ v ov iv u Q I ro ri rv ⟨a, _, rfl, DPut.t f1 hb (lim_lt (by rw [el]; exact hl)), ?_⟩
        exact hp _ _ (TupLe.mutT f1) (hs.putO (o := .dct (putD kvs k dv)) hn (TupLe.mutT f1) ⟨_, rfl, w1, w2⟩) q
      · exact hw.elim
  · exact hw.elim
end
end DW

set_option Elab.async false
set_option linter.all false
set_option maxRecDepth 100000
set_option maxHeartbeats 2000000
/-! the small language means what the program's text means -/
namespace DW
open PySem PySem.Spec PyProof.Rows L2

theorem _root_.L2.PE.sub {X : Cx} {e : Expr} {t t' : TE} (h : PE X e t) (i : ∀ σ H Q, t' σ H Q → t σ H Q) : PE X e t' := ⟨fun pins s σ H Q I q => h.run pins s σ H Q I (i σ H Q q)⟩
theorem _root_.L2.PT.sub {X : Cx} {e : Expr} {t t' : TT} (h : PT X e t) (i : ∀ σ H Q, t' σ H Q → t σ H Q) : PT X e t' := ⟨fun pins s σ H Q I q => h.run pins s σ H Q I (i σ H Q q)⟩
theorem _root_.L2.PW.sub {X : Cx} {e : Expr} {t t' : TT} (h : PW X e t) (i : ∀ σ H Q, t' σ H Q → t σ H Q) : PW X e t' := ⟨fun wh pins s σ H Q I q => h.run wh pins s σ H Q I (i σ H Q q)⟩
theorem _root_.L2.PA.sub {X : Cx} {e : List Expr} {t t' : TA} (h : PA X e t) (i : ∀ σ H Q, t' σ H Q → t σ H Q) : PA X e t' := ⟨fun pos pins s σ H Q I q => h.run pos pins s σ H Q I (i σ H Q q)⟩
theorem _root_.L2.PO.sub {X : Cx} {e : Option Expr} {t t' : TO} (h : PO X e t) (i : ∀ σ H Q, t' σ H Q → t σ H Q) : PO X e t' := ⟨fun pins s σ H Q I q => h.run pins s σ H Q I (i σ H Q q)⟩
theorem _root_.L2.PG.sub {X : Cx} {e : Expr} {t t' : TG} (h : PG X e t) (i : ∀ v σ H Q, t' v σ H Q → t v σ H Q) : PG X e t' := ⟨fun pins s σ H v u Q I r q => h.run pins s σ H v u Q I r (i v σ H Q q)⟩
theorem _root_.L2.PGs.sub {X : Cx} {e : List Expr} {t t' : TGs} (h : PGs X e t) (i : ∀ v σ H Q, t' v σ H Q → t v σ H Q) : PGs X e t' := ⟨fun pins s σ H v u Q I r q => h.run pins s σ H v u Q I r (i v σ H Q q)⟩
theorem _root_.L2.PS.sub {X : Cx} {e : Stmt} {t t' : TS} (h : PS X e t) (i : ∀ D σ H, t' D σ H → t D σ H) : PS X e t' := ⟨fun pins s σ H D I q => h.run pins s σ H D I (i D σ H q)⟩
theorem _root_.L2.PSs.sub {X : Cx} {e : List Stmt} {t t' : TS} (h : PSs X e t) (i : ∀ D σ H, t' D σ H → t D σ H) : PSs X e t' := ⟨fun pins s σ H D I q => h.run pins s σ H D I (i D σ H q)⟩
theorem _root_.L2.PI.sub {X : Cx} {tg e : Expr} {t t' : TI} (h : PI X tg e t) (i : ∀ σ H R, t' σ H R → t σ H R) : PI X tg e t' := ⟨fun pins s σ H R I q => h.run pins s σ H R I (i σ H R q)⟩

variable [Tb : Tbl]
/-- a def's promise over data -/
def spD (K : PySem.W.Frag) (sp : FSp) : Sp := fun vs H Q _ => ∃ (ds : List D) (S : Sto) (φ : List Addr) (QD : KQ), RepL K φ H vs ds ∧ SRel K φ S H ∧ sp ds S QD ∧ Post K φ H Q QD

/-- a def that can be called -/
structure Callable (X : Cx) (x : Str) (sp : FSp) : Prop where
  ex : ∃ (f : Addr) (fd : FuncData) (ps : List Str) (k : Nat), FnOk X.prog X.w X.K X.mg X.base CX0 k f fd ps (spD X.K sp) ∧ Room k X.A ∧ X.mg x = some (.ref f) ∧ PySem.W.keepIn X.K (.ref f) = true ∧ Binds X.K fd ps []

section
variable (fs : List FSp) (K : PySem.W.Frag)
def sE (e : IE) : TE := fun σ H Q => ∃ (ρ : En) (S : Sto) (φ : List Addr) (QD : KQ), EnvRel K φ H ρ σ ∧ SRel K φ S H ∧ wE fs e ρ S QD ∧ Post K φ H Q QD
def sT (e : IT) : TT := fun σ H Q => ∃ (ρ : En) (S : Sto) (φ : List Addr) (QD : KB), EnvRel K φ H ρ σ ∧ SRel K φ S H ∧ wT fs e ρ S QD ∧ PostB K φ H Q QD
def sTs (e : ITs) : TT := fun σ H Q => ∃ (ρ : En) (S : Sto) (φ : List Addr) (QD : KB), EnvRel K φ H ρ σ ∧ SRel K φ S H ∧ wTs fs e ρ S QD ∧ PostB K φ H Q QD
def sA (e : IA) : TA := fun σ H Q => ∃ (ρ : En) (S : Sto) (φ : List Addr) (QD : KL), EnvRel K φ H ρ σ ∧ SRel K φ S H ∧ wA fs e ρ S QD ∧ PostL K φ H Q QD
def sO (e : IO) : TO := fun σ H Q => ∃ (ρ : En) (S : Sto) (φ : List Addr) (QD : Option Int → Sto → Prop), EnvRel K φ H ρ σ ∧ SRel K φ S H ∧ wO fs e ρ S QD ∧ PostO K φ H Q QD
end
/-- contexts of one run of one def -/
structure Like (X X' : Cx) : Prop where
  prog : X'.prog = X.prog
  w : X'.w = X.w
  K : X'.K = X.K
  mg : X'.mg = X.mg
  base : X'.base = X.base
  A : X'.A = X.A
  N : X'.N = X.N
  code : X'.env.code = X.env.code
  qual : X'.env.qual = X.env.qual
theorem Like.refl (X : Cx) : Like X X := ⟨rfl, rfl, rfl, rfl, rfl, rfl, rfl, rfl, rfl⟩
theorem Like.trans {X Y Z : Cx} (a : Like X Y) (b : Like Y Z) : Like X Z := ⟨b.prog.trans a.prog, b.w.trans a.w, b.K.trans a.K, b.mg.trans a.mg, b.base.trans a.base, b.A.trans a.A, b.N.trans a.N, b.code.trans a.code, b.qual.trans a.qual⟩
/-- sorted(.., key=lambda x: (sum(x), x)) -/
def SrtOk (fs : List FSp) (X : Cx) (i : Nat) : Prop := ∀ (a : Expr) (ks : List Keyword) (pn p : Pos) (y : IE), (isSumKey ks).isSome = true → Gl X "sorted" → PE X a (sE fs X.K y) → starEach [a] X.env = [(false, eval a X.env)] → PE X (.Call (.Name "sorted" pn) [a] ks p) (sE fs X.K (.fn i (.cons y .nil)))
/-- x(lambda: f(..)) -/
def LamOk (fs : List FSp) (tab : List ((Str × Str) × Nat)) (X : Cx) : Prop := ∀ (x : Str) (es : List Expr) (i : Nat) (as : List Expr) (scope : Scope) (pn p : Pos) (aa : IA), lamOf X.env.scope tab x es = some (i, as, scope) → Gl X x → okName x = true → (∀ (e : Expr) (r : List Expr) (env : Env), as = e :: r → starEach (e :: r) env = (false, eval e env) :: starEach r env ∧ (starEach r env).any (·.1) = false) →
  (∀ (A : Around) (outer : List Env) (s : Shared) (H : Hp) (E : XK) (f c' : Addr), (A.deeper (LamX.lamEnv X scope s.heap.objs.size f c')).units + 66 < cLine → PA (LamX.lamCx X A outer s H E scope f c').nox as (sA fs X.K aa)) →
  PE X (.Call (.Name x pn) es [] p) (sE fs X.K (.fn i aa))
structure CxOk (fs : List FSp) (X : Cx) (C : Ctx) : Prop where
  hN : X.N = C.N
  nd : X.N.Nodup
  sc : X.env.scope = C.sc
  calm : X.calm = true
  fnc : ∀ x, (match C.blk with | none => true | some s => s.names.lookup x == some .cell) = true → X.fn x = true
  un : X.A.units + 66 < cLine
  con : ∀ x d, C.con.lookup x = some d → ∃ v u, X.mg x = some u ∧ RelV v u ∧ ∀ φ H, Rep X.K φ H v d
  fns : ∀ (i : Nat) (x : Str), C.fn[i]? = some x → ∃ sp, fs[i]? = some sp ∧ Callable X x sp
  bns : ∀ x, C.bn.contains x = true → X.mg x = none
  xe : X.xe = fun _ _ => False
  dcn : ∀ n kds, C.dcn.lookup n = some kds → ∃ a, X.mg n = some (.ref a) ∧ ∀ y d, kds.lookup y = some d → ∃ v, KDct X.K X.w a y v ∧ ∀ φ H, Rep X.K φ H v d
  srt : ∀ i, C.srt = some i → C.blk = none → SrtOk fs X i
  lam : ∀ X', Like X X' → LamOk fs C.lam X'

section
variable (fs : List FSp) (K : PySem.W.Frag)
/-- what is wanted behind a store -/
def PostG (φ : List Addr) (H : Hp) (σ : L2.St) (slots : List Nat) (Q : L2.St → Hp → Prop) (QD : En → Sto → Prop) : Prop :=
  ∀ (ρ' : En) (S' : Sto) (σ' : L2.St) (H' : Hp) (φ' : List Addr), Le φ φ' → TupLe H H' → EnvRel K φ' H' ρ' σ' → SRel K φ' S' H' → Only σ σ' slots → QD ρ' S' → Q σ' H'
def sG (g : IG) : TG := fun v σ H Q => ∃ (d : D) (ρ : En) (S : Sto) (φ : List Addr) (QD : En → Sto → Prop), Rep K φ H v d ∧ EnvRel K φ H ρ σ ∧ SRel K φ S H ∧ wG fs g d ρ S QD ∧ PostG K φ H σ (gSlots g) Q QD
def sGs (g : IGs) : TGs := fun vs σ H Q => ∃ (ds : List D) (ρ : En) (S : Sto) (φ : List Addr) (QD : En → Sto → Prop), RepL K φ H vs ds ∧ EnvRel K φ H ρ σ ∧ SRel K φ S H ∧ wGs fs g ds ρ S QD ∧ PostG K φ H σ (gsSlots g) Q QD
/-- an iterator that walks these data -/
def Walks (φ₁ : List Addr) (H₁ : Hp) (J : It) (ds : List D) (chk : Sto → Prop) : Prop :=
  ∀ (i : Nat) (S : Sto) (φ : List Addr) (H : Hp), Le φ₁ φ → TupLe H₁ H → SRel K φ S H → chk S →
    (∀ d, ds[i]? = some d → J.go i H ∧ ∀ x H', J.yld i H x H' → TupLe H H' ∧ SRel K φ S H' ∧ Rep K φ H' x d) ∧ (ds.length ≤ i → J.stop i H)
def sI (it : II) : TI := fun σ H R => ∃ (ρ : En) (S : Sto) (φ : List Addr) (QD : KI), EnvRel K φ H ρ σ ∧ SRel K φ S H ∧ wI fs it ρ S QD ∧
  ∀ (ds : List D) (chk : Sto → Prop) (S' : Sto) (J : It) (H' : Hp) (φ' : List Addr), Le φ φ' → TupLe H H' → SRel K φ' S' H' → Walks K φ' H' J ds chk → QD ds chk S' → R J H'
/-- what is wanted behind a statement -/
structure PostS (φ : List Addr) (H : Hp) (D : Ends) (E : DEnds) : Prop where
  nx : ∀ (ρ' : En) (S' : Sto) (σ' : L2.St) (H' : Hp) (φ' : List Addr), Le φ φ' → TupLe H H' → EnvRel K φ' H' ρ' σ' → SRel K φ' S' H' → E.nx ρ' S' → D.nx σ' H'
  rt : Post K φ H D.rt E.rt
  bk : ∀ (ρ' : En) (S' : Sto) (σ' : L2.St) (H' : Hp) (φ' : List Addr), Le φ φ' → TupLe H H' → EnvRel K φ' H' ρ' σ' → SRel K φ' S' H' → E.bk ρ' S' → D.bk σ' H'
  ct : ∀ (ρ' : En) (S' : Sto) (σ' : L2.St) (H' : Hp) (φ' : List Addr), Le φ φ' → TupLe H H' → EnvRel K φ' H' ρ' σ' → SRel K φ' S' H' → E.ct ρ' S' → D.ct σ' H'
def sS (s : IS) : TS := fun D σ H => ∃ (ρ : En) (S : Sto) (φ : List Addr) (E : DEnds), EnvRel K φ H ρ σ ∧ SRel K φ S H ∧ wS fs s E ρ S ∧ PostS K φ H D E
def sB (s : IB) : TS := fun D σ H => ∃ (ρ : En) (S : Sto) (φ : List Addr) (E : DEnds), EnvRel K φ H ρ σ ∧ SRel K φ S H ∧ wB fs s E ρ S ∧ PostS K φ H D E
end
theorem PostG.mono {K : PySem.W.Frag} {φ φ' : List Addr} {H H' : Hp} {σ : L2.St} {sl : List Nat} {Q : L2.St → Hp → Prop} {QD : En → Sto → Prop} (p : PostG K φ H σ sl Q QD) (l : Le φ φ') (t : TupLe H H') : PostG K φ' H' σ sl Q QD :=
  fun ρ' S' σ' H2 φ2 l2 t2 r s o q => p ρ' S' σ' H2 φ2 (l.trans l2) (t.trans t2) r s o q
theorem PostS.mono {K : PySem.W.Frag} {φ φ' : List Addr} {H H' : Hp} {D : Ends} {E : DEnds} (p : PostS K φ H D E) (l : Le φ φ') (t : TupLe H H') : PostS K φ' H' D E :=
  ⟨fun ρ' S' σ' H2 φ2 l2 t2 r s q => p.nx ρ' S' σ' H2 φ2 (l.trans l2) (t.trans t2) r s q, p.rt.mono l t, fun ρ' S' σ' H2 φ2 l2 t2 r s q => p.bk ρ' S' σ' H2 φ2 (l.trans l2) (t.trans t2) r s q, fun ρ' S' σ' H2 φ2 l2 t2 r s q => p.ct ρ' S' σ' H2 φ2 (l.trans l2) (t.trans t2) r s q⟩

section
variable {fs : List FSp} {X : Cx} {C : Ctx} {e a b c : Expr} {x y z : IE} {p : Pos}

/-! ### expressions -/
theorem snd_var {i : Nat} {n : Str} (ok : CxOk fs X C) (h : idxOf C.N n = some i) (hk : C.kind n = some .local ∨ C.kind n = some .cell ∨ C.kind n = some .free) (hn : okName n = true) : PE X (.Name n p) (sE fs X.K (.var i)) := by
  have hv : Vis X.env.scope n := by rw [ok.sc]; exact hk
  unfold okName at hn
  simp only [Bool.and_eq_true, Bool.not_eq_true'] at hn
  refine (pe_var (i := i) (by rw [ok.hN]; exact idxOf_get h) hv hn.1.1 hn.1.2).sub fun σ H Q q => ?_
  obtain ⟨ρ, S, φ, QD, he, hs, hw, hp⟩ := q
  simp only [wE] at hw
  split at hw
  · rename_i d e
    obtain ⟨v, e1, r⟩ := he.at_ _ _ e
    exact ⟨v, e1, hp.here hs r hw⟩
  · exact hw.elim
theorem snd_cst {d : D} {v : V} (h : PE X e (tC v)) (r : ∀ φ H, Rep X.K φ H v d) : PE X e (sE fs X.K (.cst d)) :=
  h.sub fun σ H Q ⟨ρ, S, φ, QD, he, hs, hw, hp⟩ => hp.here hs (r φ H) hw
theorem snd_const {cc : Const} {d : D} {k : Nat} (h : constD cc = some d) : PE X (.Constant cc k p) (sE fs X.K (.cst d)) := by
  cases cc with
  | none => cases h; exact snd_cst pe_non fun _ _ => .non
  | bool b => cases h; exact snd_cst pe_bl fun _ _ => .bl b
  | int i => cases h; exact snd_cst pe_int fun _ _ => .int i
  | str i => cases h; exact snd_cst pe_str fun _ _ => .str i
  | _ => cases h
theorem snd_con {n : Str} {d : D} (ok : CxOk fs X C) (hk : C.kind n = some .globalImplicit) (h : C.con.lookup n = some d) (hn : okName n = true) : PE X (.Name n p) (sE fs X.K (.cst d)) := by
  obtain ⟨v, u, hm, r, q⟩ := ok.con n d h
  unfold okName at hn
  simp only [Bool.and_eq_true, Bool.not_eq_true'] at hn
  exact snd_cst (pe_glob (by show X.env.scope.names.lookup n = _; rw [ok.sc]; exact hk) hm r hn.1.1) q
theorem ty_boot {n : Str} {t : String} (h : tyName n = some t) : bootBuiltins n = some (.type t) := by
  unfold tyName at h
  repeat' split at h
  all_goals first
    | (rename_i e; subst e; cases h; decide +kernel)
    | cases h
theorem ok_name {n : Str} (hn : okName n = true) : n ≠ "__name__" ∧ (n == ("__debug__" : Str)) = false := by
  unfold okName at hn
  simp only [Bool.and_eq_true, Bool.not_eq_true'] at hn
  exact ⟨by simpa using hn.2, hn.1.1⟩
theorem snd_ty {n : Str} {t : String} (ok : CxOk fs X C) (hk : C.kind n = some .globalImplicit) (hb : C.bn.contains n = true) (h : tyName n = some t) (hn : okName n = true) : PE X (.Name n p) (sE fs X.K (.cst (.ty t))) := by
  obtain ⟨h1, h2⟩ := ok_name hn
  exact snd_cst (pe_bltn (v := .ty t) (by show X.env.scope.names.lookup n = _; rw [ok.sc]; exact hk) (ok.bns n hb) (ty_boot h) rfl h1 h2) fun _ _ => .ty t

theorem snd_tup {es : List Expr} {k : Nat} {as : IA} (h : PA X es (sA fs X.K as)) : PE X (.Tuple es k p) (sE fs X.K (.tup as)) := by
  refine (pe_tup h).sub fun σ H Q ⟨ρ, S, φ, QD, he, hs, hw, hp⟩ => ?_
  refine ⟨ρ, S, φ, _, he, hs, hw, fun ds S1 vs H1 φ1 l t s r q => ?_⟩
  exact ⟨by rw [r.length]; exact lim_le q.1, fun a ha => (hp.mono l t).tup s r q.2 ha⟩
theorem snd_lst {es : List Expr} {as : IA} (h : PA X es (sA fs X.K as)) : PE X (.List es p) (sE fs X.K (.lst as)) := by
  refine (pe_lst h).sub fun σ H Q ⟨ρ, S, φ, QD, he, hs, hw, hp⟩ => ?_
  refine ⟨ρ, S, φ, _, he, hs, hw, fun ds S1 vs H1 φ1 l t s r q => ?_⟩
  exact ⟨by rw [r.length]; exact lim_le q.1, fun a ha => (hp.mono l t).lst s r q.2 ha⟩
theorem snd_anil : PA X [] (sA fs X.K .nil) :=
  pa_nil.sub fun σ H Q ⟨ρ, S, φ, QD, he, hs, hw, hp⟩ => hp [] S [] H φ (Le.refl φ) (TupLe.refl H) hs .nil hw
theorem snd_acons {es : List Expr} {as : IA} (h : PE X e (sE fs X.K x)) (hr : PA X es (sA fs X.K as)) (hs : starEach (e :: es) X.env = (false, eval e X.env) :: starEach es X.env) : PA X (e :: es) (sA fs X.K (.cons x as)) := by
  refine (pa_cons h hr hs).sub fun σ H Q ⟨ρ, S, φ, QD, he, hs, hw, hp⟩ => ?_
  refine ⟨ρ, S, φ, _, he, hs, hw, fun d S1 v H1 φ1 l t s r q => ?_⟩
  refine ⟨ρ, S1, φ1, _, he.mono l t, s, q, fun ds S2 vs H2 φ2 l2 t2 s2 r2 q2 => ?_⟩
  exact hp _ _ _ _ φ2 (l.trans l2) (t.trans t2) s2 (.cons (r.mono l2 t2) r2) q2
/-- two parts, one behind the other -/
theorem two {σ : L2.St} {H : Hp} {ρ : En} {S : Sto} {φ : List Addr} {QD : D → D → Sto → Prop} {R : V → V → Hp → Prop} (he : EnvRel X.K φ H ρ σ) (hs : SRel X.K φ S H) (hw : wE fs x ρ S fun dx S1 => wE fs y ρ S1 fun dy S2 => QD dx dy S2)
    (k : ∀ dx dy S2 vx vy H2 φ2, Le φ φ2 → TupLe H H2 → SRel X.K φ2 S2 H2 → Rep X.K φ2 H2 vx dx → Rep X.K φ2 H2 vy dy → QD dx dy S2 → R vx vy H2) :
    sE fs X.K x σ H fun vx H1 => sE fs X.K y σ H1 fun vy H2 => R vx vy H2 :=
  ⟨ρ, S, φ, _, he, hs, hw, fun dx S1 vx H1 φ1 l t s r q => ⟨ρ, S1, φ1, _, he.mono l t, s, q, fun dy S2 vy H2 φ2 l2 t2 s2 r2 q2 => k dx dy S2 vx vy H2 φ2 (l.trans l2) (t.trans t2) s2 (r.mono l2 t2) r2 q2⟩⟩
theorem snd_bin {op : Operator} (ha : PE X a (sE fs X.K x)) (hb : PE X b (sE fs X.K y)) : PE X (.BinOp a op b p) (sE fs X.K (.bin op x y)) := by
  refine (pe_op (opD op) ha hb).sub fun σ H Q ⟨ρ, S, φ, QD, he, hs, hw, hp⟩ => ?_
  exact two he hs hw fun dx dy S2 vx vy H2 φ2 l t s r1 r2 q => ⟨dx, dy, S2, φ2, QD, r1, r2, s, q, hp.mono l t⟩
theorem snd_not (ha : PE X a (sE fs X.K x)) : PE X (.UnaryOp .Not a p) (sE fs X.K (.not x)) := by
  refine (pe_notT ha).sub fun σ H Q ⟨ρ, S, φ, QD, he, hs, hw, hp⟩ => ?_
  refine ⟨ρ, S, φ, _, he, hs, hw, fun d S1 v H1 φ1 l t s r q => ?_⟩
  obtain ⟨k, hk, q⟩ := truD s r q
  exact ⟨k, hk, (hp.mono l t).here s (.bl _) q⟩
theorem snd_neg (ha : PE X a (sE fs X.K x)) : PE X (.UnaryOp .USub a p) (sE fs X.K (.neg x)) := by
  refine (pe_un un_neg ha).sub fun σ H Q ⟨ρ, S, φ, QD, he, hs, hw, hp⟩ => ?_
  refine ⟨ρ, S, φ, _, he, hs, hw, fun d S1 v H1 φ1 l t s r q => ?_⟩
  split at q
  · cases r
    exact ⟨_, rfl, (hp.mono l t).here s (.int _) q⟩
  · exact q.elim
theorem snd_and {rest : List Expr} (ha : PE X a (sE fs X.K x)) (hb : PE X (.BoolOp .And (b :: rest) p) (sE fs X.K y)) : PE X (.BoolOp .And (a :: b :: rest) p) (sE fs X.K (.and x y)) := by
  refine (pe_andT ha hb).sub fun σ H Q ⟨ρ, S, φ, QD, he, hs, hw, hp⟩ => ?_
  refine ⟨ρ, S, φ, _, he, hs, hw, fun d S1 v H1 φ1 l t s r q => ?_⟩
  obtain ⟨k, hk, q⟩ := truD s r q
  refine ⟨k, hk, ?_⟩
  cases k with
  | true => exact ⟨ρ, S1, φ1, QD, he.mono l t, s, q, hp.mono l t⟩
  | false => exact (hp.mono l t).here s r q
theorem snd_or {rest : List Expr} (ha : PE X a (sE fs X.K x)) (hb : PE X (.BoolOp .Or (b :: rest) p) (sE fs X.K y)) : PE X (.BoolOp .Or (a :: b :: rest) p) (sE fs X.K (.or x y)) := by
  refine (pe_orT ha hb).sub fun σ H Q ⟨ρ, S, φ, QD, he, hs, hw, hp⟩ => ?_
  refine ⟨ρ, S, φ, _, he, hs, hw, fun d S1 v H1 φ1 l t s r q => ?_⟩
  obtain ⟨k, hk, q⟩ := truD s r q
  refine ⟨k, hk, ?_⟩
  cases k with
  | true => exact (hp.mono l t).here s r q
  | false => exact ⟨ρ, S1, φ1, QD, he.mono l t, s, q, hp.mono l t⟩
theorem snd_cmp {op : CmpOp} (ok : CxOk fs X C) (ha : PE X a (sE fs X.K x)) (hb : PE X b (sE fs X.K y)) (hm : behindInMarks op b = false) : PE X (.Compare a [op] [b] p) (sE fs X.K (.cmp op x y)) := by
  refine (pe_cmpR (cpD op ok.un) ha hb hm).sub fun σ H Q ⟨ρ, S, φ, QD, he, hs, hw, hp⟩ => ?_
  exact two he hs hw fun dx dy S2 vx vy H2 φ2 l t s r1 r2 q => ⟨dx, dy, S2, φ2, _, r1, r2, s, q, fun k qk => by
    -- dCmp keeps the store
    exact (hp.mono l t).here s (.bl k) qk⟩

theorem snd_chn {op op' : CmpOp} (ok : CxOk fs X C) (ha : PE X a (sE fs X.K x)) (hb : PE X b (sE fs X.K y)) (hc : PE X c (sE fs X.K z)) (hm : lastMarks [op, op'] [b, c] = false) : PE X (.Compare a [op, op'] [b, c] p) (sE fs X.K (.chn op op' x y z)) := by
  refine (pe_chain (cpD op ok.un) (cpD op' ok.un) ha hb hc hm).sub fun σ H Q ⟨ρ, S, φ, QD, he, hs, hw, hp⟩ => ?_
  refine two he hs hw fun dx dy S2 vx vy H2 φ2 l t s r1 r2 q => ⟨dx, dy, S2, φ2, _, r1, r2, s, q, fun k qk => ⟨k, rfl, ?_⟩⟩
  cases k with
  | true =>
    refine ⟨ρ, S2, φ2, _, he.mono l t, s, qk, fun dz S3 vz H3 φ3 l3 t3 s3 r3 q3 => ?_⟩
    exact ⟨dy, dz, S3, φ3, _, r2.mono l3 t3, r3, s3, q3, fun k' q4 => (hp.mono (l.trans l3) (t.trans t3)).here s3 (.bl k') q4⟩
  | false => exact (hp.mono l t).here s (.bl false) qk
theorem snd_ite {tt : IT} (hc : PT X c (sT fs X.K tt)) (ha : PE X a (sE fs X.K x)) (hb : PE X b (sE fs X.K y)) : PE X (.IfExp c a b p) (sE fs X.K (.ite tt x y)) := by
  refine (pe_ifExp hc ha hb).sub fun σ H Q ⟨ρ, S, φ, QD, he, hs, hw, hp⟩ => ?_
  refine ⟨ρ, S, φ, _, he, hs, hw, fun k S1 H1 φ1 l t s q => ?_⟩
  cases k with
  | true => exact ⟨ρ, S1, φ1, QD, he.mono l t, s, q, hp.mono l t⟩
  | false => exact ⟨ρ, S1, φ1, QD, he.mono l t, s, q, hp.mono l t⟩

/-! ### tests -/
theorem snd_tval (ha : PE X a (sE fs X.K x)) (h : ∀ whole, isTrue a X.env whole = (do let v ← whole; standAt a.pos; holding [v] (truthy v))) : PT X a (sT fs X.K (.val x)) := by
  refine (pt_truth ha h).sub fun σ H Q ⟨ρ, S, φ, QD, he, hs, hw, hp⟩ => ?_
  refine ⟨ρ, S, φ, _, he, hs, hw, fun d S1 v H1 φ1 l t s r q => ?_⟩
  obtain ⟨k, hk, q⟩ := truD s r q
  exact ⟨k, hk, (hp.mono l t).here s q⟩
theorem snd_tcmp {op : CmpOp} (ok : CxOk fs X C) (ha : PE X a (sE fs X.K x)) (hb : PE X b (sE fs X.K y)) (hm : behindInMarks op b = false) : PT X (.Compare a [op] [b] p) (sT fs X.K (.cmp op x y)) := by
  refine (pt_cmpR (cpD op ok.un) ha hb hm).sub fun σ H Q ⟨ρ, S, φ, QD, he, hs, hw, hp⟩ => ?_
  exact two he hs hw fun dx dy S2 vx vy H2 φ2 l t s r1 r2 q => ⟨dx, dy, S2, φ2, _, r1, r2, s, q, fun k qk => ⟨k, rfl, (hp.mono l t).here s qk⟩⟩
theorem snd_tchn {op op' : CmpOp} (ok : CxOk fs X C) (ha : PE X a (sE fs X.K x)) (hb : PE X b (sE fs X.K y)) (hc : PE X c (sE fs X.K z)) (hm : lastMarks [op, op'] [b, c] = false) : PT X (.Compare a [op, op'] [b, c] p) (sT fs X.K (.chn op op' x y z)) := by
  refine (pt_chain (cpD op ok.un) (cpD op' ok.un) ha hb hc hm).sub fun σ H Q ⟨ρ, S, φ, QD, he, hs, hw, hp⟩ => ?_
  refine two he hs hw fun dx dy S2 vx vy H2 φ2 l t s r1 r2 q => ⟨dx, dy, S2, φ2, _, r1, r2, s, q, fun k qk => ⟨k, rfl, ?_⟩⟩
  cases k with
  | true =>
    refine ⟨ρ, S2, φ2, _, he.mono l t, s, qk, fun dz S3 vz H3 φ3 l3 t3 s3 r3 q3 => ?_⟩
    exact ⟨dy, dz, S3, φ3, _, r2.mono l3 t3, r3, s3, q3, fun k' q4 => ⟨k', rfl, (hp.mono (l.trans l3) (t.trans t3)).here s3 q4⟩⟩
  | false => exact ⟨false, rfl, (hp.mono l t).here s qk⟩
theorem snd_tand {rest : List Expr} {t u : IT} (ha : PT X a (sT fs X.K t)) (hb : PW X (.BoolOp .And (b :: rest) p) (sT fs X.K u)) : PW X (.BoolOp .And (a :: b :: rest) p) (sT fs X.K (.and t u)) := by
  refine (pw_and ha hb).sub fun σ H Q ⟨ρ, S, φ, QD, he, hs, hw, hp⟩ => ?_
  refine ⟨ρ, S, φ, _, he, hs, hw, fun k S1 H1 φ1 l t s q => ?_⟩
  cases k with
  | true => exact ⟨ρ, S1, φ1, QD, he.mono l t, s, q, hp.mono l t⟩
  | false => exact (hp.mono l t).here s q
theorem snd_tor {rest : List Expr} {t u : IT} (ha : PT X a (sT fs X.K t)) (hb : PW X (.BoolOp .Or (b :: rest) p) (sT fs X.K u)) : PW X (.BoolOp .Or (a :: b :: rest) p) (sT fs X.K (.or t u)) := by
  refine (pw_or ha hb).sub fun σ H Q ⟨ρ, S, φ, QD, he, hs, hw, hp⟩ => ?_
  refine ⟨ρ, S, φ, _, he, hs, hw, fun k S1 H1 φ1 l t s q => ?_⟩
  cases k with
  | true => exact (hp.mono l t).here s q
  | false => exact ⟨ρ, S1, φ1, QD, he.mono l t, s, q, hp.mono l t⟩
theorem snd_tnot {t : IT} (ha : PT X a (sT fs X.K t)) : PT X (.UnaryOp .Not a p) (sT fs X.K (.not t)) := by
  refine (pt_not ha).sub fun σ H Q ⟨ρ, S, φ, QD, he, hs, hw, hp⟩ => ?_
  exact ⟨ρ, S, φ, _, he, hs, hw, fun k S1 H1 φ1 l t s q => hp _ _ _ φ1 l t s q⟩
theorem snd_tsnil : PTs X [] (sTs fs X.K .none) :=
  ⟨fun pins s σ H Q I ⟨ρ, S, φ, QD, he, hs, hw, hp⟩ => pts_nil.run pins s σ H Q I (hp.here hs hw)⟩
theorem snd_tsone {t : IT} (h : PT X a (sT fs X.K t)) : PTs X [a] (sTs fs X.K (.one t)) :=
  ⟨fun pins s σ H Q I ⟨ρ, S, φ, QD, he, hs, hw, hp⟩ => (pts_one h).run pins s σ H Q I ⟨ρ, S, φ, QD, he, hs, hw, hp⟩⟩

/-! ### calls -/
theorem gl_of {n : Str} (ok : CxOk fs X C) (hk : C.kind n = some .globalImplicit) : Gl X n := by
  show X.env.scope.names.lookup n = _
  rw [ok.sc]; exact hk
theorem snd_fn {n : Str} {i : Nat} {e : Expr} {r : List Expr} {as : IA} {pn : Pos} (ok : CxOk fs X C) (hk : C.kind n = some .globalImplicit) (hn : okName n = true) (hi : idxOf C.fn n = some i) (ha : PA X (e :: r) (sA fs X.K as))
    (he : starEach (e :: r) X.env = (false, eval e X.env) :: starEach r X.env) (hpl : (backTo p (starEach r X.env)).any (·.1) = false) : PE X (.Call (.Name n pn) (e :: r) [] p) (sE fs X.K (.fn i as)) := by
  obtain ⟨sp, hsp, ⟨f, fd, ps, k, F, hr, hm, hkp, hb⟩⟩ := ok.fns i n (idxOf_get hi)
  have hx : Passes CX0 X E0 := pass0
  obtain ⟨_, hd⟩ := ok_name hn
  refine (pe_call F hr (gl_of ok hk) hm hkp hb .nil hx ha hd he hpl).sub fun σ H Q ⟨ρ, S, φ, QD, hee, hs, hw, hp⟩ => ?_
  simp only [wE, hsp] at hw
  refine ⟨ρ, S, φ, _, hee, hs, hw, fun ds S1 vs H1 φ1 l t s r q => ?_⟩
  show spD X.K sp (vs ++ []) H1 Q E0
  rw [List.append_nil]
  exact ⟨ds, S1, φ1, QD, r, s, q, hp.mono l t⟩
theorem snd_fn0 {n : Str} {i : Nat} {pn : Pos} (ok : CxOk fs X C) (hk : C.kind n = some .globalImplicit) (hn : okName n = true) (hi : idxOf C.fn n = some i) : PE X (.Call (.Name n pn) [] [] p) (sE fs X.K (.fn i .nil)) := by
  obtain ⟨sp, hsp, ⟨f, fd, ps, k, F, hr, hm, hkp, hb⟩⟩ := ok.fns i n (idxOf_get hi)
  have hx : Passes CX0 X E0 := pass0
  obtain ⟨_, hd⟩ := ok_name hn
  refine (pe_call0 F hr (gl_of ok hk) hm hkp hb .nil hx hd).sub fun σ H Q ⟨ρ, S, φ, QD, hee, hs, hw, hp⟩ => ?_
  simp only [wE, hsp, wA] at hw
  exact ⟨[], S, φ, QD, .nil, hs, hw, hp⟩
theorem ite_step {c : Prop} [Decidable c] {a f : Bn} {b : Option Bn} (h : (if c then some a else b) = some f) : (c ∧ a = f) ∨ b = some f := by
  by_cases e : c
  · rw [if_pos e] at h; exact .inl ⟨e, Option.some.inj h⟩
  · rw [if_neg e] at h; exact .inr h
theorem bn_boot {n : Str} {k : Nat} {f : Bn} (h : bnOf n k = some f) : bootBuiltins n = some (bnV f) := by
  unfold bnOf at h
  rcases ite_step h with ⟨e, rfl⟩ | h
  · rw [e.1]; decide +kernel
  rcases ite_step h with ⟨e, rfl⟩ | h
  · rw [e.1]; decide +kernel
  rcases ite_step h with ⟨e, rfl⟩ | h
  · rw [e.1]; decide +kernel
  rcases ite_step h with ⟨e, rfl⟩ | h
  · rw [e.1]; decide +kernel
  rcases ite_step h with ⟨e, rfl⟩ | h
  · rw [e.1]; decide +kernel
  rcases ite_step h with ⟨e, rfl⟩ | h
  · rw [e.1]; decide +kernel
  rcases ite_step h with ⟨e, rfl⟩ | h
  · rw [e.1]; decide +kernel
  rcases ite_step h with ⟨e, rfl⟩ | h
  · rw [e.1]; decide +kernel
  rcases ite_step h with ⟨e, rfl⟩ | h
  · rw [e.1]; decide +kernel
  rcases ite_step h with ⟨e, rfl⟩ | h
  · rw [e.1]; decide +kernel
  rcases ite_step h with ⟨e, rfl⟩ | h
  · rw [e.1]; decide +kernel
  rcases ite_step h with ⟨e, rfl⟩ | h
  · rw [e.1]; decide +kernel
  cases h
theorem snd_blt {n : Str} {f : Bn} {e : Expr} {r : List Expr} {as : IA} {pn : Pos} {k : Nat} (ok : CxOk fs X C) (hk : C.kind n = some .globalImplicit) (hn : okName n = true) (hb : C.bn.contains n = true) (hf : bnOf n k = some f) (ha : PA X (e :: r) (sA fs X.K as))
    (he : starEach (e :: r) X.env = (false, eval e X.env) :: starEach r X.env) (hpl : (backTo p (starEach r X.env)).any (·.1) = false) : PE X (.Call (.Name n pn) (e :: r) [] p) (sE fs X.K (.blt f as)) := by
  obtain ⟨hd0, hd⟩ := ok_name hn
  have hv := bn_boot hf
  have hm := ok.bns n hb
  have hg : Gl X n := gl_of ok hk
  have base : PE X (.Call (.Name n pn) (e :: r) [] p) (tCB (rBl X.K f) (sA fs X.K as)) := by
    have hc := bltD (X := X) ok.calm ok.un f
    cases f <;> first
      | exact pe_callB hc hg hm hv ha hd0 hd he hpl
      | exact pe_callTy hc hg hm hv ha hd0 hd he hpl
  refine base.sub fun σ H Q ⟨ρ, S, φ, QD, hee, hs, hw, hp⟩ => ?_
  exact ⟨ρ, S, φ, _, hee, hs, hw, fun ds S1 vs H1 φ1 l t s r q => ⟨ds, S1, φ1, QD, r, s, q, hp.mono l t⟩⟩
theorem snd_app {n : Str} {pn ap : Pos} (ho : PE X (.Name n pn) (sE fs X.K x)) (ha : PE X a (sE fs X.K y)) (hline : (ap.endLine == p.line) = true) (he : starEach [a] X.env = [(false, eval a X.env)]) :
    PE X (.Call (.Attribute (.Name n pn) "append" ap) [a] [] p) (sE fs X.K (.app x y)) := by
  have h2 : PA X [a] (sA fs X.K (.cons y .nil)) := snd_acons ha snd_anil (by rw [he]; rfl)
  refine (pe_bm (T := "list") PySem.F.plainAttrs_list PySem.F.slot_list_append PySem.F.type_list_append appD ho h2 rfl (by rw [he]; rfl) hline (by rw [he]; rfl) rfl).sub fun σ H Q ⟨ρ, S, φ, QD, hee, hs, hw, hp⟩ => ?_
  refine ⟨ρ, S, φ, _, hee, hs, hw, fun dx S1 vx H1 φ1 l t s r q => ?_⟩
  obtain ⟨hr, q⟩ := q
  refine ⟨?_, ρ, S1, φ1, fun ds S2 => match ds with | [dy] => dApp dx dy S2 QD | _ => False, hee.mono l t, s, q, fun ds S2 vs H2 φ2 l2 t2 s2 r2 q2 => ?_⟩
  · cases r with
    | @ref ad m hm =>
      simp only [isLst] at hr
      split at hr
      · rename_i ds e
        obtain ⟨vs, f1, _⟩ := s.ob _ _ _ hm e
        exact .inl ⟨rfl, vs, SqL.of f1⟩
      · exact hr.elim
    | _ => exact False.elim hr
  · match ds, r2, q2 with
    | [dy], r2, q2 =>
      obtain ⟨v, rfl, rv⟩ := repL1 r2
      exact ⟨dx, dy, v, S2, φ2, QD, rfl, r.mono l2 t2, rv, s2, q2, hp.mono (l.trans l2) (t.trans t2)⟩
    | [], _, q2 => exact q2.elim
    | _ :: _ :: _, _, q2 => exact q2.elim
theorem extD : MtR X "list.extend" (fun x xs H Q => ∃ (dx dy : D) (y : V) (S : Sto) (φ : List Addr) (QD : KQ), xs = [y] ∧ Rep X.K φ H x dx ∧ Rep X.K φ H y dy ∧ SRel X.K φ S H ∧ dExt dx dy S QD ∧ Post X.K φ H Q QD) := by
  intro pins s σ H x xs v us Q I rx rs h
  obtain ⟨dx, dy, y, S, φ, QD, rfl, hx, hy, hs, hw, hp⟩ := h
  unfold dExt at hw
  split at hw
  · cases hx with
    | @ref a n hn =>
      cases hy with
      | @ref b m hm =>
        split at hw
        · rename_i ds es e1 e2
          obtain ⟨vs, f1, r1⟩ := hs.ob _ _ _ hn e1
          obtain ⟨ws, f2, r2⟩ := hs.ob _ _ _ hm e2
          have l1 := r1.length
          have l2 := r2.length
          refine mt_extend pins s σ H _ _ v us Q I rx rs ⟨a, b, vs, ws, rfl, rfl, f1, f2, lim_le (by rw [l1, l2]; exact hw.1), ?_⟩
          exact hp _ _ _ _ φ (Le.refl φ) (TupLe.mut f1) (hs.put hn f1 (r1.app r2)) .non hw.2
        · exact hw.elim
  · exact hw.elim
theorem snd_ext {n : Str} {pn ap : Pos} (ho : PE X (.Name n pn) (sE fs X.K x)) (ha : PE X a (sE fs X.K y)) (hline : (ap.endLine == p.line) = true) (he : starEach [a] X.env = [(false, eval a X.env)]) :
    PE X (.Call (.Attribute (.Name n pn) "extend" ap) [a] [] p) (sE fs X.K (.extd x y)) := by
  have h2 : PA X [a] (sA fs X.K (.cons y .nil)) := snd_acons ha snd_anil (by rw [he]; rfl)
  refine (pe_bm (T := "list") PySem.F.plainAttrs_list PySem.F.slot_list_extend PySem.F.type_list_extend extD ho h2 rfl (by rw [he]; rfl) hline (by rw [he]; rfl) rfl).sub fun σ H Q ⟨ρ, S, φ, QD, hee, hs, hw, hp⟩ => ?_
  refine ⟨ρ, S, φ, _, hee, hs, hw, fun dx S1 vx H1 φ1 l t s r q => ?_⟩
  obtain ⟨hr, q⟩ := q
  refine ⟨?_, ρ, S1, φ1, fun ds S2 => match ds with | [dy] => dExt dx dy S2 QD | _ => False, hee.mono l t, s, q, fun ds S2 vs H2 φ2 l2 t2 s2 r2 q2 => ?_⟩
  · cases r with
    | @ref ad m hm =>
      simp only [isLst] at hr
      split at hr
      · rename_i ds e
        obtain ⟨vs, f1, _⟩ := s.ob _ _ _ hm e
        exact .inl ⟨rfl, vs, SqL.of f1⟩
      · exact hr.elim
    | _ => exact False.elim hr
  · match ds, r2, q2 with
    | [dy], r2, q2 =>
      obtain ⟨v, rfl, rv⟩ := repL1 r2
      exact ⟨dx, dy, v, S2, φ2, QD, rfl, r.mono l2 t2, rv, s2, q2, hp.mono (l.trans l2) (t.trans t2)⟩
    | [], _, q2 => exact q2.elim
    | _ :: _ :: _, _, q2 => exact q2.elim
theorem snd_dnew : PE X (.Dict [] [] p) (sE fs X.K .dnew) := by
  refine pe_dnewT.sub fun σ H Q ⟨ρ, S, φ, QD, he, hs, hw, hp⟩ => ?_
  intro a ha
  exact hp _ _ _ _ (φ ++ [a]) (Le.app φ [a]) (TupLe.new ha) (hs.allocO (o := .dct []) ha ⟨[], rfl, rfl, .nil⟩) (.ref hs.idx) hw
theorem snd_csub {n : Str} {kds : List (Str × D)} {pn : Pos} (ok : CxOk fs X C) (hk : C.kind n = some .globalImplicit) (hn : okName n = true) (h : C.dcn.lookup n = some kds) (hi : PE X b (sE fs X.K x)) (hpi : PlainIx b) : PE X (.Subscript (.Name n pn) b p) (sE fs X.K (.csub kds x)) := by
  obtain ⟨ad, hm, hd⟩ := ok.dcn n kds h
  unfold okName at hn
  simp only [Bool.and_eq_true, Bool.not_eq_true'] at hn
  have hg : PE X (.Name n pn) (tC (.ref ad)) := pe_glob (by show X.env.scope.names.lookup n = _; rw [ok.sc]; exact hk) hm rfl hn.1.1
  refine (pe_ix ix_kdict hg hi hpi).sub fun σ H Q ⟨ρ, S, φ, QD, he, hs, hw, hp⟩ => ?_
  refine ⟨ρ, S, φ, _, he, hs, hw, fun d S1 v H1 φ1 l t s r q => ?_⟩
  split at q
  · obtain ⟨e, h1, q⟩ := q
    cases r
    obtain ⟨w, k1, k2⟩ := hd _ _ h1
    exact ⟨ad, _, w, rfl, rfl, k1, hp _ _ _ _ φ1 l t s (k2 _ _) q⟩
  · exact q.elim
theorem rg_ints {φ0 : List Addr} {H0 : Hp} (j : Int) (h : 0 ≤ j) : RepL X.K φ0 H0 (rgV 0 j) (intsFrom 0 j.toNat) := by
  have : ∀ (f : Nat → Int) (l : List Nat), RepL X.K φ0 H0 (l.map fun i => V.int (f i)) (l.map fun i => D.int (f i)) := fun f l => by
    induction l with
    | nil => exact .nil
    | cons a r ih => exact .cons (.int _) ih
  unfold rgV intsFrom
  rw [Int.sub_zero]
  exact this (fun i => 0 + (i : Int)) _
theorem snd_lrng {pn pr prc : Pos} (ok : CxOk fs X C) (hl : C.kind "list" = some .globalImplicit) (hbl : C.bn.contains "list" = true) (hr : C.kind "range" = some .globalImplicit) (hbr : C.bn.contains "range" = true) (ha : PE X a (sE fs X.K x)) (he : starEach [a] X.env = [(false, eval a X.env)]) :
    PE X (.Call (.Name "list" pn) [.Call (.Name "range" pr) [a] [] prc] [] p) (sE fs X.K (.lrng x)) := by
  have gl : Gl X "list" := by show X.env.scope.names.lookup _ = _; rw [ok.sc]; exact hl
  have gr : Gl X "range" := by show X.env.scope.names.lookup _ = _; rw [ok.sc]; exact hr
  refine (pe_listRg ok.calm gl (ok.bns _ hbl) (prg_1 gr (ok.bns _ hbr) ha (by rw [he]; rfl))).sub fun σ H Q ⟨ρ, S, φ, QD, hee, hs, hw, hp⟩ => ?_
  refine ⟨ρ, S, φ, _, hee, hs, hw, fun d S1 v H1 φ1 l t s r q => ?_⟩
  split at q
  · obtain ⟨⟨q1, q2⟩, q⟩ := q
    cases r
    refine ⟨_, rfl, ?_⟩
    exact ⟨⟨by omega, by omega, by omega, by omega, by omega⟩, fun z hz => (hp.mono l t).lst s (rg_ints _ q1) q hz⟩
  · exact q.elim
theorem snd_idx (hu : X.A.units + 66 < cLine) (ha : PE X a (sE fs X.K x)) (hb : PE X b (sE fs X.K y)) (hp : PlainIx b) : PE X (.Subscript a b p) (sE fs X.K (.idx x y)) := by
  refine (pe_ix (ixD hu) ha hb hp).sub fun σ H Q ⟨ρ, S, φ, QD, he, hs, hw, hp⟩ => ?_
  exact two he hs hw fun dx dy S2 vx vy H2 φ2 l t s r1 r2 q => ⟨dx, dy, S2, φ2, QD, r1, r2, s, q, hp.mono l t⟩
/-- a written dict, asked at once -/
def trsOf (fs : List FSp) (K : PySem.W.Frag) : List Str → IA → List (TE × TE)
  | k :: ks, .cons e as => (sE fs K (.cst (.str k)), sE fs K e) :: trsOf fs K ks as
  | _, _ => []
def alen : IA → Nat
  | .nil => 0
  | .cons _ as => alen as + 1
theorem pairs_of {fs : List FSp} {K : PySem.W.Frag} : ∀ (ks : List Str) (as : IA) {ρ : En} {S : Sto} {φ : List Addr} {σ : L2.St} {H : Hp} {QL : KL} {Q : List (V × V) → Hp → Prop}, EnvRel K φ H ρ σ → SRel K φ S H → wA fs as ρ S QL → alen as = ks.length →
    (∀ ds S' vs H' φ', Le φ φ' → TupLe H H' → SRel K φ' S' H' → RepL K φ' H' vs ds → QL ds S' → vs.length = ks.length → Q (List.zipWith (fun k v => (V.str k, v)) ks vs) H') → tPairs (trsOf fs K ks as) σ H Q
  | [], .nil, ρ, S, φ, σ, H, QL, Q, he, hs, hw, _, h => h [] S [] H φ (Le.refl φ) (TupLe.refl H) hs .nil hw rfl
  | [], .cons _ _, _, _, _, _, _, _, _, _, _, _, hl, _ => by simp [alen] at hl
  | _ :: _, .nil, _, _, _, _, _, _, _, _, _, _, hl, _ => by simp [alen] at hl
  | k :: ks, .cons e as, ρ, S, φ, σ, H, QL, Q, he, hs, hw, hl, h => by
    refine ⟨ρ, S, φ, fun d S1 => d = .str k ∧ S1 = S, he, hs, ⟨rfl, rfl⟩, fun d S1 v H1 φ1 l t s r q => ?_⟩
    obtain ⟨rfl, rfl⟩ := q
    cases r
    refine ⟨ρ, S1, φ1, _, he.mono l t, s, hw, fun d S2 v H2 φ2 l2 t2 s2 r2 q2 => ?_⟩
    refine pairs_of ks as (he.mono (l.trans l2) (t.trans t2)) s2 q2 (by simpa [alen] using hl) fun ds S' vs H' φ' l3 t3 s3 r3 q3 hv => ?_
    exact h (d :: ds) S' (v :: vs) H' φ' ((l.trans l2).trans l3) ((t.trans t2).trans t3) s3 (.cons (r2.mono l3 t3) r3) q3 (by simp [hv])
theorem merge_new {κ : Type} [DecidableEq κ] : ∀ (more acc : List (κ × V)), (∀ kv ∈ more, ∀ e ∈ acc, e.1 ≠ kv.1) → (more.map (·.1)).Nodup → more.foldl (fun acc kv => putK acc kv.1 kv.2) acc = acc ++ more
  | [], acc, _, _ => by simp
  | kv :: r, acc, h, hn => by
    have e : putK acc kv.1 kv.2 = acc ++ [kv] := by
      unfold putK
      rw [if_neg]
      simp only [List.any_eq_true, decide_eq_true_eq, not_exists, not_and]
      exact fun x hx => h kv List.mem_cons_self x hx
    rw [List.map_cons, List.nodup_cons] at hn
    rw [List.foldl_cons, e, merge_new r (acc ++ [kv]) (fun x hx y hy => ?_) hn.2]
    · simp
    · rcases List.mem_append.mp hy with hy | hy
      · exact h x (List.mem_cons_of_mem _ hx) y hy
      · rw [List.mem_singleton.mp hy]
        exact fun z => hn.1 (by rw [z]; exact List.mem_map_of_mem (f := fun p : κ × V => p.1) hx)
theorem zip_keys : ∀ (ks : List Str) (vs : List V), vs.length = ks.length → ((List.zipWith (fun k v => ((.inr k : Key), v)) ks vs).map (·.1)) = ks.map Sum.inr
  | [], [], _ => rfl
  | [], _ :: _, h => by simp at h
  | _ :: _, [], h => by simp at h
  | k :: ks, v :: vs, h => by
    simp only [List.zipWith_cons_cons, List.map_cons]
    rw [zip_keys ks vs (by simpa using h)]
theorem zip_look {K : PySem.W.Frag} {φ : List Addr} {H : Hp} {y : Str} {d : D} : ∀ (ks : List Str) {vs : List V} {ds : List D}, RepL K φ H vs ds → dLook ks ds y = some d → ∃ v, valV (List.zipWith (fun k v => ((.inr k : Key), v)) ks vs) (.inr y) = some v ∧ Rep K φ H v d
  | [], _, _, _, h => by simp [dLook] at h
  | k :: ks, _, _, .nil, h => by simp [dLook] at h
  | k :: ks, v :: vs, e :: ds, .cons r rr, h => by
    simp only [dLook] at h
    by_cases hk : k = y
    · rw [if_pos hk] at h
      cases h
      exact ⟨v, by simp [valV, hk], r⟩
    · rw [if_neg hk] at h
      obtain ⟨w, e1, q⟩ := zip_look ks rr h
      refine ⟨w, ?_, q⟩
      rw [← e1]
      have hne : ¬ ((.inr k : Key) = .inr y) := fun z => hk (Sum.inr.inj z)
      simp [valV, hne]
theorem snd_dsub {keys : List (Option Expr)} {values : List Expr} {i : Expr} {dp : Pos} {ks : List Str} {as : IA} (hu : X.A.units + 1 < cLine) (hP : PPs X dp keys values (trsOf fs X.K ks as)) (hal : alen as = ks.length) (hall : keys.all (·.isSome) = true) (hl : keys.length = values.length) (h0 : 0 < keys.length) (h15 : keys.length ≤ 15) (hkl : ks.length = keys.length) (hn : ks.Nodup)
    (hi : PE X i (sE fs X.K x)) (hns : NoSl i) : PE X (.Subscript (.Dict keys values dp) i p) (sE fs X.K (.dsub ks as x)) := by
  refine (pe_dget hu (pe_disp hP hall hl (fun z => by rw [z] at h0; simp at h0) h15) hi hns).sub fun σ H Q ⟨ρ, S, φ, QD, he, hs, hw, hp⟩ => ?_
  intro a ha
  have t0 : TupLe H (upd H a (.dK [])) := TupLe.new ha
  refine pairs_of ks as (he.mono (Le.refl φ) t0) (hs.new ha) hw hal fun ds S2 vs H2 φ2 l2 t2 s2 r2 q2 hv => ?_
  have e2 : H2 a = some (.dK []) := t2.k a [] upd_same
  refine ⟨e2, List.zipWith (fun k v => ((.inr k : Key), v)) ks vs, ?_, ?_, ?_⟩
  · rw [List.map_zipWith]; rfl
  · rw [List.length_zipWith]; omega
  · have mk : mergeK [] (List.zipWith (fun k v => ((.inr k : Key), v)) ks vs) = List.zipWith (fun k v => ((.inr k : Key), v)) ks vs := by
      unfold mergeK
      rw [merge_new _ [] (fun _ _ _ z => by cases z) (by rw [zip_keys ks vs hv]; exact List.pairwise_map.mpr (hn.imp fun z w => z (Sum.inr.inj w)))]
      rfl
    rw [mk]
    have z0 : TupLe0 H2 (upd H2 a (.dK (List.zipWith (fun k v => ((.inr k : Key), v)) ks vs))) := TupLe0.fill e2
    have tA : TupLe H (upd H2 a (.dK (List.zipWith (fun k v => ((.inr k : Key), v)) ks vs))) := TupLe.fill ha t2
    refine ⟨ρ, S2, φ2, _, he.mono l2 tA, s2.fill e2, q2, fun d S3 v H3 φ3 l3 t3 s3 r3 q3 => ?_⟩
    split at q3
    · obtain ⟨u, hk, q⟩ := q3
      cases r3
      have rv := (r2.mono0 (Le.refl φ2) z0).mono l3 t3
      obtain ⟨w, f1, f2⟩ := zip_look ks rv hk
      exact ⟨a, w, rfl, .inl ⟨_, .inr _, .inl (t3.k _ _ upd_same), rfl, f1.symm⟩, hp _ _ _ _ φ3 (l2.trans l3) (tA.trans t3) s3 f2 q⟩
    · exact q3.elim
theorem snd_ono : PO X none (sO fs X.K .no) :=
  po_none.sub fun σ H Q ⟨ρ, S, φ, QD, he, hs, hw, hp⟩ => hp _ _ _ φ (Le.refl φ) (TupLe.refl H) hs hw
theorem snd_oyes (ha : PE X a (sE fs X.K x)) : PO X (some a) (sO fs X.K (.yes x)) := by
  refine (po_some ha).sub fun σ H Q ⟨ρ, S, φ, QD, he, hs, hw, hp⟩ => ?_
  refine ⟨ρ, S, φ, _, he, hs, hw, fun d S1 v H1 φ1 l t s r q => ?_⟩
  split at q
  · cases r
    exact ⟨_, rfl, hp _ _ _ φ1 l t s q⟩
  · exact q.elim
theorem snd_slc {lo hi : Option Expr} {ol oh : IO} {p2 : Pos} (ha : PE X a (sE fs X.K x)) (hl : PO X lo (sO fs X.K ol)) (hh : PO X hi (sO fs X.K oh)) : PE X (.Subscript a (.Slice lo hi none p2) p) (sE fs X.K (.slc x ol oh)) := by
  refine (pe_slice slD ha hl hh).sub fun σ H Q ⟨ρ, S, φ, QD, he, hs, hw, hp⟩ => ?_
  refine ⟨ρ, S, φ, _, he, hs, hw, fun d S1 v H1 φ1 l t s r q => ?_⟩
  refine ⟨ρ, S1, φ1, _, he.mono l t, s, q, fun o1 S2 H2 φ2 l2 t2 s2 q2 => ?_⟩
  refine ⟨ρ, S2, φ2, _, (he.mono l t).mono l2 t2, s2, q2, fun o2 S3 H3 φ3 l3 t3 s3 q3 => ?_⟩
  exact ⟨d, S3, φ3, QD, (r.mono l2 t2).mono l3 t3, s3, q3, hp.mono ((l.trans l2).trans l3) ((t.trans t2).trans t3)⟩

/-! ### targets -/
theorem snd_gname {n : Str} {i : Nat} (ok : CxOk fs X C) (hi : idxOf C.N n = some i) (ho : C.okSt n = true) : PG X (.Name n p) (sG fs X.K (.name i)) := by
  have hst : (X.env.scope.names.lookup n = some .local) ∨ (X.env.scope.names.lookup n = some .cell ∧ X.fn n = true) := by
    rw [ok.sc]
    unfold Ctx.okSt Ctx.kind at ho
    split at ho
    · rename_i e; exact .inl e
    · rename_i e; exact .inr ⟨e, ok.fnc n ho⟩
    · cases ho
  have hl : Loc X.env.scope n := hst.elim .inl fun z => .inr z.1
  refine (pg_name ok.nd (by rw [ok.hN]; exact idxOf_get hi) hl (hst.elim .inr fun z => .inl z.2)).sub fun v σ H Q ⟨d, ρ, S, φ, QD, r, he, hs, hw, hp⟩ => ?_
  exact hp _ _ _ _ φ (Le.refl φ) (TupLe.refl H) (he.set i r) hs (Only.set σ i _) hw
theorem snd_gnil : PGs X [] (sGs fs X.K .nil) := by
  refine pgs_nil.sub fun v σ H Q ⟨ds, ρ, S, φ, QD, r, he, hs, hw, hp⟩ => ?_
  obtain ⟨rfl, hw⟩ := hw
  cases r
  exact ⟨rfl, hp _ _ _ _ φ (Le.refl φ) (TupLe.refl H) he hs (Only.refl σ _) hw⟩
theorem snd_gcons {es : List Expr} {g : IG} {gs : IGs} (h1 : PG X e (sG fs X.K g)) (h2 : PGs X es (sGs fs X.K gs)) (h : (assignEach (e :: es) X.env).map (·.2) = assign e X.env :: (assignEach es X.env).map (·.2)) : PGs X (e :: es) (sGs fs X.K (.cons g gs)) := by
  refine (pgs_cons h1 h2 h).sub fun v σ H Q ⟨ds, ρ, S, φ, QD, r, he, hs, hw, hp⟩ => ?_
  cases r with
  | nil => exact False.elim hw
  | @cons v vs d ds r1 r2 =>
    refine ⟨v, vs, rfl, d, ρ, S, φ, _, r1, he, hs, hw, fun ρ1 S1 σ1 H1 φ1 l t he1 s1 o1 q1 => ?_⟩
    refine ⟨ds, ρ1, S1, φ1, QD, r2.mono l t, he1, s1, q1, fun ρ2 S2 σ2 H2 φ2 l2 t2 he2 s2 o2 q2 => ?_⟩
    exact hp _ _ _ _ φ2 (l.trans l2) (t.trans t2) he2 s2 (o1.trans o2) q2
theorem snd_gtup {es : List Expr} {k : Nat} {gs : IGs} (ok : CxOk fs X C) (h : PGs X es (sGs fs X.K gs)) (hlen : gsLen gs = es.length) (hn : (assignEach es X.env).length = es.length) (hst : (assignEach es X.env).findIdx? (·.1) = none) : PG X (.Tuple es k p) (sG fs X.K (.tup gs)) := by
  refine (pg_tup ok.calm h hn hst).sub fun v σ H Q ⟨d, ρ, S, φ, QD, r, he, hs, hw, hp⟩ => ?_
  cases r with
  | @tup ad vs ds h1 r1 =>
    obtain ⟨hl, hw⟩ : ds.length = gsLen gs ∧ wGs fs gs ds ρ S QD := hw
    exact ⟨ad, vs, rfl, SqT.of h1, by rw [r1.length, hl, hlen], ds, ρ, S, φ, QD, r1, he, hs, hw, hp⟩
  | _ => exact False.elim hw
theorem snd_gsub (hu : X.A.units + 66 < cLine) (ho : PE X a (sE fs X.K x)) (hi : PE X b (sE fs X.K y)) (ha : ∀ v, assign (.Subscript a b p) X.env v = (do
      let ov ← holding [v] (eval a X.env)
      let iv ← holding [v, ov] (eval b X.env)
      standAt p
      holding [v, ov, iv] (setItem ov iv v)
      release [v, ov, iv] [])) : PG X (.Subscript a b p) (sG fs X.K (.sub x y)) := by
  refine (pg_sub ho hi (setD hu) ha).sub fun v σ H Q ⟨d, ρ, S, φ, QD, r, he, hs, hw, hp⟩ => ?_
  exact two he hs hw fun dx dy S2 vx vy H2 φ2 l t s r1 r2 q => ⟨dx, dy, d, S2, φ2, _, r1, r2, r.mono l t, s, q, fun S' H' t' s' q' => hp _ _ _ _ φ2 l (t.trans t') ((he.mono l t).mono (Le.refl φ2) t') s' (Only.refl σ _) q'⟩

/-! ### what is walked -/
theorem walks_tup {K : PySem.W.Frag} {φ : List Addr} {H : Hp} {ad : Addr} {vs : List V} {ds : List D} (h : SqT K H ad vs) (r : RepL K φ H vs ds) : Walks K φ H (Itt K ad) ds fun _ => True := by
  intro i S φ' H' l t s _
  refine ⟨fun d hd => ?_, fun hl => ⟨vs, t.sqT h, by rw [r.length]; exact hl⟩⟩
  obtain ⟨v, e, rv⟩ := r.get hd
  refine ⟨⟨vs, v, t.sqT h, e⟩, fun x H2 hy => ?_⟩
  obtain ⟨rfl, hy⟩ := hy
  have e2 := hy vs (t.sqT h)
  rw [e] at e2; cases e2
  exact ⟨TupLe.refl _, s, rv.mono l t⟩
theorem walks_rol {K : PySem.W.Frag} {φ : List Addr} {H : Hp} {ad : Addr} {vs : List V} {ds : List D} (h : SqR K H ad vs) (r : RepL K φ H vs ds) : Walks K φ H (Itl K ad) ds fun _ => True := by
  intro i S φ' H' l t s _
  refine ⟨fun d hd => ?_, fun hl => ⟨vs, (t.sqR h).l, by rw [r.length]; exact hl⟩⟩
  obtain ⟨v, e, rv⟩ := r.get hd
  refine ⟨⟨vs, v, (t.sqR h).l, e⟩, fun x H2 hy => ?_⟩
  obtain ⟨rfl, hy⟩ := hy
  have e2 := hy vs (t.sqR h).l
  rw [e] at e2; cases e2
  exact ⟨TupLe.refl _, s, rv.mono l t⟩
theorem walks_ref {K : PySem.W.Frag} {φ : List Addr} {H : Hp} {ad : Addr} {n : Nat} {ds : List D} (h : φ[n]? = some ad) : Walks K φ H (Itl K ad) ds fun S => S[n]? = some (.lst ds) := by
  intro i S φ' H' l t s c
  obtain ⟨vs, f1, r⟩ := s.ob _ _ _ (l _ _ h) c
  refine ⟨fun d hd => ?_, fun hl => ⟨vs, SqL.of f1, by rw [r.length]; exact hl⟩⟩
  obtain ⟨v, e, rv⟩ := r.get hd
  refine ⟨⟨vs, v, SqL.of f1, e⟩, fun x H2 hy => ?_⟩
  obtain ⟨rfl, hy⟩ := hy
  have e2 := hy vs (SqL.of f1)
  rw [e] at e2; cases e2
  exact ⟨TupLe.refl _, s, rv⟩
theorem ints_get {lo : Int} {n i : Nat} {d : D} (h : (intsFrom lo n)[i]? = some d) : i < n ∧ d = .int (lo + i) := by
  unfold intsFrom at h
  rw [List.getElem?_map] at h
  cases e : (List.range n)[i]? with
  | none => rw [e] at h; cases h
  | some j =>
    rw [e] at h
    obtain ⟨hl, ej⟩ := List.getElem?_eq_some_iff.mp e
    simp at hl ej
    subst ej
    cases h
    exact ⟨hl, rfl⟩
theorem walks_rng {K : PySem.W.Frag} {φ : List Addr} {H : Hp} {lo : Int} {n : Nat} : Walks K φ H (Itr lo n) (intsFrom lo n) fun _ => True := by
  intro i S φ' H' l t s _
  refine ⟨fun d hd => ?_, fun hl => ?_⟩
  · obtain ⟨h1, rfl⟩ := ints_get hd
    refine ⟨h1, fun x H2 hy => ?_⟩
    obtain ⟨rfl, rfl⟩ := hy
    exact ⟨TupLe.refl _, s, .int _⟩
  · have e : (intsFrom lo n).length = n := by unfold intsFrom; simp
    rw [e] at hl
    exact hl
/-- a list that is walked -/
def Lists (K : PySem.W.Frag) (φ₁ : List Addr) (H₁ : Hp) (a : Addr) (ds : List D) (chk : Sto → Prop) : Prop :=
  ∀ (S : Sto) (φ : List Addr) (H : Hp), Le φ₁ φ → TupLe H₁ H → SRel K φ S H → chk S → ∃ vs, SqL K H a vs ∧ RepL K φ H vs ds
theorem lists1 {K : PySem.W.Frag} {φ : List Addr} {S : Sto} {H : Hp} {v : V} {d : D} {k : List D → (Sto → Prop) → Prop} (s : SRel K φ S H) (r : Rep K φ H v d) (h : dLIter d S k) : ∃ a ds chk, v = .ref a ∧ (∃ vs, SqL K H a vs) ∧ Lists K φ H a ds chk ∧ k ds chk := by
  cases r with
  | @rol a vs ds h1 r1 => exact ⟨a, ds, _, rfl, ⟨vs, h1.l⟩, fun S' φ' H' l t _ _ => ⟨vs, (t.sqR h1).l, r1.mono l t⟩, h⟩
  | @ref a n hn =>
    simp only [dLIter] at h
    split at h
    · rename_i ds e
      obtain ⟨vs, f1, r1⟩ := s.ob _ _ _ hn e
      refine ⟨a, ds, _, rfl, ⟨vs, SqL.of f1⟩, fun S' φ' H' l t s' c => ?_, h⟩
      obtain ⟨ws, f2, r2⟩ := s'.ob _ _ _ (l _ _ hn) c
      exact ⟨ws, SqL.of f2, r2⟩
    · exact h.elim
  | _ => exact False.elim h
theorem walks_enum {K : PySem.W.Frag} {φ : List Addr} {H : Hp} {a : Addr} {ds : List D} {chk : Sto → Prop} (h : Lists K φ H a ds chk) : Walks K φ H (Ite K a) (enumD ds) chk := by
  intro i S φ' H' l t s c
  obtain ⟨vs, hq, r⟩ := h S φ' H' l t s c
  refine ⟨fun d hd => ?_, fun hl => ⟨vs, hq, by rw [r.length]; simpa [enumD] using hl⟩⟩
  unfold enumD at hd
  rw [List.getElem?_mapIdx, Option.map_eq_some_iff] at hd
  obtain ⟨d0, e0, rfl⟩ := hd
  obtain ⟨v, e, rv⟩ := r.get e0
  refine ⟨⟨vs, v, hq, e⟩, fun x H2 hy => ?_⟩
  obtain ⟨T, x', rfl, hT, rfl, hx⟩ := hy
  have := hx vs hq
  rw [e] at this
  cases this
  exact ⟨TupLe.new hT, s.new hT, .tup upd_same (.cons (.int _) (.cons (rv.mono (Le.refl _) (TupLe.new hT)) .nil))⟩
theorem zip_get {xs ys : List D} {i : Nat} {d : D} (h : (zipD xs ys)[i]? = some d) : ∃ x y, xs[i]? = some x ∧ ys[i]? = some y ∧ d = .tup [x, y] := by
  unfold zipD at h
  rw [List.getElem?_zipWith] at h
  split at h
  · rename_i x y e1 e2
    exact ⟨x, y, e1, e2, by cases h; rfl⟩
  · cases h
theorem walks_zip {K : PySem.W.Frag} {φ : List Addr} {H : Hp} {a b : Addr} {xs ys : List D} {c1 c2 : Sto → Prop} (h1 : Lists K φ H a xs c1) (h2 : Lists K φ H b ys c2) : Walks K φ H (Itz K a b) (zipD xs ys) fun S => c1 S ∧ c2 S := by
  intro i S φ' H' l t s c
  obtain ⟨vs, hq, r⟩ := h1 S φ' H' l t s c.1
  obtain ⟨ws, hq2, r2⟩ := h2 S φ' H' l t s c.2
  refine ⟨fun d hd => ?_, fun hl => ⟨vs, ws, hq, hq2, by rw [r.length, r2.length]; simp only [zipD, List.length_zipWith] at hl; omega⟩⟩
  obtain ⟨x, y, e1, e2, rfl⟩ := zip_get hd
  obtain ⟨v, f1, rv⟩ := r.get e1
  obtain ⟨w, f2, rw2⟩ := r2.get e2
  refine ⟨⟨vs, ws, v, w, hq, hq2, f1, f2⟩, fun u H2 hy => ?_⟩
  obtain ⟨T, x', y', rfl, hT, rfl, hx, hy⟩ := hy
  have q1 := hx vs hq
  have q2 := hy ws hq2
  rw [f1] at q1
  rw [f2] at q2
  cases q1
  cases q2
  exact ⟨TupLe.new hT, s.new hT, .tup upd_same (.cons (rv.mono (Le.refl _) (TupLe.new hT)) (.cons (rw2.mono (Le.refl _) (TupLe.new hT)) .nil))⟩
theorem walks_zipT {K : PySem.W.Frag} {φ : List Addr} {H : Hp} {a b : Addr} {vs ws : List V} {xs ys : List D} (h1 : SqT K H a vs) (r : RepL K φ H vs xs) (h2 : SqT K H b ws) (r2 : RepL K φ H ws ys) : Walks K φ H (RZ.ItzT K a b) (zipD xs ys) fun _ => True := by
  intro i S φ' H' l t s _
  have hq := t.sqT h1
  have hq2 := t.sqT h2
  refine ⟨fun d hd => ?_, fun hl => ⟨vs, ws, hq, hq2, by rw [r.length, r2.length]; simp only [zipD, List.length_zipWith] at hl; omega⟩⟩
  obtain ⟨x, y, e1, e2, rfl⟩ := zip_get hd
  obtain ⟨v, f1, rv⟩ := r.get e1
  obtain ⟨w, f2, rw2⟩ := r2.get e2
  refine ⟨⟨vs, ws, v, w, hq, hq2, f1, f2⟩, fun u H2 hy => ?_⟩
  obtain ⟨T, x', y', rfl, hT, rfl, hx, hy⟩ := hy
  have q1 := hx vs hq
  have q2 := hy ws hq2
  rw [f1] at q1
  rw [f2] at q2
  cases q1
  cases q2
  exact ⟨TupLe.new hT, s.new hT, .tup upd_same (.cons ((rv.mono l t).mono (Le.refl _) (TupLe.new hT)) (.cons ((rw2.mono l t).mono (Le.refl _) (TupLe.new hT)) .nil))⟩
theorem snd_ival {tg : Expr} (ha : PE X a (sE fs X.K x)) : PI X tg a (sI fs X.K (.val x)) := by
  refine ⟨fun pins s σ H R I ⟨ρ, S, φ, QD, he, hs, hw, hp⟩ => ?_⟩
  -- a tuple or a list: by the value that comes
  have hR : sE fs X.K x σ H fun v H1 => (∃ a, v = .ref a ∧ (∃ xs, SqL X.K H1 a xs) ∧ R (Itl X.K a) H1) ∨ (∃ a, v = .ref a ∧ (∃ xs, SqT X.K H1 a xs) ∧ R (Itt X.K a) H1) := by
    refine ⟨ρ, S, φ, _, he, hs, hw, fun d S1 v H1 φ1 l t s r q => ?_⟩
    unfold dIter at q
    split at q
    · cases r with
      | @tup ad vs ds h1 r1 => exact .inr ⟨ad, rfl, ⟨vs, SqT.of h1⟩, hp _ _ _ _ _ φ1 l t s (walks_tup (SqT.of h1) r1) q⟩
    · cases r with
      | @ktup ad vs ds h1 r1 => exact .inr ⟨ad, rfl, ⟨vs, h1⟩, hp _ _ _ _ _ φ1 l t s (walks_tup h1 r1) q⟩
    · cases r with
      | @rol ad vs ds h1 r1 => exact .inl ⟨ad, rfl, ⟨vs, h1.l⟩, hp _ _ _ _ _ φ1 l t s (walks_rol h1 r1) q⟩
    · cases r with
      | @ref ad n hn =>
        split at q
        · rename_i ds e
          obtain ⟨vs, f1, r1⟩ := s.ob _ _ _ hn e
          exact .inl ⟨ad, rfl, ⟨vs, SqL.of f1⟩, hp _ _ _ _ _ φ1 l t s (walks_ref hn) q⟩
        · exact q.elim
    · exact q.elim
  refine thn (ha.run pins s σ H _ I hR) fun v s1 ⟨w, H1, I1, r1, q1⟩ => ?_
  rcases q1 with ⟨ad, rfl, ⟨xs, hq⟩, q⟩ | ⟨ad, rfl, ⟨xs, hq⟩, q⟩
  · cases r1
    obtain ⟨its, rv, p, hz⟩ := I1.list hq
    refine wpAny_pyIter_list p.isList ?_
    refine ⟨s1.heap.objs.size, [s1.heap.objs.size], _, _, H1, rfl, I1.kept (t' := s1.toks) fun b o e => Heap.get?_push_of_some _ e, turn_list ad _, ⟨_, Heap.get?_push_size _ rfl, rfl, rfl⟩, fun b hb => ?_, q⟩
    have e : b = s1.heap.objs.size := by simpa using hb
    subst e
    exact I1.fpOk (Nat.le_refl _) (I1.hok.fresh (Nat.le_refl _))
  · cases r1
    obtain ⟨its, rv, p, hz⟩ := I1.tuple hq
    refine wpAny_pyIter_tuple (show s1.heap.IsTuple ad its.toArray from p) ?_
    refine ⟨s1.heap.objs.size, [s1.heap.objs.size], _, _, H1, rfl, I1.kept (t' := s1.toks) fun b o e => Heap.get?_push_of_some _ e, turn_tuple ad _, ⟨_, Heap.get?_push_size _ rfl, rfl, rfl⟩, fun b hb => ?_, q⟩
    have e : b = s1.heap.objs.size := by simpa using hb
    subst e
    exact I1.fpOk (Nat.le_refl _) (I1.hok.fresh (Nat.le_refl _))
theorem snd_irng1 {tg : Expr} {pn : Pos} (ok : CxOk fs X C) (hk : C.kind "range" = some .globalImplicit) (hb : C.bn.contains "range" = true) (ha : PE X a (sE fs X.K x)) (he : starEach [a] X.env = [(false, eval a X.env)]) :
    PI X tg (.Call (.Name "range" pn) [a] [] p) (sI fs X.K (.rng1 x)) := by
  refine (pi_range1 (gl_of ok hk) (ok.bns _ hb) (pa_cons ha pa_nil (by rw [he]; rfl)) he).sub fun σ H R ⟨ρ, S, φ, QD, hee, hs, hw, hp⟩ => ?_
  refine ⟨ρ, S, φ, _, hee, hs, hw, fun d S1 v H1 φ1 l t s r q => ?_⟩
  split at q
  · cases r
    exact ⟨_, rfl, q.1.1, q.1.2, hp _ _ _ _ _ φ1 l t s walks_rng q.2⟩
  · exact q.elim
theorem snd_irng2 {tg : Expr} {pn : Pos} (ok : CxOk fs X C) (hk : C.kind "range" = some .globalImplicit) (hb : C.bn.contains "range" = true) (ha : PE X a (sE fs X.K x)) (hbb : PE X b (sE fs X.K y)) (he : starEach [a, b] X.env = [(false, eval a X.env), (false, eval b X.env)]) (he2 : starEach [b] X.env = [(false, eval b X.env)]) :
    PI X tg (.Call (.Name "range" pn) [a, b] [] p) (sI fs X.K (.rng2 x y)) := by
  refine (pi_range2 (gl_of ok hk) (ok.bns _ hb) (pa_cons ha (pa_cons hbb pa_nil (by rw [he2]; rfl)) (by rw [he, he2])) he he2).sub fun σ H R ⟨ρ, S, φ, QD, hee, hs, hw, hp⟩ => ?_
  refine two hee hs hw fun dx dy S2 vx vy H2 φ2 l t s r1 r2 q => ?_
  split at q
  · cases r1; cases r2
    exact ⟨_, _, rfl, q.1, hp _ _ _ _ _ φ2 l t s walks_rng q.2⟩
  · exact q.elim
theorem snd_ienum {elts : List Expr} {kk : Nat} {tpos : Pos} {pn : Pos} (ok : CxOk fs X C) (hk : C.kind "enumerate" = some .globalImplicit) (hb : C.bn.contains "enumerate" = true) (ha : PE X a (sE fs X.K x)) (he : starEach [a] X.env = [(false, eval a X.env)]) :
    PI X (.Tuple elts kk tpos) (.Call (.Name "enumerate" pn) [a] [] p) (sI fs X.K (.enum x)) := by
  refine (pi_enum (gl_of ok hk) (ok.bns _ hb) (pa_cons ha pa_nil (by rw [he]; rfl)) he).sub fun σ H R ⟨ρ, S, φ, QD, hee, hs, hw, hp⟩ => ?_
  refine ⟨ρ, S, φ, _, hee, hs, hw, fun d S1 v H1 φ1 l t s r q => ?_⟩
  obtain ⟨ad, ds, chk, rfl, ⟨vs, hq⟩, hl, k⟩ := lists1 s r q
  exact ⟨ad, vs, rfl, hq, hp _ _ _ _ _ φ1 l t s (walks_enum hl) k⟩
theorem snd_izip {elts : List Expr} {kk : Nat} {tpos : Pos} {pn : Pos} (ok : CxOk fs X C) (hk : C.kind "zip" = some .globalImplicit) (hb : C.bn.contains "zip" = true) (ha : PE X a (sE fs X.K x)) (hbb : PE X b (sE fs X.K y)) (he : starEach [a, b] X.env = [(false, eval a X.env), (false, eval b X.env)]) (he2 : starEach [b] X.env = [(false, eval b X.env)]) :
    PI X (.Tuple elts kk tpos) (.Call (.Name "zip" pn) [a, b] [] p) (sI fs X.K (.zip x y)) := by
  refine (RZ.pi_zipA (gl_of ok hk) (ok.bns _ hb) (pa_cons ha (pa_cons hbb pa_nil (by rw [he2]; rfl)) (by rw [he, he2])) (by rw [he, he2]) (by rw [he2]; rfl)).sub fun σ H R ⟨ρ, S, φ, QD, hee, hs, hw, hp⟩ => ?_
  refine two hee hs hw fun dx dy S2 vx vy H2 φ2 l t s r1 r2 q => ?_
  have lsts : (dLIter dx S2 fun xs c => dLIter dy S2 fun ys c' => QD (zipD xs ys) (fun S' => c S' ∧ c' S') S2) → ∃ a b xs ys, [vx, vy] = [V.ref a, V.ref b] ∧ ((SqL X.K H2 a xs ∧ SqL X.K H2 b ys ∧ R (Itz X.K a b) H2) ∨ (SqT X.K H2 a xs ∧ SqT X.K H2 b ys ∧ R (RZ.ItzT X.K a b) H2)) := fun q => by
    obtain ⟨ad, xs, c1, rfl, ⟨vs, hq⟩, hl, k⟩ := lists1 s r1 q
    obtain ⟨bd, ys, c2, rfl, ⟨ws, hq2⟩, hl2, k⟩ := lists1 s r2 k
    exact ⟨ad, bd, vs, ws, rfl, .inl ⟨hq, hq2, hp _ _ _ _ _ φ2 l t s (walks_zip hl hl2) k⟩⟩
  unfold dZip at q
  split at q
  · cases r1 with
    | @tup ad vs ds h1 q1 =>
      cases r2 with
      | @tup bd ws es h2 q2 => exact ⟨ad, bd, vs, ws, rfl, .inr ⟨SqT.of h1, SqT.of h2, hp _ _ _ _ _ φ2 l t s (walks_zipT (SqT.of h1) q1 (SqT.of h2) q2) q⟩⟩
  · exact lsts q
end
end DW

set_option Elab.async false
set_option linter.all false
set_option maxRecDepth 100000
set_option maxHeartbeats 2000000
namespace DW
open PySem PySem.Spec PyProof.Rows L2

variable [Tb : Tbl]
section
variable {fs : List FSp} {X : Cx} {C : Ctx} {e a b c : Expr} {x y z : IE} {p : Pos}

theorem blk_ok (ok : CxOk fs X C) {s : Shared} {H : Hp} {scope : Scope} {A : Addr} {cl : List (Str × Addr)} {fp : List Addr} : CxOk fs (X.blk s H scope (compEnvC scope cl A X.env) fp) { C with sc := relS scope C.sc, blk := some scope } where
  hN := ok.hN
  nd := ok.nd
  sc := by
    show relS scope X.env.scope = relS scope C.sc
    rw [ok.sc]
  calm := ok.calm
  fnc := fun x h => h
  un := ok.un
  con := ok.con
  fns := fun i n h => by
    obtain ⟨sp, h1, h2⟩ := ok.fns i n h
    exact ⟨sp, h1, ⟨h2.ex⟩⟩
  bns := ok.bns
  xe := rfl
  dcn := ok.dcn
  srt := fun i _ h => by cases h
  lam := fun X' l => ok.lam X' ((Like.mk rfl rfl rfl rfl rfl rfl rfl rfl rfl : Like X (X.blk s H scope (compEnvC scope cl A X.env) fp)).trans l)
/-- the context of a lambda's body -/
theorem lam_ok (ok : CxOk fs X C) {A : Around} {outer : List Env} {s : Shared} {H : Hp} {E : XK} {scope : Scope} {f c' : Addr} (L : LamX.LamS X.env.scope scope) (un : (A.deeper (LamX.lamEnv X scope s.heap.objs.size f c')).units + 66 < cLine) :
    CxOk fs (LamX.lamCx X A outer s H E scope f c').nox { C with sc := scope, blk := some scope, fn := [], bn := [], dcn := [], srt := none, lam := [] } where
  hN := ok.hN
  nd := ok.nd
  sc := rfl
  calm := rfl
  fnc := fun x h => by
    have h : (scope.names.lookup x == some .cell) = true := h
    exact absurd rfl (L.own _ (PySem.mem_of_lookup (eq_of_beq h))).2
  un := un
  con := ok.con
  fns := fun i n h => by cases h
  bns := fun x h => by cases h
  xe := rfl
  dcn := fun n kds h => by cases h
  srt := fun i h _ => by cases h
  lam := fun X' _ x es i as scope pn p aa h => by
    unfold lamOf at h
    split at h
    · split at h
      · split at h <;> cases h
      · cases h
    · cases h

theorem snd_lcp {elt tg iter : Expr} {ifs : List Expr} {scope : Scope} {own : List (Str × Nat)} {g : IG} {it : II} {t : ITs} (ok : CxOk fs X C) (hb : blkC C.N C.sc scope own = true) (hsl : ∀ i ∈ gSlots g, i ∈ own.map (·.2))
    (hi : PI X tg iter (sI fs X.K it))
    (hg : ∀ (s : Shared) (H : Hp) (A : Addr) (cl : List (Str × Addr)) (fp : List Addr), PG (X.blk s H scope (compEnvC scope cl A X.env) fp) tg (sG fs X.K g))
    (ht : ∀ (s : Shared) (H : Hp) (A : Addr) (cl : List (Str × Addr)) (fp : List Addr), PTs (X.blk s H scope (compEnvC scope cl A X.env) fp) ifs (sTs fs X.K t))
    (he : ∀ (s : Shared) (H : Hp) (A : Addr) (cl : List (Str × Addr)) (fp : List Addr), PE (X.blk s H scope (compEnvC scope cl A X.env) fp) elt (sE fs X.K x)) (hs : ∀ v, foldedSetIterable iter X.env v = pure v) :
    BlkOk X.N X.env.scope scope own ∧ ∀ σ H Q, sE fs X.K (.lcp (own.map (·.2)) g it t x) σ H Q → tLc (sI fs X.K it) (sG fs X.K g) (sTs fs X.K t) (sE fs X.K x) (own.map (·.2)) σ H Q := by
  refine ⟨by rw [ok.hN, ok.sc]; exact blkOk_by hb, fun σ H Q ⟨ρ, S, φ, QD, hee, hss, hw, hp⟩ => ?_⟩
  refine ⟨ρ, S, φ, _, hee, hss, hw, fun ds chk S1 J H1 φ1 l1 t1 s1 wk q1 => ?_⟩
  intro Da hDa
  have hix : (φ1 ++ [Da])[S1.length]? = some Da := s1.idx
  let Wp : Nat → Hp → Prop := fun i H => ∃ (S : Sto) (φ : List Addr), Le (φ1 ++ [Da]) φ ∧ TupLe H1 H ∧ SRel X.K φ S H ∧
    cLoop S1.length chk (fun d S2 ky kn => wG fs g d (wipeD ρ (own.map (·.2))) S2 fun ρ2 S3 => wTs fs t ρ2 S3 fun k S4 => if k = true then wE fs x ρ2 S4 ky else kn S4) (QD (.ref S1.length)) (ds.drop i) S
  refine ⟨fun i m H => m = ds.length - i ∧ i ≤ ds.length ∧ Wp i H, ⟨ds.length, by simp, Nat.zero_le _, ?_⟩, ?_⟩
  · refine ⟨S1 ++ [.lst []], φ1 ++ [Da], Le.refl _, TupLe.new hDa, s1.alloc hDa .nil, ?_⟩
    rw [List.drop_zero]
    exact q1
  · rintro i m H2 ⟨rfl, hile, S2, φ2, l2, t2, s2, q2⟩
    have l12 : Le φ1 φ2 := (Le.app φ1 [Da]).trans l2
    by_cases hlt : i < ds.length
    · rw [List.drop_eq_getElem_cons hlt] at q2
      obtain ⟨hchk, q2⟩ := q2
      obtain ⟨hgo, hyl⟩ := (wk i S2 φ2 H2 l12 t2 s2 hchk).1 _ (List.getElem?_eq_getElem hlt)
      refine .inr ⟨hgo, Wp (i + 1), fun H' w' => ⟨ds.length - (i + 1), by omega, rfl, hlt, w'⟩, fun v H3 hy => ?_⟩
      obtain ⟨t3, s3, r3⟩ := hyl v H3 hy
      have e3 : EnvRel X.K φ2 H3 (wipeD ρ (own.map (·.2))) (wipe σ (own.map (·.2))) := ((hee.mono l1 t1).mono l12 (t2.trans t3)).wipe _
      refine ⟨_, _, S2, φ2, _, r3, e3, s3, q2, fun ρ4 S4 σ4 H4 φ4 l4 t4 e4 s4 o4 q4 => ⟨o4.wipe2 hsl, ?_⟩⟩
      refine ⟨ρ4, S4, φ4, _, e4, s4, q4, fun k S5 H5 φ5 l5 t5 s5 q5 => ?_⟩
      cases k with
      | true =>
        refine ⟨ρ4, S5, φ5, _, e4.mono l5 t5, s5, q5, fun d6 S6 v6 H6 φ6 l6 t6 s6 r6 q6 => ?_⟩
        obtain ⟨acc, ea, el, q6⟩ := q6
        have hD : φ6[S1.length]? = some Da := ((l2.trans l4).trans (l5.trans l6)) _ _ hix
        obtain ⟨us, f1, ru⟩ := s6.ob _ _ _ hD ea
        refine ⟨us, f1, lim_lt (by rw [ru.length]; exact el), S6.set S1.length (.lst (acc ++ [d6])), φ6, (l2.trans l4).trans (l5.trans l6), ?_, ?_, q6⟩
        · exact ((t2.trans t3).trans t4).trans ((t5.trans t6).trans (TupLe.mut f1))
        · exact s6.put hD f1 (ru.app (.cons r6 .nil))
      | false => exact ⟨S5, φ5, (l2.trans l4).trans l5, ((t2.trans t3).trans t4).trans t5, s5, q5⟩
    · have e : i = ds.length := by omega
      subst e
      rw [List.drop_length] at q2
      obtain ⟨hchk, q2⟩ := q2
      refine .inl ⟨(wk _ S2 φ2 H2 l12 t2 s2 hchk).2 (Nat.le_refl _), ?_⟩
      exact hp _ _ _ _ φ2 (l1.trans l12) (t1.trans t2) s2 (.ref (l2 _ _ hix)) q2

/-! ### comprehensions with several clauses -/
/-- what the language says of a further clause -/
def gnOf (fs : List FSp) (K : PySem.W.Frag) (vs : List Nat) (g : IG) (it : II) (t : ITs) : Gn := ⟨sI fs K it, sG fs K g, sTs fs K t, vs⟩
def gnsOf (fs : List FSp) (K : PySem.W.Frag) : IC → List Gn
  | .elt _ => []
  | .gen vs g it t c => gnOf fs K vs g it t :: gnsOf fs K c
def eltOf : IC → IE
  | .elt e => e
  | .gen _ _ _ _ c => eltOf c
/-- each clause's slots are among those of the clause ahead of it, and hold what it stores to -/
def nestC : List Nat → IC → Prop
  | _, .elt _ => True
  | ws, .gen vs g _ _ c => (∀ i ∈ vs, i ∈ ws) ∧ (∀ i ∈ gSlots g, i ∈ vs) ∧ nestC vs c
/-- the loop that is to be run, once its iterator is there -/
theorem loop_read {K : PySem.W.Frag} {σ : L2.St} {H1 : Hp} {ρ : En} {vs : List Nat} {g : IG} {it : II} {t : ITs} {c : IC} {J : It} {ds : List D} {chk : Sto → Prop} {S1 : Sto} {φ1 : List Addr} {n : Nat} {k : Sto → Prop} {Nx : Hp → Prop} {D : Addr} (hsl : ∀ i ∈ gSlots g, i ∈ vs)
    (he : EnvRel K φ1 H1 ρ σ) (hs : SRel K φ1 S1 H1) (wk : Walks K φ1 H1 J ds chk) (hD : φ1[n]? = some D)
    (hw : iLoop chk (fun d S2 k2 => wG fs g d (wipeD ρ vs) S2 fun ρ2 S3 => wTs fs t ρ2 S3 fun b S4 => if b = true then wC fs c ρ2 S4 n k2 else k2 S4) k ds S1)
    (inner : ∀ (ρ2 : En) (S : Sto) (φ : List Addr) (σ2 : L2.St) (H : Hp) (k2 : Sto → Prop) (My : Hp → Prop), Le φ1 φ → TupLe H1 H → EnvRel K φ H ρ2 σ2 → SRel K φ S H → wC fs c ρ2 S n k2 → (∀ S' φ' H', Le φ φ' → TupLe H H' → SRel K φ' S' H' → k2 S' → My H') → tInner (sE fs K (eltOf c)) D (gnsOf fs K c) σ2 H My)
    (fin : ∀ S' φ' H', Le φ1 φ' → TupLe H1 H' → SRel K φ' S' H' → k S' → Nx H') : loopR (sE fs K (eltOf c)) D (gnOf fs K vs g it t) (gnsOf fs K c) J σ Nx H1 := by
  let Wp : Nat → Hp → Prop := fun i H => ∃ (S : Sto) (φ : List Addr), Le φ1 φ ∧ TupLe H1 H ∧ SRel K φ S H ∧
    iLoop chk (fun d S2 k2 => wG fs g d (wipeD ρ vs) S2 fun ρ2 S3 => wTs fs t ρ2 S3 fun b S4 => if b = true then wC fs c ρ2 S4 n k2 else k2 S4) k (ds.drop i) S
  refine ⟨fun i m H => m = ds.length - i ∧ i ≤ ds.length ∧ Wp i H, ⟨ds.length, by simp, Nat.zero_le _, S1, φ1, Le.refl _, TupLe.refl _, hs, by rw [List.drop_zero]; exact hw⟩, ?_⟩
  rintro i m H2 ⟨rfl, hile, S2, φ2, l2, t2, s2, q2⟩
  by_cases hlt : i < ds.length
  · rw [List.drop_eq_getElem_cons hlt] at q2
    obtain ⟨hchk, q2⟩ := q2
    obtain ⟨hgo, hyl⟩ := (wk i S2 φ2 H2 l2 t2 s2 hchk).1 _ (List.getElem?_eq_getElem hlt)
    refine .inr ⟨hgo, Wp (i + 1), fun H' w' => ⟨ds.length - (i + 1), by omega, rfl, hlt, w'⟩, fun v H3 hy => ?_⟩
    obtain ⟨t3, s3, r3⟩ := hyl v H3 hy
    have e3 : EnvRel K φ2 H3 (wipeD ρ vs) (wipe σ vs) := (he.mono l2 (t2.trans t3)).wipe _
    refine ⟨_, _, S2, φ2, _, r3, e3, s3, q2, fun ρ4 S4 σ4 H4 φ4 l4 t4 e4 s4 o4 q4 => ⟨o4.wipe2 hsl, ?_⟩⟩
    refine ⟨ρ4, S4, φ4, _, e4, s4, q4, fun b S5 H5 φ5 l5 t5 s5 q5 => ?_⟩
    have L5 : Le φ1 φ5 := (l2.trans l4).trans l5
    have T5 : TupLe H1 H5 := ((t2.trans t3).trans t4).trans t5
    cases b with
    | true => exact inner ρ4 S5 φ5 σ4 H5 _ _ L5 T5 (e4.mono l5 t5) s5 q5 fun S6 φ6 H6 l6 t6 s6 q6 => ⟨S6, φ6, L5.trans l6, T5.trans t6, s6, q6⟩
    | false => exact ⟨S5, φ5, L5, T5, s5, q5⟩
  · have e : i = ds.length := by omega
    subst e
    rw [List.drop_length] at q2
    obtain ⟨hchk, q2⟩ := q2
    exact .inl ⟨(wk _ S2 φ2 H2 l2 t2 s2 hchk).2 (Nat.le_refl _), fin _ _ _ l2 t2 s2 q2⟩
theorem inner_read {K : PySem.W.Frag} {n : Nat} {D : Addr} : ∀ (c : IC) (ws : List Nat), nestC ws c → ∀ (ρ2 : En) (S : Sto) (φ : List Addr) (σ2 : L2.St) (H : Hp) (k2 : Sto → Prop) (My : Hp → Prop), φ[n]? = some D → EnvRel K φ H ρ2 σ2 → SRel K φ S H → wC fs c ρ2 S n k2 →
    (∀ S' φ' H', Le φ φ' → TupLe H H' → SRel K φ' S' H' → k2 S' → My H') → tInner (sE fs K (eltOf c)) D (gnsOf fs K c) σ2 H My
  | .elt e, _, _, ρ2, S, φ, σ2, H, k2, My, hD, he, hs, hw, fin => by
    refine ⟨ρ2, S, φ, _, he, hs, hw, fun d S1 v H1 φ1 l t s r q => ?_⟩
    obtain ⟨acc, ea, el, q⟩ := q
    obtain ⟨us, f1, ru⟩ := s.ob _ _ _ (l _ _ hD) ea
    refine ⟨us, f1, lim_lt (by rw [ru.length]; exact el), ?_⟩
    exact fin (S1.set n (.lst (acc ++ [d]))) φ1 _ l (t.trans (TupLe.mut f1)) (s.put (l _ _ hD) f1 (ru.app (.cons r .nil))) q
  | .gen vs g it t c, ws, hn, ρ2, S, φ, σ2, H, k2, My, hD, he, hs, hw, fin => by
    obtain ⟨_, hsl, hn⟩ := hn
    refine ⟨ρ2, S, φ, _, he, hs, hw, fun ds chk S1 J H1 φ1 l1 t1 s1 wk q1 => ?_⟩
    refine loop_read (it := it) hsl (he.mono l1 t1) s1 wk (l1 _ _ hD) q1 (fun ρ3 S3 φ3 σ3 H3 k3 M3 l3 t3 e3 s3 q3 f3 => inner_read c vs hn ρ3 S3 φ3 σ3 H3 k3 M3 (l3 _ _ (l1 _ _ hD)) e3 s3 q3 f3) fun S' φ' H' l t s q => fin S' φ' H' (l1.trans l) (t1.trans t) s q
theorem nest_of {K : PySem.W.Frag} : ∀ (c : IC) (ws : List Nat), nestC ws c → Nest ws (gnsOf fs K c)
  | .elt _, _, _ => .nil
  | .gen vs g it t c, ws, h => .cons h.1 (nest_of c vs h.2.2)
theorem snd_lcn {g : IG} {it : II} {t : ITs} {c : IC} {own : List (Str × Nat)} (hsl : ∀ i ∈ gSlots g, i ∈ own.map (·.2)) (hn : nestC (own.map (·.2)) c) {σ : L2.St} {H : Hp} {Q : VK} (h : sE fs X.K (.lcn (own.map (·.2)) g it t c) σ H Q) :
    tLcN (sI fs X.K it) (gnOf fs X.K (own.map (·.2)) g it t) (gnsOf fs X.K c) (sE fs X.K (eltOf c)) σ H Q := by
  obtain ⟨ρ, S, φ, QD, he, hs, hw, hp⟩ := h
  refine ⟨ρ, S, φ, _, he, hs, hw, fun ds chk S1 J H1 φ1 l1 t1 s1 wk q1 => ?_⟩
  intro Da hDa
  have hix : (φ1 ++ [Da])[S1.length]? = some Da := s1.idx
  have t0 : TupLe H1 (upd H1 Da (.lst [])) := TupLe.new hDa
  have wk' : Walks X.K (φ1 ++ [Da]) (upd H1 Da (.lst [])) J ds chk := fun i S φ H l t s k => wk i S φ H ((Le.app φ1 [Da]).trans l) (t0.trans t) s k
  refine loop_read (it := it) (ρ := wipeD ρ (own.map (·.2))) (n := S1.length) (k := QD (.ref S1.length)) hsl (((he.mono l1 t1).mono (Le.app φ1 [Da]) t0).wipe _) (s1.alloc hDa .nil) wk' hix q1 (fun ρ3 S3 φ3 σ3 H3 k3 M3 l3 t3 e3 s3 q3 f3 => inner_read c _ hn ρ3 S3 φ3 σ3 H3 k3 M3 (l3 _ _ hix) e3 s3 q3 f3) fun S' φ' H' l t s q => ?_
  exact hp _ _ _ _ φ' (l1.trans ((Le.app φ1 [Da]).trans l)) (t1.trans (t0.trans t)) s (.ref (l _ _ hix)) q

/-! ### statements -/
theorem snd_nev {st : Stmt} : PS X st (sS fs X.K .nev) := ps_never.sub fun D σ H ⟨ρ, S, φ, E, he, hs, hw, hp⟩ => hw
theorem snd_ret (ha : PE X a (sE fs X.K x)) : PS X (.Return (some a) p) (sS fs X.K (.ret x)) :=
  (ps_ret ha).sub fun D σ H ⟨ρ, S, φ, E, he, hs, hw, hp⟩ => ⟨ρ, S, φ, E.rt, he, hs, hw, hp.rt⟩
theorem snd_retN : PS X (.Return none p) (sS fs X.K .retN) :=
  ps_retN.sub fun D σ H ⟨ρ, S, φ, E, he, hs, hw, hp⟩ => hp.rt.here hs .non hw
theorem here_nx {K : PySem.W.Frag} {φ : List Addr} {H : Hp} {D : Ends} {E : DEnds} {ρ : En} {σ : L2.St} {S : Sto} (hp : PostS K φ H D E) (he : EnvRel K φ H ρ σ) (hs : SRel K φ S H) (q : E.nx ρ S) : D.nx σ H := hp.nx _ _ _ _ φ (Le.refl φ) (TupLe.refl H) he hs q
theorem snd_pass : PS X (.Pass p) (sS fs X.K .pass) := ps_pass.sub fun D σ H ⟨ρ, S, φ, E, he, hs, hw, hp⟩ => here_nx hp he hs hw
theorem snd_doc {n : Str} {k : Nat} {p2 : Pos} : PS X (.Expr (.Constant (.str n) k p2) p) (sS fs X.K .pass) := ps_doc.sub fun D σ H ⟨ρ, S, φ, E, he, hs, hw, hp⟩ => here_nx hp he hs hw
theorem snd_brk : PS X (.Break p) (sS fs X.K .brk) := ps_break.sub fun D σ H ⟨ρ, S, φ, E, he, hs, hw, hp⟩ => hp.bk _ _ _ _ φ (Le.refl φ) (TupLe.refl H) he hs hw
theorem snd_cont : PS X (.Continue p) (sS fs X.K .cont) := ps_continue.sub fun D σ H ⟨ρ, S, φ, E, he, hs, hw, hp⟩ => hp.ct _ _ _ _ φ (Le.refl φ) (TupLe.refl H) he hs hw
theorem snd_expr (ha : PE X a (sE fs X.K x)) (h : swapsWith a none p.line X.env = pure false) : PS X (.Expr a p) (sS fs X.K (.expr x)) := by
  refine (ps_expr ha h).sub fun D σ H ⟨ρ, S, φ, E, he, hs, hw, hp⟩ => ?_
  exact ⟨ρ, S, φ, _, he, hs, hw, fun d S1 v H1 φ1 l t s r q => hp.nx _ _ _ _ φ1 l t (he.mono l t) s q⟩
theorem asg_read {g : IG} {D : Ends} {σ : L2.St} {H : Hp} (h : sS fs X.K (.asg g x) D σ H) : tAsg (sE fs X.K x) (sG fs X.K g) D σ H := by
  obtain ⟨ρ, S, φ, E, he, hs, hw, hp⟩ := h
  refine ⟨ρ, S, φ, _, he, hs, hw, fun d S1 v H1 φ1 l t s r q => ?_⟩
  exact ⟨d, ρ, S1, φ1, E.nx, r, he.mono l t, s, q, fun ρ2 S2 σ2 H2 φ2 l2 t2 e2 s2 _ q2 => hp.nx _ _ _ _ φ2 (l.trans l2) (t.trans t2) e2 s2 q2⟩
theorem snd_asg {tg : Expr} {g : IG} (ha : PE X a (sE fs X.K x)) (hg : PG X tg (sG fs X.K g)) (h1 : swapsWithSole [tg] a p.line X.env = pure false) (h2 : swappedStores [tg] a X.env = pure none) (h3 : (assignEach [tg] X.env).map (·.2) = [assign tg X.env]) :
    PS X (.Assign [tg] a p) (sS fs X.K (.asg g x)) :=
  (ps_asg ha hg h1 h2 h3).sub fun D σ H h => asg_read h
theorem gName_read {i : Nat} {v : V} {σ : L2.St} {H : Hp} {Q : L2.St → Hp → Prop} (h : sG fs X.K (.name i) v σ H Q) : gName i v σ H Q := by
  obtain ⟨d, ρ, S, φ, QD, r, he, hs, hw, hp⟩ := h
  exact hp _ _ _ _ φ (Le.refl φ) (TupLe.refl H) (he.set i r) hs (Only.set σ i _) hw
theorem asgN_read {i : Nat} {D : Ends} {σ : L2.St} {H : Hp} (h : sS fs X.K (.asg (.name i) x) D σ H) : tAsg (sE fs X.K x) (gName i) D σ H := by
  obtain ⟨ρ, S, φ, E, he, hs, hw, hp⟩ := h
  refine ⟨ρ, S, φ, _, he, hs, hw, fun d S1 v H1 φ1 l t s r q => ?_⟩
  exact hp.nx _ _ _ _ φ1 l t ((he.mono l t).set i r) s q
theorem snd_set {n : Str} {i : Nat} {pn : Pos} (ok : CxOk fs X C) (hi : idxOf C.N n = some i) (ho : C.okSt n = true) (ha : PE X a (sE fs X.K x)) (h1 : swapsWith a (some (.Name n pn)) p.line X.env = pure false) : PS X (.Assign [.Name n pn] a p) (sS fs X.K (.asg (.name i) x)) := by
  have hst : (X.env.scope.names.lookup n = some .local) ∨ (X.env.scope.names.lookup n = some .cell ∧ X.fn n = true) := by
    rw [ok.sc]
    unfold Ctx.okSt Ctx.kind at ho
    split at ho
    · rename_i e; exact .inl e
    · rename_i e; exact .inr ⟨e, ok.fnc n ho⟩
    · cases ho
  have hl : Loc X.env.scope n := hst.elim .inl fun z => .inr z.1
  exact (ps_set ok.nd (by rw [ok.hN]; exact idxOf_get hi) hl ha h1 (hst.elim .inr fun z => .inl z.2)).sub fun D σ H h => asgN_read h
theorem snd_par {n m : Str} {i j : Nat} {pn pm pt pt2 : Pos} {k1 k2 : Nat} (ok : CxOk fs X C) (hi : idxOf C.N n = some i) (hj : idxOf C.N m = some j) (hij : i ≠ j) (hn : C.kind n = some .local) (hm : C.kind m = some .local) (ha : PE X a (sE fs X.K x)) (hb : PE X b (sE fs X.K y))
    (he : starEach [a, b] X.env = [(false, eval a X.env), (false, eval b X.env)]) (he2 : starEach [b] X.env = [(false, eval b X.env)])
    (hw : swappedStores [.Tuple [.Name n pn, .Name m pm] k1 pt] (.Tuple [a, b] k2 pt2) X.env = pure (some [n, m])) :
    PS X (.Assign [.Tuple [.Name n pn, .Name m pm] k1 pt] (.Tuple [a, b] k2 pt2) p) (sS fs X.K (.par i j x y)) := by
  refine (ps_par ok.calm ok.nd (by rw [ok.hN]; exact idxOf_get hi) (by rw [ok.hN]; exact idxOf_get hj) hij (by rw [ok.sc]; exact hn) (by rw [ok.sc]; exact hm) (pa_cons ha (pa_cons hb pa_nil (by rw [he2]; rfl)) (by rw [he, he2])) hw rfl).sub fun D σ H ⟨ρ, S, φ, E, hee, hs, hww, hp⟩ => ?_
  exact two hee hs hww fun dx dy S2 vx vy H2 φ2 l t s r1 r2 q => ⟨vx, vy, rfl, hp.nx _ _ _ _ φ2 l t (((hee.mono l t).set i r1).set j r2) s q⟩
theorem snd_if {aa bb : List Stmt} {t : IT} {u w : IB} (hc : PT X c (sT fs X.K t)) (ha : PSs X aa (sB fs X.K u)) (hb : PSs X bb (sB fs X.K w)) : PS X (.If c aa bb p) (sS fs X.K (.ifs t u w)) := by
  refine (ps_if hc ha hb).sub fun D σ H ⟨ρ, S, φ, E, he, hs, hw, hp⟩ => ?_
  refine ⟨ρ, S, φ, _, he, hs, hw, fun k S1 H1 φ1 l t s q => ?_⟩
  cases k with
  | true => exact ⟨ρ, S1, φ1, E, he.mono l t, s, q, hp.mono l t⟩
  | false => exact ⟨ρ, S1, φ1, E, he.mono l t, s, q, hp.mono l t⟩
theorem snd_for {tg iter : Expr} {body : List Stmt} {g : IG} {it : II} {u : IB} (ok : CxOk fs X C) (hi : PI X tg iter (sI fs X.K it)) (hg : PG X tg (sG fs X.K g)) (hb : PSs X body (sB fs X.K u)) (hs : ∀ v, foldedSetIterable iter X.env v = pure v) :
    PS X (.For tg iter body [] p) (sS fs X.K (.fr g it u)) := by
  refine (ps_for (by rw [ok.xe]; exact PassesOwn.never) ok.calm hi hg hb hs).sub fun D σ H ⟨ρ, S, φ, E, he, hs, hw, hp⟩ => ?_
  refine ⟨ρ, S, φ, _, he, hs, hw, fun ds chk S1 J H1 φ1 l1 t1 s1 wk q1 => ?_⟩
  let Wp : Nat → L2.St → Hp → Prop := fun i σ H => ∃ (ρ : En) (S : Sto) (φ : List Addr), Le φ1 φ ∧ TupLe H1 H ∧ EnvRel X.K φ H ρ σ ∧ SRel X.K φ S H ∧
    fLoop chk (fun d ρ' S' k => wG fs g d ρ' S' k) (fun E' ρ' S' => wB fs u E' ρ' S') E (ds.drop i) ρ S
  refine ⟨fun i m σ H => m = ds.length - i ∧ i ≤ ds.length ∧ Wp i σ H, ⟨ds.length, by simp, Nat.zero_le _, ρ, S1, φ1, Le.refl _, TupLe.refl _, he.mono l1 t1, s1, by rw [List.drop_zero]; exact q1⟩, ?_⟩
  rintro i m σ2 H2 ⟨rfl, hile, ρ2, S2, φ2, l2, t2, e2, s2, q2⟩
  by_cases hlt : i < ds.length
  · rw [List.drop_eq_getElem_cons hlt] at q2
    obtain ⟨hchk, q2⟩ := q2
    obtain ⟨hgo, hyl⟩ := (wk i S2 φ2 H2 l2 t2 s2 hchk).1 _ (List.getElem?_eq_getElem hlt)
    refine .inr ⟨hgo, Wp (i + 1), fun σ' H' w' => ⟨ds.length - (i + 1), by omega, rfl, hlt, w'⟩, fun v H3 hy => ?_⟩
    obtain ⟨t3, s3, r3⟩ := hyl v H3 hy
    refine ⟨_, ρ2, S2, φ2, _, r3, e2.mono (Le.refl _) t3, s3, q2, fun ρ4 S4 σ4 H4 φ4 l4 t4 e4 s4 _ q4 => ?_⟩
    refine ⟨ρ4, S4, φ4, _, e4, s4, q4, ?_⟩
    have L4 : Le φ φ4 := l1.trans (l2.trans l4)
    have T4 : TupLe H H4 := t1.trans (t2.trans (t3.trans t4))
    exact ⟨fun ρ5 S5 σ5 H5 φ5 l5 t5 e5 s5 q5 => ⟨ρ5, S5, φ5, (l2.trans l4).trans l5, ((t2.trans t3).trans t4).trans t5, e5, s5, q5⟩, hp.rt.mono L4 T4,
      fun ρ5 S5 σ5 H5 φ5 l5 t5 e5 s5 q5 => hp.nx _ _ _ _ φ5 (L4.trans l5) (T4.trans t5) e5 s5 q5,
      fun ρ5 S5 σ5 H5 φ5 l5 t5 e5 s5 q5 => ⟨ρ5, S5, φ5, (l2.trans l4).trans l5, ((t2.trans t3).trans t4).trans t5, e5, s5, q5⟩⟩
  · have e : i = ds.length := by omega
    subst e
    rw [List.drop_length] at q2
    obtain ⟨hchk, q2⟩ := q2
    exact .inl ⟨(wk _ S2 φ2 H2 l2 t2 s2 hchk).2 (Nat.le_refl _), hp.nx _ _ _ _ φ2 (l1.trans l2) (t1.trans t2) e2 s2 q2⟩
theorem snd_wh {body : List Stmt} {t : IT} {u : IB} (ok : CxOk fs X C) (hc : PT X c (sT fs X.K t)) (hb : PSs X body (sB fs X.K u)) : PS X (.While c body [] p) (sS fs X.K (.wh t u)) := by
  refine (ps_while (by rw [ok.xe]; exact PassesOwn.never) hc hb).sub fun D σ H ⟨ρ, S, φ, E, he, hs, hw, hp⟩ => ?_
  obtain ⟨n, hw⟩ := hw
  let Wp : Nat → L2.St → Hp → Prop := fun m σ' H' => ∃ (ρ : En) (S : Sto) (φ' : List Addr), Le φ φ' ∧ TupLe H H' ∧ EnvRel X.K φ' H' ρ σ' ∧ SRel X.K φ' S H' ∧
    hLoop (fun ρ' S' k => wT fs t ρ' S' k) (fun E' ρ' S' => wB fs u E' ρ' S') E m ρ S
  refine ⟨Wp, ⟨n, ρ, S, φ, Le.refl _, TupLe.refl _, he, hs, hw⟩, ?_⟩
  rintro m σ2 H2 ⟨ρ2, S2, φ2, l2, t2, e2, s2, q2⟩
  cases m with
  | zero => exact q2.elim
  | succ m =>
    refine ⟨ρ2, S2, φ2, _, e2, s2, q2, fun k S3 H3 φ3 l3 t3 s3 q3 => ?_⟩
    cases k with
    | true =>
      refine ⟨Wp m, fun σ' H' w => ⟨m, Nat.lt_succ_self m, w⟩, ρ2, S3, φ3, _, e2.mono l3 t3, s3, q3, ?_⟩
      have L3 : Le φ φ3 := l2.trans l3
      have T3 : TupLe H H3 := t2.trans t3
      exact ⟨fun ρ5 S5 σ5 H5 φ5 l5 t5 e5 s5 q5 => ⟨ρ5, S5, φ5, L3.trans l5, T3.trans t5, e5, s5, q5⟩, hp.rt.mono L3 T3,
        fun ρ5 S5 σ5 H5 φ5 l5 t5 e5 s5 q5 => hp.nx _ _ _ _ φ5 (L3.trans l5) (T3.trans t5) e5 s5 q5,
        fun ρ5 S5 σ5 H5 φ5 l5 t5 e5 s5 q5 => ⟨ρ5, S5, φ5, L3.trans l5, T3.trans t5, e5, s5, q5⟩⟩
    | false => exact hp.nx _ _ _ _ φ3 (l2.trans l3) (t2.trans t3) (e2.mono l3 t3) s3 q3
theorem snd_bnil : PSs X [] (sB fs X.K .nil) := pss_nil.sub fun D σ H ⟨ρ, S, φ, E, he, hs, hw, hp⟩ => here_nx hp he hs hw
theorem snd_bcons {st : Stmt} {r : List Stmt} {u : IS} {w : IB} (h1 : PS X st (sS fs X.K u)) (h2 : PSs X r (sB fs X.K w)) : PSs X (st :: r) (sB fs X.K (.cons u w)) := by
  refine (pss_cons h1 h2).sub fun D σ H ⟨ρ, S, φ, E, he, hs, hw, hp⟩ => ?_
  refine ⟨ρ, S, φ, _, he, hs, hw, ?_⟩
  exact ⟨fun ρ' S' σ' H' φ' l t e s q => ⟨ρ', S', φ', E, e, s, q, hp.mono l t⟩, hp.rt, hp.bk, hp.ct⟩
end
end DW

set_option Elab.async false
set_option linter.all false
set_option maxRecDepth 100000
set_option maxHeartbeats 4000000
namespace DW
open PySem PySem.Spec PyProof.Rows L2
variable [Tb : Tbl]

theorem star_of {n : Nat} {C : Ctx} {e : Expr} {ie : IE} (h : compE n C e = some ie) (r : List Expr) (env : Env) : starEach (e :: r) env = (false, eval e env) :: starEach r env := by
  cases n with
  | zero => cases h
  | succ n => cases e <;> first | rfl | (simp only [compE] at h; cases h)
theorem backTo_any (p : Pos) (xs : List (Bool × Sem Value)) : (backTo p xs).any (·.1) = xs.any (·.1) := by
  unfold backTo
  rw [List.any_map]
  rfl
theorem star_any {n : Nat} {C : Ctx} : ∀ {es : List Expr} {as : IA} (env : Env), compA (compE n C) es = some as → (starEach es env).any (·.1) = false
  | [], _, _, _ => rfl
  | e :: r, as, env, h => by
    unfold compA at h
    cases h1 : compE n C e with
    | none => rw [h1] at h; cases h
    | some a =>
      rw [h1] at h
      cases h2 : compA (compE n C) r with
      | none => rw [h2] at h; cases h
      | some b =>
        rw [star_of h1, List.any_cons, star_any env h2]
        rfl
theorem plain_of {n : Nat} {C : Ctx} {e : Expr} {ie : IE} (h : compE n C e = some ie) : PlainIx e := by
  cases n with
  | zero => cases h
  | succ n => cases e <;> first | exact fun _ _ => rfl | (simp only [compE] at h; cases h)
theorem nosl_of {n : Nat} {C : Ctx} {e : Expr} {ie : IE} (h : compE n C e = some ie) : NoSl e := by
  cases n with
  | zero => cases h
  | succ n => cases e <;> first | exact fun _ _ => rfl | (simp only [compE] at h; cases h)
theorem alen_of {f : Expr → Option IE} : ∀ {vs : List Expr} {as : IA}, compA f vs = some as → alen as = vs.length
  | [], as, h => by cases h; rfl
  | e :: r, as, h => by
    simp only [compA] at h
    split at h
    · rename_i a b h1 h2
      cases h
      simp only [alen, List.length_cons, alen_of h2]
    · cases h
theorem keys_len {f : Expr → Option IE} : ∀ {keys : List (Option Expr)} {ks : List Str}, compK f keys = some ks → ks.length = keys.length ∧ True
  | [], ks, h => by cases h; exact ⟨rfl, trivial⟩
  | none :: r, ks, h => by cases h
  | some e :: r, ks, h => by
    simp only [compK] at h
    split at h
    · rename_i k ks' h1 h2
      cases h
      exact ⟨by simp only [List.length_cons, (keys_len h2).1], trivial⟩
    · cases h
theorem pps_of {fs : List FSp} {X : Cx} {n : Nat} {C : Ctx} {dp : Pos} (hE : ∀ e x, compE n C e = some x → PE X e (sE fs X.K x)) : ∀ {keys : List (Option Expr)} {vs : List Expr} {ks : List Str} {as : IA}, compK (compE n C) keys = some ks → compA (compE n C) vs = some as → keys.length = vs.length → PPs X dp keys vs (trsOf fs X.K ks as)
  | [], [], ks, as, h1, h2, _ => by cases h1; cases h2; exact pps_nil
  | [], _ :: _, _, _, _, _, h => by simp at h
  | _ :: _, [], _, _, _, _, h => by simp at h
  | none :: _, _ :: _, _, _, h1, _, _ => by cases h1
  | some e :: r, v :: vs, ks, as, h1, h2, h => by
    simp only [compK] at h1
    split at h1
    · rename_i k ks' q1 q2
      cases h1
      simp only [compA] at h2
      split at h2
      · rename_i a b p1 p2
        cases h2
        exact pps_cons (hE _ _ q1) (hE _ _ p1) (pps_of hE q2 p2 (by simpa using h))
      · cases h2
    · cases h1
theorem mark_of {n : Nat} {C : Ctx} {e : Expr} {ie : IE} (h : compE n C e = some ie) (op : CmpOp) : behindInMarks op e = false := by
  cases n with
  | zero => cases h
  | succ n => cases e <;> first | rfl | (simp only [compE] at h; cases h)
theorem fold_of {n : Nat} {C : Ctx} {e : Expr} {ie : IE} (h : compE n C e = some ie) (env : Env) (v : Value) : foldedSetIterable e env v = pure v := by
  cases n with
  | zero => cases h
  | succ n => cases e <;> first | rfl | (simp only [compE] at h; cases h)
theorem asub_of {n : Nat} {C : Ctx} {o e : Expr} {ie : IE} {p : Pos} {env : Env} (h : compE n C e = some ie) : ∀ v, assign (.Subscript o e p) env v = (do
      let ov ← holding [v] (eval o env)
      let iv ← holding [v, ov] (eval e env)
      standAt p
      holding [v, ov, iv] (setItem ov iv v)
      release [v, ov, iv] []) := by
  cases n with
  | zero => cases h
  | succ n => cases e <;> first | exact fun _ => rfl | (simp only [compE] at h; cases h)
theorem swaps_of {e : Expr} (h : isComp e = false) (t : Option Expr) (l : Nat) (env : Env) : swapsWith e t l env = pure false := by
  cases e <;> first | rfl | cases h

/-- of a fuel -/
structure Snd (fs : List FSp) (n : Nat) : Prop where
  E : ∀ (X : Cx) (C : Ctx) (e : Expr) (ie : IE), CxOk fs X C → compE n C e = some ie → PE X e (sE fs X.K ie)
  T : ∀ (X : Cx) (C : Ctx) (e : Expr) (it : IT), CxOk fs X C → compT n C e = some it → PT X e (sT fs X.K it) ∧ ∀ op es p, e = .BoolOp op es p → PW X e (sT fs X.K it)
  G : ∀ (X : Cx) (C : Ctx) (e : Expr) (g : IG), CxOk fs X C → compG n C e = some g → PG X e (sG fs X.K g)
  I : ∀ (X : Cx) (C : Ctx) (tg e : Expr) (it : II), CxOk fs X C → compI n C tg e = some it → PI X tg e (sI fs X.K it) ∧ ∀ v, foldedSetIterable e X.env v = pure v
  Ts : ∀ (X : Cx) (C : Ctx) (es : List Expr) (t : ITs), CxOk fs X C → compTs n C es = some t → PTs X es (sTs fs X.K t)
  L : ∀ (X : Cx) (C : Ctx) (elt : Expr) (g : Comprehension) (scope : Scope) (r : List Nat × IG × II × ITs × IE), CxOk fs X C → compLc n C elt g scope = some r → ∃ (tg iter : Expr) (ifs : List Expr) (own : List (Str × Nat)), g = ⟨tg, iter, ifs, 0⟩ ∧ r.1 = own.map (·.2) ∧
    blkC C.N C.sc scope own = true ∧ (∀ i ∈ gSlots r.2.1, i ∈ own.map (·.2)) ∧ PI X tg iter (sI fs X.K r.2.2.1) ∧ (∀ v, foldedSetIterable iter X.env v = pure v) ∧
    (∀ (s : Shared) (H : Hp) (A : Addr) (cl : List (Str × Addr)) (fp : List Addr), PG (X.blk s H scope (compEnvC scope cl A X.env) fp) tg (sG fs X.K r.2.1)) ∧
    (∀ (s : Shared) (H : Hp) (A : Addr) (cl : List (Str × Addr)) (fp : List Addr), PTs (X.blk s H scope (compEnvC scope cl A X.env) fp) ifs (sTs fs X.K r.2.2.2.1)) ∧
    (∀ (s : Shared) (H : Hp) (A : Addr) (cl : List (Str × Addr)) (fp : List Addr), PE (X.blk s H scope (compEnvC scope cl A X.env) fp) elt (sE fs X.K r.2.2.2.2))
  Cn : ∀ (X : Cx) (C : Ctx) (elt : Expr) (gr : List Comprehension) (c : IC) (vs : List Nat), CxOk fs X C → compC n C elt gr = some (c, vs) → GnsOk X gr (gnsOf fs X.K c) ∧ PE X elt (sE fs X.K (eltOf c)) ∧ ∀ ws : List Nat, (∀ i ∈ vs, i ∈ ws) → nestC ws c
  Ln : ∀ (X : Cx) (C : Ctx) (elt : Expr) (g : Comprehension) (gr : List Comprehension) (scope : Scope) (own' : List Nat) (a : IG) (b : II) (t : ITs) (c : IC), CxOk fs X C → compLn n C elt g gr scope = some (own', a, b, t, c) → ∃ (own : List (Str × Nat)), own' = own.map (·.2) ∧
    blkC C.N C.sc scope own = true ∧ (∀ i ∈ gSlots a, i ∈ own.map (·.2)) ∧ nestC (own.map (·.2)) c ∧ PI X g.target g.iter (sI fs X.K b) ∧ (∀ v, foldedSetIterable g.iter X.env v = pure v) ∧
    (∀ (s : Shared) (H : Hp) (A : Addr) (cl : List (Str × Addr)) (fp : List Addr), GnOk0 (X.blk s H scope (compEnvC scope cl A X.env) fp) g (gnOf fs X.K (own.map (·.2)) a b t)) ∧
    (∀ (s : Shared) (H : Hp) (A : Addr) (cl : List (Str × Addr)) (fp : List Addr), GnsOk (X.blk s H scope (compEnvC scope cl A X.env) fp) gr (gnsOf fs X.K c)) ∧
    (∀ (s : Shared) (H : Hp) (A : Addr) (cl : List (Str × Addr)) (fp : List Addr), PE (X.blk s H scope (compEnvC scope cl A X.env) fp) elt (sE fs X.K (eltOf c)))

section
variable {fs : List FSp} {n : Nat}
theorem Snd.A (h : Snd fs n) {X : Cx} {C : Ctx} (ok : CxOk fs X C) : ∀ {es : List Expr} {as : IA}, compA (compE n C) es = some as → PA X es (sA fs X.K as)
  | [], _, e => by cases e; exact snd_anil
  | x :: r, as, e => by
    unfold compA at e
    cases h1 : compE n C x with
    | none => rw [h1] at e; cases e
    | some a =>
      rw [h1] at e
      cases h2 : compA (compE n C) r with
      | none => rw [h2] at e; cases e
      | some b =>
        rw [h2] at e; cases e
        exact snd_acons (h.E X C x a ok h1) (Snd.A h ok h2) (star_of h1 r X.env)
theorem Snd.O (h : Snd fs n) {X : Cx} {C : Ctx} (ok : CxOk fs X C) {e : Option Expr} {o : IO} (q : compO (compE n C) e = some o) : PO X e (sO fs X.K o) := by
  cases e with
  | none => cases q; exact snd_ono
  | some e =>
    simp only [compO] at q
    cases h1 : compE n C e with
    | none => rw [h1] at q; cases q
    | some a => rw [h1] at q; cases q; exact snd_oyes (h.E X C e a ok h1)
theorem asg_star {n : Nat} {C : Ctx} {e : Expr} {g : IG} (h : compG n C e = some g) (r : List Expr) (env : Env) : assignEach (e :: r) env = (false, assign e env) :: assignEach r env := by
  cases n with
  | zero => cases h
  | succ n => cases e <;> first | rfl | (simp only [compG] at h; cases h)
theorem Snd.Gs (h : Snd fs n) {X : Cx} {C : Ctx} (ok : CxOk fs X C) : ∀ {es : List Expr} {gs : IGs}, compGs (compG n C) es = some gs → PGs X es (sGs fs X.K gs) ∧ gsLen gs = es.length ∧ (assignEach es X.env).length = es.length ∧ (assignEach es X.env).findIdx? (·.1) = none
  | [], _, e => by cases e; exact ⟨snd_gnil, rfl, rfl, rfl⟩
  | x :: r, gs, e => by
    unfold compGs at e
    cases h1 : compG n C x with
    | none => rw [h1] at e; cases e
    | some a =>
      rw [h1] at e
      cases h2 : compGs (compG n C) r with
      | none => rw [h2] at e; cases e
      | some b =>
        rw [h2] at e; cases e
        obtain ⟨q1, q2, q3, q4⟩ := Snd.Gs h ok h2
        have hst := asg_star h1 r X.env
        refine ⟨snd_gcons (h.G X C x a ok h1) q1 (by rw [hst]; rfl), ?_, ?_, ?_⟩
        · show gsLen b + 1 = r.length + 1
          rw [q2]
        · rw [hst, List.length_cons, List.length_cons, q3]
        · rw [hst, List.findIdx?_cons]
          simp [q4]

theorem compA_cons {f : Expr → Option IE} {e : Expr} {r : List Expr} {as : IA} (h : compA f (e :: r) = some as) : ∃ a b, f e = some a ∧ compA f r = some b ∧ as = .cons a b := by
  unfold compA at h
  cases h1 : f e with
  | none => rw [h1] at h; cases h
  | some a =>
    rw [h1] at h
    cases h2 : compA f r with
    | none => rw [h2] at h; cases h
    | some b => rw [h2] at h; cases h; exact ⟨a, b, rfl, rfl, rfl⟩
theorem some_map {α β : Type} {o : Option α} {f : α → β} {b : β} (h : o.map f = some b) : ∃ a, o = some a ∧ b = f a := by
  cases o with
  | none => cases h
  | some a => cases h; exact ⟨a, rfl, rfl⟩

theorem snd_all (fs : List FSp) : ∀ n, Snd fs n
  | 0 => {
      E := fun _ _ _ _ _ h => by cases h
      T := fun _ _ _ _ _ h => by cases h
      G := fun _ _ _ _ _ h => by cases h
      I := fun _ _ _ _ _ _ h => by cases h
      Ts := fun _ _ _ _ _ h => by cases h
      L := fun _ _ _ _ _ _ _ h => by cases h
      Cn := fun _ _ _ _ _ _ _ h => by cases h
      Ln := fun _ _ _ _ _ _ _ _ _ _ _ _ h => by cases h }
  | n + 1 => by
    have ih := snd_all fs n
    refine ⟨?E, ?T, ?G, ?I, ?Ts, ?L, ?Cn, ?Ln⟩
    case E =>
      intro X C e ie ok h
      cases e with
      | Constant cc k p =>
        simp only [compE] at h
        obtain ⟨d, h1, rfl⟩ := some_map h
        exact snd_const h1
      | Name x p =>
        simp only [compE] at h
        split at h
        · rename_i hn
          split at h
          · rename_i hk
            obtain ⟨i, h1, rfl⟩ := some_map h
            exact snd_var ok h1 (.inl hk) hn
          · rename_i hk
            obtain ⟨i, h1, rfl⟩ := some_map h
            exact snd_var ok h1 (.inr (.inl hk)) hn
          · rename_i hk
            obtain ⟨i, h1, rfl⟩ := some_map h
            exact snd_var ok h1 (.inr (.inr hk)) hn
          · rename_i hk
            split at h
            · rename_i d hd
              cases h
              exact snd_con ok hk hd hn
            · split at h
              · rename_i hb
                obtain ⟨t, h1, rfl⟩ := some_map h
                exact snd_ty ok hk hb h1 hn
              · cases h
          · cases h
        · cases h
      | Tuple es k p =>
        simp only [compE] at h
        obtain ⟨as, h1, rfl⟩ := some_map h
        exact snd_tup (ih.A ok h1)
      | List es p =>
        simp only [compE] at h
        obtain ⟨as, h1, rfl⟩ := some_map h
        exact snd_lst (ih.A ok h1)
      | BinOp a op b p =>
        simp only [compE] at h
        split at h
        · rename_i x y h1 h2
          cases h
          exact snd_bin (ih.E X C a x ok h1) (ih.E X C b y ok h2)
        · cases h
      | UnaryOp op a p =>
        cases op with
        | Not =>
          simp only [compE] at h
          obtain ⟨x, h1, rfl⟩ := some_map h
          exact snd_not (ih.E X C a x ok h1)
        | USub =>
          simp only [compE] at h
          obtain ⟨x, h1, rfl⟩ := some_map h
          exact snd_neg (ih.E X C a x ok h1)
        | Invert => simp only [compE] at h; cases h
        | UAdd => simp only [compE] at h; cases h
      | BoolOp op es p =>
        match es, h with
        | [], h => simp only [compE] at h; cases h
        | [a], h =>
          simp only [compE] at h
          exact pe_one (ih.E X C a ie ok h)
        | a :: b :: r, h =>
          simp only [compE] at h
          split at h
          · rename_i x y h1 h2
            cases h
            cases op with
            | And => exact snd_and (ih.E X C a x ok h1) (ih.E X C _ y ok h2)
            | Or => exact snd_or (ih.E X C a x ok h1) (ih.E X C _ y ok h2)
          · cases h
      | Compare a ops es p =>
        simp only [compE] at h
        split at h
        · split at h
          · rename_i h1 h2
            cases h
            exact snd_cmp ok (ih.E X C a _ ok h1) (ih.E X C _ _ ok h2) (mark_of h2 _)
          · cases h
        · split at h
          · rename_i h1 h2 h3
            cases h
            refine snd_chn ok (ih.E X C a _ ok h1) (ih.E X C _ _ ok h2) (ih.E X C _ _ ok h3) ?_
            show behindInMarks _ _ = false
            exact mark_of h3 _
          · cases h
        · cases h
      | IfExp c a b p =>
        simp only [compE] at h
        split at h
        · rename_i h1 h2 h3
          cases h
          exact snd_ite (ih.T X C c _ ok h1).1 (ih.E X C a _ ok h2) (ih.E X C b _ ok h3)
        · cases h
      | Call f es ks p =>
        simp only [compE] at h
        split at h
        · split at h
          · rename_i hn
            obtain ⟨hn, hk⟩ := hn
            split at h
            · rename_i i hi
              split at h
              · rename_i j as scope hl
                obtain ⟨aa, h1, rfl⟩ := some_map h
                have L : LamX.LamS X.env.scope scope := by
                  have q := hl
                  unfold lamOf at q
                  split at q
                  · split at q
                    · split at q
                      · rename_i hc
                        cases e1 : C.lam.lookup (_, _) with
                        | none => rw [e1] at q; cases q
                        | some z =>
                          rw [e1] at q
                          cases q
                          exact LamX.lamS_by (by rw [ok.sc]; exact hc.1)
                      · cases q
                    · cases q
                  · cases q
                exact ok.lam X (Like.refl X) _ _ _ _ _ _ _ aa (by rw [ok.sc]; exact hl) (gl_of ok hk) hn (fun e r env he => by
                  subst he
                  obtain ⟨a, b, g1, g2, _⟩ := compA_cons h1
                  exact ⟨star_of g1 r env, star_any env g2⟩) fun A outer s H E f c' un => ih.A (lam_ok ok L un) h1
              obtain ⟨as, h1, rfl⟩ := some_map h
              cases es with
              | nil => cases h1; exact snd_fn0 ok hk hn hi
              | cons e r =>
                obtain ⟨a, b, g1, g2, _⟩ := compA_cons h1
                exact snd_fn ok hk hn hi (ih.A ok h1) (star_of g1 r X.env) (by rw [backTo_any]; exact star_any X.env g2)
            · split at h
              · rename_i hb
                split at h
                · rename_i a hlr
                  split at h
                  · rename_i hr
                    obtain ⟨x, h1, rfl⟩ := some_map h
                    unfold lrngOf at hlr
                    split at hlr
                    · split at hlr
                      · rename_i hxr
                        obtain ⟨rfl, rfl⟩ := hxr
                        cases hlr
                        exact snd_lrng ok hk hb hr.1 hr.2 (ih.E X C _ x ok h1) (star_of h1 [] X.env)
                      · cases hlr
                    · cases hlr
                  · cases h
                split at h
                · rename_i f hf
                  obtain ⟨as, h1, rfl⟩ := some_map h
                  cases es with
                  | nil =>
                    exfalso
                    unfold bnOf at hf
                    simp at hf
                  | cons e r =>
                    obtain ⟨a, b, g1, g2, _⟩ := compA_cons h1
                    exact snd_blt ok hk hn hb hf (ih.A ok h1) (star_of g1 r X.env) (by rw [backTo_any]; exact star_any X.env g2)
                · cases h
              · cases h
          · cases h
        · -- a keyword
          split at h
          · rename_i kw a1 z i hz hi
            split at h
            · rename_i hc
              obtain ⟨rfl, hk, hb, hsum, hbl⟩ := hc
              obtain ⟨y, h1, rfl⟩ := some_map h
              exact ok.srt i hi (Option.isNone_iff_eq_none.mp hbl) _ _ _ _ y (by rw [hz]; rfl) (gl_of ok hk) (ih.E X C _ y ok h1) (star_of h1 [] X.env)
            · cases h
          · cases h
        · split at h
          · split at h
            · rename_i hm
              obtain ⟨rfl, hl⟩ := hm
              split at h
              · rename_i h1 h2
                cases h
                exact snd_app (ih.E X C _ _ ok h1) (ih.E X C _ _ ok h2) hl (star_of h2 [] X.env)
              · cases h
            · split at h
              · rename_i hm
                obtain ⟨rfl, hl⟩ := hm
                split at h
                · rename_i h1 h2
                  cases h
                  exact snd_ext (ih.E X C _ _ ok h1) (ih.E X C _ _ ok h2) hl (star_of h2 [] X.env)
                · cases h
              · cases h
          · cases h
        · cases h
      | Subscript a i p =>
        simp only [compE] at h
        split at h
        · split at h
          · rename_i h1 h2 h3
            cases h
            exact snd_slc (ih.E X C a _ ok h1) (ih.O ok h2) (ih.O ok h3)
          · cases h
        · split at h
          · rename_i h1 h2
            cases h
            exact snd_idx ok.un (ih.E X C a _ ok h1) (ih.E X C _ _ ok h2) (plain_of h2)
          · rename_i h1 h2
            split at h
            · rename_i keys vs dp
              split at h
              · rename_i h3 h4
                split at h
                · rename_i hc
                  obtain ⟨c1, c2, c3, c4, c5⟩ := hc
                  cases h
                  have hE : ∀ e x, compE n C e = some x → PE X e (sE fs X.K x) := fun e x q => ih.E X C e x ok q
                  obtain ⟨q1, q2⟩ := keys_len h3
                  exact snd_dsub (by have := ok.un; omega) (pps_of hE h3 h4 c1) ((alen_of h4).trans (c1.symm.trans q1.symm)) c5 c1 c3 c2 q1 c4 (hE _ _ h2) (nosl_of h2)
                · cases h
              · cases h
            · split at h
              · rename_i hc
                obtain ⟨kds, hkd, rfl⟩ := some_map h
                exact snd_csub ok hc.2 hc.1 hkd (ih.E X C _ _ ok h2) (plain_of h2)
              · cases h
            · cases h
          · cases h
      | Dict keys vs p =>
        simp only [compE] at h
        split at h
        · cases h; exact snd_dnew
        · cases h
      | ListComp elt gs scope p =>
        simp only [compE] at h
        split at h
        · split at h
          · rename_i g g2 gr own' a b t c h1
            cases h
            obtain ⟨own, rfl, hb, hsl, hn, hi, hf, h0, hN, he⟩ := ih.Ln X C elt _ _ scope own' a b t c ok h1
            have bo : BlkOk X.N X.env.scope scope own := by rw [ok.hN, ok.sc]; exact blkOk_by hb
            exact (pe_lcN ok.calm ok.nd hi bo rfl (nest_of c _ hn) h0 hN he hf).sub fun σ H Q q => snd_lcn hsl hn q
          · cases h
        · split at h
          · rename_i g' it' t' e' h1
            cases h
            obtain ⟨tg, iter, ifs, own, rfl, e1, hb, hsl, hi, hf, hg, ht, he⟩ := ih.L X C elt _ scope _ ok h1
            simp only at e1 hsl hi hg ht he
            subst e1
            obtain ⟨bo, hr⟩ := snd_lcp ok hb hsl hi hg ht he hf
            exact (pe_lc ok.calm ok.nd hi bo hg ht he hf).sub hr
          · cases h
        · cases h
      | _ => simp only [compE] at h; cases h
    case T =>
      intro X C e it ok h
      have other : (∀ op es p, e ≠ .BoolOp op es p) → PT X e (sT fs X.K it) → PT X e (sT fs X.K it) ∧ ∀ op es p, e = .BoolOp op es p → PW X e (sT fs X.K it) := fun hne q => ⟨q, fun op es p z => absurd z (hne op es p)⟩
      have val : ∀ {e : Expr} {it : IT}, (compE n C e).map .val = some it → (∀ whole, isTrue e X.env whole = (do let v ← whole; standAt e.pos; holding [v] (truthy v))) → PT X e (sT fs X.K it) := fun {e it} q hp => by
        obtain ⟨x, h1, rfl⟩ := some_map q
        exact snd_tval (ih.E X C e x ok h1) hp
      cases e with
      | UnaryOp op a p =>
        refine other (fun _ _ _ z => by cases z) ?_
        cases op with
        | Not =>
          simp only [compT] at h
          obtain ⟨x, h1, rfl⟩ := some_map h
          exact snd_tnot (ih.T X C a x ok h1).1
        | USub => simp only [compT] at h; exact val h fun _ => rfl
        | Invert => simp only [compT] at h; exact val h fun _ => rfl
        | UAdd => simp only [compT] at h; exact val h fun _ => rfl
      | BoolOp op es p =>
        have pw : PW X (.BoolOp op es p) (sT fs X.K it) := by
          match es, h with
          | [], h => simp only [compT] at h; cases h
          | [a], hh =>
            simp only [compT] at hh
            have q := (ih.T X C a it ok hh).1
            cases op with
            | And => exact pw_and1 q
            | Or => exact pw_or1 q
          | a :: b :: r, h =>
            simp only [compT] at h
            split at h
            · rename_i x y h1 h2
              cases h
              cases op with
              | And => exact snd_tand (ih.T X C a x ok h1).1 ((ih.T X C _ y ok h2).2 _ _ _ rfl)
              | Or => exact snd_tor (ih.T X C a x ok h1).1 ((ih.T X C _ y ok h2).2 _ _ _ rfl)
            · cases h
        exact ⟨pw.pt, fun _ _ _ z => by cases z; exact pw⟩
      | Compare a ops es p =>
        refine other (fun _ _ _ z => by cases z) ?_
        simp only [compT] at h
        split at h
        · split at h
          · rename_i h1 h2
            cases h
            exact snd_tcmp ok (ih.E X C a _ ok h1) (ih.E X C _ _ ok h2) (mark_of h2 _)
          · cases h
        · split at h
          · rename_i h1 h2 h3
            cases h
            refine snd_tchn ok (ih.E X C a _ ok h1) (ih.E X C _ _ ok h2) (ih.E X C _ _ ok h3) ?_
            show behindInMarks _ _ = false
            exact mark_of h3 _
          · cases h
        · cases h
      | IfExp c a b p => simp only [compT] at h; cases h
      | _ => exact other (fun _ _ _ z => by cases z) (by simp only [compT] at h; exact val h fun _ => rfl)
    case G =>
      intro X C e g ok h
      cases e with
      | Name x p =>
        simp only [compG] at h
        split at h
        · rename_i ho
          obtain ⟨i, h1, rfl⟩ := some_map h
          exact snd_gname ok h1 ho
        · cases h
      | Tuple es k p =>
        simp only [compG] at h
        obtain ⟨gs, h1, rfl⟩ := some_map h
        obtain ⟨q1, q2, q3, q4⟩ := ih.Gs ok h1
        exact snd_gtup ok q1 q2 q3 q4
      | Subscript o i p =>
        simp only [compG] at h
        split at h
        · cases h
        · split at h
          · rename_i h1 h2
            cases h
            exact snd_gsub ok.un (ih.E X C o _ ok h1) (ih.E X C _ _ ok h2) (asub_of h2)
          · cases h
      | _ => simp only [compG] at h; cases h
    case I =>
      intro X C tg e it ok h
      have val : ∀ {e : Expr} {it : II}, (compE n C e).map .val = some it → PI X tg e (sI fs X.K it) ∧ ∀ v, foldedSetIterable e X.env v = pure v := fun {e it} q => by
        obtain ⟨x, h1, rfl⟩ := some_map q
        exact ⟨snd_ival (ih.E X C e x ok h1), fold_of h1 X.env⟩
      simp only [compI] at h
      split at h
      · split at h
        · rename_i hr
          obtain ⟨rfl, hk, hb⟩ := hr
          refine ⟨?_, fun _ => rfl⟩
          split at h
          · obtain ⟨x, h1, rfl⟩ := some_map h
            exact snd_irng1 ok hk hb (ih.E X C _ x ok h1) (star_of h1 [] X.env)
          · split at h
            · rename_i h1 h2
              cases h
              exact snd_irng2 ok hk hb (ih.E X C _ _ ok h1) (ih.E X C _ _ ok h2) (by rw [star_of h1, star_of h2]; rfl) (star_of h2 [] X.env)
            · cases h
          · cases h
        · split at h
          · rename_i hr
            obtain ⟨rfl, hk, hb, ht⟩ := hr
            refine ⟨?_, fun _ => rfl⟩
            split at h
            · obtain ⟨x, h1, rfl⟩ := some_map h
              cases tg with
              | Tuple es kk tp => exact snd_ienum ok hk hb (ih.E X C _ x ok h1) (star_of h1 [] X.env)
              | _ => cases ht
            · cases h
          · split at h
            · rename_i hr
              obtain ⟨rfl, hk, hb, ht⟩ := hr
              refine ⟨?_, fun _ => rfl⟩
              split at h
              · split at h
                · rename_i h1 h2
                  cases h
                  cases tg with
                  | Tuple es kk tp => exact snd_izip ok hk hb (ih.E X C _ _ ok h1) (ih.E X C _ _ ok h2) (by rw [star_of h1, star_of h2]; rfl) (star_of h2 [] X.env)
                  | _ => cases ht
                · cases h
              · cases h
            · exact val h
      · exact val h
    case Ts =>
      intro X C es t ok h
      simp only [compTs] at h
      split at h
      · cases h; exact snd_tsnil
      · obtain ⟨x, h1, rfl⟩ := some_map h
        exact snd_tsone (ih.T X C _ x ok h1).1
      · cases h
    case L =>
      intro X C elt g scope r ok h
      simp only [compLc] at h
      split at h
      · rename_i hc
        obtain ⟨ha, hb⟩ := hc
        split at h
        · rename_i a b c d h1 h2 h3 h4
          split at h
          · rename_i hs
            cases h
            obtain ⟨tg, iter, ifs, asy⟩ := g
            simp only at ha h1 h2 h3
            subst ha
            have ok' := fun (s : Shared) (H : Hp) (A : Addr) (cl : List (Str × Addr)) (fp : List Addr) => blk_ok (s := s) (H := H) (scope := scope) (A := A) (cl := cl) (fp := fp) ok
            refine ⟨tg, iter, ifs, ownOf C.N scope.names, rfl, rfl, hb, fun i hi => ?_, (ih.I X C tg iter b ok h2).1, (ih.I X C tg iter b ok h2).2, fun s H A cl fp => ih.G _ _ tg a (ok' s H A cl fp) h1, fun s H A cl fp => ih.Ts _ _ ifs c (ok' s H A cl fp) h3, fun s H A cl fp => ih.E _ _ elt d (ok' s H A cl fp) h4⟩
            have q := List.all_eq_true.mp hs i hi
            simpa using q
          · cases h
        · cases h
      · cases h
    case Cn =>
      intro X C elt gr c vs ok h
      simp only [compC] at h
      split at h
      · obtain ⟨e, h1, h2⟩ := some_map h
        cases h2
        exact ⟨.nil, ih.E X C elt e ok h1, fun _ _ => trivial⟩
      · rename_i g r
        split at h
        · rename_i a b t d vs' h1 h2 h3 h4
          split at h
          · rename_i ha
            cases h
            obtain ⟨q1, q2, q3⟩ := ih.Cn X C elt r d vs' ok h4
            have gi := ih.I X C _ _ b ok h2
            exact ⟨.cons ⟨⟨ha, ih.G X C _ a ok h1, ih.Ts X C _ t ok h3⟩, gi.1, gi.2⟩ q1, q2, fun ws hw => ⟨hw, fun i hi => List.mem_append_left _ hi, q3 _ fun i hi => List.mem_append_right _ hi⟩⟩
          · cases h
        · cases h
    case Ln =>
      intro X C elt g gr scope own' a b t c ok h
      simp only [compLn] at h
      split at h
      · rename_i hc
        obtain ⟨ha, hb⟩ := hc
        split at h
        · rename_i a' b' c' d vs h1 h2 h3 h4
          split at h
          · rename_i hs
            cases h
            have ok' := fun (s : Shared) (H : Hp) (A : Addr) (cl : List (Str × Addr)) (fp : List Addr) => blk_ok (s := s) (H := H) (scope := scope) (A := A) (cl := cl) (fp := fp) ok
            have hm : ∀ i, i ∈ gSlots a ++ vs → i ∈ (ownOf C.N scope.names).map (·.2) := fun i hi => by
              have q := List.all_eq_true.mp hs i hi
              simpa using q
            have gi := ih.I X C _ _ b ok h2
            exact ⟨ownOf C.N scope.names, rfl, hb, fun i hi => hm i (List.mem_append_left _ hi), (ih.Cn _ _ elt gr c vs (ok' ({} : Shared) (fun _ => none) 0 [] []) h4).2.2 _ fun i hi => hm i (List.mem_append_right _ hi), gi.1, gi.2,
              fun s H A cl fp => ⟨ha, ih.G _ _ _ a (ok' s H A cl fp) h1, ih.Ts _ _ _ t (ok' s H A cl fp) h3⟩, fun s H A cl fp => (ih.Cn _ _ elt gr c vs (ok' s H A cl fp) h4).1, fun s H A cl fp => (ih.Cn _ _ elt gr c vs (ok' s H A cl fp) h4).2.1⟩
          · cases h
        · cases h
      · cases h
end
end DW

set_option Elab.async false
set_option linter.all false
set_option maxRecDepth 100000
set_option maxHeartbeats 4000000
namespace DW
open PySem PySem.Spec PyProof.Rows L2
variable [Tb : Tbl]

theorem swapped_par {n m : Str} {pn pm pt pt2 : Pos} {k1 k2 : Nat} {a b : Expr} {env : Env} (hk : env.scope.kind = .function) (hne : n ≠ m) (hn : env.scope.names.lookup n = some .local) (hm : env.scope.names.lookup m = some .local) (hl : (pm.line == pn.line) = true)
    (h1 : [a, b].all (foldedForSure 8) = false) (h2 : [a, b].all (constantsAlone 8) = false) (hs : ∀ env, starEach [a, b] env = [(false, eval a env), (false, eval b env)]) :
    swappedStores [.Tuple [.Name n pn, .Name m pm] k1 pt] (.Tuple [a, b] k2 pt2) env = pure (some [n, m]) := by
  have hb : env.blockKind = .function := by unfold Env.blockKind; rw [hk]; rfl
  have ka : env.kindOf n = some .local := hn
  have kb : env.kindOf m = some .local := hm
  have hnm : (m == n) = false := by simpa using Ne.symm hne
  have hnm2 : (n == m) = false := by simpa using hne
  have e : [n, m].eraseDups = [n, m] := by
    simp [List.eraseDups, List.eraseDupsBy, List.eraseDupsBy.loop, hnm, hnm2]
  unfold swappedStores
  simp only [List.length_cons, List.length_nil, hb, List.filterMap_cons, List.filterMap_nil, ka, kb, List.head?_cons, Option.map_some, Option.getD_some, Expr.pos, hl, beq_self_eq_true, Bool.and_self, if_true, h1, h2, e]
  refine (if_neg ?_).trans ?_
  · simp
  refine (if_neg ?_).trans ?_
  · intro hc
    rw [List.any_cons, List.any_cons, List.any_nil, Bool.or_false, Bool.or_eq_true] at hc
    have q := hs env
    rcases hc with hc | hc
    · cases a <;> first | (exact absurd (show false = true from hc) Bool.false_ne_true) | (simp [starEach] at q)
    · cases b <;> first | (exact absurd (show false = true from hc) Bool.false_ne_true) | (cases a <;> simp [starEach] at q)
  simp
theorem swap_folded {tt vs : List Expr} {kt kv : Nat} {pt pv : Pos} {env : Env} (h : vs.all (foldedForSure 8) = true) : swappedStores [.Tuple tt kt pt] (.Tuple vs kv pv) env = pure none := by
  unfold swappedStores
  simp only
  split
  · rfl
  · split
    · rfl
    · split
      · rfl
      · first | rfl | (rw [if_pos h]; rfl)
theorem filterMap_lt {α β : Type} {f : α → Option β} : ∀ {l : List α}, (∃ e ∈ l, f e = none) → (l.filterMap f).length < l.length
  | [], ⟨e, h, _⟩ => by cases h
  | x :: r, ⟨e, h, q⟩ => by
    rw [List.filterMap_cons]
    rcases List.mem_cons.mp h with z | z
    · subst z
      rw [q]
      exact Nat.lt_succ_of_le (List.length_filterMap_le f r)
    · have := filterMap_lt ⟨e, z, q⟩
      split
      · exact Nat.lt_succ_of_lt this
      · exact Nat.succ_lt_succ this
theorem swap_cell {tt vs : List Expr} {kt kv : Nat} {pt pv : Pos} {env : Env} (h : ∃ x p, Expr.Name x p ∈ tt ∧ env.kindOf x = some .cell) : swappedStores [.Tuple tt kt pt] (.Tuple vs kv pv) env = pure none := by
  obtain ⟨x, p, hm, hk⟩ := h
  unfold swappedStores
  simp only
  split
  · rfl
  · split
    · rfl
    · split
      · rfl
      · rename_i hne
        exfalso
        apply hne
        rw [Bool.or_eq_true]
        left
        rw [bne_iff_ne]
        refine Nat.ne_of_lt (filterMap_lt ⟨_, hm, ?_⟩)
        simp [hk]
theorem swap_or {X : Cx} {C : Ctx} {fs : List FSp} (ok : CxOk fs X C) {tt vs : List Expr} {kt kv : Nat} {pt pv : Pos} (h : (vs.all (foldedForSure 8) || cellT C tt) = true) : swappedStores [.Tuple tt kt pt] (.Tuple vs kv pv) X.env = pure none := by
  rcases Bool.or_eq_true_iff.mp h with h | h
  · exact swap_folded h
  · obtain ⟨e, he, q⟩ := List.any_eq_true.mp h
    cases e <;> first | (cases q; done) | skip
    case Name x p => exact swap_cell ⟨x, p, he, by
      show X.env.scope.names.lookup x = _
      rw [ok.sc]
      exact eq_of_beq q⟩
theorem snd_sb (fs : List FSp) : ∀ (n : Nat), (∀ (X : Cx) (C : Ctx) (s : Stmt) (u : IS), CxOk fs X C → compS n C s = some u → PS X s (sS fs X.K u)) ∧ (∀ (X : Cx) (C : Ctx) (ss : List Stmt) (u : IB), CxOk fs X C → compB n C ss = some u → PSs X ss (sB fs X.K u))
  | 0 => ⟨fun _ _ _ _ _ h => (by cases h), fun _ _ _ _ _ h => (by cases h)⟩
  | n + 1 => by
    obtain ⟨ihS, ihB⟩ := snd_sb fs n
    have ih := snd_all fs n
    refine ⟨fun X C s u ok h => ?_, fun X C ss u ok h => ?_⟩
    · cases s with
      | Return v p =>
        simp only [compS] at h
        split at h
        · obtain ⟨x, h1, rfl⟩ := some_map h
          exact snd_ret (ih.E X C _ x ok h1)
        · cases h; exact snd_retN
      | Expr e p =>
        simp only [compS] at h
        split at h
        · cases h; exact snd_doc
        · split at h
          · cases h
          · rename_i hc
            obtain ⟨x, h1, rfl⟩ := some_map h
            exact snd_expr (ih.E X C _ x ok h1) (swaps_of (by simpa using hc) _ _ _)
      | Assign ts v p =>
        simp only [compS] at h
        split at h
        · -- a name
          rename_i x px
          split at h
          · rename_i e i h1 h2
            by_cases hc : isComp v = true
            · rw [if_pos hc] at h
              by_cases hk : okLc C x px v = true
              · rw [if_pos hk] at h
                cases h
                cases v with
                | ListComp elt gs scope p2 =>
                  simp only [okLc, Bool.and_eq_true, decide_eq_true_eq, Bool.not_eq_true'] at hk
                  obtain ⟨⟨⟨k1, k2⟩, k3⟩, k4⟩ := hk
                  have hsw : swapsWith (.ListComp elt gs scope p2) (some (.Name x px)) p.line X.env = pure true :=
                    sw_true (by rw [ok.sc]; exact k2) (by rw [ok.sc]; exact k1) k3 k4
                  cases n with
                  | zero => cases h1
                  | succ n =>
                    have ih2 := snd_all fs n
                    simp only [compE] at h1
                    split at h1
                    · split at h1
                      · rename_i g g2 gr own' a b t c h3
                        cases h1
                        obtain ⟨own, rfl, hb, hsl, hn, hi, hf, h0, hN, he⟩ := ih2.Ln X C elt _ _ scope own' a b t c ok h3
                        have bo : BlkOk X.N X.env.scope scope own := by rw [ok.hN, ok.sc]; exact blkOk_by hb
                        refine (ps_setLcN (i := i) ok.calm ok.nd (by rw [ok.hN]; exact idxOf_get h2) (by rw [ok.sc]; exact k1) hsw hi bo rfl (nest_of c _ hn) h0 hN he hf).sub fun D σ H q => ?_
                        obtain ⟨ρ, S, φ, QD, w1, w2, w3, w4⟩ := asgN_read q
                        exact snd_lcn hsl hn ⟨ρ, S, φ, QD, w1, w2, w3, w4⟩
                      · cases h1
                    · split at h1
                      · rename_i g' it' t' e' h3
                        cases h1
                        obtain ⟨tg, iter, ifs, own, rfl, e1, hb, hsl, hi, hf, hg, ht, he⟩ := ih2.L X C elt _ scope _ ok h3
                        simp only at e1 hsl hi hg ht he
                        subst e1
                        obtain ⟨bo, hr⟩ := snd_lcp ok hb hsl hi hg ht he hf
                        refine (ps_setLc (i := i) ok.calm ok.nd (by rw [ok.hN]; exact idxOf_get h2) (by rw [ok.sc]; exact k1) hsw hi bo hg ht he hf).sub fun D σ H q => ?_
                        have z := asgN_read q
                        obtain ⟨ρ, S, φ, QD, w1, w2, w3, w4⟩ := z
                        exact hr _ _ _ ⟨ρ, S, φ, QD, w1, w2, w3, w4⟩
                      · cases h1
                    · cases h1
                | _ => cases hk
              · rw [if_neg hk] at h; cases h
            · rw [if_neg hc] at h
              split at h
              · rename_i ho
                cases h
                exact snd_set ok h2 ho (ih.E X C v e ok h1) (swaps_of (by simpa using hc) _ _ _)
              · cases h
          · cases h
        · -- several targets
          split at h
          · rename_i vs kv pv
            split at h
            · rename_i hf
              split at h
              · rename_i e g h1 h2
                cases h
                exact snd_asg (ih.E X C _ e ok h1) (ih.G X C _ g ok h2) (by unfold swapsWithSole; exact swaps_of rfl _ _ _) (swap_or ok hf) (by rw [asg_star h2]; rfl)
              · cases h
            split at h
            · rename_i x px y py a b _
              split at h
              · rename_i i j ea eb h1 h2 h3 h4
                split at h
                · rename_i hk
                  obtain ⟨k1, k2, k3, k4, k5, k6, k7, k8⟩ := hk
                  cases h
                  have st : ∀ env, starEach [a, b] env = [(false, eval a env), (false, eval b env)] := fun env => by rw [star_of h3, star_of h4]; rfl
                  exact snd_par ok h1 h2 k1 k3 k4 (ih.E X C a ea ok h3) (ih.E X C b eb ok h4) (st _) (star_of h4 [] X.env)
                    (swapped_par (by rw [ok.sc]; exact k5) k2 (by rw [ok.sc]; exact k3) (by rw [ok.sc]; exact k4) k6 k7 k8 st)
                · cases h
              · cases h
            · cases h
          · rename_i _ hv
            split at h
            · cases h
            · rename_i hc
              split at h
              · rename_i e g h1 h2
                cases h
                refine snd_asg (ih.E X C _ e ok h1) (ih.G X C _ g ok h2) (by unfold swapsWithSole; exact swaps_of (by simpa using hc) _ _ _) ?_ (by rw [asg_star h2]; rfl)
                cases v with
                | Tuple vs kv pv => exact (hv _ _ _ rfl).elim
                | _ => rfl
              · cases h
        · -- o[i]
          split at h
          · cases h
          · rename_i hc
            split at h
            · rename_i e g h1 h2
              cases h
              exact snd_asg (ih.E X C v e ok h1) (ih.G X C _ g ok h2) (by unfold swapsWithSole; exact swaps_of (by simpa using hc) _ _ _) (by unfold swappedStores; rfl) (by rw [asg_star h2]; rfl)
            · cases h
        · cases h
      | If c a b p =>
        simp only [compS] at h
        split at h
        · rename_i t x y h1 h2 h3
          cases h
          exact snd_if (ih.T X C c t ok h1).1 (ihB X C a x ok h2) (ihB X C b y ok h3)
        · cases h
      | For tg it body els p =>
        simp only [compS] at h
        split at h
        · split at h
          · rename_i g i b h1 h2 h3
            cases h
            exact snd_for ok (ih.I X C tg it i ok h2).1 (ih.G X C tg g ok h1) (ihB X C body b ok h3) (ih.I X C tg it i ok h2).2
          · cases h
        · cases h
      | While c body els p =>
        simp only [compS] at h
        split at h
        · split at h
          · rename_i t b h1 h2
            cases h
            exact snd_wh ok (ih.T X C c t ok h1).1 (ihB X C body b ok h2)
          · cases h
        · cases h
      | Pass p => simp only [compS] at h; cases h; exact snd_pass
      | Break p => simp only [compS] at h; cases h; exact snd_brk
      | Continue p => simp only [compS] at h; cases h; exact snd_cont
      | Raise e c p => simp only [compS] at h; cases h; exact snd_nev
      | _ => simp only [compS] at h; cases h
    · simp only [compB] at h
      split at h
      · cases h; exact snd_bnil
      · split at h
        · rename_i a b h1 h2
          cases h
          exact snd_bcons (ihS X C _ a ok h1) (ihB X C _ b ok h2)
        · cases h

/-! ### a def keeps its promise -/
/-- the names' data at the entry -/
def startD (N : List Str) (ds : List D) : En := ds.map some ++ List.replicate (N.length - ds.length) none
theorem start_rel {K : PySem.W.Frag} {φ : List Addr} {H : Hp} {N : List Str} {vs : List V} {ds : List D} (r : RepL K φ H vs ds) : EnvRel K φ H (startD N ds) (L2.start N vs) := by
  have hl := r.length
  refine ⟨by simp [startD, L2.start, hl], fun i d h => ?_⟩
  unfold startD at h
  unfold L2.start
  by_cases hi : i < ds.length
  · rw [List.getElem?_append_left (by simpa using hi), List.getElem?_map] at h
    rw [List.getElem?_append_left (by simpa [hl] using hi), List.getElem?_map]
    cases e : ds[i]? with
    | none => rw [e] at h; cases h
    | some d' =>
      rw [e] at h
      cases h
      obtain ⟨v, e1, q⟩ := r.get e
      exact ⟨v, by rw [e1]; rfl, q⟩
  · rw [List.getElem?_append_right (by simp; omega)] at h
    rw [List.getElem?_replicate] at h
    split at h <;> cases h

/-- what holds of the module, whatever def runs -/
structure Top (P : Program) (w : World) (K : PySem.W.Frag) (mg : Str → Option Value) (base : Heap) (k : Nat) (fs : List FSp) (C : Ctx) : Prop where
  con : ∀ x d, C.con.lookup x = some d → ∃ v u, mg x = some u ∧ RelV v u ∧ ∀ φ H, Rep K φ H v d
  fns : ∀ (i : Nat) (x : Str), C.fn[i]? = some x → ∃ sp, fs[i]? = some sp ∧ ∃ (f : Addr) (fd : FuncData) (ps : List Str), FnOk P w K mg base CX0 k f fd ps (spD K sp) ∧ mg x = some (.ref f) ∧ PySem.W.keepIn K (.ref f) = true ∧ Binds K fd ps []
  bns : ∀ x, C.bn.contains x = true → mg x = none
  dcn : ∀ n kds, C.dcn.lookup n = some kds → ∃ a, mg n = some (.ref a) ∧ ∀ y d, kds.lookup y = some d → ∃ v, KDct K w a y v ∧ ∀ φ H, Rep K φ H v d
/-- no lambda is made -/
theorem lam_none {fs : List FSp} {X : Cx} : LamOk fs [] X := fun x es i as scope pn p aa h => by
  unfold lamOf at h
  split at h
  · split at h
    · split at h <;> cases h
    · cases h
  · cases h
/-- the ends of a def's body -/
def defEnds (Q : KQ) : DEnds := { nx := fun _ S => Q .non S, rt := Q, bk := fun _ _ => False, ct := fun _ _ => False }
theorem fn_okL {P : Program} {w : World} {K : PySem.W.Frag} {mg : Str → Option Value} {base : Heap} {k n : Nat} {fs : List FSp} {x qual : Str} {st : Stmt} {f : Addr} {oc kV doc pm cdv ct : Value} {od an : Option Addr} {osl : Array (Option Value)} {ps : List Str} {C : Ctx} {ir : IB} {sp : FSp}
    (lk : K.lookup f = some ⟨oc, od, .func (PySem.W.fnOf x qual (defArgs st) (defBody st) (defScope st) .none kV doc pm an cdv ct), osl⟩) (hcd : PySem.W.codeIn K cdv qual = true)
    (S : FnScope C.N ps (defScope st)) (hsc : C.sc = defScope st) (hbl : C.blk = none) (hc : compB n C (defBody st) = some ir) (T : Top P w K mg base k fs C)
    (mk : ∀ (A : Around) (outer : List Env) (s : Shared) (H : Hp) (E : XK), Room k (A.deeper (envOfC qual (defScope st) s.heap.objs.size f cdv)) →
      (∀ i, C.srt = some i → SrtOk fs (cxOf CX0 P w K mg base C.N qual (defScope st) f cdv A outer s H E).nox i) ∧ ∀ X', Like (cxOf CX0 P w K mg base C.N qual (defScope st) f cdv A outer s H E).nox X' → LamOk fs C.lam X')
    (hlen : ∀ ds St Q, sp ds St Q → ds.length = ps.length) (hsp : ∀ ds St Q, sp ds St Q → wB fs ir (defEnds Q) (startD C.N ds) St) :
    FnOk P w K mg base CX0 (k + 1) f (PySem.W.fnOf x qual (defArgs st) (defBody st) (defScope st) .none kV doc pm an cdv ct) ps (spD K sp) := by
  refine fn_of lk hcd S (fun vs H Q E h => ?_) (fun A outer s H vs Q E hr h => ?_)
  · obtain ⟨ds, St, φ, QD, r, _, q, _⟩ := h
    rw [r.length]; exact hlen _ _ _ q
  · obtain ⟨ds, St, φ, QD, r, hs, q, hp⟩ := h
    have mk := mk A outer s H E hr
    have ok : CxOk fs (cxOf CX0 P w K mg base C.N qual (defScope st) f cdv A outer s H E).nox C :=
      { hN := rfl
        nd := S.nd
        sc := hsc.symm
        calm := rfl
        fnc := fun _ _ => rfl
        un := by
          have := hr.un
          show (A.deeper _).units + 66 < cLine
          omega
        con := T.con
        fns := fun i x hx => by
          obtain ⟨sp', h1, f', fd', ps', h2, h3, h4, h5⟩ := T.fns i x hx
          exact ⟨sp', h1, ⟨f', fd', ps', k, h2, hr, h3, h4, h5⟩⟩
        bns := T.bns
        xe := rfl
        dcn := T.dcn
        srt := fun i h _ => mk.1 i h
        lam := mk.2 }
    refine ⟨sB fs K ir, ((snd_sb fs n).2 _ C _ ir ok hc).nox, ?_⟩
    refine ⟨startD C.N ds, St, φ, defEnds QD, start_rel r, hs, hsp _ _ _ q, ?_⟩
    exact ⟨fun ρ' S' σ' H' φ' l t e s' q' => hp _ _ _ _ φ' l t s' .non q', hp, fun _ _ _ _ _ _ _ _ _ q' => q'.elim, fun _ _ _ _ _ _ _ _ _ q' => q'.elim⟩
theorem fn_ok {P : Program} {w : World} {K : PySem.W.Frag} {mg : Str → Option Value} {base : Heap} {k n : Nat} {fs : List FSp} {x qual : Str} {st : Stmt} {f : Addr} {oc kV doc pm cdv ct : Value} {od an : Option Addr} {osl : Array (Option Value)} {ps : List Str} {C : Ctx} {ir : IB} {sp : FSp}
    (lk : K.lookup f = some ⟨oc, od, .func (PySem.W.fnOf x qual (defArgs st) (defBody st) (defScope st) .none kV doc pm an cdv ct), osl⟩) (hcd : PySem.W.codeIn K cdv qual = true)
    (S : FnScope C.N ps (defScope st)) (hsc : C.sc = defScope st) (hbl : C.blk = none) (hsrt : C.srt = none) (hlam : C.lam = []) (hc : compB n C (defBody st) = some ir) (T : Top P w K mg base k fs C)
    (hlen : ∀ ds St Q, sp ds St Q → ds.length = ps.length) (hsp : ∀ ds St Q, sp ds St Q → wB fs ir (defEnds Q) (startD C.N ds) St) :
    FnOk P w K mg base CX0 (k + 1) f (PySem.W.fnOf x qual (defArgs st) (defBody st) (defScope st) .none kV doc pm an cdv ct) ps (spD K sp) :=
  fn_okL lk hcd S hsc hbl hc T (fun _ _ _ _ _ _ => ⟨fun i h => (by rw [hsrt] at h; cases h), fun X' _ => (by rw [hlam]; exact lam_none)⟩) hlen hsp
end DW

set_option Elab.async false
set_option linter.all false
set_option maxRecDepth 100000
set_option maxHeartbeats 2000000
/-! working with data: stores that grow, values that can be compared, comprehensions -/
namespace DW
open PySem PySem.Spec PyProof.Rows L2

/-- all that stood in the store stands as before -/
def Ext (S S' : Sto) : Prop := ∀ (n : Nat) (o : Ob), S[n]? = some o → S'[n]? = some o
theorem Ext.refl (S : Sto) : Ext S S := fun _ _ h => h
theorem Ext.trans {S S1 S2 : Sto} (a : Ext S S1) (b : Ext S1 S2) : Ext S S2 := fun n o h => b n o (a n o h)
theorem Ext.app (S T : Sto) : Ext S (S ++ T) := fun n o h => by
  have hl := (List.getElem?_eq_some_iff.mp h).1
  rw [List.getElem?_append_left hl]; exact h
theorem Ext.len {S S' : Sto} (a : Ext S S') : S.length ≤ S'.length := by
  by_cases h : S.length = 0
  · omega
  · have e : S[S.length - 1]? = some (S[S.length - 1]'(by omega)) := List.getElem?_eq_getElem _
    have := (List.getElem?_eq_some_iff.mp (a _ _ e)).1
    omega
theorem Ext.set {S S' : Sto} (a : Ext S S') {n : Nat} (h : S.length ≤ n) (o : Ob) : Ext S (S'.set n o) := fun m u e => by
  have hl := (List.getElem?_eq_some_iff.mp e).1
  rw [List.getElem?_set_ne (by omega)]
  exact a m u e
/-- all but one object stand as before -/
def ExtB (k : Nat) (S S' : Sto) : Prop := S.length ≤ S'.length ∧ ∀ (n : Nat) (o : Ob), n ≠ k → S[n]? = some o → S'[n]? = some o
theorem Ext.b {S S' : Sto} (a : Ext S S') (k : Nat) : ExtB k S S' := ⟨a.len, fun n o _ h => a n o h⟩
theorem ExtB.refl (k : Nat) (S : Sto) : ExtB k S S := (Ext.refl S).b k
theorem ExtB.trans {k : Nat} {S S1 S2 : Sto} (a : ExtB k S S1) (b : ExtB k S1 S2) : ExtB k S S2 := ⟨Nat.le_trans a.1 b.1, fun n o e h => b.2 n o e (a.2 n o e h)⟩
theorem ExtB.set (k : Nat) (S : Sto) (o : Ob) : ExtB k S (S.set k o) := ⟨by simp, fun n u e h => by rw [List.getElem?_set_ne (Ne.symm e)]; exact h⟩
theorem ExtB.app (k : Nat) (S T : Sto) : ExtB k S (S ++ T) := (Ext.app S T).b k
theorem ExtB.set' {k : Nat} {S S' : Sto} (a : ExtB k S S') {n : Nat} (h : S.length ≤ n) (o : Ob) : ExtB k S (S'.set n o) := ⟨by simp; exact a.1, fun m u e hm => by
  have hl := (List.getElem?_eq_some_iff.mp hm).1
  rw [List.getElem?_set_ne (by omega)]
  exact a.2 m u e hm⟩
theorem sto_last (S : Sto) (o : Ob) : (S ++ [o])[S.length]? = some o := by simp
theorem sto_at0 (S T : Sto) : (S ++ T)[S.length]? = T[0]? := by rw [List.getElem?_append_right (Nat.le_refl _), Nat.sub_self]
theorem sto_at (S T : Sto) (i : Nat) : (S ++ T)[S.length + i]? = T[i]? := by rw [List.getElem?_append_right (by omega), Nat.add_sub_cancel_left]
theorem sto_set {S : Sto} {n : Nat} {o u : Ob} (h : S[n]? = some o) : (S.set n u)[n]? = some u := List.getElem?_set_self (List.getElem?_eq_some_iff.mp h).1

/-! ### values that can be compared -/
/-- at most k deep, tuples and lists at most L long -/
def okd (L : Nat) : Nat → Sto → D → Bool
  | 0, _, _ => false
  | k + 1, S, d => match d with
    | .non => true
    | .bl _ => true
    | .int _ => true
    | .str z => PyData.strOk z
    | .tup ds => decide (ds.length ≤ L) && ds.all (okd L k S)
    | .ktup _ => false
    | .rol _ => false
    | .ref n => match S[n]? with
      | some (.lst ds) => decide (ds.length ≤ L) && ds.all (okd L k S)
      | _ => false
    | .ty _ => false
theorem all_mono {p q : D → Bool} {ds : List D} (h : ∀ d ∈ ds, p d = true → q d = true) (a : ds.all p = true) : ds.all q = true := by
  rw [List.all_eq_true] at a ⊢
  exact fun d hd => h d hd (a d hd)
theorem okd_ext {L : Nat} {S S' : Sto} (e : Ext S S') : ∀ {k : Nat} {d : D}, okd L k S d = true → okd L k S' d = true
  | 0, _, h => by cases h
  | k + 1, d, h => by
    cases d with
    | tup ds =>
      simp only [okd, Bool.and_eq_true] at h ⊢
      exact ⟨h.1, all_mono (fun d _ q => okd_ext e q) h.2⟩
    | ktup _ => cases h
    | ref n =>
      simp only [okd] at h ⊢
      cases e1 : S[n]? with
      | none => rw [e1] at h; cases h
      | some o =>
        cases o with
        | lst ds =>
          rw [e1] at h
          rw [e n _ e1]
          simp only [Bool.and_eq_true] at h ⊢
          exact ⟨h.1, all_mono (fun d _ q => okd_ext e q) h.2⟩
        | dct _ => rw [e1] at h; cases h
    | rol _ => cases h
    | ty _ => cases h
    | str z => exact h
    | _ => rfl
theorem okd_mono {L L' : Nat} (hL : L ≤ L') {S : Sto} : ∀ {k k' : Nat} {d : D}, k ≤ k' → okd L k S d = true → okd L' k' S d = true
  | 0, _, _, _, h => by cases h
  | k + 1, 0, _, hk, h => by omega
  | k + 1, k' + 1, d, hk, h => by
    cases d with
    | tup ds =>
      simp only [okd, Bool.and_eq_true, decide_eq_true_eq] at h ⊢
      exact ⟨by omega, all_mono (fun d _ q => okd_mono hL (by omega) q) h.2⟩
    | ktup _ => cases h
    | ref n =>
      simp only [okd] at h ⊢
      cases e1 : S[n]? with
      | none => rw [e1] at h; cases h
      | some o =>
        cases o with
        | lst ds =>
          rw [e1] at h
          simp only [Bool.and_eq_true, decide_eq_true_eq] at h ⊢
          exact ⟨by omega, all_mono (fun d _ q => okd_mono hL (by omega) q) h.2⟩
        | dct _ => rw [e1] at h; cases h
    | rol _ => cases h
    | ty _ => cases h
    | str z => exact h
    | _ => rfl
/-- what Python's data stand for such a value -/
theorem mapM_some {α β : Type} {f : α → Option β} {R : β → Prop} : ∀ {xs : List α}, (∀ x ∈ xs, ∃ y, f x = some y ∧ R y) → ∃ ys, xs.mapM f = some ys ∧ (∀ y ∈ ys, R y) ∧ ys.length = xs.length
  | [], _ => ⟨[], rfl, fun _ h => (by cases h), rfl⟩
  | x :: xs, h => by
    obtain ⟨y, e, r⟩ := h x List.mem_cons_self
    obtain ⟨ys, es, rs, hl⟩ := mapM_some (xs := xs) fun z hz => h z (List.mem_cons_of_mem _ hz)
    refine ⟨y :: ys, by rw [List.mapM_cons, e, es]; rfl, fun z hz => ?_, by rw [List.length_cons, List.length_cons, hl]⟩
    rcases List.mem_cons.mp hz with rfl | hz
    · exact r
    · exact rs z hz
theorem lay_all : ∀ {ps : List PyData}, (∀ p ∈ ps, p.canLay0 = true) → PyData.canLayAll0 ps = true
  | [], _ => by simp [PyData.canLayAll0]
  | p :: ps, h => by
    simp only [PyData.canLayAll0, Bool.and_eq_true]
    exact ⟨h p List.mem_cons_self, lay_all fun q hq => h q (List.mem_cons_of_mem _ hq)⟩
theorem depth_all {k : Nat} : ∀ {ps : List PyData}, (∀ p ∈ ps, p.depth ≤ k) → PyData.depthAll ps ≤ k
  | [], _ => by simp [PyData.depthAll]
  | p :: ps, h => by
    simp only [PyData.depthAll]
    have h1 := h p List.mem_cons_self
    have h2 := depth_all (ps := ps) fun q hq => h q (List.mem_cons_of_mem _ hq)
    omega
theorem py_of {L : Nat} {S : Sto} : ∀ {k j : Nat} {d : D}, k ≤ j → okd L k S d = true → ∃ p, toPy j S d = some p ∧ p.canLay0 = true ∧ p.depth ≤ k
  | 0, _, _, _, h => by cases h
  | k + 1, 0, _, hk, h => by omega
  | k + 1, j + 1, d, hk, h => by
    have seq : ∀ ds : List D, ds.all (okd L k S) = true → ∃ ps, ds.mapM (toPy j S) = some ps ∧ PyData.canLayAll0 ps = true ∧ PyData.depthAll ps ≤ k := fun ds hd => by
      rw [List.all_eq_true] at hd
      obtain ⟨ps, e, r, _⟩ := mapM_some (f := toPy j S) (R := fun p => p.canLay0 = true ∧ p.depth ≤ k) (xs := ds) fun x hx => by
        obtain ⟨p, e, q⟩ := py_of (j := j) (by omega) (hd x hx)
        exact ⟨p, e, q⟩
      exact ⟨ps, e, lay_all fun p hp => (r p hp).1, depth_all fun p hp => (r p hp).2⟩
    cases d with
    | non => exact ⟨_, rfl, by simp [PyData.canLay0], by simp [PyData.depth]⟩
    | bl b => exact ⟨_, rfl, by simp [PyData.canLay0], by simp [PyData.depth]⟩
    | int i => exact ⟨_, rfl, by simp [PyData.canLay0], by simp [PyData.depth]⟩
    | str z => exact ⟨_, rfl, by simpa [PyData.canLay0, okd] using h, by simp [PyData.depth]⟩
    | tup ds =>
      simp only [okd, Bool.and_eq_true] at h
      obtain ⟨ps, e, h1, h2⟩ := seq ds h.2
      exact ⟨.tuple ps, by simp only [toPy, e]; rfl, by simp only [PyData.canLay0]; exact h1, by simp only [PyData.depth]; omega⟩
    | ktup _ => cases h
    | ref n =>
      simp only [okd] at h
      cases e1 : S[n]? with
      | none => rw [e1] at h; cases h
      | some o =>
        cases o with
        | lst ds =>
          rw [e1] at h
          simp only [Bool.and_eq_true] at h
          obtain ⟨ps, e, h1, h2⟩ := seq ds h.2
          exact ⟨.list ps, by simp only [toPy, e1, e]; rfl, by simp only [PyData.canLay0]; exact h1, by simp only [PyData.depth]; omega⟩
        | dct _ => rw [e1] at h; cases h
    | rol _ => cases h
    | ty _ => cases h
theorem py_shaped {L : Nat} {S : Sto} {k : Nat} {d : D} (hk : k ≤ 62) (h : okd L k S d = true) : ∃ p, toPy 66 S d = some p ∧ SeqAt.shaped p = true := by
  obtain ⟨p, e, h1, h2⟩ := py_of (j := 66) (by omega) h
  refine ⟨p, e, ?_⟩
  show (p.canLay0 && decide (p.depth ≤ 64)) = true
  rw [h1, Bool.true_and]
  exact decide_eq_true (by omega)

/-! ### a value against a written one -/
mutual
/-- whether a value equals a written one (which holds no lists) -/
def eqc : D → D → Bool
  | d, .non => match d with
    | .non => true
    | _ => false
  | d, .bl b => match d with
    | .bl c => c == b
    | .int i => i == (if b then 1 else 0)
    | _ => false
  | d, .int i => match d with
    | .bl c => (if c then 1 else 0) == i
    | .int j => j == i
    | _ => false
  | d, .str x => match d with
    | .str y => y == x
    | _ => false
  | d, .tup cs => match d with
    | .tup ds => eqcs ds cs
    | .ktup ds => eqcs ds cs
    | _ => false
  | _, _ => false
def eqcs : List D → List D → Bool
  | [], [] => true
  | d :: ds, c :: cs => eqc d c && eqcs ds cs
  | [], _ :: _ => false
  | _ :: _, [] => false
end
mutual
/-- a written value: no lists -/
def wr : D → Bool
  | .non => true
  | .bl _ => true
  | .int _ => true
  | .str _ => true
  | .tup cs => wrs cs
  | _ => false
def wrs : List D → Bool
  | [] => true
  | c :: cs => wr c && wrs cs
end
mutual
/-- the data of a written value -/
def pyc : D → PyData
  | .non => .none
  | .bl b => .bool b
  | .int i => .int i
  | .str x => .str x
  | .tup cs => .tuple (pycs cs)
  | _ => .none
def pycs : List D → List PyData
  | [] => []
  | c :: cs => pyc c :: pycs cs
end
theorem eqvs_of {S : Sto} {k : Nat} (ih : ∀ (c : D), wr c = true → ∀ (d : D) (p : PyData), toPy k S d = some p → PyData.eqv p (pyc c) = eqc d c ∧ PyData.eqv (pyc c) p = eqc d c) :
    ∀ (cs : List D), wrs cs = true → ∀ (ds : List D) (ps : List PyData), ds.mapM (toPy k S) = some ps → PyData.eqvAll ps (pycs cs) = eqcs ds cs ∧ PyData.eqvAll (pycs cs) ps = eqcs ds cs
  | [], _, [], ps, h => by cases h; simp [pycs, eqcs, PyData.eqvAll]
  | [], _, d :: ds, ps, h => by
    obtain ⟨y, ys, rfl, _, _⟩ := mapM_cons' h
    simp [pycs, eqcs, PyData.eqvAll]
  | c :: cs, _, [], ps, h => by cases h; simp [pycs, eqcs, PyData.eqvAll]
  | c :: cs, hc, d :: ds, ps, h => by
    simp only [wrs, Bool.and_eq_true] at hc
    obtain ⟨y, ys, rfl, h1, h2⟩ := mapM_cons' h
    have q1 := ih c hc.1 d y h1
    have q2 := eqvs_of ih cs hc.2 ds ys h2
    simp only [pycs, eqcs, PyData.eqvAll]
    rw [q1.1, q1.2, q2.1, q2.2]
    exact ⟨rfl, rfl⟩
/-- what kind of data a value stands for -/
theorem py_kind {S : Sto} {k : Nat} {d : D} {p : PyData} (h : toPy (k + 1) S d = some p) : (d = .non ∧ p = .none) ∨ (∃ b, d = .bl b ∧ p = .bool b) ∨ (∃ i, d = .int i ∧ p = .int i) ∨ (∃ x, d = .str x ∧ p = .str x) ∨
    (∃ ds ps, (d = .tup ds ∨ d = .ktup ds) ∧ p = .tuple ps ∧ ds.mapM (toPy k S) = some ps) ∨ (∃ ps, p = .list ps ∧ ((∃ n, d = .ref n) ∨ ∃ ds, d = .rol ds)) := by
  have lists : ∀ (ds : List D) (f : List PyData → PyData), (ds.mapM (toPy k S)).map f = some p → ∃ ps, ds.mapM (toPy k S) = some ps ∧ p = f ps := fun ds f q => by
    cases e : ds.mapM (toPy k S) with
    | none => rw [e] at q; cases q
    | some ps => rw [e] at q; cases q; exact ⟨ps, rfl, rfl⟩
  cases d with
  | non => cases h; exact .inl ⟨rfl, rfl⟩
  | bl b => cases h; exact .inr (.inl ⟨b, rfl, rfl⟩)
  | int i => cases h; exact .inr (.inr (.inl ⟨i, rfl, rfl⟩))
  | str x => cases h; exact .inr (.inr (.inr (.inl ⟨x, rfl, rfl⟩)))
  | tup ds =>
    simp only [toPy] at h
    obtain ⟨ps, e, rfl⟩ := lists ds .tuple h
    exact .inr (.inr (.inr (.inr (.inl ⟨ds, ps, .inl rfl, rfl, e⟩))))
  | ktup ds =>
    simp only [toPy] at h
    obtain ⟨ps, e, rfl⟩ := lists ds .tuple h
    exact .inr (.inr (.inr (.inr (.inl ⟨ds, ps, .inr rfl, rfl, e⟩))))
  | rol ds =>
    simp only [toPy] at h
    obtain ⟨ps, e, rfl⟩ := lists ds .list h
    exact .inr (.inr (.inr (.inr (.inr ⟨ps, rfl, .inr ⟨ds, rfl⟩⟩))))
  | ref n =>
    simp only [toPy] at h
    cases e1 : S[n]? with
    | none => rw [e1] at h; cases h
    | some o =>
      cases o with
      | lst ds =>
        rw [e1] at h
        obtain ⟨ps, e, rfl⟩ := lists ds .list h
        exact .inr (.inr (.inr (.inr (.inr ⟨ps, rfl, .inl ⟨n, rfl⟩⟩))))
      | dct _ => rw [e1] at h; cases h
  | ty n => cases h
theorem beq_sym {α : Type} [BEq α] [LawfulBEq α] (a b : α) : (a == b) = (b == a) := by
  rw [Bool.eq_iff_iff]
  simp only [beq_iff_eq]
  exact ⟨Eq.symm, Eq.symm⟩
theorem eqv_pyc {S : Sto} : ∀ (k : Nat) (c : D), wr c = true → ∀ (d : D) (p : PyData), toPy k S d = some p → PyData.eqv p (pyc c) = eqc d c ∧ PyData.eqv (pyc c) p = eqc d c
  | 0, c, _, d, p, h => by cases h
  | k + 1, c, hc, d, p, h => by
    have ih := eqv_pyc (S := S) k
    cases c with
    | ref n => cases hc
    | rol n => cases hc
    | ty n => cases hc
    | tup cs =>
      have hcs : wrs cs = true := by simpa [wr] using hc
      rcases py_kind h with ⟨rfl, rfl⟩ | ⟨b, rfl, rfl⟩ | ⟨i, rfl, rfl⟩ | ⟨x, rfl, rfl⟩ | ⟨ds, ps, rfl | rfl, rfl, e⟩ | ⟨ps, rfl, ⟨n, rfl⟩ | ⟨ds, rfl⟩⟩ <;> first
        | (simp [pyc, eqc, PyData.eqv]; done)
        | (simp only [pyc, eqc, PyData.eqv]; exact eqvs_of ih cs hcs ds ps e)
    | ktup cs => cases hc
    | non => rcases py_kind h with ⟨rfl, rfl⟩ | ⟨b, rfl, rfl⟩ | ⟨i, rfl, rfl⟩ | ⟨x, rfl, rfl⟩ | ⟨ds, ps, rfl | rfl, rfl, e⟩ | ⟨ps, rfl, ⟨n, rfl⟩ | ⟨ds, rfl⟩⟩ <;> simp [pyc, eqc, PyData.eqv]
    | bl b => rcases py_kind h with ⟨rfl, rfl⟩ | ⟨b, rfl, rfl⟩ | ⟨i, rfl, rfl⟩ | ⟨x, rfl, rfl⟩ | ⟨ds, ps, rfl | rfl, rfl, e⟩ | ⟨ps, rfl, ⟨n, rfl⟩ | ⟨ds, rfl⟩⟩ <;> simp only [pyc, eqc, PyData.eqv] <;> first | exact ⟨trivial, trivial⟩ | exact ⟨rfl, beq_sym _ _⟩ | exact ⟨trivial, beq_sym _ _⟩ | trivial
    | int b => rcases py_kind h with ⟨rfl, rfl⟩ | ⟨b, rfl, rfl⟩ | ⟨i, rfl, rfl⟩ | ⟨x, rfl, rfl⟩ | ⟨ds, ps, rfl | rfl, rfl, e⟩ | ⟨ps, rfl, ⟨n, rfl⟩ | ⟨ds, rfl⟩⟩ <;> simp only [pyc, eqc, PyData.eqv] <;> first | exact ⟨trivial, trivial⟩ | exact ⟨rfl, beq_sym _ _⟩ | exact ⟨trivial, beq_sym _ _⟩ | trivial
    | str b => rcases py_kind h with ⟨rfl, rfl⟩ | ⟨b, rfl, rfl⟩ | ⟨i, rfl, rfl⟩ | ⟨x, rfl, rfl⟩ | ⟨ds, ps, rfl | rfl, rfl, e⟩ | ⟨ps, rfl, ⟨n, rfl⟩ | ⟨ds, rfl⟩⟩ <;> simp only [pyc, eqc, PyData.eqv] <;> first | exact ⟨trivial, trivial⟩ | exact ⟨rfl, beq_sym _ _⟩ | exact ⟨trivial, beq_sym _ _⟩ | trivial
theorem eqvs_any {S : Sto} {k : Nat} {d : D} {p : PyData} (h : toPy k S d = some p) : ∀ {cs : List D}, wrs cs = true → ((pycs cs).any fun z => PyData.eqv z p) = cs.any fun c => eqc d c
  | [], _ => rfl
  | c :: cs, hc => by
    simp only [wrs, Bool.and_eq_true] at hc
    simp only [pycs, List.any_cons]
    rw [(eqv_pyc k c hc.1 d p h).2, eqvs_any h hc.2]
theorem toPys_of {S : Sto} {k : Nat} (ih : ∀ (c : D), wr c = true → (∃ S0, okd 1000 k S0 c = true) → toPy k S c = some (pyc c)) : ∀ (cs : List D), wrs cs = true → (∀ d ∈ cs, ∃ S0, okd 1000 k S0 d = true) → cs.mapM (toPy k S) = some (pycs cs)
  | [], _, _ => rfl
  | c :: cs, hw, h => by
    simp only [wrs, Bool.and_eq_true] at hw
    rw [List.mapM_cons, ih c hw.1 (h c List.mem_cons_self), toPys_of ih cs hw.2 fun d hd => h d (List.mem_cons_of_mem _ hd)]
    rfl
theorem toPy_wr {S : Sto} : ∀ (k : Nat) (c : D), wr c = true → (∃ S0, okd 1000 k S0 c = true) → toPy k S c = some (pyc c)
  | 0, c, _, ⟨S0, h⟩ => by cases h
  | k + 1, c, hw, ⟨S0, h⟩ => by
    cases c with
    | tup cs =>
      simp only [okd, Bool.and_eq_true, List.all_eq_true] at h
      simp only [toPy, toPys_of (toPy_wr k) cs (by simpa [wr] using hw) fun d hd => ⟨S0, h.2 d hd⟩]
      rfl
    | ktup _ => cases h
    | non => rfl
    | bl b => rfl
    | int i => rfl
    | str x => rfl
    | ref n => cases hw
    | rol n => cases hw
    | ty n => cases hw
/-- a written value that is fit to be compared -/
def wk (c : D) : Bool := wr c && okd 1000 20 [] c
theorem wk_py {S : Sto} {c : D} (h : wk c = true) : toPy 66 S c = some (pyc c) ∧ SeqAt.shaped (pyc c) = true ∧ wr c = true := by
  unfold wk at h
  rw [Bool.and_eq_true] at h
  have h1 : okd 1000 66 [] c = true := okd_mono (Nat.le_refl _) (by omega) h.2
  have e1 := toPy_wr (S := S) 66 c h.1 ⟨[], h1⟩
  have e2 := toPy_wr (S := []) 66 c h.1 ⟨[], h1⟩
  obtain ⟨p, e3, s⟩ := py_shaped (by omega) h.2
  rw [e2] at e3
  cases e3
  exact ⟨e1, s, h.1⟩
/-- a value that is fit, at hand -/
def Fit (S : Sto) (d : D) : Prop := ∃ L k, k ≤ 62 ∧ okd L k S d = true
theorem Fit.py {S : Sto} {d : D} (h : Fit S d) : ∃ p, toPy 66 S d = some p ∧ SeqAt.shaped p = true := by
  obtain ⟨L, k, hk, h⟩ := h
  exact py_shaped hk h
theorem Fit.ext {S S' : Sto} {d : D} (e : Ext S S') (h : Fit S d) : Fit S' d := by
  obtain ⟨L, k, hk, h⟩ := h
  exact ⟨L, k, hk, okd_ext e h⟩
theorem dEq_c {S : Sto} {d c : D} {Q : KB} (h : Fit S d) (hc : wk c = true) (q : Q (eqc d c) S) : dEq d c S Q := by
  obtain ⟨p, e, s⟩ := h.py
  obtain ⟨e1, s1, hw⟩ := wk_py (S := S) hc
  exact ⟨p, pyc c, e, e1, s, s1, by rw [(eqv_pyc 66 c hw d p e).1]; exact q⟩
theorem dEq_c' {S : Sto} {d c : D} {Q : KB} (h : Fit S d) (hc : wk c = true) (q : Q (eqc d c) S) : dEq c d S Q := by
  obtain ⟨p, e, s⟩ := h.py
  obtain ⟨e1, s1, hw⟩ := wk_py (S := S) hc
  exact ⟨pyc c, p, e1, e, s1, s, by rw [(eqv_pyc 66 c hw d p e).2]; exact q⟩
theorem dIn_c {S : Sto} {d : D} {cs : List D} {Q : KB} (h : Fit S d) (hc : wk (.tup cs) = true) (q : Q (cs.any fun c => eqc d c) S) : dIn d (.tup cs) S Q := by
  obtain ⟨p, e, s⟩ := h.py
  obtain ⟨e1, s1, hw⟩ := wk_py (S := S) hc
  refine ⟨p, _, e, e1, s, s1, .inl ⟨pycs cs, rfl, ?_⟩⟩
  rw [eqvs_any e (by simpa [wr] using hw)]
  exact q
theorem toPy_tup (k : Nat) (S : Sto) (ds : List D) : toPy (k + 1) S (.tup ds) = (ds.mapM (toPy k S)).map .tuple := rfl
theorem toPy_ref (k : Nat) {S : Sto} {n : Nat} {ds : List D} (h : S[n]? = some (.lst ds)) : toPy (k + 1) S (.ref n) = (ds.mapM (toPy k S)).map .list := by
  simp only [toPy, h]
/-- .. in a list of written values -/
theorem dIn_l {S : Sto} {d : D} {n : Nat} {cs : List D} {Q : KB} (h : Fit S d) (hn : S[n]? = some (.lst cs)) (hc : wk (.tup cs) = true) (q : Q (cs.any fun c => eqc d c) S) : dIn d (.ref n) S Q := by
  obtain ⟨p, e, s⟩ := h.py
  obtain ⟨e1, s1, hw⟩ := wk_py (S := S) hc
  have hw' : wrs cs = true := by simpa [wr] using hw
  have e2 : toPy 66 S (.ref n) = some (.list (pycs cs)) := by
    have e1' := (toPy_tup 65 S cs).symm.trans e1
    rw [toPy_ref 65 hn]
    cases q1 : cs.mapM (toPy 65 S) with
    | none => rw [q1] at e1'; cases e1'
    | some ps =>
      rw [q1] at e1'
      have e3 : PyData.tuple ps = PyData.tuple (pycs cs) := Option.some.inj e1'
      injection e3 with e3
      rw [e3]
      rfl
  have s2 : SeqAt.shaped (.list (pycs cs)) = true := by
    simpa [SeqAt.shaped, PyData.canLay0, PyData.depth, pyc] using s1
  refine ⟨p, _, e, e2, s, s2, .inr ⟨pycs cs, rfl, ?_⟩⟩
  rw [eqvs_any e hw']
  exact q

theorem dEq_iff {S : Sto} {d c : D} {Q : KB} (h : Fit S d) (hc : wk c = true) : dEq d c S Q ↔ Q (eqc d c) S := by
  refine ⟨fun ⟨p, q, e1, e2, _, _, k⟩ => ?_, dEq_c h hc⟩
  obtain ⟨e3, _, hw⟩ := wk_py (S := S) hc
  rw [e3] at e2
  cases e2
  rw [← (eqv_pyc 66 c hw d p e1).1]
  exact k
theorem dEq_iff' {S : Sto} {d c : D} {Q : KB} (h : Fit S d) (hc : wk c = true) : dEq c d S Q ↔ Q (eqc d c) S := by
  refine ⟨fun ⟨p, q, e1, e2, _, _, k⟩ => ?_, dEq_c' h hc⟩
  obtain ⟨e3, _, hw⟩ := wk_py (S := S) hc
  rw [e3] at e1
  cases e1
  rw [← (eqv_pyc 66 c hw d q e2).2]
  exact k
theorem wk_pys {cs : List D} (h : wk (.tup cs) = true) : wrs cs = true := by
  unfold wk at h
  rw [Bool.and_eq_true] at h
  simpa [wr] using h.1
theorem dIn_iff {S : Sto} {d : D} {cs : List D} {Q : KB} (h : Fit S d) (hc : wk (.tup cs) = true) : dIn d (.tup cs) S Q ↔ Q (cs.any fun c => eqc d c) S := by
  refine ⟨fun ⟨p, q, e1, e2, _, _, k⟩ => ?_, dIn_c h hc⟩
  obtain ⟨e3, _, hw⟩ := wk_py (S := S) hc
  rw [e3] at e2
  cases e2
  rcases k with ⟨qs, e, k⟩ | ⟨qs, e, k⟩
  · injection e with e
    subst e
    rw [eqvs_any e1 (wk_pys hc)] at k
    exact k
  · cases e
/-- a written value is fit -/
theorem wk_fit {S : Sto} {c : D} (h : wk c = true) : Fit S c := by
  unfold wk at h
  rw [Bool.and_eq_true] at h
  exact ⟨1000, 20, by omega, okd_ext (fun n o e => by cases e) h.2⟩
/-- the parts of a fit tuple are fit -/
theorem Fit.parts {S : Sto} {ds : List D} (h : Fit S (.tup ds)) : ∀ d ∈ ds, Fit S d := fun d hd => by
  obtain ⟨L, k, hk, h⟩ := h
  cases k with
  | zero => cases h
  | succ k =>
    simp only [okd, Bool.and_eq_true, List.all_eq_true] at h
    exact ⟨L, k, by omega, h.2 d hd⟩
theorem Fit.sub {S : Sto} {n : Nat} {ds : List D} (h : Fit S (.ref n)) (e : S[n]? = some (.lst ds)) : ∀ d ∈ ds, Fit S d := fun d hd => by
  obtain ⟨L, k, hk, h⟩ := h
  cases k with
  | zero => cases h
  | succ k =>
    simp only [okd, e, Bool.and_eq_true, List.all_eq_true] at h
    exact ⟨L, k, by omega, h.2 d hd⟩

/-! ### single steps -/
section
variable {S : Sto} {Q : KQ} {B : KB}
theorem tru_non : dTru .non S B = B false S := rfl
theorem tru_bl {b : Bool} : dTru (.bl b) S B = B b S := rfl
theorem tru_int {i : Int} : dTru (.int i) S B = B (i != 0) S := rfl
theorem tru_tup {xs : List D} : dTru (.tup xs) S B = B (!xs.isEmpty) S := rfl
theorem op_addi {i j : Int} : dOp .Add (.int i) (.int j) S Q = Q (.int (i + j)) S := rfl
theorem op_subi {i j : Int} : dOp .Sub (.int i) (.int j) S Q = Q (.int (i - j)) S := rfl
theorem op_muli {i j : Int} : dOp .Mult (.int i) (.int j) S Q = (CMulD i j ∧ Q (.int (i * j)) S) := rfl
theorem op_divi {i j : Int} : dOp .FloorDiv (.int i) (.int j) S Q = (CDiv i j ∧ Q (.int (i / j)) S) := rfl
theorem op_modi {i j : Int} : dOp .Mod (.int i) (.int j) S Q = (0 < j ∧ Q (.int (i % j)) S) := rfl
theorem op_powi {i j : Int} : dOp .Pow (.int i) (.int j) S Q = (CPow i j ∧ Q (.int (i ^ j.toNat)) S) := rfl
theorem op_addt {xs ys : List D} : dOp .Add (.tup xs) (.tup ys) S Q = (xs.length + ys.length ≤ LIM ∧ Q (.tup (xs ++ ys)) S) := rfl
theorem op_addl {m n : Nat} {xs ys : List D} (h1 : S[m]? = some (.lst xs)) (h2 : S[n]? = some (.lst ys)) : dOp .Add (.ref m) (.ref n) S Q = (xs.length + ys.length ≤ LIM ∧ Q (.ref S.length) (S ++ [.lst (xs ++ ys)])) := by
  simp only [dOp, h1, h2]
theorem op_rept {xs : List D} {k : Int} : dOp .Mult (.tup xs) (.int k) S Q = ((xs ≠ [] ∧ 2 ≤ k ∧ k ≤ 1000 ∧ xs.length ≤ 1000) ∧ Q (.tup (List.replicate k.toNat xs).flatten) S) := rfl
theorem op_repl {m : Nat} {xs : List D} {k : Int} (h1 : S[m]? = some (.lst xs)) : dOp .Mult (.ref m) (.int k) S Q = ((-(2 ^ 63) ≤ k ∧ k < 2 ^ 63 ∧ xs.length * k.toNat ≤ LIM) ∧ Q (.ref S.length) (S ++ [.lst (List.replicate k.toNat xs).flatten])) := by
  simp only [dOp, h1]
theorem cmp_lt {i j : Int} : dCmp .Lt (.int i) (.int j) S B = B (decide (i < j)) S := rfl
theorem cmp_le {i j : Int} : dCmp .LtE (.int i) (.int j) S B = B (decide (i ≤ j)) S := rfl
theorem cmp_gt {i j : Int} : dCmp .Gt (.int i) (.int j) S B = B (decide (j < i)) S := rfl
theorem cmp_ge {i j : Int} : dCmp .GtE (.int i) (.int j) S B = B (decide (j ≤ i)) S := rfl
theorem cmp_eq {x y : D} : dCmp .Eq x y S B = dEq x y S B := rfl
theorem cmp_ne {x y : D} : dCmp .NotEq x y S B = dEq x y S fun b S' => B (!b) S' := rfl
theorem toPy_k (k : Nat) (ds : List D) : toPy (k + 1) S (.ktup ds) = toPy (k + 1) S (.tup ds) := rfl
theorem cmp_in {x y : D} : dCmp .In x y S B = dInA x y S B := rfl
theorem cmp_nin {x y : D} : dCmp .NotIn x y S B = dInA x y S fun b S' => B (!b) S' := rfl
theorem inA_tup {x : D} {cs : List D} : dInA x (.tup cs) S B = dIn x (.tup cs) S B := rfl
theorem inA_ktup {x : D} {cs : List D} : dInA x (.ktup cs) S B = dIn x (.tup cs) S B := by
  show dIn x (.ktup cs) S B = _
  unfold dIn
  rw [toPy_k]
theorem inA_ref {x : D} {n : Nat} {cs : List D} (h : S[n]? = some (.lst cs)) : dInA x (.ref n) S B = dIn x (.ref n) S B := by
  simp only [dInA, h]
theorem inA_dct {x : D} {n : Nat} {kvs : List (List L2.Key × D)} (h : S[n]? = some (.dct kvs)) : dInA x (.ref n) S B = ∃ k, keyOf x = some k ∧ B (valD kvs k).isSome S := by
  simp only [dInA, h]
theorem idx_dct {n : Nat} {ks : List D} {kvs : List (List L2.Key × D)} (h : S[n]? = some (.dct kvs)) : dIdx (.ref n) (.tup ks) S Q = ∃ k v, keyL ks = some k ∧ valD kvs k = some v ∧ Q v S := by
  simp only [dIdx, h]
theorem op_shl' {i j : Int} : dOp .LShift (.int i) (.int j) S Q = (CPow i j ∧ Q (.int (i * 2 ^ j.toNat)) S) := rfl
theorem op_shr' {i j : Int} : dOp .RShift (.int i) (.int j) S Q = (0 ≤ j ∧ Q (.int (i / 2 ^ j.toNat)) S) := rfl
theorem op_and' {i j : Int} : dOp .BitAnd (.int i) (.int j) S Q = Q (.int (Builtin.bitAnd i j)) S := rfl
theorem op_or' {i j : Int} : dOp .BitOr (.int i) (.int j) S Q = Q (.int (Builtin.bitOr i j)) S := rfl
theorem op_xor' {i j : Int} : dOp .BitXor (.int i) (.int j) S Q = Q (.int (Builtin.bitXor i j)) S := rfl
theorem is_bl {a b : Bool} : dCmp .Is (.bl a) (.bl b) S B = B (decide (a = b)) S := rfl
theorem isn_bl {a b : Bool} : dCmp .IsNot (.bl a) (.bl b) S B = B (!decide (a = b)) S := rfl
theorem iter_ktup {xs : List D} {k : KI} : dIter (.ktup xs) S k = k xs (fun _ => True) S := rfl
theorem isl_ref {n : Nat} {xs : List D} (h : S[n]? = some (.lst xs)) : isLst (.ref n) S = True := by
  simp only [isLst, h]
theorem len_tup {xs : List D} : dLen (.tup xs) S Q = Q (.int xs.length) S := rfl
theorem len_rol {xs : List D} : dLen (.rol xs) S Q = Q (.int xs.length) S := rfl
theorem len_ref {n : Nat} {xs : List D} (h : S[n]? = some (.lst xs)) : dLen (.ref n) S Q = Q (.int xs.length) S := by
  simp only [dLen, items, h]
theorem idx_tup {xs : List D} {k : Int} : dIdx (.tup xs) (.int k) S Q = ∃ v, atI xs k = some v ∧ Q v S := rfl
theorem idx_rol {xs : List D} {k : Int} : dIdx (.rol xs) (.int k) S Q = ∃ v, atI xs k = some v ∧ Q v S := rfl
theorem idx_ref {n : Nat} {xs : List D} {k : Int} (h : S[n]? = some (.lst xs)) : dIdx (.ref n) (.int k) S Q = ∃ v, atI xs k = some v ∧ Q v S := by
  simp only [dIdx, h]
theorem slc_tup {xs : List D} {lo hi : Option Int} : dSlc (.tup xs) lo hi S Q = Q (.tup (cutD xs lo hi)) S := rfl
theorem slc_ref {n : Nat} {xs : List D} {lo hi : Option Int} (h : S[n]? = some (.lst xs)) : dSlc (.ref n) lo hi S Q = Q (.ref S.length) (S ++ [.lst (cutD xs lo hi)]) := by
  simp only [dSlc, h]
theorem iter_tup {xs : List D} {k : KI} : dIter (.tup xs) S k = k xs (fun _ => True) S := rfl
theorem iter_rol {xs : List D} {k : KI} : dIter (.rol xs) S k = k xs (fun _ => True) S := rfl
theorem iter_ref {n : Nat} {xs : List D} {k : KI} (h : S[n]? = some (.lst xs)) : dIter (.ref n) S k = k xs (fun S' => S'[n]? = some (.lst xs)) S := by
  simp only [dIter, h]
theorem bools_map (bs : List Bool) : bools (bs.map D.bl) = some bs := by
  induction bs with
  | nil => rfl
  | cons b r ih => simp only [List.map_cons, bools, ih, Option.map_some]
theorem bools_ref {n : Nat} {bs : List Bool} {k : List Bool → Prop} (h : S[n]? = some (.lst (bs.map D.bl))) : dBools (.ref n) S k = k bs := by
  simp only [dBools, h, bools_map]
theorem eqc_int (i j : Int) : eqc (.int i) (.int j) = decide (i = j) := by
  rw [Bool.eq_iff_iff]; simp [eqc]
theorem app_ref {n : Nat} {xs : List D} {a : D} (h : S[n]? = some (.lst xs)) : dApp (.ref n) a S Q = (xs.length < LIM ∧ Q .non (S.set n (.lst (xs ++ [a])))) := by
  simp only [dApp, h]
theorem set_ref {n : Nat} {xs : List D} {a : D} {k : Int} {R : Sto → Prop} (h : S[n]? = some (.lst xs)) : dSet (.ref n) (.int k) a S R = ∃ j, ixN xs.length k = some j ∧ R (S.set n (.lst (xs.set j a))) := by
  simp only [dSet, h]
end

/-! ### comprehensions -/
theorem cLoop_gen {n : Nat} {chk : Sto → Prop} {turn : D → Sto → (D → Sto → Prop) → (Sto → Prop) → Prop} {k : Sto → Prop} (J : List D → List D → Sto → Prop)
    (hchk : ∀ r acc S, J r acc S → chk S)
    (hturn : ∀ d r acc S ky kn, J (d :: r) acc S → (∀ y S', S'[n]? = some (.lst acc) → acc.length < LIM → J r (acc ++ [y]) (S'.set n (.lst (acc ++ [y]))) → ky y S') → (∀ S', J r acc S' → kn S') → turn d S ky kn)
    (hk : ∀ acc S, J [] acc S → k S) : ∀ (r acc : List D) (S : Sto), J r acc S → cLoop n chk turn k r S
  | [], acc, S, h => ⟨hchk _ _ _ h, hk _ _ h⟩
  | d :: r, acc, S, h => by
    refine ⟨hchk _ _ _ h, hturn d r acc S _ _ h (fun y S' e1 e2 j => ⟨acc, e1, e2, ?_⟩) fun S' j => ?_⟩
    · exact cLoop_gen J hchk hturn hk r _ _ j
    · exact cLoop_gen J hchk hturn hk r _ _ j
/-- the elements are a function of the items; the store grows only -/
theorem cLoop_ext {S : Sto} {chk : Sto → Prop} {turn : D → Sto → (D → Sto → Prop) → (Sto → Prop) → Prop} {k : Sto → Prop} {items : List D} (f : D → Option D) (hl : items.length < LIM) (hchk : ∀ S', Ext S S' → chk S')
    (hturn : ∀ d ∈ items, ∀ S1 ky kn, Ext S S1 → (∀ S2, Ext S1 S2 → match f d with | some y => ky y S2 | none => kn S2) → turn d S1 ky kn)
    (hk : ∀ S', Ext S S' → S'[S.length]? = some (.lst (items.filterMap f)) → k S') : cLoop S.length chk turn k items (S ++ [.lst []]) := by
  refine cLoop_gen (J := fun r acc S' => ∃ done, items = done ++ r ∧ acc = done.filterMap f ∧ Ext S S' ∧ S'[S.length]? = some (.lst acc)) ?_ ?_ ?_ items [] _ ⟨[], rfl, rfl, Ext.app S _, sto_last S _⟩
  · rintro r acc S' ⟨done, _, _, e, _⟩
    exact hchk S' e
  · rintro d r acc S1 ky kn ⟨done, e1, e2, e3, e4⟩ h1 h2
    refine hturn d (by rw [e1]; simp) S1 ky kn e3 fun S2 e5 => ?_
    have hlen : acc.length < LIM := by
      have q1 : acc.length ≤ done.length := by rw [e2]; exact List.length_filterMap_le f done
      have q2 : done.length ≤ items.length := by rw [e1]; simp
      omega
    cases q : f d with
    | some y =>
      simp only [q]
      refine h1 y S2 (e5 _ _ e4) hlen ⟨done ++ [d], by rw [e1]; simp, by rw [List.filterMap_append, e2]; simp [q], (e3.trans e5).set (Nat.le_refl _) _, sto_set (e5 _ _ e4)⟩
    | none =>
      simp only [q]
      exact h2 S2 ⟨done ++ [d], by rw [e1]; simp, by rw [List.filterMap_append, e2]; simp [q], e3.trans e5, e5 _ _ e4⟩
  · rintro acc S' ⟨done, e1, e2, e3, e4⟩
    rw [List.append_nil] at e1
    subst e1
    subst e2
    exact hk S' e3 e4
end DW

set_option Elab.async false
set_option linter.all false
set_option maxRecDepth 100000
set_option maxHeartbeats 4000000
namespace K03
open PySem PySem.Spec PyProof.Rows L2 DW
def top (i : Nat) : Stmt := PySem.Challenge.pw_noticeways_k03_whole_formulas_in_houses.main.body.getD i (.Pass ⟨0, 0, 0, 0⟩)
def c_MOST_PEOPLE : D := D.int 1000000000000000000000000000000
def c_MOST_DEPTH : D := D.int 10
def c_MOST_TOLD : D := D.int 3
def c_SORTS : D := D.int 4
def c_MARKS : D := D.ktup [(D.ktup [(D.str "a"), (D.str "b")]), (D.ktup [(D.str "b"), (D.str "a")])]
def c_COUNTED : D := D.ktup [(D.str "a"), (D.str "b"), (D.str "both")]
def c_PAIR_WORDS : D := D.ktup [(D.str "and"), (D.str "or"), (D.str "if"), (D.str "other")]
def c_MOST_TOLD_APART : D := D.int 4
def c_SORT_WITH_BOTH : D := D.int 3
def dc_SORT_WITH_ALONE : List (Str × D) := [("a", D.int 1), ("b", D.int 2)]
def dc_SORTS_WITH : List (Str × D) := [("a", D.ktup [(D.int 1), (D.int 3)]), ("b", D.ktup [(D.int 2), (D.int 3)]), ("both", D.ktup [(D.int 3)])]
abbrev DCN : List (Str × List (Str × D)) := [("SORT_WITH_ALONE", dc_SORT_WITH_ALONE), ("SORTS_WITH", dc_SORTS_WITH)]
abbrev LAM : List ((Str × Str) × Nat) := [(("_law_word", "holds"), 34), (("_law_word", "how"), 35), (("_law_word", "first_house"), 36)]
abbrev CON : List (Str × D) := [("MOST_PEOPLE", c_MOST_PEOPLE), ("MOST_DEPTH", c_MOST_DEPTH), ("MOST_TOLD", c_MOST_TOLD), ("SORTS", c_SORTS), ("MARKS", c_MARKS), ("COUNTED", c_COUNTED), ("PAIR_WORDS", c_PAIR_WORDS), ("MOST_TOLD_APART", c_MOST_TOLD_APART), ("SORT_WITH_BOTH", c_SORT_WITH_BOTH)]
abbrev FN : List Str := [("is_house" : Str), ("is_formula" : Str), ("is_number" : Str), ("_is_triple" : Str), ("_is_nested" : Str), ("check_formula" : Str), ("check_house" : Str), ("check_truth" : Str), ("small_houses" : Str), ("meanings" : Str), ("everywhere" : Str), ("holds_at" : Str), ("houses_of" : Str), ("first_of_all" : Str), ("_meaning" : Str), ("_simple_meanings" : Str), ("_simple_parts" : Str), ("_holds_simply" : Str), ("holds" : Str), ("how" : Str), ("first_house" : Str), ("_law_source" : Str), ("_law_draw" : Str), ("_law_choice" : Str), ("_law_holds" : Str), ("_law_houses" : Str), ("_law_truths" : Str), ("_law_formula" : Str), ("_law_first" : Str), ("_law_right" : Str), ("_law_word" : Str), ("_law_written_right" : Str), ("law" : Str)]
abbrev BN : List Str := ["sum", "sorted", "enumerate", "zip", "len", "isinstance", "all", "abs", "int", "min", "list", "tuple", "bool", "range"]
/-! is_house: 0 value, 1 many -/
abbrev s_is_house : Stmt := top 13
abbrev C_is_house : DW.Ctx := { N := ["value", "many"], sc := defScope s_is_house, blk := none, con := CON, fn := FN, bn := BN, dcn := DCN, srt := none, lam := [] }
def ir_is_house_l0 : IE := .lcp [1] (.name 1) (.val (.var 0)) .none (.fn 2 (.cons (.var 1) (.cons (.cst (D.int 0)) (.cons (.cst c_MOST_PEOPLE) .nil))))
def ir_is_house : IB := .cons (.ifs (.or (.not (.val (.blt .isinst (.cons (.var 0) (.cons (.cst (D.ty "tuple")) .nil))))) (.cmp .NotEq (.blt .len (.cons (.var 0) .nil)) (.cst c_SORTS))) (.cons (.ret (.cst (D.bl false))) .nil) .nil) (.cons (.ret (.blt .all (.cons ir_is_house_l0 .nil))) .nil)
theorem sc_is_house : FnScope C_is_house.N ["value"] (defScope s_is_house) := ⟨rfl, rfl, rfl, by decide +kernel, rfl, by decide +kernel, by decide +kernel⟩
theorem co_is_house : compB 60 C_is_house (defBody s_is_house) = some ir_is_house := by rfl
/-! is_formula: 0 value -/
abbrev s_is_formula : Stmt := top 14
abbrev C_is_formula : DW.Ctx := { N := ["value"], sc := defScope s_is_formula, blk := none, con := CON, fn := FN, bn := BN, dcn := DCN, srt := none, lam := [] }
def ir_is_formula : IB := .cons (.ret (.fn 4 (.cons (.var 0) (.cons (.cst c_MOST_DEPTH) .nil)))) .nil
theorem sc_is_formula : FnScope C_is_formula.N ["value"] (defScope s_is_formula) := ⟨rfl, rfl, rfl, by decide +kernel, rfl, by decide +kernel, by decide +kernel⟩
theorem co_is_formula : compB 60 C_is_formula (defBody s_is_formula) = some ir_is_formula := by rfl
/-! is_number: 0 value, 1 least, 2 most -/
abbrev s_is_number : Stmt := top 15
abbrev C_is_number : DW.Ctx := { N := ["value", "least", "most"], sc := defScope s_is_number, blk := none, con := CON, fn := FN, bn := BN, dcn := DCN, srt := none, lam := [] }
def ir_is_number : IB := .cons (.ifs (.or (.not (.val (.blt .isinst (.cons (.var 0) (.cons (.cst (D.ty "int")) .nil))))) (.val (.blt .isinst (.cons (.var 0) (.cons (.cst (D.ty "bool")) .nil))))) (.cons (.ret (.cst (D.bl false))) .nil) .nil) (.cons (.ret (.chn .LtE .LtE (.var 1) (.var 0) (.var 2))) .nil)
theorem sc_is_number : FnScope C_is_number.N ["value", "least", "most"] (defScope s_is_number) := ⟨rfl, rfl, rfl, by decide +kernel, rfl, by decide +kernel, by decide +kernel⟩
theorem co_is_number : compB 60 C_is_number (defBody s_is_number) = some ir_is_number := by rfl
/-! _is_triple: 0 value, 1 mark_words, 2 count_words, 3 word, 4 first, 5 second -/
abbrev s__is_triple : Stmt := top 16
abbrev C__is_triple : DW.Ctx := { N := ["value", "mark_words", "count_words", "word", "first", "second"], sc := defScope s__is_triple, blk := none, con := CON, fn := FN, bn := BN, dcn := DCN, srt := none, lam := [] }
def ir__is_triple : IB := .cons (.ifs (.or (.not (.val (.blt .isinst (.cons (.var 0) (.cons (.cst (D.ty "tuple")) .nil))))) (.cmp .NotEq (.blt .len (.cons (.var 0) .nil)) (.cst (D.int 3)))) (.cons (.ret (.cst (D.bl false))) .nil) .nil) (.cons (.asg (.tup (.cons (.name 3) (.cons (.name 4) (.cons (.name 5) .nil)))) (.var 0)) (.cons (.ifs (.cmp .In (.var 3) (.var 1)) (.cons (.ret (.cmp .In (.tup (.cons (.var 4) (.cons (.var 5) .nil))) (.cst c_MARKS))) .nil) .nil) (.cons (.ret (.and (.cmp .In (.var 3) (.var 2)) (.and (.fn 2 (.cons (.var 4) (.cons (.cst (D.int 1)) (.cons (.cst c_MOST_TOLD) .nil)))) (.cmp .In (.var 5) (.cst c_COUNTED))))) .nil)))
theorem sc__is_triple : FnScope C__is_triple.N ["value", "mark_words", "count_words"] (defScope s__is_triple) := ⟨rfl, rfl, rfl, by decide +kernel, rfl, by decide +kernel, by decide +kernel⟩
theorem co__is_triple : compB 60 C__is_triple (defBody s__is_triple) = some ir__is_triple := by rfl
/-! _is_nested: 0 value, 1 depth -/
abbrev s__is_nested : Stmt := top 17
abbrev C__is_nested : DW.Ctx := { N := ["value", "depth"], sc := defScope s__is_nested, blk := none, con := CON, fn := FN, bn := BN, dcn := DCN, srt := none, lam := [] }
def ir__is_nested : IB := .cons (.ifs (.or (.cmp .Eq (.var 1) (.cst (D.int 0))) (.or (.not (.val (.blt .isinst (.cons (.var 0) (.cons (.cst (D.ty "tuple")) .nil))))) (.cmp .Eq (.blt .len (.cons (.var 0) .nil)) (.cst (D.int 0))))) (.cons (.ret (.cst (D.bl false))) .nil) .nil) (.cons (.ifs (.cmp .Eq (.idx (.var 0) (.cst (D.int 0))) (.cst (D.str "not"))) (.cons (.ret (.and (.cmp .Eq (.blt .len (.cons (.var 0) .nil)) (.cst (D.int 2))) (.fn 4 (.cons (.idx (.var 0) (.cst (D.int 1))) (.cons (.bin .Sub (.var 1) (.cst (D.int 1))) .nil))))) .nil) .nil) (.cons (.ifs (.cmp .In (.idx (.var 0) (.cst (D.int 0))) (.cst c_PAIR_WORDS)) (.cons (.ret (.and (.cmp .Eq (.blt .len (.cons (.var 0) .nil)) (.cst (D.int 3))) (.and (.fn 4 (.cons (.idx (.var 0) (.cst (D.int 1))) (.cons (.bin .Sub (.var 1) (.cst (D.int 1))) .nil))) (.fn 4 (.cons (.idx (.var 0) (.cst (D.int 2))) (.cons (.bin .Sub (.var 1) (.cst (D.int 1))) .nil)))))) .nil) .nil) (.cons (.ret (.fn 3 (.cons (.var 0) (.cons (.tup (.cons (.cst (D.str "all")) (.cons (.cst (D.str "some")) (.cons (.cst (D.str "no")) .nil)))) (.cons (.tup (.cons (.cst (D.str "least")) (.cons (.cst (D.str "just")) .nil))) .nil))))) .nil)))
theorem sc__is_nested : FnScope C__is_nested.N ["value", "depth"] (defScope s__is_nested) := ⟨rfl, rfl, rfl, by decide +kernel, rfl, by decide +kernel, by decide +kernel⟩
theorem co__is_nested : compB 60 C__is_nested (defBody s__is_nested) = some ir__is_nested := by rfl
/-! check_formula: 0 value -/
abbrev s_check_formula : Stmt := top 19
abbrev C_check_formula : DW.Ctx := { N := ["value"], sc := defScope s_check_formula, blk := none, con := CON, fn := FN, bn := BN, dcn := DCN, srt := none, lam := [] }
def ir_check_formula : IB := .cons (.ifs (.not (.val (.fn 1 (.cons (.var 0) .nil)))) (.cons .nev .nil) .nil) .nil
theorem sc_check_formula : FnScope C_check_formula.N ["value"] (defScope s_check_formula) := ⟨rfl, rfl, rfl, by decide +kernel, rfl, by decide +kernel, by decide +kernel⟩
theorem co_check_formula : compB 60 C_check_formula (defBody s_check_formula) = some ir_check_formula := by rfl
/-! check_house: 0 value -/
abbrev s_check_house : Stmt := top 20
abbrev C_check_house : DW.Ctx := { N := ["value"], sc := defScope s_check_house, blk := none, con := CON, fn := FN, bn := BN, dcn := DCN, srt := none, lam := [] }
def ir_check_house : IB := .cons (.ifs (.not (.val (.fn 0 (.cons (.var 0) .nil)))) (.cons .nev .nil) .nil) .nil
theorem sc_check_house : FnScope C_check_house.N ["value"] (defScope s_check_house) := ⟨rfl, rfl, rfl, by decide +kernel, rfl, by decide +kernel, by decide +kernel⟩
theorem co_check_house : compB 60 C_check_house (defBody s_check_house) = some ir_check_house := by rfl
/-! check_truth: 0 value -/
abbrev s_check_truth : Stmt := top 21
abbrev C_check_truth : DW.Ctx := { N := ["value"], sc := defScope s_check_truth, blk := none, con := CON, fn := FN, bn := BN, dcn := DCN, srt := none, lam := [] }
def ir_check_truth : IB := .cons (.ifs (.not (.val (.blt .isinst (.cons (.var 0) (.cons (.cst (D.ty "bool")) .nil))))) (.cons .nev .nil) .nil) .nil
theorem sc_check_truth : FnScope C_check_truth.N ["value"] (defScope s_check_truth) := ⟨rfl, rfl, rfl, by decide +kernel, rfl, by decide +kernel, by decide +kernel⟩
theorem co_check_truth : compB 60 C_check_truth (defBody s_check_truth) = some ir_check_truth := by rfl
/-! small_houses: 0 counts, 1 houses, 2 one, 3 other, 4 both -/
abbrev s_small_houses : Stmt := top 27
abbrev C_small_houses : DW.Ctx := { N := ["counts", "houses", "one", "other", "both"], sc := defScope s_small_houses, blk := none, con := CON, fn := FN, bn := BN, dcn := DCN, srt := some 33, lam := [] }
def ir_small_houses_l0 : IE := .lcn [2, 3, 4] (.name 2) (.val (.var 0)) .none (.gen [3, 4] (.name 3) (.val (.var 0)) .none (.gen [4] (.name 4) (.val (.var 0)) .none (.elt (.tup (.cons (.cst (D.int 0)) (.cons (.var 2) (.cons (.var 3) (.cons (.var 4) .nil))))))))
def ir_small_houses : IB := .cons (.asg (.name 0) (.lrng (.bin .Add (.cst c_MOST_TOLD_APART) (.cst (D.int 1))))) (.cons (.asg (.name 1) ir_small_houses_l0) (.cons (.ret (.fn 33 (.cons (.var 1) .nil))) .nil))
theorem sc_small_houses : FnScope C_small_houses.N [] (defScope s_small_houses) := ⟨rfl, rfl, rfl, by decide +kernel, rfl, by decide +kernel, by decide +kernel⟩
theorem co_small_houses : compB 60 C_small_houses (defBody s_small_houses) = some ir_small_houses := by rfl
/-! meanings: 0 formulas, 1 houses, 2 simple, 3 formula -/
abbrev s_meanings : Stmt := top 28
abbrev C_meanings : DW.Ctx := { N := ["formulas", "houses", "simple", "formula"], sc := defScope s_meanings, blk := none, con := CON, fn := FN, bn := BN, dcn := DCN, srt := none, lam := [] }
def ir_meanings_l0 : IE := .lcp [3] (.name 3) (.val (.var 0)) .none (.fn 14 (.cons (.var 3) (.cons (.var 2) (.cons (.fn 10 (.cons (.var 1) .nil)) .nil))))
def ir_meanings : IB := .cons (.asg (.name 2) (.fn 15 (.cons (.var 0) (.cons (.var 1) .nil)))) (.cons (.ret ir_meanings_l0) .nil)
theorem sc_meanings : FnScope C_meanings.N ["formulas", "houses"] (defScope s_meanings) := ⟨rfl, rfl, rfl, by decide +kernel, rfl, by decide +kernel, by decide +kernel⟩
theorem co_meanings : compB 60 C_meanings (defBody s_meanings) = some ir_meanings := by rfl
/-! everywhere: 0 houses -/
abbrev s_everywhere : Stmt := top 29
abbrev C_everywhere : DW.Ctx := { N := ["houses"], sc := defScope s_everywhere, blk := none, con := CON, fn := FN, bn := BN, dcn := DCN, srt := none, lam := [] }
def ir_everywhere : IB := .cons (.ret (.bin .Sub (.bin .LShift (.cst (D.int 1)) (.blt .len (.cons (.var 0) .nil))) (.cst (D.int 1)))) .nil
theorem sc_everywhere : FnScope C_everywhere.N ["houses"] (defScope s_everywhere) := ⟨rfl, rfl, rfl, by decide +kernel, rfl, by decide +kernel, by decide +kernel⟩
theorem co_everywhere : compB 60 C_everywhere (defBody s_everywhere) = some ir_everywhere := by rfl
/-! holds_at: 0 meaning, 1 at -/
abbrev s_holds_at : Stmt := top 30
abbrev C_holds_at : DW.Ctx := { N := ["meaning", "at"], sc := defScope s_holds_at, blk := none, con := CON, fn := FN, bn := BN, dcn := DCN, srt := none, lam := [] }
def ir_holds_at : IB := .cons (.ret (.cmp .Eq (.bin .BitAnd (.bin .RShift (.var 0) (.var 1)) (.cst (D.int 1))) (.cst (D.int 1)))) .nil
theorem sc_holds_at : FnScope C_holds_at.N ["meaning", "at"] (defScope s_holds_at) := ⟨rfl, rfl, rfl, by decide +kernel, rfl, by decide +kernel, by decide +kernel⟩
theorem co_holds_at : compB 60 C_holds_at (defBody s_holds_at) = some ir_holds_at := by rfl
/-! houses_of: 0 meaning, 1 houses, 2 at, 3 house -/
abbrev s_houses_of : Stmt := top 31
abbrev C_houses_of : DW.Ctx := { N := ["meaning", "houses", "at", "house"], sc := defScope s_houses_of, blk := none, con := CON, fn := FN, bn := BN, dcn := DCN, srt := none, lam := [] }
def ir_houses_of_l0 : IE := .lcp [2, 3] (.tup (.cons (.name 2) (.cons (.name 3) .nil))) (.enum (.var 1)) (.one (.val (.fn 11 (.cons (.var 0) (.cons (.var 2) .nil))))) (.var 3)
def ir_houses_of : IB := .cons (.ret ir_houses_of_l0) .nil
theorem sc_houses_of : FnScope C_houses_of.N ["meaning", "houses"] (defScope s_houses_of) := ⟨rfl, rfl, rfl, by decide +kernel, rfl, by decide +kernel, by decide +kernel⟩
theorem co_houses_of : compB 60 C_houses_of (defBody s_houses_of) = some ir_houses_of := by rfl
/-! first_of_all: 0 formula, 1 houses, 2 found -/
abbrev s_first_of_all : Stmt := top 32
abbrev C_first_of_all : DW.Ctx := { N := ["formula", "houses", "found"], sc := defScope s_first_of_all, blk := none, con := CON, fn := FN, bn := BN, dcn := DCN, srt := none, lam := [] }
def ir_first_of_all : IB := .cons (.asg (.name 1) (.fn 8 .nil)) (.cons (.asg (.name 2) (.fn 12 (.cons (.idx (.fn 9 (.cons (.lst (.cons (.var 0) .nil)) (.cons (.var 1) .nil))) (.cst (D.int 0))) (.cons (.var 1) .nil)))) (.cons (.ret (.ite (.val (.var 2)) (.idx (.var 2) (.cst (D.int 0))) (.cst (D.non)))) .nil))
theorem sc_first_of_all : FnScope C_first_of_all.N ["formula"] (defScope s_first_of_all) := ⟨rfl, rfl, rfl, by decide +kernel, rfl, by decide +kernel, by decide +kernel⟩
theorem co_first_of_all : compB 60 C_first_of_all (defBody s_first_of_all) = some ir_first_of_all := by rfl
/-! _meaning: 0 formula, 1 simple, 2 whole, 3 word, 4 one, 5 other -/
abbrev s__meaning : Stmt := top 33
abbrev C__meaning : DW.Ctx := { N := ["formula", "simple", "whole", "word", "one", "other"], sc := defScope s__meaning, blk := none, con := CON, fn := FN, bn := BN, dcn := DCN, srt := none, lam := [] }
def ir__meaning : IB := .cons (.asg (.name 3) (.idx (.var 0) (.cst (D.int 0)))) (.cons (.ifs (.cmp .Eq (.var 3) (.cst (D.str "not"))) (.cons (.ret (.bin .BitXor (.var 2) (.fn 14 (.cons (.idx (.var 0) (.cst (D.int 1))) (.cons (.var 1) (.cons (.var 2) .nil)))))) .nil) .nil) (.cons (.ifs (.cmp .NotIn (.var 3) (.cst c_PAIR_WORDS)) (.cons (.ret (.idx (.var 1) (.var 0))) .nil) .nil) (.cons (.asg (.name 4) (.fn 14 (.cons (.idx (.var 0) (.cst (D.int 1))) (.cons (.var 1) (.cons (.var 2) .nil))))) (.cons (.asg (.name 5) (.fn 14 (.cons (.idx (.var 0) (.cst (D.int 2))) (.cons (.var 1) (.cons (.var 2) .nil))))) (.cons (.ifs (.cmp .Eq (.var 3) (.cst (D.str "and"))) (.cons (.ret (.bin .BitAnd (.var 4) (.var 5))) .nil) .nil) (.cons (.ifs (.cmp .Eq (.var 3) (.cst (D.str "or"))) (.cons (.ret (.bin .BitOr (.var 4) (.var 5))) .nil) .nil) (.cons (.ifs (.cmp .Eq (.var 3) (.cst (D.str "if"))) (.cons (.ret (.bin .BitOr (.bin .BitXor (.var 2) (.var 4)) (.var 5))) .nil) .nil) (.cons (.ret (.bin .BitXor (.var 4) (.var 5))) .nil))))))))
theorem sc__meaning : FnScope C__meaning.N ["formula", "simple", "whole"] (defScope s__meaning) := ⟨rfl, rfl, rfl, by decide +kernel, rfl, by decide +kernel, by decide +kernel⟩
theorem co__meaning : compB 60 C__meaning (defBody s__meaning) = some ir__meaning := by rfl
/-! _simple_meanings: 0 formulas, 1 houses, 2 found, 3 formula, 4 part, 5 at, 6 house -/
abbrev s__simple_meanings : Stmt := top 34
abbrev C__simple_meanings : DW.Ctx := { N := ["formulas", "houses", "found", "formula", "part", "at", "house"], sc := defScope s__simple_meanings, blk := none, con := CON, fn := FN, bn := BN, dcn := DCN, srt := none, lam := [] }
def ir__simple_meanings_l0 : IE := .lcp [5, 6] (.tup (.cons (.name 5) (.cons (.name 6) .nil))) (.enum (.var 1)) (.one (.val (.fn 17 (.cons (.var 4) (.cons (.var 6) .nil))))) (.bin .LShift (.cst (D.int 1)) (.var 5))
def ir__simple_meanings_b0 : IB := .cons (.ifs (.cmp .NotIn (.var 4) (.var 2)) (.cons (.asg (.sub (.var 2) (.var 4)) (.blt .sum (.cons ir__simple_meanings_l0 .nil))) .nil) .nil) .nil
def ir__simple_meanings_b1 : IB := .cons (.fr (.name 4) (.val (.fn 16 (.cons (.var 3) .nil))) ir__simple_meanings_b0) .nil
def ir__simple_meanings : IB := .cons (.asg (.name 2) .dnew) (.cons (.fr (.name 3) (.val (.var 0)) ir__simple_meanings_b1) (.cons (.ret (.var 2)) .nil))
theorem sc__simple_meanings : FnScope C__simple_meanings.N ["formulas", "houses"] (defScope s__simple_meanings) := ⟨rfl, rfl, rfl, by decide +kernel, rfl, by decide +kernel, by decide +kernel⟩
theorem co__simple_meanings : compB 60 C__simple_meanings (defBody s__simple_meanings) = some ir__simple_meanings := by rfl
/-! _simple_parts: 0 formula -/
abbrev s__simple_parts : Stmt := top 35
abbrev C__simple_parts : DW.Ctx := { N := ["formula"], sc := defScope s__simple_parts, blk := none, con := CON, fn := FN, bn := BN, dcn := DCN, srt := none, lam := [] }
def ir__simple_parts : IB := .cons (.ifs (.cmp .Eq (.idx (.var 0) (.cst (D.int 0))) (.cst (D.str "not"))) (.cons (.ret (.fn 16 (.cons (.idx (.var 0) (.cst (D.int 1))) .nil))) .nil) .nil) (.cons (.ifs (.cmp .In (.idx (.var 0) (.cst (D.int 0))) (.cst c_PAIR_WORDS)) (.cons (.ret (.bin .Add (.fn 16 (.cons (.idx (.var 0) (.cst (D.int 1))) .nil)) (.fn 16 (.cons (.idx (.var 0) (.cst (D.int 2))) .nil)))) .nil) .nil) (.cons (.ret (.lst (.cons (.var 0) .nil))) .nil))
theorem sc__simple_parts : FnScope C__simple_parts.N ["formula"] (defScope s__simple_parts) := ⟨rfl, rfl, rfl, by decide +kernel, rfl, by decide +kernel, by decide +kernel⟩
theorem co__simple_parts : compB 60 C__simple_parts (defBody s__simple_parts) = some ir__simple_parts := by rfl
/-! _holds_simply: 0 formula, 1 house, 2 word, 3 first, 4 second, 5 many, 6 sort -/
abbrev s__holds_simply : Stmt := top 36
abbrev C__holds_simply : DW.Ctx := { N := ["formula", "house", "word", "first", "second", "many", "sort"], sc := defScope s__holds_simply, blk := none, con := CON, fn := FN, bn := BN, dcn := DCN, srt := none, lam := [] }
def ir__holds_simply_l0 : IE := .lcp [6] (.name 6) (.val (.csub dc_SORTS_WITH (.var 4))) .none (.idx (.var 1) (.var 6))
def ir__holds_simply : IB := .cons (.asg (.tup (.cons (.name 2) (.cons (.name 3) (.cons (.name 4) .nil)))) (.var 0)) (.cons (.ifs (.cmp .Eq (.var 2) (.cst (D.str "all"))) (.cons (.ret (.cmp .Eq (.idx (.var 1) (.csub dc_SORT_WITH_ALONE (.var 3))) (.cst (D.int 0)))) .nil) .nil) (.cons (.ifs (.cmp .Eq (.var 2) (.cst (D.str "some"))) (.cons (.ret (.cmp .Gt (.idx (.var 1) (.cst c_SORT_WITH_BOTH)) (.cst (D.int 0)))) .nil) .nil) (.cons (.ifs (.cmp .Eq (.var 2) (.cst (D.str "no"))) (.cons (.ret (.cmp .Eq (.idx (.var 1) (.cst c_SORT_WITH_BOTH)) (.cst (D.int 0)))) .nil) .nil) (.cons (.asg (.name 5) (.blt .sum (.cons ir__holds_simply_l0 .nil))) (.cons (.ret (.ite (.cmp .Eq (.var 2) (.cst (D.str "least"))) (.cmp .GtE (.var 5) (.var 3)) (.cmp .Eq (.var 5) (.var 3)))) .nil)))))
theorem sc__holds_simply : FnScope C__holds_simply.N ["formula", "house"] (defScope s__holds_simply) := ⟨rfl, rfl, rfl, by decide +kernel, rfl, by decide +kernel, by decide +kernel⟩
theorem co__holds_simply : compB 60 C__holds_simply (defBody s__holds_simply) = some ir__holds_simply := by rfl
/-! holds: 0 formula, 1 house -/
abbrev s_holds : Stmt := top 38
abbrev C_holds : DW.Ctx := { N := ["formula", "house"], sc := defScope s_holds, blk := none, con := CON, fn := FN, bn := BN, dcn := DCN, srt := none, lam := [] }
def ir_holds : IB := .cons (.expr (.fn 5 (.cons (.var 0) .nil))) (.cons (.expr (.fn 6 (.cons (.var 1) .nil))) (.cons (.ret (.cmp .Eq (.fn 9 (.cons (.lst (.cons (.var 0) .nil)) (.cons (.lst (.cons (.var 1) .nil)) .nil))) (.lst (.cons (.cst (D.int 1)) .nil)))) .nil))
theorem sc_holds : FnScope C_holds.N ["formula", "house"] (defScope s_holds) := ⟨rfl, rfl, rfl, by decide +kernel, rfl, by decide +kernel, by decide +kernel⟩
theorem co_holds : compB 60 C_holds (defBody s_holds) = some ir_holds := by rfl
/-! how: 0 formula, 1 houses, 2 meaning -/
abbrev s_how : Stmt := top 39
abbrev C_how : DW.Ctx := { N := ["formula", "houses", "meaning"], sc := defScope s_how, blk := none, con := CON, fn := FN, bn := BN, dcn := DCN, srt := none, lam := [] }
def ir_how : IB := .cons (.expr (.fn 5 (.cons (.var 0) .nil))) (.cons (.asg (.name 1) (.fn 8 .nil)) (.cons (.asg (.name 2) (.idx (.fn 9 (.cons (.lst (.cons (.var 0) .nil)) (.cons (.var 1) .nil))) (.cst (D.int 0)))) (.cons (.ifs (.cmp .Eq (.var 2) (.fn 10 (.cons (.var 1) .nil))) (.cons (.ret (.cst (D.str "always"))) .nil) .nil) (.cons (.ret (.ite (.cmp .Eq (.var 2) (.cst (D.int 0))) (.cst (D.str "never")) (.cst (D.str "sometimes")))) .nil))))
theorem sc_how : FnScope C_how.N ["formula"] (defScope s_how) := ⟨rfl, rfl, rfl, by decide +kernel, rfl, by decide +kernel, by decide +kernel⟩
theorem co_how : compB 60 C_how (defBody s_how) = some ir_how := by rfl
/-! first_house: 0 formula, 1 truth -/
abbrev s_first_house : Stmt := top 40
abbrev C_first_house : DW.Ctx := { N := ["formula", "truth"], sc := defScope s_first_house, blk := none, con := CON, fn := FN, bn := BN, dcn := DCN, srt := none, lam := [] }
def ir_first_house : IB := .cons (.expr (.fn 5 (.cons (.var 0) .nil))) (.cons (.expr (.fn 7 (.cons (.var 1) .nil))) (.cons (.ret (.fn 13 (.cons (.ite (.val (.var 1)) (.var 0) (.tup (.cons (.cst (D.str "not")) (.cons (.var 0) .nil)))) .nil))) .nil))
theorem sc_first_house : FnScope C_first_house.N ["formula", "truth"] (defScope s_first_house) := ⟨rfl, rfl, rfl, by decide +kernel, rfl, by decide +kernel, by decide +kernel⟩
theorem co_first_house : compB 60 C_first_house (defBody s_first_house) = some ir_first_house := by rfl
/-! _law_source: 0 _law_script, 1 _law_k, 2 _law_cell -/
abbrev s__law_source : Stmt := top 42
abbrev C__law_source : DW.Ctx := { N := ["_law_script", "_law_k", "_law_cell"], sc := defScope s__law_source, blk := none, con := CON, fn := FN, bn := BN, dcn := DCN, srt := none, lam := [] }
def ir__law_source : IB := .cons (.asg (.name 2) (.ite (.cmp .Lt (.var 1) (.blt .len (.cons (.var 0) .nil))) (.blt .abs (.cons (.blt .int (.cons (.idx (.var 0) (.var 1)) .nil)) .nil)) (.bin .Add (.bin .Mult (.cst (D.int 101)) (.var 1)) (.cst (D.int 47))))) (.cons (.ret (.lst (.cons (.ite (.cmp .Gt (.var 2) (.bin .Pow (.cst (D.int 10)) (.cst (D.int 17)))) (.var 2) (.cst (D.int 0))) (.cons (.bin .Mod (.blt .int (.cons (.bin .Add (.bin .Add (.bin .Mult (.var 2) (.cst (D.int 16807))) (.bin .Mult (.cst (D.int 10009)) (.var 1))) (.cst (D.int 71))) .nil)) (.cst (D.int 2147483237))) .nil)))) .nil)
theorem sc__law_source : FnScope C__law_source.N ["_law_script", "_law_k"] (defScope s__law_source) := ⟨rfl, rfl, rfl, by decide +kernel, rfl, by decide +kernel, by decide +kernel⟩
theorem co__law_source : compB 60 C__law_source (defBody s__law_source) = some ir__law_source := by rfl
/-! _law_draw: 0 _law_source_here, 1 _law_many, 2 _law_rest, 3 _law_wide -/
abbrev s__law_draw : Stmt := top 43
abbrev C__law_draw : DW.Ctx := { N := ["_law_source_here", "_law_many", "_law_rest", "_law_wide"], sc := defScope s__law_draw, blk := none, con := CON, fn := FN, bn := BN, dcn := DCN, srt := none, lam := [] }
def ir__law_draw : IB := .cons (.ifs (.cmp .Gt (.idx (.var 0) (.cst (D.int 0))) (.cst (D.int 0))) (.cons (.asg (.name 2) (.bin .Mod (.blt .int (.cons (.idx (.var 0) (.cst (D.int 0))) .nil)) (.var 1))) (.cons (.asg (.sub (.var 0) (.cst (D.int 0))) (.bin .FloorDiv (.idx (.var 0) (.cst (D.int 0))) (.var 1))) (.cons (.ret (.var 2)) .nil))) .nil) (.cons (.asg (.sub (.var 0) (.cst (D.int 1))) (.bin .Mod (.blt .int (.cons (.bin .Add (.bin .Mult (.idx (.var 0) (.cst (D.int 1))) (.cst (D.int 48271))) (.cst (D.int 83))) .nil)) (.cst (D.int 2147483237)))) (.cons (.asg (.name 3) (.bin .Mod (.blt .int (.cons (.bin .Mult (.idx (.var 0) (.cst (D.int 1))) (.bin .Add (.bin .FloorDiv (.idx (.var 0) (.cst (D.int 1))) (.cst (D.int 41))) (.cst (D.int 26)))) .nil)) (.cst (D.int 2147483179)))) (.cons (.ret (.bin .Mod (.blt .int (.cons (.bin .FloorDiv (.var 3) (.cst (D.int 32))) .nil)) (.var 1))) .nil)))
theorem sc__law_draw : FnScope C__law_draw.N ["_law_source_here", "_law_many"] (defScope s__law_draw) := ⟨rfl, rfl, rfl, by decide +kernel, rfl, by decide +kernel, by decide +kernel⟩
theorem co__law_draw : compB 60 C__law_draw (defBody s__law_draw) = some ir__law_draw := by rfl
/-! _law_choice: 0 _law_source_here, 1 _law_some -/
abbrev s__law_choice : Stmt := top 44
abbrev C__law_choice : DW.Ctx := { N := ["_law_source_here", "_law_some"], sc := defScope s__law_choice, blk := none, con := CON, fn := FN, bn := BN, dcn := DCN, srt := none, lam := [] }
def ir__law_choice : IB := .cons (.ret (.idx (.var 1) (.fn 22 (.cons (.var 0) (.cons (.blt .len (.cons (.var 1) .nil)) .nil))))) .nil
theorem sc__law_choice : FnScope C__law_choice.N ["_law_source_here", "_law_some"] (defScope s__law_choice) := ⟨rfl, rfl, rfl, by decide +kernel, rfl, by decide +kernel, by decide +kernel⟩
theorem co__law_choice : compB 60 C__law_choice (defBody s__law_choice) = some ir__law_choice := by rfl
/-! _law_holds: 0 _law_formula_here, 1 _law_house, 2 _law_word_here, 3 _law_truths_here, 4 _law_many, 5 _law_part -/
abbrev s__law_holds : Stmt := top 45
abbrev C__law_holds : DW.Ctx := { N := ["_law_formula_here", "_law_house", "_law_word_here", "_law_truths_here", "_law_many", "_law_part"], sc := defScope s__law_holds, blk := none, con := CON, fn := FN, bn := BN, dcn := DCN, srt := none, lam := [] }
def ir__law_holds_l0 : IE := .lcp [5] (.name 5) (.val (.slc (.var 0) (.yes (.cst (D.int 1))) .no)) .none (.fn 24 (.cons (.var 5) (.cons (.var 1) .nil)))
def ir__law_holds : IB := .cons (.asg (.name 2) (.idx (.var 0) (.cst (D.int 0)))) (.cons (.ifs (.cmp .In (.var 2) (.lst (.cons (.cst (D.str "not")) (.cons (.cst (D.str "and")) (.cons (.cst (D.str "or")) (.cons (.cst (D.str "if")) (.cons (.cst (D.str "other")) .nil))))))) (.cons (.asg (.name 3) ir__law_holds_l0) (.cons (.ifs (.cmp .Eq (.var 2) (.cst (D.str "not"))) (.cons (.ret (.not (.idx (.var 3) (.cst (D.int 0))))) .nil) .nil) (.cons (.ifs (.cmp .Eq (.var 2) (.cst (D.str "and"))) (.cons (.ret (.cmp .NotIn (.cst (D.bl false)) (.var 3))) .nil) .nil) (.cons (.ifs (.cmp .Eq (.var 2) (.cst (D.str "or"))) (.cons (.ret (.cmp .In (.cst (D.bl true)) (.var 3))) .nil) .nil) (.cons (.ret (.ite (.cmp .Eq (.var 2) (.cst (D.str "if"))) (.cmp .NotEq (.var 3) (.lst (.cons (.cst (D.bl true)) (.cons (.cst (D.bl false)) .nil)))) (.cmp .NotEq (.idx (.var 3) (.cst (D.int 0))) (.idx (.var 3) (.cst (D.int 1)))))) .nil))))) .nil) (.cons (.ifs (.cmp .Eq (.var 2) (.cst (D.str "all"))) (.cons (.ret (.cmp .Eq (.idx (.var 1) (.dsub ["a", "b"] (.cons (.cst (D.int 1)) (.cons (.cst (D.int 2)) .nil)) (.idx (.var 0) (.cst (D.int 1))))) (.cst (D.int 0)))) .nil) .nil) (.cons (.ifs (.cmp .In (.var 2) (.lst (.cons (.cst (D.str "some")) (.cons (.cst (D.str "no")) .nil)))) (.cons (.ret (.cmp .Eq (.cmp .Eq (.idx (.var 1) (.cst (D.int 3))) (.cst (D.int 0))) (.cmp .Eq (.var 2) (.cst (D.str "no"))))) .nil) .nil) (.cons (.asg (.name 4) (.bin .Add (.idx (.var 1) (.cst (D.int 3))) (.dsub ["a", "b", "both"] (.cons (.idx (.var 1) (.cst (D.int 1))) (.cons (.idx (.var 1) (.cst (D.int 2))) (.cons (.cst (D.int 0)) .nil))) (.idx (.var 0) (.cst (D.int 2)))))) (.cons (.ret (.ite (.cmp .Eq (.var 2) (.cst (D.str "least"))) (.cmp .GtE (.var 4) (.idx (.var 0) (.cst (D.int 1)))) (.cmp .Eq (.var 4) (.idx (.var 0) (.cst (D.int 1)))))) .nil)))))
theorem sc__law_holds : FnScope C__law_holds.N ["_law_formula_here", "_law_house"] (defScope s__law_holds) := ⟨rfl, rfl, rfl, by decide +kernel, rfl, by decide +kernel, by decide +kernel⟩
theorem co__law_holds : compB 60 C__law_holds (defBody s__law_holds) = some ir__law_holds := by rfl
/-! _law_houses: 0 _law_most, 1 _law_found, 2 _law_sort, 3 _law_later, 4 _law_count, 5 _law_house, 6 _law_people -/
abbrev s__law_houses : Stmt := top 46
abbrev C__law_houses : DW.Ctx := { N := ["_law_most", "_law_found", "_law_sort", "_law_later", "_law_count", "_law_house", "_law_people"], sc := defScope s__law_houses, blk := none, con := CON, fn := FN, bn := BN, dcn := DCN, srt := none, lam := [] }
def ir__law_houses_l0 : IE := .lcp [6, 5] (.tup (.cons (.name 6) (.cons (.name 5) .nil))) (.val (.blt .sorted (.cons (.var 1) .nil))) .none (.var 5)
def ir__law_houses_l1 : IE := .lcp [5] (.name 5) (.val (.var 1)) .none (.tup (.cons (.blt .sum (.cons (.var 5) .nil)) (.cons (.var 5) .nil)))
def ir__law_houses_l2 : IE := .lcp [5] (.name 5) (.val (.var 1)) .none (.bin .Add (.var 5) (.tup (.cons (.var 4) .nil)))
def ir__law_houses_b0 : IB := .cons (.asg (.name 3) (.bin .Add (.var 3) ir__law_houses_l2)) .nil
def ir__law_houses_b1 : IB := .cons (.asg (.name 3) (.lst .nil)) (.cons (.fr (.name 4) (.rng1 (.bin .Add (.var 0) (.cst (D.int 1)))) ir__law_houses_b0) (.cons (.asg (.name 1) (.var 3)) .nil))
def ir__law_houses : IB := .cons (.asg (.name 1) (.lst (.cons (.tup .nil) .nil))) (.cons (.fr (.name 2) (.rng1 (.cst (D.int 4))) ir__law_houses_b1) (.cons (.asg (.name 1) ir__law_houses_l1) (.cons (.ret ir__law_houses_l0) .nil)))
theorem sc__law_houses : FnScope C__law_houses.N ["_law_most"] (defScope s__law_houses) := ⟨rfl, rfl, rfl, by decide +kernel, rfl, by decide +kernel, by decide +kernel⟩
theorem co__law_houses : compB 60 C__law_houses (defBody s__law_houses) = some ir__law_houses := by rfl
/-! _law_truths: 0 _law_formula_here, 1 _law_houses_here, 2 _law_house -/
abbrev s__law_truths : Stmt := top 47
abbrev C__law_truths : DW.Ctx := { N := ["_law_formula_here", "_law_houses_here", "_law_house"], sc := defScope s__law_truths, blk := none, con := CON, fn := FN, bn := BN, dcn := DCN, srt := none, lam := [] }
def ir__law_truths_l0 : IE := .lcp [2] (.name 2) (.val (.var 1)) .none (.fn 24 (.cons (.var 0) (.cons (.var 2) .nil)))
def ir__law_truths : IB := .cons (.ret ir__law_truths_l0) .nil
theorem sc__law_truths : FnScope C__law_truths.N ["_law_formula_here", "_law_houses_here"] (defScope s__law_truths) := ⟨rfl, rfl, rfl, by decide +kernel, rfl, by decide +kernel, by decide +kernel⟩
theorem co__law_truths : compB 60 C__law_truths (defBody s__law_truths) = some ir__law_truths := by rfl
/-! _law_formula: 0 _law_source_here, 1 _law_deep, 2 _law_way, 3 _law_word_here, 4 _law_one -/
abbrev s__law_formula : Stmt := top 48
abbrev C__law_formula : DW.Ctx := { N := ["_law_source_here", "_law_deep", "_law_way", "_law_word_here", "_law_one"], sc := defScope s__law_formula, blk := none, con := CON, fn := FN, bn := BN, dcn := DCN, srt := none, lam := [] }
def ir__law_formula : IB := .cons (.asg (.name 2) (.fn 22 (.cons (.var 0) (.cons (.cst (D.int 7)) .nil)))) (.cons (.ifs (.and (.cmp .Gt (.var 1) (.cst (D.int 1))) (.cmp .Gt (.var 2) (.cst (D.int 2)))) (.cons (.ifs (.cmp .Eq (.var 2) (.cst (D.int 3))) (.cons (.ret (.tup (.cons (.cst (D.str "not")) (.cons (.fn 27 (.cons (.var 0) (.cons (.bin .Sub (.var 1) (.cst (D.int 1))) .nil))) .nil)))) .nil) .nil) (.cons (.asg (.name 3) (.fn 23 (.cons (.var 0) (.cons (.lst (.cons (.cst (D.str "and")) (.cons (.cst (D.str "or")) (.cons (.cst (D.str "if")) (.cons (.cst (D.str "other")) .nil))))) .nil)))) (.cons (.asg (.name 4) (.fn 27 (.cons (.var 0) (.cons (.bin .Sub (.var 1) (.cst (D.int 1))) .nil)))) (.cons (.ret (.tup (.cons (.var 3) (.cons (.var 4) (.cons (.fn 27 (.cons (.var 0) (.cons (.bin .Sub (.var 1) (.cst (D.int 1))) .nil))) .nil))))) .nil)))) .nil) (.cons (.ifs (.cmp .Eq (.bin .Mod (.var 2) (.cst (D.int 2))) (.cst (D.int 0))) (.cons (.asg (.name 3) (.fn 23 (.cons (.var 0) (.cons (.lst (.cons (.cst (D.str "least")) (.cons (.cst (D.str "just")) .nil))) .nil)))) (.cons (.ret (.tup (.cons (.var 3) (.cons (.bin .Add (.cst (D.int 1)) (.fn 22 (.cons (.var 0) (.cons (.cst (D.int 3)) .nil)))) (.cons (.fn 23 (.cons (.var 0) (.cons (.lst (.cons (.cst (D.str "a")) (.cons (.cst (D.str "b")) (.cons (.cst (D.str "both")) .nil)))) .nil))) .nil))))) .nil)) .nil) (.cons (.ret (.bin .Add (.tup (.cons (.fn 23 (.cons (.var 0) (.cons (.lst (.cons (.cst (D.str "all")) (.cons (.cst (D.str "some")) (.cons (.cst (D.str "no")) .nil)))) .nil))) .nil)) (.fn 23 (.cons (.var 0) (.cons (.lst (.cons (.tup (.cons (.cst (D.str "a")) (.cons (.cst (D.str "b")) .nil))) (.cons (.tup (.cons (.cst (D.str "b")) (.cons (.cst (D.str "a")) .nil))) .nil))) .nil))))) .nil)))
theorem sc__law_formula : FnScope C__law_formula.N ["_law_source_here", "_law_deep"] (defScope s__law_formula) := ⟨rfl, rfl, rfl, by decide +kernel, rfl, by decide +kernel, by decide +kernel⟩
theorem co__law_formula : compB 60 C__law_formula (defBody s__law_formula) = some ir__law_formula := by rfl
/-! _law_first: 0 _law_truths_here, 1 _law_houses_here, 2 _law_due, 3 _law_house, 4 _law_truth -/
abbrev s__law_first : Stmt := top 49
abbrev C__law_first : DW.Ctx := { N := ["_law_truths_here", "_law_houses_here", "_law_due", "_law_house", "_law_truth"], sc := defScope s__law_first, blk := none, con := CON, fn := FN, bn := BN, dcn := DCN, srt := none, lam := [] }
def ir__law_first_b0 : IB := .cons (.ifs (.cmp .Eq (.var 4) (.var 2)) (.cons (.ret (.var 3)) .nil) .nil) .nil
def ir__law_first : IB := .cons (.fr (.tup (.cons (.name 3) (.cons (.name 4) .nil))) (.zip (.var 1) (.var 0)) ir__law_first_b0) (.cons (.ret (.cst (D.non))) .nil)
theorem sc__law_first : FnScope C__law_first.N ["_law_truths_here", "_law_houses_here", "_law_due"] (defScope s__law_first) := ⟨rfl, rfl, rfl, by decide +kernel, rfl, by decide +kernel, by decide +kernel⟩
theorem co__law_first : compB 60 C__law_first (defBody s__law_first) = some ir__law_first := by rfl
/-! _law_right: 0 _law_source_here, 1 _law_formula_here, 2 _law_houses_here, 3 _law_truths_here, 4 _law_word_here, 5 _law_due, 6 _law_turn, 7 _law_some, 8 _law_house, 9 _law_shown, 10 _law_sort -/
abbrev s__law_right : Stmt := top 50
abbrev C__law_right : DW.Ctx := { N := ["_law_source_here", "_law_formula_here", "_law_houses_here", "_law_truths_here", "_law_word_here", "_law_due", "_law_turn", "_law_some", "_law_house", "_law_shown", "_law_sort"], sc := defScope s__law_right, blk := none, con := CON, fn := FN, bn := BN, dcn := DCN, srt := none, lam := [] }
def ir__law_right_l0 : IE := .lcp [10] (.name 10) (.rng1 (.cst (D.int 4))) .none (.fn 23 (.cons (.var 0) (.cons (.var 7) .nil)))
def ir__law_right_b0 : IB := .cons (.asg (.name 7) (.lst (.cons (.cst (D.int 0)) (.cons (.cst (D.int 0)) (.cons (.cst (D.int 1)) (.cons (.cst (D.int 2)) (.cons (.cst (D.int 3)) (.cons (.cst (D.int 4)) (.cons (.cst (D.int 5)) (.cons (.bin .Sub (.bin .Pow (.cst (D.int 10)) (.cst (D.int 30))) (.fn 22 (.cons (.var 0) (.cons (.cst (D.int 9)) .nil)))) .nil)))))))))) (.cons (.asg (.name 8) (.blt .tuple (.cons ir__law_right_l0 .nil))) (.cons (.asg (.name 9) (.fn 18 (.cons (.var 1) (.cons (.var 8) .nil)))) (.cons (.ifs (.or (.cmp .NotEq (.var 9) (.fn 24 (.cons (.var 1) (.cons (.var 8) .nil)))) (.not (.val (.blt .isinst (.cons (.var 9) (.cons (.cst (D.ty "bool")) .nil)))))) (.cons (.ret (.cst (D.bl false))) .nil) .nil) .nil)))
def ir__law_right_b1 : IB := .cons (.ifs (.cmp .NotEq (.fn 20 (.cons (.var 1) (.cons (.var 5) .nil))) (.fn 28 (.cons (.var 3) (.cons (.var 2) (.cons (.var 5) .nil))))) (.cons (.ret (.cst (D.bl false))) .nil) .nil) .nil
def ir__law_right : IB := .cons (.asg (.name 3) (.fn 26 (.cons (.var 1) (.cons (.var 2) .nil)))) (.cons (.asg (.name 4) (.ite (.cmp .NotIn (.cst (D.bl false)) (.var 3)) (.cst (D.str "always")) (.ite (.cmp .In (.cst (D.bl true)) (.var 3)) (.cst (D.str "sometimes")) (.cst (D.str "never"))))) (.cons (.ifs (.cmp .NotEq (.fn 19 (.cons (.var 1) .nil)) (.var 4)) (.cons (.ret (.cst (D.bl false))) .nil) .nil) (.cons (.fr (.name 5) (.val (.lst (.cons (.cst (D.bl true)) (.cons (.cst (D.bl false)) .nil)))) ir__law_right_b1) (.cons (.fr (.name 6) (.rng1 (.cst (D.int 8))) ir__law_right_b0) (.cons (.ret (.cst (D.bl true))) .nil)))))
theorem sc__law_right : FnScope C__law_right.N ["_law_source_here", "_law_formula_here", "_law_houses_here"] (defScope s__law_right) := ⟨rfl, rfl, rfl, by decide +kernel, rfl, by decide +kernel, by decide +kernel⟩
theorem co__law_right : compB 60 C__law_right (defBody s__law_right) = some ir__law_right := by rfl
/-! _law_written_right: 0 _law_first_here, 1 _law_second, 2 _law_rows, 3 _law_due, 4 _law_third, 5 _law_formula_here -/
abbrev s__law_written_right : Stmt := top 52
abbrev C__law_written_right : DW.Ctx := { N := ["_law_first_here", "_law_second", "_law_rows", "_law_due", "_law_third", "_law_formula_here"], sc := defScope s__law_written_right, blk := none, con := CON, fn := FN, bn := BN, dcn := DCN, srt := none, lam := [] }
def ir__law_written_right_l0 : IE := .lcp [5] (.name 5) (.val (.var 2)) .none (.fn 20 (.cons (.var 5) (.cons (.cst (D.bl true)) .nil)))
def ir__law_written_right_l1 : IE := .lcp [5] (.name 5) (.val (.var 2)) .none (.fn 19 (.cons (.var 5) .nil))
def ir__law_written_right : IB := .cons (.asg (.tup (.cons (.name 0) (.cons (.name 1) .nil))) (.tup (.cons (.tup (.cons (.cst (D.str "all")) (.cons (.cst (D.str "a")) (.cons (.cst (D.str "b")) .nil)))) (.cons (.tup (.cons (.cst (D.str "all")) (.cons (.cst (D.str "b")) (.cons (.cst (D.str "a")) .nil)))) .nil)))) (.cons (.ifs (.cmp .IsNot (.fn 18 (.cons (.tup (.cons (.cst (D.str "just")) (.cons (.cst (D.int 2)) (.cons (.cst (D.str "a")) .nil)))) (.cons (.tup (.cons (.cst (D.int 9)) (.cons (.cst (D.int 1)) (.cons (.cst (D.int 0)) (.cons (.cst (D.int 1)) .nil))))) .nil))) (.cst (D.bl true))) (.cons (.ret (.cst (D.bl false))) .nil) .nil) (.cons (.ifs (.cmp .IsNot (.fn 18 (.cons (.tup (.cons (.cst (D.str "if")) (.cons (.tup (.cons (.cst (D.str "some")) (.cons (.cst (D.str "a")) (.cons (.cst (D.str "b")) .nil)))) (.cons (.var 1) .nil)))) (.cons (.tup (.cons (.cst (D.int 0)) (.cons (.cst (D.int 0)) (.cons (.cst (D.int 1)) (.cons (.cst (D.int 1)) .nil))))) .nil))) (.cst (D.bl false))) (.cons (.ret (.cst (D.bl false))) .nil) .nil) (.cons (.asg (.name 2) (.lst (.cons (.tup (.cons (.cst (D.str "other")) (.cons (.var 0) (.cons (.var 0) .nil)))) (.cons (.tup (.cons (.cst (D.str "other")) (.cons (.var 0) (.cons (.var 1) .nil)))) (.cons (.tup (.cons (.cst (D.str "if")) (.cons (.var 0) (.cons (.var 0) .nil)))) .nil))))) (.cons (.expr (.app (.var 2) (.tup (.cons (.cst (D.str "and")) (.cons (.tup (.cons (.cst (D.str "no")) (.cons (.cst (D.str "a")) (.cons (.cst (D.str "b")) .nil)))) (.cons (.tup (.cons (.cst (D.str "least")) (.cons (.cst (D.int 1)) (.cons (.cst (D.str "both")) .nil)))) .nil)))))) (.cons (.ifs (.cmp .NotEq ir__law_written_right_l1 (.lst (.cons (.cst (D.str "never")) (.cons (.cst (D.str "sometimes")) (.cons (.cst (D.str "always")) (.cons (.cst (D.str "never")) .nil)))))) (.cons (.ret (.cst (D.bl false))) .nil) .nil) (.cons (.asg (.name 2) (.lst (.cons (.tup (.cons (.cst (D.str "just")) (.cons (.cst (D.int 2)) (.cons (.cst (D.str "a")) .nil)))) (.cons (.tup (.cons (.cst (D.str "and")) (.cons (.tup (.cons (.cst (D.str "least")) (.cons (.cst (D.int 1)) (.cons (.cst (D.str "b")) .nil)))) (.cons (.tup (.cons (.cst (D.str "no")) (.cons (.cst (D.str "b")) (.cons (.cst (D.str "a")) .nil)))) .nil)))) (.cons (.tup (.cons (.cst (D.str "other")) (.cons (.var 0) (.cons (.var 1) .nil)))) .nil))))) (.cons (.expr (.app (.var 2) (.tup (.cons (.cst (D.str "least")) (.cons (.cst (D.int 3)) (.cons (.cst (D.str "both")) .nil)))))) (.cons (.asg (.name 3) (.lst (.cons (.tup (.cons (.cst (D.int 0)) (.cons (.cst (D.int 0)) (.cons (.cst (D.int 0)) (.cons (.cst (D.int 2)) .nil))))) (.cons (.tup (.cons (.cst (D.int 0)) (.cons (.cst (D.int 0)) (.cons (.cst (D.int 1)) (.cons (.cst (D.int 0)) .nil))))) (.cons (.tup (.cons (.cst (D.int 0)) (.cons (.cst (D.int 0)) (.cons (.cst (D.int 1)) (.cons (.cst (D.int 0)) .nil))))) (.cons (.tup (.cons (.cst (D.int 0)) (.cons (.cst (D.int 0)) (.cons (.cst (D.int 0)) (.cons (.cst (D.int 3)) .nil))))) .nil)))))) (.cons (.ifs (.cmp .NotEq ir__law_written_right_l0 (.var 3)) (.cons (.ret (.cst (D.bl false))) .nil) .nil) (.cons (.ifs (.cmp .NotEq (.fn 20 (.cons (.tup (.cons (.cst (D.str "or")) (.cons (.tup (.cons (.cst (D.str "least")) (.cons (.cst (D.int 3)) (.cons (.cst (D.str "a")) .nil)))) (.cons (.tup (.cons (.cst (D.str "just")) (.cons (.cst (D.int 1)) (.cons (.cst (D.str "b")) .nil)))) .nil)))) (.cons (.cst (D.bl true)) .nil))) (.tup (.cons (.cst (D.int 0)) (.cons (.cst (D.int 0)) (.cons (.cst (D.int 0)) (.cons (.cst (D.int 1)) .nil)))))) (.cons (.ret (.cst (D.bl false))) .nil) .nil) (.cons (.asg (.name 4) (.tup (.cons (.cst (D.str "and")) (.cons (.tup (.cons (.cst (D.str "least")) (.cons (.cst (D.int 2)) (.cons (.cst (D.str "a")) .nil)))) (.cons (.tup (.cons (.cst (D.str "just")) (.cons (.cst (D.int 1)) (.cons (.cst (D.str "both")) .nil)))) .nil))))) (.cons (.ret (.and (.cmp .Eq (.fn 20 (.cons (.var 4) (.cons (.cst (D.bl true)) .nil))) (.tup (.cons (.cst (D.int 0)) (.cons (.cst (D.int 1)) (.cons (.cst (D.int 0)) (.cons (.cst (D.int 1)) .nil)))))) (.cmp .Eq (.fn 20 (.cons (.var 0) (.cons (.cst (D.bl false)) .nil))) (.tup (.cons (.cst (D.int 0)) (.cons (.cst (D.int 1)) (.cons (.cst (D.int 0)) (.cons (.cst (D.int 0)) .nil)))))))) .nil))))))))))))
theorem sc__law_written_right : FnScope C__law_written_right.N [] (defScope s__law_written_right) := ⟨rfl, rfl, rfl, by decide +kernel, rfl, by decide +kernel, by decide +kernel⟩
theorem co__law_written_right : compB 60 C__law_written_right (defBody s__law_written_right) = some ir__law_written_right := by rfl
/-! law: 0 _law_script, 1 _law_houses_here, 2 _law_k, 3 _law_source_here, 4 _law_turn, 5 _law_formula_here, 6 _law_odd -/
abbrev s_law : Stmt := top 53
abbrev C_law : DW.Ctx := { N := ["_law_script", "_law_houses_here", "_law_k", "_law_source_here", "_law_turn", "_law_formula_here", "_law_odd"], sc := defScope s_law, blk := none, con := CON, fn := FN, bn := BN, dcn := DCN, srt := none, lam := LAM }
def ir_law_l0 : IE := .lcp [6] (.name 6) (.val (.lst (.cons (.cst (D.non)) (.cons (.cst (D.int 0)) (.cons (.cst (D.int 1)) (.cons (.cst (D.str "True")) .nil)))))) (.one (.cmp .NotEq (.fn 36 (.cons (.var 5) (.cons (.var 6) .nil))) (.cst (D.str "truth")))) (.var 6)
def ir_law_b0 : IB := .cons (.ifs (.cmp .NotEq (.fn 34 (.cons (.var 5) (.cons (.var 6) .nil))) (.cst (D.str "house"))) (.cons (.ret (.cst (D.bl false))) .nil) .nil) .nil
def ir_law_b1 : IB := .cons (.ifs (.cmp .NotEq (.fn 34 (.cons (.var 6) (.cons (.cst (D.non)) .nil))) (.cst (D.str "formula"))) (.cons (.ret (.cst (D.bl false))) .nil) .nil) (.cons (.ifs (.cmp .NotEq (.fn 35 (.cons (.var 6) .nil)) (.cst (D.str "formula"))) (.cons (.ret (.cst (D.bl false))) .nil) .nil) (.cons (.ifs (.cmp .NotEq (.fn 36 (.cons (.var 6) (.cons (.cst (D.non)) .nil))) (.cst (D.str "formula"))) (.cons (.ret (.cst (D.bl false))) .nil) .nil) .nil))
def ir_law_b2 : IB := .cons (.asg (.name 5) (.fn 27 (.cons (.var 3) (.cons (.cst (D.int 4)) .nil)))) (.cons (.ifs (.not (.val (.fn 29 (.cons (.var 3) (.cons (.var 5) (.cons (.var 1) .nil)))))) (.cons (.ret (.cst (D.bl false))) .nil) .nil) .nil)
def ir_law_b3 : IB := .cons (.asg (.name 3) (.fn 21 (.cons (.var 0) (.cons (.var 2) .nil)))) (.cons (.fr (.name 4) (.rng1 (.cst (D.int 3))) ir_law_b2) (.cons (.fr (.name 6) (.val (.lst (.cons (.cst (D.non)) (.cons (.tup (.cons (.cst (D.str "has")) (.cons (.cst (D.int 1)) (.cons (.cst (D.str "a")) .nil)))) (.cons (.tup (.cons (.cst (D.str "not")) .nil)) (.cons (.blt .list (.cons (.var 5) .nil)) (.cons (.cst (D.int 5)) .nil))))))) ir_law_b1) (.cons (.fr (.name 6) (.val (.lst (.cons (.cst (D.non)) (.cons (.tup (.cons (.cst (D.int 0)) (.cons (.cst (D.int 0)) (.cons (.cst (D.int 0)) .nil)))) (.cons (.tup (.cons (.cst (D.int 0)) (.cons (.cst (D.int 0)) (.cons (.cst (D.int 0)) (.cons (.neg (.cst (D.int 1))) .nil))))) (.cons (.bin .Mult (.lst (.cons (.cst (D.int 0)) .nil)) (.cst (D.int 4))) (.cons (.tup (.cons (.cst (D.int 0)) (.cons (.cst (D.int 0)) (.cons (.cst (D.int 0)) (.cons (.cst (D.bl true)) .nil))))) .nil))))))) ir_law_b0) (.cons (.ifs (.cmp .NotEq ir_law_l0 (.lst .nil)) (.cons (.ret (.cst (D.bl false))) .nil) .nil) .nil))))
def ir_law : IB := .cons (.asg (.name 1) (.fn 25 (.cons (.cst (D.int 4)) .nil))) (.cons (.fr (.name 2) (.rng1 (.bin .Add (.cst (D.int 1)) (.blt .min2 (.cons (.blt .len (.cons (.var 0) .nil)) (.cons (.cst (D.int 8)) .nil))))) ir_law_b3) (.cons (.ret (.fn 31 .nil)) .nil))
theorem sc_law : FnScope C_law.N ["_law_script"] (defScope s_law) := ⟨rfl, rfl, rfl, by decide +kernel, rfl, by decide +kernel, by decide +kernel⟩
theorem co_law : compB 60 C_law (defBody s_law) = some ir_law := by rfl
end K03

set_option Elab.async false
set_option linter.all false
set_option maxRecDepth 100000
set_option maxHeartbeats 1000000

namespace K03
open PySem PySem.Spec PyProof.Rows L2 DW

/-! ### written values -/
theorem bb (b : Bool) : b = true ∨ b = false := by cases b <;> simp
abbrev sD (x : String) : D := .str (Str.ofString x)
theorem wk_op : wk (.str "(") = true := by decide +kernel
theorem wk_cl : wk (.str ")") = true := by decide +kernel
theorem wk_not : wk (.str "not") = true := by decide +kernel
theorem wk_J' : wk (.tup [.str "and", .str "or", .str "unless", .str "onlyif"]) = true := by decide +kernel
theorem wk_O' : wk (.tup [.str "not", .str "(", .str ")"]) = true := by decide +kernel
theorem wk_P : wk (.tup [.str "and", .str "or", .str "if", .str "other"]) = true := by decide +kernel
theorem wk_M : wk (.tup [.tup [.str "a", .str "b"], .tup [.str "b", .str "a"]]) = true := by decide +kernel
theorem wk_C : wk (.tup [.str "a", .str "b", .str "both"]) = true := by decide +kernel
theorem wk_w4 : wk (.tup [.str "all", .str "some", .str "no", .str "allnot"]) = true := by decide +kernel
theorem wk_w3 : wk (.tup [.str "all", .str "some", .str "no"]) = true := by decide +kernel
theorem wk_h : wk (.tup [.str "has"]) = true := by decide +kernel
theorem wk_lj : wk (.tup [.str "least", .str "just"]) = true := by decide +kernel
theorem wk_int (i : Int) : wk (.int i) = true := rfl
theorem fit_int (S : Sto) (i : Int) : Fit S (.int i) := ⟨1, 1, by omega, rfl⟩

/-! ### kinds of values -/
def isTup : D → Bool
  | .tup _ => true
  | .ktup _ => true
  | _ => false
def isStr : D → Bool
  | .str _ => true
  | _ => false
def isInt : D → Bool
  | .int _ => true
  | .bl _ => true
  | _ => false
def isBl : D → Bool
  | .bl _ => true
  | _ => false
theorem kit_tuple (d : D) (h : ∀ n, d ≠ .ty n) : kitB (tyOf d) "tuple" = some (isTup d) := by
  cases d with
  | ty n => exact absurd rfl (h n)
  | non => exact (by decide +kernel : kitB "NoneType" "tuple" = some false)
  | bl b => exact (by decide +kernel : kitB "bool" "tuple" = some false)
  | int b => exact (by decide +kernel : kitB "int" "tuple" = some false)
  | str b => exact (by decide +kernel : kitB "str" "tuple" = some false)
  | tup b => exact (by decide +kernel : kitB "tuple" "tuple" = some true)
  | rol b => exact (by decide +kernel : kitB "list" "tuple" = some false)
  | ref b => exact (by decide +kernel : kitB "list" "tuple" = some false)
  | ktup b => exact (by decide +kernel : kitB "tuple" "tuple" = some true)
theorem kit_str (d : D) (h : ∀ n, d ≠ .ty n) : kitB (tyOf d) "str" = some (isStr d) := by
  cases d with
  | ty n => exact absurd rfl (h n)
  | non => exact (by decide +kernel : kitB "NoneType" "str" = some false)
  | bl b => exact (by decide +kernel : kitB "bool" "str" = some false)
  | int b => exact (by decide +kernel : kitB "int" "str" = some false)
  | str b => exact (by decide +kernel : kitB "str" "str" = some true)
  | tup b => exact (by decide +kernel : kitB "tuple" "str" = some false)
  | rol b => exact (by decide +kernel : kitB "list" "str" = some false)
  | ref b => exact (by decide +kernel : kitB "list" "str" = some false)
  | ktup b => exact (by decide +kernel : kitB "tuple" "str" = some false)
theorem kit_int (d : D) (h : ∀ n, d ≠ .ty n) : kitB (tyOf d) "int" = some (isInt d) := by
  cases d with
  | ty n => exact absurd rfl (h n)
  | non => exact (by decide +kernel : kitB "NoneType" "int" = some false)
  | bl b => exact (by decide +kernel : kitB "bool" "int" = some true)
  | int b => exact (by decide +kernel : kitB "int" "int" = some true)
  | str b => exact (by decide +kernel : kitB "str" "int" = some false)
  | tup b => exact (by decide +kernel : kitB "tuple" "int" = some false)
  | rol b => exact (by decide +kernel : kitB "list" "int" = some false)
  | ref b => exact (by decide +kernel : kitB "list" "int" = some false)
  | ktup b => exact (by decide +kernel : kitB "tuple" "int" = some false)
theorem kit_bool (d : D) (h : ∀ n, d ≠ .ty n) : kitB (tyOf d) "bool" = some (isBl d) := by
  cases d with
  | ty n => exact absurd rfl (h n)
  | non => exact (by decide +kernel : kitB "NoneType" "bool" = some false)
  | bl b => exact (by decide +kernel : kitB "bool" "bool" = some true)
  | int b => exact (by decide +kernel : kitB "int" "bool" = some false)
  | str b => exact (by decide +kernel : kitB "str" "bool" = some false)
  | tup b => exact (by decide +kernel : kitB "tuple" "bool" = some false)
  | rol b => exact (by decide +kernel : kitB "list" "bool" = some false)
  | ref b => exact (by decide +kernel : kitB "list" "bool" = some false)
  | ktup b => exact (by decide +kernel : kitB "tuple" "bool" = some false)
theorem _root_.DW.Fit.nty {S : Sto} {d : D} (h : Fit S d) : ∀ n, d ≠ .ty n := fun n e => by
  subst e
  obtain ⟨L, k, _, h⟩ := h
  cases k <;> cases h
theorem _root_.DW.Fit.nk {S : Sto} {d : D} (h : Fit S d) : ∀ n, d ≠ .ktup n := fun n e => by
  subst e
  obtain ⟨L, k, _, h⟩ := h
  cases k <;> cases h
theorem _root_.DW.Fit.nrol {S : Sto} {d : D} (h : Fit S d) : ∀ n, d ≠ .rol n := fun n e => by
  subst e
  obtain ⟨L, k, _, h⟩ := h
  cases k <;> cases h

/-! ### the mirrors -/
def isP (d : D) : Bool := [sD "and", sD "or", sD "if", sD "other"].any fun c => eqc d c
def isC (d : D) : Bool := [sD "a", sD "b", sD "both"].any fun c => eqc d c
def isM (f s : D) : Bool := [D.tup [sD "a", sD "b"], D.tup [sD "b", sD "a"]].any fun c => eqc (.tup [f, s]) c
def isNum (d : D) (lo hi : Int) : Bool := match d with
  | .int i => decide (lo ≤ i) && decide (i ≤ hi)
  | _ => false
def isTriple (d : D) (ms cs : List D) : Bool := match d with
  | .tup [w, f, s] => if (ms.any fun c => eqc w c) = true then isM f s else (cs.any fun c => eqc w c) && (isNum f 1 3 && isC s)
  | _ => false
abbrev w4 : List D := [sD "all", sD "some", sD "no", sD "allnot"]
abbrev w3 : List D := [sD "all", sD "some", sD "no"]
abbrev wh : List D := [sD "has"]
abbrev wlj : List D := [sD "least", sD "just"]
def big : Int := 1000000000000000000000000000000
def isHouse (d : D) : Bool := match d with
  | .tup cs => decide (cs.length = 4) && cs.all fun c => isNum c 0 big
  | _ => false
def isNest : Nat → D → Bool
  | 0, _ => false
  | j + 1, d => match d with
    | .tup (w :: r) =>
      if eqc w (sD "not") = true then (match r with
        | [f] => isNest j f
        | _ => false)
      else if isP w = true then (match r with
        | [f, g] => isNest j f && isNest j g
        | _ => false)
      else isTriple (.tup (w :: r)) w3 wlj
    | _ => false


/-! ### formulas and houses -/
inductive Fm where
  | all (m : Bool)
  | som (m : Bool)
  | non (m : Bool)
  | cnt (l : Bool) (n : Nat) (c : Fin 3)
  | not (f : Fm)
  | two (w : Fin 4) (f g : Fm)
/-- how many people: a alone, b alone, both; and the others -/
structure Hs where
  z : Int
  a : Int
  b : Int
  c : Int
  deriving DecidableEq
def encH (h : Hs) : D := .tup [.int h.z, .int h.a, .int h.b, .int h.c]
def mks (m : Bool) : D × D := if m = true then (.str "a", .str "b") else (.str "b", .str "a")
def cntD (c : Fin 3) : D := match c with
  | 0 => .str "a"
  | 1 => .str "b"
  | 2 => .str "both"
def wrdD (w : Fin 4) : D := match w with
  | 0 => .str "and"
  | 1 => .str "or"
  | 2 => .str "if"
  | 3 => .str "other"
def lstD (l : Bool) : D := if l = true then .str "least" else .str "just"
def encF : Fm → D
  | .all m => .tup [.str "all", (mks m).1, (mks m).2]
  | .som m => .tup [.str "some", (mks m).1, (mks m).2]
  | .non m => .tup [.str "no", (mks m).1, (mks m).2]
  | .cnt l n c => .tup [lstD l, .int (n : Nat), cntD c]
  | .not f => .tup [.str "not", encF f]
  | .two w f g => .tup [wrdD w, encF f, encF g]
def many (h : Hs) (c : Fin 3) : Int := match c with
  | 0 => h.a + h.c
  | 1 => h.b + h.c
  | 2 => h.c
def evw (w : Fin 4) (x y : Bool) : Bool := match w with
  | 0 => x && y
  | 1 => x || y
  | 2 => !x || y
  | 3 => x != y
def ev (h : Hs) : Fm → Bool
  | .all m => decide ((if m = true then h.a else h.b) = 0)
  | .som _ => decide (0 < h.c)
  | .non _ => decide (h.c = 0)
  | .cnt l n c => if l = true then decide ((n : Int) ≤ many h c) else decide (many h c = n)
  | .not f => !ev h f
  | .two w f g => evw w (ev h f) (ev h g)
def dep : Fm → Nat
  | .not f => dep f + 1
  | .two _ f g => max (dep f) (dep g) + 1
  | _ => 1
def okF : Fm → Prop
  | .cnt _ n _ => 1 ≤ n ∧ n ≤ 3
  | .not f => okF f
  | .two _ f g => okF f ∧ okF g
  | _ => True
def okH (h : Hs) : Prop := (0 ≤ h.z ∧ h.z ≤ big) ∧ (0 ≤ h.a ∧ h.a ≤ big) ∧ (0 ≤ h.b ∧ h.b ≤ big) ∧ (0 ≤ h.c ∧ h.c ≤ big)
/-- the simple formulas of a formula -/
def atoms : Fm → List Fm
  | .not f => atoms f
  | .two _ f g => atoms f ++ atoms g
  | f => [f]
def simple : Fm → Bool
  | .not _ => false
  | .two _ _ _ => false
  | _ => true
/-- a number by its bits, the lowest one first -/
def bitsN : List Bool → Nat
  | [] => 0
  | b :: r => b.toNat + 2 * bitsN r
def mean (f : Fm) (hs : List Hs) : Int := (bitsN (hs.map fun h => ev h f) : Nat)
def keyF (f : Fm) : List L2.Key := match keyOf (encF f) with
  | some k => k
  | none => []
/-- the order of houses -/
def hl (h : Hs) : List Int := [h.z, h.a, h.b, h.c]
def hle (a b : Hs) : Bool := PySem.W.dataLe false keySum (hl a) (hl b)
def cnts : List Int := [0, 1, 2, 3, 4]
def smallU : List Hs := cnts.flatMap fun a => cnts.flatMap fun b => cnts.map fun c => ⟨0, a, b, c⟩
def smallH : List Hs := smallU.mergeSort hle
def bigU : List Hs := cnts.flatMap fun c => cnts.flatMap fun b => cnts.flatMap fun a => cnts.map fun z => ⟨z, a, b, c⟩
def bigH : List Hs := bigU.mergeSort hle
def firstD (o : Option Hs) : D := match o with
  | some h => encH h
  | none => .non
def howD (f : Fm) : D := if (smallH.all fun h => ev h f) = true then .str "always" else if (smallH.any fun h => ev h f) = true then .str "sometimes" else .str "never"

/-! ### the promises -/
abbrev M : Int := 2147483237
/-- the source of draws at n -/
def Src (S : Sto) (n : Nat) : Prop := ∃ a b : Int, S[n]? = some (.lst [.int a, .int b]) ∧ 0 ≤ a ∧ 0 ≤ b ∧ b < M
def pur1 (f : D → D) : FSp := fun ds S Q => ∃ d, ds = [d] ∧ Fit S d ∧ ∀ S', Ext S S' → Q (f d) S'
def spIsHouse : FSp := pur1 fun d => .bl (isHouse d)
def spIsFormula : FSp := fun ds S Q => ∃ d, ds = [d] ∧ Fit S d ∧ Q (.bl (isNest 10 d)) S
def spIsNumber : FSp := fun ds S Q => ∃ d lo hi, ds = [d, .int lo, .int hi] ∧ Fit S d ∧ Q (.bl (isNum d lo hi)) S
def spIsTriple : FSp := fun ds S Q => ∃ d ms cs, ds = [d, .tup ms, .tup cs] ∧ Fit S d ∧ wk (.tup ms) = true ∧ wk (.tup cs) = true ∧ Q (.bl (isTriple d ms cs)) S
def spIsNested (n : Nat) : FSp := fun ds S Q => ∃ (d : D) (j : Nat), ds = [d, .int j] ∧ j + 3 ≤ n ∧ Fit S d ∧ Q (.bl (isNest j d)) S
def spCkFormula : FSp := fun ds S Q => ∃ d, ds = [d] ∧ Fit S d ∧ isNest 10 d = true ∧ Q .non S
def spCkHouse : FSp := fun ds S Q => ∃ d, ds = [d] ∧ Fit S d ∧ isHouse d = true ∧ ∀ S', Ext S S' → Q .non S'
def spCkTruth : FSp := fun ds S Q => ∃ b, ds = [.bl b] ∧ Q .non S
/-- a new list comes -/
def newL (xs : List D) (S : Sto) (Q : KQ) : Prop := ∀ S' n, Ext S S' → S.length ≤ n → S'[n]? = some (.lst xs) → Q (.ref n) S'
def spSmall : FSp := fun ds S Q => ds = [] ∧ newL (smallH.map encH) S Q
def spMeanings : FSp := fun ds S Q => ∃ (nf nh : Nat) (fs : List Fm) (hs : List Hs), ds = [.ref nf, .ref nh] ∧ S[nf]? = some (.lst (fs.map encF)) ∧ S[nh]? = some (.lst (hs.map encH)) ∧ fs.length ≤ 300 ∧ hs.length ≤ 200 ∧ (∀ f ∈ fs, okF f ∧ dep f ≤ 17) ∧ (fs.map fun f => (atoms f).length).sum ≤ 50000 ∧
  newL (fs.map fun f => .int (mean f hs)) S Q
def spEvery : FSp := fun ds S Q => ∃ (n : Nat) (xs : List D), ds = [.ref n] ∧ S[n]? = some (.lst xs) ∧ xs.length ≤ 1000 ∧ Q (.int ((2 ^ xs.length : Nat) - 1)) S
def spHousesOf : FSp := fun ds S Q => ∃ (n : Nat) (f : Fm) (hs : List Hs), ds = [.int (mean f hs), .ref n] ∧ S[n]? = some (.lst (hs.map encH)) ∧ hs.length ≤ 200 ∧ newL ((hs.filter fun h => ev h f).map encH) S Q
def spFirst : FSp := fun ds S Q => ∃ f, ds = [encF f] ∧ okF f ∧ dep f ≤ 11 ∧ ∀ S', Ext S S' → Q (firstD (smallH.find? fun h => ev h f)) S'
def spMeaning (n : Nat) : FSp := fun ds S Q => ∃ (f : Fm) (m : Nat) (hs : List Hs) (kvs : List (List L2.Key × D)), ds = [encF f, .ref m, .int ((2 ^ hs.length : Nat) - 1)] ∧ dep f + 1 ≤ n ∧ okF f ∧ S[m]? = some (.dct kvs) ∧ (∀ a ∈ atoms f, valD kvs (keyF a) = some (.int (mean a hs))) ∧ Q (.int (mean f hs)) S
def spSimple : FSp := fun ds S Q => ∃ (nf nh : Nat) (fs : List Fm) (hs : List Hs), ds = [.ref nf, .ref nh] ∧ S[nf]? = some (.lst (fs.map encF)) ∧ S[nh]? = some (.lst (hs.map encH)) ∧ fs.length ≤ 300 ∧ hs.length ≤ 200 ∧ (∀ f ∈ fs, okF f ∧ dep f ≤ 17) ∧ (fs.map fun f => (atoms f).length).sum ≤ 50000 ∧
  ∀ S' n kvs, Ext S S' → S.length ≤ n → S'[n]? = some (.dct kvs) → (∀ f ∈ fs, ∀ a ∈ atoms f, valD kvs (keyF a) = some (.int (mean a hs))) → Q (.ref n) S'
def spParts (n : Nat) : FSp := fun ds S Q => ∃ f, ds = [encF f] ∧ dep f + 1 ≤ n ∧ dep f ≤ 17 ∧ okF f ∧ newL ((atoms f).map encF) S Q
def spHoldsS : FSp := fun ds S Q => ∃ (f : Fm) (h : Hs), ds = [encF f, encH h] ∧ simple f = true ∧ okF f ∧ ∀ S', Ext S S' → Q (.bl (ev h f)) S'
def spHolds : FSp := fun ds S Q => ∃ (f : Fm) (h : Hs), ds = [encF f, encH h] ∧ okF f ∧ dep f ≤ 10 ∧ okH h ∧ ∀ S', Ext S S' → Q (.bl (ev h f)) S'
def spHow : FSp := fun ds S Q => ∃ f, ds = [encF f] ∧ okF f ∧ dep f ≤ 10 ∧ ∀ S', Ext S S' → Q (howD f) S'
def spFirstH : FSp := fun ds S Q => ∃ (f : Fm) (t : Bool), ds = [encF f, .bl t] ∧ okF f ∧ dep f ≤ 10 ∧ ∀ S', Ext S S' → Q (firstD (smallH.find? fun h => ev h f == t)) S'
/-- the script: a list that is only read -/
def Scr (S : Sto) (d : D) (ns : List Int) : Prop := d = .rol (ns.map D.int) ∨ ∃ m, d = .ref m ∧ S[m]? = some (.lst (ns.map D.int))
theorem Scr.ext {S S' : Sto} {d : D} {ns : List Int} (e : Ext S S') (h : Scr S d ns) : Scr S' d ns := by
  rcases h with h | ⟨m, h1, h2⟩
  · exact .inl h
  · exact .inr ⟨m, h1, e _ _ h2⟩
theorem Scr.len {S : Sto} {d : D} {ns : List Int} (h : Scr S d ns) (Q : KQ) : dLen d S Q = Q (.int (ns.length : Nat)) S := by
  rcases h with rfl | ⟨m, rfl, h2⟩
  · rw [len_rol, List.length_map]
  · rw [len_ref h2, List.length_map]
theorem Scr.idx {S : Sto} {d : D} {ns : List Int} (h : Scr S d ns) (i : D) (Q : KQ) : dIdx d i S Q = dIdx (.rol (ns.map D.int)) i S Q := by
  rcases h with rfl | ⟨m, rfl, h2⟩
  · rfl
  · cases i with
    | int j => rw [idx_ref h2]; rfl
    | _ => simp only [dIdx, h2]
def spSource : FSp := fun ds S Q => ∃ (d : D) (ns : List Int) (k : Nat), ds = [d, .int k] ∧ Scr S d ns ∧ ns.length ≤ 63 ∧ k ≤ 63 ∧ ∀ S' n, Ext S S' → S.length ≤ n → Src S' n → Q (.ref n) S'
def spDraw : FSp := fun ds S Q => ∃ (n : Nat) (m : Int), ds = [.ref n, .int m] ∧ Src S n ∧ 0 < m ∧ m < 1000000 ∧ ∀ S' r, ExtB n S S' → Src S' n → 0 ≤ r → r < m → Q (.int r) S'
def spChoice : FSp := fun ds S Q => ∃ (n m : Nat) (xs : List D), ds = [.ref n, .ref m] ∧ Src S n ∧ m ≠ n ∧ S[m]? = some (.lst xs) ∧ 0 < xs.length ∧ xs.length < 1000 ∧ ∀ S' x, ExtB n S S' → Src S' n → x ∈ xs → Q x S'
def spLHolds (n : Nat) : FSp := fun ds S Q => ∃ (f : Fm) (h : Hs), ds = [encF f, encH h] ∧ dep f + 1 ≤ n ∧ okF f ∧ 0 ≤ h.c ∧ ∀ S', Ext S S' → Q (.bl (ev h f)) S'
def spLHouses : FSp := fun ds S Q => ds = [.int 4] ∧ newL (bigH.map encH) S Q
def spLTruths : FSp := fun ds S Q => ∃ (f : Fm) (n : Nat) (hs : List Hs), ds = [encF f, .ref n] ∧ okF f ∧ dep f ≤ 10 ∧ S[n]? = some (.lst (hs.map encH)) ∧ hs.length ≤ 1000 ∧ (∀ h ∈ hs, 0 ≤ h.c) ∧ newL (hs.map fun h => .bl (ev h f)) S Q
def spFormula (n : Nat) : FSp := fun ds S Q => ∃ (m j : Nat), ds = [.ref m, .int j] ∧ 1 ≤ j ∧ j ≤ 4 ∧ j + 3 ≤ n ∧ Src S m ∧ ∀ S' f, ExtB m S S' → Src S' m → okF f → dep f ≤ j → Q (encF f) S'
def spLFirst : FSp := fun ds S Q => ∃ (n m : Nat) (f : Fm) (hs : List Hs) (t : Bool), ds = [.ref m, .ref n, .bl t] ∧ S[n]? = some (.lst (hs.map encH)) ∧ S[m]? = some (.lst (hs.map fun h => .bl (ev h f))) ∧ hs.length ≤ 1000 ∧ Q (firstD (hs.find? fun h => ev h f == t)) S
def spLRight : FSp := fun ds S Q => ∃ (m n : Nat) (f : Fm), ds = [.ref m, encF f, .ref n] ∧ Src S m ∧ n ≠ m ∧ okF f ∧ dep f ≤ 4 ∧ S[n]? = some (.lst (bigH.map encH)) ∧ ∀ S', ExtB m S S' → Src S' m → Q (.bl true) S'
def spWritten : FSp := fun ds S Q => ds = [] ∧ ∀ S', Ext S S' → Q (.bl true) S'
def spLaw : FSp := fun ds S Q => ∃ (d : D) (ns : List Int), ds = [d] ∧ Scr S d ns ∧ ns.length ≤ 63 ∧ ∀ S', Q (.bl true) S'
def spSrtK : FSp := fun ds S Q => ∃ x, ds = [x] ∧ dSortK x S Q
/-- the word for the error of holds(d, e) .. -/
def spLamHolds : FSp := fun ds S Q => ∃ d e, ds = [d, e] ∧ Fit S d ∧ Fit S e ∧ ((isNest 10 d = false ∧ ∀ S', Ext S S' → Q (.str "formula") S') ∨ (isNest 10 d = true ∧ isHouse e = false ∧ ∀ S', Ext S S' → Q (.str "house") S'))
def spLamHow : FSp := fun ds S Q => ∃ d, ds = [d] ∧ Fit S d ∧ isNest 10 d = false ∧ ∀ S', Ext S S' → Q (.str "formula") S'
def spLamFirst : FSp := fun ds S Q => ∃ d e, ds = [d, e] ∧ Fit S d ∧ Fit S e ∧ ((isNest 10 d = false ∧ ∀ S', Ext S S' → Q (.str "formula") S') ∨ (isNest 10 d = true ∧ isBl e = false ∧ ∀ S', Ext S S' → Q (.str "truth") S'))

def lv (n h : Nat) (sp : FSp) : FSp := fun ds S Q => h ≤ n ∧ sp ds S Q
/-- the bit of a house -/
def spHoldsAt : FSp := fun ds S Q => ∃ (m : Int) (j : Nat), ds = [.int m, .int (j : Nat)] ∧ Q (.bl (decide (Builtin.bitAnd (m / 2 ^ j) 1 = 1))) S
def fsN (n : Nat) : List FSp := [lv n 2 spIsHouse, lv n 14 spIsFormula, lv n 1 spIsNumber, lv n 2 spIsTriple, spIsNested n, lv n 15 spCkFormula, lv n 3 spCkHouse, lv n 1 spCkTruth, lv n 1 spSmall, lv n 20 spMeanings, lv n 1 spEvery, lv n 1 spHoldsAt, lv n 2 spHousesOf, lv n 21 spFirst, spMeaning n, lv n 19 spSimple, spParts n, lv n 1 spHoldsS, lv n 21 spHolds, lv n 21 spHow, lv n 22 spFirstH, lv n 1 spSource, lv n 1 spDraw, lv n 2 spChoice, spLHolds n, lv n 1 spLHouses, lv n 12 spLTruths, spFormula n, lv n 1 spLFirst, lv n 23 spLRight, fun _ _ _ => False, lv n 23 spWritten, lv n 24 spLaw, lv n 0 spSrtK, lv n 22 spLamHolds, lv n 22 spLamHow, lv n 22 spLamFirst]
theorem f0 (n : Nat) : (fsN n)[0]? = some (lv n 2 spIsHouse) := rfl
theorem f1 (n : Nat) : (fsN n)[1]? = some (lv n 14 spIsFormula) := rfl
theorem f2 (n : Nat) : (fsN n)[2]? = some (lv n 1 spIsNumber) := rfl
theorem f3 (n : Nat) : (fsN n)[3]? = some (lv n 2 spIsTriple) := rfl
theorem f4 (n : Nat) : (fsN n)[4]? = some (spIsNested n) := rfl
theorem f5 (n : Nat) : (fsN n)[5]? = some (lv n 15 spCkFormula) := rfl
theorem f6 (n : Nat) : (fsN n)[6]? = some (lv n 3 spCkHouse) := rfl
theorem f7 (n : Nat) : (fsN n)[7]? = some (lv n 1 spCkTruth) := rfl
theorem f8 (n : Nat) : (fsN n)[8]? = some (lv n 1 spSmall) := rfl
theorem f9 (n : Nat) : (fsN n)[9]? = some (lv n 20 spMeanings) := rfl
theorem f10 (n : Nat) : (fsN n)[10]? = some (lv n 1 spEvery) := rfl
theorem f11 (n : Nat) : (fsN n)[11]? = some (lv n 1 spHoldsAt) := rfl
theorem f12 (n : Nat) : (fsN n)[12]? = some (lv n 2 spHousesOf) := rfl
theorem f13 (n : Nat) : (fsN n)[13]? = some (lv n 21 spFirst) := rfl
theorem f14 (n : Nat) : (fsN n)[14]? = some (spMeaning n) := rfl
theorem f15 (n : Nat) : (fsN n)[15]? = some (lv n 19 spSimple) := rfl
theorem f16 (n : Nat) : (fsN n)[16]? = some (spParts n) := rfl
theorem f17 (n : Nat) : (fsN n)[17]? = some (lv n 1 spHoldsS) := rfl
theorem f18 (n : Nat) : (fsN n)[18]? = some (lv n 21 spHolds) := rfl
theorem f19 (n : Nat) : (fsN n)[19]? = some (lv n 21 spHow) := rfl
theorem f20 (n : Nat) : (fsN n)[20]? = some (lv n 22 spFirstH) := rfl
theorem f21 (n : Nat) : (fsN n)[21]? = some (lv n 1 spSource) := rfl
theorem f22 (n : Nat) : (fsN n)[22]? = some (lv n 1 spDraw) := rfl
theorem f23 (n : Nat) : (fsN n)[23]? = some (lv n 2 spChoice) := rfl
theorem f24 (n : Nat) : (fsN n)[24]? = some (spLHolds n) := rfl
theorem f25 (n : Nat) : (fsN n)[25]? = some (lv n 1 spLHouses) := rfl
theorem f26 (n : Nat) : (fsN n)[26]? = some (lv n 12 spLTruths) := rfl
theorem f27 (n : Nat) : (fsN n)[27]? = some (spFormula n) := rfl
theorem f28 (n : Nat) : (fsN n)[28]? = some (lv n 1 spLFirst) := rfl
theorem f29 (n : Nat) : (fsN n)[29]? = some (lv n 23 spLRight) := rfl
theorem f30 (n : Nat) : (fsN n)[30]? = some (fun _ _ _ => False) := rfl
theorem f31 (n : Nat) : (fsN n)[31]? = some (lv n 23 spWritten) := rfl
theorem f32 (n : Nat) : (fsN n)[32]? = some (lv n 24 spLaw) := rfl
theorem f33 (n : Nat) : (fsN n)[33]? = some (lv n 0 spSrtK) := rfl
theorem f34 (n : Nat) : (fsN n)[34]? = some (lv n 22 spLamHolds) := rfl
theorem f35 (n : Nat) : (fsN n)[35]? = some (lv n 22 spLamHow) := rfl
theorem f36 (n : Nat) : (fsN n)[36]? = some (lv n 22 spLamFirst) := rfl
end K03

set_option Elab.async false
set_option linter.all false
set_option maxRecDepth 100000
set_option maxHeartbeats 1000000

namespace K03
open PySem PySem.Spec PyProof.Rows L2 DW

theorem isi_fit {S : Sto} {d : D} {t : String} {b : Bool} {Q : KQ} (hf : Fit S d) (hk : kitB (tyOf d) t = some b) : dIsi d (.ty t) S Q = Q (.bl b) S := by
  unfold dIsi
  simp only [hk]
  cases d with
  | ty n => exact absurd rfl (hf.nty n)
  | ref n =>
    obtain ⟨L, k, _, h⟩ := hf
    cases k with
    | zero => cases h
    | succ k =>
      simp only [okd] at h
      cases e : S[n]? with
      | none => rw [e] at h; cases h
      | some o =>
        cases o with
        | lst xs => simp [e]
        | dct _ => rw [e] at h; cases h
  | _ => simp
theorem in_marks {S : Sto} {x : D} {B : KB} : dIn x (.tup [.ktup [.str "a", .str "b"], .ktup [.str "b", .str "a"]]) S B = dIn x (.tup [.tup [.str "a", .str "b"], .tup [.str "b", .str "a"]]) S B := by
  unfold dIn
  rw [show toPy 66 S (.tup [.ktup [.str "a", .str "b"], .ktup [.str "b", .str "a"]]) = toPy 66 S (.tup [.tup [.str "a", .str "b"], .tup [.str "b", .str "a"]]) from rfl]
theorem ob_is_number (n : Nat) (ds : List D) (S : Sto) (Q : KQ) (h : lv (n + 1) 1 spIsNumber ds S Q) : wB (fsN n) ir_is_number (defEnds Q) (startD C_is_number.N ds) S := by
  obtain ⟨_, d, lo, hi, rfl, hf, q⟩ := h
  have hty := hf.nty
  simp only [DW.wG, DW.wGs, gsLen, List.set_cons_succ, List.set_cons_zero, wB, wS, DW.wT, DW.wTs, DW.wE, DW.wA, DW.wO, DW.wI, List.getElem?_cons_succ, List.getElem?_cons_zero, cmp_eq, cmp_ne, cmp_in, cmp_nin, inA_tup, inA_ktup, op_shl', op_shr', op_and', op_or', op_xor', is_bl, isn_bl, iter_ktup, cmp_lt, cmp_le, cmp_gt, cmp_ge, tru_non, tru_bl, tru_int, tru_tup, op_addi, op_subi, op_muli, op_divi, op_modi, op_powi, op_addt, op_rept, len_tup, len_rol, idx_tup, idx_rol, slc_tup, iter_tup, iter_rol, eqc_int, LIM, Nat.reduceLeDiff, dBlt, dInt1, defEnds, startD, List.map_cons, List.map_nil, List.length_cons, List.length_nil, List.replicate_succ, List.replicate_zero, List.cons_append, List.nil_append, Nat.reduceAdd, Nat.reduceSub, isRef, Nat.zero_add, and_true, true_and, if_true, Bool.false_eq_true, if_false, ir_is_number, isi_fit hf (kit_int d hty), isi_fit hf (kit_bool d hty)]
  cases d with
  | ty n => exact absurd rfl (hty n)
  | ktup n => exact absurd rfl (hf.nk n)
  | int i =>
    simp only [isInt, isBl, cmp_le, if_true, true_and, Bool.false_eq_true, if_false, Bool.and_true, Bool.and_false, Bool.true_and, Bool.false_and, Bool.not_true, Bool.not_false, Bool.or_true, Bool.or_false, Bool.true_or, Bool.false_or, isNum] at q ⊢
    rcases bb (decide (lo ≤ i)) with h1 | h1 <;> simp only [h1, if_true, true_and, Bool.false_eq_true, if_false, Bool.and_true, Bool.and_false, Bool.true_and, Bool.false_and, Bool.not_true, Bool.not_false, Bool.or_true, Bool.or_false, Bool.true_or, Bool.false_or] at q ⊢ <;> exact q
  | _ => simp only [isInt, isBl, if_true, true_and, Bool.false_eq_true, if_false, Bool.and_true, Bool.and_false, Bool.true_and, Bool.false_and, Bool.not_true, Bool.not_false, Bool.or_true, Bool.or_false, Bool.true_or, Bool.false_or, isNum] at q ⊢ <;> exact q
theorem any_marks (f s : D) : ([D.tup [D.str "a", D.str "b"], D.tup [D.str "b", D.str "a"]].any fun c => eqc (.tup [f, s]) c) = isM f s := rfl
theorem any_cnt (d : D) : ([D.str "a", D.str "b", D.str "both"].any fun c => eqc d c) = isC d := rfl
theorem _root_.DW.Fit.two {S : Sto} {w f s : D} (h : Fit S (.tup [w, f, s])) : Fit S (.tup [f, s]) := by
  obtain ⟨L, k, hk, h⟩ := h
  refine ⟨L, k, hk, ?_⟩
  cases k with
  | zero => cases h
  | succ k =>
    simp only [okd, List.length_cons, List.length_nil, Bool.and_eq_true, decide_eq_true_eq, List.all_cons, List.all_nil] at h ⊢
    exact ⟨by omega, h.2.2⟩
theorem ob__is_triple (n : Nat) (ds : List D) (S : Sto) (Q : KQ) (h : lv (n + 1) 2 spIsTriple ds S Q) : wB (fsN n) ir__is_triple (defEnds Q) (startD C__is_triple.N ds) S := by
  obtain ⟨hl, d, ms, cs, rfl, hf, hm, hc, q⟩ := h
  have hty := hf.nty
  simp only [DW.wG, DW.wGs, gsLen, List.set_cons_succ, List.set_cons_zero, wB, wS, DW.wT, DW.wTs, DW.wE, DW.wA, DW.wO, DW.wI, List.getElem?_cons_succ, List.getElem?_cons_zero, cmp_eq, cmp_ne, cmp_in, cmp_nin, inA_tup, inA_ktup, op_shl', op_shr', op_and', op_or', op_xor', is_bl, isn_bl, iter_ktup, cmp_lt, cmp_le, cmp_gt, cmp_ge, tru_non, tru_bl, tru_int, tru_tup, op_addi, op_subi, op_muli, op_divi, op_modi, op_powi, op_addt, op_rept, len_tup, len_rol, idx_tup, idx_rol, slc_tup, iter_tup, iter_rol, eqc_int, LIM, Nat.reduceLeDiff, dBlt, dInt1, defEnds, startD, List.map_cons, List.map_nil, List.length_cons, List.length_nil, List.replicate_succ, List.replicate_zero, List.cons_append, List.nil_append, Nat.reduceAdd, Nat.reduceSub, isRef, Nat.zero_add, and_true, true_and, if_true, Bool.false_eq_true, if_false, ir__is_triple, isi_fit hf (kit_tuple d hty), c_MARKS, c_COUNTED, f2, c_MOST_TOLD]
  cases d with
  | ty n => exact absurd rfl (hty n)
  | ktup n => exact absurd rfl (hf.nk n)
  | tup xs =>
    simp only [isTup, len_tup, dEq_iff (fit_int S _) (wk_int 3), eqc_int, if_true, true_and, Bool.false_eq_true, if_false, Bool.and_true, Bool.and_false, Bool.true_and, Bool.false_and, Bool.not_true, Bool.not_false, Bool.or_true, Bool.or_false, Bool.true_or, Bool.false_or]
    match xs, hf, q with
    | [], hf, q => simpa [isTriple] using q
    | [a], hf, q => simpa [isTriple] using q
    | [a, b], hf, q => simpa [isTriple] using q
    | [w, f, s], hf, q =>
      have hw : Fit S w := hf.parts w (by simp)
      have hff : Fit S f := hf.parts f (by simp)
      have hs : Fit S s := hf.parts s (by simp)
      have h2 := hf.two
      simp only [isTriple] at q
      simp only [List.length_cons, List.length_nil, Nat.reduceAdd, show ((3 : Nat) : Int) = 3 from rfl, decide_true, dIn_iff hw hm, dIn_iff hw hc, in_marks, dIn_iff h2 wk_M, if_true, true_and, Bool.false_eq_true, if_false, Bool.and_true, Bool.and_false, Bool.true_and, Bool.false_and, Bool.not_true, Bool.not_false, Bool.or_true, Bool.or_false, Bool.true_or, Bool.false_or]
      rcases bb (ms.any fun c => eqc w c) with h1 | h1
      · simp only [h1, if_true, any_marks] at q ⊢
        exact q
      · simp only [h1, Bool.false_eq_true, if_false] at q ⊢
        rcases bb (cs.any fun c => eqc w c) with h3 | h3
        · simp only [h3, if_true, Bool.true_and] at q ⊢
          refine ⟨by omega, f, 1, 3, rfl, hff, ?_⟩
          simp only [tru_bl, dIn_iff hs wk_C, any_cnt]
          rcases bb (isNum f 1 3) with h4 | h4 <;> simp only [h4, if_true, true_and, Bool.false_eq_true, if_false, Bool.and_true, Bool.and_false, Bool.true_and, Bool.false_and, Bool.not_true, Bool.not_false, Bool.or_true, Bool.or_false, Bool.true_or, Bool.false_or] at q ⊢ <;> exact q
        · simp only [h3, Bool.false_eq_true, if_false, Bool.false_and] at q ⊢
          exact q
    | a :: b :: c :: e :: r, hf, q =>
      have : ¬ (((a :: b :: c :: e :: r).length : Nat) : Int) = 3 := by simp only [List.length_cons]; omega
      simp only [this, decide_false, if_true, true_and, Bool.false_eq_true, if_false, Bool.and_true, Bool.and_false, Bool.true_and, Bool.false_and, Bool.not_true, Bool.not_false, Bool.or_true, Bool.or_false, Bool.true_or, Bool.false_or]
      simpa [isTriple] using q
  | _ => simpa [isTup, isTriple] using q

theorem at0 (w : D) (r : List D) : atI (w :: r) 0 = some w := atI_nat (xs := w :: r) (j := 0) rfl
theorem any_P (d : D) : ([D.str "and", D.str "or", D.str "if", D.str "other"].any fun c => eqc d c) = isP d := rfl
theorem ob__is_nested (n : Nat) (ds : List D) (S : Sto) (Q : KQ) (h : spIsNested (n + 1) ds S Q) : wB (fsN n) ir__is_nested (defEnds Q) (startD C__is_nested.N ds) S := by
  obtain ⟨d, j, rfl, hl, hf, q⟩ := h
  have hty := hf.nty
  simp only [DW.wG, DW.wGs, gsLen, List.set_cons_succ, List.set_cons_zero, wB, wS, DW.wT, DW.wTs, DW.wE, DW.wA, DW.wO, DW.wI, List.getElem?_cons_succ, List.getElem?_cons_zero, cmp_eq, cmp_ne, cmp_in, cmp_nin, inA_tup, inA_ktup, op_shl', op_shr', op_and', op_or', op_xor', is_bl, isn_bl, iter_ktup, cmp_lt, cmp_le, cmp_gt, cmp_ge, tru_non, tru_bl, tru_int, tru_tup, op_addi, op_subi, op_muli, op_divi, op_modi, op_powi, op_addt, op_rept, len_tup, len_rol, idx_tup, idx_rol, slc_tup, iter_tup, iter_rol, eqc_int, LIM, Nat.reduceLeDiff, dBlt, dInt1, defEnds, startD, List.map_cons, List.map_nil, List.length_cons, List.length_nil, List.replicate_succ, List.replicate_zero, List.cons_append, List.nil_append, Nat.reduceAdd, Nat.reduceSub, isRef, Nat.zero_add, and_true, true_and, if_true, Bool.false_eq_true, if_false, ir__is_nested, isi_fit hf (kit_tuple d hty), c_PAIR_WORDS, f4, f3, dEq_iff (fit_int S _) (wk_int 0)]
  cases j with
  | zero => simpa [isNest] using q
  | succ j =>
    have hj : ¬ ((j + 1 : Nat) : Int) = 0 := by omega
    have hj1 : ((j + 1 : Nat) : Int) - 1 = (j : Int) := by omega
    simp only [hj, hj1, decide_false, if_true, true_and, Bool.false_eq_true, if_false, Bool.and_true, Bool.and_false, Bool.true_and, Bool.false_and, Bool.not_true, Bool.not_false, Bool.or_true, Bool.or_false, Bool.true_or, Bool.false_or]
    have call : ∀ f B, Fit S f → B (D.bl (isNest j f)) S → spIsNested n [f, .int j] S B := fun f B hf hb => ⟨f, j, rfl, by omega, hf, hb⟩
    cases d with
    | ty n => exact absurd rfl (hty n)
    | ktup n => exact absurd rfl (hf.nk n)
    | tup xs =>
      simp only [isTup, len_tup, dEq_iff (fit_int S _) (wk_int 0), eqc_int, idx_tup, if_true, true_and, Bool.false_eq_true, if_false, Bool.and_true, Bool.and_false, Bool.true_and, Bool.false_and, Bool.not_true, Bool.not_false, Bool.or_true, Bool.or_false, Bool.true_or, Bool.false_or]
      cases xs with
      | nil => simpa [isNest] using q
      | cons w r =>
        have hw : Fit S w := hf.parts w (by simp)
        have h0 : ¬ (((w :: r).length : Nat) : Int) = 0 := by simp only [List.length_cons]; omega
        simp only [h0, decide_false, if_true, true_and, Bool.false_eq_true, if_false, Bool.and_true, Bool.and_false, Bool.true_and, Bool.false_and, Bool.not_true, Bool.not_false, Bool.or_true, Bool.or_false, Bool.true_or, Bool.false_or]
        refine ⟨w, at0 w r, ?_⟩
        simp only [dEq_iff hw wk_not]
        simp only [isNest] at q
        rcases bb (eqc w (D.str "not")) with h1 | h1
        · simp only [h1, if_true] at q ⊢
          simp only [dEq_iff (fit_int S _) (wk_int 2), eqc_int]
          match r, hf, q with
          | [f], hf, q =>
            simp only [List.length_cons, List.length_nil, show ((0 + 1 + 1 : Nat) : Int) = 2 from rfl, decide_true, if_true, tru_bl] at q ⊢
            exact ⟨f, rfl, call f _ (hf.parts f (by simp)) q⟩
          | [], hf, q => simpa using q
          | a :: b :: r, hf, q =>
            have : ¬ (((w :: a :: b :: r).length : Nat) : Int) = 2 := by simp only [List.length_cons]; omega
            simp only [this, decide_false, tru_bl, if_true, true_and, Bool.false_eq_true, if_false, Bool.and_true, Bool.and_false, Bool.true_and, Bool.false_and, Bool.not_true, Bool.not_false, Bool.or_true, Bool.or_false, Bool.true_or, Bool.false_or]
            exact q
        · simp only [h1, Bool.false_eq_true, if_false] at q ⊢
          refine ⟨w, at0 w r, ?_⟩
          simp only [dIn_iff hw wk_P, any_P]
          rcases bb (isP w) with h2 | h2
          · simp only [h2, if_true] at q ⊢
            simp only [dEq_iff (fit_int S _) (wk_int 3), eqc_int]
            match r, hf, q with
            | [f, g], hf, q =>
              simp only [List.length_cons, List.length_nil, show ((0 + 1 + 1 + 1 : Nat) : Int) = 3 from rfl, decide_true, if_true, tru_bl] at q ⊢
              refine ⟨f, rfl, call f _ (hf.parts f (by simp)) ?_⟩
              simp only [tru_bl]
              rcases bb (isNest j f) with h3 | h3
              · simp only [h3, if_true, Bool.true_and] at q ⊢
                exact ⟨g, rfl, call g _ (hf.parts g (by simp)) q⟩
              · simp only [h3, Bool.false_eq_true, if_false, Bool.false_and] at q ⊢
                exact q
            | [], hf, q => simpa using q
            | [a], hf, q => simpa using q
            | a :: b :: c :: r, hf, q =>
              have : ¬ (((w :: a :: b :: c :: r).length : Nat) : Int) = 3 := by simp only [List.length_cons]; omega
              simp only [this, decide_false, tru_bl, if_true, true_and, Bool.false_eq_true, if_false, Bool.and_true, Bool.and_false, Bool.true_and, Bool.false_and, Bool.not_true, Bool.not_false, Bool.or_true, Bool.or_false, Bool.true_or, Bool.false_or]
              exact q
          · simp only [h2, Bool.false_eq_true, if_false] at q ⊢
            exact ⟨by omega, _, _, _, rfl, hf, wk_w3, wk_lj, q⟩
    | _ => simpa [isTup, isNest] using q
theorem ob_is_formula (n : Nat) (ds : List D) (S : Sto) (Q : KQ) (h : lv (n + 1) 14 spIsFormula ds S Q) : wB (fsN n) ir_is_formula (defEnds Q) (startD C_is_formula.N ds) S := by
  obtain ⟨hl, d, rfl, hf, q⟩ := h
  simp only [DW.wG, DW.wGs, gsLen, List.set_cons_succ, List.set_cons_zero, wB, wS, DW.wT, DW.wTs, DW.wE, DW.wA, DW.wO, DW.wI, List.getElem?_cons_succ, List.getElem?_cons_zero, cmp_eq, cmp_ne, cmp_in, cmp_nin, inA_tup, inA_ktup, op_shl', op_shr', op_and', op_or', op_xor', is_bl, isn_bl, iter_ktup, cmp_lt, cmp_le, cmp_gt, cmp_ge, tru_non, tru_bl, tru_int, tru_tup, op_addi, op_subi, op_muli, op_divi, op_modi, op_powi, op_addt, op_rept, len_tup, len_rol, idx_tup, idx_rol, slc_tup, iter_tup, iter_rol, eqc_int, LIM, Nat.reduceLeDiff, dBlt, dInt1, defEnds, startD, List.map_cons, List.map_nil, List.length_cons, List.length_nil, List.replicate_succ, List.replicate_zero, List.cons_append, List.nil_append, Nat.reduceAdd, Nat.reduceSub, isRef, Nat.zero_add, and_true, true_and, if_true, Bool.false_eq_true, if_false, ir_is_formula, c_MOST_DEPTH, f4]
  exact ⟨d, 10, rfl, by omega, hf, q⟩
/-- a comprehension of truths over a tuple's parts -/
theorem all_lcp {fs : List FSp} {S : Sto} {ρ : En} {xs : List D} {i : Nat} {elt : IE} {own : List Nat} {B : KQ} (f : D → Bool) (hl : xs.length ≤ 1000) (hv : wipeD ρ own = wipeD ρ own)
    (helt : ∀ d ∈ xs, ∀ S1 (R : KQ), Ext S S1 → (∀ S2, Ext S1 S2 → R (.bl (f d)) S2) → DW.wE fs elt ((wipeD ρ own).set i (some d)) S1 R)
    (hB : ∀ S', Ext S S' → S'[S.length]? = some (.lst (xs.map fun d => D.bl (f d))) → B (.ref S.length) S') {e : IE} (he : DW.wE fs e ρ S = fun R => R (.tup xs) S) :
    DW.wE fs (.lcp own (.name i) (.val e) .none elt) ρ S B := by
  simp only [DW.wE, DW.wI, he, iter_tup]
  refine cLoop_ext (fun d => some (.bl (f d))) (by simp only [LIM]; omega) (fun _ _ => trivial) (fun d hd S1 ky kn e1 k => ?_) fun S' e1 e2 => hB S' e1 (by rw [e2]; simp)
  simp only [DW.wG, DW.wTs, if_true]
  exact helt d hd S1 _ e1 k
theorem map_bl (xs : List D) (f : D → Bool) : (xs.map fun d => D.bl (f d)) = (xs.map f).map D.bl := by simp
theorem ob_is_house (n : Nat) (ds : List D) (S : Sto) (Q : KQ) (h : lv (n + 1) 2 spIsHouse ds S Q) : wB (fsN n) ir_is_house (defEnds Q) (startD C_is_house.N ds) S := by
  obtain ⟨hl, d, rfl, hf, q⟩ := h
  have hty := hf.nty
  simp only [DW.wG, DW.wGs, gsLen, List.set_cons_succ, List.set_cons_zero, wB, wS, DW.wT, DW.wTs, DW.wE, DW.wA, DW.wO, DW.wI, List.getElem?_cons_succ, List.getElem?_cons_zero, cmp_eq, cmp_ne, cmp_in, cmp_nin, inA_tup, inA_ktup, op_shl', op_shr', op_and', op_or', op_xor', is_bl, isn_bl, iter_ktup, cmp_lt, cmp_le, cmp_gt, cmp_ge, tru_non, tru_bl, tru_int, tru_tup, op_addi, op_subi, op_muli, op_divi, op_modi, op_powi, op_addt, op_rept, len_tup, len_rol, idx_tup, idx_rol, slc_tup, iter_tup, iter_rol, eqc_int, LIM, Nat.reduceLeDiff, dBlt, dInt1, defEnds, startD, List.map_cons, List.map_nil, List.length_cons, List.length_nil, List.replicate_succ, List.replicate_zero, List.cons_append, List.nil_append, Nat.reduceAdd, Nat.reduceSub, isRef, Nat.zero_add, and_true, true_and, if_true, Bool.false_eq_true, if_false, ir_is_house, isi_fit hf (kit_tuple d hty), c_SORTS]
  cases d with
  | ty n => exact absurd rfl (hty n)
  | ktup n => exact absurd rfl (hf.nk n)
  | tup xs =>
    simp only [isTup, len_tup, dEq_iff (fit_int S _) (wk_int 4), eqc_int, if_true, true_and, Bool.false_eq_true, if_false, Bool.and_true, Bool.and_false, Bool.true_and, Bool.false_and, Bool.not_true, Bool.not_false, Bool.or_true, Bool.or_false, Bool.true_or, Bool.false_or]
    by_cases h4 : xs.length = 4
    · have h4' : ((xs.length : Nat) : Int) = 4 := by omega
      simp only [h4', decide_true, if_true, true_and, Bool.false_eq_true, if_false, Bool.and_true, Bool.and_false, Bool.true_and, Bool.false_and, Bool.not_true, Bool.not_false, Bool.or_true, Bool.or_false, Bool.true_or, Bool.false_or]
      unfold ir_is_house_l0
      refine all_lcp (xs := xs) (fun c => isNum c 0 big) (by omega) rfl (fun d hd S1 R e1 k => ?_) (fun S' e1 e2 => ?_) (he := by funext R; rfl)
      · simp only [DW.wG, DW.wGs, gsLen, List.set_cons_succ, List.set_cons_zero, wB, wS, DW.wT, DW.wTs, DW.wE, DW.wA, DW.wO, DW.wI, List.getElem?_cons_succ, List.getElem?_cons_zero, cmp_eq, cmp_ne, cmp_in, cmp_nin, inA_tup, inA_ktup, op_shl', op_shr', op_and', op_or', op_xor', is_bl, isn_bl, iter_ktup, cmp_lt, cmp_le, cmp_gt, cmp_ge, tru_non, tru_bl, tru_int, tru_tup, op_addi, op_subi, op_muli, op_divi, op_modi, op_powi, op_addt, op_rept, len_tup, len_rol, idx_tup, idx_rol, slc_tup, iter_tup, iter_rol, eqc_int, LIM, Nat.reduceLeDiff, dBlt, dInt1, defEnds, startD, List.map_cons, List.map_nil, List.length_cons, List.length_nil, List.replicate_succ, List.replicate_zero, List.cons_append, List.nil_append, Nat.reduceAdd, Nat.reduceSub, isRef, Nat.zero_add, and_true, true_and, if_true, Bool.false_eq_true, if_false, wipeD, f2, c_MOST_PEOPLE]
        exact ⟨by omega, d, 0, big, rfl, (hf.parts d hd).ext e1, k S1 (Ext.refl S1)⟩
      · rw [map_bl] at e2
        simp only [bools_ref e2]
        have := q S' e1
        simp only [isHouse, h4, decide_true, Bool.true_and] at this
        rw [List.all_map]
        exact this
    · have h4' : ¬ ((xs.length : Nat) : Int) = 4 := by omega
      simp only [h4', decide_false, if_true, true_and, Bool.false_eq_true, if_false, Bool.and_true, Bool.and_false, Bool.true_and, Bool.false_and, Bool.not_true, Bool.not_false, Bool.or_true, Bool.or_false, Bool.true_or, Bool.false_or]
      have := q S (Ext.refl S)
      simp only [isHouse, h4, decide_false, Bool.false_and] at this
      exact this
  | _ => simpa [isTup, isHouse] using q S (Ext.refl S)
end K03

set_option Elab.async false
set_option linter.all false
set_option maxRecDepth 100000
set_option maxHeartbeats 1000000

namespace K03
open PySem PySem.Spec PyProof.Rows L2 DW

/-! ### the order of houses -/
def hs4 (h : Hs) : Int := h.z + (h.a + (h.b + (h.c + 0)))
theorem sum_hl (h : Hs) : (hl h).sum = hs4 h := rfl
theorem eqv_int1 (a b : Int) : PyData.eqv (.int a) (.int b) = decide (a = b) := by
  rw [Bool.eq_iff_iff]; simp [PyData.eqv]
theorem eqv_all : ∀ ns ms : List Int, PyData.eqvAll (ns.map .int) (ms.map .int) = decide (ns = ms)
  | [], [] => by simp [PyData.eqvAll]
  | [], _ :: _ => by simp [PyData.eqvAll]
  | _ :: _, [] => by simp [PyData.eqvAll]
  | a :: r, b :: q => by
    simp only [List.map_cons, PyData.eqvAll]
    rw [eqv_int1, eqv_all r q]
    by_cases h : a = b <;> by_cases h2 : r = q <;> simp [h, h2]
theorem eqv_ints (ns ms : List Int) : PyData.eqv (.tuple (ns.map .int)) (.tuple (ms.map .int)) = decide (ns = ms) := eqv_all ns ms
theorem ktlt (ns ms : List Int) : PySem.W.dataLt (keySum ns) (keySum ms) = decide (ns.sum < ms.sum ∨ (ns.sum = ms.sum ∧ ns < ms)) := by
  unfold keySum
  have e := PySem.W.dataLt_ints ns ms
  unfold PySem.W.rowLt at e
  rw [PySem.W.dataLt_pair (by simp [PySem.W.alike]) (by simp only [PySem.W.alike]; exact PySem.W.alike_ints ns ms), PySem.W.dataLt_int, eqv_int1, eqv_ints, PySem.W.dataLt_tuple, e]
  by_cases h1 : ns.sum = ms.sum
  · by_cases h2 : ns = ms
    · subst h2; simp
    · simp [h1, h2]
  · simp [h1]
theorem hle_iff (a b : Hs) : hle a b = true ↔ ¬ (hs4 b < hs4 a ∨ (hs4 b = hs4 a ∧ hl b < hl a)) := by
  unfold hle
  rw [PySem.W.dataLe_eq]
  show (!PySem.W.dataLt (keySum (hl b)) (keySum (hl a))) = true ↔ _
  rw [ktlt, sum_hl, sum_hl, Bool.not_eq_true', decide_eq_false_iff_not]
theorem hle_iff' (a b : Hs) : hle a b = true ↔ hs4 a < hs4 b ∨ (hs4 a = hs4 b ∧ hl a ≤ hl b) := by
  rw [hle_iff]
  constructor
  · intro h
    by_cases e : hs4 a = hs4 b
    · exact .inr ⟨e, List.not_lt.mp fun z => h (.inr ⟨e.symm, z⟩)⟩
    · left
      have : ¬ hs4 b < hs4 a := fun z => h (.inl z)
      omega
  · rintro (h | ⟨e, h⟩) (z | ⟨z, q⟩)
    · omega
    · omega
    · omega
    · exact List.not_lt.mpr h q
theorem hle_trans (a b c : Hs) (h1 : hle a b = true) (h2 : hle b c = true) : hle a c = true := by
  rw [hle_iff'] at *
  rcases h1 with h1 | ⟨e1, h1⟩ <;> rcases h2 with h2 | ⟨e2, h2⟩
  · left; omega
  · left; omega
  · left; omega
  · exact .inr ⟨by omega, List.le_trans h1 h2⟩
theorem hle_total (a b : Hs) : (hle a b || hle b a) = true := by
  rw [Bool.or_eq_true, hle_iff', hle_iff']
  by_cases e : hs4 a = hs4 b
  · rcases List.le_total (hl a) (hl b) with h | h
    · exact .inl (.inr ⟨e, h⟩)
    · exact .inr (.inr ⟨e.symm, h⟩)
  · have : hs4 a < hs4 b ∨ hs4 b < hs4 a := by omega
    exact this.elim (fun h => .inl (.inl h)) (fun h => .inr (.inl h))
theorem hle_anti (a b : Hs) (h1 : hle a b = true) (h2 : hle b a = true) : a = b := by
  rw [hle_iff'] at *
  rcases h1 with h1 | ⟨e1, h1⟩ <;> rcases h2 with h2 | ⟨e2, h2⟩
  · omega
  · omega
  · omega
  · have := List.le_antisymm h1 h2
    cases a; cases b
    simp only [hl, List.cons.injEq, and_true] at this
    obtain ⟨r1, r2, r3, r4⟩ := this
    subst r1 r2 r3 r4
    rfl
theorem find_min {L : List Hs} {p : Hs → Bool} {x : Hs} (hs : L.Pairwise fun a b => hle a b = true) (hp : p x = true) (hx : x ∈ L) (hm : ∀ y ∈ L, p y = true → hle x y = true) : L.find? p = some x := by
  induction L with
  | nil => cases hx
  | cons h t ih =>
    rw [List.pairwise_cons] at hs
    rw [List.find?_cons]
    cases e : p h with
    | true =>
      simp only
      rcases List.mem_cons.mp hx with z | z
      · rw [z]
      · exact congrArg some (hle_anti h x (hs.1 x z) (hm h List.mem_cons_self e))
    | false =>
      simp only
      rcases List.mem_cons.mp hx with z | z
      · rw [z, e] at hp; cases hp
      · exact ih hs.2 z fun y hy => hm y (List.mem_cons_of_mem _ hy)
theorem find_least {p : Hs → Bool} {x : Hs} : ∀ {L : List Hs}, (L.Pairwise fun a b => hle a b = true) → L.find? p = some x → ∀ y ∈ L, p y = true → hle x y = true
  | [], _, e, _, _, _ => by cases e
  | g :: t, hs, e, y, hy, py => by
    rw [List.pairwise_cons] at hs
    rw [List.find?_cons] at e
    cases q : p g with
    | true =>
      rw [q] at e
      cases e
      rcases List.mem_cons.mp hy with z | z
      · rw [z]
        have := hle_total x x
        simpa using this
      · exact hs.1 y z
    | false =>
      rw [q] at e
      rcases List.mem_cons.mp hy with z | z
      · rw [z, q] at py; cases py
      · exact find_least hs.2 e y z py
theorem small_sorted : smallH.Pairwise fun a b => hle a b = true := List.pairwise_mergeSort hle_trans hle_total smallU
theorem big_sorted : bigH.Pairwise fun a b => hle a b = true := List.pairwise_mergeSort hle_trans hle_total bigU
theorem mem_small (h : Hs) : h ∈ smallH ↔ h.z = 0 ∧ h.a ∈ cnts ∧ h.b ∈ cnts ∧ h.c ∈ cnts := by
  unfold smallH
  rw [List.mem_mergeSort]
  unfold smallU
  simp only [List.mem_flatMap, List.mem_map]
  constructor
  · rintro ⟨a, ha, b, hb, c, hc, rfl⟩
    exact ⟨rfl, ha, hb, hc⟩
  · rintro ⟨h0, ha, hb, hc⟩
    refine ⟨_, ha, _, hb, _, hc, ?_⟩
    cases h
    simp only at h0
    subst h0
    rfl
theorem mem_big (h : Hs) : h ∈ bigH ↔ h.z ∈ cnts ∧ h.a ∈ cnts ∧ h.b ∈ cnts ∧ h.c ∈ cnts := by
  unfold bigH
  rw [List.mem_mergeSort]
  unfold bigU
  simp only [List.mem_flatMap, List.mem_map]
  constructor
  · rintro ⟨c, hc, b, hb, a, ha, z, hz, rfl⟩
    exact ⟨hz, ha, hb, hc⟩
  · rintro ⟨hz, ha, hb, hc⟩
    exact ⟨_, hc, _, hb, _, ha, _, hz, rfl⟩
theorem ev_z (h : Hs) (f : Fm) : ev { h with z := 0 } f = ev h f := by
  induction f with
  | cnt l n c => cases l <;> rfl
  | not f ih => simp only [ev, ih]
  | two w f g ih1 ih2 => simp only [ev, ih1, ih2]
  | _ => rfl
theorem cnt_nn {i : Int} (h : i ∈ cnts) : 0 ≤ i := by
  simp only [cnts, List.mem_cons, List.not_mem_nil, or_false] at h
  omega
theorem find_same (p : Hs → Bool) (hp : ∀ h, p { h with z := 0 } = p h) : bigH.find? p = smallH.find? p := by
  cases e : bigH.find? p with
  | none =>
    symm
    rw [List.find?_eq_none] at e ⊢
    intro x hx
    obtain ⟨h0, h1, h2, h3⟩ := (mem_small x).mp hx
    exact e x ((mem_big x).mpr ⟨by rw [h0]; decide, h1, h2, h3⟩)
  | some x =>
    symm
    have hx := List.mem_of_find?_eq_some e
    have px := List.find?_some e
    obtain ⟨hz, h1, h2, h3⟩ := (mem_big x).mp hx
    have least := find_least big_sorted e
    have z0 : x.z = 0 := by
      have q := least { x with z := 0 } ((mem_big _).mpr ⟨by show (0 : Int) ∈ cnts; decide, h1, h2, h3⟩) (by rw [hp]; exact px)
      rw [hle_iff'] at q
      have zz := cnt_nn hz
      rcases q with q | ⟨q, _⟩
      · simp only [hs4] at q; omega
      · simp only [hs4] at q; omega
    exact find_min small_sorted px ((mem_small x).mpr ⟨z0, h1, h2, h3⟩) fun y hy py => by
      obtain ⟨g0, g1, g2, g3⟩ := (mem_small y).mp hy
      exact least y ((mem_big y).mpr ⟨by rw [g0]; decide, g1, g2, g3⟩) py
theorem any_same (p : Hs → Bool) (hp : ∀ h, p { h with z := 0 } = p h) : bigH.any p = smallH.any p := by
  rw [Bool.eq_iff_iff, List.any_eq_true, List.any_eq_true]
  constructor
  · rintro ⟨x, hx, px⟩
    obtain ⟨hz, h1, h2, h3⟩ := (mem_big x).mp hx
    exact ⟨{ x with z := 0 }, (mem_small _).mpr ⟨rfl, h1, h2, h3⟩, by rw [hp]; exact px⟩
  · rintro ⟨x, hx, px⟩
    obtain ⟨h0, h1, h2, h3⟩ := (mem_small x).mp hx
    exact ⟨x, (mem_big x).mpr ⟨by rw [h0]; decide, h1, h2, h3⟩, px⟩
theorem small_len : smallH.length = 125 := by
  unfold smallH
  rw [List.length_mergeSort]
  decide +kernel
theorem big_len : bigH.length = 625 := by
  unfold bigH
  rw [List.length_mergeSort]
  decide +kernel

/-! ### bits -/
theorem bits_lt : ∀ bs : List Bool, bitsN bs < 2 ^ bs.length
  | [] => by decide
  | b :: r => by
    have := bits_lt r
    simp only [bitsN, List.length_cons, Nat.pow_succ]
    cases b <;> simp <;> omega
theorem bits_test : ∀ (bs : List Bool) (i : Nat), (bitsN bs).testBit i = bs.getD i false
  | [], i => by simp [bitsN]
  | b :: r, 0 => by
    simp only [bitsN, Nat.testBit_zero]
    cases b <;> simp <;> omega
  | b :: r, i + 1 => by
    have ih := bits_test r i
    simp only [bitsN, Nat.testBit_succ]
    have : (b.toNat + 2 * bitsN r) / 2 = bitsN r := by cases b <;> simp <;> omega
    rw [this, ih]
    simp
theorem bits_ext {x : Nat} {bs : List Bool} (h : ∀ i, x.testBit i = bs.getD i false) : x = bitsN bs := Nat.eq_of_testBit_eq fun i => by rw [h, bits_test]
theorem bits_full (n : Nat) : (2 ^ n : Nat) - 1 = bitsN (List.replicate n true) := bits_ext fun i => by
  rw [Nat.testBit_two_pow_sub_one]
  by_cases h : i < n
  · simp [h, List.getD_eq_getElem?_getD, List.getElem?_replicate]
  · simp [h, List.getD_eq_getElem?_getD, List.getElem?_replicate]
theorem getD_map (hs : List Hs) (f : Fm) (i : Nat) : (hs.map fun h => ev h f).getD i false = match hs[i]? with
    | some h => ev h f
    | none => false := by
  rw [List.getD_eq_getElem?_getD, List.getElem?_map]
  cases hs[i]? <;> rfl
theorem mean_nn (f : Fm) (hs : List Hs) : 0 ≤ mean f hs := Int.natCast_nonneg _
theorem mean_not (f : Fm) (hs : List Hs) : Builtin.bitXor ((2 ^ hs.length : Nat) - 1) (mean f hs) = mean (.not f) hs := by
  have e0 : ((2 ^ hs.length : Nat) : Int) - 1 = ((2 ^ hs.length - 1 : Nat) : Int) := by
    have : 1 ≤ 2 ^ hs.length := Nat.one_le_two_pow
    omega
  rw [e0, Bits.bitXor_pp (Int.natCast_nonneg _) (mean_nn f hs)]
  unfold mean
  congr 1
  simp only [Int.toNat_natCast]
  refine bits_ext fun i => ?_
  rw [Nat.testBit_xor, bits_test, Nat.testBit_two_pow_sub_one, getD_map, getD_map]
  by_cases h : i < hs.length
  · rw [List.getElem?_eq_getElem h]
    simp [h, ev]
  · rw [List.getElem?_eq_none (by omega)]
    simp [h]
theorem mean_two (w : Fin 4) (f g : Fm) (hs : List Hs) : (match w with
    | 0 => Builtin.bitAnd (mean f hs) (mean g hs)
    | 1 => Builtin.bitOr (mean f hs) (mean g hs)
    | 2 => Builtin.bitOr (Builtin.bitXor ((2 ^ hs.length : Nat) - 1) (mean f hs)) (mean g hs)
    | 3 => Builtin.bitXor (mean f hs) (mean g hs)) = mean (.two w f g) hs := by
  have fin : ∀ (x : Nat), (∀ i, x.testBit i = match hs[i]? with
      | some h => ev h (.two w f g)
      | none => false) → (x : Int) = mean (.two w f g) hs := fun x h => by
    unfold mean
    congr 1
    exact bits_ext fun i => by rw [h, getD_map]
  match w, fin with
  | 0, fin =>
    simp only
    rw [bitAnd_pp (mean_nn f hs) (mean_nn g hs)]
    refine fin _ fun i => ?_
    unfold mean
    simp only [Int.toNat_natCast]
    rw [Nat.testBit_and, bits_test, bits_test, getD_map, getD_map]
    cases hs[i]? <;> rfl
  | 1, fin =>
    simp only
    rw [Bits.bitOr_pp (mean_nn f hs) (mean_nn g hs)]
    refine fin _ fun i => ?_
    unfold mean
    simp only [Int.toNat_natCast]
    rw [Nat.testBit_or, bits_test, bits_test, getD_map, getD_map]
    cases hs[i]? <;> rfl
  | 2, fin =>
    simp only
    rw [mean_not, Bits.bitOr_pp (mean_nn _ hs) (mean_nn g hs)]
    refine fin _ fun i => ?_
    unfold mean
    simp only [Int.toNat_natCast]
    rw [Nat.testBit_or, bits_test, bits_test, getD_map, getD_map]
    cases hs[i]? <;> rfl
  | 3, fin =>
    simp only
    rw [Bits.bitXor_pp (mean_nn f hs) (mean_nn g hs)]
    refine fin _ fun i => ?_
    unfold mean
    simp only [Int.toNat_natCast]
    rw [Nat.testBit_xor, bits_test, bits_test, getD_map, getD_map]
    cases hs[i]? with
    | none => rfl
    | some h => simp [ev, evw]
/-- the sum of the bits -/
def pows : Nat → List Bool → List Int
  | _, [] => []
  | k, b :: r => (if b = true then [(2 : Int) ^ k] else []) ++ pows (k + 1) r
theorem pows_sum : ∀ (bs : List Bool) (k : Nat), (pows k bs).sum = (bitsN bs : Nat) * 2 ^ k
  | [], k => by simp [pows, bitsN]
  | b :: r, k => by
    have ih := pows_sum r (k + 1)
    rw [pows, List.sum_append, ih]
    cases b with
    | false =>
      simp only [Bool.false_eq_true, if_false, bitsN, Bool.toNat_false, Nat.zero_add, List.sum_nil, Int.zero_add]
      push_cast
      rw [Int.pow_succ, Int.mul_comm 2, Int.mul_assoc, Int.mul_comm ((2 : Int) ^ k) 2]
    | true =>
      simp only [if_true, List.sum_cons, List.sum_nil, bitsN, Bool.toNat_true, Int.add_zero]
      push_cast
      rw [Int.pow_succ, Int.add_mul, Int.one_mul, Int.mul_comm 2, Int.mul_assoc, Int.mul_comm ((2 : Int) ^ k) 2]
def enumK : Nat → List D → List D
  | _, [] => []
  | k, d :: r => .tup [.int (k : Nat), d] :: enumK (k + 1) r
theorem enum_k : ∀ (ds : List D) (k : Nat), (ds.mapIdx fun i d => D.tup [.int ((i + k : Nat) : Int), d]) = enumK k ds
  | [], _ => rfl
  | d :: r, k => by
    rw [List.mapIdx_cons, enumK, ← enum_k r (k + 1)]
    congr 2
    · simp
    · funext i d
      rw [show i + 1 + k = i + (k + 1) by omega]
theorem enum_eq (ds : List D) : enumD ds = enumK 0 ds := by
  rw [← enum_k]
  rfl
theorem bits_zero {bs : List Bool} : bitsN bs = 0 ↔ bs.any id = false := by
  induction bs with
  | nil => simp [bitsN]
  | cons b r ih =>
    simp only [bitsN, List.any_cons, Bool.or_eq_false_iff]
    rw [← ih]
    cases b <;> simp <;> omega
theorem bits_all {bs : List Bool} : bitsN bs = 2 ^ bs.length - 1 ↔ bs.all id = true := by
  induction bs with
  | nil => simp [bitsN]
  | cons b r ih =>
    have h1 := bits_lt r
    simp only [bitsN, List.all_cons, Bool.and_eq_true, List.length_cons, Nat.pow_succ]
    rw [← ih]
    cases b <;> simp <;> omega
end K03

set_option Elab.async false
set_option linter.all false
set_option maxRecDepth 100000
set_option maxHeartbeats 1000000

namespace K03
open PySem PySem.Spec PyProof.Rows L2 DW

/-! ### written words -/
theorem lk_a : dc_SORT_WITH_ALONE.lookup (Str.ofString "a") = some (.int 1) := by rfl
theorem lk_b : dc_SORT_WITH_ALONE.lookup (Str.ofString "b") = some (.int 2) := by rfl
theorem lw_a : dc_SORTS_WITH.lookup (Str.ofString "a") = some (.ktup [.int 1, .int 3]) := by rfl
theorem lw_b : dc_SORTS_WITH.lookup (Str.ofString "b") = some (.ktup [.int 2, .int 3]) := by rfl
theorem lw_c : dc_SORTS_WITH.lookup (Str.ofString "both") = some (.ktup [.int 3]) := by rfl
theorem wk_s (x : Str) (h : PyData.strOk x = true) : wk (.str x) = true := by
  simp [wk, wr, okd, h]
theorem eqc_str (x y : Str) : eqc (.str x) (.str y) = (x == y) := rfl
def wordOf : Fm → D
  | .all _ => .str "all"
  | .som _ => .str "some"
  | .non _ => .str "no"
  | .cnt l _ _ => lstD l
  | .not _ => .str "not"
  | .two w _ _ => wrdD w
def restOf : Fm → List D
  | .all m => [(mks m).1, (mks m).2]
  | .som m => [(mks m).1, (mks m).2]
  | .non m => [(mks m).1, (mks m).2]
  | .cnt _ n c => [.int (n : Nat), cntD c]
  | .not f => [encF f]
  | .two _ f g => [encF f, encF g]
theorem enc_eq (f : Fm) : encF f = .tup (wordOf f :: restOf f) := by cases f <;> rfl
theorem w_not (f : Fm) : eqc (wordOf f) (.str "not") = match f with
    | .not _ => true
    | _ => false := by
  cases f with
  | all m => exact (by decide +kernel : eqc (D.str "all") (.str "not") = false)
  | som m => exact (by decide +kernel : eqc (D.str "some") (.str "not") = false)
  | non m => exact (by decide +kernel : eqc (D.str "no") (.str "not") = false)
  | not g => exact (by decide +kernel : eqc (D.str "not") (.str "not") = true)
  | cnt l n c =>
    cases l
    · exact (by decide +kernel : eqc (D.str "just") (.str "not") = false)
    · exact (by decide +kernel : eqc (D.str "least") (.str "not") = false)
  | two w f g => match w with
    | 0 => exact (by decide +kernel : eqc (D.str "and") (.str "not") = false)
    | 1 => exact (by decide +kernel : eqc (D.str "or") (.str "not") = false)
    | 2 => exact (by decide +kernel : eqc (D.str "if") (.str "not") = false)
    | 3 => exact (by decide +kernel : eqc (D.str "other") (.str "not") = false)
theorem w_pair (f : Fm) : isP (wordOf f) = match f with
    | .two _ _ _ => true
    | _ => false := by
  cases f with
  | all m => exact (by decide +kernel : isP (D.str "all") = false)
  | som m => exact (by decide +kernel : isP (D.str "some") = false)
  | non m => exact (by decide +kernel : isP (D.str "no") = false)
  | not g => exact (by decide +kernel : isP (D.str "not") = false)
  | cnt l n c =>
    cases l
    · exact (by decide +kernel : isP (D.str "just") = false)
    · exact (by decide +kernel : isP (D.str "least") = false)
  | two w f g => match w with
    | 0 => exact (by decide +kernel : isP (D.str "and") = true)
    | 1 => exact (by decide +kernel : isP (D.str "or") = true)
    | 2 => exact (by decide +kernel : isP (D.str "if") = true)
    | 3 => exact (by decide +kernel : isP (D.str "other") = true)
theorem w_fit (f : Fm) (S : Sto) (k L : Nat) : okd L (k + 1) S (wordOf f) = true := by
  have h : ∀ x : Str, PyData.strOk x = true → okd L (k + 1) S (.str x) = true := fun x h => by simp only [okd]; exact h
  cases f with
  | cnt l n c => cases l <;> exact h _ (by decide +kernel)
  | two w f g => match w with
    | 0 => exact h _ (by decide +kernel)
    | 1 => exact h _ (by decide +kernel)
    | 2 => exact h _ (by decide +kernel)
    | 3 => exact h _ (by decide +kernel)
  | _ => exact h _ (by decide +kernel)
theorem okd_t {L k : Nat} {S : Sto} {ds : List D} (h : ds.length ≤ L) (a : ∀ d ∈ ds, okd L k S d = true) : okd L (k + 1) S (.tup ds) = true := by
  show (decide (ds.length ≤ L) && ds.all (okd L k S)) = true
  rw [decide_eq_true h, List.all_eq_true.mpr a]
  rfl
theorem enc_okd (S : Sto) : ∀ f : Fm, okd 3 (dep f + 1) S (encF f) = true := by
  have hs : ∀ (k : Nat) (x : Str), PyData.strOk x = true → okd 3 (k + 1) S (.str x) = true := fun k x h => by simp only [okd]; exact h
  have hm : ∀ (k : Nat) (m : Bool), okd 3 (k + 1) S (mks m).1 = true ∧ okd 3 (k + 1) S (mks m).2 = true := fun k m => by
    cases m <;> exact ⟨hs _ _ (by decide +kernel), hs _ _ (by decide +kernel)⟩
  have hc : ∀ (k : Nat) (c : Fin 3), okd 3 (k + 1) S (cntD c) = true := fun k c => match c with
    | 0 => hs _ _ (by decide +kernel)
    | 1 => hs _ _ (by decide +kernel)
    | 2 => hs _ _ (by decide +kernel)
  have two : ∀ (k : Nat) (x y : D), okd 3 k S x = true → okd 3 k S y = true → okd 3 (k + 1) S (.tup [x, y]) = true := fun k x y h1 h2 => okd_t (by simp) fun d hd => by
    simp only [List.mem_cons, List.not_mem_nil, or_false] at hd
    rcases hd with rfl | rfl <;> assumption
  have three : ∀ (k : Nat) (x y z : D), okd 3 k S x = true → okd 3 k S y = true → okd 3 k S z = true → okd 3 (k + 1) S (.tup [x, y, z]) = true := fun k x y z h1 h2 h3 => okd_t (by simp) fun d hd => by
    simp only [List.mem_cons, List.not_mem_nil, or_false] at hd
    rcases hd with rfl | rfl | rfl <;> assumption
  intro f
  induction f with
  | not f ih => exact two (dep f + 1) (.str "not") (encF f) (w_fit (.not f) S _ 3) ih
  | two w f g ih1 ih2 =>
    have e1 := okd_mono (Nat.le_refl 3) (S := S) (k := dep f + 1) (k' := max (dep f) (dep g) + 1) (by omega) ih1
    have e2 := okd_mono (Nat.le_refl 3) (S := S) (k := dep g + 1) (k' := max (dep f) (dep g) + 1) (by omega) ih2
    exact three _ (wrdD w) (encF f) (encF g) (w_fit (.two w f g) S _ 3) e1 e2
  | all m => exact three 1 _ _ _ (w_fit (.all m) S 0 3) (hm 0 m).1 (hm 0 m).2
  | som m => exact three 1 _ _ _ (w_fit (.som m) S 0 3) (hm 0 m).1 (hm 0 m).2
  | non m => exact three 1 _ _ _ (w_fit (.non m) S 0 3) (hm 0 m).1 (hm 0 m).2
  | cnt l n c => exact three 1 _ _ _ (w_fit (.cnt l n c) S 0 3) rfl (hc 0 c)
theorem enc_fit (S : Sto) (f : Fm) (h : dep f ≤ 50) : Fit S (encF f) := ⟨3, dep f + 1, by omega, enc_okd S f⟩
theorem word_fit (S : Sto) (f : Fm) : Fit S (wordOf f) := ⟨3, 1, by omega, w_fit f S 0 3⟩
theorem dep_pos (f : Fm) : 1 ≤ dep f := by cases f <;> simp [dep]
theorem atoms_len (f : Fm) : (atoms f).length ≤ 2 ^ (dep f - 1) := by
  induction f with
  | not f ih =>
    simp only [atoms, dep]
    have := dep_pos f
    have h2 : 2 ^ (dep f - 1) ≤ 2 ^ (dep f + 1 - 1) := Nat.pow_le_pow_right (by decide) (by omega)
    omega
  | two w f g ih1 ih2 =>
    simp only [atoms, dep, List.length_append]
    have d1 := dep_pos f
    have d2 := dep_pos g
    have h1 : 2 ^ (dep f - 1) ≤ 2 ^ (max (dep f) (dep g) - 1) := Nat.pow_le_pow_right (by decide) (by omega)
    have h2 : 2 ^ (dep g - 1) ≤ 2 ^ (max (dep f) (dep g) - 1) := Nat.pow_le_pow_right (by decide) (by omega)
    have h3 : 2 ^ (max (dep f) (dep g) + 1 - 1) = 2 ^ (max (dep f) (dep g) - 1) + 2 ^ (max (dep f) (dep g) - 1) := by
      have : max (dep f) (dep g) + 1 - 1 = (max (dep f) (dep g) - 1) + 1 := by omega
      rw [this, Nat.pow_succ]
      omega
    omega
  | _ => simp [atoms, dep]
theorem atoms_simple (f : Fm) : ∀ a ∈ atoms f, simple a = true := by
  induction f with
  | not f ih => exact ih
  | two w f g ih1 ih2 =>
    intro a ha
    rcases List.mem_append.mp ha with h | h
    · exact ih1 a h
    · exact ih2 a h
  | _ => intro a ha; rw [List.mem_singleton.mp ha]; rfl
theorem atoms_ok (f : Fm) : okF f → ∀ a ∈ atoms f, okF a := by
  induction f with
  | not f ih => exact ih
  | two w f g ih1 ih2 =>
    intro h a ha
    rcases List.mem_append.mp ha with q | q
    · exact ih1 h.1 a q
    · exact ih2 h.2 a q
  | _ => intro h a ha; rw [List.mem_singleton.mp ha]; exact h
theorem any_P2 (f : Fm) : ([D.str "and", D.str "or", D.str "if", D.str "other"].any fun c => eqc (wordOf f) c) = match f with
    | .two _ _ _ => true
    | _ => false := (any_P (wordOf f)).trans (w_pair f)

/-! ### checks -/
theorem ob_check_formula (n : Nat) (ds : List D) (S : Sto) (Q : KQ) (h : lv (n + 1) 15 spCkFormula ds S Q) : wB (fsN n) ir_check_formula (defEnds Q) (startD C_check_formula.N ds) S := by
  obtain ⟨hl, d, rfl, hf, hn, q⟩ := h
  simp only [DW.wG, DW.wGs, gsLen, List.set_cons_succ, List.set_cons_zero, wB, wS, DW.wT, DW.wTs, DW.wE, DW.wA, DW.wO, DW.wI, List.getElem?_cons_succ, List.getElem?_cons_zero, cmp_eq, cmp_ne, cmp_in, cmp_nin, inA_tup, inA_ktup, op_shl', op_shr', op_and', op_or', op_xor', is_bl, isn_bl, iter_ktup, cmp_lt, cmp_le, cmp_gt, cmp_ge, tru_non, tru_bl, tru_int, tru_tup, op_addi, op_subi, op_muli, op_divi, op_modi, op_powi, op_addt, op_rept, len_tup, len_rol, idx_tup, idx_rol, slc_tup, iter_tup, iter_rol, eqc_int, LIM, Nat.reduceLeDiff, dBlt, dInt1, defEnds, startD, List.map_cons, List.map_nil, List.length_cons, List.length_nil, List.replicate_succ, List.replicate_zero, List.cons_append, List.nil_append, Nat.reduceAdd, Nat.reduceSub, isRef, Nat.zero_add, and_true, true_and, if_true, Bool.false_eq_true, if_false, ir_check_formula, f1]
  refine ⟨by omega, d, rfl, hf, ?_⟩
  simp only [tru_bl, hn, if_true, true_and, Bool.false_eq_true, if_false, Bool.and_true, Bool.and_false, Bool.true_and, Bool.false_and, Bool.not_true, Bool.not_false, Bool.or_true, Bool.or_false, Bool.true_or, Bool.false_or]
  exact q
theorem ob_check_house (n : Nat) (ds : List D) (S : Sto) (Q : KQ) (h : lv (n + 1) 3 spCkHouse ds S Q) : wB (fsN n) ir_check_house (defEnds Q) (startD C_check_house.N ds) S := by
  obtain ⟨hl, d, rfl, hf, hn, q⟩ := h
  simp only [DW.wG, DW.wGs, gsLen, List.set_cons_succ, List.set_cons_zero, wB, wS, DW.wT, DW.wTs, DW.wE, DW.wA, DW.wO, DW.wI, List.getElem?_cons_succ, List.getElem?_cons_zero, cmp_eq, cmp_ne, cmp_in, cmp_nin, inA_tup, inA_ktup, op_shl', op_shr', op_and', op_or', op_xor', is_bl, isn_bl, iter_ktup, cmp_lt, cmp_le, cmp_gt, cmp_ge, tru_non, tru_bl, tru_int, tru_tup, op_addi, op_subi, op_muli, op_divi, op_modi, op_powi, op_addt, op_rept, len_tup, len_rol, idx_tup, idx_rol, slc_tup, iter_tup, iter_rol, eqc_int, LIM, Nat.reduceLeDiff, dBlt, dInt1, defEnds, startD, List.map_cons, List.map_nil, List.length_cons, List.length_nil, List.replicate_succ, List.replicate_zero, List.cons_append, List.nil_append, Nat.reduceAdd, Nat.reduceSub, isRef, Nat.zero_add, and_true, true_and, if_true, Bool.false_eq_true, if_false, ir_check_house, f0]
  refine ⟨by omega, d, rfl, hf, fun S' e => ?_⟩
  simp only [tru_bl, hn, if_true, true_and, Bool.false_eq_true, if_false, Bool.and_true, Bool.and_false, Bool.true_and, Bool.false_and, Bool.not_true, Bool.not_false, Bool.or_true, Bool.or_false, Bool.true_or, Bool.false_or]
  exact q S' e
theorem ob_check_truth (n : Nat) (ds : List D) (S : Sto) (Q : KQ) (h : lv (n + 1) 1 spCkTruth ds S Q) : wB (fsN n) ir_check_truth (defEnds Q) (startD C_check_truth.N ds) S := by
  obtain ⟨hl, b, rfl, q⟩ := h
  have hf : Fit S (.bl b) := ⟨1, 1, by omega, rfl⟩
  simp only [DW.wG, DW.wGs, gsLen, List.set_cons_succ, List.set_cons_zero, wB, wS, DW.wT, DW.wTs, DW.wE, DW.wA, DW.wO, DW.wI, List.getElem?_cons_succ, List.getElem?_cons_zero, cmp_eq, cmp_ne, cmp_in, cmp_nin, inA_tup, inA_ktup, op_shl', op_shr', op_and', op_or', op_xor', is_bl, isn_bl, iter_ktup, cmp_lt, cmp_le, cmp_gt, cmp_ge, tru_non, tru_bl, tru_int, tru_tup, op_addi, op_subi, op_muli, op_divi, op_modi, op_powi, op_addt, op_rept, len_tup, len_rol, idx_tup, idx_rol, slc_tup, iter_tup, iter_rol, eqc_int, LIM, Nat.reduceLeDiff, dBlt, dInt1, defEnds, startD, List.map_cons, List.map_nil, List.length_cons, List.length_nil, List.replicate_succ, List.replicate_zero, List.cons_append, List.nil_append, Nat.reduceAdd, Nat.reduceSub, isRef, Nat.zero_add, and_true, true_and, if_true, Bool.false_eq_true, if_false, ir_check_truth, isi_fit hf (kit_bool (.bl b) hf.nty), isBl, if_true, true_and, Bool.false_eq_true, if_false, Bool.and_true, Bool.and_false, Bool.true_and, Bool.false_and, Bool.not_true, Bool.not_false, Bool.or_true, Bool.or_false, Bool.true_or, Bool.false_or]
  exact q
theorem ob_everywhere (n : Nat) (ds : List D) (S : Sto) (Q : KQ) (h : lv (n + 1) 1 spEvery ds S Q) : wB (fsN n) ir_everywhere (defEnds Q) (startD C_everywhere.N ds) S := by
  obtain ⟨hl, m, xs, rfl, hx, hz, q⟩ := h
  simp only [DW.wG, DW.wGs, gsLen, List.set_cons_succ, List.set_cons_zero, wB, wS, DW.wT, DW.wTs, DW.wE, DW.wA, DW.wO, DW.wI, List.getElem?_cons_succ, List.getElem?_cons_zero, cmp_eq, cmp_ne, cmp_in, cmp_nin, inA_tup, inA_ktup, op_shl', op_shr', op_and', op_or', op_xor', is_bl, isn_bl, iter_ktup, cmp_lt, cmp_le, cmp_gt, cmp_ge, tru_non, tru_bl, tru_int, tru_tup, op_addi, op_subi, op_muli, op_divi, op_modi, op_powi, op_addt, op_rept, len_tup, len_rol, idx_tup, idx_rol, slc_tup, iter_tup, iter_rol, eqc_int, LIM, Nat.reduceLeDiff, dBlt, dInt1, defEnds, startD, List.map_cons, List.map_nil, List.length_cons, List.length_nil, List.replicate_succ, List.replicate_zero, List.cons_append, List.nil_append, Nat.reduceAdd, Nat.reduceSub, isRef, Nat.zero_add, and_true, true_and, if_true, Bool.false_eq_true, if_false, ir_everywhere]
  rw [len_ref hx]
  simp only [op_shl', op_subi]
  refine ⟨⟨by omega, by omega, by decide⟩, ?_⟩
  have e : (1 : Int) * 2 ^ (((xs.length : Nat) : Int)).toNat - 1 = ((2 ^ xs.length : Nat) : Int) - 1 := by
    rw [Int.one_mul, Int.toNat_natCast]
    push_cast
    rfl
  rw [e]
  exact q
theorem ob__simple_parts (n : Nat) (ds : List D) (S : Sto) (Q : KQ) (h : spParts (n + 1) ds S Q) : wB (fsN n) ir__simple_parts (defEnds Q) (startD C__simple_parts.N ds) S := by
  obtain ⟨f, rfl, hd, hd2, ho, q⟩ := h
  rw [enc_eq]
  simp only [DW.wG, DW.wGs, gsLen, List.set_cons_succ, List.set_cons_zero, wB, wS, DW.wT, DW.wTs, DW.wE, DW.wA, DW.wO, DW.wI, List.getElem?_cons_succ, List.getElem?_cons_zero, cmp_eq, cmp_ne, cmp_in, cmp_nin, inA_tup, inA_ktup, op_shl', op_shr', op_and', op_or', op_xor', is_bl, isn_bl, iter_ktup, cmp_lt, cmp_le, cmp_gt, cmp_ge, tru_non, tru_bl, tru_int, tru_tup, op_addi, op_subi, op_muli, op_divi, op_modi, op_powi, op_addt, op_rept, len_tup, len_rol, idx_tup, idx_rol, slc_tup, iter_tup, iter_rol, eqc_int, LIM, Nat.reduceLeDiff, dBlt, dInt1, defEnds, startD, List.map_cons, List.map_nil, List.length_cons, List.length_nil, List.replicate_succ, List.replicate_zero, List.cons_append, List.nil_append, Nat.reduceAdd, Nat.reduceSub, isRef, Nat.zero_add, and_true, true_and, if_true, Bool.false_eq_true, if_false, ir__simple_parts, c_PAIR_WORDS, f16]
  refine ⟨_, at0 _ _, ?_⟩
  simp only [dEq_iff (word_fit S f) wk_not, w_not]
  have one : ∀ f, restOf f = restOf f → (atoms f = [f]) → newL ((atoms f).map encF) S Q → 1 ≤ LIM ∧ Q (.ref S.length) (S ++ [.lst [.tup (wordOf f :: restOf f)]]) := fun f _ ha q => by
    rw [ha] at q
    refine ⟨by decide, q _ _ (Ext.app S _) (Nat.le_refl _) ?_⟩
    rw [sto_last, ← enc_eq]
    rfl
  cases f with
  | not f =>
    simp only [if_true, restOf]
    refine ⟨encF f, rfl, f, rfl, ?_, ?_, ho, q⟩
    · simp only [dep] at hd; omega
    · simp only [dep] at hd2; omega
  | two w f g =>
    simp only [Bool.false_eq_true, if_false]
    refine ⟨_, at0 _ _, ?_⟩
    simp only [dIn_iff (word_fit S (.two w f g)) wk_P, any_P2, if_true]
    simp only [dep] at hd hd2
    refine ⟨encF f, rfl, f, rfl, by omega, by omega, ho.1, fun S1 n1 e1 l1 h1 => ?_⟩
    refine ⟨encF g, rfl, g, rfl, by omega, by omega, ho.2, fun S2 n2 e2 l2 h2 => ?_⟩
    show dOp .Add (.ref n1) (.ref n2) S2 Q
    rw [op_addl (e2 _ _ h1) h2]
    refine ⟨?_, ?_⟩
    · rw [List.length_map, List.length_map]
      have a1 := atoms_len f
      have a2 := atoms_len g
      have p1 : 2 ^ (dep f - 1) ≤ 2 ^ 15 := Nat.pow_le_pow_right (by decide) (by omega)
      have p2 : 2 ^ (dep g - 1) ≤ 2 ^ 15 := Nat.pow_le_pow_right (by decide) (by omega)
      have p3 : (2 : Nat) ^ 15 = 32768 := by decide
      simp only [LIM]
      omega
    · refine q _ _ ((e1.trans e2).trans (Ext.app S2 _)) ?_ ?_
      · exact Nat.le_trans e1.len e2.len
      · rw [sto_last]
        simp only [atoms, List.map_append]
  | all m =>
    simp only [Bool.false_eq_true, if_false]
    refine ⟨_, at0 _ _, ?_⟩
    simp only [dIn_iff (word_fit S (.all m)) wk_P, any_P2, Bool.false_eq_true, if_false]
    exact (one (.all m) rfl rfl q).2
  | som m =>
    simp only [Bool.false_eq_true, if_false]
    refine ⟨_, at0 _ _, ?_⟩
    simp only [dIn_iff (word_fit S (.som m)) wk_P, any_P2, Bool.false_eq_true, if_false]
    exact (one (.som m) rfl rfl q).2
  | non m =>
    simp only [Bool.false_eq_true, if_false]
    refine ⟨_, at0 _ _, ?_⟩
    simp only [dIn_iff (word_fit S (.non m)) wk_P, any_P2, Bool.false_eq_true, if_false]
    exact (one (.non m) rfl rfl q).2
  | cnt l k c =>
    simp only [Bool.false_eq_true, if_false]
    refine ⟨_, at0 _ _, ?_⟩
    simp only [dIn_iff (word_fit S (.cnt l k c)) wk_P, any_P2, Bool.false_eq_true, if_false]
    exact (one (.cnt l k c) rfl rfl q).2
end K03

set_option Elab.async false
set_option linter.all false
set_option maxRecDepth 100000
set_option maxHeartbeats 1000000

namespace K03
open PySem PySem.Spec PyProof.Rows L2 DW

/-! ### a simple formula in a house -/
theorem wk_all : wk (.str "all") = true := by decide +kernel
theorem wk_some : wk (.str "some") = true := by decide +kernel
theorem wk_no : wk (.str "no") = true := by decide +kernel
theorem wk_least : wk (.str "least") = true := by decide +kernel
theorem wk_and : wk (.str "and") = true := by decide +kernel
theorem wk_or : wk (.str "or") = true := by decide +kernel
theorem wk_if : wk (.str "if") = true := by decide +kernel
theorem h_at (h : Hs) : atI [D.int h.z, D.int h.a, D.int h.b, D.int h.c] 1 = some (.int h.a) ∧ atI [D.int h.z, D.int h.a, D.int h.b, D.int h.c] 2 = some (.int h.b) ∧ atI [D.int h.z, D.int h.a, D.int h.b, D.int h.c] 3 = some (.int h.c) := ⟨rfl, rfl, rfl⟩
/-- sum of some counts of a house -/
theorem sum_lcp {fs : List FSp} {S : Sto} {ρ : En} {is : List Int} {i : Nat} {elt : IE} {own : List Nat} {B : Int → Sto → Prop} (g : Int → Int) (hl : is.length ≤ 10) (he : ∀ Q S, DW.wE fs e ρ S Q = Q (.ktup (is.map D.int)) S)
    (helt : ∀ z ∈ is, ∀ S1 (R : KQ), Ext S S1 → R (.int (g z)) S1 → DW.wE fs elt ((wipeD ρ own).set i (some (.int z))) S1 R) (hB : ∀ S', Ext S S' → B (is.map g).sum S') :
    DW.wE fs (.lcp own (.name i) (.val e) .none elt) ρ S (fun x S1 => dInts x S1 fun is => B is.sum S1) := by
  simp only [DW.wE, DW.wI, he, iter_ktup]
  refine cLoop_ext (fun d => match d with
    | .int z => some (.int (g z))
    | _ => none) (by simp only [LIM, List.length_map]; omega) (fun _ _ => trivial) (fun d hd S1 ky kn e1 k => ?_) fun S' e1 e2 => ?_
  · obtain ⟨z, hz, rfl⟩ := List.mem_map.mp hd
    simp only [DW.wG, DW.wTs, if_true]
    exact helt z hz S1 _ e1 (k S1 (Ext.refl S1))
  · have e3 : ((is.map D.int).filterMap fun d => match d with
        | .int z => some (D.int (g z))
        | _ => none) = (is.map g).map D.int := by
      rw [List.filterMap_map]
      have : (fun d => match d with
        | .int z => some (D.int (g z))
        | _ => none) ∘ D.int = fun z => some (D.int (g z)) := rfl
      rw [this]
      induction is with
      | nil => rfl
      | cons a r ih => simp
    rw [e3] at e2
    have e4 : ∀ l : List Int, allI (l.map D.int) = some l := fun l => by
      induction l with
      | nil => rfl
      | cons a r ih => simp only [List.map_cons, allI, ih, Option.map_some]
    simp only [dInts, e2, e4]
    exact hB S' e1
theorem at_i {xs : List D} {k : Nat} {v : D} (h : xs[k]? = some v) : atI xs (k : Int) = some v := atI_nat h
theorem e_all_all : eqc (.str "all") (.str "all") = true := by decide +kernel
theorem e_all_some : eqc (.str "all") (.str "some") = false := by decide +kernel
theorem e_all_no : eqc (.str "all") (.str "no") = false := by decide +kernel
theorem e_all_least : eqc (.str "all") (.str "least") = false := by decide +kernel
theorem e_some_all : eqc (.str "some") (.str "all") = false := by decide +kernel
theorem e_some_some : eqc (.str "some") (.str "some") = true := by decide +kernel
theorem e_some_no : eqc (.str "some") (.str "no") = false := by decide +kernel
theorem e_some_least : eqc (.str "some") (.str "least") = false := by decide +kernel
theorem e_no_all : eqc (.str "no") (.str "all") = false := by decide +kernel
theorem e_no_some : eqc (.str "no") (.str "some") = false := by decide +kernel
theorem e_no_no : eqc (.str "no") (.str "no") = true := by decide +kernel
theorem e_no_least : eqc (.str "no") (.str "least") = false := by decide +kernel
theorem e_least_all : eqc (.str "least") (.str "all") = false := by decide +kernel
theorem e_least_some : eqc (.str "least") (.str "some") = false := by decide +kernel
theorem e_least_no : eqc (.str "least") (.str "no") = false := by decide +kernel
theorem e_least_least : eqc (.str "least") (.str "least") = true := by decide +kernel
theorem e_just_all : eqc (.str "just") (.str "all") = false := by decide +kernel
theorem e_just_some : eqc (.str "just") (.str "some") = false := by decide +kernel
theorem e_just_no : eqc (.str "just") (.str "no") = false := by decide +kernel
theorem e_just_least : eqc (.str "just") (.str "least") = false := by decide +kernel
def cntS (c : Fin 3) : Str := match c with
  | 0 => Str.ofString "a"
  | 1 => Str.ofString "b"
  | 2 => Str.ofString "both"
theorem cnt_str (c : Fin 3) : cntD c = .str (cntS c) := match c with
  | 0 => rfl
  | 1 => rfl
  | 2 => rfl
theorem ob__holds_simply (n : Nat) (ds : List D) (S : Sto) (Q : KQ) (h : lv (n + 1) 1 spHoldsS ds S Q) : wB (fsN n) ir__holds_simply (defEnds Q) (startD C__holds_simply.N ds) S := by
  obtain ⟨hl, f, h, rfl, hs, ho, q⟩ := h
  have q0 := q S (Ext.refl S)
  have hw := word_fit S f
  have ia := (h_at h).1
  have ib := (h_at h).2.1
  have ic := (h_at h).2.2
  have fa : Fit S (.int h.a) := fit_int S _
  have fb : Fit S (.int h.b) := fit_int S _
  have fc : Fit S (.int h.c) := fit_int S _
  cases f with
  | not g => cases hs
  | two w f g => cases hs
  | all m =>
    cases m
    · simp only [DW.wG, DW.wGs, gsLen, List.set_cons_succ, List.set_cons_zero, wB, wS, DW.wT, DW.wTs, DW.wE, DW.wA, DW.wO, DW.wI, List.getElem?_cons_succ, List.getElem?_cons_zero, cmp_eq, cmp_ne, cmp_in, cmp_nin, inA_tup, inA_ktup, op_shl', op_shr', op_and', op_or', op_xor', is_bl, isn_bl, iter_ktup, cmp_lt, cmp_le, cmp_gt, cmp_ge, tru_non, tru_bl, tru_int, tru_tup, op_addi, op_subi, op_muli, op_divi, op_modi, op_powi, op_addt, op_rept, len_tup, len_rol, idx_tup, idx_rol, slc_tup, iter_tup, iter_rol, eqc_int, LIM, Nat.reduceLeDiff, dBlt, dInt1, defEnds, startD, List.map_cons, List.map_nil, List.length_cons, List.length_nil, List.replicate_succ, List.replicate_zero, List.cons_append, List.nil_append, Nat.reduceAdd, Nat.reduceSub, isRef, Nat.zero_add, and_true, true_and, if_true, Bool.false_eq_true, if_false, ir__holds_simply, c_SORT_WITH_BOTH, encF, mks, encH, dEq_iff hw wk_all, show wordOf (.all false) = .str "all" from rfl, e_all_all, e_all_some, e_all_no, e_all_least, e_some_all, e_some_some, e_some_no, e_some_least, e_no_all, e_no_some, e_no_no, e_no_least, e_least_all, e_least_some, e_least_no, e_least_least, e_just_all, e_just_some, e_just_no, e_just_least] at hw ⊢
      simp only [dEq_iff hw wk_all, e_all_all, e_all_some, e_all_no, e_all_least, e_some_all, e_some_some, e_some_no, e_some_least, e_no_all, e_no_some, e_no_no, e_no_least, e_least_all, e_least_some, e_least_no, e_least_least, e_just_all, e_just_some, e_just_no, e_just_least, if_true]
      refine ⟨_, lk_b, .int h.b, ib, ?_⟩
      simp only [dEq_iff fb (wk_int 0), eqc_int]
      exact q0
    · simp only [DW.wG, DW.wGs, gsLen, List.set_cons_succ, List.set_cons_zero, wB, wS, DW.wT, DW.wTs, DW.wE, DW.wA, DW.wO, DW.wI, List.getElem?_cons_succ, List.getElem?_cons_zero, cmp_eq, cmp_ne, cmp_in, cmp_nin, inA_tup, inA_ktup, op_shl', op_shr', op_and', op_or', op_xor', is_bl, isn_bl, iter_ktup, cmp_lt, cmp_le, cmp_gt, cmp_ge, tru_non, tru_bl, tru_int, tru_tup, op_addi, op_subi, op_muli, op_divi, op_modi, op_powi, op_addt, op_rept, len_tup, len_rol, idx_tup, idx_rol, slc_tup, iter_tup, iter_rol, eqc_int, LIM, Nat.reduceLeDiff, dBlt, dInt1, defEnds, startD, List.map_cons, List.map_nil, List.length_cons, List.length_nil, List.replicate_succ, List.replicate_zero, List.cons_append, List.nil_append, Nat.reduceAdd, Nat.reduceSub, isRef, Nat.zero_add, and_true, true_and, if_true, Bool.false_eq_true, if_false, ir__holds_simply, c_SORT_WITH_BOTH, encF, mks, encH, show wordOf (.all true) = .str "all" from rfl] at hw ⊢
      simp only [dEq_iff hw wk_all, e_all_all, e_all_some, e_all_no, e_all_least, e_some_all, e_some_some, e_some_no, e_some_least, e_no_all, e_no_some, e_no_no, e_no_least, e_least_all, e_least_some, e_least_no, e_least_least, e_just_all, e_just_some, e_just_no, e_just_least, if_true]
      refine ⟨_, lk_a, .int h.a, ia, ?_⟩
      simp only [dEq_iff fa (wk_int 0), eqc_int]
      exact q0
  | som m =>
    simp only [DW.wG, DW.wGs, gsLen, List.set_cons_succ, List.set_cons_zero, wB, wS, DW.wT, DW.wTs, DW.wE, DW.wA, DW.wO, DW.wI, List.getElem?_cons_succ, List.getElem?_cons_zero, cmp_eq, cmp_ne, cmp_in, cmp_nin, inA_tup, inA_ktup, op_shl', op_shr', op_and', op_or', op_xor', is_bl, isn_bl, iter_ktup, cmp_lt, cmp_le, cmp_gt, cmp_ge, tru_non, tru_bl, tru_int, tru_tup, op_addi, op_subi, op_muli, op_divi, op_modi, op_powi, op_addt, op_rept, len_tup, len_rol, idx_tup, idx_rol, slc_tup, iter_tup, iter_rol, eqc_int, LIM, Nat.reduceLeDiff, dBlt, dInt1, defEnds, startD, List.map_cons, List.map_nil, List.length_cons, List.length_nil, List.replicate_succ, List.replicate_zero, List.cons_append, List.nil_append, Nat.reduceAdd, Nat.reduceSub, isRef, Nat.zero_add, and_true, true_and, if_true, Bool.false_eq_true, if_false, ir__holds_simply, c_SORT_WITH_BOTH, encF, encH, show wordOf (.som m) = .str "some" from rfl] at hw ⊢
    simp only [dEq_iff hw wk_all, dEq_iff hw wk_some, e_all_all, e_all_some, e_all_no, e_all_least, e_some_all, e_some_some, e_some_no, e_some_least, e_no_all, e_no_some, e_no_no, e_no_least, e_least_all, e_least_some, e_least_no, e_least_least, e_just_all, e_just_some, e_just_no, e_just_least, if_true, Bool.false_eq_true, if_false]
    refine ⟨.int h.c, ic, ?_⟩
    simp only [cmp_gt]
    exact q0
  | non m =>
    simp only [DW.wG, DW.wGs, gsLen, List.set_cons_succ, List.set_cons_zero, wB, wS, DW.wT, DW.wTs, DW.wE, DW.wA, DW.wO, DW.wI, List.getElem?_cons_succ, List.getElem?_cons_zero, cmp_eq, cmp_ne, cmp_in, cmp_nin, inA_tup, inA_ktup, op_shl', op_shr', op_and', op_or', op_xor', is_bl, isn_bl, iter_ktup, cmp_lt, cmp_le, cmp_gt, cmp_ge, tru_non, tru_bl, tru_int, tru_tup, op_addi, op_subi, op_muli, op_divi, op_modi, op_powi, op_addt, op_rept, len_tup, len_rol, idx_tup, idx_rol, slc_tup, iter_tup, iter_rol, eqc_int, LIM, Nat.reduceLeDiff, dBlt, dInt1, defEnds, startD, List.map_cons, List.map_nil, List.length_cons, List.length_nil, List.replicate_succ, List.replicate_zero, List.cons_append, List.nil_append, Nat.reduceAdd, Nat.reduceSub, isRef, Nat.zero_add, and_true, true_and, if_true, Bool.false_eq_true, if_false, ir__holds_simply, c_SORT_WITH_BOTH, encF, encH, show wordOf (.non m) = .str "no" from rfl] at hw ⊢
    simp only [dEq_iff hw wk_all, dEq_iff hw wk_some, dEq_iff hw wk_no, e_all_all, e_all_some, e_all_no, e_all_least, e_some_all, e_some_some, e_some_no, e_some_least, e_no_all, e_no_some, e_no_no, e_no_least, e_least_all, e_least_some, e_least_no, e_least_least, e_just_all, e_just_some, e_just_no, e_just_least, if_true, Bool.false_eq_true, if_false]
    refine ⟨.int h.c, ic, ?_⟩
    simp only [dEq_iff fc (wk_int 0), eqc_int]
    exact q0
  | cnt l k c =>
    have sorts : ∃ is : List Int, dc_SORTS_WITH.lookup (cntS c) = some (.ktup (is.map D.int)) ∧ is.length ≤ 10 ∧ (∀ z ∈ is, ∃ v, atI [D.int h.z, D.int h.a, D.int h.b, D.int h.c] z = some (.int v)) ∧
        (is.map fun z => if z = 1 then h.a else if z = 2 then h.b else h.c).sum = many h c ∧ ∀ z ∈ is, z = 1 ∨ z = 2 ∨ z = 3 := by
      match c with
      | 0 => exact ⟨[1, 3], lw_a, by simp, fun z hz => by simp only [List.mem_cons, List.not_mem_nil, or_false] at hz; rcases hz with rfl | rfl; exact ⟨_, ia⟩; exact ⟨_, ic⟩, by simp [many], by simp⟩
      | 1 => exact ⟨[2, 3], lw_b, by simp, fun z hz => by simp only [List.mem_cons, List.not_mem_nil, or_false] at hz; rcases hz with rfl | rfl; exact ⟨_, ib⟩; exact ⟨_, ic⟩, by simp [many], by simp⟩
      | 2 => exact ⟨[3], lw_c, by simp, fun z hz => by simp only [List.mem_cons, List.not_mem_nil, or_false] at hz; rcases hz with rfl; exact ⟨_, ic⟩, by simp [many], by simp⟩
    obtain ⟨is, s1, s2, s3, s4, s5⟩ := sorts
    have ec := cnt_str c
    have go : ∀ w : D, w = lstD l → wB (fsN n) ir__holds_simply (defEnds Q) (startD C__holds_simply.N [.tup [w, .int (k : Nat), cntD c], encH h]) S := fun w ew => by
      have hw' : Fit S w := by rw [ew]; exact hw
      have x1 : eqc w (.str "all") = false := by rw [ew]; cases l <;> simp [lstD, e_least_all, e_least_some, e_least_no, e_least_least, e_just_all, e_just_some, e_just_no, e_just_least]
      have x2 : eqc w (.str "some") = false := by rw [ew]; cases l <;> simp [lstD, e_least_all, e_least_some, e_least_no, e_least_least, e_just_all, e_just_some, e_just_no, e_just_least]
      have x3 : eqc w (.str "no") = false := by rw [ew]; cases l <;> simp [lstD, e_least_all, e_least_some, e_least_no, e_least_least, e_just_all, e_just_some, e_just_no, e_just_least]
      have x4 : eqc w (.str "least") = l := by rw [ew]; cases l <;> simp [lstD, e_least_all, e_least_some, e_least_no, e_least_least, e_just_all, e_just_some, e_just_no, e_just_least]
      simp only [DW.wG, DW.wGs, gsLen, List.set_cons_succ, List.set_cons_zero, wB, wS, DW.wT, DW.wTs, DW.wE, DW.wA, DW.wO, DW.wI, List.getElem?_cons_succ, List.getElem?_cons_zero, cmp_eq, cmp_ne, cmp_in, cmp_nin, inA_tup, inA_ktup, op_shl', op_shr', op_and', op_or', op_xor', is_bl, isn_bl, iter_ktup, cmp_lt, cmp_le, cmp_gt, cmp_ge, tru_non, tru_bl, tru_int, tru_tup, op_addi, op_subi, op_muli, op_divi, op_modi, op_powi, op_addt, op_rept, len_tup, len_rol, idx_tup, idx_rol, slc_tup, iter_tup, iter_rol, eqc_int, LIM, Nat.reduceLeDiff, dBlt, dInt1, defEnds, startD, List.map_cons, List.map_nil, List.length_cons, List.length_nil, List.replicate_succ, List.replicate_zero, List.cons_append, List.nil_append, Nat.reduceAdd, Nat.reduceSub, isRef, Nat.zero_add, and_true, true_and, if_true, Bool.false_eq_true, if_false, ir__holds_simply, c_SORT_WITH_BOTH, encH]
      simp only [dEq_iff hw' wk_all, dEq_iff hw' wk_some, dEq_iff hw' wk_no, x1, x2, x3, Bool.false_eq_true, if_false]
      unfold ir__holds_simply_l0
      refine sum_lcp (is := is) (B := fun v S1 => dEq w (D.str "least") S1 fun b1 S2 => if b1 = true then Q (.bl (decide ((k : Int) ≤ v))) S2 else dEq (.int v) (.int (k : Nat)) S2 fun b2 S3 => Q (.bl b2) S3) (fun z => if z = 1 then h.a else if z = 2 then h.b else h.c) s2 (fun Q S => ?_) (fun z hz S1 R e1 k1 => ?_) (fun S' e1 => ?_)
      · simp only [DW.wE, List.getElem?_cons_succ, List.getElem?_cons_zero, ec]
        apply propext
        constructor
        · rintro ⟨v, e, q⟩
          rw [s1] at e
          cases e
          exact q
        · intro q
          exact ⟨_, s1, q⟩
      · simp only [DW.wG, DW.wGs, gsLen, List.set_cons_succ, List.set_cons_zero, wB, wS, DW.wT, DW.wTs, DW.wE, DW.wA, DW.wO, DW.wI, List.getElem?_cons_succ, List.getElem?_cons_zero, cmp_eq, cmp_ne, cmp_in, cmp_nin, inA_tup, inA_ktup, op_shl', op_shr', op_and', op_or', op_xor', is_bl, isn_bl, iter_ktup, cmp_lt, cmp_le, cmp_gt, cmp_ge, tru_non, tru_bl, tru_int, tru_tup, op_addi, op_subi, op_muli, op_divi, op_modi, op_powi, op_addt, op_rept, len_tup, len_rol, idx_tup, idx_rol, slc_tup, iter_tup, iter_rol, eqc_int, LIM, Nat.reduceLeDiff, dBlt, dInt1, defEnds, startD, List.map_cons, List.map_nil, List.length_cons, List.length_nil, List.replicate_succ, List.replicate_zero, List.cons_append, List.nil_append, Nat.reduceAdd, Nat.reduceSub, isRef, Nat.zero_add, and_true, true_and, if_true, Bool.false_eq_true, if_false, wipeD]
        rcases s5 z hz with rfl | rfl | rfl
        · exact ⟨_, ia, k1⟩
        · exact ⟨_, ib, k1⟩
        · exact ⟨_, ic, k1⟩
      · rw [s4]
        simp only [dEq_iff (hw'.ext e1) wk_least, x4, dEq_iff (fit_int S' _) (wk_int _), eqc_int]
        have q1 := q S' e1
        cases l
        · simp only [ev, Bool.false_eq_true, if_false] at q1 ⊢
          exact q1
        · simp only [ev, if_true] at q1 ⊢
          exact q1
    exact go _ rfl
end K03

set_option Elab.async false
set_option linter.all false
set_option maxRecDepth 100000
set_option maxHeartbeats 1000000

namespace K03
open PySem PySem.Spec PyProof.Rows L2 DW

theorem g_and_and : eqc (.str "and") (.str "and") = true := by decide +kernel
theorem g_and_or : eqc (.str "and") (.str "or") = false := by decide +kernel
theorem g_and_if : eqc (.str "and") (.str "if") = false := by decide +kernel
theorem g_or_and : eqc (.str "or") (.str "and") = false := by decide +kernel
theorem g_or_or : eqc (.str "or") (.str "or") = true := by decide +kernel
theorem g_or_if : eqc (.str "or") (.str "if") = false := by decide +kernel
theorem g_if_and : eqc (.str "if") (.str "and") = false := by decide +kernel
theorem g_if_or : eqc (.str "if") (.str "or") = false := by decide +kernel
theorem g_if_if : eqc (.str "if") (.str "if") = true := by decide +kernel
theorem g_other_and : eqc (.str "other") (.str "and") = false := by decide +kernel
theorem g_other_or : eqc (.str "other") (.str "or") = false := by decide +kernel
theorem g_other_if : eqc (.str "other") (.str "if") = false := by decide +kernel
theorem key_ok (f : Fm) (h : simple f = true) : keyOf (encF f) = some (keyF f) := by
  cases f with
  | not g => cases h
  | two w f g => cases h
  | cnt l n c => cases l <;> match c with
    | 0 => rfl
    | 1 => rfl
    | 2 => rfl
  | all m => cases m <;> rfl
  | som m => cases m <;> rfl
  | non m => cases m <;> rfl
theorem ob__meaning (n : Nat) (ds : List D) (S : Sto) (Q : KQ) (h : spMeaning (n + 1) ds S Q) : wB (fsN n) ir__meaning (defEnds Q) (startD C__meaning.N ds) S := by
  obtain ⟨f, m, hs, kvs, rfl, hd, ho, hm, ha, q⟩ := h
  have simp1 : simple f = true → atoms f = [f] → ∃ k v, keyL (wordOf f :: restOf f) = some k ∧ valD kvs k = some v ∧ Q v S := fun h1 h2 => by
    have e1 := key_ok f h1
    rw [enc_eq] at e1
    exact ⟨keyF f, _, e1, ha f (by rw [h2]; simp), q⟩
  rw [enc_eq]
  simp only [DW.wG, DW.wGs, gsLen, List.set_cons_succ, List.set_cons_zero, wB, wS, DW.wT, DW.wTs, DW.wE, DW.wA, DW.wO, DW.wI, List.getElem?_cons_succ, List.getElem?_cons_zero, cmp_eq, cmp_ne, cmp_in, cmp_nin, inA_tup, inA_ktup, op_shl', op_shr', op_and', op_or', op_xor', is_bl, isn_bl, iter_ktup, cmp_lt, cmp_le, cmp_gt, cmp_ge, tru_non, tru_bl, tru_int, tru_tup, op_addi, op_subi, op_muli, op_divi, op_modi, op_powi, op_addt, op_rept, len_tup, len_rol, idx_tup, idx_rol, slc_tup, iter_tup, iter_rol, eqc_int, LIM, Nat.reduceLeDiff, dBlt, dInt1, defEnds, startD, List.map_cons, List.map_nil, List.length_cons, List.length_nil, List.replicate_succ, List.replicate_zero, List.cons_append, List.nil_append, Nat.reduceAdd, Nat.reduceSub, isRef, Nat.zero_add, and_true, true_and, if_true, Bool.false_eq_true, if_false, ir__meaning, c_PAIR_WORDS, f14]
  refine ⟨_, at0 _ _, ?_⟩
  simp only [dEq_iff (word_fit S f) wk_not, w_not, dIn_iff (word_fit S f) wk_P, any_P2]
  cases f with
  | not f =>
    simp only [if_true]
    simp only [dep] at hd
    refine ⟨encF f, rfl, f, m, hs, kvs, rfl, by omega, ho, hm, ha, ?_⟩
    simp only [op_xor', mean_not]
    exact q
  | two w f g =>
    simp only [Bool.false_eq_true, if_false, Bool.not_true]
    simp only [dep] at hd
    refine ⟨encF f, rfl, f, m, hs, kvs, rfl, by omega, ho.1, hm, fun a h => ha a (List.mem_append_left _ h), ?_⟩
    refine ⟨encF g, rfl, g, m, hs, kvs, rfl, by omega, ho.2, hm, fun a h => ha a (List.mem_append_right _ h), ?_⟩
    have e := mean_two w f g hs
    have hw := word_fit S (.two w f g)
    match w, e, hw, q with
    | 0, e, hw, q =>
      simp only [show wordOf (.two 0 f g) = .str "and" from rfl] at hw ⊢
      simp only at e
      simp only [dEq_iff hw wk_and, dEq_iff hw wk_or, dEq_iff hw wk_if, g_and_and, g_and_or, g_and_if, g_or_and, g_or_or, g_or_if, g_if_and, g_if_or, g_if_if, g_other_and, g_other_or, g_other_if, op_and', op_or', op_xor', e, if_true, Bool.false_eq_true, if_false]
      exact q
    | 1, e, hw, q =>
      simp only [show wordOf (.two 1 f g) = .str "or" from rfl] at hw ⊢
      simp only at e
      simp only [dEq_iff hw wk_and, dEq_iff hw wk_or, dEq_iff hw wk_if, g_and_and, g_and_or, g_and_if, g_or_and, g_or_or, g_or_if, g_if_and, g_if_or, g_if_if, g_other_and, g_other_or, g_other_if, op_and', op_or', op_xor', e, if_true, Bool.false_eq_true, if_false]
      exact q
    | 2, e, hw, q =>
      simp only [show wordOf (.two 2 f g) = .str "if" from rfl] at hw ⊢
      simp only at e
      simp only [dEq_iff hw wk_and, dEq_iff hw wk_or, dEq_iff hw wk_if, g_and_and, g_and_or, g_and_if, g_or_and, g_or_or, g_or_if, g_if_and, g_if_or, g_if_if, g_other_and, g_other_or, g_other_if, op_and', op_or', op_xor', e, if_true, Bool.false_eq_true, if_false]
      exact q
    | 3, e, hw, q =>
      simp only [show wordOf (.two 3 f g) = .str "other" from rfl] at hw ⊢
      simp only at e
      simp only [dEq_iff hw wk_and, dEq_iff hw wk_or, dEq_iff hw wk_if, g_and_and, g_and_or, g_and_if, g_or_and, g_or_or, g_or_if, g_if_and, g_if_or, g_if_if, g_other_and, g_other_or, g_other_if, op_and', op_or', op_xor', e, if_true, Bool.false_eq_true, if_false]
      exact q
  | all m' => 
    simp only [Bool.false_eq_true, if_false, Bool.not_false, if_true]
    rw [idx_dct hm]
    exact simp1 rfl rfl
  | som m' => 
    simp only [Bool.false_eq_true, if_false, Bool.not_false, if_true]
    rw [idx_dct hm]
    exact simp1 rfl rfl
  | non m' => 
    simp only [Bool.false_eq_true, if_false, Bool.not_false, if_true]
    rw [idx_dct hm]
    exact simp1 rfl rfl
  | cnt l k c => 
    simp only [Bool.false_eq_true, if_false, Bool.not_false, if_true]
    rw [idx_dct hm]
    exact simp1 rfl rfl

/-! ### a dict of the simple ones -/
theorem val_put_same (kvs : List (List L2.Key × D)) (k : List L2.Key) (d : D) : valD (putD kvs k d) k = some d := by
  unfold putD valD
  split
  · rename_i h
    induction kvs with
    | nil => simp at h
    | cons a r ih =>
      rw [List.map_cons, List.find?_cons]
      by_cases e : a.1 = k
      · rw [if_pos e]
        simp [e]
      · rw [if_neg e]
        have h' : (r.any fun kv => decide (kv.1 = k)) = true := by simpa [e] using h
        simp only [e, decide_false]
        exact ih h'
  · rename_i h
    rw [List.find?_append]
    have : kvs.find? (fun kv => decide (kv.1 = k)) = none := by
      rw [List.find?_eq_none]
      intro x hx q
      exact h (List.any_eq_true.mpr ⟨x, hx, q⟩)
    rw [this]
    simp
theorem val_put_other (kvs : List (List L2.Key × D)) {k k' : List L2.Key} (d : D) (hk : k' ≠ k) : valD (putD kvs k d) k' = valD kvs k' := by
  unfold putD valD
  split
  · congr 1
    induction kvs with
    | nil => rfl
    | cons a r ih =>
      rw [List.map_cons, List.find?_cons, List.find?_cons]
      by_cases e : a.1 = k
      · rw [if_pos e]
        have : ¬ a.1 = k' := fun z => hk (z.symm.trans e)
        simp only [this, decide_false]
        rename_i h
        by_cases hr : (r.any fun kv => decide (kv.1 = k)) = true
        · exact ih hr
        · have : (r.map fun kv => if kv.1 = k then (kv.1, d) else kv) = r := by
            conv => rhs; rw [← List.map_id r]
            refine List.map_congr_left fun x hx => ?_
            rw [if_neg]
            · rfl
            · intro z
              exact hr (List.any_eq_true.mpr ⟨x, hx, decide_eq_true z⟩)
          rw [this]
      · rw [if_neg e]
        rename_i h
        have h' : (r.any fun kv => decide (kv.1 = k)) = true := by simpa [e] using h
        by_cases e2 : a.1 = k'
        · simp [e2]
        · simp only [e2, decide_false]
          exact ih h'
  · rw [List.find?_append]
    have : [(k, d)].find? (fun kv => decide (kv.1 = k')) = none := by
      simp [Ne.symm hk]
    rw [this, Option.or_none]
def decF (k : List L2.Key) : Option Fm := match k with
  | [.inr w, .inr x, .inr _] => if w = Str.ofString "all" then some (.all (x == Str.ofString "a")) else if w = Str.ofString "some" then some (.som (x == Str.ofString "a")) else some (.non (x == Str.ofString "a"))
  | [.inr w, .inl n, .inr c] => some (.cnt (w == Str.ofString "least") n.toNat (if (c == Str.ofString "a") = true then 0 else if (c == Str.ofString "b") = true then 1 else 2))
  | _ => none
theorem dec_key (f : Fm) (h : simple f = true) : decF (keyF f) = some f := by
  cases f with
  | not g => cases h
  | two w f g => cases h
  | all m => cases m <;> rfl
  | som m => cases m <;> rfl
  | non m => cases m <;> rfl
  | cnt l n c => cases l <;> match c with
    | 0 => rfl
    | 1 => rfl
    | 2 => rfl
theorem key_inj {f g : Fm} (hf : simple f = true) (hg : simple g = true) (e : keyF f = keyF g) : f = g := by
  have h1 := dec_key f hf
  rw [e, dec_key g hg] at h1
  exact (Option.some.inj h1).symm
end K03

set_option Elab.async false
set_option linter.all false
set_option maxRecDepth 100000
set_option maxHeartbeats 1000000

namespace K03
open PySem PySem.Spec PyProof.Rows L2 DW

def unH (d : D) : Hs := match d with
  | .tup [.int z, .int a, .int b, .int c] => ⟨z, a, b, c⟩
  | _ => ⟨0, 0, 0, 0⟩
theorem un_enc (h : Hs) : unH (encH h) = h := rfl
def bitF (a : Fm) (d : D) : Option D := match d with
  | .tup [.int i, hd] => if ev (unH hd) a = true then some (.int (2 ^ i.toNat)) else none
  | _ => none
theorem bit_list (a : Fm) : ∀ (hs : List Hs) (k : Nat), (enumK k (hs.map encH)).filterMap (bitF a) = (pows k (hs.map fun h => ev h a)).map D.int
  | [], _ => rfl
  | h :: r, k => by
    rw [List.map_cons, enumK, List.filterMap_cons, List.map_cons, pows, List.map_append, ← bit_list a r (k + 1)]
    simp only [bitF, un_enc, Int.toNat_natCast]
    rcases bb (ev h a) with q | q
    · simp only [q, if_true]; rfl
    · simp only [q, Bool.false_eq_true, if_false]; rfl
theorem enumK_mem {d : D} : ∀ {ds : List D} {k : Nat}, d ∈ enumK k ds → ∃ i e, d = .tup [.int ((i : Nat) : Int), e] ∧ e ∈ ds ∧ i < k + ds.length
  | [], _, h => by cases h
  | e :: r, k, h => by
    rcases List.mem_cons.mp h with z | z
    · exact ⟨k, e, z, List.mem_cons_self, by simp⟩
    · obtain ⟨i, e', h1, h2, h3⟩ := enumK_mem z
      exact ⟨i, e', h1, List.mem_cons_of_mem _ h2, by simp only [List.length_cons]; omega⟩
theorem enumK_len : ∀ (ds : List D) (k : Nat), (enumK k ds).length = ds.length
  | [], _ => rfl
  | _ :: r, k => by simp [enumK, enumK_len r (k + 1)]
theorem allI_map : ∀ l : List Int, allI (l.map D.int) = some l
  | [] => rfl
  | a :: r => by simp only [List.map_cons, allI, allI_map r, Option.map_some]
/-- the bits of a simple formula -/
theorem bits_lcp {n : Nat} {S : Sto} {nf nh m : Nat} {fd x5 x6 : Option D} {a : Fm} {hs : List Hs} {B : Int → Sto → Prop} (hn : 1 ≤ n) (hh : S[nh]? = some (.lst (hs.map encH))) (hz : hs.length ≤ 200) (ha : simple a = true) (ho : okF a) (hB : ∀ S', Ext S S' → B (mean a hs) S') :
    DW.wE (fsN n) ir__simple_meanings_l0 [some (.ref nf), some (.ref nh), some (.ref m), fd, some (encF a), x5, x6] S (fun x S1 => dInts x S1 fun is => B is.sum S1) := by
  unfold ir__simple_meanings_l0
  simp only [DW.wE, DW.wI, List.getElem?_cons_succ, List.getElem?_cons_zero, dLIter, hh]
  rw [enum_eq]
  refine cLoop_ext (bitF a) (by simp only [LIM, enumK_len, List.length_map]; omega) (fun S' e => e _ _ hh) (fun d hd S1 ky kn e1 k => ?_) fun S' e1 e2 => ?_
  · obtain ⟨i, e, rfl, he, hi⟩ := enumK_mem hd
    obtain ⟨h, hh', rfl⟩ := List.mem_map.mp he
    rw [List.length_map] at hi
    simp only [DW.wG, DW.wGs, gsLen, List.set_cons_succ, List.set_cons_zero, wB, wS, DW.wT, DW.wTs, DW.wE, DW.wA, DW.wO, DW.wI, List.getElem?_cons_succ, List.getElem?_cons_zero, cmp_eq, cmp_ne, cmp_in, cmp_nin, inA_tup, inA_ktup, op_shl', op_shr', op_and', op_or', op_xor', is_bl, isn_bl, iter_ktup, cmp_lt, cmp_le, cmp_gt, cmp_ge, tru_non, tru_bl, tru_int, tru_tup, op_addi, op_subi, op_muli, op_divi, op_modi, op_powi, op_addt, op_rept, len_tup, len_rol, idx_tup, idx_rol, slc_tup, iter_tup, iter_rol, eqc_int, LIM, Nat.reduceLeDiff, dBlt, dInt1, defEnds, startD, List.map_cons, List.map_nil, List.length_cons, List.length_nil, List.replicate_succ, List.replicate_zero, List.cons_append, List.nil_append, Nat.reduceAdd, Nat.reduceSub, isRef, Nat.zero_add, and_true, true_and, if_true, Bool.false_eq_true, if_false, DW.wTs, wipeD, f17]
    refine ⟨hn, a, h, rfl, ha, ho, fun S2 e3 => ?_⟩
    have k2 := k S2 e3
    simp only [bitF, un_enc] at k2
    show dTru (D.bl (ev h a)) S2 _
    rw [tru_bl]
    rcases bb (ev h a) with q | q
    · simp only [q, if_true] at k2 ⊢
      refine ⟨⟨by omega, by omega, by decide⟩, ?_⟩
      rw [Int.one_mul]
      exact k2
    · simp only [q, Bool.false_eq_true, if_false] at k2 ⊢
      exact k2
  · rw [bit_list] at e2
    simp only [dInts, e2, allI_map, pows_sum]
    rw [Int.pow_zero, Int.mul_one]
    exact hB S' e1
/-- what a dict of simple ones holds is right -/
def Good (hs : List Hs) (kvs : List (List L2.Key × D)) : Prop := ∀ a, simple a = true → valD kvs (keyF a) = none ∨ valD kvs (keyF a) = some (.int (mean a hs))
theorem Good.put {hs : List Hs} {kvs : List (List L2.Key × D)} (g : Good hs kvs) {a : Fm} (ha : simple a = true) : Good hs (putD kvs (keyF a) (.int (mean a hs))) := fun b hb => by
  by_cases e : keyF b = keyF a
  · have := key_inj hb ha e
    subst this
    exact .inr (val_put_same _ _ _)
  · rw [val_put_other _ _ e]
    exact g b hb
theorem put_len (kvs : List (List L2.Key × D)) (k : List L2.Key) (d : D) : (putD kvs k d).length ≤ kvs.length + 1 := by
  unfold putD
  split
  · simp
  · simp
def Keeps (kvs kvs' : List (List L2.Key × D)) : Prop := ∀ k v, valD kvs k = some v → ∃ v', valD kvs' k = some v'
theorem simple_b0 {n : Nat} {E : DEnds} {S : Sto} {nf nh m : Nat} {fd x5 x6 : Option D} {a : Fm} {hs : List Hs} {kvs : List (List L2.Key × D)} (hn : 1 ≤ n) (hh : S[nh]? = some (.lst (hs.map encH))) (hz : hs.length ≤ 200) (ha : simple a = true) (ho : okF a) (hm : S[m]? = some (.dct kvs)) (g : Good hs kvs) (hk : kvs.length < 50001)
    (h : ∀ S' kvs', ExtB m S S' → S'[m]? = some (.dct kvs') → Good hs kvs' → valD kvs' (keyF a) = some (.int (mean a hs)) → Keeps kvs kvs' → kvs'.length ≤ kvs.length + 1 → E.nx [some (.ref nf), some (.ref nh), some (.ref m), fd, some (encF a), x5, x6] S') :
    wB (fsN n) ir__simple_meanings_b0 E [some (.ref nf), some (.ref nh), some (.ref m), fd, some (encF a), x5, x6] S := by
  have key := key_ok a ha
  simp only [DW.wG, DW.wGs, gsLen, List.set_cons_succ, List.set_cons_zero, wB, wS, DW.wT, DW.wTs, DW.wE, DW.wA, DW.wO, DW.wI, List.getElem?_cons_succ, List.getElem?_cons_zero, cmp_eq, cmp_ne, cmp_in, cmp_nin, inA_tup, inA_ktup, op_shl', op_shr', op_and', op_or', op_xor', is_bl, isn_bl, iter_ktup, cmp_lt, cmp_le, cmp_gt, cmp_ge, tru_non, tru_bl, tru_int, tru_tup, op_addi, op_subi, op_muli, op_divi, op_modi, op_powi, op_addt, op_rept, len_tup, len_rol, idx_tup, idx_rol, slc_tup, iter_tup, iter_rol, eqc_int, LIM, Nat.reduceLeDiff, dBlt, dInt1, defEnds, startD, List.map_cons, List.map_nil, List.length_cons, List.length_nil, List.replicate_succ, List.replicate_zero, List.cons_append, List.nil_append, Nat.reduceAdd, Nat.reduceSub, isRef, Nat.zero_add, and_true, true_and, if_true, Bool.false_eq_true, if_false, ir__simple_meanings_b0]
  rw [inA_dct hm]
  refine ⟨keyF a, key, ?_⟩
  rcases g a ha with e | e
  · simp only [e, Option.isSome_none, Bool.not_false, if_true]
    refine bits_lcp (B := fun v S1 => dSet (.ref m) (encF a) (.int v) S1 fun S3 => E.nx [some (.ref nf), some (.ref nh), some (.ref m), fd, some (encF a), x5, x6] S3) hn hh hz ha ho fun S1 e1 => ?_
    have hm1 := e1 _ _ hm
    have key2 := key
    rw [enc_eq] at key2
    rw [enc_eq]
    simp only [dSet, hm1]
    refine ⟨keyF a, key2, by simp only [LIM]; omega, ?_⟩
    rw [← enc_eq]
    refine h _ _ ((e1.b m).trans (ExtB.set m S1 _)) (sto_set hm1) (g.put ha) (val_put_same _ _ _) (fun k v q => ?_) (put_len _ _ _)
    by_cases ek : k = keyF a
    · subst ek; exact ⟨_, val_put_same _ _ _⟩
    · exact ⟨v, by rw [val_put_other _ _ ek]; exact q⟩
  · simp only [e, Option.isSome_some, Bool.not_true, Bool.false_eq_true, if_false]
    exact h S kvs (ExtB.refl m S) hm g e (fun k v q => ⟨v, q⟩) (Nat.le_succ _)
/-- the parts of one formula -/
theorem simple_l1 {n : Nat} {E : DEnds} {nf nh m p : Nat} {fd x5 x6 : Option D} {hs : List Hs} {as0 : List D} (hn : 1 ≤ n) (hz : hs.length ≤ 200) (hp : p ≠ m) (hnm : nh ≠ m) :
    ∀ (as : List Fm) (x4 : Option D) (S : Sto) (kvs : List (List L2.Key × D)), S[p]? = some (.lst as0) → S[nh]? = some (.lst (hs.map encH)) → (∀ a ∈ as, simple a = true ∧ okF a) → S[m]? = some (.dct kvs) → Good hs kvs → kvs.length + as.length < 50001 →
      (∀ S' kvs' x4', ExtB m S S' → S'[m]? = some (.dct kvs') → Good hs kvs' → (∀ a ∈ as, ∃ v, valD kvs' (keyF a) = some v) → Keeps kvs kvs' → kvs'.length ≤ kvs.length + as.length → E.nx [some (.ref nf), some (.ref nh), some (.ref m), fd, x4', x5, x6] S') →
      fLoop (fun S' => S'[p]? = some (.lst as0)) (fun d ρ' S' k => DW.wG (fsN n) (.name 4) d ρ' S' k) (fun E' ρ' S' => wB (fsN n) ir__simple_meanings_b0 E' ρ' S') E (as.map encF) [some (.ref nf), some (.ref nh), some (.ref m), fd, x4, x5, x6] S
  | [], x4, S, kvs, hps, hh, _, hm, g, hk, fin => ⟨hps, fin S kvs x4 (ExtB.refl m S) hm g (fun a h => by cases h) (fun k v q => ⟨v, q⟩) (by simp)⟩
  | a :: r, x4, S, kvs, hps, hh, hs2, hm, g, hk, fin => by
    refine ⟨hps, ?_⟩
    show wB (fsN n) ir__simple_meanings_b0 _ [some (.ref nf), some (.ref nh), some (.ref m), fd, some (encF a), x5, x6] S
    rw [List.length_cons] at hk
    refine simple_b0 hn hh hz (hs2 a List.mem_cons_self).1 (hs2 a List.mem_cons_self).2 hm g (by omega) fun S1 kvs1 e1 m1 g1 v1 k1 l1 => ?_
    refine simple_l1 hn hz hp hnm r (some (encF a)) S1 kvs1 (e1.2 _ _ hp hps) (e1.2 _ _ hnm hh) (fun b hb => hs2 b (List.mem_cons_of_mem _ hb)) m1 g1 (by omega) fun S2 kvs2 x4' e2 m2 g2 v2 k2 l2 => ?_
    refine fin S2 kvs2 x4' (e1.trans e2) m2 g2 (fun b hb => ?_) (fun k v q => ?_) (by rw [List.length_cons]; omega)
    · rcases List.mem_cons.mp hb with z | z
      · rw [z]; exact k2 _ _ v1
      · exact v2 b z
    · obtain ⟨v', q'⟩ := k1 k v q
      exact k2 _ _ q'
theorem simple_b1 {n : Nat} {E : DEnds} {nf nh m : Nat} {x4 x5 x6 : Option D} {hs : List Hs} {f : Fm} {S : Sto} {kvs : List (List L2.Key × D)} (hn : 18 ≤ n) (hz : hs.length ≤ 200) (hnm : nh < m)
    (hh : S[nh]? = some (.lst (hs.map encH))) (ho : okF f) (hd : dep f ≤ 17) (hm : S[m]? = some (.dct kvs)) (g : Good hs kvs) (hk : kvs.length + (atoms f).length < 50001)
    (fin : ∀ S' kvs' x4', ExtB m S S' → S'[m]? = some (.dct kvs') → Good hs kvs' → (∀ a ∈ atoms f, ∃ v, valD kvs' (keyF a) = some v) → Keeps kvs kvs' → kvs'.length ≤ kvs.length + (atoms f).length → E.nx [some (.ref nf), some (.ref nh), some (.ref m), some (encF f), x4', x5, x6] S') :
    wB (fsN n) ir__simple_meanings_b1 E [some (.ref nf), some (.ref nh), some (.ref m), some (encF f), x4, x5, x6] S := by
  simp only [DW.wG, DW.wGs, gsLen, List.set_cons_succ, List.set_cons_zero, wB, wS, DW.wT, DW.wTs, DW.wE, DW.wA, DW.wO, DW.wI, List.getElem?_cons_succ, List.getElem?_cons_zero, cmp_eq, cmp_ne, cmp_in, cmp_nin, inA_tup, inA_ktup, op_shl', op_shr', op_and', op_or', op_xor', is_bl, isn_bl, iter_ktup, cmp_lt, cmp_le, cmp_gt, cmp_ge, tru_non, tru_bl, tru_int, tru_tup, op_addi, op_subi, op_muli, op_divi, op_modi, op_powi, op_addt, op_rept, len_tup, len_rol, idx_tup, idx_rol, slc_tup, iter_tup, iter_rol, eqc_int, LIM, Nat.reduceLeDiff, dBlt, dInt1, defEnds, startD, List.map_cons, List.map_nil, List.length_cons, List.length_nil, List.replicate_succ, List.replicate_zero, List.cons_append, List.nil_append, Nat.reduceAdd, Nat.reduceSub, isRef, Nat.zero_add, and_true, true_and, if_true, Bool.false_eq_true, if_false, ir__simple_meanings_b1, f16]
  refine ⟨f, rfl, by omega, hd, ho, fun S1 p e1 l1 hp => ?_⟩
  have hml : m < S.length := (List.getElem?_eq_some_iff.mp hm).1
  have hpm : p ≠ m := by omega
  show dIter (.ref p) S1 _
  rw [iter_ref hp]
  refine simple_l1 (by omega) hz hpm (by omega) (atoms f) x4 S1 kvs hp (e1 _ _ hh) (fun a ha => ⟨atoms_simple f a ha, atoms_ok f ho a ha⟩) (e1 _ _ hm) g (by omega) fun S2 kvs2 x4' e2 m2 g2 v2 k2 l2 => ?_
  exact fin S2 kvs2 x4' ((e1.b m).trans e2) m2 g2 v2 k2 l2
theorem simple_l0 {n : Nat} {E : DEnds} {nf nh m : Nat} {x5 x6 : Option D} {hs : List Hs} {fs0 : List D} (hn : 18 ≤ n) (hz : hs.length ≤ 200) (hnf : nf < m) (hnm : nh < m) :
    ∀ (fs : List Fm) (x3 x4 : Option D) (S : Sto) (kvs : List (List L2.Key × D)), S[nf]? = some (.lst fs0) → S[nh]? = some (.lst (hs.map encH)) → (∀ f ∈ fs, okF f ∧ dep f ≤ 17) → S[m]? = some (.dct kvs) → Good hs kvs → kvs.length + (fs.map fun f => (atoms f).length).sum < 50001 →
      (∀ S' kvs' x3' x4', ExtB m S S' → S'[m]? = some (.dct kvs') → Good hs kvs' → (∀ f ∈ fs, ∀ a ∈ atoms f, ∃ v, valD kvs' (keyF a) = some v) → Keeps kvs kvs' → E.nx [some (.ref nf), some (.ref nh), some (.ref m), x3', x4', x5, x6] S') →
      fLoop (fun S' => S'[nf]? = some (.lst fs0)) (fun d ρ' S' k => DW.wG (fsN n) (.name 3) d ρ' S' k) (fun E' ρ' S' => wB (fsN n) ir__simple_meanings_b1 E' ρ' S') E (fs.map encF) [some (.ref nf), some (.ref nh), some (.ref m), x3, x4, x5, x6] S
  | [], x3, x4, S, kvs, hf, hh, _, hm, g, hk, fin => ⟨hf, fin S kvs x3 x4 (ExtB.refl m S) hm g (fun f h => by cases h) (fun k v q => ⟨v, q⟩)⟩
  | f :: r, x3, x4, S, kvs, hf, hh, hs2, hm, g, hk, fin => by
    refine ⟨hf, ?_⟩
    show wB (fsN n) ir__simple_meanings_b1 _ [some (.ref nf), some (.ref nh), some (.ref m), some (encF f), x4, x5, x6] S
    rw [List.map_cons, List.sum_cons] at hk
    obtain ⟨ho, hd⟩ := hs2 f List.mem_cons_self
    refine simple_b1 hn hz hnm hh ho hd hm g (by omega) fun S2 kvs2 x4' E2 m2 g2 v2 k2 l2 => ?_
    refine simple_l0 hn hz hnf hnm r (some (encF f)) x4' S2 kvs2 (E2.2 _ _ (by omega) hf) (E2.2 _ _ (by omega) hh) (fun b hb => hs2 b (List.mem_cons_of_mem _ hb)) m2 g2 (by omega) fun S3 kvs3 x3' x4'' e3 m3 g3 v3 k3 => ?_
    refine fin S3 kvs3 x3' x4'' (E2.trans e3) m3 g3 (fun b hb a ha => ?_) (fun k v q => ?_)
    · rcases List.mem_cons.mp hb with z | z
      · subst z
        obtain ⟨v, q⟩ := v2 a ha
        exact k3 _ _ q
      · exact v3 b z a ha
    · obtain ⟨v', q'⟩ := k2 k v q
      exact k3 _ _ q'
theorem extB_new {m : Nat} {S S' : Sto} {o : Ob} (hm : S.length = m) (e : ExtB m (S ++ [o]) S') : Ext S S' := fun n u h => by
  have hl := (List.getElem?_eq_some_iff.mp h).1
  exact e.2 n u (by omega) (by rw [List.getElem?_append_left hl]; exact h)
theorem ob__simple_meanings (n : Nat) (ds : List D) (S : Sto) (Q : KQ) (h : lv (n + 1) 19 spSimple ds S Q) : wB (fsN n) ir__simple_meanings (defEnds Q) (startD C__simple_meanings.N ds) S := by
  obtain ⟨hl, nf, nh, fs, hs, rfl, hf, hh, hfl, hz, hfs, hsum, q⟩ := h
  have hfl := (List.getElem?_eq_some_iff.mp hf).1
  have hhl := (List.getElem?_eq_some_iff.mp hh).1
  have e0 := Ext.app S [Ob.dct []]
  simp only [DW.wG, DW.wGs, gsLen, List.set_cons_succ, List.set_cons_zero, wB, wS, DW.wT, DW.wTs, DW.wE, DW.wA, DW.wO, DW.wI, List.getElem?_cons_succ, List.getElem?_cons_zero, cmp_eq, cmp_ne, cmp_in, cmp_nin, inA_tup, inA_ktup, op_shl', op_shr', op_and', op_or', op_xor', is_bl, isn_bl, iter_ktup, cmp_lt, cmp_le, cmp_gt, cmp_ge, tru_non, tru_bl, tru_int, tru_tup, op_addi, op_subi, op_muli, op_divi, op_modi, op_powi, op_addt, op_rept, len_tup, len_rol, idx_tup, idx_rol, slc_tup, iter_tup, iter_rol, eqc_int, LIM, Nat.reduceLeDiff, dBlt, dInt1, defEnds, startD, List.map_cons, List.map_nil, List.length_cons, List.length_nil, List.replicate_succ, List.replicate_zero, List.cons_append, List.nil_append, Nat.reduceAdd, Nat.reduceSub, isRef, Nat.zero_add, and_true, true_and, if_true, Bool.false_eq_true, if_false, ir__simple_meanings]
  rw [iter_ref (e0 _ _ hf)]
  refine simple_l0 (by omega) hz (by omega) (by omega) fs none none _ [] (e0 _ _ hf) (e0 _ _ hh) hfs (sto_last S _) (fun a _ => .inl rfl) (by simpa using by omega) fun S' kvs' x3 x4 e1 m1 g1 v1 k1 => ?_
  simp only [DW.wG, DW.wGs, gsLen, List.set_cons_succ, List.set_cons_zero, wB, wS, DW.wT, DW.wTs, DW.wE, DW.wA, DW.wO, DW.wI, List.getElem?_cons_succ, List.getElem?_cons_zero, cmp_eq, cmp_ne, cmp_in, cmp_nin, inA_tup, inA_ktup, op_shl', op_shr', op_and', op_or', op_xor', is_bl, isn_bl, iter_ktup, cmp_lt, cmp_le, cmp_gt, cmp_ge, tru_non, tru_bl, tru_int, tru_tup, op_addi, op_subi, op_muli, op_divi, op_modi, op_powi, op_addt, op_rept, len_tup, len_rol, idx_tup, idx_rol, slc_tup, iter_tup, iter_rol, eqc_int, LIM, Nat.reduceLeDiff, dBlt, dInt1, defEnds, startD, List.map_cons, List.map_nil, List.length_cons, List.length_nil, List.replicate_succ, List.replicate_zero, List.cons_append, List.nil_append, Nat.reduceAdd, Nat.reduceSub, isRef, Nat.zero_add, and_true, true_and, if_true, Bool.false_eq_true, if_false]
  refine q S' _ kvs' (extB_new rfl e1) (Nat.le_refl _) m1 fun f hf a ha => ?_
  obtain ⟨v, e⟩ := v1 f hf a ha
  rcases g1 a (atoms_simple f a ha) with z | z
  · rw [z] at e; cases e
  · exact z
end K03

set_option Elab.async false
set_option linter.all false
set_option maxRecDepth 100000
set_option maxHeartbeats 1000000

namespace K03
open PySem PySem.Spec PyProof.Rows L2 DW

/-- a comprehension over a list, its element a call's number -/
theorem ob_meanings (n : Nat) (ds : List D) (S : Sto) (Q : KQ) (h : lv (n + 1) 20 spMeanings ds S Q) : wB (fsN n) ir_meanings (defEnds Q) (startD C_meanings.N ds) S := by
  obtain ⟨hl, nf, nh, fs, hs, rfl, hf, hh, hfl, hz, hfs, hsum, q⟩ := h
  simp only [DW.wG, DW.wGs, gsLen, List.set_cons_succ, List.set_cons_zero, wB, wS, DW.wT, DW.wTs, DW.wE, DW.wA, DW.wO, DW.wI, List.getElem?_cons_succ, List.getElem?_cons_zero, cmp_eq, cmp_ne, cmp_in, cmp_nin, inA_tup, inA_ktup, op_shl', op_shr', op_and', op_or', op_xor', is_bl, isn_bl, iter_ktup, cmp_lt, cmp_le, cmp_gt, cmp_ge, tru_non, tru_bl, tru_int, tru_tup, op_addi, op_subi, op_muli, op_divi, op_modi, op_powi, op_addt, op_rept, len_tup, len_rol, idx_tup, idx_rol, slc_tup, iter_tup, iter_rol, eqc_int, LIM, Nat.reduceLeDiff, dBlt, dInt1, defEnds, startD, List.map_cons, List.map_nil, List.length_cons, List.length_nil, List.replicate_succ, List.replicate_zero, List.cons_append, List.nil_append, Nat.reduceAdd, Nat.reduceSub, isRef, Nat.zero_add, and_true, true_and, if_true, Bool.false_eq_true, if_false, ir_meanings, f15]
  refine ⟨by omega, nf, nh, fs, hs, rfl, hf, hh, hfl, hz, hfs, hsum, fun S1 m kvs e1 l1 h1 v1 => ?_⟩
  show DW.wE (fsN n) ir_meanings_l0 [some (.ref nf), some (.ref nh), some (.ref m), none] S1 Q
  unfold ir_meanings_l0
  simp only [DW.wE, DW.wI, List.getElem?_cons_zero]
  rw [iter_ref (e1 _ _ hf)]
  let g : D → Option D := fun d => (fs.find? fun f => decide (keyOf (encF f) = keyOf d ∧ True)).map fun _ => D.non
  refine cLoop_gen (J := fun r acc S' => ∃ done rest, fs = done ++ rest ∧ r = rest.map encF ∧ acc = done.map (fun f => D.int (mean f hs)) ∧ Ext S1 S' ∧ S'[S1.length]? = some (.lst acc)) ?_ ?_ ?_ (fs.map encF) [] _ ⟨[], fs, rfl, rfl, rfl, Ext.app S1 _, sto_last S1 _⟩
  · rintro r acc S' ⟨done, rest, _, _, _, e, _⟩
    exact (e1.trans e) _ _ hf
  · rintro d r acc S' ky kn ⟨done, rest, a1, a2, a3, a4, a5⟩ k1 k2
    cases rest with
    | nil => cases a2
    | cons f rest =>
      rw [List.map_cons, List.cons.injEq] at a2
      obtain ⟨rfl, a2⟩ := a2
      have hmem : f ∈ fs := by rw [a1]; simp
      obtain ⟨ho, hd⟩ := hfs f hmem
      have E4 := e1.trans a4
      simp only [DW.wG, DW.wGs, gsLen, List.set_cons_succ, List.set_cons_zero, wB, wS, DW.wT, DW.wTs, DW.wE, DW.wA, DW.wO, DW.wI, List.getElem?_cons_succ, List.getElem?_cons_zero, cmp_eq, cmp_ne, cmp_in, cmp_nin, inA_tup, inA_ktup, op_shl', op_shr', op_and', op_or', op_xor', is_bl, isn_bl, iter_ktup, cmp_lt, cmp_le, cmp_gt, cmp_ge, tru_non, tru_bl, tru_int, tru_tup, op_addi, op_subi, op_muli, op_divi, op_modi, op_powi, op_addt, op_rept, len_tup, len_rol, idx_tup, idx_rol, slc_tup, iter_tup, iter_rol, eqc_int, LIM, Nat.reduceLeDiff, dBlt, dInt1, defEnds, startD, List.map_cons, List.map_nil, List.length_cons, List.length_nil, List.replicate_succ, List.replicate_zero, List.cons_append, List.nil_append, Nat.reduceAdd, Nat.reduceSub, isRef, Nat.zero_add, and_true, true_and, if_true, Bool.false_eq_true, if_false, DW.wTs, wipeD, f14, f10]
      refine ⟨by omega, nh, hs.map encH, rfl, E4 _ _ hh, by rw [List.length_map]; omega, ?_⟩
      rw [List.length_map]
      refine ⟨f, m, hs, kvs, rfl, by omega, ho, a4 _ _ h1, fun a ha => v1 f hmem a ha, ?_⟩
      refine k1 _ S' a5 ?_ ⟨done ++ [f], rest, by rw [a1]; simp, a2, by rw [a3]; simp, a4.set (Nat.le_refl _) _, sto_set a5⟩
      rw [a3, List.length_map]
      have : done.length ≤ fs.length := by rw [a1]; simp
      simp only [LIM]; omega
  · rintro acc S' ⟨done, rest, a1, a2, a3, a4, a5⟩
    cases rest with
    | cons f r => cases a2
    | nil =>
      rw [List.append_nil] at a1
      subst a1
      refine q S' S1.length (e1.trans a4) e1.len ?_
      rw [a5, a3]
theorem bit_shr (x i : Nat) : Builtin.bitAnd ((x : Int) / 2 ^ i) 1 = if x.testBit i = true then 1 else 0 := by
  rw [show (1 : Int) = 2 ^ 1 - 1 by decide]
  have h : (0 : Int) ≤ (x : Int) / 2 ^ i := Int.ediv_nonneg (Int.natCast_nonneg _) (by
    have := Int.pow_pos (n := 2) (m := i) (by decide)
    omega)
  rw [Bits.bitAnd_mask 1 h]
  rw [Nat.testBit_eq_decide_div_mod_eq]
  have e : ((x : Int) / 2 ^ i) % 2 ^ 1 = ((x / 2 ^ i % 2 : Nat) : Int) := by
    push_cast
    rfl
  rw [e]
  have : x / 2 ^ i % 2 < 2 := Nat.mod_lt _ (by decide)
  by_cases q : x / 2 ^ i % 2 = 1
  · simp [q]
  · have : x / 2 ^ i % 2 = 0 := by omega
    simp [this]
end K03

set_option Elab.async false
set_option linter.all false
set_option maxRecDepth 100000
set_option maxHeartbeats 1000000

namespace K03
open PySem PySem.Spec PyProof.Rows L2 DW

theorem enumK_at {d : D} : ∀ {ds : List D} {k : Nat}, d ∈ enumK k ds → ∃ j e, d = .tup [.int ((k + j : Nat) : Int), e] ∧ ds[j]? = some e
  | [], _, h => by cases h
  | e :: r, k, h => by
    rcases List.mem_cons.mp h with z | z
    · exact ⟨0, e, by rw [z]; rfl, rfl⟩
    · obtain ⟨j, e', h1, h2⟩ := enumK_at z
      exact ⟨j + 1, e', by rw [h1, show k + 1 + j = k + (j + 1) by omega], by simpa using h2⟩
def keepF (f : Fm) (d : D) : Option D := match d with
  | .tup [.int _, hd] => if ev (unH hd) f = true then some hd else none
  | _ => none
theorem keep_list (f : Fm) : ∀ (hs : List Hs) (k : Nat), (enumK k (hs.map encH)).filterMap (keepF f) = (hs.filter fun h => ev h f).map encH
  | [], _ => rfl
  | h :: r, k => by
    rw [List.map_cons, enumK, List.filterMap_cons, List.filter_cons, keep_list f r (k + 1)]
    simp only [keepF, un_enc]
    rcases bb (ev h f) with q | q
    · simp only [q, if_true]; rfl
    · simp only [q, Bool.false_eq_true, if_false]
theorem ob_holds_at (n : Nat) (ds : List D) (S : Sto) (Q : KQ) (h : lv (n + 1) 1 spHoldsAt ds S Q) : wB (fsN n) ir_holds_at (defEnds Q) (startD C_holds_at.N ds) S := by
  obtain ⟨hl, m, j, rfl, q⟩ := h
  simp only [DW.wG, DW.wGs, gsLen, List.set_cons_succ, List.set_cons_zero, wB, wS, DW.wT, DW.wTs, DW.wE, DW.wA, DW.wO, DW.wI, List.getElem?_cons_succ, List.getElem?_cons_zero, cmp_eq, cmp_ne, cmp_in, cmp_nin, inA_tup, inA_ktup, op_shl', op_shr', op_and', op_or', op_xor', is_bl, isn_bl, iter_ktup, cmp_lt, cmp_le, cmp_gt, cmp_ge, tru_non, tru_bl, tru_int, tru_tup, op_addi, op_subi, op_muli, op_divi, op_modi, op_powi, op_addt, op_rept, len_tup, len_rol, idx_tup, idx_rol, slc_tup, iter_tup, iter_rol, eqc_int, LIM, Nat.reduceLeDiff, dBlt, dInt1, defEnds, startD, List.map_cons, List.map_nil, List.length_cons, List.length_nil, List.replicate_succ, List.replicate_zero, List.cons_append, List.nil_append, Nat.reduceAdd, Nat.reduceSub, isRef, Nat.zero_add, and_true, true_and, if_true, Bool.false_eq_true, if_false, ir_holds_at]
  refine ⟨by omega, ?_⟩
  simp only [dEq_iff (fit_int S _) (wk_int 1), eqc_int, Int.toNat_natCast]
  exact q
theorem ob_houses_of (n : Nat) (ds : List D) (S : Sto) (Q : KQ) (h : lv (n + 1) 2 spHousesOf ds S Q) : wB (fsN n) ir_houses_of (defEnds Q) (startD C_houses_of.N ds) S := by
  obtain ⟨hl, m, f, hs, rfl, hh, hz, q⟩ := h
  simp only [DW.wG, DW.wGs, gsLen, List.set_cons_succ, List.set_cons_zero, wB, wS, DW.wT, DW.wTs, DW.wE, DW.wA, DW.wO, DW.wI, List.getElem?_cons_succ, List.getElem?_cons_zero, cmp_eq, cmp_ne, cmp_in, cmp_nin, inA_tup, inA_ktup, op_shl', op_shr', op_and', op_or', op_xor', is_bl, isn_bl, iter_ktup, cmp_lt, cmp_le, cmp_gt, cmp_ge, tru_non, tru_bl, tru_int, tru_tup, op_addi, op_subi, op_muli, op_divi, op_modi, op_powi, op_addt, op_rept, len_tup, len_rol, idx_tup, idx_rol, slc_tup, iter_tup, iter_rol, eqc_int, LIM, Nat.reduceLeDiff, dBlt, dInt1, defEnds, startD, List.map_cons, List.map_nil, List.length_cons, List.length_nil, List.replicate_succ, List.replicate_zero, List.cons_append, List.nil_append, Nat.reduceAdd, Nat.reduceSub, isRef, Nat.zero_add, and_true, true_and, if_true, Bool.false_eq_true, if_false, ir_houses_of]
  unfold ir_houses_of_l0
  simp only [DW.wE, DW.wI, List.getElem?_cons_succ, List.getElem?_cons_zero, dLIter, hh]
  rw [enum_eq]
  refine cLoop_ext (keepF f) (by simp only [LIM, enumK_len, List.length_map]; omega) (fun S' e => e _ _ hh) (fun d hd S1 ky kn e1 k => ?_) fun S' e1 e2 => ?_
  · obtain ⟨j, e, rfl, he⟩ := enumK_at hd
    rw [List.getElem?_map] at he
    obtain ⟨h, hj, rfl⟩ := Option.map_eq_some_iff.mp he
    rw [Nat.zero_add] at k ⊢
    simp only [DW.wG, DW.wGs, gsLen, List.set_cons_succ, List.set_cons_zero, wB, wS, DW.wT, DW.wTs, DW.wE, DW.wA, DW.wO, DW.wI, List.getElem?_cons_succ, List.getElem?_cons_zero, cmp_eq, cmp_ne, cmp_in, cmp_nin, inA_tup, inA_ktup, op_shl', op_shr', op_and', op_or', op_xor', is_bl, isn_bl, iter_ktup, cmp_lt, cmp_le, cmp_gt, cmp_ge, tru_non, tru_bl, tru_int, tru_tup, op_addi, op_subi, op_muli, op_divi, op_modi, op_powi, op_addt, op_rept, len_tup, len_rol, idx_tup, idx_rol, slc_tup, iter_tup, iter_rol, eqc_int, LIM, Nat.reduceLeDiff, dBlt, dInt1, defEnds, startD, List.map_cons, List.map_nil, List.length_cons, List.length_nil, List.replicate_succ, List.replicate_zero, List.cons_append, List.nil_append, Nat.reduceAdd, Nat.reduceSub, isRef, Nat.zero_add, and_true, true_and, if_true, Bool.false_eq_true, if_false, DW.wTs, wipeD, f11]
    refine ⟨by omega, _, j, rfl, ?_⟩
    have k2 := k S1 (Ext.refl S1)
    simp only [keepF, un_enc] at k2
    simp only [mean, bit_shr, bits_test, getD_map, hj, dTru]
    rcases bb (ev h f) with q | q
    · simp only [q, if_true, decide_true] at k2 ⊢
      exact k2
    · simp only [q, Bool.false_eq_true, if_false] at k2 ⊢
      have : decide ((0 : Int) = 1) = false := by decide
      simp only [this, Bool.false_eq_true, if_false]
      exact k2
  · rw [keep_list] at e2
    exact q S' _ e1 (Nat.le_refl _) e2

/-! ### the small houses -/
theorem iLoop_app {chk : Sto → Prop} {turn : D → Sto → (Sto → Prop) → Prop} {k : Sto → Prop} {Inv : Sto → List D → Prop} {B : Nat} (out : D → List D) (hchk : ∀ S acc, Inv S acc → chk S)
    : ∀ (items : List D) (S : Sto) (acc : List D), (∀ d ∈ items, ∀ S acc k2, acc.length + (out d).length ≤ B → Inv S acc → (∀ S', Inv S' (acc ++ out d) → k2 S') → turn d S k2) → acc.length + (items.flatMap out).length ≤ B → Inv S acc → (∀ S', Inv S' (acc ++ items.flatMap out) → k S') → iLoop chk turn k items S
  | [], S, acc, _, _, h, hk => ⟨hchk S acc h, hk S (by simpa using h)⟩
  | d :: r, S, acc, ht, hB, h, hk => by
    rw [List.flatMap_cons, List.length_append] at hB
    refine ⟨hchk S acc h, ht d List.mem_cons_self S acc _ (by omega) h fun S' h' => ?_⟩
    refine iLoop_app out hchk r S' (acc ++ out d) (fun e he => ht e (List.mem_cons_of_mem _ he)) (by rw [List.length_append]; omega) h' fun S2 h2 => hk S2 ?_
    rw [List.flatMap_cons, ← List.append_assoc]
    exact h2
theorem ints5 : intsFrom 0 (5 : Int).toNat = cnts.map D.int := by rfl
theorem small_enc : smallU.map encH = (smallU.map hl).map fun ns => D.tup (ns.map D.int) := by
  rw [List.map_map]
  rfl
theorem ob_small_houses (n : Nat) (ds : List D) (S : Sto) (Q : KQ) (h : lv (n + 1) 1 spSmall ds S Q) : wB (fsN n) ir_small_houses (defEnds Q) (startD C_small_houses.N ds) S := by
  obtain ⟨_, rfl, q⟩ := h
  simp only [DW.wG, DW.wGs, gsLen, List.set_cons_succ, List.set_cons_zero, wB, wS, DW.wT, DW.wTs, DW.wE, DW.wA, DW.wO, DW.wI, List.getElem?_cons_succ, List.getElem?_cons_zero, cmp_eq, cmp_ne, cmp_in, cmp_nin, inA_tup, inA_ktup, op_shl', op_shr', op_and', op_or', op_xor', is_bl, isn_bl, iter_ktup, cmp_lt, cmp_le, cmp_gt, cmp_ge, tru_non, tru_bl, tru_int, tru_tup, op_addi, op_subi, op_muli, op_divi, op_modi, op_powi, op_addt, op_rept, len_tup, len_rol, idx_tup, idx_rol, slc_tup, iter_tup, iter_rol, eqc_int, LIM, Nat.reduceLeDiff, dBlt, dInt1, defEnds, startD, List.map_cons, List.map_nil, List.length_cons, List.length_nil, List.replicate_succ, List.replicate_zero, List.cons_append, List.nil_append, Nat.reduceAdd, Nat.reduceSub, isRef, Nat.zero_add, and_true, true_and, if_true, Bool.false_eq_true, if_false, ir_small_houses, c_MOST_TOLD_APART, f33]
  refine ⟨⟨by decide, by decide⟩, ?_⟩
  rw [show (4 : Int) + 1 = 5 by decide, ints5]
  unfold ir_small_houses_l0
  have h0 : (S ++ [Ob.lst (cnts.map D.int)])[S.length]? = some (.lst (cnts.map D.int)) := sto_last S _
  have e0 := Ext.app S [Ob.lst (cnts.map D.int)]
  generalize S ++ [Ob.lst (cnts.map D.int)] = S1 at h0 e0
  generalize S.length = c0 at h0
  simp only [DW.wE, DW.wI, List.getElem?_cons_zero]
  rw [iter_ref h0]
  let Inv : Sto → List D → Prop := fun S' acc => Ext S1 S' ∧ S'[S1.length]? = some (.lst acc)
  have hc : ∀ S' acc, Inv S' acc → S'[c0]? = some (.lst (cnts.map D.int)) := fun S' acc h => h.1 _ _ h0
  let oC : D → D → D → D := fun a b c => .tup [.int 0, a, b, c]
  refine iLoop_app (Inv := Inv) (B := 125) (fun a => (cnts.map D.int).flatMap fun b => (cnts.map D.int).flatMap fun c => [oC a b c]) hc _ _ [] (fun a ha S2 acc k2 hB h2 hk => ?_) (by decide) ⟨Ext.app S1 _, sto_last S1 _⟩ fun S2 h2 => ?_
  · simp only [DW.wG, DW.wGs, gsLen, List.set_cons_succ, List.set_cons_zero, wB, wS, DW.wT, DW.wTs, DW.wE, DW.wA, DW.wO, DW.wI, List.getElem?_cons_succ, List.getElem?_cons_zero, cmp_eq, cmp_ne, cmp_in, cmp_nin, inA_tup, inA_ktup, op_shl', op_shr', op_and', op_or', op_xor', is_bl, isn_bl, iter_ktup, cmp_lt, cmp_le, cmp_gt, cmp_ge, tru_non, tru_bl, tru_int, tru_tup, op_addi, op_subi, op_muli, op_divi, op_modi, op_powi, op_addt, op_rept, len_tup, len_rol, idx_tup, idx_rol, slc_tup, iter_tup, iter_rol, eqc_int, LIM, Nat.reduceLeDiff, dBlt, dInt1, defEnds, startD, List.map_cons, List.map_nil, List.length_cons, List.length_nil, List.replicate_succ, List.replicate_zero, List.cons_append, List.nil_append, Nat.reduceAdd, Nat.reduceSub, isRef, Nat.zero_add, and_true, true_and, if_true, Bool.false_eq_true, if_false, DW.wTs, DW.wC, wipeD]
    rw [iter_ref (hc _ _ h2)]
    refine iLoop_app (Inv := Inv) (B := 125) (fun b => (cnts.map D.int).flatMap fun c => [oC a b c]) hc _ S2 acc (fun b hb S3 acc3 k3 hB3 h3 hk3 => ?_) hB h2 hk
    show dIter (.ref c0) S3 _
    rw [iter_ref (hc _ _ h3)]
    refine iLoop_app (Inv := Inv) (B := 125) (fun c => [oC a b c]) hc _ S3 acc3 (fun c hcc S4 acc4 k4 hB4 h4 hk4 => ?_) hB3 h3 hk3
    have hB4' : acc4.length + 1 ≤ 125 := hB4
    refine ⟨acc4, h4.2, by (try simp only [LIM]); omega, ?_⟩
    exact hk4 _ ⟨h4.1.set (Nat.le_refl _) _, sto_set h4.2⟩
  · have e : ((cnts.map D.int).flatMap fun a => (cnts.map D.int).flatMap fun b => (cnts.map D.int).flatMap fun c => [oC a b c]) = (smallU.map hl).map fun ns => D.tup (ns.map D.int) := by rfl
    rw [List.nil_append, e] at h2
    refine ⟨Nat.zero_le _, .ref S1.length, rfl, smallU.map hl, h2.2, by decide, ?_⟩
    refine q _ _ ((e0.trans h2.1).trans (Ext.app S2 _)) (Nat.le_trans e0.len h2.1.len) ?_
    rw [sto_last]
    congr 2
    rw [← List.map_mergeSort (f := hl) (r := hle) (fun a _ b _ => rfl), List.map_map]
    rfl
end K03

set_option Elab.async false
set_option linter.all false
set_option maxRecDepth 100000
set_option maxHeartbeats 1000000

namespace K03
open PySem PySem.Spec PyProof.Rows L2 DW

theorem tru_ref {S : Sto} {n : Nat} {xs : List D} {B : KB} (h : S[n]? = some (.lst xs)) : dTru (.ref n) S B = B (!xs.isEmpty) S := by
  simp only [dTru, h]
theorem triple_eq (w f s : D) (ms cs : List D) : isTriple (.tup [w, f, s]) ms cs = if (ms.any fun c => eqc w c) = true then isM f s else (cs.any fun c => eqc w c) && (isNum f 1 3 && isC s) := rfl
theorem isNest_enc (j : Nat) : ∀ f : Fm, okF f → dep f ≤ j → isNest j (encF f) = true := by
  induction j with
  | zero => intro f _ hd; have := dep_pos f; omega
  | succ j ih =>
    intro f ho hd
    rw [enc_eq]
    simp only [isNest]
    have e1 := w_not f
    have e2 := w_pair f
    have hM : ∀ m, isM (mks m).1 (mks m).2 = true := fun m => by cases m <;> decide +kernel
    cases f with
    | not f =>
      simp only at e1
      rw [if_pos e1]
      simp only [dep] at hd
      exact ih f ho (by omega)
    | two w f g =>
      simp only at e1 e2
      rw [if_neg (by rw [e1]; decide), if_pos e2]
      simp only [dep] at hd
      simp only [restOf, ih f ho.1 (by omega), ih g ho.2 (by omega)]
      rfl
    | all m =>
      simp only at e1 e2
      rw [if_neg (by rw [e1]; decide), if_neg (by rw [e2]; decide)]
      have x : (w3.any fun c => eqc (D.str "all") c) = true := by decide +kernel
      show isTriple (.tup [.str "all", (mks m).1, (mks m).2]) w3 wlj = true
      rw [triple_eq, if_pos x]
      exact hM m
    | som m =>
      simp only at e1 e2
      rw [if_neg (by rw [e1]; decide), if_neg (by rw [e2]; decide)]
      have x : (w3.any fun c => eqc (D.str "some") c) = true := by decide +kernel
      show isTriple (.tup [.str "some", (mks m).1, (mks m).2]) w3 wlj = true
      rw [triple_eq, if_pos x]
      exact hM m
    | non m =>
      simp only at e1 e2
      rw [if_neg (by rw [e1]; decide), if_neg (by rw [e2]; decide)]
      have x : (w3.any fun c => eqc (D.str "no") c) = true := by decide +kernel
      show isTriple (.tup [.str "no", (mks m).1, (mks m).2]) w3 wlj = true
      rw [triple_eq, if_pos x]
      exact hM m
    | cnt l n c =>
      simp only at e1 e2
      rw [if_neg (by rw [e1]; decide), if_neg (by rw [e2]; decide)]
      have x : (w3.any fun c => eqc (lstD l) c) = false := by cases l <;> decide +kernel
      have y : (wlj.any fun c => eqc (lstD l) c) = true := by cases l <;> decide +kernel
      have z : isC (cntD c) = true := match c with
        | 0 => by decide +kernel
        | 1 => by decide +kernel
        | 2 => by decide +kernel
      have u : isNum (.int (n : Nat)) 1 3 = true := by
        have := ho.1
        have := ho.2
        simp [isNum]
        omega
      show isTriple (.tup [lstD l, .int (n : Nat), cntD c]) w3 wlj = true
      rw [triple_eq, if_neg (by rw [x]; decide), y, z, u]
      rfl
theorem isHouse_enc (h : Hs) (ho : okH h) : isHouse (encH h) = true := by
  obtain ⟨⟨a1, a2⟩, ⟨b1, b2⟩, ⟨c1, c2⟩, d1, d2⟩ := ho
  have e : ∀ i : Int, 0 ≤ i → i ≤ big → isNum (.int i) 0 big = true := fun i h1 h2 => by simp only [isNum, decide_eq_true h1, decide_eq_true h2]; rfl
  simp only [encH, isHouse, List.length_cons, List.length_nil, List.all_cons, List.all_nil, e _ a1 a2, e _ b1 b2, e _ c1 c2, e _ d1 d2]
  rfl
theorem encH_fit (S : Sto) (h : Hs) : Fit S (encH h) := ⟨4, 2, by omega, rfl⟩
theorem atoms1 (f : Fm) (hd : dep f ≤ 11) : ([f].map fun f => (atoms f).length).sum ≤ 50000 := by
  have := atoms_len f
  have h2 : 2 ^ (dep f - 1) ≤ 2 ^ 10 := Nat.pow_le_pow_right (by decide) (by omega)
  have h3 : (2 : Nat) ^ 10 = 1024 := by decide
  simp
  omega
theorem head_find (p : Hs → Bool) (l : List Hs) : (if (!(l.filter p).isEmpty) = true then firstD ((l.filter p)[0]?) else .non) = firstD (l.find? p) := by
  induction l with
  | nil => rfl
  | cons h t ih =>
    rw [List.filter_cons, List.find?_cons]
    cases e : p h with
    | true => simp
    | false => simp only [Bool.false_eq_true, if_false]; exact ih
theorem ob_first_of_all (n : Nat) (ds : List D) (S : Sto) (Q : KQ) (h : lv (n + 1) 21 spFirst ds S Q) : wB (fsN n) ir_first_of_all (defEnds Q) (startD C_first_of_all.N ds) S := by
  obtain ⟨hl, f, rfl, ho, hd, q⟩ := h
  simp only [DW.wG, DW.wGs, gsLen, List.set_cons_succ, List.set_cons_zero, wB, wS, DW.wT, DW.wTs, DW.wE, DW.wA, DW.wO, DW.wI, List.getElem?_cons_succ, List.getElem?_cons_zero, cmp_eq, cmp_ne, cmp_in, cmp_nin, inA_tup, inA_ktup, op_shl', op_shr', op_and', op_or', op_xor', is_bl, isn_bl, iter_ktup, cmp_lt, cmp_le, cmp_gt, cmp_ge, tru_non, tru_bl, tru_int, tru_tup, op_addi, op_subi, op_muli, op_divi, op_modi, op_powi, op_addt, op_rept, len_tup, len_rol, idx_tup, idx_rol, slc_tup, iter_tup, iter_rol, eqc_int, LIM, Nat.reduceLeDiff, dBlt, dInt1, defEnds, startD, List.map_cons, List.map_nil, List.length_cons, List.length_nil, List.replicate_succ, List.replicate_zero, List.cons_append, List.nil_append, Nat.reduceAdd, Nat.reduceSub, isRef, Nat.zero_add, and_true, true_and, if_true, Bool.false_eq_true, if_false, ir_first_of_all, f8, f9, f12]
  refine ⟨by omega, rfl, fun S1 nh e1 l1 h1 => ?_⟩
  have e2 := Ext.app S1 [Ob.lst [encF f]]
  refine ⟨by omega, S1.length, nh, [f], smallH, rfl, sto_last S1 _, e2 _ _ h1, by simp, by rw [small_len]; decide, fun g hg => ?_, atoms1 f hd, fun S2 m e3 l3 h3 => ?_⟩
  · rw [List.mem_singleton.mp hg]; exact ⟨ho, by omega⟩
  · show dIdx (.ref m) (.int 0) S2 _
    rw [idx_ref h3]
    refine ⟨_, rfl, ?_⟩
    refine ⟨by omega, nh, f, smallH, rfl, (e2.trans e3) _ _ h1, by rw [small_len]; decide, fun S3 p e4 l4 h4 => ?_⟩
    show dTru (.ref p) S3 _
    rw [tru_ref h4]
    have E : Ext S S3 := e1.trans (e2.trans (e3.trans e4))
    have q1 := q S3 E
    rw [← head_find] at q1
    rcases bb (!(smallH.filter fun h => ev h f).isEmpty) with z | z
    · simp only [List.isEmpty_map, z, if_true] at q1 ⊢
      rw [idx_ref h4]
      cases y : smallH.filter fun h => ev h f with
      | nil => rw [y] at z; cases z
      | cons g r =>
        rw [y] at q1
        exact ⟨encH g, atI_nat (xs := (g :: r).map encH) (j := 0) rfl, q1⟩
    · simp only [List.isEmpty_map, z, Bool.false_eq_true, if_false] at q1 ⊢
      exact q1
theorem mean_one (f : Fm) (h : Hs) : mean f [h] = if ev h f = true then 1 else 0 := by
  unfold mean
  simp only [List.map_cons, List.map_nil, bitsN]
  cases ev h f <;> rfl
theorem eq_l1 {S : Sto} {m p : Nat} {i : Int} {B : KB} (hm : S[m]? = some (.lst [.int i])) (hp : S[p]? = some (.lst [.int 1])) (q : B (decide (i = 1)) S) : dEq (.ref m) (.ref p) S B := by
  refine ⟨.list [.int i], .list [.int 1], ?_, ?_, rfl, rfl, ?_⟩
  · rw [toPy_ref 65 hm]; rfl
  · rw [toPy_ref 65 hp]; rfl
  · have : PyData.eqv (.list [.int i]) (.list [.int 1]) = decide (i = 1) := by
      rw [Bool.eq_iff_iff]
      simp [PyData.eqv, PyData.eqvAll]
    rw [this]
    exact q
theorem ob_holds (n : Nat) (ds : List D) (S : Sto) (Q : KQ) (h : lv (n + 1) 21 spHolds ds S Q) : wB (fsN n) ir_holds (defEnds Q) (startD C_holds.N ds) S := by
  obtain ⟨hl, f, h, rfl, ho, hd, hh, q⟩ := h
  simp only [DW.wG, DW.wGs, gsLen, List.set_cons_succ, List.set_cons_zero, wB, wS, DW.wT, DW.wTs, DW.wE, DW.wA, DW.wO, DW.wI, List.getElem?_cons_succ, List.getElem?_cons_zero, cmp_eq, cmp_ne, cmp_in, cmp_nin, inA_tup, inA_ktup, op_shl', op_shr', op_and', op_or', op_xor', is_bl, isn_bl, iter_ktup, cmp_lt, cmp_le, cmp_gt, cmp_ge, tru_non, tru_bl, tru_int, tru_tup, op_addi, op_subi, op_muli, op_divi, op_modi, op_powi, op_addt, op_rept, len_tup, len_rol, idx_tup, idx_rol, slc_tup, iter_tup, iter_rol, eqc_int, LIM, Nat.reduceLeDiff, dBlt, dInt1, defEnds, startD, List.map_cons, List.map_nil, List.length_cons, List.length_nil, List.replicate_succ, List.replicate_zero, List.cons_append, List.nil_append, Nat.reduceAdd, Nat.reduceSub, isRef, Nat.zero_add, and_true, true_and, if_true, Bool.false_eq_true, if_false, ir_holds, f5, f6, f9]
  refine ⟨by omega, encF f, rfl, enc_fit S f (by omega), isNest_enc 10 f ho hd, ?_⟩
  refine ⟨by omega, encH h, rfl, encH_fit S h, isHouse_enc h hh, fun S1 e1 => ?_⟩
  have e2 := Ext.app S1 [Ob.lst [encF f]]
  have h2 := sto_last S1 (Ob.lst [encF f])
  have e3 := Ext.app (S1 ++ [Ob.lst [encF f]]) [Ob.lst [encH h]]
  have h3 := sto_last (S1 ++ [Ob.lst [encF f]]) (Ob.lst [encH h])
  refine ⟨by omega, S1.length, (S1 ++ [Ob.lst [encF f]]).length, [f], [h], rfl, e3 _ _ h2, h3, by simp, by simp, fun g hg => ?_, atoms1 f (by omega), fun S4 m e4 l4 h4 => ?_⟩
  · rw [List.mem_singleton.mp hg]; exact ⟨ho, by omega⟩
  · have e5 := Ext.app S4 [Ob.lst [D.int 1]]
    refine eq_l1 (e5 _ _ h4) (sto_last S4 _) ?_
    have q1 := q _ (e1.trans (e2.trans (e3.trans (e4.trans e5))))
    rw [mean_one]
    rcases bb (ev h f) with z | z
    · simp only [z, if_true, decide_true] at q1 ⊢; exact q1
    · simp only [z, Bool.false_eq_true, if_false] at q1 ⊢
      exact q1
theorem all_mean (f : Fm) (hs : List Hs) : decide (mean f hs = ((2 ^ hs.length : Nat) : Int) - 1) = hs.all fun h => ev h f := by
  have h1 : 1 ≤ 2 ^ hs.length := Nat.one_le_two_pow
  have e := bits_all (bs := hs.map fun h => ev h f)
  rw [List.length_map, List.all_map] at e
  rw [Bool.eq_iff_iff, decide_eq_true_iff]
  unfold mean
  constructor
  · intro z
    exact e.mp (by omega)
  · intro z
    have := e.mpr z
    omega
theorem any_mean (f : Fm) (hs : List Hs) : decide (mean f hs = 0) = !hs.any fun h => ev h f := by
  have e := bits_zero (bs := hs.map fun h => ev h f)
  rw [List.any_map] at e
  rw [Bool.eq_iff_iff, decide_eq_true_iff]
  unfold mean
  rw [Bool.not_eq_true']
  constructor
  · intro z
    exact e.mp (by omega)
  · intro z
    have := e.mpr z
    omega
theorem ob_how (n : Nat) (ds : List D) (S : Sto) (Q : KQ) (h : lv (n + 1) 21 spHow ds S Q) : wB (fsN n) ir_how (defEnds Q) (startD C_how.N ds) S := by
  obtain ⟨hl, f, rfl, ho, hd, q⟩ := h
  simp only [DW.wG, DW.wGs, gsLen, List.set_cons_succ, List.set_cons_zero, wB, wS, DW.wT, DW.wTs, DW.wE, DW.wA, DW.wO, DW.wI, List.getElem?_cons_succ, List.getElem?_cons_zero, cmp_eq, cmp_ne, cmp_in, cmp_nin, inA_tup, inA_ktup, op_shl', op_shr', op_and', op_or', op_xor', is_bl, isn_bl, iter_ktup, cmp_lt, cmp_le, cmp_gt, cmp_ge, tru_non, tru_bl, tru_int, tru_tup, op_addi, op_subi, op_muli, op_divi, op_modi, op_powi, op_addt, op_rept, len_tup, len_rol, idx_tup, idx_rol, slc_tup, iter_tup, iter_rol, eqc_int, LIM, Nat.reduceLeDiff, dBlt, dInt1, defEnds, startD, List.map_cons, List.map_nil, List.length_cons, List.length_nil, List.replicate_succ, List.replicate_zero, List.cons_append, List.nil_append, Nat.reduceAdd, Nat.reduceSub, isRef, Nat.zero_add, and_true, true_and, if_true, Bool.false_eq_true, if_false, ir_how, f5, f8, f9, f10]
  refine ⟨by omega, encF f, rfl, enc_fit S f (by omega), isNest_enc 10 f ho hd, ?_⟩
  refine ⟨by omega, rfl, fun S1 nh e1 l1 h1 => ?_⟩
  have e2 := Ext.app S1 [Ob.lst [encF f]]
  refine ⟨by omega, S1.length, nh, [f], smallH, rfl, sto_last S1 _, e2 _ _ h1, by simp, by rw [small_len]; decide, fun g hg => ?_, atoms1 f (by omega), fun S2 m e3 l3 h3 => ?_⟩
  · rw [List.mem_singleton.mp hg]; exact ⟨ho, by omega⟩
  · show dIdx (.ref m) (.int 0) S2 _
    rw [idx_ref h3]
    refine ⟨_, rfl, ?_⟩
    refine ⟨by omega, nh, smallH.map encH, rfl, (e2.trans e3) _ _ h1, by rw [List.length_map, small_len]; decide, ?_⟩
    rw [List.length_map]
    have q1 := q S2 (e1.trans (e2.trans e3))
    show dEq (.int (mean f smallH)) (.int (((2 ^ smallH.length : Nat) : Int) - 1)) S2 _
    rw [dEq_iff (fit_int S2 _) (wk_int _), eqc_int, all_mean]
    unfold howD at q1
    rcases bb (smallH.all fun h => ev h f) with z | z
    · simp only [z, if_true] at q1 ⊢
      exact q1
    · simp only [z, Bool.false_eq_true, if_false] at q1 ⊢
      rw [dEq_iff (fit_int S2 _) (wk_int _), eqc_int, any_mean]
      rcases bb (smallH.any fun h => ev h f) with y | y
      · simp only [y, if_true, Bool.not_true, Bool.false_eq_true, if_false] at q1 ⊢
        exact q1
      · simp only [y, Bool.false_eq_true, if_false, Bool.not_false, if_true] at q1 ⊢
        exact q1
theorem ob_first_house (n : Nat) (ds : List D) (S : Sto) (Q : KQ) (h : lv (n + 1) 22 spFirstH ds S Q) : wB (fsN n) ir_first_house (defEnds Q) (startD C_first_house.N ds) S := by
  obtain ⟨hl, f, t, rfl, ho, hd, q⟩ := h
  simp only [DW.wG, DW.wGs, gsLen, List.set_cons_succ, List.set_cons_zero, wB, wS, DW.wT, DW.wTs, DW.wE, DW.wA, DW.wO, DW.wI, List.getElem?_cons_succ, List.getElem?_cons_zero, cmp_eq, cmp_ne, cmp_in, cmp_nin, inA_tup, inA_ktup, op_shl', op_shr', op_and', op_or', op_xor', is_bl, isn_bl, iter_ktup, cmp_lt, cmp_le, cmp_gt, cmp_ge, tru_non, tru_bl, tru_int, tru_tup, op_addi, op_subi, op_muli, op_divi, op_modi, op_powi, op_addt, op_rept, len_tup, len_rol, idx_tup, idx_rol, slc_tup, iter_tup, iter_rol, eqc_int, LIM, Nat.reduceLeDiff, dBlt, dInt1, defEnds, startD, List.map_cons, List.map_nil, List.length_cons, List.length_nil, List.replicate_succ, List.replicate_zero, List.cons_append, List.nil_append, Nat.reduceAdd, Nat.reduceSub, isRef, Nat.zero_add, and_true, true_and, if_true, Bool.false_eq_true, if_false, ir_first_house, f5, f7, f13]
  refine ⟨by omega, encF f, rfl, enc_fit S f (by omega), isNest_enc 10 f ho hd, ?_⟩
  refine ⟨by omega, t, rfl, ?_⟩
  cases t with
  | true =>
    simp only [if_true]
    refine ⟨by omega, f, rfl, ho, by omega, fun S' e => ?_⟩
    have := q S' e
    simpa using this
  | false =>
    simp only [Bool.false_eq_true, if_false]
    refine ⟨by omega, .not f, rfl, ho, by simp only [dep]; omega, fun S' e => ?_⟩
    have := q S' e
    simp only [ev]
    simpa using this
end K03

set_option Elab.async false
set_option linter.all false
set_option maxRecDepth 100000
set_option maxHeartbeats 1000000

namespace K03
open PySem PySem.Spec PyProof.Rows L2 DW

theorem Src.ext {S S' : Sto} {n : Nat} (h : Src S n) (e : Ext S S') : Src S' n := by
  obtain ⟨a, b, h, q⟩ := h
  exact ⟨a, b, e _ _ h, q⟩
theorem Src.lt {S : Sto} {n : Nat} (h : Src S n) : n < S.length := by
  obtain ⟨a, b, h, q⟩ := h
  exact (List.getElem?_eq_some_iff.mp h).1
theorem Src.ne {S : Sto} {n : Nat} (h : Src S n) : S.length ≠ n := by
  have := h.lt
  omega

theorem ob__law_source (n : Nat) (ds : List D) (S : Sto) (Q : KQ) (h : lv (n + 1) 1 spSource ds S Q) : wB (fsN n) ir__law_source (defEnds Q) (startD C__law_source.N ds) S := by
  obtain ⟨_, d, ns, k, rfl, hsc, hl, hk, q⟩ := h
  simp only [DW.wG, DW.wGs, gsLen, List.set_cons_succ, List.set_cons_zero, wB, wS, DW.wT, DW.wTs, DW.wE, DW.wA, DW.wO, DW.wI, List.getElem?_cons_succ, List.getElem?_cons_zero, cmp_eq, cmp_ne, cmp_in, cmp_nin, inA_tup, inA_ktup, op_shl', op_shr', op_and', op_or', op_xor', is_bl, isn_bl, iter_ktup, cmp_lt, cmp_le, cmp_gt, cmp_ge, tru_non, tru_bl, tru_int, tru_tup, op_addi, op_subi, op_muli, op_divi, op_modi, op_powi, op_addt, op_rept, len_tup, len_rol, idx_tup, idx_rol, slc_tup, iter_tup, iter_rol, eqc_int, LIM, Nat.reduceLeDiff, dBlt, dInt1, defEnds, startD, List.map_cons, List.map_nil, List.length_cons, List.length_nil, List.replicate_succ, List.replicate_zero, List.cons_append, List.nil_append, Nat.reduceAdd, Nat.reduceSub, isRef, Nat.zero_add, and_true, true_and, if_true, Bool.false_eq_true, if_false, ir__law_source, hsc.len, hsc.idx, idx_rol, List.length_map]
  -- behind the cell
  have fin : ∀ c : Int, 0 ≤ c → (if decide ((10 : Int) ^ (17 : Int).toNat < c) = true then
      (CMulD c 16807 ∧ CMulD 10009 (k : Int) ∧ (0 : Int) < 2147483237 ∧ Q (.ref S.length) (S ++ [Ob.lst [.int c, .int ((c * 16807 + 10009 * (k : Int) + 71) % 2147483237)]]))
      else (CMulD c 16807 ∧ CMulD 10009 (k : Int) ∧ (0 : Int) < 2147483237 ∧ Q (.ref S.length) (S ++ [Ob.lst [.int 0, .int ((c * 16807 + 10009 * (k : Int) + 71) % 2147483237)]]))) := fun c hc => by
    have m1 : CMulD c 16807 := .inr (.inl ⟨by decide, by decide⟩)
    have m2 : CMulD 10009 (k : Int) := .inl ⟨by decide, by decide⟩
    have r0 := Int.emod_nonneg (c * 16807 + 10009 * (k : Int) + 71) (show (2147483237 : Int) ≠ 0 by decide)
    have r1 := Int.emod_lt_of_pos (c * 16807 + 10009 * (k : Int) + 71) (show (0 : Int) < 2147483237 by decide)
    split
    · exact ⟨m1, m2, by decide, q _ _ (Ext.app S _) (Nat.le_refl _) ⟨_, _, sto_last S _, hc, r0, r1⟩⟩
    · exact ⟨m1, m2, by decide, q _ _ (Ext.app S _) (Nat.le_refl _) ⟨_, _, sto_last S _, by decide, r0, r1⟩⟩
  by_cases hk2 : (k : Int) < (ns.length : Int)
  · simp only [hk2, decide_true, if_true]
    have hj : k < ns.length := by omega
    refine ⟨.int (ns[k]'hj), atI_nat (xs := ns.map D.int) (j := k) (by rw [List.getElem?_map, List.getElem?_eq_getElem hj]; rfl), ?_⟩
    have := fin (if ns[k]'hj < 0 then -(ns[k]'hj) else ns[k]'hj) (by split <;> omega)
    exact ⟨⟨by decide, by decide, by decide⟩, this⟩
  · simp only [hk2, decide_false, Bool.false_eq_true, if_false]
    have := fin (101 * (k : Int) + 47) (by omega)
    exact ⟨.inl ⟨by decide, by decide⟩, ⟨by decide, by decide, by decide⟩, this⟩
theorem ob__law_draw (n : Nat) (ds : List D) (S : Sto) (Q : KQ) (h : lv (n + 1) 1 spDraw ds S Q) : wB (fsN n) ir__law_draw (defEnds Q) (startD C__law_draw.N ds) S := by
  obtain ⟨_, m, many, rfl, ⟨a, b, hs, ha, hb, hM⟩, h0, h1, q⟩ := h
  simp only [DW.wG, DW.wGs, gsLen, List.set_cons_succ, List.set_cons_zero, wB, wS, DW.wT, DW.wTs, DW.wE, DW.wA, DW.wO, DW.wI, List.getElem?_cons_succ, List.getElem?_cons_zero, cmp_eq, cmp_ne, cmp_in, cmp_nin, inA_tup, inA_ktup, op_shl', op_shr', op_and', op_or', op_xor', is_bl, isn_bl, iter_ktup, cmp_lt, cmp_le, cmp_gt, cmp_ge, tru_non, tru_bl, tru_int, tru_tup, op_addi, op_subi, op_muli, op_divi, op_modi, op_powi, op_addt, op_rept, len_tup, len_rol, idx_tup, idx_rol, slc_tup, iter_tup, iter_rol, eqc_int, LIM, Nat.reduceLeDiff, dBlt, dInt1, defEnds, startD, List.map_cons, List.map_nil, List.length_cons, List.length_nil, List.replicate_succ, List.replicate_zero, List.cons_append, List.nil_append, Nat.reduceAdd, Nat.reduceSub, isRef, Nat.zero_add, and_true, true_and, if_true, Bool.false_eq_true, if_false, ir__law_draw]
  rw [idx_ref hs]
  refine ⟨.int a, rfl, ?_⟩
  simp only [cmp_gt]
  have hml : m < S.length := (List.getElem?_eq_some_iff.mp hs).1
  by_cases hp : 0 < a
  · simp only [hp, decide_true, if_true]
    rw [idx_ref hs]
    refine ⟨.int a, rfl, ?_⟩
    simp only [op_modi]
    refine ⟨h0, ?_⟩
    rw [idx_ref hs]
    refine ⟨.int a, rfl, ?_⟩
    simp only [op_divi]
    refine ⟨⟨h0, by omega⟩, ?_⟩
    rw [set_ref hs]
    refine ⟨0, rfl, ?_⟩
    simp only [List.set_cons_zero]
    refine q _ _ (ExtB.set m S _) ⟨a / many, b, sto_set hs, Int.ediv_nonneg ha (by omega), hb, hM⟩ (Int.emod_nonneg _ (by omega)) (Int.emod_lt_of_pos _ h0)
  · simp only [hp, decide_false, Bool.false_eq_true, if_false]
    rw [idx_ref hs]
    refine ⟨.int b, rfl, ?_⟩
    simp only [op_muli, op_addi]
    refine ⟨.inr (.inl ⟨by decide, by decide⟩), ?_⟩
    try simp only [dInt1, op_modi]
    refine ⟨by decide, ?_⟩
    rw [set_ref hs]
    refine ⟨1, rfl, ?_⟩
    simp only [List.set_cons_succ, List.set_cons_zero]
    have r0 := Int.emod_nonneg (b * 48271 + 83) (show (2147483237 : Int) ≠ 0 by decide)
    have r1 := Int.emod_lt_of_pos (b * 48271 + 83) (show (0 : Int) < 2147483237 by decide)
    generalize (b * 48271 + 83) % 2147483237 = b1 at r0 r1
    have hs1 : (S.set m (.lst [.int a, .int b1]))[m]? = some (.lst [.int a, .int b1]) := sto_set hs
    rw [idx_ref hs1]
    refine ⟨.int b1, rfl, ?_⟩
    rw [idx_ref hs1]
    refine ⟨.int b1, rfl, ?_⟩
    simp only [op_divi, op_addi, op_muli]
    refine ⟨⟨by decide, by decide⟩, .inl ⟨by omega, by omega⟩, ?_⟩
    try simp only [dInt1, op_modi]
    refine ⟨by decide, ?_⟩
    refine ⟨⟨by decide, by decide⟩, h0, ?_⟩
    exact q _ _ (ExtB.set m S _) ⟨a, b1, hs1, ha, r0, r1⟩ (Int.emod_nonneg _ (by omega)) (Int.emod_lt_of_pos _ h0)
theorem ob__law_choice (n : Nat) (ds : List D) (S : Sto) (Q : KQ) (h : lv (n + 1) 2 spChoice ds S Q) : wB (fsN n) ir__law_choice (defEnds Q) (startD C__law_choice.N ds) S := by
  obtain ⟨hl, m, k, xs, rfl, hs, hne, hx, h0, h1, q⟩ := h
  simp only [DW.wG, DW.wGs, gsLen, List.set_cons_succ, List.set_cons_zero, wB, wS, DW.wT, DW.wTs, DW.wE, DW.wA, DW.wO, DW.wI, List.getElem?_cons_succ, List.getElem?_cons_zero, cmp_eq, cmp_ne, cmp_in, cmp_nin, inA_tup, inA_ktup, op_shl', op_shr', op_and', op_or', op_xor', is_bl, isn_bl, iter_ktup, cmp_lt, cmp_le, cmp_gt, cmp_ge, tru_non, tru_bl, tru_int, tru_tup, op_addi, op_subi, op_muli, op_divi, op_modi, op_powi, op_addt, op_rept, len_tup, len_rol, idx_tup, idx_rol, slc_tup, iter_tup, iter_rol, eqc_int, LIM, Nat.reduceLeDiff, dBlt, dInt1, defEnds, startD, List.map_cons, List.map_nil, List.length_cons, List.length_nil, List.replicate_succ, List.replicate_zero, List.cons_append, List.nil_append, Nat.reduceAdd, Nat.reduceSub, isRef, Nat.zero_add, and_true, true_and, if_true, Bool.false_eq_true, if_false, ir__law_choice, f22]
  rw [len_ref hx]
  refine ⟨by omega, m, _, rfl, hs, by omega, by omega, fun S' r e1 s1 r0 r1 => ?_⟩
  show dIdx (.ref k) (.int r) S' Q
  rw [idx_ref (e1.2 _ _ hne hx)]
  obtain ⟨j, rfl⟩ := Int.eq_ofNat_of_zero_le r0
  have hj : j < xs.length := by omega
  have e : xs[j]? = some (xs[j]'hj) := List.getElem?_eq_getElem _
  exact ⟨_, atI_nat e, q S' _ e1 s1 (List.mem_of_getElem? e)⟩

theorem word4 {w : D} (h : w ∈ [D.str "and", D.str "or", D.str "if", D.str "other"]) : ∃ k, w = wrdD k := by
  simp only [List.mem_cons, List.not_mem_nil, or_false] at h
  rcases h with rfl | rfl | rfl | rfl
  · exact ⟨0, rfl⟩
  · exact ⟨1, rfl⟩
  · exact ⟨2, rfl⟩
  · exact ⟨3, rfl⟩
theorem word2 {w : D} (h : w ∈ [D.str "least", D.str "just"]) : ∃ l, w = lstD l := by
  simp only [List.mem_cons, List.not_mem_nil, or_false] at h
  rcases h with rfl | rfl
  · exact ⟨true, rfl⟩
  · exact ⟨false, rfl⟩
theorem word3 {w : D} (h : w ∈ [D.str "a", D.str "b", D.str "both"]) : ∃ c, w = cntD c := by
  simp only [List.mem_cons, List.not_mem_nil, or_false] at h
  rcases h with rfl | rfl | rfl
  · exact ⟨0, rfl⟩
  · exact ⟨1, rfl⟩
  · exact ⟨2, rfl⟩
theorem word5 {w p : D} (hw : w ∈ [D.str "all", D.str "some", D.str "no"]) (hp : p ∈ [D.tup [D.str "a", D.str "b"], D.tup [D.str "b", D.str "a"]]) : ∃ f x y, p = .tup [x, y] ∧ encF f = .tup [w, x, y] ∧ okF f ∧ dep f ≤ 1 := by
  simp only [List.mem_cons, List.not_mem_nil, or_false] at hw hp
  rcases hw with rfl | rfl | rfl <;> rcases hp with rfl | rfl
  · exact ⟨.all true, _, _, rfl, rfl, trivial, Nat.le_refl _⟩
  · exact ⟨.all false, _, _, rfl, rfl, trivial, Nat.le_refl _⟩
  · exact ⟨.som true, _, _, rfl, rfl, trivial, Nat.le_refl _⟩
  · exact ⟨.som false, _, _, rfl, rfl, trivial, Nat.le_refl _⟩
  · exact ⟨.non true, _, _, rfl, rfl, trivial, Nat.le_refl _⟩
  · exact ⟨.non false, _, _, rfl, rfl, trivial, Nat.le_refl _⟩
theorem ite_and_not {A B : Bool} {X L : Prop} (h : ¬ (A = true ∧ B = true)) (hL : L) : if A = true then (if B = true then X else L) else L := by
  cases A <;> cases B <;> simp_all
theorem ob__law_formula (n : Nat) (ds : List D) (S : Sto) (Q : KQ) (h : spFormula (n + 1) ds S Q) : wB (fsN n) ir__law_formula (defEnds Q) (startD C__law_formula.N ds) S := by
  obtain ⟨m, j, rfl, h1, h4, hl, hs, q⟩ := h
  simp only [DW.wG, DW.wGs, gsLen, List.set_cons_succ, List.set_cons_zero, wB, wS, DW.wT, DW.wTs, DW.wE, DW.wA, DW.wO, DW.wI, List.getElem?_cons_succ, List.getElem?_cons_zero, cmp_eq, cmp_ne, cmp_in, cmp_nin, inA_tup, inA_ktup, op_shl', op_shr', op_and', op_or', op_xor', is_bl, isn_bl, iter_ktup, cmp_lt, cmp_le, cmp_gt, cmp_ge, tru_non, tru_bl, tru_int, tru_tup, op_addi, op_subi, op_muli, op_divi, op_modi, op_powi, op_addt, op_rept, len_tup, len_rol, idx_tup, idx_rol, slc_tup, iter_tup, iter_rol, eqc_int, LIM, Nat.reduceLeDiff, dBlt, dInt1, defEnds, startD, List.map_cons, List.map_nil, List.length_cons, List.length_nil, List.replicate_succ, List.replicate_zero, List.cons_append, List.nil_append, Nat.reduceAdd, Nat.reduceSub, isRef, Nat.zero_add, and_true, true_and, if_true, Bool.false_eq_true, if_false, ir__law_formula, f22, f23, f27]
  refine ⟨by omega, m, 7, rfl, hs, by decide, by decide, fun S1 way e1 s1 w0 w1 => ?_⟩
  obtain ⟨i, rfl⟩ : ∃ i, j = i + 1 := ⟨j - 1, by omega⟩
  have hj1 : ((i + 1 : Nat) : Int) - 1 = (i : Int) := by omega
  have E1 := e1
  simp only [cmp_gt, hj1]
  by_cases hd : decide ((1 : Int) < ((i + 1 : Nat) : Int)) = true ∧ decide (2 < way) = true
  · simp only [hd.1, hd.2, if_true]
    have hi : 1 ≤ i := by have := of_decide_eq_true hd.1; omega
    rw [dEq_iff (fit_int _ _) (wk_int 3), eqc_int]
    by_cases h3 : way = 3
    · simp only [h3, decide_true, if_true]
      refine ⟨m, i, rfl, hi, by omega, by omega, s1, fun S2 f e2 s2 ho hd2 => ?_⟩
      exact q S2 (.not f) (e1.trans e2) s2 ho (by simp only [dep]; omega)
    · simp only [h3, decide_false, Bool.false_eq_true, if_false]
      have e2 := Ext.app S1 [Ob.lst [D.str "and", D.str "or", D.str "if", D.str "other"]]
      refine ⟨by omega, m, _, _, rfl, s1.ext e2, s1.ne, sto_last S1 _, by decide, by decide, fun S3 w e3 s3 hw => ?_⟩
      refine ⟨m, i, rfl, hi, by omega, by omega, s3, fun S4 f e4 s4 hof hdf => ?_⟩
      refine ⟨m, i, rfl, hi, by omega, by omega, s4, fun S5 g e5 s5 hog hdg => ?_⟩
      obtain ⟨k, rfl⟩ := word4 hw
      exact q S5 (.two k f g) ((((e1.trans (e2.b m)).trans e3).trans e4).trans e5) s5 ⟨hof, hog⟩ (by simp only [dep]; omega)
  · refine ite_and_not hd ?_
    simp only [op_modi]
    refine ⟨by decide, ?_⟩
    rw [dEq_iff (fit_int _ _) (wk_int 0), eqc_int]
    by_cases h2 : way % 2 = 0
    · simp only [h2, decide_true, if_true]
      have e2 := Ext.app S1 [Ob.lst [D.str "least", D.str "just"]]
      refine ⟨by omega, m, _, _, rfl, s1.ext e2, s1.ne, sto_last S1 _, by decide, by decide, fun S3 w e3 s3 hw => ?_⟩
      refine ⟨by omega, m, 3, rfl, s3, by decide, by decide, fun S4 r e4 s4 r0 r1 => ?_⟩
      simp only [op_addi]
      have e5 := Ext.app S4 [Ob.lst [D.str "a", D.str "b", D.str "both"]]
      refine ⟨by omega, m, _, _, rfl, s4.ext e5, s4.ne, sto_last S4 _, by decide, by decide, fun S6 c e6 s6 hc => ?_⟩
      obtain ⟨l, rfl⟩ := word2 hw
      obtain ⟨k, rfl⟩ := word3 hc
      have er : (1 : Int) + r = ((1 + r.toNat : Nat) : Int) := by omega
      rw [er]
      exact q S6 (.cnt l (1 + r.toNat) k) (((((e1.trans (e2.b m)).trans e3).trans e4).trans (e5.b m)).trans e6) s6 (by simp only [okF]; omega) (by simp only [dep]; omega)
    · simp only [h2, decide_false, Bool.false_eq_true, if_false]
      have e2 := Ext.app S1 [Ob.lst [D.str "all", D.str "some", D.str "no"]]
      refine ⟨by omega, m, _, _, rfl, s1.ext e2, s1.ne, sto_last S1 _, by decide, by decide, fun S3 w e3 s3 hw => ?_⟩
      have e4 := Ext.app S3 [Ob.lst [D.tup [D.str "a", D.str "b"], D.tup [D.str "b", D.str "a"]]]
      refine ⟨by omega, m, _, _, rfl, s3.ext e4, s3.ne, sto_last S3 _, by decide, by decide, fun S5 p e5 s5 hp => ?_⟩
      obtain ⟨f, x, y, rfl, e, ho, hd1⟩ := word5 hw hp
      simp only [op_addt, LIM]
      refine ⟨by simp, ?_⟩
      have := q S5 f ((((e1.trans (e2.b m)).trans e3).trans (e4.b m)).trans e5) s5 ho (by omega)
      rw [e] at this
      exact this
end K03

set_option Elab.async false
set_option linter.all false
set_option maxRecDepth 100000
set_option maxHeartbeats 1000000

namespace K03
open PySem PySem.Spec PyProof.Rows L2 DW

theorem q_not_not : eqc (.str "not") (.str "not") = true := by decide +kernel
theorem q_not_and : eqc (.str "not") (.str "and") = false := by decide +kernel
theorem q_not_or : eqc (.str "not") (.str "or") = false := by decide +kernel
theorem q_not_if : eqc (.str "not") (.str "if") = false := by decide +kernel
theorem q_not_other : eqc (.str "not") (.str "other") = false := by decide +kernel
theorem q_not_all : eqc (.str "not") (.str "all") = false := by decide +kernel
theorem q_not_some : eqc (.str "not") (.str "some") = false := by decide +kernel
theorem q_not_no : eqc (.str "not") (.str "no") = false := by decide +kernel
theorem q_not_least : eqc (.str "not") (.str "least") = false := by decide +kernel
theorem q_not_just : eqc (.str "not") (.str "just") = false := by decide +kernel
theorem q_and_not : eqc (.str "and") (.str "not") = false := by decide +kernel
theorem q_and_and : eqc (.str "and") (.str "and") = true := by decide +kernel
theorem q_and_or : eqc (.str "and") (.str "or") = false := by decide +kernel
theorem q_and_if : eqc (.str "and") (.str "if") = false := by decide +kernel
theorem q_and_other : eqc (.str "and") (.str "other") = false := by decide +kernel
theorem q_and_all : eqc (.str "and") (.str "all") = false := by decide +kernel
theorem q_and_some : eqc (.str "and") (.str "some") = false := by decide +kernel
theorem q_and_no : eqc (.str "and") (.str "no") = false := by decide +kernel
theorem q_and_least : eqc (.str "and") (.str "least") = false := by decide +kernel
theorem q_and_just : eqc (.str "and") (.str "just") = false := by decide +kernel
theorem q_or_not : eqc (.str "or") (.str "not") = false := by decide +kernel
theorem q_or_and : eqc (.str "or") (.str "and") = false := by decide +kernel
theorem q_or_or : eqc (.str "or") (.str "or") = true := by decide +kernel
theorem q_or_if : eqc (.str "or") (.str "if") = false := by decide +kernel
theorem q_or_other : eqc (.str "or") (.str "other") = false := by decide +kernel
theorem q_or_all : eqc (.str "or") (.str "all") = false := by decide +kernel
theorem q_or_some : eqc (.str "or") (.str "some") = false := by decide +kernel
theorem q_or_no : eqc (.str "or") (.str "no") = false := by decide +kernel
theorem q_or_least : eqc (.str "or") (.str "least") = false := by decide +kernel
theorem q_or_just : eqc (.str "or") (.str "just") = false := by decide +kernel
theorem q_if_not : eqc (.str "if") (.str "not") = false := by decide +kernel
theorem q_if_and : eqc (.str "if") (.str "and") = false := by decide +kernel
theorem q_if_or : eqc (.str "if") (.str "or") = false := by decide +kernel
theorem q_if_if : eqc (.str "if") (.str "if") = true := by decide +kernel
theorem q_if_other : eqc (.str "if") (.str "other") = false := by decide +kernel
theorem q_if_all : eqc (.str "if") (.str "all") = false := by decide +kernel
theorem q_if_some : eqc (.str "if") (.str "some") = false := by decide +kernel
theorem q_if_no : eqc (.str "if") (.str "no") = false := by decide +kernel
theorem q_if_least : eqc (.str "if") (.str "least") = false := by decide +kernel
theorem q_if_just : eqc (.str "if") (.str "just") = false := by decide +kernel
theorem q_other_not : eqc (.str "other") (.str "not") = false := by decide +kernel
theorem q_other_and : eqc (.str "other") (.str "and") = false := by decide +kernel
theorem q_other_or : eqc (.str "other") (.str "or") = false := by decide +kernel
theorem q_other_if : eqc (.str "other") (.str "if") = false := by decide +kernel
theorem q_other_other : eqc (.str "other") (.str "other") = true := by decide +kernel
theorem q_other_all : eqc (.str "other") (.str "all") = false := by decide +kernel
theorem q_other_some : eqc (.str "other") (.str "some") = false := by decide +kernel
theorem q_other_no : eqc (.str "other") (.str "no") = false := by decide +kernel
theorem q_other_least : eqc (.str "other") (.str "least") = false := by decide +kernel
theorem q_other_just : eqc (.str "other") (.str "just") = false := by decide +kernel
theorem q_all_not : eqc (.str "all") (.str "not") = false := by decide +kernel
theorem q_all_and : eqc (.str "all") (.str "and") = false := by decide +kernel
theorem q_all_or : eqc (.str "all") (.str "or") = false := by decide +kernel
theorem q_all_if : eqc (.str "all") (.str "if") = false := by decide +kernel
theorem q_all_other : eqc (.str "all") (.str "other") = false := by decide +kernel
theorem q_all_all : eqc (.str "all") (.str "all") = true := by decide +kernel
theorem q_all_some : eqc (.str "all") (.str "some") = false := by decide +kernel
theorem q_all_no : eqc (.str "all") (.str "no") = false := by decide +kernel
theorem q_all_least : eqc (.str "all") (.str "least") = false := by decide +kernel
theorem q_all_just : eqc (.str "all") (.str "just") = false := by decide +kernel
theorem q_some_not : eqc (.str "some") (.str "not") = false := by decide +kernel
theorem q_some_and : eqc (.str "some") (.str "and") = false := by decide +kernel
theorem q_some_or : eqc (.str "some") (.str "or") = false := by decide +kernel
theorem q_some_if : eqc (.str "some") (.str "if") = false := by decide +kernel
theorem q_some_other : eqc (.str "some") (.str "other") = false := by decide +kernel
theorem q_some_all : eqc (.str "some") (.str "all") = false := by decide +kernel
theorem q_some_some : eqc (.str "some") (.str "some") = true := by decide +kernel
theorem q_some_no : eqc (.str "some") (.str "no") = false := by decide +kernel
theorem q_some_least : eqc (.str "some") (.str "least") = false := by decide +kernel
theorem q_some_just : eqc (.str "some") (.str "just") = false := by decide +kernel
theorem q_no_not : eqc (.str "no") (.str "not") = false := by decide +kernel
theorem q_no_and : eqc (.str "no") (.str "and") = false := by decide +kernel
theorem q_no_or : eqc (.str "no") (.str "or") = false := by decide +kernel
theorem q_no_if : eqc (.str "no") (.str "if") = false := by decide +kernel
theorem q_no_other : eqc (.str "no") (.str "other") = false := by decide +kernel
theorem q_no_all : eqc (.str "no") (.str "all") = false := by decide +kernel
theorem q_no_some : eqc (.str "no") (.str "some") = false := by decide +kernel
theorem q_no_no : eqc (.str "no") (.str "no") = true := by decide +kernel
theorem q_no_least : eqc (.str "no") (.str "least") = false := by decide +kernel
theorem q_no_just : eqc (.str "no") (.str "just") = false := by decide +kernel
theorem q_least_not : eqc (.str "least") (.str "not") = false := by decide +kernel
theorem q_least_and : eqc (.str "least") (.str "and") = false := by decide +kernel
theorem q_least_or : eqc (.str "least") (.str "or") = false := by decide +kernel
theorem q_least_if : eqc (.str "least") (.str "if") = false := by decide +kernel
theorem q_least_other : eqc (.str "least") (.str "other") = false := by decide +kernel
theorem q_least_all : eqc (.str "least") (.str "all") = false := by decide +kernel
theorem q_least_some : eqc (.str "least") (.str "some") = false := by decide +kernel
theorem q_least_no : eqc (.str "least") (.str "no") = false := by decide +kernel
theorem q_least_least : eqc (.str "least") (.str "least") = true := by decide +kernel
theorem q_least_just : eqc (.str "least") (.str "just") = false := by decide +kernel
theorem q_just_not : eqc (.str "just") (.str "not") = false := by decide +kernel
theorem q_just_and : eqc (.str "just") (.str "and") = false := by decide +kernel
theorem q_just_or : eqc (.str "just") (.str "or") = false := by decide +kernel
theorem q_just_if : eqc (.str "just") (.str "if") = false := by decide +kernel
theorem q_just_other : eqc (.str "just") (.str "other") = false := by decide +kernel
theorem q_just_all : eqc (.str "just") (.str "all") = false := by decide +kernel
theorem q_just_some : eqc (.str "just") (.str "some") = false := by decide +kernel
theorem q_just_no : eqc (.str "just") (.str "no") = false := by decide +kernel
theorem q_just_least : eqc (.str "just") (.str "least") = false := by decide +kernel
theorem q_just_just : eqc (.str "just") (.str "just") = true := by decide +kernel
theorem any_5 (f : Fm) : ([D.str "not", D.str "and", D.str "or", D.str "if", D.str "other"].any fun c => eqc (wordOf f) c) = match f with
    | .not _ => true
    | .two _ _ _ => true
    | _ => false := by
  have e := any_P2 f
  have e2 := w_not f
  rw [List.any_cons, e, e2]
  cases f <;> rfl
theorem wk_5 : wk (.tup [.str "not", .str "and", .str "or", .str "if", .str "other"]) = true := by decide +kernel
theorem wk_2 : wk (.tup [.str "some", .str "no"]) = true := by decide +kernel
theorem fit_bl (S : Sto) (b : Bool) : Fit S (.bl b) := ⟨1, 1, by omega, rfl⟩
theorem wk_bl (b : Bool) : wk (.bl b) = true := rfl
theorem eqc_bl (a b : Bool) : eqc (.bl a) (.bl b) = (a == b) := rfl
theorem wk_bls (bs : List Bool) (h : bs.length ≤ 1000) : wk (.tup (bs.map D.bl)) = true := by
  have w : wrs (bs.map D.bl) = true := by
    clear h
    induction bs with
    | nil => rfl
    | cons b r ih => simp only [List.map_cons, wrs, wr, ih]; rfl
  have o : okd 1000 20 [] (.tup (bs.map D.bl)) = true := by
    show (decide _ && _) = true
    rw [List.length_map, decide_eq_true h, Bool.true_and, List.all_eq_true]
    intro d hd
    obtain ⟨b, _, rfl⟩ := List.mem_map.mp hd
    rfl
  simp only [wk, wr, w, o]
  rfl
theorem pys_bl (bs : List Bool) (S : Sto) : (bs.map D.bl).mapM (toPy 65 S) = some (bs.map PyData.bool) := by
  induction bs with
  | nil => rfl
  | cons b r ih => rw [List.map_cons, List.mapM_cons, ih]; rfl
theorem eqv_bls : ∀ as bs : List Bool, PyData.eqvAll (as.map .bool) (bs.map .bool) = decide (as = bs)
  | [], [] => by simp [PyData.eqvAll]
  | [], _ :: _ => by simp [PyData.eqvAll]
  | _ :: _, [] => by simp [PyData.eqvAll]
  | a :: r, b :: q => by
    simp only [List.map_cons, PyData.eqvAll]
    rw [eqv_bls r q]
    cases a <;> cases b <;> simp [PyData.eqv]
theorem lay_bls (as : List Bool) : PyData.canLayAll0 (as.map .bool) = true ∧ PyData.depthAll (as.map .bool) = 0 := by
  induction as with
  | nil => exact ⟨by simp [PyData.canLayAll0], by simp [PyData.depthAll]⟩
  | cons a r ih =>
    simp only [List.map_cons, PyData.canLayAll0, PyData.depthAll, ih.1, ih.2, PyData.canLay0, PyData.depth]
    exact ⟨rfl, rfl⟩
theorem eq_bls {S : Sto} {m p : Nat} {as bs : List Bool} {B : KB} (hm : S[m]? = some (.lst (as.map D.bl))) (hp : S[p]? = some (.lst (bs.map D.bl))) (q : B (decide (as = bs)) S) : dEq (.ref m) (.ref p) S B := by
  have sh : ∀ as : List Bool, SeqAt.shaped (.list (as.map PyData.bool)) = true := fun as => by
    show (PyData.canLay0 _ && decide (PyData.depth _ ≤ 64)) = true
    simp only [PyData.canLay0, PyData.depth, (lay_bls as).1, (lay_bls as).2]
    rfl
  refine ⟨.list (as.map .bool), .list (bs.map .bool), ?_, ?_, sh as, sh bs, ?_⟩
  · rw [toPy_ref 65 hm, pys_bl]; rfl
  · rw [toPy_ref 65 hp, pys_bl]; rfl
  · have : PyData.eqv (.list (as.map .bool)) (.list (bs.map .bool)) = decide (as = bs) := eqv_bls as bs
    rw [this]
    exact q
theorem in_bls {S : Sto} {m : Nat} {as : List Bool} {b : Bool} {B : KB} (hm : S[m]? = some (.lst (as.map D.bl))) (hl : as.length ≤ 1000) (q : B (as.any fun z => b == z) S) : dInA (.bl b) (.ref m) S B := by
  rw [inA_ref hm]
  refine dIn_l (fit_bl S b) hm (wk_bls as hl) ?_
  rw [List.any_map]
  exact q
theorem cut1 (w x : D) : cutD [w, x] (some 1) none = [x] := by rfl
theorem cut2 (w x y : D) : cutD [w, x, y] (some 1) none = [x, y] := by rfl
theorem ob__law_holds (n : Nat) (ds : List D) (S : Sto) (Q : KQ) (h : spLHolds (n + 1) ds S Q) : wB (fsN n) ir__law_holds (defEnds Q) (startD C__law_holds.N ds) S := by
  obtain ⟨f, h, rfl, hd, ho, h0, q⟩ := h
  have ia := (h_at h).1
  have ib := (h_at h).2.1
  have ic := (h_at h).2.2
  rw [enc_eq]
  simp only [DW.wG, DW.wGs, gsLen, List.set_cons_succ, List.set_cons_zero, wB, wS, DW.wT, DW.wTs, DW.wE, DW.wA, DW.wO, DW.wI, List.getElem?_cons_succ, List.getElem?_cons_zero, cmp_eq, cmp_ne, cmp_in, cmp_nin, inA_tup, inA_ktup, op_shl', op_shr', op_and', op_or', op_xor', is_bl, isn_bl, iter_ktup, cmp_lt, cmp_le, cmp_gt, cmp_ge, tru_non, tru_bl, tru_int, tru_tup, op_addi, op_subi, op_muli, op_divi, op_modi, op_powi, op_addt, op_rept, len_tup, len_rol, idx_tup, idx_rol, slc_tup, iter_tup, iter_rol, eqc_int, LIM, Nat.reduceLeDiff, dBlt, dInt1, defEnds, startD, List.map_cons, List.map_nil, List.length_cons, List.length_nil, List.replicate_succ, List.replicate_zero, List.cons_append, List.nil_append, Nat.reduceAdd, Nat.reduceSub, isRef, Nat.zero_add, and_true, true_and, if_true, Bool.false_eq_true, if_false, ir__law_holds]
  refine ⟨_, at0 _ _, ?_⟩
  have e0 := Ext.app S [Ob.lst [D.str "not", D.str "and", D.str "or", D.str "if", D.str "other"]]
  rw [inA_ref (sto_last S _)]
  refine dIn_l (word_fit _ f) (sto_last S _) wk_5 ?_
  rw [any_5]
  generalize S ++ [Ob.lst [D.str "not", D.str "and", D.str "or", D.str "if", D.str "other"]] = S1 at e0
  have hw := fun S => word_fit S f
  cases f with
  | not f =>
    simp only [dep] at hd
    simp only [if_true, restOf]
    unfold ir__law_holds_l0
    simp only [DW.wG, DW.wGs, gsLen, List.set_cons_succ, List.set_cons_zero, wB, wS, DW.wT, DW.wTs, DW.wE, DW.wA, DW.wO, DW.wI, List.getElem?_cons_succ, List.getElem?_cons_zero, cmp_eq, cmp_ne, cmp_in, cmp_nin, inA_tup, inA_ktup, op_shl', op_shr', op_and', op_or', op_xor', is_bl, isn_bl, iter_ktup, cmp_lt, cmp_le, cmp_gt, cmp_ge, tru_non, tru_bl, tru_int, tru_tup, op_addi, op_subi, op_muli, op_divi, op_modi, op_powi, op_addt, op_rept, len_tup, len_rol, idx_tup, idx_rol, slc_tup, iter_tup, iter_rol, eqc_int, LIM, Nat.reduceLeDiff, dBlt, dInt1, defEnds, startD, List.map_cons, List.map_nil, List.length_cons, List.length_nil, List.replicate_succ, List.replicate_zero, List.cons_append, List.nil_append, Nat.reduceAdd, Nat.reduceSub, isRef, Nat.zero_add, and_true, true_and, if_true, Bool.false_eq_true, if_false, DW.wTs, wipeD, f24, cut1, cLoop]
    refine ⟨f, h, rfl, by omega, ho, h0, fun S2 e2 => ?_⟩
    have hs := e2 _ _ (sto_last S1 (Ob.lst []))
    refine ⟨[], hs, by decide, ?_⟩
    have hs2 := sto_set (u := .lst ([] ++ [D.bl (ev h f)])) hs
    have q1 := q _ ((e0.trans ((Ext.app S1 _).trans e2)).set (n := S1.length) e0.len (.lst ([] ++ [D.bl (ev h f)])))
    generalize S2.set S1.length (.lst ([] ++ [D.bl (ev h f)])) = S3 at hs2 q1
    have hw := word_fit S3 (.not f)
    simp only [show wordOf (.not f) = .str "not" from rfl] at hw ⊢
    rw [dEq_iff hw wk_not, q_not_not]
    simp only [if_true]
    rw [idx_ref hs2]
    exact ⟨_, at0 _ _, q1⟩
  | two w f g =>
    simp only [dep] at hd
    simp only [if_true, restOf]
    unfold ir__law_holds_l0
    simp only [DW.wG, DW.wGs, gsLen, List.set_cons_succ, List.set_cons_zero, wB, wS, DW.wT, DW.wTs, DW.wE, DW.wA, DW.wO, DW.wI, List.getElem?_cons_succ, List.getElem?_cons_zero, cmp_eq, cmp_ne, cmp_in, cmp_nin, inA_tup, inA_ktup, op_shl', op_shr', op_and', op_or', op_xor', is_bl, isn_bl, iter_ktup, cmp_lt, cmp_le, cmp_gt, cmp_ge, tru_non, tru_bl, tru_int, tru_tup, op_addi, op_subi, op_muli, op_divi, op_modi, op_powi, op_addt, op_rept, len_tup, len_rol, idx_tup, idx_rol, slc_tup, iter_tup, iter_rol, eqc_int, LIM, Nat.reduceLeDiff, dBlt, dInt1, defEnds, startD, List.map_cons, List.map_nil, List.length_cons, List.length_nil, List.replicate_succ, List.replicate_zero, List.cons_append, List.nil_append, Nat.reduceAdd, Nat.reduceSub, isRef, Nat.zero_add, and_true, true_and, if_true, Bool.false_eq_true, if_false, DW.wTs, wipeD, f24, cut2, cLoop]
    refine ⟨f, h, rfl, by omega, ho.1, h0, fun S2 e2 => ?_⟩
    have hs := e2 _ _ (sto_last S1 (Ob.lst []))
    refine ⟨[], hs, by decide, ?_⟩
    have hs2 := sto_set (u := .lst ([] ++ [D.bl (ev h f)])) hs
    have E1 := (e0.trans ((Ext.app S1 _).trans e2)).set (n := S1.length) e0.len (.lst ([] ++ [D.bl (ev h f)]))
    generalize S2.set S1.length (.lst ([] ++ [D.bl (ev h f)])) = S3 at hs2 E1
    refine ⟨g, h, rfl, by omega, ho.2, h0, fun S4 e4 => ?_⟩
    have hs4 := e4 _ _ hs2
    refine ⟨_, hs4, by simp, ?_⟩
    have hs5 := sto_set (u := .lst ([] ++ [D.bl (ev h f)] ++ [D.bl (ev h g)])) hs4
    have q1 := fun o => q _ (((E1.trans e4).set (n := S1.length) e0.len (.lst ([] ++ [D.bl (ev h f)] ++ [D.bl (ev h g)]))).trans (Ext.app _ o))
    generalize S4.set S1.length (.lst ([] ++ [D.bl (ev h f)] ++ [D.bl (ev h g)])) = S5 at hs5 q1
    have hw := word_fit S5 (.two w f g)
    have q0 := q1 []
    rw [List.append_nil] at q0
    have hb : S5[S1.length]? = some (.lst ([ev h f, ev h g].map D.bl)) := hs5
    simp only [show wordOf (.two w f g) = wrdD w from rfl] at hw ⊢
    match w with
    | 0 =>
      simp only [wrdD] at hw ⊢
      simp only [dEq_iff hw wk_not, dEq_iff hw wk_and, q_and_not, q_and_and, if_true, Bool.false_eq_true, if_false]
      refine in_bls hb (by simp) ?_
      simp only [ev, evw] at q0
      revert q0
      cases ev h f <;> cases ev h g <;> exact id
    | 1 =>
      simp only [wrdD] at hw ⊢
      simp only [dEq_iff hw wk_not, dEq_iff hw wk_and, dEq_iff hw wk_or, q_or_not, q_or_and, q_or_or, if_true, Bool.false_eq_true, if_false]
      refine in_bls hb (by simp) ?_
      simp only [ev, evw] at q0
      revert q0
      cases ev h f <;> cases ev h g <;> exact id
    | 2 =>
      simp only [wrdD] at hw ⊢
      simp only [dEq_iff hw wk_not, dEq_iff hw wk_and, dEq_iff hw wk_or, dEq_iff hw wk_if, q_if_not, q_if_and, q_if_or, q_if_if, if_true, Bool.false_eq_true, if_false]
      refine eq_bls (as := [ev h f, ev h g]) (bs := [true, false]) (Ext.app S5 _ _ _ hb) (sto_last S5 _) ?_
      have q2 := q1 [Ob.lst [D.bl true, D.bl false]]
      simp only [ev, evw] at q2
      revert q2
      cases ev h f <;> cases ev h g <;> exact id
    | 3 =>
      simp only [wrdD] at hw ⊢
      simp only [dEq_iff hw wk_not, dEq_iff hw wk_and, dEq_iff hw wk_or, dEq_iff hw wk_if, q_other_not, q_other_and, q_other_or, q_other_if, if_true, Bool.false_eq_true, if_false]
      rw [idx_ref hb]
      refine ⟨D.bl (ev h f), rfl, ?_⟩
      show dIdx _ _ S5 _
      rw [idx_ref hb]
      refine ⟨D.bl (ev h g), rfl, ?_⟩
      simp only [dEq_iff (fit_bl S5 _) (wk_bl _), eqc_bl]
      simp only [ev, evw] at q0
      revert q0
      cases ev h f <;> cases ev h g <;> exact id
  | all m => 
    have hw := word_fit S1 (.all m)
    simp only [Bool.false_eq_true, if_false, restOf, show wordOf (.all m) = .str "all" from rfl, encH] at hw ⊢
    rw [dEq_iff hw wk_all, q_all_all]
    simp only [if_true]
    have q0 := q S1 e0
    cases m with
    | true => 
      refine ⟨.str "a", rfl, D.int 1, rfl, ?_⟩
      simp only [idx_tup]
      refine ⟨_, ia, ?_⟩
      simp only [dEq_iff (fit_int S1 _) (wk_int 0), eqc_int]
      exact q0
    | false => 
      refine ⟨.str "b", rfl, D.int 2, rfl, ?_⟩
      simp only [idx_tup]
      refine ⟨_, ib, ?_⟩
      simp only [dEq_iff (fit_int S1 _) (wk_int 0), eqc_int]
      exact q0
  | som m =>
    have hw := word_fit S1 (.som m)
    have hw2 := word_fit (S1 ++ [Ob.lst [D.str "some", D.str "no"]]) (.som m)
    have q1 := q _ (e0.trans (Ext.app S1 [Ob.lst [D.str "some", D.str "no"]]))
    simp only [Bool.false_eq_true, if_false, restOf, show wordOf (.som m) = .str "some" from rfl, encH] at hw hw2 ⊢
    rw [dEq_iff hw wk_all, q_some_all]
    simp only [Bool.false_eq_true, if_false]
    rw [inA_ref (sto_last S1 _)]
    refine dIn_l hw2 (sto_last S1 _) wk_2 ?_
    simp only [List.any_cons, q_some_some, Bool.true_or, if_true]
    simp only [idx_tup]
    refine ⟨_, ic, ?_⟩
    simp only [dEq_iff (fit_int _ _) (wk_int 0), eqc_int, dEq_iff hw2 wk_no, q_some_no, dEq_iff (fit_bl _ _) (wk_bl _), eqc_bl]
    have e : (decide (h.c = 0) == false) = ev h (.som m) := by
      simp only [ev]
      by_cases z : h.c = 0
      · simp [z]
      · have : 0 < h.c := by omega
        simp [z, this]
    rw [e]
    exact q1
  | non m =>
    have hw := word_fit S1 (.non m)
    have hw2 := word_fit (S1 ++ [Ob.lst [D.str "some", D.str "no"]]) (.non m)
    have q1 := q _ (e0.trans (Ext.app S1 [Ob.lst [D.str "some", D.str "no"]]))
    simp only [Bool.false_eq_true, if_false, restOf, show wordOf (.non m) = .str "no" from rfl, encH] at hw hw2 ⊢
    rw [dEq_iff hw wk_all, q_no_all]
    simp only [Bool.false_eq_true, if_false]
    rw [inA_ref (sto_last S1 _)]
    refine dIn_l hw2 (sto_last S1 _) wk_2 ?_
    simp only [List.any_cons, q_no_some, q_no_no, Bool.true_or, Bool.false_or, if_true]
    simp only [idx_tup]
    refine ⟨_, ic, ?_⟩
    simp only [dEq_iff (fit_int _ _) (wk_int 0), eqc_int, dEq_iff hw2 wk_no, q_no_no, dEq_iff (fit_bl _ _) (wk_bl _), eqc_bl]
    have e : (decide (h.c = 0) == true) = ev h (.non m) := by simp [ev]
    rw [e]
    exact q1
  | cnt l k c => 
    have hw := word_fit S1 (.cnt l k c)
    have e2 := Ext.app S1 [Ob.lst [D.str "some", D.str "no"]]
    have hl := sto_last S1 (Ob.lst [D.str "some", D.str "no"])
    have q1 := q _ (e0.trans e2)
    have hw2 := word_fit (S1 ++ [Ob.lst [D.str "some", D.str "no"]]) (.cnt l k c)
    have l1 : eqc (lstD l) (.str "all") = false := by cases l <;> decide +kernel
    have l2 : ([D.str "some", D.str "no"].any fun c => eqc (lstD l) c) = false := by cases l <;> decide +kernel
    have l3 : eqc (lstD l) (.str "least") = l := by cases l <;> decide +kernel
    simp only [Bool.false_eq_true, if_false, restOf, show wordOf (.cnt l k c) = lstD l from rfl, encH] at hw hw2 ⊢
    rw [dEq_iff hw wk_all, l1]
    simp only [Bool.false_eq_true, if_false]
    rw [inA_ref hl]
    refine dIn_l hw2 hl wk_2 ?_
    rw [l2]
    simp only [Bool.false_eq_true, if_false]
    simp only [idx_tup]
    refine ⟨_, ic, _, ia, _, ib, _, rfl, ?_⟩
    have fin : ∀ x : Int, h.c + x = many h c → dOp Operator.Add (.int h.c) (.int x) (S1 ++ [Ob.lst [D.str "some", D.str "no"]]) fun d S1 => dEq (lstD l) (D.str "least") S1 fun k_3 S1 => if k_3 = true then ∃ v, atI [lstD l, D.int k, cntD c] 1 = some v ∧ dCmp CmpOp.GtE d v S1 fun k S3 => Q (D.bl k) S3 else ∃ v, atI [lstD l, D.int k, cntD c] 1 = some v ∧ dEq d v S1 fun k S3 => Q (D.bl k) S3 := fun x hx => by
      simp only [op_addi, hx]
      rw [dEq_iff hw2 wk_least, l3]
      cases l with
      | true =>
        simp only [if_true]
        exact ⟨D.int k, rfl, q1⟩
      | false =>
        simp only [Bool.false_eq_true, if_false]
        refine ⟨D.int k, rfl, ?_⟩
        rw [dEq_iff (fit_int _ _) (wk_int _), eqc_int]
        exact q1
    match c with
    | 0 => exact ⟨D.int h.a, rfl, fin h.a (Int.add_comm _ _)⟩
    | 1 => exact ⟨D.int h.b, rfl, fin h.b (Int.add_comm _ _)⟩
    | 2 => exact ⟨D.int 0, rfl, fin 0 (Int.add_zero _)⟩
end K03

set_option Elab.async false
set_option linter.all false
set_option maxRecDepth 100000
set_option maxHeartbeats 1000000

namespace K03
open PySem PySem.Spec PyProof.Rows L2 DW

theorem ob__law_truths (n : Nat) (ds : List D) (S : Sto) (Q : KQ) (h : lv (n + 1) 12 spLTruths ds S Q) : wB (fsN n) ir__law_truths (defEnds Q) (startD C__law_truths.N ds) S := by
  obtain ⟨hl, f, m, hs, rfl, ho, hd, hm, hz, h0, q⟩ := h
  simp only [DW.wG, DW.wGs, gsLen, List.set_cons_succ, List.set_cons_zero, wB, wS, DW.wT, DW.wTs, DW.wE, DW.wA, DW.wO, DW.wI, List.getElem?_cons_succ, List.getElem?_cons_zero, cmp_eq, cmp_ne, cmp_in, cmp_nin, inA_tup, inA_ktup, op_shl', op_shr', op_and', op_or', op_xor', is_bl, isn_bl, iter_ktup, cmp_lt, cmp_le, cmp_gt, cmp_ge, tru_non, tru_bl, tru_int, tru_tup, op_addi, op_subi, op_muli, op_divi, op_modi, op_powi, op_addt, op_rept, len_tup, len_rol, idx_tup, idx_rol, slc_tup, iter_tup, iter_rol, eqc_int, LIM, Nat.reduceLeDiff, dBlt, dInt1, defEnds, startD, List.map_cons, List.map_nil, List.length_cons, List.length_nil, List.replicate_succ, List.replicate_zero, List.cons_append, List.nil_append, Nat.reduceAdd, Nat.reduceSub, isRef, Nat.zero_add, and_true, true_and, if_true, Bool.false_eq_true, if_false, ir__law_truths]
  unfold ir__law_truths_l0
  simp only [DW.wE, DW.wI, List.getElem?_cons_succ, List.getElem?_cons_zero]
  rw [iter_ref hm]
  refine cLoop_ext (fun d => some (.bl (ev (unH d) f))) (by simp only [LIM, List.length_map]; omega) (fun S' e => e _ _ hm) (fun d hd2 S1 ky kn e1 k => ?_) fun S' e1 e2 => ?_
  · obtain ⟨h, hh, rfl⟩ := List.mem_map.mp hd2
    simp only [DW.wG, DW.wGs, gsLen, List.set_cons_succ, List.set_cons_zero, wB, wS, DW.wT, DW.wTs, DW.wE, DW.wA, DW.wO, DW.wI, List.getElem?_cons_succ, List.getElem?_cons_zero, cmp_eq, cmp_ne, cmp_in, cmp_nin, inA_tup, inA_ktup, op_shl', op_shr', op_and', op_or', op_xor', is_bl, isn_bl, iter_ktup, cmp_lt, cmp_le, cmp_gt, cmp_ge, tru_non, tru_bl, tru_int, tru_tup, op_addi, op_subi, op_muli, op_divi, op_modi, op_powi, op_addt, op_rept, len_tup, len_rol, idx_tup, idx_rol, slc_tup, iter_tup, iter_rol, eqc_int, LIM, Nat.reduceLeDiff, dBlt, dInt1, defEnds, startD, List.map_cons, List.map_nil, List.length_cons, List.length_nil, List.replicate_succ, List.replicate_zero, List.cons_append, List.nil_append, Nat.reduceAdd, Nat.reduceSub, isRef, Nat.zero_add, and_true, true_and, if_true, Bool.false_eq_true, if_false, DW.wTs, wipeD, f24]
    refine ⟨f, h, rfl, by omega, ho, h0 h hh, fun S2 e2 => ?_⟩
    exact k S2 e2
  · refine q S' _ e1 (Nat.le_refl _) ?_
    rw [e2]
    congr 2
    rw [List.filterMap_map]
    clear hm hz h0 q e2
    induction hs with
    | nil => rfl
    | cons h t ih => rw [List.filterMap_cons, List.map_cons, ih]; rfl
theorem first_loop {n : Nat} {E : DEnds} {a b : Option D} {f : Fm} {t : Bool} {S : Sto} {chk : Sto → Prop} (hc : chk S) (Q : KQ) (hr : E.rt = Q) (hn : ∀ ρ, Q .non S → E.nx ρ S) : ∀ (hs : List Hs) (x3 x4 : Option D), Q (firstD (hs.find? fun h => ev h f == t)) S →
    fLoop chk (fun d ρ' S' k => DW.wG (fsN n) (.tup (.cons (.name 3) (.cons (.name 4) .nil))) d ρ' S' k) (fun E' ρ' S' => wB (fsN n) ir__law_first_b0 E' ρ' S') E (zipD (hs.map encH) (hs.map fun h => .bl (ev h f))) [a, b, some (.bl t), x3, x4] S
  | [], x3, x4, q => ⟨hc, hn _ q⟩
  | h :: r, x3, x4, q => by
    refine ⟨hc, ?_⟩
    simp only [DW.wG, DW.wGs, gsLen, List.set_cons_succ, List.set_cons_zero, wB, wS, DW.wT, DW.wTs, DW.wE, DW.wA, DW.wO, DW.wI, List.getElem?_cons_succ, List.getElem?_cons_zero, cmp_eq, cmp_ne, cmp_in, cmp_nin, inA_tup, inA_ktup, op_shl', op_shr', op_and', op_or', op_xor', is_bl, isn_bl, iter_ktup, cmp_lt, cmp_le, cmp_gt, cmp_ge, tru_non, tru_bl, tru_int, tru_tup, op_addi, op_subi, op_muli, op_divi, op_modi, op_powi, op_addt, op_rept, len_tup, len_rol, idx_tup, idx_rol, slc_tup, iter_tup, iter_rol, eqc_int, LIM, Nat.reduceLeDiff, dBlt, dInt1, defEnds, startD, List.map_cons, List.map_nil, List.length_cons, List.length_nil, List.replicate_succ, List.replicate_zero, List.cons_append, List.nil_append, Nat.reduceAdd, Nat.reduceSub, isRef, Nat.zero_add, and_true, true_and, if_true, Bool.false_eq_true, if_false, ir__law_first_b0]
    rw [dEq_iff (fit_bl S _) (wk_bl t), eqc_bl]
    rw [List.find?_cons] at q
    rcases bb (ev h f == t) with z | z
    · simp only [z, if_true] at q ⊢
      rw [hr]
      exact q
    · simp only [z, Bool.false_eq_true, if_false] at q ⊢
      exact first_loop (n := n) hc Q hr hn r _ _ q
theorem ob__law_first (n : Nat) (ds : List D) (S : Sto) (Q : KQ) (h : lv (n + 1) 1 spLFirst ds S Q) : wB (fsN n) ir__law_first (defEnds Q) (startD C__law_first.N ds) S := by
  obtain ⟨hl, m, k, f, hs, t, rfl, hm, hk, hz, q⟩ := h
  simp only [DW.wG, DW.wGs, gsLen, List.set_cons_succ, List.set_cons_zero, wB, wS, DW.wT, DW.wTs, DW.wE, DW.wA, DW.wO, DW.wI, List.getElem?_cons_succ, List.getElem?_cons_zero, cmp_eq, cmp_ne, cmp_in, cmp_nin, inA_tup, inA_ktup, op_shl', op_shr', op_and', op_or', op_xor', is_bl, isn_bl, iter_ktup, cmp_lt, cmp_le, cmp_gt, cmp_ge, tru_non, tru_bl, tru_int, tru_tup, op_addi, op_subi, op_muli, op_divi, op_modi, op_powi, op_addt, op_rept, len_tup, len_rol, idx_tup, idx_rol, slc_tup, iter_tup, iter_rol, eqc_int, LIM, Nat.reduceLeDiff, dBlt, dInt1, defEnds, startD, List.map_cons, List.map_nil, List.length_cons, List.length_nil, List.replicate_succ, List.replicate_zero, List.cons_append, List.nil_append, Nat.reduceAdd, Nat.reduceSub, isRef, Nat.zero_add, and_true, true_and, if_true, Bool.false_eq_true, if_false, ir__law_first, dZip, dLIter, hm, hk]
  exact first_loop (chk := fun S' => S'[m]? = some (.lst (hs.map encH)) ∧ S'[k]? = some (.lst (hs.map fun h => .bl (ev h f)))) ⟨hm, hk⟩ Q rfl (fun ρ q => q) hs none none q

/-! ### all houses -/
abbrev tI (is : List Int) : D := .tup (is.map D.int)
def addT (c : Int) (d : D) : Option D := match d with
  | .tup xs => some (.tup (xs ++ [.int c]))
  | _ => none
theorem addT_map (c : Int) (xs : List (List Int)) : (xs.map tI).filterMap (addT c) = (xs.map fun x => x ++ [c]).map tI := by
  induction xs with
  | nil => rfl
  | cons x r ih =>
    rw [List.map_cons, List.filterMap_cons, ih]
    simp [addT]
theorem houses_l0 {n : Nat} {E : DEnds} {p : Nat} {x0 x2 x5 x6 : Option D} {xs : List (List Int)} (hx : xs.length ≤ 125) (hx2 : ∀ x ∈ xs, x.length ≤ 4) : ∀ (cs : List Int) (ys : List (List Int)) (r : Nat) (x4 : Option D) (S : Sto),
    S[p]? = some (.lst (xs.map tI)) → S[r]? = some (.lst (ys.map tI)) → ys.length + cs.length * 125 ≤ 625 →
    (∀ S' r' x4', Ext S S' → S'[r']? = some (.lst ((ys ++ cs.flatMap fun c => xs.map fun x => x ++ [c]).map tI)) → E.nx [x0, some (.ref p), x2, some (.ref r'), x4', x5, x6] S') →
    fLoop (fun _ => True) (fun d ρ' S' k => DW.wG (fsN n) (.name 4) d ρ' S' k) (fun E' ρ' S' => wB (fsN n) ir__law_houses_b0 E' ρ' S') E (cs.map D.int) [x0, some (.ref p), x2, some (.ref r), x4, x5, x6] S
  | [], ys, r, x4, S, hp, hr, hl, fin => ⟨trivial, fin S r x4 (Ext.refl S) (by simpa using hr)⟩
  | c :: cs, ys, r, x4, S, hp, hr, hl, fin => by
    refine ⟨trivial, ?_⟩
    show wB (fsN n) ir__law_houses_b0 _ [x0, some (.ref p), x2, some (.ref r), some (.int c), x5, x6] S
    rw [List.length_cons] at hl
    have ih := fun ys r x4 S => houses_l0 (n := n) (E := E) (p := p) (x0 := x0) (x2 := x2) (x5 := x5) (x6 := x6) hx hx2 cs ys r x4 S
    revert ih
    generalize fLoop (fun _ => True) (fun d ρ' S' k => DW.wG (fsN n) (.name 4) d ρ' S' k) (fun E' ρ' S' => wB (fsN n) ir__law_houses_b0 E' ρ' S') E (cs.map D.int) = NX
    intro ih
    simp only [DW.wG, DW.wGs, gsLen, List.set_cons_succ, List.set_cons_zero, wB, wS, DW.wT, DW.wTs, DW.wE, DW.wA, DW.wO, DW.wI, List.getElem?_cons_succ, List.getElem?_cons_zero, cmp_eq, cmp_ne, cmp_in, cmp_nin, inA_tup, inA_ktup, op_shl', op_shr', op_and', op_or', op_xor', is_bl, isn_bl, iter_ktup, cmp_lt, cmp_le, cmp_gt, cmp_ge, tru_non, tru_bl, tru_int, tru_tup, op_addi, op_subi, op_muli, op_divi, op_modi, op_powi, op_addt, op_rept, len_tup, len_rol, idx_tup, idx_rol, slc_tup, iter_tup, iter_rol, eqc_int, LIM, Nat.reduceLeDiff, dBlt, dInt1, defEnds, startD, List.map_cons, List.map_nil, List.length_cons, List.length_nil, List.replicate_succ, List.replicate_zero, List.cons_append, List.nil_append, Nat.reduceAdd, Nat.reduceSub, isRef, Nat.zero_add, and_true, true_and, if_true, Bool.false_eq_true, if_false, ir__law_houses_b0]
    unfold ir__law_houses_l2
    simp only [DW.wE, DW.wI, List.getElem?_cons_succ, List.getElem?_cons_zero]
    rw [iter_ref hp]
    refine cLoop_ext (addT c) (by simp only [LIM, List.length_map]; omega) (fun S' e => e _ _ hp) (fun d hd2 S1 ky kn e1 k => ?_) fun S' e1 e2 => ?_
    · obtain ⟨x, hxx, rfl⟩ := List.mem_map.mp hd2
      have := hx2 x hxx
      simp only [DW.wG, DW.wGs, gsLen, List.set_cons_succ, List.set_cons_zero, wB, wS, DW.wT, DW.wTs, DW.wE, DW.wA, DW.wO, DW.wI, List.getElem?_cons_succ, List.getElem?_cons_zero, cmp_eq, cmp_ne, cmp_in, cmp_nin, inA_tup, inA_ktup, op_shl', op_shr', op_and', op_or', op_xor', is_bl, isn_bl, iter_ktup, cmp_lt, cmp_le, cmp_gt, cmp_ge, tru_non, tru_bl, tru_int, tru_tup, op_addi, op_subi, op_muli, op_divi, op_modi, op_powi, op_addt, op_rept, len_tup, len_rol, idx_tup, idx_rol, slc_tup, iter_tup, iter_rol, eqc_int, LIM, Nat.reduceLeDiff, dBlt, dInt1, defEnds, startD, List.map_cons, List.map_nil, List.length_cons, List.length_nil, List.replicate_succ, List.replicate_zero, List.cons_append, List.nil_append, Nat.reduceAdd, Nat.reduceSub, isRef, Nat.zero_add, and_true, true_and, if_true, Bool.false_eq_true, if_false, DW.wTs, wipeD, List.length_map]
      refine ⟨by omega, ?_⟩
      exact k S1 (Ext.refl S1)
    · rw [addT_map] at e2
      rw [op_addl (e1 _ _ hr) e2]
      refine ⟨by simp only [List.length_map, LIM]; omega, ?_⟩
      rw [← List.map_append]
      have e3 := Ext.app S' [Ob.lst ((ys ++ xs.map fun x => x ++ [c]).map tI)]
      refine ih _ _ _ _ ((e1.trans e3) _ _ hp) (sto_last S' _) (by rw [List.length_append, List.length_map]; omega) fun S2 r' x4' e4 h4 => ?_
      refine fin S2 r' x4' ((e1.trans e3).trans e4) ?_
      rw [h4, List.flatMap_cons, List.append_assoc]
def grow (xs : List (List Int)) : List (List Int) := cnts.flatMap fun c => xs.map fun x => x ++ [c]
theorem houses_b1 {n : Nat} {E : DEnds} {p : Nat} {x2 x3 x4 x5 x6 : Option D} {xs : List (List Int)} {S : Sto} (hx : xs.length ≤ 125) (hx2 : ∀ x ∈ xs, x.length ≤ 4) (hp : S[p]? = some (.lst (xs.map tI)))
    (fin : ∀ S' r x2' x3' x4', Ext S S' → S'[r]? = some (.lst ((grow xs).map tI)) → E.nx [some (.int 4), some (.ref r), x2', x3', x4', x5, x6] S') :
    wB (fsN n) ir__law_houses_b1 E [some (.int 4), some (.ref p), x2, x3, x4, x5, x6] S := by
  simp only [DW.wG, DW.wGs, gsLen, List.set_cons_succ, List.set_cons_zero, wB, wS, DW.wT, DW.wTs, DW.wE, DW.wA, DW.wO, DW.wI, List.getElem?_cons_succ, List.getElem?_cons_zero, cmp_eq, cmp_ne, cmp_in, cmp_nin, inA_tup, inA_ktup, op_shl', op_shr', op_and', op_or', op_xor', is_bl, isn_bl, iter_ktup, cmp_lt, cmp_le, cmp_gt, cmp_ge, tru_non, tru_bl, tru_int, tru_tup, op_addi, op_subi, op_muli, op_divi, op_modi, op_powi, op_addt, op_rept, len_tup, len_rol, idx_tup, idx_rol, slc_tup, iter_tup, iter_rol, eqc_int, LIM, Nat.reduceLeDiff, dBlt, dInt1, defEnds, startD, List.map_cons, List.map_nil, List.length_cons, List.length_nil, List.replicate_succ, List.replicate_zero, List.cons_append, List.nil_append, Nat.reduceAdd, Nat.reduceSub, isRef, Nat.zero_add, and_true, true_and, if_true, Bool.false_eq_true, if_false, ir__law_houses_b1]
  have e0 := Ext.app S [Ob.lst []]
  rw [show (4 : Int) + 1 = 5 by decide, ints5]
  refine ⟨⟨by decide, by decide⟩, ?_⟩
  refine houses_l0 (n := n) hx hx2 cnts [] S.length x4 _ (e0 _ _ hp) (sto_last S _) (by decide) fun S' r' x4' e1 h1 => ?_
  simp only [DW.wG, DW.wGs, gsLen, List.set_cons_succ, List.set_cons_zero, wB, wS, DW.wT, DW.wTs, DW.wE, DW.wA, DW.wO, DW.wI, List.getElem?_cons_succ, List.getElem?_cons_zero, cmp_eq, cmp_ne, cmp_in, cmp_nin, inA_tup, inA_ktup, op_shl', op_shr', op_and', op_or', op_xor', is_bl, isn_bl, iter_ktup, cmp_lt, cmp_le, cmp_gt, cmp_ge, tru_non, tru_bl, tru_int, tru_tup, op_addi, op_subi, op_muli, op_divi, op_modi, op_powi, op_addt, op_rept, len_tup, len_rol, idx_tup, idx_rol, slc_tup, iter_tup, iter_rol, eqc_int, LIM, Nat.reduceLeDiff, dBlt, dInt1, defEnds, startD, List.map_cons, List.map_nil, List.length_cons, List.length_nil, List.replicate_succ, List.replicate_zero, List.cons_append, List.nil_append, Nat.reduceAdd, Nat.reduceSub, isRef, Nat.zero_add, and_true, true_and, if_true, Bool.false_eq_true, if_false]
  exact fin S' r' _ _ x4' (e0.trans e1) h1
theorem houses_l1 {n : Nat} {E : DEnds} {x5 x6 : Option D} : ∀ (is : List D) (k : Nat) (xs : List (List Int)) (p : Nat) (x2 x3 x4 : Option D) (S : Sto), is.length + k = 4 → xs = (List.range k).foldl (fun x _ => grow x) [[]] → S[p]? = some (.lst (xs.map tI)) → 
    (∀ S' r x2' x3' x4', Ext S S' → S'[r]? = some (.lst ((grow (grow (grow (grow [[]])))).map tI)) → E.nx [some (.int 4), some (.ref r), x2', x3', x4', x5, x6] S') →
    fLoop (fun _ => True) (fun d ρ' S' k => DW.wG (fsN n) (.name 2) d ρ' S' k) (fun E' ρ' S' => wB (fsN n) ir__law_houses_b1 E' ρ' S') E is [some (.int 4), some (.ref p), x2, x3, x4, x5, x6] S
  | [], k, xs, p, x2, x3, x4, S, hk, hxs, hp, fin => by
    rw [List.length_nil, Nat.zero_add] at hk
    subst hk
    subst hxs
    exact ⟨trivial, fin S p x2 x3 x4 (Ext.refl S) hp⟩
  | d :: is, k, xs, p, x2, x3, x4, S, hk, hxs, hp, fin => by
    refine ⟨trivial, ?_⟩
    show wB (fsN n) ir__law_houses_b1 _ [some (.int 4), some (.ref p), some d, x3, x4, x5, x6] S
    rw [List.length_cons] at hk
    have hb : xs.length ≤ 125 ∧ ∀ x ∈ xs, x.length ≤ 4 := by
      rw [hxs]
      have : k = 0 ∨ k = 1 ∨ k = 2 ∨ k = 3 := by omega
      rcases this with rfl | rfl | rfl | rfl <;> decide +kernel
    refine houses_b1 hb.1 hb.2 hp fun S1 r x2' x3' x4' e1 h1 => ?_
    refine houses_l1 is (k + 1) (grow xs) r x2' x3' x4' S1 (by omega) (by rw [hxs, List.range_succ, List.foldl_append]; rfl) h1 fun S2 r2 y2 y3 y4 e2 h2 => fin S2 r2 y2 y3 y4 (e1.trans e2) h2
theorem grown : grow (grow (grow (grow [[]]))) = bigU.map hl := by decide +kernel
theorem toPy_pair (S : Sto) (s : Int) (is : List Int) : toPy 66 S (.tup [.int s, tI is]) = some (.tuple [.int s, .tuple (is.map .int)]) := by
  have e : ∀ is : List Int, (is.map D.int).mapM (toPy 64 S) = some (is.map PyData.int) := fun is => by
    induction is with
    | nil => rfl
    | cons b r ih => rw [List.map_cons, List.mapM_cons, ih]; rfl
  have e2 : toPy 65 S (tI is) = some (.tuple (is.map .int)) := by
    show ((is.map D.int).mapM (toPy 64 S)).map PyData.tuple = _
    rw [e]; rfl
  show (([D.int s, tI is]).mapM (toPy 65 S)).map PyData.tuple = _
  rw [List.mapM_cons, List.mapM_cons, e2]
  rfl
def pairD (is : List Int) : D := .tup [.int is.sum, tI is]
theorem toPy_pairs (S : Sto) : ∀ xs : List (List Int), (xs.map pairD).mapM (toPy 66 S) = some (xs.map keySum)
  | [] => rfl
  | x :: r => by
    rw [List.map_cons, List.mapM_cons, toPy_pairs S r]
    show (do let y ← toPy 66 S (.tup [.int x.sum, tI x]); _) = _
    rw [toPy_pair]
    rfl
theorem alike_ints : ∀ xs ys : List Int, PySem.W.alikeAll (xs.map PyData.int) (ys.map PyData.int) = true
  | [], _ => by simp [PySem.W.alikeAll]
  | _ :: _, [] => by simp [PySem.W.alikeAll]
  | x :: r, y :: q => by simp only [List.map_cons, PySem.W.alikeAll, PySem.W.alike, alike_ints r q]; rfl
theorem alike_keys (xs ys : List Int) : PySem.W.alike (keySum xs) (keySum ys) = true := by
  simp only [keySum, PySem.W.alike, PySem.W.alikeAll, alike_ints]
  rfl
theorem depth_ints : ∀ xs : List Int, PyData.depthAll (xs.map PyData.int) = 0
  | [] => by simp [PyData.depthAll]
  | x :: r => by simp only [List.map_cons, PyData.depthAll, PyData.depth, depth_ints r]; rfl
theorem depth_key (xs : List Int) : (keySum xs).depth ≤ 60 := by
  simp only [keySum, PyData.depth, PyData.depthAll, depth_ints]
  decide
theorem sort_big (us : List Hs) : sortD ((us.map hl).map pairD) ((us.map hl).map keySum) = (us.mergeSort hle).map fun h => pairD (hl h) := by
  unfold sortD
  rw [List.map_map, List.map_map, List.zip_map', ← List.map_mergeSort (f := fun h => ((pairD ∘ hl) h, (keySum ∘ hl) h)) (r := hle) (fun a _ b _ => rfl), List.map_map]
  rfl
def pairF (d : D) : Option D := match d with
  | .tup xs => match allI xs with
    | some is => some (pairD is)
    | none => none
  | _ => none
theorem pairF_map (xs : List (List Int)) : (xs.map tI).filterMap pairF = xs.map pairD := by
  induction xs with
  | nil => rfl
  | cons x r ih => rw [List.map_cons, List.filterMap_cons, ih]; simp only [pairF, allI_map]; rfl
def sndF (d : D) : Option D := match d with
  | .tup [_, h] => some h
  | _ => none
theorem sndF_map (us : List Hs) : (us.map fun h => pairD (hl h)).filterMap sndF = us.map encH := by
  induction us with
  | nil => rfl
  | cons x r ih => rw [List.map_cons, List.filterMap_cons, ih]; rfl
theorem bigU_len : bigU.length = 625 := by decide +kernel
theorem ob__law_houses (n : Nat) (ds : List D) (S : Sto) (Q : KQ) (h : lv (n + 1) 1 spLHouses ds S Q) : wB (fsN n) ir__law_houses (defEnds Q) (startD C__law_houses.N ds) S := by
  obtain ⟨_, rfl, q⟩ := h
  simp only [DW.wG, DW.wGs, gsLen, List.set_cons_succ, List.set_cons_zero, wB, wS, DW.wT, DW.wTs, DW.wE, DW.wA, DW.wO, DW.wI, List.getElem?_cons_succ, List.getElem?_cons_zero, cmp_eq, cmp_ne, cmp_in, cmp_nin, inA_tup, inA_ktup, op_shl', op_shr', op_and', op_or', op_xor', is_bl, isn_bl, iter_ktup, cmp_lt, cmp_le, cmp_gt, cmp_ge, tru_non, tru_bl, tru_int, tru_tup, op_addi, op_subi, op_muli, op_divi, op_modi, op_powi, op_addt, op_rept, len_tup, len_rol, idx_tup, idx_rol, slc_tup, iter_tup, iter_rol, eqc_int, LIM, Nat.reduceLeDiff, dBlt, dInt1, defEnds, startD, List.map_cons, List.map_nil, List.length_cons, List.length_nil, List.replicate_succ, List.replicate_zero, List.cons_append, List.nil_append, Nat.reduceAdd, Nat.reduceSub, isRef, Nat.zero_add, and_true, true_and, if_true, Bool.false_eq_true, if_false, ir__law_houses]
  have e0 := Ext.app S [Ob.lst [D.tup []]]
  refine ⟨⟨by decide, by decide⟩, ?_⟩
  refine houses_l1 (n := n) (intsFrom 0 (4 : Int).toNat) 0 [[]] S.length none none none _ rfl rfl (sto_last S _) fun S1 r x2' x3' x4' e1 h1 => ?_
  simp only [DW.wG, DW.wGs, gsLen, List.set_cons_succ, List.set_cons_zero, wB, wS, DW.wT, DW.wTs, DW.wE, DW.wA, DW.wO, DW.wI, List.getElem?_cons_succ, List.getElem?_cons_zero, cmp_eq, cmp_ne, cmp_in, cmp_nin, inA_tup, inA_ktup, op_shl', op_shr', op_and', op_or', op_xor', is_bl, isn_bl, iter_ktup, cmp_lt, cmp_le, cmp_gt, cmp_ge, tru_non, tru_bl, tru_int, tru_tup, op_addi, op_subi, op_muli, op_divi, op_modi, op_powi, op_addt, op_rept, len_tup, len_rol, idx_tup, idx_rol, slc_tup, iter_tup, iter_rol, eqc_int, LIM, Nat.reduceLeDiff, dBlt, dInt1, defEnds, startD, List.map_cons, List.map_nil, List.length_cons, List.length_nil, List.replicate_succ, List.replicate_zero, List.cons_append, List.nil_append, Nat.reduceAdd, Nat.reduceSub, isRef, Nat.zero_add, and_true, true_and, if_true, Bool.false_eq_true, if_false]
  unfold ir__law_houses_l1 ir__law_houses_l0
  rw [grown] at h1
  simp only [DW.wE, DW.wI, List.getElem?_cons_succ, List.getElem?_cons_zero]
  rw [iter_ref h1]
  refine cLoop_ext pairF (by simp only [LIM, List.length_map, bigU_len]; omega) (fun S' e => e _ _ h1) (fun d hd2 S2 ky kn e2 k => ?_) fun S2 e2 h2 => ?_
  · obtain ⟨x, hx, rfl⟩ := List.mem_map.mp hd2
    have k2 := k S2 (Ext.refl S2)
    simp only [pairF, allI_map] at k2
    simp only [DW.wG, DW.wGs, gsLen, List.set_cons_succ, List.set_cons_zero, wB, wS, DW.wT, DW.wTs, DW.wE, DW.wA, DW.wO, DW.wI, List.getElem?_cons_succ, List.getElem?_cons_zero, cmp_eq, cmp_ne, cmp_in, cmp_nin, inA_tup, inA_ktup, op_shl', op_shr', op_and', op_or', op_xor', is_bl, isn_bl, iter_ktup, cmp_lt, cmp_le, cmp_gt, cmp_ge, tru_non, tru_bl, tru_int, tru_tup, op_addi, op_subi, op_muli, op_divi, op_modi, op_powi, op_addt, op_rept, len_tup, len_rol, idx_tup, idx_rol, slc_tup, iter_tup, iter_rol, eqc_int, LIM, Nat.reduceLeDiff, dBlt, dInt1, defEnds, startD, List.map_cons, List.map_nil, List.length_cons, List.length_nil, List.replicate_succ, List.replicate_zero, List.cons_append, List.nil_append, Nat.reduceAdd, Nat.reduceSub, isRef, Nat.zero_add, and_true, true_and, if_true, Bool.false_eq_true, if_false, DW.wTs, wipeD, dInts, allI_map]
    exact k2
  · rw [pairF_map] at h2
    simp only [DW.wG, DW.wGs, gsLen, List.set_cons_succ, List.set_cons_zero, wB, wS, DW.wT, DW.wTs, DW.wE, DW.wA, DW.wO, DW.wI, List.getElem?_cons_succ, List.getElem?_cons_zero, cmp_eq, cmp_ne, cmp_in, cmp_nin, inA_tup, inA_ktup, op_shl', op_shr', op_and', op_or', op_xor', is_bl, isn_bl, iter_ktup, cmp_lt, cmp_le, cmp_gt, cmp_ge, tru_non, tru_bl, tru_int, tru_tup, op_addi, op_subi, op_muli, op_divi, op_modi, op_powi, op_addt, op_rept, len_tup, len_rol, idx_tup, idx_rol, slc_tup, iter_tup, iter_rol, eqc_int, LIM, Nat.reduceLeDiff, dBlt, dInt1, defEnds, startD, List.map_cons, List.map_nil, List.length_cons, List.length_nil, List.replicate_succ, List.replicate_zero, List.cons_append, List.nil_append, Nat.reduceAdd, Nat.reduceSub, isRef, Nat.zero_add, and_true, true_and, if_true, Bool.false_eq_true, if_false, dSort, h2]
    refine ⟨_, toPy_pairs S2 _, ?_, ?_, by simp only [LIM, List.length_map, bigU_len]; omega, ?_, ?_⟩
    · intro a ha b hb
      obtain ⟨x, _, rfl⟩ := List.mem_map.mp ha
      obtain ⟨y, _, rfl⟩ := List.mem_map.mp hb
      exact alike_keys x y
    · left
      intro a ha
      obtain ⟨x, _, rfl⟩ := List.mem_map.mp ha
      exact ⟨_, _, rfl⟩
    · intro a ha
      obtain ⟨x, _, rfl⟩ := List.mem_map.mp ha
      exact depth_key x
    · rw [sort_big, show bigU.mergeSort hle = bigH from rfl]
      have e3 := Ext.app S2 [Ob.lst (bigH.map fun h => pairD (hl h))]
      have h3 := sto_last S2 (Ob.lst (bigH.map fun h => pairD (hl h)))
      show dIter (.ref S2.length) _ _
      rw [iter_ref h3]
      refine cLoop_ext sndF (by simp only [LIM, List.length_map, bigH, List.length_mergeSort, bigU_len]; omega) (fun S' e => e _ _ h3) (fun d hd2 S4 ky kn e4 k => ?_) fun S4 e4 h4 => ?_
      · obtain ⟨x, hx, rfl⟩ := List.mem_map.mp hd2
        have k2 := k S4 (Ext.refl S4)
        simp only [pairD, sndF] at k2
        simp only [DW.wG, DW.wGs, gsLen, List.set_cons_succ, List.set_cons_zero, wB, wS, DW.wT, DW.wTs, DW.wE, DW.wA, DW.wO, DW.wI, List.getElem?_cons_succ, List.getElem?_cons_zero, cmp_eq, cmp_ne, cmp_in, cmp_nin, inA_tup, inA_ktup, op_shl', op_shr', op_and', op_or', op_xor', is_bl, isn_bl, iter_ktup, cmp_lt, cmp_le, cmp_gt, cmp_ge, tru_non, tru_bl, tru_int, tru_tup, op_addi, op_subi, op_muli, op_divi, op_modi, op_powi, op_addt, op_rept, len_tup, len_rol, idx_tup, idx_rol, slc_tup, iter_tup, iter_rol, eqc_int, LIM, Nat.reduceLeDiff, dBlt, dInt1, defEnds, startD, List.map_cons, List.map_nil, List.length_cons, List.length_nil, List.replicate_succ, List.replicate_zero, List.cons_append, List.nil_append, Nat.reduceAdd, Nat.reduceSub, isRef, Nat.zero_add, and_true, true_and, if_true, Bool.false_eq_true, if_false, DW.wTs, wipeD, pairD]
        exact k2
      · rw [sndF_map] at h4
        exact q _ _ ((e0.trans e1).trans (e2.trans (e3.trans e4))) (by have := ((e0.trans e1).trans (e2.trans e3)).len; exact this) h4
end K03

set_option Elab.async false
set_option linter.all false
set_option maxRecDepth 100000
set_option maxHeartbeats 1000000

namespace K03
open PySem PySem.Spec PyProof.Rows L2 DW

def okI (d : D) : Prop := ∃ i : Int, d = .int i ∧ 0 ≤ i ∧ i ≤ big
theorem items_ref {S : Sto} {n : Nat} {xs : List D} (h : S[n]? = some (.lst xs)) : items S (.ref n) = some xs := by
  simp only [items, h]
theorem big_list {xs : List D} (r : Int) (h0 : 0 ≤ r) (h1 : r < 9) (hx : xs = [D.int 0, D.int 0, D.int 1, D.int 2, D.int 3, D.int 4, D.int 5, D.int (big - r)]) : ∀ x ∈ xs, okI x := by
  subst hx
  intro x hx
  simp only [List.mem_cons, List.not_mem_nil, or_false] at hx
  have hb : big = 1000000000000000000000000000000 := rfl
  rcases hx with rfl | rfl | rfl | rfl | rfl | rfl | rfl | rfl
  · exact ⟨_, rfl, by decide, by decide⟩
  · exact ⟨_, rfl, by decide, by decide⟩
  · exact ⟨_, rfl, by decide, by decide⟩
  · exact ⟨_, rfl, by decide, by decide⟩
  · exact ⟨_, rfl, by decide, by decide⟩
  · exact ⟨_, rfl, by decide, by decide⟩
  · exact ⟨_, rfl, by decide, by decide⟩
  · exact ⟨_, rfl, by omega, by omega⟩
theorem four_ok : ∀ {acc : List D}, acc.length = 4 → (∀ x ∈ acc, okI x) → ∃ h, D.tup acc = encH h ∧ okH h
  | [x, y, z, w], _, h => by
    obtain ⟨i, rfl, i1⟩ := h x (by simp)
    obtain ⟨j, rfl, j1⟩ := h y (by simp)
    obtain ⟨k, rfl, k1⟩ := h z (by simp)
    obtain ⟨l, rfl, l1⟩ := h w (by simp)
    exact ⟨⟨i, j, k, l⟩, rfl, i1, j1, k1, l1⟩
/-- one drawn house -/
theorem right_b0 {n : Nat} {E : DEnds} {m : Nat} {f : Fm} {x2 x3 x4 x5 x6 x7 x8 x9 x10 : Option D} {S : Sto} (hn : 22 ≤ n) (ho : okF f) (hd : dep f ≤ 4) (hs : Src S m)
    (fin : ∀ S' x7' x8' x9', ExtB m S S' → Src S' m → E.nx [some (.ref m), some (encF f), x2, x3, x4, x5, x6, x7', x8', x9', x10] S') :
    wB (fsN n) ir__law_right_b0 E [some (.ref m), some (encF f), x2, x3, x4, x5, x6, x7, x8, x9, x10] S := by
  simp only [DW.wG, DW.wGs, gsLen, List.set_cons_succ, List.set_cons_zero, wB, wS, DW.wT, DW.wTs, DW.wE, DW.wA, DW.wO, DW.wI, List.getElem?_cons_succ, List.getElem?_cons_zero, cmp_eq, cmp_ne, cmp_in, cmp_nin, inA_tup, inA_ktup, op_shl', op_shr', op_and', op_or', op_xor', is_bl, isn_bl, iter_ktup, cmp_lt, cmp_le, cmp_gt, cmp_ge, tru_non, tru_bl, tru_int, tru_tup, op_addi, op_subi, op_muli, op_divi, op_modi, op_powi, op_addt, op_rept, len_tup, len_rol, idx_tup, idx_rol, slc_tup, iter_tup, iter_rol, eqc_int, LIM, Nat.reduceLeDiff, dBlt, dInt1, defEnds, startD, List.map_cons, List.map_nil, List.length_cons, List.length_nil, List.replicate_succ, List.replicate_zero, List.cons_append, List.nil_append, Nat.reduceAdd, Nat.reduceSub, isRef, Nat.zero_add, and_true, true_and, if_true, Bool.false_eq_true, if_false, ir__law_right_b0, f22, f18, f24]
  refine ⟨⟨by decide, by decide, by decide⟩, by omega, m, 9, rfl, hs, by decide, by decide, fun S1 r e1 s1 r0 r1 => ?_⟩
  simp only [op_subi]
  unfold ir__law_right_l0
  rw [show (10 : Int) ^ Int.toNat 30 = big by decide +kernel]
  have hall := big_list r r0 r1 rfl
  have hlen : [D.int 0, D.int 0, D.int 1, D.int 2, D.int 3, D.int 4, D.int 5, D.int (big - r)].length = 8 := rfl
  generalize [D.int 0, D.int 0, D.int 1, D.int 2, D.int 3, D.int 4, D.int 5, D.int (big - r)] = xs at hall hlen
  have e2 := Ext.app S1 [Ob.lst xs]
  have h2 := sto_last S1 (Ob.lst xs)
  have s2 := s1.ext e2
  have hne : S1.length ≠ m := s1.ne
  have E2 := e1.trans (e2.b m)
  generalize S1 ++ [Ob.lst xs] = S2 at e2 h2 s2 E2
  generalize S1.length = k at h2 hne
  simp only [DW.wE, DW.wI, f23]
  refine ⟨by decide, ?_⟩
  have hc : S2.length ≠ m := s2.ne
  refine cLoop_gen (n := S2.length) (J := fun r acc S' => ExtB m S2 S' ∧ Src S' m ∧ S'[S2.length]? = some (.lst acc) ∧ acc.length + r.length = 4 ∧ ∀ x ∈ acc, okI x) (fun _ _ _ _ => trivial) ?_ ?_ _ [] _ ⟨ExtB.app m S2 _, s2.ext (Ext.app S2 _), sto_last S2 _, rfl, fun x h => by cases h⟩
  · rintro d r acc S3 ky kn ⟨E3, s3, h3, l3, o3⟩ hy hn
    simp only [DW.wG, DW.wGs, gsLen, List.set_cons_succ, List.set_cons_zero, wB, wS, DW.wT, DW.wTs, DW.wE, DW.wA, DW.wO, DW.wI, List.getElem?_cons_succ, List.getElem?_cons_zero, cmp_eq, cmp_ne, cmp_in, cmp_nin, inA_tup, inA_ktup, op_shl', op_shr', op_and', op_or', op_xor', is_bl, isn_bl, iter_ktup, cmp_lt, cmp_le, cmp_gt, cmp_ge, tru_non, tru_bl, tru_int, tru_tup, op_addi, op_subi, op_muli, op_divi, op_modi, op_powi, op_addt, op_rept, len_tup, len_rol, idx_tup, idx_rol, slc_tup, iter_tup, iter_rol, eqc_int, LIM, Nat.reduceLeDiff, dBlt, dInt1, defEnds, startD, List.map_cons, List.map_nil, List.length_cons, List.length_nil, List.replicate_succ, List.replicate_zero, List.cons_append, List.nil_append, Nat.reduceAdd, Nat.reduceSub, isRef, Nat.zero_add, and_true, true_and, if_true, Bool.false_eq_true, if_false, DW.wTs, wipeD, f23]
    refine ⟨by omega, m, k, xs, rfl, s3, hne, E3.2 _ _ hne h2, by omega, by omega, fun S4 x e4 s4 hx => ?_⟩
    have h4 := e4.2 _ _ hc h3
    rw [List.length_cons] at l3
    refine hy x S4 h4 (by simp only [LIM]; omega) ⟨(E3.trans e4).set' (Nat.le_refl _) _, ?_, sto_set h4, by rw [List.length_append, List.length_singleton]; omega, ?_⟩
    · obtain ⟨a, b, z, w⟩ := s4
      exact ⟨a, b, by rw [List.getElem?_set_ne hc]; exact z, w⟩
    · intro y hy
      rcases List.mem_append.mp hy with q | q
      · exact o3 y q
      · rw [List.mem_singleton.mp q]; exact hall x hx
  · rintro acc S3 ⟨E3, s3, h3, l3, o3⟩
    obtain ⟨h, eh, oh⟩ := four_ok l3 o3
    simp only [DW.wG, DW.wGs, gsLen, List.set_cons_succ, List.set_cons_zero, wB, wS, DW.wT, DW.wTs, DW.wE, DW.wA, DW.wO, DW.wI, List.getElem?_cons_succ, List.getElem?_cons_zero, cmp_eq, cmp_ne, cmp_in, cmp_nin, inA_tup, inA_ktup, op_shl', op_shr', op_and', op_or', op_xor', is_bl, isn_bl, iter_ktup, cmp_lt, cmp_le, cmp_gt, cmp_ge, tru_non, tru_bl, tru_int, tru_tup, op_addi, op_subi, op_muli, op_divi, op_modi, op_powi, op_addt, op_rept, len_tup, len_rol, idx_tup, idx_rol, slc_tup, iter_tup, iter_rol, eqc_int, LIM, Nat.reduceLeDiff, dBlt, dInt1, defEnds, startD, List.map_cons, List.map_nil, List.length_cons, List.length_nil, List.replicate_succ, List.replicate_zero, List.cons_append, List.nil_append, Nat.reduceAdd, Nat.reduceSub, isRef, Nat.zero_add, and_true, true_and, if_true, Bool.false_eq_true, if_false, dItems, items_ref h3, eh]
    refine ⟨by omega, f, h, rfl, ho, by omega, oh, fun S4 e4 => ?_⟩
    refine ⟨f, h, rfl, by omega, ho, oh.2.2.2.1, fun S5 e5 => ?_⟩
    dsimp only
    rw [dEq_iff (fit_bl S5 _) (wk_bl _), eqc_bl]
    simp only [BEq.rfl, Bool.not_true, Bool.false_eq_true, if_false]
    rw [isi_fit (fit_bl S5 _) (kit_bool _ (fun n h => by cases h))]
    simp only [isBl, tru_bl, Bool.not_true, Bool.false_eq_true, if_false]
    exact fin S5 _ _ _ ((E2.trans E3).trans ((e4.trans e5).b m)) (s3.ext (e4.trans e5))
theorem right_l0 {n : Nat} {E : DEnds} {m : Nat} {f : Fm} {x2 x3 x4 x5 x10 : Option D} (hn : 22 ≤ n) (ho : okF f) (hd : dep f ≤ 4) : ∀ (is : List D) (x6 x7 x8 x9 : Option D) (S : Sto), Src S m →
    (∀ S' x6' x7' x8' x9', ExtB m S S' → Src S' m → E.nx [some (.ref m), some (encF f), x2, x3, x4, x5, x6', x7', x8', x9', x10] S') →
    fLoop (fun _ => True) (fun d ρ' S' k => DW.wG (fsN n) (.name 6) d ρ' S' k) (fun E' ρ' S' => wB (fsN n) ir__law_right_b0 E' ρ' S') E is [some (.ref m), some (encF f), x2, x3, x4, x5, x6, x7, x8, x9, x10] S
  | [], x6, x7, x8, x9, S, hs, fin => ⟨trivial, fin S x6 x7 x8 x9 (ExtB.refl m S) hs⟩
  | d :: r, x6, x7, x8, x9, S, hs, fin => by
    refine ⟨trivial, ?_⟩
    show wB (fsN n) ir__law_right_b0 _ [some (.ref m), some (encF f), x2, x3, x4, x5, some d, x7, x8, x9, x10] S
    refine right_b0 hn ho hd hs fun S1 x7' x8' x9' e1 s1 => ?_
    exact right_l0 hn ho hd r _ _ _ _ S1 s1 fun S2 y6 y7 y8 y9 e2 s2 => fin S2 y6 y7 y8 y9 (e1.trans e2) s2
theorem first_wk (p : Hs → Bool) : wk (firstD (smallH.find? p)) = true ∧ ∀ S, Fit S (firstD (smallH.find? p)) := by
  cases smallH.find? p with
  | none => exact ⟨rfl, fun S => ⟨1, 1, by omega, rfl⟩⟩
  | some h => exact ⟨rfl, fun S => encH_fit S h⟩
theorem eqc_first (p : Hs → Bool) : eqc (firstD (smallH.find? p)) (firstD (smallH.find? p)) = true := by
  cases smallH.find? p with
  | none => rfl
  | some h => simp only [firstD, encH, eqc, eqcs, BEq.rfl, Bool.and_true]
theorem ev_z' (f : Fm) (t : Bool) (h : Hs) : (ev { h with z := 0 } f == t) = (ev h f == t) := by rw [ev_z]
/-- one truth's first house -/
theorem right_b1 {n : Nat} {E : DEnds} {m k t : Nat} {f : Fm} {b : Bool} {x4 x6 x7 x8 x9 x10 : Option D} {S : Sto} (hn : 22 ≤ n) (ho : okF f) (hd : dep f ≤ 4) (hk : S[k]? = some (.lst (bigH.map encH))) (ht : S[t]? = some (.lst (bigH.map fun h => .bl (ev h f))))
    (fin : ∀ S', Ext S S' → E.nx [some (.ref m), some (encF f), some (.ref k), some (.ref t), x4, some (.bl b), x6, x7, x8, x9, x10] S') :
    wB (fsN n) ir__law_right_b1 E [some (.ref m), some (encF f), some (.ref k), some (.ref t), x4, some (.bl b), x6, x7, x8, x9, x10] S := by
  simp only [DW.wG, DW.wGs, gsLen, List.set_cons_succ, List.set_cons_zero, wB, wS, DW.wT, DW.wTs, DW.wE, DW.wA, DW.wO, DW.wI, List.getElem?_cons_succ, List.getElem?_cons_zero, cmp_eq, cmp_ne, cmp_in, cmp_nin, inA_tup, inA_ktup, op_shl', op_shr', op_and', op_or', op_xor', is_bl, isn_bl, iter_ktup, cmp_lt, cmp_le, cmp_gt, cmp_ge, tru_non, tru_bl, tru_int, tru_tup, op_addi, op_subi, op_muli, op_divi, op_modi, op_powi, op_addt, op_rept, len_tup, len_rol, idx_tup, idx_rol, slc_tup, iter_tup, iter_rol, eqc_int, LIM, Nat.reduceLeDiff, dBlt, dInt1, defEnds, startD, List.map_cons, List.map_nil, List.length_cons, List.length_nil, List.replicate_succ, List.replicate_zero, List.cons_append, List.nil_append, Nat.reduceAdd, Nat.reduceSub, isRef, Nat.zero_add, and_true, true_and, if_true, Bool.false_eq_true, if_false, ir__law_right_b1, f20, f28]
  refine ⟨by omega, f, b, rfl, ho, by omega, fun S1 e1 => ?_⟩
  refine ⟨by omega, k, t, f, bigH, b, rfl, e1 _ _ hk, e1 _ _ ht, by rw [big_len]; decide, ?_⟩
  rw [find_same _ (ev_z' f b)]
  dsimp only
  rw [dEq_iff ((first_wk _).2 S1) (first_wk _).1, eqc_first]
  simp only [Bool.not_true, Bool.false_eq_true, if_false]
  exact fin S1 e1
theorem wk_alw : wk (.str "always") = true := by decide +kernel
theorem wk_smt : wk (.str "sometimes") = true := by decide +kernel
theorem wk_nev : wk (.str "never") = true := by decide +kernel
theorem eq_alw : eqc (.str "always") (.str "always") = true := by decide +kernel
theorem eq_smt : eqc (.str "sometimes") (.str "sometimes") = true := by decide +kernel
theorem eq_nev : eqc (.str "never") (.str "never") = true := by decide +kernel
theorem map_bls (f : Fm) : (bigH.map fun h => D.bl (ev h f)) = (bigH.map fun h => ev h f).map D.bl := by rw [List.map_map]; rfl
theorem not_false_in (f : Fm) : (!((bigH.map fun h => ev h f).any fun z => false == z)) = smallH.all fun h => ev h f := by
  rw [List.any_map]
  have := any_same (fun h => !ev h f) (fun h => by rw [ev_z])
  have e : ((fun z => false == z) ∘ fun h => ev h f) = fun h => !ev h f := by
    funext h
    show (false == ev h f) = !ev h f
    cases ev h f <;> rfl
  rw [e, this, List.not_any_eq_all_not]
  simp only [Bool.not_not]
theorem true_in (f : Fm) : ((bigH.map fun h => ev h f).any fun z => true == z) = smallH.any fun h => ev h f := by
  rw [List.any_map]
  have := any_same (fun h => ev h f) (fun h => by rw [ev_z])
  have e : ((fun z => true == z) ∘ fun h => ev h f) = fun h => ev h f := by
    funext h
    show (true == ev h f) = ev h f
    cases ev h f <;> rfl
  rw [e, this]
theorem big_nn : ∀ h ∈ bigH, 0 ≤ h.c := fun h hh => cnt_nn ((mem_big h).mp hh).2.2.2
theorem how_wk (f : Fm) : wk (howD f) = true := by
  unfold howD
  split
  · exact wk_alw
  · split
    · exact wk_smt
    · exact wk_nev
theorem how_eq (f : Fm) : eqc (howD f) (howD f) = true := by
  unfold howD
  split
  · exact eq_alw
  · split
    · exact eq_smt
    · exact eq_nev
theorem ob__law_right (n : Nat) (ds : List D) (S : Sto) (Q : KQ) (h : lv (n + 1) 23 spLRight ds S Q) : wB (fsN n) ir__law_right (defEnds Q) (startD C__law_right.N ds) S := by
  obtain ⟨hl, m, k, f, rfl, hs, hne, ho, hd, hk, q⟩ := h
  simp only [DW.wG, DW.wGs, gsLen, List.set_cons_succ, List.set_cons_zero, wB, wS, DW.wT, DW.wTs, DW.wE, DW.wA, DW.wO, DW.wI, List.getElem?_cons_succ, List.getElem?_cons_zero, cmp_eq, cmp_ne, cmp_in, cmp_nin, inA_tup, inA_ktup, op_shl', op_shr', op_and', op_or', op_xor', is_bl, isn_bl, iter_ktup, cmp_lt, cmp_le, cmp_gt, cmp_ge, tru_non, tru_bl, tru_int, tru_tup, op_addi, op_subi, op_muli, op_divi, op_modi, op_powi, op_addt, op_rept, len_tup, len_rol, idx_tup, idx_rol, slc_tup, iter_tup, iter_rol, eqc_int, LIM, Nat.reduceLeDiff, dBlt, dInt1, defEnds, startD, List.map_cons, List.map_nil, List.length_cons, List.length_nil, List.replicate_succ, List.replicate_zero, List.cons_append, List.nil_append, Nat.reduceAdd, Nat.reduceSub, isRef, Nat.zero_add, and_true, true_and, if_true, Bool.false_eq_true, if_false, ir__law_right, f26]
  refine ⟨by omega, f, k, bigH, rfl, ho, by omega, hk, by rw [big_len]; decide, big_nn, fun S1 t e1 l1 h1 => ?_⟩
  have hb := h1
  rw [map_bls] at hb
  dsimp only
  have s1 := hs.ext e1
  have hk1 := e1 _ _ hk
  -- behind the word
  have fin : wB (fsN n) (.cons (.ifs (.cmp .NotEq (.fn 19 (.cons (.var 1) .nil)) (.var 4)) (.cons (.ret (.cst (D.bl false))) .nil) .nil) (.cons (.fr (.name 5) (.val (.lst (.cons (.cst (D.bl true)) (.cons (.cst (D.bl false)) .nil)))) ir__law_right_b1) (.cons (.fr (.name 6) (.rng1 (.cst (D.int 8))) ir__law_right_b0) (.cons (.ret (.cst (D.bl true))) .nil)))) (defEnds Q) [some (.ref m), some (encF f), some (.ref k), some (.ref t), some (howD f), none, none, none, none, none, none] S1 := by
    simp only [DW.wG, DW.wGs, gsLen, List.set_cons_succ, List.set_cons_zero, wB, wS, DW.wT, DW.wTs, DW.wE, DW.wA, DW.wO, DW.wI, List.getElem?_cons_succ, List.getElem?_cons_zero, cmp_eq, cmp_ne, cmp_in, cmp_nin, inA_tup, inA_ktup, op_shl', op_shr', op_and', op_or', op_xor', is_bl, isn_bl, iter_ktup, cmp_lt, cmp_le, cmp_gt, cmp_ge, tru_non, tru_bl, tru_int, tru_tup, op_addi, op_subi, op_muli, op_divi, op_modi, op_powi, op_addt, op_rept, len_tup, len_rol, idx_tup, idx_rol, slc_tup, iter_tup, iter_rol, eqc_int, LIM, Nat.reduceLeDiff, dBlt, dInt1, defEnds, startD, List.map_cons, List.map_nil, List.length_cons, List.length_nil, List.replicate_succ, List.replicate_zero, List.cons_append, List.nil_append, Nat.reduceAdd, Nat.reduceSub, isRef, Nat.zero_add, and_true, true_and, if_true, Bool.false_eq_true, if_false, f19]
    refine ⟨by omega, f, rfl, ho, by omega, fun S2 e2 => ?_⟩
    dsimp only
    rw [dEq_iff (wk_fit (how_wk f)) (how_wk f), how_eq]
    simp only [Bool.not_true, Bool.false_eq_true, if_false]
    have e3 := Ext.app S2 [Ob.lst [D.bl true, D.bl false]]
    have h3 := sto_last S2 (Ob.lst [D.bl true, D.bl false])
    generalize S2 ++ [Ob.lst [D.bl true, D.bl false]] = S3 at e3 h3
    generalize S2.length = c at h3
    rw [iter_ref h3]
    have E3 := e2.trans e3
    refine ⟨h3, ?_⟩
    show wB (fsN n) ir__law_right_b1 _ [some (.ref m), some (encF f), some (.ref k), some (.ref t), some (howD f), some (.bl true), none, none, none, none, none] S3
    refine right_b1 (by omega) ho hd (E3 _ _ hk1) (E3 _ _ h1) fun S4 e4 => ?_
    refine ⟨e4 _ _ h3, ?_⟩
    show wB (fsN n) ir__law_right_b1 _ [some (.ref m), some (encF f), some (.ref k), some (.ref t), some (howD f), some (.bl false), none, none, none, none, none] S4
    refine right_b1 (by omega) ho hd ((E3.trans e4) _ _ hk1) ((E3.trans e4) _ _ h1) fun S5 e5 => ?_
    refine ⟨(e4.trans e5) _ _ h3, ⟨by decide, by decide⟩, ?_⟩
    have E5 := E3.trans (e4.trans e5)
    refine right_l0 (n := n) (by omega) ho hd _ none none none none S5 (s1.ext E5) fun S6 x6 x7 x8 x9 e6 s6 => ?_
    exact q S6 (((e1.trans E5).b m).trans e6) s6
  unfold howD at fin
  simp only [DW.wG, DW.wGs, gsLen, List.set_cons_succ, List.set_cons_zero, wB, wS, DW.wT, DW.wTs, DW.wE, DW.wA, DW.wO, DW.wI, List.getElem?_cons_succ, List.getElem?_cons_zero, cmp_eq, cmp_ne, cmp_in, cmp_nin, inA_tup, inA_ktup, op_shl', op_shr', op_and', op_or', op_xor', is_bl, isn_bl, iter_ktup, cmp_lt, cmp_le, cmp_gt, cmp_ge, tru_non, tru_bl, tru_int, tru_tup, op_addi, op_subi, op_muli, op_divi, op_modi, op_powi, op_addt, op_rept, len_tup, len_rol, idx_tup, idx_rol, slc_tup, iter_tup, iter_rol, eqc_int, LIM, Nat.reduceLeDiff, dBlt, dInt1, defEnds, startD, List.map_cons, List.map_nil, List.length_cons, List.length_nil, List.replicate_succ, List.replicate_zero, List.cons_append, List.nil_append, Nat.reduceAdd, Nat.reduceSub, isRef, Nat.zero_add, and_true, true_and, if_true, Bool.false_eq_true, if_false] at fin
  refine in_bls hb (by rw [List.length_map, big_len]; decide) ?_
  rw [not_false_in]
  rcases bb (smallH.all fun h => ev h f) with z | z
  · simp only [z, if_true] at fin ⊢
    exact fin
  · simp only [z, Bool.false_eq_true, if_false] at fin ⊢
    refine in_bls hb (by rw [List.length_map, big_len]; decide) ?_
    rw [true_in]
    rcases bb (smallH.any fun h => ev h f) with y | y
    · simp only [y, if_true] at fin ⊢
      exact fin
    · simp only [y, Bool.false_eq_true, if_false] at fin ⊢
      exact fin
end K03

set_option Elab.async false
set_option linter.all false
set_option maxRecDepth 100000
set_option maxHeartbeats 1000000

namespace K03
open PySem PySem.Spec PyProof.Rows L2 DW

theorem fs_loop {S : Sto} {chk : Sto → Prop} {turn : D → Sto → (D → Sto → Prop) → (Sto → Prop) → Prop} {k : Sto → Prop} (fs : List Fm) (g : Fm → D) (hl : fs.length < LIM) (hchk : ∀ S', Ext S S' → chk S')
    (hturn : ∀ f ∈ fs, ∀ S1 ky kn, Ext S S1 → (∀ S2, Ext S1 S2 → ky (g f) S2) → turn (encF f) S1 ky kn)
    (hk : ∀ S', Ext S S' → S'[S.length]? = some (.lst (fs.map g)) → k S') : cLoop S.length chk turn k (fs.map encF) (S ++ [.lst []]) := by
  refine cLoop_gen (J := fun r acc S' => ∃ done rest, fs = done ++ rest ∧ r = rest.map encF ∧ acc = done.map g ∧ Ext S S' ∧ S'[S.length]? = some (.lst acc)) ?_ ?_ ?_ _ [] _ ⟨[], fs, rfl, rfl, rfl, Ext.app S _, sto_last S _⟩
  · rintro r acc S' ⟨_, _, _, _, _, e, _⟩
    exact hchk S' e
  · rintro d r acc S1 ky kn ⟨done, rest, e1, e2, e3, e4, e5⟩ h1 h2
    cases rest with
    | nil => cases e2
    | cons f rest =>
      rw [List.map_cons] at e2
      injection e2 with e2 e2'
      subst e2
      refine hturn f (by rw [e1]; simp) S1 ky kn e4 fun S2 e6 => ?_
      have : acc.length < LIM := by
        rw [e3, List.length_map]
        have : fs.length = done.length + (rest.length + 1) := by rw [e1]; simp
        omega
      exact h1 _ S2 (e6 _ _ e5) this ⟨done ++ [f], rest, by rw [e1]; simp, e2', by rw [e3]; simp, (e4.trans e6).set (Nat.le_refl _) _, sto_set (e6 _ _ e5)⟩
  · rintro acc S' ⟨done, rest, e1, e2, e3, e4, e5⟩
    cases rest with
    | cons f r => cases e2
    | nil =>
      rw [List.append_nil] at e1
      subst e1
      subst e3
      exact hk S' e4 e5
theorem all_small (p : Hs → Bool) : smallH.all p = smallU.all p := by
  rw [Bool.eq_iff_iff, List.all_eq_true, List.all_eq_true]
  unfold smallH
  simp only [List.mem_mergeSort]
theorem any_small (p : Hs → Bool) : smallH.any p = smallU.any p := by
  rw [Bool.eq_iff_iff, List.any_eq_true, List.any_eq_true]
  unfold smallH
  simp only [List.mem_mergeSort]
def hleB (a b : Hs) : Bool := decide (hs4 a < hs4 b) || (decide (hs4 a = hs4 b) && decide (hl a ≤ hl b))
theorem find_at (p : Hs → Bool) (x : Hs) (h : (p x && (decide (x ∈ smallU) && smallU.all fun y => !p y || hleB x y)) = true) : smallH.find? p = some x := by
  rw [Bool.and_eq_true, Bool.and_eq_true, List.all_eq_true] at h
  obtain ⟨h1, h2, h3⟩ := h
  refine find_min small_sorted h1 ?_ fun y hy py => ?_
  · unfold smallH
    rw [List.mem_mergeSort]
    exact of_decide_eq_true h2
  · unfold smallH at hy
    rw [List.mem_mergeSort] at hy
    have := h3 y hy
    rw [py] at this
    simp only [Bool.not_true, Bool.false_or, hleB, Bool.or_eq_true, Bool.and_eq_true, decide_eq_true_iff] at this
    exact (hle_iff' x y).mpr this
abbrev F1 : Fm := .all true
abbrev F2 : Fm := .all false
abbrev R1 : List Fm := [.two 3 F1 F1, .two 3 F1 F2, .two 2 F1 F1, .two 0 (.non true) (.cnt true 1 2)]
abbrev R2 : List Fm := [.cnt false 2 0, .two 0 (.cnt true 1 1) (.non false), .two 3 F1 F2, .cnt true 3 2]
theorem how_R1 : R1.map howD = [.str "never", .str "sometimes", .str "always", .str "never"] := by
  simp only [List.map_cons, List.map_nil, howD, all_small, any_small]
  have a1 : (smallU.all fun h => ev h (.two 3 F1 F1)) = false := by decide +kernel
  have a2 : (smallU.any fun h => ev h (.two 3 F1 F1)) = false := by decide +kernel
  have a3 : (smallU.all fun h => ev h (.two 3 F1 F2)) = false := by decide +kernel
  have a4 : (smallU.any fun h => ev h (.two 3 F1 F2)) = true := by decide +kernel
  have a5 : (smallU.all fun h => ev h (.two 2 F1 F1)) = true := by decide +kernel
  have a6 : (smallU.all fun h => ev h (.two 0 (.non true) (.cnt true 1 2))) = false := by decide +kernel
  have a7 : (smallU.any fun h => ev h (.two 0 (.non true) (.cnt true 1 2))) = false := by decide +kernel
  simp only [a1, a2, a3, a4, a5, a6, a7, if_true, Bool.false_eq_true, if_false]
def fstT (t : Bool) (f : Fm) : D := firstD (smallH.find? fun h => ev h f == t)
theorem fst_R2 : R2.map (fstT true) = [encH ⟨0, 0, 0, 2⟩, encH ⟨0, 0, 1, 0⟩, encH ⟨0, 0, 1, 0⟩, encH ⟨0, 0, 0, 3⟩] := by
  simp only [List.map_cons, List.map_nil, fstT]
  rw [find_at _ ⟨0, 0, 0, 2⟩ (by decide +kernel), find_at (fun h => ev h (.two 0 (.cnt true 1 1) (.non false)) == true) ⟨0, 0, 1, 0⟩ (by decide +kernel), find_at (fun h => ev h (.two 3 F1 F2) == true) ⟨0, 0, 1, 0⟩ (by decide +kernel), find_at _ ⟨0, 0, 0, 3⟩ (by decide +kernel)]
  rfl
theorem fst_3 : fstT true (.two 1 (.cnt true 3 0) (.cnt false 1 1)) = encH ⟨0, 0, 0, 1⟩ := by
  unfold fstT
  rw [find_at _ ⟨0, 0, 0, 1⟩ (by decide +kernel)]
  rfl
theorem fst_4 : fstT true (.two 0 (.cnt true 2 0) (.cnt false 1 2)) = encH ⟨0, 1, 0, 1⟩ := by
  unfold fstT
  rw [find_at _ ⟨0, 1, 0, 1⟩ (by decide +kernel)]
  rfl
theorem fst_5 : fstT false F1 = encH ⟨0, 1, 0, 0⟩ := by
  unfold fstT
  rw [find_at _ ⟨0, 1, 0, 0⟩ (by decide +kernel)]
  rfl
theorem eq_strs {S : Sto} {m p : Nat} {B : KB} (hm : S[m]? = some (.lst [.str "never", .str "sometimes", .str "always", .str "never"])) (hp : S[p]? = some (.lst [.str "never", .str "sometimes", .str "always", .str "never"])) (q : B true S) : dEq (.ref m) (.ref p) S B := by
  refine ⟨.list [.str "never", .str "sometimes", .str "always", .str "never"], .list [.str "never", .str "sometimes", .str "always", .str "never"], ?_, ?_, by decide +kernel, by decide +kernel, ?_⟩
  · rw [toPy_ref 65 hm]; rfl
  · rw [toPy_ref 65 hp]; rfl
  · have : PyData.eqv (.list [.str "never", .str "sometimes", .str "always", .str "never"]) (.list [.str "never", .str "sometimes", .str "always", .str "never"]) = true := by decide +kernel
    rw [this]
    exact q
theorem eq_hs {S : Sto} {m p : Nat} {B : KB} (hm : S[m]? = some (.lst [encH ⟨0, 0, 0, 2⟩, encH ⟨0, 0, 1, 0⟩, encH ⟨0, 0, 1, 0⟩, encH ⟨0, 0, 0, 3⟩])) (hp : S[p]? = some (.lst [encH ⟨0, 0, 0, 2⟩, encH ⟨0, 0, 1, 0⟩, encH ⟨0, 0, 1, 0⟩, encH ⟨0, 0, 0, 3⟩])) (q : B true S) : dEq (.ref m) (.ref p) S B := by
  refine ⟨.list [.tuple [.int 0, .int 0, .int 0, .int 2], .tuple [.int 0, .int 0, .int 1, .int 0], .tuple [.int 0, .int 0, .int 1, .int 0], .tuple [.int 0, .int 0, .int 0, .int 3]], .list [.tuple [.int 0, .int 0, .int 0, .int 2], .tuple [.int 0, .int 0, .int 1, .int 0], .tuple [.int 0, .int 0, .int 1, .int 0], .tuple [.int 0, .int 0, .int 0, .int 3]], ?_, ?_, by decide +kernel, by decide +kernel, ?_⟩
  · rw [toPy_ref 65 hm]; rfl
  · rw [toPy_ref 65 hp]; rfl
  · have : PyData.eqv (.list [.tuple [.int 0, .int 0, .int 0, .int 2], .tuple [.int 0, .int 0, .int 1, .int 0], .tuple [.int 0, .int 0, .int 1, .int 0], .tuple [.int 0, .int 0, .int 0, .int 3]]) (.list [.tuple [.int 0, .int 0, .int 0, .int 2], .tuple [.int 0, .int 0, .int 1, .int 0], .tuple [.int 0, .int 0, .int 1, .int 0], .tuple [.int 0, .int 0, .int 0, .int 3]]) = true := by decide +kernel
    rw [this]
    exact q
end K03

set_option Elab.async false
set_option linter.all false
set_option maxRecDepth 100000
set_option maxHeartbeats 1000000

namespace K03
open PySem PySem.Spec PyProof.Rows L2 DW

theorem R1_ok : ∀ f ∈ R1, okF f ∧ dep f ≤ 10 := by
  intro f hf
  simp only [List.mem_cons, List.not_mem_nil, or_false] at hf
  rcases hf with rfl | rfl | rfl | rfl
  · exact ⟨⟨trivial, trivial⟩, by decide⟩
  · exact ⟨⟨trivial, trivial⟩, by decide⟩
  · exact ⟨⟨trivial, trivial⟩, by decide⟩
  · exact ⟨⟨trivial, by decide, by decide⟩, by decide⟩
theorem R2_ok : ∀ f ∈ R2, okF f ∧ dep f ≤ 10 := by
  intro f hf
  simp only [List.mem_cons, List.not_mem_nil, or_false] at hf
  rcases hf with rfl | rfl | rfl | rfl
  · exact ⟨⟨by decide, by decide⟩, by decide⟩
  · exact ⟨⟨⟨by decide, by decide⟩, trivial⟩, by decide⟩
  · exact ⟨⟨trivial, trivial⟩, by decide⟩
  · exact ⟨⟨by decide, by decide⟩, by decide⟩
theorem okH_1 : okH ⟨9, 1, 0, 1⟩ := by unfold okH; decide +kernel
theorem okH_2 : okH ⟨0, 0, 1, 1⟩ := by unfold okH; decide +kernel
theorem eqc_h (h : Hs) : eqc (encH h) (encH h) = true := by simp only [encH, eqc, eqcs, BEq.rfl, Bool.and_true]
theorem app_k {S : Sto} {n : Nat} {xs : List D} {a : D} {Q : KQ} (h : S[n]? = some (.lst xs)) (hl : xs.length < LIM) (k : ∀ S', S' = S.set n (.lst (xs ++ [a])) → Q .non S') : dApp (.ref n) a S Q := by
  rw [app_ref h]
  exact ⟨hl, k _ rfl⟩
theorem ob__law_written_right (n : Nat) (ds : List D) (S : Sto) (Q : KQ) (h : lv (n + 1) 23 spWritten ds S Q) : wB (fsN n) ir__law_written_right (defEnds Q) (startD C__law_written_right.N ds) S := by
  obtain ⟨hl, rfl, q⟩ := h
  simp only [DW.wG, DW.wGs, gsLen, List.set_cons_succ, List.set_cons_zero, wB, wS, DW.wT, DW.wTs, DW.wE, DW.wA, DW.wO, DW.wI, List.getElem?_cons_succ, List.getElem?_cons_zero, cmp_eq, cmp_ne, cmp_in, cmp_nin, inA_tup, inA_ktup, op_shl', op_shr', op_and', op_or', op_xor', is_bl, isn_bl, iter_ktup, cmp_lt, cmp_le, cmp_gt, cmp_ge, tru_non, tru_bl, tru_int, tru_tup, op_addi, op_subi, op_muli, op_divi, op_modi, op_powi, op_addt, op_rept, len_tup, len_rol, idx_tup, idx_rol, slc_tup, iter_tup, iter_rol, eqc_int, LIM, Nat.reduceLeDiff, dBlt, dInt1, defEnds, startD, List.map_cons, List.map_nil, List.length_cons, List.length_nil, List.replicate_succ, List.replicate_zero, List.cons_append, List.nil_append, Nat.reduceAdd, Nat.reduceSub, isRef, Nat.zero_add, and_true, true_and, if_true, Bool.false_eq_true, if_false, ir__law_written_right, f18, f20]
  refine ⟨by omega, .cnt false 2 0, ⟨9, 1, 0, 1⟩, rfl, ⟨by decide, by decide⟩, by decide, okH_1, fun S1 e1 => ?_⟩
  rw [show ev ⟨9, 1, 0, 1⟩ (.cnt false 2 0) = true by decide +kernel]
  simp only [DW.wG, DW.wGs, gsLen, List.set_cons_succ, List.set_cons_zero, wB, wS, DW.wT, DW.wTs, DW.wE, DW.wA, DW.wO, DW.wI, List.getElem?_cons_succ, List.getElem?_cons_zero, cmp_eq, cmp_ne, cmp_in, cmp_nin, inA_tup, inA_ktup, op_shl', op_shr', op_and', op_or', op_xor', is_bl, isn_bl, iter_ktup, cmp_lt, cmp_le, cmp_gt, cmp_ge, tru_non, tru_bl, tru_int, tru_tup, op_addi, op_subi, op_muli, op_divi, op_modi, op_powi, op_addt, op_rept, len_tup, len_rol, idx_tup, idx_rol, slc_tup, iter_tup, iter_rol, eqc_int, LIM, Nat.reduceLeDiff, dBlt, dInt1, defEnds, startD, List.map_cons, List.map_nil, List.length_cons, List.length_nil, List.replicate_succ, List.replicate_zero, List.cons_append, List.nil_append, Nat.reduceAdd, Nat.reduceSub, isRef, Nat.zero_add, and_true, true_and, if_true, Bool.false_eq_true, if_false, decide_true, Bool.not_true]
  refine ⟨by omega, .two 2 (.som true) (.all false), ⟨0, 0, 1, 1⟩, rfl, ⟨trivial, trivial⟩, by decide, okH_2, fun S2 e2 => ?_⟩
  rw [show ev ⟨0, 0, 1, 1⟩ (.two 2 (.som true) (.all false)) = false by decide +kernel]
  simp only [DW.wG, DW.wGs, gsLen, List.set_cons_succ, List.set_cons_zero, wB, wS, DW.wT, DW.wTs, DW.wE, DW.wA, DW.wO, DW.wI, List.getElem?_cons_succ, List.getElem?_cons_zero, cmp_eq, cmp_ne, cmp_in, cmp_nin, inA_tup, inA_ktup, op_shl', op_shr', op_and', op_or', op_xor', is_bl, isn_bl, iter_ktup, cmp_lt, cmp_le, cmp_gt, cmp_ge, tru_non, tru_bl, tru_int, tru_tup, op_addi, op_subi, op_muli, op_divi, op_modi, op_powi, op_addt, op_rept, len_tup, len_rol, idx_tup, idx_rol, slc_tup, iter_tup, iter_rol, eqc_int, LIM, Nat.reduceLeDiff, dBlt, dInt1, defEnds, startD, List.map_cons, List.map_nil, List.length_cons, List.length_nil, List.replicate_succ, List.replicate_zero, List.cons_append, List.nil_append, Nat.reduceAdd, Nat.reduceSub, isRef, Nat.zero_add, and_true, true_and, if_true, Bool.false_eq_true, if_false, decide_true, Bool.not_true]
  have E2 := e1.trans e2
  -- the rows of how
  rw [app_ref (sto_last S2 _), isl_ref (sto_last S2 _)]
  refine ⟨trivial, by decide, ?_⟩
  have e3 := (Ext.app S2 [Ob.lst [encF (.two 3 F1 F1), encF (.two 3 F1 F2), encF (.two 2 F1 F1)]]).set (n := S2.length) (Nat.le_refl _) (.lst (R1.map encF))
  have h3 := sto_set (u := .lst (R1.map encF)) (sto_last S2 (Ob.lst [encF (.two 3 F1 F1), encF (.two 3 F1 F2), encF (.two 2 F1 F1)]))
  unfold ir__law_written_right_l1 ir__law_written_right_l0
  show DW.wE _ _ _ ((S2 ++ [Ob.lst [encF (.two 3 F1 F1), encF (.two 3 F1 F2), encF (.two 2 F1 F1)]]).set S2.length (.lst (R1.map encF))) _
  generalize (S2 ++ [Ob.lst [encF (.two 3 F1 F1), encF (.two 3 F1 F2), encF (.two 2 F1 F1)]]).set S2.length (.lst (R1.map encF)) = S3 at e3 h3
  generalize S2.length = c1 at h3
  simp only [DW.wE, DW.wI, List.getElem?_cons_succ, List.getElem?_cons_zero]
  rw [iter_ref h3]
  refine fs_loop R1 howD (by decide) (fun S' e => e _ _ h3) (fun f hf S4 ky kn e4 k => ?_) fun S4 e4 h4 => ?_
  · simp only [DW.wG, DW.wGs, gsLen, List.set_cons_succ, List.set_cons_zero, wB, wS, DW.wT, DW.wTs, DW.wE, DW.wA, DW.wO, DW.wI, List.getElem?_cons_succ, List.getElem?_cons_zero, cmp_eq, cmp_ne, cmp_in, cmp_nin, inA_tup, inA_ktup, op_shl', op_shr', op_and', op_or', op_xor', is_bl, isn_bl, iter_ktup, cmp_lt, cmp_le, cmp_gt, cmp_ge, tru_non, tru_bl, tru_int, tru_tup, op_addi, op_subi, op_muli, op_divi, op_modi, op_powi, op_addt, op_rept, len_tup, len_rol, idx_tup, idx_rol, slc_tup, iter_tup, iter_rol, eqc_int, LIM, Nat.reduceLeDiff, dBlt, dInt1, defEnds, startD, List.map_cons, List.map_nil, List.length_cons, List.length_nil, List.replicate_succ, List.replicate_zero, List.cons_append, List.nil_append, Nat.reduceAdd, Nat.reduceSub, isRef, Nat.zero_add, and_true, true_and, if_true, Bool.false_eq_true, if_false, DW.wTs, wipeD, f19]
    exact ⟨by omega, f, rfl, (R1_ok f hf).1, (R1_ok f hf).2, fun S5 e5 => k S5 e5⟩
  rw [how_R1] at h4
  have e5 := Ext.app S4 [Ob.lst [.str "never", .str "sometimes", .str "always", .str "never"]]
  refine eq_strs (e5 _ _ h4) (sto_last S4 _) ?_
  simp only [Bool.not_true, Bool.false_eq_true, if_false]
  have E5 := E2.trans (e3.trans (e4.trans e5))
  generalize S4 ++ [Ob.lst [D.str (Str.ofString "never"), D.str (Str.ofString "sometimes"), D.str (Str.ofString "always"), D.str (Str.ofString "never")]] = S5 at E5
  rw [isl_ref (sto_last S5 _)]
  refine ⟨trivial, app_k (sto_last S5 _) (by decide) fun S6 hS => ?_⟩
  have e6 : Ext S5 S6 := by rw [hS]; exact (Ext.app S5 _).set (n := S5.length) (Nat.le_refl _) _
  have h6 : S6[S5.length]? = some (.lst (R2.map encF)) := by rw [hS]; exact sto_set (sto_last S5 _)
  clear hS
  generalize S5.length = c2 at h6
  show DW.dIter _ (S6 ++ [Ob.lst [encH ⟨0, 0, 0, 2⟩, encH ⟨0, 0, 1, 0⟩, encH ⟨0, 0, 1, 0⟩, encH ⟨0, 0, 0, 3⟩]]) _
  have e7 := Ext.app S6 [Ob.lst [encH ⟨0, 0, 0, 2⟩, encH ⟨0, 0, 1, 0⟩, encH ⟨0, 0, 1, 0⟩, encH ⟨0, 0, 0, 3⟩]]
  have h7 := sto_last S6 (Ob.lst [encH ⟨0, 0, 0, 2⟩, encH ⟨0, 0, 1, 0⟩, encH ⟨0, 0, 1, 0⟩, encH ⟨0, 0, 0, 3⟩])
  generalize S6 ++ [Ob.lst [encH ⟨0, 0, 0, 2⟩, encH ⟨0, 0, 1, 0⟩, encH ⟨0, 0, 1, 0⟩, encH ⟨0, 0, 0, 3⟩]] = S7 at e7 h7
  generalize S6.length = c3 at h7
  rw [iter_ref (e7 _ _ h6)]
  refine fs_loop R2 (fstT true) (by decide) (fun S' e => (e7.trans e) _ _ h6) (fun f hf S8 ky kn e8 k => ?_) fun S8 e8 h8 => ?_
  · simp only [DW.wG, DW.wGs, gsLen, List.set_cons_succ, List.set_cons_zero, wB, wS, DW.wT, DW.wTs, DW.wE, DW.wA, DW.wO, DW.wI, List.getElem?_cons_succ, List.getElem?_cons_zero, cmp_eq, cmp_ne, cmp_in, cmp_nin, inA_tup, inA_ktup, op_shl', op_shr', op_and', op_or', op_xor', is_bl, isn_bl, iter_ktup, cmp_lt, cmp_le, cmp_gt, cmp_ge, tru_non, tru_bl, tru_int, tru_tup, op_addi, op_subi, op_muli, op_divi, op_modi, op_powi, op_addt, op_rept, len_tup, len_rol, idx_tup, idx_rol, slc_tup, iter_tup, iter_rol, eqc_int, LIM, Nat.reduceLeDiff, dBlt, dInt1, defEnds, startD, List.map_cons, List.map_nil, List.length_cons, List.length_nil, List.replicate_succ, List.replicate_zero, List.cons_append, List.nil_append, Nat.reduceAdd, Nat.reduceSub, isRef, Nat.zero_add, and_true, true_and, if_true, Bool.false_eq_true, if_false, DW.wTs, wipeD, f20]
    exact ⟨by omega, f, true, rfl, (R2_ok f hf).1, (R2_ok f hf).2, fun S5 e5 => k S5 e5⟩
  rw [fst_R2] at h8
  refine eq_hs h8 (e8 _ _ h7) ?_
  simp only [Bool.not_true, Bool.false_eq_true, if_false]
  have E8 := E5.trans (e6.trans (e7.trans e8))
  refine ⟨by omega, .two 1 (.cnt true 3 0) (.cnt false 1 1), true, rfl, ⟨⟨by decide, by decide⟩, by decide, by decide⟩, by decide, fun S9 e9 => ?_⟩
  show dEq (fstT true (.two 1 (.cnt true 3 0) (.cnt false 1 1))) (encH ⟨0, 0, 0, 1⟩) S9 _
  rw [fst_3, dEq_iff (encH_fit S9 _) rfl, eqc_h]
  simp only [Bool.not_true, Bool.false_eq_true, if_false]
  refine ⟨by omega, .two 0 (.cnt true 2 0) (.cnt false 1 2), true, rfl, ⟨⟨by decide, by decide⟩, by decide, by decide⟩, by decide, fun S10 e10 => ?_⟩
  show dEq (fstT true (.two 0 (.cnt true 2 0) (.cnt false 1 2))) (encH ⟨0, 1, 0, 1⟩) S10 _
  rw [fst_4, dEq_iff (encH_fit S10 _) rfl, eqc_h]
  simp only [if_true]
  refine ⟨by omega, F1, false, rfl, trivial, by decide, fun S11 e11 => ?_⟩
  show dEq (fstT false F1) (encH ⟨0, 1, 0, 0⟩) S11 _
  rw [fst_5, dEq_iff (encH_fit S11 _) rfl, eqc_h]
  exact q S11 (E8.trans (e9.trans (e10.trans e11)))
end K03

set_option Elab.async false
set_option linter.all false
set_option maxRecDepth 100000
set_option maxHeartbeats 1000000

namespace K03
open PySem PySem.Spec PyProof.Rows L2 DW

theorem wk_frm : wk (.str "formula") = true := by decide +kernel
theorem wk_hou : wk (.str "house") = true := by decide +kernel
theorem wk_tru : wk (.str "truth") = true := by decide +kernel
theorem eq_frm : eqc (.str "formula") (.str "formula") = true := by decide +kernel
theorem eq_hou : eqc (.str "house") (.str "house") = true := by decide +kernel
theorem eq_tru : eqc (.str "truth") (.str "truth") = true := by decide +kernel
theorem fit_non (S : Sto) : Fit S .non := ⟨1, 1, by omega, rfl⟩
/-- no formulas -/
theorem law_b1 {n : Nat} {E : DEnds} {x0 x1 x2 x3 x4 x5 : Option D} {d : D} {S : Sto} (hn : 23 ≤ n) (hd : ∀ S', Ext S S' → Fit S' d) (hf : isNest 10 d = false)
    (fin : ∀ S', Ext S S' → E.nx [x0, x1, x2, x3, x4, x5, some d] S') :
    wB (fsN n) ir_law_b1 E [x0, x1, x2, x3, x4, x5, some d] S := by
  simp only [DW.wG, DW.wGs, gsLen, List.set_cons_succ, List.set_cons_zero, wB, wS, DW.wT, DW.wTs, DW.wE, DW.wA, DW.wO, DW.wI, List.getElem?_cons_succ, List.getElem?_cons_zero, cmp_eq, cmp_ne, cmp_in, cmp_nin, inA_tup, inA_ktup, op_shl', op_shr', op_and', op_or', op_xor', is_bl, isn_bl, iter_ktup, cmp_lt, cmp_le, cmp_gt, cmp_ge, tru_non, tru_bl, tru_int, tru_tup, op_addi, op_subi, op_muli, op_divi, op_modi, op_powi, op_addt, op_rept, len_tup, len_rol, idx_tup, idx_rol, slc_tup, iter_tup, iter_rol, eqc_int, LIM, Nat.reduceLeDiff, dBlt, dInt1, defEnds, startD, List.map_cons, List.map_nil, List.length_cons, List.length_nil, List.replicate_succ, List.replicate_zero, List.cons_append, List.nil_append, Nat.reduceAdd, Nat.reduceSub, isRef, Nat.zero_add, and_true, true_and, if_true, Bool.false_eq_true, if_false, ir_law_b1, f34, f35, f36]
  refine ⟨by omega, d, .non, rfl, hd S (Ext.refl S), fit_non S, .inl ⟨hf, fun S1 e1 => ?_⟩⟩
  dsimp only
  rw [dEq_iff (wk_fit wk_frm) wk_frm, eq_frm]
  simp only [Bool.not_true, Bool.false_eq_true, if_false]
  refine ⟨by omega, d, rfl, hd S1 e1, hf, fun S2 e2 => ?_⟩
  dsimp only
  rw [dEq_iff (wk_fit wk_frm) wk_frm, eq_frm]
  simp only [Bool.not_true, Bool.false_eq_true, if_false]
  refine ⟨by omega, d, .non, rfl, hd S2 (e1.trans e2), fit_non S2, .inl ⟨hf, fun S3 e3 => ?_⟩⟩
  dsimp only
  rw [dEq_iff (wk_fit wk_frm) wk_frm, eq_frm]
  simp only [Bool.not_true, Bool.false_eq_true, if_false]
  exact fin S3 (e1.trans (e2.trans e3))
theorem law_l1 {n : Nat} {E : DEnds} {x0 x1 x2 x3 x4 x5 : Option D} {c : Nat} {al : List D} (hn : 23 ≤ n) : ∀ (is : List D) (x6 : Option D) (S : Sto), S[c]? = some (.lst al) → (∀ d ∈ is, isNest 10 d = false ∧ ∀ S', Ext S S' → Fit S' d) →
    (∀ S' x6', Ext S S' → E.nx [x0, x1, x2, x3, x4, x5, x6'] S') →
    fLoop (fun S' => S'[c]? = some (.lst al)) (fun d ρ' S' k => DW.wG (fsN n) (.name 6) d ρ' S' k) (fun E' ρ' S' => wB (fsN n) ir_law_b1 E' ρ' S') E is [x0, x1, x2, x3, x4, x5, x6] S
  | [], x6, S, hc, _, fin => ⟨hc, fin S x6 (Ext.refl S)⟩
  | d :: r, x6, S, hc, hd, fin => by
    refine ⟨hc, ?_⟩
    show wB (fsN n) ir_law_b1 _ [x0, x1, x2, x3, x4, x5, some d] S
    refine law_b1 hn (hd d List.mem_cons_self).2 (hd d List.mem_cons_self).1 fun S1 e1 => ?_
    exact law_l1 hn r _ S1 (e1 _ _ hc) (fun y hy => ⟨(hd y (List.mem_cons_of_mem _ hy)).1, fun S' e => (hd y (List.mem_cons_of_mem _ hy)).2 S' (e1.trans e)⟩) fun S2 y6 e2 => fin S2 y6 (e1.trans e2)
/-- no houses -/
theorem law_b0 {n : Nat} {E : DEnds} {x0 x1 x2 x3 x4 : Option D} {f : Fm} {d : D} {S : Sto} (hn : 23 ≤ n) (ho : okF f) (hl : dep f ≤ 4) (hd : Fit S d) (hf : isHouse d = false)
    (fin : ∀ S', Ext S S' → E.nx [x0, x1, x2, x3, x4, some (encF f), some d] S') :
    wB (fsN n) ir_law_b0 E [x0, x1, x2, x3, x4, some (encF f), some d] S := by
  simp only [DW.wG, DW.wGs, gsLen, List.set_cons_succ, List.set_cons_zero, wB, wS, DW.wT, DW.wTs, DW.wE, DW.wA, DW.wO, DW.wI, List.getElem?_cons_succ, List.getElem?_cons_zero, cmp_eq, cmp_ne, cmp_in, cmp_nin, inA_tup, inA_ktup, op_shl', op_shr', op_and', op_or', op_xor', is_bl, isn_bl, iter_ktup, cmp_lt, cmp_le, cmp_gt, cmp_ge, tru_non, tru_bl, tru_int, tru_tup, op_addi, op_subi, op_muli, op_divi, op_modi, op_powi, op_addt, op_rept, len_tup, len_rol, idx_tup, idx_rol, slc_tup, iter_tup, iter_rol, eqc_int, LIM, Nat.reduceLeDiff, dBlt, dInt1, defEnds, startD, List.map_cons, List.map_nil, List.length_cons, List.length_nil, List.replicate_succ, List.replicate_zero, List.cons_append, List.nil_append, Nat.reduceAdd, Nat.reduceSub, isRef, Nat.zero_add, and_true, true_and, if_true, Bool.false_eq_true, if_false, ir_law_b0, f34]
  refine ⟨by omega, encF f, d, rfl, enc_fit S f (by omega), hd, .inr ⟨isNest_enc 10 f ho (by omega), hf, fun S1 e1 => ?_⟩⟩
  dsimp only
  rw [dEq_iff (wk_fit wk_hou) wk_hou, eq_hou]
  simp only [Bool.not_true, Bool.false_eq_true, if_false]
  exact fin S1 e1
theorem law_l0 {n : Nat} {E : DEnds} {x0 x1 x2 x3 x4 : Option D} {f : Fm} {c : Nat} {al : List D} (hn : 23 ≤ n) (ho : okF f) (hl : dep f ≤ 4) : ∀ (is : List D) (x6 : Option D) (S : Sto), S[c]? = some (.lst al) → (∀ d ∈ is, isHouse d = false ∧ ∀ S', Ext S S' → Fit S' d) →
    (∀ S' x6', Ext S S' → E.nx [x0, x1, x2, x3, x4, some (encF f), x6'] S') →
    fLoop (fun S' => S'[c]? = some (.lst al)) (fun d ρ' S' k => DW.wG (fsN n) (.name 6) d ρ' S' k) (fun E' ρ' S' => wB (fsN n) ir_law_b0 E' ρ' S') E is [x0, x1, x2, x3, x4, some (encF f), x6] S
  | [], x6, S, hc, _, fin => ⟨hc, fin S x6 (Ext.refl S)⟩
  | d :: r, x6, S, hc, hd, fin => by
    refine ⟨hc, ?_⟩
    show wB (fsN n) ir_law_b0 _ [x0, x1, x2, x3, x4, some (encF f), some d] S
    refine law_b0 hn ho hl ((hd d List.mem_cons_self).2 S (Ext.refl S)) (hd d List.mem_cons_self).1 fun S1 e1 => ?_
    exact law_l0 hn ho hl r _ S1 (e1 _ _ hc) (fun y hy => ⟨(hd y (List.mem_cons_of_mem _ hy)).1, fun S' e => (hd y (List.mem_cons_of_mem _ hy)).2 S' (e1.trans e)⟩) fun S2 y6 e2 => fin S2 y6 (e1.trans e2)
/-- one formula -/
theorem law_b2 {n : Nat} {E : DEnds} {x0 x2 x4 x5 x6 : Option D} {m k : Nat} {S : Sto} (hn : 23 ≤ n) (hs : Src S m) (hne : k ≠ m) (hk : S[k]? = some (.lst (bigH.map encH)))
    (fin : ∀ S' f, ExtB m S S' → Src S' m → okF f → dep f ≤ 4 → E.nx [x0, some (.ref k), x2, some (.ref m), x4, some (encF f), x6] S') :
    wB (fsN n) ir_law_b2 E [x0, some (.ref k), x2, some (.ref m), x4, x5, x6] S := by
  simp only [DW.wG, DW.wGs, gsLen, List.set_cons_succ, List.set_cons_zero, wB, wS, DW.wT, DW.wTs, DW.wE, DW.wA, DW.wO, DW.wI, List.getElem?_cons_succ, List.getElem?_cons_zero, cmp_eq, cmp_ne, cmp_in, cmp_nin, inA_tup, inA_ktup, op_shl', op_shr', op_and', op_or', op_xor', is_bl, isn_bl, iter_ktup, cmp_lt, cmp_le, cmp_gt, cmp_ge, tru_non, tru_bl, tru_int, tru_tup, op_addi, op_subi, op_muli, op_divi, op_modi, op_powi, op_addt, op_rept, len_tup, len_rol, idx_tup, idx_rol, slc_tup, iter_tup, iter_rol, eqc_int, LIM, Nat.reduceLeDiff, dBlt, dInt1, defEnds, startD, List.map_cons, List.map_nil, List.length_cons, List.length_nil, List.replicate_succ, List.replicate_zero, List.cons_append, List.nil_append, Nat.reduceAdd, Nat.reduceSub, isRef, Nat.zero_add, and_true, true_and, if_true, Bool.false_eq_true, if_false, ir_law_b2, f27, f29]
  refine ⟨m, 4, rfl, by decide, by decide, by omega, hs, fun S1 f e1 s1 ho hd => ?_⟩
  refine ⟨by omega, m, k, f, rfl, s1, hne, ho, hd, e1.2 _ _ hne hk, fun S2 e2 s2 => ?_⟩
  simp only [tru_bl, Bool.not_true, Bool.false_eq_true, if_false]
  exact fin S2 f (e1.trans e2) s2 ho hd
theorem law_l2 {n : Nat} {E : DEnds} {x0 x2 x6 : Option D} {m k : Nat} (hn : 23 ≤ n) (hne : k ≠ m) : ∀ (is : List D) (x4 x5 : Option D) (S : Sto), (is ≠ [] ∨ ∃ f, x5 = some (encF f) ∧ okF f ∧ dep f ≤ 4) → Src S m → S[k]? = some (.lst (bigH.map encH)) →
    (∀ S' f x4', ExtB m S S' → Src S' m → okF f → dep f ≤ 4 → E.nx [x0, some (.ref k), x2, some (.ref m), x4', some (encF f), x6] S') →
    fLoop (fun _ => True) (fun d ρ' S' k => DW.wG (fsN n) (.name 4) d ρ' S' k) (fun E' ρ' S' => wB (fsN n) ir_law_b2 E' ρ' S') E is [x0, some (.ref k), x2, some (.ref m), x4, x5, x6] S
  | [], x4, x5, S, h, hs, hk, fin => by
    rcases h with h | ⟨f, rfl, ho, hd⟩
    · exact absurd rfl h
    · exact ⟨trivial, fin S f x4 (ExtB.refl m S) hs ho hd⟩
  | d :: r, x4, x5, S, h, hs, hk, fin => by
    refine ⟨trivial, ?_⟩
    show wB (fsN n) ir_law_b2 _ [x0, some (.ref k), x2, some (.ref m), some d, x5, x6] S
    refine law_b2 hn hs hne hk fun S1 f e1 s1 ho hd => ?_
    exact law_l2 hn hne r _ _ S1 (.inr ⟨f, rfl, ho, hd⟩) s1 (e1.2 _ _ hne hk) fun S2 g y4 e2 s2 og hg => fin S2 g y4 (e1.trans e2) s2 og hg
theorem fit_lst {S : Sto} {p : Nat} {f : Fm} (hd : dep f ≤ 4) (h : S[p]? = some (.lst (wordOf f :: restOf f))) : Fit S (.ref p) := by
  have e := enc_okd S f
  rw [enc_eq] at e
  refine ⟨3, dep f + 1, by omega, ?_⟩
  simp only [okd, h] at e ⊢
  exact e
theorem fit_zeros {S : Sto} {p : Nat} (h : S[p]? = some (.lst [.int 0, .int 0, .int 0, .int 0])) : Fit S (.ref p) := by
  refine ⟨4, 2, by omega, ?_⟩
  simp only [okd, h]
  rfl
theorem nest_has : isNest 10 (.tup [.str "has", .int 1, .str "a"]) = false := by decide +kernel
theorem nest_not : isNest 10 (.tup [.str "not"]) = false := by decide +kernel
theorem wk_has : wk (.tup [.str "has", .int 1, .str "a"]) = true := by decide +kernel
theorem wk_nt : wk (.tup [.str "not"]) = true := by decide +kernel
/-- one cell -/
theorem law_b3 {n : Nat} {E : DEnds} {ns : List Int} {sd : D} {k j : Nat} {x3 x4 x5 x6 : Option D} {S : Sto} (hsc : Scr S sd ns) (hn : 23 ≤ n) (hl : ns.length ≤ 63) (hj : j ≤ 63) (hk : S[k]? = some (.lst (bigH.map encH)))
    (fin : ∀ S' x3' x4' x5' x6', Ext S S' → E.nx [some sd, some (.ref k), some (.int j), x3', x4', x5', x6'] S') :
    wB (fsN n) ir_law_b3 E [some sd, some (.ref k), some (.int j), x3, x4, x5, x6] S := by
  have hkl : k < S.length := (List.getElem?_eq_some_iff.mp hk).1
  simp only [DW.wG, DW.wGs, gsLen, List.set_cons_succ, List.set_cons_zero, wB, wS, DW.wT, DW.wTs, DW.wE, DW.wA, DW.wO, DW.wI, List.getElem?_cons_succ, List.getElem?_cons_zero, cmp_eq, cmp_ne, cmp_in, cmp_nin, inA_tup, inA_ktup, op_shl', op_shr', op_and', op_or', op_xor', is_bl, isn_bl, iter_ktup, cmp_lt, cmp_le, cmp_gt, cmp_ge, tru_non, tru_bl, tru_int, tru_tup, op_addi, op_subi, op_muli, op_divi, op_modi, op_powi, op_addt, op_rept, len_tup, len_rol, idx_tup, idx_rol, slc_tup, iter_tup, iter_rol, eqc_int, LIM, Nat.reduceLeDiff, dBlt, dInt1, defEnds, startD, List.map_cons, List.map_nil, List.length_cons, List.length_nil, List.replicate_succ, List.replicate_zero, List.cons_append, List.nil_append, Nat.reduceAdd, Nat.reduceSub, isRef, Nat.zero_add, and_true, true_and, if_true, Bool.false_eq_true, if_false, ir_law_b3, f21]
  refine ⟨by omega, sd, ns, j, rfl, hsc, hl, hj, fun S1 m e1 l1 s1 => ?_⟩
  have hne : k ≠ m := by omega
  dsimp only
  refine ⟨⟨by decide, by decide⟩, ?_⟩
  refine law_l2 (n := n) hn hne (intsFrom 0 (Int.toNat 3)) x4 x5 S1 (.inl (by decide +kernel)) s1 (e1 _ _ hk) fun S2 f x4' e2 s2 ho hd => ?_
  have E2 : Ext S S2 := fun i o hi => e2.2 i o (by have := (List.getElem?_eq_some_iff.mp hi).1; omega) (e1 i o hi)
  rw [enc_eq]
  simp only [DW.wG, DW.wGs, gsLen, List.set_cons_succ, List.set_cons_zero, wB, wS, DW.wT, DW.wTs, DW.wE, DW.wA, DW.wO, DW.wI, List.getElem?_cons_succ, List.getElem?_cons_zero, cmp_eq, cmp_ne, cmp_in, cmp_nin, inA_tup, inA_ktup, op_shl', op_shr', op_and', op_or', op_xor', is_bl, isn_bl, iter_ktup, cmp_lt, cmp_le, cmp_gt, cmp_ge, tru_non, tru_bl, tru_int, tru_tup, op_addi, op_subi, op_muli, op_divi, op_modi, op_powi, op_addt, op_rept, len_tup, len_rol, idx_tup, idx_rol, slc_tup, iter_tup, iter_rol, eqc_int, LIM, Nat.reduceLeDiff, dBlt, dInt1, defEnds, startD, List.map_cons, List.map_nil, List.length_cons, List.length_nil, List.replicate_succ, List.replicate_zero, List.cons_append, List.nil_append, Nat.reduceAdd, Nat.reduceSub, isRef, Nat.zero_add, and_true, true_and, if_true, Bool.false_eq_true, if_false, dItems, items]
  rw [← enc_eq]
  have e3 := Ext.app S2 [Ob.lst (wordOf f :: restOf f)]
  have h3 := sto_last S2 (Ob.lst (wordOf f :: restOf f))
  have z3 := List.length_append (as := S2) (bs := [Ob.lst (wordOf f :: restOf f)])
  generalize S2 ++ [Ob.lst (wordOf f :: restOf f)] = S3 at e3 h3
  have e4 := Ext.app S3 [Ob.lst [D.non, D.tup [D.str (Str.ofString "has"), D.int 1, D.str (Str.ofString "a")], D.tup [D.str (Str.ofString "not")], D.ref S2.length, D.int 5]]
  have h4 := sto_last S3 (Ob.lst [D.non, D.tup [D.str (Str.ofString "has"), D.int 1, D.str (Str.ofString "a")], D.tup [D.str (Str.ofString "not")], D.ref S2.length, D.int 5])
  rw [iter_ref h4]
  have h34 := e4 _ _ h3
  refine law_l1 (n := n) hn _ x6 _ h4 ?_ fun S5 y6 e5 => ?_
  · intro d hd2
    simp only [List.mem_cons, List.not_mem_nil, or_false] at hd2
    rcases hd2 with rfl | rfl | rfl | rfl | rfl
    · exact ⟨rfl, fun S' _ => fit_non S'⟩
    · exact ⟨nest_has, fun S' _ => wk_fit wk_has⟩
    · exact ⟨nest_not, fun S' _ => wk_fit wk_nt⟩
    · exact ⟨rfl, fun S' e => fit_lst hd (e _ _ h34)⟩
    · exact ⟨rfl, fun S' _ => fit_int S' 5⟩
  have E5 := E2.trans (e3.trans (e4.trans e5))
  dsimp only
  rw [op_repl (sto_last S5 _)]
  refine ⟨⟨by decide, by decide, by decide⟩, ?_⟩
  have e6 := (Ext.app S5 [Ob.lst [D.int 0]]).trans (Ext.app (S5 ++ [Ob.lst [D.int 0]]) [Ob.lst (List.replicate (4 : Int).toNat [D.int 0]).flatten])
  have h6 := sto_last (S5 ++ [Ob.lst [D.int 0]]) (Ob.lst (List.replicate (4 : Int).toNat [D.int 0]).flatten)
  generalize S5 ++ [Ob.lst [D.int 0]] ++ [Ob.lst (List.replicate (4 : Int).toNat [D.int 0]).flatten] = S6 at e6 h6
  generalize (S5 ++ [Ob.lst [D.int 0]]).length = c6 at h6
  have h6' : S6[c6]? = some (.lst [D.int 0, D.int 0, D.int 0, D.int 0]) := h6
  have e7 := Ext.app S6 [Ob.lst [D.non, D.tup [D.int 0, D.int 0, D.int 0], D.tup [D.int 0, D.int 0, D.int 0, D.int (-1)], D.ref c6, D.tup [D.int 0, D.int 0, D.int 0, D.bl true]]]
  have h7 := sto_last S6 (Ob.lst [D.non, D.tup [D.int 0, D.int 0, D.int 0], D.tup [D.int 0, D.int 0, D.int 0, D.int (-1)], D.ref c6, D.tup [D.int 0, D.int 0, D.int 0, D.bl true]])
  rw [iter_ref h7]
  have h67 := e7 _ _ h6'
  refine law_l0 (n := n) hn ho hd _ y6 _ h7 ?_ fun S8 w6 e8 => ?_
  · intro d hd2
    simp only [List.mem_cons, List.not_mem_nil, or_false] at hd2
    rcases hd2 with rfl | rfl | rfl | rfl | rfl
    · exact ⟨rfl, fun S' _ => fit_non S'⟩
    · exact ⟨rfl, fun S' _ => ⟨3, 2, by omega, rfl⟩⟩
    · exact ⟨by decide +kernel, fun S' _ => ⟨4, 2, by omega, rfl⟩⟩
    · exact ⟨rfl, fun S' e => fit_zeros (e _ _ h67)⟩
    · exact ⟨rfl, fun S' _ => ⟨4, 2, by omega, rfl⟩⟩
  have E8 := E5.trans (e6.trans (e7.trans e8))
  unfold ir_law_l0
  simp only [DW.wG, DW.wGs, gsLen, List.set_cons_succ, List.set_cons_zero, wB, wS, DW.wT, DW.wTs, DW.wE, DW.wA, DW.wO, DW.wI, List.getElem?_cons_succ, List.getElem?_cons_zero, cmp_eq, cmp_ne, cmp_in, cmp_nin, inA_tup, inA_ktup, op_shl', op_shr', op_and', op_or', op_xor', is_bl, isn_bl, iter_ktup, cmp_lt, cmp_le, cmp_gt, cmp_ge, tru_non, tru_bl, tru_int, tru_tup, op_addi, op_subi, op_muli, op_divi, op_modi, op_powi, op_addt, op_rept, len_tup, len_rol, idx_tup, idx_rol, slc_tup, iter_tup, iter_rol, eqc_int, LIM, Nat.reduceLeDiff, dBlt, dInt1, defEnds, startD, List.map_cons, List.map_nil, List.length_cons, List.length_nil, List.replicate_succ, List.replicate_zero, List.cons_append, List.nil_append, Nat.reduceAdd, Nat.reduceSub, isRef, Nat.zero_add, and_true, true_and, if_true, Bool.false_eq_true, if_false]
  have e9 := Ext.app S8 [Ob.lst [D.non, D.int 0, D.int 1, D.str (Str.ofString "True")]]
  have h9 := sto_last S8 (Ob.lst [D.non, D.int 0, D.int 1, D.str (Str.ofString "True")])
  generalize S8 ++ [Ob.lst [D.non, D.int 0, D.int 1, D.str (Str.ofString "True")]] = S9 at e9 h9
  rw [iter_ref h9]
  refine cLoop_ext (fun _ => none) (by decide) (fun S' e => e _ _ h9) (fun d hd2 S10 ky kn e10 k => ?_) fun S10 e10 h10 => ?_
  · have hb : isBl d = false ∧ Fit S10 d := by
      simp only [List.mem_cons, List.not_mem_nil, or_false] at hd2
      rcases hd2 with rfl | rfl | rfl | rfl
      · exact ⟨rfl, fit_non _⟩
      · exact ⟨rfl, fit_int _ _⟩
      · exact ⟨rfl, fit_int _ _⟩
      · exact ⟨rfl, wk_fit (by decide +kernel)⟩
    simp only [DW.wG, DW.wGs, gsLen, List.set_cons_succ, List.set_cons_zero, wB, wS, DW.wT, DW.wTs, DW.wE, DW.wA, DW.wO, DW.wI, List.getElem?_cons_succ, List.getElem?_cons_zero, cmp_eq, cmp_ne, cmp_in, cmp_nin, inA_tup, inA_ktup, op_shl', op_shr', op_and', op_or', op_xor', is_bl, isn_bl, iter_ktup, cmp_lt, cmp_le, cmp_gt, cmp_ge, tru_non, tru_bl, tru_int, tru_tup, op_addi, op_subi, op_muli, op_divi, op_modi, op_powi, op_addt, op_rept, len_tup, len_rol, idx_tup, idx_rol, slc_tup, iter_tup, iter_rol, eqc_int, LIM, Nat.reduceLeDiff, dBlt, dInt1, defEnds, startD, List.map_cons, List.map_nil, List.length_cons, List.length_nil, List.replicate_succ, List.replicate_zero, List.cons_append, List.nil_append, Nat.reduceAdd, Nat.reduceSub, isRef, Nat.zero_add, and_true, true_and, if_true, Bool.false_eq_true, if_false, wipeD, f36]
    refine ⟨by omega, encF f, d, rfl, enc_fit S10 f (by omega), hb.2, .inr ⟨isNest_enc 10 f ho (by omega), hb.1, fun S11 e11 => ?_⟩⟩
    dsimp only
    rw [dEq_iff (wk_fit wk_tru) wk_tru, eq_tru]
    simp only [Bool.not_true, Bool.false_eq_true, if_false]
    exact k S11 e11
  · have e11 := Ext.app S10 [Ob.lst []]
    refine eq_bls (as := []) (bs := []) (e11 _ _ h10) (sto_last S10 _) ?_
    simp only [decide_true, Bool.not_true, Bool.false_eq_true, if_false]
    exact fin _ _ _ _ _ (E8.trans (e9.trans (e10.trans e11)))
theorem law_l3 {n : Nat} {E : DEnds} {ns : List Int} {sd : D} {k : Nat} (hn : 23 ≤ n) (hl : ns.length ≤ 63) : ∀ (is : List D) (x2 x3 x4 x5 x6 : Option D) (S : Sto), Scr S sd ns → (∀ d ∈ is, ∃ j : Nat, d = .int j ∧ j ≤ 63) → S[k]? = some (.lst (bigH.map encH)) →
    (∀ S' x2' x3' x4' x5' x6', Ext S S' → E.nx [some sd, some (.ref k), x2', x3', x4', x5', x6'] S') →
    fLoop (fun _ => True) (fun d ρ' S' k => DW.wG (fsN n) (.name 2) d ρ' S' k) (fun E' ρ' S' => wB (fsN n) ir_law_b3 E' ρ' S') E is [some sd, some (.ref k), x2, x3, x4, x5, x6] S
  | [], x2, x3, x4, x5, x6, S, _, _, hk, fin => ⟨trivial, fin S x2 x3 x4 x5 x6 (Ext.refl S)⟩
  | d :: r, x2, x3, x4, x5, x6, S, hsc, hi, hk, fin => by
    refine ⟨trivial, ?_⟩
    obtain ⟨j, rfl, hj⟩ := hi d List.mem_cons_self
    show wB (fsN n) ir_law_b3 _ [some sd, some (.ref k), some (.int j), x3, x4, x5, x6] S
    refine law_b3 hsc hn hl hj hk fun S1 y3 y4 y5 y6 e1 => ?_
    exact law_l3 hn hl r _ _ _ _ _ S1 (hsc.ext e1) (fun d h => hi d (List.mem_cons_of_mem _ h)) (e1 _ _ hk) fun S2 z2 z3 z4 z5 z6 e2 => fin S2 z2 z3 z4 z5 z6 (e1.trans e2)
theorem ob_law (n : Nat) (ds : List D) (S : Sto) (Q : KQ) (h : lv (n + 1) 24 spLaw ds S Q) : wB (fsN n) ir_law (defEnds Q) (startD C_law.N ds) S := by
  obtain ⟨hl, sd, ns, rfl, hsc, hz, q⟩ := h
  simp only [DW.wG, DW.wGs, gsLen, List.set_cons_succ, List.set_cons_zero, wB, wS, DW.wT, DW.wTs, DW.wE, DW.wA, DW.wO, DW.wI, List.getElem?_cons_succ, List.getElem?_cons_zero, cmp_eq, cmp_ne, cmp_in, cmp_nin, inA_tup, inA_ktup, op_shl', op_shr', op_and', op_or', op_xor', is_bl, isn_bl, iter_ktup, cmp_lt, cmp_le, cmp_gt, cmp_ge, tru_non, tru_bl, tru_int, tru_tup, op_addi, op_subi, op_muli, op_divi, op_modi, op_powi, op_addt, op_rept, len_tup, len_rol, idx_tup, idx_rol, slc_tup, iter_tup, iter_rol, eqc_int, LIM, Nat.reduceLeDiff, dBlt, dInt1, defEnds, startD, List.map_cons, List.map_nil, List.length_cons, List.length_nil, List.replicate_succ, List.replicate_zero, List.cons_append, List.nil_append, Nat.reduceAdd, Nat.reduceSub, isRef, Nat.zero_add, and_true, true_and, if_true, Bool.false_eq_true, if_false, ir_law, f25, f31]
  refine ⟨by omega, rfl, fun S1 k e1 l1 h1 => ?_⟩
  dsimp only
  simp only [DW.wG, DW.wGs, gsLen, List.set_cons_succ, List.set_cons_zero, wB, wS, DW.wT, DW.wTs, DW.wE, DW.wA, DW.wO, DW.wI, List.getElem?_cons_succ, List.getElem?_cons_zero, cmp_eq, cmp_ne, cmp_in, cmp_nin, inA_tup, inA_ktup, op_shl', op_shr', op_and', op_or', op_xor', is_bl, isn_bl, iter_ktup, cmp_lt, cmp_le, cmp_gt, cmp_ge, tru_non, tru_bl, tru_int, tru_tup, op_addi, op_subi, op_muli, op_divi, op_modi, op_powi, op_addt, op_rept, len_tup, len_rol, idx_tup, idx_rol, slc_tup, iter_tup, iter_rol, eqc_int, LIM, Nat.reduceLeDiff, dBlt, dInt1, defEnds, startD, List.map_cons, List.map_nil, List.length_cons, List.length_nil, List.replicate_succ, List.replicate_zero, List.cons_append, List.nil_append, Nat.reduceAdd, Nat.reduceSub, isRef, Nat.zero_add, and_true, true_and, if_true, Bool.false_eq_true, if_false, (hsc.ext e1).len]
  have hb : 1 ≤ (1 + if (8 : Int) < ns.length then 8 else (ns.length : Int)) ∧ (1 + if (8 : Int) < ns.length then 8 else (ns.length : Int)) ≤ 9 := by split <;> omega
  generalize (1 + if (8 : Int) < ns.length then 8 else (ns.length : Int)) = N at hb
  refine ⟨⟨by omega, by omega⟩, ?_⟩
  refine law_l3 (n := n) (by omega) hz _ none none none none none S1 (hsc.ext e1) (fun d hd => ?_) h1 fun S2 y2 y3 y4 y5 y6 e2 => ?_
  · unfold DW.intsFrom at hd
    obtain ⟨i, hi, rfl⟩ := List.mem_map.mp hd
    rw [List.mem_range] at hi
    exact ⟨i, by rw [Int.zero_add], by omega⟩
  · exact ⟨by omega, rfl, fun S' _ => q S'⟩
end K03

set_option Elab.async false
set_option linter.all false
set_option maxRecDepth 100000
set_option maxHeartbeats 1000000

namespace K03
open PySem PySem.Spec PyProof.Rows L2 DW
variable [Tb : Tbl]

/-! ### raising promises -/
abbrev XSp := List D → Sto → (Str → Sto → Prop) → Prop
def spR (K : PySem.W.Frag) (CL : List (Str × Addr)) (xp : XSp) : Sp := fun vs H _ E => ∃ (ds : List D) (S : Sto) (φ : List Addr) (QX : Str → Sto → Prop), RepL K φ H vs ds ∧ SRel K φ S H ∧ xp ds S QX ∧
  ∀ (c : Str) (C : Addr) (S' : Sto) (φ' : List Addr) (H' : Hp), CL.lookup c = some C → Le φ φ' → TupLe H H' → SRel K φ' S' H' → QX c S' → E (.ref C) none H'
def xpF : XSp := fun ds S QX => ∃ d, ds = [d] ∧ Fit S d ∧ isNest 10 d = false ∧ QX "InvalidFormula" S
def xpH : XSp := fun ds S QX => ∃ d, ds = [d] ∧ Fit S d ∧ isHouse d = false ∧ ∀ S', Ext S S' → QX "InvalidHouse" S'
def xpT : XSp := fun ds S QX => ∃ d, ds = [d] ∧ Fit S d ∧ isBl d = false ∧ QX "InvalidTruth" S
def xpHolds : XSp := fun ds S QX => ∃ d e, ds = [d, e] ∧ Fit S d ∧ Fit S e ∧ ((isNest 10 d = false ∧ QX "InvalidFormula" S) ∨ (isNest 10 d = true ∧ isHouse e = false ∧ ∀ S', Ext S S' → QX "InvalidHouse" S'))
def xpFirst : XSp := fun ds S QX => ∃ d e, ds = [d, e] ∧ Fit S d ∧ Fit S e ∧ ((isNest 10 d = false ∧ QX "InvalidFormula" S) ∨ (isNest 10 d = true ∧ isBl e = false ∧ QX "InvalidTruth" S))
section
variable {P : Program} {w : World} {K : PySem.W.Frag} {mg : Str → Option Value} {base : Heap}
/-- the context of a def's body -/
theorem cx_ok {CXx : CXT} {k : Nat} {fs : List FSp} {qual : Str} {st : Stmt} {f : Addr} {cdv : Value} {ps : List Str} {C : DW.Ctx} {A : Around} {outer : List Env} {s : Shared} {H : Hp} {E : XK}
    (S : FnScope C.N ps (defScope st)) (hsc : C.sc = defScope st) (hbl : C.blk = none) (hsrt : C.srt = none) (hlam : C.lam = []) (T : Top P w K mg base k fs C) (hr : Room k (A.deeper (envOfC qual (defScope st) s.heap.objs.size f cdv))) :
    CxOk fs (cxOf CXx P w K mg base C.N qual (defScope st) f cdv A outer s H E).nox C :=
  { hN := rfl
    nd := S.nd
    sc := hsc.symm
    calm := rfl
    fnc := fun _ _ => rfl
    un := by
      have := hr.un
      show (A.deeper _).units + 66 < cLine
      omega
    con := T.con
    fns := fun i x hx => by
      obtain ⟨sp', h1, f', fd', ps', h2, h3, h4, h5⟩ := T.fns i x hx
      exact ⟨sp', h1, ⟨f', fd', ps', k, h2, hr, h3, h4, h5⟩⟩
    bns := T.bns
    xe := rfl
    dcn := T.dcn
    srt := fun i h _ => by rw [hsrt] at h; cases h
    lam := fun X' _ => by rw [hlam]; exact lam_none }
/-- an own class of errors -/
structure ErrAt (K : PySem.W.Frag) (mg : Str → Option Value) (x : Str) (C : Addr) : Prop where
  g : mg x = some (.ref C)
  bas : ∃ (B newId initId : String) (bmB : List Value), ExcBaseFacts B newId initId bmB ∧ PySem.W.excIn K C bmB newId = true
  k : PySem.W.keepIn K (.ref C) = true
  s : PySem.W.subIn K (.ref C) (.type "BaseException") = some true
  t : PySem.W.typeIn K (.ref C) = some (.type "type")
theorem post_of {K : PySem.W.Frag} {φ : List Addr} {H : Hp} {Q : Bool → Hp → Prop} (QD : KB) (h : ∀ (b : Bool) (S' : Sto) (H' : Hp) (φ' : List Addr), Le φ φ' → TupLe H H' → SRel K φ' S' H' → QD b S' → Q b H') : PostB K φ H Q QD := h
theorem okR_ckF {k n : Nat} {f C : Addr} {fd : FuncData} {CL : List (Str × Addr)} (F : Fun K "check_formula" "check_formula" s_check_formula f fd) (T : Top P w K mg base k (fsN n) C_check_formula) (hn : 14 ≤ n) (Er : ErrAt K mg "InvalidFormula" C) (hC : CL.lookup ("InvalidFormula" : Str) = some C) :
    FnOk P w K mg base (L2.CX P w) (k + 1) f fd ["value"] (spR K CL xpF) := by
  refine F.okX sc_check_formula (fun vs H Q E h => ?_) (fun cdv A outer s H vs Q E hr h => ?_)
  · obtain ⟨ds, S, φ, QX, r, _, ⟨d, rfl, _⟩, _⟩ := h
    exact r.length
  · obtain ⟨ds, S, φ, QX, r, hs, ⟨d, rfl, hf, hi, hq⟩, fin⟩ := h
    obtain ⟨B, newId, initId, bmB, EF, eI⟩ := Er.bas
    refine ⟨_, pss_cons (ps_if (PT.nox ((snd_all (fsN n) 60).T _ C_check_formula _ (.not (.val (.fn 1 (.cons (.var 0) .nil)))) (cx_ok sc_check_formula rfl rfl rfl rfl T hr) (by rfl)).1)
      (pss_one (ps_raise rfl (takes_of rfl rfl rfl rfl) (pmk_own EF eI Er.g Er.k (raises_own Er.s Er.t) rfl))) pss_nil) pss_nil, ?_⟩
    refine ⟨startD C_check_formula.N [d], S, φ, fun b S' => b = true ∧ QX "InvalidFormula" S', start_rel r, hs, ?_, ?_⟩
    · simp only [DW.wG, DW.wGs, gsLen, List.set_cons_succ, List.set_cons_zero, wB, wS, DW.wT, DW.wTs, DW.wE, DW.wA, DW.wO, DW.wI, List.getElem?_cons_succ, List.getElem?_cons_zero, cmp_eq, cmp_ne, cmp_in, cmp_nin, inA_tup, inA_ktup, op_shl', op_shr', op_and', op_or', op_xor', is_bl, isn_bl, iter_ktup, cmp_lt, cmp_le, cmp_gt, cmp_ge, tru_non, tru_bl, tru_int, tru_tup, op_addi, op_subi, op_muli, op_divi, op_modi, op_powi, op_addt, op_rept, len_tup, len_rol, idx_tup, idx_rol, slc_tup, iter_tup, iter_rol, eqc_int, LIM, Nat.reduceLeDiff, dBlt, dInt1, defEnds, startD, List.map_cons, List.map_nil, List.length_cons, List.length_nil, List.replicate_succ, List.replicate_zero, List.cons_append, List.nil_append, Nat.reduceAdd, Nat.reduceSub, isRef, Nat.zero_add, and_true, true_and, if_true, Bool.false_eq_true, if_false, f1]
      refine ⟨hn, d, rfl, hf, ?_⟩
      simp only [hi, tru_bl, Bool.not_false]
      exact ⟨trivial, hq⟩
    · rintro b S' H' φ' l t s' ⟨rfl, q⟩
      exact fin _ C S' φ' H' hC l t s' q
theorem okR_ckH {k n : Nat} {f C : Addr} {fd : FuncData} {CL : List (Str × Addr)} (F : Fun K "check_house" "check_house" s_check_house f fd) (T : Top P w K mg base k (fsN n) C_check_house) (hn : 2 ≤ n) (Er : ErrAt K mg "InvalidHouse" C) (hC : CL.lookup ("InvalidHouse" : Str) = some C) :
    FnOk P w K mg base (L2.CX P w) (k + 1) f fd ["value"] (spR K CL xpH) := by
  refine F.okX sc_check_house (fun vs H Q E h => ?_) (fun cdv A outer s H vs Q E hr h => ?_)
  · obtain ⟨ds, S, φ, QX, r, _, ⟨d, rfl, _⟩, _⟩ := h
    exact r.length
  · obtain ⟨ds, S, φ, QX, r, hs, ⟨d, rfl, hf, hi, hq⟩, fin⟩ := h
    obtain ⟨B, newId, initId, bmB, EF, eI⟩ := Er.bas
    refine ⟨_, pss_cons (ps_if (PT.nox ((snd_all (fsN n) 60).T _ C_check_house _ (.not (.val (.fn 0 (.cons (.var 0) .nil)))) (cx_ok sc_check_house rfl rfl rfl rfl T hr) (by rfl)).1)
      (pss_one (ps_raise rfl (takes_of rfl rfl rfl rfl) (pmk_own EF eI Er.g Er.k (raises_own Er.s Er.t) rfl))) pss_nil) pss_nil, ?_⟩
    refine ⟨startD C_check_house.N [d], S, φ, fun b S' => b = true ∧ QX "InvalidHouse" S', start_rel r, hs, ?_, ?_⟩
    · simp only [DW.wG, DW.wGs, gsLen, List.set_cons_succ, List.set_cons_zero, wB, wS, DW.wT, DW.wTs, DW.wE, DW.wA, DW.wO, DW.wI, List.getElem?_cons_succ, List.getElem?_cons_zero, cmp_eq, cmp_ne, cmp_in, cmp_nin, inA_tup, inA_ktup, op_shl', op_shr', op_and', op_or', op_xor', is_bl, isn_bl, iter_ktup, cmp_lt, cmp_le, cmp_gt, cmp_ge, tru_non, tru_bl, tru_int, tru_tup, op_addi, op_subi, op_muli, op_divi, op_modi, op_powi, op_addt, op_rept, len_tup, len_rol, idx_tup, idx_rol, slc_tup, iter_tup, iter_rol, eqc_int, LIM, Nat.reduceLeDiff, dBlt, dInt1, defEnds, startD, List.map_cons, List.map_nil, List.length_cons, List.length_nil, List.replicate_succ, List.replicate_zero, List.cons_append, List.nil_append, Nat.reduceAdd, Nat.reduceSub, isRef, Nat.zero_add, and_true, true_and, if_true, Bool.false_eq_true, if_false, f0]
      refine ⟨hn, d, rfl, hf, fun S' e => ?_⟩
      simp only [hi, tru_bl, Bool.not_false]
      exact ⟨trivial, hq S' e⟩
    · rintro b S' H' φ' l t s' ⟨rfl, q⟩
      exact fin _ C S' φ' H' hC l t s' q
theorem okR_ckT {k n : Nat} {f C : Addr} {fd : FuncData} {CL : List (Str × Addr)} (F : Fun K "check_truth" "check_truth" s_check_truth f fd) (T : Top P w K mg base k (fsN n) C_check_truth) (Er : ErrAt K mg "InvalidTruth" C) (hC : CL.lookup ("InvalidTruth" : Str) = some C) :
    FnOk P w K mg base (L2.CX P w) (k + 1) f fd ["value"] (spR K CL xpT) := by
  refine F.okX sc_check_truth (fun vs H Q E h => ?_) (fun cdv A outer s H vs Q E hr h => ?_)
  · obtain ⟨ds, S, φ, QX, r, _, ⟨d, rfl, _⟩, _⟩ := h
    exact r.length
  · obtain ⟨ds, S, φ, QX, r, hs, ⟨d, rfl, hf, hi, hq⟩, fin⟩ := h
    obtain ⟨B, newId, initId, bmB, EF, eI⟩ := Er.bas
    refine ⟨_, pss_cons (ps_if (PT.nox ((snd_all (fsN n) 60).T _ C_check_truth _ (.not (.val (.blt .isinst (.cons (.var 0) (.cons (.cst (D.ty "bool")) .nil))))) (cx_ok sc_check_truth rfl rfl rfl rfl T hr) (by rfl)).1)
      (pss_one (ps_raise rfl (takes_of rfl rfl rfl rfl) (pmk_own EF eI Er.g Er.k (raises_own Er.s Er.t) rfl))) pss_nil) pss_nil, ?_⟩
    refine ⟨startD C_check_truth.N [d], S, φ, fun b S' => b = true ∧ QX "InvalidTruth" S', start_rel r, hs, ?_, ?_⟩
    · simp only [DW.wG, DW.wGs, gsLen, List.set_cons_succ, List.set_cons_zero, wB, wS, DW.wT, DW.wTs, DW.wE, DW.wA, DW.wO, DW.wI, List.getElem?_cons_succ, List.getElem?_cons_zero, cmp_eq, cmp_ne, cmp_in, cmp_nin, inA_tup, inA_ktup, op_shl', op_shr', op_and', op_or', op_xor', is_bl, isn_bl, iter_ktup, cmp_lt, cmp_le, cmp_gt, cmp_ge, tru_non, tru_bl, tru_int, tru_tup, op_addi, op_subi, op_muli, op_divi, op_modi, op_powi, op_addt, op_rept, len_tup, len_rol, idx_tup, idx_rol, slc_tup, iter_tup, iter_rol, eqc_int, LIM, Nat.reduceLeDiff, dBlt, dInt1, defEnds, startD, List.map_cons, List.map_nil, List.length_cons, List.length_nil, List.replicate_succ, List.replicate_zero, List.cons_append, List.nil_append, Nat.reduceAdd, Nat.reduceSub, isRef, Nat.zero_add, and_true, true_and, if_true, Bool.false_eq_true, if_false, isi_fit hf (kit_bool d hf.nty), hi]
      exact ⟨rfl, hq⟩
    · rintro b S' H' φ' l t s' ⟨rfl, q⟩
      exact fin _ C S' φ' H' hC l t s' q
theorem pa_nox {X : Cx} {es : List Expr} {t : TA} (h : PA X.nox es t) : PA X es t := ⟨fun pos pins s σ H Q I hw =>
  wpAny_mono (h.run pos pins s σ H Q (I.wish _) hw) (fun _ _ ⟨v, H', I', r, q⟩ => ⟨v, H', I'.unwish, r, q⟩) fun _ _ z => False.elim z⟩
theorem ps_nox {X : Cx} {st : Stmt} {t : TS} (h : PS X.nox st t) : PS X st t := ⟨fun pins s σ H D I hw =>
  wpAny_mono (h.run pins s σ H D (I.wish _) hw) (fun _ _ q => q.unwish) fun _ _ z => False.elim z⟩

/-- a def that may raise, called by its name -/
structure RDef (P : Program) (w : World) (K : PySem.W.Frag) (mg : Str → Option Value) (base : Heap) (k : Nat) (x : Str) (ps : List Str) (sp : Sp) : Prop where
  ex : ∃ (f : Addr) (fd : FuncData), FnOk P w K mg base (L2.CX P w) k f fd ps sp ∧ mg x = some (.ref f) ∧ PySem.W.keepIn K (.ref f) = true ∧ Binds K fd ps []
def tlB : IB → IB
  | .cons _ r => r
  | .nil => .nil
/-- what holds of a raising call's reading -/
theorem call_in {K : PySem.W.Frag} {fs : List FSp} {CL : List (Str × Addr)} {xp : XSp} {as : IA} {ρ : En} {S : Sto} {φ : List Addr} {H : Hp} {σ : L2.St} {Q : VK} {E : XK} (e : EnvRel K φ H ρ σ) (s : SRel K φ S H) (QX : Str → Sto → Prop)
    (h : DW.wA fs as ρ S fun ds S1 => xp ds S1 QX)
    (fin : ∀ (c : Str) (C : Addr) (S' : Sto) (φ' : List Addr) (H' : Hp), CL.lookup c = some C → Le φ φ' → TupLe H H' → SRel K φ' S' H' → QX c S' → E (.ref C) none H') : sA fs K as σ H fun vs H1 => spR K CL xp vs H1 Q E :=
  ⟨ρ, S, φ, fun ds S1 => xp ds S1 QX, e, s, h, fun ds S1 vs H1 φ1 l t s1 r q => ⟨ds, S1, φ1, QX, r, s1, q, fun c C S' φ' H' hc l' t' s' q' => fin c C S' φ' H' hc (l.trans l') (t.trans t') s' q'⟩⟩
theorem okR_holds {k n : Nat} {f : Addr} {fd : FuncData} {CL : List (Str × Addr)} (F : Fun K "holds" "holds" s_holds f fd) (T : Top P w K mg base k (fsN n) C_holds) (hn : 15 ≤ n)
    (RF : RDef P w K mg base k "check_formula" ["value"] (spR K CL xpF)) (RH : RDef P w K mg base k "check_house" ["value"] (spR K CL xpH)) :
    FnOk P w K mg base (L2.CX P w) (k + 1) f fd ["formula", "house"] (spR K CL xpHolds) := by
  refine F.okX sc_holds (fun vs H Q E h => ?_) (fun cdv A outer s H vs Q E hr h => ?_)
  · obtain ⟨ds, S, φ, QX, r, _, ⟨d, e, rfl, _⟩, _⟩ := h
    exact r.length
  · obtain ⟨ds, S, φ, QX, r, hs, ⟨d, e, rfl, hd, he, hq⟩, fin⟩ := h
    have ok := cx_ok (CXx := L2.CX P w) (qual := "holds") (f := f) (cdv := cdv) (outer := outer) (s := s) (H := H) (E := E) sc_holds rfl rfl rfl rfl T hr
    obtain ⟨f1', fd1, F1, m1, k1, b1⟩ := RF.ex
    obtain ⟨f2', fd2, F2, m2, k2, b2⟩ := RH.ex
    have tk : Takes (cxOf (L2.CX P w) P w K mg base C_holds.N "holds" (defScope s_holds) f cdv A outer s H E) (fun cls d _ H' => E cls d H') := takes_of rfl rfl rfl rfl
    rcases hq with ⟨hi, hq⟩ | ⟨hi, hj, hq⟩
    · refine ⟨_, pss_cons (ps_expr (pe_callS F1 hr rfl m1 k1 b1 (fun σ => passAt tk σ) (pa_nox ((snd_all (fsN n) 60).A ok (as := .cons (.var 0) .nil) (by rfl))))) (((snd_sb (fsN n) 60).2 _ C_holds _ (tlB ir_holds) ok (by rfl)).nox), ?_⟩
      refine call_in (start_rel r) hs QX ?_ fin
      simp only [DW.wG, DW.wGs, gsLen, List.set_cons_succ, List.set_cons_zero, wB, wS, DW.wT, DW.wTs, DW.wE, DW.wA, DW.wO, DW.wI, List.getElem?_cons_succ, List.getElem?_cons_zero, cmp_eq, cmp_ne, cmp_in, cmp_nin, inA_tup, inA_ktup, op_shl', op_shr', op_and', op_or', op_xor', is_bl, isn_bl, iter_ktup, cmp_lt, cmp_le, cmp_gt, cmp_ge, tru_non, tru_bl, tru_int, tru_tup, op_addi, op_subi, op_muli, op_divi, op_modi, op_powi, op_addt, op_rept, len_tup, len_rol, idx_tup, idx_rol, slc_tup, iter_tup, iter_rol, eqc_int, LIM, Nat.reduceLeDiff, dBlt, dInt1, defEnds, startD, List.map_cons, List.map_nil, List.length_cons, List.length_nil, List.replicate_succ, List.replicate_zero, List.cons_append, List.nil_append, Nat.reduceAdd, Nat.reduceSub, isRef, Nat.zero_add, and_true, true_and, if_true, Bool.false_eq_true, if_false]
      exact ⟨d, rfl, hd, hi, hq⟩
    · refine ⟨_, pss_cons (ps_nox ((snd_sb (fsN n) 60).1 _ C_holds _ (.expr (.fn 5 (.cons (.var 0) .nil))) ok (by rfl))) (pss_cons (ps_expr (pe_callS F2 hr rfl m2 k2 b2 (fun σ => passAt tk σ) (pa_nox ((snd_all (fsN n) 60).A ok (as := .cons (.var 1) .nil) (by rfl))))) (((snd_sb (fsN n) 60).2 _ C_holds _ (tlB (tlB ir_holds)) ok (by rfl)).nox)), ?_⟩
      refine ⟨startD C_holds.N [d, e], S, φ, { nx := fun ρ' S' => ρ' = startD C_holds.N [d, e] ∧ S' = S, rt := fun _ _ => False, bk := fun _ _ => False, ct := fun _ _ => False }, start_rel r, hs, ?_, ?_⟩
      · simp only [DW.wG, DW.wGs, gsLen, List.set_cons_succ, List.set_cons_zero, wB, wS, DW.wT, DW.wTs, DW.wE, DW.wA, DW.wO, DW.wI, List.getElem?_cons_succ, List.getElem?_cons_zero, cmp_eq, cmp_ne, cmp_in, cmp_nin, inA_tup, inA_ktup, op_shl', op_shr', op_and', op_or', op_xor', is_bl, isn_bl, iter_ktup, cmp_lt, cmp_le, cmp_gt, cmp_ge, tru_non, tru_bl, tru_int, tru_tup, op_addi, op_subi, op_muli, op_divi, op_modi, op_powi, op_addt, op_rept, len_tup, len_rol, idx_tup, idx_rol, slc_tup, iter_tup, iter_rol, eqc_int, LIM, Nat.reduceLeDiff, dBlt, dInt1, defEnds, startD, List.map_cons, List.map_nil, List.length_cons, List.length_nil, List.replicate_succ, List.replicate_zero, List.cons_append, List.nil_append, Nat.reduceAdd, Nat.reduceSub, isRef, Nat.zero_add, and_true, true_and, if_true, Bool.false_eq_true, if_false, f5]
        exact ⟨by omega, d, rfl, hd, hi, rfl⟩
      · refine ⟨fun ρ' S' σ' H' φ' l t er sr z => ?_, fun _ _ _ _ _ _ _ _ _ z => z.elim, fun _ _ _ _ _ _ _ _ _ z => z.elim, fun _ _ _ _ _ _ _ _ _ z => z.elim⟩
        obtain ⟨rfl, rfl⟩ := z
        refine call_in er sr QX ?_ fun c C S2 φ2 H2 hc l2 t2 s2 q2 => fin c C S2 φ2 H2 hc (l.trans l2) (t.trans t2) s2 q2
        simp only [DW.wG, DW.wGs, gsLen, List.set_cons_succ, List.set_cons_zero, wB, wS, DW.wT, DW.wTs, DW.wE, DW.wA, DW.wO, DW.wI, List.getElem?_cons_succ, List.getElem?_cons_zero, cmp_eq, cmp_ne, cmp_in, cmp_nin, inA_tup, inA_ktup, op_shl', op_shr', op_and', op_or', op_xor', is_bl, isn_bl, iter_ktup, cmp_lt, cmp_le, cmp_gt, cmp_ge, tru_non, tru_bl, tru_int, tru_tup, op_addi, op_subi, op_muli, op_divi, op_modi, op_powi, op_addt, op_rept, len_tup, len_rol, idx_tup, idx_rol, slc_tup, iter_tup, iter_rol, eqc_int, LIM, Nat.reduceLeDiff, dBlt, dInt1, defEnds, startD, List.map_cons, List.map_nil, List.length_cons, List.length_nil, List.replicate_succ, List.replicate_zero, List.cons_append, List.nil_append, Nat.reduceAdd, Nat.reduceSub, isRef, Nat.zero_add, and_true, true_and, if_true, Bool.false_eq_true, if_false]
        exact ⟨e, rfl, he, hj, hq⟩
theorem okR_first {k n : Nat} {f : Addr} {fd : FuncData} {CL : List (Str × Addr)} (F : Fun K "first_house" "first_house" s_first_house f fd) (T : Top P w K mg base k (fsN n) C_first_house) (hn : 15 ≤ n)
    (RF : RDef P w K mg base k "check_formula" ["value"] (spR K CL xpF)) (RH : RDef P w K mg base k "check_truth" ["value"] (spR K CL xpT)) :
    FnOk P w K mg base (L2.CX P w) (k + 1) f fd ["formula", "truth"] (spR K CL xpFirst) := by
  refine F.okX sc_first_house (fun vs H Q E h => ?_) (fun cdv A outer s H vs Q E hr h => ?_)
  · obtain ⟨ds, S, φ, QX, r, _, ⟨d, e, rfl, _⟩, _⟩ := h
    exact r.length
  · obtain ⟨ds, S, φ, QX, r, hs, ⟨d, e, rfl, hd, he, hq⟩, fin⟩ := h
    have ok := cx_ok (CXx := L2.CX P w) (qual := "first_house") (f := f) (cdv := cdv) (outer := outer) (s := s) (H := H) (E := E) sc_first_house rfl rfl rfl rfl T hr
    obtain ⟨f1', fd1, F1, m1, k1, b1⟩ := RF.ex
    obtain ⟨f2', fd2, F2, m2, k2, b2⟩ := RH.ex
    have tk : Takes (cxOf (L2.CX P w) P w K mg base C_first_house.N "first_house" (defScope s_first_house) f cdv A outer s H E) (fun cls d _ H' => E cls d H') := takes_of rfl rfl rfl rfl
    rcases hq with ⟨hi, hq⟩ | ⟨hi, hj, hq⟩
    · refine ⟨_, pss_cons (ps_expr (pe_callS F1 hr rfl m1 k1 b1 (fun σ => passAt tk σ) (pa_nox ((snd_all (fsN n) 60).A ok (as := .cons (.var 0) .nil) (by rfl))))) (((snd_sb (fsN n) 60).2 _ C_first_house _ (tlB ir_first_house) ok (by rfl)).nox), ?_⟩
      refine call_in (start_rel r) hs QX ?_ fin
      simp only [DW.wG, DW.wGs, gsLen, List.set_cons_succ, List.set_cons_zero, wB, wS, DW.wT, DW.wTs, DW.wE, DW.wA, DW.wO, DW.wI, List.getElem?_cons_succ, List.getElem?_cons_zero, cmp_eq, cmp_ne, cmp_in, cmp_nin, inA_tup, inA_ktup, op_shl', op_shr', op_and', op_or', op_xor', is_bl, isn_bl, iter_ktup, cmp_lt, cmp_le, cmp_gt, cmp_ge, tru_non, tru_bl, tru_int, tru_tup, op_addi, op_subi, op_muli, op_divi, op_modi, op_powi, op_addt, op_rept, len_tup, len_rol, idx_tup, idx_rol, slc_tup, iter_tup, iter_rol, eqc_int, LIM, Nat.reduceLeDiff, dBlt, dInt1, defEnds, startD, List.map_cons, List.map_nil, List.length_cons, List.length_nil, List.replicate_succ, List.replicate_zero, List.cons_append, List.nil_append, Nat.reduceAdd, Nat.reduceSub, isRef, Nat.zero_add, and_true, true_and, if_true, Bool.false_eq_true, if_false]
      exact ⟨d, rfl, hd, hi, hq⟩
    · refine ⟨_, pss_cons (ps_nox ((snd_sb (fsN n) 60).1 _ C_first_house _ (.expr (.fn 5 (.cons (.var 0) .nil))) ok (by rfl))) (pss_cons (ps_expr (pe_callS F2 hr rfl m2 k2 b2 (fun σ => passAt tk σ) (pa_nox ((snd_all (fsN n) 60).A ok (as := .cons (.var 1) .nil) (by rfl))))) (((snd_sb (fsN n) 60).2 _ C_first_house _ (tlB (tlB ir_first_house)) ok (by rfl)).nox)), ?_⟩
      refine ⟨startD C_first_house.N [d, e], S, φ, { nx := fun ρ' S' => ρ' = startD C_first_house.N [d, e] ∧ S' = S, rt := fun _ _ => False, bk := fun _ _ => False, ct := fun _ _ => False }, start_rel r, hs, ?_, ?_⟩
      · simp only [DW.wG, DW.wGs, gsLen, List.set_cons_succ, List.set_cons_zero, wB, wS, DW.wT, DW.wTs, DW.wE, DW.wA, DW.wO, DW.wI, List.getElem?_cons_succ, List.getElem?_cons_zero, cmp_eq, cmp_ne, cmp_in, cmp_nin, inA_tup, inA_ktup, op_shl', op_shr', op_and', op_or', op_xor', is_bl, isn_bl, iter_ktup, cmp_lt, cmp_le, cmp_gt, cmp_ge, tru_non, tru_bl, tru_int, tru_tup, op_addi, op_subi, op_muli, op_divi, op_modi, op_powi, op_addt, op_rept, len_tup, len_rol, idx_tup, idx_rol, slc_tup, iter_tup, iter_rol, eqc_int, LIM, Nat.reduceLeDiff, dBlt, dInt1, defEnds, startD, List.map_cons, List.map_nil, List.length_cons, List.length_nil, List.replicate_succ, List.replicate_zero, List.cons_append, List.nil_append, Nat.reduceAdd, Nat.reduceSub, isRef, Nat.zero_add, and_true, true_and, if_true, Bool.false_eq_true, if_false, f5]
        exact ⟨by omega, d, rfl, hd, hi, rfl⟩
      · refine ⟨fun ρ' S' σ' H' φ' l t er sr z => ?_, fun _ _ _ _ _ _ _ _ _ z => z.elim, fun _ _ _ _ _ _ _ _ _ z => z.elim, fun _ _ _ _ _ _ _ _ _ z => z.elim⟩
        obtain ⟨rfl, rfl⟩ := z
        refine call_in er sr QX ?_ fun c C S2 φ2 H2 hc l2 t2 s2 q2 => fin c C S2 φ2 H2 hc (l.trans l2) (t.trans t2) s2 q2
        simp only [DW.wG, DW.wGs, gsLen, List.set_cons_succ, List.set_cons_zero, wB, wS, DW.wT, DW.wTs, DW.wE, DW.wA, DW.wO, DW.wI, List.getElem?_cons_succ, List.getElem?_cons_zero, cmp_eq, cmp_ne, cmp_in, cmp_nin, inA_tup, inA_ktup, op_shl', op_shr', op_and', op_or', op_xor', is_bl, isn_bl, iter_ktup, cmp_lt, cmp_le, cmp_gt, cmp_ge, tru_non, tru_bl, tru_int, tru_tup, op_addi, op_subi, op_muli, op_divi, op_modi, op_powi, op_addt, op_rept, len_tup, len_rol, idx_tup, idx_rol, slc_tup, iter_tup, iter_rol, eqc_int, LIM, Nat.reduceLeDiff, dBlt, dInt1, defEnds, startD, List.map_cons, List.map_nil, List.length_cons, List.length_nil, List.replicate_succ, List.replicate_zero, List.cons_append, List.nil_append, Nat.reduceAdd, Nat.reduceSub, isRef, Nat.zero_add, and_true, true_and, if_true, Bool.false_eq_true, if_false]
        exact ⟨e, rfl, he, hj, hq⟩
def xpHow : XSp := xpF
theorem okR_how {k n : Nat} {f : Addr} {fd : FuncData} {CL : List (Str × Addr)} (F : Fun K "how" "how" s_how f fd) (T : Top P w K mg base k (fsN n) C_how) (hn : 15 ≤ n)
    (RF : RDef P w K mg base k "check_formula" ["value"] (spR K CL xpF)) :
    FnOk P w K mg base (L2.CX P w) (k + 1) f fd ["formula"] (spR K CL xpF) := by
  refine F.okX sc_how (fun vs H Q E h => ?_) (fun cdv A outer s H vs Q E hr h => ?_)
  · obtain ⟨ds, S, φ, QX, r, _, ⟨d, rfl, _⟩, _⟩ := h
    exact r.length
  · obtain ⟨ds, S, φ, QX, r, hs, ⟨d, rfl, hd, hi, hq⟩, fin⟩ := h
    have ok := cx_ok (CXx := L2.CX P w) (qual := "how") (f := f) (cdv := cdv) (outer := outer) (s := s) (H := H) (E := E) sc_how rfl rfl rfl rfl T hr
    obtain ⟨f1', fd1, F1, m1, k1, b1⟩ := RF.ex
    have tk : Takes (cxOf (L2.CX P w) P w K mg base C_how.N "how" (defScope s_how) f cdv A outer s H E) (fun cls d _ H' => E cls d H') := takes_of rfl rfl rfl rfl
    refine ⟨_, pss_cons (ps_expr (pe_callS F1 hr rfl m1 k1 b1 (fun σ => passAt tk σ) (pa_nox ((snd_all (fsN n) 60).A ok (as := .cons (.var 0) .nil) (by rfl))))) (((snd_sb (fsN n) 60).2 _ C_how _ (tlB ir_how) ok (by rfl)).nox), ?_⟩
    refine call_in (start_rel r) hs QX ?_ fin
    simp only [DW.wG, DW.wGs, gsLen, List.set_cons_succ, List.set_cons_zero, wB, wS, DW.wT, DW.wTs, DW.wE, DW.wA, DW.wO, DW.wI, List.getElem?_cons_succ, List.getElem?_cons_zero, cmp_eq, cmp_ne, cmp_in, cmp_nin, inA_tup, inA_ktup, op_shl', op_shr', op_and', op_or', op_xor', is_bl, isn_bl, iter_ktup, cmp_lt, cmp_le, cmp_gt, cmp_ge, tru_non, tru_bl, tru_int, tru_tup, op_addi, op_subi, op_muli, op_divi, op_modi, op_powi, op_addt, op_rept, len_tup, len_rol, idx_tup, idx_rol, slc_tup, iter_tup, iter_rol, eqc_int, LIM, Nat.reduceLeDiff, dBlt, dInt1, defEnds, startD, List.map_cons, List.map_nil, List.length_cons, List.length_nil, List.replicate_succ, List.replicate_zero, List.cons_append, List.nil_append, Nat.reduceAdd, Nat.reduceSub, isRef, Nat.zero_add, and_true, true_and, if_true, Bool.false_eq_true, if_false]
    exact ⟨d, rfl, hd, hi, hq⟩
end
end K03

set_option Elab.async false
set_option linter.all false
set_option maxRecDepth 100000
set_option maxHeartbeats 1000000

namespace K03
open PySem PySem.Spec PyProof.Rows L2 DW
variable [Tb : Tbl]

/-! ### the def that tells an error's word -/
abbrev s__law_word : Stmt := top 51
abbrev NW : List Str := ["_law_call", "_law_found"]
theorem sc__law_word : FnScope NW ["_law_call"] (defScope s__law_word) := ⟨rfl, rfl, rfl, by decide +kernel, rfl, by decide +kernel, by decide +kernel⟩
/-- the classes' words -/
def chain (K : PySem.W.Frag) (CF CH CT : Addr) (Q : VK) : XK := fun cls _ H' => ∃ b, PySem.W.exmOne K cls (.ref CF) = some b ∧ (b = true → Q (.str "formula") H') ∧ (b = false →
  ∃ b2, PySem.W.exmOne K cls (.ref CH) = some b2 ∧ (b2 = true → Q (.str "house") H') ∧ (b2 = false →
  ∃ b3, PySem.W.exmOne K cls (.ref CT) = some b3 ∧ (b3 = true → Q (.str "truth") H') ∧ (b3 = false → False)))
def TW (K : PySem.W.Frag) (CF CH CT : Addr) : (XK → Hp → VK → Prop) → Hp → VK → Prop := fun tl H Q => tl (chain K CF CH CT Q) H fun _ H' => ∃ v : V, (some (some (V.str "")) : Option (Option V)) = some (some v) ∧ Q v H'
theorem takes_len {X : Cx} {W : WX} {n : Nat} (hN : X.N.length = n) (tk : Takes X W) : Takes X (fun cls d σ H => σ.length = n → W cls d σ H) := fun u s' ⟨a, B, sI, pins, σ, H, cls, d, e, I, nb, up, sky, na, os, ag, w⟩ =>
  tk u s' ⟨a, B, sI, pins, σ, H, cls, d, e, I, nb, up, sky, na, os, ag, w (I.len.trans hN)⟩
theorem word_gives {X : Cx} {q : Str} {g CF CH CT : Addr} {cdg : Value} (hF : X.mg "InvalidFormula" = some (.ref CF)) (hH : X.mg "InvalidHouse" = some (.ref CH)) (hT : X.mg "InvalidTruth" = some (.ref CT)) :
    LamX.GivesTo X NW "_law_word" (defScope s__law_word) g cdg (defBody s__law_word) "_law_call" q (TW X.K CF CH CT) := by
  intro f c' s H Q tl act hc h
  refine ⟨_, pss_cons (ps_set (i := 1) sc__law_word.nd rfl (Or.inl rfl) pe_str) (pss_cons (ps_try_many
      (tb := fun W D σ H => ∃ Ech : XK, (∀ cls d σ' H', σ'.length = 2 → Ech cls d H' → W cls d σ' H') ∧ σ[0]? = some (some (.ref f)) ∧ H c' = some (LamX.CodeO c' q) ∧ tl Ech H (fun _ H' => D.nx σ H'))
      rfl rfl LamX.takes0 (fun W pn xe tk _ => ?_)
      (.cons (c := .ref CF) ⟨rfl, by decide, .inl hF⟩ (fun a oe cls d pn _ _ => pss_one (ps_set (i := 1) sc__law_word.nd rfl (Or.inl rfl) pe_str))
        (.cons (c := .ref CH) ⟨rfl, by decide, .inl hH⟩ (fun a oe cls d pn _ _ => pss_one (ps_set (i := 1) sc__law_word.nd rfl (Or.inl rfl) pe_str))
          (.cons (c := .ref CT) ⟨rfl, by decide, .inl hT⟩ (fun a oe cls d pn _ _ => pss_one (ps_set (i := 1) sc__law_word.nd rfl (Or.inl rfl) pe_str)) .nil))))
      (pss_one (ps_ret (pe_var (i := 1) rfl (Or.inl rfl))))), ?_⟩
  · refine ⟨fun pins s' σ H' D I h' => ?_⟩
    obtain ⟨Ech, hW, h1, h2, h3⟩ := h'
    have hp := act (fun cls d σ H => σ.length = 2 → W cls d σ H) pn xe Ech
    have hq := fun p1 p2 p3 => pss_one (ps_expr (pos := p3) (hp p1 p2 (takes_len rfl tk) fun cls d σ' H' z l => hW cls d σ' H' l z))
    exact (hq _ _ _).run pins s' σ H' D I ⟨h1, h2, h3⟩
  · have at1 : ∀ (σ' : L2.St) (v : Option V), σ'.length = 2 → (σ'.set 1 v)[1]? = some v := fun σ' v l => List.getElem?_set_self (by omega)
    refine ⟨chain X.K CF CH CT Q, fun cls d σ' H' hl ⟨b, e1, e2, e3⟩ => ⟨b, e1, fun hb a _ => ⟨_, at1 σ' _ hl, e2 hb⟩, fun hb => ?_⟩, rfl, hc, h⟩
    obtain ⟨b2, e4, e5, e6⟩ := e3 hb
    refine ⟨b2, e4, fun hb a _ => ⟨_, at1 σ' _ hl, e5 hb⟩, fun hb => ?_⟩
    obtain ⟨b3, e7, e8, e9⟩ := e6 hb
    exact ⟨b3, e7, fun hb a _ => ⟨_, at1 σ' _ hl, e8 hb⟩, fun hb => e9 hb⟩

/-! ### a lambda handed to it -/
def wordC : Str → Option Str := fun c => ([("InvalidFormula", "formula"), ("InvalidHouse", "house"), ("InvalidTruth", "truth")] : List (Str × Str)).lookup c
/-- what the module's errors show -/
structure Errs (K : PySem.W.Frag) (mg : Str → Option Value) (CF CH CT : Addr) : Prop where
  F : ErrAt K mg "InvalidFormula" CF
  H : ErrAt K mg "InvalidHouse" CH
  T : ErrAt K mg "InvalidTruth" CT
  FF : PySem.W.exmOne K (.ref CF) (.ref CF) = some true
  HF : PySem.W.exmOne K (.ref CH) (.ref CF) = some false
  HH : PySem.W.exmOne K (.ref CH) (.ref CH) = some true
  TF : PySem.W.exmOne K (.ref CT) (.ref CF) = some false
  TH : PySem.W.exmOne K (.ref CT) (.ref CH) = some false
  TT : PySem.W.exmOne K (.ref CT) (.ref CT) = some true
def CLs (CF CH CT : Addr) : List (Str × Addr) := [("InvalidFormula", CF), ("InvalidHouse", CH), ("InvalidTruth", CT)]
theorem chain_ok {K : PySem.W.Frag} {mg : Str → Option Value} {CF CH CT : Addr} (Er : Errs K mg CF CH CT) {Q : VK} {c wd : Str} {C : Addr} {H' : Hp} (hc : (CLs CF CH CT).lookup c = some C) (hw : wordC c = some wd) (q : Q (.str wd) H') : chain K CF CH CT Q (.ref C) none H' := by
  unfold CLs at hc
  unfold wordC at hw
  by_cases h1 : c = "InvalidFormula"
  · subst h1
    obtain rfl : CF = C := Option.some.inj hc
    obtain rfl : "formula" = wd := Option.some.inj hw
    exact ⟨true, Er.FF, fun _ => q, (fun z => nomatch z)⟩
  by_cases h2 : c = "InvalidHouse"
  · subst h2
    obtain rfl : CH = C := Option.some.inj hc
    obtain rfl : "house" = wd := Option.some.inj hw
    exact ⟨false, Er.HF, (fun z => nomatch z), fun _ => ⟨true, Er.HH, fun _ => q, (fun z => nomatch z)⟩⟩
  by_cases h3 : c = "InvalidTruth"
  · subst h3
    obtain rfl : CT = C := Option.some.inj hc
    obtain rfl : "truth" = wd := Option.some.inj hw
    exact ⟨false, Er.TF, (fun z => nomatch z), fun _ => ⟨false, Er.TH, (fun z => nomatch z), fun _ => ⟨true, Er.TT, fun _ => q, (fun z => nomatch z)⟩⟩⟩
  · have b1 : (c == ("InvalidFormula" : Str)) = false := by simpa using h1
    have b2 : (c == ("InvalidHouse" : Str)) = false := by simpa using h2
    have b3 : (c == ("InvalidTruth" : Str)) = false := by simpa using h3
    simp only [List.lookup, b1, b2, b3] at hc
    cases hc
/-- what a lambda's making asks -/
structure LamTxt (X : Cx) : Prop where
  word : ∃ (g : Addr) (oc : Value) (od : Option Addr) (kV doc pm : Value) (an : Option Addr) (cdv ct : Value) (osl : Array (Option Value)), X.mg "_law_word" = some (.ref g) ∧ PySem.W.keepIn X.K (.ref g) = true ∧
    X.K.lookup g = some ⟨oc, od, .func (PySem.W.fnOf "_law_word" "_law_word" (defArgs s__law_word) (defBody s__law_word) (defScope s__law_word) .none kV doc pm an cdv ct), osl⟩ ∧ PySem.W.codeIn X.K cdv "_law_word" = true ∧
    L2.Binds X.K (PySem.W.fnOf "_law_word" "_law_word" (defArgs s__law_word) (defBody s__law_word) (defScope s__law_word) .none kV doc pm an cdv ct) ["_law_call"] []
  tab : ∃ (c P : Addr), LamX.TabB X.base X.mg c P ∧ X.env.code = .ref c ∧ (P, X.env.qual ++ "<lambda>") ∈ Tb.t ∧ ∀ p ∈ Tb.t, p.1 = P → p.2 = X.env.qual ++ "<lambda>"
theorem tup_of {H H1 : Hp} (e : LamX.ExtN H H1) (t : LamX.Tabs Tb.t H1) : TupLe H H1 :=
  ⟨⟨fun a xs h => e a _ h (fun ps z => by cases z), fun a o u h => e a _ h (fun ps z => by cases z), fun _ => t⟩, fun a u h => e a _ h (fun ps z => by cases z)⟩
theorem srel_of {K : PySem.W.Frag} {φ : List Addr} {S : Sto} {H H1 : Hp} (s : SRel K φ S H) (e : LamX.ExtN H H1) (t : LamX.Tabs Tb.t H1) : SRel K φ S H1 := by
  have tl := tup_of e t
  refine ⟨s.len, s.nd, fun n a o h1 h2 => ?_, t⟩
  have r := s.ob n a o h1 h2
  cases o with
  | lst ds =>
    obtain ⟨vs, e1, q⟩ := r
    exact ⟨vs, e a _ e1 (fun ps z => by cases z), q.mono (Le.refl _) tl⟩
  | dct ds =>
    obtain ⟨vs, e1, k, q⟩ := r
    exact ⟨vs, e a _ e1 (fun ps z => by cases z), k, q.mono (Le.refl _) tl⟩
theorem lam_core {X : Cx} {fs : List FSp} {i k : Nat} {CF CH CT : Addr} {ps : List Str} {fn : Str} {xp : XSp} {sp : FSp} {e : Expr} {r : List Expr} {scope : Scope} {aa : IA} {fp cp lp pn p : Pos}
    (hi : fs[i]? = some sp) (hsp : ∀ ds S Q, sp ds S Q → xp ds S fun c S' => ∃ wd, wordC c = some wd ∧ Q (.str wd) S') (RD : RDef X.prog X.w X.K X.mg X.base k fn ps (spR X.K (CLs CF CH CT) xp)) (Er : Errs X.K X.mg CF CH CT) (L : LamTxt X) (hr : Room (k + 2) X.A)
    (hLS : LamX.LamS X.env.scope scope) (hfn : scope.names.lookup fn = some .globalImplicit) (hdb : (fn == ("__debug__" : Str)) = false) (hg : Gl X "_law_word")
    (hst : ∀ env : Env, starEach (e :: r) env = (false, eval e env) :: starEach r env ∧ (starEach r env).any (·.1) = false)
    (hA : ∀ (A : Around) (outer : List Env) (s : Shared) (H : Hp) (E : XK) (f c' : Addr), (A.deeper (LamX.lamEnv X scope s.heap.objs.size f c')).units + 66 < cLine → PA (LamX.lamCx X A outer s H E scope f c').nox (e :: r) (sA fs X.K aa)) :
    PE X (.Call (.Name "_law_word" pn) [.Lambda ⟨[], [], none, [], [], none, []⟩ (.Call (.Name fn fp) (e :: r) [] cp) scope lp] [] p) (sE fs X.K (.fn i aa)) := by
  obtain ⟨g, oc, od, kV, doc, pm, an, cdv, ct, osl, hm, hk, lk, hcg, hb⟩ := L.word
  obtain ⟨c, P, TB, hcode, hmT, hu⟩ := L.tab
  obtain ⟨f', fd', F', m', k', b'⟩ := RD.ex
  refine (LamX.pe_lamcall (T := Tb.t) (TT := TW X.K CF CH CT) (k := k) (Ng := NW) (t := fun E => tCallS (spR X.K (CLs CF CH CT) xp) (WE fun cls d _ H' => E cls d H') (sA fs X.K aa)) hg hm hk lk hcg hb sc__law_word rfl (Or.inl rfl) (word_gives Er.F.g Er.H.g Er.T.g) TB hcode hmT hu hr hLS rfl (fun _ _ _ _ _ => rfl) (fun A outer s H E f c' hr2 => ?_)).sub fun σ H Q ⟨ρ, S, φ, QD, hee, hs, hw, hp⟩ => ?_
  · have un : (A.deeper (LamX.lamEnv X scope s.heap.objs.size f c')).units + 66 < cLine := by
      have := hr2.un
      omega
    have tk : Takes (LamX.lamCx X A outer s H E scope f c') (fun cls d _ H' => E cls d H') := takes_of rfl rfl rfl rfl
    exact pe_callS (X := LamX.lamCx X A outer s H E scope f c') F' hr2 hfn m' k' b' (fun σ => passAt tk σ) (pa_nox (hA A outer s H E f c' un)) hdb (hst _).1 (by rw [backTo_any]; exact (hst _).2)
  · simp only [DW.wE, hi] at hw
    refine ⟨hs.tb, fun H1 eN T1 => ?_⟩
    have tl := tup_of eN T1
    refine ⟨ρ, S, φ, fun ds S1 => sp ds S1 QD, hee.mono (Le.refl _) tl, srel_of hs eN T1, hw, fun ds S1 vs H2 φ2 l2 t2 s2 r2 q2 => ?_⟩
    refine ⟨ds, S1, φ2, _, r2, s2, hsp ds S1 QD q2, fun c C S' φ' H' hc l3 t3 s3 q3 => ?_⟩
    obtain ⟨wd, w1, w2⟩ := q3
    exact chain_ok Er hc w1 (hp (.str wd) S' (.str wd) H' φ' (l2.trans l3) ((tl.trans t2).trans t3) s3 (.str wd) w2)
end K03

set_option Elab.async false
set_option linter.all false
set_option maxRecDepth 100000
set_option maxHeartbeats 1000000

namespace K03
open PySem PySem.Spec PyProof.Rows L2 DW
open PySem.W (kla_obj kla_fn envX KeyPure AllAlike Sortable EachIs)
variable [Tb : Tbl]

theorem reads_ints {h : Heap} : ∀ {us : List Value} {ns : List Int}, Vals (ns.map V.int) us → ReadsAll h us (ns.map PyData.int) []
  | us, [], r => by
    cases r
    exact .nil
  | us, n :: ns, r => by
    cases r with
    | cons r t =>
      obtain ⟨t', e⟩ : ∃ t', _ = Value.int n t' := r
      subst e
      exact .cons (as := []) (.int n t') (reads_ints t)
theorem rep_tI {K : PySem.W.Frag} {φ : List Addr} {H : Hp} {x : V} {ns : List Int} (r : Rep K φ H x (tI ns)) : ∃ a, x = .ref a ∧ SqT K H a (ns.map V.int) := by
  cases r with
  | @tup a vs ds h1 r1 =>
    have := ints_vs r1 (allI_map ns)
    subst this
    exact ⟨a, rfl, SqT.of h1⟩
/-- lambda x: (sum(x), x) of a tuple of ints -/
theorem key_turn {X : Cx} {pins : List (Addr × Obj)} {σ : L2.St} {H : Hp} {s : Shared} {φ : List Addr} {f c' : Addr} {q hN : Str} {pm ctv v : Value} {params : Arguments} {scope : Scope} {cl : List (Str × Addr)} {ns : List Int} {A : Around} {psu p1 pc p2 pt : Pos} {k : Nat} (I : Inv X pins σ H s)
    (hf : s.heap.get? f = some (kla_obj "<lambda>" q params (.Tuple [.Call (.Name "sum" psu) [.Name hN p1] [] pc, .Name hN p2] k pt) scope cl pm c' ctv)) (hco : H c' = some (LamX.CodeO c' q))
    (hnm : scope.names = [(hN, .local), ("sum", .globalImplicit)]) (hk : scope.kind = .function) (hcr : scope.isCoroutine = false) (hgn : scope.isGenerator = false) (hne : hN ≠ "sum") (hdb : (hN == ("__debug__" : Str)) = false)
    (hbind : bindArgs (kla_fn "<lambda>" q params (.Tuple [.Call (.Name "sum" psu) [.Name hN p1] [] pc, .Name hN p2] k pt) scope cl pm (.ref c') ctv) ⟨[v], []⟩ = pure [(hN, v)])
    (Rv : ∃ x, L2.RelV x v ∧ Rep X.K φ H x (tI ns)) (hh : A.handled = none) (hd : A.depth < recursionLimit) (hsum : X.mg "sum" = none) :
    wpAny (model X.prog X.w) A (call (.ref f) [v]) (KeyPure (keySum ns) s) (fun _ _ => False) s := by
  obtain ⟨x, rx, qx⟩ := Rv
  obtain ⟨a, rfl, ht⟩ := rep_tI qx
  obtain rfl : v = Value.ref a := rx
  obtain ⟨⟨oc, vs, t, hoc, hdc, hvc⟩, _, _⟩ := I.hok c' _ hco
  have lk1 : scope.names.lookup hN = some .local := by rw [hnm]; simp [List.lookup]
  have lk2 : scope.names.lookup ("sum" : Str) = some .globalImplicit := by
    rw [hnm]
    have : (("sum" : Str) == hN) = false := by simpa using fun e => hne e.symm
    simp [List.lookup, this]
  refine wpAny_call ?_
  refine PySem.W.kla_callFunE hd hf rfl hcr hgn rfl ⟨c', oc, vs, t, rfl, hoc, hdc, hvc⟩ ?_
  rw [hbind]
  refine wpAny_pure (wpAny_newFunctionEnv (fun y hy => ?_) (fun y hy => ?_) (fun h₁ hns hsb => ⟨I.nolimit.fresh _ hsb, ?_⟩) hk)
  · rw [hnm] at hy
    simp only [List.mem_cons, List.not_mem_nil, or_false] at hy
    rcases hy with rfl | rfl <;> exact fun z => NameKind.noConfusion z
  · rw [List.mem_singleton.mp hy]; exact lk1
  · have kp : ∀ b o, s.heap.get? b = some o → h₁.get? b = some o := fun b o e => hsb.extBut b o (Nat.ne_of_lt (Heap.lt_size e)) (Heap.get?_push_of_some _ e)
    refine PySem.W.kla_codeExpr ?_
    have I1 : Inv X pins σ H { s with heap := h₁, toks := s.toks + ([(hN, Value.ref a)] : List (Str × Value)).length } := I.kept kp
    have glob := I1.mod.glob.keeps I1.bk
    obtain ⟨mb, b1, b2⟩ := I1.mod.blt
    have ldx : ∀ (A' : Around) (s2 : Shared) (pos : Pos) (Q : Value → Shared → Prop) (E : Value → Shared → Prop) (L : Addr) (code : Value) , s2.heap.Ns L (fun y => ([(hN, Value.ref a)] : List (Str × Value)).reverse.lookup y) → Q (.ref a) s2 →
        wpAny (model X.prog X.w) A' (eval (.Name hN pos) (envX q scope L f code cl)) Q E s2 := fun A' s2 pos Q E L code hn hq =>
      wpAny_Name (wpAny_loadName_local hk lk1 hn (by simp [List.lookup]) hq) hdb
    let E1 : Env := envX q scope s.heap.objs.size f (.ref c') cl
    let s1 : Shared := { s with heap := h₁, toks := s.toks + ([(hN, Value.ref a)] : List (Str × Value)).length }
    show wpAny (model X.prog X.w) (A.deeper E1) (eval (.Tuple [.Call (.Name "sum" psu) [.Name hN p1] [] pc, .Name hN p2] k pt) E1) _ _ s1
    refine wpAny_Tuple_spliced ?_
    show wpAny _ _ (spliced ((false, eval (.Call (.Name "sum" psu) [.Name hN p1] [] pc) E1) :: (false, eval (.Name hN p2) E1) :: [])) _ _ s1
    refine Calls.spliced_cons (wpAny_Call_Name_kw (Calls.Name_function_global hk lk2 (Calls.loadGlobal_builtin glob hsum (b1.keeps I1.bk) ((b2 _ (by decide)).trans (by rfl : bootBuiltins "sum" = some (.builtin "sum"))) ?_)))
    refine PyProof.Rows.callWith_builtin1 ?_ (by rfl) (by rfl)
    show wpAny _ _ (spliced ((false, eval (.Name hN p1) E1) :: [])) _ _ s1
    refine Calls.spliced_cons (ldx _ _ _ _ _ _ _ hns (Calls.spliced_nil ?_))
    refine sum_tupV hh I1 ht fun h' tk t' hk' => ?_
    have I2 : Inv X pins σ H { s1 with heap := h', toks := tk } := I1.kept hk'
    refine Calls.spliced_cons (ldx _ _ _ _ _ _ _ (hns.keeps hk') (Calls.spliced_nil ⟨by show 2 ≤ sizeLine; decide, ?_⟩))
    obtain ⟨its, rv, ⟨ot, ho, hcl, nn, hdat⟩, _⟩ := I2.tuple ht
    have up : ∀ b o, h'.get? b = some o → (h'.push { cls := .type "tuple", data := .seq #[Value.int ns.sum t', Value.ref a] }).get? b = some o := fun b o e => Heap.get?_push_of_some _ e
    refine ⟨_, tk, rfl, fun b o e => up b o (hk' b o (kp b o e)), ?_⟩
    refine .tuple (Heap.get?_push_size _ rfl) rfl rfl ?_
    refine .cons (as := []) (.int _ _) (.cons (as := []) (.tuple (up _ _ ho) hcl hdat (by rw [List.toList_toArray]; exact reads_ints rv)) .nil)

theorem bind_one {q hN : Str} {pa : Pos} {body : Expr} {scope : Scope} {cl : List (Str × Addr)} {pm cdv ctv v : Value} : bindArgs (kla_fn "<lambda>" q ⟨[], [⟨hN, none, pa⟩], none, [], [], none, []⟩ body scope cl pm cdv ctv) ⟨[v], []⟩ = pure [(hN, v)] := by
  have e : (hN == hN) = true := by simp
  have e0 : seqItems? Value.none = pure none := rfl
  unfold bindArgs
  simp only [kla_fn, List.map_cons, List.map_nil, List.nil_append, List.append_nil, List.zip_cons_cons, List.zip_nil_right, List.length_cons, List.length_nil, List.forIn_nil, pure_bind, e0, Option.getD]
  simp [List.lookup, e]
theorem sumKey_inv {ks : List Keyword} (h : (isSumKey ks).isSome = true) : ∃ (hN : Str) (pa psu p1 pc p2 pt lpos kp : Pos) (kk : Nat) (scope : Scope), ks = [⟨some "key", .Lambda ⟨[], [⟨hN, none, pa⟩], none, [], [], none, []⟩ (.Tuple [.Call (.Name "sum" psu) [.Name hN p1] [] pc, .Name hN p2] kk pt) scope lpos, kp⟩] ∧
    hN ≠ "sum" ∧ okName hN = true ∧ scope.names = [(hN, .local), ("sum", .globalImplicit)] ∧ scope.kind = .function ∧ scope.isCoroutine = false ∧ scope.isGenerator = false := by
  unfold isSumKey at h
  split at h
  · split at h
    · split at h
      · rename_i hc
        obtain ⟨rfl, rfl, rfl, rfl, c1, c2, c3, c4, c5, c6⟩ := hc
        exact ⟨_, _, _, _, _, _, _, _, _, _, _, rfl, c1, c2, c3, c4, c5, c6⟩
      · cases h
    · cases h
  · cases h
theorem each_tI {K : PySem.W.Frag} {φ : List Addr} {H : Hp} : ∀ {vs : List V} {its : List Value} {nss : List (List Int)}, Vals vs its → RepL K φ H vs (nss.map tI) → EachIs (fun v ns => ∃ x, L2.RelV x v ∧ Rep K φ H x (tI ns)) its nss
  | _, _, [], .nil, .nil => .nil
  | _, _, _ :: _, .cons r t, .cons q u => .cons ⟨_, r, q⟩ (each_tI t u)
theorem srt_core {X : Cx} {fs : List FSp} {i n : Nat} (hi : fs[i]? = some (lv n 0 spSrtK)) (hso : X.mg "sorted" = none) (hsu : X.mg "sum" = none)
    (tab : ∃ (c P : Addr), LamX.TabB X.base X.mg c P ∧ X.env.code = .ref c ∧ (P, X.env.qual ++ "<lambda>") ∈ Tb.t ∧ ∀ p ∈ Tb.t, p.1 = P → p.2 = X.env.qual ++ "<lambda>") (hr : Room 0 X.A) : SrtOk fs X i := by
  intro a ks pn p y hks hg ha hst
  obtain ⟨hN, pa, psu, p1, pc, p2, pt, lpos, kp, kk, scope, rfl, hne, hok, hnm, hk, hcr, hgn⟩ := sumKey_inv hks
  obtain ⟨hn0, hdb⟩ := ok_name hok
  obtain ⟨c, P, TB, hcode, hmT, hu⟩ := tab
  refine ⟨fun pins s σ H Q I h => ?_⟩
  obtain ⟨ρ, S, φ, QD, hee, hs, hw, hp⟩ := h
  simp only [DW.wE, DW.wA, hi] at hw
  have hA : PA X [a] (sA fs X.K (.cons y .nil)) := snd_acons ha snd_anil (by rw [hst]; rfl)
  refine wpAny_Call_Name_kw (ld_blt I hg hso (by rfl : bootBuiltins "sorted" = some (.builtin "sorted")) ?_)
  refine PyProof.Rows.callWith_kw (thn (hA.run p pins s σ H (fun vs H1 => ∃ (ds : List D) (S1 : Sto) (φ1 : List Addr), Le φ φ1 ∧ TupLe H H1 ∧ SRel X.K φ1 S1 H1 ∧ RepL X.K φ1 H1 vs ds ∧ lv n 0 spSrtK ds S1 QD) I
    ⟨ρ, S, φ, fun ds S1 => lv n 0 spSrtK ds S1 QD, hee, hs, hw, fun ds S1 vs H1 φ1 l t s1 r q => ⟨ds, S1, φ1, l, t, s1, r, q⟩⟩) fun us s1 ⟨vs, H1, I1, rv, ds, S1, φ1, l1, t1, hs1, rl, hq⟩ => ?_) (by rw [hst]; rfl) (by rw [hst]; rfl)
  obtain ⟨_, x, rfl, hq⟩ := hq
  obtain ⟨v, rfl, rv1⟩ := repL1 rl
  cases x with
  | ref m =>
    obtain ⟨nss, e1, hz, q⟩ := hq
    cases rv1 with
    | @ref ad _ hm =>
      rw [Vals.ref1 rv]
      refine PyProof.Rows.kws_cons (LamX.lam_make2 I1 TB hcode hmT hu hs1.tb (by rfl) (fun y hy hfr => ?_) fun f c' pm ctv H2 s2 I2 eN T2 hf hfn hfr hco => PyProof.Rows.kws_nil ?_)
      · rw [hnm] at hy
        simp only [List.mem_cons, List.not_mem_nil, or_false] at hy
        rcases hy with rfl | rfl <;> cases hfr
      · have hs2 := srel_of hs1 eN T2
        have tl2 := tup_of eN T2
        obtain ⟨ws, f1, r1⟩ := hs2.ob _ _ _ hm e1
        obtain ⟨its, rv2, hl, hz2⟩ := I2.list (SqL.of f1)
        show wpAny _ _ (call (.builtin "sorted") [.ref ad] [(Str.ofString "key", .ref f)]) _ _ s2
        refine PySem.W.sorted_key_data (b := false) (bs := nss) keySum hl.isList (each_tI rv2 r1) (PySem.W.AllAlike.of fun x y => alike_keys x y) (PySem.W.Sortable.tuples fun _ => ⟨_, _, rfl⟩) (lim_le hz) (fun x _ => ?_) (PyProof.Rows.ksk_s1 _ _) (fun _ => PyProof.Rows.ksk_l1 _ _) (fun _ => PyProof.Rows.ksk_t1 _ _)
          (fun v ns hR hx h tk kp2 => ?_) fun out c2 h' tk kp2 _ hD ho eo => ?_
        · have := depth_key x
          have := hr.un
          omega
        · exact key_turn (I2.kept kp2) (kp2 _ _ hf) hco hnm hk hcr hgn hne hdb bind_one hR hr.hd (by have := hr.dp; show X.A.depth < _; omega) hsu
        · obtain ⟨us2, w1, w2⟩ := each_back eo
          have hle : us2.length ≤ sizeLine := by
            rw [w1.length, ho]; exact lim_le hz
          have np : H2 (s2.heap.objs.size + 1) = none := I2.hok.fresh (Nat.le_succ _)
          exact ⟨.ref (s2.heap.objs.size + 1), _, I2.laid (a := s2.heap.objs.size + 1) (o := .lst us2) (t' := tk) kp2 (Nat.le_succ _) ⟨hle, out, c2, w1, hD⟩, rfl, (hp.mono l1 (t1.trans tl2)).lst hs2 w2 q np⟩
  | _ => exact hq.elim
end K03

set_option Elab.async false
set_option linter.all false
set_option maxRecDepth 100000
set_option maxHeartbeats 1000000

namespace K03
open PySem PySem.Spec PyProof.Rows L2 DW

/-! ### the module's own part -/
theorem look_mem {α β : Type} [BEq α] [LawfulBEq α] {x : α} {d : β} : ∀ {l : List (α × β)}, l.lookup x = some d → (x, d) ∈ l
  | [], h => by cases h
  | (y, e) :: r, h => by
    rw [List.lookup_cons] at h
    cases q : x == y with
    | true =>
      rw [q] at h
      have q1 := eq_of_beq q
      cases h
      rw [q1]
      exact List.mem_cons_self
    | false =>
      rw [q] at h
      exact List.mem_cons_of_mem _ (look_mem h)
/-- a def stands in the written part -/
structure FunAt (K : PySem.W.Frag) (x : Str) (st : Stmt) : Prop where
  ex : ∃ (f : Addr) (oc : Value) (od : Option Addr) (kV doc pm : Value) (an : Option Addr) (cdv ct : Value) (osl : Array (Option Value)), PySem.W.nsIn K mainGlobals x = some (some (.ref f)) ∧
    K.lookup f = some ⟨oc, od, .func (PySem.W.fnOf x x (defArgs st) (defBody st) (defScope st) .none kV doc pm an cdv ct), osl⟩ ∧ PySem.W.codeIn K cdv x = true ∧ PySem.W.keepIn K (.ref f) = true
theorem fun_at {K : PySem.W.Frag} {x : Str} {st : Stmt} {f : Addr} {oc : Value} {od an : Option Addr} {kV doc pm cdv ct : Value} {osl : Array (Option Value)} (a : PySem.W.nsIn K mainGlobals x = some (some (.ref f)))
    (l : K.lookup f = some ⟨oc, od, .func (PySem.W.fnOf x x (defArgs st) (defBody st) (defScope st) .none kV doc pm an cdv ct), osl⟩) (c : PySem.W.codeIn K cdv x = true) (k : PySem.W.keepIn K (.ref f) = true) : FunAt K x st :=
  ⟨f, oc, od, kV, doc, pm, an, cdv, ct, osl, a, l, c, k⟩
/-- a name of the module and its data -/
structure ConAt (K : PySem.W.Frag) (x : Str) (d : D) : Prop where
  ex : ∃ (v : V) (u : Value), PySem.W.nsIn K mainGlobals x = some (some u) ∧ RelV v u ∧ ∀ φ H, Rep K φ H v d
theorem con_int {K : PySem.W.Frag} {x : Str} {i : Int} {t : Tok} (a : PySem.W.nsIn K mainGlobals x = some (some (.int i t))) : ConAt K x (.int i) := ⟨.int i, _, a, ⟨t, rfl⟩, fun _ _ => .int i⟩
/-- a value that is a text -/
def strV : Value → Option Str
  | .str x _ => some x
  | _ => none
theorem strs_rel {K : PySem.W.Frag} : ∀ {us : List Value} {xs : List Str}, us.map strV = xs.map some → Vals (xs.map V.str) us
  | [], [], _ => .nil
  | [], _ :: _, h => by cases h
  | _ :: _, [], h => by cases h
  | u :: us, x :: xs, h => by
    simp only [List.map_cons, List.cons.injEq] at h
    refine .cons ?_ (strs_rel (K := K) h.2)
    cases u <;> first | (cases h.1; done) | skip
    case str y t => exact ⟨t, by have := Option.some.inj h.1; rw [this]⟩
theorem strs_rep {K : PySem.W.Frag} {φ : List Addr} {H : Hp} : ∀ xs : List Str, RepL K φ H (xs.map V.str) (xs.map D.str)
  | [] => .nil
  | x :: xs => .cons (.str x) (strs_rep xs)
theorem tup_at {K : PySem.W.Frag} {p : Addr} {od : Option Addr} {its : Array Value} {n : Nat} {osl : Array (Option Value)} (xs : List Str) (l : K.lookup p = some ⟨.type "tuple", od, .seq its n, osl⟩) (h : its.toList.map strV = xs.map some) (hl : xs.length ≤ 100) (φ : List Addr) (H : Hp) : Rep K φ H (.ref p) (.ktup (xs.map D.str)) := by
  refine .ktup (.inr ⟨_, its, n, l, rfl, rfl, ?_, strs_rel (K := K) h⟩) (strs_rep xs)
  have : its.toList.length = xs.length := by simpa using congrArg List.length h
  rw [← Array.length_toList, this]
  exact Nat.le_trans hl (by decide)
theorem con_strs {K : PySem.W.Frag} {x : Str} {p : Addr} {od : Option Addr} {its : Array Value} {n : Nat} {osl : Array (Option Value)} (xs : List Str) (hl : xs.length ≤ 100) (a : PySem.W.nsIn K mainGlobals x = some (some (.ref p))) (l : K.lookup p = some ⟨.type "tuple", od, .seq its n, osl⟩) (h : its.toList.map strV = xs.map some) : ConAt K x (.ktup (xs.map D.str)) :=
  ⟨.ref p, _, a, rfl, fun φ H => tup_at xs l h hl φ H⟩
theorem con_marks {K : PySem.W.Frag} {x : Str} {p a b : Addr} {od od1 od2 : Option Addr} {its its1 its2 : Array Value} {n n1 n2 : Nat} {osl osl1 osl2 : Array (Option Value)} (xs ys : List Str) (hx : xs.length ≤ 100) (hy : ys.length ≤ 100) (e : PySem.W.nsIn K mainGlobals x = some (some (.ref p)))
    (l : K.lookup p = some ⟨.type "tuple", od, .seq its n, osl⟩) (h : its.toList = [.ref a, .ref b]) (l1 : K.lookup a = some ⟨.type "tuple", od1, .seq its1 n1, osl1⟩) (h1 : its1.toList.map strV = xs.map some) (l2 : K.lookup b = some ⟨.type "tuple", od2, .seq its2 n2, osl2⟩) (h2 : its2.toList.map strV = ys.map some) : ConAt K x (.ktup [.ktup (xs.map D.str), .ktup (ys.map D.str)]) := by
  refine ⟨.ref p, _, e, rfl, fun φ H => .ktup (vs := [.ref a, .ref b]) (.inr ⟨_, its, n, l, rfl, rfl, ?_, ?_⟩) (.cons (tup_at xs l1 h1 hx φ H) (.cons (tup_at ys l2 h2 hy φ H) .nil))⟩
  · rw [← Array.length_toList, h]
    show 2 ≤ sizeLine
    decide
  · rw [h]
    exact .cons rfl (.cons rfl .nil)

/-- a value that is an int -/
def intV : Value → Option Int
  | .int x _ => some x
  | _ => none
theorem ints_rel {K : PySem.W.Frag} : ∀ {us : List Value} {xs : List Int}, us.map intV = xs.map some → Vals (xs.map V.int) us
  | [], [], _ => .nil
  | [], _ :: _, h => by cases h
  | _ :: _, [], h => by cases h
  | u :: us, x :: xs, h => by
    simp only [List.map_cons, List.cons.injEq] at h
    refine .cons ?_ (ints_rel (K := K) h.2)
    cases u <;> first | (cases h.1; done) | skip
    case int y t => exact ⟨t, by have := Option.some.inj h.1; rw [this]⟩
theorem ints_rep {K : PySem.W.Frag} {φ : List Addr} {H : Hp} : ∀ ns : List Int, RepL K φ H (ns.map V.int) (ns.map D.int)
  | [] => .nil
  | i :: r => .cons (.int i) (ints_rep r)
theorem itup_at {K : PySem.W.Frag} {p : Addr} {od : Option Addr} {its : Array Value} {n : Nat} {osl : Array (Option Value)} (xs : List Int) (l : K.lookup p = some ⟨.type "tuple", od, .seq its n, osl⟩) (h : its.toList.map intV = xs.map some) (hl : xs.length ≤ 100) (φ : List Addr) (H : Hp) : Rep K φ H (.ref p) (.ktup (xs.map D.int)) := by
  refine .ktup (.inr ⟨_, its, n, l, rfl, rfl, ?_, ints_rel (K := K) h⟩) (ints_rep xs)
  have : its.toList.length = xs.length := by simpa using congrArg List.length h
  rw [← Array.length_toList, this]
  exact Nat.le_trans hl (by decide)
/-- a dict of the module -/
structure DctAt (K : PySem.W.Frag) (w : World) (x : Str) (kds : List (Str × D)) : Prop where
  ex : ∃ a, PySem.W.nsIn K mainGlobals x = some (some (.ref a)) ∧ ∀ y d, kds.lookup y = some d → ∃ v, KDct K w a y v ∧ ∀ φ H, Rep K φ H v d
theorem dct_alone {K : PySem.W.Frag} {w : World} {x : Str} {a : Addr} {es : Array DictEntry} {n : Nat} {t1 t2 : Tok} (e : PySem.W.nsIn K mainGlobals x = some (some (.ref a))) (l : K.lookup a = some ⟨.type "dict", none, .dict es n, #[]⟩) (k : PySem.W.KeysLit w.params es.toList)
    (h1 : PySem.W.nsIn K a "a" = some (some (.int 1 t1))) (h2 : PySem.W.nsIn K a "b" = some (some (.int 2 t2))) : DctAt K w x dc_SORT_WITH_ALONE := by
  refine ⟨a, e, fun y d h => ?_⟩
  have m := look_mem h
  simp only [dc_SORT_WITH_ALONE, List.mem_cons, List.not_mem_nil, or_false, Prod.mk.injEq] at m
  rcases m with ⟨rfl, rfl⟩ | ⟨rfl, rfl⟩
  · exact ⟨.int 1, ⟨es, n, _, l, k, h1, ⟨t1, rfl⟩⟩, fun φ H => .int 1⟩
  · exact ⟨.int 2, ⟨es, n, _, l, k, h2, ⟨t2, rfl⟩⟩, fun φ H => .int 2⟩
theorem dct_with {K : PySem.W.Frag} {w : World} {x : Str} {a p1 p2 p3 : Addr} {es : Array DictEntry} {n : Nat} {od1 od2 od3 : Option Addr} {i1 i2 i3 : Array Value} {n1 n2 n3 : Nat} {sl1 sl2 sl3 : Array (Option Value)} (e : PySem.W.nsIn K mainGlobals x = some (some (.ref a))) (l : K.lookup a = some ⟨.type "dict", none, .dict es n, #[]⟩) (k : PySem.W.KeysLit w.params es.toList)
    (h1 : PySem.W.nsIn K a "a" = some (some (.ref p1))) (h2 : PySem.W.nsIn K a "b" = some (some (.ref p2))) (h3 : PySem.W.nsIn K a "both" = some (some (.ref p3)))
    (l1 : K.lookup p1 = some ⟨.type "tuple", od1, .seq i1 n1, sl1⟩) (j1 : i1.toList.map intV = [(1 : Int), 3].map some) (l2 : K.lookup p2 = some ⟨.type "tuple", od2, .seq i2 n2, sl2⟩) (j2 : i2.toList.map intV = [(2 : Int), 3].map some) (l3 : K.lookup p3 = some ⟨.type "tuple", od3, .seq i3 n3, sl3⟩) (j3 : i3.toList.map intV = [(3 : Int)].map some) : DctAt K w x dc_SORTS_WITH := by
  refine ⟨a, e, fun y d h => ?_⟩
  have m := look_mem h
  simp only [dc_SORTS_WITH, List.mem_cons, List.not_mem_nil, or_false, Prod.mk.injEq] at m
  rcases m with ⟨rfl, rfl⟩ | ⟨rfl, rfl⟩ | ⟨rfl, rfl⟩
  · exact ⟨.ref p1, ⟨es, n, _, l, k, h1, rfl⟩, fun φ H => itup_at [1, 3] l1 j1 (by decide) φ H⟩
  · exact ⟨.ref p2, ⟨es, n, _, l, k, h2, rfl⟩, fun φ H => itup_at [2, 3] l2 j2 (by decide) φ H⟩
  · exact ⟨.ref p3, ⟨es, n, _, l, k, h3, rfl⟩, fun φ H => itup_at [3] l3 j3 (by decide) φ H⟩
/-- a def that makes lambdas, its code object and the table of it -/
structure TabAt (K : PySem.W.Frag) (x : Str) (st : Stmt) (c P : Addr) : Prop where
  ex : ∃ (f : Addr) (oc : Value) (od : Option Addr) (kV doc pm : Value) (an : Option Addr) (ct : Value) (osl : Array (Option Value)), PySem.W.nsIn K mainGlobals x = some (some (.ref f)) ∧
    K.lookup f = some ⟨oc, od, .func (PySem.W.fnOf x x (defArgs st) (defBody st) (defScope st) .none kV doc pm an (.ref c) ct), osl⟩ ∧ PySem.W.codeIn K (.ref c) x = true ∧ PySem.W.keepIn K (.ref f) = true
  hd : PySem.W.codeHdIn K c P = true
  np : K.lookup P = none
  v11 : ∃ (e : Value) (dd : Option Addr) (vs : Array Value) (sl : Array (Option Value)), K.lookup c = some ⟨e, dd, .fields vs, sl⟩ ∧ vs[11]? = some (.ref P)
theorem tab_at {K : PySem.W.Frag} {x : Str} {st : Stmt} {c P f : Addr} {oc : Value} {od an : Option Addr} {kV doc pm ct e : Value} {osl sl : Array (Option Value)} {dd : Option Addr} {vs : Array Value} (a : PySem.W.nsIn K mainGlobals x = some (some (.ref f)))
    (l : K.lookup f = some ⟨oc, od, .func (PySem.W.fnOf x x (defArgs st) (defBody st) (defScope st) .none kV doc pm an (.ref c) ct), osl⟩) (cd : PySem.W.codeIn K (.ref c) x = true) (k : PySem.W.keepIn K (.ref f) = true)
    (lc : K.lookup c = some ⟨e, dd, .fields vs, sl⟩) (h11 : vs[11]? = some (.ref P)) (hd : PySem.W.codeHdIn K c P = true) (np : K.lookup P = none) : TabAt K x st c P :=
  ⟨⟨f, oc, od, kV, doc, pm, an, ct, osl, a, l, cd, k⟩, hd, np, e, dd, vs, sl, lc, h11⟩
/-- an own class of errors in the written part -/
structure ErrIn (K : PySem.W.Frag) (x : Str) (C : Addr) : Prop where
  g : PySem.W.nsIn K mainGlobals x = some (some (.ref C))
  bas : ∃ (B newId initId : String) (bmB : List Value), ExcBaseFacts B newId initId bmB ∧ PySem.W.excIn K C bmB newId = true
  k : PySem.W.keepIn K (.ref C) = true
  s : PySem.W.subIn K (.ref C) (.type "BaseException") = some true
  t : PySem.W.typeIn K (.ref C) = some (.type "type")
  i : PySem.W.isClsIn K C = true
theorem exm_of {K : PySem.W.Frag} {C S : Addr} {b : Bool} (h1 : PySem.W.subIn K (.ref S) (.type "BaseException") = some true) (h2 : PySem.W.isClsIn K S = true) (h3 : PySem.W.typeIn K (.ref S) = some (.type "type")) (h4 : PySem.W.subIn K (.ref C) (.ref S) = some b) :
    PySem.W.exmOne K (.ref C) (.ref S) = some b := by
  have e1 : (PySem.W.subIn K (.ref S) (.type "BaseException") == some true) = true := by rw [h1] <;> rfl
  have e2 : ((PySem.W.clsIn K S).isSome && PySem.W.typeIn K (.ref S) == some (.type "type")) = true := by
    have h2' : (PySem.W.clsIn K S).isSome = true := h2
    rw [h2', h3] <;> rfl
  unfold PySem.W.exmOne PySem.W.kitCls
  simp only [e1, e2, if_true]
  exact h4

/-- what the written part must show -/
structure Facts (K : PySem.W.Frag) (w : World) (cL pL cS pS CF CH CT : Addr) : Prop where
  f_is_house : FunAt K "is_house" s_is_house
  f_is_formula : FunAt K "is_formula" s_is_formula
  f_is_number : FunAt K "is_number" s_is_number
  f__is_triple : FunAt K "_is_triple" s__is_triple
  f__is_nested : FunAt K "_is_nested" s__is_nested
  f_check_formula : FunAt K "check_formula" s_check_formula
  f_check_house : FunAt K "check_house" s_check_house
  f_check_truth : FunAt K "check_truth" s_check_truth
  f_small_houses : FunAt K "small_houses" s_small_houses
  f_meanings : FunAt K "meanings" s_meanings
  f_everywhere : FunAt K "everywhere" s_everywhere
  f_holds_at : FunAt K "holds_at" s_holds_at
  f_houses_of : FunAt K "houses_of" s_houses_of
  f_first_of_all : FunAt K "first_of_all" s_first_of_all
  f__meaning : FunAt K "_meaning" s__meaning
  f__simple_meanings : FunAt K "_simple_meanings" s__simple_meanings
  f__simple_parts : FunAt K "_simple_parts" s__simple_parts
  f__holds_simply : FunAt K "_holds_simply" s__holds_simply
  f_holds : FunAt K "holds" s_holds
  f_how : FunAt K "how" s_how
  f_first_house : FunAt K "first_house" s_first_house
  f__law_source : FunAt K "_law_source" s__law_source
  f__law_draw : FunAt K "_law_draw" s__law_draw
  f__law_choice : FunAt K "_law_choice" s__law_choice
  f__law_holds : FunAt K "_law_holds" s__law_holds
  f__law_houses : FunAt K "_law_houses" s__law_houses
  f__law_truths : FunAt K "_law_truths" s__law_truths
  f__law_formula : FunAt K "_law_formula" s__law_formula
  f__law_first : FunAt K "_law_first" s__law_first
  f__law_right : FunAt K "_law_right" s__law_right
  f__law_word : FunAt K "_law_word" s__law_word
  f__law_written_right : FunAt K "_law_written_right" s__law_written_right
  f_law : FunAt K "law" s_law
  k_MOST_PEOPLE : ConAt K "MOST_PEOPLE" c_MOST_PEOPLE
  k_MOST_DEPTH : ConAt K "MOST_DEPTH" c_MOST_DEPTH
  k_MOST_TOLD : ConAt K "MOST_TOLD" c_MOST_TOLD
  k_SORTS : ConAt K "SORTS" c_SORTS
  k_MARKS : ConAt K "MARKS" c_MARKS
  k_COUNTED : ConAt K "COUNTED" c_COUNTED
  k_PAIR_WORDS : ConAt K "PAIR_WORDS" c_PAIR_WORDS
  k_MOST_TOLD_APART : ConAt K "MOST_TOLD_APART" c_MOST_TOLD_APART
  k_SORT_WITH_BOTH : ConAt K "SORT_WITH_BOTH" c_SORT_WITH_BOTH
  d_alone : DctAt K w "SORT_WITH_ALONE" dc_SORT_WITH_ALONE
  d_with : DctAt K w "SORTS_WITH" dc_SORTS_WITH
  t_law : TabAt K "law" s_law cL pL
  t_small : TabAt K "small_houses" s_small_houses cS pS
  ne : pL ≠ pS
  gL : mainGlobals ≠ pL
  gS : mainGlobals ≠ pS
  eF : ErrIn K "InvalidFormula" CF
  eH : ErrIn K "InvalidHouse" CH
  eT : ErrIn K "InvalidTruth" CT
  sFF : PySem.W.subIn K (.ref CF) (.ref CF) = some true
  sHF : PySem.W.subIn K (.ref CH) (.ref CF) = some false
  sHH : PySem.W.subIn K (.ref CH) (.ref CH) = some true
  sTF : PySem.W.subIn K (.ref CT) (.ref CF) = some false
  sTH : PySem.W.subIn K (.ref CT) (.ref CH) = some false
  sTT : PySem.W.subIn K (.ref CT) (.ref CT) = some true
  b_sum : PySem.W.nsIn K mainGlobals "sum" = some none
  b_sorted : PySem.W.nsIn K mainGlobals "sorted" = some none
  b_enumerate : PySem.W.nsIn K mainGlobals "enumerate" = some none
  b_zip : PySem.W.nsIn K mainGlobals "zip" = some none
  b_len : PySem.W.nsIn K mainGlobals "len" = some none
  b_isinstance : PySem.W.nsIn K mainGlobals "isinstance" = some none
  b_all : PySem.W.nsIn K mainGlobals "all" = some none
  b_abs : PySem.W.nsIn K mainGlobals "abs" = some none
  b_int : PySem.W.nsIn K mainGlobals "int" = some none
  b_min : PySem.W.nsIn K mainGlobals "min" = some none
  b_list : PySem.W.nsIn K mainGlobals "list" = some none
  b_tuple : PySem.W.nsIn K mainGlobals "tuple" = some none
  b_bool : PySem.W.nsIn K mainGlobals "bool" = some none
  b_range : PySem.W.nsIn K mainGlobals "range" = some none
/-- the tables -/
abbrev qL : Str := ("law" ++ ".<locals>." : Str) ++ "<lambda>"
abbrev qS : Str := ("small_houses" ++ ".<locals>." : Str) ++ "<lambda>"
abbrev tabs (pL pS : Addr) : Tbl := ⟨[(pL, qL), (pS, qS)]⟩
section
variable {P : Program} {w : World} {K : PySem.W.Frag} {mg : Str → Option Value} {base : Heap} {cL pL cS pS CF CH CT : Addr}
section
variable [Tb : Tbl]
theorem none_at {f : Addr} {fd : FuncData} {ps : List Str} {sp : FSp} {k : Nat} (h : ∀ ds S Q, ¬ sp ds S Q) : FnOk P w K mg base CX0 k f fd ps (spD K sp) := by
  have no : ∀ vs H Q E, ¬ spD K sp vs H Q E := fun vs H Q E z => by
    obtain ⟨ds, S, φ, QD, _, _, q, _⟩ := z
    exact h ds S QD q
  exact ⟨fun vs H Q E h => absurd h (no vs H Q E), fun A outer s H args us vs Q E _ _ _ _ h => absurd h (no vs H Q E)⟩
/-- the i-th def keeps its promise with n calls -/
def Ok1 (P : Program) (w : World) (K : PySem.W.Frag) (mg : Str → Option Value) (base : Heap) (n i : Nat) (x : Str) : Prop :=
  ∃ sp, (fsN n)[i]? = some sp ∧ ∃ (f : Addr) (fd : FuncData) (ps : List Str), FnOk P w K mg base CX0 n f fd ps (spD K sp) ∧ mg x = some (.ref f) ∧ PySem.W.keepIn K (.ref f) = true ∧ Binds K fd ps []
def AllOk (P : Program) (w : World) (K : PySem.W.Frag) (mg : Str → Option Value) (base : Heap) (n : Nat) : Prop := ∀ (i : Nat) (x : Str), FN[i]? = some x → Ok1 P w K mg base n i x
theorem con_of {h : Heap} (X : K.In h) (G : h.Ns mainGlobals mg) {x : Str} {d : D} (c : ConAt K x d) : ∃ v u, mg x = some u ∧ RelV v u ∧ ∀ φ H, Rep K φ H v d := by
  obtain ⟨v, u, a, r, q⟩ := c.ex
  exact ⟨v, u, PySem.W.mg_of X G a, r, q⟩
theorem dct_of {h : Heap} (X : K.In h) (G : h.Ns mainGlobals mg) {x : Str} {kds : List (Str × D)} (c : DctAt K w x kds) : ∃ a, mg x = some (.ref a) ∧ ∀ y d, kds.lookup y = some d → ∃ v, KDct K w a y v ∧ ∀ φ H, Rep K φ H v d := by
  obtain ⟨a, e, q⟩ := c.ex
  exact ⟨a, PySem.W.mg_of X G e, q⟩
theorem err_of {h : Heap} (X : K.In h) (G : h.Ns mainGlobals mg) {x : Str} {C : Addr} (c : ErrIn K x C) : ErrAt K mg x C := ⟨PySem.W.mg_of X G c.g, c.bas, c.k, c.s, c.t⟩
theorem errs_of {h : Heap} (X : K.In h) (G : h.Ns mainGlobals mg) (Fa : Facts K w cL pL cS pS CF CH CT) : Errs K mg CF CH CT :=
  ⟨err_of X G Fa.eF, err_of X G Fa.eH, err_of X G Fa.eT, exm_of Fa.eF.s Fa.eF.i Fa.eF.t Fa.sFF, exm_of Fa.eF.s Fa.eF.i Fa.eF.t Fa.sHF, exm_of Fa.eH.s Fa.eH.i Fa.eH.t Fa.sHH, exm_of Fa.eF.s Fa.eF.i Fa.eF.t Fa.sTF, exm_of Fa.eH.s Fa.eH.i Fa.eH.t Fa.sTH, exm_of Fa.eT.s Fa.eT.i Fa.eT.t Fa.sTT⟩
theorem cons_of {h : Heap} (X : K.In h) (G : h.Ns mainGlobals mg) (Fa : Facts K w cL pL cS pS CF CH CT) : ∀ (x : Str) (d : D), CON.lookup x = some d → ∃ v u, mg x = some u ∧ RelV v u ∧ ∀ φ H, Rep K φ H v d := by
  intro x d e
  have m := look_mem e
  simp only [List.mem_cons, List.not_mem_nil, or_false, Prod.mk.injEq] at m
  rcases m with ⟨rfl, rfl⟩ | ⟨rfl, rfl⟩ | ⟨rfl, rfl⟩ | ⟨rfl, rfl⟩ | ⟨rfl, rfl⟩ | ⟨rfl, rfl⟩ | ⟨rfl, rfl⟩ | ⟨rfl, rfl⟩ | ⟨rfl, rfl⟩
  · exact con_of X G Fa.k_MOST_PEOPLE
  · exact con_of X G Fa.k_MOST_DEPTH
  · exact con_of X G Fa.k_MOST_TOLD
  · exact con_of X G Fa.k_SORTS
  · exact con_of X G Fa.k_MARKS
  · exact con_of X G Fa.k_COUNTED
  · exact con_of X G Fa.k_PAIR_WORDS
  · exact con_of X G Fa.k_MOST_TOLD_APART
  · exact con_of X G Fa.k_SORT_WITH_BOTH
theorem bns_of {h : Heap} (X : K.In h) (G : h.Ns mainGlobals mg) (Fa : Facts K w cL pL cS pS CF CH CT) : ∀ x, BN.contains x = true → mg x = none := by
  intro x e
  have m := List.contains_iff_mem.mp e
  simp only [List.mem_cons, List.not_mem_nil, or_false] at m
  rcases m with rfl | rfl | rfl | rfl | rfl | rfl | rfl | rfl | rfl | rfl | rfl | rfl | rfl | rfl
  · exact PySem.W.mg_none_of X G Fa.b_sum
  · exact PySem.W.mg_none_of X G Fa.b_sorted
  · exact PySem.W.mg_none_of X G Fa.b_enumerate
  · exact PySem.W.mg_none_of X G Fa.b_zip
  · exact PySem.W.mg_none_of X G Fa.b_len
  · exact PySem.W.mg_none_of X G Fa.b_isinstance
  · exact PySem.W.mg_none_of X G Fa.b_all
  · exact PySem.W.mg_none_of X G Fa.b_abs
  · exact PySem.W.mg_none_of X G Fa.b_int
  · exact PySem.W.mg_none_of X G Fa.b_min
  · exact PySem.W.mg_none_of X G Fa.b_list
  · exact PySem.W.mg_none_of X G Fa.b_tuple
  · exact PySem.W.mg_none_of X G Fa.b_bool
  · exact PySem.W.mg_none_of X G Fa.b_range
theorem dcns_of {h : Heap} (X : K.In h) (G : h.Ns mainGlobals mg) (Fa : Facts K w cL pL cS pS CF CH CT) : ∀ n kds, DCN.lookup n = some kds → ∃ a, mg n = some (.ref a) ∧ ∀ y d, kds.lookup y = some d → ∃ v, KDct K w a y v ∧ ∀ φ H, Rep K φ H v d := by
  intro n kds e
  have m := look_mem e
  simp only [List.mem_cons, List.not_mem_nil, or_false, Prod.mk.injEq] at m
  rcases m with ⟨rfl, rfl⟩ | ⟨rfl, rfl⟩
  · exact dct_of X G Fa.d_alone
  · exact dct_of X G Fa.d_with
theorem top_of {h : Heap} (X : K.In h) (G : h.Ns mainGlobals mg) (Fa : Facts K w cL pL cS pS CF CH CT) {n : Nat} (A : AllOk P w K mg base n) (C : DW.Ctx) (h1 : C.con = CON) (h2 : C.fn = FN) (h3 : C.bn = BN) (h4 : C.dcn = DCN) : Top P w K mg base n (fsN n) C :=
  ⟨by rw [h1]; exact cons_of X G Fa, by rw [h2]; exact A, by rw [h3]; exact bns_of X G Fa, by rw [h4]; exact dcns_of X G Fa⟩
theorem ok_is_house {h : Heap} (X : K.In h) (G : h.Ns mainGlobals mg) (Fa : Facts K w cL pL cS pS CF CH CT) {n : Nat} (T : ∀ m, n = m + 1 → Top P w K mg base m (fsN m) C_is_house) : Ok1 P w K mg base n 0 "is_house" := by
  obtain ⟨f, oc, od, kV, doc, pm, an, cdv, ct, osl, a, l, c, k⟩ := Fa.f_is_house.ex
  have F := fun_mk (st := s_is_house) l c k
  refine ⟨lv n 2 spIsHouse, rfl, f, _, ["value"], ?_, PySem.W.mg_of X G a, k, F.binds fun _ _ _ _ _ _ us hl => match us, hl with | [_], _ => rfl⟩
  cases n with
  | zero => exact none_at fun ds S Q h => by have := h.1; omega
  | succ n => exact fn_ok l c sc_is_house rfl rfl rfl rfl co_is_house (T n rfl) (fun ds S Q h => by first | (obtain ⟨rfl, _⟩ := h; rfl) | (obtain ⟨_, rfl, _⟩ := h; rfl) | (obtain ⟨_, _, rfl, _⟩ := h; rfl) | (obtain ⟨_, _, _, rfl, _⟩ := h; rfl) | (obtain ⟨_, _, _, _, rfl, _⟩ := h; rfl) | (obtain ⟨_, _, _, _, _, rfl, _⟩ := h; rfl) | (obtain ⟨_, _, _, _, _, _, rfl, _⟩ := h; rfl)) (ob_is_house n)
theorem ok_is_formula {h : Heap} (X : K.In h) (G : h.Ns mainGlobals mg) (Fa : Facts K w cL pL cS pS CF CH CT) {n : Nat} (T : ∀ m, n = m + 1 → Top P w K mg base m (fsN m) C_is_formula) : Ok1 P w K mg base n 1 "is_formula" := by
  obtain ⟨f, oc, od, kV, doc, pm, an, cdv, ct, osl, a, l, c, k⟩ := Fa.f_is_formula.ex
  have F := fun_mk (st := s_is_formula) l c k
  refine ⟨lv n 14 spIsFormula, rfl, f, _, ["value"], ?_, PySem.W.mg_of X G a, k, F.binds fun _ _ _ _ _ _ us hl => match us, hl with | [_], _ => rfl⟩
  cases n with
  | zero => exact none_at fun ds S Q h => by have := h.1; omega
  | succ n => exact fn_ok l c sc_is_formula rfl rfl rfl rfl co_is_formula (T n rfl) (fun ds S Q h => by first | (obtain ⟨rfl, _⟩ := h; rfl) | (obtain ⟨_, rfl, _⟩ := h; rfl) | (obtain ⟨_, _, rfl, _⟩ := h; rfl) | (obtain ⟨_, _, _, rfl, _⟩ := h; rfl) | (obtain ⟨_, _, _, _, rfl, _⟩ := h; rfl) | (obtain ⟨_, _, _, _, _, rfl, _⟩ := h; rfl) | (obtain ⟨_, _, _, _, _, _, rfl, _⟩ := h; rfl)) (ob_is_formula n)
theorem ok_is_number {h : Heap} (X : K.In h) (G : h.Ns mainGlobals mg) (Fa : Facts K w cL pL cS pS CF CH CT) {n : Nat} (T : ∀ m, n = m + 1 → Top P w K mg base m (fsN m) C_is_number) : Ok1 P w K mg base n 2 "is_number" := by
  obtain ⟨f, oc, od, kV, doc, pm, an, cdv, ct, osl, a, l, c, k⟩ := Fa.f_is_number.ex
  have F := fun_mk (st := s_is_number) l c k
  refine ⟨lv n 1 spIsNumber, rfl, f, _, ["value", "least", "most"], ?_, PySem.W.mg_of X G a, k, F.binds fun _ _ _ _ _ _ us hl => match us, hl with | [_, _, _], _ => rfl⟩
  cases n with
  | zero => exact none_at fun ds S Q h => by have := h.1; omega
  | succ n => exact fn_ok l c sc_is_number rfl rfl rfl rfl co_is_number (T n rfl) (fun ds S Q h => by first | (obtain ⟨rfl, _⟩ := h; rfl) | (obtain ⟨_, rfl, _⟩ := h; rfl) | (obtain ⟨_, _, rfl, _⟩ := h; rfl) | (obtain ⟨_, _, _, rfl, _⟩ := h; rfl) | (obtain ⟨_, _, _, _, rfl, _⟩ := h; rfl) | (obtain ⟨_, _, _, _, _, rfl, _⟩ := h; rfl) | (obtain ⟨_, _, _, _, _, _, rfl, _⟩ := h; rfl)) (ob_is_number n)
theorem ok__is_triple {h : Heap} (X : K.In h) (G : h.Ns mainGlobals mg) (Fa : Facts K w cL pL cS pS CF CH CT) {n : Nat} (T : ∀ m, n = m + 1 → Top P w K mg base m (fsN m) C__is_triple) : Ok1 P w K mg base n 3 "_is_triple" := by
  obtain ⟨f, oc, od, kV, doc, pm, an, cdv, ct, osl, a, l, c, k⟩ := Fa.f__is_triple.ex
  have F := fun_mk (st := s__is_triple) l c k
  refine ⟨lv n 2 spIsTriple, rfl, f, _, ["value", "mark_words", "count_words"], ?_, PySem.W.mg_of X G a, k, F.binds fun _ _ _ _ _ _ us hl => match us, hl with | [_, _, _], _ => rfl⟩
  cases n with
  | zero => exact none_at fun ds S Q h => by have := h.1; omega
  | succ n => exact fn_ok l c sc__is_triple rfl rfl rfl rfl co__is_triple (T n rfl) (fun ds S Q h => by first | (obtain ⟨rfl, _⟩ := h; rfl) | (obtain ⟨_, rfl, _⟩ := h; rfl) | (obtain ⟨_, _, rfl, _⟩ := h; rfl) | (obtain ⟨_, _, _, rfl, _⟩ := h; rfl) | (obtain ⟨_, _, _, _, rfl, _⟩ := h; rfl) | (obtain ⟨_, _, _, _, _, rfl, _⟩ := h; rfl) | (obtain ⟨_, _, _, _, _, _, rfl, _⟩ := h; rfl)) (ob__is_triple n)
theorem ok__is_nested {h : Heap} (X : K.In h) (G : h.Ns mainGlobals mg) (Fa : Facts K w cL pL cS pS CF CH CT) {n : Nat} (T : ∀ m, n = m + 1 → Top P w K mg base m (fsN m) C__is_nested) : Ok1 P w K mg base n 4 "_is_nested" := by
  obtain ⟨f, oc, od, kV, doc, pm, an, cdv, ct, osl, a, l, c, k⟩ := Fa.f__is_nested.ex
  have F := fun_mk (st := s__is_nested) l c k
  refine ⟨spIsNested n, rfl, f, _, ["value", "depth"], ?_, PySem.W.mg_of X G a, k, F.binds fun _ _ _ _ _ _ us hl => match us, hl with | [_, _], _ => rfl⟩
  cases n with
  | zero => exact none_at fun ds S Q h => by obtain ⟨d, j, _, hj, _⟩ := h; omega
  | succ n => exact fn_ok l c sc__is_nested rfl rfl rfl rfl co__is_nested (T n rfl) (fun ds S Q h => by first | (obtain ⟨rfl, _⟩ := h; rfl) | (obtain ⟨_, rfl, _⟩ := h; rfl) | (obtain ⟨_, _, rfl, _⟩ := h; rfl) | (obtain ⟨_, _, _, rfl, _⟩ := h; rfl) | (obtain ⟨_, _, _, _, rfl, _⟩ := h; rfl) | (obtain ⟨_, _, _, _, _, rfl, _⟩ := h; rfl) | (obtain ⟨_, _, _, _, _, _, rfl, _⟩ := h; rfl)) (ob__is_nested n)
theorem ok_check_formula {h : Heap} (X : K.In h) (G : h.Ns mainGlobals mg) (Fa : Facts K w cL pL cS pS CF CH CT) {n : Nat} (T : ∀ m, n = m + 1 → Top P w K mg base m (fsN m) C_check_formula) : Ok1 P w K mg base n 5 "check_formula" := by
  obtain ⟨f, oc, od, kV, doc, pm, an, cdv, ct, osl, a, l, c, k⟩ := Fa.f_check_formula.ex
  have F := fun_mk (st := s_check_formula) l c k
  refine ⟨lv n 15 spCkFormula, rfl, f, _, ["value"], ?_, PySem.W.mg_of X G a, k, F.binds fun _ _ _ _ _ _ us hl => match us, hl with | [_], _ => rfl⟩
  cases n with
  | zero => exact none_at fun ds S Q h => by have := h.1; omega
  | succ n => exact fn_ok l c sc_check_formula rfl rfl rfl rfl co_check_formula (T n rfl) (fun ds S Q h => by first | (obtain ⟨rfl, _⟩ := h; rfl) | (obtain ⟨_, rfl, _⟩ := h; rfl) | (obtain ⟨_, _, rfl, _⟩ := h; rfl) | (obtain ⟨_, _, _, rfl, _⟩ := h; rfl) | (obtain ⟨_, _, _, _, rfl, _⟩ := h; rfl) | (obtain ⟨_, _, _, _, _, rfl, _⟩ := h; rfl) | (obtain ⟨_, _, _, _, _, _, rfl, _⟩ := h; rfl)) (ob_check_formula n)
theorem ok_check_house {h : Heap} (X : K.In h) (G : h.Ns mainGlobals mg) (Fa : Facts K w cL pL cS pS CF CH CT) {n : Nat} (T : ∀ m, n = m + 1 → Top P w K mg base m (fsN m) C_check_house) : Ok1 P w K mg base n 6 "check_house" := by
  obtain ⟨f, oc, od, kV, doc, pm, an, cdv, ct, osl, a, l, c, k⟩ := Fa.f_check_house.ex
  have F := fun_mk (st := s_check_house) l c k
  refine ⟨lv n 3 spCkHouse, rfl, f, _, ["value"], ?_, PySem.W.mg_of X G a, k, F.binds fun _ _ _ _ _ _ us hl => match us, hl with | [_], _ => rfl⟩
  cases n with
  | zero => exact none_at fun ds S Q h => by have := h.1; omega
  | succ n => exact fn_ok l c sc_check_house rfl rfl rfl rfl co_check_house (T n rfl) (fun ds S Q h => by first | (obtain ⟨rfl, _⟩ := h; rfl) | (obtain ⟨_, rfl, _⟩ := h; rfl) | (obtain ⟨_, _, rfl, _⟩ := h; rfl) | (obtain ⟨_, _, _, rfl, _⟩ := h; rfl) | (obtain ⟨_, _, _, _, rfl, _⟩ := h; rfl) | (obtain ⟨_, _, _, _, _, rfl, _⟩ := h; rfl) | (obtain ⟨_, _, _, _, _, _, rfl, _⟩ := h; rfl)) (ob_check_house n)
theorem ok_check_truth {h : Heap} (X : K.In h) (G : h.Ns mainGlobals mg) (Fa : Facts K w cL pL cS pS CF CH CT) {n : Nat} (T : ∀ m, n = m + 1 → Top P w K mg base m (fsN m) C_check_truth) : Ok1 P w K mg base n 7 "check_truth" := by
  obtain ⟨f, oc, od, kV, doc, pm, an, cdv, ct, osl, a, l, c, k⟩ := Fa.f_check_truth.ex
  have F := fun_mk (st := s_check_truth) l c k
  refine ⟨lv n 1 spCkTruth, rfl, f, _, ["value"], ?_, PySem.W.mg_of X G a, k, F.binds fun _ _ _ _ _ _ us hl => match us, hl with | [_], _ => rfl⟩
  cases n with
  | zero => exact none_at fun ds S Q h => by have := h.1; omega
  | succ n => exact fn_ok l c sc_check_truth rfl rfl rfl rfl co_check_truth (T n rfl) (fun ds S Q h => by first | (obtain ⟨rfl, _⟩ := h; rfl) | (obtain ⟨_, rfl, _⟩ := h; rfl) | (obtain ⟨_, _, rfl, _⟩ := h; rfl) | (obtain ⟨_, _, _, rfl, _⟩ := h; rfl) | (obtain ⟨_, _, _, _, rfl, _⟩ := h; rfl) | (obtain ⟨_, _, _, _, _, rfl, _⟩ := h; rfl) | (obtain ⟨_, _, _, _, _, _, rfl, _⟩ := h; rfl)) (ob_check_truth n)
theorem ok_meanings {h : Heap} (X : K.In h) (G : h.Ns mainGlobals mg) (Fa : Facts K w cL pL cS pS CF CH CT) {n : Nat} (T : ∀ m, n = m + 1 → Top P w K mg base m (fsN m) C_meanings) : Ok1 P w K mg base n 9 "meanings" := by
  obtain ⟨f, oc, od, kV, doc, pm, an, cdv, ct, osl, a, l, c, k⟩ := Fa.f_meanings.ex
  have F := fun_mk (st := s_meanings) l c k
  refine ⟨lv n 20 spMeanings, rfl, f, _, ["formulas", "houses"], ?_, PySem.W.mg_of X G a, k, F.binds fun _ _ _ _ _ _ us hl => match us, hl with | [_, _], _ => rfl⟩
  cases n with
  | zero => exact none_at fun ds S Q h => by have := h.1; omega
  | succ n => exact fn_ok l c sc_meanings rfl rfl rfl rfl co_meanings (T n rfl) (fun ds S Q h => by first | (obtain ⟨rfl, _⟩ := h; rfl) | (obtain ⟨_, rfl, _⟩ := h; rfl) | (obtain ⟨_, _, rfl, _⟩ := h; rfl) | (obtain ⟨_, _, _, rfl, _⟩ := h; rfl) | (obtain ⟨_, _, _, _, rfl, _⟩ := h; rfl) | (obtain ⟨_, _, _, _, _, rfl, _⟩ := h; rfl) | (obtain ⟨_, _, _, _, _, _, rfl, _⟩ := h; rfl)) (ob_meanings n)
theorem ok_everywhere {h : Heap} (X : K.In h) (G : h.Ns mainGlobals mg) (Fa : Facts K w cL pL cS pS CF CH CT) {n : Nat} (T : ∀ m, n = m + 1 → Top P w K mg base m (fsN m) C_everywhere) : Ok1 P w K mg base n 10 "everywhere" := by
  obtain ⟨f, oc, od, kV, doc, pm, an, cdv, ct, osl, a, l, c, k⟩ := Fa.f_everywhere.ex
  have F := fun_mk (st := s_everywhere) l c k
  refine ⟨lv n 1 spEvery, rfl, f, _, ["houses"], ?_, PySem.W.mg_of X G a, k, F.binds fun _ _ _ _ _ _ us hl => match us, hl with | [_], _ => rfl⟩
  cases n with
  | zero => exact none_at fun ds S Q h => by have := h.1; omega
  | succ n => exact fn_ok l c sc_everywhere rfl rfl rfl rfl co_everywhere (T n rfl) (fun ds S Q h => by first | (obtain ⟨rfl, _⟩ := h; rfl) | (obtain ⟨_, rfl, _⟩ := h; rfl) | (obtain ⟨_, _, rfl, _⟩ := h; rfl) | (obtain ⟨_, _, _, rfl, _⟩ := h; rfl) | (obtain ⟨_, _, _, _, rfl, _⟩ := h; rfl) | (obtain ⟨_, _, _, _, _, rfl, _⟩ := h; rfl) | (obtain ⟨_, _, _, _, _, _, rfl, _⟩ := h; rfl)) (ob_everywhere n)
theorem ok_holds_at {h : Heap} (X : K.In h) (G : h.Ns mainGlobals mg) (Fa : Facts K w cL pL cS pS CF CH CT) {n : Nat} (T : ∀ m, n = m + 1 → Top P w K mg base m (fsN m) C_holds_at) : Ok1 P w K mg base n 11 "holds_at" := by
  obtain ⟨f, oc, od, kV, doc, pm, an, cdv, ct, osl, a, l, c, k⟩ := Fa.f_holds_at.ex
  have F := fun_mk (st := s_holds_at) l c k
  refine ⟨lv n 1 spHoldsAt, rfl, f, _, ["meaning", "at"], ?_, PySem.W.mg_of X G a, k, F.binds fun _ _ _ _ _ _ us hl => match us, hl with | [_, _], _ => rfl⟩
  cases n with
  | zero => exact none_at fun ds S Q h => by have := h.1; omega
  | succ n => exact fn_ok l c sc_holds_at rfl rfl rfl rfl co_holds_at (T n rfl) (fun ds S Q h => by first | (obtain ⟨rfl, _⟩ := h; rfl) | (obtain ⟨_, rfl, _⟩ := h; rfl) | (obtain ⟨_, _, rfl, _⟩ := h; rfl) | (obtain ⟨_, _, _, rfl, _⟩ := h; rfl) | (obtain ⟨_, _, _, _, rfl, _⟩ := h; rfl) | (obtain ⟨_, _, _, _, _, rfl, _⟩ := h; rfl) | (obtain ⟨_, _, _, _, _, _, rfl, _⟩ := h; rfl)) (ob_holds_at n)
theorem ok_houses_of {h : Heap} (X : K.In h) (G : h.Ns mainGlobals mg) (Fa : Facts K w cL pL cS pS CF CH CT) {n : Nat} (T : ∀ m, n = m + 1 → Top P w K mg base m (fsN m) C_houses_of) : Ok1 P w K mg base n 12 "houses_of" := by
  obtain ⟨f, oc, od, kV, doc, pm, an, cdv, ct, osl, a, l, c, k⟩ := Fa.f_houses_of.ex
  have F := fun_mk (st := s_houses_of) l c k
  refine ⟨lv n 2 spHousesOf, rfl, f, _, ["meaning", "houses"], ?_, PySem.W.mg_of X G a, k, F.binds fun _ _ _ _ _ _ us hl => match us, hl with | [_, _], _ => rfl⟩
  cases n with
  | zero => exact none_at fun ds S Q h => by have := h.1; omega
  | succ n => exact fn_ok l c sc_houses_of rfl rfl rfl rfl co_houses_of (T n rfl) (fun ds S Q h => by first | (obtain ⟨rfl, _⟩ := h; rfl) | (obtain ⟨_, rfl, _⟩ := h; rfl) | (obtain ⟨_, _, rfl, _⟩ := h; rfl) | (obtain ⟨_, _, _, rfl, _⟩ := h; rfl) | (obtain ⟨_, _, _, _, rfl, _⟩ := h; rfl) | (obtain ⟨_, _, _, _, _, rfl, _⟩ := h; rfl) | (obtain ⟨_, _, _, _, _, _, rfl, _⟩ := h; rfl)) (ob_houses_of n)
theorem ok_first_of_all {h : Heap} (X : K.In h) (G : h.Ns mainGlobals mg) (Fa : Facts K w cL pL cS pS CF CH CT) {n : Nat} (T : ∀ m, n = m + 1 → Top P w K mg base m (fsN m) C_first_of_all) : Ok1 P w K mg base n 13 "first_of_all" := by
  obtain ⟨f, oc, od, kV, doc, pm, an, cdv, ct, osl, a, l, c, k⟩ := Fa.f_first_of_all.ex
  have F := fun_mk (st := s_first_of_all) l c k
  refine ⟨lv n 21 spFirst, rfl, f, _, ["formula"], ?_, PySem.W.mg_of X G a, k, F.binds fun _ _ _ _ _ _ us hl => match us, hl with | [_], _ => rfl⟩
  cases n with
  | zero => exact none_at fun ds S Q h => by have := h.1; omega
  | succ n => exact fn_ok l c sc_first_of_all rfl rfl rfl rfl co_first_of_all (T n rfl) (fun ds S Q h => by first | (obtain ⟨rfl, _⟩ := h; rfl) | (obtain ⟨_, rfl, _⟩ := h; rfl) | (obtain ⟨_, _, rfl, _⟩ := h; rfl) | (obtain ⟨_, _, _, rfl, _⟩ := h; rfl) | (obtain ⟨_, _, _, _, rfl, _⟩ := h; rfl) | (obtain ⟨_, _, _, _, _, rfl, _⟩ := h; rfl) | (obtain ⟨_, _, _, _, _, _, rfl, _⟩ := h; rfl)) (ob_first_of_all n)
theorem ok__meaning {h : Heap} (X : K.In h) (G : h.Ns mainGlobals mg) (Fa : Facts K w cL pL cS pS CF CH CT) {n : Nat} (T : ∀ m, n = m + 1 → Top P w K mg base m (fsN m) C__meaning) : Ok1 P w K mg base n 14 "_meaning" := by
  obtain ⟨f, oc, od, kV, doc, pm, an, cdv, ct, osl, a, l, c, k⟩ := Fa.f__meaning.ex
  have F := fun_mk (st := s__meaning) l c k
  refine ⟨spMeaning n, rfl, f, _, ["formula", "simple", "whole"], ?_, PySem.W.mg_of X G a, k, F.binds fun _ _ _ _ _ _ us hl => match us, hl with | [_, _, _], _ => rfl⟩
  cases n with
  | zero => exact none_at fun ds S Q h => by obtain ⟨f, m, hs, kvs, _, hj, _⟩ := h; omega
  | succ n => exact fn_ok l c sc__meaning rfl rfl rfl rfl co__meaning (T n rfl) (fun ds S Q h => by first | (obtain ⟨rfl, _⟩ := h; rfl) | (obtain ⟨_, rfl, _⟩ := h; rfl) | (obtain ⟨_, _, rfl, _⟩ := h; rfl) | (obtain ⟨_, _, _, rfl, _⟩ := h; rfl) | (obtain ⟨_, _, _, _, rfl, _⟩ := h; rfl) | (obtain ⟨_, _, _, _, _, rfl, _⟩ := h; rfl) | (obtain ⟨_, _, _, _, _, _, rfl, _⟩ := h; rfl)) (ob__meaning n)
theorem ok__simple_meanings {h : Heap} (X : K.In h) (G : h.Ns mainGlobals mg) (Fa : Facts K w cL pL cS pS CF CH CT) {n : Nat} (T : ∀ m, n = m + 1 → Top P w K mg base m (fsN m) C__simple_meanings) : Ok1 P w K mg base n 15 "_simple_meanings" := by
  obtain ⟨f, oc, od, kV, doc, pm, an, cdv, ct, osl, a, l, c, k⟩ := Fa.f__simple_meanings.ex
  have F := fun_mk (st := s__simple_meanings) l c k
  refine ⟨lv n 19 spSimple, rfl, f, _, ["formulas", "houses"], ?_, PySem.W.mg_of X G a, k, F.binds fun _ _ _ _ _ _ us hl => match us, hl with | [_, _], _ => rfl⟩
  cases n with
  | zero => exact none_at fun ds S Q h => by have := h.1; omega
  | succ n => exact fn_ok l c sc__simple_meanings rfl rfl rfl rfl co__simple_meanings (T n rfl) (fun ds S Q h => by first | (obtain ⟨rfl, _⟩ := h; rfl) | (obtain ⟨_, rfl, _⟩ := h; rfl) | (obtain ⟨_, _, rfl, _⟩ := h; rfl) | (obtain ⟨_, _, _, rfl, _⟩ := h; rfl) | (obtain ⟨_, _, _, _, rfl, _⟩ := h; rfl) | (obtain ⟨_, _, _, _, _, rfl, _⟩ := h; rfl) | (obtain ⟨_, _, _, _, _, _, rfl, _⟩ := h; rfl)) (ob__simple_meanings n)
theorem ok__simple_parts {h : Heap} (X : K.In h) (G : h.Ns mainGlobals mg) (Fa : Facts K w cL pL cS pS CF CH CT) {n : Nat} (T : ∀ m, n = m + 1 → Top P w K mg base m (fsN m) C__simple_parts) : Ok1 P w K mg base n 16 "_simple_parts" := by
  obtain ⟨f, oc, od, kV, doc, pm, an, cdv, ct, osl, a, l, c, k⟩ := Fa.f__simple_parts.ex
  have F := fun_mk (st := s__simple_parts) l c k
  refine ⟨spParts n, rfl, f, _, ["formula"], ?_, PySem.W.mg_of X G a, k, F.binds fun _ _ _ _ _ _ us hl => match us, hl with | [_], _ => rfl⟩
  cases n with
  | zero => exact none_at fun ds S Q h => by obtain ⟨f, _, hj, _⟩ := h; omega
  | succ n => exact fn_ok l c sc__simple_parts rfl rfl rfl rfl co__simple_parts (T n rfl) (fun ds S Q h => by first | (obtain ⟨rfl, _⟩ := h; rfl) | (obtain ⟨_, rfl, _⟩ := h; rfl) | (obtain ⟨_, _, rfl, _⟩ := h; rfl) | (obtain ⟨_, _, _, rfl, _⟩ := h; rfl) | (obtain ⟨_, _, _, _, rfl, _⟩ := h; rfl) | (obtain ⟨_, _, _, _, _, rfl, _⟩ := h; rfl) | (obtain ⟨_, _, _, _, _, _, rfl, _⟩ := h; rfl)) (ob__simple_parts n)
theorem ok__holds_simply {h : Heap} (X : K.In h) (G : h.Ns mainGlobals mg) (Fa : Facts K w cL pL cS pS CF CH CT) {n : Nat} (T : ∀ m, n = m + 1 → Top P w K mg base m (fsN m) C__holds_simply) : Ok1 P w K mg base n 17 "_holds_simply" := by
  obtain ⟨f, oc, od, kV, doc, pm, an, cdv, ct, osl, a, l, c, k⟩ := Fa.f__holds_simply.ex
  have F := fun_mk (st := s__holds_simply) l c k
  refine ⟨lv n 1 spHoldsS, rfl, f, _, ["formula", "house"], ?_, PySem.W.mg_of X G a, k, F.binds fun _ _ _ _ _ _ us hl => match us, hl with | [_, _], _ => rfl⟩
  cases n with
  | zero => exact none_at fun ds S Q h => by have := h.1; omega
  | succ n => exact fn_ok l c sc__holds_simply rfl rfl rfl rfl co__holds_simply (T n rfl) (fun ds S Q h => by first | (obtain ⟨rfl, _⟩ := h; rfl) | (obtain ⟨_, rfl, _⟩ := h; rfl) | (obtain ⟨_, _, rfl, _⟩ := h; rfl) | (obtain ⟨_, _, _, rfl, _⟩ := h; rfl) | (obtain ⟨_, _, _, _, rfl, _⟩ := h; rfl) | (obtain ⟨_, _, _, _, _, rfl, _⟩ := h; rfl) | (obtain ⟨_, _, _, _, _, _, rfl, _⟩ := h; rfl)) (ob__holds_simply n)
theorem ok_holds {h : Heap} (X : K.In h) (G : h.Ns mainGlobals mg) (Fa : Facts K w cL pL cS pS CF CH CT) {n : Nat} (T : ∀ m, n = m + 1 → Top P w K mg base m (fsN m) C_holds) : Ok1 P w K mg base n 18 "holds" := by
  obtain ⟨f, oc, od, kV, doc, pm, an, cdv, ct, osl, a, l, c, k⟩ := Fa.f_holds.ex
  have F := fun_mk (st := s_holds) l c k
  refine ⟨lv n 21 spHolds, rfl, f, _, ["formula", "house"], ?_, PySem.W.mg_of X G a, k, F.binds fun _ _ _ _ _ _ us hl => match us, hl with | [_, _], _ => rfl⟩
  cases n with
  | zero => exact none_at fun ds S Q h => by have := h.1; omega
  | succ n => exact fn_ok l c sc_holds rfl rfl rfl rfl co_holds (T n rfl) (fun ds S Q h => by first | (obtain ⟨rfl, _⟩ := h; rfl) | (obtain ⟨_, rfl, _⟩ := h; rfl) | (obtain ⟨_, _, rfl, _⟩ := h; rfl) | (obtain ⟨_, _, _, rfl, _⟩ := h; rfl) | (obtain ⟨_, _, _, _, rfl, _⟩ := h; rfl) | (obtain ⟨_, _, _, _, _, rfl, _⟩ := h; rfl) | (obtain ⟨_, _, _, _, _, _, rfl, _⟩ := h; rfl)) (ob_holds n)
theorem ok_how {h : Heap} (X : K.In h) (G : h.Ns mainGlobals mg) (Fa : Facts K w cL pL cS pS CF CH CT) {n : Nat} (T : ∀ m, n = m + 1 → Top P w K mg base m (fsN m) C_how) : Ok1 P w K mg base n 19 "how" := by
  obtain ⟨f, oc, od, kV, doc, pm, an, cdv, ct, osl, a, l, c, k⟩ := Fa.f_how.ex
  have F := fun_mk (st := s_how) l c k
  refine ⟨lv n 21 spHow, rfl, f, _, ["formula"], ?_, PySem.W.mg_of X G a, k, F.binds fun _ _ _ _ _ _ us hl => match us, hl with | [_], _ => rfl⟩
  cases n with
  | zero => exact none_at fun ds S Q h => by have := h.1; omega
  | succ n => exact fn_ok l c sc_how rfl rfl rfl rfl co_how (T n rfl) (fun ds S Q h => by first | (obtain ⟨rfl, _⟩ := h; rfl) | (obtain ⟨_, rfl, _⟩ := h; rfl) | (obtain ⟨_, _, rfl, _⟩ := h; rfl) | (obtain ⟨_, _, _, rfl, _⟩ := h; rfl) | (obtain ⟨_, _, _, _, rfl, _⟩ := h; rfl) | (obtain ⟨_, _, _, _, _, rfl, _⟩ := h; rfl) | (obtain ⟨_, _, _, _, _, _, rfl, _⟩ := h; rfl)) (ob_how n)
theorem ok_first_house {h : Heap} (X : K.In h) (G : h.Ns mainGlobals mg) (Fa : Facts K w cL pL cS pS CF CH CT) {n : Nat} (T : ∀ m, n = m + 1 → Top P w K mg base m (fsN m) C_first_house) : Ok1 P w K mg base n 20 "first_house" := by
  obtain ⟨f, oc, od, kV, doc, pm, an, cdv, ct, osl, a, l, c, k⟩ := Fa.f_first_house.ex
  have F := fun_mk (st := s_first_house) l c k
  refine ⟨lv n 22 spFirstH, rfl, f, _, ["formula", "truth"], ?_, PySem.W.mg_of X G a, k, F.binds fun _ _ _ _ _ _ us hl => match us, hl with | [_, _], _ => rfl⟩
  cases n with
  | zero => exact none_at fun ds S Q h => by have := h.1; omega
  | succ n => exact fn_ok l c sc_first_house rfl rfl rfl rfl co_first_house (T n rfl) (fun ds S Q h => by first | (obtain ⟨rfl, _⟩ := h; rfl) | (obtain ⟨_, rfl, _⟩ := h; rfl) | (obtain ⟨_, _, rfl, _⟩ := h; rfl) | (obtain ⟨_, _, _, rfl, _⟩ := h; rfl) | (obtain ⟨_, _, _, _, rfl, _⟩ := h; rfl) | (obtain ⟨_, _, _, _, _, rfl, _⟩ := h; rfl) | (obtain ⟨_, _, _, _, _, _, rfl, _⟩ := h; rfl)) (ob_first_house n)
theorem ok__law_source {h : Heap} (X : K.In h) (G : h.Ns mainGlobals mg) (Fa : Facts K w cL pL cS pS CF CH CT) {n : Nat} (T : ∀ m, n = m + 1 → Top P w K mg base m (fsN m) C__law_source) : Ok1 P w K mg base n 21 "_law_source" := by
  obtain ⟨f, oc, od, kV, doc, pm, an, cdv, ct, osl, a, l, c, k⟩ := Fa.f__law_source.ex
  have F := fun_mk (st := s__law_source) l c k
  refine ⟨lv n 1 spSource, rfl, f, _, ["_law_script", "_law_k"], ?_, PySem.W.mg_of X G a, k, F.binds fun _ _ _ _ _ _ us hl => match us, hl with | [_, _], _ => rfl⟩
  cases n with
  | zero => exact none_at fun ds S Q h => by have := h.1; omega
  | succ n => exact fn_ok l c sc__law_source rfl rfl rfl rfl co__law_source (T n rfl) (fun ds S Q h => by first | (obtain ⟨rfl, _⟩ := h; rfl) | (obtain ⟨_, rfl, _⟩ := h; rfl) | (obtain ⟨_, _, rfl, _⟩ := h; rfl) | (obtain ⟨_, _, _, rfl, _⟩ := h; rfl) | (obtain ⟨_, _, _, _, rfl, _⟩ := h; rfl) | (obtain ⟨_, _, _, _, _, rfl, _⟩ := h; rfl) | (obtain ⟨_, _, _, _, _, _, rfl, _⟩ := h; rfl)) (ob__law_source n)
theorem ok__law_draw {h : Heap} (X : K.In h) (G : h.Ns mainGlobals mg) (Fa : Facts K w cL pL cS pS CF CH CT) {n : Nat} (T : ∀ m, n = m + 1 → Top P w K mg base m (fsN m) C__law_draw) : Ok1 P w K mg base n 22 "_law_draw" := by
  obtain ⟨f, oc, od, kV, doc, pm, an, cdv, ct, osl, a, l, c, k⟩ := Fa.f__law_draw.ex
  have F := fun_mk (st := s__law_draw) l c k
  refine ⟨lv n 1 spDraw, rfl, f, _, ["_law_source_here", "_law_many"], ?_, PySem.W.mg_of X G a, k, F.binds fun _ _ _ _ _ _ us hl => match us, hl with | [_, _], _ => rfl⟩
  cases n with
  | zero => exact none_at fun ds S Q h => by have := h.1; omega
  | succ n => exact fn_ok l c sc__law_draw rfl rfl rfl rfl co__law_draw (T n rfl) (fun ds S Q h => by first | (obtain ⟨rfl, _⟩ := h; rfl) | (obtain ⟨_, rfl, _⟩ := h; rfl) | (obtain ⟨_, _, rfl, _⟩ := h; rfl) | (obtain ⟨_, _, _, rfl, _⟩ := h; rfl) | (obtain ⟨_, _, _, _, rfl, _⟩ := h; rfl) | (obtain ⟨_, _, _, _, _, rfl, _⟩ := h; rfl) | (obtain ⟨_, _, _, _, _, _, rfl, _⟩ := h; rfl)) (ob__law_draw n)
theorem ok__law_choice {h : Heap} (X : K.In h) (G : h.Ns mainGlobals mg) (Fa : Facts K w cL pL cS pS CF CH CT) {n : Nat} (T : ∀ m, n = m + 1 → Top P w K mg base m (fsN m) C__law_choice) : Ok1 P w K mg base n 23 "_law_choice" := by
  obtain ⟨f, oc, od, kV, doc, pm, an, cdv, ct, osl, a, l, c, k⟩ := Fa.f__law_choice.ex
  have F := fun_mk (st := s__law_choice) l c k
  refine ⟨lv n 2 spChoice, rfl, f, _, ["_law_source_here", "_law_some"], ?_, PySem.W.mg_of X G a, k, F.binds fun _ _ _ _ _ _ us hl => match us, hl with | [_, _], _ => rfl⟩
  cases n with
  | zero => exact none_at fun ds S Q h => by have := h.1; omega
  | succ n => exact fn_ok l c sc__law_choice rfl rfl rfl rfl co__law_choice (T n rfl) (fun ds S Q h => by first | (obtain ⟨rfl, _⟩ := h; rfl) | (obtain ⟨_, rfl, _⟩ := h; rfl) | (obtain ⟨_, _, rfl, _⟩ := h; rfl) | (obtain ⟨_, _, _, rfl, _⟩ := h; rfl) | (obtain ⟨_, _, _, _, rfl, _⟩ := h; rfl) | (obtain ⟨_, _, _, _, _, rfl, _⟩ := h; rfl) | (obtain ⟨_, _, _, _, _, _, rfl, _⟩ := h; rfl)) (ob__law_choice n)
theorem ok__law_holds {h : Heap} (X : K.In h) (G : h.Ns mainGlobals mg) (Fa : Facts K w cL pL cS pS CF CH CT) {n : Nat} (T : ∀ m, n = m + 1 → Top P w K mg base m (fsN m) C__law_holds) : Ok1 P w K mg base n 24 "_law_holds" := by
  obtain ⟨f, oc, od, kV, doc, pm, an, cdv, ct, osl, a, l, c, k⟩ := Fa.f__law_holds.ex
  have F := fun_mk (st := s__law_holds) l c k
  refine ⟨spLHolds n, rfl, f, _, ["_law_formula_here", "_law_house"], ?_, PySem.W.mg_of X G a, k, F.binds fun _ _ _ _ _ _ us hl => match us, hl with | [_, _], _ => rfl⟩
  cases n with
  | zero => exact none_at fun ds S Q h => by obtain ⟨f, h, _, hj, _⟩ := h; omega
  | succ n => exact fn_ok l c sc__law_holds rfl rfl rfl rfl co__law_holds (T n rfl) (fun ds S Q h => by first | (obtain ⟨rfl, _⟩ := h; rfl) | (obtain ⟨_, rfl, _⟩ := h; rfl) | (obtain ⟨_, _, rfl, _⟩ := h; rfl) | (obtain ⟨_, _, _, rfl, _⟩ := h; rfl) | (obtain ⟨_, _, _, _, rfl, _⟩ := h; rfl) | (obtain ⟨_, _, _, _, _, rfl, _⟩ := h; rfl) | (obtain ⟨_, _, _, _, _, _, rfl, _⟩ := h; rfl)) (ob__law_holds n)
theorem ok__law_houses {h : Heap} (X : K.In h) (G : h.Ns mainGlobals mg) (Fa : Facts K w cL pL cS pS CF CH CT) {n : Nat} (T : ∀ m, n = m + 1 → Top P w K mg base m (fsN m) C__law_houses) : Ok1 P w K mg base n 25 "_law_houses" := by
  obtain ⟨f, oc, od, kV, doc, pm, an, cdv, ct, osl, a, l, c, k⟩ := Fa.f__law_houses.ex
  have F := fun_mk (st := s__law_houses) l c k
  refine ⟨lv n 1 spLHouses, rfl, f, _, ["_law_most"], ?_, PySem.W.mg_of X G a, k, F.binds fun _ _ _ _ _ _ us hl => match us, hl with | [_], _ => rfl⟩
  cases n with
  | zero => exact none_at fun ds S Q h => by have := h.1; omega
  | succ n => exact fn_ok l c sc__law_houses rfl rfl rfl rfl co__law_houses (T n rfl) (fun ds S Q h => by first | (obtain ⟨rfl, _⟩ := h; rfl) | (obtain ⟨_, rfl, _⟩ := h; rfl) | (obtain ⟨_, _, rfl, _⟩ := h; rfl) | (obtain ⟨_, _, _, rfl, _⟩ := h; rfl) | (obtain ⟨_, _, _, _, rfl, _⟩ := h; rfl) | (obtain ⟨_, _, _, _, _, rfl, _⟩ := h; rfl) | (obtain ⟨_, _, _, _, _, _, rfl, _⟩ := h; rfl)) (ob__law_houses n)
theorem ok__law_truths {h : Heap} (X : K.In h) (G : h.Ns mainGlobals mg) (Fa : Facts K w cL pL cS pS CF CH CT) {n : Nat} (T : ∀ m, n = m + 1 → Top P w K mg base m (fsN m) C__law_truths) : Ok1 P w K mg base n 26 "_law_truths" := by
  obtain ⟨f, oc, od, kV, doc, pm, an, cdv, ct, osl, a, l, c, k⟩ := Fa.f__law_truths.ex
  have F := fun_mk (st := s__law_truths) l c k
  refine ⟨lv n 12 spLTruths, rfl, f, _, ["_law_formula_here", "_law_houses_here"], ?_, PySem.W.mg_of X G a, k, F.binds fun _ _ _ _ _ _ us hl => match us, hl with | [_, _], _ => rfl⟩
  cases n with
  | zero => exact none_at fun ds S Q h => by have := h.1; omega
  | succ n => exact fn_ok l c sc__law_truths rfl rfl rfl rfl co__law_truths (T n rfl) (fun ds S Q h => by first | (obtain ⟨rfl, _⟩ := h; rfl) | (obtain ⟨_, rfl, _⟩ := h; rfl) | (obtain ⟨_, _, rfl, _⟩ := h; rfl) | (obtain ⟨_, _, _, rfl, _⟩ := h; rfl) | (obtain ⟨_, _, _, _, rfl, _⟩ := h; rfl) | (obtain ⟨_, _, _, _, _, rfl, _⟩ := h; rfl) | (obtain ⟨_, _, _, _, _, _, rfl, _⟩ := h; rfl)) (ob__law_truths n)
theorem ok__law_formula {h : Heap} (X : K.In h) (G : h.Ns mainGlobals mg) (Fa : Facts K w cL pL cS pS CF CH CT) {n : Nat} (T : ∀ m, n = m + 1 → Top P w K mg base m (fsN m) C__law_formula) : Ok1 P w K mg base n 27 "_law_formula" := by
  obtain ⟨f, oc, od, kV, doc, pm, an, cdv, ct, osl, a, l, c, k⟩ := Fa.f__law_formula.ex
  have F := fun_mk (st := s__law_formula) l c k
  refine ⟨spFormula n, rfl, f, _, ["_law_source_here", "_law_deep"], ?_, PySem.W.mg_of X G a, k, F.binds fun _ _ _ _ _ _ us hl => match us, hl with | [_, _], _ => rfl⟩
  cases n with
  | zero => exact none_at fun ds S Q h => by obtain ⟨m, j, _, _, _, hj, _⟩ := h; omega
  | succ n => exact fn_ok l c sc__law_formula rfl rfl rfl rfl co__law_formula (T n rfl) (fun ds S Q h => by first | (obtain ⟨rfl, _⟩ := h; rfl) | (obtain ⟨_, rfl, _⟩ := h; rfl) | (obtain ⟨_, _, rfl, _⟩ := h; rfl) | (obtain ⟨_, _, _, rfl, _⟩ := h; rfl) | (obtain ⟨_, _, _, _, rfl, _⟩ := h; rfl) | (obtain ⟨_, _, _, _, _, rfl, _⟩ := h; rfl) | (obtain ⟨_, _, _, _, _, _, rfl, _⟩ := h; rfl)) (ob__law_formula n)
theorem ok__law_first {h : Heap} (X : K.In h) (G : h.Ns mainGlobals mg) (Fa : Facts K w cL pL cS pS CF CH CT) {n : Nat} (T : ∀ m, n = m + 1 → Top P w K mg base m (fsN m) C__law_first) : Ok1 P w K mg base n 28 "_law_first" := by
  obtain ⟨f, oc, od, kV, doc, pm, an, cdv, ct, osl, a, l, c, k⟩ := Fa.f__law_first.ex
  have F := fun_mk (st := s__law_first) l c k
  refine ⟨lv n 1 spLFirst, rfl, f, _, ["_law_truths_here", "_law_houses_here", "_law_due"], ?_, PySem.W.mg_of X G a, k, F.binds fun _ _ _ _ _ _ us hl => match us, hl with | [_, _, _], _ => rfl⟩
  cases n with
  | zero => exact none_at fun ds S Q h => by have := h.1; omega
  | succ n => exact fn_ok l c sc__law_first rfl rfl rfl rfl co__law_first (T n rfl) (fun ds S Q h => by first | (obtain ⟨rfl, _⟩ := h; rfl) | (obtain ⟨_, rfl, _⟩ := h; rfl) | (obtain ⟨_, _, rfl, _⟩ := h; rfl) | (obtain ⟨_, _, _, rfl, _⟩ := h; rfl) | (obtain ⟨_, _, _, _, rfl, _⟩ := h; rfl) | (obtain ⟨_, _, _, _, _, rfl, _⟩ := h; rfl) | (obtain ⟨_, _, _, _, _, _, rfl, _⟩ := h; rfl)) (ob__law_first n)
theorem ok__law_right {h : Heap} (X : K.In h) (G : h.Ns mainGlobals mg) (Fa : Facts K w cL pL cS pS CF CH CT) {n : Nat} (T : ∀ m, n = m + 1 → Top P w K mg base m (fsN m) C__law_right) : Ok1 P w K mg base n 29 "_law_right" := by
  obtain ⟨f, oc, od, kV, doc, pm, an, cdv, ct, osl, a, l, c, k⟩ := Fa.f__law_right.ex
  have F := fun_mk (st := s__law_right) l c k
  refine ⟨lv n 23 spLRight, rfl, f, _, ["_law_source_here", "_law_formula_here", "_law_houses_here"], ?_, PySem.W.mg_of X G a, k, F.binds fun _ _ _ _ _ _ us hl => match us, hl with | [_, _, _], _ => rfl⟩
  cases n with
  | zero => exact none_at fun ds S Q h => by have := h.1; omega
  | succ n => exact fn_ok l c sc__law_right rfl rfl rfl rfl co__law_right (T n rfl) (fun ds S Q h => by first | (obtain ⟨rfl, _⟩ := h; rfl) | (obtain ⟨_, rfl, _⟩ := h; rfl) | (obtain ⟨_, _, rfl, _⟩ := h; rfl) | (obtain ⟨_, _, _, rfl, _⟩ := h; rfl) | (obtain ⟨_, _, _, _, rfl, _⟩ := h; rfl) | (obtain ⟨_, _, _, _, _, rfl, _⟩ := h; rfl) | (obtain ⟨_, _, _, _, _, _, rfl, _⟩ := h; rfl)) (ob__law_right n)
theorem ok__law_word {h : Heap} (X : K.In h) (G : h.Ns mainGlobals mg) (Fa : Facts K w cL pL cS pS CF CH CT) {n : Nat} : Ok1 P w K mg base n 30 "_law_word" := by
  obtain ⟨f, oc, od, kV, doc, pm, an, cdv, ct, osl, a, l, c, k⟩ := Fa.f__law_word.ex
  have F := fun_mk (st := s__law_word) l c k
  refine ⟨(fun _ _ _ => False), rfl, f, _, ["_law_call"], ?_, PySem.W.mg_of X G a, k, F.binds fun _ _ _ _ _ _ us hl => match us, hl with | [_], _ => rfl⟩
  exact none_at fun ds S Q h => h
theorem ok__law_written_right {h : Heap} (X : K.In h) (G : h.Ns mainGlobals mg) (Fa : Facts K w cL pL cS pS CF CH CT) {n : Nat} (T : ∀ m, n = m + 1 → Top P w K mg base m (fsN m) C__law_written_right) : Ok1 P w K mg base n 31 "_law_written_right" := by
  obtain ⟨f, oc, od, kV, doc, pm, an, cdv, ct, osl, a, l, c, k⟩ := Fa.f__law_written_right.ex
  have F := fun_mk (st := s__law_written_right) l c k
  refine ⟨lv n 23 spWritten, rfl, f, _, [], ?_, PySem.W.mg_of X G a, k, F.binds fun _ _ _ _ _ _ us hl => match us, hl with | [], _ => rfl⟩
  cases n with
  | zero => exact none_at fun ds S Q h => by have := h.1; omega
  | succ n => exact fn_ok l c sc__law_written_right rfl rfl rfl rfl co__law_written_right (T n rfl) (fun ds S Q h => by first | (obtain ⟨rfl, _⟩ := h; rfl) | (obtain ⟨_, rfl, _⟩ := h; rfl) | (obtain ⟨_, _, rfl, _⟩ := h; rfl) | (obtain ⟨_, _, _, rfl, _⟩ := h; rfl) | (obtain ⟨_, _, _, _, rfl, _⟩ := h; rfl) | (obtain ⟨_, _, _, _, _, rfl, _⟩ := h; rfl) | (obtain ⟨_, _, _, _, _, _, rfl, _⟩ := h; rfl)) (ob__law_written_right n)
theorem n_LamX {X : Cx} : True := trivial
theorem ok_small_houses {h : Heap} (X : K.In h) (G : h.Ns mainGlobals mg) (Fa : Facts K w cL pL cS pS CF CH CT) (TB : LamX.TabB base mg cS pS) (hT : (pS, qS) ∈ Tb.t) (hU : ∀ p ∈ Tb.t, p.1 = pS → p.2 = qS) {n : Nat} (T : ∀ m, n = m + 1 → Top P w K mg base m (fsN m) C_small_houses) : Ok1 P w K mg base n 8 "small_houses" := by
  obtain ⟨f, oc, od, kV, doc, pm, an, ct, osl, a, l, c, k⟩ := Fa.t_small.ex
  have F := fun_mk (st := s_small_houses) l c k
  refine ⟨lv n 1 spSmall, rfl, f, _, [], ?_, PySem.W.mg_of X G a, k, F.binds fun _ _ _ _ _ _ us hl => match us, hl with | [], _ => rfl⟩
  cases n with
  | zero => exact none_at fun ds S Q h => by have := h.1; omega
  | succ n =>
    have hso := bns_of X G Fa "sorted" (by decide +kernel)
    have hsu := bns_of X G Fa "sum" (by decide +kernel)
    refine fn_okL l c sc_small_houses rfl rfl co_small_houses (T n rfl) (fun A outer s H E hr => ⟨fun i hi => ?_, fun X' _ => lam_none⟩) (fun ds S Q h => by obtain ⟨_, rfl, _⟩ := h; rfl) (ob_small_houses n)
    obtain rfl : 33 = i := Option.some.inj hi
    exact srt_core (f33 n) hso hsu ⟨cS, pS, TB, rfl, hT, hU⟩ (hr.mono (Nat.zero_le _))
/-- the defs that raise, with 16 calls and more -/
structure Rs (P : Program) (w : World) (K : PySem.W.Frag) (mg : Str → Option Value) (base : Heap) (CF CH CT : Addr) : Prop where
  holds : RDef P w K mg base 17 "holds" ["formula", "house"] (spR K (CLs CF CH CT) xpHolds)
  how : RDef P w K mg base 17 "how" ["formula"] (spR K (CLs CF CH CT) xpF)
  first : RDef P w K mg base 17 "first_house" ["formula", "truth"] (spR K (CLs CF CH CT) xpFirst)
theorem rdef_of {h : Heap} (X : K.In h) (G : h.Ns mainGlobals mg) {x : Str} {st : Stmt} {ps : List Str} {sp : Sp} {k : Nat} (Fa : FunAt K x st) (F : ∀ (f : Addr) (fd : FuncData), Fun K x x st f fd → FnOk P w K mg base (L2.CX P w) k f fd ps sp)
    (hb : ∀ (kV doc pm : Value) (an : Option Addr) (cdv ct : Value) (us : List Value), us.length = ps.length → bindArgs (PySem.W.fnOf x x (defArgs st) (defBody st) (defScope st) .none kV doc pm an cdv ct) ⟨us, []⟩ = pure (ps.zip us)) : RDef P w K mg base k x ps sp := by
  obtain ⟨f, oc, od, kV, doc, pm, an, cdv, ct, osl, a, l, c, k⟩ := Fa.ex
  have F1 := fun_mk (st := st) l c k
  exact ⟨f, _, F f _ F1, PySem.W.mg_of X G a, k, F1.binds hb⟩
theorem rs_of {h : Heap} (X : K.In h) (G : h.Ns mainGlobals mg) (Fa : Facts K w cL pL cS pS CF CH CT) (A15 : AllOk P w K mg base 15) (A16 : AllOk P w K mg base 16) : Rs P w K mg base CF CH CT := by
  have Er := errs_of X G Fa
  have T15 : ∀ C : DW.Ctx, C.con = CON → C.fn = FN → C.bn = BN → C.dcn = DCN → Top P w K mg base 15 (fsN 15) C := fun C h1 h2 h3 h4 => top_of X G Fa A15 C h1 h2 h3 h4
  have T16 : ∀ C : DW.Ctx, C.con = CON → C.fn = FN → C.bn = BN → C.dcn = DCN → Top P w K mg base 16 (fsN 16) C := fun C h1 h2 h3 h4 => top_of X G Fa A16 C h1 h2 h3 h4
  have RF : RDef P w K mg base 16 "check_formula" ["value"] (spR K (CLs CF CH CT) xpF) := rdef_of X G Fa.f_check_formula (fun f fd F => okR_ckF F (T15 _ rfl rfl rfl rfl) (by decide) Er.F rfl) fun _ _ _ _ _ _ us hl => match us, hl with | [_], _ => rfl
  have RH : RDef P w K mg base 16 "check_house" ["value"] (spR K (CLs CF CH CT) xpH) := rdef_of X G Fa.f_check_house (fun f fd F => okR_ckH F (T15 _ rfl rfl rfl rfl) (by decide) Er.H rfl) fun _ _ _ _ _ _ us hl => match us, hl with | [_], _ => rfl
  have RT : RDef P w K mg base 16 "check_truth" ["value"] (spR K (CLs CF CH CT) xpT) := rdef_of X G Fa.f_check_truth (fun f fd F => okR_ckT F (T15 _ rfl rfl rfl rfl) Er.T rfl) fun _ _ _ _ _ _ us hl => match us, hl with | [_], _ => rfl
  exact ⟨rdef_of X G Fa.f_holds (fun f fd F => okR_holds F (T16 _ rfl rfl rfl rfl) (by decide) RF RH) fun _ _ _ _ _ _ us hl => match us, hl with | [_, _], _ => rfl,
    rdef_of X G Fa.f_how (fun f fd F => okR_how F (T16 _ rfl rfl rfl rfl) (by decide) RF) fun _ _ _ _ _ _ us hl => match us, hl with | [_], _ => rfl,
    rdef_of X G Fa.f_first_house (fun f fd F => okR_first F (T16 _ rfl rfl rfl rfl) (by decide) RF RT) fun _ _ _ _ _ _ us hl => match us, hl with | [_, _], _ => rfl⟩
theorem holds_x {n : Nat} : ∀ ds S Q, lv n 22 spLamHolds ds S Q → xpHolds ds S fun c S' => ∃ wd, wordC c = some wd ∧ Q (.str wd) S' := by
  rintro ds S Q ⟨_, d, e, rfl, h1, h2, h⟩
  refine ⟨d, e, rfl, h1, h2, ?_⟩
  rcases h with ⟨a, q⟩ | ⟨a, b, q⟩
  · exact .inl ⟨a, _, rfl, q S (Ext.refl S)⟩
  · exact .inr ⟨a, b, fun S' e => ⟨_, rfl, q S' e⟩⟩
theorem how_x {n : Nat} : ∀ ds S Q, lv n 22 spLamHow ds S Q → xpF ds S fun c S' => ∃ wd, wordC c = some wd ∧ Q (.str wd) S' := by
  rintro ds S Q ⟨_, d, rfl, h1, a, q⟩
  exact ⟨d, rfl, h1, a, _, rfl, q S (Ext.refl S)⟩
theorem first_x {n : Nat} : ∀ ds S Q, lv n 22 spLamFirst ds S Q → xpFirst ds S fun c S' => ∃ wd, wordC c = some wd ∧ Q (.str wd) S' := by
  rintro ds S Q ⟨_, d, e, rfl, h1, h2, h⟩
  refine ⟨d, e, rfl, h1, h2, ?_⟩
  rcases h with ⟨a, q⟩ | ⟨a, b, q⟩
  · exact .inl ⟨a, _, rfl, q S (Ext.refl S)⟩
  · exact .inr ⟨a, b, _, rfl, q S (Ext.refl S)⟩
theorem lam_inv {sc : Scope} {x : Str} {es : List Expr} {i : Nat} {as : List Expr} {scope : Scope} (h : lamOf sc LAM x es = some (i, as, scope)) : ∃ (f : Str) (fp cp lp : Pos), es = [.Lambda ⟨[], [], none, [], [], none, []⟩ (.Call (.Name f fp) as [] cp) scope lp] ∧
    LamX.lamSB sc scope = true ∧ scope.names.lookup f = some .globalImplicit ∧ okName f = true ∧ as ≠ [] ∧ LAM.lookup (x, f) = some i := by
  unfold lamOf at h
  split at h
  · split at h
    · split at h
      · rename_i hc
        obtain ⟨h1, h2, h3, h4⟩ := hc
        cases e : LAM.lookup (_, _) with
        | none => rw [e] at h; cases h
        | some z =>
          rw [e] at h
          cases h
          exact ⟨_, _, _, _, rfl, h1, h2, h3, h4, e⟩
      · cases h
    · cases h
  · cases h
theorem lam_law {X : Cx} {n : Nat} (hL : LamTxt X) (Er : Errs X.K X.mg CF CH CT) (R : Rs X.prog X.w X.K X.mg X.base CF CH CT) (hr : Room 19 X.A) : LamOk (fsN n) LAM X := by
  intro x es i as scope pn p aa h hg hn hst hA
  obtain ⟨f, fp, cp, lp, rfl, h1, h2, h3, h4, h5⟩ := lam_inv h
  have hLS := LamX.lamS_by h1
  obtain ⟨_, hdb⟩ := ok_name h3
  cases as with
  | nil => exact absurd rfl h4
  | cons e r =>
    have st := fun env => hst e r env rfl
    have m := look_mem h5
    simp only [List.mem_cons, List.not_mem_nil, or_false, Prod.mk.injEq] at m
    rcases m with ⟨⟨rfl, rfl⟩, rfl⟩ | ⟨⟨rfl, rfl⟩, rfl⟩ | ⟨⟨rfl, rfl⟩, rfl⟩
    · exact lam_core (f34 n) holds_x R.holds Er hL hr hLS h2 hdb hg st hA
    · exact lam_core (f35 n) how_x R.how Er hL hr hLS h2 hdb hg st hA
    · exact lam_core (f36 n) first_x R.first Er hL hr hLS h2 hdb hg st hA
theorem law_fn {h : Heap} (X : K.In h) (G : h.Ns mainGlobals mg) (Fa : Facts K w cL pL cS pS CF CH CT) (TB : LamX.TabB base mg cL pL) (hT : (pL, qL) ∈ Tb.t) (hU : ∀ p ∈ Tb.t, p.1 = pL → p.2 = qL) (R : 24 ≤ n → Rs P w K mg base CF CH CT) (T : ∀ m, n = m + 1 → Top P w K mg base m (fsN m) C_law)
    {f : Addr} {oc : Value} {od : Option Addr} {kV doc pm : Value} {an : Option Addr} {ct : Value} {osl : Array (Option Value)} (l : K.lookup f = some ⟨oc, od, .func (PySem.W.fnOf "law" "law" (defArgs s_law) (defBody s_law) (defScope s_law) .none kV doc pm an (.ref cL) ct), osl⟩) (c : PySem.W.codeIn K (.ref cL) "law" = true) :
    FnOk P w K mg base CX0 n f (PySem.W.fnOf "law" "law" (defArgs s_law) (defBody s_law) (defScope s_law) .none kV doc pm an (.ref cL) ct) ["_law_script"] (spD K (lv n 24 spLaw)) := by
  by_cases hn : 24 ≤ n
  · obtain ⟨n, rfl⟩ : ∃ m, n = m + 1 := ⟨n - 1, by omega⟩
    have Er := errs_of X G Fa
    obtain ⟨wf, woc, wod, wkV, wdoc, wpm, wan, wcdv, wct, wosl, wa, wl, wc, wk⟩ := Fa.f__law_word.ex
    have wF := fun_mk (st := s__law_word) wl wc wk
    refine fn_okL l c sc_law rfl rfl co_law (T n rfl) (fun A outer s H E hr => ⟨fun i hi => (by cases hi), fun X' lk => ?_⟩) (fun ds S Q h => by obtain ⟨_, _, _, rfl, _⟩ := h; rfl) (ob_law n)
    obtain ⟨l1, l2, l3, l4, l5, l6, l7, l8, l9⟩ := lk
    refine lam_law ⟨?_, ?_⟩ (by rw [l3, l4]; exact Er) (by rw [l1, l2, l3, l4, l5]; exact R hn) (by rw [l6]; exact hr.mono (by omega))
    · rw [l3, l4]
      exact ⟨wf, woc, wod, wkV, wdoc, wpm, wan, wcdv, wct, wosl, PySem.W.mg_of X G wa, wk, wl, wc, wF.binds fun _ _ _ _ _ _ us hl => match us, hl with | [_], _ => rfl⟩
    · rw [l4, l5, l8, l9]
      exact ⟨cL, pL, TB, rfl, hT, hU⟩
  · exact none_at fun ds S Q h => by have := h.1; omega
theorem ok_law {h : Heap} (X : K.In h) (G : h.Ns mainGlobals mg) (Fa : Facts K w cL pL cS pS CF CH CT) (TB : LamX.TabB base mg cL pL) (hT : (pL, qL) ∈ Tb.t) (hU : ∀ p ∈ Tb.t, p.1 = pL → p.2 = qL) (R : 24 ≤ n → Rs P w K mg base CF CH CT) (T : ∀ m, n = m + 1 → Top P w K mg base m (fsN m) C_law) : Ok1 P w K mg base n 32 "law" := by
  obtain ⟨f, oc, od, kV, doc, pm, an, ct, osl, a, l, c, k⟩ := Fa.t_law.ex
  have F := fun_mk (st := s_law) l c k
  exact ⟨lv n 24 spLaw, rfl, f, _, ["_law_script"], law_fn X G Fa TB hT hU R T l c, PySem.W.mg_of X G a, k, F.binds fun _ _ _ _ _ _ us hl => match us, hl with | [_], _ => rfl⟩

theorem all_ok {h : Heap} (X : K.In h) (G : h.Ns mainGlobals mg) (Fa : Facts K w cL pL cS pS CF CH CT) (TL : LamX.TabB base mg cL pL) (TS : LamX.TabB base mg cS pS) (ht : Tb.t = [(pL, qL), (pS, qS)]) : ∀ n, AllOk P w K mg base n := by
  have mL : (pL, qL) ∈ Tb.t := by rw [ht]; simp
  have mS : (pS, qS) ∈ Tb.t := by rw [ht]; simp
  have uL : ∀ p ∈ Tb.t, p.1 = pL → p.2 = qL := fun p hp e => by
    rw [ht] at hp
    simp only [List.mem_cons, List.not_mem_nil, or_false] at hp
    rcases hp with rfl | rfl
    · rfl
    · exact absurd e.symm Fa.ne
  have uS : ∀ p ∈ Tb.t, p.1 = pS → p.2 = qS := fun p hp e => by
    rw [ht] at hp
    simp only [List.mem_cons, List.not_mem_nil, or_false] at hp
    rcases hp with rfl | rfl
    · exact absurd e Fa.ne
    · rfl
  have step : ∀ n, (∀ m, m < n → AllOk P w K mg base m) → AllOk P w K mg base n := fun n ih i x e => by
    have T : ∀ (C : DW.Ctx), C.con = CON → C.fn = FN → C.bn = BN → C.dcn = DCN → ∀ m, n = m + 1 → Top P w K mg base m (fsN m) C := fun C h1 h2 h3 h4 m hm => top_of X G Fa (ih m (by omega)) C h1 h2 h3 h4
    match i, e with
    | 0, e => obtain rfl : ("is_house" : Str) = x := Option.some.inj e; exact ok_is_house X G Fa (T C_is_house rfl rfl rfl rfl)
    | 1, e => obtain rfl : ("is_formula" : Str) = x := Option.some.inj e; exact ok_is_formula X G Fa (T C_is_formula rfl rfl rfl rfl)
    | 2, e => obtain rfl : ("is_number" : Str) = x := Option.some.inj e; exact ok_is_number X G Fa (T C_is_number rfl rfl rfl rfl)
    | 3, e => obtain rfl : ("_is_triple" : Str) = x := Option.some.inj e; exact ok__is_triple X G Fa (T C__is_triple rfl rfl rfl rfl)
    | 4, e => obtain rfl : ("_is_nested" : Str) = x := Option.some.inj e; exact ok__is_nested X G Fa (T C__is_nested rfl rfl rfl rfl)
    | 5, e => obtain rfl : ("check_formula" : Str) = x := Option.some.inj e; exact ok_check_formula X G Fa (T C_check_formula rfl rfl rfl rfl)
    | 6, e => obtain rfl : ("check_house" : Str) = x := Option.some.inj e; exact ok_check_house X G Fa (T C_check_house rfl rfl rfl rfl)
    | 7, e => obtain rfl : ("check_truth" : Str) = x := Option.some.inj e; exact ok_check_truth X G Fa (T C_check_truth rfl rfl rfl rfl)
    | 8, e => obtain rfl : ("small_houses" : Str) = x := Option.some.inj e; exact ok_small_houses X G Fa TS mS uS (T C_small_houses rfl rfl rfl rfl)
    | 9, e => obtain rfl : ("meanings" : Str) = x := Option.some.inj e; exact ok_meanings X G Fa (T C_meanings rfl rfl rfl rfl)
    | 10, e => obtain rfl : ("everywhere" : Str) = x := Option.some.inj e; exact ok_everywhere X G Fa (T C_everywhere rfl rfl rfl rfl)
    | 11, e => obtain rfl : ("holds_at" : Str) = x := Option.some.inj e; exact ok_holds_at X G Fa (T C_holds_at rfl rfl rfl rfl)
    | 12, e => obtain rfl : ("houses_of" : Str) = x := Option.some.inj e; exact ok_houses_of X G Fa (T C_houses_of rfl rfl rfl rfl)
    | 13, e => obtain rfl : ("first_of_all" : Str) = x := Option.some.inj e; exact ok_first_of_all X G Fa (T C_first_of_all rfl rfl rfl rfl)
    | 14, e => obtain rfl : ("_meaning" : Str) = x := Option.some.inj e; exact ok__meaning X G Fa (T C__meaning rfl rfl rfl rfl)
    | 15, e => obtain rfl : ("_simple_meanings" : Str) = x := Option.some.inj e; exact ok__simple_meanings X G Fa (T C__simple_meanings rfl rfl rfl rfl)
    | 16, e => obtain rfl : ("_simple_parts" : Str) = x := Option.some.inj e; exact ok__simple_parts X G Fa (T C__simple_parts rfl rfl rfl rfl)
    | 17, e => obtain rfl : ("_holds_simply" : Str) = x := Option.some.inj e; exact ok__holds_simply X G Fa (T C__holds_simply rfl rfl rfl rfl)
    | 18, e => obtain rfl : ("holds" : Str) = x := Option.some.inj e; exact ok_holds X G Fa (T C_holds rfl rfl rfl rfl)
    | 19, e => obtain rfl : ("how" : Str) = x := Option.some.inj e; exact ok_how X G Fa (T C_how rfl rfl rfl rfl)
    | 20, e => obtain rfl : ("first_house" : Str) = x := Option.some.inj e; exact ok_first_house X G Fa (T C_first_house rfl rfl rfl rfl)
    | 21, e => obtain rfl : ("_law_source" : Str) = x := Option.some.inj e; exact ok__law_source X G Fa (T C__law_source rfl rfl rfl rfl)
    | 22, e => obtain rfl : ("_law_draw" : Str) = x := Option.some.inj e; exact ok__law_draw X G Fa (T C__law_draw rfl rfl rfl rfl)
    | 23, e => obtain rfl : ("_law_choice" : Str) = x := Option.some.inj e; exact ok__law_choice X G Fa (T C__law_choice rfl rfl rfl rfl)
    | 24, e => obtain rfl : ("_law_holds" : Str) = x := Option.some.inj e; exact ok__law_holds X G Fa (T C__law_holds rfl rfl rfl rfl)
    | 25, e => obtain rfl : ("_law_houses" : Str) = x := Option.some.inj e; exact ok__law_houses X G Fa (T C__law_houses rfl rfl rfl rfl)
    | 26, e => obtain rfl : ("_law_truths" : Str) = x := Option.some.inj e; exact ok__law_truths X G Fa (T C__law_truths rfl rfl rfl rfl)
    | 27, e => obtain rfl : ("_law_formula" : Str) = x := Option.some.inj e; exact ok__law_formula X G Fa (T C__law_formula rfl rfl rfl rfl)
    | 28, e => obtain rfl : ("_law_first" : Str) = x := Option.some.inj e; exact ok__law_first X G Fa (T C__law_first rfl rfl rfl rfl)
    | 29, e => obtain rfl : ("_law_right" : Str) = x := Option.some.inj e; exact ok__law_right X G Fa (T C__law_right rfl rfl rfl rfl)
    | 30, e => obtain rfl : ("_law_word" : Str) = x := Option.some.inj e; exact ok__law_word X G Fa
    | 31, e => obtain rfl : ("_law_written_right" : Str) = x := Option.some.inj e; exact ok__law_written_right X G Fa (T C__law_written_right rfl rfl rfl rfl)
    | 32, e => obtain rfl : ("law" : Str) = x := Option.some.inj e; exact ok_law X G Fa TL mL uL (fun hn => rs_of X G Fa (ih 15 (by omega)) (ih 16 (by omega))) (T C_law rfl rfl rfl rfl)
    | i + 33, e => cases e
  intro n
  induction n using Nat.strongRecOn with
  | ind n ih => exact step n ih
end
end
end K03

set_option Elab.async false
set_option linter.all false
set_option maxRecDepth 100000
set_option maxHeartbeats 1000000

namespace K03
open PySem PySem.Spec PyProof.Rows L2 DW

theorem law_sp [Tb : Tbl] {K : PySem.W.Frag} {H : Hp} {a : Addr} {ns : List Int} (hl : ns.length ≤ 63) (hT : LamX.Tabs Tb.t H) (hS : SqL K H a (ns.map V.int)) (E : XK) : spD K (lv 60 24 spLaw) [.ref a] H (fun v _ => v = .bl true) E := by
  have post : ∀ φ, Post K φ H (fun v _ => v = .bl true) (fun d _ => d = .bl true) := fun φ d S' v H' φ' _ _ _ r q => by
    subst q
    cases r
    rfl
  have ro : SqR K H a (ns.map V.int) → spD K (lv 60 24 spLaw) [.ref a] H (fun v _ => v = .bl true) E := fun hR =>
    ⟨[.rol (ns.map D.int)], [], [], fun d _ => d = .bl true, .cons (.rol hR (ints_rep ns)) .nil, ⟨rfl, List.nodup_nil, fun n a o h => (by cases h), hT⟩, ⟨by omega, _, ns, rfl, .inl rfl, hl, fun _ => rfl⟩, post _⟩
  rcases hS with (h | h) | h
  · refine ⟨[.ref 0], [.lst (ns.map D.int)], [a], fun d _ => d = .bl true, .cons (.ref rfl) .nil, ⟨rfl, by simp, fun n b o h1 h2 => ?_, hT⟩, ⟨by omega, .ref 0, ns, rfl, .inr ⟨0, rfl, rfl⟩, hl, fun _ => rfl⟩, post _⟩
    cases n with
    | zero =>
      obtain rfl : a = b := Option.some.inj h1
      obtain rfl : Ob.lst (ns.map D.int) = o := Option.some.inj h2
      exact ⟨ns.map V.int, h, ints_rep ns⟩
    | succ n => cases h1
  · exact ro (.inl h)
  · exact ro (.inr h)
theorem tab_empty {P : Program} {loose : List Str} {me : ExcName → Option Value} {mg mb : Str → Option Value} {h : Heap} {K : PySem.W.Frag} {x : Str} {st : Stmt} {c p : Addr} (X : K.In h) (G : h.Ns mainGlobals mg) (T : TabAt K x st c p)
    (tab : ∃ (a : Addr) (o : Obj) (fd : FuncData) (c' p' : Addr), mg x = some (.ref a) ∧ h.get? a = some o ∧ o.data = .func fd ∧ fd.code = .ref c' ∧ h.TableAt c' p' #[]) : h.get? p = some { cls := .none, data := .fields #[] } := by
  obtain ⟨a, o, fd, c', p', h1, h2, h3, h4, ⟨⟨oc, vc, e1, _, e3, e4⟩, hP⟩⟩ := tab
  obtain ⟨f, oc2, od, kV, doc, pm, an, ct, osl, b1, b2, _, _⟩ := T.ex
  obtain ⟨e, dd, vs, sl, lc, l11⟩ := T.v11
  have m := PySem.W.mg_of X G b1
  rw [h1] at m
  cases m
  have g := X _ _ b2
  rw [h2] at g
  cases g
  cases h3
  cases h4
  have g2 := X _ _ lc
  rw [e1] at g2
  cases g2
  cases e3
  rw [e4] at l11
  cases l11
  exact hP
theorem walk {l : PySem.W.OpenLaw} {q : Program} {loose : List Str} {XP : (Str → Option Value) → Heap → Prop} {YP : World → Heap → Prop} {d : DefRec} {K : Params → PySem.W.Frag} (hn : l.most = some 63) (hdf : d.params.defaults = []) (hd : d.name = "law")
    (hr1 : ((recsOf q).any fun e => e.name == ("law" : Str)) = true) (hr2 : ((recsOf q).any fun e => e.name == ("small_houses" : Str)) = true)
    (hY : ∀ (w : World) (h : Heap), YP w h → (K w.params).In h)
    (F : ∀ (w : World) (h : Heap), (K w.params).In h → ∃ cL pL cS pS CF CH CT, Facts (K w.params) w cL pL cS pS CF CH CT) : PySem.W.WalkO q loose XP YP l.row.toRowW d [] (fun f vs => PySem.call f vs) := by
  refine Att.attach_callB hn hdf fun w s₀ s₁ mg mb fa o pm cd doc a vs ns G Y ho hdat hcd hmg hobj hints hlen hbits hg => ?_
  have KX := hY w _ Y
  obtain ⟨cL, pL, cS, pS, CF, CH, CT, Fa⟩ := F w _ KX
  have NS := G.T.g
  have row : ∀ x : Str, ((recsOf q).any fun e => e.name == x) = true → ∃ (a : Addr) (o : Obj) (fd : FuncData) (c' p' : Addr), mg x = some (.ref a) ∧ s₁.heap.get? a = some o ∧ o.data = .func fd ∧ fd.code = .ref c' ∧ s₁.heap.TableAt c' p' #[] := fun x hx => by
    obtain ⟨e, he, hx⟩ := List.any_eq_true.mp hx
    obtain rfl : e.name = x := beq_iff_eq.mp hx
    obtain ⟨a', o', fd', c', p', k1, k2, k3, k4, _, k6⟩ := G.T.tab e he
    exact ⟨a', o', fd', c', p', k1, k2, k3, k4, k6⟩
  have eL := tab_empty (P := l.prog) (loose := loose) (me := fun _ => none) (mb := mb) KX NS Fa.t_law (row _ hr1)
  have eS := tab_empty (P := l.prog) (loose := loose) (me := fun _ => none) (mb := mb) KX NS Fa.t_small (row _ hr2)
  letI : Tbl := tabs pL pS
  obtain ⟨f, oc, od, kV, doc', pm', an, ct, osl, b1, b2, b3, b4⟩ := Fa.t_law.ex
  have hfa : fa = f := by
    have m := PySem.W.mg_of KX NS b1
    rw [hd] at hmg
    rw [hmg] at m
    cases m
    rfl
  subst hfa
  have F1 := fun_mk (st := s_law) b2 b3 b4
  refine LamX.law_callTs (cs := [(cL, pL), (cS, pS)]) (k := 60) (x := "_law_script") (CX := CX0) (sp := spD (K w.params) (lv 60 24 spLaw)) (fd := PySem.W.fnOf "law" "law" (defArgs s_law) (defBody s_law) (defScope s_law) .none kV doc' pm' an (.ref cL) ct) KX NS G.T.b G.T.builtins G.T.nolimit hg ?_ ?_ ?_ G.T.bmain hobj hints (Nat.le_trans hlen (by decide)) ⟨rfl, by decide, by decide⟩ (fun base KB NB TB => ?_) (fun s u => .of_eq rfl) (fun H hH hS => law_sp hlen ?_ hS _) fun _ _ _ z => z
  · intro p hp
    simp only [List.mem_cons, List.not_mem_nil, or_false] at hp
    rcases hp with rfl | rfl
    · exact eL
    · exact eS
  · intro p hp
    simp only [List.mem_cons, List.not_mem_nil, or_false] at hp
    rcases hp with rfl | rfl
    · exact Fa.t_law.np
    · exact Fa.t_small.np
  · intro p hp
    simp only [List.mem_cons, List.not_mem_nil, or_false] at hp
    rcases hp with rfl | rfl
    · exact PySem.W.codeHd_of_K KX Fa.t_law.hd
    · exact PySem.W.codeHd_of_K KX Fa.t_small.hd
  · have tL := TB (cL, pL) (by simp)
    have tS := TB (cS, pS) (by simp)
    have A := all_ok (P := l.prog) (base := base) KB NB Fa tL tS rfl
    exact law_fn KB NB Fa tL (by show (pL, qL) ∈ [(pL, qL), (pS, qS)]; simp) (fun p hp e => by
      have hp : p ∈ [(pL, qL), (pS, qS)] := hp
      simp only [List.mem_cons, List.not_mem_nil, or_false] at hp
      rcases hp with rfl | rfl
      · rfl
      · exact absurd e.symm Fa.ne) (fun _ => rs_of KB NB Fa (A 15) (A 16)) (fun m hm => top_of KB NB Fa (A m) C_law rfl rfl rfl rfl) b2 b3
  · intro p hp
    have hp : p ∈ [(pL, qL), (pS, qS)] := hp
    simp only [List.mem_cons, List.not_mem_nil, or_false] at hp
    rcases hp with rfl | rfl
    · exact .nil (hH (cL, pL) (by simp))
    · exact .nil (hH (cS, pS) (by simp))
end K03

open PySem PySem.W PyProof.Rows
set_option maxRecDepth 100000 in
set_option maxHeartbeats 0 in
theorem PySem.Challenge.cw_noticeways_k03_whole_formulas_in_houses_holds : PySem.Challenge.rw_noticeways_k03_whole_formulas_in_houses.Holds := by
  w_on; o_law; k_head; (case hw => w_witness2)
  k_fill
  refine K03.walk (l := PySem.Challenge.rw_noticeways_k03_whole_formulas_in_houses) rfl rfl ?D ?r1 ?r2 (fun w h Y => PySem.W.km_in_of Y) ?F
  case D => rfl
  case r1 => first | rfl | decide +kernel
  case r2 => first | rfl | decide +kernel
  case F =>
    intro w h KX
    refine' ⟨_, _, _, _, _, _, _, K03.Facts.mk ?f_is_house ?f_is_formula ?f_is_number ?f__is_triple ?f__is_nested ?f_check_formula ?f_check_house ?f_check_truth ?f_small_houses ?f_meanings ?f_everywhere ?f_holds_at ?f_houses_of ?f_first_of_all ?f__meaning ?f__simple_meanings ?f__simple_parts ?f__holds_simply ?f_holds ?f_how ?f_first_house ?f__law_source ?f__law_draw ?f__law_choice ?f__law_holds ?f__law_houses ?f__law_truths ?f__law_formula ?f__law_first ?f__law_right ?f__law_word ?f__law_written_right ?f_law ?k_MOST_PEOPLE ?k_MOST_DEPTH ?k_MOST_TOLD ?k_SORTS ?k_MARKS ?k_COUNTED ?k_PAIR_WORDS ?k_MOST_TOLD_APART ?k_SORT_WITH_BOTH ?d_alone ?d_with ?t_law ?t_small ?ne ?gL ?gS ?eF ?eH ?eT ?sFF ?sHF ?sHH ?sTF ?sTH ?sTT ?b_sum ?b_sorted ?b_enumerate ?b_zip ?b_len ?b_isinstance ?b_all ?b_abs ?b_int ?b_min ?b_list ?b_tuple ?b_bool ?b_range⟩
    (case f_is_house => refine' K03.fun_at ?a ?l ?c ?k; (case a => k_is); (case l => k_is); (case c => k_is); (case k => k_is))
    (case f_is_formula => refine' K03.fun_at ?a ?l ?c ?k; (case a => k_is); (case l => k_is); (case c => k_is); (case k => k_is))
    (case f_is_number => refine' K03.fun_at ?a ?l ?c ?k; (case a => k_is); (case l => k_is); (case c => k_is); (case k => k_is))
    (case f__is_triple => refine' K03.fun_at ?a ?l ?c ?k; (case a => k_is); (case l => k_is); (case c => k_is); (case k => k_is))
    (case f__is_nested => refine' K03.fun_at ?a ?l ?c ?k; (case a => k_is); (case l => k_is); (case c => k_is); (case k => k_is))
    (case f_check_formula => refine' K03.fun_at ?a ?l ?c ?k; (case a => k_is); (case l => k_is); (case c => k_is); (case k => k_is))
    (case f_check_house => refine' K03.fun_at ?a ?l ?c ?k; (case a => k_is); (case l => k_is); (case c => k_is); (case k => k_is))
    (case f_check_truth => refine' K03.fun_at ?a ?l ?c ?k; (case a => k_is); (case l => k_is); (case c => k_is); (case k => k_is))
    (case f_small_houses => refine' K03.fun_at ?a ?l ?c ?k; (case a => k_is); (case l => k_is); (case c => k_is); (case k => k_is))
    (case f_meanings => refine' K03.fun_at ?a ?l ?c ?k; (case a => k_is); (case l => k_is); (case c => k_is); (case k => k_is))
    (case f_everywhere => refine' K03.fun_at ?a ?l ?c ?k; (case a => k_is); (case l => k_is); (case c => k_is); (case k => k_is))
    (case f_holds_at => refine' K03.fun_at ?a ?l ?c ?k; (case a => k_is); (case l => k_is); (case c => k_is); (case k => k_is))
    (case f_houses_of => refine' K03.fun_at ?a ?l ?c ?k; (case a => k_is); (case l => k_is); (case c => k_is); (case k => k_is))
    (case f_first_of_all => refine' K03.fun_at ?a ?l ?c ?k; (case a => k_is); (case l => k_is); (case c => k_is); (case k => k_is))
    (case f__meaning => refine' K03.fun_at ?a ?l ?c ?k; (case a => k_is); (case l => k_is); (case c => k_is); (case k => k_is))
    (case f__simple_meanings => refine' K03.fun_at ?a ?l ?c ?k; (case a => k_is); (case l => k_is); (case c => k_is); (case k => k_is))
    (case f__simple_parts => refine' K03.fun_at ?a ?l ?c ?k; (case a => k_is); (case l => k_is); (case c => k_is); (case k => k_is))
    (case f__holds_simply => refine' K03.fun_at ?a ?l ?c ?k; (case a => k_is); (case l => k_is); (case c => k_is); (case k => k_is))
    (case f_holds => refine' K03.fun_at ?a ?l ?c ?k; (case a => k_is); (case l => k_is); (case c => k_is); (case k => k_is))
    (case f_how => refine' K03.fun_at ?a ?l ?c ?k; (case a => k_is); (case l => k_is); (case c => k_is); (case k => k_is))
    (case f_first_house => refine' K03.fun_at ?a ?l ?c ?k; (case a => k_is); (case l => k_is); (case c => k_is); (case k => k_is))
    (case f__law_source => refine' K03.fun_at ?a ?l ?c ?k; (case a => k_is); (case l => k_is); (case c => k_is); (case k => k_is))
    (case f__law_draw => refine' K03.fun_at ?a ?l ?c ?k; (case a => k_is); (case l => k_is); (case c => k_is); (case k => k_is))
    (case f__law_choice => refine' K03.fun_at ?a ?l ?c ?k; (case a => k_is); (case l => k_is); (case c => k_is); (case k => k_is))
    (case f__law_holds => refine' K03.fun_at ?a ?l ?c ?k; (case a => k_is); (case l => k_is); (case c => k_is); (case k => k_is))
    (case f__law_houses => refine' K03.fun_at ?a ?l ?c ?k; (case a => k_is); (case l => k_is); (case c => k_is); (case k => k_is))
    (case f__law_truths => refine' K03.fun_at ?a ?l ?c ?k; (case a => k_is); (case l => k_is); (case c => k_is); (case k => k_is))
    (case f__law_formula => refine' K03.fun_at ?a ?l ?c ?k; (case a => k_is); (case l => k_is); (case c => k_is); (case k => k_is))
    (case f__law_first => refine' K03.fun_at ?a ?l ?c ?k; (case a => k_is); (case l => k_is); (case c => k_is); (case k => k_is))
    (case f__law_right => refine' K03.fun_at ?a ?l ?c ?k; (case a => k_is); (case l => k_is); (case c => k_is); (case k => k_is))
    (case f__law_word => refine' K03.fun_at ?a ?l ?c ?k; (case a => k_is); (case l => k_is); (case c => k_is); (case k => k_is))
    (case f__law_written_right => refine' K03.fun_at ?a ?l ?c ?k; (case a => k_is); (case l => k_is); (case c => k_is); (case k => k_is))
    (case f_law => refine' K03.fun_at ?a ?l ?c ?k; (case a => k_is); (case l => k_is); (case c => k_is); (case k => k_is))
    (case k_MOST_PEOPLE => refine' K03.con_int ?a; (case a => k_is))
    (case k_MOST_DEPTH => refine' K03.con_int ?a; (case a => k_is))
    (case k_MOST_TOLD => refine' K03.con_int ?a; (case a => k_is))
    (case k_SORTS => refine' K03.con_int ?a; (case a => k_is))
    (case k_MARKS => refine' K03.con_marks ["a", "b"] ["b", "a"] (by decide) (by decide) ?e ?l ?h ?l1 ?h1 ?l2 ?h2; (case e => k_is); (case l => k_is); (case h => rfl); (case l1 => k_is); (case h1 => rfl); (case l2 => k_is); (case h2 => rfl))
    (case k_COUNTED => refine' K03.con_strs ["a", "b", "both"] (by decide) ?a ?l ?h; (case a => k_is); (case l => k_is); (case h => rfl))
    (case k_PAIR_WORDS => refine' K03.con_strs ["and", "or", "if", "other"] (by decide) ?a ?l ?h; (case a => k_is); (case l => k_is); (case h => rfl))
    (case k_MOST_TOLD_APART => refine' K03.con_int ?a; (case a => k_is))
    (case k_SORT_WITH_BOTH => refine' K03.con_int ?a; (case a => k_is))
    (case d_alone => refine' K03.dct_alone ?e ?l ?k ?h1 ?h2; (case e => k_is); (case l => k_is); (case k => exact ⟨⟨_, _, rfl, rfl⟩, ⟨_, _, rfl, rfl⟩, trivial⟩); (case h1 => k_is); (case h2 => k_is))
    (case d_with => refine' K03.dct_with ?e ?l ?k ?h1 ?h2 ?h3 ?l1 ?j1 ?l2 ?j2 ?l3 ?j3; (case e => k_is); (case l => k_is); (case k => exact ⟨⟨_, _, rfl, rfl⟩, ⟨_, _, rfl, rfl⟩, ⟨_, _, rfl, rfl⟩, trivial⟩); (case h1 => k_is); (case h2 => k_is); (case h3 => k_is); (case l1 => k_is); (case j1 => rfl); (case l2 => k_is); (case j2 => rfl); (case l3 => k_is); (case j3 => rfl))
    (case t_law => refine' K03.tab_at ?a ?l ?cd ?k ?lc ?h11 ?hd ?np; (case a => k_is); (case l => k_is); (case cd => k_is); (case k => k_is); (case lc => k_is); (case h11 => exact rfl); (case hd => first | kernel_rfl | rfl | decide +kernel); (case np => first | kernel_rfl | rfl))
    (case t_small => refine' K03.tab_at ?a ?l ?cd ?k ?lc ?h11 ?hd ?np; (case a => k_is); (case l => k_is); (case cd => k_is); (case k => k_is); (case lc => k_is); (case h11 => exact rfl); (case hd => first | kernel_rfl | rfl | decide +kernel); (case np => first | kernel_rfl | rfl))
    (case ne => first | decide | (intro z; cases z))
    (case gL => decide)
    (case gS => decide)
    (case eF => refine' K03.ErrIn.mk ?g ?bas ?k ?s ?t ?i; (case g => k_is); (case bas => exact ⟨_, _, _, _, PySem.F.excBase_ValueError, by first | kernel_rfl | rfl | decide +kernel⟩); (case k => k_is); (case s => k_is); (case t => k_is); (case i => k_is))
    (case eH => refine' K03.ErrIn.mk ?g ?bas ?k ?s ?t ?i; (case g => k_is); (case bas => exact ⟨_, _, _, _, PySem.F.excBase_ValueError, by first | kernel_rfl | rfl | decide +kernel⟩); (case k => k_is); (case s => k_is); (case t => k_is); (case i => k_is))
    (case eT => refine' K03.ErrIn.mk ?g ?bas ?k ?s ?t ?i; (case g => k_is); (case bas => exact ⟨_, _, _, _, PySem.F.excBase_ValueError, by first | kernel_rfl | rfl | decide +kernel⟩); (case k => k_is); (case s => k_is); (case t => k_is); (case i => k_is))
    (case sFF => first | k_is | rfl)
    (case sHF => first | k_is | rfl)
    (case sHH => first | k_is | rfl)
    (case sTF => first | k_is | rfl)
    (case sTH => first | k_is | rfl)
    (case sTT => first | k_is | rfl)
    (case b_sum => k_is)
    (case b_sorted => k_is)
    (case b_enumerate => k_is)
    (case b_zip => k_is)
    (case b_len => k_is)
    (case b_isinstance => k_is)
    (case b_all => k_is)
    (case b_abs => k_is)
    (case b_int => k_is)
    (case b_min => k_is)
    (case b_list => k_is)
    (case b_tuple => k_is)
    (case b_bool => k_is)
    (case b_range => k_is)
