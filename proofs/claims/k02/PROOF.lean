import PyProof.Rows.All
import HandS.AnyAll
import HandS.GenOver
import HandS.GenList
import HandS.Iter
import PyProof.TupleOfGen
import HandS.ForMost
import HandS.Wide
import HandS.Exc
import HandS.ExcOwn
import HandS.ExcInit
import HandS.ExcIs
import HandS.ExcField
import HandS.IsInst
import HandS.TryMany
import HandS.Hot
import HandS.HotCalls
import KE.KExcIs
import PyProof.ReprRoads
import HandS.TupLe
import HandS.More
import HandS.SetFor
import HandS.Strs
import PyProof.SeqIndex
import HandS.Conv
import HandS.TupAny
import HandS.Style
import HandS.Text
import PyProof.SliceStr2
import PyProof.ReprLen
import PyProof.FitsInt
import HandS.Zip
import HandS.TupSets
import HandS.Deep
import PyProof.Rows.StrFit
import HandS.Steps
import KE.GoesEnum
import HandS.EndTab
import PySem.Challenge.RW_causaleffects_k02_whole_graphs_and_lots
set_option Elab.async false
set_option linter.all false
set_option maxRecDepth 100000
set_option maxHeartbeats 4000000
/-! Own layer, part X: a generator expression of any elements (calls too), walked by all. -/
namespace KG
open PySem PySem.Spec PyProof.Rows L2

theorem over_gen {A : Around} {elt : Expr} {gens : List Comprehension} {scope : Scope} {pos : Pos} {it acc : Value} {env : Env} : A.over (.compLoop (.GeneratorExp elt gens scope pos) 0 it acc env) [] = A.deeper env := by
  first
    | rfl
    | (obtain ⟨hd, d, fr, gs, u⟩ := A; simp [Around.over, Around.deeper, marksOver, frameCount, unitsOf, envsOf, guardsOf, pushEnvs, pushGuards, Code.envs, Code.env?, Code.isFrame, Code.guards, Code.isGuard, Code.weight, Code.frames, Code.isCreation, Code.isCaller, Code.cUnits])
theorem over_genS {A : Around} {elt : Expr} {gens : List Comprehension} {scope : Scope} {pos : Pos} {it acc : Value} {env : Env} : A.over (.compStart (.GeneratorExp elt gens scope pos) 0 it acc env) [] = A.deeper env := by
  first
    | rfl
    | (obtain ⟨hd, d, fr, gs, u⟩ := A; simp [Around.over, Around.deeper, marksOver, frameCount, unitsOf, envsOf, guardsOf, pushEnvs, pushGuards, Code.envs, Code.env?, Code.isFrame, Code.guards, Code.isGuard, Code.weight, Code.frames, Code.isCreation, Code.isCaller, Code.cUnits])
theorem inv_same {X : Cx} {pins : List (Addr × Obj)} {σ : L2.St} {H : Hp} {s s' : Shared} (I : Inv X pins σ H s) (hh : s'.heap = s.heap) (ho : s'.os = s.os) (hb : AllBare s'.gens) : Inv X pins σ H s' := by
  obtain ⟨h, g, d, t, o⟩ := s
  obtain ⟨h', g', d', t', o'⟩ := s'
  cases hh
  cases ho
  exact ⟨I.ok, I.os, hb, I.base, I.loc, I.cell, I.free, I.freeC, I.pin, I.hok, I.len⟩

/-- the context of a generator expression's frame: made in the state s; the walked thing's iterator at fp -/
abbrev gx (X : Cx) (A : Around) (s : Shared) (H : Hp) (genv : Env) (fp : List Addr) : Cx :=
  { X with A := A.deeper genv, s_0 := s, H_0 := H, env := genv, outer := X.stack, stack := genv :: X.stack, ex := fp, fn := fun _ => false, calm := true, pn := [], xe := fun _ _ => False }
section
variable {X : Cx} {pins : List (Addr × Obj)} {σ : L2.St} {H : Hp} {s : Shared}
theorem gx_start {A : Around} {scope : Scope} {own : List (Str × Nat)} {fp : List Addr} {code : Value} (I : Inv X pins σ H s) (ok : BlkOk X.N X.env.scope scope own) (nocell : ∀ y ∈ scope.names, y.2 ≠ .cell) (hN : X.N.Nodup) (hA : A.handled = none) (hfr : A.frames = some X.stack)
    (hfp : ∀ b ∈ fp, FpOk X pins H b ∧ b < s.heap.objs.size) {h5 : Heap} {m : Str → Option Value} {gs : Array GenState} {tk : Nat} {pG : List (Addr × Obj)} (hn : h5.Ns s.heap.objs.size m) (kp : ∀ b o, s.heap.get? b = some o → h5.get? b = some o) (hg : AllBare gs)
    (hp : ∀ p ∈ pG, h5.get? p.1 = some p.2 ∧ s.heap.objs.size < p.1 ∧ ∀ v, p.2.data ≠ .cell v) :
    Inv (gx X A s H (genEnv scope (cloFrom X.env.cells scope.names []) s.heap.objs.size code builtinsNs X.env) fp) pG (wipe σ (own.map (·.2))) H { s with gens := gs, toks := tk, heap := h5 } := by
  have hfree : ∀ y ∈ scope.names, y.2 = .free → ∃ c, X.env.cells.lookup y.1 = some c := fun y hy e => by
    rcases ok.free y hy e with k | k
    · exact I.ok.has _ (.inl k)
    · exact I.ok.has _ (.inr k)
  generalize hcenv : genEnv scope (cloFrom X.env.cells scope.names []) s.heap.objs.size code builtinsNs X.env = cenv
  have hL : cenv.locals = s.heap.objs.size := by rw [← hcenv]; rfl
  have hcl : cenv.cells = cloFrom X.env.cells scope.names [] := by rw [← hcenv]; rfl
  have hsc : cenv.scope = scope := by rw [← hcenv]; rfl
  have cm : ∀ {y c}, (y, c) ∈ cloFrom X.env.cells scope.names [] → X.env.cells.lookup y = some c ∧ c < s.heap.objs.size := fun {y c} hm => by
    rcases cloFrom_mem hm with hm | ⟨h1, rfl⟩
    · cases hm
    · obtain ⟨c, hc⟩ := hfree _ h1 rfl
      rw [hc]
      obtain ⟨w, z⟩ := I.cell _ _ hc
      exact ⟨rfl, z.lt⟩
  have mem : ∀ {y c}, cenv.cells.lookup y = some c → X.env.cells.lookup y = some c ∧ c < s.heap.objs.size := fun {y c} e => by
    rw [hcl] at e
    exact cm (PySem.mem_of_lookup e)
  have look : ∀ {y}, scope.names.lookup y = some .free → ∃ c, cenv.cells.lookup y = some c ∧ X.env.cells.lookup y = some c := fun {y} hl => by
    have hy : (y, NameKind.free) ∈ scope.names := PySem.mem_of_lookup hl
    obtain ⟨c', e'⟩ := mem_lookup (cloFrom_has (cells := X.env.cells) (acc := []) hy)
    rw [← hcl] at e'
    exact ⟨c', e', (mem e').1⟩
  have okB : (gx X A s H cenv fp).Ok := by
    refine ⟨I.ok.mod, by show cenv.scope.kind = _; rw [hsc]; exact ok.kind, by show cenv.globals = _; rw [← hcenv]; exact I.ok.glob, by show cenv.builtins = _; rw [← hcenv]; rfl, by show s.heap.objs.size ≤ cenv.locals; rw [hL]; exact Nat.le_refl _,
      fun y z c e1 e2 => I.ok.inj y z c (mem e1).1 (mem e2).1, fun y hy => ?_, (fun y c z e => Bool.noConfusion z), fun _ => hA, by show (A.deeper cenv).frames = _; show A.frames.map _ = _; rw [hfr]; rfl, .inr ⟨rfl, by show cenv.frame = some cenv.locals; rw [← hcenv]; rfl⟩,
      fun b hb => ⟨?_, fun y c e z => ?_⟩, I.bs, Nat.le_trans I.ok.bsz I.sz, fun b o e hb => ?_, fun b hb z => ?_, I.stack, I.stkFree⟩
    · show ∃ c, cenv.cells.lookup y = some c
      have key : ∀ k, cenv.kindOf y = some k → (k = .cell ∨ k = .free) → ∃ c, cenv.cells.lookup y = some c := fun k hk hk' => by
        have hk : cenv.scope.names.lookup y = some k := hk
        rw [hsc] at hk
        rcases hk' with rfl | rfl
        · exact absurd rfl (nocell _ (PySem.mem_of_lookup hk))
        · obtain ⟨c, h1, _⟩ := look hk
          exact ⟨c, h1⟩
      rcases hy with hy | hy
      · exact key _ hy (.inl rfl)
      · exact key _ hy (.inr rfl)
    · show b ≠ cenv.locals
      rw [hL]; exact Nat.ne_of_lt (hfp b hb).2
    · exact (hfp b hb).1.2.2.2.2.1 y c (mem e).1 z
    · rcases (hfp b hb).1.2.2.2.1 with z | z
      · exact I.ok.noex b o e z
      · exact absurd (Nat.lt_of_lt_of_le (Heap.lt_size e) (Nat.le_trans I.ok.bsz z)) (Nat.lt_irrefl _)
    · rcases List.mem_cons.mp (I.stkSub b z) with z | z
      · exact (hfp b hb).1.2.1 z
      · exact (hfp b hb).1.2.2.1 z
  refine ⟨okB, rfl, hg, Un.kept kp, ⟨m, ?_, fun i y av e1 e2 e3 => ?_⟩, fun y c e => ?_, ?_, fun y c e => I.freeC y c (mem e).1, fun p hpp => ?_, I.hok.kept kp, by rw [wipe_length]; exact I.len⟩
  · show Heap.Ns _ cenv.locals _
    rw [hL]
    exact hn
  · obtain ⟨e2, hne⟩ := wipe_some e2
    have key : ∀ k, cenv.scope.names.lookup y = some k → k = .local ∨ k = .cell ∨ k = .free → scope.names.lookup y = some .free ∧ (cenv.kindOf y = some .cell ∨ cenv.kindOf y = some .free) := fun k hk hk' => by
      have hk0 := hk
      rw [hsc] at hk
      have no : ¬ (k = .local ∨ k = .cell) := fun hh => by
        rcases ok.own _ (PySem.mem_of_lookup hk) hh with e' | e'
        · obtain ⟨p, hp, hpy⟩ := List.mem_map.mp e'
          have e3 := ok.ix p hp
          have : p.1 = y := hpy
          rw [this] at e3
          exact hne (List.mem_map.mpr ⟨p, hp, nodup_ix hN e3 e1⟩)
        · exact e' (List.mem_of_getElem? e1)
      rcases hk' with rfl | rfl | rfl
      · exact absurd (.inl rfl) no
      · exact absurd (.inr rfl) no
      · exact ⟨hk, .inr hk0⟩
    have hfr2 : scope.names.lookup y = some .free ∧ (cenv.kindOf y = some .cell ∨ cenv.kindOf y = some .free) := by
      have e3 : Vis cenv.scope y := e3
      rcases e3 with e3 | e3 | e3
      · exact key _ e3 (.inl rfl)
      · exact key _ e3 (.inr (.inl rfl))
      · exact key _ e3 (.inr (.inr rfl))
    obtain ⟨m', hn', hl⟩ := I.loc
    have hvis : Vis X.env.scope y := (ok.free _ (PySem.mem_of_lookup hfr2.1) rfl).elim (fun k => .inr (.inl k)) (fun k => .inr (.inr k))
    obtain ⟨w, r, q⟩ := hl i y av e1 e2 hvis
    refine ⟨w, r, .inr ⟨hfr2.2, ?_⟩⟩
    obtain ⟨c, h1, h2⟩ := look hfr2.1
    rcases q with ⟨k, _⟩ | ⟨_, c', e', z⟩
    · have k : X.env.scope.names.lookup y = some .local := k
      rcases ok.free _ (PySem.mem_of_lookup hfr2.1) rfl with k' | k' <;> rw [show X.env.scope.names.lookup y = _ from k'] at k <;> cases k
    · rw [h2] at e'; cases e'
      exact ⟨c, h1, z.keeps kp⟩
  · obtain ⟨w, z⟩ := I.cell y c (mem e).1
    exact ⟨w, z.keeps kp⟩
  · show H cenv.locals = none
    rw [hL]; exact I.hok.fresh (Nat.le_refl _)
  · have hpp : p ∈ pG := by simpa using hpp
    obtain ⟨h1, h2, h3⟩ := hp p hpp
    refine ⟨h1, I.hok.fresh (Nat.le_of_lt h2), by show p.1 ≠ cenv.locals; rw [hL]; exact Nat.ne_of_gt h2, fun hb => ?_, h3⟩
    rcases List.mem_cons.mp (I.stkSub p.1 hb) with z | z
    · have := I.lt
      rw [← z] at this
      exact absurd (Nat.lt_trans this h2) (Nat.lt_irrefl _)
    · exact I.nofs (Nat.le_of_lt h2) z
end
end KG

namespace KG
open PySem PySem.Spec PyProof.Rows L2 GenW

/-- an item is handed out; Yp: what its consumer wants of it and of what comes next; D: what the consumer may write to -/
def gY (Y : Cx) (pG : List (Addr × Obj)) (D : Addr) (Yp : V → Hp → (Hp → Prop) → Prop) : Protocol := fun n s₀ v s kap =>
  ∃ (y : V) (σ : L2.St) (H : Hp) (Nx : Hp → Prop), RelV y v ∧ Inv Y pG σ H s ∧ Yp y H Nx ∧ ∀ (H' : Hp) (s' : Shared), Nx H' → (∀ b, b ≠ D → H' b = H b) → (∀ b o, b ≠ D → s.heap.get? b = some o → s'.heap.get? b = some o) → Inv Y pG σ H' s' → kap (.send .none) s'
/-- no more items -/
def gR (Y : Cx) (pG : List (Addr × Obj)) (QT : Hp → Prop) : GenEnd := fun n s₀ r s => r = .ok .next ∧ ∃ (σ : L2.St) (H : Hp), Inv Y pG σ H s ∧ QT H
/-- a turn's reading -/
def Turns (J : It) (g : TG) (tt : TT) (te : TE) (vs : List Nat) (σ : L2.St) (QT : Hp → Prop) (Yp : V → Hp → (Hp → Prop) → Prop) (W : Nat → Nat → Hp → Prop) : Prop := ∀ i m H, W i m H →
  (J.stop i H ∧ QT H) ∨ (J.go i H ∧ ∃ Nx : Hp → Prop, (∀ H', Nx H' → ∃ m', m' < m ∧ W (i + 1) m' H') ∧ ∀ x H', J.yld i H x H' → g x (wipe σ vs) H' fun σ2 H2 => wipe σ2 vs = wipe σ vs ∧ tt σ2 H2 fun b H3 =>
    if b = true then te σ2 H3 fun y H4 => Yp y H4 Nx else Nx H3)
section
variable {Y : Cx} {A : Around} {tg iter elt : Expr} {ifs : List Expr} {scope : Scope} {pos : Pos} {it : Addr} {fp : List Addr} {tn : Nat → Heap → Prop} {J : It} {g : TG} {tt : TT} {te : TE} {vs : List Nat} {σ : L2.St} {pG : List (Addr × Obj)} {D : Addr} {QT : Hp → Prop} {Yp : V → Hp → (Hp → Prop) → Prop} {W : Nat → Nat → Hp → Prop}
theorem seg_loop (hA : Y.A = A.deeper Y.env) (hc : Y.calm = true) (hco : Y.env.scope.isCoroutine = false) (hxe : ∀ e s, Y.xe e s → False) (T : Turn Y.prog Y.w Y.K tg J fp it tn) (pg : PG Y tg g) (pt : PTs Y ifs tt) (pe : PE Y elt te) (fok : ∀ (H : Hp), (∀ b ∈ fp, H b = none) → ∀ b ∈ fp, FpOk Y pG H b) (hD : ∀ b ∈ fp, b ≠ D)
    (turn : Turns J g tt te vs σ QT Yp W) : ∀ (m n i : Nat) (s₀ s : Shared) (H : Hp), m < n → W i m H → Inv Y pG (wipe σ vs) H s → tn i s.heap → (∀ b ∈ fp, H b = none) →
      Seg (model Y.prog Y.w) A (gR Y pG QT) (gY Y pG D Yp) n s₀ (.compLoop (.GeneratorExp elt [⟨tg, iter, ifs, 0⟩] scope pos) 0 (.ref it) .none Y.env)
        ((model Y.prog Y.w).den (.compLoop (.GeneratorExp elt [⟨tg, iter, ifs, 0⟩] scope pos) 0 (.ref it) .none Y.env)) [] s := by
  intro m
  induction m using Nat.strongRecOn with
  | ind m ih =>
    intro n i s₀ s H hn w I st nfp
    show Seg _ A _ _ n s₀ _ ((compTurn (.GeneratorExp elt [⟨tg, iter, ifs, 0⟩] scope pos) 0 (.ref it) .none Y.env).onRaise (leaving Y.env)) [] s
    rw [compTurn_gen, Sem.onRaise_eq_wrap]
    refine seg_bind_wrap (wpAny_standAt ?_)
    rcases turn i m H w with ⟨stop, qt⟩ | ⟨go, Nx, hNx, step⟩
    · refine seg_bind_wrap ?_
      rw [over_gen, ← hA]
      refine thnF (T.done Y rfl rfl rfl hc i pG s _ H (fun _ _ => False) I (fok H nfp) st stop) fun r s1 ⟨hr, I1⟩ => ?_
      subst hr
      exact seg_end (.ok .next) ⟨rfl, _, _, I1, qt⟩
    · refine seg_bind_wrap ?_
      rw [over_gen, ← hA]
      refine thnF (T.item Y rfl rfl rfl hc i pG s _ H (fun _ _ => False) I (fok H nfp) st go) fun r s1 ⟨u, hr, h1⟩ => ?_
      subst hr
      refine seg_bind_wrap ?_
      rw [over_gen, ← hA]
      refine thnF h1 fun _ s2 ⟨x, H2, I2, r2, y2, st2, n2⟩ => ?_
      have I2' := I2.pinned (fok H2 n2) (T.obj _ _ st2)
      refine seg_bind_wrap ?_
      rw [over_gen, ← hA]
      refine wpAny_mono (pg.run _ s2 _ H2 x u _ I2' r2 (step x H2 y2)) (fun _ s3 ⟨σ3, H3, I3, hw3, q3⟩ => ?_) fun _ _ z => (hxe _ _ z).elim
      refine seg_bind_wrap ?_
      rw [over_gen, ← hA]
      refine wpAny_mono (pt.run _ s3 σ3 H3 _ I3 q3) (fun b s4 ⟨H4, I4, q4⟩ => ?_) fun _ _ z => (hxe _ _ z).elim
      -- the turn's end
      have fin : ∀ {s' : Shared} {H' : Hp}, Inv Y (pG ++ pinsAt fp s2.heap) σ3 H' s' → Inv Y pG (wipe σ vs) H' s' ∧ tn (i + 1) s'.heap ∧ ∀ b ∈ fp, H' b = none := fun {s' H'} I' => by
        have pin' : ∀ b ∈ fp, ∀ o, s2.heap.get? b = some o → s'.heap.get? b = some o ∧ H' b = none := fun b hb o e =>
          let z := I'.pin (b, o) (List.mem_append_right _ (List.mem_append_right _ (mem_pinsAt hb e)))
          ⟨z.1, z.2.1⟩
        have hl : (wipe σ vs).length = σ3.length := by rw [← hw3, wipe_length]
        refine ⟨(I'.unpinned (pins := pG)).weak hl (fun j v e => ?_), T.keep _ _ _ st2 fun b hb o e => (pin' b hb o e).1, fun b hb => ?_⟩
        · rw [← hw3] at e
          exact (wipe_some e).1
        · obtain ⟨o, e, _⟩ := T.obj _ _ st2 b hb
          exact (pin' b hb o e).2
      cases b with
      | false =>
        simp only [Bool.false_eq_true, if_false] at q4 ⊢
        obtain ⟨m', hm, w'⟩ := hNx _ q4
        obtain ⟨I5, st5, n5⟩ := fin I4
        exact seg_again rfl (ih m' hm n (i + 1) s₀ s4 H4 (Nat.lt_trans hm hn) w' I5 st5 n5)
      | true =>
        simp only [if_true] at q4 ⊢
        have hy : ∀ v, yieldOut Y.env v = yieldValue v := fun v => by simp only [yieldOut, hco, Bool.false_eq_true, if_false]
        simp only [hy]
        rw [Sem.bind_eq_wrap', Sem.bind_eq_wrap', Sem.wrap_wrap, Sem.wrap_wrap]
        obtain ⟨n', rfl⟩ : ∃ n', n = n' + 1 := ⟨n - 1, by omega⟩
        refine seg_wrap ?_
        rw [over_gen, ← hA]
        refine wpAny_mono (pe.run _ s4 σ3 H4 _ I4 q4) (fun v s5 ⟨yv, H5, I5, r5, q5⟩ => ?_) fun _ _ z => (hxe _ _ z).elim
        obtain ⟨I6, st6, n6⟩ := fin I5
        refine seg_at (seg_yield rfl rfl rfl ⟨yv, _, H5, Nx, r5, I6, q5, fun H' s' nx hH kp I' => ?_⟩)
        obtain ⟨m', hm, w'⟩ := hNx _ nx
        exact seg_again rfl (ih m' hm n' (i + 1) s' s' H' (by omega) w' I' (T.keep _ _ _ st6 fun b hb o e => kp b o (hD b hb) e) fun b hb => (hH b (hD b hb)).trans (n6 b hb))
theorem seg_start (hA : Y.A = A.deeper Y.env) (hc : Y.calm = true) (hco : Y.env.scope.isCoroutine = false) (hxe : ∀ e s, Y.xe e s → False) (T : Turn Y.prog Y.w Y.K tg J fp it tn) (pg : PG Y tg g) (pt : PTs Y ifs tt) (pe : PE Y elt te) (fok : ∀ (H : Hp), (∀ b ∈ fp, H b = none) → ∀ b ∈ fp, FpOk Y pG H b) (hD : ∀ b ∈ fp, b ≠ D)
    (turn : Turns J g tt te vs σ QT Yp W) (m n : Nat) (s₀ s : Shared) (H : Hp) (hn : m < n) (w : W 0 m H) (I : Inv Y pG (wipe σ vs) H s) (st : tn 0 s.heap) (nfp : ∀ b ∈ fp, H b = none) :
      Seg (model Y.prog Y.w) A (gR Y pG QT) (gY Y pG D Yp) n s₀ (.compStart (.GeneratorExp elt [⟨tg, iter, ifs, 0⟩] scope pos) 0 (.ref it) .none Y.env)
        ((model Y.prog Y.w).den (.compStart (.GeneratorExp elt [⟨tg, iter, ifs, 0⟩] scope pos) 0 (.ref it) .none Y.env)) [] s := by
  have loop := seg_loop (iter := iter) (scope := scope) (pos := pos) hA hc hco hxe T pg pt pe fok hD turn m n 0 s₀ s H hn w I st nfp
  show Seg _ A _ _ _ s₀ _ ((compStart (.GeneratorExp elt [⟨tg, iter, ifs, 0⟩] scope pos) 0 (.ref it) .none Y.env).onRaise (leaving Y.env)) [] s
  unfold compStart
  rw [Sem.onRaise_eq_wrap]
  show Seg _ A _ _ _ s₀ _ ((ask >>= _).wrap _ _ _ _) [] s
  refine seg_bind_wrap (wpAny_askSetting ?_)
  split
  · exact seg_again rfl loop
  · first
      | exact seg_bind_wrap (wpAny_rule (seg_bind_wrap (wpAny_standAt (seg_bind_wrap (T.self _ 0 s _ _ st (seg_again rfl loop))))))
      | (refine seg_bind_wrap (wpAny_rule ?_); show Seg _ A _ _ _ s₀ _ ((standAt iter.pos >>= _).wrap _ _ _ _) [] s; exact seg_bind_wrap (wpAny_standAt (seg_bind_wrap (T.self _ 0 s _ _ st (seg_again rfl loop)))))
/-- all: a truth, and where it is false the end -/
def pAll (QF : Hp → Prop) : V → Hp → (Hp → Prop) → Prop := fun y H Nx => ∃ k, y = .bl k ∧ if k = true then Nx H else QF H
/-- the walk of all over such a generator -/
theorem all_loop {QF : Hp → Prop} {P : Program} {w : World} {a : Addr} {go : Obj} {gn : Nat} {R : Result → Shared → Prop} (hP : Y.prog = P) (hw : Y.w = w) (hh : A.handled = none) (hroom : A.depth < recursionLimit) (hgo : ∀ h : Heap, h.get? a = some go → h.IsGen a gn) (hpin : (a, go) ∈ pG)
    (hT : ∀ (σ : L2.St) (H : Hp) (s' : Shared), Inv Y pG σ H s' → QT H → R (.ok (.ret (.bool true))) s') (hF : ∀ (σ : L2.St) (H : Hp) (s' : Shared), Inv Y pG σ H s' → QF H → R (.ok (.ret (.bool false))) s') :
    ∀ (n : Nat) (σ : L2.St) (H : Hp) (s : Shared) (gs : GenState), Inv Y pG σ H s → s.gens[gn]? = some gs → (∀ s'' : Shared, s''.heap = s.heap → s''.os = s.os → AllBare s''.gens → gs.Goes (model P w) A.in1.in1 (gR Y pG QT) (gY Y pG a (pAll QF)) n (.send .none) s'') →
      codeAny (model P w) A (.builtin "all.loop" ⟨[.ref a], []⟩) R s := by
  subst hP
  subst hw
  have step : ∀ n : Nat, (∀ n', n = n' + 1 → ∀ (σ : L2.St) (H : Hp) (s : Shared) (gs : GenState), Inv Y pG σ H s → s.gens[gn]? = some gs → (∀ s'' : Shared, s''.heap = s.heap → s''.os = s.os → AllBare s''.gens → gs.Goes (model Y.prog Y.w) A.in1.in1 (gR Y pG QT) (gY Y pG a (pAll QF)) n' (.send .none) s'') →
      codeAny (model Y.prog Y.w) A (.builtin "all.loop" ⟨[.ref a], []⟩) R s) → ∀ (σ : L2.St) (H : Hp) (s : Shared) (gs : GenState), Inv Y pG σ H s → s.gens[gn]? = some gs → (∀ s'' : Shared, s''.heap = s.heap → s''.os = s.os → AllBare s''.gens → gs.Goes (model Y.prog Y.w) A.in1.in1 (gR Y pG QT) (gY Y pG a (pAll QF)) n (.send .none) s'') →
      codeAny (model Y.prog Y.w) A (.builtin "all.loop" ⟨[.ref a], []⟩) R s := by
    intro n ih σ H s gs I hgs hG
    refine codeAny_builtin F.entry_all_loop ?_
    rw [Around.under_plainId F.plain_all_loop _]
    show wpAny _ A.in1 (pyNext (.ref a) >>= _) _ _ s
    have hlt : gn < s.gens.size := by
      rcases Nat.lt_or_ge gn s.gens.size with h | h
      · exact h
      · rw [Array.getElem?_eq_none h] at hgs
        cases hgs
    have gen : ∀ {σ : L2.St} {H : Hp} {s : Shared}, Inv Y pG σ H s → s.heap.IsGen a gn := fun I => hgo _ (I.pin (a, go) (List.mem_append_right _ hpin)).1
    refine wpAny_bind (wpAny_gsz (n := gn + 1) hlt (wpAny_pyNext_genexpQ (P := fun n s0 s1 => ∃ (σ : L2.St) (H : Hp), Inv Y pG σ H s1 ∧ QT H) hh I.nolimit hroom (gen I) hgs (hG _ rfl rfl (allBare_setGen I.bare rfl)) (fun v s₁ gs' hb hv hsz => ?_) (fun s₁ hp h' hk hsz => ?_)))
    · obtain ⟨y, σ1, H1, Nx, ry, I1, ⟨k, rfl, hk⟩, kap⟩ := hv
      obtain rfl : v = Value.bool k := ry
      have I2 : Inv Y pG σ1 H1 (s₁.setGen gn gs') := inv_same I1 rfl rfl (allBare_setGen I1.bare hb)
      have hlt1 : gn < s₁.gens.size := by
        rw [setGen_size] at hsz
        exact hsz
      refine wpAny_bind (wpAny_holding (wpAny_truthy_bool ?_))
      refine wpAny_bind (wpAny_letGo ?_)
      cases k with
      | true =>
        simp only [if_true] at hk ⊢
        cases n with
        | zero => exact (kap H1 s₁ hk (fun _ _ => rfl) (fun _ _ _ e => e) I1).elim
        | succ n' =>
          refine wpAny_pure ⟨plainId_quiet F.plain_all_loop _, ih n' rfl σ1 H1 _ gs' I2 (setGen_at hlt1) fun s'' e1 e2 e3 => kap H1 s'' hk (fun _ _ => rfl) (fun b o _ e => by rw [e1]; exact e) (inv_same I1 e1 e2 e3)⟩
      | false =>
        simp only [Bool.false_eq_true, if_false] at hk ⊢
        exact wpAny_bind (wpAny_rule (wpAny_pure (hF σ1 H1 _ I2 hk)))
    · obtain ⟨σ1, H1, I1, qt⟩ := hp
      refine wpAny_bind (wpAny_rule (wpAny_pure ?_))
      have I2 : Inv Y pG σ1 H1 { s₁ with heap := h' } := I1.kept (t' := s₁.toks) hk
      exact hT σ1 H1 _ (inv_same I2 rfl rfl (allBare_setGen I1.bare rfl)) qt
  intro n
  induction n with
  | zero => exact step 0 fun n' e => absurd e (Nat.succ_ne_zero n').symm
  | succ n ih =>
    refine step (n + 1) fun n' e => ?_
    obtain rfl : n = n' := Nat.succ.inj e
    exact ih
end
end KG

namespace KG
open PySem PySem.Spec PyProof.Rows L2 GenW
/-- a generator that has not begun: it stands at a in s5; under each around that has room it goes as a consumer's reading says -/
def Rdy (X : Cx) (k : Nat) (pins : List (Addr × Obj)) (σ : L2.St) (vs : List Nat) (J : It) (g : TG) (tt : TT) (te : TE) (H4 : Hp) (a : Addr) (s5 : Shared) : Prop :=
  ∃ (go : Obj) (gn : Nat) (gs : GenState) (s₄ : Shared) (genv : Env) (fp : List Addr), (∀ h : Heap, h.get? a = some go → h.IsGen a gn) ∧ s5.heap.get? a = some go ∧ s5.gens[gn]? = some gs ∧ (∀ b ∈ fp, b < s5.heap.objs.size ∧ b ≠ a) ∧
    ∀ B : Around, B.handled = none → B.frames = some X.stack → Room (k + 1) B → Inv (gx X B s₄ H4 genv fp) [(a, go)] (wipe σ vs) H4 s5 ∧ (∀ (σ' : L2.St) (H' : Hp) (s' : Shared), Inv (gx X B s₄ H4 genv fp) [(a, go)] σ' H' s' → Inv X pins σ H' s') ∧
      ∀ (D : Addr) (QT : Hp → Prop) (Yp : V → Hp → (Hp → Prop) → Prop) (W : Nat → Nat → Hp → Prop), (∀ b ∈ fp, b ≠ D) → Turns J g tt te vs σ QT Yp W → ∀ (m0 : Nat) (H'' : Hp) (s'' : Shared), W 0 m0 H'' → Inv (gx X B s₄ H4 genv fp) [(a, go)] (wipe σ vs) H'' s'' →
        (∀ b ∈ fp, ∀ o, s5.heap.get? b = some o → s''.heap.get? b = some o) → (∀ b ∈ fp, H'' b = H4 b) → gs.Goes (model X.prog X.w) B (gR (gx X B s₄ H4 genv fp) [(a, go)] QT) (gY (gx X B s₄ H4 genv fp) [(a, go)] D Yp) (m0 + 1) (.send .none) s''
abbrev gE (X : Cx) (scope : Scope) (cl : List (Str × Addr)) (C : Addr) (code : Value) : Env := genEnv scope cl C code builtinsNs X.env
section
variable {X : Cx} {pins : List (Addr × Obj)} {σ : L2.St} {H : Hp} {s : Shared} {c P : Addr} {elt tg iter : Expr} {ifs : List Expr} {gpos : Pos} {scope : Scope} {own : List (Str × Nat)} {wi : TI} {g : TG} {tt : TT} {te : TE} {k : Nat}
theorem gen_ex {Q' : Value → Shared → Prop} {R : It → Hp → Prop} (hd : X.A.depth < recursionLimit) (TB : GxR.TabB X.base X.mg c P) (hcode : X.env.code = .ref c) (hN : X.N.Nodup) (hco : scope.isCoroutine = false) (nocell : ∀ y ∈ scope.names, y.2 ≠ .cell) (dot : scope.names.lookup (".0" : Str) = some NameKind.local)
    (ok : BlkOk X.N X.env.scope scope own) (hi : PI X tg iter wi) (hg : ∀ (A : Around) (s : Shared) (H : Hp) (cl : List (Str × Addr)) (C : Addr) (code : Value) (fp : List Addr), Room k (A.deeper (gE X scope cl C code)) → PG (gx X A s H (gE X scope cl C code) fp) tg g)
    (ht : ∀ (A : Around) (s : Shared) (H : Hp) (cl : List (Str × Addr)) (C : Addr) (code : Value) (fp : List Addr), Room k (A.deeper (gE X scope cl C code)) → PTs (gx X A s H (gE X scope cl C code) fp) ifs tt)
    (he : ∀ (A : Around) (s : Shared) (H : Hp) (cl : List (Str × Addr)) (C : Addr) (code : Value) (fp : List Addr), Room k (A.deeper (gE X scope cl C code)) → PE (gx X A s H (gE X scope cl C code) fp) elt te)
    (hs : ∀ v, genFold iter X.env v = pure v) (I : Inv X pins σ H s)
    (h : wi σ H fun J H1 => GxR.TabG H1 P ∧ ∀ H2, GxR.Tabbed P H1 H2 → R J H2)
    (hQ : ∀ J H4 a s5, R J H4 → Rdy X k pins σ (own.map (·.2)) J g tt te H4 a s5 → Q' (.ref a) s5) :
    wpAny (model X.prog X.w) X.A (eval (.GeneratorExp elt [⟨tg, iter, ifs, 0⟩] scope gpos) X.env) Q' X.xe s := by
  have hfree : ∀ y ∈ scope.names, y.2 = .free → ∃ c, X.env.cells.lookup y.1 = some c := fun y hy e => by
    rcases ok.free y hy e with k | k
    · exact I.ok.has _ (.inl k)
    · exact I.ok.has _ (.inr k)
  refine wpAny_GeneratorExp_make hco (closure_ok hfree) nocell dot ok.kind hd ?_ hs
  refine thn (hi.run pins s σ H _ I h) fun xv s1 hx => thn hx fun itv s2 h2 => ?_
  obtain ⟨it, fp, tn, J, H2, rfl, I2, T, st2, f2, ⟨ps, hP, ht3⟩, q⟩ := h2
  refine ⟨I2.nolimit, ?_⟩
  have hPs : s2.heap.get? P = some { cls := .none, data := .fields ps } := I2.hok P _ hP
  have cd : PySem.W.CodeHd s2.heap c P := TB.code.keeps fun b u e => I2.bk b u e
  have fP : ∀ b ∈ fp, b ≠ P := fun b hb z => by
    have := (f2 b hb).1
    rw [z, hP] at this
    cases this
  have cont : ∀ (code : Value) (h3 : Heap) (tk : Nat) (ps' more : Array Value), (∀ b o, b ≠ P → s2.heap.get? b = some o → h3.get? b = some o) → h3.get? P = some { cls := .none, data := .fields ps' } → ps' = ps ++ more → TriplesOk ps'.toList →
      wpAny (model X.prog X.w) X.A (builtinsFor X.env.globals X.env.builtins) (fun bi s₄ =>
        ∀ h' : Heap, h'.Ns s₄.heap.objs.size (fun y => if y = ".0" then some (Value.ref it) else none) → Heap.SameBut s₄.heap.objs.size (s₄.heap.push { cls := .type "frame", data := .dict #[] }) h' →
          Q' (.ref h'.objs.size) { s₄ with
            gens := s₄.gens.push (.fresh (.compStart (.GeneratorExp elt [⟨tg, iter, ifs, 0⟩] scope gpos) 0 (.ref it) .none (genEnv scope (cloFrom X.env.cells scope.names []) s₄.heap.objs.size code bi X.env))),
            toks := s₄.toks + 1 + 1 + 1,
            heap := h'.push { cls := .type "generator", data := .fields #[.int s₄.gens.size 0, .str "<genexpr>" (s₄.toks + 1), .str (X.env.qual ++ "<genexpr>") (s₄.toks + 1 + 1)] } }) X.xe { s2 with heap := h3, toks := tk } := by
    intro code h3 tk ps' more k3 hP3 em ht3
    subst em
    obtain ⟨bm, ob, e1, e2, e3, e4, e5, e6, e7, e8⟩ := TB.bm
    have ext : Heap.ExtBut P s2.heap h3 := fun b o hb e => k3 b o hb e
    have J4 : Inv X pins σ (upd H2 P (.tbl (ps ++ more))) { s2 with heap := h3, toks := tk } := GxR.inv_tab (more := more) (h' := h3) (g' := s2.gens) (d' := s2.drawn) (t' := tk) I2 hP k3 hP3 I2.bare
    have tb : GxR.Tabbed P H2 (upd H2 P (.tbl (ps ++ more))) := ⟨⟨ps ++ more, upd_same, ht3⟩, fun b hb => upd_ne hb⟩
    have q4 := q _ tb
    have st4 : tn 0 h3 := T.keep _ _ _ st2 fun b hb o e => k3 b o (fP b hb) e
    have f4 : ∀ b ∈ fp, FpOk X pins (upd H2 P (.tbl (ps ++ more))) b := fun b hb => ⟨by rw [upd_ne (fP b hb)]; exact (f2 b hb).1, (f2 b hb).2⟩
    refine wpAny_builtinsFor (m := X.mg) (by rw [I2.ok.glob]; exact ((I2.mod.glob.keeps I2.bk).extBut ext TB.gP)) e1 e2 (k3 _ _ e4 (I2.bk _ _ e5)) e6 e7 e8 ?_
    generalize hH4 : upd H2 P (.tbl (ps ++ more)) = H4 at J4 f4 q4
    intro h' hn' hs'
    have hsz : h'.objs.size = h3.objs.size + 1 := by rw [hs'.1, Heap.size_push]
    have keep' : ∀ b o, h3.get? b = some o → h'.get? b = some o := fun b o e => hs'.extBut b o (Nat.ne_of_lt (Heap.lt_size e)) (Heap.get?_push_of_some _ e)
    have main : ∀ (go : Obj) (nm qn : Value) (tk2 : Nat), go.cls = .type "generator" → go.data = .fields #[.int s2.gens.size 0, nm, qn] → go.slots = #[] → (∀ h : Heap, (h.push go).get? h.objs.size = some go) →
        Rdy X k pins σ (own.map (·.2)) J g tt te H4 h'.objs.size { s2 with gens := s2.gens.push (.fresh (.compStart (.GeneratorExp elt [⟨tg, iter, ifs, 0⟩] scope gpos) 0 (.ref it) .none (genEnv scope (cloFrom X.env.cells scope.names []) h3.objs.size code builtinsNs X.env))), toks := tk2, heap := h'.push go } := by
      intro go nm qn tk2 hgc hgd hgs hgp
      have f5 : ∀ b ∈ fp, FpOk X pins H4 b ∧ b < ({ s2 with heap := h3, toks := tk } : Shared).heap.objs.size := fun b hb => ⟨f4 b hb, by
        obtain ⟨o, e, _⟩ := T.obj _ _ st4 b hb
        exact Heap.lt_size e⟩
      have kp5 : ∀ b o, h3.get? b = some o → (h'.push go).get? b = some o := fun b o e => Heap.get?_push_of_some _ (keep' b o e)
      have haz : ∀ b ∈ fp, b ≠ h'.objs.size := fun b hb z => by
        have e : b < h3.objs.size := (f5 b hb).2
        rw [z, hsz] at e
        exact absurd e (Nat.not_lt_of_le (Nat.le_succ _))
      refine ⟨go, s2.gens.size, .fresh (.compStart (.GeneratorExp elt [⟨tg, iter, ifs, 0⟩] scope gpos) 0 (.ref it) .none (genEnv scope (cloFrom X.env.cells scope.names []) h3.objs.size code builtinsNs X.env)), { s2 with heap := h3, toks := tk }, genEnv scope (cloFrom X.env.cells scope.names []) h3.objs.size code builtinsNs X.env, fp,
        fun h e => ⟨go, nm, qn, e, hgc, hgd, hgs⟩, hgp h', Array.getElem?_push_size .., fun b hb => ⟨?_, haz b hb⟩, fun B hB1 hB2 hB3 => ?_⟩
      · show b < (h'.push go).objs.size
        rw [Heap.size_push, hsz]
        exact Nat.lt_succ_of_lt (Nat.lt_succ_of_lt (f5 b hb).2)
      have I5 := gx_start (A := B) (scope := scope) (own := own) (code := code) (pG := [(h'.objs.size, go)]) (gs := s2.gens.push (.fresh (.compStart (.GeneratorExp elt [⟨tg, iter, ifs, 0⟩] scope gpos) 0 (.ref it) .none (genEnv scope (cloFrom X.env.cells scope.names []) h3.objs.size code builtinsNs X.env)))) (tk := tk2)
        J4 ok nocell hN hB1 hB2 f5 (h5 := h'.push go) (hn'.push _) kp5 (AllBare.push I2.bare rfl) (fun p hp => by
          rw [List.mem_singleton.mp hp]
          exact ⟨hgp h', by show h3.objs.size < h'.objs.size; rw [hsz]; exact Nat.lt_succ_self _, fun v z => by rw [hgd] at z; cases z⟩)
      have hroom : Room k (B.deeper (genEnv scope (cloFrom X.env.cells scope.names []) h3.objs.size code builtinsNs X.env)) := Room.deeper hB3 _
      refine ⟨I5, fun σ' H' s' I6 => ?_, fun D QT Yp W hD turn m0 H'' s'' w0 I6 kp6 n6 => ⟨rfl, ?_⟩⟩
      · exact J4.call' (ch := fp) I6.os I6.base I6.hok I6.bare fun b hb => ⟨(f4 b hb).2.2.2.1, (f4 b hb).2.1, (f4 b hb).2.2.2.2.1, (f4 b hb).2.2.2.2.2⟩
      · refine seg_start (Y := gx X B { s2 with heap := h3, toks := tk } H4 (genEnv scope (cloFrom X.env.cells scope.names []) h3.objs.size code builtinsNs X.env) fp) (A := B) rfl rfl hco (fun _ _ z => z) T (hg _ _ _ _ _ _ _ hroom) (ht _ _ _ _ _ _ _ hroom) (he _ _ _ _ _ _ _ hroom) (fun H hH b hb => ?_) hD turn m0 (m0 + 1) s'' s'' H'' (Nat.lt_succ_self _) w0 I6
          (T.keep _ _ _ st4 fun b hb o e => kp6 b hb o (kp5 b o e)) (fun b hb => (n6 b hb).trans (f4 b hb).1)
        exact ⟨hH b hb, (I5.ok.exf b hb).1, I5.ok.exfs b hb, .inl hb, fun x c e => (I5.ok.exf b hb).2 x c e, fun p hp => by
          have hp : p ∈ [(h'.objs.size, go)] := hp
          rw [List.mem_singleton.mp hp]
          exact (haz b hb).symm⟩
    exact hQ J H4 _ _ q4 (main _ _ _ _ rfl rfl rfl fun h => Heap.get?_push_size _ rfl)
  cases hf : codeAmong gpos ps.toList with
  | none =>
    refine wpAny_genexprCodeX hcode (cd.code hPs ht3) (cd.tab hPs) hf fun c' h' tk hx hge hlt hco' _ htab' _ => ?_
    obtain ⟨o1, vs, f1, tf, fl, tg, inF, tx, tt, op, _, _, _, _, _, _, _, _, _, htr, _⟩ := hco'
    exact cont _ h' tk _ _ (fun b o hb e => hx b o hb e) htab'.2 rfl htr
  | some cv =>
    refine wpAny_genexprCode_hit hcode (cd.code hPs ht3) hf ?_
    exact cont cv s2.heap s2.toks ps #[] (fun _ _ _ e => e) hPs (by simp) ht3
/-- all(e for x in .. if ..), e of any kind, a truth; behind it the def's table may have grown -/
def tAllG (P : Addr) (wi : TI) (g : TG) (tt : TT) (te : TE) (vs : List Nat) : TE := fun σ H Q => wi σ H fun J H1 => GxR.TabG H1 P ∧ ∀ H2, GxR.Tabbed P H1 H2 → ∃ W : Nat → Nat → Hp → Prop, (∃ m, W 0 m H2) ∧ Turns J g tt te vs σ (fun H => Q (.bl true) H) (pAll fun H => Q (.bl false) H) W
theorem pe_allG {p pos : Pos} (hr : Room (k + 3) X.A) (hga : Gl X "all") (hm : X.mg "all" = none) (hb : bootBuiltins "all" = some (.builtin "all")) (TB : GxR.TabB X.base X.mg c P) (hcode : X.env.code = .ref c) (hN : X.N.Nodup) (hco : scope.isCoroutine = false) (nocell : ∀ y ∈ scope.names, y.2 ≠ .cell) (dot : scope.names.lookup (".0" : Str) = some NameKind.local)
    (ok : BlkOk X.N X.env.scope scope own) (hi : PI X tg iter wi) (hg : ∀ (A : Around) (s : Shared) (H : Hp) (cl : List (Str × Addr)) (C : Addr) (code : Value) (fp : List Addr), Room k (A.deeper (gE X scope cl C code)) → PG (gx X A s H (gE X scope cl C code) fp) tg g)
    (ht : ∀ (A : Around) (s : Shared) (H : Hp) (cl : List (Str × Addr)) (C : Addr) (code : Value) (fp : List Addr), Room k (A.deeper (gE X scope cl C code)) → PTs (gx X A s H (gE X scope cl C code) fp) ifs tt)
    (hel : ∀ (A : Around) (s : Shared) (H : Hp) (cl : List (Str × Addr)) (C : Addr) (code : Value) (fp : List Addr), Room k (A.deeper (gE X scope cl C code)) → PE (gx X A s H (gE X scope cl C code) fp) elt te)
    (hs : ∀ v, genFold iter X.env v = pure v)
    (he : starEach [.GeneratorExp elt [⟨tg, iter, ifs, 0⟩] scope gpos] X.env = (false, eval (.GeneratorExp elt [⟨tg, iter, ifs, 0⟩] scope gpos) X.env) :: starEach [] X.env := by rfl) :
    PE X (.Call (.Name "all" p) [.GeneratorExp elt [⟨tg, iter, ifs, 0⟩] scope gpos] [] pos) (tAllG P wi g tt te (own.map (·.2))) := by
  refine ⟨fun pins s σ H Q I h => ?_⟩
  refine wpAny_Call_Name_kw (ld_blt I hga hm hb ?_)
  refine PyProof.Rows.callWith_builtin1 ?_ he (by rfl)
  rw [he]
  show wpAny _ _ (spliced ((false, eval (.GeneratorExp elt [⟨tg, iter, ifs, 0⟩] scope gpos) X.env) :: backTo pos (starEach [] X.env))) _ _ s
  refine Calls.spliced_cons (gen_ex (R := fun J H2 => ∃ W : Nat → Nat → Hp → Prop, (∃ m, W 0 m H2) ∧ Turns J g tt te (List.map (fun x : Str × Nat => x.2) own) σ (fun H => Q (.bl true) H) (pAll fun H => Q (.bl false) H) W) hr.depth TB hcode hN hco nocell dot ok hi hg ht hel hs I h fun J H4 a s5 q hR => ?_)
  refine Calls.spliced_nil ?_
  obtain ⟨W, ⟨m0, w0⟩, turn⟩ := q
  obtain ⟨go, gn, gs, s₄, genv, fp, hgo, hga5, hgs, hfp, all⟩ := hR
  obtain ⟨I5, back, goes⟩ := all X.A.in1.in1 hr.hd I.ok.frames (Room.in1 (Room.in1 hr))
  refine call_function_tree F.kind_all F.plain_all F.entry_all (F.args_all1 _) ?_
  unfold Builtin.«all»
  refine wpAny_bind (m := oneArg "all" _) (wpAny_pure ?_)
  refine wpAny_bind (wpAny_pyIter_gen (hgo _ hga5) ?_)
  refine wpAny_pure ⟨plainId_quiet F.plain_all_loop _, all_loop (Y := gx X X.A.in1.in1 s₄ H4 genv fp) (pG := [(a, go)]) rfl rfl hr.hd (Room.in1 hr).depth hgo (List.mem_singleton.mpr rfl) (fun σ1 H1 s' I1 q => ?_) (fun σ1 H1 s' I1 q => ?_) (m0 + 1) _ H4 s5 gs I5 hgs
    fun s'' e1 e2 e3 => goes a _ _ W (fun b hb => (hfp b hb).2) turn m0 H4 s'' w0 (inv_same I5 e1 e2 e3) (fun b _ o e => by rw [e1]; exact e) fun _ _ => rfl⟩
  · exact ⟨.bl true, H1, back σ1 H1 s' I1, rfl, q⟩
  · exact ⟨.bl false, H1, back σ1 H1 s' I1, rfl, q⟩
end
end KG

/-! Own layer: tuple(..) of such a generator expression. -/
namespace KG
open PySem PySem.Spec PyProof.Rows L2 GenW
/-- tuple: what is handed out is laid behind the list at D -/
def pTup (D : Addr) : V → Hp → (Hp → Prop) → Prop := fun y H Nx => ∃ acc, H D = some (.lst acc) ∧ acc.length < sizeLine ∧ Nx (upd H D (.lst (acc ++ [y])))
section
variable {Y : Cx} {A : Around} {pG : List (Addr × Obj)} {QT : Hp → Prop}
theorem ext_loop {S a : Addr} {go : Obj} {gn : Nat} {R : Result → Shared → Prop} {res : Value} (hh : A.handled = none) (hroom : A.depth < recursionLimit) (hgo : ∀ h : Heap, h.get? a = some go → h.IsGen a gn) (hpin : (a, go) ∈ pG)
    (hT : ∀ (σ : L2.St) (H : Hp) (s' : Shared), Inv Y pG σ H s' → QT H → R (.ok (.ret res)) s') :
    ∀ (n : Nat) (σ : L2.St) (H : Hp) (s : Shared) (gs : GenState), Inv Y pG σ H s → s.gens[gn]? = some gs → (∀ s'' : Shared, s''.heap = s.heap → s''.os = s.os → AllBare s''.gens → gs.Goes (model Y.prog Y.w) A.in1.in1 (gR Y pG QT) (gY Y pG S (pTup S)) n (.send .none) s'') →
      codeAny (model Y.prog Y.w) A (.builtin "list.extend.loop" ⟨[.ref S, .ref a, res], []⟩) R s := by
  have step : ∀ n : Nat, (∀ n', n = n' + 1 → ∀ (σ : L2.St) (H : Hp) (s : Shared) (gs : GenState), Inv Y pG σ H s → s.gens[gn]? = some gs → (∀ s'' : Shared, s''.heap = s.heap → s''.os = s.os → AllBare s''.gens → gs.Goes (model Y.prog Y.w) A.in1.in1 (gR Y pG QT) (gY Y pG S (pTup S)) n' (.send .none) s'') →
      codeAny (model Y.prog Y.w) A (.builtin "list.extend.loop" ⟨[.ref S, .ref a, res], []⟩) R s) → ∀ (σ : L2.St) (H : Hp) (s : Shared) (gs : GenState), Inv Y pG σ H s → s.gens[gn]? = some gs → (∀ s'' : Shared, s''.heap = s.heap → s''.os = s.os → AllBare s''.gens → gs.Goes (model Y.prog Y.w) A.in1.in1 (gR Y pG QT) (gY Y pG S (pTup S)) n (.send .none) s'') →
      codeAny (model Y.prog Y.w) A (.builtin "list.extend.loop" ⟨[.ref S, .ref a, res], []⟩) R s := by
    intro n ih σ H s gs I hgs hG
    refine codeAny_builtin F.entry_extend_loop ?_
    rw [Around.under_plainId F.plain_extend_loop _]
    show wpAny _ A.in1 (pyNext (.ref a) >>= _) _ _ s
    have hlt : gn < s.gens.size := by
      rcases Nat.lt_or_ge gn s.gens.size with h | h
      · exact h
      · rw [Array.getElem?_eq_none h] at hgs
        cases hgs
    have gen : ∀ {σ : L2.St} {H : Hp} {s : Shared}, Inv Y pG σ H s → s.heap.IsGen a gn := fun I => hgo _ (I.pin (a, go) (List.mem_append_right _ hpin)).1
    refine wpAny_bind (wpAny_gsz (n := gn + 1) hlt (wpAny_pyNext_genexpQ (P := fun n s0 s1 => ∃ (σ : L2.St) (H : Hp), Inv Y pG σ H s1 ∧ QT H) hh I.nolimit hroom (gen I) hgs (hG _ rfl rfl (allBare_setGen I.bare rfl)) (fun v s₁ gs' hb hv hsz => ?_) (fun s₁ hp h' hk hsz => ?_)))
    · obtain ⟨y, σ1, H1, Nx, ry, I1, ⟨acc, hS, hz, nx⟩, kap⟩ := hv
      have I2 : Inv Y pG σ1 H1 (s₁.setGen gn gs') := inv_same I1 rfl rfl (allBare_setGen I1.bare hb)
      have hlt1 : gn < s₁.gens.size := by
        rw [setGen_size] at hsz
        exact hsz
      obtain ⟨hz', its, c, ri, hS1⟩ : ObjOk Y.prog Y.w H1 s₁.heap S (.lst acc) := I1.hok S _ hS
      have hl := ri.length
      show wpAny _ A.in1 (updateSeq S (·.push v) >>= _) _ _ _
      refine wpAny_bind ?_
      refine wpAny_updateSeq (s := s₁.setGen gn gs') hS1 rfl (wpAny_pure ⟨plainId_quiet F.plain_extend_loop _, ?_⟩) (by rw [List.size_toArray]; omega) (by show (its.toArray.push v).size ≤ sizeLine + 1; rw [Array.size_push, List.size_toArray]; omega)
      have keep3 : ∀ b o, b ≠ S → s₁.heap.get? b = some o → (s₁.heap.update S (Obj.mapSeq (·.push v))).get? b = some o := fun b o hbS e => (Heap.get?_update_other _ _ (Ne.symm hbS)).trans e
      have at3 := Heap.get?_update_self (Obj.mapSeq (·.push v)) hS1 rfl
      have I3 : Inv Y pG σ1 (upd H1 S (.lst (acc ++ [y]))) { s₁.setGen gn gs' with heap := s₁.heap.update S (Obj.mapSeq (·.push v)) } :=
        I2.write (t' := (s₁.setGen gn gs').toks) (by rw [hS]; trivial) (.inl rfl) (fun b u hb q => keep3 b u hb q) ⟨_, at3⟩ ⟨by rw [List.length_append]; exact hz, its ++ [v], _, ri.append (.cons ry .nil), by
          rw [at3]
          simp [Obj.mapSeq]
          rfl⟩
      cases n with
      | zero => exact (kap _ _ nx (fun b hb => upd_ne hb) (fun b o hb e => keep3 b o hb e) I3).elim
      | succ n' =>
        refine ih n' rfl σ1 _ _ gs' I3 (setGen_at hlt1) fun s'' e1 e2 e3 => kap _ s'' nx (fun b hb => upd_ne hb) (fun b o hb e => by rw [e1]; exact keep3 b o hb e) (inv_same I3 e1 e2 e3)
    · obtain ⟨σ1, H1, I1, qt⟩ := hp
      have I2 : Inv Y pG σ1 H1 { s₁ with heap := h' } := I1.kept (t' := s₁.toks) hk
      exact wpAny_pure (hT σ1 H1 _ (inv_same I2 rfl rfl (allBare_setGen I1.bare rfl)) qt)
  intro n
  induction n with
  | zero => exact step 0 fun n' e => absurd e (Nat.succ_ne_zero n').symm
  | succ n ih =>
    refine step (n + 1) fun n' e => ?_
    obtain rfl : n = n' := Nat.succ.inj e
    exact ih
end
section
variable {X : Cx} {pins : List (Addr × Obj)} {σ : L2.St} {k : Nat} {vs : List Nat} {J : It} {g : TG} {tt : TT} {te : TE} {H4 : Hp} {a : Addr} {s5 : Shared}
/-- the things of such a generator, gathered -/
theorem collect_rdy {A : Around} {E : Value → Shared → Prop} {Q' : List Value → Shared → Prop} {QL : List V → Hp → Prop} (hr : Room (k + 3) A) (hfr : A.frames = some X.stack) (hR : Rdy X k pins σ vs J g tt te H4 a s5)
    (h : ∀ D, H4 D = none → ∃ W : Nat → Nat → Hp → Prop, (∃ m, W 0 m (upd H4 D (.lst []))) ∧ Turns J g tt te vs σ (fun H => ∃ acc, H D = some (.lst acc) ∧ QL acc H) (pTup D) W)
    (hQ : ∀ (its : List Value) (acc : List V) (H : Hp) (s' : Shared), Inv X pins σ H s' → Vals acc its → acc.length ≤ sizeLine → QL acc H → Q' its s') : wpAny (model X.prog X.w) A (collect (.ref a)) Q' E s5 := by
  obtain ⟨go, gn, gs, s₄, genv, fp, hgo, hga5, hgs, hfp, all⟩ := hR
  obtain ⟨I5, back, goes⟩ := all A.in1.in1 hr.hd hfr (Room.in1 (Room.in1 hr))
  have hal : a < s5.heap.objs.size := Heap.lt_size hga5
  unfold collect
  refine wpAny_bind (wpAny_runValue (codeAny_builtin F.entry_proto_collect ?_))
  rw [Around.under_plainId F.plain_proto_collect _]
  show wpAny _ A.in1 (newList [] >>= fun l => again (.builtin "list.__iadd__" ⟨[l, .ref a], []⟩)) _ _ s5
  refine wpAny_bind (wpAny_newObj_type ?_)
  refine wpAny_pure ⟨plainId_quiet F.plain_list_iadd _, codeAny_builtin F.entry_list_iadd ?_⟩
  rw [Around.under_plainId F.plain_list_iadd _]
  have k1 : ∀ b o, s5.heap.get? b = some o → (s5.heap.push { cls := .type "list", data := .seq ([] : List Value).toArray }).get? b = some o := fun b o e => Heap.get?_push_of_some _ e
  have ty : ∀ {s : Shared}, s.heap.get? a = some go → s.TypeIs (.ref a) "generator" := fun e => Heap.IsGen.typeIs (hgo _ e)
  show wpAny _ A.in1 (Builtin.List.listExtendWith (.ref s5.heap.objs.size) (.ref a) (.ref s5.heap.objs.size)) _ _ _
  unfold Builtin.List.listExtendWith
  refine wpAny_bind (wpAny_typeOf (ty (s := { s5 with heap := _ }) (k1 _ _ hga5)) ?_)
  have h1 : Builtin.List.listSameRef (.ref s5.heap.objs.size) (.ref a) = false := by simp [Builtin.List.listSameRef, Nat.ne_of_gt hal]
  have h2 : (Value.type "generator" == Value.type "list") = false := by decide
  have h3 : (Value.type "generator" == Value.type "tuple") = false := by decide
  simp only [h1, h2, h3, Bool.or_false, Bool.false_eq_true, if_false]
  refine wpAny_bind (wpAny_pyIter_gen (s := { s5 with heap := _ }) (hgo _ (k1 _ _ hga5)) ?_)
  refine wpAny_bind (wpAny_holding ?_)
  unfold Builtin.List.listLengthHint
  refine wpAny_bind (wpAny_specialOf (ty (s := { s5 with heap := _ }) (k1 _ _ hga5)) F.gen_no_len ?_)
  show wpAny _ A.in1 (specialOf (Value.ref a) (Str.ofString "__length_hint__") >>= _) _ _ _
  refine wpAny_bind (wpAny_specialOf (ty (s := { s5 with heap := _ }) (k1 _ _ hga5)) F.gen_no_hint ?_)
  refine wpAny_pure ?_
  show wpAny _ A.in1 (rule "list.extend.makes-room" >>= fun _ => Builtin.List.listTouch (.ref s5.heap.objs.size) >>= fun _ =>
    again (.builtin "list.extend.loop" ⟨[.ref s5.heap.objs.size, .ref a, .ref s5.heap.objs.size], []⟩)) _ _ _
  refine wpAny_bind (wpAny_rule ?_)
  have hS₁ : (s5.heap.push { cls := .type "list", data := .seq ([] : List Value).toArray }).get? s5.heap.objs.size = some { cls := .type "list", data := .seq ([] : List Value).toArray } := Heap.get?_push_size _ rfl
  refine wpAny_bind ?_
  show wpAny _ A.in1 (updateSeq s5.heap.objs.size (·.push .none) >>= fun _ => updateSeq s5.heap.objs.size (·.pop)) _ _ _
  refine wpAny_bind (wpAny_updateSeq hS₁ rfl ?_)
  have hS₂ := Heap.get?_update_self (Obj.mapSeq (·.push Value.none)) hS₁ rfl
  refine wpAny_updateSeq hS₂ rfl ?_
  have hS₃ := Heap.get?_update_self (Obj.mapSeq (·.pop)) hS₂ rfl
  have oth : ∀ b o, s5.heap.get? b = some o →
      (((s5.heap.push { cls := .type "list", data := .seq ([] : List Value).toArray }).update s5.heap.objs.size (Obj.mapSeq (·.push Value.none))).update s5.heap.objs.size (Obj.mapSeq (·.pop))).get? b = some o :=
    fun b o e => (Heap.get?_update_other _ _ (Ne.symm (Nat.ne_of_lt (Heap.lt_size e)))).trans ((Heap.get?_update_other _ _ (Ne.symm (Nat.ne_of_lt (Heap.lt_size e)))).trans (k1 b o e))
  have fresh : H4 s5.heap.objs.size = none := I5.hok.fresh (Nat.le_refl _)
  obtain ⟨W, ⟨m0, w0⟩, turn⟩ := h _ fresh
  have I6 := I5.laid (t' := s5.toks) (a := s5.heap.objs.size) (o := .lst []) oth (Nat.le_refl _) ⟨Nat.zero_le _, [], _, .nil, hS₃⟩
  refine wpAny_pure ⟨plainId_quiet F.plain_extend_loop _, ext_loop (Y := gx X A.in1.in1 s₄ H4 genv fp) (pG := [(a, go)]) hr.hd (Room.in1 hr).depth hgo (List.mem_singleton.mpr rfl) (fun σ1 H1 s' I1 q => ?_) (m0 + 1) _ _ _ gs I6 hgs
    fun s'' e1 e2 e3 => goes s5.heap.objs.size _ _ W (fun b hb z => by
      have e := (hfp b hb).1
      rw [z] at e
      exact Nat.lt_irrefl _ e) turn m0 _ s'' w0 (inv_same I6 e1 e2 e3) (fun b _ o e => by rw [e1]; exact oth b o e) fun b hb => upd_ne (Nat.ne_of_lt (hfp b hb).1)⟩
  obtain ⟨acc, hS, qL⟩ := q
  obtain ⟨hz, its, c, ri, hS1⟩ : ObjOk X.prog X.w H1 s'.heap s5.heap.objs.size (.lst acc) := I1.hok _ _ hS
  show wpAny _ A (load s5.heap.objs.size >>= _) _ _ s'
  refine wpAny_bind (wpAny_load hS1 ?_)
  refine wpAny_pure ?_
  have e : its.toArray.toList = its := by simp
  exact (e ▸ hQ its acc H1 s' (back σ1 H1 s' I1) ri hz qL : Q' its.toArray.toList s')
end
end KG

namespace KG
open PySem PySem.Spec PyProof.Rows L2 GenW
open AutoSeq1 (wpAny_loadPart')
section
variable {X : Cx} {pins : List (Addr × Obj)} {σ : L2.St} {k : Nat} {vs : List Nat} {J : It} {g : TG} {tt : TT} {te : TE} {H4 : Hp} {a : Addr} {s5 : Shared}
theorem code_tup_rdy {A : Around} {E : Value → Shared → Prop} {Q₁ : Value → Shared → Prop} {QL : List V → Hp → Prop} (hr : Room (k + 4) A) (hfr : A.frames = some X.stack) (hR : Rdy X k pins σ vs J g tt te H4 a s5)
    (h : ∀ D, H4 D = none → ∃ W : Nat → Nat → Hp → Prop, (∃ m, W 0 m (upd H4 D (.lst []))) ∧ Turns J g tt te vs σ (fun H => ∃ acc, H D = some (.lst acc) ∧ QL acc H) (pTup D) W)
    (hQ : ∀ (its : List Value) (acc : List V) (H : Hp) (s' : Shared), Inv X pins σ H s' → Vals acc its → acc.length ≤ sizeLine → QL acc H → Q₁ (.ref s'.heap.objs.size) { s' with heap := s'.heap.push { cls := .type "tuple", data := .seq its.toArray } }) :
    codeAny (model X.prog X.w) A (.call (.builtin "tuple.__new__") ⟨[.type "tuple", .ref a], []⟩) (wants Q₁ E) s5 := by
  refine codeAny_of_tree ?_
  show wpAny _ A.in1 (do checkBuiltinCall "tuple.__new__" ⟨[.type "tuple", .ref a], []⟩; again (.builtin "tuple.__new__" ⟨[.type "tuple", .ref a], []⟩)) _ _ s5
  refine wpAny_bind (wpAny_of_eq (F.newCall_tuple_1 _) (wpAny_pure ⟨plainId_quiet F.plain_tuple_new _, codeAny_builtin F.entry_tuple_new ?_⟩))
  rw [Around.under_plainId F.plain_tuple_new _]
  have hsub := sub_tuple_self
  have hinit := init_tuple_lookup
  have hmh := madeHere_tuple
  have hTI : s5.TypeIs (.ref a) "generator" := by
    obtain ⟨go, gn, gs, s₄, genv, fp, hgo, hga5, _⟩ := id hR
    exact Heap.IsGen.typeIs (hgo _ hga5)
  have col := fun (E : Value → Shared → Prop) (Q' : List Value → Shared → Prop) => collect_rdy (E := E) (Q' := Q') (A := A.in1) (QL := QL) (Room.in1 hr) hfr hR h
  wp_walk using wpAny_typeOf hTI, col
  intro its acc H s' I rv hz qL
  show wpAny _ _ (Builtin.Tuple.tupleExact its.toArray >>= fun v => ret v) _ _ _
  unfold Builtin.Tuple.tupleExact
  refine wpAny_bind (wpAny_newObj_type ?_ (by show its.toArray.size ≤ sizeLine; rw [List.size_toArray, ← rv.length]; exact hz))
  exact wpAny_pure (hQ its acc H s' I rv hz qL)
theorem call_tup_rdy {A : Around} {E : Value → Shared → Prop} {Q : Value → Shared → Prop} {QL : List V → Hp → Prop} (hr : Room (k + 5) A) (hfr : A.frames = some X.stack) (hR : Rdy X k pins σ vs J g tt te H4 a s5)
    (h : ∀ D, H4 D = none → ∃ W : Nat → Nat → Hp → Prop, (∃ m, W 0 m (upd H4 D (.lst []))) ∧ Turns J g tt te vs σ (fun H => ∃ acc, H D = some (.lst acc) ∧ QL acc H) (pTup D) W)
    (hQ : ∀ (its : List Value) (acc : List V) (H : Hp) (s' : Shared), Inv X pins σ H s' → Vals acc its → acc.length ≤ sizeLine → QL acc H → Q (.ref s'.heap.objs.size) { s' with heap := s'.heap.push { cls := .type "tuple", data := .seq its.toArray } }) :
    wpAny (model X.prog X.w) A (call (.type "tuple") [.ref a]) Q E s5 := by
  refine callType_codes (Q₁ := fun obj s₁ => s₁.TypeIs obj "tuple" ∧ Q obj s₁) F.called_tuple (F.typeCall_tuple_1 _) F.entry_object_init
    (code_tup_rdy (A := A.in1) (Room.in1 hr) hfr hR h fun its acc H s' I rv hz qL => ⟨⟨_, Heap.get?_push_size _ rfl, rfl⟩, hQ its acc H s' I rv hz qL⟩) fun obj s₁ h₁ => ?_
  exact ⟨h₁.1, F.args_object_init_2 obj _, object_init_meets F.called_tuple.init.lookup F.called_tuple.made (by decide) X.prog X.w A.in1 _ s₁ ⟨h₁.1, rfl, h₁.2⟩⟩
end
section
variable {X : Cx} {c P : Addr} {elt tg iter : Expr} {ifs : List Expr} {gpos : Pos} {scope : Scope} {own : List (Str × Nat)} {wi : TI} {g : TG} {tt : TT} {te : TE} {k : Nat}
/-- tuple(e for x in .. if ..): D the things as they are gathered; behind it the def's table may have grown -/
def tTupG (P : Addr) (wi : TI) (g : TG) (tt : TT) (te : TE) (vs : List Nat) : TE := fun σ H Q => wi σ H fun J H1 => GxR.TabG H1 P ∧ ∀ H2, GxR.Tabbed P H1 H2 → ∀ D, H2 D = none → ∃ W : Nat → Nat → Hp → Prop, (∃ m, W 0 m (upd H2 D (.lst []))) ∧
  Turns J g tt te vs σ (fun H => ∃ acc, H D = some (.lst acc) ∧ ∀ T, H T = none → Q (.ref T) (upd H T (.tup acc))) (pTup D) W
theorem pe_tupG {p pos : Pos} (hr : Room (k + 5) X.A) (hga : Gl X "tuple") (hm : X.mg "tuple" = none) (hb : bootBuiltins "tuple" = some (.type "tuple")) (TB : GxR.TabB X.base X.mg c P) (hcode : X.env.code = .ref c) (hN : X.N.Nodup) (hco : scope.isCoroutine = false) (nocell : ∀ y ∈ scope.names, y.2 ≠ .cell) (dot : scope.names.lookup (".0" : Str) = some NameKind.local)
    (ok : BlkOk X.N X.env.scope scope own) (hi : PI X tg iter wi) (hg : ∀ (A : Around) (s : Shared) (H : Hp) (cl : List (Str × Addr)) (C : Addr) (code : Value) (fp : List Addr), Room k (A.deeper (gE X scope cl C code)) → PG (gx X A s H (gE X scope cl C code) fp) tg g)
    (ht : ∀ (A : Around) (s : Shared) (H : Hp) (cl : List (Str × Addr)) (C : Addr) (code : Value) (fp : List Addr), Room k (A.deeper (gE X scope cl C code)) → PTs (gx X A s H (gE X scope cl C code) fp) ifs tt)
    (hel : ∀ (A : Around) (s : Shared) (H : Hp) (cl : List (Str × Addr)) (C : Addr) (code : Value) (fp : List Addr), Room k (A.deeper (gE X scope cl C code)) → PE (gx X A s H (gE X scope cl C code) fp) elt te)
    (hs : ∀ v, genFold iter X.env v = pure v)
    (he : starEach [.GeneratorExp elt [⟨tg, iter, ifs, 0⟩] scope gpos] X.env = (false, eval (.GeneratorExp elt [⟨tg, iter, ifs, 0⟩] scope gpos) X.env) :: starEach [] X.env := by rfl) :
    PE X (.Call (.Name "tuple" p) [.GeneratorExp elt [⟨tg, iter, ifs, 0⟩] scope gpos] [] pos) (tTupG P wi g tt te (own.map (·.2))) := by
  refine ⟨fun pins s σ H Q I h => Call_ (ld_blt I hga hm hb (PyProof.Rows.callWith_type1 ?_ he (by rfl)))⟩
  rw [he]
  show wpAny _ _ (spliced ((false, eval (.GeneratorExp elt [⟨tg, iter, ifs, 0⟩] scope gpos) X.env) :: backTo pos (starEach [] X.env))) _ _ s
  refine Calls.spliced_cons (gen_ex (R := fun J H2 => ∀ D, H2 D = none → ∃ W : Nat → Nat → Hp → Prop, (∃ m, W 0 m (upd H2 D (.lst []))) ∧ Turns J g tt te (List.map (fun x : Str × Nat => x.2) own) σ (fun H => ∃ acc, H D = some (.lst acc) ∧ ∀ T, H T = none → Q (.ref T) (upd H T (.tup acc))) (pTup D) W) hr.depth TB hcode hN hco nocell dot ok hi hg ht hel hs I h fun J H4 a s5 q hR => ?_)
  refine Calls.spliced_nil ?_
  refine call_tup_rdy (QL := fun acc H => ∀ T, H T = none → Q (.ref T) (upd H T (.tup acc))) hr I.ok.frames hR q fun its acc H1 s' I1 rv hz qL => ?_
  have I2 : Inv X pins σ (upd H1 s'.heap.objs.size (.tup acc)) { s' with heap := s'.heap.push { cls := .type "tuple", data := .seq its.toArray } } :=
    I1.laid (t' := s'.toks) (fun b o e => Heap.get?_push_of_some _ e) (Nat.le_refl _) (show ObjOk X.prog X.w _ _ _ (.tup acc) from ⟨hz, its, rv, IsTup.new _ _⟩)
  exact ⟨.ref s'.heap.objs.size, _, I2, rfl, qL _ (I1.hok.fresh (Nat.le_refl _))⟩
end
end KG

/-! Own layer, part A: data at any depth, what repr shows of it, literals. -/
namespace KL
open PySem PySem.Spec PyProof.Rows L2

/-! ### data -/
/-- all but what Z names stands -/
def Kp (Z : Addr → Prop) (H G : Hp) : Prop := ∀ b o, ¬ Z b → H b = some o → G b = some o
theorem Kp.rfl' {Z : Addr → Prop} {H : Hp} : Kp Z H H := fun _ _ _ h => h
theorem Kp.tr {Z : Addr → Prop} {H G J : Hp} (a : Kp Z H G) (b : Kp Z G J) : Kp Z H J := fun c o n h => b c o n (a c o n h)
theorem Kp.wk {Z Y : Addr → Prop} {H G : Hp} (a : Kp Z H G) (h : ∀ b, Z b → Y b) : Kp Y H G := fun c o n e => a c o (fun z => n (h c z)) e
theorem Kp.new {Z : Addr → Prop} {H : Hp} {p : Addr} {o : HO} (n : H p = none) : Kp Z H (upd H p o) := fun b u _ e => by
  rw [upd_ne (ne_of_none e n)]
  exact e
theorem Kp.at {Z : Addr → Prop} {H : Hp} {p : Addr} {o : HO} (z : Z p) : Kp Z H (upd H p o) := fun b u nz e => by
  have ne : b ≠ p := fun q => nz (q ▸ z)
  rw [upd_ne ne]
  exact e
theorem Kp.same {Z : Addr → Prop} {H G : Hp} (s : Same H G) : Kp Z H G := fun b o _ e => s b o e

theorem rd_kp {Z : Addr → Prop} {H G : Hp} {a : Addr} {u : HO} (k : Kp Z H G) (z : ¬ Z a) (e : Rd H a u) : Rd G a u := e.imp (k _ _ z) fun ⟨o, h⟩ => ⟨o, k _ _ z h⟩
mutual
/-- v is the data d; no list, tuple or dict of it stands where Z says -/
inductive Dq (Z : Addr → Prop) (H : Hp) : V → PyData → Prop
  | non : Dq Z H .non .none
  | bl (b : Bool) : Dq Z H (.bl b) (.bool b)
  | int (i : Int) : Dq Z H (.int i) (.int i)
  | str (x : Str) : Dq Z H (.str x) (.str x)
  | lst {a : Addr} {xs : List V} {ds : List PyData} (e : H a = some (.lst xs)) (z : ¬ Z a) (m : a ≠ sysModules) (h : DqL Z H xs ds) : Dq Z H (.ref a) (.list ds)
  | tup {a : Addr} {xs : List V} {ds : List PyData} (e : Rd H a (.tup xs)) (z : ¬ Z a) (h : DqL Z H xs ds) : Dq Z H (.ref a) (.tuple ds)
  | dct {a : Addr} (e : H a = some (.dK [])) (z : ¬ Z a) (m : a ≠ sysModules) : Dq Z H (.ref a) (.dict [])
inductive DqL (Z : Addr → Prop) (H : Hp) : List V → List PyData → Prop
  | nil : DqL Z H [] []
  | cons {v : V} {vs : List V} {d : PyData} {ds : List PyData} (h : Dq Z H v d) (t : DqL Z H vs ds) : DqL Z H (v :: vs) (d :: ds)
end
section
variable {Z Y : Addr → Prop} {H G : Hp}
mutual
theorem Dq.mv (k : Kp Z H G) (w : ∀ b, Y b → Z b) : ∀ (d : PyData) (v : V), Dq Z H v d → Dq Y G v d
  | .none, _, h => by cases h; exact .non
  | .bool _, _, h => by cases h; exact .bl _
  | .int _, _, h => by cases h; exact .int _
  | .str _, _, h => by cases h; exact .str _
  | .list ds, _, h => by
    cases h with
    | lst e z m h => exact .lst (k _ _ z e) (fun q => z (w _ q)) m (DqL.mv k w ds _ h)
  | .tuple ds, _, h => by
    cases h with
    | tup e z h => exact .tup (rd_kp k z e) (fun q => z (w _ q)) (DqL.mv k w ds _ h)
  | .dict kvs, _, h => by
    cases h with
    | dct e z m => exact .dct (k _ _ z e) (fun q => z (w _ q)) m
theorem DqL.mv (k : Kp Z H G) (w : ∀ b, Y b → Z b) : ∀ (ds : List PyData) (vs : List V), DqL Z H vs ds → DqL Y G vs ds
  | [], _, h => by cases h; exact .nil
  | d :: ds, _, h => by
    cases h with
    | cons h t => exact .cons (Dq.mv k w d _ h) (DqL.mv k w ds _ t)
end
theorem Dq.kp {v : V} {d : PyData} (h : Dq Z H v d) (k : Kp Z H G) : Dq Z G v d := Dq.mv k (fun _ z => z) d v h
theorem DqL.kp {vs : List V} {ds : List PyData} (h : DqL Z H vs ds) (k : Kp Z H G) : DqL Z G vs ds := DqL.mv k (fun _ z => z) ds vs h
theorem Dq.wk {v : V} {d : PyData} (h : Dq Z H v d) (w : ∀ b, Y b → Z b) : Dq Y H v d := Dq.mv Kp.rfl' w d v h
theorem DqL.wk {vs : List V} {ds : List PyData} (h : DqL Z H vs ds) (w : ∀ b, Y b → Z b) : DqL Y H vs ds := DqL.mv Kp.rfl' w ds vs h
theorem DqL.len : ∀ {vs : List V} {ds : List PyData}, DqL Z H vs ds → vs.length = ds.length
  | _, _, .nil => rfl
  | _, _, .cons _ t => congrArg Nat.succ t.len
theorem DqL.app : ∀ {vs ws : List V} {ds es : List PyData}, DqL Z H vs ds → DqL Z H ws es → DqL Z H (vs ++ ws) (ds ++ es)
  | _, _, _, _, .nil, h => h
  | _, _, _, _, .cons a t, h => .cons a (t.app h)
theorem DqL.get : ∀ {vs : List V} {ds : List PyData} {i : Nat} {v : V}, DqL Z H vs ds → vs[i]? = some v → ∃ d, ds[i]? = some d ∧ Dq Z H v d
  | _, _, _, _, .nil, e => by simp at e
  | _, _, 0, _, .cons a _, e => by
    have q := Option.some.inj e
    subst q
    exact ⟨_, rfl, a⟩
  | _, _, i + 1, _, .cons _ t, e => t.get (i := i) e
end

section
variable {Z : Addr → Prop} {X : Cx} {pins : List (Addr × Obj)} {σ : L2.St} {H : Hp} {s : Shared}
mutual
theorem Dq.rd (I : Inv X pins σ H s) : ∀ (d : PyData) (v : V) (u : Value), Dq Z H v d → RelV v u → ∃ as, Reads s.heap u d as ∧ sysModules ∉ as
  | .none, _, _, h, r => by
    cases h
    obtain rfl : _ = Value.none := r
    exact ⟨[], .none, List.not_mem_nil⟩
  | .bool b, _, _, h, r => by
    cases h
    obtain rfl : _ = Value.bool b := r
    exact ⟨[], .bool b, List.not_mem_nil⟩
  | .int i, _, _, h, r => by
    cases h
    obtain ⟨t, rfl⟩ := r
    exact ⟨[], .int i t, List.not_mem_nil⟩
  | .str x, _, _, h, r => by
    cases h
    obtain ⟨t, rfl⟩ := r
    exact ⟨[], .str x t, List.not_mem_nil⟩
  | .list ds, _, u, h, r => by
    cases h with
    | @lst a xs _ e z m h =>
      obtain rfl : u = Value.ref a := r
      obtain ⟨_, its, n, rv, ho⟩ : ObjOk X.prog X.w H s.heap a (.lst xs) := I.hok a _ e
      obtain ⟨as, q, nm⟩ := DqL.rd I ds xs its h rv
      exact ⟨a :: as, .list ho (by rfl) (by rfl) q, fun hm => (List.mem_cons.mp hm).elim (fun z => m z.symm) nm⟩
  | .tuple ds, _, u, h, r => by
    cases h with
    | @tup a xs _ e z h =>
      obtain rfl : u = Value.ref a := r
      obtain ⟨_, its, rv, o, ho, hc, n, hd⟩ : ObjOk X.prog X.w H s.heap a (.tup xs) := e.ok I.hok
      obtain ⟨as, q, nm⟩ := DqL.rd I ds xs its h rv
      exact ⟨as, .tuple ho hc hd q, nm⟩
  | .dict kvs, _, u, h, r => by
    cases h with
    | @dct a e z m =>
      obtain rfl : u = Value.ref a := r
      obtain ⟨_, _, vs, kv, o, es, ep, ho, hx, hd, hr⟩ : ObjOk X.prog X.w H s.heap a (.dK []) := I.hok a _ e
      cases kv
      refine ⟨[a], ?_, fun hm => m (List.mem_singleton.mp hm).symm⟩
      have he : es.toList = [] := by
        obtain ⟨_, hp, _⟩ := hr
        cases hl : es.toList with
        | nil => rfl
        | cons x xs =>
          rw [hl] at hp
          cases hp
      exact .dict (as := []) (bs := []) ho hx.1 hd (by rw [he]; exact .nil) (by rw [he]; exact .nil)
theorem DqL.rd (I : Inv X pins σ H s) : ∀ (ds : List PyData) (vs : List V) (us : List Value), DqL Z H vs ds → Vals vs us → ∃ as, ReadsAll s.heap us ds as ∧ sysModules ∉ as
  | [], _, _, h, r => by
    cases h
    cases r
    exact ⟨[], .nil, List.not_mem_nil⟩
  | d :: ds, _, _, h, r => by
    cases h with
    | cons h1 h2 =>
      cases r with
      | cons r1 r2 =>
        obtain ⟨as, q1, n1⟩ := Dq.rd I d _ _ h1 r1
        obtain ⟨bs, q2, n2⟩ := DqL.rd I ds _ _ h2 r2
        exact ⟨as ++ bs, .cons q1 q2, fun hm => (List.mem_append.mp hm).elim n1 n2⟩
end
end

/-! ### repr of a list of data -/
theorem repr_list {prog : Program} {w : World} {A : Around} {E : Value → Shared → Prop} {s : Shared} {Q : Value → Shared → Prop} {a : Addr} {o : Obj} {l : List Value} {n : Nat} {ds : List PyData} {as : List Addr} (ho : s.heap.get? a = some o) (hc : o.cls = .type "list") (hd : o.data = .seq l.toArray n) (r : ReadsAll s.heap l ds as)
    (nm : sysModules ∉ as) (hs : PyData.showableAll ds = true) (hg : A.guards = some []) (hu : A.units + (PyData.depthAll ds + 2) < cLine) (hz : (listText (PyData.shownAll ds)).length ≤ sizeLine)
    (hQ : ∀ h' u tk, (∀ b o, s.heap.get? b = some o → h'.get? b = some o) → Q (.str (listText (PyData.shownAll ds)) u) { s with heap := h', toks := tk }) : wpAny (model prog w) A (call (.builtin "repr") [.ref a]) Q E s := by
  refine call_repr_slot (by omega) (⟨o, ho, hc⟩ : s.TypeIs (.ref a) "list") F.slot_list_repr.toG ?_
  obtain ⟨bs, hb, hk⟩ := ReprAllK.of_readsAll (prog := prog) (w := w) r hs (fun _ => nm) fun t ht => Nat.le_trans (listText_mem_le ht) hz
  have out : a ∉ bs := not_mem_of_deeper (.list ho hc hd r) (by simp only [PyData.depth]; omega) hb
  have unit : A.in1.units + (PyData.depthAll ds + 1) < cLine := by
    show A.units + 1 + (PyData.depthAll ds + 1) < cLine
    omega
  cases l with
  | nil =>
    cases r
    refine call_list_repr_empty ⟨o, ho, hc⟩ ho hd ?_
    have q := fun u tk => hQ s.heap u tk fun _ _ e => e
    simp only [PyData.shownAll, listText_nil] at q
    exact ⟨_, _, rfl, q _ _⟩
  | cons x l =>
    refine call_list_reprK ho hc hd out (by simpa using hk.length_eq) (fun i y e => hk.item i y (by simpa using e)) hg (fun b _ => Clear.nil b) (by first | exact unit | (simpa [PyData.depthAll] using unit)) (fun _ _ e => e) (fun h' u tk k => ⟨_, _, rfl, hQ h' u tk k⟩) hz
/-- repr(x), x a list of data -/
def rRepr : List V → Hp → VK → Prop := fun xs H Q => ∃ (Z : Addr → Prop) (a : Addr) (l : List V) (ds : List PyData), xs = [.ref a] ∧ H a = some (.lst l) ∧ DqL Z H l ds ∧ PyData.showableAll ds = true ∧ PyData.depthAll ds ≤ 60 ∧ (listText (PyData.shownAll ds)).length ≤ 1000000 ∧ Q (.str (listText (PyData.shownAll ds))) H
theorem call_repr {X : Cx} (hg : X.A.guards = some []) (hu : X.A.units + 64 < cLine) : CallR X (.builtin "repr") rRepr := by
  intro pins s σ H xs us Q I r h
  obtain ⟨Z, a, l, ds, rfl, ha, hd, hs, hdp, hl, q⟩ := h
  cases r with
  | cons r1 r2 =>
    cases r2
    obtain rfl : _ = Value.ref a := r1
    obtain ⟨_, its, n, rv, ho⟩ : ObjOk X.prog X.w H s.heap a (.lst l) := I.hok a _ ha
    obtain ⟨as, rd, nm⟩ := DqL.rd I ds l its hd rv
    refine repr_list ho (by rfl) (by rfl) rd nm hs hg (by omega) (by rw [sizeLine_eq]; omega) fun h' u tk k => ?_
    exact ⟨.str _, H, I.kept (h' := h') (t' := tk) k, ⟨u, rfl⟩, q⟩
end KL

namespace KL
open PySem PySem.Spec PyProof.Rows L2

theorem imp {X : Cx} {e : Expr} {t u : TE} (p : PE X e t) (h : ∀ σ H Q, u σ H Q → t σ H Q) : PE X e u := ⟨fun pins s σ H Q I q => p.run pins s σ H Q I (h σ H Q q)⟩
theorem impA {X : Cx} {es : List Expr} {t u : TA} (p : PA X es t) (h : ∀ σ H Q, u σ H Q → t σ H Q) : PA X es u := ⟨fun po pins s σ H Q I q => p.run po pins s σ H Q I (h σ H Q q)⟩

/-- a new list, that is not the table of modules -/
def tLstM (t : TA) : TE := fun σ H Q => t σ H fun xs H1 => xs.length ≤ sizeLine ∧ ∀ p, H1 p = none → p ≠ sysModules → Q (.ref p) (upd H1 p (.lst xs))
theorem pe_lstM {X : Cx} {es : List Expr} {t : TA} {pos : Pos} (h : PA X es t) : PE X (.List es pos) (tLstM t) := by
  refine ⟨fun pins s σ H Q I hq => wpAny_List_spliced (thn (h.run pos pins s σ H _ I hq) fun us s1 ⟨xs, H1, I1, r, z, q⟩ => ⟨r.length ▸ z, ?_⟩)⟩
  have fresh := I1.hok.fresh (Nat.le_refl s1.heap.objs.size)
  have I2 := I1.laid (t' := s1.toks) (a := s1.heap.objs.size) (o := .lst xs) (h' := s1.heap.push { cls := .type "list", data := .seq us.toArray }) (fun b u e => Heap.get?_push_of_some _ e) (Nat.le_refl _) ⟨z, us, 0, r, Heap.get?_push_size _ rfl⟩
  exact ⟨.ref s1.heap.objs.size, _, I2, rfl, q _ fresh (Nat.ne_of_gt I1.big)⟩
def tDctM : TE := fun _ H Q => ∀ p, H p = none → p ≠ sysModules → Q (.ref p) (upd H p (.dK []))
theorem pe_dctM {X : Cx} {pos : Pos} : PE X (.Dict [] [] pos) tDctM := by
  refine ⟨fun pins s σ H Q I hq => wpAny_Dict_empty ?_⟩
  have I2 := I.laid (t' := s.toks) (a := s.heap.objs.size) (o := .dK []) (h' := s.heap.push { cls := .type "dict", data := .dict #[] }) (fun b u e => Heap.get?_push_of_some _ e) (Nat.le_refl _) (dk_empty s.heap I.big)
  exact ⟨.ref s.heap.objs.size, _, I2, rfl, hq _ (I.hok.fresh (Nat.le_refl _)) (Nat.ne_of_gt I.big)⟩

/-- a + b, two lists that may be written to -/
def rCatM : R2 := fun x y H Q => ∃ (l b : Addr) (xs zs : List V), x = .ref l ∧ y = .ref b ∧ H l = some (.lst xs) ∧ H b = some (.lst zs) ∧ xs.length + zs.length ≤ sizeLine ∧ ∀ p, H p = none → p ≠ sysModules → Q (.ref p) (upd H p (.lst (xs ++ zs)))
theorem op_catM {X : Cx} : OpR X (binaryOp .Add) rCatM := by
  intro pins s σ H x y v u Q I rx ry h
  obtain ⟨l, b, xs, zs, rfl, rfl, hl, hb, hz, q⟩ := h
  obtain rfl : v = Value.ref l := rx
  obtain rfl : u = Value.ref b := ry
  obtain ⟨_, i1, n1, r1, _, e1⟩ := I.lstM hl
  obtain ⟨_, i2, n2, r2, _, e2⟩ := I.lstM hb
  have k1 := r1.length
  have k2 := r2.length
  refine PySem.P.add_list e1 e2 ?_ (by rw [List.size_toArray, List.size_toArray]; omega)
  rw [show i1.toArray ++ i2.toArray = (i1 ++ i2).toArray by simp]
  exact ⟨.ref s.heap.objs.size, _, I.lnew (t' := s.toks) (r1.append r2) (by rw [List.length_append]; omega), rfl, q _ (I.hok.fresh (Nat.le_refl _)) (Nat.ne_of_gt I.big)⟩

/-! ### literals -/
mutual
def lit : Nat → Expr → Option PyData
  | 0, _ => none
  | n + 1, e => match e with
    | .Constant .none _ _ => some .none
    | .Constant (.bool b) _ _ => some (.bool b)
    | .Constant (.int i) _ _ => some (.int i)
    | .Constant (.str x) _ _ => some (.str x)
    | .UnaryOp .USub (.Constant (.int i) _ _) _ => some (.int (-i))
    | .BinOp (.Constant (.int i) _ _) .Pow (.Constant (.int j) _ _) _ => if 0 ≤ j ∧ j ≤ 1000000 ∧ i.natAbs < 2 ^ 64 then some (.int (i ^ j.toNat)) else none
    | .Tuple es _ _ => if es.length ≤ 1000 then (litL n es).map .tuple else none
    | .List es _ => if es.length ≤ 1000 then (litL n es).map .list else none
    | .Dict [] [] _ => some (.dict [])
    | _ => none
def litL : Nat → List Expr → Option (List PyData)
  | _, [] => some []
  | 0, _ :: _ => none
  | n + 1, e :: es => match lit n e, litL n es with
    | some d, some ds => some (d :: ds)
    | _, _ => none
end
abbrev tracked (H : Hp) : Addr → Prop := fun b => H b ≠ none
/-- a new value that is the data d; all stands as it stood -/
def tLit (d : PyData) : TE := fun _ H Q => ∀ v G, Kp (fun _ => False) H G → Dq (tracked H) G v d → Q v G
def tLitL (ds : List PyData) : TA := fun _ H Q => ∀ vs G, Kp (fun _ => False) H G → DqL (tracked H) G vs ds → Q vs G
theorem Kp.free {H G : Hp} {p : Addr} (k : Kp (fun _ => False) H G) (n : G p = none) : ¬ tracked H p := fun t => by
  cases q : H p with
  | none => exact t q
  | some o =>
    have := k p o (fun z => z) q
    rw [n] at this
    cases this
theorem Kp.trk {H G : Hp} (k : Kp (fun _ => False) H G) : ∀ b, tracked H b → tracked G b := fun b t n => k.free n t
mutual
inductive Lit : Expr → PyData → Prop
  | non {j : Nat} {pos : Pos} : Lit (.Constant .none j pos) .none
  | bl {b : Bool} {j : Nat} {pos : Pos} : Lit (.Constant (.bool b) j pos) (.bool b)
  | int {i : Int} {j : Nat} {pos : Pos} : Lit (.Constant (.int i) j pos) (.int i)
  | str {x : Str} {j : Nat} {pos : Pos} : Lit (.Constant (.str x) j pos) (.str x)
  | neg {i : Int} {j : Nat} {p pos : Pos} : Lit (.UnaryOp .USub (.Constant (.int i) j p) pos) (.int (-i))
  | pow {i k : Int} {j l : Nat} {p q pos : Pos} (h : 0 ≤ k ∧ k ≤ 1000000 ∧ i.natAbs < 2 ^ 64) : Lit (.BinOp (.Constant (.int i) j p) .Pow (.Constant (.int k) l q) pos) (.int (i ^ k.toNat))
  | tup {es : List Expr} {ds : List PyData} {k : Nat} {pos : Pos} (h : LitL es ds) (z : es.length ≤ 1000) : Lit (.Tuple es k pos) (.tuple ds)
  | lst {es : List Expr} {ds : List PyData} {pos : Pos} (h : LitL es ds) (z : es.length ≤ 1000) : Lit (.List es pos) (.list ds)
  | dct {pos : Pos} : Lit (.Dict [] [] pos) (.dict [])
inductive LitL : List Expr → List PyData → Prop
  | nil : LitL [] []
  | cons {e : Expr} {d : PyData} {es : List Expr} {ds : List PyData} (h : Lit e d) (t : LitL es ds) : LitL (e :: es) (d :: ds)
end
theorem LitL.len : ∀ {es : List Expr} {ds : List PyData}, LitL es ds → ds.length = es.length
  | _, _, .nil => rfl
  | _, _, .cons _ t => congrArg Nat.succ t.len
mutual
theorem lit_ok : ∀ (n : Nat) (e : Expr) (d : PyData), lit n e = some d → Lit e d
  | 0, e, d, h => by unfold lit at h; cases h
  | n + 1, e, d, h => by
    unfold lit at h
    split at h
    · cases h; exact .non
    · cases h; exact .bl
    · cases h; exact .int
    · cases h; exact .str
    · cases h; exact .neg
    · split at h
      · cases h
        exact .pow (by assumption)
      · cases h
    · split at h
      · rename_i z
        obtain ⟨ds, h1, rfl⟩ := Option.map_eq_some_iff.mp h
        exact .tup (litL_ok n _ ds h1) z
      · cases h
    · split at h
      · rename_i z
        obtain ⟨ds, h1, rfl⟩ := Option.map_eq_some_iff.mp h
        exact .lst (litL_ok n _ ds h1) z
      · cases h
    · cases h; exact .dct
    · cases h
theorem litL_ok : ∀ (n : Nat) (es : List Expr) (ds : List PyData), litL n es = some ds → LitL es ds
  | n, [], ds, h => by
    unfold litL at h
    cases h
    exact .nil
  | 0, e :: es, ds, h => by unfold litL at h; cases h
  | n + 1, e :: es, ds, h => by
    unfold litL at h
    split at h
    · rename_i d ds' h1 h2
      cases h
      exact .cons (lit_ok n e d h1) (litL_ok n es ds' h2)
    · cases h
end
section
variable {X : Cx}
theorem Lit.star {e : Expr} {d : PyData} (h : Lit e d) {es : List Expr} {env : Env} : starEach (e :: es) env = (false, eval e env) :: starEach es env := by
  cases h <;> rfl
mutual
theorem pe_lit : ∀ {e : Expr} {d : PyData}, Lit e d → PE X e (tLit d)
  | _, _, .non => imp pe_non fun _ H _ q => q _ H Kp.rfl' .non
  | _, _, .bl => imp pe_bl fun _ H _ q => q _ H Kp.rfl' (.bl _)
  | _, _, .int => imp pe_int fun _ H _ q => q _ H Kp.rfl' (.int _)
  | _, _, .str => imp pe_str fun _ H _ q => q _ H Kp.rfl' (.str _)
  | _, _, .neg => imp (pe_un un_neg pe_int) fun _ H _ q => ⟨_, rfl, q _ H Kp.rfl' (.int _)⟩
  | _, _, .pow h => imp (pe_op op_pow pe_int pe_int) fun _ H _ q => ⟨_, _, rfl, rfl, h, q _ H Kp.rfl' (.int _)⟩
  | _, _, .tup h z => imp (pe_tup (pa_lit h)) fun _ H _ q vs G k dl => ⟨by rw [dl.len, h.len, sizeLine_eq]; omega, fun p n =>
      q _ _ (k.tr (Kp.new n)) (.tup (.inl upd_same) (k.free n) (dl.kp (Kp.new n)))⟩
  | _, _, .lst h z => imp (pe_lstM (pa_lit h)) fun _ H _ q vs G k dl => ⟨by rw [dl.len, h.len, sizeLine_eq]; omega, fun p n m =>
      q _ _ (k.tr (Kp.new n)) (.lst upd_same (k.free n) m (dl.kp (Kp.new n)))⟩
  | _, _, .dct => imp pe_dctM fun _ H _ q p n m => q _ _ (Kp.new n) (.dct upd_same (Kp.free Kp.rfl' n) m)
theorem pa_lit : ∀ {es : List Expr} {ds : List PyData}, LitL es ds → PA X es (tLitL ds)
  | _, _, .nil => impA pa_nil fun _ H _ q => q _ H Kp.rfl' .nil
  | _, _, .cons h t => impA (pa_cons (pe_lit h) (pa_lit t) h.star) fun _ H _ q v G k d vs G2 k2 ds =>
      q _ _ (k.tr k2) (.cons (d.kp (k2.wk fun _ z => z.elim)) (ds.wk fun b => k.trk b))
end
end
end KL

namespace GR
open PySem PySem.Spec PyProof.Rows L2 KL KG
theorem small_of {i n : Nat} (h : i < n - 1) (hl : n ≤ 1000000) {l : List V} (e : l.length = i := by simp) : l.length < sizeLine := by
  rw [sizeLine_eq]
  omega
def topS (i : Nat) : Stmt := PySem.Challenge.pw_causaleffects_k02_whole_graphs_and_lots.main.body.getD i (.Pass ⟨0, 0, 0, 0⟩)
/-! ### t < u, two tuples of whole numbers -/
def ltT (ns ms : List Int) : Bool := Ob.lexAt (fun j => decide (ns.getD j 0 = ms.getD j 0)) (fun j => decide (ns.getD j 0 < ms.getD j 0)) (decide (ns.length < ms.length)) 0 (min ns.length ms.length)
def rLtT (K : PySem.W.Frag) : R2 := fun x y H Q => ∃ (a b : Addr) (ns ms : List Int), x = .ref a ∧ y = .ref b ∧ SqT K H a (ns.map V.int) ∧ SqT K H b (ms.map V.int) ∧ Q (.bl (ltT ns ms)) H
theorem op_ltT {X : Cx} (hu : X.A.units < cLine) : OpR X (compareOp .Lt) (rLtT X.K) := by
  intro pins s σ H x y v u Q I rx ry h
  obtain ⟨a, b, ns, ms, rfl, rfl, ha, hb, q⟩ := h
  cases rx
  cases ry
  obtain ⟨its, r1, p1, _⟩ := I.tuple ha
  obtain ⟨its2, r2, p2, _⟩ := I.tuple hb
  have i1 : IntsAre its ns := Vals.ints r1
  have i2 : IntsAre its2 ms := Vals.ints r2
  have e1 : its.toArray.size = ns.length := by rw [List.size_toArray]; exact i1.length
  have e2 : its2.toArray.size = ms.length := by rw [List.size_toArray]; exact i2.length
  have at1 : ∀ j (h1 : j < its.toArray.size), ∃ t, its.toArray[j] = .int (ns.getD j 0) t := fun j h1 => PyProof.Rows.IntsAre.int_at i1 _ _ (by simp at h1; simp [h1])
  have at2 : ∀ j (h1 : j < its2.toArray.size), ∃ t, its2.toArray[j] = .int (ms.getD j 0) t := fun j h1 => PyProof.Rows.IntsAre.int_at i2 _ _ (by simp at h1; simp [h1])
  have R := Ob.RcOp.tuples_lt (A := X.A) (s := s) (e := fun j => decide (ns.getD j 0 = ms.getD j 0)) (r := fun j => decide (ns.getD j 0 < ms.getD j 0)) p1 p2 hu (fun j h1 h2 => by
    obtain ⟨t, et⟩ := at1 j h1
    obtain ⟨t', et'⟩ := at2 j h2
    rw [et, et']
    have z : (ns.getD j 0 == ms.getD j 0) = decide (ns.getD j 0 = ms.getD j 0) := by
      by_cases q : ns.getD j 0 = ms.getD j 0
      · rw [decide_eq_true q]; exact beq_iff_eq.mpr q
      · rw [decide_eq_false q]; exact beq_eq_false_iff_ne.mpr q
    rw [← z]
    exact SeqAt.EqAt.int_int _ _ _ _) (fun j h1 h2 _ => by
    obtain ⟨t, et⟩ := at1 j h1
    obtain ⟨t', et'⟩ := at2 j h2
    rw [et, et']
    exact Ob.RcOp.lt_int _ _ _ _)
  rw [e1, e2] at R
  have z : wpAny (model X.prog X.w) X.A (compareOp .Lt (.ref a) (.ref b)) (EP X pins σ Q) X.xe s := R X.prog X.w X.xe (EP X pins σ Q) ⟨.bl _, H, I, rfl, q⟩
  exact z
/-! ### ascends -/
abbrev sAsc : Stmt := topS 21
theorem scAsc : FnScope ["row", "at"] ["row"] (defScope sAsc) := ⟨rfl, rfl, rfl, by decide +kernel, rfl, by decide +kernel, by decide +kernel⟩
/-- x < y is b -/
def LtV (H : Hp) (x y : V) (b : Bool) : Prop := (∃ i j : Int, x = .int i ∧ y = .int j ∧ b = decide (i < j)) ∨ ∃ (p q : Addr) (ns ms : List Int), x = .ref p ∧ y = .ref q ∧ Rd H p (.tup (ns.map V.int)) ∧ Rd H q (.tup (ms.map V.int)) ∧ b = ltT ns ms
theorem LtV.kp {Z : Addr → Prop} {H G : Hp} {x y : V} {b : Bool} (h : LtV H x y b) (k : Kp Z H G) (n : ∀ p, (x = .ref p ∨ y = .ref p) → ¬ Z p) : LtV G x y b := by
  rcases h with h | ⟨p, q, ns, ms, rfl, rfl, e1, e2, e3⟩
  · exact .inl h
  · exact .inr ⟨p, q, ns, ms, rfl, rfl, rd_kp k (n p (.inl rfl)) e1, rd_kp k (n q (.inr rfl)) e2, e3⟩
def spAsc : Sp := fun vs H Q _ => ∃ (a : Addr) (xs : List V) (lt : Nat → Bool), vs = [.ref a] ∧ Rd H a (.tup xs) ∧ xs.length ≤ 1000000 ∧ (∀ i x y, xs[i]? = some x → xs[i + 1]? = some y → LtV H x y (lt i)) ∧ ∀ G, Kp (fun _ => False) H G → Q (.bl ((List.range (xs.length - 1)).all lt)) G
section
variable {P : Program} {w : World} {K : PySem.W.Frag} {mg : Str → Option Value} {base : Heap}
theorem tyes {σ : L2.St} {H : Hp} {A A' : Hp → Prop} (h : A H) : tYes σ H (fun b G => if b = true then A G else A' G) := by
  show (if true = true then A H else A' H)
  rw [if_pos rfl]
  exact h
theorem ok_asc {f : Addr} {fd : FuncData} (F : Fun K "ascends" "ascends" sAsc f fd) (ma : mg "all" = none) (mr : mg "range" = none) (ml : mg "len" = none) : FnOk P w K mg base CX0 1 f fd ["row"] spAsc := by
  refine F.ok scAsc (fun vs H Q E h => ?_) (fun cdv A outer s H vs Q E hr h => ?_)
  · obtain ⟨a, xs, lt, rfl, _⟩ := h
    rfl
  · obtain ⟨a, xs, lt, rfl, ha, hl, hlt, q⟩ := h
    refine ⟨_, pss_one (ps_ret (pe_callB (cr_all rfl) (by rfl) ma (by decide +kernel) (pa_cons
      (pe_lc (own := [("at", 1)]) (g := gName 1) (tt := tYes) rfl scAsc.nd (pi_range1 (by rfl) mr (pa_cons (pe_op op_sub (pe_callB call_len_seq (by rfl) ml PySem.boot_len (pa_cons (pv 0) pa_nil)) pe_int) pa_nil))
        (blkOk_by (N := ["row", "at"]) (sc := defScope sAsc) (by decide +kernel)) (fun _ _ _ _ _ => pg_name (i := 1) scAsc.nd rfl (Or.inl rfl)) (fun _ _ _ _ _ => pts_nil)
        (fun _ _ _ _ _ => pe_cmpR (op_lt.or (show OpR _ _ (rLtT K) from op_ltT hr.units0)) (pe_ix (show IxR _ (rIxT K) from ix_tup) (pv 0) (pv 1) (fun _ _ => rfl)) (pe_ix (show IxR _ (rIxT K) from ix_tup) (pv 0) (pe_op op_add (pv 1) pe_int) (fun _ _ => rfl)) (nomark _))) pa_nil))), ?_⟩
    refine ⟨.ref a, rfl, a, xs, rfl, .inr (.inl ha), (xs.length : Int), 1, rfl, rfl, ?_⟩
    refine ⟨_, rfl, by omega, by omega, fun D nD => ?_⟩
    have hn : ((xs.length : Int) - 1).toNat = xs.length - 1 := by omega
    refine lc_range (lo := 0) (fun i J => J D = some (.lst (((List.range i).map lt).map V.bl)) ∧ Kp (fun _ => False) H J) ⟨upd_same, Kp.new nD⟩ ?_ ?_
    · rintro i J hi ⟨eJ, kJ⟩
      rw [hn] at hi
      refine ⟨rfl, tyes ?_⟩
      have h1 : i < xs.length := by omega
      have h2 : i + 1 < xs.length := by omega
      have e1 : xs[i]? = some xs[i] := List.getElem?_eq_getElem h1
      have e2 : xs[i + 1]? = some xs[i + 1] := List.getElem?_eq_getElem h2
      have haJ : Rd J a (.tup xs) := rd_kp kJ (fun z => z) ha
      have L := (hlt i _ _ e1 e2).kp kJ fun _ _ z => z
      have fin : J D = some (.lst (((List.range i).map lt).map V.bl)) → upd J D (.lst (((List.range i).map lt).map V.bl ++ [.bl (lt i)])) D = some (.lst (((List.range (i + 1)).map lt).map V.bl)) ∧ Kp (fun _ => False) H (upd J D (.lst (((List.range i).map lt).map V.bl ++ [.bl (lt i)]))) := fun _ => by
        refine ⟨by rw [upd_same, List.range_succ, List.map_append, List.map_append]; rfl, fun b o z e => ?_⟩
        rw [upd_ne (ne_of_none e nD)]
        exact kJ b o z e
      refine ⟨.ref a, rfl, .int (0 + (i : Int)), rfl, a, xs, (0 + (i : Int)), xs[i], rfl, rfl, .inl haJ, (by rw [Int.zero_add]; exact atI_nat e1), .ref a, rfl, .int (0 + (i : Int)), rfl, 0 + (i : Int), 1, rfl, rfl, a, xs, (0 + (i : Int) + 1), xs[i + 1], rfl, rfl, .inl haJ, (by rw [Int.zero_add]; exact atI_nat (j := i + 1) e2), ?_⟩
      rcases L with ⟨p, r, x1, x2, eb⟩ | ⟨p, r, ns, ms, x1, x2, y1, y2, eb⟩
      · refine .inl ⟨p, r, x1, x2, _, eJ, small_of hi hl, ?_⟩
        have z := fin eJ
        rw [eb] at z
        exact z
      · refine .inr ⟨p, r, ns, ms, x1, x2, .inl y1, .inl y2, _, eJ, small_of hi hl, ?_⟩
        have z := fin eJ
        rw [eb] at z
        exact z
    · rintro J ⟨eJ, kJ⟩
      rw [hn] at eJ
      refine ⟨D, (List.range (xs.length - 1)).map lt, rfl, .inl (.inl eJ), ?_⟩
      have e : ((List.range (xs.length - 1)).map lt).all id = (List.range (xs.length - 1)).all lt := by
        rw [List.all_map]
        rfl
      rw [e]
      exact q J kJ
end
end GR

namespace KG
open PySem PySem.Spec PyProof.Rows L2 KL
/-- the turns over a tuple that the elements leave as it is -/
theorem turns_tup {K : PySem.W.Frag} {a : Addr} {xs : List V} {g : TG} {tt : TT} {te : TE} {vs : List Nat} {σ : L2.St} {H1 : Hp} {QT : Hp → Prop} {Yp : V → Hp → (Hp → Prop) → Prop} (Pv : Nat → Hp → Prop) (h0 : Pv 0 H1) (hl : ∀ i H, i ≤ xs.length → Pv i H → SqT K H a xs)
    (hs : ∀ i x H, xs[i]? = some x → Pv i H → g x (wipe σ vs) H fun σ2 H2 => wipe σ2 vs = wipe σ vs ∧ tt σ2 H2 fun b H3 => if b = true then te σ2 H3 fun y H4 => Yp y H4 (Pv (i + 1)) else Pv (i + 1) H3) (hd : ∀ H, Pv xs.length H → QT H) :
    ∃ W : Nat → Nat → Hp → Prop, (∃ m, W 0 m H1) ∧ Turns (Itt K a) g tt te vs σ QT Yp W := by
  refine ⟨fun i m H => m = xs.length - i ∧ i ≤ xs.length ∧ Pv i H, ⟨xs.length, rfl, Nat.zero_le _, h0⟩, ?_⟩
  rintro i m H ⟨rfl, hi, p⟩
  have q := hl i H hi p
  by_cases hlt : i < xs.length
  · refine .inr ⟨⟨xs, xs[i], q, by simp [hlt]⟩, Pv (i + 1), fun H' p' => ⟨xs.length - (i + 1), by omega, rfl, hlt, p'⟩, fun x H' y => ?_⟩
    obtain ⟨e, y⟩ := y
    subst e
    exact hs i x _ (y xs q) p
  · have e : i = xs.length := by omega
    subst e
    exact .inl ⟨⟨xs, q, Nat.le_refl _⟩, hd H p⟩
/-- a def of the text as it stands behind the top, its code object known -/
structure FunC (K : PySem.W.Frag) (x qual : Str) (st : Stmt) (f : Addr) (fd : FuncData) (c : Addr) : Prop where
  ex : ∃ (oc : Value) (od : Option Addr) (kV doc pm : Value) (an : Option Addr) (ct : Value) (osl : Array (Option Value)),
    fd = PySem.W.fnOf x qual (defArgs st) (defBody st) (defScope st) .none kV doc pm an (.ref c) ct ∧ K.lookup f = some ⟨oc, od, .func fd, osl⟩ ∧ PySem.W.codeIn K (.ref c) qual = true
  kp : PySem.W.keepIn K (.ref f) = true
theorem FunC.fn {K : PySem.W.Frag} {x qual : Str} {st : Stmt} {f : Addr} {fd : FuncData} {c : Addr} (F : FunC K x qual st f fd c) : Fun K x qual st f fd := by
  obtain ⟨oc, od, kV, doc, pm, an, ct, osl, h1, h2, h3⟩ := F.ex
  exact ⟨⟨oc, od, kV, doc, pm, an, .ref c, ct, osl, h1, h2, h3⟩, F.kp⟩
theorem FunC.ok {P : Program} {w : World} {K : PySem.W.Frag} {mg : Str → Option Value} {base : Heap} {x qual : Str} {st : Stmt} {f : Addr} {fd : FuncData} {c : Addr} {N ps : List Str} {k : Nat} {sp : Sp} (F : FunC K x qual st f fd c) (S : FnScope N ps (defScope st)) (len : ∀ vs H Q E, sp vs H Q E → vs.length = ps.length)
    (hbody : ∀ (A : Around) (outer : List Env) (s : Shared) (H : Hp) (vs : List V) (Q : VK) (E : XK), Room k (A.deeper (envOfC qual (defScope st) s.heap.objs.size f (.ref c))) → sp vs H Q E →
      ∃ t, PSs (cxOf CX0 P w K mg base N qual (defScope st) f (.ref c) A outer s H E).nox (defBody st) t ∧ t { nx := fun _ H' => Q .non H', rt := Q } (start N vs) H) : FnOk P w K mg base CX0 (k + 1) f fd ps sp := by
  obtain ⟨oc, od, kV, doc, pm, an, ct, osl, rfl, lk, hcd⟩ := F.ex
  refine fn_of lk hcd S len fun A outer s H vs Q E hr hsp => ?_
  obtain ⟨t, h, q⟩ := hbody A outer s H vs Q E hr hsp
  exact ⟨t, h.nox, q⟩
/-- the tables ts of code objects stand -/
def Tb (ts : List Addr) (H : Hp) : Prop := ∀ P ∈ ts, GxR.TabG H P
/-- nothing but these tables has changed -/
def Ms (ts : List Addr) (H G : Hp) : Prop := Kp (fun b => b ∈ ts) H G ∧ Tb ts G
theorem Ms.rfl' {ts : List Addr} {H : Hp} (t : Tb ts H) : Ms ts H H := ⟨Kp.rfl', t⟩
theorem Ms.tr {ts : List Addr} {H G J : Hp} (a : Ms ts H G) (b : Ms ts G J) : Ms ts H J := ⟨a.1.tr b.1, b.2⟩
theorem Tb.kp {ts : List Addr} {H G : Hp} (t : Tb ts H) (k : Kp (fun _ => False) H G) : Tb ts G := fun P hP => by
  obtain ⟨ps, e, h⟩ := t P hP
  exact ⟨ps, k _ _ (fun z => z) e, h⟩
theorem Ms.kp {ts : List Addr} {H G J : Hp} (a : Ms ts H G) (k : Kp (fun _ => False) G J) : Ms ts H J := ⟨a.1.tr (k.wk fun _ z => z.elim), a.2.kp k⟩
theorem Tb.tabbed {ts : List Addr} {H G : Hp} {P : Addr} (t : Tb ts H) (h : GxR.Tabbed P H G) (hP : P ∈ ts) : Ms ts H G := by
  refine ⟨fun b o nb e => ?_, fun Q hQ => ?_⟩
  · have : b ≠ P := fun z => nb (z ▸ hP)
    rw [h.2 b this]
    exact e
  · by_cases z : Q = P
    · rw [z]
      exact h.1
    · obtain ⟨ps, e, r⟩ := t Q hQ
      exact ⟨ps, by rw [h.2 Q z]; exact e, r⟩
theorem Ms.new {ts : List Addr} {H G : Hp} {p : Addr} {o : HO} (a : Ms ts H G) (n : G p = none) : Ms ts H (upd G p o) := a.kp (Kp.new n)
end KG
namespace GR
open PySem PySem.Spec PyProof.Rows L2 KL KG
/-! ### is_lot -/
abbrev sLot : Stmt := topS 20
theorem scLot : FnScope ["count", "value", "one"] ["count", "value"] (defScope sLot) := ⟨rfl, rfl, rfl, by decide +kernel, rfl, by decide +kernel, by decide +kernel⟩
def inB (c : Int) : PyData → Bool
  | .int i => decide (0 ≤ i) && decide (i < c)
  | _ => false
def valI : PyData → Int
  | .int i => i
  | _ => 0
def ascL (ns : List Int) : Bool := (List.range (ns.length - 1)).all fun i => decide (ns.getD i 0 < ns.getD (i + 1) 0)
def isLotD (c : Int) : PyData → Bool
  | .tuple ds => ds.all (inB c) && ascL (ds.map valI)
  | _ => false
/-- no list, tuple of it is too long for a range -/
def LenOk : PyData → Prop
  | .tuple ds => ds.length ≤ 1000000
  | .str x => x.length ≤ 1000000
  | _ => True
/-- the type of data -/
def tyD : PyData → String
  | .none => "NoneType"
  | .bool _ => "bool"
  | .int _ => "int"
  | .str _ => "str"
  | .list _ => "list"
  | .tuple _ => "tuple"
  | .dict _ => "dict"
theorem dq_ty {K : PySem.W.Frag} {Z : Addr → Prop} {H : Hp} {v : V} {d : PyData} (h : Dq Z H v d) : TyB K H v (tyD d) := by
  cases h with
  | non => exact .non
  | bl b => exact .bl b
  | int i => exact .int i
  | str x => exact .str x
  | lst e z m h => exact .lst (.inl (.inl e))
  | tup e z h => exact .tup (.inl e)
  | dct e z m => exact .dK e
theorem dql_int {Z : Addr → Prop} {H : Hp} {c : Int} : ∀ {xs : List V} {ds : List PyData}, DqL Z H xs ds → ds.all (inB c) = true → xs = (ds.map valI).map V.int
  | _, _, .nil, _ => rfl
  | _, _, .cons h t, e => by
    rw [List.all_cons, Bool.and_eq_true] at e
    have r := dql_int t e.2
    cases h with
    | int i => rw [r]; rfl
    | _ => exact absurd e.1 Bool.false_ne_true
def spLot (ts : List Addr) : Sp := fun vs H Q _ => ∃ (c : Int) (v : V) (d : PyData) (Z : Addr → Prop), vs = [.int c, v] ∧ (∀ b ∈ ts, Z b) ∧ Tb ts H ∧ Dq Z H v d ∧ LenOk d ∧ ∀ G, Ms ts H G → Q (.bl (isLotD c d)) G
section
variable {P : Program} {w : World} {K : PySem.W.Frag} {mg : Str → Option Value} {base : Heap}
theorem rt (n : String) : RelV (.ty n) (Value.type n) := rfl
theorem ok_lot {f fA c T : Addr} {fd fdA : FuncData} {ts : List Addr} (F : FunC K "is_lot" "is_lot" sLot f fd c) (TB : GxR.TabB base mg c T) (hT : T ∈ ts) (FA : Fun K "ascends" "ascends" sAsc fA fdA) (gA : mg "ascends" = some (.ref fA)) (bA : L2.Binds K fdA ["row"] [])
    (ma : mg "all" = none) (mr : mg "range" = none) (ml : mg "len" = none) (my : mg "type" = none) (mt : mg "tuple" = none) (mi : mg "int" = none) : FnOk P w K mg base CX0 4 f fd ["count", "value"] (spLot ts) := by
  have GA : FnOk P w K mg base CX0 1 fA fdA ["row"] spAsc := ok_asc FA ma mr ml
  refine F.ok (k := 3) scLot (fun vs H Q E h => ?_) (fun A outer s H vs Q E hr h => ?_)
  · obtain ⟨c, v, d, Z, rfl, _⟩ := h
    rfl
  · obtain ⟨n, v, d, Z, rfl, hZ, tb, dq, hl, q⟩ := h
    refine ⟨_, pss_cons (ps_if (pt_cmpR op_isNotTy (pe_callTy call_type1 (by rfl) my (by decide +kernel) (pa_cons (pv 1) pa_nil)) (pe_bltn (u := .type "tuple") (by rfl) mt (by decide +kernel) (rt "tuple")) (nomark _)) (pss_one (ps_ret pe_bl)) pss_nil)
      (pss_one (ps_ret (pe_and (pe_allG (k := 0) (own := [("one", 2)]) (g := gName 2) (tt := tYes) hr (by rfl) ma (by decide +kernel) TB rfl scLot.nd rfl (by decide +kernel) (by rfl)
          (blkOk_by (N := ["count", "value", "one"]) (sc := defScope sLot) (by decide +kernel)) (pi_tup (pv 1)) (fun _ _ _ _ _ _ _ _ => pg_name (i := 2) scLot.nd rfl (Or.inl rfl)) (fun _ _ _ _ _ _ _ _ => pts_nil)
          (fun _ _ _ _ _ _ _ _ => pe_and (pe_cmpR op_isTy (pe_callTy (show CallR _ _ (rTyp K) from call_type1) (by rfl) my (by decide +kernel) (pa_cons (pv 2) pa_nil)) (pe_bltn (u := .type "int") (by rfl) mi (by decide +kernel) (rt "int")) (nomark _)) (pe_one (pe_chain op_le op_lt pe_int (pv 2) (pv 0)))) (fun _ => rfl))
        (pe_one (pe_call GA (hr.mono (by decide)) (by rfl) gA FA.kp bA .nil pass0 (pa_cons (pv 1) pa_nil)))))), ?_⟩
    have ifte : ∀ {A B : Prop} {c : Bool}, (c = true → A) → (c = false → B) → (if c = true then A else B) := fun {A B c} h1 h2 => by
      cases c with
      | true => exact (if_pos rfl).mpr (h1 rfl)
      | false => exact (if_neg Bool.false_ne_true).mpr (h2 rfl)
    refine ⟨v, rfl, v, tyD d, rfl, dq_ty dq, tyD d, "tuple", rfl, rfl, _, rfl, ite2 (fun c => ?_) (fun c => ?_)⟩
    · have e : isLotD n d = false := by
        cases d with
        | tuple ds => simp [tyD] at c
        | _ => rfl
      have z := q H (Ms.rfl' tb)
      rw [e] at z
      exact z
    · obtain ⟨ds, rfl⟩ : ∃ ds, d = .tuple ds := by
        cases d with
        | tuple ds => exact ⟨ds, rfl⟩
        | _ => simp [tyD] at c
      obtain ⟨a, xs, rfl, ea, za, L⟩ : ∃ a xs, v = .ref a ∧ Rd H a (.tup xs) ∧ ¬ Z a ∧ DqL Z H xs ds := by
        cases dq with
        | tup e z h => exact ⟨_, _, rfl, e, z, h⟩
      have stay : ∀ {J : Hp}, Ms ts H J → Rd J a (.tup xs) := fun ms => rd_kp ms.1 (fun z => za (hZ _ z)) ea
      have no : ∀ {J : Hp}, Ms ts H J → ds.all (inB n) = false → Q (.bl false) J := fun {J} ms e => by
        have z := q J ms
        rw [show isLotD n (.tuple ds) = (ds.all (inB n) && ascL (ds.map valI)) from rfl, e] at z
        exact z
      refine ⟨.ref a, rfl, a, rfl, ⟨xs, .inl ea⟩, tb T hT, fun H2 h2 => ?_⟩
      refine turns_tup (K := K) (a := a) (xs := xs) (fun i J => Ms ts H J ∧ (ds.take i).all (inB n) = true) ⟨tb.tabbed h2 hT, rfl⟩ (fun i J _ h => .inl (stay h.1)) ?_ ?_
      · rintro i x J hx ⟨ms, hall⟩
        obtain ⟨di, hdi, dqi⟩ := L.get hx
        have dqj : Dq Z J x di := dqi.kp (ms.1.wk hZ)
        have next : inB n di = true → (ds.take (i + 1)).all (inB n) = true := fun e => by
          rw [List.take_add_one, hdi, List.all_append, hall]
          simp [e]
        have bad : inB n di = false → ds.all (inB n) = false := fun e => by
          rw [List.all_eq_false]
          exact ⟨di, List.mem_of_getElem? hdi, by rw [e]; exact Bool.false_ne_true⟩
        refine ⟨rfl, tyes ?_⟩
        refine ⟨x, rfl, x, tyD di, rfl, dq_ty dqj, tyD di, "int", rfl, rfl, _, rfl, ifte (fun c1 => ?_) (fun c1 => ?_)⟩
        · obtain ⟨k, rfl⟩ : ∃ k, di = .int k := by
            cases di with
            | int k => exact ⟨k, rfl⟩
            | _ => simp [tyD] at c1
          cases dqj
          have ib : inB n (.int k) = (decide (0 ≤ k) && decide (k < n)) := rfl
          refine ⟨.int k, rfl, 0, k, rfl, rfl, _, rfl, ifte (fun c2 => ?_) (fun c2 => ?_)⟩
          · refine ⟨.int n, rfl, k, n, rfl, rfl, _, rfl, ifte (fun c3 => ⟨ms, next ?_⟩) (fun c3 => ⟨false, rfl, iteF (no ms (bad ?_))⟩)⟩
            · rw [ib, c2, c3]
              rfl
            · rw [ib, c3, Bool.and_false]
          · refine ⟨_, rfl, iteF ⟨false, rfl, iteF (no ms (bad ?_))⟩⟩
            rw [ib, c2, Bool.false_and]
        · refine ⟨_, rfl, iteF ⟨false, rfl, iteF (no ms (bad ?_))⟩⟩
          cases di with
          | int k => simp [tyD] at c1
          | _ => rfl
      · rintro J ⟨ms, hall⟩
        rw [L.len, List.take_length] at hall
        have ex := dql_int L hall
        refine ⟨true, rfl, iteT ⟨.ref a, rfl, a, xs, fun i => decide ((ds.map valI).getD i 0 < (ds.map valI).getD (i + 1) 0), rfl, stay ms, by rw [L.len]; exact hl, fun i x y h1 h2 => ?_, fun G kG => ?_⟩⟩
        · rw [ex, List.getElem?_map] at h1 h2
          obtain ⟨p, hp, rfl⟩ := Option.map_eq_some_iff.mp h1
          obtain ⟨r, hr', rfl⟩ := Option.map_eq_some_iff.mp h2
          refine .inl ⟨p, r, rfl, rfl, ?_⟩
          show decide ((ds.map valI).getD i 0 < (ds.map valI).getD (i + 1) 0) = decide (p < r)
          rw [List.getD_eq_getElem?_getD, List.getD_eq_getElem?_getD, hp, hr']
          rfl
        · have z := q G (ms.kp kG)
          rw [show isLotD n (.tuple ds) = (ds.all (inB n) && ascL (ds.map valI)) from rfl, hall, Bool.true_and] at z
          unfold ascL at z
          rw [show xs.length = (ds.map valI).length by rw [List.length_map, L.len]]
          exact z
end
end GR

namespace GR
open PySem PySem.Spec PyProof.Rows L2 KL KG
abbrev sArr : Stmt := topS 23
abbrev sHid : Stmt := topS 24
theorem scArr : FnScope ["count", "value", "one"] ["count", "value"] (defScope sArr) := ⟨rfl, rfl, rfl, by decide +kernel, rfl, by decide +kernel, by decide +kernel⟩
theorem scHid : FnScope ["count", "value", "one"] ["count", "value"] (defScope sHid) := ⟨rfl, rfl, rfl, by decide +kernel, rfl, by decide +kernel, by decide +kernel⟩
def lenD : PyData → Nat
  | .tuple ds => ds.length
  | _ => 0
def rowD : PyData → List Int
  | .tuple ds => ds.map valI
  | _ => []
def ascR (rows : List (List Int)) : Bool := (List.range (rows.length - 1)).all fun i => ltT (rows.getD i []) (rows.getD (i + 1) [])
def isArrD (c : Int) : PyData → Bool
  | .tuple ds => ds.all (fun e => isLotD c e && decide (lenD e = 2)) && ascR (ds.map rowD)
  | _ => false
def isHidD (c : Int) : PyData → Bool
  | .tuple ds => decide (ds.length ≤ 28) && (ds.all (fun e => isLotD c e && decide (2 ≤ lenD e)) && ascR (ds.map rowD))
  | _ => false
/-- the tuples within, down to a depth, are not too long -/
def LenD : Nat → PyData → Prop
  | 0, d => LenOk d
  | n + 1, d => LenOk d ∧ ∀ ds, d = .tuple ds → ∀ e ∈ ds, LenD n e
theorem LenD.ok : ∀ {n : Nat} {d : PyData}, LenD n d → LenOk d
  | 0, _, h => h
  | _ + 1, _, h => h.1
theorem lot_tup {Z : Addr → Prop} {H : Hp} {c : Int} {v : V} {d : PyData} (h : Dq Z H v d) (e : isLotD c d = true) : ∃ a, v = .ref a ∧ Rd H a (.tup ((rowD d).map V.int)) ∧ ¬ Z a ∧ lenD d = (rowD d).length := by
  cases h with
  | @tup a xs ds e1 z L =>
    have e2 : (ds.all (inB c) && ascL (ds.map valI)) = true := e
    rw [Bool.and_eq_true] at e2
    refine ⟨a, rfl, ?_, z, by show ds.length = (ds.map valI).length; rw [List.length_map]⟩
    show Rd H a (.tup ((ds.map valI).map V.int))
    rw [← dql_int L e2.1]
    exact e1
  | _ => exact absurd e Bool.false_ne_true
def spArr (ts : List Addr) : Sp := fun vs H Q _ => ∃ (c : Int) (v : V) (d : PyData) (Z : Addr → Prop), vs = [.int c, v] ∧ (∀ b ∈ ts, Z b) ∧ Tb ts H ∧ Dq Z H v d ∧ LenD 1 d ∧ ∀ G, Ms ts H G → Q (.bl (isArrD c d)) G
def spHid (ts : List Addr) : Sp := fun vs H Q _ => ∃ (c : Int) (v : V) (d : PyData) (Z : Addr → Prop), vs = [.int c, v] ∧ (∀ b ∈ ts, Z b) ∧ Tb ts H ∧ Dq Z H v d ∧ LenD 1 d ∧ ∀ G, Ms ts H G → Q (.bl (isHidD c d)) G
theorem ifte {A B : Prop} {c : Bool} (h1 : c = true → A) (h2 : c = false → B) : (if c = true then A else B) := by
  cases c with
  | true => exact (if_pos rfl).mpr (h1 rfl)
  | false => exact (if_neg Bool.false_ne_true).mpr (h2 rfl)
/-- the names that these defs read -/
structure Nm (mg : Str → Option Value) : Prop where
  all : mg "all" = none
  rng : mg "range" = none
  len : mg "len" = none
  typ : mg "type" = none
  tup : mg "tuple" = none
  int : mg "int" = none
  str : mg "str" = none
  set : mg "set" = none
/-- is_lot, ascends -/
structure Lo (K : PySem.W.Frag) (mg : Str → Option Value) (base : Heap) (ts : List Addr) (fL fA cL TL : Addr) (fdL fdA : FuncData) : Prop where
  L : FunC K "is_lot" "is_lot" sLot fL fdL cL
  tL : GxR.TabB base mg cL TL
  mL : TL ∈ ts
  gL : mg "is_lot" = some (.ref fL)
  bL : L2.Binds K fdL ["count", "value"] []
  A : Fun K "ascends" "ascends" sAsc fA fdA
  gA : mg "ascends" = some (.ref fA)
  bA : L2.Binds K fdA ["row"] []
section
variable {P : Program} {w : World} {K : PySem.W.Frag} {mg : Str → Option Value} {base : Heap} {ts : List Addr} {fL fA cL TL : Addr} {fdL fdA : FuncData}
theorem Lo.ok (S : Lo K mg base ts fL fA cL TL fdL fdA) (N : Nm mg) : FnOk P w K mg base CX0 4 fL fdL ["count", "value"] (spLot ts) := ok_lot S.L S.tL S.mL S.A S.gA S.bA N.all N.rng N.len N.typ N.tup N.int
theorem asc_rows {H : Hp} {Z : Addr → Prop} {c : Int} {p : PyData → Bool} {xs : List V} {ds : List PyData} (L : DqL Z H xs ds) (h : ds.all (fun e => isLotD c e && p e) = true) (i : Nat) (x y : V) (h1 : xs[i]? = some x) (h2 : xs[i + 1]? = some y) : LtV H x y (ltT ((ds.map rowD).getD i []) ((ds.map rowD).getD (i + 1) [])) := by
  obtain ⟨d1, e1, q1⟩ := L.get h1
  obtain ⟨d2, e2, q2⟩ := L.get h2
  have all := List.all_eq_true.mp h
  have l1 := all d1 (List.mem_of_getElem? e1)
  have l2 := all d2 (List.mem_of_getElem? e2)
  rw [Bool.and_eq_true] at l1 l2
  obtain ⟨a1, rfl, g1, _⟩ := lot_tup q1 l1.1
  obtain ⟨a2, rfl, g2, _⟩ := lot_tup q2 l2.1
  refine .inr ⟨a1, a2, rowD d1, rowD d2, rfl, rfl, g1, g2, ?_⟩
  rw [List.getD_eq_getElem?_getD, List.getD_eq_getElem?_getD, List.getElem?_map, List.getElem?_map, e1, e2]
  rfl
theorem ok_arr {f c T : Addr} {fd : FuncData} (F : FunC K "are_arrows" "are_arrows" sArr f fd c) (TB : GxR.TabB base mg c T) (hT : T ∈ ts) (S : Lo K mg base ts fL fA cL TL fdL fdA) (N : Nm mg) : FnOk P w K mg base CX0 8 f fd ["count", "value"] (spArr ts) := by
  have GA : FnOk P w K mg base CX0 1 fA fdA ["row"] spAsc := ok_asc S.A N.all N.rng N.len
  have GL : FnOk P w K mg base CX0 4 fL fdL ["count", "value"] (spLot ts) := S.ok N
  refine F.ok (k := 7) scArr (fun vs H Q E h => ?_) (fun A outer s H vs Q E hr h => ?_)
  · obtain ⟨c, v, d, Z, rfl, _⟩ := h
    rfl
  · obtain ⟨n, v, d, Z, rfl, hZ, tb, dq, hl, q⟩ := h
    refine ⟨_, pss_cons (ps_if (pt_cmpR op_isNotTy (pe_callTy call_type1 (by rfl) N.typ (by decide +kernel) (pa_cons (pv 1) pa_nil)) (pe_bltn (u := .type "tuple") (by rfl) N.tup (by decide +kernel) (rt "tuple")) (nomark _)) (pss_one (ps_ret pe_bl)) pss_nil)
      (pss_one (ps_ret (pe_and (pe_allG (k := 4) (own := [("one", 2)]) (g := gName 2) (tt := tYes) hr (by rfl) N.all (by decide +kernel) TB rfl scArr.nd rfl (by decide +kernel) (by rfl)
          (blkOk_by (N := ["count", "value", "one"]) (sc := defScope sArr) (by decide +kernel)) (pi_tup (pv 1)) (fun _ _ _ _ _ _ _ _ => pg_name (i := 2) scArr.nd rfl (Or.inl rfl)) (fun _ _ _ _ _ _ _ _ => pts_nil)
          (fun _ _ _ _ _ _ _ hr' => pe_and (pe_call GL hr' (by rfl) S.gL S.L.kp S.bL .nil pass0 (pa_cons (pv 0) (pa_cons (pv 2) pa_nil))) (pe_one (pe_cmpR op_eq (pe_callB (show CallR _ _ (fun xs H Q => ∃ p ys, xs = [.ref p] ∧ (SqL K H p ys ∨ SqT K H p ys) ∧ Q (.int ys.length) H) from call_len_seq) (by rfl) N.len PySem.boot_len (pa_cons (pv 2) pa_nil)) pe_int (nomark _)))) (fun _ => rfl))
        (pe_one (pe_call GA (hr.mono (by decide)) (by rfl) S.gA S.A.kp S.bA .nil pass0 (pa_cons (pv 1) pa_nil)))))), ?_⟩
    refine ⟨v, rfl, v, tyD d, rfl, dq_ty dq, tyD d, "tuple", rfl, rfl, _, rfl, ite2 (fun c => ?_) (fun c => ?_)⟩
    · have e : isArrD n d = false := by
        cases d with
        | tuple ds => simp [tyD] at c
        | _ => rfl
      have z := q H (Ms.rfl' tb)
      rw [e] at z
      exact z
    · obtain ⟨ds, rfl⟩ : ∃ ds, d = .tuple ds := by
        cases d with
        | tuple ds => exact ⟨ds, rfl⟩
        | _ => simp [tyD] at c
      obtain ⟨a, xs, rfl, ea, za, L⟩ : ∃ a xs, v = .ref a ∧ Rd H a (.tup xs) ∧ ¬ Z a ∧ DqL Z H xs ds := by
        cases dq with
        | tup e z h => exact ⟨_, _, rfl, e, z, h⟩
      have stay : ∀ {J : Hp}, Ms ts H J → Rd J a (.tup xs) := fun ms => rd_kp ms.1 (fun z => za (hZ _ z)) ea
      have no : ∀ {J : Hp}, Ms ts H J → ds.all (fun e => isLotD n e && decide (lenD e = 2)) = false → Q (.bl false) J := fun {J} ms e => by
        have z := q J ms
        rw [show isArrD n (.tuple ds) = (ds.all (fun e => isLotD n e && decide (lenD e = 2)) && ascR (ds.map rowD)) from rfl, e] at z
        exact z
      refine ⟨.ref a, rfl, a, rfl, ⟨xs, .inl ea⟩, tb T hT, fun H2 h2 => ?_⟩
      refine turns_tup (K := K) (a := a) (xs := xs) (fun i J => Ms ts H J ∧ (ds.take i).all (fun e => isLotD n e && decide (lenD e = 2)) = true) ⟨tb.tabbed h2 hT, rfl⟩ (fun i J _ h => .inl (stay h.1)) ?_ ?_
      · rintro i x J hx ⟨ms, hall⟩
        obtain ⟨di, hdi, dqi⟩ := L.get hx
        have dqj : Dq Z J x di := dqi.kp (ms.1.wk hZ)
        have next : (isLotD n di && decide (lenD di = 2)) = true → (ds.take (i + 1)).all (fun e => isLotD n e && decide (lenD e = 2)) = true := fun e => by
          rw [List.take_add_one, hdi, List.all_append, hall]
          simpa using e
        have bad : (isLotD n di && decide (lenD di = 2)) = false → ds.all (fun e => isLotD n e && decide (lenD e = 2)) = false := fun e => by
          rw [List.all_eq_false]
          exact ⟨di, List.mem_of_getElem? hdi, by rw [e]; exact Bool.false_ne_true⟩
        refine ⟨rfl, tyes ?_⟩
        refine ⟨.int n, rfl, x, rfl, n, x, di, Z, rfl, hZ, ms.2, dqj, hl.2 ds rfl di (List.mem_of_getElem? hdi), fun J2 m2 => ⟨_, rfl, ifte (fun c1 => ?_) (fun c1 => ⟨false, rfl, iteF ⟨false, rfl, iteF (no (ms.tr m2) (bad (by rw [c1]; rfl)))⟩⟩)⟩⟩
        have dq2 : Dq Z J2 x di := dqj.kp (m2.1.wk hZ)
        obtain ⟨b, rfl, eb, zb, el⟩ := lot_tup dq2 c1
        refine ⟨.ref b, rfl, b, _, rfl, .inr (.inl eb), rfl, ?_⟩
        have ed : decide (V.int (((rowD di).map V.int).length : Int) = V.int 2) = decide (lenD di = 2) := by
          rw [List.length_map, ← el]
          by_cases z : lenD di = 2
          · rw [z]
            rfl
          · rw [decide_eq_false z, decide_eq_false (fun y => z (by have := V.int.inj y; omega))]
        rw [ed]
        exact ⟨_, rfl, ifte (fun c2 => ⟨ms.tr m2, next (by rw [c1, c2]; rfl)⟩) (fun c2 => ⟨false, rfl, iteF (no (ms.tr m2) (bad (by rw [c2, Bool.and_false])))⟩)⟩
      · rintro J ⟨ms, hall⟩
        rw [L.len, List.take_length] at hall
        refine ⟨true, rfl, iteT ⟨.ref a, rfl, a, xs, fun i => ltT ((ds.map rowD).getD i []) ((ds.map rowD).getD (i + 1) []), rfl, stay ms, by rw [L.len]; exact hl.1, fun i x y h1 h2 => asc_rows (L.kp (ms.1.wk hZ)) hall i x y h1 h2, fun G kG => ?_⟩⟩
        have z := q G (ms.kp kG)
        rw [show isArrD n (.tuple ds) = (ds.all (fun e => isLotD n e && decide (lenD e = 2)) && ascR (ds.map rowD)) from rfl, hall, Bool.true_and] at z
        unfold ascR at z
        rw [show xs.length = (ds.map rowD).length by rw [List.length_map, L.len]]
        exact z
end
end GR

namespace GR
open PySem PySem.Spec PyProof.Rows L2 KL KG
section
variable {P : Program} {w : World} {K : PySem.W.Frag} {mg : Str → Option Value} {base : Heap} {ts : List Addr} {fL fA cL TL : Addr} {fdL fdA : FuncData}
theorem ok_hid {f c T : Addr} {fd : FuncData} (F : FunC K "are_hidden_lots" "are_hidden_lots" sHid f fd c) (TB : GxR.TabB base mg c T) (hT : T ∈ ts) (S : Lo K mg base ts fL fA cL TL fdL fdA) (N : Nm mg) (gM : ∃ t, mg "MOST_HIDDEN_LOTS" = some (.int 28 t)) : FnOk P w K mg base CX0 8 f fd ["count", "value"] (spHid ts) := by
  obtain ⟨tm, gm⟩ := gM
  have GA : FnOk P w K mg base CX0 1 fA fdA ["row"] spAsc := ok_asc S.A N.all N.rng N.len
  have GL : FnOk P w K mg base CX0 4 fL fdL ["count", "value"] (spLot ts) := S.ok N
  refine F.ok (k := 7) scHid (fun vs H Q E h => ?_) (fun A outer s H vs Q E hr h => ?_)
  · obtain ⟨c, v, d, Z, rfl, _⟩ := h
    rfl
  · obtain ⟨n, v, d, Z, rfl, hZ, tb, dq, hl, q⟩ := h
    refine ⟨_, pss_cons (ps_if (PW.pt (pw_or (pt_cmpR op_isNotTy (pe_callTy call_type1 (by rfl) N.typ (by decide +kernel) (pa_cons (pv 1) pa_nil)) (pe_bltn (u := .type "tuple") (by rfl) N.tup (by decide +kernel) (rt "tuple")) (nomark _)) (pw_or1 (pt_cmpR op_gt (pe_callB call_len_seq (by rfl) N.len PySem.boot_len (pa_cons (pv 1) pa_nil)) (pe_glob (by rfl) gm (show RelV (.int 28) (Value.int 28 tm) from ⟨_, rfl⟩)) (nomark _))))) (pss_one (ps_ret pe_bl)) pss_nil)
      (pss_one (ps_ret (pe_and (pe_allG (k := 4) (own := [("one", 2)]) (g := gName 2) (tt := tYes) hr (by rfl) N.all (by decide +kernel) TB rfl scHid.nd rfl (by decide +kernel) (by rfl)
          (blkOk_by (N := ["count", "value", "one"]) (sc := defScope sHid) (by decide +kernel)) (pi_tup (pv 1)) (fun _ _ _ _ _ _ _ _ => pg_name (i := 2) scHid.nd rfl (Or.inl rfl)) (fun _ _ _ _ _ _ _ _ => pts_nil)
          (fun _ _ _ _ _ _ _ hr' => pe_and (pe_call GL hr' (by rfl) S.gL S.L.kp S.bL .nil pass0 (pa_cons (pv 0) (pa_cons (pv 2) pa_nil))) (pe_one (pe_cmpR op_ge (pe_callB (show CallR _ _ (fun xs H Q => ∃ p ys, xs = [.ref p] ∧ (SqL K H p ys ∨ SqT K H p ys) ∧ Q (.int ys.length) H) from call_len_seq) (by rfl) N.len PySem.boot_len (pa_cons (pv 2) pa_nil)) pe_int (nomark _)))) (fun _ => rfl))
        (pe_one (pe_call GA (hr.mono (by decide)) (by rfl) S.gA S.A.kp S.bA .nil pass0 (pa_cons (pv 1) pa_nil)))))), ?_⟩
    refine ⟨v, rfl, v, tyD d, rfl, dq_ty dq, tyD d, "tuple", rfl, rfl, _, rfl, ite2 (fun c => iteT ?_) (fun c => ?_)⟩
    · have e : isHidD n d = false := by
        cases d with
        | tuple ds => simp [tyD] at c
        | _ => rfl
      have z := q H (Ms.rfl' tb)
      rw [e] at z
      exact z
    · obtain ⟨ds, rfl⟩ : ∃ ds, d = .tuple ds := by
        cases d with
        | tuple ds => exact ⟨ds, rfl⟩
        | _ => simp [tyD] at c
      obtain ⟨a, xs, rfl, ea, za, L⟩ : ∃ a xs, v = .ref a ∧ Rd H a (.tup xs) ∧ ¬ Z a ∧ DqL Z H xs ds := by
        cases dq with
        | tup e z h => exact ⟨_, _, rfl, e, z, h⟩
      have whole : isHidD n (.tuple ds) = (decide (ds.length ≤ 28) && (ds.all (fun e => isLotD n e && decide (2 ≤ lenD e)) && ascR (ds.map rowD))) := rfl
      refine ⟨.ref a, rfl, a, xs, rfl, .inr (.inl ea), (xs.length : Int), 28, rfl, rfl, _, rfl, ifte (fun c2 => ?_) (fun c2 => ?_)⟩
      · have z := q H (Ms.rfl' tb)
        have : decide (ds.length ≤ 28) = false := decide_eq_false (by have := of_decide_eq_true c2; rw [L.len] at this; omega)
        rw [whole, this] at z
        exact z
      have few : decide (ds.length ≤ 28) = true := decide_eq_true (by have := of_decide_eq_false c2; rw [L.len] at this; omega)
      have stay : ∀ {J : Hp}, Ms ts H J → Rd J a (.tup xs) := fun ms => rd_kp ms.1 (fun z => za (hZ _ z)) ea
      have no : ∀ {J : Hp}, Ms ts H J → ds.all (fun e => isLotD n e && decide (2 ≤ lenD e)) = false → Q (.bl false) J := fun {J} ms e => by
        have z := q J ms
        rw [whole, few, e] at z
        exact z
      refine ⟨.ref a, rfl, a, rfl, ⟨xs, .inl ea⟩, tb T hT, fun H2 h2 => ?_⟩
      refine turns_tup (K := K) (a := a) (xs := xs) (fun i J => Ms ts H J ∧ (ds.take i).all (fun e => isLotD n e && decide (2 ≤ lenD e)) = true) ⟨tb.tabbed h2 hT, rfl⟩ (fun i J _ h => .inl (stay h.1)) ?_ ?_
      · rintro i x J hx ⟨ms, hall⟩
        obtain ⟨di, hdi, dqi⟩ := L.get hx
        have dqj : Dq Z J x di := dqi.kp (ms.1.wk hZ)
        have next : (isLotD n di && decide (2 ≤ lenD di)) = true → (ds.take (i + 1)).all (fun e => isLotD n e && decide (2 ≤ lenD e)) = true := fun e => by
          rw [List.take_add_one, hdi, List.all_append, hall]
          simpa using e
        have bad : (isLotD n di && decide (2 ≤ lenD di)) = false → ds.all (fun e => isLotD n e && decide (2 ≤ lenD e)) = false := fun e => by
          rw [List.all_eq_false]
          exact ⟨di, List.mem_of_getElem? hdi, by rw [e]; exact Bool.false_ne_true⟩
        refine ⟨rfl, tyes ?_⟩
        refine ⟨.int n, rfl, x, rfl, n, x, di, Z, rfl, hZ, ms.2, dqj, hl.2 ds rfl di (List.mem_of_getElem? hdi), fun J2 m2 => ⟨_, rfl, ifte (fun c1 => ?_) (fun c1 => ⟨false, rfl, iteF ⟨false, rfl, iteF (no (ms.tr m2) (bad (by rw [c1]; rfl)))⟩⟩)⟩⟩
        have dq2 : Dq Z J2 x di := dqj.kp (m2.1.wk hZ)
        obtain ⟨b, rfl, eb, zb, el⟩ := lot_tup dq2 c1
        refine ⟨.ref b, rfl, b, _, rfl, .inr (.inl eb), _, 2, rfl, rfl, ?_⟩
        have ed : decide ((2 : Int) ≤ (((rowD di).map V.int).length : Int)) = decide (2 ≤ lenD di) := by
          rw [List.length_map, ← el]
          by_cases z : 2 ≤ lenD di
          · rw [decide_eq_true z, decide_eq_true (by omega)]
          · rw [decide_eq_false z, decide_eq_false (by omega)]
        show ∃ c, V.bl (decide ((2 : Int) ≤ (((rowD di).map V.int).length : Int))) = .bl c ∧ _
        rw [ed]
        exact ⟨_, rfl, ifte (fun c2 => ⟨ms.tr m2, next (by rw [c1, c2]; rfl)⟩) (fun c2 => ⟨false, rfl, iteF (no (ms.tr m2) (bad (by rw [c2, Bool.and_false])))⟩)⟩
      · rintro J ⟨ms, hall⟩
        rw [L.len, List.take_length] at hall
        refine ⟨true, rfl, iteT ⟨.ref a, rfl, a, xs, fun i => ltT ((ds.map rowD).getD i []) ((ds.map rowD).getD (i + 1) []), rfl, stay ms, by rw [L.len]; exact hl.1, fun i x y h1 h2 => asc_rows (L.kp (ms.1.wk hZ)) hall i x y h1 h2, fun G kG => ?_⟩⟩
        have z := q G (ms.kp kG)
        rw [whole, few, hall, Bool.true_and, Bool.true_and] at z
        unfold ascR at z
        rw [show xs.length = (ds.map rowD).length by rw [List.length_map, L.len]]
        exact z
end
end GR

namespace KG
open PySem PySem.Spec PyProof.Rows L2 KL
/-- the turns over a text -/
theorem turns_str {z : Str} {g : TG} {tt : TT} {te : TE} {vs : List Nat} {σ : L2.St} {H1 : Hp} {QT : Hp → Prop} {Yp : V → Hp → (Hp → Prop) → Prop} (Pv : Nat → Hp → Prop) (h0 : Pv 0 H1)
    (hs : ∀ i c H, z.cps.toList[i]? = some c → Pv i H → g (.str ⟨#[c]⟩) (wipe σ vs) H fun σ2 H2 => wipe σ2 vs = wipe σ vs ∧ tt σ2 H2 fun b H3 => if b = true then te σ2 H3 fun y H4 => Yp y H4 (Pv (i + 1)) else Pv (i + 1) H3) (hd : ∀ H, Pv z.cps.toList.length H → QT H) :
    ∃ W : Nat → Nat → Hp → Prop, (∃ m, W 0 m H1) ∧ Turns (Its z) g tt te vs σ QT Yp W := by
  have sz : z.cps.toList.length = z.cps.size := by simp
  refine ⟨fun i m H => m = z.cps.size - i ∧ i ≤ z.cps.size ∧ Pv i H, ⟨z.cps.size, rfl, Nat.zero_le _, h0⟩, ?_⟩
  rintro i m H ⟨rfl, hi, p⟩
  by_cases hlt : i < z.cps.size
  · refine .inr ⟨hlt, Pv (i + 1), fun H' p' => ⟨z.cps.size - (i + 1), by omega, rfl, hlt, p'⟩, fun x H' y => ?_⟩
    obtain ⟨e, c, hc, rfl⟩ := y
    subst e
    exact hs i c _ (by rw [Array.getElem?_toList]; exact hc) p
  · have e : i = z.cps.size := by omega
    subst e
    exact .inl ⟨Nat.le_refl _, hd H (by rw [sz]; exact p)⟩
end KG
namespace GR
open PySem PySem.Spec PyProof.Rows L2 KL KG
def lettersS : Str := "abcdefghijklmnopqrstuvwxyz"
def figuresS : Str := "0123456789"
def wordsL : List Str := ["names", "arrows", "hidden", "sizes", "lot", "table", "told", "sum", "on"]
def letterC (c : Nat) : Bool := decide (c ∈ lettersS.cps.toList)
def figureC (c : Nat) : Bool := decide (c ∈ figuresS.cps.toList)
/-- what the module keeps -/
structure Cn (K : PySem.W.Frag) (mg : Str → Option Value) : Prop where
  lt : ∃ t, mg "LETTERS" = some (.str lettersS t)
  fg : ∃ t, mg "FIGURES" = some (.str figuresS t)
  wd : ∃ a, mg "WORDS" = some (.ref a) ∧ ∀ H, SqT K H a (wordsL.map V.str)
  sg : ∃ t, mg "MOST_SIGNS" = some (.int 8 t)
  vr : ∃ t, mg "MOST_VARIABLES" = some (.int 8 t)
  hd : ∃ t, mg "MOST_HIDDEN_LOTS" = some (.int 28 t)
def firstOk (x : Str) : Bool := match x.cps.toList[0]? with
  | some c => letterC c
  | none => false
def isNameD : PyData → Bool
  | .str x => !inV (.str x) (wordsL.map V.str) && ((decide (1 ≤ x.length) && decide (x.length ≤ 8)) && (firstOk x && x.cps.toList.all (fun c => letterC c || figureC c)))
  | _ => false
abbrev sName : Stmt := topS 19
theorem scName : FnScope ["value", "sign"] ["value"] (defScope sName) := ⟨rfl, rfl, rfl, by decide +kernel, rfl, by decide +kernel, by decide +kernel⟩
def spName (ts : List Addr) : Sp := fun vs H Q _ => ∃ (v : V) (d : PyData) (Z : Addr → Prop), vs = [v] ∧ (∀ b ∈ ts, Z b) ∧ Tb ts H ∧ Dq Z H v d ∧ LenOk d ∧ ∀ G, Ms ts H G → Q (.bl (isNameD d)) G
theorem words_flat : (wordsL.map V.str).all flatV = true := by rfl
section
variable {P : Program} {w : World} {K : PySem.W.Frag} {mg : Str → Option Value} {base : Heap} {ts : List Addr}
theorem ok_name {f c T : Addr} {fd : FuncData} (F : FunC K "is_name" "is_name" sName f fd c) (TB : GxR.TabB base mg c T) (hT : T ∈ ts) (N : Nm mg) (C : Cn K mg) : FnOk P w K mg base CX0 4 f fd ["value"] (spName ts) := by
  obtain ⟨tl, gl⟩ := C.lt
  obtain ⟨tf, gf⟩ := C.fg
  obtain ⟨aw, gw, sw⟩ := C.wd
  obtain ⟨tg, gs⟩ := C.sg
  have rl : RelV (.str lettersS) (Value.str lettersS tl) := ⟨_, rfl⟩
  have rf : RelV (.str figuresS) (Value.str figuresS tf) := ⟨_, rfl⟩
  have rs : RelV (.int 8) (Value.int 8 tg) := ⟨_, rfl⟩
  have rw' : RelV (.ref aw) (Value.ref aw) := rfl
  refine F.ok (k := 3) scName (fun vs H Q E h => ?_) (fun A outer s H vs Q E hr h => ?_)
  · obtain ⟨v, d, Z, rfl, _⟩ := h
    rfl
  · obtain ⟨v, d, Z, rfl, hZ, tb, dq, hl, q⟩ := h
    refine ⟨_, pss_cons (ps_if (PW.pt (pw_or (pt_cmpR op_isNotTy (pe_callTy call_type1 (by rfl) N.typ (by decide +kernel) (pa_cons (pv 0) pa_nil)) (pe_bltn (u := .type "str") (by rfl) N.str (by decide +kernel) (rt "str")) (nomark _))
          (pw_or (pt_cmpR op_in_seq (pv 0) (pe_glob (by rfl) gw rw') (by with_unfolding_all rfl)) (pw_or1 (pt_not (pt_chain op_le op_le pe_int (pe_callB call_len_str (by rfl) N.len PySem.boot_len (pa_cons (pv 0) pa_nil)) (pe_glob (by rfl) gs rs))))))) (pss_one (ps_ret pe_bl)) pss_nil)
      (pss_one (ps_ret (pe_and (pe_cmpR op_in_sign (pe_ix ix_str (pv 0) pe_int (fun _ _ => rfl)) (pe_glob (by rfl) gl rl) (by with_unfolding_all rfl))
        (pe_one (pe_allG (k := 0) (own := [("sign", 1)]) (g := gName 1) (tt := tYes) hr (by rfl) N.all (by decide +kernel) TB rfl scName.nd rfl (by decide +kernel) (by rfl)
          (blkOk_by (N := ["value", "sign"]) (sc := defScope sName) (by decide +kernel)) (pi_str (pv 0)) (fun _ _ _ _ _ _ _ _ => pg_name (i := 1) scName.nd rfl (Or.inl rfl)) (fun _ _ _ _ _ _ _ _ => pts_nil)
          (fun _ _ _ _ _ _ _ _ => pe_or (pe_cmpR op_in_sign (pv 1) (pe_glob (by rfl) gl rl) (by with_unfolding_all rfl)) (pe_one (pe_cmpR op_in_sign (pv 1) (pe_glob (by rfl) gf rf) (by with_unfolding_all rfl)))) (fun _ => rfl)))))), ?_⟩
    refine ⟨v, rfl, v, tyD d, rfl, dq_ty dq, tyD d, "str", rfl, rfl, _, rfl, ite2 (fun c => iteT ?_) (fun c => ?_)⟩
    · have e : isNameD d = false := by
        cases d with
        | str x => simp [tyD] at c
        | _ => rfl
      have z := q H (Ms.rfl' tb)
      rw [e] at z
      exact z
    · obtain ⟨x, rfl⟩ : ∃ x, d = .str x := by
        cases d with
        | str x => exact ⟨x, rfl⟩
        | _ => simp [tyD] at c
      cases dq
      have whole : isNameD (.str x) = (!inV (.str x) (wordsL.map V.str) && ((decide (1 ≤ x.length) && decide (x.length ≤ 8)) && (firstOk x && x.cps.toList.all (fun c => letterC c || figureC c)))) := rfl
      have no : ∀ {J : Hp}, Ms ts H J → isNameD (.str x) = false → Q (.bl false) J := fun {J} ms e => by
        have z := q J ms
        rw [e] at z
        exact z
      refine ⟨.str x, rfl, aw, wordsL.map V.str, rfl, .inr (sw H), rfl, words_flat, _, rfl, ifte (fun c2 => iteT ?_) (fun c2 => ?_)⟩
      · refine no (Ms.rfl' tb) ?_
        rw [whole]
        have z : inV (.str x) (wordsL.map V.str) = true := c2
        rw [z]
        rfl
      have nw : inV (.str x) (wordsL.map V.str) = false := c2
      have hx : x.length ≤ sizeLine := by
        have : x.length ≤ 1000000 := hl
        rw [sizeLine_eq]
        omega
      refine ⟨.str x, rfl, x, rfl, hx, 1, (x.length : Int), rfl, rfl, _, rfl, ifte (fun c3 => ⟨(x.length : Int), 8, rfl, rfl, _, rfl, ?_⟩) (fun c3 => ⟨_, rfl, ?_⟩)⟩
      rotate_left
      · refine iteT (no (Ms.rfl' tb) ?_)
        have z : decide (1 ≤ x.length) = false := decide_eq_false (by have := of_decide_eq_false c3; omega)
        rw [whole, z, Bool.false_and, Bool.false_and, Bool.and_false]
      have l1 : decide (1 ≤ x.length) = true := decide_eq_true (by have := of_decide_eq_true c3; omega)
      by_cases l2 : x.length ≤ 8
      rotate_left
      · have e8 : decide ((x.length : Int) ≤ 8) = false := decide_eq_false (by omega)
        rw [e8]
        refine iteT (no (Ms.rfl' tb) ?_)
        rw [whole, decide_eq_false l2, Bool.and_false, Bool.false_and, Bool.and_false]
      have e8 : decide ((x.length : Int) ≤ 8) = true := decide_eq_true (by omega)
      rw [e8]
      refine iteF ?_
      have h0 : 0 < x.cps.toList.length := by
        have : 1 ≤ x.length := of_decide_eq_true l1
        have e : x.cps.toList.length = x.length := by simp; rfl
        omega
      have hc : x.cps.toList[0]? = some x.cps.toList[0] := List.getElem?_eq_getElem h0
      have f0 : firstOk x = letterC x.cps.toList[0] := by
        unfold firstOk
        rw [hc]
      have rest : isNameD (.str x) = (firstOk x && x.cps.toList.all (fun c => letterC c || figureC c)) := by
        rw [whole, nw, l1, decide_eq_true l2]
        rfl
      refine ⟨.str x, rfl, x, 0, x.cps.toList[0], rfl, rfl, hx, atI_nat (j := 0) hc, x.cps.toList[0], lettersS, rfl, rfl, _, rfl, ifte (fun c4 => ?_) (fun c4 => ?_)⟩
      rotate_left
      · refine no (Ms.rfl' tb) ?_
        have z : letterC x.cps.toList[0] = false := c4
        rw [rest, f0, z, Bool.false_and]
      have z4 : letterC x.cps.toList[0] = true := c4
      refine ⟨.str x, rfl, x, rfl, tb T hT, fun H2 h2 => ?_⟩
      refine turns_str (z := x) (fun i J => Ms ts H J ∧ (x.cps.toList.take i).all (fun c => letterC c || figureC c) = true) ⟨tb.tabbed h2 hT, rfl⟩ ?_ ?_
      · rintro i cc J hcc ⟨ms, hall⟩
        have next : (letterC cc || figureC cc) = true → (x.cps.toList.take (i + 1)).all (fun c => letterC c || figureC c) = true := fun e => by
          rw [List.take_add_one, hcc, List.all_append, hall]
          simpa using e
        refine ⟨rfl, tyes ?_⟩
        refine ⟨.str ⟨#[cc]⟩, rfl, cc, lettersS, rfl, rfl, _, rfl, ifte (fun c5 => ⟨true, rfl, iteT ⟨ms, next ?_⟩⟩) (fun c5 => ⟨.str ⟨#[cc]⟩, rfl, cc, figuresS, rfl, rfl, _, rfl, ifte (fun c6 => ⟨ms, next ?_⟩) (fun c6 => no ms ?_)⟩)⟩
        · have z : letterC cc = true := c5
          rw [z]
          rfl
        · have z : figureC cc = true := c6
          rw [z, Bool.or_true]
        · have y1 : letterC cc = false := c5
          have y2 : figureC cc = false := c6
          have z : x.cps.toList.all (fun c => letterC c || figureC c) = false := by
            rw [List.all_eq_false]
            exact ⟨cc, List.mem_of_getElem? hcc, by rw [y1, y2]; exact Bool.false_ne_true⟩
          rw [rest, z, Bool.and_false]
      · rintro J ⟨ms, hall⟩
        rw [List.take_length] at hall
        have z := q J ms
        rw [rest, f0, z4, hall] at z
        exact z
end
end GR

/-! Own layer: how many unlike texts a tuple has: len(set(t)). -/
namespace KS
open PySem PySem.Spec PyProof.Rows L2
/-- how many unlike ones stand among the first i -/
def dcT (ws : List Str) : Nat → Nat
  | 0 => 0
  | i + 1 => match ws[i]? with
    | some x => if x ∈ ws.take i then dcT ws i else dcT ws i + 1
    | none => dcT ws i
theorem dcT_le (ws : List Str) : ∀ i, dcT ws i ≤ i
  | 0 => Nat.le_refl _
  | i + 1 => by
    have := dcT_le ws i
    unfold dcT
    split
    · split <;> omega
    · omega
theorem dcT_eq {ws : List Str} : ∀ {i : Nat}, i ≤ ws.length → (dcT ws i = i ↔ (ws.take i).Nodup)
  | 0, _ => by simp [dcT]
  | i + 1, h => by
    have hx : ws[i]? = some ws[i] := List.getElem?_eq_getElem (by omega)
    have ih := dcT_eq (ws := ws) (i := i) (by omega)
    have le := dcT_le ws i
    have nd : (ws.take (i + 1)).Nodup ↔ (ws.take i).Nodup ∧ ws[i] ∉ ws.take i := by
      rw [List.take_add_one, hx]
      simp only [Option.toList_some]
      rw [List.nodup_append]
      constructor
      · intro ⟨a, _, c⟩
        exact ⟨a, fun m => c _ m _ (List.mem_singleton.mpr rfl) rfl⟩
      · intro ⟨a, c⟩
        refine ⟨a, by simp, fun x hx y hy e => ?_⟩
        rw [List.mem_singleton] at hy
        rw [e, hy] at hx
        exact c hx
    have e : dcT ws (i + 1) = if ws[i] ∈ ws.take i then dcT ws i else dcT ws i + 1 := by
      show (match ws[i]? with
        | some x => if x ∈ ws.take i then dcT ws i else dcT ws i + 1
        | none => dcT ws i) = _
      rw [hx]
    rw [nd, ← ih, e]
    by_cases c : ws[i] ∈ ws.take i
    · simp only [c, if_true, not_true_eq_false, and_false, iff_false]
      omega
    · simp only [c, if_false, not_false_eq_true, and_true]
      omega
section
variable {P : Program} {w : World} {A : Around} {E : Value → Shared → Prop}
theorem texts_loop {I : Addr} {fp wr : List Addr} {G : Array GenState → Array GenState → Prop} {n : Nat} {Pv : Nat → Value → Prop} {St : Nat → Shared → Prop} {R : Result → Shared → Prop} (W : WalksS P w A.in1 I fp wr G n Pv St) {D : Addr} (hD : D ∉ fp) {ws : List Str} (hn : n = ws.length) (hb : ws.length < 1000)
    (hv : ∀ i v, Pv i v → ∃ x t, ws[i]? = some x ∧ v = .str x t) :
    ∀ (k i : Nat) (s : Shared), n - i = k → i ≤ n → St i s → s.heap.SetOf (strKind P w) D (fun x => decide (x ∈ ws.take i)) (dcT ws i) →
      (∀ s', Moved (D :: wr) G s s' → s'.heap.SetOf (strKind P w) D (fun x => decide (x ∈ ws)) (dcT ws ws.length) → R (.ok (.ret .none)) s') → codeAny (model P w) A (.builtin "set.update.loop" ⟨[.ref D, .ref I], []⟩) R s := by
  have nw : D ∉ wr := fun z => hD (W.sub _ z)
  have more : ∀ b ∈ wr, b ∈ D :: wr := fun b z => List.mem_cons_of_mem _ z
  have still : ∀ {h h' : Heap} {S : Str → Bool} {c : Nat}, h.SetOf (strKind P w) D S c → (∀ o, h.get? D = some o → h'.get? D = some o) → h'.SetOf (strKind P w) D S c := fun ⟨o, es, ep, t, e, r⟩ k => ⟨o, es, ep, t, k o e, r⟩
  intro k
  induction k with
  | zero =>
    intro i s hk hi st hS out
    obtain rfl : i = n := by omega
    refine codeAny_builtin F.entry_set_update_loop ?_
    rw [Around.under_plainId F.plain_set_update_loop _]
    show wpAny _ A.in1 (pyNext (.ref I) >>= _) _ _ s
    refine wpAny_bind (W.done s _ _ st fun s' mv => ?_)
    show wpAny _ A.in1 (ret Value.none) _ _ s'
    refine wpAny_pure (out s' (mv.mono more) ?_)
    rw [hn, List.take_length] at hS
    exact still hS fun o e => mv.heap D o nw e
  | succ k ih =>
    intro i s hk hi st hS out
    have lt : i < n := by omega
    refine codeAny_builtin F.entry_set_update_loop ?_
    rw [Around.under_plainId F.plain_set_update_loop _]
    show wpAny _ A.in1 (pyNext (.ref I) >>= _) _ _ s
    refine wpAny_bind (W.item i s _ _ lt st fun v s1 hP st1 mv => ?_)
    obtain ⟨x, t, hx, rfl⟩ := hv i v hP
    have hS1 := still hS fun o e => mv.heap D o nw e
    show wpAny _ A.in1 (holding [Value.str x t] (setAdd D (.str x t)) >>= _) _ _ s1
    refine wpAny_bind (wpAny_holding ?_)
    unfold setAdd
    refine wpAny_holding (wpAny_bind ((strKind P w).pyHash (k := x) (strKind_is _ _ _ _) ?_))
    have le := dcT_le ws i
    refine wpAny_setAddHashed_of (knd := strKind P w) (s := { s1 with toks := s1.toks + 1 }) (strKind_is _ _ _ _) rfl hS1 (by unfold scanBound; omega) fun h' sb hS2 => ?_
    have hS3 : h'.SetOf (strKind P w) D (fun y => decide (y ∈ ws.take (i + 1))) (dcT ws (i + 1)) := SetOf_congr hS2 (fun y => by
      rw [List.take_add_one, hx]
      simp [List.mem_append]) (by
      show (if decide (x ∈ ws.take i) = true then dcT ws i else dcT ws i + 1) = dcT ws (i + 1)
      conv => rhs; unfold dcT
      rw [hx]
      by_cases c : x ∈ ws.take i
      · simp [c]
      · simp [c])
    refine wpAny_pure ⟨plainId_quiet F.plain_set_update_loop _, ih (i + 1) _ (by omega) lt (W.frame _ s1 _ _ st1 (Nat.le_succ _) fun b hb o e => ?_) hS3 fun s2 mv2 hS4 => ?_⟩
    · exact (sb.2 b fun z => hD (z ▸ hb)).trans e
    · refine out s2 (Moved.trans W.gtrans ((mv.mono more).then_heap (Nat.le_succ _) fun b o hb e => ?_) mv2) hS4
      exact (sb.2 b fun z => hb (z ▸ List.mem_cons_self)).trans e
theorem strs_at : ∀ {vs : List Value} {ws : List Str}, StrsAre vs ws → ∀ (i : Nat) (v : Value), vs[i]? = some v → ∃ x, ws[i]? = some x ∧ ∃ t, v = .str x t
  | _, _, .nil, _, _, e => by cases e
  | _, _, .cons y t r, 0, v, e => ⟨y, rfl, t, (Option.some.inj e).symm⟩
  | _, _, .cons y t r, i + 1, v, e => strs_at r i v e
/-- set(t), t a tuple of texts -/
theorem call_set_texts {l : Addr} {its : Array Value} {ws : List Str} {s : Shared} {Q : Value → Shared → Prop} (hh : A.handled = none) (hl : s.heap.IsTuple l its) (hi : StrsAre its.toList ws) (hb : ws.length < 1000)
    (h : ∀ (h' : Heap) (tk : Nat), h'.SetOf (strKind P w) s.heap.objs.size (fun x => decide (x ∈ ws)) (dcT ws ws.length) → (∀ b o, s.heap.get? b = some o → h'.get? b = some o) → Q (.ref s.heap.objs.size) { s with heap := h', toks := tk }) :
    wpAny (model P w) A (call (.type "set") [.ref l]) Q E s := by
  have hz : its.size = ws.length := by
    have z := hi.length
    rwa [Array.length_toList] at z
  obtain ⟨m1, m2, chain⟩ := F.called_set.mro
  have own1 := F.called_set.made
  have own2 := F.called_set.sub
  have own3 := F.called_set.notType
  have own4 := F.called_set.canCreate
  have own5 := F.typeCall_set_1 (.ref l)
  refine wpAny_call (codeAny_of_tree ?_)
  show wpAny _ _ (callAny (.type "set") _) _ _ _
  refine wpAny_pure ⟨Code.quiet_builtin _ (by decide +kernel), codeAny_builtin F.entry_type_call ?_⟩
  rw [Around.under_plain (weight_type_call_type "set" [.ref l] []) rfl]
  repeat (any_goals (first | assumption | wp_step))
  refine codeAny_mono (code_set_new_1 (.ref l) (E := E) (Q₁ := fun obj s₁ => ∃ led : Bool, obj = .ref s.heap.objs.size ∧ s₁ = { s with heap := s.heap.push { cls := .type "set", dict := none, data := .set #[] 0 (.fresh 0 0 led) } }) fun led => ⟨led, rfl, rfl⟩) fun res st hst => ?_
  cases res with
  | error e => exact hst
  | ok fl =>
  cases fl with
  | next => exact hst.elim
  | brk => exact hst.elim
  | cont => exact hst.elim
  | ret obj =>
  obtain ⟨led, rfl, rfl⟩ := hst
  have hS := Heap.get?_push_size s.heap (o := { cls := .type "set", dict := none, data := .set #[] 0 (.fresh 0 0 led) }) rfl
  have ty : Shared.TypeIs { s with heap := s.heap.push { cls := .type "set", dict := none, data := .set #[] 0 (.fresh 0 0 led) } } (.ref s.heap.objs.size) "set" := ⟨_, hS, rfl⟩
  have own6 := F.called_set.init.lookup
  have own7 := F.called_set.init.bind (.ref s.heap.objs.size)
  repeat (any_goals (first | assumption | wp_step))
  refine codeAny_mono (codeAny_call_builtin (R := wants (fun r st => r = .none ∧ ∃ h' tk, st = { s with heap := h', toks := tk } ∧ h'.SetOf (strKind P w) s.heap.objs.size (fun x => decide (x ∈ ws)) (dcT ws ws.length) ∧ ∀ b o, s.heap.get? b = some o → h'.get? b = some o) E) F.called_set.init.plain F.entry_set_init (check_set_init_1 ty ?_)) fun res st hst => ?_
  · skip
    have hlt : l < s.heap.objs.size := let ⟨_, e, _⟩ := hl; Heap.lt_size e
    have tup : (s.heap.push { cls := .type "set", dict := none, data := .set #[] 0 (.fresh 0 0 led) }).IsTuple l its := hl.push _
    obtain ⟨⟨tc, td, tdat, tsl⟩, g1, g2, tn, g3⟩ := id tup
    simp only at g2 g3
    subst g2 g3
    have no1 := F.sub_tuple_set
    have no2 := F.sub_tuple_frozenset
    have no3 : (Value.type "tuple" == Value.type "dict") = false := by decide
    unfold Builtin.«set.__init__» noKeywords Builtin.Frozenset.updateFrom
    generalize walkTo : pyIter = go
    wp_walk
    subst walkTo
    refine wpAny_pyIter_tuple tup ?_
    refine wpAny_bind (wpAny_runValue ?_)
    have sz := Heap.size_push s.heap { cls := .type "set", dict := none, data := .set #[] 0 (.fresh 0 0 led) }
    have apart : l ≠ (s.heap.push { cls := .type "set", dict := none, data := .set #[] 0 (.fresh 0 0 led) }).objs.size := by
      rw [sz]
      exact Nat.ne_of_lt (Nat.lt_succ_of_lt hlt)
    have free : s.heap.objs.size ∉ [(s.heap.push { cls := .type "set", dict := none, data := .set #[] 0 (.fresh 0 0 led) }).objs.size, l] := fun m => by
      rcases List.mem_cons.mp m with z | z
      · rw [sz] at z
        exact Nat.ne_of_lt (Nat.lt_succ_self _) z
      · exact Nat.ne_of_gt hlt (List.mem_singleton.mp z)
    have text : ∀ (i : Nat) (v : Value), its[i]? = some v → ∃ x t, ws[i]? = some x ∧ v = .str x t := fun i v e => by
      obtain ⟨x, hx, t, ht⟩ := strs_at hi i v (by rw [Array.getElem?_toList]; exact e)
      exact ⟨x, t, hx, ht⟩
    refine texts_loop ((Walks.tuple (show A.in1.in1.in1.handled = none from hh) _ l apart its).toS) free hz hb text (its.size - 0) 0 _ (Nat.sub_zero _) (Nat.zero_le _) ⟨⟨_, Heap.get?_push_size _ rfl, rfl, rfl⟩, tup.push _⟩ ?_ fun s' mv hS' => ?_
    · exact SetOf_congr ((setObjOf_fresh (knd := strKind P w) led).setOf (Heap.get?_push_of_some _ hS) (by unfold scanBound; omega)) (fun x => by simp) rfl
    · obtain ⟨h', g2, d', tk', os'⟩ := s'
      have e1 : g2 = s.gens := mv.gens
      have e2 : d' = s.drawn := mv.drawn
      have e3 : os' = s.os := mv.os
      subst e1 e2 e3
      refine wpAny_pure (wpAny_pure ⟨rfl, h', tk', rfl, hS', fun b o e => ?_⟩)
      have lt := Heap.lt_size e
      refine mv.heap b o (fun m => ?_) (Heap.get?_push_of_some _ (Heap.get?_push_of_some _ e))
      rcases List.mem_cons.mp m with z | z
      · exact Nat.ne_of_lt lt z
      · rw [List.mem_singleton, sz] at z
        exact Nat.ne_of_lt (Nat.lt_succ_of_lt lt) z

  · cases res with
    | error e => exact hst
    | ok fl =>
    cases fl with
    | next => exact hst.elim
    | brk => exact hst.elim
    | cont => exact hst.elim
    | ret r =>
    obtain ⟨rfl, h', tk, rfl, hS', kp⟩ := hst
    repeat (any_goals (first | assumption | wp_step))
    exact h h' tk hS' kp
end
end KS

namespace KS
open PySem PySem.Spec PyProof.Rows L2
/-- len(set(t)), t a tuple of texts: how many unlike ones it has -/
def tLenSetT (K : PySem.W.Frag) (ta : TE) : TE := fun σ H Q => ta σ H fun x H1 => ∃ (l : Addr) (ws : List Str), x = .ref l ∧ SqT K H1 l (ws.map V.str) ∧ ws.length < 1000 ∧ Q (.int (dcT ws ws.length : Nat)) H1
theorem pe_lenSetT {X : Cx} {a : Expr} {ta : TE} {p p2 q pos : Pos} (hc : X.calm = true) (hg : Gl X "len") (hm : X.mg "len" = none) (hg2 : Gl X "set") (hm2 : X.mg "set" = none) (ha : PE X a ta)
    (one : starEach [a] X.env = (false, eval a X.env) :: starEach [] X.env := by rfl) : PE X (.Call (.Name "len" p) [.Call (.Name "set" p2) [a] [] q] [] pos) (tLenSetT X.K ta) := by
  refine ⟨fun pins s σ H Q I h => Call_ (ld_blt I hg hm PySem.boot_len (PyProof.Rows.callWith_builtin1 (PyProof.Rows.args_cons (Call_ (ld_blt I hg2 hm2 boot_set (PyProof.Rows.callWith_type1 (PyProof.Rows.args_cons (thn (ha.run pins s σ H _ I h) fun v s1 z => PyProof.Rows.args_nil ?_) one) one rfl))) rfl) rfl rfl))⟩
  obtain ⟨x, H1, I1, rx, l, ws, rfl, hq, hb, hQ⟩ := z
  cases rx
  obtain ⟨its, rv, pl, hz⟩ := I1.tuple hq
  have hl : its.length = ws.length := by rw [← rv.length, List.length_map]
  refine call_set_texts (I1.ok.hd hc) pl (ws := ws) (by simpa using strsAre_of rv) hb fun h' tk ⟨o, es, ep, t, e1, e2, e3, _, _, _, e4, e5⟩ kp => PyProof.Rows.args_nil ?_
  have I2 : Inv X pins σ H1 { s1 with heap := h', toks := tk } := I1.kept kp
  have le := dcT_le ws ws.length
  exact call_len_set e1 e2 e3 e4 (by rw [e5]; omega) ⟨.int (dcT ws ws.length : Nat), H1, I2.tok _, ⟨_, by rw [e5]⟩, hQ⟩
end KS

namespace GR
open PySem PySem.Spec PyProof.Rows L2 KL KG KS
abbrev sNames : Stmt := topS 22
abbrev sGraph : Stmt := topS 11
theorem scNames : FnScope ["value", "one"] ["value"] (defScope sNames) := ⟨rfl, rfl, rfl, by decide +kernel, rfl, by decide +kernel, by decide +kernel⟩
theorem scGraph : FnScope ["value", "names", "arrows", "lots"] ["value"] (defScope sGraph) := ⟨rfl, rfl, rfl, by decide +kernel, rfl, by decide +kernel, by decide +kernel⟩
def valS : PyData → Str
  | .str x => x
  | _ => ""
def isNamesD : PyData → Bool
  | .tuple ds => (decide (1 ≤ ds.length) && decide (ds.length ≤ 8)) && (ds.all isNameD && decide ((ds.map valS).Nodup))
  | _ => false
def isGraphD : PyData → Bool
  | .tuple [n, a, l] => isNamesD n && (isArrD (lenD n : Int) a && isHidD (lenD n : Int) l)
  | _ => false
theorem dql_str {Z : Addr → Prop} {H : Hp} : ∀ {xs : List V} {ds : List PyData}, DqL Z H xs ds → ds.all isNameD = true → xs = (ds.map valS).map V.str
  | _, _, .nil, _ => rfl
  | _, _, .cons h t, e => by
    rw [List.all_cons, Bool.and_eq_true] at e
    have r := dql_str t e.2
    cases h with
    | str x => rw [r]; rfl
    | _ => exact absurd e.1 Bool.false_ne_true
def spNames (ts : List Addr) : Sp := fun vs H Q _ => ∃ (v : V) (d : PyData) (Z : Addr → Prop), vs = [v] ∧ (∀ b ∈ ts, Z b) ∧ Tb ts H ∧ Dq Z H v d ∧ LenD 1 d ∧ ∀ G, Ms ts H G → Q (.bl (isNamesD d)) G
def spGraph (ts : List Addr) : Sp := fun vs H Q _ => ∃ (v : V) (d : PyData) (Z : Addr → Prop), vs = [v] ∧ (∀ b ∈ ts, Z b) ∧ Tb ts H ∧ Dq Z H v d ∧ LenD 2 d ∧ ∀ G, Ms ts H G → Q (.bl (isGraphD d)) G
section
variable {P : Program} {w : World} {K : PySem.W.Frag} {mg : Str → Option Value} {base : Heap} {ts : List Addr}
theorem ok_names {f c T fN cN TN : Addr} {fd fdN : FuncData} (F : FunC K "are_names" "are_names" sNames f fd c) (TB : GxR.TabB base mg c T) (hT : T ∈ ts) (FN : FunC K "is_name" "is_name" sName fN fdN cN) (TBN : GxR.TabB base mg cN TN) (hTN : TN ∈ ts) (gN : mg "is_name" = some (.ref fN)) (bN : L2.Binds K fdN ["value"] [])
    (N : Nm mg) (C : Cn K mg) : FnOk P w K mg base CX0 8 f fd ["value"] (spNames ts) := by
  have GN : FnOk P w K mg base CX0 4 fN fdN ["value"] (spName ts) := ok_name FN TBN hTN N C
  obtain ⟨tv, gv⟩ := C.vr
  have rv8 : RelV (.int 8) (Value.int 8 tv) := ⟨_, rfl⟩
  refine F.ok (k := 7) scNames (fun vs H Q E h => ?_) (fun A outer s H vs Q E hr h => ?_)
  · obtain ⟨v, d, Z, rfl, _⟩ := h
    rfl
  · obtain ⟨v, d, Z, rfl, hZ, tb, dq, hl, q⟩ := h
    refine ⟨_, pss_cons (ps_if (PW.pt (pw_or (pt_cmpR op_isNotTy (pe_callTy call_type1 (by rfl) N.typ (by decide +kernel) (pa_cons (pv 0) pa_nil)) (pe_bltn (u := .type "tuple") (by rfl) N.tup (by decide +kernel) (rt "tuple")) (nomark _))
          (pw_or1 (pt_not (pt_chain op_le op_le pe_int (pe_callB call_len_seq (by rfl) N.len PySem.boot_len (pa_cons (pv 0) pa_nil)) (pe_glob (by rfl) gv rv8)))))) (pss_one (ps_ret pe_bl)) pss_nil)
      (pss_one (ps_ret (pe_and (pe_allG (k := 4) (own := [("one", 1)]) (g := gName 1) (tt := tYes) hr (by rfl) N.all (by decide +kernel) TB rfl scNames.nd rfl (by decide +kernel) (by rfl)
          (blkOk_by (N := ["value", "one"]) (sc := defScope sNames) (by decide +kernel)) (pi_tup (pv 0)) (fun _ _ _ _ _ _ _ _ => pg_name (i := 1) scNames.nd rfl (Or.inl rfl)) (fun _ _ _ _ _ _ _ _ => pts_nil)
          (fun _ _ _ _ _ _ _ hr' => pe_call GN hr' (by rfl) gN FN.kp bN .nil pass0 (pa_cons (pv 1) pa_nil)) (fun _ => rfl))
        (pe_one (pe_cmpR op_eq (pe_lenSetT rfl (by rfl) N.len (by rfl) N.set (pv 0)) (pe_callB call_len_seq (by rfl) N.len PySem.boot_len (pa_cons (pv 0) pa_nil)) (nomark _)))))), ?_⟩
    refine ⟨v, rfl, v, tyD d, rfl, dq_ty dq, tyD d, "tuple", rfl, rfl, _, rfl, ite2 (fun c => iteT ?_) (fun c => ?_)⟩
    · have e : isNamesD d = false := by
        cases d with
        | tuple ds => simp [tyD] at c
        | _ => rfl
      have z := q H (Ms.rfl' tb)
      rw [e] at z
      exact z
    · obtain ⟨ds, rfl⟩ : ∃ ds, d = .tuple ds := by
        cases d with
        | tuple ds => exact ⟨ds, rfl⟩
        | _ => simp [tyD] at c
      obtain ⟨a, xs, rfl, ea, za, L⟩ : ∃ a xs, v = .ref a ∧ Rd H a (.tup xs) ∧ ¬ Z a ∧ DqL Z H xs ds := by
        cases dq with
        | tup e z h => exact ⟨_, _, rfl, e, z, h⟩
      have len := L.len
      have whole : isNamesD (.tuple ds) = ((decide (1 ≤ ds.length) && decide (ds.length ≤ 8)) && (ds.all isNameD && decide ((ds.map valS).Nodup))) := rfl
      have stay : ∀ {J : Hp}, Ms ts H J → Rd J a (.tup xs) := fun ms => rd_kp ms.1 (fun z => za (hZ _ z)) ea
      have no : ∀ {J : Hp}, Ms ts H J → isNamesD (.tuple ds) = false → Q (.bl false) J := fun {J} ms e => by
        have z := q J ms
        rw [e] at z
        exact z
      refine ⟨.ref a, rfl, a, xs, rfl, .inr (.inl ea), 1, (xs.length : Int), rfl, rfl, _, rfl, ifte (fun c3 => ⟨(xs.length : Int), 8, rfl, rfl, _, rfl, ?_⟩) (fun c3 => ⟨_, rfl, iteT (no (Ms.rfl' tb) ?_)⟩)⟩
      rotate_left
      · have z : decide (1 ≤ ds.length) = false := decide_eq_false (by have := of_decide_eq_false c3; omega)
        rw [whole, z, Bool.false_and, Bool.false_and]
      have l1 : decide (1 ≤ ds.length) = true := decide_eq_true (by have := of_decide_eq_true c3; omega)
      by_cases l2 : ds.length ≤ 8
      rotate_left
      · have e8 : decide ((xs.length : Int) ≤ 8) = false := decide_eq_false (by omega)
        rw [e8]
        refine iteT (no (Ms.rfl' tb) ?_)
        rw [whole, decide_eq_false l2, Bool.and_false, Bool.false_and]
      have e8 : decide ((xs.length : Int) ≤ 8) = true := decide_eq_true (by omega)
      rw [e8]
      refine iteF ?_
      have rest : isNamesD (.tuple ds) = (ds.all isNameD && decide ((ds.map valS).Nodup)) := by
        rw [whole, l1, decide_eq_true l2]
        rfl
      refine ⟨.ref a, rfl, a, rfl, ⟨xs, .inl ea⟩, tb T hT, fun H2 h2 => ?_⟩
      refine turns_tup (K := K) (a := a) (xs := xs) (fun i J => Ms ts H J ∧ (ds.take i).all isNameD = true) ⟨tb.tabbed h2 hT, rfl⟩ (fun i J _ h => .inl (stay h.1)) ?_ ?_
      · rintro i x J hx ⟨ms, hall⟩
        obtain ⟨di, hdi, dqi⟩ := L.get hx
        refine ⟨rfl, tyes ?_⟩
        refine ⟨x, rfl, x, di, Z, rfl, hZ, ms.2, dqi.kp (ms.1.wk hZ), (hl.2 ds rfl di (List.mem_of_getElem? hdi)), fun J2 m2 => ⟨_, rfl, ifte (fun c1 => ⟨ms.tr m2, ?_⟩) (fun c1 => ⟨false, rfl, iteF (no (ms.tr m2) ?_)⟩)⟩⟩
        · rw [List.take_add_one, hdi, List.all_append, hall]
          simpa using c1
        · have z : ds.all isNameD = false := by
            rw [List.all_eq_false]
            exact ⟨di, List.mem_of_getElem? hdi, by rw [c1]; exact Bool.false_ne_true⟩
          rw [rest, z, Bool.false_and]
      · rintro J ⟨ms, hall⟩
        rw [L.len, List.take_length] at hall
        have ex := dql_str L hall
        have hJ := stay ms
        refine ⟨true, rfl, iteT ⟨.ref a, rfl, a, ds.map valS, rfl, .inl (by rw [← ex]; exact hJ), by rw [List.length_map]; omega, .ref a, rfl, a, xs, rfl, .inr (.inl hJ), rfl, ?_⟩⟩
        have z := q J ms
        rw [rest, hall, Bool.true_and] at z
        have nd := dcT_eq (ws := ds.map valS) (i := (ds.map valS).length) (Nat.le_refl _)
        rw [List.take_length] at nd
        have e : decide (V.int (dcT (ds.map valS) (ds.map valS).length : Nat) = V.int (xs.length : Int)) = decide ((ds.map valS).Nodup) := by
          have lx : xs.length = (ds.map valS).length := by rw [List.length_map, len]
          rw [lx]
          by_cases y : (ds.map valS).Nodup
          · rw [decide_eq_true y, decide_eq_true (by rw [nd.mpr y])]
          · rw [decide_eq_false y, decide_eq_false (fun u => y (nd.mp (by have := V.int.inj u; omega)))]
        rw [e]
        exact z
end
end GR

namespace GR
open PySem PySem.Spec PyProof.Rows L2 KL KG KS
/-- the defs that is_graph stands on -/
structure Pg (K : PySem.W.Frag) (mg : Str → Option Value) (base : Heap) (ts : List Addr) (fL fA cL TL fN cN TN fM cM TM fR cR TR fH cH TH : Addr) (fdL fdA fdN fdM fdR fdH : FuncData) : Prop where
  nm : Nm mg
  cn : Cn K mg
  lo : Lo K mg base ts fL fA cL TL fdL fdA
  N : FunC K "is_name" "is_name" sName fN fdN cN
  tN : GxR.TabB base mg cN TN
  mN : TN ∈ ts
  gN : mg "is_name" = some (.ref fN)
  bN : L2.Binds K fdN ["value"] []
  M : FunC K "are_names" "are_names" sNames fM fdM cM
  tM : GxR.TabB base mg cM TM
  mM : TM ∈ ts
  gM : mg "are_names" = some (.ref fM)
  bM : L2.Binds K fdM ["value"] []
  R : FunC K "are_arrows" "are_arrows" sArr fR fdR cR
  tR : GxR.TabB base mg cR TR
  mR : TR ∈ ts
  gR : mg "are_arrows" = some (.ref fR)
  bR : L2.Binds K fdR ["count", "value"] []
  H : FunC K "are_hidden_lots" "are_hidden_lots" sHid fH fdH cH
  tH : GxR.TabB base mg cH TH
  mH : TH ∈ ts
  gH : mg "are_hidden_lots" = some (.ref fH)
  bH : L2.Binds K fdH ["count", "value"] []
theorem names_tup {Z : Addr → Prop} {H : Hp} {v : V} {d : PyData} (h : Dq Z H v d) (e : isNamesD d = true) : ∃ a xs, v = .ref a ∧ Rd H a (.tup xs) ∧ xs.length = lenD d := by
  cases h with
  | @tup a xs ds e1 z L => exact ⟨a, xs, rfl, e1, L.len⟩
  | _ => exact absurd e Bool.false_ne_true
section
variable {P : Program} {w : World} {K : PySem.W.Frag} {mg : Str → Option Value} {base : Heap} {ts : List Addr} {fL fA cL TL fN cN TN fM cM TM fR cR TR fH cH TH : Addr} {fdL fdA fdN fdM fdR fdH : FuncData}
theorem ok_graph {f : Addr} {fd : FuncData} (F : Fun K "is_graph" "is_graph" sGraph f fd) (S : Pg K mg base ts fL fA cL TL fN cN TN fM cM TM fR cR TR fH cH TH fdL fdA fdN fdM fdR fdH) : FnOk P w K mg base CX0 9 f fd ["value"] (spGraph ts) := by
  have GM : FnOk P w K mg base CX0 8 fM fdM ["value"] (spNames ts) := ok_names S.M S.tM S.mM S.N S.tN S.mN S.gN S.bN S.nm S.cn
  have GR' : FnOk P w K mg base CX0 8 fR fdR ["count", "value"] (spArr ts) := ok_arr S.R S.tR S.mR S.lo S.nm
  have GH : FnOk P w K mg base CX0 8 fH fdH ["count", "value"] (spHid ts) := ok_hid S.H S.tH S.mH S.lo S.nm S.cn.hd
  have N := S.nm
  refine F.ok (k := 8) scGraph (fun vs H Q E h => ?_) (fun cdv A outer s H vs Q E hr h => ?_)
  · obtain ⟨v, d, Z, rfl, _⟩ := h
    rfl
  · obtain ⟨v, d, Z, rfl, hZ, tb, dq, hl, q⟩ := h
    refine ⟨_, pss_cons (ps_if (PW.pt (pw_or (pt_cmpR op_isNotTy (pe_callTy call_type1 (by rfl) N.typ (by decide +kernel) (pa_cons (pv 0) pa_nil)) (pe_bltn (u := .type "tuple") (by rfl) N.tup (by decide +kernel) (rt "tuple")) (nomark _))
          (pw_or1 (pt_cmpR op_ne (pe_callB call_len_seq (by rfl) N.len PySem.boot_len (pa_cons (pv 0) pa_nil)) pe_int (nomark _))))) (pss_one (ps_ret pe_bl)) pss_nil)
      (pss_cons (ps_asg (pv 0) (pg_tup rfl (pgs_cons (pg_name (i := 1) scGraph.nd rfl (.inl rfl)) (pgs_cons (pg_name (i := 2) scGraph.nd rfl (.inl rfl)) (pgs_cons (pg_name (i := 3) scGraph.nd rfl (.inl rfl)) pgs_nil)))))
      (pss_one (ps_ret (pe_and (pe_call GM hr (by rfl) S.gM S.M.kp S.bM .nil pass0 (pa_cons (pv 1) pa_nil))
        (pe_and (pe_call GR' hr (by rfl) S.gR S.R.kp S.bR .nil pass0 (pa_cons (pe_callB call_len_seq (by rfl) N.len PySem.boot_len (pa_cons (pv 1) pa_nil)) (pa_cons (pv 2) pa_nil)))
          (pe_one (pe_call GH hr (by rfl) S.gH S.H.kp S.bH .nil pass0 (pa_cons (pe_callB call_len_seq (by rfl) N.len PySem.boot_len (pa_cons (pv 1) pa_nil)) (pa_cons (pv 3) pa_nil))))))))), ?_⟩
    refine ⟨v, rfl, v, tyD d, rfl, dq_ty dq, tyD d, "tuple", rfl, rfl, _, rfl, ite2 (fun c => iteT ?_) (fun c => ?_)⟩
    · have e : isGraphD d = false := by
        cases d with
        | tuple ds => simp [tyD] at c
        | _ => rfl
      have z := q H (Ms.rfl' tb)
      rw [e] at z
      exact z
    · obtain ⟨ds, rfl⟩ : ∃ ds, d = .tuple ds := by
        cases d with
        | tuple ds => exact ⟨ds, rfl⟩
        | _ => simp [tyD] at c
      obtain ⟨a, xs, rfl, ea, za, L⟩ : ∃ a xs, v = .ref a ∧ Rd H a (.tup xs) ∧ ¬ Z a ∧ DqL Z H xs ds := by
        cases dq with
        | tup e z h => exact ⟨_, _, rfl, e, z, h⟩
      have len := L.len
      have no : ∀ {J : Hp}, Ms ts H J → isGraphD (.tuple ds) = false → Q (.bl false) J := fun {J} ms e => by
        have z := q J ms
        rw [e] at z
        exact z
      refine ⟨.ref a, rfl, a, xs, rfl, .inr (.inl ea), rfl, _, rfl, ifte (fun c2 => no (Ms.rfl' tb) ?_) (fun c2 => ?_)⟩
      · have z : ds.length ≠ 3 := fun y => by
          rw [len, y] at c2
          simp at c2
        match ds, z with
        | [], _ => rfl
        | [_], _ => rfl
        | [_, _], _ => rfl
        | [_, _, _], z => exact absurd rfl z
        | _ :: _ :: _ :: _ :: _, _ => rfl
      have three : ds.length = 3 := by
        by_cases y : ds.length = 3
        · exact y
        · have z : decide (V.int (xs.length : Int) = V.int 3) = false := decide_eq_false (fun u => y (by have := V.int.inj u; omega))
          rw [z] at c2
          cases c2
      obtain ⟨n, r, l, rfl⟩ : ∃ n r l, ds = [n, r, l] := by
        match ds, three with
        | [n, r, l], _ => exact ⟨n, r, l, rfl⟩
      cases L with
      | @cons v1 _ _ _ q1 L =>
      cases L with
      | @cons v2 _ _ _ q2 L =>
      cases L with
      | @cons v3 _ _ _ q3 L =>
      cases L
      have whole : isGraphD (.tuple [n, r, l]) = (isNamesD n && (isArrD (lenD n : Int) r && isHidD (lenD n : Int) l)) := rfl
      have l1 := hl.2 _ rfl n (by simp)
      have l2 := hl.2 _ rfl r (by simp)
      have l3 := hl.2 _ rfl l (by simp)
      refine ⟨.ref a, rfl, a, _, rfl, .inl ea, rfl, v1, _, rfl, v2, _, rfl, v3, _, rfl, rfl, ?_⟩
      refine ⟨v1, rfl, v1, n, Z, rfl, hZ, tb, q1, l1, fun J1 m1 => ⟨_, rfl, ifte (fun c3 => ?_) (fun c3 => no m1 (by rw [whole, c3, Bool.false_and]))⟩⟩
      obtain ⟨b, ys, rfl, eb, ly⟩ := names_tup (q1.kp (m1.1.wk hZ)) c3
      refine ⟨.ref b, rfl, b, ys, rfl, .inr (.inl eb), v2, rfl, (ys.length : Int), v2, r, Z, rfl, hZ, m1.2, q2.kp (m1.1.wk hZ), l2, fun J2 m2 => ⟨_, rfl, ?_⟩⟩
      rw [ly]
      refine ifte (fun c4 => ?_) (fun c4 => no (m1.tr m2) (by rw [whole, c3, c4]; rfl))
      have m12 := m1.tr m2
      obtain ⟨b', ys', e', eb', ly'⟩ := names_tup (q1.kp (m12.1.wk hZ)) c3
      cases e'
      refine ⟨.ref b, rfl, b, ys', rfl, .inr (.inl eb'), v3, rfl, (ys'.length : Int), v3, l, Z, rfl, hZ, m12.2, q3.kp (m12.1.wk hZ), l3, fun J3 m3 => ?_⟩
      have z := q J3 (m12.tr m3)
      rw [whole, c3, c4, Bool.true_and, Bool.true_and] at z
      rw [ly']
      exact z
end
end GR

namespace GR
open PySem PySem.Spec PyProof.Rows L2 KL KG KS
abbrev sNeed : Stmt := topS 18
abbrev sLotOf : Stmt := topS 12
theorem scNeed : FnScope ["graph"] ["graph"] (defScope sNeed) := ⟨rfl, rfl, rfl, by decide +kernel, rfl, by decide +kernel, by decide +kernel⟩
theorem scLotOf : FnScope ["graph", "value"] ["graph", "value"] (defScope sLotOf) := ⟨rfl, rfl, rfl, by decide +kernel, rfl, by decide +kernel, by decide +kernel⟩
/-- a right graph is handed -/
def spNeed (ts : List Addr) : Sp := fun vs H Q _ => ∃ (v : V) (d : PyData) (Z : Addr → Prop), vs = [v] ∧ (∀ b ∈ ts, Z b) ∧ Tb ts H ∧ Dq Z H v d ∧ LenD 2 d ∧ isGraphD d = true ∧ ∀ G, Ms ts H G → Q .non G
def spLotOf (ts : List Addr) : Sp := fun vs H Q _ => ∃ (v u : V) (n r l e : PyData) (Z : Addr → Prop), vs = [v, u] ∧ (∀ b ∈ ts, Z b) ∧ Tb ts H ∧ Dq Z H v (.tuple [n, r, l]) ∧ LenD 2 (.tuple [n, r, l]) ∧ isGraphD (.tuple [n, r, l]) = true ∧ Dq Z H u e ∧ LenOk e ∧ ∀ G, Ms ts H G → Q (.bl (isLotD (lenD n : Int) e)) G
section
variable {P : Program} {w : World} {K : PySem.W.Frag} {mg : Str → Option Value} {base : Heap} {ts : List Addr} {fL fA cL TL fN cN TN fM cM TM fR cR TR fH cH TH : Addr} {fdL fdA fdN fdM fdR fdH : FuncData}
theorem ok_need {f fG : Addr} {fd fdG : FuncData} (F : Fun K "need_graph" "need_graph" sNeed f fd) (FG : Fun K "is_graph" "is_graph" sGraph fG fdG) (gG : mg "is_graph" = some (.ref fG)) (bG : L2.Binds K fdG ["value"] []) (S : Pg K mg base ts fL fA cL TL fN cN TN fM cM TM fR cR TR fH cH TH fdL fdA fdN fdM fdR fdH) : FnOk P w K mg base CX0 10 f fd ["graph"] (spNeed ts) := by
  have GG : FnOk P w K mg base CX0 9 fG fdG ["value"] (spGraph ts) := ok_graph FG S
  refine F.ok (k := 9) scNeed (fun vs H Q E h => ?_) (fun cdv A outer s H vs Q E hr h => ?_)
  · obtain ⟨v, d, Z, rfl, _⟩ := h
    rfl
  · obtain ⟨v, d, Z, rfl, hZ, tb, dq, hl, hg, q⟩ := h
    refine ⟨_, pss_one (ps_if (pt_not (pt_val (pe_call GG hr (by rfl) gG FG.kp bG .nil pass0 (pa_cons (pv 0) pa_nil)))) pss_never pss_nil), ?_⟩
    exact ⟨v, rfl, v, d, Z, rfl, hZ, tb, dq, hl, fun G m => ⟨true, by rw [hg], iteF (q G m)⟩⟩
theorem ok_lotof {f fG fE : Addr} {fd fdG fdE : FuncData} (F : Fun K "is_lot_of" "is_lot_of" sLotOf f fd) (FG : Fun K "is_graph" "is_graph" sGraph fG fdG) (gG : mg "is_graph" = some (.ref fG)) (bG : L2.Binds K fdG ["value"] []) (FE : Fun K "need_graph" "need_graph" sNeed fE fdE) (gE : mg "need_graph" = some (.ref fE)) (bE : L2.Binds K fdE ["graph"] [])
    (S : Pg K mg base ts fL fA cL TL fN cN TN fM cM TM fR cR TR fH cH TH fdL fdA fdN fdM fdR fdH) : FnOk P w K mg base CX0 11 f fd ["graph", "value"] (spLotOf ts) := by
  have GE : FnOk P w K mg base CX0 10 fE fdE ["graph"] (spNeed ts) := ok_need FE FG gG bG S
  have GL : FnOk P w K mg base CX0 4 fL fdL ["count", "value"] (spLot ts) := S.lo.ok S.nm
  refine F.ok (k := 10) scLotOf (fun vs H Q E h => ?_) (fun cdv A outer s H vs Q E hr h => ?_)
  · obtain ⟨v, u, n, r, l, e, Z, rfl, _⟩ := h
    rfl
  · obtain ⟨v, u, n, r, l, e, Z, rfl, hZ, tb, dq, hl, hg, du, hu, q⟩ := h
    refine ⟨_, pss_cons (ps_expr (pe_call GE hr (by rfl) gE FE.kp bE .nil pass0 (pa_cons (pv 0) pa_nil)))
      (pss_one (ps_ret (pe_call GL (hr.mono (by decide)) (by rfl) S.lo.gL S.lo.L.fn.kp S.lo.bL .nil pass0 (pa_cons (pe_callB call_len_seq (by rfl) S.nm.len PySem.boot_len (pa_cons (pe_ix ix_tup (pv 0) pe_int (fun _ _ => rfl)) pa_nil)) (pa_cons (pv 1) pa_nil))))), ?_⟩
    refine ⟨v, rfl, v, _, Z, rfl, hZ, tb, dq, hl, hg, fun G m => ?_⟩
    have dq2 := dq.kp (m.1.wk hZ)
    have nok : isNamesD n = true := by
      have z : (isNamesD n && (isArrD (lenD n : Int) r && isHidD (lenD n : Int) l)) = true := hg
      rw [Bool.and_eq_true] at z
      exact z.1
    cases dq2 with
    | @tup a xs _ ea za L =>
    cases L with
    | @cons v1 _ _ _ q1 L =>
    obtain ⟨b, ys, rfl, eb, ly⟩ := names_tup q1 nok
    refine ⟨.ref a, rfl, a, _, 0, .ref b, rfl, rfl, .inl ea, atI_nat (j := 0) rfl, b, ys, rfl, .inr (.inl eb), u, rfl, (ys.length : Int), u, e, Z, rfl, hZ, m.2, du.kp (m.1.wk hZ), hu, fun J m2 => ?_⟩
    rw [ly]
    exact q J (m.tr m2)
end
end GR

namespace KS
open PySem PySem.Spec PyProof.Rows L2
/-- t.index(x), t a tuple of texts that has x -/
def rTidx (K : PySem.W.Frag) : V → List V → Hp → VK → Prop := fun x xs H Q => ∃ (a : Addr) (ws : List Str) (y : Str), x = .ref a ∧ xs = [.str y] ∧ SqT K H a (ws.map V.str) ∧ y ∈ ws ∧ Q (.int (ws.idxOf y : Nat)) H
theorem mt_tidx {X : Cx} : MtR X "tuple.index" (rTidx X.K) := by
  intro pins s σ H x xs v us Q I rx rxs h
  obtain ⟨a, ws, y, rfl, rfl, hq, hy, q⟩ := h
  cases rx
  obtain ⟨u, rfl, t, rfl⟩ := rxs.one
  obtain ⟨its, rv, pl, hz⟩ := I.tuple hq
  have sa : StrsAre its ws := strsAre_of rv
  refine SeqAt.call_tuple_index (vs := its) (ks := ws) (k := y) pl ⟨sa.length, fun j h1 h2 => ?_⟩ hy ⟨.int (ws.idxOf y : Nat), H, I.tok _, ⟨_, rfl⟩, q⟩
  obtain ⟨z, hz', t', e⟩ := strs_at sa j its[j] (List.getElem?_eq_getElem h1)
  rw [e]
  rw [List.getElem?_eq_getElem h2] at hz'
  obtain rfl := Option.some.inj hz'
  have e2 : (ws[j] == y) = decide (ws[j] = y) := by
    by_cases c : ws[j] = y
    · rw [decide_eq_true c]
      exact beq_iff_eq.mpr c
    · rw [decide_eq_false c]
      exact beq_eq_false_iff_ne.mpr c
  rw [← e2]
  exact SeqAt.EqAt.str_str _ _ _ _
end KS

namespace GR
open PySem PySem.Spec PyProof.Rows L2 KL KG KS
abbrev sParAt : Stmt := topS 17
theorem scParAt : FnScope ["graph", "variable", "arrow"] ["graph", "variable"] (defScope sParAt) := ⟨rfl, rfl, rfl, by decide +kernel, rfl, by decide +kernel, by decide +kernel⟩
def rowsD : PyData → List (List Int)
  | .tuple ds => ds.map rowD
  | _ => []
/-- the parents of a variable, by the arrows' rows -/
def parL (rows : List (List Int)) (at_ : Int) : List Int := (rows.filter fun w => decide (w.getD 1 0 = at_)).map fun w => w.getD 0 0
def spParAt (ts : List Addr) : Sp := fun vs H Q _ => ∃ (v : V) (m : Int) (n r l : PyData) (Z : Addr → Prop), vs = [v, .int m] ∧ (∀ b ∈ ts, Z b) ∧ Tb ts H ∧ Dq Z H v (.tuple [n, r, l]) ∧ LenD 2 (.tuple [n, r, l]) ∧ isArrD (lenD n : Int) r = true ∧
  ∀ (T : Addr) (G : Hp), Ms ts H G → H T = none → G T = some (.tup ((parL (rowsD r) m).map V.int)) → Q (.ref T) G
theorem arrow_rows {Z : Addr → Prop} {H : Hp} {c : Int} {v : V} {d : PyData} (h : Dq Z H v d) (e : isArrD c d = true) : ∃ a xs ds, d = .tuple ds ∧ v = .ref a ∧ Rd H a (.tup xs) ∧ ¬ Z a ∧ DqL Z H xs ds ∧ ds.all (fun e => isLotD c e && decide (lenD e = 2)) = true := by
  cases h with
  | @tup a xs ds e1 z L =>
    have e2 : (ds.all (fun e => isLotD c e && decide (lenD e = 2)) && ascR (ds.map rowD)) = true := e
    rw [Bool.and_eq_true] at e2
    exact ⟨a, xs, ds, rfl, rfl, e1, z, L, e2.1⟩
  | _ => exact absurd e Bool.false_ne_true
section
variable {P : Program} {w : World} {K : PySem.W.Frag} {mg : Str → Option Value} {base : Heap} {ts : List Addr}
theorem ok_parat {f c T : Addr} {fd : FuncData} (F : FunC K "parents_at" "parents_at" sParAt f fd c) (TB : GxR.TabB base mg c T) (hT : T ∈ ts) (mt : mg "tuple" = none) : FnOk P w K mg base CX0 6 f fd ["graph", "variable"] (spParAt ts) := by
  refine F.ok (k := 5) scParAt (fun vs H Q E h => ?_) (fun A outer s H vs Q E hr h => ?_)
  · obtain ⟨v, m, n, r, l, Z, rfl, _⟩ := h
    rfl
  · obtain ⟨v, m, n, r, l, Z, rfl, hZ, tb, dq, hl, ha, q⟩ := h
    refine ⟨_, pss_one (ps_ret (pe_tupG (k := 0) (own := [("arrow", 2)]) (g := gName 2) hr (by rfl) mt (by decide +kernel) TB rfl scParAt.nd rfl (by decide +kernel) (by rfl)
          (blkOk_by (N := ["graph", "variable", "arrow"]) (sc := defScope sParAt) (by decide +kernel)) (pi_tup (pe_ix (show IxR _ (rIxT K) from ix_tup) (pv 0) pe_int (fun _ _ => rfl))) (fun _ _ _ _ _ _ _ _ => pg_name (i := 2) scParAt.nd rfl (Or.inl rfl))
          (fun _ _ _ _ _ _ _ _ => pts_one (pt_cmpR op_eq (pe_ix (show IxR _ (rIxT K) from ix_tup) (pv 2) pe_int (fun _ _ => rfl)) (pv 1) (nomark _)))
          (fun _ _ _ _ _ _ _ _ => pe_ix (show IxR _ (rIxT K) from ix_tup) (pv 2) pe_int (fun _ _ => rfl)) (fun _ => rfl))), ?_⟩
    cases dq with
    | @tup a _ _ ea za L =>
    cases L with
    | @cons v1 _ _ _ q1 L =>
    cases L with
    | @cons v2 _ _ _ q2 L =>
    obtain ⟨b, ys, ds, rfl, rfl, eb, zb, M, all⟩ := arrow_rows q2 ha
    have hlen : ds.length ≤ 1000000 := (hl.2 _ rfl (.tuple ds) (by simp)).1
    refine ⟨.ref a, rfl, a, _, 1, .ref b, rfl, rfl, .inl ea, atI_nat (j := 1) rfl, b, rfl, ⟨ys, .inl eb⟩, tb T hT, fun H2 h2 D nD => ?_⟩
    have m2 := tb.tabbed h2 hT
    have dZ : ∀ {x : Addr} {o : HO}, H x = some o → ¬ Z x → H2 x = some o := fun e z => m2.1 _ _ (fun y => z (hZ _ y)) e
    have nDH : H D = none ∨ D ∈ ts := by
      cases z : H D with
      | none => exact .inl rfl
      | some o =>
        by_cases y : D ∈ ts
        · exact .inr y
        · have := m2.1 D o y z
          rw [nD] at this
          cases this
    have nDt : D ∉ ts := fun y => by
      obtain ⟨ps, e, _⟩ := m2.2 D y
      rw [nD] at e
      cases e
    have nDH' : H D = none := nDH.elim id fun y => absurd y nDt
    have keep : ∀ {J : Hp} {o : HO}, Ms ts H J → Ms ts H (upd J D o) := fun {J o} ms => ⟨fun b o nb e => by
      rw [upd_ne (ne_of_none e nDH')]
      exact ms.1 b o nb e, fun P hP => by
      obtain ⟨ps, e, t⟩ := ms.2 P hP
      have : P ≠ D := fun z => nDt (z ▸ hP)
      exact ⟨ps, by rw [upd_ne this]; exact e, t⟩⟩
    refine turns_tup (K := K) (a := b) (xs := ys) (fun i J => Ms ts H J ∧ J D = some (.lst ((parL ((ds.take i).map rowD) m).map V.int))) ⟨keep m2, upd_same⟩ (fun i J _ h => .inl (rd_kp h.1.1 (fun y => zb (hZ _ y)) eb)) ?_ ?_
    · rintro i x J hx ⟨ms, eJ⟩
      obtain ⟨di, hdi, dqi⟩ := M.get hx
      have hi := List.all_eq_true.mp all di (List.mem_of_getElem? hdi)
      rw [Bool.and_eq_true] at hi
      obtain ⟨e, rfl, ee, ze, el⟩ := lot_tup (dqi.kp (ms.1.wk hZ)) hi.1
      have two : (rowD di).length = 2 := by rw [← el]; exact of_decide_eq_true hi.2
      obtain ⟨p, s', hrow⟩ : ∃ p s', rowD di = [p, s'] := by
        match rowD di, two with
        | [p, s'], _ => exact ⟨p, s', rfl⟩
      rw [hrow] at ee
      have small : (parL ((ds.take i).map rowD) m).length ≤ 1000000 := by
        unfold parL
        rw [List.length_map]
        refine Nat.le_trans (List.length_filter_le _ _) ?_
        rw [List.length_map, List.length_take]
        omega
      have nxt : parL ((ds.take (i + 1)).map rowD) m = parL ((ds.take i).map rowD) m ++ (if s' = m then [p] else []) := by
        unfold parL
        rw [List.take_add_one, hdi, List.map_append, List.filter_append, List.map_append]
        congr 1
        show (List.filter _ [rowD di]).map _ = _
        rw [hrow]
        by_cases z : s' = m
        · simp [z]
        · simp [z]
      refine ⟨rfl, .ref e, rfl, e, _, 1, .int s', rfl, rfl, .inl ee, atI_nat (j := 1) rfl, .int m, rfl, rfl, _, rfl, ifte (fun c1 => ?_) (fun c1 => ?_)⟩
      · have z : s' = m := V.int.inj (of_decide_eq_true c1)
        refine ⟨.ref e, rfl, e, _, 0, .int p, rfl, rfl, .inl ee, atI_nat (j := 0) rfl, _, eJ, by rw [List.length_map, sizeLine_eq]; omega, keep ms, ?_⟩
        rw [upd_same, nxt, if_pos z, List.map_append]
        rfl
      · have z : s' ≠ m := fun y => by
          have := of_decide_eq_false c1
          exact this (congrArg V.int y)
        refine ⟨ms, ?_⟩
        rw [nxt, if_neg z, List.append_nil]
        exact eJ
    · rintro J ⟨ms, eJ⟩
      rw [M.len, List.take_length] at eJ
      refine ⟨_, eJ, fun T nT => q T _ (ms.new nT) ?_ upd_same⟩
      cases z : H T with
      | none => rfl
      | some o =>
        by_cases y : T ∈ ts
        · obtain ⟨ps, e, _⟩ := ms.2 T y
          rw [nT] at e
          cases e
        · have := ms.1 T o y z
          rw [nT] at this
          cases this
end
end GR

namespace KS
open PySem PySem.Spec PyProof.Rows L2
/-- t.m(..), t a frozen tuple whose object has no dict -/
def tBmF (r : V → List V → Hp → VK → Prop) (to : TE) (t : TA) : TE := fun σ H Q => to σ H fun x H1 => (∃ (b : Addr) (o : Obj) (xs : List V), x = .ref b ∧ H1 b = some (.frz o (.tup xs)) ∧ o.dict = none) ∧ t σ H1 fun ys H2 => r x ys H2 Q
theorem pe_bmF {X : Cx} {o e : Expr} {es : List Expr} {to : TE} {t : TA} {name : Str} {apos cpos : Pos} {id : String} {r : V → List V → Hp → VK → Prop} (slot : Slot "tuple" name id) (md : typeOf (.builtin id) = pure (.type "method_descriptor")) (hm : MtR X id r) (ho : PE X o to) (ha : PA X (e :: es) t)
    (f1 : attributeBase o name X.env (eval o X.env) = eval o X.env := by rfl) (f2 : ((backTo cpos (starEach (e :: es) X.env)).all (fun x => !x.1) && (backToKw cpos (keywordEach [] X.env)).all (fun x => x.1.isSome) && decide ((e :: es).length + ([] : List Keyword).length + (if ([] : List Keyword).isEmpty then 0 else 1) < 30)) = true := by rfl)
    (f3 : (apos.endLine == cpos.line) = true := by rfl) (f4 : starEach (e :: es) X.env = (false, eval e X.env) :: starEach es X.env := by rfl) (f5 : (backTo cpos (starEach es X.env)).any (·.1) = false := by rfl) :
    PE X (.Call (.Attribute o name apos) (e :: es) [] cpos) (tBmF r to t) := by
  refine ⟨fun pins s σ H Q I h => wpAny_Call_method_late f1 f2 f3 rfl (thn (ho.run pins s σ H _ I h) fun v s1 z => ?_)⟩
  obtain ⟨x, H1, I1, rx, ⟨b, ob, xs, rfl, hf, hd⟩, q⟩ := z
  cases rx
  obtain ⟨hb, ok⟩ : ObjOk X.prog X.w H1 s1.heap b (.frz ob (.tup xs)) := I1.hok b _ hf
  obtain ⟨its, rv, ⟨o2, e2, c2, _⟩, _⟩ := I1.tuple (xs := xs) (.inl (.inr ⟨ob, hf⟩))
  have run := ha.run cpos pins s1 σ H1 _ I1 q
  rw [f4] at run ⊢
  refine ⟨"tuple", id, PySem.F.plainAttrs_tuple, slot, md, ⟨o2, e2, c2⟩, fun a z => ⟨ob, by cases z; exact hb, hd⟩, Calls.callWith_builtin (by show (false || (backTo cpos (starEach es X.env)).any (·.1)) = false; rw [f5] <;> rfl) (Calls.evalArgs_plain (thn run fun us s2 z2 => ?_))⟩
  obtain ⟨ys, H2, I2, r2, q2⟩ := z2
  exact hm pins s2 σ H2 (.ref b) ys _ us Q I2 rfl r2 q2
end KS
namespace GR
open PySem PySem.Spec PyProof.Rows L2 KL KG KS
abbrev sIdx : Stmt := topS 13
theorem scIdx : FnScope ["graph", "name"] ["graph", "name"] (defScope sIdx) := ⟨rfl, rfl, rfl, by decide +kernel, rfl, by decide +kernel, by decide +kernel⟩
/-- the names of a graph's first part -/
def strsD : PyData → List Str
  | .tuple ds => ds.map valS
  | _ => []
theorem names_strs {Z : Addr → Prop} {H : Hp} {v : V} {d : PyData} (h : Dq Z H v d) (e : isNamesD d = true) : ∃ a, v = .ref a ∧ Rd H a (.tup ((strsD d).map V.str)) ∧ ¬ Z a := by
  cases h with
  | @tup a xs ds e1 z L =>
    have e2 : ((decide (1 ≤ ds.length) && decide (ds.length ≤ 8)) && (ds.all isNameD && decide ((ds.map valS).Nodup))) = true := e
    simp only [Bool.and_eq_true] at e2
    refine ⟨a, rfl, ?_, z⟩
    show Rd H a (.tup ((ds.map valS).map V.str))
    rw [← dql_str L e2.2.1]
    exact e1
  | _ => exact absurd e Bool.false_ne_true
theorem in_strs {y : Str} {ws : List Str} (h : y ∈ ws) : inV (.str y) (ws.map V.str) = true := by
  unfold inV
  rw [List.any_eq_true]
  exact ⟨.str y, List.mem_map.mpr ⟨y, h, rfl⟩, beq_self_eq_true y⟩
theorem flat_strs (ws : List Str) : (ws.map V.str).all flatV = true := by
  rw [List.all_eq_true]
  intro x hx
  obtain ⟨y, _, rfl⟩ := List.mem_map.mp hx
  rfl
/-- the names' tuple of a graph is a frozen one -/
def FzNames (H : Hp) (v : V) : Prop := ∃ (a b : Addr) (xs ys : List V) (o : Obj), v = .ref a ∧ Rd H a (.tup (.ref b :: xs)) ∧ H b = some (.frz o (.tup ys)) ∧ o.dict = none
/-- a right graph and a name of it are handed: its place -/
def spIdx (ts : List Addr) : Sp := fun vs H Q _ => ∃ (v : V) (y : Str) (n r l : PyData) (Z : Addr → Prop), vs = [v, .str y] ∧ (∀ b ∈ ts, Z b) ∧ Tb ts H ∧ Dq Z H v (.tuple [n, r, l]) ∧ FzNames H v ∧ LenD 2 (.tuple [n, r, l]) ∧ isGraphD (.tuple [n, r, l]) = true ∧ y ∈ strsD n ∧ ∀ G, Ms ts H G → Q (.int ((strsD n).idxOf y : Nat)) G
section
variable {P : Program} {w : World} {K : PySem.W.Frag} {mg : Str → Option Value} {base : Heap} {ts : List Addr} {fL fA cL TL fN cN TN fM cM TM fR cR TR fH cH TH : Addr} {fdL fdA fdN fdM fdR fdH : FuncData}
theorem ok_idx {f fG fE : Addr} {fd fdG fdE : FuncData} (F : Fun K "index_of" "index_of" sIdx f fd) (FG : Fun K "is_graph" "is_graph" sGraph fG fdG) (gG : mg "is_graph" = some (.ref fG)) (bG : L2.Binds K fdG ["value"] []) (FE : Fun K "need_graph" "need_graph" sNeed fE fdE) (gE : mg "need_graph" = some (.ref fE)) (bE : L2.Binds K fdE ["graph"] [])
    (S : Pg K mg base ts fL fA cL TL fN cN TN fM cM TM fR cR TR fH cH TH fdL fdA fdN fdM fdR fdH) : FnOk P w K mg base CX0 11 f fd ["graph", "name"] (spIdx ts) := by
  have GE : FnOk P w K mg base CX0 10 fE fdE ["graph"] (spNeed ts) := ok_need FE FG gG bG S
  refine F.ok (k := 10) scIdx (fun vs H Q E h => ?_) (fun cdv A outer s H vs Q E hr h => ?_)
  · obtain ⟨v, y, n, r, l, Z, rfl, _⟩ := h
    rfl
  · obtain ⟨v, y, n, r, l, Z, rfl, hZ, tb, dq, fz, hl, hg, hy, q⟩ := h
    refine ⟨_, pss_cons (ps_expr (pe_call GE hr (by rfl) gE FE.kp bE .nil pass0 (pa_cons (pv 0) pa_nil)))
      (pss_cons (ps_if (PW.pt (pw_or (pt_cmpR op_isNotTy (pe_callTy call_type1 (by rfl) S.nm.typ (by decide +kernel) (pa_cons (pv 1) pa_nil)) (pe_bltn (u := .type "str") (by rfl) S.nm.str (by decide +kernel) (rt "str")) (nomark _))
          (pw_or1 (pt_cmpR op_notIn_seq (pv 1) (pe_ix ix_tup (pv 0) pe_int (fun _ _ => rfl)) (by with_unfolding_all rfl))))) pss_never pss_nil)
      (pss_one (ps_ret (pe_bmF PySem.F.slot_tuple_index PySem.F.type_tuple_index mt_tidx (pe_ix ix_tup (pv 0) pe_int (fun _ _ => rfl)) (pa_cons (pv 1) pa_nil))))), ?_⟩
    obtain ⟨a0, b0, xs0, ys0, o0, rfl, ra, hb, hd⟩ := fz
    refine ⟨.ref a0, rfl, .ref a0, _, Z, rfl, hZ, tb, dq, hl, hg, fun G m => ?_⟩
    have nok : isNamesD n = true := by
      have z : (isNamesD n && (isArrD (lenD n : Int) r && isHidD (lenD n : Int) l)) = true := hg
      rw [Bool.and_eq_true] at z
      exact z.1
    cases dq with
    | @tup _ xs _ ea za L =>
    cases L with
    | @cons v1 _ _ _ q1 L =>
    obtain ⟨b, rfl, eb, zb⟩ := names_strs q1 nok
    have same : b = b0 := by
      rcases ra with ra | ⟨o, ra⟩ <;> rcases ea with ea | ⟨o', ea⟩ <;> rw [ra] at ea <;> cases ea <;> rfl
    subst same
    have ea2 := rd_kp m.1 (fun z => za (hZ _ z)) ea
    have eb2 := rd_kp m.1 (fun z => zb (hZ _ z)) eb
    have hb2 : G b = some (.frz o0 (.tup ys0)) := m.1 _ _ (fun z => zb (hZ _ z)) hb
    refine ⟨.str y, rfl, .str y, "str", rfl, .str y, "str", "str", rfl, rfl, _, rfl, iteF ?_⟩
    refine ⟨.str y, rfl, .ref a0, rfl, a0, _, 0, .ref b, rfl, rfl, .inl ea2, atI_nat (j := 0) rfl, b, (strsD n).map V.str, rfl, .inr (.inl eb2), rfl, flat_strs _, _, rfl, ?_⟩
    have z : (if true = true then !inV (.str y) ((strsD n).map V.str) else inV (.str y) ((strsD n).map V.str)) = false := by rw [in_strs hy]; rfl
    rw [z]
    refine iteF ⟨.ref a0, rfl, a0, _, 0, .ref b, rfl, rfl, .inl ea2, atI_nat (j := 0) rfl, ⟨b, o0, ys0, rfl, hb2, hd⟩, .str y, rfl, b, strsD n, y, rfl, rfl, .inl eb2, hy, q G m⟩
end
end GR

namespace GR
open PySem PySem.Spec PyProof.Rows L2 KL KG KS
abbrev sChi : Stmt := topS 15
theorem scChi : FnScope ["graph", "name", "start", "arrow"] ["graph", "name"] (defScope sChi) := ⟨rfl, rfl, rfl, by decide +kernel, rfl, by decide +kernel, by decide +kernel⟩
/-- the children of a variable, by the arrows' rows -/
def chiL (rows : List (List Int)) (at_ : Int) : List Int := (rows.filter fun w => decide (w.getD 0 0 = at_)).map fun w => w.getD 1 0
def spChi (ts : List Addr) : Sp := fun vs H Q _ => ∃ (v : V) (y : Str) (n r l : PyData) (Z : Addr → Prop), vs = [v, .str y] ∧ (∀ b ∈ ts, Z b) ∧ Tb ts H ∧ Dq Z H v (.tuple [n, r, l]) ∧ FzNames H v ∧ LenD 2 (.tuple [n, r, l]) ∧ isGraphD (.tuple [n, r, l]) = true ∧ y ∈ strsD n ∧
  ∀ (T : Addr) (G : Hp), Ms ts H G → H T = none → G T = some (.tup ((chiL (rowsD r) ((strsD n).idxOf y : Nat)).map V.int)) → Q (.ref T) G
section
variable {P : Program} {w : World} {K : PySem.W.Frag} {mg : Str → Option Value} {base : Heap} {ts : List Addr} {fL fA cL TL fN cN TN fM cM TM fR cR TR fH cH TH : Addr} {fdL fdA fdN fdM fdR fdH : FuncData}
theorem ok_chi {f c T fX fG fE : Addr} {fd fdX fdG fdE : FuncData} (F : FunC K "children" "children" sChi f fd c) (TB : GxR.TabB base mg c T) (hT : T ∈ ts) (FX : Fun K "index_of" "index_of" sIdx fX fdX) (gX : mg "index_of" = some (.ref fX)) (bX : L2.Binds K fdX ["graph", "name"] []) (FG : Fun K "is_graph" "is_graph" sGraph fG fdG) (gG : mg "is_graph" = some (.ref fG)) (bG : L2.Binds K fdG ["value"] []) (FE : Fun K "need_graph" "need_graph" sNeed fE fdE) (gE : mg "need_graph" = some (.ref fE)) (bE : L2.Binds K fdE ["graph"] [])
    (S : Pg K mg base ts fL fA cL TL fN cN TN fM cM TM fR cR TR fH cH TH fdL fdA fdN fdM fdR fdH) : FnOk P w K mg base CX0 12 f fd ["graph", "name"] (spChi ts) := by
  have GX : FnOk P w K mg base CX0 11 fX fdX ["graph", "name"] (spIdx ts) := ok_idx FX FG gG bG FE gE bE S
  have mt := S.nm.tup
  refine F.ok (k := 11) scChi (fun vs H Q E h => ?_) (fun A outer s H vs Q E hr h => ?_)
  · obtain ⟨v, y, n, r, l, Z, rfl, _⟩ := h
    rfl
  · obtain ⟨v, y, n, r, l, Z, rfl, hZ, tb0, dq0, fz, hl, hg, hy, q0⟩ := h
    refine ⟨_, pss_cons (ps_set (i := 2) scChi.nd rfl (.inr rfl) (pe_call GX hr (by rfl) gX FX.kp bX .nil pass0 (pa_cons (pv 0) (pa_cons (pv 1) pa_nil)))) (pss_one (ps_ret (pe_tupG (k := 6) (own := [("arrow", 3)]) (g := gName 3) hr (by rfl) mt (by decide +kernel) TB rfl scChi.nd rfl (by decide +kernel) (by rfl)
          (blkOk_by (N := ["graph", "name", "start", "arrow"]) (sc := defScope sChi) (by decide +kernel)) (pi_tup (pe_ix (show IxR _ (rIxT K) from ix_tup) (pv 0) pe_int (fun _ _ => rfl))) (fun _ _ _ _ _ _ _ _ => pg_name (i := 3) scChi.nd rfl (Or.inl rfl))
          (fun _ _ _ _ _ _ _ _ => pts_one (pt_cmpR op_eq (pe_ix (show IxR _ (rIxT K) from ix_tup) (pv 3) pe_int (fun _ _ => rfl)) (pv 2) (nomark _)))
          (fun _ _ _ _ _ _ _ _ => pe_ix (show IxR _ (rIxT K) from ix_tup) (pv 3) pe_int (fun _ _ => rfl)) (fun _ => rfl)))), ?_⟩
    refine ⟨v, rfl, .str y, rfl, v, y, n, r, l, Z, rfl, hZ, tb0, dq0, fz, hl, hg, hy, fun H0 m0 => ?_⟩
    have ha : isArrD (lenD n : Int) r = true := by
      have z : (isNamesD n && (isArrD (lenD n : Int) r && isHidD (lenD n : Int) l)) = true := hg
      rw [Bool.and_eq_true, Bool.and_eq_true] at z
      exact z.2.1
    have q : ∀ (T : Addr) (G : Hp), Ms ts H0 G → H0 T = none → G T = some (.tup ((chiL (rowsD r) ((strsD n).idxOf y : Nat)).map V.int)) → Q (.ref T) G := fun T G mm nT e => q0 T G (m0.tr mm) (by
      cases z : H T with
      | none => rfl
      | some o =>
        by_cases u : T ∈ ts
        · obtain ⟨ps, e1, _⟩ := m0.2 T u
          rw [nT] at e1
          cases e1
        · have := m0.1 T o u z
          rw [nT] at this
          cases this) e
    have dq := dq0.kp (m0.1.wk hZ)
    have tb := m0.2
    clear q0 dq0 tb0 fz m0
    generalize H0 = H at q dq tb
    generalize hm : (((strsD n).idxOf y : Nat) : Int) = m at q
    cases dq with
    | @tup a _ _ ea za L =>
    cases L with
    | @cons v1 _ _ _ q1 L =>
    cases L with
    | @cons v2 _ _ _ q2 L =>
    obtain ⟨b, ys, ds, rfl, rfl, eb, zb, M, all⟩ := arrow_rows q2 ha
    have hlen : ds.length ≤ 1000000 := (hl.2 _ rfl (.tuple ds) (by simp)).1
    refine ⟨.ref a, rfl, a, _, 1, .ref b, rfl, rfl, .inl ea, atI_nat (j := 1) rfl, b, rfl, ⟨ys, .inl eb⟩, tb T hT, fun H2 h2 D nD => ?_⟩
    have m2 := tb.tabbed h2 hT
    have dZ : ∀ {x : Addr} {o : HO}, H x = some o → ¬ Z x → H2 x = some o := fun e z => m2.1 _ _ (fun y => z (hZ _ y)) e
    have nDH : H D = none ∨ D ∈ ts := by
      cases z : H D with
      | none => exact .inl rfl
      | some o =>
        by_cases y : D ∈ ts
        · exact .inr y
        · have := m2.1 D o y z
          rw [nD] at this
          cases this
    have nDt : D ∉ ts := fun y => by
      obtain ⟨ps, e, _⟩ := m2.2 D y
      rw [nD] at e
      cases e
    have nDH' : H D = none := nDH.elim id fun y => absurd y nDt
    have keep : ∀ {J : Hp} {o : HO}, Ms ts H J → Ms ts H (upd J D o) := fun {J o} ms => ⟨fun b o nb e => by
      rw [upd_ne (ne_of_none e nDH')]
      exact ms.1 b o nb e, fun P hP => by
      obtain ⟨ps, e, t⟩ := ms.2 P hP
      have : P ≠ D := fun z => nDt (z ▸ hP)
      exact ⟨ps, by rw [upd_ne this]; exact e, t⟩⟩
    refine turns_tup (K := K) (a := b) (xs := ys) (fun i J => Ms ts H J ∧ J D = some (.lst ((chiL ((ds.take i).map rowD) m).map V.int))) ⟨keep m2, upd_same⟩ (fun i J _ h => .inl (rd_kp h.1.1 (fun y => zb (hZ _ y)) eb)) ?_ ?_
    · rintro i x J hx ⟨ms, eJ⟩
      obtain ⟨di, hdi, dqi⟩ := M.get hx
      have hi := List.all_eq_true.mp all di (List.mem_of_getElem? hdi)
      rw [Bool.and_eq_true] at hi
      obtain ⟨e, rfl, ee, ze, el⟩ := lot_tup (dqi.kp (ms.1.wk hZ)) hi.1
      have two : (rowD di).length = 2 := by rw [← el]; exact of_decide_eq_true hi.2
      obtain ⟨p, s', hrow⟩ : ∃ p s', rowD di = [p, s'] := by
        match rowD di, two with
        | [p, s'], _ => exact ⟨p, s', rfl⟩
      rw [hrow] at ee
      have small : (chiL ((ds.take i).map rowD) m).length ≤ 1000000 := by
        unfold chiL
        rw [List.length_map]
        refine Nat.le_trans (List.length_filter_le _ _) ?_
        rw [List.length_map, List.length_take]
        omega
      have nxt : chiL ((ds.take (i + 1)).map rowD) m = chiL ((ds.take i).map rowD) m ++ (if p = m then [s'] else []) := by
        unfold chiL
        rw [List.take_add_one, hdi, List.map_append, List.filter_append, List.map_append]
        congr 1
        show (List.filter _ [rowD di]).map _ = _
        rw [hrow]
        by_cases z : p = m
        · simp [z]
        · simp [z]
      refine ⟨rfl, .ref e, rfl, e, _, 0, .int p, rfl, rfl, .inl ee, atI_nat (j := 0) rfl, .int m, rfl, rfl, _, rfl, ifte (fun c1 => ?_) (fun c1 => ?_)⟩
      · have z : p = m := V.int.inj (of_decide_eq_true c1)
        refine ⟨.ref e, rfl, e, _, 1, .int s', rfl, rfl, .inl ee, atI_nat (j := 1) rfl, _, eJ, by rw [List.length_map, sizeLine_eq]; omega, keep ms, ?_⟩
        rw [upd_same, nxt, if_pos z, List.map_append]
        rfl
      · have z : p ≠ m := fun y => by
          have := of_decide_eq_false c1
          exact this (congrArg V.int y)
        refine ⟨ms, ?_⟩
        rw [nxt, if_neg z, List.append_nil]
        exact eJ
    · rintro J ⟨ms, eJ⟩
      rw [M.len, List.take_length] at eJ
      refine ⟨_, eJ, fun T nT => q T _ (ms.new nT) ?_ upd_same⟩
      cases z : H T with
      | none => rfl
      | some o =>
        by_cases y : T ∈ ts
        · obtain ⟨ps, e, _⟩ := ms.2 T y
          rw [nT] at e
          cases e
        · have := ms.1 T o y z
          rw [nT] at this
          cases this
end
end GR

namespace GR
open PySem PySem.Spec PyProof.Rows L2 KL KG KS
abbrev sPar : Stmt := topS 14
theorem scPar : FnScope ["graph", "name"] ["graph", "name"] (defScope sPar) := ⟨rfl, rfl, rfl, by decide +kernel, rfl, by decide +kernel, by decide +kernel⟩
def spPar (ts : List Addr) : Sp := fun vs H Q _ => ∃ (v : V) (y : Str) (n r l : PyData) (Z : Addr → Prop), vs = [v, .str y] ∧ (∀ b ∈ ts, Z b) ∧ Tb ts H ∧ Dq Z H v (.tuple [n, r, l]) ∧ FzNames H v ∧ LenD 2 (.tuple [n, r, l]) ∧ isGraphD (.tuple [n, r, l]) = true ∧ y ∈ strsD n ∧
  ∀ (T : Addr) (G : Hp), Ms ts H G → H T = none → G T = some (.tup ((parL (rowsD r) ((strsD n).idxOf y : Nat)).map V.int)) → Q (.ref T) G
theorem ms_none {ts : List Addr} {H G : Hp} (m : Ms ts H G) {T : Addr} (n : G T = none) : H T = none := by
  cases z : H T with
  | none => rfl
  | some o =>
    by_cases u : T ∈ ts
    · obtain ⟨ps, e, _⟩ := m.2 T u
      rw [n] at e
      cases e
    · have := m.1 T o u z
      rw [n] at this
      cases this
section
variable {P : Program} {w : World} {K : PySem.W.Frag} {mg : Str → Option Value} {base : Heap} {ts : List Addr} {fL fA cL TL fN cN TN fM cM TM fR cR TR fH cH TH : Addr} {fdL fdA fdN fdM fdR fdH : FuncData}
theorem ok_par {f fA' cA TA fX fG fE : Addr} {fd fdA' fdX fdG fdE : FuncData} (F : Fun K "parents" "parents" sPar f fd) (FA : FunC K "parents_at" "parents_at" sParAt fA' fdA' cA) (TB : GxR.TabB base mg cA TA) (hT : TA ∈ ts) (gA : mg "parents_at" = some (.ref fA')) (bA : L2.Binds K fdA' ["graph", "variable"] [])
    (FX : Fun K "index_of" "index_of" sIdx fX fdX) (gX : mg "index_of" = some (.ref fX)) (bX : L2.Binds K fdX ["graph", "name"] []) (FG : Fun K "is_graph" "is_graph" sGraph fG fdG) (gG : mg "is_graph" = some (.ref fG)) (bG : L2.Binds K fdG ["value"] []) (FE : Fun K "need_graph" "need_graph" sNeed fE fdE) (gE : mg "need_graph" = some (.ref fE)) (bE : L2.Binds K fdE ["graph"] [])
    (S : Pg K mg base ts fL fA cL TL fN cN TN fM cM TM fR cR TR fH cH TH fdL fdA fdN fdM fdR fdH) : FnOk P w K mg base CX0 12 f fd ["graph", "name"] (spPar ts) := by
  have GX : FnOk P w K mg base CX0 11 fX fdX ["graph", "name"] (spIdx ts) := ok_idx FX FG gG bG FE gE bE S
  have GA : FnOk P w K mg base CX0 6 fA' fdA' ["graph", "variable"] (spParAt ts) := ok_parat FA TB hT S.nm.tup
  refine F.ok (k := 11) scPar (fun vs H Q E h => ?_) (fun cdv A outer s H vs Q E hr h => ?_)
  · obtain ⟨v, y, n, r, l, Z, rfl, _⟩ := h
    rfl
  · obtain ⟨v, y, n, r, l, Z, rfl, hZ, tb, dq, fz, hl, hg, hy, q⟩ := h
    refine ⟨_, pss_one (ps_ret (pe_call GA (hr.mono (by decide)) (by rfl) gA FA.fn.kp bA .nil pass0 (pa_cons (pv 0) (pa_cons (pe_call GX hr (by rfl) gX FX.kp bX .nil pass0 (pa_cons (pv 0) (pa_cons (pv 1) pa_nil))) pa_nil)))), ?_⟩
    have ha : isArrD (lenD n : Int) r = true := by
      have z : (isNamesD n && (isArrD (lenD n : Int) r && isHidD (lenD n : Int) l)) = true := hg
      rw [Bool.and_eq_true, Bool.and_eq_true] at z
      exact z.2.1
    exact ⟨v, rfl, v, rfl, .str y, rfl, v, y, n, r, l, Z, rfl, hZ, tb, dq, fz, hl, hg, hy, fun G m => ⟨v, _, n, r, l, Z, rfl, hZ, m.2, dq.kp (m.1.wk hZ), hl, ha, fun T J m2 nT e => q T J (m.tr m2) (ms_none m nT) e⟩⟩
end
end GR

namespace GR
open PySem PySem.Spec PyProof.Rows L2 KL KG KS
abbrev sHidL : Stmt := topS 16
theorem scHidL : FnScope ["graph", "name", "variable", "lot"] ["graph", "name"] (defScope sHidL) := ⟨rfl, rfl, rfl, by decide +kernel, rfl, by decide +kernel, by decide +kernel⟩
def partsD : PyData → List PyData
  | .tuple ds => ds
  | _ => []
/-- the hidden lots that have the variable -/
def hidL (l : PyData) (m : Int) : List PyData := (partsD l).filter fun d => decide (m ∈ rowD d)
def spHidL (ts : List Addr) : Sp := fun vs H Q _ => ∃ (v : V) (y : Str) (n r l : PyData) (Z : Addr → Prop), vs = [v, .str y] ∧ (∀ b ∈ ts, Z b) ∧ Tb ts H ∧ Dq Z H v (.tuple [n, r, l]) ∧ FzNames H v ∧ LenD 2 (.tuple [n, r, l]) ∧ isGraphD (.tuple [n, r, l]) = true ∧ y ∈ strsD n ∧
  ∀ (T : Addr) (G : Hp) (xs : List V), Ms ts H G → H T = none → G T = some (.tup xs) → DqL Z H xs (hidL l ((strsD n).idxOf y : Nat)) → Q (.ref T) G
theorem in_ints {m : Int} {ns : List Int} : inV (.int m) (ns.map V.int) = decide (m ∈ ns) := by
  have e : inV (.int m) (ns.map V.int) = ns.any (fun k => k == m) := by
    unfold inV
    rw [List.any_map]
    rfl
  rw [e]
  by_cases h : m ∈ ns
  · rw [decide_eq_true h, List.any_eq_true]
    exact ⟨m, h, beq_self_eq_true m⟩
  · rw [decide_eq_false h, List.any_eq_false]
    exact fun k hk z => h ((beq_iff_eq.mp z) ▸ hk)
theorem flat_ints (ns : List Int) : (ns.map V.int).all flatV = true := by
  rw [List.all_eq_true]
  intro x hx
  obtain ⟨y, _, rfl⟩ := List.mem_map.mp hx
  rfl
section
variable {P : Program} {w : World} {K : PySem.W.Frag} {mg : Str → Option Value} {base : Heap} {ts : List Addr} {fL fA cL TL fN cN TN fM cM TM fR cR TR fH cH TH : Addr} {fdL fdA fdN fdM fdR fdH : FuncData}
theorem ok_hidl {f c T fX fG fE : Addr} {fd fdX fdG fdE : FuncData} (F : FunC K "hidden_lots" "hidden_lots" sHidL f fd c) (TB : GxR.TabB base mg c T) (hT : T ∈ ts)
    (FX : Fun K "index_of" "index_of" sIdx fX fdX) (gX : mg "index_of" = some (.ref fX)) (bX : L2.Binds K fdX ["graph", "name"] []) (FG : Fun K "is_graph" "is_graph" sGraph fG fdG) (gG : mg "is_graph" = some (.ref fG)) (bG : L2.Binds K fdG ["value"] []) (FE : Fun K "need_graph" "need_graph" sNeed fE fdE) (gE : mg "need_graph" = some (.ref fE)) (bE : L2.Binds K fdE ["graph"] [])
    (S : Pg K mg base ts fL fA cL TL fN cN TN fM cM TM fR cR TR fH cH TH fdL fdA fdN fdM fdR fdH) : FnOk P w K mg base CX0 12 f fd ["graph", "name"] (spHidL ts) := by
  have GX : FnOk P w K mg base CX0 11 fX fdX ["graph", "name"] (spIdx ts) := ok_idx FX FG gG bG FE gE bE S
  refine F.ok (k := 11) scHidL (fun vs H Q E h => ?_) (fun A outer s H vs Q E hr h => ?_)
  · obtain ⟨v, y, n, r, l, Z, rfl, _⟩ := h
    rfl
  · obtain ⟨v, y, n, r, l, Z, rfl, hZ, tb, dq, fz, hl, hg, hy, q⟩ := h
    refine ⟨_, pss_cons (ps_set (i := 2) scHidL.nd rfl (.inr rfl) (pe_call GX hr (by rfl) gX FX.kp bX .nil pass0 (pa_cons (pv 0) (pa_cons (pv 1) pa_nil))))
      (pss_one (ps_ret (pe_tupG (k := 6) (own := [("lot", 3)]) (g := gName 3) hr (by rfl) S.nm.tup (by decide +kernel) TB rfl scHidL.nd rfl (by decide +kernel) (by rfl)
          (blkOk_by (N := ["graph", "name", "variable", "lot"]) (sc := defScope sHidL) (by decide +kernel)) (pi_tup (pe_ix (show IxR _ (rIxT K) from ix_tup) (pv 0) pe_int (fun _ _ => rfl))) (fun _ _ _ _ _ _ _ _ => pg_name (i := 3) scHidL.nd rfl (Or.inl rfl))
          (fun _ _ _ _ _ _ _ _ => pts_one (pt_cmpR (show OpR _ _ (rIn K false) from op_in_seq) (pv 2) (pv 3) (by with_unfolding_all rfl))) (fun _ _ _ _ _ _ _ _ => pv 3) (fun _ => rfl)))), ?_⟩
    refine ⟨v, rfl, .str y, rfl, v, y, n, r, l, Z, rfl, hZ, tb, dq, fz, hl, hg, hy, fun H0 m0 => ?_⟩
    have hh : isHidD (lenD n : Int) l = true := by
      have z : (isNamesD n && (isArrD (lenD n : Int) r && isHidD (lenD n : Int) l)) = true := hg
      rw [Bool.and_eq_true, Bool.and_eq_true] at z
      exact z.2.2
    generalize hm : (((strsD n).idxOf y : Nat) : Int) = m at q
    cases dq with
    | @tup a _ _ ea za L =>
    cases L with
    | @cons v1 _ _ _ q1 L =>
    cases L with
    | @cons v2 _ _ _ q2 L =>
    cases L with
    | @cons v3 _ _ _ q3 L =>
    obtain ⟨b, ys, ds, rfl, rfl, eb, zb, M⟩ : ∃ b ys ds, l = .tuple ds ∧ v3 = .ref b ∧ Rd H b (.tup ys) ∧ ¬ Z b ∧ DqL Z H ys ds := by
      cases q3 with
      | @tup b ys ds e z h => exact ⟨b, ys, ds, rfl, rfl, e, z, h⟩
      | _ => exact absurd hh Bool.false_ne_true
    have all : ds.all (fun e => isLotD (lenD n : Int) e && decide (2 ≤ lenD e)) = true ∧ ds.length ≤ 28 := by
      have z : (decide (ds.length ≤ 28) && (ds.all (fun e => isLotD (lenD n : Int) e && decide (2 ≤ lenD e)) && ascR (ds.map rowD))) = true := hh
      rw [Bool.and_eq_true, Bool.and_eq_true] at z
      exact ⟨z.2.1, of_decide_eq_true z.1⟩
    have stay : ∀ {J : Hp} {x : Addr} {u : HO}, Ms ts H J → ¬ Z x → Rd H x u → Rd J x u := fun ms nz e => rd_kp ms.1 (fun z => nz (hZ _ z)) e
    refine ⟨.ref a, rfl, a, _, 2, .ref b, rfl, rfl, .inl (stay m0 za ea), atI_nat (j := 2) rfl, b, rfl, ⟨ys, .inl (stay m0 zb eb)⟩, m0.2 T hT, fun H2 h2 D nD => ?_⟩
    have m2 := m0.tr (m0.2.tabbed h2 hT)
    have nDH : H D = none := ms_none m2 nD
    have keep : ∀ {J : Hp} {o : HO}, Ms ts H J → Ms ts H (upd J D o) := fun {J o} ms => ⟨fun b o nb e => by
      rw [upd_ne (ne_of_none e nDH)]
      exact ms.1 b o nb e, fun P hP => by
      obtain ⟨ps, e, t⟩ := ms.2 P hP
      have : P ≠ D := fun z => by
        obtain ⟨ps', e', _⟩ := m2.2 P hP
        rw [z, nD] at e'
        cases e'
      exact ⟨ps, by rw [upd_ne this]; exact e, t⟩⟩
    refine turns_tup (K := K) (a := b) (xs := ys) (fun i J => Ms ts H J ∧ ∃ acc, J D = some (.lst acc) ∧ DqL Z H acc ((ds.take i).filter fun d => decide (m ∈ rowD d))) ⟨keep m2, [], upd_same, .nil⟩ (fun i J _ h => .inl (stay h.1 zb eb)) ?_ ?_
    · rintro i x J hx ⟨ms, acc, eJ, A1⟩
      obtain ⟨di, hdi, dqi⟩ := M.get hx
      have hi := List.all_eq_true.mp all.1 di (List.mem_of_getElem? hdi)
      rw [Bool.and_eq_true] at hi
      obtain ⟨e, rfl, ee, ze, _⟩ := lot_tup dqi hi.1
      have small : acc.length ≤ 28 := by
        rw [A1.len]
        refine Nat.le_trans (List.length_filter_le _ _) ?_
        rw [List.length_take]
        omega
      have nxt : (ds.take (i + 1)).filter (fun d => decide (m ∈ rowD d)) = (ds.take i).filter (fun d => decide (m ∈ rowD d)) ++ (if m ∈ rowD di then [di] else []) := by
        rw [List.take_add_one, hdi, List.filter_append]
        congr 1
        by_cases z : m ∈ rowD di
        · simp [z]
        · simp [z]
      refine ⟨rfl, .int _, rfl, .ref e, rfl, e, (rowD di).map V.int, rfl, .inr (.inl (stay ms ze ee)), rfl, flat_ints _, _, rfl, ?_⟩
      have ev : (if false = true then !inV (.int m) ((rowD di).map V.int) else inV (.int m) ((rowD di).map V.int)) = decide (m ∈ rowD di) := by
        rw [if_neg Bool.false_ne_true, in_ints]
      rw [ev]
      show (if decide (m ∈ rowD di) = true then _ else _)
      refine ifte (fun c1 => ?_) (fun c1 => ?_)
      · have z : m ∈ rowD di := of_decide_eq_true c1
        refine ⟨.ref e, rfl, acc, eJ, small1000 (by omega), keep ms, _, upd_same, ?_⟩
        rw [nxt, if_pos z]
        exact A1.app (.cons dqi .nil)
      · have z : ¬ m ∈ rowD di := of_decide_eq_false c1
        refine ⟨ms, acc, eJ, ?_⟩
        rw [nxt, if_neg z, List.append_nil]
        exact A1
    · rintro J ⟨ms, acc, eJ, A1⟩
      rw [M.len, List.take_length] at A1
      exact ⟨acc, eJ, fun T nT => q T _ acc (ms.new nT) (ms_none ms nT) upd_same A1⟩
end
end GR

/-! Own layer: t[::-1], s[::-1]; tuple(list) as a frozen one. -/
namespace KS
open PySem PySem.Spec PyProof.Rows L2 HT
section
variable {prog : Program} {w : World} {A : Around} {E : Value → Shared → Prop} {s : Shared}
theorem slice_rev {sl : Addr} {n : Nat} {u : Tok} {Q : Int × Int × Nat → Shared → Prop} (hs : s.heap.IsSliceOf sl .none .none (.int (-1) u)) (h : Q ((n : Int) - 1, -1, n) s) : wpAny (model prog w) A (Builtin.Slice.sliceApplied (.ref sl) (pure (n : Int))) Q E s := by
  obtain ⟨os, hos, hcs, hds⟩ := id hs
  have e1 : Builtin.Slice.sliceAdjust none none (-1) (n : Int) = ((n : Int) - 1, -1) := by
    unfold Builtin.Slice.sliceAdjust
    simp
  have e2 : Builtin.Slice.slicePlaces ((n : Int) - 1) (-1) (-1) = n := by
    unfold Builtin.Slice.slicePlaces
    simp
    split <;> omega
  unfold Builtin.Slice.sliceApplied Builtin.Slice.sliceFields
  refine wpAny_bind (wpAny_bind (wpAny_field hos hds (x := .none) rfl (wpAny_bind (wpAny_field hos hds (x := .none) rfl (wpAny_bind (wpAny_field hos hds (x := .int (-1) u) rfl (wpAny_pure ?_)))))))
  refine wpAny_bind (slicePart_int ?_)
  show wpAny _ _ (if ((-1 : Int) == 0) = true then _ else _) _ _ s
  rw [if_neg (by decide)]
  refine wpAny_bind (slicePart_none (wpAny_bind (slicePart_none (wpAny_bind (wpAny_pure ?_)))))
  show wpAny _ _ (match Builtin.Slice.sliceAdjust none none (-1) (n : Int) with | (lo, hi) => pure (lo, (-1 : Int), Builtin.Slice.slicePlaces lo hi (-1))) _ _ s
  rw [e1]
  show wpAny _ _ (pure ((n : Int) - 1, (-1 : Int), Builtin.Slice.slicePlaces ((n : Int) - 1) (-1) (-1))) _ _ s
  rw [e2]
  exact wpAny_pure h
theorem pick_rev (xs : Array Value) : ((List.range xs.size).filterMap fun (m : Nat) => xs[((xs.size : Int) - 1 + (m : Int) * -1).toNat]?).toArray = xs.toList.reverse.toArray := by
  have e : (fun (m : Nat) => xs[((xs.size : Int) - 1 + (m : Int) * -1).toNat]?) = fun m => xs[xs.size - 1 - m]? := by
    funext m
    have : ((xs.size : Int) - 1 + (m : Int) * -1).toNat = xs.size - 1 - m := by omega
    rw [this]
  rw [e]
  have z : (List.range xs.size).filterMap (fun m => xs[xs.size - 1 - m]?) = ((List.range xs.size).map fun k => xs.size - 1 - k).filterMap (xs[·]?) := by
    rw [List.filterMap_map]
    rfl
  rw [z, PySem.W.krv_range, List.filterMap_reverse, PySem.W.krv_all]
theorem getItem_tuple_rev {t sl : Addr} {items : Array Value} {u : Tok} {Q : Value → Shared → Prop} (ht : IsTup s.heap t items) (hs : s.heap.IsSliceOf sl .none .none (.int (-1) u))
    (h : Q (.ref s.heap.objs.size) { s with heap := s.heap.push { cls := .type "tuple", data := .seq items.toList.reverse.toArray } }) (hsz : items.size ≤ sizeLine) : wpAny (model prog w) A (getItem (.ref t) (.ref sl)) Q E s := by
  have htake : sizeOk (.seq items.toList.reverse.toArray) := by
    show items.toList.reverse.toArray.size ≤ sizeLine
    rw [List.size_toArray, List.length_reverse, Array.length_toList]
    exact hsz
  obtain ⟨os, hos, hcs, hds⟩ := id hs
  have hTs : s.TypeIs (.ref sl) "slice" := ⟨os, hos, hcs⟩
  unfold getItem
  try with_reducible refine wpAny_holding ?_
  first | refine wpAny_bind (wpAny_pure ?_) | skip
  refine wpAny_bind (wpAny_sequenceKey ht.typeIs (by decide) ?_)
  refine wpAny_bind (wpAny_callSpecial?_slot (name := Str.ofString "__getitem__") ht.typeIs PyProof.Rows.slot_tuple_getitem
    (wpAny_call_entry PyProof.Rows.slot_tuple_getitem ht.typeIs entry_tuple_getitem ?_ (args_tuple_getitem _ _)))
  show wpAny _ _ (Builtin.Tuple.tupleItemsOf (.ref t) >>= _) _ _ s
  refine wpAny_bind (tupleItemsOf_ ht ?_)
  refine wpAny_bind (wpAny_typeOf hTs ?_)
  rw [if_pos (by decide)]
  refine wpAny_bind (slice_rev hs ?_)
  have hno : ¬ ((((items.size : Int) - 1) == 0 && (-1 : Int) == 1 && items.size == items.size) = true) := by simp
  show wpAny _ _ (if (((items.size : Int) - 1) == 0 && (-1 : Int) == 1 && items.size == items.size) = true then _ else _) _ _ s
  rw [if_neg hno, pick_rev]
  first
    | exact wpAny_bind (m := Builtin.Tuple.tupleExact _) (wpAny_newObj_type (wpAny_pure ⟨_, rfl, wpAny_pure h⟩) htake)
    | exact wpAny_bind (m := Builtin.Tuple.tupleExact _) (wpAny_newObj_type (wpAny_bind (wpAny_pure (wpAny_pure ⟨_, rfl, wpAny_pure h⟩))) htake)
    | exact wpAny_bind (wpAny_bind (m := Builtin.Tuple.tupleExact _) (wpAny_newObj_type (wpAny_pure (wpAny_pure ⟨_, rfl, wpAny_pure h⟩)) htake))
    | exact wpAny_bind (wpAny_bind (m := Builtin.Tuple.tupleExact _) (wpAny_newObj_type (wpAny_pure ⟨_, rfl, wpAny_pure h⟩) htake))
end
section
variable {X : Cx}
/-- e[::-1], e a tuple or a text, the value asked of the text is its length alone -/
def tRevA (K : PySem.W.Frag) (te : TE) : TE := fun σ H Q => te σ H fun x H1 => (∃ a xs, x = .ref a ∧ SqT K H1 a xs ∧ ∀ p, H1 p = none → Q (.ref p) (upd H1 p (.tup xs.reverse))) ∨ ∃ z : Str, x = .str z ∧ z.length ≤ 1000000 ∧ ∀ y : Str, y.length ≤ z.length → Q (.str y) H1
theorem pe_revA {e : Expr} {te : TE} {k : Nat} {p1 p2 p3 pos : Pos} (he : PE X e te) : PE X (.Subscript e (.Slice none none (some (.UnaryOp .USub (.Constant (.int 1) k p1) p2)) p3) pos) (tRevA X.K te) := by
  refine ⟨fun pins s σ H Q I h => ?_⟩
  refine Subscript_ (thn (he.run pins s σ H _ I h) fun v s1 ⟨x, H1, I1, r1, q1⟩ => ?_)
  have hst : PO X (some (.UnaryOp .USub (.Constant (.int 1) k p1) p2)) (tPart (tUn (rU fun i => .int (-i)) (tC (.int 1)))) := po_some (pe_un un_neg pe_int)
  refine wpAny_Slice (thn (po_none.run pins s1 σ H1 (fun o H2 => o = none ∧ H2 = H1) I1 ⟨rfl, rfl⟩) fun vl s2 ⟨l, H2, I2, pl, el, e2⟩ => ?_)
  subst el e2
  refine thn (po_none.run pins s2 σ H2 (fun o H3 => o = none ∧ H3 = H2) I2 ⟨rfl, rfl⟩) fun vu s3 ⟨u, H3, I3, pu, eu, e3⟩ => ?_
  subst eu e3
  refine thn (hst.run pins s3 σ H3 (fun o H4 => o = some (-1) ∧ H4 = H3) I3 ⟨1, rfl, -1, rfl, rfl, rfl⟩) fun vs s4 ⟨o, H4, I4, ps, eo, e4⟩ => ?_
  subst eo e4
  obtain rfl : vl = .none := by cases pl; rfl
  obtain rfl : vu = .none := by cases pu; rfl
  obtain ⟨ut, rfl⟩ : ∃ u, vs = .int (-1) u := by cases ps; exact ⟨_, rfl⟩
  have I5 : Inv X pins σ H4 { s4 with heap := s4.heap.push { cls := .type "slice", data := .fields #[.none, .none, .int (-1) ut] } } := I4.kept (t' := s4.toks) fun b ob q => Heap.get?_push_of_some _ q
  rcases q1 with ⟨a, xs, rfl, hx, q⟩ | ⟨z, rfl, hz, q⟩
  · cases r1
    obtain ⟨its, r, ht, hz⟩ := I5.tuple hx
    have hlen := r.length
    show wpAny (model X.prog X.w) X.A (subscriptTail e (.Slice none none (some (.UnaryOp .USub (.Constant (.int 1) k p1) p2)) p3) (.ref a) (.ref s4.heap.objs.size)) (EP X pins σ Q) X.xe { s4 with heap := s4.heap.push { cls := .type "slice", data := .fields #[.none, .none, .int (-1) ut] } }
    refine tail_any (ops := [.ref a, .ref s4.heap.objs.size]) ht.typeIs (PyProof.Rows.slot_tuple_getitem.lookup) ?_ (by with_unfolding_all rfl)
    refine getItem_tuple_rev ht (Heap.IsSliceOf.new _ _ _ _) ?_ (by rw [List.size_toArray]; omega)
    refine ⟨.ref _, _, I5.laid (t' := s4.toks) (o := .tup xs.reverse) (fun b ob q => Heap.get?_push_of_some _ q) (Nat.le_refl _) ?_, rfl, q _ (I5.hok.fresh (Nat.le_refl _))⟩
    exact ⟨by rw [List.length_reverse]; exact hz, _, r.reverse, by simp only [List.toList_toArray]; exact IsTup.new _ _⟩
  · obtain ⟨t, rfl⟩ := r1
    show wpAny (model X.prog X.w) X.A (subscriptTail e (.Slice none none (some (.UnaryOp .USub (.Constant (.int 1) k p1) p2)) p3) (.str z t) (.ref s4.heap.objs.size)) (EP X pins σ Q) X.xe { s4 with heap := s4.heap.push { cls := .type "slice", data := .fields #[.none, .none, .int (-1) ut] } }
    refine tail_any (ops := [.str z t, .ref s4.heap.objs.size]) (typeIs_str _ _ _) (F.slot_str_getitem.lookup) ?_ (by with_unfolding_all rfl)
    refine wpAny_getItem_str_slice (l := none) (u := none) (st := some (-1, ut)) (Heap.IsSliceOf.new _ _ _ _) rfl ?_
    show Made.post (if ((-1 : Int) == 1 && (Builtin.Str.strSliceIndices none none (-1) z.length).length == z.length) = true then Made.val (.str z t)
      else Made.str ⟨((Builtin.Str.strSliceIndices none none (-1) z.length).filterMap (z.cps[·]?)).toArray⟩) (EP X pins σ Q) _
    rw [if_neg (by simp)]
    have hl : (⟨((Builtin.Str.strSliceIndices none none (-1) z.length).filterMap (z.cps[·]?)).toArray⟩ : Str).length ≤ z.length := by
      show ((Builtin.Str.strSliceIndices none none (-1) z.length).filterMap (z.cps[·]?)).toArray.size ≤ z.length
      rw [List.size_toArray]
      refine Nat.le_trans (List.length_filterMap_le _ _) ?_
      have e : Builtin.Str.strSliceIndices none none (-1) z.length = sliceRange ((z.length : Int) - 1) (-1) (-1) := rfl
      rw [e, PySem.W.krv_sliceRange, List.length_map, List.length_range]
      exact Nat.le_refl _
    exact ⟨by rw [sizeLine_eq]; omega, .str _, H4, I5.tok _, ⟨_, rfl⟩, q _ hl⟩
/-- tuple(xs), xs a list: a new tuple, as an object that stands -/
def tTupF (K : PySem.W.Frag) (ta : TE) : TE := fun σ H Q => ta σ H fun x H1 => ∃ p xs, x = .ref p ∧ SqL K H1 p xs ∧ ∀ q o, H1 q = none → o.dict = none → Q (.ref q) (upd H1 q (.frz o (.tup xs)))
theorem pe_tupF {a : Expr} {ta : TE} {p pos : Pos} (hg : Gl X "tuple") (hm : X.mg "tuple" = none) (ha : PE X a ta) (na : starEach [a] X.env = (false, eval a X.env) :: starEach [] X.env := by rfl) :
    PE X (.Call (.Name "tuple" p) [a] [] pos) (tTupF X.K ta) := by
  refine ⟨fun pins s σ H Q I h => ?_⟩
  refine Call_ (ld_blt I hg hm boot_tuple (PyProof.Rows.callWith_type1 (one_arg ha I h (fun v s2 x H2 I2 r q => ?_) na) na))
  obtain ⟨p, xs, rfl, hs, q⟩ := q
  obtain rfl : v = .ref p := r
  obtain ⟨its, rv, pl, hz⟩ := I2.list hs
  refine call_tuple_list pl.isList (fun h' hk => ?_) (by rw [List.size_toArray, ← rv.length]; exact hz)
  have I3 : Inv X pins σ H2 { s2 with heap := h' } := I2.kept (t' := s2.toks) hk
  have I4 : Inv X pins σ (upd H2 h'.objs.size (.frz { cls := .type "tuple", data := .seq its.toArray } (.tup xs))) { s2 with heap := h'.push { cls := .type "tuple", data := .seq its.toArray } } :=
    I3.laid (t' := s2.toks) (fun b o e => Heap.get?_push_of_some _ e) (Nat.le_refl _) ⟨Heap.get?_push_size _ rfl, hz, its, rv, IsTup.new _ _⟩
  exact ⟨.ref h'.objs.size, _, I4, rfl, q _ _ (I3.hok.fresh (Nat.le_refl _)) rfl⟩
end
end KS

/-! The law's draws. -/
namespace GR
open PySem PySem.Spec PyProof.Rows L2 KL

abbrev sWell : Stmt := topS 26
abbrev sDraw : Stmt := topS 27
abbrev sOne : Stmt := topS 28
abbrev sOdd : Stmt := topS 32
theorem scWell : FnScope ["script", "lap", "mixed", "cell", "own"] ["script", "lap"] (defScope sWell) := ⟨rfl, rfl, rfl, by decide +kernel, rfl, by decide +kernel, by decide +kernel⟩
theorem scDraw : FnScope ["well", "few", "figure", "mixed"] ["well", "few"] (defScope sDraw) := ⟨rfl, rfl, rfl, by decide +kernel, rfl, by decide +kernel, by decide +kernel⟩
theorem scOne : FnScope ["well", "some"] ["well", "some"] (defScope sOne) := ⟨rfl, rfl, rfl, by decide +kernel, rfl, by decide +kernel, by decide +kernel⟩
theorem scOdd : FnScope ["well", "some", "more", "ends"] ["well"] (defScope sOdd) := ⟨rfl, rfl, rfl, by decide +kernel, rfl, by decide +kernel, by decide +kernel⟩

/-- at a stands a well -/
def Wl (H : Hp) (a : Addr) : Prop := ∃ x y z : Int, H a = some (.lst [.int x, .int y, .int z])
/-- only the well at a has changed -/
def Mv (a : Addr) (H G : Hp) : Prop := Kp (fun b => b = a) H G ∧ Wl G a
theorem Mv.tr {a : Addr} {H G J : Hp} (h : Mv a H G) (k : Mv a G J) : Mv a H J := ⟨h.1.tr k.1, k.2⟩
theorem Mv.trk {a : Addr} {H G : Hp} (h : Mv a H G) : ∀ b, tracked H b → tracked G b := fun b t => by
  by_cases e : b = a
  · obtain ⟨x, y, z, q⟩ := h.2
    rw [e]
    intro n
    rw [q] at n
    cases n
  · intro n
    apply t
    cases q : H b with
    | none => rfl
    | some o =>
      have := h.1 b o e q
      rw [n] at this
      cases this
theorem Wl.ne {H : Hp} {a p : Addr} (h : Wl H a) (n : H p = none) : a ≠ p := by
  obtain ⟨x, y, z, q⟩ := h
  exact ne_of_none q n
theorem Wl.new {H : Hp} {a p : Addr} {o : HO} (h : Wl H a) (n : H p = none) : Wl (upd H p o) a := by
  have e := h.ne n
  obtain ⟨x, y, z, q⟩ := h
  exact ⟨x, y, z, by rw [upd_ne e]; exact q⟩
theorem Mv.new {H : Hp} {a p : Addr} {o : HO} (h : Wl H a) (n : H p = none) : Mv a H (upd H p o) := ⟨Kp.new n, h.new n⟩
theorem trk_ne {H : Hp} {a p : Addr} (h : tracked H a) (n : H p = none) : a ≠ p := fun e => h (e ▸ n)

section
variable {P : Program} {w : World} {K : PySem.W.Frag} {mg : Str → Option Value} {base : Heap}
/-! ### _law_draw -/
def spDraw : Sp := fun vs H Q _ => ∃ (a : Addr) (n : Int), vs = [.ref a, .int n] ∧ Wl H a ∧ 0 < n ∧ n < 1000000000 ∧ ∀ (r : Int) (G : Hp), 0 ≤ r → r < n → Mv a H G → Q (.int r) G
theorem ok_draw {f : Addr} {fd : FuncData} (F : Fun K "_law_draw" "_law_draw" sDraw f fd) (md : mg "divmod" = none) (mi : mg "int" = none) : FnOk P w K mg base CX0 1 f fd ["well", "few"] spDraw := by
  refine F.ok scDraw (fun vs H Q E h => ?_) (fun cdv A outer s H vs Q E hr h => ?_)
  · obtain ⟨a, n, rfl, _⟩ := h
    rfl
  · obtain ⟨a, n, rfl, ⟨x, y, z, hW⟩, n0, n1, q⟩ := h
    refine ⟨_, pss_cons (ps_if (pt_cmpR op_gt (pe_ix ix_list (pv 0) pe_int (fun _ _ => rfl)) pe_int (nomark _))
        (pss_cons (ps_asg (pe_callB call_divmod (by rfl) md (by decide +kernel) (pa_cons (pe_ix ix_list (pv 0) pe_int (fun _ _ => rfl)) (pa_cons (pv 1) pa_nil)))
            (pg_tup rfl (pgs_cons (pg_sub (pv 0) pe_int set_list) (pgs_cons (pg_name (i := 2) scDraw.nd rfl (.inl rfl)) pgs_nil))))
          (pss_one (ps_ret (pv 2)))) pss_nil)
      (pss_cons (ps_asg (pe_op op_add (pe_ix ix_list (pv 0) pe_int (fun _ _ => rfl)) pe_int) (pg_sub (pv 0) pe_int set_list))
      (pss_cons (ps_set (i := 3) scDraw.nd rfl (.inl rfl) (pe_op op_mod (pe_callTy call_int1 (by rfl) mi (by decide +kernel) (pa_cons (pe_op op_add (pe_op op_mul (pe_ix ix_list (pv 0) pe_int (fun _ _ => rfl)) pe_int) (pe_op op_mul pe_int (pe_ix ix_list (pv 0) pe_int (fun _ _ => rfl)))) pa_nil)) pe_int))
      (pss_cons (ps_asg (pe_op op_mod (pe_callTy call_int1 (by rfl) mi (by decide +kernel) (pa_cons (pe_op op_add (pe_op op_mul (pv 3) (pe_op op_add (pe_op op_mod (pe_callTy call_int1 (by rfl) mi (by decide +kernel) (pa_cons (pv 3) pa_nil)) pe_int) pe_int)) (pe_ix ix_list (pv 0) pe_int (fun _ _ => rfl))) pa_nil)) pe_int) (pg_sub (pv 0) pe_int set_list))
      (pss_one (ps_ret (pe_op op_mod (pe_callTy call_int1 (by rfl) mi (by decide +kernel) (pa_cons (pe_op op_fdiv (pe_ix ix_list (pv 0) pe_int (fun _ _ => rfl)) pe_int) pa_nil)) (pv 1))))))), ?_⟩
    have g0 : ∀ {l : List V} {v : V}, l[0]? = some v → atI l (0 : Int) = some v := fun h => atI_nat (j := 0) h
    have g1 : ∀ {l : List V} {v : V}, l[1]? = some v → atI l (1 : Int) = some v := fun h => atI_nat (j := 1) h
    have g2 : ∀ {l : List V} {v : V}, l[2]? = some v → atI l (2 : Int) = some v := fun h => atI_nat (j := 2) h
    have sq : ∀ {G : Hp} {l : List V}, G a = some (.lst l) → SqL K G a l := fun h => .inl (.inl h)
    refine ⟨.ref a, rfl, a, _, 0, .int x, rfl, rfl, sq hW, g0 rfl, x, 0, rfl, rfl, _, rfl, ite2 (fun c => ?_) (fun c => ?_)⟩
    · refine ⟨.ref a, rfl, a, _, 0, .int x, rfl, rfl, sq hW, g0 rfl, .int n, rfl, x, n, rfl, ⟨n0, by omega⟩, fun p np => ?_⟩
      have nap : a ≠ p := ne_of_none hW np
      refine ⟨p, _, rfl, .inl (.inl upd_same), rfl, .int (x / n), [.int (x % n)], rfl, ⟨.ref a, rfl, a, _, 0, 0, rfl, rfl, (upd_ne nap).trans hW, rfl, .int (x % n), [], rfl, rfl, .int (x % n), rfl, ?_⟩⟩
      refine q _ _ (Int.emod_nonneg _ (by omega)) (Int.emod_lt_of_pos _ n0) ⟨fun b o nb e => ?_, x / n, y, z, upd_same⟩
      rw [upd_ne nb, upd_ne (ne_of_none e np)]
      exact e
    · refine ⟨.ref a, rfl, a, _, 2, .int z, rfl, rfl, sq hW, g2 rfl, z, 1, rfl, rfl, .ref a, rfl, a, _, 2, 2, rfl, rfl, hW, rfl, ?_⟩
      refine ⟨.ref a, rfl, a, _, 1, .int y, rfl, rfl, sq upd_same, g1 rfl, y, 48271, rfl, rfl, .inr ⟨by decide, by decide⟩, .ref a, rfl, a, _, 2, .int (z + 1), rfl, rfl, sq upd_same, g2 rfl, 15031, z + 1, rfl, rfl, .inl ⟨by decide, by decide⟩,
        y * 48271, 15031 * (z + 1), rfl, rfl, .inl ⟨_, rfl, _, 2147483423, rfl, rfl, (by show (0 : Int) < 2147483423; decide), ?_⟩⟩
      have m0 : 0 ≤ (y * 48271 + 15031 * (z + 1)) % 2147483423 := Int.emod_nonneg _ (by decide)
      have m1 : (y * 48271 + 15031 * (z + 1)) % 2147483423 < 2147483423 := Int.emod_lt_of_pos _ (by decide)
      refine ⟨_, rfl, _, rfl, .inl ⟨_, rfl, _, 4987, rfl, rfl, (by show (0 : Int) < 4987; decide), _, 20023, rfl, rfl, _, _, rfl, rfl, .inl ⟨Int.lt_of_lt_of_le (by decide) m0, Int.lt_trans m1 (by decide)⟩, .ref a, rfl, a, _, 2, .int (z + 1), rfl, rfl, sq upd_same, g2 rfl,
        _, z + 1, rfl, rfl, .inl ⟨_, rfl, _, 2147483423, rfl, rfl, (by show (0 : Int) < 2147483423; decide), .ref a, rfl, a, _, 1, 1, rfl, rfl, upd_same, rfl, ?_⟩⟩⟩
      refine ⟨.ref a, rfl, a, _, 1, .int _, rfl, rfl, sq upd_same, g1 rfl, _, 983, rfl, rfl, ⟨by decide, by decide⟩, .inl ⟨_, rfl, .int n, rfl, _, n, rfl, rfl, n0, ?_⟩⟩
      refine q _ _ (Int.emod_nonneg _ (by omega)) (Int.emod_lt_of_pos _ n0) ⟨fun b o nb e => ?_, _, _, _, upd_same⟩
      rw [upd_ne nb, upd_ne nb]
      exact e

/-! ### _law_one -/
def spOne : Sp := fun vs H Q _ => ∃ (a t : Addr) (xs : List V), vs = [.ref a, .ref t] ∧ Wl H a ∧ H t = some (.tup xs) ∧ 0 < xs.length ∧ xs.length ≤ 1000 ∧ ∀ (i : Nat) (v : V) (G : Hp), xs[i]? = some v → Mv a H G → Q v G
theorem ok_one {f fD : Addr} {fd fdD : FuncData} (F : Fun K "_law_one" "_law_one" sOne f fd) (FD : Fun K "_law_draw" "_law_draw" sDraw fD fdD) (gD : mg "_law_draw" = some (.ref fD)) (bD : L2.Binds K fdD ["well", "few"] []) (md : mg "divmod" = none) (mi : mg "int" = none) (ml : mg "len" = none) :
    FnOk P w K mg base CX0 2 f fd ["well", "some"] spOne := by
  have GD : FnOk P w K mg base CX0 1 fD fdD ["well", "few"] spDraw := ok_draw FD md mi
  refine F.ok scOne (fun vs H Q E h => ?_) (fun cdv A outer s H vs Q E hr h => ?_)
  · obtain ⟨a, t, xs, rfl, _⟩ := h
    rfl
  · obtain ⟨a, t, xs, rfl, hW, ht, l0, l1, q⟩ := h
    refine ⟨_, pss_one (ps_ret (pe_ix ix_tup (pv 1) (pe_call GD hr (by rfl) gD FD.kp bD .nil pass0 (pa_cons (pv 0) (pa_cons (pe_callB call_len_seq (by rfl) ml PySem.boot_len (pa_cons (pv 1) pa_nil)) pa_nil))) (fun _ _ => rfl))), ?_⟩
    refine ⟨.ref t, rfl, .ref a, rfl, .ref t, rfl, t, xs, rfl, .inr (.inl (.inl ht)), a, (xs.length : Int), rfl, hW, by omega, by omega, fun r G r0 r1 mv => ?_⟩
    obtain ⟨j, rfl⟩ : ∃ j : Nat, r = (j : Int) := ⟨r.toNat, (Int.toNat_of_nonneg r0).symm⟩
    have hj : j < xs.length := by omega
    have ht2 : G t = some (.tup xs) := mv.1 t _ (fun e => by
      obtain ⟨x, y, z, e2⟩ := hW
      rw [e, e2] at ht
      cases ht) ht
    exact ⟨t, xs, (j : Int), xs[j], rfl, rfl, .inl (.inl ht2), atI_nat (List.getElem?_eq_getElem hj), q j _ G (List.getElem?_eq_getElem hj) mv⟩

/-! ### data that is drawn -/
def lim : Nat → Nat
  | 0 => 60
  | n + 1 => 3 * lim n + 9
/-- what a draw of depth n may give -/
def Gd (n : Nat) (d : PyData) : Prop := d.showable = true ∧ d.depth ≤ 4 + n ∧ d.shown.length ≤ lim n
def gd0 (d : PyData) : Bool := d.showable && decide (d.depth ≤ 4) && decide (d.shown.length ≤ 60)
theorem gd_of {d : PyData} (h : gd0 d = true) : Gd 0 d := by
  unfold gd0 at h
  rw [Bool.and_eq_true, Bool.and_eq_true] at h
  exact ⟨h.1.1, of_decide_eq_true h.1.2, of_decide_eq_true h.2⟩
theorem lim_up (n : Nat) : lim n ≤ lim (n + 1) := by
  show lim n ≤ 3 * lim n + 9
  omega
theorem lim_ge : ∀ n : Nat, 60 ≤ lim n
  | 0 => Nat.le_refl _
  | n + 1 => Nat.le_trans (lim_ge n) (lim_up n)
theorem Gd.up {n : Nat} {d : PyData} (h : Gd n d) : Gd (n + 1) d := ⟨h.1, by have := h.2.1; omega, Nat.le_trans h.2.2 (lim_up n)⟩
theorem Gd.of0 : ∀ {n : Nat} {d : PyData}, Gd 0 d → Gd n d
  | 0, _, h => h
  | n + 1, _, h => (Gd.of0 (n := n) h).up
theorem Gd.int {n : Nat} {i : Int} (h : i.natAbs < 10 ^ 8) : Gd n (.int i) := by
  refine Gd.of0 ⟨?_, ?_, ?_⟩
  · simp only [PyData.showable]
    have := PySem.Flt.log2_lt_of (n := i.natAbs) (k := 64) (by decide) (Nat.lt_trans h (by decide))
    exact decide_eq_true (by omega)
  · simp only [PyData.depth]
    omega
  · simp only [PyData.shown]
    have := int_text_length_le10 (a := i) (k := 8) (by decide) h
    rw [PySem.ofString_length]
    show _ ≤ 60
    omega
theorem gdAll {n : Nat} : ∀ {ds : List PyData}, (∀ d ∈ ds, Gd n d) → PyData.showableAll ds = true ∧ PyData.depthAll ds ≤ 4 + n ∧ ((PyData.shownAll ds).map (·.length)).sum ≤ ds.length * lim n ∧ (PyData.shownAll ds).length = ds.length
  | [], _ => ⟨rfl, Nat.zero_le _, Nat.zero_le _, rfl⟩
  | d :: ds, h => by
    obtain ⟨h1, h2, h3, h4⟩ := gdAll (ds := ds) fun e he => h e (List.mem_cons_of_mem _ he)
    obtain ⟨g1, g2, g3⟩ := h d List.mem_cons_self
    refine ⟨?_, ?_, ?_, ?_⟩
    · simp only [PyData.showableAll, g1, h1, Bool.and_self]
    · simp only [PyData.depthAll]
      omega
    · simp only [PyData.shownAll, List.map_cons, List.sum_cons, List.length_cons, Nat.succ_mul]
      omega
    · simp only [PyData.shownAll, List.length_cons, h4]
theorem Gd.tup {n : Nat} {ds : List PyData} (h : ∀ d ∈ ds, Gd n d) (hl : ds.length ≤ 3) : Gd (n + 1) (.tuple ds) := by
  obtain ⟨h1, h2, h3, h4⟩ := gdAll h
  refine ⟨?_, ?_, ?_⟩
  · simp only [PyData.showable, h1]
  · simp only [PyData.depth]
    omega
  · simp only [PyData.shown]
    have := tupleText_len_le (PyData.shownAll ds)
    have m : ds.length * lim n ≤ 3 * lim n := Nat.mul_le_mul_right _ hl
    show _ ≤ 3 * lim n + 9
    omega

/-! ### _law_odd -/
theorem lit_some {n : Nat} {e : Expr} (h : (lit n e).isSome = true) : Lit e ((lit n e).getD .none) := lit_ok n e _ (by
  cases q : lit n e with
  | none =>
    rw [q] at h
    cases h
  | some d => rfl)
def litOf (s : Stmt) : Expr := match s with
  | .Assign _ e _ => e
  | _ => .Constant .none 0 ⟨0, 0, 0, 0⟩
def dataOf (i : Nat) : PyData := (lit 60 (litOf ((defBody sOdd).getD i (.Pass ⟨0, 0, 0, 0⟩)))).getD .none
def itemsOf : PyData → List PyData
  | .tuple ds => ds
  | _ => []
def odds : List PyData := itemsOf (dataOf 0) ++ itemsOf (dataOf 1) ++ itemsOf (dataOf 2) ++ [.tuple [.int 1, .int 3]]
theorem odds_good : odds.all gd0 = true := by decide +kernel
theorem tupD {Z : Addr → Prop} {H : Hp} {v : V} {ds : List PyData} (h : Dq Z H v (.tuple ds)) : ∃ t xs, v = .ref t ∧ Rd H t (.tup xs) ∧ DqL Z H xs ds := by
  cases h with
  | tup e z h => exact ⟨_, _, rfl, e, h⟩
theorem data_tup0 : dataOf 0 = .tuple (itemsOf (dataOf 0)) := by rfl
theorem data_tup1 : dataOf 1 = .tuple (itemsOf (dataOf 1)) := by rfl
theorem data_tup2 : dataOf 2 = .tuple (itemsOf (dataOf 2)) := by rfl
theorem data_len0 : (itemsOf (dataOf 0)).length = 19 := by decide +kernel
theorem data_len1 : (itemsOf (dataOf 1)).length = 11 := by decide +kernel
theorem data_len2 : (itemsOf (dataOf 2)).length = 9 := by decide +kernel
theorem wl_of {H G : Hp} {a : Addr} (k : Kp (fun _ => False) H G) (h : Wl H a) : Wl G a := by
  obtain ⟨x, y, z, e⟩ := h
  exact ⟨x, y, z, k _ _ (fun z => z) e⟩
theorem mv_of {H G : Hp} {a : Addr} (k : Kp (fun _ => False) H G) (h : Wl H a) : Mv a H G := ⟨k.wk fun _ z => z.elim, wl_of k h⟩
theorem Wl.trk {H : Hp} {a : Addr} (h : Wl H a) : ∀ b, b = a → tracked H b := fun b e n => by
  obtain ⟨x, y, z, q⟩ := h
  rw [e, q] at n
  cases n
theorem ne_nil {α : Type} {xs : List α} {n : Nat} (h : xs.length = n) (p : 0 < n) : xs ≠ [] := fun e => by
  rw [e, List.length_nil] at h
  omega
/-- a new value that may be anything of the odd ones -/
def spOdd : Sp := fun vs H Q _ => ∃ a : Addr, vs = [.ref a] ∧ Wl H a ∧ ∀ (v : V) (d : PyData) (G : Hp), Mv a H G → Dq (tracked H) G v d → Gd 0 d → d ∈ odds → Q v G
theorem ok_odd {f fO fD : Addr} {fd fdO fdD : FuncData} (F : Fun K "_law_odd" "_law_odd" sOdd f fd) (FO : Fun K "_law_one" "_law_one" sOne fO fdO) (FD : Fun K "_law_draw" "_law_draw" sDraw fD fdD) (gO : mg "_law_one" = some (.ref fO)) (gD : mg "_law_draw" = some (.ref fD)) (bO : L2.Binds K fdO ["well", "some"] []) (bD : L2.Binds K fdD ["well", "few"] [])
    (md : mg "divmod" = none) (mi : mg "int" = none) (ml : mg "len" = none) : FnOk P w K mg base CX0 3 f fd ["well"] spOdd := by
  have GO : FnOk P w K mg base CX0 2 fO fdO ["well", "some"] spOne := ok_one FO FD gD bD md mi ml
  refine F.ok scOdd (fun vs H Q E h => ?_) (fun cdv A outer s H vs Q E hr h => ?_)
  · obtain ⟨a, rfl, _⟩ := h
    rfl
  · obtain ⟨a, rfl, hW, q⟩ := h
    refine ⟨_, pss_cons (ps_set (i := 1) scOdd.nd rfl (.inl rfl) (pe_lit (d := dataOf 0) (lit_some (n := 60) (by decide +kernel)))) (pss_cons (ps_set (i := 2) scOdd.nd rfl (.inl rfl) (pe_lit (d := dataOf 1) (lit_some (n := 60) (by decide +kernel))))
      (pss_cons (ps_set (i := 3) scOdd.nd rfl (.inl rfl) (pe_lit (d := dataOf 2) (lit_some (n := 60) (by decide +kernel))))
      (pss_one (ps_ret (pe_call GO hr (by rfl) gO FO.kp bO .nil pass0 (pa_cons (pv 0) (pa_cons (pe_op op_catT (pe_op op_catT (pe_op op_catT (pv 1) (pv 2)) (pv 3)) (pe_lit (lit_some (n := 60) (by decide +kernel)))) pa_nil))))))), ?_⟩
    intro v1 G1 k1 d1
    intro v2 G2 k2 d2
    intro v3 G3 k3 d3
    rw [data_tup0] at d1
    rw [data_tup1] at d2
    rw [data_tup2] at d3
    have f : ∀ {b : Addr}, False → tracked H b := fun z => z.elim
    obtain ⟨t1, xs1, rfl, e1, l1⟩ := tupD d1
    obtain ⟨t2, xs2, rfl, e2, l2⟩ := tupD d2
    obtain ⟨t3, xs3, rfl, e3, l3⟩ := tupD d3
    have k23 := k2.tr k3
    have n1 : xs1.length = 19 := l1.len.trans data_len0
    have n2 : xs2.length = 11 := l2.len.trans data_len1
    have n3 : xs3.length = 9 := l3.len.trans data_len2
    have big : ∀ {n : Nat}, n ≤ 1000 → n ≤ sizeLine := fun h => by rw [sizeLine_eq]; omega
    refine ⟨.ref a, rfl, .ref t1, rfl, .ref t2, rfl, t1, t2, xs1, xs2, rfl, rfl, .inl (rd_kp k23 (fun z => z) e1), .inl (rd_kp k3 (fun z => z) e2), ne_nil n1 (by decide), big (by omega), fun z => absurd z (ne_nil n2 (by decide)), fun _ p np => ?_⟩
    have n4 : (xs1 ++ xs2).length = 30 := by rw [List.length_append]; omega
    refine ⟨.ref t3, rfl, p, t3, _, xs3, rfl, rfl, .inl (.inl upd_same), .inl (rd_kp (Kp.new (Z := fun _ => False) np) (fun z => z) e3), ne_nil n4 (by decide), big (by omega), fun z => absurd z (ne_nil n3 (by decide)), fun _ p2 np2 => ?_⟩
    intro v4 G4 k4 d4
    obtain ⟨t4, xs4, rfl, e4, l4⟩ := tupD d4
    have n5 : (xs1 ++ xs2 ++ xs3).length = 39 := by rw [List.length_append]; omega
    have n6 : xs4.length = 1 := l4.len
    refine ⟨p2, t4, _, xs4, rfl, rfl, .inl (.inl (k4 _ _ (fun z => z) upd_same)), .inl e4, ne_nil n5 (by decide), big (by omega), fun z => absurd z (ne_nil n6 (by decide)), fun _ p3 np3 => ?_⟩
    have k34 : Kp (fun _ => False) G3 G4 := ((Kp.new np).tr (Kp.new np2)).tr k4
    have kA : Kp (fun _ => False) H (upd G4 p3 (.tup (xs1 ++ xs2 ++ xs3 ++ xs4))) := ((k1.tr k23).tr k34).tr (Kp.new np3)
    have n7 : (xs1 ++ xs2 ++ xs3 ++ xs4).length = 40 := by rw [List.length_append]; omega
    have L : DqL (tracked H) (upd G4 p3 (.tup (xs1 ++ xs2 ++ xs3 ++ xs4))) (xs1 ++ xs2 ++ xs3 ++ xs4) odds := by
      have up : ∀ {Z : Addr → Prop} {A B : Hp} {vs : List V} {ds : List PyData}, Kp (fun _ => False) A B → DqL Z A vs ds → DqL Z B vs ds := fun k l => l.kp (k.wk fun _ z => z.elim)
      have wk : ∀ {A : Hp} {vs : List V} {ds : List PyData} {B : Hp}, Kp (fun _ => False) H A → DqL (tracked A) B vs ds → DqL (tracked H) B vs ds := fun k l => l.wk fun b => k.trk b
      refine ((DqL.app (up ((k23.tr k34).tr (Kp.new np3)) l1) ?_).app ?_).app ?_
      · exact up ((k3.tr k34).tr (Kp.new np3)) (wk k1 l2)
      · exact up (k34.tr (Kp.new np3)) (wk (k1.tr k2) l3)
      · exact up (Kp.new np3) (wk (((k1.tr k23).tr (Kp.new np)).tr (Kp.new np2)) l4)
    refine ⟨a, p3, _, rfl, wl_of kA hW, upd_same, by rw [n7]; decide, by rw [n7]; decide, fun i v G hv mv => ?_⟩
    obtain ⟨d, hd, dq⟩ := L.get hv
    refine q v d G ((mv_of kA hW).tr mv) (dq.kp (mv.1.wk hW.trk)) (gd_of ?_) (List.mem_of_getElem? hd)
    exact List.all_eq_true.mp odds_good d (List.mem_of_getElem? hd)
end
end GR

namespace GR
open PySem PySem.Spec PyProof.Rows L2 KL
section
variable {P : Program} {w : World} {K : PySem.W.Frag} {mg : Str → Option Value} {base : Heap}
/-! ### _law_well -/
def spWell (K : PySem.W.Frag) : Sp := fun vs H Q _ => ∃ (a : Addr) (ns : List Int) (j : Nat), vs = [.ref a, .int (j : Int)] ∧ SqL K H a (ns.map V.int) ∧ ns.length ≤ 63 ∧ ∀ (p : Addr) (G : Hp), Kp (fun _ => False) H G → H p = none → Wl G p → Q (.ref p) G
theorem ok_well {f : Addr} {fd : FuncData} (F : Fun K "_law_well" "_law_well" sWell f fd) (mi : mg "int" = none) (ml : mg "len" = none) (ma : mg "abs" = none) : FnOk P w K mg base CX0 1 f fd ["script", "lap"] (spWell K) := by
  refine F.ok scWell (fun vs H Q E h => ?_) (fun cdv A outer s H vs Q E hr h => ?_)
  · obtain ⟨a, ns, j, rfl, _⟩ := h
    rfl
  · obtain ⟨a, ns, j, rfl, hS, hl, q⟩ := h
    refine ⟨_, pss_cons (ps_set (i := 2) scWell.nd rfl (.inl rfl) (pe_op op_add pe_int (pe_op op_mul pe_int (pv 1))))
      (pss_cons (ps_for PassesOwn.never rfl (pi_list (pe_slice sl_list (pv 0) po_none (po_some pe_int))) (pg_name (i := 3) scWell.nd rfl (.inl rfl))
        (pss_one (ps_set (i := 2) scWell.nd rfl (.inl rfl) (pe_op op_mod (pe_callTy call_int1 (by rfl) mi (by decide +kernel) (pa_cons (pe_op op_add (pe_op op_add (pe_op op_mul (pv 2) pe_int) (pe_op op_mul (pe_op op_mod (pe_callTy call_int1 (by rfl) mi (by decide +kernel) (pa_cons (pv 3) pa_nil)) pe_int) pe_int)) pe_int) pa_nil)) pe_int))))
      (pss_cons (ps_set (i := 4) scWell.nd rfl (.inl rfl) (pe_ifExp (pt_cmpR op_lt (pv 1) (pe_callB call_len_seq (by rfl) ml PySem.boot_len (pa_cons (pv 0) pa_nil)) (nomark _)) (pe_callTy call_int1 (by rfl) mi (by decide +kernel) (pa_cons (pe_ix ix_list (pv 0) (pv 1) (fun _ _ => rfl)) pa_nil)) pe_int))
      (pss_cons (ps_set (i := 2) scWell.nd rfl (.inl rfl) (pe_op op_mod (pe_callTy call_int1 (by rfl) mi (by decide +kernel) (pa_cons (pe_op op_add (pe_op op_add (pe_op op_mul (pv 2) pe_int) (pe_op op_mul (pe_op op_mod (pe_callTy call_int1 (by rfl) mi (by decide +kernel) (pa_cons (pv 4) pa_nil)) pe_int) pe_int)) pe_int) pa_nil)) pe_int))
      (pss_one (ps_ret (pe_lst (pa_cons (pe_ifExp (PW.pt (pw_or (pt_cmpR op_lt (pv 4) pe_int (nomark _)) (pw_or1 (pt_cmpR op_ge (pv 4) (pe_op op_pow pe_int pe_int) (nomark _))))) (pe_callB call_abs (by rfl) ma (by decide +kernel) (pa_cons (pv 4) pa_nil)) pe_int) (pa_cons (pv 2) (pa_cons pe_int pa_nil))))))))), ?_⟩
    -- mixed = 62001 + 7841 * lap
    refine ⟨_, rfl, 7841, (j : Int), rfl, rfl, .inl ⟨by decide, by decide⟩, _, _, rfl, rfl, ?_⟩
    -- the loop
    refine ⟨.ref a, rfl, 11, rfl, a, ns.map V.int, rfl, hS, fun p np => ?_⟩
    have kp : Kp (fun _ => False) H (upd H p (.lst (cutV (ns.map V.int) none (some 11)))) := Kp.new np
    have hS2 : SqL K (upd H p (.lst (cutV (ns.map V.int) none (some 11)))) a (ns.map V.int) := Same.seq (fun b o e => kp b o (fun z => z) e) hS
    have isInt : ∀ {l : List V} {i : Nat} {x : V}, (∃ u v, l = ((ns.map V.int).drop u).take v) → l[i]? = some x → ∃ c : Int, x = .int c := by
      rintro l i x ⟨u, v, rfl⟩ hx
      obtain ⟨c, _, rfl⟩ := List.mem_map.mp (List.mem_of_mem_drop (List.mem_of_mem_take (List.mem_of_getElem? hx)))
      exact ⟨c, rfl⟩
    refine ⟨p, rfl, ⟨_, .inl (.inl upd_same)⟩, for_list (K := K) (a := p) (xs := cutV (ns.map V.int) none (some 11)) (fun i σ G => ∃ (m : Int) (y : Option V), σ = [some (.ref a), some (.int (j : Int)), some (.int m), y, none] ∧ G = upd H p (.lst (cutV (ns.map V.int) none (some 11))))
      ⟨_, none, rfl, rfl⟩ (fun i σ G _ h => by obtain ⟨m, y, _, rfl⟩ := h; exact .inl (.inl upd_same)) ?_ ?_⟩
    · rintro i x σ G hx ⟨m, y, rfl, rfl⟩
      obtain ⟨c, rfl⟩ := isInt ⟨_, _, rfl⟩ hx
      refine ⟨.int m, rfl, m, 50423, rfl, rfl, .inr ⟨by decide, by decide⟩, .int c, rfl, .inl ⟨c, rfl, c, 2147483423, rfl, rfl, (by show (0 : Int) < 2147483423; decide), _, 9, rfl, rfl, .inr ⟨by decide, by decide⟩, _, _, rfl, rfl, _, 29, rfl, rfl, .inl ⟨_, rfl, _, 2147483423, rfl, rfl, (by show (0 : Int) < 2147483423; decide), ?_⟩⟩⟩
      exact ⟨_, some (.int c), rfl, rfl⟩
    · rintro σ G ⟨m, y, rfl, rfl⟩
      refine ⟨.int (j : Int), rfl, .ref a, rfl, a, _, rfl, .inl hS2, (j : Int), _, rfl, rfl, _, rfl, ite2 (fun c => ?_) (fun c => ?_)⟩
      · have hj : j < ns.length := by
          have c' := of_decide_eq_true c
          rw [List.length_map] at c'
          omega
        refine ⟨.ref a, rfl, .int (j : Int), rfl, a, _, (j : Int), .int ns[j], rfl, rfl, hS2, atI_nat (by rw [List.getElem?_map, List.getElem?_eq_getElem hj]; rfl), .inl ⟨ns[j], rfl, ?_⟩⟩
        refine ⟨.int m, rfl, m, 59, rfl, rfl, .inr ⟨by decide, by decide⟩, .int ns[j], rfl, .inl ⟨ns[j], rfl, ns[j], 2147483423, rfl, rfl, (by show (0 : Int) < 2147483423; decide), _, 30203, rfl, rfl, .inr ⟨by decide, by decide⟩, _, _, rfl, rfl, _, 11, rfl, rfl, .inl ⟨_, rfl, _, 2147483423, rfl, rfl, (by show (0 : Int) < 2147483423; decide), ?_⟩⟩⟩
        have done : ∀ (b c : Int) (p2 : Addr), (upd H p (.lst (cutV (ns.map V.int) none (some 11)))) p2 = none → Q (.ref p2) (upd (upd H p (.lst (cutV (ns.map V.int) none (some 11)))) p2 (.lst [.int b, .int c, .int 0])) := fun b c p2 n2 => q p2 _ (kp.tr (Kp.new n2)) (by
          have e := ne_of_none (upd_same (H := H) (a := p) (o := .lst (cutV (ns.map V.int) none (some 11)))) n2
          rw [upd_ne (Ne.symm e)] at n2
          exact n2) ⟨b, c, 0, upd_same⟩
        refine ⟨.int ns[j], rfl, _, 0, rfl, rfl, _, rfl, ite2 (fun c2 => ?_) (fun c2 => ?_)⟩
        · exact iteT ⟨.int ns[j], rfl, _, rfl, _, rfl, by show 3 ≤ sizeLine; decide, fun p2 n2 => done _ _ p2 n2⟩
        · refine ⟨.int ns[j], rfl, 10, 15, rfl, rfl, ⟨by decide, by decide, by decide⟩, _, _, rfl, rfl, _, rfl, ite2 (fun c3 => ?_) (fun c3 => ?_)⟩
          · exact ⟨.int ns[j], rfl, _, rfl, _, rfl, by show 3 ≤ sizeLine; decide, fun p2 n2 => done _ _ p2 n2⟩
          · exact ⟨_, rfl, by show 3 ≤ sizeLine; decide, fun p2 n2 => done _ _ p2 n2⟩
      · refine ⟨.int m, rfl, m, 59, rfl, rfl, .inr ⟨by decide, by decide⟩, .int 0, rfl, .inl ⟨0, rfl, 0, 2147483423, rfl, rfl, (by show (0 : Int) < 2147483423; decide), _, 30203, rfl, rfl, .inr ⟨by decide, by decide⟩, _, _, rfl, rfl, _, 11, rfl, rfl, .inl ⟨_, rfl, _, 2147483423, rfl, rfl, (by show (0 : Int) < 2147483423; decide), ?_⟩⟩⟩
        have done : ∀ (b c : Int) (p2 : Addr), (upd H p (.lst (cutV (ns.map V.int) none (some 11)))) p2 = none → Q (.ref p2) (upd (upd H p (.lst (cutV (ns.map V.int) none (some 11)))) p2 (.lst [.int b, .int c, .int 0])) := fun b c p2 n2 => q p2 _ (kp.tr (Kp.new n2)) (by
          have e := ne_of_none (upd_same (H := H) (a := p) (o := .lst (cutV (ns.map V.int) none (some 11)))) n2
          rw [upd_ne (Ne.symm e)] at n2
          exact n2) ⟨b, c, 0, upd_same⟩
        refine ⟨.int 0, rfl, _, 0, rfl, rfl, _, rfl, ite2 (fun c2 => ?_) (fun c2 => ?_)⟩
        · exact iteT ⟨.int 0, rfl, _, rfl, _, rfl, by show 3 ≤ sizeLine; decide, fun p2 n2 => done _ _ p2 n2⟩
        · refine ⟨.int 0, rfl, 10, 15, rfl, rfl, ⟨by decide, by decide, by decide⟩, _, _, rfl, rfl, _, rfl, ite2 (fun c3 => ?_) (fun c3 => ?_)⟩
          · exact ⟨.int 0, rfl, _, rfl, _, rfl, by show 3 ≤ sizeLine; decide, fun p2 n2 => done _ _ p2 n2⟩
          · exact ⟨_, rfl, by show 3 ≤ sizeLine; decide, fun p2 n2 => done _ _ p2 n2⟩
end
end GR

namespace GR
open PySem PySem.Spec PyProof.Rows L2 KL KG KS
/-! ### the law's looks at any thing -/
abbrev sWhole : Stmt := topS 30
abbrev sTup : Stmt := topS 31
theorem scWhole : FnScope ["thing"] ["thing"] (defScope sWhole) := ⟨rfl, rfl, rfl, by decide +kernel, rfl, by decide +kernel, by decide +kernel⟩
theorem scTup : FnScope ["thing", "few"] ["thing", "few"] (defScope sTup) := ⟨rfl, rfl, rfl, by decide +kernel, rfl, by decide +kernel, by decide +kernel⟩
theorem dq_tx {K : PySem.W.Frag} {Z : Addr → Prop} {H : Hp} {v : V} {d : PyData} (h : Dq Z H v d) : TyX K H v (.type (tyD d)) := by
  cases h with
  | non => exact .base .non
  | bl b => exact .base (.bl b)
  | int i => exact .base (.int i)
  | str x => exact .base (.str x)
  | lst e z m h => exact .base (.lst e)
  | tup e z h =>
    rcases e with e | ⟨o, e⟩
    · exact .base (.tup e)
    · exact .fTuple e
  | dct e z m => exact .base (.dK e)
def isWholeD : PyData → Bool
  | .int _ => true
  | _ => false
def isBoolD : PyData → Bool
  | .bool _ => true
  | _ => false
def isTupD : PyData → Bool
  | .tuple _ => true
  | _ => false
theorem kit_int (K : PySem.W.Frag) (d : PyData) : PySem.W.kitOne K (.type (tyD d)) (.type "int") = some (isWholeD d || isBoolD d) := by
  cases d <;> exact kit_ty (by kernel_rfl)
theorem kit_bool (K : PySem.W.Frag) (d : PyData) : PySem.W.kitOne K (.type (tyD d)) (.type "bool") = some (isBoolD d) := by
  cases d <;> exact kit_ty (by kernel_rfl)
theorem kit_tup (K : PySem.W.Frag) (d : PyData) : PySem.W.kitOne K (.type (tyD d)) (.type "tuple") = some (isTupD d) := by
  cases d <;> exact kit_ty (by kernel_rfl)
def spWhole : Sp := fun vs H Q _ => ∃ (v : V) (d : PyData) (Z : Addr → Prop), vs = [v] ∧ Dq Z H v d ∧ Q (.bl (isWholeD d)) H
def spTup : Sp := fun vs H Q _ => ∃ (v : V) (d : PyData) (n : Int) (Z : Addr → Prop), vs = [v, .int n] ∧ Dq Z H v d ∧ Q (.bl (isTupD d && decide ((lenD d : Int) = n))) H
section
variable {P : Program} {w : World} {K : PySem.W.Frag} {mg : Str → Option Value} {base : Heap}
theorem ok_whole {f : Addr} {fd : FuncData} (F : Fun K "_law_is_whole" "_law_is_whole" sWhole f fd) (mi : mg "isinstance" = none) (mn : mg "int" = none) (mb : mg "bool" = none) : FnOk P w K mg base CX0 1 f fd ["thing"] spWhole := by
  refine F.ok scWhole (fun vs H Q E h => ?_) (fun cdv A outer s H vs Q E hr h => ?_)
  · obtain ⟨v, d, Z, rfl, _⟩ := h
    rfl
  · obtain ⟨v, d, Z, rfl, dq, q⟩ := h
    refine ⟨_, pss_one (ps_ret (pe_and (pe_callB call_isi (by rfl) mi (by decide +kernel) (pa_cons (pv 0) (pa_cons (pe_bltn (u := .type "int") (by rfl) mn (by decide +kernel) (rt "int")) pa_nil)))
      (pe_one (pe_not (pe_callB call_isi (by rfl) mi (by decide +kernel) (pa_cons (pv 0) (pa_cons (pe_bltn (u := .type "bool") (by rfl) mb (by decide +kernel) (rt "bool")) pa_nil))))))), ?_⟩
    refine ⟨v, rfl, v, _, _, _, _, rfl, .ty "int", dq_tx dq, kit_int K d, _, rfl, ifte (fun c => ?_) (fun c => ?_)⟩
    · refine ⟨v, rfl, v, _, _, _, _, rfl, .ty "bool", dq_tx dq, kit_bool K d, _, rfl, ?_⟩
      cases d <;> first | exact q | exact absurd c Bool.false_ne_true
    · cases d <;> first | exact q | exact absurd c (by simp [isWholeD, isBoolD])
theorem ok_tup {f : Addr} {fd : FuncData} (F : Fun K "_law_is_tuple" "_law_is_tuple" sTup f fd) (mi : mg "isinstance" = none) (mt : mg "tuple" = none) (ml : mg "len" = none) : FnOk P w K mg base CX0 1 f fd ["thing", "few"] spTup := by
  refine F.ok scTup (fun vs H Q E h => ?_) (fun cdv A outer s H vs Q E hr h => ?_)
  · obtain ⟨v, d, n, Z, rfl, _⟩ := h
    rfl
  · obtain ⟨v, d, n, Z, rfl, dq, q⟩ := h
    refine ⟨_, pss_one (ps_ret (pe_and (pe_callB call_isi (by rfl) mi (by decide +kernel) (pa_cons (pv 0) (pa_cons (pe_bltn (u := .type "tuple") (by rfl) mt (by decide +kernel) (rt "tuple")) pa_nil)))
      (pe_one (pe_cmpR op_eq (pe_callB call_len_seq (by rfl) ml PySem.boot_len (pa_cons (pv 0) pa_nil)) (pv 1) (nomark _))))), ?_⟩
    refine ⟨v, rfl, v, _, _, _, _, rfl, .ty "tuple", dq_tx dq, kit_tup K d, _, rfl, ifte (fun c => ?_) (fun c => ?_)⟩
    · cases dq with
      | @tup a xs ds e z L =>
        refine ⟨.ref a, rfl, a, xs, rfl, .inr (.inl e), .int n, rfl, rfl, ?_⟩
        have e2 : decide (V.int (xs.length : Int) = V.int n) = (isTupD (.tuple ds) && decide ((lenD (.tuple ds) : Int) = n)) := by
          rw [L.len]
          show _ = decide ((ds.length : Int) = n)
          by_cases y : (ds.length : Int) = n
          · rw [decide_eq_true y, decide_eq_true (by rw [y])]
          · rw [decide_eq_false y, decide_eq_false (fun u => y (V.int.inj u))]
        rw [e2]
        exact q
      | _ => exact absurd c Bool.false_ne_true
    · rw [show isTupD d = false from c] at q
      exact q
end
end GR

namespace GR
open PySem PySem.Spec PyProof.Rows L2 KL KG KS
/-! ### _law_dealt -/
abbrev sDealt : Stmt := topS 29
theorem scDealt : FnScope ["well", "few", "left", "found", "turn"] ["well", "few"] (defScope sDealt) := ⟨rfl, rfl, rfl, by decide +kernel, rfl, by decide +kernel, by decide +kernel⟩
def natV (ns : List Nat) : List V := ns.map fun (i : Nat) => V.int (i : Int)
theorem rgV_nat (n : Nat) : rgV 0 (n : Int) = natV (List.range n) := by
  unfold rgV natV
  rw [show ((n : Int) - 0).toNat = n by omega]
  refine List.map_congr_left fun i _ => ?_
  rw [Int.zero_add]
theorem natV_len (ns : List Nat) : (natV ns).length = ns.length := List.length_map ..
theorem natV_get {ns : List Nat} {i : Nat} (h : i < ns.length) : (natV ns)[i]? = some (.int (ns[i] : Int)) := by
  unfold natV
  rw [List.getElem?_map, List.getElem?_eq_getElem h]
  rfl
theorem natV_erase (ns : List Nat) (i : Nat) : (natV ns).eraseIdx i = natV (ns.eraseIdx i) := by
  unfold natV
  rw [List.eraseIdx_eq_take_drop_succ, List.eraseIdx_eq_take_drop_succ, List.map_append, List.map_take, List.map_drop]
theorem natV_snoc (ns : List Nat) (i : Nat) : natV ns ++ [.int (i : Int)] = natV (ns ++ [i]) := by
  unfold natV
  rw [List.map_append]
  rfl
theorem perm_erase {ns : List Nat} {i : Nat} (h : i < ns.length) : (ns[i] :: ns.eraseIdx i).Perm ns := by
  have e : ns = ns.take i ++ ns[i] :: ns.drop (i + 1) := by
    rw [← List.drop_eq_getElem_cons h, List.take_append_drop]
  rw [List.eraseIdx_eq_take_drop_succ]
  conv => rhs; rw [e]
  exact List.perm_middle.symm
/-- numbers below n in a drawn order -/
def spDealt : Sp := fun vs H Q _ => ∃ (a : Addr) (n : Nat), vs = [.ref a, .int (n : Int)] ∧ Wl H a ∧ n ≤ 1000 ∧ ∀ (p : Addr) (ns : List Nat) (G : Hp), ns.Perm (List.range n) → Mv a H G → H p = none → G p = some (.lst (natV ns)) → Q (.ref p) G
section
variable {P : Program} {w : World} {K : PySem.W.Frag} {mg : Str → Option Value} {base : Heap}
theorem Mv.free {a p : Addr} {H G : Hp} (m : Mv a H G) (h : Wl H a) (n : G p = none) : H p = none := by
  cases e : H p with
  | none => rfl
  | some o =>
    by_cases z : p = a
    · obtain ⟨x, y, t, q⟩ := m.2
      rw [z, q] at n
      cases n
    · have := m.1 p o z e
      rw [n] at this
      cases this
theorem Kp.off {Z : Addr → Prop} {H G : Hp} {p : Addr} {o : HO} (k : Kp Z H G) (n : H p = none) : Kp Z H (upd G p o) := fun b u nz e => by
  rw [upd_ne (ne_of_none e n)]
  exact k b u nz e
theorem Mv.off {a p : Addr} {H G : Hp} {o : HO} (m : Mv a H G) (h : Wl H a) (n : H p = none) : Mv a H (upd G p o) := by
  refine ⟨Kp.off m.1 n, ?_⟩
  obtain ⟨x, y, z, e⟩ := m.2
  exact ⟨x, y, z, by rw [upd_ne (h.ne n)]; exact e⟩
theorem ok_dealt {f fD : Addr} {fd fdD : FuncData} (F : Fun K "_law_dealt" "_law_dealt" sDealt f fd) (FD : Fun K "_law_draw" "_law_draw" sDraw fD fdD) (gD : mg "_law_draw" = some (.ref fD)) (bD : L2.Binds K fdD ["well", "few"] []) (md : mg "divmod" = none) (mi : mg "int" = none) (ml : mg "len" = none) (mL : mg "list" = none) (mr : mg "range" = none) :
    FnOk P w K mg base CX0 2 f fd ["well", "few"] spDealt := by
  have GD : FnOk P w K mg base CX0 1 fD fdD ["well", "few"] spDraw := ok_draw FD md mi
  refine F.ok scDealt (fun vs H Q E h => ?_) (fun cdv A outer s H vs Q E hr h => ?_)
  · obtain ⟨a, n, rfl, _⟩ := h
    rfl
  · obtain ⟨a, n, rfl, hW, hn, q⟩ := h
    refine ⟨_, pss_cons (ps_par (i := 2) (j := 3) rfl scDealt.nd rfl rfl (by decide) (by rfl) (by rfl) (pa_cons (pe_listRg rfl (by rfl) mL (prg_1 (by rfl) mr (pv 1))) (pa_cons (pe_lst pa_nil) pa_nil)) (by rfl))
      (pss_cons (ps_for PassesOwn.never rfl (pi_range1 (by rfl) mr (pa_cons (pv 1) pa_nil)) (pg_name (i := 4) scDealt.nd rfl (.inl rfl))
        (pss_one (ps_expr (pe_bm PySem.F.plainAttrs_list PySem.F.slot_list_append PySem.F.type_list_append mt_append (pv 3) (pa_cons
          (pe_bm PySem.F.plainAttrs_list PySem.F.slot_list_pop PySem.F.type_list_pop mt_popAt (pv 2) (pa_cons (pe_call GD hr (by rfl) gD FD.kp bD .nil pass0 (pa_cons (pv 0) (pa_cons (pe_callB (show CallR _ _ (fun xs H Q => ∃ p ys, xs = [.ref p] ∧ (SqL K H p ys ∨ SqT K H p ys) ∧ Q (.int ys.length) H) from call_len_seq) (by rfl) ml PySem.boot_len (pa_cons (pv 2) pa_nil)) pa_nil))) pa_nil)) pa_nil)))))
      (pss_one (ps_ret (pv 3)))), ?_⟩
    refine ⟨.int (n : Int), rfl, (n : Int), rfl, RgOk.of_le (by omega) (by omega) (by omega) (by omega), fun L nL => ⟨by decide, fun R nR => ⟨.ref L, .ref R, rfl, ?_⟩⟩⟩
    rw [rgV_nat] at nR ⊢
    have hLR : L ≠ R := ne_of_none upd_same nR
    have hLa : a ≠ L := hW.ne nL
    have hRa : a ≠ R := (hW.new nL).ne nR
    have nR0 : H R = none := by
      rw [upd_ne (Ne.symm hLR)] at nR
      exact nR
    refine ⟨.int (n : Int), rfl, (n : Int), rfl, by omega, by omega, ?_⟩
    refine for_range (lo := 0) (n := n) (fun i σ G => ∃ (l r : List Nat) (y : Option V), σ = [some (.ref a), some (.int (n : Int)), some (.ref L), some (.ref R), y] ∧ G L = some (.lst (natV l)) ∧ G R = some (.lst (natV r)) ∧ (r ++ l).Perm (List.range n) ∧ r.length = i ∧ Mv a H G)
      ⟨List.range n, [], none, rfl, by rw [upd_ne hLR]; exact upd_same, upd_same, List.Perm.refl _, rfl, (Mv.new hW nL).tr (Mv.new (hW.new nL) nR)⟩ ?_ ?_
    · rintro i σ G hi ⟨l, r, y, rfl, eL, eR, pm, lr, mv⟩
      have hl : l.length = n - i := by
        have := pm.length_eq
        rw [List.length_append, List.length_range] at this
        omega
      refine ⟨.ref R, rfl, .inl ⟨rfl, _, .inl (.inl eR)⟩, .ref L, rfl, .inl ⟨rfl, _, .inl (.inl eL)⟩, .ref a, rfl, .ref L, rfl, L, natV l, rfl, .inl (.inl (.inl eL)), a, ((natV l).length : Int), rfl, mv.2, ?_, ?_, fun d J d0 d1 mv2 => ?_⟩
      · rw [natV_len]; omega
      · rw [natV_len]; omega
      rw [natV_len] at d1
      obtain ⟨k, rfl⟩ : ∃ k : Nat, d = (k : Int) := ⟨d.toNat, (Int.toNat_of_nonneg d0).symm⟩
      have hk : k < l.length := by omega
      have eL2 : J L = some (.lst (natV l)) := mv2.1 L _ (fun z => hLa z.symm) eL
      have eR2 : J R = some (.lst (natV r)) := mv2.1 R _ (fun z => hRa z.symm) eR
      refine ⟨L, natV l, (k : Int), k, _, rfl, rfl, eL2, by omega, by omega, ?_, natV_get hk, R, natV r, _, rfl, rfl, (upd_ne (Ne.symm hLR)).trans eR2, ?_, ?_⟩
      · rw [natV_len]
        unfold seqIndex?
        simp
        omega
      · rw [natV_len, sizeLine_eq]; omega
      · rw [natV_erase, natV_snoc]
        refine ⟨l.eraseIdx k, r ++ [l[k]], _, rfl, ?_, upd_same, ?_, by rw [List.length_append, lr]; rfl, ((mv.tr mv2).off hW nL).off hW nR0⟩
        · rw [upd_ne hLR]
          exact upd_same
        · rw [List.append_assoc]
          exact ((List.Perm.append_left r (perm_erase hk)).trans pm)
    · rintro σ G ⟨l, r, y, rfl, eL, eR, pm, lr, mv⟩
      have hl : l = [] := by
        have := pm.length_eq
        rw [List.length_append, List.length_range] at this
        exact List.eq_nil_of_length_eq_zero (by omega)
      rw [hl, List.append_nil] at pm
      exact ⟨.ref R, rfl, q R r G pm mv nR0 eR⟩
end
end GR

namespace KS
open PySem PySem.Spec PyProof.Rows L2
/-- for c in s -/
theorem for_str {z : Str} {g : TG} {tb : TS} {D : Ends} {σ : L2.St} {H : Hp} (Pv : Nat → L2.St → Hp → Prop) (h0 : Pv 0 σ H)
    (hs : ∀ i c σ H, z.cps.toList[i]? = some c → Pv i σ H → g (.str ⟨#[c]⟩) σ H fun σ2 H2 => tb { D with nx := Pv (i + 1), ct := Pv (i + 1), bk := D.nx } σ2 H2) (hd : ∀ σ H, Pv z.cps.toList.length σ H → D.nx σ H) :
    ∃ W : Nat → Nat → L2.St → Hp → Prop, (∃ m, W 0 m σ H) ∧ ∀ i m σ H, W i m σ H →
      ((Its z).stop i H ∧ D.nx σ H) ∨ ((Its z).go i H ∧ ∃ N : L2.St → Hp → Prop, (∀ σ' H', N σ' H' → ∃ m', m' < m ∧ W (i + 1) m' σ' H') ∧ ∀ x H', (Its z).yld i H x H' → g x σ H' fun σ2 H2 => tb { D with nx := N, ct := N, bk := D.nx } σ2 H2) := by
  have sz : z.cps.toList.length = z.cps.size := by simp
  refine ⟨fun i m σ H => m = z.cps.size - i ∧ i ≤ z.cps.size ∧ Pv i σ H, ⟨z.cps.size, rfl, Nat.zero_le _, h0⟩, ?_⟩
  rintro i m σ H ⟨rfl, hi, p⟩
  by_cases hlt : i < z.cps.size
  · refine .inr ⟨hlt, Pv (i + 1), fun σ' H' p' => ⟨z.cps.size - (i + 1), by omega, rfl, hlt, p'⟩, fun x H' y => ?_⟩
    obtain ⟨e, c, hc, rfl⟩ := y
    subst e
    exact hs i c σ _ (by rw [Array.getElem?_toList]; exact hc) p
  · have e : i = z.cps.size := by omega
    subst e
    exact .inl ⟨Nat.le_refl _, hd σ H (by rw [sz]; exact p)⟩
end KS
namespace GR
open PySem PySem.Spec PyProof.Rows L2 KL KG KS
/-! ### _law_name, _law_names, _law_lot -/
abbrev sNam : Stmt := topS 34
abbrev sNams : Stmt := topS 35
abbrev sLLot : Stmt := topS 36
theorem scNam : FnScope ["well", "signs", "name", "turn", "words"] ["well"] (defScope sNam) := ⟨rfl, rfl, rfl, by decide +kernel, rfl, by decide +kernel, by decide +kernel⟩
theorem scNams : FnScope ["well", "few", "found", "spare", "turn", "name", "sign"] ["well", "few"] (defScope sNams) := ⟨rfl, rfl, rfl, by decide +kernel, rfl, by decide +kernel, by decide +kernel⟩
theorem scLLot : FnScope ["well", "few", "least", "many"] ["well", "few", "least"] (defScope sLLot) := ⟨rfl, rfl, rfl, by decide +kernel, rfl, by decide +kernel, by decide +kernel⟩
def signsS : Str := "abcdefghijklmnopqrstuvwxyz0123456789"
/-- the signs of a name that grows -/
def SgOk (k : Nat) (x : Str) : Prop := x.length = k ∧ firstOk x = true ∧ x.cps.toList.all (fun c => letterC c || figureC c) = true
theorem signs_len : signsS.cps.toList.length = 36 := by decide +kernel
theorem signs_all : signsS.cps.toList.all (fun c => letterC c || figureC c) = true := by decide +kernel
theorem signs_let : (signsS.cps.toList.take 26).all letterC = true := by decide +kernel
theorem signs_one {i c : Nat} (hi : i < 26) (h : signsS.cps.toList[i]? = some c) : SgOk 1 ⟨#[c]⟩ := by
  have l : letterC c = true := List.all_eq_true.mp signs_let c (List.mem_of_getElem? (i := i) (by rw [List.getElem?_take, if_pos hi]; exact h))
  refine ⟨rfl, l, ?_⟩
  show ((letterC c || figureC c) && true) = true
  rw [l]
  rfl
theorem sg_snoc {k : Nat} {x : Str} {i c : Nat} (h : SgOk k x) (hk : 1 ≤ k) (hc : signsS.cps.toList[i]? = some c) : SgOk (k + 1) (x ++ ⟨#[c]⟩) := by
  obtain ⟨h1, h2, h3⟩ := h
  have e : (x ++ (⟨#[c]⟩ : Str)).cps.toList = x.cps.toList ++ [c] := by
    show (x.cps ++ #[c]).toList = _
    simp
  have lx : x.cps.toList.length = k := by rw [← h1]; simp; rfl
  refine ⟨?_, ?_, ?_⟩
  · have : (x ++ (⟨#[c]⟩ : Str)).cps.toList.length = k + 1 := by rw [e, List.length_append, lx]; rfl
    rw [← this]
    simp
    rfl
  · unfold firstOk at h2 ⊢
    rw [e, List.getElem?_append_left (by omega)]
    exact h2
  · rw [e, List.all_append, h3]
    have z := List.all_eq_true.mp signs_all c (List.mem_of_getElem? hc)
    show (true && ((letterC c || figureC c) && true)) = true
    rw [z]
    rfl
theorem sg_name {k : Nat} {x : Str} (h : SgOk k x) (h1 : 1 ≤ k) (h8 : k ≤ 8) (nw : inV (.str x) (wordsL.map V.str) = false) : isNameD (.str x) = true := by
  obtain ⟨a, b, c⟩ := h
  show (!inV (.str x) (wordsL.map V.str) && ((decide (1 ≤ x.length) && decide (x.length ≤ 8)) && (firstOk x && x.cps.toList.all (fun c => letterC c || figureC c)))) = true
  rw [nw, b, c, decide_eq_true (by omega), decide_eq_true (by omega)]
  rfl
theorem q_name : isNameD (.str "q") = true := by decide +kernel
def spNam : Sp := fun vs H Q _ => ∃ a : Addr, vs = [.ref a] ∧ Wl H a ∧ ∀ (x : Str) (G : Hp), isNameD (.str x) = true → Mv a H G → Q (.str x) G
section
variable {P : Program} {w : World} {K : PySem.W.Frag} {mg : Str → Option Value} {base : Heap}
/-- the draws that the law's other defs call -/
structure Dw (K : PySem.W.Frag) (mg : Str → Option Value) (fD fO fDe : Addr) (fdD fdO fdDe : FuncData) : Prop where
  D : Fun K "_law_draw" "_law_draw" sDraw fD fdD
  O : Fun K "_law_one" "_law_one" sOne fO fdO
  De : Fun K "_law_dealt" "_law_dealt" sDealt fDe fdDe
  gD : mg "_law_draw" = some (.ref fD)
  gO : mg "_law_one" = some (.ref fO)
  gDe : mg "_law_dealt" = some (.ref fDe)
  bD : L2.Binds K fdD ["well", "few"] []
  bO : L2.Binds K fdO ["well", "some"] []
  bDe : L2.Binds K fdDe ["well", "few"] []
  md : mg "divmod" = none
  mi : mg "int" = none
  ml : mg "len" = none
  mL : mg "list" = none
  mr : mg "range" = none
  mt : mg "tuple" = none
  ms : mg "sorted" = none
variable {fD fO fDe : Addr} {fdD fdO fdDe : FuncData}
theorem Dw.okD (S : Dw K mg fD fO fDe fdD fdO fdDe) : FnOk P w K mg base CX0 1 fD fdD ["well", "few"] spDraw := ok_draw S.D S.md S.mi
theorem Dw.okO (S : Dw K mg fD fO fDe fdD fdO fdDe) : FnOk P w K mg base CX0 2 fO fdO ["well", "some"] spOne := ok_one S.O S.D S.gD S.bD S.md S.mi S.ml
theorem Dw.okDe (S : Dw K mg fD fO fDe fdD fdO fdDe) : FnOk P w K mg base CX0 2 fDe fdDe ["well", "few"] spDealt := ok_dealt S.De S.D S.gD S.bD S.md S.mi S.ml S.mL S.mr
theorem ok_nam {f : Addr} {fd : FuncData} (F : Fun K "_law_name" "_law_name" sNam f fd) (S : Dw K mg fD fO fDe fdD fdO fdDe) : FnOk P w K mg base CX0 3 f fd ["well"] spNam := by
  refine F.ok scNam (fun vs H Q E h => ?_) (fun cdv A outer s H vs Q E hr h => ?_)
  · obtain ⟨a, rfl, _⟩ := h
    rfl
  · obtain ⟨a, rfl, hW, q⟩ := h
    refine ⟨_, pss_cons (ps_set (i := 1) scNam.nd rfl (.inl rfl) pe_str)
      (pss_cons (ps_set (i := 2) scNam.nd rfl (.inl rfl) (pe_ix ix_str (pv 1) (pe_call S.okD (hr.mono (by decide)) (by rfl) S.gD S.D.kp S.bD .nil pass0 (pa_cons (pv 0) (pa_cons pe_int pa_nil))) (fun _ _ => rfl)))
      (pss_cons (ps_for PassesOwn.never rfl (pi_range1 (by rfl) S.mr (pa_cons (pe_call S.okO hr (by rfl) S.gO S.O.kp S.bO .nil pass0 (pa_cons (pv 0) (pa_cons (pe_tup (pa_cons pe_int (pa_cons pe_int (pa_cons pe_int (pa_cons pe_int (pa_cons pe_int (pa_cons pe_int (pa_cons pe_int pa_nil)))))))) pa_nil))) pa_nil)) (pg_name (i := 3) scNam.nd rfl (.inl rfl))
        (pss_one (ps_set (i := 2) scNam.nd rfl (.inl rfl) (pe_op op_add_str (pv 2) (pe_ix ix_str (pv 1) (pe_call S.okD (hr.mono (by decide)) (by rfl) S.gD S.D.kp S.bD .nil pass0 (pa_cons (pv 0) (pa_cons pe_int pa_nil))) (fun _ _ => rfl))))))
      (pss_cons (ps_set (i := 4) scNam.nd rfl (.inl rfl) (pe_tup (pa_cons pe_str (pa_cons pe_str (pa_cons pe_str (pa_cons pe_str (pa_cons pe_str (pa_cons pe_str (pa_cons pe_str (pa_cons pe_str (pa_cons pe_str pa_nil)))))))))))
      (pss_one (ps_ret (pe_ifExp (pt_cmpR op_in_seq (pv 2) (pv 4) (by with_unfolding_all rfl)) pe_str (pv 2))))))), ?_⟩
    have at_ : ∀ {i : Nat} {c : Nat}, signsS.cps.toList[i]? = some c → atI signsS.cps.toList (i : Int) = some c := fun h => atI_nat h
    refine ⟨.str signsS, rfl, .ref a, rfl, a, 26, rfl, hW, by decide, by decide, fun r G r0 r1 mv => ?_⟩
    obtain ⟨i, rfl⟩ : ∃ i : Nat, r = (i : Int) := ⟨r.toNat, (Int.toNat_of_nonneg r0).symm⟩
    have hi : i < 26 := by omega
    have hc : signsS.cps.toList[i]? = some (signsS.cps.toList[i]'(by rw [signs_len]; omega)) := List.getElem?_eq_getElem _
    refine ⟨signsS, (i : Int), _, rfl, rfl, by decide +kernel, at_ hc, ?_⟩
    have s1 := signs_one hi hc
    generalize (signsS.cps.toList[i]'(by rw [signs_len]; omega)) = c at s1
    refine ⟨.ref a, rfl, (by show 7 ≤ sizeLine; decide), fun t nt => ?_⟩
    refine ⟨a, t, _, rfl, mv.2.new nt, upd_same, by decide, by decide, fun j v G2 hv mv2 => ?_⟩
    obtain ⟨k, rfl, hk⟩ : ∃ k : Nat, v = .int (k : Int) ∧ k ≤ 7 := by
      have m := List.mem_of_getElem? hv
      simp only [List.mem_cons, List.not_mem_nil, or_false] at m
      rcases m with rfl | rfl | rfl | rfl | rfl | rfl | rfl
      · exact ⟨0, rfl, by decide⟩
      · exact ⟨0, rfl, by decide⟩
      · exact ⟨0, rfl, by decide⟩
      · exact ⟨1, rfl, by decide⟩
      · exact ⟨1, rfl, by decide⟩
      · exact ⟨2, rfl, by decide⟩
      · exact ⟨7, rfl, by decide⟩
    have mvA : Mv a H G2 := (mv.tr (Mv.new mv.2 nt)).tr mv2
    refine ⟨(k : Int), rfl, by omega, by omega, ?_⟩
    rw [show ((k : Int)).toNat = k by omega]
    refine for_range (lo := 0) (n := k) (fun i σ J => ∃ (x : Str) (y : Option V), σ = [some (.ref a), some (.str signsS), some (.str x), y, none] ∧ SgOk (i + 1) x ∧ Mv a H J) ⟨⟨#[c]⟩, none, rfl, s1, mvA⟩ ?_ ?_
    · rintro i σ J hi ⟨x, y, rfl, sx, mJ⟩
      refine ⟨.str x, rfl, .str signsS, rfl, .ref a, rfl, a, 36, rfl, mJ.2, by decide, by decide, fun r G3 r0 r1 mv3 => ?_⟩
      obtain ⟨j, rfl⟩ : ∃ j : Nat, r = (j : Int) := ⟨r.toNat, (Int.toNat_of_nonneg r0).symm⟩
      have hc : signsS.cps.toList[j]? = some (signsS.cps.toList[j]'(by rw [signs_len]; omega)) := List.getElem?_eq_getElem _
      refine ⟨signsS, (j : Int), _, rfl, rfl, by decide +kernel, at_ hc, x, _, rfl, rfl, ?_, ?_⟩
      · have := sx.1
        rw [sizeLine_eq]
        show x.length + 1 ≤ _
        omega
      · exact ⟨_, some (.int (0 + (i : Int))), rfl, sg_snoc sx (by omega) hc, mJ.tr mv3⟩
    · rintro σ J ⟨x, y, rfl, sx, mJ⟩
      refine ⟨(by show 9 ≤ sizeLine; decide), fun t2 n2 => ?_⟩
      have mF : Mv a H (upd J t2 (.tup (wordsL.map V.str))) := mJ.tr (Mv.new mJ.2 n2)
      refine ⟨.str x, rfl, .ref t2, rfl, t2, wordsL.map V.str, rfl, .inr (.inl (.inl upd_same)), rfl, words_flat, _, rfl, ifte (fun c => q _ _ q_name mF) (fun c => ⟨.str x, rfl, q x _ (sg_name sx (by omega) (by omega) c) mF⟩)⟩
end
end GR

namespace GR
open PySem PySem.Spec PyProof.Rows L2 KL KG KS
/-- pigeons, of any kind -/
theorem nodup_le {α : Type} [DecidableEq α] : ∀ (l D : List α), l.Nodup → (∀ x ∈ l, x ∈ D) → l.length ≤ D.length
  | [], _, _, _ => Nat.zero_le _
  | x :: l, D, hn, hs => by
    obtain ⟨h1, h2⟩ := List.nodup_cons.mp hn
    have hx : x ∈ D := hs x List.mem_cons_self
    have ih := nodup_le l (D.erase x) h2 fun y hy => (List.mem_erase_of_ne (fun (e : y = x) => h1 (by rw [← e]; exact hy))).2 (hs y (List.mem_cons_of_mem _ hy))
    have e := List.length_erase_of_mem hx
    have p : 0 < D.length := List.length_pos_of_mem hx
    rw [List.length_cons]
    omega
theorem in_str_iff {x : Str} {ws : List Str} : inV (.str x) (ws.map V.str) = true ↔ x ∈ ws := by
  unfold inV
  rw [List.any_eq_true]
  constructor
  · rintro ⟨v, hv, e⟩
    obtain ⟨y, hy, rfl⟩ := List.mem_map.mp hv
    have e : (x == y) = true ∨ (y == x) = true := by first | exact .inl e | exact .inr e
    rcases e with e | e
    · rw [beq_iff_eq.mp e]
      exact hy
    · rw [← beq_iff_eq.mp e]
      exact hy
  · intro h
    exact ⟨.str x, List.mem_map.mpr ⟨x, h, rfl⟩, beq_self_eq_true x⟩
def sgL : List Str := lettersS.cps.toList.map fun c => (⟨#[c]⟩ : Str)
theorem sgL_nodup : sgL.Nodup := by decide +kernel
theorem sgL_len : sgL.length = 26 := by decide +kernel
theorem let_len : lettersS.cps.toList.length = 26 := by decide +kernel
theorem sgL_names : sgL.all (fun x => isNameD (.str x)) = true := by decide +kernel
theorem sgL_get {i c : Nat} (h : lettersS.cps.toList[i]? = some c) : sgL[i]? = some (⟨#[c]⟩ : Str) := by
  unfold sgL
  rw [List.getElem?_map, h]
  rfl
/-- so many unlike names, as a tuple that stands -/
def spNams : Sp := fun vs H Q _ => ∃ (a : Addr) (n : Nat), vs = [.ref a, .int (n : Int)] ∧ Wl H a ∧ n ≤ 9 ∧
  ∀ (p : Addr) (o : Obj) (ws : List Str) (G : Hp), ws.length = n → ws.Nodup → (∀ x ∈ ws, isNameD (.str x) = true) → Mv a H G → H p = none → o.dict = none → G p = some (.frz o (.tup (ws.map V.str))) → Q (.ref p) G
section
variable {P : Program} {w : World} {K : PySem.W.Frag} {mg : Str → Option Value} {base : Heap} {fD fO fDe : Addr} {fdD fdO fdDe : FuncData}
theorem ok_nams {f fN : Addr} {fd fdN : FuncData} (F : Fun K "_law_names" "_law_names" sNams f fd) (FN : Fun K "_law_name" "_law_name" sNam fN fdN) (gN : mg "_law_name" = some (.ref fN)) (bN : L2.Binds K fdN ["well"] []) (S : Dw K mg fD fO fDe fdD fdO fdDe) : FnOk P w K mg base CX0 4 f fd ["well", "few"] spNams := by
  have GN : FnOk P w K mg base CX0 3 fN fdN ["well"] spNam := ok_nam FN S
  refine F.ok scNams (fun vs H Q E h => ?_) (fun cdv A outer s H vs Q E hr h => ?_)
  · obtain ⟨a, n, rfl, _⟩ := h
    rfl
  · obtain ⟨a, n, rfl, hW, hn, q⟩ := h
    refine ⟨_, pss_cons (ps_par (i := 2) (j := 3) rfl scNams.nd rfl rfl (by decide) (by rfl) (by rfl) (pa_cons (pe_lst pa_nil) (pa_cons pe_str pa_nil)) (by rfl))
      (pss_cons (ps_for PassesOwn.never rfl (pi_range1 (by rfl) S.mr (pa_cons (pv 1) pa_nil)) (pg_name (i := 4) scNams.nd rfl (.inl rfl))
        (pss_cons (ps_set (i := 5) scNams.nd rfl (.inl rfl) (pe_call GN hr (by rfl) gN FN.kp bN .nil pass0 (pa_cons (pv 0) pa_nil)))
        (pss_cons (ps_for PassesOwn.never rfl (pi_str (pv 3)) (pg_name (i := 6) scNams.nd rfl (.inl rfl))
          (pss_one (ps_set (i := 5) scNams.nd rfl (.inl rfl) (pe_ifExp (pt_cmpR (show OpR _ _ (rIn K false) from op_in_seq) (pv 5) (pv 2) (by with_unfolding_all rfl)) (pv 6) (pv 5)))))
        (pss_one (ps_expr (pe_bm PySem.F.plainAttrs_list PySem.F.slot_list_append PySem.F.type_list_append mt_append (pv 2) (pa_cons (pv 5) pa_nil)))))))
      (pss_one (ps_ret (pe_tupF (by rfl) S.mt (pv 2))))), ?_⟩
    refine ⟨by decide, fun R nR => ⟨.ref R, .str lettersS, rfl, ?_⟩⟩
    have hRa : a ≠ R := hW.ne nR
    refine ⟨.int (n : Int), rfl, (n : Int), rfl, by omega, by omega, ?_⟩
    rw [show ((n : Int)).toNat = n by omega]
    refine for_range (lo := 0) (n := n) (fun i σ G => ∃ (ws : List Str) (y z u : Option V), σ = [some (.ref a), some (.int (n : Int)), some (.ref R), some (.str lettersS), y, z, u] ∧ G R = some (.lst (ws.map V.str)) ∧ ws.length = i ∧ ws.Nodup ∧ (∀ x ∈ ws, isNameD (.str x) = true) ∧ Mv a H G)
      ⟨[], none, none, none, rfl, upd_same, rfl, List.nodup_nil, fun x hx => absurd hx List.not_mem_nil, Mv.new hW nR⟩ ?_ ?_
    · rintro i σ G hi ⟨ws, y, z, u, rfl, eR, lw, nd, nm, mv⟩
      refine ⟨.ref a, rfl, a, rfl, mv.2, fun x0 G1 hx0 mv1 => ?_⟩
      have eR1 : G1 R = some (.lst (ws.map V.str)) := mv1.1 R _ (fun z => hRa z.symm) eR
      refine ⟨_, rfl, lettersS, rfl, for_str (z := lettersS) (fun j σ G2 => ∃ (x : Str) (u : Option V), σ = [some (.ref a), some (.int (n : Int)), some (.ref R), some (.str lettersS), some (.int (0 + (i : Int))), some (.str x), u] ∧ G2 = G1 ∧ isNameD (.str x) = true ∧ (x ∈ ws → ∀ l < j, ∀ c : Nat, lettersS.cps.toList[l]? = some c → (⟨#[c]⟩ : Str) ∈ ws))
        ⟨x0, u, rfl, rfl, hx0, fun _ l hl => absurd hl (Nat.not_lt_zero _)⟩ ?_ ?_⟩
      · rintro j c σ G2 hc ⟨x, u, rfl, rfl, hx, all⟩
        refine ⟨.str x, rfl, .ref R, rfl, R, ws.map V.str, rfl, .inl (.inl (.inl eR1)), rfl, flat_strs _, _, rfl, ifte (fun c1 => ?_) (fun c1 => ?_)⟩
        · have hin : x ∈ ws := in_str_iff.mp c1
          refine ⟨.str ⟨#[c]⟩, rfl, ⟨#[c]⟩, some (.str ⟨#[c]⟩), rfl, rfl, List.all_eq_true.mp sgL_names _ (List.mem_of_getElem? (sgL_get hc)), fun hs l hl d hd => ?_⟩
          rcases Nat.lt_or_ge l j with k | k
          · exact all hin l k d hd
          · have e : l = j := by omega
            rw [e, hc] at hd
            cases hd
            exact hs
        · have hout : ¬ x ∈ ws := fun z => by
            rw [in_str_iff.mpr z] at c1
            cases c1
          exact ⟨.str x, rfl, x, some (.str ⟨#[c]⟩), rfl, rfl, hx, fun z => absurd z hout⟩
      · rintro σ G2 ⟨x, u, rfl, rfl, hx, all⟩
        have hout : ¬ x ∈ ws := fun z => by
          have sub : ∀ y ∈ sgL, y ∈ ws := fun y hy => by
            obtain ⟨l, hl, e⟩ := List.getElem_of_mem hy
            rw [sgL_len] at hl
            have hc : lettersS.cps.toList[l]? = some (lettersS.cps.toList[l]'(by rw [let_len]; exact hl)) := List.getElem?_eq_getElem _
            have e2 := sgL_get hc
            rw [List.getElem?_eq_getElem (by rw [sgL_len]; exact hl), e] at e2
            rw [Option.some.inj e2]
            exact all z l (by rw [let_len]; exact hl) _ hc
          have := nodup_le sgL ws sgL_nodup sub
          rw [sgL_len] at this
          omega
        refine ⟨.ref R, rfl, .inl ⟨rfl, _, .inl (.inl eR1)⟩, .str x, rfl, R, _, _, rfl, rfl, eR1, by rw [List.length_map, sizeLine_eq]; omega, ?_⟩
        refine ⟨ws ++ [x], some (.int (0 + (i : Int))), some (.str x), u, rfl, by rw [upd_same, List.map_append]; rfl, by rw [List.length_append, lw]; rfl, ?_, fun y hy => ?_, (mv.tr mv1).off hW nR⟩
        · rw [List.nodup_append]
          exact ⟨nd, by simp, fun y hy z hz e => hout (by rw [← List.mem_singleton.mp hz, ← e]; exact hy)⟩
        · rcases List.mem_append.mp hy with z | z
          · exact nm y z
          · rw [List.mem_singleton.mp z]
            exact hx
    · rintro σ G ⟨ws, y, z, u, rfl, eR, lw, nd, nm, mv⟩
      exact ⟨.ref R, rfl, R, _, rfl, .inl (.inl eR), fun p o np od => q p o ws _ lw nd nm (mv.tr (Mv.new mv.2 np)) (mv.free hW np) od upd_same⟩
/-! ### lots of whole numbers -/
/-- an ascending lot below n -/
def LotN (n : Nat) (ns : List Int) : Prop := ns.Pairwise (· < ·) ∧ ∀ x ∈ ns, 0 ≤ x ∧ x < (n : Int)
def spLLot : Sp := fun vs H Q _ => ∃ (a : Addr) (n l : Nat), vs = [.ref a, .int (n : Int), .int (l : Int)] ∧ Wl H a ∧ n < 64 ∧ l ≤ n ∧ ∀ (p : Addr) (ns : List Int) (G : Hp), LotN n ns → l ≤ ns.length → Mv a H G → H p = none → G p = some (.tup (ns.map V.int)) → Q (.ref p) G
theorem cut_nat (ns : List Nat) (k : Nat) : cutV (natV ns) none (some (k : Int)) = natV (ns.take k) := by
  unfold cutV
  rw [HT.sIx_none, HT.sIx_nat, List.drop_zero, Nat.sub_zero, natV_len]
  unfold natV
  rw [← List.map_take]
  congr 1
  rcases Nat.le_total k ns.length with h | h
  · rw [Nat.min_eq_left h]
  · rw [Nat.min_eq_right h, List.take_of_length_le (Nat.le_refl _), List.take_of_length_le h]
theorem natV_int (ns : List Nat) : natV ns = (ns.map fun (i : Nat) => (i : Int)).map V.int := by
  unfold natV
  rw [List.map_map]
  rfl
theorem lotN_of {n : Nat} {ns : List Nat} {k : Nat} {ms : List Int} (pm : ns.Perm (List.range n)) (p2 : ms.Perm ((ns.take k).map fun (i : Nat) => (i : Int))) (up : ms.Pairwise (· ≤ ·)) : LotN n ms := by
  have nd : ns.Nodup := pm.nodup_iff.mpr List.nodup_range
  have nd2 : ((ns.take k).map fun (i : Nat) => (i : Int)).Nodup := List.pairwise_map.mpr ((nd.sublist (List.take_sublist _ _)).imp fun ne e => ne (Int.ofNat.inj e))
  have nd3 := p2.nodup_iff.mpr nd2
  refine ⟨(up.and nd3).imp fun ⟨h1, h2⟩ => by omega, fun x hx => ?_⟩
  obtain ⟨i, hi, rfl⟩ := List.mem_map.mp (p2.mem_iff.mp hx)
  have := List.mem_range.mp (pm.mem_iff.mp (List.mem_of_mem_take hi))
  omega
theorem ok_llot {f : Addr} {fd : FuncData} (F : Fun K "_law_lot" "_law_lot" sLLot f fd) (S : Dw K mg fD fO fDe fdD fdO fdDe) : FnOk P w K mg base CX0 3 f fd ["well", "few", "least"] spLLot := by
  refine F.ok scLLot (fun vs H Q E h => ?_) (fun cdv A outer s H vs Q E hr h => ?_)
  · obtain ⟨a, n, l, rfl, _⟩ := h
    rfl
  · obtain ⟨a, n, l, rfl, hW, hn, hl, q⟩ := h
    refine ⟨_, pss_cons (ps_set (i := 3) scLLot.nd rfl (.inl rfl) (pe_op op_add (pv 2) (pe_call S.okD (hr.mono (by decide)) (by rfl) S.gD S.D.kp S.bD .nil pass0 (pa_cons (pv 0) (pa_cons (pe_op op_add (pe_op op_sub (pv 1) (pv 2)) pe_int) pa_nil)))))
      (pss_one (ps_ret (pe_callTy call_tuple_of (by rfl) S.mt (by decide +kernel) (pa_cons (pe_callB cr_sorted (by rfl) S.ms (by decide +kernel) (pa_cons (pe_slice sl_list (pe_call S.okDe hr (by rfl) S.gDe S.De.kp S.bDe .nil pass0 (pa_cons (pv 0) (pa_cons (pv 1) pa_nil))) po_none (po_some (pv 3))) pa_nil)) pa_nil)))), ?_⟩
    refine ⟨.int (l : Int), rfl, .ref a, rfl, .int (n : Int), rfl, .int (l : Int), rfl, (n : Int), (l : Int), rfl, rfl, _, 1, rfl, rfl, a, _, rfl, hW, by omega, by omega, fun r G r0 r1 mv => ?_⟩
    obtain ⟨d, rfl⟩ : ∃ d : Nat, r = (d : Int) := ⟨r.toNat, (Int.toNat_of_nonneg r0).symm⟩
    refine ⟨(l : Int), (d : Int), rfl, rfl, .ref a, rfl, .int (n : Int), rfl, a, n, rfl, mv.2, by omega, fun p ns G1 pm mv1 np e1 => ?_⟩
    refine ⟨.int ((l : Int) + (d : Int)), rfl, _, rfl, p, natV ns, rfl, .inl (.inl e1), fun p2 n2 => ?_⟩
    rw [show (l : Int) + (d : Int) = ((l + d : Nat) : Int) by omega, cut_nat]
    refine ⟨p2, (ns.take (l + d)).map fun (i : Nat) => (i : Int), rfl, by rw [← natV_int]; exact .inl (.inl upd_same), by rw [List.length_map, List.length_take, pm.length_eq, List.length_range]; omega, fun ms p3 pm2 up n3 => ?_⟩
    refine ⟨p3, ms.map V.int, rfl, .inl ⟨.inl (.inl upd_same), fun p4 n4 => ?_⟩⟩
    have mA := mv.tr mv1
    have mB : Mv a H (upd G1 p2 (.lst (natV (ns.take (l + d))))) := mA.tr (Mv.new mA.2 n2)
    have mC : Mv a H (upd (upd G1 p2 (.lst (natV (ns.take (l + d))))) p3 (.lst (ms.map V.int))) := mB.tr (Mv.new mB.2 n3)
    refine q p4 ms _ (lotN_of pm pm2 up) ?_ (mC.tr (Mv.new mC.2 n4)) (mC.free hW n4) upd_same
    rw [pm2.length_eq, List.length_map, List.length_take, pm.length_eq, List.length_range]
    omega
end
end GR

/-! Own layer: sorting tuples of whole numbers of any lengths, and sets of such. -/
namespace KV
open PySem PySem.Spec PyProof.Rows L2
/-- the order of tuples -/
def ltI : List Int → List Int → Bool
  | [], [] => false
  | [], _ :: _ => true
  | _ :: _, [] => false
  | a :: x, b :: y => if a = b then ltI x y else decide (a < b)
def lexF (z : Bool) : List Int → List Int → Bool
  | a :: x, b :: y => if a = b then lexF z x y else decide (a < b)
  | _, _ => z
theorem ltI_lex : ∀ x y : List Int, lexF (decide (x.length < y.length)) x y = ltI x y
  | [], [] => rfl
  | [], _ :: _ => rfl
  | _ :: _, [] => rfl
  | a :: x, b :: y => by
    have e : decide ((a :: x).length < (b :: y).length) = decide (x.length < y.length) := by simp
    rw [e]
    show (if a = b then lexF _ x y else decide (a < b)) = (if a = b then ltI x y else decide (a < b))
    rw [ltI_lex x y]
/-- a number that ranks tuples of at most so many numbers below B -/
def rk (B : Int) : Nat → List Int → Int
  | 0, _ => 0
  | _ + 1, [] => 0
  | D + 1, a :: x => (a + 1) * (B + 1) ^ D + rk B D x
def Dg (B : Int) (ns : List Int) : Prop := ∀ n ∈ ns, 0 ≤ n ∧ n < B
theorem pw_pos {B : Int} (h : 0 ≤ B) (D : Nat) : 0 < (B + 1) ^ D := Int.pow_pos (by omega)
theorem rk_bd {B : Int} (hB : 0 ≤ B) : ∀ (D : Nat) (x : List Int), Dg B x → 0 ≤ rk B D x ∧ rk B D x < (B + 1) ^ D
  | 0, _, _ => ⟨Int.le_refl _, by show (0 : Int) < (B + 1) ^ 0; rw [Int.pow_zero]; decide⟩
  | D + 1, [], _ => ⟨Int.le_refl _, pw_pos hB _⟩
  | D + 1, a :: x, h => by
    obtain ⟨h0, h1⟩ := rk_bd hB D x fun n hn => h n (List.mem_cons_of_mem _ hn)
    obtain ⟨a0, a1⟩ := h a List.mem_cons_self
    have p := pw_pos hB D
    show 0 ≤ (a + 1) * (B + 1) ^ D + rk B D x ∧ (a + 1) * (B + 1) ^ D + rk B D x < (B + 1) ^ (D + 1)
    rw [Int.pow_succ]
    generalize (B + 1) ^ D = M at p h1 ⊢
    have q1 : 0 ≤ (a + 1) * M := Int.mul_nonneg (by omega) (by omega)
    have q2 : (a + 1) * M ≤ B * M := Int.mul_le_mul_of_nonneg_right (by omega) (by omega)
    have q3 : M * (B + 1) = B * M + M := by rw [Int.mul_add, Int.mul_one, Int.mul_comm]
    omega
theorem rk_lt {B : Int} (hB : 0 ≤ B) : ∀ (D : Nat) (x y : List Int), Dg B x → Dg B y → x.length ≤ D → y.length ≤ D → (rk B D x < rk B D y ↔ ltI x y = true)
  | 0, x, y, _, _, lx, ly => by
    have e1 : x = [] := List.eq_nil_of_length_eq_zero (by omega)
    have e2 : y = [] := List.eq_nil_of_length_eq_zero (by omega)
    subst e1
    subst e2
    simp [rk, ltI]
  | D + 1, [], [], _, _, _, _ => by simp [rk, ltI]
  | D + 1, [], b :: y, _, hy, _, _ => by
    obtain ⟨h0, h1⟩ := rk_bd hB D y fun n hn => hy n (List.mem_cons_of_mem _ hn)
    obtain ⟨b0, b1⟩ := hy b List.mem_cons_self
    have p := pw_pos hB D
    show (0 : Int) < (b + 1) * (B + 1) ^ D + rk B D y ↔ ltI [] (b :: y) = true
    have : 0 < (b + 1) * (B + 1) ^ D := Int.mul_pos (by omega) p
    exact ⟨fun _ => rfl, fun _ => by omega⟩
  | D + 1, a :: x, [], hx, _, _, _ => by
    obtain ⟨h0, h1⟩ := rk_bd hB (D + 1) (a :: x) hx
    show rk B (D + 1) (a :: x) < 0 ↔ false = true
    exact ⟨fun h => absurd h (by omega), fun h => absurd h Bool.false_ne_true⟩
  | D + 1, a :: x, b :: y, hx, hy, lx, ly => by
    have tx : Dg B x := fun n hn => hx n (List.mem_cons_of_mem _ hn)
    have ty : Dg B y := fun n hn => hy n (List.mem_cons_of_mem _ hn)
    obtain ⟨x0, x1⟩ := rk_bd hB D x tx
    obtain ⟨y0, y1⟩ := rk_bd hB D y ty
    have p := pw_pos hB D
    have ih := rk_lt hB D x y tx ty (by simpa using lx) (by simpa using ly)
    show (a + 1) * (B + 1) ^ D + rk B D x < (b + 1) * (B + 1) ^ D + rk B D y ↔ (if a = b then ltI x y else decide (a < b)) = true
    generalize (B + 1) ^ D = M at p x1 y1 ⊢
    by_cases c : a = b
    · rw [if_pos c, ← ih, c]
      constructor <;> intro h <;> omega
    · rw [if_neg c, decide_eq_true_iff]
      rcases Int.lt_trichotomy a b with k | k | k
      · have : (a + 1) * M + M ≤ (b + 1) * M := by
          have z : (a + 1 + 1) * M ≤ (b + 1) * M := Int.mul_le_mul_of_nonneg_right (by omega) (by omega)
          rw [Int.add_mul (a + 1) 1 M, Int.one_mul] at z
          exact z
        exact ⟨fun _ => k, fun _ => by omega⟩
      · exact absurd k c
      · have : (b + 1) * M + M ≤ (a + 1) * M := by
          have z : (b + 1 + 1) * M ≤ (a + 1) * M := Int.mul_le_mul_of_nonneg_right (by omega) (by omega)
          rw [Int.add_mul (b + 1) 1 M, Int.one_mul] at z
          exact z
        exact ⟨fun h => by omega, fun h => by omega⟩
theorem rk_le {B : Int} (hB : 0 ≤ B) {D : Nat} {x y : List Int} (hx : Dg B x) (hy : Dg B y) (lx : x.length ≤ D) (ly : y.length ≤ D) : rk B D x ≤ rk B D y ↔ ltI y x = false := by
  have z := rk_lt hB D y x hy hx ly lx
  cases e : ltI y x with
  | true =>
    have := z.mpr e
    exact ⟨fun h => by omega, fun h => absurd h.symm Bool.false_ne_true⟩
  | false => exact ⟨fun _ => rfl, fun _ => by
      rcases Int.lt_or_le (rk B D y) (rk B D x) with k | k
      · rw [z.mp k] at e
        cases e
      · exact k⟩
section
variable {prog : Program} {w : World} {A : Around} {E : Value → Shared → Prop} {s : Shared}
theorem lex_any {Q : Bool → Shared → Prop} {b z : Bool} : ∀ {xs : List Value} {ns : List Int}, IntsAre xs ns → ∀ {ys : List Value} {ms : List Int} (i : Nat), IntsAre ys ms → Q (lexF z ns ms) s → PySem.W.KatLex prog w A b z Q (xs.zip ys) i s
  | _, _, .nil, _, _, _, _, h => PySem.W.kat_nil (by simpa [lexF] using h)
  | _, _, .cons _ _ _, _, _, _, .nil, h => PySem.W.kat_nil h
  | _, _, .cons p t hx, _, _, i, .cons q u hy, h => by
    refine PySem.W.kat_cons (wpAny_eqBool_int ?_)
    by_cases e : p = q
    · have h : Q (if p = q then lexF z _ _ else decide (p < q)) s := h
      rw [if_pos e] at h
      rw [beq_iff_eq.mpr e]
      exact PySem.W.kat_yes (lex_any hx (i + 1) hy h)
    · have h : Q (if p = q then lexF z _ _ else decide (p < q)) s := h
      rw [if_neg e] at h
      rw [beq_eq_false_iff_ne.mpr e]
      exact PySem.W.kat_no (TS.oneLt_ints _ h)
/-- tuples, none (), of at most D numbers below B -/
def TupsV (h : Heap) (D : Nat) (B : Int) (vs : List Value) : Prop := ∀ v ∈ vs, ∃ ns, TS.TupInts h v ns ∧ 1 ≤ ns.length ∧ ns.length ≤ D ∧ Dg B ns
theorem TupsV.keeps {h h' : Heap} {D : Nat} {B : Int} {vs : List Value} (x : TupsV h D B vs) (k : ∀ b o, h.get? b = some o → o.cls = .type "tuple" → h'.get? b = some o) : TupsV h' D B vs := fun v hv => by
  obtain ⟨ns, t, r⟩ := x v hv
  exact ⟨ns, t.keeps k, r⟩
theorem heads_of {h : Heap} {D : Nat} {B : Int} : ∀ {vs : List Value}, TupsV h D B vs → ∃ fs, PySem.W.KatTups h vs fs ∧ fs.length = vs.length ∧ ∀ f ∈ fs, ∃ n t, f = Value.int n t
  | [], _ => ⟨[], .nil, rfl, fun f hf => absurd hf List.not_mem_nil⟩
  | v :: vs, x => by
    obtain ⟨fs, k, l, i⟩ := heads_of fun u hu => x u (List.mem_cons_of_mem _ hu)
    obtain ⟨ns, ⟨a, xs, rfl, ⟨o, ho, hc, n, hd⟩, hi⟩, h1, _⟩ := x v List.mem_cons_self
    have lx : 0 < xs.toList.length := by
      have z := hi.length
      omega
    obtain ⟨m, t, hy⟩ := hi.all xs.toList[0] (List.getElem_mem lx)
    refine ⟨xs.toList[0] :: fs, .cons ho hc hd ?_ k, by rw [List.length_cons, List.length_cons, l], fun f hf => ?_⟩
    · rw [← Array.getElem?_toList]
      exact List.getElem?_eq_getElem lx
    · rcases List.mem_cons.mp hf with rfl | hf
      · exact ⟨m, t, hy⟩
      · exact i f hf
theorem kindV {D : Nat} {B : Int} (hB : 0 ≤ B) {vs : List Value} (h2 : 2 ≤ vs.length) (x : TupsV s.heap D B vs) (r : Value → Int) (hr : ∀ v ∈ vs, ∀ ns, TS.TupInts s.heap v ns → r v = rk B D ns) (Q : SortKind → Shared → Prop)
    (h : ∀ κ, TS.Cmp prog w A s κ (pairsOf vs) r → Q κ s) : wpAny (model prog w) A (keyKind' vs.toArray) Q E s := by
  obtain ⟨fs, k, l, i⟩ := heads_of x
  refine PySem.W.kat_kind (T := Value.type "int") k (by omega) (fun f hf => ?_) rfl (h _ fun p q hp hq Q2 E2 hQ => ?_)
  · obtain ⟨n, t, e⟩ := i f hf
    rw [e]
    exact PySem.W.Looks.of_pure rfl
  · rw [pairsOf_toList] at hp hq
    have mp := (mem_zip_self hp).2
    have mq := (mem_zip_self hq).2
    obtain ⟨ns, tp, _, lp, bp⟩ := x _ mp
    obtain ⟨ms, tq, _, lq, bq⟩ := x _ mq
    have e : decide (r p.1 < r q.1) = ltI ns ms := by
      rw [hr _ mp _ tp, hr _ mq _ tq]
      have z := rk_lt hB D ns ms bp bq lp lq
      cases c : ltI ns ms with
      | true => exact decide_eq_true (z.mpr c)
      | false => exact decide_eq_false fun y => by rw [z.mp y] at c; cases c
    rw [e, ← ltI_lex] at hQ
    obtain ⟨a, xs, e1, ⟨o, ho, hc, n, hd⟩, i1⟩ := tp
    obtain ⟨a', ys, e2, ⟨o', ho', hc', n', hd'⟩, i2⟩ := tq
    rw [e1, e2]
    refine PySem.W.kat_lt ho hd ho' hd' ?_
    have s1 : xs.size = ns.length := by rw [← i1.length, Array.length_toList]
    have s2 : ys.size = ms.length := by rw [← i2.length, Array.length_toList]
    rw [s1, s2]
    exact lex_any i1 0 i2 hQ
/-- list.sort of such a list -/
theorem sortV {a : Addr} {vs : List Value} {n D : Nat} {B : Int} (hB : 0 ≤ B) {P : PySem.Fin → Shared → Prop} (ho : s.heap.get? a = some (seqObj "list" vs.toArray n)) (h64 : vs.length < 64) (x : TupsV s.heap D B vs) (r : Value → Int)
    (hr : ∀ v ∈ vs, ∀ ns, TS.TupInts s.heap v ns → r v = rk B D ns) (h : ∀ out : Array Value, out.toList.Perm vs → out.toList.Pairwise (fun u v => r u ≤ r v) → P (.done (.ret .none)) { s with heap := sortedHeap s.heap a vs out }) :
    wpAny (model prog w) A (Builtin.«list.sort» ⟨[.ref a], []⟩) P E s := by
  have old : ∀ b o, s.heap.get? b = some o → o.cls = .type "tuple" → (TS.midHeap s.heap a vs).get? b = some o := fun b o e hc => TS.midHeap_old (fun z => by
    rw [z, ho] at e
    cases e
    exact absurd hc (by simp [seqObj])) e
  refine SK.plain_sort (r := r) ho h64 (fun h2 Q hQ => kindV (s := { s with heap := TS.midHeap s.heap a vs }) hB h2 (x.keeps old) r (fun v hv ns t => ?_) Q hQ) fun ps out h1 h2 h3 => ?_
  · obtain ⟨ns0, t0, _⟩ := x v hv
    rw [show ns = ns0 from t.ints.symm.trans (t0.keeps old).ints]
    exact hr v hv ns0 t0
  · obtain ⟨p, o⟩ := TS.out_rank h1 h2 h3
    exact h out p o
theorem call_sortV {a : Addr} {vs : List Value} {n D : Nat} {B : Int} (hB : 0 ≤ B) {Q : Value → Shared → Prop} (ho : s.heap.get? a = some (seqObj "list" vs.toArray n)) (h64 : vs.length < 64) (x : TupsV s.heap D B vs)
    (h : ∀ out : Array Value, out.toList.Perm vs → out.toList.Pairwise (fun u v => rk B D (TS.intsOf s.heap u) ≤ rk B D (TS.intsOf s.heap v)) → Q .none { s with heap := sortedHeap s.heap a vs out }) :
    wpAny (model prog w) A (call (.builtin "list.sort") [.ref a]) Q E s :=
  wpAny_call_entry slot_list_sort ⟨_, ho, rfl⟩ entry_list_sort (sortV hB ho h64 x (fun v => rk B D (TS.intsOf s.heap v)) (fun v _ ns t => congrArg (rk B D) t.ints) fun out h1 h2 => ⟨_, rfl, h out h1 h2⟩) (args_list_sort _)
/-- sorted(xs), xs a list of such -/
theorem sortedV {l : Addr} {vs : List Value} {D : Nat} {B : Int} (hB : 0 ≤ B) {Q : Value → Shared → Prop} (hl : s.heap.IsList l vs.toArray) (h64 : vs.length < 64) (x : TupsV s.heap D B vs)
    (h : ∀ out : Array Value, out.toList.Perm vs → out.toList.Pairwise (fun u v => rk B D (TS.intsOf s.heap u) ≤ rk B D (TS.intsOf s.heap v)) → Q (.ref (s.heap.objs.size + 1)) { s with heap := sortedAll s.heap vs out }) :
    wpAny (model prog w) A (call (.builtin "sorted") [.ref l]) Q E s := by
  refine Calls.call_function_entry kind_sorted plain_sorted entry_sorted (args_sorted1 _) ?_
  unfold Builtin.«sorted»
  refine wpAny_bind (m := checkCount "sorted" 1 1 _) (wpAny_pure (wpAny_bind (collect_list hl ?_ (by rw [sizeLine_eq]; omega))))
  refine wpAny_bind (wpAny_newList ?_ (by rw [sizeLine_eq]; omega))
  have size : ((s.heap.push (seqObj "list" #[] 0)).update s.heap.objs.size (Obj.mapSeq (· ++ vs.toArray))).objs.size = s.heap.objs.size + 1 := by rw [Heap.size_update, size_push']
  have own : (((s.heap.push (seqObj "list" #[] 0)).update s.heap.objs.size (Obj.mapSeq (· ++ vs.toArray))).push (seqObj "list" vs.toArray 0)).get? (s.heap.objs.size + 1) = some (seqObj "list" vs.toArray 0) := by
    rw [← size]
    exact Heap.get?_push_size _ rfl
  have old : ∀ b o, s.heap.get? b = some o → o.cls = .type "tuple" → (((s.heap.push (seqObj "list" #[] 0)).update s.heap.objs.size (Obj.mapSeq (· ++ vs.toArray))).push (seqObj "list" vs.toArray 0)).get? b = some o := fun b o e _ => by
    have lt := Heap.lt_size e
    rw [Heap.get?_push_ne _ _ _ (by rw [size]; exact Nat.ne_of_lt (Nat.lt_succ_of_lt lt)), Heap.get?_update_ne _ _ _ _ (Nat.ne_of_lt lt), Heap.get?_push_ne _ _ _ (Nat.ne_of_lt lt)]
    exact e
  show wpAny _ _ _ _ _ { s with heap := ((s.heap.push (seqObj "list" #[] 0)).update s.heap.objs.size (Obj.mapSeq (· ++ vs.toArray))).push (seqObj "list" vs.toArray 0) }
  rw [size]
  refine wpAny_bind (wpAny_holding (wpAny_call_entry slot_list_sort ⟨_, own, rfl⟩ entry_list_sort (sortV hB own h64 (x.keeps old) (fun v => rk B D (TS.intsOf s.heap v)) (fun v hv ns t => ?_) fun out a1 a2 => ⟨_, rfl, wpAny_pure ⟨_, rfl, h out a1 a2⟩⟩) (args_list_sort _)))
  obtain ⟨ns0, t0, _⟩ := x v hv
  rw [show ns = ns0 from t.ints.symm.trans (t0.keeps old).ints]
  exact congrArg (rk B D) t0.ints
end
/-- sorted(xs), xs a list of fewer than 64 tuples, none (), of at most D whole numbers below B: a new list of the same, ascending -/
def rSortV (K : PySem.W.Frag) (D : Nat) (B : Int) : List V → Hp → VK → Prop := fun vs H Q => ∃ (a : Addr) (xs : List V), vs = [V.ref a] ∧ SqL K H a xs ∧ xs.length < 64 ∧ (∀ x ∈ xs, ∃ ns, TupI K H x ns ∧ 1 ≤ ns.length ∧ ns.length ≤ D ∧ Dg B ns) ∧
  ∀ (ys : List V) (p : Addr), ys.Perm xs → ys.Pairwise (fun x y => ∀ n m, TupI K H x n → TupI K H y m → ltI m n = false) → H p = none → Q (.ref p) (upd H p (.lst ys))
theorem cr_sortV {X : Cx} {D : Nat} {B : Int} (hB : 0 ≤ B) : CallR X (.builtin "sorted") (rSortV X.K D B) := by
  intro pins s σ H vs us Q I r h
  obtain ⟨a, xs, rfl, hs, h64, hx, q⟩ := h
  obtain ⟨its, rv, hl, hz⟩ := I.list hs
  rw [Vals.ref1 r]
  obtain ⟨e1, e2⟩ := bkV_refs rv fun x m => by
    obtain ⟨ns, ⟨t, e, _⟩, _⟩ := hx x m
    exact ⟨t, e⟩
  have ok : TupsV s.heap D B its := fun v hv => by
    obtain ⟨t, rfl⟩ := e2 v hv
    obtain ⟨ns, ⟨t', e, ht⟩, r⟩ := hx (V.ref t) (by rw [e1]; exact List.mem_map.mpr ⟨_, hv, rfl⟩)
    cases e
    exact ⟨ns, tupI_raw I ht, r⟩
  refine sortedV (D := D) (B := B) hB hl.isList (by rw [← rv.length]; exact h64) ok fun out h1 h2 => ?_
  obtain ⟨ep, he⟩ := PyProof.Rows.sortedAll_at s.heap its out
  have h3 : ∀ u ∈ out.toList, ∃ a, u = Value.ref a := fun u hu => e2 u (h1.mem_iff.mp hu)
  have hp : (out.toList.map bkV).Perm xs := by
    rw [e1]
    exact h1.map bkV
  refine ⟨.ref _, upd H (s.heap.objs.size + 1) (.lst (out.toList.map bkV)), I.laid (t' := s.toks) (fun _ _ => PyProof.Rows.sortedAll_old) (Nat.le_succ _) ⟨by rw [hp.length_eq]; exact hz, out.toList, ep, bkV_vals h3, he⟩, rfl, q _ _ hp ?_ (I.hok.fresh (Nat.le_succ _))⟩
  rw [List.pairwise_map]
  refine List.Pairwise.imp_of_mem (fun {u v} hu hv huv n m hn hm => ?_) h2
  obtain ⟨t, et, ht⟩ := hn
  obtain ⟨t', et', ht'⟩ := hm
  obtain ⟨ns, t1, _, l1, b1⟩ := ok u (h1.mem_iff.mp hu)
  obtain ⟨ms, t2, _, l2, b2⟩ := ok v (h1.mem_iff.mp hv)
  have i1 : n = ns := by
    rw [bkV_ref et] at t1
    exact (tupI_raw I ht).ints.symm.trans t1.ints
  have i2 : m = ms := by
    rw [bkV_ref et'] at t2
    exact (tupI_raw I ht').ints.symm.trans t2.ints
  rw [t1.ints, t2.ints] at huv
  rw [i1, i2]
  exact (rk_le hB b1 b2 l1 l2).mp huv
end KV

/-! Own layer: sorted(set(t)), t a tuple of whole numbers, or of tuples of such. -/
namespace KV
open PySem PySem.Spec PyProof.Rows L2
section
variable {X : Cx}
/-- set(t), t a tuple of whole numbers -/
def rSetI (K : PySem.W.Frag) (w : World) : List V → Hp → VK → Prop := fun xs H Q => ∃ (p : Addr) (ns : List Int), xs = [.ref p] ∧ SqT K H p (ns.map V.int) ∧ ns.length < 64 ∧ ∀ a c, H a = none → c ≤ ns.length → Q (.ref a) (upd H a (SetO w a (fun j => decide (j ∈ ns)) c))
theorem cr_setI (hc : X.calm = true) : CallR X (.type "set") (rSetI X.K X.w) := by
  intro pins s σ H xs us Q I r h
  obtain ⟨p, ns, rfl, hp, hf, q⟩ := h
  rw [Vals.ref1 r]
  obtain ⟨its, rv, pl, hz⟩ := I.tuple hp
  refine call_set_tupI (P := X.prog) (w := X.w) ns (I.ok.hd hc) pl (by simpa using rv.ints) (by unfold scanBound; omega) fun h' tk c S hc' k => ?_
  exact ⟨.ref s.heap.objs.size, _, I.laid (t' := tk) k (Nat.le_refl _) (setO_new S), rfl, q _ c (I.hok.fresh (Nat.le_refl _)) hc'⟩
end
section
variable {P : Program} {w : World} {A : Around} {E : Value → Shared → Prop} {s : Shared}
theorem set_tups {l : Addr} {its : Array Value} (ks : List (Addr × List Int)) {Q : Value → Shared → Prop} (hh : A.handled = none) (hl : s.heap.IsTuple l its) (hi : its.toList = ks.map fun p => Value.ref p.1) (hk : ∀ p ∈ ks, IsT P w s.heap p.2 p.1) (hf : ks.length < 64) (hu : A.units + 3 < cLine)
    (h : ∀ (h' : Heap) (tk : Nat) (L : List (Addr × List Int)) (es : Array (Int × Value)) (ep : Nat) (t : SetTable), SetTR P w h' s.heap.objs.size L es ep t → Got ks ks.length L → (∀ b o, s.heap.get? b = some o → h'.get? b = some o) → Q (.ref s.heap.objs.size) { s with heap := h', toks := tk }) :
    wpAny (model P w) A (call (.type "set") [.ref l]) Q E s := by
  have hz : its.size = ks.length := by
    have z := congrArg List.length hi
    rwa [Array.length_toList, List.length_map] at z
  obtain ⟨m1, m2, chain⟩ := F.called_set.mro
  have own1 := F.called_set.made
  have own2 := F.called_set.sub
  have own3 := F.called_set.notType
  have own4 := F.called_set.canCreate
  have own5 := F.typeCall_set_1 (.ref l)
  generalize hled : (!w.params.followText "set-order") = led
  refine wpAny_call (codeAny_of_tree ?_)
  show wpAny _ _ (callAny (.type "set") _) _ _ _
  refine wpAny_pure ⟨Code.quiet_builtin _ (by decide +kernel), codeAny_builtin F.entry_type_call ?_⟩
  rw [Around.under_plain (weight_type_call_type "set" [.ref l] []) rfl]
  repeat (any_goals (first | assumption | wp_step))
  refine codeAny_mono (code_set_led1 (.ref l) (E := E) (Q₁ := fun obj s₁ => obj = .ref s.heap.objs.size ∧ s₁ = { s with heap := s.heap.push { cls := .type "set", dict := none, data := .set #[] 0 (.fresh 0 0 led) } }) ⟨rfl, by rw [hled]⟩) fun res st hst => ?_
  cases res with
  | error e => exact hst
  | ok fl =>
  cases fl with
  | next => exact hst.elim
  | brk => exact hst.elim
  | cont => exact hst.elim
  | ret obj =>
  obtain ⟨rfl, rfl⟩ := hst
  have hS := Heap.get?_push_size s.heap (o := { cls := .type "set", dict := none, data := .set #[] 0 (.fresh 0 0 led) }) rfl
  have ty : Shared.TypeIs { s with heap := s.heap.push { cls := .type "set", dict := none, data := .set #[] 0 (.fresh 0 0 led) } } (.ref s.heap.objs.size) "set" := ⟨_, hS, rfl⟩
  have own6 := F.called_set.init.lookup
  have own7 := F.called_set.init.bind (.ref s.heap.objs.size)
  repeat (any_goals (first | assumption | wp_step))
  refine codeAny_mono (codeAny_call_builtin (R := wants (fun r st => r = .none ∧ ∃ h' tk L es ep t, st = { s with heap := h', toks := tk } ∧ SetTR P w h' s.heap.objs.size L es ep t ∧ Got ks ks.length L ∧ ∀ b o, s.heap.get? b = some o → h'.get? b = some o) E) F.called_set.init.plain F.entry_set_init (check_set_init_1 ty ?_)) fun res st hst => ?_
  · have hlt : l < s.heap.objs.size := let ⟨_, e, _⟩ := hl; Heap.lt_size e
    have tup : (s.heap.push { cls := .type "set", dict := none, data := .set #[] 0 (.fresh 0 0 led) }).IsTuple l its := hl.push _
    obtain ⟨⟨tc, td, tdat, tsl⟩, g1, g2, tn, g3⟩ := id tup
    simp only at g2 g3
    subst g2 g3
    have no1 := F.sub_tuple_set
    have no2 := F.sub_tuple_frozenset
    have no3 : (Value.type "tuple" == Value.type "dict") = false := by decide
    unfold Builtin.«set.__init__» noKeywords Builtin.Frozenset.updateFrom
    generalize walkTo : pyIter = go
    wp_walk
    subst walkTo
    refine wpAny_pyIter_tuple tup (wpAny_bind (wpAny_runValue ?_))
    have sz := Heap.size_push s.heap { cls := .type "set", dict := none, data := .set #[] 0 (.fresh 0 0 led) }
    have apart : l ≠ (s.heap.push { cls := .type "set", dict := none, data := .set #[] 0 (.fresh 0 0 led) }).objs.size := by
      rw [sz]
      exact Nat.ne_of_lt (Nat.lt_succ_of_lt hlt)
    have free : s.heap.objs.size ∉ [(s.heap.push { cls := .type "set", dict := none, data := .set #[] 0 (.fresh 0 0 led) }).objs.size, l] := fun m => by
      rcases List.mem_cons.mp m with z | z
      · rw [sz] at z
        exact Nat.ne_of_lt (Nat.lt_succ_self _) z
      · exact Nat.ne_of_gt hlt (List.mem_singleton.mp z)
    have off : ∀ b, s.heap.objs.size ≤ b → s.heap.get? b = none := fun b hb => by
      cases q : s.heap.get? b with
      | none => rfl
      | some o => exact absurd (Heap.lt_size q) (Nat.not_lt_of_le hb)
    refine set_update_tups ((Walks.tuple (show A.in1.in1.in1.handled = none from hh) _ l apart its).toS) s.heap.objs.size free ks hz hf (fun i v e => ?_) s.heap hk (off _ (Nat.le_refl _)) (fun b hb => off b (by rw [List.mem_singleton.mp hb, sz]; exact Nat.le_succ _)) hu (its.size - 0) 0 _ (Nat.sub_zero _) (Nat.zero_le _)
      ⟨⟨_, Heap.get?_push_size _ rfl, rfl, rfl⟩, tup.push _⟩ (fun b o e => Heap.get?_push_of_some _ (Heap.get?_push_of_some _ e)) ⟨[], #[], 0, _, setTR_fresh (by rw [hled]; exact Heap.get?_push_of_some _ hS), Got.zero ks⟩ fun s' L es ep t mv S' g' kp => ?_
    · have z : its.toList[i]? = some v := by rw [Array.getElem?_toList]; exact e
      rw [hi, List.getElem?_map] at z
      obtain ⟨p, hp, e2⟩ := Option.map_eq_some_iff.mp z
      exact ⟨p, hp, e2.symm⟩
    · obtain ⟨h', g2, d', tk', os'⟩ := s'
      have e1 : g2 = s.gens := mv.gens
      have e2 : d' = s.drawn := mv.drawn
      have e3 : os' = s.os := mv.os
      subst e1 e2 e3
      rw [hz] at g'
      exact wpAny_pure (wpAny_pure ⟨rfl, h', tk', L, es, ep, t, rfl, S', g', kp⟩)
  · cases res with
    | error e => exact hst
    | ok fl =>
    cases fl with
    | next => exact hst.elim
    | brk => exact hst.elim
    | cont => exact hst.elim
    | ret r =>
    obtain ⟨rfl, h', tk, L, es, ep, t, rfl, S', g', kp⟩ := hst
    repeat (any_goals (first | assumption | wp_step))
    exact h h' tk L es ep t S' g' kp
/-- sorted of a set of tuples, none (), of at most D whole numbers below B -/
theorem sorted_setV {a : Addr} {L : List (Addr × List Int)} {es : Array (Int × Value)} {ep : Nat} {t : SetTable} {Q : Value → Shared → Prop} (R : SetTR P w s.heap a L es ep t) (hh : A.handled = none) {D : Nat} {B : Int} (hB : 0 ≤ B) (hL : ∀ p ∈ L, 1 ≤ p.2.length ∧ p.2.length ≤ D ∧ Dg B p.2)
    (hQ : ∀ s' p (out : Array Value) (c : Nat) (L' : List (Addr × List Int)), (∀ b o, s.heap.get? b = some o → s'.heap.get? b = some o) → s'.gens = s.gens → s'.os = s.os → s.heap.objs.size ≤ p →
      s'.heap.get? p = some (seqObj "list" out c) → out.toList = L'.map (fun q => Value.ref q.1) → L'.Perm L → L'.Pairwise (fun q r => ltI r.2 q.2 = false) → Q (.ref p) s') :
    wpAny (model P w) A (call (.builtin "sorted") [.ref a]) Q E s := by
  obtain ⟨o, ho, hex, hd⟩ := R.ob
  have hsz := R.size
  have hfew := R.few
  refine Calls.call_function_entry kind_sorted plain_sorted entry_sorted (args_sorted1 _) ?_
  unfold Builtin.«sorted»
  refine wpAny_bind (m := checkCount "sorted" 1 1 _) (wpAny_pure (wpAny_bind (collect_set (A := A.in1) hh ⟨o, ho, hex.1, hd⟩ R.fits (by unfold scanBound; omega) R.tab.ris R.led fun s1 vs k1 hz g1 o1 pm => ?_)))
  have rows : es.toList.map (·.2) = L.map fun q => Value.ref q.1 := by
    rw [R.rows]
    unfold rowsOf
    rw [List.map_map]
    rfl
  rw [rows] at pm
  have back : ∀ vs : List Value, (∀ v ∈ vs, v ∈ L.map fun q => Value.ref q.1) → ∃ M : List (Addr × List Int), vs = M.map (fun q => Value.ref q.1) ∧ ∀ q ∈ M, q ∈ L := by
    intro vs
    induction vs with
    | nil => exact fun _ => ⟨[], rfl, fun q hq => absurd hq List.not_mem_nil⟩
    | cons v vs ih =>
      intro hv
      obtain ⟨q, hq, e⟩ := List.mem_map.mp (hv v List.mem_cons_self)
      obtain ⟨M, e1, hs⟩ := ih fun u hu => hv u (List.mem_cons_of_mem _ hu)
      exact ⟨q :: M, by rw [List.map_cons, e, e1], fun r hr => (List.mem_cons.mp hr).elim (fun z => z ▸ hq) (hs r)⟩
  have same : ∀ q ∈ L, ∀ r ∈ L, q.1 = r.1 → q = r := fun q hq r hr e => by
    have a1 := R.tup q hq
    rw [e] at a1
    exact Prod.ext e (a1.inj (R.tup r hr))
  have nL : L.Nodup := nodup_of_map R.nd
  have nR : (L.map fun q => Value.ref q.1).Nodup := List.pairwise_map.mpr (nL.imp_of_mem fun {q r} hq hr ne e => ne (same q hq r hr (Value.ref.inj e)))
  have few : vs.length < 64 := by rw [pm.length_eq, List.length_map]; exact hfew
  refine wpAny_bind (wpAny_newList ?_ (by rw [sizeLine_eq]; omega))
  have own : (s1.heap.push (seqObj "list" vs.toArray 0)).get? s1.heap.objs.size = some (seqObj "list" vs.toArray 0) := Heap.get?_push_size _ rfl
  have ofq : ∀ q ∈ L, TS.TupInts (s1.heap.push (seqObj "list" vs.toArray 0)) (.ref q.1) q.2 := fun q hq => tupInts_of (P := P) (w := w) (isT_keep (R.tup q hq) fun b u e => Heap.get?_push_of_some _ (k1 b u e))
  have x : TupsV (s1.heap.push (seqObj "list" vs.toArray 0)) D B vs := fun v hv => by
    obtain ⟨q, hq, e⟩ := List.mem_map.mp (pm.mem_iff.mp hv)
    rw [← e]
    exact ⟨q.2, ofq q hq, hL q hq⟩
  refine wpAny_bind (wpAny_holding (call_sortV (s := { s1 with heap := s1.heap.push (seqObj "list" vs.toArray 0) }) hB own few x fun out a1 a2 => ?_))
  obtain ⟨c, hc⟩ := sortedHeap_at (vs := vs) (out := out) own
  obtain ⟨M, e, sub⟩ := back out.toList fun v hv => pm.mem_iff.mp (a1.mem_iff.mp hv)
  have pM : (M.map fun q => Value.ref q.1).Perm (L.map fun q => Value.ref q.1) := by rw [← e]; exact a1.trans pm
  have nM : M.Nodup := nodup_of_map (pM.nodup_iff.mpr nR)
  have perm : M.Perm L := (List.perm_ext_iff_of_nodup nM nL).mpr fun q => ⟨sub q, fun hq => by
    obtain ⟨r, hr, z⟩ := List.mem_map.mp (pM.mem_iff.mpr (List.mem_map.mpr ⟨q, hq, rfl⟩))
    rw [← same r (sub r hr) q hq (Value.ref.inj z)]
    exact hr⟩
  have up : M.Pairwise (fun q r => ltI r.2 q.2 = false) := by
    rw [e] at a2
    refine (List.pairwise_map.mp a2).imp_of_mem fun {q r} hq hr le => ?_
    rw [(ofq q (sub q hq)).ints, (ofq r (sub r hr)).ints] at le
    exact (rk_le hB (hL q (sub q hq)).2.2 (hL r (sub r hr)).2.2 (hL q (sub q hq)).2.1 (hL r (sub r hr)).2.1).mp le
  refine wpAny_pure ⟨_, rfl, hQ _ s1.heap.objs.size out c M (fun b u z => ?_) g1 o1 hz hc e perm up⟩
  have lt := Heap.lt_size (k1 b u z)
  show (sortedHeap (s1.heap.push (seqObj "list" vs.toArray 0)) s1.heap.objs.size vs out).get? b = some u
  rw [sortedHeap_old (Nat.ne_of_lt lt) (by rw [size_push']; exact Nat.lt_succ_of_lt lt)]
  exact Heap.get?_push_of_some _ (k1 b u z)
end
section
variable {X : Cx}
/-- set(t), t a tuple of tuples of whole numbers -/
def rSetTT (K : PySem.W.Frag) (P : Program) (w : World) : List V → Hp → VK → Prop := fun xs H Q => ∃ (l : Addr) (ks : List (Addr × List Int)), xs = [V.ref l] ∧ SqT K H l (ks.map fun p => V.ref p.1) ∧ (∀ p ∈ ks, SqT K H p.1 (p.2.map V.int)) ∧ ks.length < 64 ∧
  ∀ a L, H a = none → (∀ p ∈ L, p ∈ ks) → (∀ p ∈ ks, p.2 ∈ L.map (·.2)) → Q (.ref a) (upd H a (SetTO P w a L))
theorem cr_setTT (hc : X.calm = true) (hu : X.A.units + 64 < cLine) : CallR X (.type "set") (rSetTT X.K X.prog X.w) := by
  intro pins s σ H xs us Q I r h
  obtain ⟨l, ks, rfl, hl, hk, hf, q⟩ := h
  rw [Vals.ref1 r]
  obtain ⟨its, rv, pl, hz⟩ := I.tuple hl
  refine set_tups (P := X.prog) (w := X.w) ks (I.ok.hd hc) pl (by simpa using refs_of_vals rv) (fun p hp => I.isT (hk p hp)) hf (by omega) fun h' tk L es ep t R g k => ?_
  exact ⟨.ref s.heap.objs.size, _, I.laid (t' := tk) k (Nat.le_refl _) (setTO_new R.t0), rfl, q _ L (I.hok.fresh (Nat.le_refl _)) (fun p hp => List.mem_of_mem_take (g.sub p hp)) fun p hp => g.all p (by rw [List.take_length]; exact hp)⟩
/-- sorted of such a set -/
def rSortSV (K : PySem.W.Frag) (P : Program) (w : World) : List V → Hp → VK → Prop := fun vs H Q => ∃ (a : Addr) (L : List (Addr × List Int)) (D : Nat) (B : Int), vs = [V.ref a] ∧ H a = some (SetTO P w a L) ∧ (∀ p ∈ L, SqT K H p.1 (p.2.map V.int)) ∧ 0 ≤ B ∧ (∀ p ∈ L, 1 ≤ p.2.length ∧ p.2.length ≤ D ∧ Dg B p.2) ∧
  ∀ (M : List (Addr × List Int)) (p : Addr), M.Perm L → (M.map (·.2)).Nodup → M.Pairwise (fun q r => ltI r.2 q.2 = false) → H p = none → Q (.ref p) (upd H p (.lst (M.map fun q => V.ref q.1)))
theorem cr_sortSV (hc : X.calm = true) : CallR X (.builtin "sorted") (rSortSV X.K X.prog X.w) := by
  intro pins s σ H vs us Q I r h
  obtain ⟨a, L, D, B, rfl, ha, hk, hB, hL, q⟩ := h
  have R0 : SetT0 X.prog X.w s.heap a L := (I.hok a _ ha).1
  obtain ⟨es, ep, t, R⟩ := R0.full fun p hp => I.isT (hk p hp)
  rw [Vals.ref1 r]
  refine sorted_setV R (I.ok.hd hc) hB hL fun s' p out c M k g o hp hg hout pm pw => ?_
  have few : M.length < 64 := by rw [pm.length_eq]; exact R.few
  have free : H p = none := I.hok.fresh hp
  obtain ⟨h', g', d', t', os'⟩ := s'
  cases o
  have J : Inv X pins σ (upd H p (.lst (M.map fun q => V.ref q.1))) ⟨h', g', d', t', s.os⟩ :=
    I.call (ch := []) (Un.laid k hp free) (I.hok.laid k hp ⟨by rw [List.length_map, sizeLine_eq]; omega, out.toList, c, by rw [hout]; exact vals_of_refs M, hg⟩) (by cases g; exact I.bare) (fun _ z => nomatch z)
  exact ⟨.ref p, _, J, rfl, q M p pm ((pm.map (·.2)).nodup_iff.mpr R.nd) pw free⟩
end
end KV

namespace GR
open PySem PySem.Spec PyProof.Rows L2 KL KG KS KV
/-! ### data: lots, bounds -/
def dInts (ns : List Int) : PyData := .tuple (ns.map .int)
theorem row_dInts (ns : List Int) : rowD (dInts ns) = ns := by
  show (ns.map PyData.int).map valI = ns
  rw [List.map_map]
  exact List.map_id ns
theorem len_dInts (ns : List Int) : lenD (dInts ns) = ns.length := List.length_map ..
theorem asc_of {ns : List Int} (h : ns.Pairwise (· < ·)) : ascL ns = true := by
  unfold ascL
  rw [List.all_eq_true]
  intro i hi
  have hi := List.mem_range.mp hi
  have h1 : i < ns.length := by omega
  have h2 : i + 1 < ns.length := by omega
  refine decide_eq_true ?_
  rw [List.getD_eq_getElem?_getD, List.getD_eq_getElem?_getD, List.getElem?_eq_getElem h1, List.getElem?_eq_getElem h2]
  exact List.pairwise_iff_getElem.mp h i (i + 1) h1 h2 (by omega)
theorem asc_to {ns : List Int} (h : ascL ns = true) : ns.Pairwise (· < ·) := by
  unfold ascL at h
  rw [List.all_eq_true] at h
  have step : ∀ i, (h2 : i + 1 < ns.length) → ns[i]'(by omega) < ns[i + 1] := fun i h2 => by
    have z := of_decide_eq_true (h i (List.mem_range.mpr (by omega)))
    rw [List.getD_eq_getElem?_getD, List.getD_eq_getElem?_getD, List.getElem?_eq_getElem (show i < ns.length by omega), List.getElem?_eq_getElem h2] at z
    exact z
  refine List.pairwise_iff_getElem.mpr fun i j hi hj lt => ?_
  have key : ∀ k, (hk : i + 1 + k < ns.length) → ns[i] < ns[i + 1 + k] := by
    intro k
    induction k with
    | zero => exact fun hk => step i hk
    | succ k ih => exact fun hk => Int.lt_trans (ih (by omega)) (step (i + 1 + k) hk)
  have z := key (j - (i + 1)) (by omega)
  have e : i + 1 + (j - (i + 1)) = j := by omega
  simp only [e] at z
  exact z
theorem lot_data {n : Nat} {ns : List Int} (h : LotN n ns) : isLotD (n : Int) (dInts ns) = true := by
  show ((ns.map PyData.int).all (inB n) && ascL ((ns.map PyData.int).map valI)) = true
  rw [List.map_map, show ns.map (valI ∘ PyData.int) = ns from List.map_id ns, asc_of h.1, Bool.and_true, List.all_eq_true]
  intro d hd
  obtain ⟨x, hx, rfl⟩ := List.mem_map.mp hd
  obtain ⟨h1, h2⟩ := h.2 x hx
  show (decide (0 ≤ x) && decide (x < (n : Int))) = true
  rw [decide_eq_true h1, decide_eq_true h2]
  rfl
/-- the order of tuples, as the comparison gives it -/
theorem lexAt_shift {e r e' r' : Nat → Bool} {z : Bool} (he : ∀ i, e' i = e (i + 1)) (hr : ∀ i, r' i = r (i + 1)) : ∀ k i, Ob.lexAt e r z (i + 1) k = Ob.lexAt e' r' z i k
  | 0, i => rfl
  | k + 1, i => by
    rw [Ob.lexAt_succ, Ob.lexAt_succ, he, hr, lexAt_shift he hr k (i + 1)]
theorem ltT_I : ∀ x y : List Int, ltT x y = ltI x y
  | [], [] => rfl
  | [], _ :: _ => rfl
  | _ :: _, [] => rfl
  | a :: x, b :: y => by
    have ih := ltT_I x y
    unfold ltT at ih ⊢
    have e : min (a :: x).length (b :: y).length = min x.length y.length + 1 := by
      simp only [List.length_cons]
      omega
    rw [e, Ob.lexAt_succ]
    have l : decide ((a :: x).length < (b :: y).length) = decide (x.length < y.length) := by simp
    rw [l, lexAt_shift (e' := fun j => decide (x.getD j 0 = y.getD j 0)) (r' := fun j => decide (x.getD j 0 < y.getD j 0)) (fun i => rfl) (fun i => rfl), ih]
    show (if decide (a = b) = true then ltI x y else decide (a < b)) = if a = b then ltI x y else decide (a < b)
    by_cases c : a = b
    · rw [if_pos c, if_pos (decide_eq_true c)]
    · rw [if_neg c, if_neg (by rw [decide_eq_false c]; exact Bool.false_ne_true)]
theorem ltI_tri : ∀ {x y : List Int}, ltI y x = false → x ≠ y → ltI x y = true
  | [], [], _, h => absurd rfl h
  | [], _ :: _, _, _ => rfl
  | _ :: _, [], h, _ => by cases h
  | a :: x, b :: y, h, ne => by
    have h : (if b = a then ltI y x else decide (b < a)) = false := h
    show (if a = b then ltI x y else decide (a < b)) = true
    by_cases c : a = b
    · rw [if_pos c.symm] at h
      rw [if_pos c]
      exact ltI_tri h fun z => ne (by rw [c, z])
    · rw [if_neg (fun z => c z.symm)] at h
      rw [if_neg c]
      have := of_decide_eq_false h
      exact decide_eq_true (by omega)
theorem ltI_irr : ∀ x : List Int, ltI x x = false
  | [] => rfl
  | a :: x => by
    show (if a = a then ltI x x else decide (a < a)) = false
    rw [if_pos rfl]
    exact ltI_irr x
theorem ltI_trans : ∀ {x y z : List Int}, ltI x y = true → ltI y z = true → ltI x z = true
  | [], [], _, h, _ => by cases h
  | [], _ :: _, [], _, h => by cases h
  | [], _ :: _, _ :: _, _, _ => rfl
  | _ :: _, [], _, h, _ => by cases h
  | _ :: _, _ :: _, [], _, h => by cases h
  | a :: x, b :: y, c :: z, h1, h2 => by
    have h1 : (if a = b then ltI x y else decide (a < b)) = true := h1
    have h2 : (if b = c then ltI y z else decide (b < c)) = true := h2
    show (if a = c then ltI x z else decide (a < c)) = true
    by_cases e1 : a = b
    · rw [if_pos e1] at h1
      by_cases e2 : b = c
      · rw [if_pos e2] at h2
        rw [if_pos (e1.trans e2)]
        exact ltI_trans h1 h2
      · rw [if_neg e2] at h2
        rw [if_neg (by rw [e1]; exact e2), e1]
        exact h2
    · rw [if_neg e1] at h1
      have l1 := of_decide_eq_true h1
      by_cases e2 : b = c
      · rw [if_neg (by rw [← e2]; exact e1), ← e2]
        exact h1
      · rw [if_neg e2] at h2
        have l2 := of_decide_eq_true h2
        rw [if_neg (by omega)]
        exact decide_eq_true (by omega)
theorem ascR_of {rows : List (List Int)} (h : rows.Pairwise (fun x y => ltI x y = true)) : ascR rows = true := by
  unfold ascR
  rw [List.all_eq_true]
  intro i hi
  have hi := List.mem_range.mp hi
  have h1 : i < rows.length := by omega
  have h2 : i + 1 < rows.length := by omega
  rw [List.getD_eq_getElem?_getD, List.getD_eq_getElem?_getD, List.getElem?_eq_getElem h1, List.getElem?_eq_getElem h2, ltT_I]
  exact List.pairwise_iff_getElem.mp h i (i + 1) h1 h2 (by omega)
theorem ascR_to {rows : List (List Int)} (h : ascR rows = true) : rows.Pairwise (fun x y => ltI x y = true) := by
  unfold ascR at h
  rw [List.all_eq_true] at h
  have step : ∀ i, (h2 : i + 1 < rows.length) → ltI (rows[i]'(by omega)) rows[i + 1] = true := fun i h2 => by
    have z := h i (List.mem_range.mpr (by omega))
    rw [List.getD_eq_getElem?_getD, List.getD_eq_getElem?_getD, List.getElem?_eq_getElem (show i < rows.length by omega), List.getElem?_eq_getElem h2, ltT_I] at z
    exact z
  refine List.pairwise_iff_getElem.mpr fun i j hi hj lt => ?_
  have key : ∀ k, (hk : i + 1 + k < rows.length) → ltI rows[i] rows[i + 1 + k] = true := by
    intro k
    induction k with
    | zero => exact fun hk => step i hk
    | succ k ih => exact fun hk => ltI_trans (ih (by omega)) (step (i + 1 + k) hk)
  have z := key (j - (i + 1)) (by omega)
  have e : i + 1 + (j - (i + 1)) = j := by omega
  simp only [e] at z
  exact z
/-! ### data of bounded size -/
mutual
def okd (n : Nat) : PyData → Bool
  | .none => true
  | .bool _ => true
  | .int i => decide (i.natAbs < 2 ^ 100)
  | .str x => decide (x.length ≤ 1000)
  | .list ds => decide (ds.length ≤ n) && okdL n ds
  | .tuple ds => decide (ds.length ≤ n) && okdL n ds
  | .dict kvs => kvs.isEmpty
def okdL (n : Nat) : List PyData → Bool
  | [] => true
  | d :: ds => okd n d && okdL n ds
end
theorem okdL_iff {n : Nat} : ∀ {ds : List PyData}, okdL n ds = true ↔ ∀ d ∈ ds, okd n d = true
  | [] => by simp [okdL]
  | d :: ds => by
    simp only [okdL, Bool.and_eq_true, okdL_iff (ds := ds), List.mem_cons, forall_eq_or_imp]
theorem okd_tup {n : Nat} {ds : List PyData} : okd n (.tuple ds) = true ↔ ds.length ≤ n ∧ ∀ d ∈ ds, okd n d = true := by
  simp only [okd, Bool.and_eq_true, okdL_iff, decide_eq_true_iff]
theorem okd_lst {n : Nat} {ds : List PyData} : okd n (.list ds) = true ↔ ds.length ≤ n ∧ ∀ d ∈ ds, okd n d = true := by
  simp only [okd, Bool.and_eq_true, okdL_iff, decide_eq_true_iff]
theorem okd_str {n : Nat} {x : Str} : okd n (.str x) = true ↔ x.length ≤ 1000 := by
  simp only [okd, decide_eq_true_iff]
theorem okd_int {n : Nat} {i : Int} : okd n (.int i) = true ↔ i.natAbs < 2 ^ 100 := by
  simp only [okd, decide_eq_true_iff]
mutual
theorem okd_up {n m : Nat} (h : n ≤ m) : ∀ {d : PyData}, okd n d = true → okd m d = true
  | .none, _ => rfl
  | .bool _, _ => rfl
  | .int _, e => okd_int.mpr (okd_int.mp e)
  | .str _, e => okd_str.mpr (okd_str.mp e)
  | .list ds, e => okd_lst.mpr ⟨Nat.le_trans (okd_lst.mp e).1 h, okdL_iff.mp (okdL_up h (okdL_iff.mpr (okd_lst.mp e).2))⟩
  | .tuple ds, e => okd_tup.mpr ⟨Nat.le_trans (okd_tup.mp e).1 h, okdL_iff.mp (okdL_up h (okdL_iff.mpr (okd_tup.mp e).2))⟩
  | .dict kvs, e => by simpa [okd] using e
theorem okdL_up {n m : Nat} (h : n ≤ m) : ∀ {ds : List PyData}, okdL n ds = true → okdL m ds = true
  | [], _ => rfl
  | d :: ds, e => by
    have e : (okd n d && okdL n ds) = true := by simpa [okdL] using e
    rw [Bool.and_eq_true] at e
    show (okd m d && okdL m ds) = true
    rw [okd_up h e.1, okdL_up h e.2]
    rfl
end
theorem okd_len {n : Nat} (hn : n ≤ 1000000) : ∀ (k : Nat) {d : PyData}, okd n d = true → LenD k d
  | 0, d, h => by
    show LenOk d
    cases d with
    | tuple ds => exact Nat.le_trans (okd_tup.mp h).1 hn
    | str x => exact Nat.le_trans (okd_str.mp h) (by decide)
    | _ => exact True.intro
  | k + 1, d, h => ⟨okd_len hn 0 h, fun ds e x hx => okd_len hn k (by subst e; exact (okd_tup.mp h).2 x hx)⟩
theorem okd_ints {n m : Nat} {ns : List Int} (hm : m ≤ 1000) (h : ∀ x ∈ ns, 0 ≤ x ∧ x < (m : Int)) (hl : ns.length ≤ n) : okd n (dInts ns) = true := by
  refine okd_tup.mpr ⟨by rw [List.length_map]; exact hl, fun d hd => ?_⟩
  obtain ⟨x, hx, rfl⟩ := List.mem_map.mp hd
  obtain ⟨h1, h2⟩ := h x hx
  refine okd_int.mpr (Nat.lt_of_lt_of_le (m := 1000) (by omega) (by decide))
/-! ### data and the other words for it -/
theorem DqL.ints {Z : Addr → Prop} {H : Hp} : ∀ ns : List Int, DqL Z H (ns.map V.int) (ns.map PyData.int)
  | [] => .nil
  | n :: ns => .cons (.int n) (DqL.ints ns)
theorem dInts_new {Z : Addr → Prop} {H : Hp} {p : Addr} {ns : List Int} (e : H p = some (.tup (ns.map V.int))) (z : ¬ Z p) : Dq Z H (.ref p) (dInts ns) := .tup (.inl e) z (DqL.ints ns)
theorem dInts_tup {Z : Addr → Prop} {H : Hp} {v : V} {ns : List Int} (h : Dq Z H v (dInts ns)) : ∃ p, v = .ref p ∧ Rd H p (.tup (ns.map V.int)) ∧ ¬ Z p := by
  unfold dInts at h
  cases h with
  | tup e z L =>
    refine ⟨_, rfl, ?_, z⟩
    have key : ∀ {xs : List V} {ns : List Int}, DqL Z H xs (ns.map PyData.int) → xs = ns.map V.int := by
      intro xs ns
      induction ns generalizing xs with
      | nil => intro L; cases L; rfl
      | cons n ns ih =>
        intro L
        cases L with
        | cons h t =>
          cases h
          rw [ih t]
          rfl
    rw [← key L]
    exact e
theorem DqL.perm {Z : Addr → Prop} {H : Hp} {xs ys : List V} (p : ys.Perm xs) : ∀ {ds : List PyData}, DqL Z H xs ds → ∃ es, es.Perm ds ∧ DqL Z H ys es := by
  induction p with
  | nil => exact fun L => ⟨_, .refl _, L⟩
  | cons x _ ih =>
    intro ds L
    cases L with
    | cons h t =>
      obtain ⟨es, pe, L'⟩ := ih t
      exact ⟨_, pe.cons _, .cons h L'⟩
  | swap x y l =>
    intro ds L
    cases L with
    | cons h t =>
      cases t with
      | cons h2 t => exact ⟨_, .swap _ _ _, .cons h2 (.cons h t)⟩
  | trans _ _ ih1 ih2 =>
    intro ds L
    obtain ⟨es, p1, L1⟩ := ih2 L
    obtain ⟨fs, p2, L2⟩ := ih1 L1
    exact ⟨fs, p2.trans p1, L2⟩
theorem rows_perm {es : List PyData} {rows : List (List Int)} (p : es.Perm (rows.map dInts)) : ∃ rs : List (List Int), es = rs.map dInts ∧ rs.Perm rows := by
  refine ⟨es.map rowD, ?_, ?_⟩
  · rw [List.map_map]
    refine (List.map_id es).symm.trans (List.map_congr_left fun d hd => ?_)
    obtain ⟨r, _, rfl⟩ := List.mem_map.mp (p.mem_iff.mp hd)
    show dInts r = dInts (rowD (dInts r))
    rw [row_dInts]
  · have z := p.map rowD
    rw [List.map_map] at z
    have e : rows.map (rowD ∘ dInts) = rows := (List.map_congr_left fun r _ => row_dInts r).trans (List.map_id rows)
    rwa [e] at z
mutual
def noDict : PyData → Bool
  | .list ds => noDictL ds
  | .tuple ds => noDictL ds
  | .dict _ => false
  | _ => true
def noDictL : List PyData → Bool
  | [] => true
  | d :: ds => noDict d && noDictL ds
end
mutual
theorem Dq.dp {K : PySem.W.Frag} {Z : Addr → Prop} {H : Hp} : ∀ (d : PyData) (v : V), noDict d = true → Dq Z H v d → Dp K H v d
  | .none, _, _, h => by cases h; exact .non
  | .bool _, _, _, h => by cases h; exact .bl _
  | .int _, _, _, h => by cases h; exact .int _
  | .str _, _, _, h => by cases h; exact .str _
  | .list ds, _, n, h => by
    cases h with
    | lst e z m L => exact .lst (.inl (.inl e)) (DqL.dp ds _ (by simpa [noDict] using n) L)
  | .tuple ds, _, n, h => by
    cases h with
    | tup e z L => exact .tup (.inl e) (DqL.dp ds _ (by simpa [noDict] using n) L)
  | .dict _, _, n, _ => by simp [noDict] at n
theorem DqL.dp {K : PySem.W.Frag} {Z : Addr → Prop} {H : Hp} : ∀ (ds : List PyData) (vs : List V), noDictL ds = true → DqL Z H vs ds → DpAll K H vs ds
  | [], _, _, h => by cases h; exact .nil
  | d :: ds, _, n, h => by
    cases h with
    | cons a t =>
      have n : (noDict d && noDictL ds) = true := by simpa [noDictL] using n
      rw [Bool.and_eq_true] at n
      exact .cons (Dq.dp d _ n.1 a) (DqL.dp ds _ n.2 t)
end
theorem noDictL_iff : ∀ {ds : List PyData}, noDictL ds = true ↔ ∀ d ∈ ds, noDict d = true
  | [] => by simp [noDictL]
  | d :: ds => by simp only [noDictL, Bool.and_eq_true, noDictL_iff (ds := ds), List.mem_cons, forall_eq_or_imp]
theorem noDict_ints (ns : List Int) : noDict (dInts ns) = true := by
  show noDictL (ns.map PyData.int) = true
  rw [noDictL_iff]
  intro d hd
  obtain ⟨x, _, rfl⟩ := List.mem_map.mp hd
  rfl
end GR

namespace GR
open PySem PySem.Spec PyProof.Rows L2 KL KG KS KV
/-! ### _law_graph -/
abbrev sGr : Stmt := topS 37
theorem scGr : FnScope ["well", "few", "most", "arrows", "lots", "part", "at", "to", "turn", "lot"] ["well", "few", "most"] (defScope sGr) := ⟨rfl, rfl, rfl, by decide +kernel, rfl, by decide +kernel, by decide +kernel⟩
/-- arrows below n, ascending -/
def ArrN (n : Nat) (rows : List (List Int)) : Prop := rows.Pairwise (fun x y => ltI x y = true) ∧ ∀ r ∈ rows, LotN n r ∧ r.length = 2
/-- hidden lots below n, ascending -/
def HidN (n : Nat) (rows : List (List Int)) : Prop := rows.Pairwise (fun x y => ltI x y = true) ∧ rows.length ≤ 28 ∧ ∀ r ∈ rows, LotN n r ∧ 2 ≤ r.length
def dRows (rows : List (List Int)) : PyData := .tuple (rows.map dInts)
def dStrs (ws : List Str) : PyData := .tuple (ws.map .str)
def dGraph (ws : List Str) (ar hd : List (List Int)) : PyData := .tuple [dStrs ws, dRows ar, dRows hd]
theorem strs_of (ws : List Str) : strsD (dStrs ws) = ws := by
  show (ws.map PyData.str).map valS = ws
  rw [List.map_map]
  exact List.map_id ws
theorem rows_of (rows : List (List Int)) : rowsD (dRows rows) = rows := by
  show (rows.map dInts).map rowD = rows
  rw [List.map_map]
  exact (List.map_congr_left fun r _ => row_dInts r).trans (List.map_id rows)
theorem names_data {ws : List Str} (h0 : 1 ≤ ws.length) (h1 : ws.length ≤ 8) (nd : ws.Nodup) (nm : ∀ x ∈ ws, isNameD (.str x) = true) : isNamesD (dStrs ws) = true := by
  show ((decide (1 ≤ (ws.map PyData.str).length) && decide ((ws.map PyData.str).length ≤ 8)) && ((ws.map PyData.str).all isNameD && decide (((ws.map PyData.str).map valS).Nodup))) = true
  have e : (ws.map PyData.str).map valS = ws := strs_of ws
  have a : (ws.map PyData.str).all isNameD = true := by
    rw [List.all_eq_true]
    intro d hd
    obtain ⟨x, hx, rfl⟩ := List.mem_map.mp hd
    exact nm x hx
  rw [e, a, List.length_map, decide_eq_true h0, decide_eq_true h1, decide_eq_true nd]
  rfl
theorem arrows_data {n : Nat} {rows : List (List Int)} (h : ArrN n rows) : isArrD (n : Int) (dRows rows) = true := by
  show ((rows.map dInts).all (fun e => isLotD n e && decide (lenD e = 2)) && ascR ((rows.map dInts).map rowD)) = true
  rw [show (rows.map dInts).map rowD = rows from rows_of rows, ascR_of h.1, Bool.and_true, List.all_eq_true]
  intro d hd
  obtain ⟨r, hr, rfl⟩ := List.mem_map.mp hd
  rw [lot_data (h.2 r hr).1, len_dInts, decide_eq_true (h.2 r hr).2]
  rfl
theorem hidden_data {n : Nat} {rows : List (List Int)} (h : HidN n rows) : isHidD (n : Int) (dRows rows) = true := by
  show (decide ((rows.map dInts).length ≤ 28) && ((rows.map dInts).all (fun e => isLotD n e && decide (2 ≤ lenD e)) && ascR ((rows.map dInts).map rowD))) = true
  have a : (rows.map dInts).all (fun e => isLotD n e && decide (2 ≤ lenD e)) = true := by
    rw [List.all_eq_true]
    intro d hd
    obtain ⟨r, hr, rfl⟩ := List.mem_map.mp hd
    rw [lot_data (h.2.2 r hr).1, len_dInts, decide_eq_true (h.2.2 r hr).2]
    rfl
  rw [show (rows.map dInts).map rowD = rows from rows_of rows, ascR_of h.1, a, List.length_map, decide_eq_true h.2.1]
  rfl
theorem lot_short {n : Nat} {ns : List Int} (h : LotN n ns) : ns.length ≤ n := by
  have e := nodup_le (ns.map Int.toNat) (List.range n) (List.pairwise_map.mpr (h.1.imp_of_mem fun {a b} ha hb lt => by
    have := (h.2 a ha).1
    have := (h.2 b hb).1
    omega)) (fun x hx => by
    obtain ⟨y, hy, rfl⟩ := List.mem_map.mp hx
    have := h.2 y hy
    exact List.mem_range.mpr (by omega))
  rw [List.length_map, List.length_range] at e
  exact e
/-- a graph of n variables -/
structure GrN (n : Nat) (ws : List Str) (ar hd : List (List Int)) : Prop where
  one : 1 ≤ n
  most : n ≤ 8
  len : ws.length = n
  nd : ws.Nodup
  nm : ∀ x ∈ ws, isNameD (.str x) = true
  ar : ArrN n ar
  hd : HidN n hd
theorem lenD_strs (ws : List Str) : lenD (dStrs ws) = ws.length := List.length_map ..
theorem GrN.data {n : Nat} {ws : List Str} {ar hd : List (List Int)} (h : GrN n ws ar hd) : isGraphD (dGraph ws ar hd) = true := by
  show (isNamesD (dStrs ws) && (isArrD (lenD (dStrs ws) : Int) (dRows ar) && isHidD (lenD (dStrs ws) : Int) (dRows hd))) = true
  have l : lenD (dStrs ws) = n := (lenD_strs ws).trans h.len
  rw [l, names_data (by rw [h.len]; exact h.one) (by rw [h.len]; exact h.most) h.nd h.nm, arrows_data h.ar, hidden_data h.hd]
  rfl
theorem pair_lt {a b c d : Int} (h : a < c ∨ (a = c ∧ b < d)) : ltI [a, b] [c, d] = true := by
  show (if a = c then (if b = d then ltI [] [] else decide (b < d)) else decide (a < c)) = true
  rcases h with h | ⟨h, k⟩
  · rw [if_neg (by omega)]
    exact decide_eq_true h
  · rw [if_pos h, if_neg (by omega)]
    exact decide_eq_true k
/-- fewer than so many arrows -/
theorem arr_few {n : Nat} {rows : List (List Int)} (h : ArrN n rows) (hn : n ≤ 8) : rows.length ≤ 28 := by
  have inj : ∀ r ∈ rows, ∃ a b : Int, r = [a, b] ∧ 0 ≤ a ∧ a < n ∧ 0 ≤ b ∧ b < n ∧ a < b := fun r hr => by
    obtain ⟨⟨h1, h2⟩, h3⟩ := h.2 r hr
    match r, h3 with
    | [a, b], _ => exact ⟨a, b, rfl, (h2 a (by simp)).1, (h2 a (by simp)).2, (h2 b (by simp)).1, (h2 b (by simp)).2, (List.pairwise_cons.mp h1).1 b (by simp)⟩
  have e := nodup_le (rows.map fun r => (r.getD 0 0 * 8 + r.getD 1 0).toNat) ((List.range 64).filter fun c => decide (c / 8 < c % 8)) (List.pairwise_map.mpr (h.1.imp_of_mem fun {x y} hx hy lt z => by
    obtain ⟨a, b, rfl, a0, a1, b0, b1, _⟩ := inj x hx
    obtain ⟨c, d, rfl, c0, c1, d0, d1, _⟩ := inj y hy
    have z : (a * 8 + b).toNat = (c * 8 + d).toNat := z
    have e1 : a = c := by omega
    have e2 : b = d := by omega
    rw [e1, e2, ltI_irr] at lt
    cases lt)) (fun x hx => by
    obtain ⟨r, hr, rfl⟩ := List.mem_map.mp hx
    obtain ⟨a, b, rfl, a0, a1, b0, b1, ab⟩ := inj r hr
    have e1 : (a * 8 + b).toNat / 8 = a.toNat := by omega
    have e2 : (a * 8 + b).toNat % 8 = b.toNat := by omega
    refine List.mem_filter.mpr ⟨List.mem_range.mpr (by show (a * 8 + b).toNat < 64; omega), decide_eq_true ?_⟩
    show (a * 8 + b).toNat / 8 < (a * 8 + b).toNat % 8
    rw [e1, e2]
    omega)
  rw [List.length_map, show ((List.range 64).filter fun c => decide (c / 8 < c % 8)).length = 28 by decide] at e
  exact e
theorem GrN.ok {n : Nat} {ws : List Str} {ar hd : List (List Int)} (h : GrN n ws ar hd) : okd 30 (dGraph ws ar hd) = true := by
  have m := h.most
  refine okd_tup.mpr ⟨by show 3 ≤ 30; decide, fun d hd' => ?_⟩
  simp only [List.mem_cons, List.not_mem_nil, or_false] at hd'
  rcases hd' with rfl | rfl | rfl
  · refine okd_tup.mpr ⟨by rw [List.length_map, h.len]; omega, fun d hd' => ?_⟩
    obtain ⟨x, hx, rfl⟩ := List.mem_map.mp hd'
    have z := h.nm x hx
    have z : (!inV (.str x) (wordsL.map V.str) && ((decide (1 ≤ x.length) && decide (x.length ≤ 8)) && (firstOk x && x.cps.toList.all (fun c => letterC c || figureC c)))) = true := z
    simp only [Bool.and_eq_true, decide_eq_true_iff] at z
    exact okd_str.mpr (by omega)
  · refine okd_tup.mpr ⟨by rw [List.length_map]; have := arr_few h.ar m; omega, fun d hd' => ?_⟩
    obtain ⟨r, hr, rfl⟩ := List.mem_map.mp hd'
    exact okd_ints (m := n) (by omega) (h.ar.2 r hr).1.2 (by have := lot_short (h.ar.2 r hr).1; omega)
  · refine okd_tup.mpr ⟨by rw [List.length_map]; have := h.hd.2.1; omega, fun d hd' => ?_⟩
    obtain ⟨r, hr, rfl⟩ := List.mem_map.mp hd'
    exact okd_ints (m := n) (by omega) (h.hd.2.2 r hr).1.2 (by have := lot_short (h.hd.2.2 r hr).1; omega)
end GR

namespace GR
open PySem PySem.Spec PyProof.Rows L2 KL KG KS KV
/-- a drawn graph -/
def spGr : Sp := fun vs H Q _ => ∃ (a : Addr) (n m : Nat), vs = [.ref a, .int (n : Int), .int (m : Int)] ∧ Wl H a ∧ 1 ≤ n ∧ n ≤ 8 ∧ m ≤ 28 ∧
  ∀ (v : V) (ws : List Str) (ar hd : List (List Int)) (G : Hp), GrN n ws ar hd → Mv a H G → Dq (tracked H) G v (dGraph ws ar hd) → FzNames G v → Q v G
theorem shaped_ints (ns : List Int) : SeqAt.shaped (dInts ns) = true := by
  have a : ∀ ns : List Int, PyData.canLayAll0 (ns.map PyData.int) = true := fun ns => by
    induction ns with
    | nil => rfl
    | cons n ns ih =>
      show (PyData.canLay0 (.int n) && PyData.canLayAll0 (ns.map PyData.int)) = true
      rw [ih]
      rfl
  have b : ∀ ns : List Int, PyData.depthAll (ns.map PyData.int) ≤ 1 := fun ns => by
    induction ns with
    | nil => exact Nat.zero_le _
    | cons n ns ih =>
      simp only [List.map_cons, PyData.depthAll, PyData.depth]
      omega
  unfold SeqAt.shaped dInts
  have e1 : PyData.canLay0 (.tuple (ns.map PyData.int)) = true := a ns
  rw [e1, Bool.true_and]
  refine decide_eq_true ?_
  simp only [PyData.depth]
  have := b ns
  omega
theorem shaped_rows (rows : List (List Int)) : SeqAt.shaped (.list (rows.map dInts)) = true := by
  have a : ∀ rows : List (List Int), PyData.canLayAll0 (rows.map dInts) = true := fun rows => by
    induction rows with
    | nil => rfl
    | cons r rows ih =>
      show (PyData.canLay0 (dInts r) && PyData.canLayAll0 (rows.map dInts)) = true
      rw [ih, SeqAt.canLay_of_shaped (shaped_ints r)]
      rfl
  have b : ∀ rows : List (List Int), PyData.depthAll (rows.map dInts) ≤ 60 := fun rows => by
    induction rows with
    | nil => exact Nat.zero_le _
    | cons r rows ih =>
      have h : (dInts r).depth ≤ 2 := by
        have c : ∀ ns : List Int, PyData.depthAll (ns.map PyData.int) ≤ 1 := fun ns => by
          induction ns with
          | nil => exact Nat.zero_le _
          | cons n ns ih =>
            simp only [List.map_cons, PyData.depthAll, PyData.depth]
            omega
        have := c r
        simp only [dInts, PyData.depth]
        omega
      simp only [List.map_cons, PyData.depthAll]
      omega
  unfold SeqAt.shaped
  have e1 : PyData.canLay0 (.list (rows.map dInts)) = true := a rows
  rw [e1, Bool.true_and]
  refine decide_eq_true ?_
  simp only [PyData.depth]
  have := b rows
  omega
/-- a list of tuples that grows at L -/
structure Gw (Z : Addr → Prop) (G : Hp) (L : Addr) (rows : List (List Int)) : Prop where
  ex : ∃ xs, G L = some (.lst xs) ∧ DqL Z G xs (rows.map dInts)
theorem Gw.kp {Z : Addr → Prop} {G J : Hp} {L : Addr} {rows : List (List Int)} (g : Gw Z G L rows) (k : Kp Z G J) (e : J L = G L) : Gw Z J L rows := by
  obtain ⟨xs, h, D⟩ := g.ex
  exact ⟨xs, e.trans h, D.kp k⟩
theorem Gw.len {Z : Addr → Prop} {G : Hp} {L : Addr} {rows : List (List Int)} {xs : List V} (h : G L = some (.lst xs)) (g : Gw Z G L rows) : xs.length = rows.length := by
  obtain ⟨ys, e, D⟩ := g.ex
  rw [h] at e
  cases e
  rw [D.len, List.length_map]
/-- one more -/
theorem Gw.add {Z : Addr → Prop} {G J : Hp} {L p : Addr} {rows : List (List Int)} {ns : List Int} (g : Gw Z G L rows) (k : Kp Z G J) (e : J L = G L) (zL : Z L) (hp : J p = some (.tup (ns.map V.int))) (zp : ¬ Z p) : ∃ xs, J L = some (.lst xs) ∧ xs.length = rows.length ∧ Gw Z (upd J L (.lst (xs ++ [.ref p]))) L (rows ++ [ns]) := by
  obtain ⟨xs, h, D⟩ := g.ex
  refine ⟨xs, e.trans h, by rw [D.len, List.length_map], ⟨_, upd_same, ?_⟩⟩
  rw [List.map_append]
  refine ((D.kp k).app (.cons (dInts_new hp zp) .nil)).kp (Kp.at zL)
section
variable {P : Program} {w : World} {K : PySem.W.Frag} {mg : Str → Option Value} {base : Heap} {fD fO fDe : Addr} {fdD fdO fdDe : FuncData}
theorem ok_gr {f fN fM : Addr} {fd fdN fdM : FuncData} (F : Fun K "_law_graph" "_law_graph" sGr f fd) (FM : Fun K "_law_names" "_law_names" sNams fM fdM) (gM : mg "_law_names" = some (.ref fM)) (bM : L2.Binds K fdM ["well", "few"] []) (FN : Fun K "_law_name" "_law_name" sNam fN fdN) (gN : mg "_law_name" = some (.ref fN)) (bN : L2.Binds K fdN ["well"] []) (S : Dw K mg fD fO fDe fdD fdO fdDe) :
    FnOk P w K mg base CX0 5 f fd ["well", "few", "most"] spGr := by
  have GM : FnOk P w K mg base CX0 4 fM fdM ["well", "few"] spNams := ok_nams FM FN gN bN S
  refine F.ok scGr (fun vs H Q E h => ?_) (fun cdv A outer s H vs Q E hr h => ?_)
  · obtain ⟨a, n, m, rfl, _⟩ := h
    rfl
  · obtain ⟨a, n, m, rfl, hW, hn1, hn8, hm, q⟩ := h
    have hu : (A.deeper (envOfC (Str.ofString "_law_graph") (defScope sGr) s.heap.objs.size f cdv)).units + 65 < cLine := by
      have := hr.un
      omega
    refine ⟨_, pss_cons (ps_par3 (i := 3) (j := 4) (l := 5) rfl scGr.nd rfl rfl rfl (by decide) (by decide) (by decide) (by rfl) (by rfl) (by rfl) (pa_cons (pe_lst pa_nil) (pa_cons (pe_lst pa_nil) (pa_cons (pe_op op_add pe_int (pe_call S.okD (hr.mono (by decide)) (by rfl) S.gD S.D.kp S.bD .nil pass0 (pa_cons (pv 0) (pa_cons pe_int pa_nil)))) pa_nil))) (by rfl))
      (pss_cons (ps_for PassesOwn.never rfl (pi_range1 (by rfl) S.mr (pa_cons (pv 1) pa_nil)) (pg_name (i := 6) scGr.nd rfl (.inl rfl))
        (pss_one (ps_for PassesOwn.never rfl (pi_range2 (by rfl) S.mr (pa_cons (pe_op op_add (pv 6) pe_int) (pa_cons (pv 1) pa_nil))) (pg_name (i := 7) scGr.nd rfl (.inl rfl))
          (pss_one (ps_if (pt_cmpR op_lt (pe_call S.okD (hr.mono (by decide)) (by rfl) S.gD S.D.kp S.bD .nil pass0 (pa_cons (pv 0) (pa_cons pe_int pa_nil))) (pv 5) (nomark _))
            (pss_one (ps_expr (pe_bm PySem.F.plainAttrs_list PySem.F.slot_list_append PySem.F.type_list_append mt_append (pv 3) (pa_cons (pe_tup (pa_cons (pv 6) (pa_cons (pv 7) pa_nil))) pa_nil)))) pss_nil)))))
      (pss_cons (ps_for PassesOwn.never rfl (pi_range1 (by rfl) S.mr (pa_cons (pe_ifExp (pt_cmpR op_gt (pv 1) pe_int (nomark _)) (pe_call S.okD (hr.mono (by decide)) (by rfl) S.gD S.D.kp S.bD .nil pass0 (pa_cons (pv 0) (pa_cons (pe_op op_add (pv 2) pe_int) pa_nil))) pe_int) pa_nil)) (pg_name (i := 8) scGr.nd rfl (.inl rfl))
        (pss_cons (ps_set (i := 9) scGr.nd rfl (.inl rfl) (pe_callTy call_tuple_of (by rfl) S.mt (by decide +kernel) (pa_cons (pe_callB cr_sorted (by rfl) S.ms (by decide +kernel) (pa_cons (pe_slice sl_list (pe_call S.okDe (hr.mono (by decide)) (by rfl) S.gDe S.De.kp S.bDe .nil pass0 (pa_cons (pv 0) (pa_cons (pv 1) pa_nil))) po_none
            (po_some (pe_ifExp (pt_cmpR op_eq (pe_call S.okD (hr.mono (by decide)) (by rfl) S.gD S.D.kp S.bD .nil pass0 (pa_cons (pv 0) (pa_cons pe_int pa_nil))) pe_int (nomark _)) pe_int pe_int))) pa_nil)) pa_nil)))
        (pss_one (ps_if (pt_cmpR (op_notInD hu) (pv 9) (pv 4) (by with_unfolding_all rfl))
          (pss_one (ps_expr (pe_bm PySem.F.plainAttrs_list PySem.F.slot_list_append PySem.F.type_list_append mt_append (pv 4) (pa_cons (pv 9) pa_nil)))) pss_nil))))
      (pss_one (ps_ret (pe_tup (pa_cons (pe_call GM hr (by rfl) gM FM.kp bM .nil pass0 (pa_cons (pv 0) (pa_cons (pv 1) pa_nil)))
        (pa_cons (pe_callTy call_tuple_of (by rfl) S.mt (by decide +kernel) (pa_cons (pv 3) pa_nil))
        (pa_cons (pe_callTy call_tuple_of (by rfl) S.mt (by decide +kernel) (pa_cons (pe_callB (cr_sortV (D := 8) (B := 8) (by decide)) (by rfl) S.ms (by decide +kernel) (pa_cons (pv 4) pa_nil)) pa_nil)) pa_nil)))))))), ?_⟩
    refine ⟨by decide, fun A1 nA => ⟨by decide, fun L1 nL => ⟨.ref a, rfl, a, 3, rfl, (hW.new nA).new nL, by decide, by decide, fun r G r0 r1 mv0 => ⟨1, r, rfl, rfl, .ref A1, .ref L1, .int (1 + r), rfl, ?_⟩⟩⟩⟩
    have hAL : A1 ≠ L1 := ne_of_none upd_same nL
    have nL0 : H L1 = none := by
      rw [upd_ne (Ne.symm hAL)] at nL
      exact nL
    have hAa : a ≠ A1 := hW.ne nA
    have hLa : a ≠ L1 := hW.ne nL0
    generalize hZ : (fun b => tracked H b ∨ b = A1 ∨ b = L1) = Z
    have zA : Z A1 := by rw [← hZ]; exact .inr (.inl rfl)
    have zL : Z L1 := by rw [← hZ]; exact .inr (.inr rfl)
    have zT : ∀ b, tracked H b → Z b := fun b t => by rw [← hZ]; exact .inl t
    have za : Z a := zT a (hW.trk a rfl)
    have kM : ∀ {J J' : Hp}, Mv a J J' → Kp Z J J' := fun m => m.1.wk fun b e => by rw [e]; exact za
    have nZ : ∀ {J : Hp} {p : Addr}, Mv a H J → tracked J A1 → tracked J L1 → J p = none → ¬ Z p := fun {J p} m tA tL n z => by
      rw [← hZ] at z
      rcases z with z | z | z
      · exact z (m.free hW n)
      · exact tA (z ▸ n)
      · exact tL (z ▸ n)
    have mvG : Mv a H G := ((Mv.new hW nA).tr (Mv.new (hW.new nA) nL)).tr mv0
    have eA : G A1 = some (.lst []) := mv0.1 A1 _ (fun z => hAa z.symm) (by rw [upd_ne hAL]; exact upd_same)
    have eL : G L1 = some (.lst []) := mv0.1 L1 _ (fun z => hLa z.symm) upd_same
    refine ⟨.int (n : Int), rfl, (n : Int), rfl, by omega, by omega, ?_⟩
    rw [show ((n : Int)).toNat = n by omega]
    refine for_range (lo := 0) (n := n) (fun i σ J => ∃ (ar : List (List Int)) (y z u v : Option V), σ = [some (.ref a), some (.int (n : Int)), some (.int (m : Int)), some (.ref A1), some (.ref L1), some (.int (1 + r)), y, z, u, v] ∧ Gw Z J A1 ar ∧ J L1 = some (.lst []) ∧ ar.Pairwise (fun x y => ltI x y = true) ∧ (∀ r ∈ ar, ∃ p t : Nat, r = [(p : Int), (t : Int)] ∧ p < t ∧ t < n ∧ p < i) ∧ Mv a H J)
      ⟨[], none, none, none, none, rfl, ⟨[], eA, .nil⟩, eL, List.Pairwise.nil, fun r hr => absurd hr List.not_mem_nil, mvG⟩ ?_ ?_
    · rintro i σ J hi ⟨ar, y, z, u, v, rfl, gA, gL, pw, all, mv⟩
      refine ⟨_, rfl, 0 + (i : Int), 1, rfl, rfl, .int (n : Int), rfl, 0 + (i : Int) + 1, (n : Int), rfl, ⟨by omega, by omega, by omega, by omega⟩, ?_⟩
      rw [show ((n : Int) - (0 + (i : Int) + 1)).toNat = n - 1 - i by omega]
      refine for_range (lo := 0 + (i : Int) + 1) (n := n - 1 - i) (fun j σ J => ∃ (ar : List (List Int)) (z u v : Option V), σ = [some (.ref a), some (.int (n : Int)), some (.int (m : Int)), some (.ref A1), some (.ref L1), some (.int (1 + r)), some (.int (0 + (i : Int))), z, u, v] ∧ Gw Z J A1 ar ∧ J L1 = some (.lst []) ∧ ar.Pairwise (fun x y => ltI x y = true) ∧ (∀ r ∈ ar, ∃ p t : Nat, r = [(p : Int), (t : Int)] ∧ p < t ∧ t < n ∧ (p < i ∨ (p = i ∧ t < i + 1 + j))) ∧ Mv a H J)
        ⟨ar, z, u, v, rfl, gA, gL, pw, fun r hr => let ⟨p, t, h1, h2, h3, h4⟩ := all r hr; ⟨p, t, h1, h2, h3, .inl h4⟩, mv⟩ ?_ ?_
      · rintro j σ J hj ⟨ar, z, u, v, rfl, gA, gL, pw, all, mv⟩
        refine ⟨.ref a, rfl, a, 4, rfl, mv.2, by decide, by decide, fun d J1 d0 d1 mv1 => ⟨.int (1 + r), rfl, d, 1 + r, rfl, rfl, _, rfl, ?_⟩⟩
        have eL1 : J1 L1 = some (.lst []) := mv1.1 L1 _ (fun z => hLa z.symm) gL
        have eA1 : J1 A1 = J A1 := by
          obtain ⟨xs, e, _⟩ := gA.ex
          rw [e]
          exact mv1.1 A1 _ (fun z => hAa z.symm) e
        have tA : tracked J1 A1 := fun n => by
          obtain ⟨xs, e, _⟩ := gA.ex
          rw [eA1, e] at n
          cases n
        have tL : tracked J1 L1 := fun n => by rw [eL1] at n; cases n
        refine ifte (fun c => ?_) (fun c => ?_)
        · obtain ⟨xs0, e0, _⟩ := gA.ex
          refine ⟨.ref A1, rfl, .inl ⟨rfl, xs0, .inl (.inl (eA1.trans e0))⟩, _, rfl, _, rfl, by show 2 ≤ sizeLine; decide, fun p np => ?_⟩
          have zp : ¬ Z p := nZ (mv.tr mv1) tA tL np
          have hpA : A1 ≠ p := fun z => tA (z ▸ np)
          have hpL : L1 ≠ p := fun z => tL (z ▸ np)
          have hp : (upd J1 p (.tup [.int (0 + (i : Int)), .int (0 + (i : Int) + 1 + (j : Int))])) p = some (.tup (([((i : Nat) : Int), ((i + 1 + j : Nat) : Int)] : List Int).map V.int)) := by
            rw [upd_same]
            simp only [List.map_cons, List.map_nil]
            rw [show 0 + (i : Int) = ((i : Nat) : Int) by omega, show ((i : Nat) : Int) + 1 + (j : Int) = ((i + 1 + j : Nat) : Int) by omega]
          obtain ⟨xs, ex, lx, gN⟩ := gA.add (J := upd J1 p (.tup [.int (0 + (i : Int)), .int (0 + (i : Int) + 1 + (j : Int))])) ((kM mv1).tr (Kp.new np)) (by rw [upd_ne hpA]; exact eA1) zA hp zp
          have few : ar.length ≤ 28 := arr_few (n := n) ⟨pw, fun r hr => by
            obtain ⟨p, t, rfl, h2, h3, _⟩ := all r hr
            refine ⟨⟨?_, ?_⟩, rfl⟩
            · simp only [List.pairwise_cons, List.mem_cons, List.not_mem_nil, or_false, forall_eq]
              exact ⟨by omega, fun _ z => z.elim, List.Pairwise.nil⟩
            · intro x hx
              simp only [List.mem_cons, List.not_mem_nil, or_false] at hx
              rcases hx with rfl | rfl <;> omega⟩ hn8
          refine ⟨A1, xs, _, rfl, rfl, ex, by rw [lx, sizeLine_eq]; omega, ?_⟩
          refine ⟨ar ++ [[((i : Nat) : Int), ((i + 1 + j : Nat) : Int)]], _, u, v, rfl, gN, by rw [upd_ne (Ne.symm hAL), upd_ne hpL]; exact eL1, ?_, fun r hr => ?_, ((mv.tr mv1).off hW (mv.tr mv1 |>.free hW np)).off hW nA⟩
          · rw [List.pairwise_append]
            refine ⟨pw, by simp, fun x hx y hy => ?_⟩
            rw [List.mem_singleton.mp hy]
            obtain ⟨p, t, rfl, h2, h3, h4⟩ := all x hx
            exact pair_lt (by omega)
          · rcases List.mem_append.mp hr with z | z
            · obtain ⟨p, t, h1, h2, h3, h4⟩ := all r z
              exact ⟨p, t, h1, h2, h3, by omega⟩
            · exact ⟨i, i + 1 + j, List.mem_singleton.mp z, by omega, by omega, .inr ⟨rfl, by omega⟩⟩
        · exact ⟨ar, _, u, v, rfl, gA.kp (kM mv1) eA1, eL1, pw, fun r hr => let ⟨p, t, h1, h2, h3, h4⟩ := all r hr; ⟨p, t, h1, h2, h3, by omega⟩, mv.tr mv1⟩
      · rintro σ J ⟨ar, z, u, v, rfl, gA, gL, pw, all, mv⟩
        exact ⟨ar, _, z, u, v, rfl, gA, gL, pw, fun r hr => let ⟨p, t, h1, h2, h3, h4⟩ := all r hr; ⟨p, t, h1, h2, h3, by omega⟩, mv⟩
    · rintro σ J ⟨ar, y, z, u, v, rfl, gA, gL, pw, all, mv⟩
      have har : ArrN n ar := ⟨pw, fun r hr => by
        obtain ⟨p, t, rfl, h2, h3, _⟩ := all r hr
        refine ⟨⟨?_, ?_⟩, rfl⟩
        · simp only [List.pairwise_cons, List.mem_cons, List.not_mem_nil, or_false, forall_eq]
          exact ⟨by omega, fun _ z => z.elim, List.Pairwise.nil⟩
        · intro x hx
          simp only [List.mem_cons, List.not_mem_nil, or_false] at hx
          rcases hx with rfl | rfl <;> omega⟩
      clear all pw
      have tr : ∀ {J J' : Hp}, Gw Z J A1 ar → Mv a J J' → Gw Z J' A1 ar := fun {J J'} g m => g.kp (kM m) (by
        obtain ⟨xs, e, _⟩ := g.ex
        rw [e]
        exact m.1 A1 _ (fun z => hAa z.symm) e)
      have trk : ∀ {J : Hp} {L : Addr} {rs : List (List Int)}, Gw Z J L rs → tracked J L := fun {J L rs} g n => by
        obtain ⟨xs, e, _⟩ := g.ex
        rw [e] at n
        cases n
      refine ⟨.int (n : Int), rfl, (n : Int), 1, rfl, rfl, _, rfl, ifte (fun c => ?_) (fun c => ?_)⟩
      · refine ⟨.ref a, rfl, .int (m : Int), rfl, (m : Int), 1, rfl, rfl, a, (m : Int) + 1, rfl, mv.2, by omega, by omega, fun d J2 d0 d1 mv2 => ⟨d, rfl, by omega, by omega, ?_⟩⟩
        have gL2 : J2 L1 = some (.lst []) := mv2.1 L1 _ (fun z => hLa z.symm) gL
        replace gA := tr gA mv2
        replace mv := mv.tr mv2
        have two : 2 ≤ n ∨ d.toNat = 0 := .inl (by have := of_decide_eq_true c; omega)
        have hk : d.toNat ≤ 28 := by omega
        clear mv2 gL d0 d1 c
        generalize d.toNat = k at two hk ⊢
        refine for_range (lo := 0) (n := k) (fun i σ J => ∃ (hd : List (List Int)) (y u v : Option V), σ = [some (.ref a), some (.int (n : Int)), some (.int (m : Int)), some (.ref A1), some (.ref L1), some (.int (1 + r)), y, z, u, v] ∧ Gw Z J A1 ar ∧ Gw Z J L1 hd ∧ hd.Nodup ∧ hd.length ≤ i ∧ (∀ r ∈ hd, LotN n r ∧ 2 ≤ r.length) ∧ Mv a H J)
          ⟨[], y, u, v, rfl, gA, ⟨[], gL2, .nil⟩, List.nodup_nil, Nat.zero_le _, fun r hr => absurd hr List.not_mem_nil, mv⟩ ?_ ?_
        · rintro i σ J hi ⟨hd, y, u, v, rfl, gA, gL, nd, lh, all, mv⟩
          have n2 : 2 ≤ n := two.elim id fun z => by omega
          refine ⟨.ref a, rfl, .int (n : Int), rfl, a, n, rfl, mv.2, by omega, fun p ns J1 pm mv1 np e1 => ?_⟩
          refine ⟨.ref a, rfl, a, 4, rfl, mv1.2, by decide, by decide, fun d J2 d0 d1 mv2 => ⟨rfl, _, rfl, ?_⟩⟩
          have hpa : a ≠ p := (mv.2).ne np
          have e2 : J2 p = some (.lst (natV ns)) := mv2.1 p _ (fun z => hpa z.symm) e1
          have mvA := (mv.tr mv1).tr mv2
          have gA2 := tr (tr gA mv1) mv2
          have gL2 : Gw Z J2 L1 hd := (gL.kp (kM mv1) (by
            obtain ⟨xs, e, _⟩ := gL.ex
            rw [e]
            exact mv1.1 L1 _ (fun z => hLa z.symm) e)).kp (kM mv2) (by
            obtain ⟨xs, e, _⟩ := gL.ex
            have e' := mv1.1 L1 _ (fun z => hLa z.symm) e
            rw [e']
            exact mv2.1 L1 _ (fun z => hLa z.symm) e')
          clear gA gL e1 mv2 np
          have cutJ : ∀ c : Int, 2 ≤ c → ∃ x : Nat, 2 ≤ x ∧ cutV (natV ns) none (some c) = natV (ns.take x) := fun c h => by
            obtain ⟨x, rfl⟩ : ∃ x : Nat, c = (x : Int) := ⟨c.toNat, by omega⟩
            exact ⟨x, by omega, cut_nat ns x⟩
          refine ifte (fun c => ?_) (fun c => ?_)
          all_goals
            refine ⟨_, rfl, p, natV ns, rfl, .inl (.inl e2), fun p2 np2 => ?_⟩
            first
              | (obtain ⟨x, hx, ex⟩ := cutJ 3 (by decide); rw [ex])
              | (obtain ⟨x, hx, ex⟩ := cutJ 2 (by decide); rw [ex])
            refine ⟨p2, (ns.take x).map fun (i : Nat) => (i : Int), rfl, by rw [← natV_int]; exact .inl (.inl upd_same), by rw [List.length_map, List.length_take, pm.length_eq, List.length_range]; omega, fun ms p3 pm2 up np3 => ?_⟩
            refine ⟨p3, ms.map V.int, rfl, .inl ⟨.inl (.inl upd_same), fun p4 np4 => ?_⟩⟩
            have lot := lotN_of pm pm2 up
            have lms : 2 ≤ ms.length := by
              rw [pm2.length_eq, List.length_map, List.length_take, pm.length_eq, List.length_range]
              omega
            have tA := trk gA2
            have tL := trk gL2
            have kk : ∀ {q : Addr}, q = A1 ∨ q = L1 → q ≠ p2 ∧ q ≠ p3 ∧ q ≠ p4 := fun {q} hq => by
              have t : tracked J2 q := hq.elim (fun e => e ▸ tA) fun e => e ▸ tL
              have h2 : q ≠ p2 := fun e => t (e ▸ np2)
              have h3 : q ≠ p3 := fun e => by
                rw [← e, upd_ne h2] at np3
                exact t np3
              refine ⟨h2, h3, fun e => ?_⟩
              rw [← e, upd_ne h3, upd_ne h2] at np4
              exact t np4
            have old : ∀ {q : Addr}, q = A1 ∨ q = L1 → (upd (upd (upd J2 p2 (.lst (natV (ns.take x)))) p3 (.lst (ms.map V.int))) p4 (.tup (ms.map V.int))) q = J2 q := fun {q} hq => by
              obtain ⟨h2, h3, h4⟩ := kk hq
              rw [upd_ne h4, upd_ne h3, upd_ne h2]
            have k3 : Kp Z J2 (upd (upd (upd J2 p2 (.lst (natV (ns.take x)))) p3 (.lst (ms.map V.int))) p4 (.tup (ms.map V.int))) := ((Kp.new np2).tr (Kp.new np3)).tr (Kp.new np4)
            have m3 : Mv a H (upd (upd J2 p2 (.lst (natV (ns.take x)))) p3 (.lst (ms.map V.int))) := (mvA.tr (Mv.new mvA.2 np2)).tr (Mv.new (mvA.2.new np2) np3)
            have m4 : Mv a H (upd (upd (upd J2 p2 (.lst (natV (ns.take x)))) p3 (.lst (ms.map V.int))) p4 (.tup (ms.map V.int))) := m3.tr (Mv.new m3.2 np4)
            have zp : ¬ Z p4 := nZ m3 (by unfold tracked; rw [upd_ne (kk (.inl rfl)).2.1, upd_ne (kk (.inl rfl)).1]; exact tA) (by unfold tracked; rw [upd_ne (kk (.inr rfl)).2.1, upd_ne (kk (.inr rfl)).1]; exact tL) np4
            have gA4 := gA2.kp k3 (old (.inl rfl))
            have gL4 := gL2.kp k3 (old (.inr rfl))
            have e4 : (upd (upd (upd J2 p2 (.lst (natV (ns.take x)))) p3 (.lst (ms.map V.int))) p4 (.tup (ms.map V.int))) p4 = some (.tup (ms.map V.int)) := upd_same
            generalize upd (upd (upd J2 p2 (.lst (natV (ns.take x)))) p3 (.lst (ms.map V.int))) p4 (.tup (ms.map V.int)) = J4 at gA4 gL4 m4 e4 ⊢
            clear k3 m3 old
            obtain ⟨xs, ex4, Dx⟩ := gL4.ex
            refine ⟨.ref p4, rfl, .ref L1, rfl, dInts ms, hd.map dInts, Dq.dp _ _ (noDict_ints ms) (dInts_new e4 zp), .lst (.inl (.inl ex4)) (DqL.dp _ _ (noDictL_iff.mpr fun d hd' => by obtain ⟨r, _, rfl⟩ := List.mem_map.mp hd'; exact noDict_ints r) Dx), shaped_ints ms, shaped_rows hd, _, rfl, ifte (fun c1 => ?_) (fun c1 => ?_)⟩
            · have out : ms ∉ hd := fun z => by
                have : (hd.map dInts).any (fun z => PyData.eqv z (dInts ms)) = true := List.any_eq_true.mpr ⟨dInts ms, List.mem_map.mpr ⟨ms, z, rfl⟩, SeqAt.eqv_refl _ (SeqAt.canLay_of_shaped (shaped_ints ms))⟩
                rw [this] at c1
                cases c1
              obtain ⟨xs', ex', lx, gN⟩ := gL4.add (Kp.rfl') rfl zL e4 zp
              refine ⟨.ref L1, rfl, .inl ⟨rfl, xs, .inl (.inl ex4)⟩, .ref p4, rfl, L1, xs', _, rfl, rfl, ex', by rw [lx, sizeLine_eq]; omega, ?_⟩
              refine ⟨hd ++ [ms], y, _, some (.ref p4), rfl, gA4.kp (Kp.at zL) (upd_ne hAL), gN, ?_, by rw [List.length_append]; show hd.length + 1 ≤ i + 1; omega, fun r hr => ?_, m4.off hW nL0⟩
              · rw [List.nodup_append]
                exact ⟨nd, by simp, fun b hb c hc e => out (by rw [← List.mem_singleton.mp hc, ← e]; exact hb)⟩
              · rcases List.mem_append.mp hr with z | z
                · exact all r z
                · rw [List.mem_singleton.mp z]
                  exact ⟨lot, lms⟩
            · exact ⟨hd, y, _, some (.ref p4), rfl, gA4, gL4, nd, by omega, all, m4⟩
        · rintro σ J ⟨hd, y, u, v, rfl, gA, gL, nd, lh, all, mv⟩
          have n8 : ∀ r ∈ hd, 1 ≤ r.length ∧ r.length ≤ 8 ∧ Dg 8 r := fun r hr => by
            obtain ⟨h1, h2⟩ := all r hr
            have := lot_short h1
            exact ⟨by omega, by omega, fun x hx => by have := h1.2 x hx; omega⟩
          refine ⟨.ref a, rfl, .int (n : Int), rfl, a, n, rfl, mv.2, by omega, fun p o ws J1 lw nw nmw mv1 np od e1 => ?_⟩
          have gA1 := tr gA mv1
          have gL1 : Gw Z J1 L1 hd := gL.kp (kM mv1) (by
            obtain ⟨xs, e, _⟩ := gL.ex
            rw [e]
            exact mv1.1 L1 _ (fun z => hLa z.symm) e)
          have zp : ¬ Z p := nZ mv (trk gA) (trk gL) np
          obtain ⟨xa, ea, Da⟩ := gA1.ex
          obtain ⟨xl, el, Dl⟩ := gL1.ex
          refine ⟨.ref A1, rfl, A1, xa, rfl, .inl ⟨.inl (.inl ea), fun p2 np2 => ?_⟩⟩
          have zp2 : ¬ Z p2 := nZ (mv.tr mv1) (trk gA1) (trk gL1) np2
          have L2' : L1 ≠ p2 := ne_of_none el np2
          have ref : ∀ x ∈ xl, ∃ r, r ∈ hd ∧ Dq Z J1 x (dInts r) := fun x hx => by
            obtain ⟨i, hi, e⟩ := List.getElem_of_mem hx
            obtain ⟨d, hd', dq⟩ := Dl.get (i := i) (v := x) (by rw [← e]; exact List.getElem?_eq_getElem hi)
            obtain ⟨r, hr, rfl⟩ := List.mem_map.mp (List.mem_of_getElem? hd')
            exact ⟨r, hr, dq⟩
          have few : xl.length ≤ 28 := by
            rw [Dl.len, List.length_map]
            omega
          refine ⟨.ref L1, rfl, L1, xl, rfl, .inl (.inl ((upd_ne L2').trans el)), by omega, fun x hx => ?_, fun ys p3 pm pw np3 => ?_⟩
          · obtain ⟨r, hr, dq⟩ := ref x hx
            obtain ⟨t, rfl, rd, _⟩ := dInts_tup (dq.kp (Kp.new (o := .tup xa) np2))
            exact ⟨r, ⟨t, rfl, .inl rd⟩, n8 r hr⟩
          · refine ⟨p3, ys, rfl, .inl ⟨.inl (.inl upd_same), fun p4 np4 => ⟨by show 3 ≤ sizeLine; decide, fun p5 np5 => ?_⟩⟩⟩
            have m2 : Mv a H (upd J1 p2 (.tup xa)) := (mv.tr mv1).tr (Mv.new (mv.tr mv1).2 np2)
            have m3 : Mv a H (upd (upd J1 p2 (.tup xa)) p3 (.lst ys)) := m2.tr (Mv.new m2.2 np3)
            have m4 : Mv a H (upd (upd (upd J1 p2 (.tup xa)) p3 (.lst ys)) p4 (.tup ys)) := m3.tr (Mv.new m3.2 np4)
            have k1 : Kp Z J1 (upd J1 p2 (.tup xa)) := Kp.new np2
            obtain ⟨es, pe, De⟩ := DqL.perm pm (Dl.kp k1)
            obtain ⟨rs, rfl, prs⟩ := rows_perm pe
            have hh : HidN n rs := by
              have ndr : rs.Nodup := prs.nodup_iff.mpr nd
              have len : ys.length = rs.length := by rw [De.len, List.length_map]
              refine ⟨List.pairwise_iff_getElem.mpr fun i j hi hj lt => ?_, by rw [prs.length_eq]; omega, fun r hr => all r (prs.mem_iff.mp hr)⟩
              have get : ∀ i, (hi : i < rs.length) → ∃ t, ys[i]'(by omega) = .ref t ∧ Rd (upd J1 p2 (.tup xa)) t (.tup (rs[i].map V.int)) := fun i hi => by
                obtain ⟨d, hd', dq⟩ := De.get (i := i) (List.getElem?_eq_getElem (by omega))
                rw [List.getElem?_map, List.getElem?_eq_getElem hi] at hd'
                cases hd'
                obtain ⟨t, e, rd, _⟩ := dInts_tup dq
                exact ⟨t, e, rd⟩
              obtain ⟨t, e1, r1⟩ := get i hi
              obtain ⟨t', e2, r2⟩ := get j hj
              have z := List.pairwise_iff_getElem.mp pw i j (by omega) (by omega) lt rs[i] rs[j] ⟨t, e1, .inl r1⟩ ⟨t', e2, .inl r2⟩
              exact ltI_tri z fun e => absurd (List.pairwise_iff_getElem.mp ndr i j hi hj lt) (fun ne => ne e)
            have gr : GrN n ws ar rs := ⟨hn1, hn8, lw, nw, nmw, har, hh⟩
            have k5 : Kp Z J1 (upd (upd (upd (upd J1 p2 (.tup xa)) p3 (.lst ys)) p4 (.tup ys)) p5 (.tup [.ref p, .ref p2, .ref p4])) := ((k1.tr (Kp.new np3)).tr (Kp.new np4)).tr (Kp.new np5)
            have t5 : ∀ {q : Addr} {u : HO}, (upd (upd (upd J1 p2 (.tup xa)) p3 (.lst ys)) p4 (.tup ys)) q = some u → (upd (upd (upd (upd J1 p2 (.tup xa)) p3 (.lst ys)) p4 (.tup ys)) p5 (.tup [.ref p, .ref p2, .ref p4])) q = some u := fun {q u} e => (upd_ne (ne_of_none e np5)).trans e
            have i2 : (upd (upd (upd J1 p2 (.tup xa)) p3 (.lst ys)) p4 (.tup ys)) p2 = some (.tup xa) := by
              have h3 : p2 ≠ p3 := ne_of_none upd_same np3
              have h4 : p2 ≠ p4 := ne_of_none ((upd_ne h3).trans upd_same) np4
              rw [upd_ne h4, upd_ne h3]
              exact upd_same
            have free : ∀ {J : Hp} {q : Addr}, Mv a H J → J q = none → ¬ tracked H q := fun m n t => t (m.free hW n)
            have ep := k5 p _ zp e1
            refine q (.ref p5) ws ar rs _ gr (m4.tr (Mv.new m4.2 np5)) ?_ ⟨p5, p, _, _, o, rfl, .inl upd_same, ep, od⟩
            refine .tup (.inl upd_same) (free m4 np5) (.cons (.tup (.inr ⟨o, ep⟩) (free mv np) ?_) (.cons (.tup (.inl (t5 i2)) (free (mv.tr mv1) np2) ?_) (.cons (.tup (.inl (t5 upd_same)) (free m3 np4) ?_) .nil)))
            · clear e1 ep gr hh nw nmw lw
              induction ws with
              | nil => exact .nil
              | cons x ws ih => exact .cons (.str x) ih
            · exact (Da.kp k5).wk zT
            · exact (De.kp (((Kp.new np3).tr (Kp.new np4)).tr (Kp.new np5))).wk zT
      · refine ⟨0, rfl, by decide, by decide, ?_⟩
        have two : 2 ≤ n ∨ (0 : Int).toNat = 0 := .inr rfl
        have hk : (0 : Int).toNat ≤ 28 := by decide
        generalize (0 : Int).toNat = k at two hk ⊢
        have gL2 := gL
        clear gL c
        generalize J = J2 at gA gL2 mv ⊢
        refine for_range (lo := 0) (n := k) (fun i σ J => ∃ (hd : List (List Int)) (y u v : Option V), σ = [some (.ref a), some (.int (n : Int)), some (.int (m : Int)), some (.ref A1), some (.ref L1), some (.int (1 + r)), y, z, u, v] ∧ Gw Z J A1 ar ∧ Gw Z J L1 hd ∧ hd.Nodup ∧ hd.length ≤ i ∧ (∀ r ∈ hd, LotN n r ∧ 2 ≤ r.length) ∧ Mv a H J)
          ⟨[], y, u, v, rfl, gA, ⟨[], gL2, .nil⟩, List.nodup_nil, Nat.zero_le _, fun r hr => absurd hr List.not_mem_nil, mv⟩ ?_ ?_
        · rintro i σ J hi ⟨hd, y, u, v, rfl, gA, gL, nd, lh, all, mv⟩
          have n2 : 2 ≤ n := two.elim id fun z => by omega
          refine ⟨.ref a, rfl, .int (n : Int), rfl, a, n, rfl, mv.2, by omega, fun p ns J1 pm mv1 np e1 => ?_⟩
          refine ⟨.ref a, rfl, a, 4, rfl, mv1.2, by decide, by decide, fun d J2 d0 d1 mv2 => ⟨rfl, _, rfl, ?_⟩⟩
          have hpa : a ≠ p := (mv.2).ne np
          have e2 : J2 p = some (.lst (natV ns)) := mv2.1 p _ (fun z => hpa z.symm) e1
          have mvA := (mv.tr mv1).tr mv2
          have gA2 := tr (tr gA mv1) mv2
          have gL2 : Gw Z J2 L1 hd := (gL.kp (kM mv1) (by
            obtain ⟨xs, e, _⟩ := gL.ex
            rw [e]
            exact mv1.1 L1 _ (fun z => hLa z.symm) e)).kp (kM mv2) (by
            obtain ⟨xs, e, _⟩ := gL.ex
            have e' := mv1.1 L1 _ (fun z => hLa z.symm) e
            rw [e']
            exact mv2.1 L1 _ (fun z => hLa z.symm) e')
          clear gA gL e1 mv2 np
          have cutJ : ∀ c : Int, 2 ≤ c → ∃ x : Nat, 2 ≤ x ∧ cutV (natV ns) none (some c) = natV (ns.take x) := fun c h => by
            obtain ⟨x, rfl⟩ : ∃ x : Nat, c = (x : Int) := ⟨c.toNat, by omega⟩
            exact ⟨x, by omega, cut_nat ns x⟩
          refine ifte (fun c => ?_) (fun c => ?_)
          all_goals
            refine ⟨_, rfl, p, natV ns, rfl, .inl (.inl e2), fun p2 np2 => ?_⟩
            first
              | (obtain ⟨x, hx, ex⟩ := cutJ 3 (by decide); rw [ex])
              | (obtain ⟨x, hx, ex⟩ := cutJ 2 (by decide); rw [ex])
            refine ⟨p2, (ns.take x).map fun (i : Nat) => (i : Int), rfl, by rw [← natV_int]; exact .inl (.inl upd_same), by rw [List.length_map, List.length_take, pm.length_eq, List.length_range]; omega, fun ms p3 pm2 up np3 => ?_⟩
            refine ⟨p3, ms.map V.int, rfl, .inl ⟨.inl (.inl upd_same), fun p4 np4 => ?_⟩⟩
            have lot := lotN_of pm pm2 up
            have lms : 2 ≤ ms.length := by
              rw [pm2.length_eq, List.length_map, List.length_take, pm.length_eq, List.length_range]
              omega
            have tA := trk gA2
            have tL := trk gL2
            have kk : ∀ {q : Addr}, q = A1 ∨ q = L1 → q ≠ p2 ∧ q ≠ p3 ∧ q ≠ p4 := fun {q} hq => by
              have t : tracked J2 q := hq.elim (fun e => e ▸ tA) fun e => e ▸ tL
              have h2 : q ≠ p2 := fun e => t (e ▸ np2)
              have h3 : q ≠ p3 := fun e => by
                rw [← e, upd_ne h2] at np3
                exact t np3
              refine ⟨h2, h3, fun e => ?_⟩
              rw [← e, upd_ne h3, upd_ne h2] at np4
              exact t np4
            have old : ∀ {q : Addr}, q = A1 ∨ q = L1 → (upd (upd (upd J2 p2 (.lst (natV (ns.take x)))) p3 (.lst (ms.map V.int))) p4 (.tup (ms.map V.int))) q = J2 q := fun {q} hq => by
              obtain ⟨h2, h3, h4⟩ := kk hq
              rw [upd_ne h4, upd_ne h3, upd_ne h2]
            have k3 : Kp Z J2 (upd (upd (upd J2 p2 (.lst (natV (ns.take x)))) p3 (.lst (ms.map V.int))) p4 (.tup (ms.map V.int))) := ((Kp.new np2).tr (Kp.new np3)).tr (Kp.new np4)
            have m3 : Mv a H (upd (upd J2 p2 (.lst (natV (ns.take x)))) p3 (.lst (ms.map V.int))) := (mvA.tr (Mv.new mvA.2 np2)).tr (Mv.new (mvA.2.new np2) np3)
            have m4 : Mv a H (upd (upd (upd J2 p2 (.lst (natV (ns.take x)))) p3 (.lst (ms.map V.int))) p4 (.tup (ms.map V.int))) := m3.tr (Mv.new m3.2 np4)
            have zp : ¬ Z p4 := nZ m3 (by unfold tracked; rw [upd_ne (kk (.inl rfl)).2.1, upd_ne (kk (.inl rfl)).1]; exact tA) (by unfold tracked; rw [upd_ne (kk (.inr rfl)).2.1, upd_ne (kk (.inr rfl)).1]; exact tL) np4
            have gA4 := gA2.kp k3 (old (.inl rfl))
            have gL4 := gL2.kp k3 (old (.inr rfl))
            have e4 : (upd (upd (upd J2 p2 (.lst (natV (ns.take x)))) p3 (.lst (ms.map V.int))) p4 (.tup (ms.map V.int))) p4 = some (.tup (ms.map V.int)) := upd_same
            generalize upd (upd (upd J2 p2 (.lst (natV (ns.take x)))) p3 (.lst (ms.map V.int))) p4 (.tup (ms.map V.int)) = J4 at gA4 gL4 m4 e4 ⊢
            clear k3 m3 old
            obtain ⟨xs, ex4, Dx⟩ := gL4.ex
            refine ⟨.ref p4, rfl, .ref L1, rfl, dInts ms, hd.map dInts, Dq.dp _ _ (noDict_ints ms) (dInts_new e4 zp), .lst (.inl (.inl ex4)) (DqL.dp _ _ (noDictL_iff.mpr fun d hd' => by obtain ⟨r, _, rfl⟩ := List.mem_map.mp hd'; exact noDict_ints r) Dx), shaped_ints ms, shaped_rows hd, _, rfl, ifte (fun c1 => ?_) (fun c1 => ?_)⟩
            · have out : ms ∉ hd := fun z => by
                have : (hd.map dInts).any (fun z => PyData.eqv z (dInts ms)) = true := List.any_eq_true.mpr ⟨dInts ms, List.mem_map.mpr ⟨ms, z, rfl⟩, SeqAt.eqv_refl _ (SeqAt.canLay_of_shaped (shaped_ints ms))⟩
                rw [this] at c1
                cases c1
              obtain ⟨xs', ex', lx, gN⟩ := gL4.add (Kp.rfl') rfl zL e4 zp
              refine ⟨.ref L1, rfl, .inl ⟨rfl, xs, .inl (.inl ex4)⟩, .ref p4, rfl, L1, xs', _, rfl, rfl, ex', by rw [lx, sizeLine_eq]; omega, ?_⟩
              refine ⟨hd ++ [ms], y, _, some (.ref p4), rfl, gA4.kp (Kp.at zL) (upd_ne hAL), gN, ?_, by rw [List.length_append]; show hd.length + 1 ≤ i + 1; omega, fun r hr => ?_, m4.off hW nL0⟩
              · rw [List.nodup_append]
                exact ⟨nd, by simp, fun b hb c hc e => out (by rw [← List.mem_singleton.mp hc, ← e]; exact hb)⟩
              · rcases List.mem_append.mp hr with z | z
                · exact all r z
                · rw [List.mem_singleton.mp z]
                  exact ⟨lot, lms⟩
            · exact ⟨hd, y, _, some (.ref p4), rfl, gA4, gL4, nd, by omega, all, m4⟩
        · rintro σ J ⟨hd, y, u, v, rfl, gA, gL, nd, lh, all, mv⟩
          have n8 : ∀ r ∈ hd, 1 ≤ r.length ∧ r.length ≤ 8 ∧ Dg 8 r := fun r hr => by
            obtain ⟨h1, h2⟩ := all r hr
            have := lot_short h1
            exact ⟨by omega, by omega, fun x hx => by have := h1.2 x hx; omega⟩
          refine ⟨.ref a, rfl, .int (n : Int), rfl, a, n, rfl, mv.2, by omega, fun p o ws J1 lw nw nmw mv1 np od e1 => ?_⟩
          have gA1 := tr gA mv1
          have gL1 : Gw Z J1 L1 hd := gL.kp (kM mv1) (by
            obtain ⟨xs, e, _⟩ := gL.ex
            rw [e]
            exact mv1.1 L1 _ (fun z => hLa z.symm) e)
          have zp : ¬ Z p := nZ mv (trk gA) (trk gL) np
          obtain ⟨xa, ea, Da⟩ := gA1.ex
          obtain ⟨xl, el, Dl⟩ := gL1.ex
          refine ⟨.ref A1, rfl, A1, xa, rfl, .inl ⟨.inl (.inl ea), fun p2 np2 => ?_⟩⟩
          have zp2 : ¬ Z p2 := nZ (mv.tr mv1) (trk gA1) (trk gL1) np2
          have L2' : L1 ≠ p2 := ne_of_none el np2
          have ref : ∀ x ∈ xl, ∃ r, r ∈ hd ∧ Dq Z J1 x (dInts r) := fun x hx => by
            obtain ⟨i, hi, e⟩ := List.getElem_of_mem hx
            obtain ⟨d, hd', dq⟩ := Dl.get (i := i) (v := x) (by rw [← e]; exact List.getElem?_eq_getElem hi)
            obtain ⟨r, hr, rfl⟩ := List.mem_map.mp (List.mem_of_getElem? hd')
            exact ⟨r, hr, dq⟩
          have few : xl.length ≤ 28 := by
            rw [Dl.len, List.length_map]
            omega
          refine ⟨.ref L1, rfl, L1, xl, rfl, .inl (.inl ((upd_ne L2').trans el)), by omega, fun x hx => ?_, fun ys p3 pm pw np3 => ?_⟩
          · obtain ⟨r, hr, dq⟩ := ref x hx
            obtain ⟨t, rfl, rd, _⟩ := dInts_tup (dq.kp (Kp.new (o := .tup xa) np2))
            exact ⟨r, ⟨t, rfl, .inl rd⟩, n8 r hr⟩
          · refine ⟨p3, ys, rfl, .inl ⟨.inl (.inl upd_same), fun p4 np4 => ⟨by show 3 ≤ sizeLine; decide, fun p5 np5 => ?_⟩⟩⟩
            have m2 : Mv a H (upd J1 p2 (.tup xa)) := (mv.tr mv1).tr (Mv.new (mv.tr mv1).2 np2)
            have m3 : Mv a H (upd (upd J1 p2 (.tup xa)) p3 (.lst ys)) := m2.tr (Mv.new m2.2 np3)
            have m4 : Mv a H (upd (upd (upd J1 p2 (.tup xa)) p3 (.lst ys)) p4 (.tup ys)) := m3.tr (Mv.new m3.2 np4)
            have k1 : Kp Z J1 (upd J1 p2 (.tup xa)) := Kp.new np2
            obtain ⟨es, pe, De⟩ := DqL.perm pm (Dl.kp k1)
            obtain ⟨rs, rfl, prs⟩ := rows_perm pe
            have hh : HidN n rs := by
              have ndr : rs.Nodup := prs.nodup_iff.mpr nd
              have len : ys.length = rs.length := by rw [De.len, List.length_map]
              refine ⟨List.pairwise_iff_getElem.mpr fun i j hi hj lt => ?_, by rw [prs.length_eq]; omega, fun r hr => all r (prs.mem_iff.mp hr)⟩
              have get : ∀ i, (hi : i < rs.length) → ∃ t, ys[i]'(by omega) = .ref t ∧ Rd (upd J1 p2 (.tup xa)) t (.tup (rs[i].map V.int)) := fun i hi => by
                obtain ⟨d, hd', dq⟩ := De.get (i := i) (List.getElem?_eq_getElem (by omega))
                rw [List.getElem?_map, List.getElem?_eq_getElem hi] at hd'
                cases hd'
                obtain ⟨t, e, rd, _⟩ := dInts_tup dq
                exact ⟨t, e, rd⟩
              obtain ⟨t, e1, r1⟩ := get i hi
              obtain ⟨t', e2, r2⟩ := get j hj
              have z := List.pairwise_iff_getElem.mp pw i j (by omega) (by omega) lt rs[i] rs[j] ⟨t, e1, .inl r1⟩ ⟨t', e2, .inl r2⟩
              exact ltI_tri z fun e => absurd (List.pairwise_iff_getElem.mp ndr i j hi hj lt) (fun ne => ne e)
            have gr : GrN n ws ar rs := ⟨hn1, hn8, lw, nw, nmw, har, hh⟩
            have k5 : Kp Z J1 (upd (upd (upd (upd J1 p2 (.tup xa)) p3 (.lst ys)) p4 (.tup ys)) p5 (.tup [.ref p, .ref p2, .ref p4])) := ((k1.tr (Kp.new np3)).tr (Kp.new np4)).tr (Kp.new np5)
            have t5 : ∀ {q : Addr} {u : HO}, (upd (upd (upd J1 p2 (.tup xa)) p3 (.lst ys)) p4 (.tup ys)) q = some u → (upd (upd (upd (upd J1 p2 (.tup xa)) p3 (.lst ys)) p4 (.tup ys)) p5 (.tup [.ref p, .ref p2, .ref p4])) q = some u := fun {q u} e => (upd_ne (ne_of_none e np5)).trans e
            have i2 : (upd (upd (upd J1 p2 (.tup xa)) p3 (.lst ys)) p4 (.tup ys)) p2 = some (.tup xa) := by
              have h3 : p2 ≠ p3 := ne_of_none upd_same np3
              have h4 : p2 ≠ p4 := ne_of_none ((upd_ne h3).trans upd_same) np4
              rw [upd_ne h4, upd_ne h3]
              exact upd_same
            have free : ∀ {J : Hp} {q : Addr}, Mv a H J → J q = none → ¬ tracked H q := fun m n t => t (m.free hW n)
            have ep := k5 p _ zp e1
            refine q (.ref p5) ws ar rs _ gr (m4.tr (Mv.new m4.2 np5)) ?_ ⟨p5, p, _, _, o, rfl, .inl upd_same, ep, od⟩
            refine .tup (.inl upd_same) (free m4 np5) (.cons (.tup (.inr ⟨o, ep⟩) (free mv np) ?_) (.cons (.tup (.inl (t5 i2)) (free (mv.tr mv1) np2) ?_) (.cons (.tup (.inl (t5 upd_same)) (free m3 np4) ?_) .nil)))
            · clear e1 ep gr hh nw nmw lw
              induction ws with
              | nil => exact .nil
              | cons x ws ih => exact .cons (.str x) ih
            · exact (Da.kp k5).wk zT
            · exact (De.kp (((Kp.new np3).tr (Kp.new np4)).tr (Kp.new np5))).wk zT
end
end GR

/-! Own layer: expressions that make new data, all else standing as it stood. -/
namespace KY
open PySem PySem.Spec PyProof.Rows L2 KL KS GR
abbrev No : Addr → Prop := fun _ => False
def YS (Z : Addr → Prop) (Pd : PyData → Prop) (σ : L2.St) (H0 : Hp) (t : TE) : Prop := ∀ H, Kp No H0 H → ∀ Q : VK, (∀ v d G, Kp No H G → Dq Z G v d → Pd d → Q v G) → t σ H Q
def YA (Z : Addr → Prop) (n k : Nat) (σ : L2.St) (H0 : Hp) (t : TA) : Prop := ∀ H, Kp No H0 H → ∀ Q : List V → Hp → Prop, (∀ vs ds G, Kp No H G → DqL Z G vs ds → (∀ d ∈ ds, okd n d = true) → ds.length = k → Q vs G) → t σ H Q
def YP (σ : L2.St) (H0 : Hp) (t : TO) : Prop := ∀ H, Kp No H0 H → ∀ Q : Option Int → Hp → Prop, (∀ o G, Kp No H G → Q o G) → t σ H Q
def OK (n : Nat) (d : PyData) : Prop := okd n d = true
def OT (n : Nat) (d : PyData) : Prop := okd n d = true ∧ ∃ ds, d = .tuple ds
def OS (n : Nat) (d : PyData) : Prop := ∃ x, d = .str x ∧ x.length ≤ n
def OI (d : PyData) : Prop := ∃ i : Int, d = .int i ∧ i.natAbs < 2 ^ 90
section
variable {Z : Addr → Prop} {Pd Pe : PyData → Prop} {σ : L2.St} {H0 : Hp} {t ta tb : TE} {n m k : Nat} {K : PySem.W.Frag}
theorem up0 {H G : Hp} {v : V} {d : PyData} (h : Dq Z H v d) (k : Kp No H G) : Dq Z G v d := h.kp (k.wk fun _ z => z.elim)
theorem upL0 {H G : Hp} {v : List V} {d : List PyData} (h : DqL Z H v d) (k : Kp No H G) : DqL Z G v d := h.kp (k.wk fun _ z => z.elim)
theorem YS.mono (h : YS Z Pd σ H0 t) (w : ∀ d, Pd d → Pe d) : YS Z Pe σ H0 t := fun H k Q q => h H k Q fun v d G k2 dq p => q v d G k2 dq (w d p)
theorem YS.ok (h : YS Z (OT n) σ H0 t) (w : n ≤ m := by omega) : YS Z (OK m) σ H0 t := h.mono fun _ p => okd_up w p.1
theorem YS.okS (h : YS Z (OS n) σ H0 t) (w : n ≤ 1000 := by omega) : YS Z (OK m) σ H0 t := h.mono fun _ ⟨x, e, l⟩ => by
  subst e
  exact okd_str.mpr (Nat.le_trans l w)
theorem YS.okI (h : YS Z OI σ H0 t) : YS Z (OK m) σ H0 t := h.mono fun _ ⟨i, e, l⟩ => by
  subst e
  exact okd_int.mpr (Nat.lt_trans l (by decide))
theorem YS.up (h : YS Z (OT n) σ H0 t) (w : n ≤ m := by omega) : YS Z (OT m) σ H0 t := h.mono fun _ p => ⟨okd_up w p.1, p.2⟩
theorem ys_var {i : Nat} {v : V} {d : PyData} (e : σ[i]? = some (some v)) (h : Dq Z H0 v d) (p : Pd d) : YS Z Pd σ H0 (tVar i) := fun H k Q q => ⟨v, e, q v d H Kp.rfl' (up0 h k) p⟩
theorem ys_int {i : Int} (p : Pd (.int i)) : YS Z Pd σ H0 (tC (.int i)) := fun H k Q q => q _ _ H Kp.rfl' (.int i) p
theorem ys_str {x : Str} (p : Pd (.str x)) : YS Z Pd σ H0 (tC (.str x)) := fun H k Q q => q _ _ H Kp.rfl' (.str x) p
theorem ys_lit {d : PyData} (hZ : ∀ b, Z b → tracked H0 b) (p : Pd d) : YS Z Pd σ H0 (tLit d) := fun H k Q q v G k2 dq => q v d G k2 (dq.wk fun b z => k.trk b (hZ b z)) p
theorem free0 (hZ : ∀ b, Z b → tracked H0 b) {H : Hp} (k : Kp No H0 H) {p : Addr} (n : H p = none) : ¬ Z p := fun z => k.trk p (hZ p z) n
theorem ya_nil : YA Z n 0 σ H0 tNil := fun H k Q q => q [] [] H Kp.rfl' .nil (fun d hd => absurd hd List.not_mem_nil) rfl
theorem ya_cons {tr : TA} (h : YS Z (OK n) σ H0 t) (r : YA Z n k σ H0 tr) : YA Z n (k + 1) σ H0 (tCons t tr) := fun H k0 Q q => h H k0 _ fun v d G k1 dq p => r G (k0.tr k1) _ fun vs ds J k2 L all len =>
  q (v :: vs) (d :: ds) J (k1.tr k2) (.cons (up0 dq k2) L) (fun e he => (List.mem_cons.mp he).elim (fun z => z ▸ p) (all e)) (by rw [List.length_cons, len])
theorem ys_tup {tr : TA} (hZ : ∀ b, Z b → tracked H0 b) (h : YA Z n k σ H0 tr) (hk : k ≤ n := by omega) (hn : n ≤ 10000 := by omega) : YS Z (OT n) σ H0 (tTup tr) := fun H k0 Q q => h H k0 _ fun vs ds G k1 L all len =>
  ⟨by rw [L.len, len, sizeLine_eq]; omega, fun p np => q _ _ _ (k1.tr (Kp.new np)) (.tup (.inl upd_same) (free0 hZ (k0.tr k1) np) (upL0 L (Kp.new np))) ⟨okd_tup.mpr ⟨by omega, all⟩, _, rfl⟩⟩
theorem ys_lst {tr : TA} (hZ : ∀ b, Z b → tracked H0 b) (h : YA Z n k σ H0 tr) (hk : k ≤ n := by omega) (hn : n ≤ 10000 := by omega) : YS Z (OK n) σ H0 (tLstM tr) := fun H k0 Q q => h H k0 _ fun vs ds G k1 L all len =>
  ⟨by rw [L.len, len, sizeLine_eq]; omega, fun p np m => q _ _ _ (k1.tr (Kp.new np)) (.lst upd_same (free0 hZ (k0.tr k1) np) m (upL0 L (Kp.new np))) (okd_lst.mpr ⟨by omega, all⟩)⟩
theorem tup_at {H : Hp} {v : V} {d : PyData} (dq : Dq Z H v d) (p : OT n d) : ∃ a xs ds, v = .ref a ∧ d = .tuple ds ∧ Rd H a (.tup xs) ∧ ¬ Z a ∧ DqL Z H xs ds ∧ ds.length ≤ n ∧ ∀ e ∈ ds, okd n e = true := by
  obtain ⟨h, ds, rfl⟩ := p
  cases dq with
  | tup e z L => exact ⟨_, _, _, rfl, rfl, e, z, L, (okd_tup.mp h).1, (okd_tup.mp h).2⟩
theorem ys_cat (hZ : ∀ b, Z b → tracked H0 b) (ha : YS Z (OT n) σ H0 ta) (hb : YS Z (OT m) σ H0 tb) (hn : n + m ≤ 10000 := by omega) : YS Z (OT (n + m)) σ H0 (tOp (rCatA K) ta tb) := fun H k0 Q q => ha H k0 _ fun v d G k1 dq p => hb G (k0.tr k1) _ fun u e J k2 du r => by
  obtain ⟨a, xs, ds, rfl, rfl, ea, za, La, la, oa⟩ := tup_at (up0 dq k2) p
  obtain ⟨b, ys, es, rfl, rfl, eb, zb, Lb, lb, ob⟩ := tup_at du r
  have l1 := La.len
  have l2 := Lb.len
  refine ⟨a, b, xs, ys, rfl, rfl, .inl ea, .inl eb, by rw [sizeLine_eq]; omega, fun _ => q _ _ J (k1.tr k2) du ⟨okd_up (by omega) r.1, r.2⟩, fun _ _ => q _ _ J (k1.tr k2) (up0 dq k2) ⟨okd_up (by omega) p.1, p.2⟩, fun _ _ c nc => ?_⟩
  refine q _ (.tuple (ds ++ es)) _ ((k1.tr k2).tr (Kp.new nc)) (.tup (.inl upd_same) (free0 hZ ((k0.tr k1).tr k2) nc) ((upL0 La (Kp.new nc)).app (upL0 Lb (Kp.new nc)))) ⟨okd_tup.mpr ⟨by rw [List.length_append]; omega, fun x hx => ?_⟩, _, rfl⟩
  rcases List.mem_append.mp hx with z | z
  · exact okd_up (by omega) (oa x z)
  · exact okd_up (by omega) (ob x z)
theorem DqL.drop {H : Hp} : ∀ {xs : List V} {ds : List PyData} (i : Nat), DqL Z H xs ds → DqL Z H (xs.drop i) (ds.drop i)
  | _, _, 0, h => h
  | _, _, i + 1, .nil => .nil
  | _, _, i + 1, .cons _ t => DqL.drop i t
theorem DqL.take {H : Hp} : ∀ {xs : List V} {ds : List PyData} (i : Nat), DqL Z H xs ds → DqL Z H (xs.take i) (ds.take i)
  | _, _, 0, _ => by simpa using DqL.nil
  | _, _, i + 1, .nil => .nil
  | _, _, i + 1, .cons a t => .cons a (DqL.take i t)
theorem DqL.rev {H : Hp} : ∀ {xs : List V} {ds : List PyData}, DqL Z H xs ds → DqL Z H xs.reverse ds.reverse
  | _, _, .nil => .nil
  | _, _, .cons a t => by
    rw [List.reverse_cons, List.reverse_cons]
    exact (DqL.rev t).app (.cons a .nil)
theorem yp_none : YP σ H0 tNoPart := fun H k Q q => q none H Kp.rfl'
theorem yp_some (h : YS Z OI σ H0 t) : YP σ H0 (tPart t) := fun H k Q q => h H k _ fun v d G k1 dq ⟨i, e, _⟩ => by
  subst e
  cases dq
  exact ⟨i, rfl, q _ G k1⟩
theorem ys_sl {tl th : TO} (hZ : ∀ b, Z b → tracked H0 b) (ha : YS Z (OT n) σ H0 t) (hl : YP σ H0 tl) (hh : YP σ H0 th) (hn : n ≤ 10000 := by omega) : YS Z (OT n) σ H0 (tSl (rSlA K) t tl th) := fun H k0 Q q => ha H k0 _ fun v d G k1 dq p => hl G (k0.tr k1) _ fun lo J k2 => hh J ((k0.tr k1).tr k2) _ fun hi I k3 => by
  have kk := (k1.tr k2).tr k3
  obtain ⟨a, xs, ds, rfl, rfl, ea, za, La, la, oa⟩ := tup_at (up0 dq (k2.tr k3)) p
  refine ⟨a, xs, rfl, .inl ea, fun _ => q _ _ I kk (up0 dq (k2.tr k3)) p, fun _ c nc => ?_⟩
  refine q _ (.tuple ((ds.drop (HT.sIx xs.length 0 lo)).take (HT.sIx xs.length xs.length hi - HT.sIx xs.length 0 lo))) _ (kk.tr (Kp.new nc)) (.tup (.inl upd_same) (free0 hZ (k0.tr kk) nc) (upL0 (DqL.take _ (DqL.drop _ La)) (Kp.new nc))) ⟨okd_tup.mpr ⟨?_, fun x hx => oa x (List.mem_of_mem_drop (List.mem_of_mem_take hx))⟩, _, rfl⟩
  rw [List.length_take, List.length_drop]
  omega
theorem ys_slS {tl th : TO} (ha : YS Z (OS n) σ H0 t) (hl : YP σ H0 tl) (hh : YP σ H0 th) (hn : n ≤ 10000 := by omega) : YS Z (OS n) σ H0 (tSl rSlS t tl th) := fun H k0 Q q => ha H k0 _ fun v d G k1 dq p => hl G (k0.tr k1) _ fun lo J k2 => hh J ((k0.tr k1).tr k2) _ fun hi I k3 => by
  obtain ⟨x, rfl, l⟩ := p
  cases dq
  exact ⟨x, rfl, by rw [sizeLine_eq]; omega, q _ _ I ((k1.tr k2).tr k3) (.str _) ⟨_, rfl, Nat.le_trans (cutS_length x lo hi) l⟩⟩
theorem ys_rev (hZ : ∀ b, Z b → tracked H0 b) (ha : YS Z (OT n) σ H0 t) : YS Z (OT n) σ H0 (tRevA K t) := fun H k0 Q q => ha H k0 _ fun v d G k1 dq p => by
  obtain ⟨a, xs, ds, rfl, rfl, ea, za, La, la, oa⟩ := tup_at dq p
  exact .inl ⟨a, xs, rfl, .inl ea, fun c nc => q _ (.tuple ds.reverse) _ (k1.tr (Kp.new nc)) (.tup (.inl upd_same) (free0 hZ (k0.tr k1) nc) (upL0 (DqL.rev La) (Kp.new nc))) ⟨okd_tup.mpr ⟨by rw [List.length_reverse]; exact la, fun x hx => oa x (List.mem_reverse.mp hx)⟩, _, rfl⟩⟩
theorem ys_revS (ha : YS Z (OS n) σ H0 t) (hn : n ≤ 10000 := by omega) : YS Z (OS n) σ H0 (tRevA K t) := fun H k0 Q q => ha H k0 _ fun v d G k1 dq p => by
  obtain ⟨x, rfl, l⟩ := p
  cases dq
  exact .inr ⟨x, rfl, by omega, fun y hy => q _ _ G k1 (.str _) ⟨_, rfl, Nat.le_trans hy l⟩⟩
theorem ys_catS (ha : YS Z (OS n) σ H0 ta) (hb : YS Z (OS m) σ H0 tb) (hn : n + m ≤ 10000 := by omega) : YS Z (OS (n + m)) σ H0 (tOp (fun x y H Q => ∃ i j : Str, x = .str i ∧ y = .str j ∧ i.length + j.length ≤ sizeLine ∧ Q (.str (i ++ j)) H) ta tb) := fun H k0 Q q => ha H k0 _ fun v d G k1 dq p => hb G (k0.tr k1) _ fun u e J k2 du r => by
  obtain ⟨x, rfl, l⟩ := p
  obtain ⟨y, rfl, l'⟩ := r
  cases dq
  cases du
  have e : (x ++ y).length = x.length + y.length := by
    show (x.cps ++ y.cps).size = _
    rw [Array.size_append]
    rfl
  exact ⟨x, y, rfl, rfl, by rw [sizeLine_eq]; omega, q _ _ J (k1.tr k2) (.str _) ⟨_, rfl, by rw [e]; omega⟩⟩
end
/-- list(t) -/
def rLstM (K : PySem.W.Frag) : List V → Hp → VK → Prop := fun xs H Q => ∃ p ys, xs = [.ref p] ∧ SqT K H p ys ∧ ∀ l, H l = none → l ≠ sysModules → Q (.ref l) (upd H l (.lst ys))
theorem call_lstM {X : Cx} : CallR X (.type "list") (rLstM X.K) := by
  intro pins s σ H xs us Q I r h
  obtain ⟨p, ys, rfl, hq, q⟩ := h
  rw [Vals.ref1 r]
  obtain ⟨its, rv, pl, hz⟩ := I.tuple hq
  have len := rv.length
  obtain ⟨o, ho, hc, n, hd⟩ := pl
  refine call_list_seq p (.inr rfl) ho hc hd (fun h' c kp e => ?_) (by rw [List.size_toArray]; omega)
  exact ⟨.ref s.heap.objs.size, _, I.laid (t' := s.toks) kp (Nat.le_refl _) (show ObjOk X.prog X.w _ h' _ (.lst ys) from ⟨hz, its, c, rv, e⟩), rfl, q _ (I.hok.fresh (Nat.le_refl _)) (Nat.ne_of_gt I.big)⟩
theorem ys_list {Z : Addr → Prop} {σ : L2.St} {H0 : Hp} {t : TE} {n : Nat} {K : PySem.W.Frag} (hZ : ∀ b, Z b → tracked H0 b) (ha : YS Z (OT n) σ H0 t) : YS Z (OK n) σ H0 (tCB (rLstM K) (tCons t tNil)) := fun H k0 Q q => ha H k0 _ fun v d G k1 dq p => by
  obtain ⟨a, xs, ds, rfl, rfl, ea, za, La, la, oa⟩ := tup_at dq p
  exact ⟨a, xs, rfl, .inl ea, fun l nl m => q _ (.list ds) _ (k1.tr (Kp.new nl)) (.lst upd_same (free0 hZ (k0.tr k1) nl) m (upL0 La (Kp.new nl))) (okd_lst.mpr ⟨la, oa⟩)⟩
/-- a tuple of at most l things of data -/
def OL (l n : Nat) (d : PyData) : Prop := ∃ ds, d = .tuple ds ∧ ds.length ≤ l ∧ ∀ e ∈ ds, okd n e = true
section
variable {Z : Addr → Prop} {Pd Pe : PyData → Prop} {σ : L2.St} {H0 : Hp} {t ta tb : TE} {n m k l : Nat} {K : PySem.W.Frag}
theorem YS.ol (h : YS Z (OT m) σ H0 t) (w : m ≤ l := by omega) (w2 : m ≤ n := by omega) : YS Z (OL l n) σ H0 t := h.mono fun d ⟨o, ds, e⟩ => by
  subst e
  exact ⟨ds, rfl, Nat.le_trans (okd_tup.mp o).1 w, fun e he => okd_up w2 ((okd_tup.mp o).2 e he)⟩
theorem YS.okL (h : YS Z (OL l n) σ H0 t) (w : l ≤ n := by omega) : YS Z (OK n) σ H0 t := h.mono fun d ⟨ds, e, a, b⟩ => by
  subst e
  exact okd_tup.mpr ⟨Nat.le_trans a w, b⟩
theorem ys_tupL {tr : TA} (hZ : ∀ b, Z b → tracked H0 b) (h : YA Z n k σ H0 tr) (hk : k ≤ l := by omega) (hn : l ≤ 10000 := by omega) : YS Z (OL l n) σ H0 (tTup tr) := fun H k0 Q q => h H k0 _ fun vs ds G k1 L all len =>
  ⟨by rw [L.len, len, sizeLine_eq]; omega, fun p np => q _ _ _ (k1.tr (Kp.new np)) (.tup (.inl upd_same) (free0 hZ (k0.tr k1) np) (upL0 L (Kp.new np))) ⟨_, rfl, by omega, all⟩⟩
theorem tup_atL {H : Hp} {v : V} {d : PyData} (dq : Dq Z H v d) (p : OL l n d) : ∃ a xs ds, v = .ref a ∧ d = .tuple ds ∧ Rd H a (.tup xs) ∧ ¬ Z a ∧ DqL Z H xs ds ∧ ds.length ≤ l ∧ ∀ e ∈ ds, okd n e = true := by
  obtain ⟨ds, rfl, h1, h2⟩ := p
  cases dq with
  | tup e z L => exact ⟨_, _, _, rfl, rfl, e, z, L, h1, h2⟩
theorem ys_catL (hZ : ∀ b, Z b → tracked H0 b) (ha : YS Z (OL l n) σ H0 ta) (hb : YS Z (OL m n) σ H0 tb) (hn : l + m ≤ 10000 := by omega) : YS Z (OL (l + m) n) σ H0 (tOp (rCatA K) ta tb) := fun H k0 Q q => ha H k0 _ fun v d G k1 dq p => hb G (k0.tr k1) _ fun u e J k2 du r => by
  obtain ⟨a, xs, ds, rfl, rfl, ea, za, La, la, oa⟩ := tup_atL (up0 dq k2) p
  obtain ⟨b, ys, es, rfl, rfl, eb, zb, Lb, lb, ob⟩ := tup_atL du r
  have l1 := La.len
  have l2 := Lb.len
  refine ⟨a, b, xs, ys, rfl, rfl, .inl ea, .inl eb, by rw [sizeLine_eq]; omega, fun _ => q _ _ J (k1.tr k2) du ⟨es, rfl, by omega, ob⟩, fun _ _ => q _ _ J (k1.tr k2) (up0 dq k2) ⟨ds, rfl, by omega, oa⟩, fun _ _ c nc => ?_⟩
  exact q _ (.tuple (ds ++ es)) _ ((k1.tr k2).tr (Kp.new nc)) (.tup (.inl upd_same) (free0 hZ ((k0.tr k1).tr k2) nc) ((upL0 La (Kp.new nc)).app (upL0 Lb (Kp.new nc)))) ⟨_, rfl, by rw [List.length_append]; omega, fun x hx => (List.mem_append.mp hx).elim (oa x) (ob x)⟩
theorem ys_slL {tl th : TO} (hZ : ∀ b, Z b → tracked H0 b) (ha : YS Z (OL l n) σ H0 t) (hl : YP σ H0 tl) (hh : YP σ H0 th) : YS Z (OL l n) σ H0 (tSl (rSlA K) t tl th) := fun H k0 Q q => ha H k0 _ fun v d G k1 dq p => hl G (k0.tr k1) _ fun lo J k2 => hh J ((k0.tr k1).tr k2) _ fun hi I k3 => by
  have kk := (k1.tr k2).tr k3
  obtain ⟨a, xs, ds, rfl, rfl, ea, za, La, la, oa⟩ := tup_atL (up0 dq (k2.tr k3)) p
  refine ⟨a, xs, rfl, .inl ea, fun _ => q _ _ I kk (up0 dq (k2.tr k3)) ⟨ds, rfl, la, oa⟩, fun _ c nc => ?_⟩
  refine q _ (.tuple ((ds.drop (HT.sIx xs.length 0 lo)).take (HT.sIx xs.length xs.length hi - HT.sIx xs.length 0 lo))) _ (kk.tr (Kp.new nc)) (.tup (.inl upd_same) (free0 hZ (k0.tr kk) nc) (upL0 (DqL.take _ (DqL.drop _ La)) (Kp.new nc))) ⟨_, rfl, ?_, fun x hx => oa x (List.mem_of_mem_drop (List.mem_of_mem_take hx))⟩
  rw [List.length_take, List.length_drop]
  omega
end
end KY

namespace KY
open PySem PySem.Spec PyProof.Rows L2 KL KS GR
section
variable {Z : Addr → Prop} {H : Hp} {p : Addr}
mutual
/-- data has nothing at a free place -/
theorem Dq.out (n : H p = none) : ∀ (d : PyData) (v : V), Dq Z H v d → Dq (fun b => Z b ∨ b = p) H v d
  | .none, _, h => by cases h; exact .non
  | .bool _, _, h => by cases h; exact .bl _
  | .int _, _, h => by cases h; exact .int _
  | .str _, _, h => by cases h; exact .str _
  | .list ds, _, h => by
    cases h with
    | lst e z m L => exact .lst e (fun y => y.elim z (ne_of_none e n)) m (DqL.out n ds _ L)
  | .tuple ds, _, h => by
    cases h with
    | tup e z L => exact .tup e (fun y => y.elim z fun q => by
        subst q
        rcases e with e | ⟨o, e⟩ <;> rw [n] at e <;> cases e) (DqL.out n ds _ L)
  | .dict _, _, h => by
    cases h with
    | dct e z m => exact .dct e (fun y => y.elim z (ne_of_none e n)) m
theorem DqL.out (n : H p = none) : ∀ (ds : List PyData) (vs : List V), DqL Z H vs ds → DqL (fun b => Z b ∨ b = p) H vs ds
  | [], _, h => by cases h; exact .nil
  | d :: ds, _, h => by
    cases h with
    | cons a t => exact .cons (Dq.out n d _ a) (DqL.out n ds _ t)
end
end
/-- at L stands a list of k things of data -/
def Ls (Z : Addr → Prop) (n : Nat) (G : Hp) (L : Addr) (k : Nat) : Prop := ∃ xs ds, G L = some (.lst xs) ∧ DqL Z G xs ds ∧ (∀ d ∈ ds, okd n d = true) ∧ ds.length = k
theorem Ls.kp {Z : Addr → Prop} {n : Nat} {G J : Hp} {L : Addr} {k : Nat} (h : Ls Z n G L k) (kp : Kp Z G J) (e : J L = G L) : Ls Z n J L k := by
  obtain ⟨xs, ds, h1, h2, h3, h4⟩ := h
  exact ⟨xs, ds, e.trans h1, h2.kp kp, h3, h4⟩
/-- L.append(e): what is asked and what is left -/
theorem Ls.add {Z : Addr → Prop} {n : Nat} {G : Hp} {L : Addr} {k : Nat} {v : V} {d : PyData} (h : Ls Z n G L k) (zL : Z L) (dq : Dq Z G v d) (o : okd n d = true) : ∃ xs, G L = some (.lst xs) ∧ xs.length = k ∧ Ls Z n (upd G L (.lst (xs ++ [v]))) L (k + 1) := by
  obtain ⟨xs, ds, h1, h2, h3, h4⟩ := h
  refine ⟨xs, h1, by rw [h2.len, h4], xs ++ [v], ds ++ [d], upd_same, (h2.app (.cons dq .nil)).kp (Kp.at zL), fun e he => ?_, by rw [List.length_append, h4]; rfl⟩
  rcases List.mem_append.mp he with z | z
  · exact h3 e z
  · rw [List.mem_singleton.mp z]
    exact o
/-! ### statements -/
abbrev ForW (J : It) (g : TG) (tb : TS) (D : Ends) (σ : L2.St) (H : Hp) : Prop := ∃ W : Nat → Nat → L2.St → Hp → Prop, (∃ m, W 0 m σ H) ∧ ∀ i m σ H, W i m σ H →
  (J.stop i H ∧ D.nx σ H) ∨ (J.go i H ∧ ∃ N : L2.St → Hp → Prop, (∀ σ' H', N σ' H' → ∃ m', m' < m ∧ W (i + 1) m' σ' H') ∧ ∀ x H', J.yld i H x H' → g x σ H' fun σ2 H2 => tb { D with nx := N, ct := N, bk := D.nx } σ2 H2)
section
variable {Z : Addr → Prop} {n k i j : Nat} {σ : L2.St} {H : Hp} {D : Ends} {rest tb : TS} {te : TE} {ta : TA} {g : TG} {K : PySem.W.Frag}
theorem gn {v : V} {Q : L2.St → Hp → Prop} (q : Q (σ.set i (some v)) H) : gName i v σ H Q := q
/-- x = [..] -/
theorem sq_lst (h : YA Z n k σ H ta) (hk : k ≤ 1000) (q : ∀ vs ds G p, Kp No H G → DqL Z G vs ds → (∀ d ∈ ds, okd n d = true) → ds.length = k → G p = none → rest D (σ.set i (some (.ref p))) (upd G p (.lst vs))) : tSeq (tAsg (tLst ta) (gName i)) rest D σ H :=
  h H Kp.rfl' _ fun vs ds G k1 L all len => ⟨by rw [L.len, len, sizeLine_eq]; omega, fun p np => q vs ds G p k1 L all len np⟩
theorem sq_lit {d : PyData} (q : ∀ v G, Kp No H G → Dq (tracked H) G v d → rest D (σ.set i (some v)) G) : tSeq (tAsg (tLit d) (gName i)) rest D σ H := fun v G k dq => q v G k dq
/-- xs + [..] -/
theorem cat_lst {p : Addr} {xs : List V} {Q : VK} (e : σ[j]? = some (some (.ref p))) (hp : H p = some (.lst xs)) (hx : xs.length ≤ 1000) (h : YA Z n k σ H ta) (hk : k ≤ 1000) (q : ∀ vs ds G p2 p3, Kp No H G → DqL Z G vs ds → (∀ d ∈ ds, okd n d = true) → ds.length = k → G p2 = none → (upd G p2 (.lst vs)) p3 = none → Q (.ref p3) (upd (upd G p2 (.lst vs)) p3 (.lst (xs ++ vs)))) : tOp rCat (tVar j) (tLst ta) σ H Q :=
  ⟨_, e, h H Kp.rfl' _ fun vs ds G k1 L all len => ⟨by rw [L.len, len, sizeLine_eq]; omega, fun p2 n2 => by
    have ep := k1 p _ (fun z => z) hp
    have ne : p ≠ p2 := ne_of_none ep n2
    exact ⟨p, p2, xs, vs, rfl, rfl, (upd_ne ne).trans ep, upd_same, by rw [L.len, len, sizeLine_eq]; omega, fun p3 n3 => q vs ds G p2 p3 k1 L all len n2 n3⟩⟩⟩
theorem sq_cat {p : Addr} {xs : List V} (e : σ[j]? = some (some (.ref p))) (hp : H p = some (.lst xs)) (hx : xs.length ≤ 1000) (h : YA Z n k σ H ta) (hk : k ≤ 1000) (q : ∀ vs ds G p2 p3, Kp No H G → DqL Z G vs ds → (∀ d ∈ ds, okd n d = true) → ds.length = k → G p2 = none → (upd G p2 (.lst vs)) p3 = none → rest D (σ.set i (some (.ref p3))) (upd (upd G p2 (.lst vs)) p3 (.lst (xs ++ vs)))) : tSeq (tAsg (tOp rCat (tVar j) (tLst ta)) (gName i)) rest D σ H :=
  cat_lst e hp hx h hk q
/-- xs + [a, b, c], c not only made -/
theorem cat_three {t1 t2 t3 : TE} {p : Addr} {Q : VK} (e : σ[j]? = some (some (.ref p))) (h1 : YS Z (OK n) σ H t1) (h2 : YS Z (OK n) σ H t2)
    (q : ∀ v1 d1 v2 d2 G, Kp No H G → Dq Z G v1 d1 → okd n d1 = true → Dq Z G v2 d2 → okd n d2 = true → t3 σ G fun v3 G2 => 3 ≤ sizeLine ∧ ∀ p2, G2 p2 = none → rCat (.ref p) (.ref p2) (upd G2 p2 (.lst [v1, v2, v3])) Q) : tOp rCat (tVar j) (tLst (tCons t1 (tCons t2 (tCons t3 tNil)))) σ H Q :=
  ⟨_, e, h1 H Kp.rfl' _ fun v1 d1 G1 k1 q1 o1 => h2 G1 k1 _ fun v2 d2 G2 k2 q2 o2 => q v1 d1 v2 d2 G2 (k1.tr k2) (up0 q1 k2) o1 q2 o2⟩
/-- for x in t -/
theorem sq_for (h : YS Z (OT n) σ H te) (q : ∀ a xs ds G, Kp No H G → Rd G a (.tup xs) → ¬ Z a → DqL Z G xs ds → ds.length ≤ n → (∀ d ∈ ds, okd n d = true) → ForW (Itt K a) g tb { D with nx := rest D } σ G) : tSeq (tFor (iTup K te) g tb) rest D σ H :=
  h H Kp.rfl' _ fun v d G k1 dq p => by
    obtain ⟨a, xs, ds, rfl, rfl, ea, za, La, la, oa⟩ := tup_at dq p
    exact ⟨a, rfl, ⟨xs, .inl ea⟩, q a xs ds G k1 ea za La la oa⟩
/-- L.append(e), L a list of data -/
theorem sq_app {L : Addr} (e : σ[j]? = some (some (.ref L))) (ls : Ls Z n H L k) (zL : Z L) (hk : k ≤ 1000) (h : YS Z (OK n) σ H te) (q : ∀ G xs, Kp No H G → Ls Z n (upd G L (.lst xs)) L (k + 1) → D.nx σ (upd G L (.lst xs))) : tDrop (tBM K "list" rAppend (tVar j) (tCons te tNil)) D σ H := by
  have ls0 := ls
  obtain ⟨xs0, ds0, h1, _⟩ := ls0
  refine ⟨_, e, .inl ⟨rfl, xs0, .inl (.inl h1)⟩, h H Kp.rfl' _ fun v d G k1 dq p => ?_⟩
  have ls1 : Ls Z n G L k := ls.kp (k1.wk fun _ z => z.elim) ((k1 L _ (fun z => z) h1).trans h1.symm)
  obtain ⟨xs, hx, lx, ls2⟩ := ls1.add zL dq p
  exact ⟨L, xs, v, rfl, rfl, hx, by rw [lx, sizeLine_eq]; omega, q G _ k1 ls2⟩
end
end KY
namespace GR
open PySem PySem.Spec PyProof.Rows L2 KL KG KS KV KY
abbrev sNear : Stmt := topS 43
theorem scNear : FnScope ["well", "graph", "names", "arrows", "lots", "few", "some", "arrow", "lot", "wrong", "name", "more"] ["well", "graph"] (defScope sNear) := ⟨rfl, rfl, rfl, by decide +kernel, rfl, by decide +kernel, by decide +kernel⟩
/-- things that are nearly a graph: any data -/
def spNear : Sp := fun vs H Q _ => ∃ (a : Addr) (v : V) (n : Nat) (ws : List Str) (ar hd : List (List Int)) (Z : Addr → Prop), vs = [.ref a, v] ∧ Wl H a ∧ (∀ b, Z b → tracked H b) ∧ Z a ∧ Dq Z H v (dGraph ws ar hd) ∧ GrN n ws ar hd ∧
  ∀ (p : Addr) (k : Nat) (G : Hp), Mv a H G → H p = none → Ls Z 63 G p k → k ≤ 1000 → Q (.ref p) G
theorem GrN.parts {n : Nat} {ws : List Str} {ar hd : List (List Int)} (h : GrN n ws ar hd) : OT 30 (dStrs ws) ∧ OT 30 (dRows ar) ∧ OT 30 (dRows hd) ∧ OT 30 (dGraph ws ar hd) := by
  have z := (okd_tup.mp h.ok).2
  exact ⟨⟨z _ (by simp), _, rfl⟩, ⟨z _ (by simp), _, rfl⟩, ⟨z _ (by simp), _, rfl⟩, ⟨h.ok, _, rfl⟩⟩
theorem odds_ok : odds.all (okd 50) = true := by decide +kernel
theorem litOT {d : PyData} {n : Nat} (h : (okd 20 d && isTupD d) = true) (hn : 20 ≤ n := by omega) : OT n d := by
  rw [Bool.and_eq_true] at h
  refine ⟨okd_up hn h.1, ?_⟩
  cases d with
  | tuple ds => exact ⟨ds, rfl⟩
  | _ => exact absurd h.2 Bool.false_ne_true
theorem litOK {d : PyData} {n : Nat} (h : okd 50 d = true) (hn : 50 ≤ n := by omega) : OK n d := okd_up hn h
section
variable {P : Program} {w : World} {K : PySem.W.Frag} {mg : Str → Option Value} {base : Heap} {fD fO fDe : Addr} {fdD fdO fdDe : FuncData}
theorem ok_near {f fN fM fX : Addr} {fd fdN fdM fdX : FuncData} (F : Fun K "_law_near" "_law_near" sNear f fd) (FX : Fun K "_law_odd" "_law_odd" sOdd fX fdX) (gX : mg "_law_odd" = some (.ref fX)) (bX : L2.Binds K fdX ["well"] []) (FM : Fun K "_law_names" "_law_names" sNams fM fdM) (gM : mg "_law_names" = some (.ref fM)) (bM : L2.Binds K fdM ["well", "few"] []) (FN : Fun K "_law_name" "_law_name" sNam fN fdN) (gN : mg "_law_name" = some (.ref fN)) (bN : L2.Binds K fdN ["well"] []) (S : Dw K mg fD fO fDe fdD fdO fdDe) :
    FnOk P w K mg base CX0 5 f fd ["well", "graph"] spNear := by
  have GM : FnOk P w K mg base CX0 4 fM fdM ["well", "few"] spNams := ok_nams FM FN gN bN S
  have GX : FnOk P w K mg base CX0 3 fX fdX ["well"] spOdd := ok_odd FX S.O S.D S.gO S.gD S.bO S.bD S.md S.mi S.ml
  refine F.ok scNear (fun vs H Q E h => ?_) (fun cdv A outer s H vs Q E hr h => ?_)
  · obtain ⟨a, v, n, ws, ar, hd, Z, rfl, _⟩ := h
    rfl
  · obtain ⟨a, v, n, ws, ar, hd, Z, rfl, hW, hZ, za, dq, gr, q⟩ := h
    refine ⟨_, pss_cons (ps_asg (pv 1) (pg_tup rfl (pgs_cons (pg_name (i := 2) scNear.nd rfl (.inl rfl)) (pgs_cons (pg_name (i := 3) scNear.nd rfl (.inl rfl)) (pgs_cons (pg_name (i := 4) scNear.nd rfl (.inl rfl)) pgs_nil)))))
      (pss_cons (ps_set (i := 5) scNear.nd rfl (.inl rfl) (pe_callB call_len_seq (by rfl) S.ml PySem.boot_len (pa_cons (pv 2) pa_nil)))
      (pss_cons (ps_set (i := 6) scNear.nd rfl (.inl rfl) (pe_lst (pa_cons (pe_tup (pa_cons (pe_op op_catA (pv 2) (pe_slice sl_tupA (pv 2) po_none (po_some pe_int))) (pa_cons (pv 3) (pa_cons (pv 4) pa_nil)))) (pa_cons (pe_tup (pa_cons (pv 2) (pa_cons (pe_revA (pv 3)) (pa_cons (pv 4) pa_nil)))) (pa_cons (pe_tup (pa_cons (pv 2) (pa_cons (pv 3) (pa_cons (pe_revA (pv 4)) pa_nil)))) (pa_cons (pe_callTy call_lstM (by rfl) S.mL (by decide +kernel) (pa_cons (pv 1) pa_nil)) pa_nil))))))
      (pss_cons (ps_set (i := 6) scNear.nd rfl (.inl rfl) (pe_op op_cat (pv 6) (pe_lst (pa_cons (pe_tup (pa_cons (pe_callTy call_lstM (by rfl) S.mL (by decide +kernel) (pa_cons (pv 2) pa_nil)) (pa_cons (pv 3) (pa_cons (pv 4) pa_nil)))) (pa_cons (pe_tup (pa_cons (pv 2) (pa_cons (pe_callTy call_lstM (by rfl) S.mL (by decide +kernel) (pa_cons (pv 3) pa_nil)) (pa_cons (pv 4) pa_nil)))) (pa_cons (pe_tup (pa_cons (pv 2) (pa_cons (pv 3) (pa_cons (pe_callTy call_lstM (by rfl) S.mL (by decide +kernel) (pa_cons (pv 4) pa_nil)) pa_nil)))) (pa_cons (pe_slice sl_tupA (pv 1) po_none (po_some pe_int)) pa_nil)))))))
      (pss_cons (ps_set (i := 6) scNear.nd rfl (.inl rfl) (pe_op op_cat (pv 6) (pe_lst (pa_cons (pe_tup (pa_cons (pv 2) (pa_cons (pe_op op_catA (pv 3) (pe_slice sl_tupA (pv 3) (po_some (pe_un un_neg pe_int)) po_none)) (pa_cons (pv 4) pa_nil)))) (pa_cons (pe_tup (pa_cons (pv 2) (pa_cons (pv 3) (pa_cons (pe_op op_catA (pv 4) (pe_slice sl_tupA (pv 4) (po_some (pe_un un_neg pe_int)) po_none)) pa_nil)))) (pa_cons (pe_lit (lit_some (n := 60) (by decide +kernel))) (pa_cons (pe_op op_catA (pv 1) (pe_lit (lit_some (n := 60) (by decide +kernel)))) pa_nil)))))))
      (pss_cons (ps_for PassesOwn.never rfl (pi_tup (pe_tup (pa_cons (pe_lit (lit_some (n := 60) (by decide +kernel))) (pa_cons (pe_lit (lit_some (n := 60) (by decide +kernel))) (pa_cons (pe_tup (pa_cons pe_int (pa_cons (pv 5) pa_nil))) (pa_cons (pe_lit (lit_some (n := 60) (by decide +kernel))) (pa_cons (pe_lit (lit_some (n := 60) (by decide +kernel))) (pa_cons (pe_lit (lit_some (n := 60) (by decide +kernel))) (pa_cons (pe_lit (lit_some (n := 60) (by decide +kernel))) (pa_cons (pe_lit (lit_some (n := 60) (by decide +kernel))) pa_nil)))))))))) (pg_name (i := 7) scNear.nd rfl (.inl rfl))
      (pss_one (ps_expr (pe_bm PySem.F.plainAttrs_list PySem.F.slot_list_append PySem.F.type_list_append mt_append (pv 6) (pa_cons (pe_tup (pa_cons (pv 2) (pa_cons (pe_tup (pa_cons (pv 7) pa_nil)) (pa_cons (pv 4) pa_nil)))) pa_nil)))))
      (pss_cons (ps_for PassesOwn.never rfl (pi_tup (pe_tup (pa_cons (pe_lit (lit_some (n := 60) (by decide +kernel))) (pa_cons (pe_lit (lit_some (n := 60) (by decide +kernel))) (pa_cons (pe_lit (lit_some (n := 60) (by decide +kernel))) (pa_cons (pe_lit (lit_some (n := 60) (by decide +kernel))) (pa_cons (pe_tup (pa_cons pe_int (pa_cons (pv 5) pa_nil))) (pa_cons (pe_lit (lit_some (n := 60) (by decide +kernel))) (pa_cons (pe_lit (lit_some (n := 60) (by decide +kernel))) (pa_cons (pe_lit (lit_some (n := 60) (by decide +kernel))) pa_nil)))))))))) (pg_name (i := 8) scNear.nd rfl (.inl rfl))
      (pss_one (ps_expr (pe_bm PySem.F.plainAttrs_list PySem.F.slot_list_append PySem.F.type_list_append mt_append (pv 6) (pa_cons (pe_tup (pa_cons (pv 2) (pa_cons (pv 3) (pa_cons (pe_tup (pa_cons (pv 8) pa_nil)) pa_nil)))) pa_nil)))))
      (pss_cons (ps_set (i := 9) scNear.nd rfl (.inl rfl) (pe_lit (lit_some (n := 60) (by decide +kernel))))
      (pss_cons (ps_for PassesOwn.never rfl (pi_tup (pe_op op_catA (pv 9) (pe_lit (lit_some (n := 60) (by decide +kernel))))) (pg_name (i := 10) scNear.nd rfl (.inl rfl))
      (pss_one (ps_expr (pe_bm PySem.F.plainAttrs_list PySem.F.slot_list_append PySem.F.type_list_append mt_append (pv 6) (pa_cons (pe_tup (pa_cons (pe_op op_catA (pe_tup (pa_cons (pv 10) pa_nil)) (pe_slice sl_tupA (pv 2) (po_some pe_int) po_none)) (pa_cons (pv 3) (pa_cons (pv 4) pa_nil)))) pa_nil)))))
      (pss_cons (ps_set (i := 11) scNear.nd rfl (.inl rfl) (pe_call GM (hr.mono (by decide)) (by rfl) gM FM.kp bM .nil pass0 (pa_cons (pv 0) (pa_cons pe_int pa_nil))))
      (pss_one (ps_ret (pe_op op_cat (pv 6) (pe_lst (pa_cons (pe_tup (pa_cons (pv 11) (pa_cons (pv 3) (pa_cons (pv 4) pa_nil)))) (pa_cons (pe_tup (pa_cons (pe_slice sl_tupA (pv 11) po_none (po_some pe_int)) (pa_cons (pe_lit (lit_some (n := 60) (by decide +kernel))) (pa_cons (pe_lit (lit_some (n := 60) (by decide +kernel))) pa_nil)))) (pa_cons (pe_call GX (hr.mono (by decide)) (by rfl) gX FX.kp bX .nil pass0 (pa_cons (pv 0) pa_nil)) pa_nil)))))))))))))))), ?_⟩
    have okp := gr.parts
    cases dq with
    | @tup g xs0 _ eg zg Lg =>
    cases Lg with
    | @cons vn _ _ _ dn Lg =>
    cases Lg with
    | @cons va _ _ _ da Lg =>
    cases Lg with
    | @cons vl _ _ _ dl Lg =>
    cases Lg
    obtain ⟨on, oa, ol, og⟩ := okp
    generalize hdn : dStrs ws = Dn at *
    generalize hda : dRows ar = Da at *
    generalize hdl : dRows hd = Dl at *
    have dg : Dq Z H (.ref g) (.tuple [Dn, Da, Dl]) := .tup eg zg (.cons dn (.cons da (.cons dl .nil)))
    have og : OT 30 (.tuple [Dn, Da, Dl]) := by rw [← hdn, ← hda, ← hdl]; exact og
    obtain ⟨tn, xn, dsn, rfl, en0, en, zn, Ln, _, _⟩ := tup_at dn on
    refine ⟨.ref g, rfl, g, _, rfl, .inl eg, rfl, .ref tn, _, rfl, va, _, rfl, vl, _, rfl, rfl, ?_⟩
    refine ⟨.ref tn, rfl, tn, xn, rfl, .inr (.inl en), ?_⟩
    generalize hfew : ((xn.length : Nat) : Int) = few
    have fewS : few.natAbs < 2 ^ 90 := by
      have h : xn.length ≤ 30 := by
        rw [Ln.len]
        have := (okd_tup.mp (by rw [← en0]; exact on.1)).1
        exact this
      have : few.natAbs ≤ 30 := by omega
      exact Nat.lt_of_le_of_lt this (by decide)
    have t3 : ∀ {σ : L2.St} {J : Hp} {Y : Addr → Prop} {t1 t2 t3 : TE}, (∀ b, Y b → tracked J b) → YS Y (OK 63) σ J t1 → YS Y (OK 63) σ J t2 → YS Y (OK 63) σ J t3 → YS Y (OK 63) σ J (tTup (tCons t1 (tCons t2 (tCons t3 tNil)))) := fun hY a b c => (ys_tup hY (ya_cons a (ya_cons b (ya_cons c ya_nil)))).ok
    have i1 : OI (.int 1) := ⟨_, rfl, by decide⟩
    have im : ∀ {Y : Addr → Prop} {σ : L2.St} {J : Hp}, YS Y OI σ J (tUn (rU fun i => .int (-i)) (tC (.int 1))) := fun {Y σ J} H1 k Q q => ⟨1, rfl, q _ _ H1 Kp.rfl' (.int (-1)) ⟨-1, rfl, by decide⟩⟩
    have up : ∀ {d : PyData} {n : Nat}, n ≤ 63 → OK n d → OK 63 d := fun h p => okd_up h p
    -- the three first lists
    refine gn ?_
    dsimp only
    refine sq_lst (Z := Z) (n := 63) (k := 4) ?_ (by decide) fun vs1 ds1 G1 p1 k1 L1 all1 len1 np1 => ?_
    · exact ya_cons (t3 hZ (ys_cat hZ (ys_var rfl dn on) (ys_sl hZ (ys_var rfl dn on) yp_none (yp_some (Z := Z) (ys_int i1)))).ok (ys_var rfl da oa).ok (ys_var rfl dl ol).ok)
        (ya_cons (t3 hZ (ys_var rfl dn on).ok (ys_rev hZ (ys_var rfl da oa)).ok (ys_var rfl dl ol).ok)
        (ya_cons (t3 hZ (ys_var rfl dn on).ok (ys_var rfl da oa).ok (ys_rev hZ (ys_var rfl dl ol)).ok)
        (ya_cons ((ys_list hZ (ys_var rfl dg og)).mono fun _ p => up (by decide) p) ya_nil)))
    have kA : Kp No H (upd G1 p1 (.lst vs1)) := k1.tr (Kp.new np1)
    have eA : (upd G1 p1 (.lst vs1)) p1 = some (.lst vs1) := upd_same
    replace L1 := upL0 L1 (Kp.new (o := .lst vs1) np1)
    generalize upd G1 p1 (.lst vs1) = J1 at kA eA L1 ⊢
    have hZ1 : ∀ b, Z b → tracked J1 b := fun b z => kA.trk b (hZ b z)
    have dn1 := up0 dn kA
    have da1 := up0 da kA
    have dl1 := up0 dl kA
    have dg1 := up0 dg kA
    refine sq_cat (Z := Z) (n := 63) (k := 4) (p := p1) rfl eA (by rw [L1.len, len1]; decide) ?_ (by decide) fun vs2 ds2 G2 p2 p3 k2 M2 all2 len2 np2 np3 => ?_
    · exact ya_cons (t3 hZ1 ((ys_list hZ1 (ys_var rfl dn1 on)).mono fun _ p => up (by decide) p) (ys_var rfl da1 oa).ok (ys_var rfl dl1 ol).ok)
        (ya_cons (t3 hZ1 (ys_var rfl dn1 on).ok ((ys_list hZ1 (ys_var rfl da1 oa)).mono fun _ p => up (by decide) p) (ys_var rfl dl1 ol).ok)
        (ya_cons (t3 hZ1 (ys_var rfl dn1 on).ok (ys_var rfl da1 oa).ok ((ys_list hZ1 (ys_var rfl dl1 ol)).mono fun _ p => up (by decide) p))
        (ya_cons (ys_sl hZ1 (ys_var rfl dg1 og) yp_none (yp_some (Z := Z) (ys_int ⟨_, rfl, by decide⟩))).ok ya_nil)))
    have kB : Kp No H (upd (upd G2 p2 (.lst vs2)) p3 (.lst (vs1 ++ vs2))) := ((kA.tr k2).tr (Kp.new np2)).tr (Kp.new np3)
    have eB : (upd (upd G2 p2 (.lst vs2)) p3 (.lst (vs1 ++ vs2))) p3 = some (.lst (vs1 ++ vs2)) := upd_same
    have LB := (upL0 L1 ((k2.tr (Kp.new (o := .lst vs2) np2)).tr (Kp.new (o := .lst (vs1 ++ vs2)) np3))).app (upL0 M2 ((Kp.new (o := .lst vs2) np2).tr (Kp.new (o := .lst (vs1 ++ vs2)) np3)))
    have lenB : (ds1 ++ ds2).length = 8 := by rw [List.length_append, len1, len2]
    have allB : ∀ d ∈ ds1 ++ ds2, okd 63 d = true := fun d hd => (List.mem_append.mp hd).elim (all1 d) (all2 d)
    generalize upd (upd G2 p2 (.lst vs2)) p3 (.lst (vs1 ++ vs2)) = J2 at kB eB LB ⊢
    generalize vs1 ++ vs2 = vsB at eB LB ⊢
    generalize ds1 ++ ds2 = dsB at LB lenB allB
    have hZ2 : ∀ b, Z b → tracked J2 b := fun b z => kB.trk b (hZ b z)
    have dn2 := up0 dn kB
    have da2 := up0 da kB
    have dl2 := up0 dl kB
    have dg2 := up0 dg kB
    refine sq_cat (Z := Z) (n := 63) (k := 4) (p := p3) rfl eB (by rw [LB.len, lenB]; decide) ?_ (by decide) fun vs3 ds3 G3 p4 p5 k3 L3 all3 len3 np4 np5 => ?_
    · exact ya_cons (t3 hZ2 (ys_var rfl dn2 on).ok (ys_cat hZ2 (ys_var rfl da2 oa) (ys_sl hZ2 (ys_var rfl da2 oa) (yp_some (Z := Z) im) yp_none)).ok (ys_var rfl dl2 ol).ok)
        (ya_cons (t3 hZ2 (ys_var rfl dn2 on).ok (ys_var rfl da2 oa).ok (ys_cat hZ2 (ys_var rfl dl2 ol) (ys_sl hZ2 (ys_var rfl dl2 ol) (yp_some (Z := Z) im) yp_none)).ok)
        (ya_cons (ys_lit hZ2 (litOK (by decide +kernel)))
        (ya_cons (ys_cat (n := 30) (m := 20) hZ2 (ys_var rfl dg2 og) (ys_lit hZ2 (litOT (by decide +kernel)))).ok ya_nil)))
    have kC : Kp No H (upd (upd G3 p4 (.lst vs3)) p5 (.lst (vsB ++ vs3))) := ((kB.tr k3).tr (Kp.new np4)).tr (Kp.new np5)
    have eC : (upd (upd G3 p4 (.lst vs3)) p5 (.lst (vsB ++ vs3))) p5 = some (.lst (vsB ++ vs3)) := upd_same
    have LC := (upL0 LB ((k3.tr (Kp.new (o := .lst vs3) np4)).tr (Kp.new (o := .lst (vsB ++ vs3)) np5))).app (upL0 L3 ((Kp.new (o := .lst vs3) np4).tr (Kp.new (o := .lst (vsB ++ vs3)) np5)))
    have lenC : (dsB ++ ds3).length = 12 := by rw [List.length_append, lenB, len3]
    have allC : ∀ d ∈ dsB ++ ds3, okd 63 d = true := fun d hd => (List.mem_append.mp hd).elim (allB d) (all3 d)
    have np5H : H p5 = none := by
      cases e : H p5 with
      | none => rfl
      | some o =>
        have := (kB.tr k3).tr (Kp.new (o := .lst vs3) np4) p5 o (fun z => z) e
        rw [np5] at this
        cases this
    -- from now on the list may be written to
    have out5 : ∀ {d : PyData} {v : V}, Dq Z H v d → Dq (fun b => Z b ∨ b = p5) (upd (upd G3 p4 (.lst vs3)) p5 (.lst (vsB ++ vs3))) v d := fun {d v} dq => up0 (Dq.out np5H d v dq) kC
    have LsC : Ls (fun b => Z b ∨ b = p5) 63 (upd (upd G3 p4 (.lst vs3)) p5 (.lst (vsB ++ vs3))) p5 12 := by
      have L0 := (upL0 LB (k3.tr (Kp.new (o := .lst vs3) np4))).app (upL0 L3 (Kp.new (o := .lst vs3) np4))
      exact ⟨_, _, upd_same, upL0 (DqL.out np5 _ _ L0) (Kp.new np5), allC, lenC⟩
    have dn3 := out5 dn
    have da3 := out5 da
    have dl3 := out5 dl
    have hZ3 : ∀ b, (fun b => Z b ∨ b = p5) b → tracked (upd (upd G3 p4 (.lst vs3)) p5 (.lst (vsB ++ vs3))) b := fun b z => Or.elim z (fun y => kC.trk b (hZ b y)) fun y n => by
      rw [y, eC] at n
      cases n
    have mC : Mv a H (upd (upd G3 p4 (.lst vs3)) p5 (.lst (vsB ++ vs3))) := mv_of kC hW
    clear LC eC kC
    generalize upd (upd G3 p4 (.lst vs3)) p5 (.lst (vsB ++ vs3)) = J3 at LsC dn3 da3 dl3 hZ3 mC ⊢
    generalize hY : (fun b => Z b ∨ b = p5) = Y at LsC dn3 da3 dl3 hZ3
    have y5 : Y p5 := by rw [← hY]; exact .inr rfl
    have ya : Y a := by rw [← hY]; exact .inl za
    have yz : ∀ b, Z b → Y b := fun b z => by rw [← hY]; exact .inl z
    -- what a turn leaves
    have trn : ∀ {J G : Hp} {xs : List V}, (∀ b, Y b → tracked J b) → Mv a H J → Kp No J G → Kp Y J (upd G p5 (.lst xs)) ∧ (∀ b, Y b → tracked (upd G p5 (.lst xs)) b) ∧ Mv a H (upd G p5 (.lst xs)) := fun {J G xs} hJ m k => by
      refine ⟨(k.wk fun _ z => z.elim).tr (Kp.at y5), fun b z => ?_, (m.tr (mv_of k m.2)).off hW np5H⟩
      by_cases e : b = p5
      · rw [e]
        intro n
        rw [upd_same] at n
        cases n
      · intro n
        rw [upd_ne e] at n
        exact k.trk b (hJ b z) n
    have row : ∀ {J : Hp} {σ : L2.St}, σ[5]? = some (some (.int few)) → (∀ b, Y b → tracked J b) → YS Y (OK 63) σ J (tTup (tCons (tC (.int 0)) (tCons (tVar 5) tNil))) := fun e hJ => (ys_tup (n := 63) (k := 2) hJ (ya_cons (ys_int (okd_int.mpr (by decide))) (ya_cons (YS.okI (ys_var e (.int few) ⟨few, rfl, fewS⟩)) ya_nil))).ok
    -- the arrows
    refine sq_for (Z := Y) (n := 63) ?_ fun b3 xs3 ds3' G3 kG3 eb3 zb3 Lb3 lb3 ob3 => ?_
    · exact ys_tup hZ3 (ya_cons (ys_lit hZ3 (litOK (by decide +kernel))) (ya_cons (ys_lit hZ3 (litOK (by decide +kernel))) (ya_cons (row rfl hZ3) (ya_cons (ys_lit hZ3 (litOK (by decide +kernel))) (ya_cons (ys_lit hZ3 (litOK (by decide +kernel))) (ya_cons (ys_lit hZ3 (litOK (by decide +kernel))) (ya_cons (ys_lit hZ3 (litOK (by decide +kernel))) (ya_cons (ys_lit hZ3 (litOK (by decide +kernel))) ya_nil))))))))
    refine for_tup (K := K) (a := b3) (xs := xs3) (fun i σ J => ∃ y : Option V, σ = [some (.ref a), some (.ref g), some (.ref tn), some va, some vl, some (.int few), some (.ref p5), y, none, none, none, none] ∧ Ls Y 63 J p5 (12 + i) ∧ Kp Y G3 J ∧ (∀ b, Y b → tracked J b) ∧ Mv a H J)
      ⟨none, rfl, LsC.kp (kG3.wk fun _ z => z.elim) (by obtain ⟨_, _, e, _⟩ := LsC; exact (kG3 _ _ (fun z => z) e).trans e.symm), Kp.rfl', fun b z => kG3.trk b (hZ3 b z), mC.tr (mv_of kG3 mC.2)⟩ (fun i σ J _ ⟨_, _, _, kJ, _⟩ => .inl (rd_kp kJ zb3 eb3)) ?_ ?_
    · rintro i x σ J hx ⟨y, rfl, ls, kJ, hJ, mJ⟩
      obtain ⟨d, hd, dx⟩ := Lb3.get hx
      have dxJ := dx.kp kJ
      have ox : OK 63 d := ob3 d (List.mem_of_getElem? hd)
      have li : i < xs3.length := (List.getElem?_eq_some_iff.mp hx).1
      have ll := Lb3.len
      have dnJ := (up0 dn3 kG3).kp kJ
      have daJ := (up0 da3 kG3).kp kJ
      have dlJ := (up0 dl3 kG3).kp kJ
      refine gn ?_
      dsimp only
      refine sq_app (Z := Y) (n := 63) (k := 12 + i) (L := p5) rfl ls y5 (by omega) ?_ fun G2 xs2 kG2 ls2 => ?_
      · exact t3 hJ (ys_var rfl dnJ on).ok (ys_tup hJ (ya_cons (ys_var rfl dxJ ox) ya_nil)).ok (ys_var rfl dlJ ol).ok
      · obtain ⟨t1, t2, t3⟩ := trn (xs := xs2) hJ mJ kG2
        exact ⟨some x, rfl, ls2, kJ.tr t1, t2, t3⟩
    rintro σ J ⟨y3, rfl, ls3, kJ3, hJ3, mJ3⟩
    have dn3' := (up0 dn3 kG3).kp kJ3
    have da3' := (up0 da3 kG3).kp kJ3
    have dl3' := (up0 dl3 kG3).kp kJ3
    have lb3' := Lb3.len
    dsimp only
    refine sq_for (Z := Y) (n := 63) ?_ fun b4 xs4 ds4' G4 kG4 eb4 zb4 Lb4 lb4 ob4 => ?_
    · exact ys_tup hJ3 (ya_cons (ys_lit hJ3 (litOK (by decide +kernel))) (ya_cons (ys_lit hJ3 (litOK (by decide +kernel))) (ya_cons (ys_lit hJ3 (litOK (by decide +kernel))) (ya_cons (ys_lit hJ3 (litOK (by decide +kernel))) (ya_cons (row rfl hJ3) (ya_cons (ys_lit hJ3 (litOK (by decide +kernel))) (ya_cons (ys_lit hJ3 (litOK (by decide +kernel))) (ya_cons (ys_lit hJ3 (litOK (by decide +kernel))) ya_nil))))))))
    have dn4 := dn3'
    have da4 := da3'
    have dl4 := dl3'
    generalize hc4 : 12 + xs3.length = c4 at ls3
    refine for_tup (K := K) (a := b4) (xs := xs4) (fun i σ J => ∃ y : Option V, σ = [some (.ref a), some (.ref g), some (.ref tn), some va, some vl, some (.int few), some (.ref p5), y3, y, none, none, none] ∧ Ls Y 63 J p5 (c4 + i) ∧ Kp Y G4 J ∧ (∀ b, Y b → tracked J b) ∧ Mv a H J)
      ⟨none, rfl, ls3.kp (kG4.wk fun _ z => z.elim) (by obtain ⟨_, _, e, _⟩ := ls3; exact (kG4 _ _ (fun z => z) e).trans e.symm), Kp.rfl', fun b z => kG4.trk b (hJ3 b z), mJ3.tr (mv_of kG4 mJ3.2)⟩ (fun i σ J _ ⟨_, _, _, kJ, _⟩ => .inl (rd_kp kJ zb4 eb4)) ?_ ?_
    · rintro i x σ J hx ⟨y, rfl, ls, kJ, hJ, mJ⟩
      obtain ⟨d, hd, dx⟩ := Lb4.get hx
      have dxJ := dx.kp kJ
      have ox : OK 63 d := ob4 d (List.mem_of_getElem? hd)
      have li : i < xs4.length := (List.getElem?_eq_some_iff.mp hx).1
      have ll := Lb4.len
      have dnJ := (up0 dn4 kG4).kp kJ
      have daJ := (up0 da4 kG4).kp kJ
      have dlJ := (up0 dl4 kG4).kp kJ
      refine gn ?_
      dsimp only
      refine sq_app (Z := Y) (n := 63) (k := c4 + i) (L := p5) rfl ls y5 (by omega) ?_ fun G2 xs2 kG2 ls2 => ?_
      · exact t3 hJ (ys_var rfl dnJ on).ok (ys_var rfl daJ oa).ok (ys_tup hJ (ya_cons (ys_var rfl dxJ ox) ya_nil)).ok
      · obtain ⟨t1, t2, t3⟩ := trn (xs := xs2) hJ mJ kG2
        exact ⟨some x, rfl, ls2, kJ.tr t1, t2, t3⟩
    rintro σ J ⟨y4, rfl, ls4, kJ4, hJ4, mJ4⟩
    have dn4' := (up0 dn4 kG4).kp kJ4
    have da4' := (up0 da4 kG4).kp kJ4
    have dl4' := (up0 dl4 kG4).kp kJ4
    have lb4' := Lb4.len
    dsimp only
    refine sq_lit fun v9 G9 k9 d9 => ?_
    have d9Y : Dq Y G9 v9 _ := d9.wk hJ4
    have hJ9 : ∀ b, Y b → tracked G9 b := fun b z => k9.trk b (hJ4 b z)
    refine sq_for (Z := Y) (n := 20 + 20) ?_ fun b5 xs5 ds5' G5 kG5' eb5 zb5 Lb5 lb5 ob5 => ?_
    · exact ys_cat hJ9 (ys_var rfl d9Y (litOT (by decide +kernel))) (ys_lit hJ9 (litOT (by decide +kernel)))
    have kG5 := k9.tr kG5'
    have dn5 := dn4'
    have da5 := da4'
    have dl5 := dl4'
    generalize hc5 : c4 + xs4.length = c5 at ls4
    refine for_tup (K := K) (a := b5) (xs := xs5) (fun i σ J => ∃ y : Option V, σ = [some (.ref a), some (.ref g), some (.ref tn), some va, some vl, some (.int few), some (.ref p5), y3, y4, some v9, y, none] ∧ Ls Y 63 J p5 (c5 + i) ∧ Kp Y G5 J ∧ (∀ b, Y b → tracked J b) ∧ Mv a H J)
      ⟨none, rfl, ls4.kp (kG5.wk fun _ z => z.elim) (by obtain ⟨_, _, e, _⟩ := ls4; exact (kG5 _ _ (fun z => z) e).trans e.symm), Kp.rfl', fun b z => kG5.trk b (hJ4 b z), mJ4.tr (mv_of kG5 mJ4.2)⟩ (fun i σ J _ ⟨_, _, _, kJ, _⟩ => .inl (rd_kp kJ zb5 eb5)) ?_ ?_
    · rintro i x σ J hx ⟨y, rfl, ls, kJ, hJ, mJ⟩
      obtain ⟨d, hd, dx⟩ := Lb5.get hx
      have dxJ := dx.kp kJ
      have ox : OK 40 d := ob5 d (List.mem_of_getElem? hd)
      have li : i < xs5.length := (List.getElem?_eq_some_iff.mp hx).1
      have ll := Lb5.len
      have dnJ := (up0 dn5 kG5).kp kJ
      have daJ := (up0 da5 kG5).kp kJ
      have dlJ := (up0 dl5 kG5).kp kJ
      refine gn ?_
      dsimp only
      refine sq_app (Z := Y) (n := 63) (k := c5 + i) (L := p5) rfl ls y5 (by omega) ?_ fun G2 xs2 kG2 ls2 => ?_
      · exact t3 hJ (ys_catL (n := 63) hJ (ys_tupL (k := 1) (l := 1) hJ (ya_cons ((ys_var rfl dxJ ox).mono fun _ p => okd_up (by decide) p) ya_nil)) (ys_slL (l := 30) (n := 63) hJ (YS.ol (l := 30) (n := 63) (ys_var rfl dnJ on)) (yp_some (Z := Z) (ys_int i1)) yp_none)).okL (ys_var rfl daJ oa).ok (ys_var rfl dlJ ol).ok
      · obtain ⟨t1, t2, t3⟩ := trn (xs := xs2) hJ mJ kG2
        exact ⟨some x, rfl, ls2, kJ.tr t1, t2, t3⟩
    rintro σ J ⟨y5, rfl, ls5, kJ5, hJ5, mJ5⟩
    have dn5' := (up0 dn5 kG5).kp kJ5
    have da5' := (up0 da5 kG5).kp kJ5
    have dl5' := (up0 dl5 kG5).kp kJ5
    have lb5' := Lb5.len
    dsimp only
    refine ⟨.ref a, rfl, a, 9, rfl, mJ5.2, by decide, fun pM oM wsM GM' lM ndM nmM mvM npM odM eM => ?_⟩
    refine gn ?_
    dsimp only
    have hJM : ∀ b, Y b → tracked GM' b := fun b z => mvM.trk b (hJ5 b z)
    have kM : Kp Y J GM' := mvM.1.wk fun b e => by rw [e]; exact ya
    have zM : ¬ Y pM := fun z => hJ5 pM z npM
    have dM : Dq Y GM' (.ref pM) (dStrs wsM) := by
      refine .tup (.inr ⟨oM, eM⟩) zM ?_
      clear eM lM ndM nmM
      induction wsM with
      | nil => exact .nil
      | cons x ws ih => exact .cons (.str x) ih
    have oM' : OT 30 (dStrs wsM) := by
      refine ⟨okd_tup.mpr ⟨by rw [List.length_map, lM]; decide, fun d hd' => ?_⟩, _, rfl⟩
      obtain ⟨x, hx, rfl⟩ := List.mem_map.mp hd'
      have z : (!inV (.str x) (wordsL.map V.str) && ((decide (1 ≤ x.length) && decide (x.length ≤ 8)) && (firstOk x && x.cps.toList.all (fun c => letterC c || figureC c)))) = true := nmM x hx
      simp only [Bool.and_eq_true, decide_eq_true_iff] at z
      exact okd_str.mpr (by omega)
    have da6 := da5'.kp kM
    have dl6 := dl5'.kp kM
    have ls6 : Ls Y 63 GM' p5 (c5 + xs5.length) := ls5.kp kM (by
      obtain ⟨_, _, e, _⟩ := ls5
      have ne : p5 ≠ a := fun z => (hW.ne np5H) z.symm
      exact (mvM.1 _ _ ne e).trans e.symm)
    have mM : Mv a H GM' := mJ5.tr mvM
    refine cat_three (Z := Y) (n := 63) rfl (t3 hJM (ys_var rfl dM oM').ok (ys_var rfl da6 oa).ok (ys_var rfl dl6 ol).ok)
      (t3 hJM (ys_sl hJM (ys_var rfl dM oM') yp_none (yp_some (Z := Z) (ys_int ⟨_, rfl, by decide⟩))).ok (ys_lit hJM (litOK (by decide +kernel))) (ys_lit hJM (litOK (by decide +kernel)))) fun v1 d1 v2 d2 G kG q1 o1 q2 o2 => ?_
    have mG : Mv a H G := mM.tr (mv_of kG mM.2)
    have lsG : Ls Y 63 G p5 (c5 + xs5.length) := ls6.kp (kG.wk fun _ z => z.elim) (by
      obtain ⟨_, _, e, _⟩ := ls6
      exact (kG _ _ (fun z => z) e).trans e.symm)
    refine ⟨.ref a, rfl, a, rfl, mG.2, fun v3 d3 G3 mv3 q3 gd3 od3 => ⟨by decide, fun p6 np6 => ?_⟩⟩
    have k3 : Kp Y G G3 := mv3.1.wk fun b e => by rw [e]; exact ya
    have hne : p5 ≠ a := fun z => (hW.ne np5H) z.symm
    have ls3' : Ls Y 63 G3 p5 (c5 + xs5.length) := lsG.kp k3 (by
      obtain ⟨_, _, e, _⟩ := lsG
      exact (mv3.1 _ _ hne e).trans e.symm)
    obtain ⟨xsF, dsF, eF, LF, aF, lF⟩ := ls3'
    have m3 : Mv a H G3 := mG.tr mv3
    have h56 : p5 ≠ p6 := ne_of_none eF np6
    have lxF := LF.len
    have hJG : ∀ b, Y b → tracked G b := fun b z => kG.trk b (hJM b z)
    refine ⟨p5, p6, xsF, [v1, v2, v3], rfl, rfl, (upd_ne h56).trans eF, upd_same, by show xsF.length + 3 ≤ sizeLine; rw [sizeLine_eq]; omega, fun p7 np7 => ?_⟩
    have m6 : Mv a H (upd G3 p6 (.lst [v1, v2, v3])) := m3.tr (Mv.new m3.2 np6)
    refine q p7 (c5 + xs5.length + 3) _ (m6.tr (Mv.new m6.2 np7)) (m6.free hW np7) ⟨xsF ++ [v1, v2, v3], dsF ++ [d1, d2, d3], upd_same, ?_, fun d hd' => ?_, by rw [List.length_append, lF]; rfl⟩ (by omega)
    · have tail : DqL Y G3 [v1, v2, v3] [d1, d2, d3] := .cons (q1.kp k3) (.cons (q2.kp k3) (.cons (q3.wk hJG) .nil))
      exact (upL0 (LF.app tail) ((Kp.new (o := .lst [v1, v2, v3]) np6).tr (Kp.new np7))).wk yz
    · rcases List.mem_append.mp hd' with z | z
      · exact aF d z
      · simp only [List.mem_cons, List.not_mem_nil, or_false] at z
        rcases z with rfl | rfl | rfl
        · exact o1
        · exact o2
        · exact okd_up (by decide) (List.all_eq_true.mp odds_ok _ od3)
end
end GR

namespace GR
open PySem PySem.Spec PyProof.Rows L2 KL KG KS KV KY
abbrev sFull : Stmt := topS 42
theorem scFull : FnScope ["well", "every", "lots", "at", "to", "order", "spot"] ["well"] (defScope sFull) := ⟨rfl, rfl, rfl, by decide +kernel, rfl, by decide +kernel, by decide +kernel⟩
/-- a new value that is any data of bounded size -/
def spFull : Sp := fun vs H Q _ => ∃ a : Addr, vs = [.ref a] ∧ Wl H a ∧ ∀ (v : V) (d : PyData) (G : Hp), Mv a H G → Dq (tracked H) G v d → okd 30 d = true → Q v G
def RowOk (r : List Int) : Prop := 1 ≤ r.length ∧ r.length ≤ 3 ∧ ∀ x ∈ r, 0 ≤ x ∧ x < 8
theorem rows_out {Z : Addr → Prop} {H : Hp} {E : Addr} {ys : List V} (e : H E = some (.lst ys)) : ∀ {rows : List (List Int)} {xs : List V}, DqL Z H xs (rows.map dInts) → DqL (fun b => Z b ∨ b = E) H xs (rows.map dInts)
  | [], _, h => by cases h; exact .nil
  | r :: rows, _, h => by
    cases h with
    | cons a t =>
      refine .cons ?_ (rows_out e t)
      obtain ⟨p, rfl, rd, z⟩ := dInts_tup a
      refine .tup rd (fun y => y.elim z fun q => ?_) (DqL.ints r)
      rw [q] at rd
      rcases rd with rd | ⟨o, rd⟩ <;> rw [e] at rd <;> cases rd
section
variable {P : Program} {w : World} {K : PySem.W.Frag} {mg : Str → Option Value} {base : Heap} {fD fO fDe : Addr} {fdD fdO fdDe : FuncData}
theorem ok_full {f fN fM : Addr} {fd fdN fdM : FuncData} (F : Fun K "_law_full" "_law_full" sFull f fd) (FM : Fun K "_law_names" "_law_names" sNams fM fdM) (gM : mg "_law_names" = some (.ref fM)) (bM : L2.Binds K fdM ["well", "few"] []) (FN : Fun K "_law_name" "_law_name" sNam fN fdN) (gN : mg "_law_name" = some (.ref fN)) (bN : L2.Binds K fdN ["well"] []) (S : Dw K mg fD fO fDe fdD fdO fdDe) :
    FnOk P w K mg base CX0 5 f fd ["well"] spFull := by
  have GM : FnOk P w K mg base CX0 4 fM fdM ["well", "few"] spNams := ok_nams FM FN gN bN S
  refine F.ok scFull (fun vs H Q E h => ?_) (fun cdv A outer s H vs Q E hr h => ?_)
  · obtain ⟨a, rfl, _⟩ := h
    rfl
  · obtain ⟨a, rfl, hW, q⟩ := h
    refine ⟨_, pss_cons (ps_par (i := 1) (j := 2) rfl scFull.nd rfl rfl (by decide) (by rfl) (by rfl) (pa_cons (pe_lst pa_nil) (pa_cons (pe_lst pa_nil) pa_nil)) (by rfl))
      (pss_cons (ps_for PassesOwn.never rfl (pi_range1 (by rfl) S.mr (pa_cons pe_int pa_nil)) (pg_name (i := 3) scFull.nd rfl (.inr rfl))
      (pss_one (ps_set (i := 1) scFull.nd rfl (.inl rfl) (pe_op op_cat (pv 1) (pe_lc (own := [("to", 4)]) (g := gName 4) (tt := tYes) rfl scFull.nd (pi_range2 (by rfl) S.mr (pa_cons (pe_op op_add (pv 3) pe_int) (pa_cons pe_int pa_nil))) (blkOk_by (N := ["well", "every", "lots", "at", "to", "order", "spot"]) (sc := defScope sFull) (by decide +kernel)) (fun _ _ _ _ _ => (pg_name (i := 4) scFull.nd rfl (.inl rfl))) (fun _ _ _ _ _ => pts_nil) (fun _ _ _ _ _ => (pe_tup (pa_cons (pv 3) (pa_cons (pv 4) pa_nil)))))))))
      (pss_cons (ps_for PassesOwn.never rfl (pi_range1 (by rfl) S.mr (pa_cons pe_int pa_nil)) (pg_name (i := 3) scFull.nd rfl (.inr rfl))
      (pss_one (ps_expr (pe_bm PySem.F.plainAttrs_list PySem.F.slot_list_append PySem.F.type_list_append mt_append (pv 1) (pa_cons (pe_tup (pa_cons (pv 3) (pa_cons (pe_op op_add (pv 3) pe_int) (pa_cons (pe_op op_add (pv 3) pe_int) pa_nil)))) pa_nil)))))
      (pss_cons (ps_set (i := 5) scFull.nd rfl (.inl rfl) (pe_call S.okDe (hr.mono (by decide)) (by rfl) S.gDe S.De.kp S.bDe .nil pass0 (pa_cons (pv 0) (pa_cons (pe_callB call_len_seq (by rfl) S.ml PySem.boot_len (pa_cons (pv 1) pa_nil)) pa_nil))))
      (pss_cons (ps_for PassesOwn.never rfl (pi_list (pe_slice sl_list (pv 5) po_none (po_some (pe_op op_add pe_int (pe_call S.okD (hr.mono (by decide)) (by rfl) S.gD S.D.kp S.bD .nil pass0 (pa_cons (pv 0) (pa_cons pe_int pa_nil))))))) (pg_name (i := 6) scFull.nd rfl (.inl rfl))
      (pss_one (ps_expr (pe_bm PySem.F.plainAttrs_list PySem.F.slot_list_append PySem.F.type_list_append mt_append (pv 2) (pa_cons (pe_ix ix_list (pv 1) (pv 6) (fun _ _ => rfl)) pa_nil)))))
      (pss_one (ps_ret (pe_tup (pa_cons (pe_call GM (hr.mono (by decide)) (by rfl) gM FM.kp bM .nil pass0 (pa_cons (pv 0) (pa_cons pe_int pa_nil))) (pa_cons (pe_tup pa_nil) (pa_cons (pe_callTy call_tuple_of (by rfl) S.mt (by decide +kernel) (pa_cons (pe_callB (cr_sortV (D := 8) (B := 16) (by decide)) (by rfl) S.ms (by decide +kernel) (pa_cons (pv 2) pa_nil)) pa_nil)) pa_nil)))))))))), ?_⟩
    refine ⟨by decide, fun E0 nE => ⟨by decide, fun L1 nL => ⟨.ref E0, .ref L1, rfl, ?_⟩⟩⟩
    have nL0 : H L1 = none := by
      have h : E0 ≠ L1 := ne_of_none upd_same nL
      rw [upd_ne (Ne.symm h)] at nL
      exact nL
    have hLa : a ≠ L1 := hW.ne nL0
    generalize hZ : (fun b => tracked H b ∨ b = L1) = Z
    have zL : Z L1 := by rw [← hZ]; exact .inr rfl
    have zT : ∀ b, tracked H b → Z b := fun b t => by rw [← hZ]; exact .inl t
    have za : Z a := zT a (hW.trk a rfl)
    have nZ : ∀ {J : Hp} {p : Addr}, Mv a H J → tracked J L1 → J p = none → ¬ Z p := fun {J p} m tL n z => by
      rw [← hZ] at z
      exact z.elim (fun z => z (m.free hW n)) fun z => tL (z ▸ n)
    have kM : ∀ {J J' : Hp}, Mv a J J' → Kp Z J J' := fun m => m.1.wk fun b e => by rw [e]; exact za
    refine ⟨8, rfl, by decide, by decide, for_range (lo := 0) (n := 8) (fun i σ J => ∃ (E1 : Addr) (xs : List V) (rows : List (List Int)) (y z : Option V), σ = [some (.ref a), some (.ref E1), some (.ref L1), y, z, none, none] ∧ J E1 = some (.lst xs) ∧ DqL Z J xs (rows.map dInts) ∧ (∀ r ∈ rows, RowOk r) ∧ rows.length ≤ 8 * i ∧ J L1 = some (.lst []) ∧ H E1 = none ∧ E1 ≠ L1 ∧ Mv a H J)
      ⟨E0, [], [], none, none, rfl, by rw [upd_ne (ne_of_none upd_same nL)]; exact upd_same, .nil, fun r hr => absurd hr List.not_mem_nil, by simp, upd_same, nE, ne_of_none upd_same nL, (Mv.new hW nE).tr (Mv.new (hW.new nE) nL)⟩ ?_ ?_⟩
    · rintro i σ J hi ⟨E1, xs, rows, y, z, rfl, eE, L, all, len, eL, _, _, mv⟩
      have lx := L.len
      rw [List.length_map] at lx
      refine ⟨.ref E1, rfl, .int (0 + (i : Int)), rfl, 0 + (i : Int), 1, rfl, rfl, 0 + (i : Int) + 1, 8, rfl, ⟨by omega, by omega, by omega, by omega⟩, fun D nD => ?_⟩
      have tL : tracked J L1 := fun n => by rw [eL] at n; cases n
      refine lc_range (lo := 0 + (i : Int) + 1) (n := (8 - (0 + (i : Int) + 1)).toNat) (fun j G => ∃ (ys : List V) (rs : List (List Int)), G D = some (.lst ys) ∧ DqL (fun b => Z b ∨ b = D) G ys (rs.map dInts) ∧ (∀ r ∈ rs, RowOk r) ∧ rs.length = j ∧ Kp No J G)
        ⟨[], [], upd_same, .nil, fun r hr => absurd hr List.not_mem_nil, rfl, Kp.new nD⟩ ?_ ?_
      · rintro j G hj ⟨ys, rs, eD, M, alr, lr, kG⟩
        refine ⟨rfl, tyes ?_⟩
        refine ⟨_, rfl, _, rfl, by show 2 ≤ sizeLine; decide, fun t nt => ?_⟩
        have hDt : D ≠ t := ne_of_none eD nt
        have zt : ¬ (Z t ∨ t = D) := fun z => z.elim (fun z => nZ (mv_of kG mv.2 |> mv.tr) (kG.trk _ tL) nt z) fun z => hDt z.symm
        have ly := M.len
        rw [List.length_map] at ly
        refine ⟨ys, (upd_ne hDt).trans eD, by rw [sizeLine_eq]; omega, ys ++ [.ref t], rs ++ [[0 + (i : Int), 0 + (i : Int) + 1 + (j : Int)]], upd_same, ?_, fun r hr => ?_, by rw [List.length_append, lr]; rfl, Kp.off (kG.tr (Kp.new nt)) nD⟩
        · rw [List.map_append]
          refine ((upL0 M (Kp.new nt)).app (.cons (dInts_new ?_ zt) .nil)).kp (Kp.at (.inr rfl))
          exact upd_same
        · rcases List.mem_append.mp hr with z | z
          · exact alr r z
          · rw [List.mem_singleton.mp z]
            refine ⟨by show 1 ≤ 2; decide, by show 2 ≤ 3; decide, fun x hx => ?_⟩
            simp only [List.mem_cons, List.not_mem_nil, or_false] at hx
            rcases hx with rfl | rfl <;> omega
      · rintro G ⟨ys, rs, eD, M, alr, lr, kG⟩
        have ly := M.len
        rw [List.length_map] at ly
        refine ⟨E1, D, xs, ys, rfl, rfl, kG _ _ (fun z => z) eE, eD, by rw [sizeLine_eq]; omega, fun p np => ?_⟩
        have mG : Mv a H G := mv.tr (mv_of kG mv.2)
        refine ⟨p, xs ++ ys, rows ++ rs, _, z, rfl, upd_same, ?_, fun r hr => (List.mem_append.mp hr).elim (all r) (alr r), by rw [List.length_append]; omega, ?_, mG.free hW np, fun h => ne_of_none (kG _ _ (fun z => z) eL) np h.symm, mG.tr (Mv.new mG.2 np)⟩
        · rw [List.map_append]
          exact (upL0 L (kG.tr (Kp.new np))).app ((upL0 M (Kp.new np)).wk fun b z => .inl z)
        · have e := kG _ _ (fun z => z) eL
          rw [upd_ne (ne_of_none e np)]
          exact e
    · rintro σ J ⟨E1, xs, rows, y, z, rfl, eE, L, all, len, eL, hE0, hEL, mv⟩
      have hEa : a ≠ E1 := hW.ne hE0
      have L' := rows_out eE L
      generalize hY : (fun b => Z b ∨ b = E1) = Y at L'
      have yE : Y E1 := by rw [← hY]; exact .inr rfl
      have yz : ∀ b, Z b → Y b := fun b h => by rw [← hY]; exact .inl h
      have yL := yz _ zL
      have ya := yz _ za
      have nY : ∀ {J : Hp} {p : Addr}, Mv a H J → tracked J L1 → tracked J E1 → J p = none → ¬ Y p := fun {J p} m tL tE n h => by
        rw [← hY] at h
        exact h.elim (fun h => nZ m tL n h) fun h => tE (h ▸ n)
      have kY : ∀ {J J' : Hp}, Mv a J J' → Kp Y J J' := fun m => m.1.wk fun b e => by rw [e]; exact ya
      clear hZ kM
      dsimp only
      refine ⟨6, rfl, by decide, by decide, for_range (lo := 0) (n := 6) (fun i σ J => ∃ (xs : List V) (rows : List (List Int)) (y : Option V), σ = [some (.ref a), some (.ref E1), some (.ref L1), y, z, none, none] ∧ J E1 = some (.lst xs) ∧ DqL Y J xs (rows.map dInts) ∧ (∀ r ∈ rows, RowOk r) ∧ rows.length ≤ 64 + i ∧ J L1 = some (.lst []) ∧ Mv a H J)
        ⟨xs, rows, y, rfl, eE, L', all, by omega, eL, mv⟩ ?_ ?_⟩
      · clear eE L L' all len eL mv
        rintro i σ J hi ⟨xs, rows, y, rfl, eE, L, all, len, eL, mv⟩
        have lx := L.len
        rw [List.length_map] at lx
        refine ⟨.ref E1, rfl, .inl ⟨rfl, _, .inl (.inl eE)⟩, .int (0 + (i : Int)), rfl, .int (0 + (i : Int)), rfl, 0 + (i : Int), 1, rfl, rfl, .int (0 + (i : Int)), rfl, 0 + (i : Int), 2, rfl, rfl, by show 3 ≤ sizeLine; decide, fun t nt => ?_⟩
        have hEt : E1 ≠ t := ne_of_none eE nt
        have hLt : L1 ≠ t := ne_of_none eL nt
        have zt : ¬ Y t := nY mv (fun n => by rw [eL] at n; cases n) (fun n => by rw [eE] at n; cases n) nt
        refine ⟨E1, xs, _, rfl, rfl, (upd_ne hEt).trans eE, by rw [sizeLine_eq]; omega, xs ++ [.ref t], rows ++ [[0 + (i : Int), 0 + (i : Int) + 1, 0 + (i : Int) + 2]], _, rfl, upd_same, ?_, fun r hr => ?_, by rw [List.length_append]; show rows.length + 1 ≤ _; omega, ?_, (mv.tr (Mv.new mv.2 nt)).off hW hE0⟩
        · rw [List.map_append]
          refine ((upL0 L (Kp.new nt)).app (.cons (dInts_new ?_ zt) .nil)).kp (Kp.at yE)
          exact upd_same
        · rcases List.mem_append.mp hr with h | h
          · exact all r h
          · rw [List.mem_singleton.mp h]
            refine ⟨by show 1 ≤ 3; decide, by show 3 ≤ 3; decide, fun x hx => ?_⟩
            simp only [List.mem_cons, List.not_mem_nil, or_false] at hx
            rcases hx with rfl | rfl | rfl <;> omega
        · rw [upd_ne (Ne.symm hEL), upd_ne hLt]
          exact eL
      · clear eE L L' all len eL mv
        rintro σ J ⟨xs, rows, y, rfl, eE, L, all, len, eL, mv⟩
        have lx := L.len
        rw [List.length_map] at lx
        dsimp only
        refine ⟨.ref a, rfl, .ref E1, rfl, E1, xs, rfl, .inl (.inl (.inl eE)), a, xs.length, rfl, mv.2, by omega, fun p ns G pm mv1 np e1 => ?_⟩
        have hpa : a ≠ p := mv.2.ne np
        have m1 := mv.tr mv1
        have eE1 := mv1.1 E1 _ (fun h => hEa h.symm) eE
        have eL1 := mv1.1 L1 _ (fun h => hLa h.symm) eL
        have L1' := L.kp (kY mv1)
        refine gn ?_
        dsimp only
        refine ⟨.ref p, rfl, .ref a, rfl, a, 3, rfl, m1.2, by decide, by decide, fun d J2 d0 d1 mv2 => ⟨27, d, rfl, rfl, 27 + d, rfl, p, natV ns, rfl, .inl (.inl (mv2.1 p _ (fun h => hpa h.symm) e1)), fun p2 np2 => ?_⟩⟩
        obtain ⟨dn, rfl⟩ : ∃ dn : Nat, d = (dn : Int) := ⟨d.toNat, (Int.toNat_of_nonneg d0).symm⟩
        have hd : dn ≤ 2 := by omega
        rw [show (27 : Int) + (dn : Int) = ((27 + dn : Nat) : Int) by omega, cut_nat]
        have m2 := m1.tr mv2
        have eE2 := mv2.1 E1 _ (fun h => hEa h.symm) eE1
        have eL2 := mv2.1 L1 _ (fun h => hLa h.symm) eL1
        have L2' := L1'.kp (kY mv2)
        have tE : tracked J2 E1 := fun n => by rw [eE2] at n; cases n
        have tL : tracked J2 L1 := fun n => by rw [eL2] at n; cases n
        have hE2 : E1 ≠ p2 := ne_of_none eE2 np2
        have hL2 : L1 ≠ p2 := ne_of_none eL2 np2
        refine ⟨p2, rfl, ⟨_, .inl (.inl upd_same)⟩, for_list (K := K) (a := p2) (xs := natV (ns.take (27 + dn))) (fun i σ J => ∃ (xs2 : List V) (rs : List (List Int)) (u : Option V), σ = [some (.ref a), some (.ref E1), some (.ref L1), y, z, some (.ref p), u] ∧ J p2 = some (.lst (natV (ns.take (27 + dn)))) ∧ J E1 = some (.lst xs) ∧ DqL Y J xs (rows.map dInts) ∧ J L1 = some (.lst xs2) ∧ DqL Y J xs2 (rs.map dInts) ∧ (∀ r ∈ rs, RowOk r) ∧ rs.length = i ∧ Mv a H J)
          ⟨[], [], none, rfl, upd_same, (upd_ne hE2).trans eE2, upL0 L2' (Kp.new np2), (upd_ne hL2).trans eL2, .nil, fun r hr => absurd hr List.not_mem_nil, rfl, m2.tr (Mv.new m2.2 np2)⟩ (fun i σ J _ ⟨_, _, _, _, e, _⟩ => .inl (.inl e)) ?_ ?_⟩
        · rintro i x σ J hx ⟨xs2, rs, u, rfl, eP, eE, L, eL, M, alr, lr, mv⟩
          have li : i < (ns.take (27 + dn)).length := by
            have := (List.getElem?_eq_some_iff.mp hx).1
            rwa [natV_len] at this
          rw [natV_get li] at hx
          obtain rfl := Option.some.inj hx
          have hs : (ns.take (27 + dn))[i] < xs.length := List.mem_range.mp (pm.mem_iff.mp (List.mem_of_mem_take (List.getElem_mem li)))
          generalize (ns.take (27 + dn))[i] = sp at hs
          obtain ⟨dd, hdd, dq⟩ := L.get (List.getElem?_eq_getElem hs)
          rw [List.getElem?_map, List.getElem?_eq_getElem (show sp < rows.length by omega)] at hdd
          cases hdd
          have ly := M.len
          rw [List.length_map] at ly
          have l29 : i ≤ 29 := by
            rw [List.length_take] at li
            omega
          refine ⟨.ref L1, rfl, .inl ⟨rfl, _, .inl (.inl eL)⟩, .ref E1, rfl, .int (sp : Int), rfl, E1, xs, (sp : Int), xs[sp], rfl, rfl, .inl (.inl eE), atI_nat (List.getElem?_eq_getElem hs), L1, xs2, _, rfl, rfl, eL, by rw [sizeLine_eq]; omega, ?_⟩
          refine ⟨xs2 ++ [xs[sp]], rs ++ [rows[sp]'(by omega)], _, rfl, (upd_ne (Ne.symm hL2)).trans eP, (upd_ne hEL).trans eE, L.kp (Kp.at yL), upd_same, ?_, fun r hr => ?_, by rw [List.length_append, lr]; rfl, mv.off hW nL0⟩
          · rw [List.map_append]
            exact (M.app (.cons dq .nil)).kp (Kp.at yL)
          · rcases List.mem_append.mp hr with h | h
            · exact alr r h
            · rw [List.mem_singleton.mp h]
              exact all _ (List.getElem_mem _)
        · rintro σ J ⟨xs2, rs, u, rfl, eP, eE, L, eL, M, alr, lr, mv⟩
          have ly := M.len
          rw [List.length_map] at ly
          have l29 : rs.length ≤ 29 := by
            rw [lr, natV_len, List.length_take]
            omega
          dsimp only
          refine ⟨.ref a, rfl, a, 8, rfl, mv.2, by decide, fun p o ws J1 lw nw nmw mv1 np od e1 => ⟨by decide, fun t nt => ?_⟩⟩
          have tE : tracked J E1 := fun n => by rw [eE] at n; cases n
          have tL : tracked J L1 := fun n => by rw [eL] at n; cases n
          have eL1 := mv1.1 L1 _ (fun h => hLa h.symm) eL
          have hLt : L1 ≠ t := ne_of_none eL1 nt
          have zp : ¬ Y p := nY mv tL tE np
          have M1 := (M.kp (kY mv1)).kp (Kp.new (Z := Y) (o := .tup []) nt)
          refine ⟨.ref L1, rfl, L1, xs2, rfl, .inl (.inl ((upd_ne hLt).trans eL1)), by omega, fun x hx => ?_, fun ys p3 pm3 pw np3 => ⟨p3, ys, rfl, .inl ⟨.inl (.inl upd_same), fun p4 np4 => ⟨by show 3 ≤ sizeLine; decide, fun p5 np5 => ?_⟩⟩⟩⟩
          · obtain ⟨i, hi, e⟩ := List.getElem_of_mem hx
            obtain ⟨dd, hdd, dq⟩ := M1.get (i := i) (v := x) (by rw [← e]; exact List.getElem?_eq_getElem hi)
            obtain ⟨r, hr, rfl⟩ := List.mem_map.mp (List.mem_of_getElem? hdd)
            obtain ⟨tt, rfl, rd, _⟩ := dInts_tup dq
            obtain ⟨h1, h2, h3⟩ := alr r hr
            exact ⟨r, ⟨tt, rfl, .inl rd⟩, h1, by omega, fun x hx => by have := h3 x hx; omega⟩
          · have mA : Mv a H J1 := mv.tr mv1
            have mB : Mv a H (upd J1 t (.tup [])) := mA.tr (Mv.new mA.2 nt)
            have mC : Mv a H (upd (upd J1 t (.tup [])) p3 (.lst ys)) := mB.tr (Mv.new mB.2 np3)
            have mD : Mv a H (upd (upd (upd J1 t (.tup [])) p3 (.lst ys)) p4 (.tup ys)) := mC.tr (Mv.new mC.2 np4)
            obtain ⟨es, pe, De⟩ := DqL.perm pm3 M1
            obtain ⟨rs', rfl, prs⟩ := rows_perm pe
            have kF : Kp No (upd J1 t (.tup [])) (upd (upd (upd (upd J1 t (.tup [])) p3 (.lst ys)) p4 (.tup ys)) p5 (.tup [.ref p, .ref t, .ref p4])) := ((Kp.new np3).tr (Kp.new np4)).tr (Kp.new np5)
            have free : ∀ {J : Hp} {q : Addr}, Mv a H J → J q = none → ¬ tracked H q := fun m n h => h (m.free hW n)
            have ep := kF p _ (fun z => z) ((upd_ne (ne_of_none e1 nt)).trans e1)
            have et := kF t _ (fun z => z) upd_same
            have e4 : (upd (upd (upd (upd J1 t (.tup [])) p3 (.lst ys)) p4 (.tup ys)) p5 (.tup [.ref p, .ref t, .ref p4])) p4 = some (.tup ys) := (upd_ne (ne_of_none upd_same np5)).trans upd_same
            refine q (.ref p5) (.tuple [dStrs ws, .tuple [], dRows rs']) _ (mD.tr (Mv.new mD.2 np5)) (.tup (.inl upd_same) (free mD np5) (.cons (.tup (.inr ⟨o, ep⟩) (free mv np) ?_) (.cons (.tup (.inl et) (free mA nt) .nil) (.cons (.tup (.inl e4) (free mC np4) ?_) .nil)))) ?_
            · clear e1 ep nmw nw lw
              induction ws with
              | nil => exact .nil
              | cons x ws ih => exact .cons (.str x) ih
            · exact (upL0 De kF).wk fun b h => yz _ (zT b h)
            · refine okd_tup.mpr ⟨by show 3 ≤ 30; decide, fun d hd' => ?_⟩
              simp only [List.mem_cons, List.not_mem_nil, or_false] at hd'
              rcases hd' with rfl | rfl | rfl
              · refine okd_tup.mpr ⟨by rw [List.length_map, lw]; decide, fun d hd' => ?_⟩
                obtain ⟨x, hx, rfl⟩ := List.mem_map.mp hd'
                have h : (!inV (.str x) (wordsL.map V.str) && ((decide (1 ≤ x.length) && decide (x.length ≤ 8)) && (firstOk x && x.cps.toList.all (fun c => letterC c || figureC c)))) = true := nmw x hx
                simp only [Bool.and_eq_true, decide_eq_true_iff] at h
                exact okd_str.mpr (by omega)
              · exact okd_tup.mpr ⟨by decide, fun d hd' => absurd hd' List.not_mem_nil⟩
              · refine okd_tup.mpr ⟨by rw [List.length_map, prs.length_eq]; omega, fun d hd' => ?_⟩
                obtain ⟨r, hr, rfl⟩ := List.mem_map.mp hd'
                obtain ⟨h1, h2, h3⟩ := alr r (prs.mem_iff.mp hr)
                exact okd_ints (m := 8) (by decide) h3 (by omega)
end
end GR

namespace KY
open PySem PySem.Spec PyProof.Rows L2 KL KS GR
section
variable {Z : Addr → Prop} {Pd Pe : PyData → Prop} {σ : L2.St} {H0 : Hp} {t ta tb : TE} {n m k l : Nat} {K : PySem.W.Frag}
/-- (..)[i] -/
theorem ys_pick {tr : TA} {j : Nat} {w : Int} (e : σ[j]? = some (some (.int w))) (w0 : 0 ≤ w) (w1 : w < k) (h : YA Z n k σ H0 tr) (hk : k ≤ 10000 := by omega) : YS Z (OK n) σ H0 (tOp (rIxT K) (tTup tr) (tVar j)) := fun H k0 Q q => h H k0 _ fun vs ds G k1 L all len =>
  ⟨by rw [L.len, len, sizeLine_eq]; omega, fun p np => by
    obtain ⟨i, rfl⟩ : ∃ i : Nat, w = (i : Int) := ⟨w.toNat, (Int.toNat_of_nonneg w0).symm⟩
    have hv : i < vs.length := by rw [L.len]; omega
    obtain ⟨d, hd, dq⟩ := L.get (List.getElem?_eq_getElem hv)
    exact ⟨_, e, p, vs, (i : Int), vs[i], rfl, rfl, .inl (.inl upd_same), atI_nat (List.getElem?_eq_getElem hv), q _ d _ (k1.tr (Kp.new np)) (up0 dq (Kp.new np)) (all d (List.mem_of_getElem? hd))⟩⟩
abbrev YI (Z : Addr → Prop) (i : Int) (σ : L2.St) (H0 : Hp) (t : TE) : Prop := YS Z (fun d => d = .int i) σ H0 t
theorem ys_i {i j k : Int} {f : Int → Int → V} (ha : YI Z i σ H0 ta) (hb : YI Z j σ H0 tb) (e : f i j = .int k) : YI Z k σ H0 (tOp (rI0 f) ta tb) := fun H k0 Q q => ha H k0 _ fun v d G k1 dq p => hb G (k0.tr k1) _ fun u e' J k2 du r => by
  subst p
  subst r
  cases dq
  cases du
  exact ⟨i, j, rfl, rfl, by rw [e]; exact q _ _ J (k1.tr k2) (.int k) rfl⟩
theorem ys_b {i j : Int} {b : Bool} {f : Int → Int → V} (ha : YI Z i σ H0 ta) (hb : YI Z j σ H0 tb) (e : f i j = .bl b) : YS Z (OK n) σ H0 (tOp (rI0 f) ta tb) := fun H k0 Q q => ha H k0 _ fun v d G k1 dq p => hb G (k0.tr k1) _ fun u e' J k2 du r => by
  subst p
  subst r
  cases dq
  cases du
  exact ⟨i, j, rfl, rfl, by rw [e]; exact q _ _ J (k1.tr k2) (.bl b) rfl⟩
theorem YS.iok {i : Int} (h : YI Z i σ H0 t) (w : i.natAbs < 2000) : YS Z (OK n) σ H0 t := h.mono fun d e => by
  subst e
  exact okd_int.mpr (Nat.lt_trans w (by decide))
/-- str(i) -/
theorem ys_istr {i : Int} (h : YI Z i σ H0 t) (w : i.natAbs < 2000) (hn : 20 ≤ n := by omega) : YS Z (OK n) σ H0 (tCB (fun xs H Q => ∃ i : Int, xs = [.int i] ∧ i.natAbs.log2 < 1920 ∧ Q (.str (toString i)) H) (tCons t tNil)) := fun H k0 Q q => h H k0 _ fun v d G k1 dq p => by
  subst p
  cases dq
  refine ⟨i, rfl, ?_, q _ _ G k1 (.str _) ?_⟩
  · have := PySem.Flt.log2_lt_of (n := i.natAbs) (k := 64) (by decide) (Nat.lt_trans w (by decide))
    omega
  · refine okd_str.mpr ?_
    have := int_text_length_le10 (a := i) (k := 8) (by decide) (Nat.lt_trans w (by decide))
    rw [PySem.ofString_length]
    omega
/-- s.upper() -/
theorem ys_upper (h : YS Z (OS n) σ H0 t) (hn : n ≤ 10000 := by omega) : YS Z (OS (3 * n)) σ H0 (tM0 (fun x xs H Q => ∃ a, x = .str a ∧ xs = [] ∧ a.length ≤ 5592405 ∧ Q (.str (Txt.upper a)) H) t) := fun H k0 Q q => h H k0 _ fun v d G k1 dq p => by
  obtain ⟨x, rfl, l⟩ := p
  cases dq
  have u := len_upper x
  exact ⟨⟨x, rfl⟩, x, rfl, rfl, by omega, q _ _ G k1 (.str _) ⟨_, rfl, by omega⟩⟩
theorem sq1 {i : Nat} {D : Ends} (h : YS Z Pd σ H0 t) (q : ∀ v d G, Kp No H0 G → Dq Z G v d → Pd d → D.nx (σ.set i (some v)) G) : tAsg t (gName i) D σ H0 := h H0 Kp.rfl' _ fun v d G k dq p => q v d G k dq p
end
theorem trk_of {Y : Addr → Prop} {a : Addr} {J J' : Hp} (h : ∀ b, Y b → tracked J b) (m : Mv a J J') : ∀ b, Y b → tracked J' b := fun b y => m.trk b (h b y)
theorem if_ans {c : TT} {t u : TS} {D : Ends} {σ : L2.St} {H : Hp} {b : Bool} (h : Ans c σ H b) (ht : b = true → t D σ H) (hu : b = false → u D σ H) : tIfS c t u D σ H := h _ (by
  cases b with
  | true => exact (if_pos rfl).mpr (ht rfl)
  | false => exact (if_neg Bool.false_ne_true).mpr (hu rfl))
/-- what a statement leaves, said once -/
theorem sq_then {t rest : TS} {D : Ends} {σ : L2.St} {H : Hp} (Pm : L2.St → Hp → Prop) (h : ∀ nx : L2.St → Hp → Prop, (∀ σ J, Pm σ J → nx σ J) → t { D with nx := nx } σ H) (q : ∀ σ J, Pm σ J → rest D σ J) : tSeq t rest D σ H := h (rest D) q
/-- a loop over a range that may be left by break: what follows is shown from the word at any turn -/
theorem forB {lo : Int} {n : Nat} {g : TG} {tb : TS} {D : Ends} {σ : L2.St} {H : Hp} (Pv : Nat → L2.St → Hp → Prop) (h0 : Pv 0 σ H) (hd : ∀ i σ J, i ≤ n → Pv i σ J → D.nx σ J)
    (hs : (∀ i σ J, i ≤ n → Pv i σ J → D.nx σ J) → ∀ i σ H, i < n → Pv i σ H → g (.int (lo + i)) σ H fun σ2 H2 => tb { D with nx := Pv (i + 1), ct := Pv (i + 1), bk := D.nx } σ2 H2) : ForW (Itr lo n) g tb D σ H :=
  for_range Pv h0 (hs hd) fun σ J p => hd n σ J (Nat.le_refl _) p
end KY
namespace GR
open PySem PySem.Spec PyProof.Rows L2 KL KG KS KV KY
theorem kit_str (K : PySem.W.Frag) (d : PyData) : PySem.W.kitOne K (.type (tyD d)) (.type "str") = some (match d with | .str _ => true | _ => false) := by
  cases d <;> exact kit_ty (by kernel_rfl)
/-! ### data that is bent -/
mutual
def nice : PyData → Bool
  | .int i => decide (i.natAbs ≤ 1000)
  | .str x => decide (x.length ≤ 64) && PyData.strOk x
  | .tuple ds => decide (ds.length ≤ 30) && niceL ds
  | _ => false
def niceL : List PyData → Bool
  | [] => true
  | d :: ds => nice d && niceL ds
end
theorem niceL_iff : ∀ {ds : List PyData}, niceL ds = true ↔ ∀ d ∈ ds, nice d = true
  | [] => by simp [niceL]
  | d :: ds => by simp only [niceL, Bool.and_eq_true, niceL_iff (ds := ds), List.mem_cons, forall_eq_or_imp]
theorem nice_tup {ds : List PyData} : nice (.tuple ds) = true ↔ ds.length ≤ 30 ∧ ∀ d ∈ ds, nice d = true := by
  simp only [nice, Bool.and_eq_true, niceL_iff, decide_eq_true_iff]
mutual
theorem nice_all : ∀ {d : PyData}, nice d = true → okd 30 d = true ∧ noDict d = true ∧ d.canLay0 = true
  | .int i, h => ⟨okd_int.mpr (by
      have : i.natAbs ≤ 1000 := by simpa [nice] using h
      exact Nat.lt_of_le_of_lt this (by decide)), rfl, rfl⟩
  | .str x, h => by
    have h : (decide (x.length ≤ 64) && PyData.strOk x) = true := by simpa [nice] using h
    rw [Bool.and_eq_true] at h
    exact ⟨okd_str.mpr (Nat.le_trans (of_decide_eq_true h.1) (by decide)), rfl, h.2⟩
  | .tuple ds, h => by
    obtain ⟨h1, h2⟩ := nice_tup.mp h
    obtain ⟨a, b, c⟩ := nice_allL (ds := ds) (niceL_iff.mpr h2)
    exact ⟨okd_tup.mpr ⟨h1, okdL_iff.mp a⟩, b, c⟩
  | .none, h => by simp [nice] at h
  | .bool _, h => by simp [nice] at h
  | .list _, h => by simp [nice] at h
  | .dict _, h => by simp [nice] at h
theorem nice_allL : ∀ {ds : List PyData}, niceL ds = true → okdL 30 ds = true ∧ noDictL ds = true ∧ PyData.canLayAll0 ds = true
  | [], _ => ⟨rfl, rfl, rfl⟩
  | d :: ds, h => by
    have h : (nice d && niceL ds) = true := by simpa [niceL] using h
    rw [Bool.and_eq_true] at h
    obtain ⟨a, b, c⟩ := nice_all h.1
    obtain ⟨x, y, z⟩ := nice_allL h.2
    refine ⟨?_, ?_, ?_⟩
    · show (okd 30 d && okdL 30 ds) = true
      rw [a, x]; rfl
    · show (noDict d && noDictL ds) = true
      rw [b, y]; rfl
    · show (d.canLay0 && PyData.canLayAll0 ds) = true
      rw [c, z]; rfl
end
theorem depth_mem : ∀ {ds : List PyData} {d : PyData}, d ∈ ds → d.depth ≤ PyData.depthAll ds
  | [], _, h => absurd h List.not_mem_nil
  | e :: ds, d, h => by
    simp only [PyData.depthAll]
    rcases List.mem_cons.mp h with rfl | h
    · omega
    · have := depth_mem h
      omega
def Nice (d : PyData) : Prop := nice d = true ∧ d.depth ≤ 20
theorem Nice.sub {ds : List PyData} {d : PyData} (h : Nice (.tuple ds)) (m : d ∈ ds) : Nice d := by
  refine ⟨(nice_tup.mp h.1).2 d m, ?_⟩
  have h2 := h.2
  simp only [PyData.depth] at h2
  have := depth_mem m
  omega
theorem Nice.shaped {d : PyData} (h : Nice d) : SeqAt.shaped d = true := by
  unfold SeqAt.shaped
  rw [(nice_all h.1).2.2, Bool.true_and]
  have := h.2
  exact decide_eq_true (by omega)
abbrev sBent : Stmt := topS 33
theorem scBent : FnScope ["well", "thing", "path", "here", "turn", "at", "way", "whole"] ["well", "thing"] (defScope sBent) := ⟨rfl, rfl, rfl, by decide +kernel, rfl, by decide +kernel, by decide +kernel⟩
def spBent : Sp := fun vs H Q _ => ∃ (a : Addr) (v : V) (d : PyData) (Z : Addr → Prop), vs = [.ref a, v] ∧ Wl H a ∧ (∀ b, Z b → tracked H b) ∧ Z a ∧ Dq Z H v d ∧ Nice d ∧ ∀ (v' : V) (d' : PyData) (G : Hp), Mv a H G → Dq Z G v' d' → okd 63 d' = true → Q v' G
/-- a part of the way down: a tuple and a place in it -/
def Wy (Z : Addr → Prop) (J : Hp) (x : V) : Prop := ∃ (t W : Addr) (ds : List PyData) (n : Nat), x = .ref t ∧ J t = some (.tup [.ref W, .int (n : Int)]) ∧ ¬ Z t ∧ Dq Z J (.ref W) (.tuple ds) ∧ Nice (.tuple ds) ∧ n < ds.length
theorem Wy.kp {Z : Addr → Prop} {J G : Hp} {x : V} (h : Wy Z J x) (k : Kp Z J G) : Wy Z G x := by
  obtain ⟨t, W, ds, n, h1, h2, h3, h4, h5, h6⟩ := h
  exact ⟨t, W, ds, n, h1, k _ _ h3 h2, h3, h4.kp k, h5, h6⟩
section
variable {P : Program} {w : World} {K : PySem.W.Frag} {mg : Str → Option Value} {base : Heap} {fD fO fDe : Addr} {fdD fdO fdDe : FuncData}
theorem ok_bent {f fW fX : Addr} {fd fdW fdX : FuncData} (F : Fun K "_law_bent" "_law_bent" sBent f fd) (FX : Fun K "_law_odd" "_law_odd" sOdd fX fdX) (gX : mg "_law_odd" = some (.ref fX)) (bX : L2.Binds K fdX ["well"] []) (FW : Fun K "_law_is_whole" "_law_is_whole" sWhole fW fdW) (gW : mg "_law_is_whole" = some (.ref fW)) (bW : L2.Binds K fdW ["thing"] []) (hI : mg "isinstance" = none) (hS : mg "str" = none) (hB : mg "bool" = none) (S : Dw K mg fD fO fDe fdD fdO fdDe) :
    FnOk P w K mg base CX0 4 f fd ["well", "thing"] spBent := by
  have GX : FnOk P w K mg base CX0 3 fX fdX ["well"] spOdd := ok_odd FX S.O S.D S.gO S.gD S.bO S.bD S.md S.mi S.ml
  have GW : FnOk P w K mg base CX0 1 fW fdW ["thing"] spWhole := ok_whole FW hI S.mi hB
  refine F.ok scBent (fun vs H Q E h => ?_) (fun cdv A outer s H vs Q E hr h => ?_)
  · obtain ⟨a, v, d, Z, rfl, _⟩ := h
    rfl
  · obtain ⟨a, v, d, Z, rfl, hW, hZ, za, dq, nd, q⟩ := h
    have hu : (A.deeper (envOfC (Str.ofString "_law_bent") (defScope sBent) s.heap.objs.size f cdv)).units + 64 < cLine := hr.units
    refine ⟨_, pss_cons (ps_par (i := 2) (j := 3) rfl scBent.nd rfl rfl (by decide) (by rfl) (by rfl) (pa_cons (pe_lst pa_nil) (pa_cons (pv 1) pa_nil)) (by rfl))
      (pss_cons (ps_for PassesOwn.never rfl (pi_range1 (by rfl) S.mr (pa_cons (pe_call S.okD (hr.mono (by decide)) (by rfl) S.gD S.D.kp S.bD .nil pass0 (pa_cons (pv 0) (pa_cons pe_int pa_nil))) pa_nil)) (pg_name (i := 4) scBent.nd rfl (.inl rfl))
      (pss_cons (ps_if (PW.pt (pw_or (pt_not (pt_val (pe_callB call_isi (by rfl) hI (by decide +kernel) (pa_cons (pv 3) (pa_cons (pe_bltn (u := .type "tuple") (by rfl) S.mt (by decide +kernel) (rt "tuple")) pa_nil))))) (pw_or1 (pt_cmpR (op_eqD hu) (pv 3) (pe_tup pa_nil) (nomark _))))) (pss_one (ps_break)) (pss_nil))
      (pss_cons (ps_set (i := 5) scBent.nd rfl (.inl rfl) (pe_call S.okD (hr.mono (by decide)) (by rfl) S.gD S.D.kp S.bD .nil pass0 (pa_cons (pv 0) (pa_cons (pe_callB call_len_seq (by rfl) S.ml PySem.boot_len (pa_cons (pv 3) pa_nil)) pa_nil))))
      (pss_cons (ps_expr (pe_bm PySem.F.plainAttrs_list PySem.F.slot_list_append PySem.F.type_list_append mt_append (pv 2) (pa_cons (pe_tup (pa_cons (pv 3) (pa_cons (pv 5) pa_nil))) pa_nil)))
      (pss_one (ps_set (i := 3) scBent.nd rfl (.inl rfl) (pe_ix ix_tup (pv 3) (pv 5) (fun _ _ => rfl))))))))
      (pss_cons (ps_set (i := 6) scBent.nd rfl (.inl rfl) (pe_call S.okD (hr.mono (by decide)) (by rfl) S.gD S.D.kp S.bD .nil pass0 (pa_cons (pv 0) (pa_cons pe_int pa_nil))))
      (pss_cons (ps_if (PW.pt (pw_and (pt_val (pe_callB call_isi (by rfl) hI (by decide +kernel) (pa_cons (pv 3) (pa_cons (pe_bltn (u := .type "tuple") (by rfl) S.mt (by decide +kernel) (rt "tuple")) pa_nil)))) (pw_and1 (pt_cmpR op_lt (pv 6) pe_int (nomark _))))) (pss_one (ps_set (i := 3) scBent.nd rfl (.inl rfl) (pe_ix ix_tup (pe_tup (pa_cons (pe_callTy call_lstM (by rfl) S.mL (by decide +kernel) (pa_cons (pv 3) pa_nil)) (pa_cons (pe_slice sl_tupA (pv 3) po_none (po_some (pe_un un_neg pe_int))) (pa_cons (pe_op op_catA (pv 3) (pe_slice sl_tupA (pv 3) po_none (po_some pe_int))) (pa_cons (pe_slice sl_tupA (pv 3) (po_some pe_int) po_none) (pa_cons (pe_revA (pv 3)) (pa_cons (pe_op op_catA (pv 3) (pe_tup (pa_cons pe_int pa_nil))) pa_nil))))))) (pv 6) (fun _ _ => rfl)))) (pss_one (ps_if (PW.pt (pw_and (pt_val (pe_call GW (hr.mono (by decide)) (by rfl) gW FW.kp bW .nil pass0 (pa_cons (pv 3) pa_nil))) (pw_and1 (pt_cmpR op_lt (pv 6) pe_int (nomark _))))) (pss_one (ps_set (i := 3) scBent.nd rfl (.inl rfl) (pe_ix ix_tup (pe_tup (pa_cons (pe_op op_add (pv 3) pe_int) (pa_cons (pe_op op_sub (pv 3) pe_int) (pa_cons (pe_op op_sub pe_int (pv 3)) (pa_cons (pe_cmpR op_gt (pv 3) pe_int (nomark _)) (pa_cons (pe_op op_sub pe_int (pv 3)) (pa_cons (pe_callTy call_str_int (by rfl) hS (by decide +kernel) (pa_cons (pv 3) pa_nil)) pa_nil))))))) (pv 6) (fun _ _ => rfl)))) (pss_one (ps_if (PW.pt (pw_and (pt_val (pe_callB call_isi (by rfl) hI (by decide +kernel) (pa_cons (pv 3) (pa_cons (pe_bltn (u := .type "str") (by rfl) hS (by decide +kernel) (rt "str")) pa_nil)))) (pw_and1 (pt_cmpR op_lt (pv 6) pe_int (nomark _))))) (pss_one (ps_set (i := 3) scBent.nd rfl (.inl rfl) (pe_ix ix_tup (pe_tup (pa_cons (pe_op op_add_str (pv 3) pe_str) (pa_cons (pe_slice sl_str (pv 3) (po_some pe_int) po_none) (pa_cons (pe_upper (pv 3)) (pa_cons (pe_op op_add_str (pv 3) pe_str) (pa_cons pe_str (pa_cons (pe_revA (pv 3)) pa_nil))))))) (pv 6) (fun _ _ => rfl)))) (pss_one (ps_set (i := 3) scBent.nd rfl (.inl rfl) (pe_call GX (hr.mono (by decide)) (by rfl) gX FX.kp bX .nil pass0 (pa_cons (pv 0) pa_nil)))))))))
      (pss_cons (ps_for PassesOwn.never rfl (pi_list (pe_revL (pv 2))) (pg_tup rfl (pgs_cons (pg_name (i := 7) scBent.nd rfl (.inl rfl)) (pgs_cons (pg_name (i := 5) scBent.nd rfl (.inl rfl)) pgs_nil)))
      (pss_one (ps_set (i := 3) scBent.nd rfl (.inl rfl) (pe_op op_catA (pe_op op_catA (pe_slice sl_tupA (pv 7) po_none (po_some (pv 5))) (pe_tup (pa_cons (pv 3) pa_nil))) (pe_slice sl_tupA (pv 7) (po_some (pe_op op_add (pv 5) pe_int)) po_none)))))
      (pss_one (ps_ret (pv 3))))))), ?_⟩
    refine ⟨by decide, fun P0 nP => ⟨v, rfl, .ref P0, v, rfl, ?_⟩⟩
    have hPa : a ≠ P0 := hW.ne nP
    generalize hY : (fun b => Z b ∨ b = P0) = Y
    have yP : Y P0 := by rw [← hY]; exact .inr rfl
    have yz : ∀ b, Z b → Y b := fun b h => by rw [← hY]; exact .inl h
    have ya := yz _ za
    have dY : Dq Y H v d := by rw [← hY]; exact Dq.out nP d v dq
    have hY0 : ∀ b, Y b → tracked (upd H P0 (.lst [])) b := fun b h => by
      rw [← hY] at h
      rcases h with h | h
      · exact (Kp.new (Z := No) nP).trk b (hZ b h)
      · intro n
        rw [h, upd_same] at n
        cases n
    have mk : ∀ {J J' : Hp}, Mv a J J' → Kp Y J J' := fun m => m.1.wk fun b e => by rw [e]; exact ya
    refine ⟨.ref a, rfl, a, 6, rfl, hW.new nP, by decide, by decide, fun r G r0 r1 mv0 => ⟨r, rfl, by omega, by omega, ?_⟩⟩
    obtain ⟨rn, rfl⟩ : ∃ rn : Nat, r = (rn : Int) := ⟨r.toNat, (Int.toNat_of_nonneg r0).symm⟩
    rw [show ((rn : Int)).toNat = rn by omega]
    -- all that holds from here on: the way at P0, what is here
    have trk : ∀ {J J' : Hp}, (∀ b, Y b → tracked J b) → Mv a J J' → ∀ b, Y b → tracked J' b := fun h m b y => m.trk b (h b y)
    refine forB (lo := 0) (n := rn) (fun i σ J => ∃ (xs : List V) (u : V) (e : PyData) (y z : Option V), σ = [some (.ref a), some v, some (.ref P0), some u, y, z, none, none] ∧ J P0 = some (.lst xs) ∧ (∀ x ∈ xs, Wy Y J x) ∧ xs.length ≤ i ∧ Dq Y J u e ∧ Nice e ∧ (∀ b, Y b → tracked J b) ∧ Mv a H J)
      ⟨[], v, d, none, none, rfl, mv0.1 P0 _ (fun h => hPa h.symm) upd_same, fun x hx => absurd hx List.not_mem_nil, Nat.le_refl _, (up0 dY (Kp.new nP)).kp (mk mv0), nd, trk hY0 mv0, (Mv.new hW nP).tr mv0⟩ ?_ ?_
    · rintro i0 σ J hi0 ⟨xs, u, e, y, z, rfl, eP, way, lx, du, ne, tY, mv⟩
      dsimp only
      refine ⟨.ref a, rfl, a, 9, rfl, mv.2, by decide, by decide, fun wy J1 w0 w1 mv1 => ?_⟩
      have eP1 := mv1.1 P0 _ (fun h => hPa h.symm) eP
      replace way : ∀ x ∈ xs, Wy Y J1 x := fun x hx => (way x hx).kp (mk mv1)
      replace du := du.kp (mk mv1)
      replace tY := KY.trk_of tY mv1
      replace mv := mv.tr mv1
      clear mv1 eP
      refine gn ?_
      dsimp only
      refine sq_then (fun σ J => ∃ (u : V) (e : PyData), σ = [some (.ref a), some v, some (.ref P0), some u, y, z, some (.int wy), none] ∧ J P0 = some (.lst xs) ∧ (∀ x ∈ xs, Wy Y J x) ∧ Dq Y J u e ∧ okd 63 e = true ∧ (∀ b, Y b → tracked J b) ∧ Mv a H J) (fun nx put => ?_) (fun σ J st => ?_)
      · have done : ∀ (u' : V) (e' : PyData) (G : Hp), Kp No J1 G → Dq Y G u' e' → okd 63 e' = true → nx [some (.ref a), some v, some (.ref P0), some u', y, z, some (.int wy), none] G := fun u' e' G k dq o =>
          put _ _ ⟨u', e', rfl, k _ _ (fun z => z) eP1, fun x hx => (way x hx).kp (k.wk fun _ z => z.elim), dq, o, fun b h => k.trk b (tY b h), mv.tr (mv_of k mv.2)⟩
        have six : ∀ {σ : L2.St}, σ[6]? = some (some (.int wy)) → Ans (tTest (tOp (rI0 fun i j => .bl (decide (i < j))) (tVar 6) (tC (.int 6)))) σ J1 (decide (wy < 6)) := fun h Q q => ⟨_, h, wy, 6, rfl, rfl, _, rfl, q⟩
        have m1 : ∀ {Y : Addr → Prop} {σ : L2.St} {J : Hp}, YS Y OI σ J (tUn (rU fun i => .int (-i)) (tC (.int 1))) := fun {Y σ J} H1 k Q q => ⟨1, rfl, q _ _ H1 Kp.rfl' (.int (-1)) ⟨-1, rfl, by decide⟩⟩
        have one : OI (.int 1) := ⟨1, rfl, by decide⟩
        refine if_ans (ans_and2 (ans_val fun Q q => ⟨u, rfl, u, _, _, _, _, rfl, .ty "tuple", dq_tx du, kit_tup K e, q⟩) (six rfl)) (fun c => ?_) (fun c => ?_)
        · rw [Bool.and_eq_true] at c
          obtain ⟨ds, rfl⟩ : ∃ ds, e = .tuple ds := by
            cases e with
            | tuple ds => exact ⟨ds, rfl⟩
            | _ => exact absurd c.1 Bool.false_ne_true
          have o64 : OT 30 (.tuple ds) := ⟨(nice_all ne.1).1, _, rfl⟩
          refine sq1 (Z := Y) (Pd := OK 63) ?_ fun u' e' G k dq o => done u' e' G k dq o
          refine ys_pick (k := 6) rfl w0 (by have := of_decide_eq_true c.2; omega) ?_
          exact ya_cons ((ys_list tY (ys_var rfl du o64)).mono fun _ p => okd_up (by decide) p) (ya_cons (ys_sl tY (ys_var rfl du o64) yp_none (yp_some (Z := Y) m1)).ok (ya_cons (ys_cat tY (ys_var rfl du o64) (ys_sl tY (ys_var rfl du o64) yp_none (yp_some (Z := Y) (ys_int one)))).ok
            (ya_cons (ys_sl tY (ys_var rfl du o64) (yp_some (Z := Y) (ys_int one)) yp_none).ok (ya_cons (ys_rev tY (ys_var rfl du o64)).ok (ya_cons (ys_cat tY (ys_var rfl du o64) (ys_tup (n := 30) tY (ya_cons (ys_int (okd_int.mpr (by decide))) ya_nil))).ok ya_nil)))))
        · refine if_ans (ans_and2 (ans_val fun Q q => ⟨u, rfl, u, e, Y, rfl, du, q⟩) (six rfl)) (fun c => ?_) (fun c => ?_)
          · rw [Bool.and_eq_true] at c
            obtain ⟨i, rfl⟩ : ∃ i, e = .int i := by
              cases e with
              | int i => exact ⟨i, rfl⟩
              | _ => exact absurd c.1 Bool.false_ne_true
            have si : i.natAbs ≤ 1000 := by simpa [nice] using ne.1
            refine sq1 (Z := Y) (Pd := OK 63) ?_ fun u' e' G k dq o => done u' e' G k dq o
            refine ys_pick (k := 6) rfl w0 (by have := of_decide_eq_true c.2; omega) ?_
            have vi : ∀ {σ : L2.St}, σ[3]? = some (some u) → YI Y i σ J1 (tVar 3) := fun h => ys_var h du rfl
            have ci : ∀ {σ : L2.St} {j : Int}, YI Y j σ J1 (tC (.int j)) := ys_int rfl
            exact ya_cons ((ys_i (vi rfl) ci rfl).iok (by omega)) (ya_cons ((ys_i (vi rfl) ci rfl).iok (by omega)) (ya_cons ((ys_i ci (vi rfl) rfl).iok (by omega)) (ya_cons (ys_b (vi rfl) ci rfl) (ya_cons ((ys_i ci (vi rfl) rfl).iok (by omega)) (ya_cons (ys_istr (vi rfl) (by omega)) ya_nil)))))
          · refine if_ans (ans_and2 (ans_val fun Q q => ⟨u, rfl, u, _, _, _, _, rfl, .ty "str", dq_tx du, kit_str K e, q⟩) (six rfl)) (fun c => ?_) (fun c => ?_)
            · rw [Bool.and_eq_true] at c
              obtain ⟨x, rfl⟩ : ∃ x, e = .str x := by
                cases e with
                | str x => exact ⟨x, rfl⟩
                | _ => exact absurd c.1 Bool.false_ne_true
              have sx : OS 64 (.str x) := ⟨_, rfl, by
                have z : (decide (x.length ≤ 64) && PyData.strOk x) = true := by simpa [nice] using ne.1
                rw [Bool.and_eq_true] at z
                exact of_decide_eq_true z.1⟩
              refine sq1 (Z := Y) (Pd := OK 63) ?_ fun u' e' G k dq o => done u' e' G k dq o
              refine ys_pick (k := 6) rfl w0 (by have := of_decide_eq_true c.2; omega) ?_
              have vs : ∀ {σ : L2.St}, σ[3]? = some (some u) → YS Y (OS 64) σ J1 (tVar 3) := fun h => ys_var h du sx
              have cs : ∀ {σ : L2.St} {y : Str}, y.length ≤ 10 → YS Y (OS 10) σ J1 (tC (.str y)) := fun h => ys_str ⟨_, rfl, h⟩
              exact ya_cons (ys_catS (vs rfl) (cs (by decide))).okS (ya_cons (ys_slS (vs rfl) (yp_some (Z := Y) (ys_int one)) yp_none).okS (ya_cons (ys_upper (vs rfl)).okS (ya_cons (ys_catS (vs rfl) (cs (by decide))).okS (ya_cons (cs (by decide)).okS (ya_cons (ys_revS (vs rfl)).okS ya_nil)))))
            · refine ⟨.ref a, rfl, a, rfl, mv.2, fun u' e' G mv2 dq gd od => ?_⟩
              exact put _ _ ⟨u', e', rfl, mv2.1 P0 _ (fun h => hPa h.symm) eP1, fun x hx => (way x hx).kp (mk mv2), dq.wk tY, okd_up (by decide) (List.all_eq_true.mp odds_ok _ od), KY.trk_of tY mv2, mv.tr mv2⟩
      · obtain ⟨u, e, rfl, eP, way, du, oe, tY, mv⟩ := st
        refine ⟨.ref P0, rfl, P0, xs, rfl, .inl (.inl eP), fun R nR => ⟨R, rfl, ⟨_, .inl (.inl upd_same)⟩, for_list (K := K) (a := R) (xs := xs.reverse) (fun i σ J => ∃ (u : V) (e : PyData) (z wh : Option V), σ = [some (.ref a), some v, some (.ref P0), some u, y, z, some (.int wy), wh] ∧ J R = some (.lst xs.reverse) ∧ (∀ x ∈ xs, Wy Y J x) ∧ Dq Y J u e ∧ okd 63 e = true ∧ (∀ b, Y b → tracked J b) ∧ Mv a H J)
          ⟨u, e, z, none, rfl, upd_same, fun x hx => (way x hx).kp (Kp.new nR), up0 du (Kp.new nR), oe, fun b h => (Kp.new (Z := No) nR).trk b (tY b h), mv.tr (Mv.new mv.2 nR)⟩ (fun i σ J _ ⟨_, _, _, _, _, e, _⟩ => .inl (.inl e)) ?_ ?_⟩⟩
        · rintro i x σ J hx ⟨u, e, z, wh, rfl, eR, way, du, oe, tY, mv⟩
          obtain ⟨t, W, ds, n, rfl, et, zt, dW, nW, hn⟩ := way x (List.mem_reverse.mp (List.mem_of_getElem? hx))
          have l64 : ds.length ≤ 30 := (nice_tup.mp nW.1).1
          have o64 : OT 30 (.tuple ds) := ⟨(nice_all nW.1).1, _, rfl⟩
          have on : OI (.int (n : Int)) := ⟨_, rfl, Nat.lt_of_le_of_lt (m := 64) (by omega) (by decide)⟩
          refine ⟨t, _, rfl, .inl (.inl et), rfl, .ref W, _, rfl, .int (n : Int), _, rfl, rfl, ?_⟩
          dsimp only
          refine sq1 (Z := Y) (Pd := OK 63) ?_ fun u' e' G k dq o => ?_
          · have iN : ∀ {σ : L2.St} {i : Nat}, σ[i]? = some (some (.int (n : Int))) → YI Y (n : Int) σ J (tVar i) := fun h => ys_var h (.int _) rfl
            have wl : ∀ {σ : L2.St} {i : Nat}, σ[i]? = some (some (.ref W)) → YS Y (OL 30 63) σ J (tVar i) := fun h => (ys_var h dW o64).ol
            exact (ys_catL tY (ys_catL tY (ys_slL tY (wl rfl) yp_none (yp_some (Z := Y) (ys_var rfl (.int _) on))) (ys_tupL (k := 1) (l := 1) tY (ya_cons (ys_var rfl du oe) ya_nil))) (ys_slL tY (wl rfl) (yp_some (Z := Y) ((ys_i (iN rfl) (ys_int (i := 1) rfl) rfl).mono fun d h => ⟨_, h, Nat.lt_of_le_of_lt (m := 65) (by omega) (by decide)⟩)) yp_none)).okL
          · exact ⟨u', e', _, _, rfl, k _ _ (fun z => z) eR, fun x hx => (way x hx).kp (k.wk fun _ z => z.elim), dq, o, fun b h => k.trk b (tY b h), mv.tr (mv_of k mv.2)⟩
        · rintro σ J ⟨u, e, z, wh, rfl, eR, way, du, oe, tY, mv⟩
          exact ⟨u, rfl, q u e J mv (du.wk yz) oe⟩
    · rintro after i σ J hi ⟨xs, u, e, y, z, rfl, eP, way, lx, du, ne, tY, mv⟩
      refine ⟨u, rfl, u, _, _, _, _, rfl, .ty "tuple", dq_tx du, kit_tup K e, _, rfl, ifte (fun c => ?_) (fun c => ?_)⟩
      · refine iteT ?_
        exact after i _ _ (by omega) ⟨xs, u, e, some (.int (0 + (i : Int))), z, rfl, eP, way, lx, du, ne, tY, mv⟩
      obtain ⟨ds, rfl⟩ : ∃ ds, e = .tuple ds := by
        cases e with
        | tuple ds => exact ⟨ds, rfl⟩
        | _ => exact absurd c.symm Bool.false_ne_true
      obtain ⟨W, ws, _, rfl, h0, eW, zW, LW, lW, oW⟩ := tup_at (n := 30) du ⟨(nice_all ne.1).1, _, rfl⟩
      cases h0
      refine ⟨.ref W, rfl, by decide, fun t nt => ⟨.tuple ds, .tuple [], .tup (.inl (rd_kp (Kp.new (Z := No) nt) (fun z => z) eW)) (DqL.dp _ _ (by simpa [noDict] using (nice_all ne.1).2.1) (upL0 LW (Kp.new nt))), .tup (.inl (.inl upd_same)) .nil, ne.shaped, by decide, _, rfl, ?_⟩⟩
      have lw := LW.len
      have m1 : Mv a H (upd J t (.tup [])) := mv.tr (Mv.new mv.2 nt)
      have tY1 : ∀ b, Y b → tracked (upd J t (.tup [])) b := fun b h => (Kp.new (Z := No) nt).trk b (tY b h)
      have way1 : ∀ x ∈ xs, Wy Y (upd J t (.tup [])) x := fun x hx => (way x hx).kp (Kp.new nt)
      have du1 := up0 du (Kp.new (o := .tup []) nt)
      have eP1 : (upd J t (.tup [])) P0 = some (.lst xs) := (upd_ne (ne_of_none eP nt)).trans eP
      have eW1 := rd_kp (Kp.new (Z := No) (o := .tup []) nt) (fun z => z) eW
      have LW1 := upL0 LW (Kp.new (o := .tup []) nt)
      refine ifte (fun c2 => after i _ _ (by omega) ⟨xs, .ref W, .tuple ds, some (.int (0 + (i : Int))), z, rfl, eP1, way1, lx, du1, ne, tY1, m1⟩) (fun c2 => ?_)
      have pos : 0 < ds.length := by
        cases ds with
        | nil => exact absurd c2 (by decide)
        | cons x l => exact Nat.succ_pos _
      generalize upd J t (.tup []) = J1 at m1 tY1 way1 du1 eP1 eW1 LW1 ⊢
      refine ⟨.ref a, rfl, .ref W, rfl, W, ws, rfl, .inr (.inl eW1), a, (ws.length : Int), rfl, m1.2, by omega, by omega, fun k J2 k0 k1 mv2 => ?_⟩
      obtain ⟨kn, rfl⟩ : ∃ kn : Nat, k = (kn : Int) := ⟨k.toNat, (Int.toNat_of_nonneg k0).symm⟩
      refine gn ?_
      dsimp only
      have hk : kn < ws.length := by omega
      have eP2 := mv2.1 P0 _ (fun h => hPa h.symm) eP1
      have m2 := m1.tr mv2
      have tY2 := trk tY1 mv2
      have du2 := du1.kp (mk mv2)
      have LW2 := LW1.kp (mk mv2)
      have eW2 := rd_kp (mk mv2) zW eW1
      have way2 : ∀ x ∈ xs, Wy Y J2 x := fun x hx => (way1 x hx).kp (mk mv2)
      refine ⟨.ref P0, rfl, .inl ⟨rfl, xs, .inl (.inl eP2)⟩, .ref W, rfl, .int (kn : Int), rfl, by show 2 ≤ sizeLine; decide, fun t2 nt2 => ?_⟩
      have eP3 : (upd J2 t2 (.tup [.ref W, .int (kn : Int)])) P0 = some (.lst xs) := (upd_ne (ne_of_none eP2 nt2)).trans eP2
      refine ⟨P0, xs, _, rfl, rfl, eP3, by rw [sizeLine_eq]; omega, ?_⟩
      have zt2 : ¬ Y t2 := fun h => tY2 t2 h nt2
      have k3 : Kp Y J2 (upd (upd J2 t2 (.tup [.ref W, .int (kn : Int)])) P0 (.lst (xs ++ [.ref t2]))) := (Kp.new nt2).tr (Kp.at yP)
      have m3 : Mv a H (upd (upd J2 t2 (.tup [.ref W, .int (kn : Int)])) P0 (.lst (xs ++ [.ref t2]))) := (m2.tr (Mv.new m2.2 nt2)).off hW nP
      have e2 : (upd (upd J2 t2 (.tup [.ref W, .int (kn : Int)])) P0 (.lst (xs ++ [.ref t2]))) t2 = some (.tup [.ref W, .int (kn : Int)]) := by
        rw [upd_ne (fun (h : t2 = P0) => zt2 (by rw [h]; exact yP))]
        exact upd_same
      have tY3 : ∀ b, Y b → tracked (upd (upd J2 t2 (.tup [.ref W, .int (kn : Int)])) P0 (.lst (xs ++ [.ref t2]))) b := fun b h => by
        by_cases hb : b = P0
        · rw [hb]
          intro n
          rw [upd_same] at n
          cases n
        · intro n
          rw [upd_ne hb] at n
          exact (Kp.new (Z := No) (o := .tup [.ref W, .int (kn : Int)]) nt2).trk b (tY2 b h) n
      have eP4 : (upd (upd J2 t2 (.tup [.ref W, .int (kn : Int)])) P0 (.lst (xs ++ [.ref t2]))) P0 = some (.lst (xs ++ [.ref t2])) := upd_same
      generalize upd (upd J2 t2 (.tup [.ref W, .int (kn : Int)])) P0 (.lst (xs ++ [.ref t2])) = J3 at k3 m3 e2 tY3 eP4 ⊢
      dsimp only
      have LW3 := LW2.kp k3
      obtain ⟨dk, hdk, qk⟩ := LW3.get (List.getElem?_eq_getElem hk)
      have eW3 := rd_kp k3 zW eW2
      refine ⟨.ref W, rfl, .int (kn : Int), rfl, W, ws, (kn : Int), ws[kn], rfl, rfl, .inl eW3, atI_nat (List.getElem?_eq_getElem hk), ?_⟩
      refine ⟨xs ++ [.ref t2], ws[kn], dk, _, _, rfl, eP4, fun x hx => ?_, by rw [List.length_append]; show xs.length + 1 ≤ _; omega, qk, ne.sub (List.mem_of_getElem? hdk), tY3, m3⟩
      rcases List.mem_append.mp hx with h | h
      · exact (way2 x h).kp k3
      · exact ⟨t2, W, ds, kn, List.mem_singleton.mp h, e2, zt2, du2.kp k3, ne, by omega⟩
end
end GR

namespace KY
open PySem PySem.Spec PyProof.Rows L2 KL KS GR
theorem if_ansH {c : TT} {t u : TS} {D : Ends} {σ : L2.St} {H : Hp} {b : Bool} (P : Hp → Prop) (h : ∀ Q : Bool → Hp → Prop, (∀ G, P G → Q b G) → c σ H Q) (ht : b = true → ∀ G, P G → t D σ G) (hu : b = false → ∀ G, P G → u D σ G) : tIfS c t u D σ H := h _ fun G p => by
  cases b with
  | true => exact (if_pos rfl).mpr (ht rfl G p)
  | false => exact (if_neg Bool.false_ne_true).mpr (hu rfl G p)
/-- a list of truths that a comprehension has made so far -/
def PvB (f : Nat → Bool) (H : Hp) (D : Addr) (i : Nat) (J : Hp) : Prop := J D = some (.lst (((List.range i).map f).map V.bl)) ∧ Kp No H J
theorem PvB.zero {f : Nat → Bool} {H : Hp} {D : Addr} (nD : H D = none) : PvB f H D 0 (upd H D (.lst [])) := ⟨upd_same, Kp.new nD⟩
theorem PvB.step {f : Nat → Bool} {H J G : Hp} {D : Addr} {i : Nat} {b : Bool} (p : PvB f H D i J) (nD : H D = none) (k : Kp No J G) (hi : i ≤ 1000) (e : b = f i) : ∃ acc, G D = some (.lst acc) ∧ acc.length < sizeLine ∧ PvB f H D (i + 1) (upd G D (.lst (acc ++ [.bl b]))) := by
  refine ⟨_, k _ _ (fun z => z) p.1, by rw [List.length_map, List.length_map, List.length_range, sizeLine_eq]; omega, ?_, Kp.off (p.2.tr k) nD⟩
  rw [upd_same, List.range_succ, List.map_append, List.map_append, e]
  rfl
theorem range_all {α : Type} (p : α → Bool) : ∀ xs : List α, ∀ f : Nat → Bool, (∀ i x, xs[i]? = some x → f i = p x) → ((List.range xs.length).map f).all id = xs.all p := by
  intro xs f h
  rw [List.all_map]
  have e1 : xs.all p = (List.range xs.length).all f := by
    rw [Bool.eq_iff_iff, List.all_eq_true, List.all_eq_true]
    constructor
    · intro a i hi
      have hi := List.mem_range.mp hi
      rw [h i _ (List.getElem?_eq_getElem hi)]
      exact a _ (List.getElem_mem hi)
    · intro a x hx
      obtain ⟨i, hi, e⟩ := List.getElem_of_mem hx
      rw [← h i x (by rw [← e]; exact List.getElem?_eq_getElem hi)]
      exact a i (List.mem_range.mpr hi)
  rw [e1]
  rfl
/-- two ascending rows of the same things are one -/
theorem asc_unique {α : Type} {lt : α → α → Prop} (irr : ∀ x, ¬ lt x x) (tr : ∀ {x y z}, lt x y → lt y z → lt x z) : ∀ {xs ys : List α}, xs.Pairwise lt → ys.Pairwise lt → (∀ k, k ∈ xs ↔ k ∈ ys) → xs = ys
  | [], [], _, _, _ => rfl
  | [], y :: ys, _, _, h => absurd ((h y).mpr List.mem_cons_self) List.not_mem_nil
  | x :: xs, [], _, _, h => absurd ((h x).mp List.mem_cons_self) List.not_mem_nil
  | x :: xs, y :: ys, a, b, h => by
    obtain ⟨a1, a2⟩ := List.pairwise_cons.mp a
    obtain ⟨b1, b2⟩ := List.pairwise_cons.mp b
    have e : x = y := by
      rcases List.mem_cons.mp ((h x).mp List.mem_cons_self) with z | z
      · exact z
      · rcases List.mem_cons.mp ((h y).mpr List.mem_cons_self) with w | w
        · exact w.symm
        · exact absurd (tr (a1 y w) (b1 x z)) (irr x)
    subst e
    refine congrArg (x :: ·) (asc_unique irr tr a2 b2 fun k => ⟨fun m => ?_, fun m => ?_⟩)
    · rcases List.mem_cons.mp ((h k).mp (List.mem_cons_of_mem _ m)) with z | z
      · exact absurd (z ▸ a1 k m) (irr _)
      · exact z
    · rcases List.mem_cons.mp ((h k).mpr (List.mem_cons_of_mem _ m)) with z | z
      · exact absurd (z ▸ b1 k m) (irr _)
      · exact z
end KY
namespace GR
open PySem PySem.Spec PyProof.Rows L2 KL KG KS KV KY
/-! ### the law's look at a lot -/
abbrev sIsLot : Stmt := topS 38
theorem scIsLot : FnScope ["few", "thing", "each"] ["few", "thing"] (defScope sIsLot) := ⟨rfl, rfl, rfl, by decide +kernel, rfl, by decide +kernel, by decide +kernel⟩
def spIsLot : Sp := fun vs H Q _ => ∃ (n : Int) (v : V) (d : PyData) (Z : Addr → Prop), vs = [.int n, v] ∧ Dq Z H v d ∧ okd 63 d = true ∧ ∀ G, Kp No H G → Q (.bl (isLotD n d)) G
theorem eqv_ints : ∀ ms ns : List Int, PyData.eqvAll (ms.map PyData.int) (ns.map PyData.int) = decide (ms = ns)
  | [], [] => rfl
  | [], _ :: _ => rfl
  | _ :: _, [] => rfl
  | m :: ms, n :: ns => by
    show (PyData.eqv (.int m) (.int n) && PyData.eqvAll (ms.map PyData.int) (ns.map PyData.int)) = _
    rw [eqv_ints ms ns]
    show ((m == n) && decide (ms = ns)) = _
    by_cases h : m = n
    · rw [beq_iff_eq.mpr h, Bool.true_and]
      exact decide_eq_decide.mpr ⟨fun e => by rw [h, e], fun e => (List.cons.inj e).2⟩
    · rw [beq_eq_false_iff_ne.mpr h, Bool.false_and]
      exact (decide_eq_false fun e => h (List.cons.inj e).1).symm
theorem shaped_intsL (ns : List Int) : SeqAt.shaped (.list (ns.map PyData.int)) = true := shaped_ints ns
theorem DpAll.ints {K : PySem.W.Frag} {H : Hp} : ∀ ns : List Int, DpAll K H (ns.map V.int) (ns.map PyData.int)
  | [] => .nil
  | n :: ns => .cons (.int n) (DpAll.ints ns)
section
variable {P : Program} {w : World} {K : PySem.W.Frag} {mg : Str → Option Value} {base : Heap}
theorem ok_islot {f fW : Addr} {fd fdW : FuncData} (F : Fun K "_law_is_lot" "_law_is_lot" sIsLot f fd) (FW : Fun K "_law_is_whole" "_law_is_whole" sWhole fW fdW) (gW : mg "_law_is_whole" = some (.ref fW)) (bW : L2.Binds K fdW ["thing"] []) (N : Nm mg) (hI : mg "isinstance" = none) (hB : mg "bool" = none) (hSo : mg "sorted" = none) (hL : mg "list" = none) :
    FnOk P w K mg base CX0 2 f fd ["few", "thing"] spIsLot := by
  have GW : FnOk P w K mg base CX0 1 fW fdW ["thing"] spWhole := ok_whole FW hI N.int hB
  refine F.ok scIsLot (fun vs H Q E h => ?_) (fun cdv A outer s H vs Q E hr h => ?_)
  · obtain ⟨n, v, d, Z, rfl, _⟩ := h
    rfl
  · obtain ⟨n, v, d, Z, rfl, dq, od, q⟩ := h
    have hu : (A.deeper (envOfC (Str.ofString "_law_is_lot") (defScope sIsLot) s.heap.objs.size f cdv)).units + 64 < cLine := hr.units
    refine ⟨_, pss_cons (ps_if (PW.pt (pw_or (pt_not (pt_val (pe_callB call_isi (by rfl) hI (by decide +kernel) (pa_cons (pv 1) (pa_cons (pe_bltn (u := .type "tuple") (by rfl) N.tup (by decide +kernel) (rt "tuple")) pa_nil))))) (pw_or1 (pt_not (pt_val (pe_callB (cr_all rfl) (by rfl) N.all (by decide +kernel) (pa_cons (pe_lc (own := [("each", 2)]) (g := gName 2) (tt := tYes) rfl scIsLot.nd (pi_tup (pv 1)) (blkOk_by (N := ["few", "thing", "each"]) (sc := defScope sIsLot) (by decide +kernel)) (fun _ _ _ _ _ => (pg_name (i := 2) scIsLot.nd rfl (.inl rfl))) (fun _ _ _ _ _ => pts_nil) (fun _ _ _ _ _ => (pe_and (pe_call GW (hr.mono (by decide)) (by rfl) gW FW.kp bW .nil pass0 (pa_cons (pv 2) pa_nil)) (pe_one (pe_chain op_le op_lt pe_int (pv 2) (pv 0)))))) pa_nil))))))) (pss_one (ps_ret pe_bl)) (pss_nil))
      (pss_one (ps_ret (pe_cmpR (op_eqD hu) (pe_callB (cr_sortedSet rfl) (by rfl) hSo (by decide +kernel) (pa_cons (pe_callTy (cr_setI rfl) (by rfl) N.set (by decide +kernel) (pa_cons (pv 1) pa_nil)) pa_nil)) (pe_callTy call_list_of (by rfl) hL (by decide +kernel) (pa_cons (pv 1) pa_nil)) (nomark _)))), ?_⟩
    refine if_ansH (b := !(isTupD d && (match d with | .tuple ds => ds.all (inB n) | _ => false))) (fun G => Kp No H G) (fun R r => ?_) (fun c G kG => ?_) (fun c G kG => ?_)
    · refine ⟨v, rfl, v, _, _, _, _, rfl, .ty "tuple", dq_tx dq, kit_tup K d, _, rfl, ifte (fun c => ?_) (fun c => ?_)⟩
      · have e : isTupD d = false := by
          have c : (!isTupD d) = true := c
          cases h : isTupD d with
          | false => rfl
          | true => rw [h] at c; cases c
        have r := r H Kp.rfl'
        rw [e] at r
        exact r
      · obtain ⟨ds, rfl⟩ : ∃ ds, d = .tuple ds := by
          cases d with
          | tuple ds => exact ⟨ds, rfl⟩
          | _ => exact absurd c.symm Bool.false_ne_true
        obtain ⟨a, xs, _, rfl, h0, ea, za, L, ll, oo⟩ := tup_at (n := 63) dq ⟨od, _, rfl⟩
        cases h0
        have lx := L.len
        refine ⟨.ref a, rfl, a, rfl, ⟨xs, .inl ea⟩, fun D nD => ?_⟩
        refine lc_tup (K := K) (a := a) (xs := xs) (PvB (fun i => match ds[i]? with | some e => inB n e | none => false) H D) (PvB.zero nD) (fun i J _ p => .inl (rd_kp p.2 (fun z => z) ea)) ?_ ?_
        · rintro i x J hx p
          have hi : i ≤ 1000 := by
            have := (List.getElem?_eq_some_iff.mp hx).1
            omega
          obtain ⟨e, he, dx⟩ := L.get hx
          have dx := up0 dx p.2
          refine ⟨rfl, tyes ⟨x, rfl, x, e, Z, rfl, dx, _, rfl, ifte (fun c1 => ?_) (fun c1 => ?_)⟩⟩
          · obtain ⟨k, rfl⟩ : ∃ k, e = .int k := by
              cases e with
              | int k => exact ⟨k, rfl⟩
              | _ => exact absurd c1 Bool.false_ne_true
            cases dx
            refine ⟨.int k, rfl, 0, k, rfl, rfl, _, rfl, ifte (fun c2 => ⟨.int n, rfl, k, n, rfl, rfl, p.step nD Kp.rfl' hi ?_⟩) (fun c2 => p.step nD Kp.rfl' hi ?_)⟩
            · rw [he]
              show decide (k < n) = (decide (0 ≤ k) && decide (k < n))
              rw [c2, Bool.true_and]
            · rw [he]
              show false = (decide (0 ≤ k) && decide (k < n))
              rw [c2, Bool.false_and]
          · refine p.step nD Kp.rfl' hi ?_
            rw [he]
            cases e with
            | int k => exact absurd c1.symm Bool.false_ne_true
            | _ => rfl
        · rintro J ⟨eJ, kJ⟩
          refine ⟨D, _, rfl, .inl (.inl eJ), _, rfl, ?_⟩
          have e : ((List.range xs.length).map fun i => match ds[i]? with | some e => inB n e | none => false).all id = ds.all (inB n) := by
            rw [lx]
            exact range_all (inB n) ds _ fun i x hx => by rw [hx]
          rw [e]
          exact r J kJ
    · have e : isLotD n d = false := by
        cases d with
        | tuple ds =>
          have c : (!(true && ds.all (inB n))) = true := c
          show (ds.all (inB n) && ascL (ds.map valI)) = false
          cases h : ds.all (inB n) with
          | false => rfl
          | true => rw [h] at c; cases c
        | _ => rfl
      have z := q G kG
      rw [e] at z
      exact z
    · obtain ⟨ds, rfl⟩ : ∃ ds, d = .tuple ds := by
        cases d with
        | tuple ds => exact ⟨ds, rfl⟩
        | _ => exact absurd c (by simp [isTupD])
      have all : ds.all (inB n) = true := by
        have c : (!(true && ds.all (inB n))) = false := c
        cases h : ds.all (inB n) with
        | true => rfl
        | false => rw [h] at c; cases c
      obtain ⟨a, xs, _, rfl, h0, ea, za, L, ll, oo⟩ := tup_at (n := 63) dq ⟨od, _, rfl⟩
      cases h0
      have ex := dql_int L all
      have lx := L.len
      have ea2 := rd_kp kG (fun z => z) ea
      rw [ex] at ea2
      generalize hns : ds.map valI = ns at ex ea2
      have ln : ns.length ≤ 63 := by rw [← hns, List.length_map]; exact ll
      dsimp only
      refine ⟨.ref a, rfl, a, ns, rfl, .inl ea2, by omega, fun b c0 nb lc => ⟨b, _, c0, rfl, upd_same, by omega, fun ms p pw mem lm np => ⟨.ref a, rfl, a, ns.map V.int, rfl, .inr (.inl ?_), fun l nl => ?_⟩⟩⟩
      · exact rd_kp ((Kp.new nb).tr (Kp.new np)) (fun z : No a => z) ea2
      · refine ⟨.list (ms.map .int), .list (ns.map .int), .lst (.inl (.inl ((upd_ne (ne_of_none upd_same nl)).trans upd_same))) (DpAll.ints ms), .lst (.inl (.inl upd_same)) (DpAll.ints ns), shaped_intsL ms, shaped_intsL ns, ?_⟩
        have e : isLotD n (.tuple ds) = PyData.eqv (.list (ms.map .int)) (.list (ns.map .int)) := by
          show (ds.all (inB n) && ascL (ds.map valI)) = PyData.eqvAll (ms.map .int) (ns.map .int)
          rw [all, hns, eqv_ints, Bool.true_and]
          have mem' : ∀ k, k ∈ ms ↔ k ∈ ns := fun k => (mem k).trans (by simp)
          by_cases h : ms = ns
          · rw [decide_eq_true h, ← h]
            exact asc_of pw
          · rw [decide_eq_false h]
            cases h2 : ascL ns with
            | false => rfl
            | true => exact absurd (asc_unique (fun x => Int.lt_irrefl x) (fun a b => Int.lt_trans a b) pw (asc_to h2) mem') h
        show Q (.bl (PyData.eqv (.list (ms.map .int)) (.list (ns.map .int)))) _
        rw [← e]
        exact q _ (((kG.tr (Kp.new nb)).tr (Kp.new np)).tr (Kp.new nl))
end
end GR

namespace KS
open PySem PySem.Spec PyProof.Rows L2
/-- [.. for c in s] -/
theorem lc_str {z : Str} {g : TG} {tt : TT} {te : TE} {vs : List Nat} {σ : L2.St} {H1 : Hp} {D : Addr} {Qd : Hp → Prop} (Pv : Nat → Hp → Prop) (h0 : Pv 0 (upd H1 D (.lst [])))
    (hs : ∀ i c H, z.cps.toList[i]? = some c → Pv i H → g (.str ⟨#[c]⟩) (wipe σ vs) H fun σ2 H2 => wipe σ2 vs = wipe σ vs ∧ tt σ2 H2 fun b H3 => if b = true then te σ2 H3 fun y H4 => ∃ acc, H4 D = some (.lst acc) ∧ acc.length < sizeLine ∧ Pv (i + 1) (upd H4 D (.lst (acc ++ [y]))) else Pv (i + 1) H3) (hd : ∀ H, Pv z.cps.toList.length H → Qd H) :
    ∃ W : Nat → Nat → Hp → Prop, (∃ m, W 0 m (upd H1 D (.lst []))) ∧ ∀ i m H, W i m H →
      ((Its z).stop i H ∧ Qd H) ∨ ((Its z).go i H ∧ ∃ Nx : Hp → Prop, (∀ H', Nx H' → ∃ m', m' < m ∧ W (i + 1) m' H') ∧ ∀ x H', (Its z).yld i H x H' → g x (wipe σ vs) H' fun σ2 H2 => wipe σ2 vs = wipe σ vs ∧ tt σ2 H2 fun b H3 =>
        if b = true then te σ2 H3 fun y H4 => ∃ acc, H4 D = some (.lst acc) ∧ acc.length < sizeLine ∧ Nx (upd H4 D (.lst (acc ++ [y]))) else Nx H3) := by
  have sz : z.cps.toList.length = z.cps.size := by simp
  refine ⟨fun i m H => m = z.cps.size - i ∧ i ≤ z.cps.size ∧ Pv i H, ⟨z.cps.size, rfl, Nat.zero_le _, h0⟩, ?_⟩
  rintro i m H ⟨rfl, hi, p⟩
  by_cases hlt : i < z.cps.size
  · refine .inr ⟨hlt, Pv (i + 1), fun H' p' => ⟨z.cps.size - (i + 1), by omega, rfl, hlt, p'⟩, fun x H' y => ?_⟩
    obtain ⟨e, c, hc, rfl⟩ := y
    subst e
    exact hs i c _ (by rw [Array.getElem?_toList]; exact hc) p
  · have e : i = z.cps.size := by omega
    subst e
    exact .inl ⟨Nat.le_refl _, hd H (by rw [sz]; exact p)⟩
end KS
namespace GR
open PySem PySem.Spec PyProof.Rows L2 KL KG KS KV KY
abbrev sIsName : Stmt := topS 39
theorem scIsName : FnScope ["thing", "signs", "sign"] ["thing"] (defScope sIsName) := ⟨rfl, rfl, rfl, by decide +kernel, rfl, by decide +kernel, by decide +kernel⟩
def spIsName : Sp := fun vs H Q _ => ∃ (v : V) (d : PyData) (Z : Addr → Prop), vs = [v] ∧ Dq Z H v d ∧ okd 63 d = true ∧ ∀ G, Kp No H G → Q (.bl (isNameD d)) G
def strD : PyData → Option Str
  | .str x => some x
  | _ => none
theorem kit_strD (K : PySem.W.Frag) (d : PyData) : PySem.W.kitOne K (.type (tyD d)) (.type "str") = some (strD d).isSome := by
  cases d <;> exact kit_ty (by kernel_rfl)
theorem cut26 : cutS signsS none (some 26) = lettersS := by decide +kernel
theorem signs_app : signsS.cps.toList = lettersS.cps.toList ++ figuresS.cps.toList := by decide +kernel
theorem sign_in (c : Nat) : decide (c ∈ signsS.cps.toList) = (letterC c || figureC c) := by
  rw [signs_app]
  unfold letterC figureC
  simp [List.mem_append, Bool.decide_or]
section
variable {P : Program} {w : World} {K : PySem.W.Frag} {mg : Str → Option Value} {base : Heap}
theorem ok_isname {f : Addr} {fd : FuncData} (F : Fun K "_law_is_name" "_law_is_name" sIsName f fd) (N : Nm mg) (hI : mg "isinstance" = none) : FnOk P w K mg base CX0 1 f fd ["thing"] spIsName := by
  refine F.ok scIsName (fun vs H Q E h => ?_) (fun cdv A outer s H vs Q E hr h => ?_)
  · obtain ⟨v, d, Z, rfl, _⟩ := h
    rfl
  · obtain ⟨v, d, Z, rfl, dq, od, q⟩ := h
    refine ⟨_, pss_cons (ps_if (PW.pt (pw_or (pt_not (pt_val (pe_callB call_isi (by rfl) hI (by decide +kernel) (pa_cons (pv 0) (pa_cons (pe_bltn (u := .type "str") (by rfl) N.str (by decide +kernel) (rt "str")) pa_nil))))) (pw_or1 (pt_not (pt_chain op_le op_le pe_int (pe_callB call_len_str (by rfl) N.len PySem.boot_len (pa_cons (pv 0) pa_nil)) pe_int))))) (pss_one (ps_ret pe_bl)) (pss_nil))
      (pss_cons (ps_if (pt_cmpR op_in_seq (pv 0) (pe_tup (pa_cons pe_str (pa_cons pe_str (pa_cons pe_str (pa_cons pe_str (pa_cons pe_str (pa_cons pe_str (pa_cons pe_str (pa_cons pe_str (pa_cons pe_str pa_nil)))))))))) (by with_unfolding_all rfl)) (pss_one (ps_ret pe_bl)) (pss_nil))
      (pss_cons (ps_set (i := 1) scIsName.nd rfl (.inr rfl) pe_str)
      (pss_one (ps_ret (pe_and (pe_cmpR op_in_sign (pe_ix ix_str (pv 0) pe_int (fun _ _ => rfl)) (pe_slice sl_str (pv 1) po_none (po_some pe_int)) (by with_unfolding_all rfl)) (pe_one (pe_callB (cr_all rfl) (by rfl) N.all (by decide +kernel) (pa_cons (pe_lc (own := [("sign", 2)]) (g := gName 2) (tt := tYes) rfl scIsName.nd (pi_str (pv 0)) (blkOk_by (N := ["thing", "signs", "sign"]) (sc := defScope sIsName) (by decide +kernel)) (fun _ _ _ _ _ => (pg_name (i := 2) scIsName.nd rfl (.inl rfl))) (fun _ _ _ _ _ => pts_nil) (fun _ _ _ _ _ => (pe_cmpR op_in_sign (pv 2) (pv 1) (by with_unfolding_all rfl)))) pa_nil)))))))), ?_⟩
    refine if_ans (b := !((strD d).isSome && (decide (1 ≤ ((strD d).getD "").length) && decide (((strD d).getD "").length ≤ 8)))) (fun R r => ?_) (fun c => ?_) (fun c => ?_)
    · refine ⟨v, rfl, v, _, _, _, _, rfl, .ty "str", dq_tx dq, kit_strD K d, _, rfl, ifte (fun c => ?_) (fun c => ?_)⟩
      · have e : (strD d).isSome = false := by
          have c : (!(strD d).isSome) = true := c
          cases h : (strD d).isSome with
          | false => rfl
          | true => rw [h] at c; cases c
        rw [e] at r
        exact r
      · obtain ⟨x, rfl⟩ : ∃ x, d = .str x := by
          cases d with
          | str x => exact ⟨x, rfl⟩
          | _ => exact absurd c.symm Bool.false_ne_true
        cases dq
        have lx := okd_str.mp od
        have r : R (!(true && (decide (1 ≤ x.length) && decide (x.length ≤ 8)))) H := r
        refine ⟨.str x, rfl, x, rfl, by rw [sizeLine_eq]; omega, 1, (x.length : Int), rfl, rfl, _, rfl, ifte (fun c3 => ⟨(x.length : Int), 8, rfl, rfl, _, rfl, ?_⟩) (fun c3 => ⟨_, rfl, ?_⟩)⟩
        · have e1 : decide (1 ≤ x.length) = true := decide_eq_true (by have := of_decide_eq_true c3; omega)
          have e2 : decide ((x.length : Int) ≤ 8) = decide (x.length ≤ 8) := decide_eq_decide.mpr (by omega)
          rw [e1, ← e2] at r
          exact r
        · have e1 : decide (1 ≤ x.length) = false := decide_eq_false (by have := of_decide_eq_false c3; omega)
          rw [e1] at r
          exact r
    · have e : isNameD d = false := by
        cases d with
        | str x =>
          have c : (!(true && (decide (1 ≤ x.length) && decide (x.length ≤ 8)))) = true := c
          show (!inV (.str x) (wordsL.map V.str) && ((decide (1 ≤ x.length) && decide (x.length ≤ 8)) && (firstOk x && x.cps.toList.all (fun c => letterC c || figureC c)))) = false
          cases h : (decide (1 ≤ x.length) && decide (x.length ≤ 8)) with
          | false => rw [Bool.false_and, Bool.and_false]
          | true => rw [h] at c; cases c
        | _ => rfl
      have z := q H Kp.rfl'
      rw [e] at z
      exact z
    · obtain ⟨x, rfl⟩ : ∃ x, d = .str x := by
        cases d with
        | str x => exact ⟨x, rfl⟩
        | _ => exact absurd c (by simp [strD])
      have lb : (decide (1 ≤ x.length) && decide (x.length ≤ 8)) = true := by
        have c : (!(true && (decide (1 ≤ x.length) && decide (x.length ≤ 8)))) = false := c
        cases h : (decide (1 ≤ x.length) && decide (x.length ≤ 8)) with
        | true => rfl
        | false => rw [h] at c; cases c
      have l1 : 1 ≤ x.length ∧ x.length ≤ 8 := by
        rw [Bool.and_eq_true] at lb
        exact ⟨of_decide_eq_true lb.1, of_decide_eq_true lb.2⟩
      cases dq
      have whole : isNameD (.str x) = (!inV (.str x) (wordsL.map V.str) && (firstOk x && x.cps.toList.all (fun c => letterC c || figureC c))) := by
        show (!inV (.str x) (wordsL.map V.str) && ((decide (1 ≤ x.length) && decide (x.length ≤ 8)) && (firstOk x && x.cps.toList.all (fun c => letterC c || figureC c)))) = _
        rw [lb, Bool.true_and]
      have hx : x.length ≤ sizeLine := by rw [sizeLine_eq]; omega
      refine st_next ?_
      dsimp only
      refine if_ansH (b := inV (.str x) (wordsL.map V.str)) (fun G => Kp No H G) (fun R r => ?_) (fun c G kG => ?_) (fun c G kG => ?_)
      · exact ⟨.str x, rfl, (by show 9 ≤ sizeLine; decide), fun t nt => ⟨t, wordsL.map V.str, rfl, .inr (.inl (.inl upd_same)), rfl, words_flat, _, rfl, r _ (Kp.new nt)⟩⟩
      · have z := q G kG
        rw [whole, c] at z
        exact z
      · have h0 : 0 < x.cps.toList.length := by
          have e : x.cps.toList.length = x.length := by simp; rfl
          omega
        have hc : x.cps.toList[0]? = some x.cps.toList[0] := List.getElem?_eq_getElem h0
        have f0 : firstOk x = letterC x.cps.toList[0] := by
          unfold firstOk
          rw [hc]
        have rest : isNameD (.str x) = (letterC x.cps.toList[0] && x.cps.toList.all (fun c => letterC c || figureC c)) := by
          rw [whole, c, f0]
          rfl
        refine st_next ?_
        dsimp only
        refine gn ?_
        dsimp only
        refine ⟨.str x, rfl, x, 0, x.cps.toList[0], rfl, rfl, hx, atI_nat (j := 0) hc, .str signsS, rfl, 26, rfl, signsS, rfl, by decide +kernel, ?_⟩
        rw [cut26]
        refine ⟨x.cps.toList[0], lettersS, rfl, rfl, _, rfl, ifte (fun c4 => ?_) (fun c4 => ?_)⟩
        · have z4 : letterC x.cps.toList[0] = true := c4
          refine ⟨.str x, rfl, x, rfl, fun D nD => ?_⟩
          refine lc_str (z := x) (PvB (fun i => match x.cps.toList[i]? with | some c => letterC c || figureC c | none => false) G D) (PvB.zero nD) ?_ ?_
          · rintro i cc J hcc p
            have hi : i ≤ 1000 := by
              have := (List.getElem?_eq_some_iff.mp hcc).1
              have e : x.cps.toList.length = x.length := by simp; rfl
              omega
            refine ⟨rfl, tyes ⟨.str ⟨#[cc]⟩, rfl, .str signsS, rfl, cc, signsS, rfl, rfl, p.step nD Kp.rfl' hi ?_⟩⟩
            rw [hcc]
            exact sign_in cc
          · rintro J ⟨eJ, kJ⟩
            refine ⟨D, _, rfl, .inl (.inl eJ), ?_⟩
            have e : ((List.range x.cps.toList.length).map fun i => match x.cps.toList[i]? with | some c => letterC c || figureC c | none => false).all id = x.cps.toList.all (fun c => letterC c || figureC c) := range_all _ x.cps.toList _ fun i y hy => by rw [hy]
            rw [e]
            have z := q J (kG.tr kJ)
            rw [rest, z4, Bool.true_and] at z
            exact z
        · have z4 : letterC x.cps.toList[0] = false := c4
          have z := q G kG
          rw [rest, z4, Bool.false_and] at z
          exact z
end
end GR

namespace GR
open PySem PySem.Spec PyProof.Rows L2 KL KG KS KV KY
/-! ### the law's look at a graph -/
theorem eqv_dInts (a b : List Int) : PyData.eqv (dInts a) (dInts b) = decide (a = b) := eqv_ints a b
theorem eqv_rows : ∀ xs ys : List (List Int), PyData.eqvAll (xs.map dInts) (ys.map dInts) = decide (xs = ys)
  | [], [] => rfl
  | [], _ :: _ => rfl
  | _ :: _, [] => rfl
  | m :: ms, n :: ns => by
    show (PyData.eqv (dInts m) (dInts n) && PyData.eqvAll (ms.map dInts) (ns.map dInts)) = _
    rw [eqv_rows ms ns, eqv_dInts]
    by_cases h : m = n
    · rw [decide_eq_true h, Bool.true_and]
      exact decide_eq_decide.mpr ⟨fun e => by rw [h, e], fun e => (List.cons.inj e).2⟩
    · rw [decide_eq_false h, Bool.false_and]
      exact (decide_eq_false fun e => h (List.cons.inj e).1).symm
theorem lot_eq {c : Int} {e : PyData} (h : isLotD c e = true) : e = dInts (rowD e) := by
  cases e with
  | tuple ds =>
    have h : (ds.all (inB c) && ascL (ds.map valI)) = true := h
    rw [Bool.and_eq_true, List.all_eq_true] at h
    show PyData.tuple ds = .tuple ((ds.map valI).map .int)
    rw [List.map_map]
    refine congrArg PyData.tuple ((List.map_id ds).symm.trans (List.map_congr_left fun d hd => ?_))
    have z := h.1 d hd
    cases d with
    | int i => rfl
    | _ => exact absurd z Bool.false_ne_true
  | _ => exact absurd h Bool.false_ne_true
theorem lot_rows {c : Int} {ds : List PyData} (h : ∀ e ∈ ds, isLotD c e = true) : ds = (ds.map rowD).map dInts := by
  rw [List.map_map]
  exact (List.map_id ds).symm.trans (List.map_congr_left fun d hd => lot_eq (h d hd))
theorem ks_of {Z : Addr → Prop} {H : Hp} : ∀ {rows : List (List Int)} {xs : List V}, DqL Z H xs (rows.map dInts) → ∃ ks : List (Addr × List Int), xs = ks.map (fun p => V.ref p.1) ∧ ks.map (·.2) = rows ∧ ∀ p ∈ ks, Rd H p.1 (.tup (p.2.map V.int))
  | [], _, h => by cases h; exact ⟨[], rfl, rfl, fun p hp => absurd hp List.not_mem_nil⟩
  | r :: rows, _, h => by
    cases h with
    | cons a t =>
      obtain ⟨ks, rfl, e2, e3⟩ := ks_of t
      obtain ⟨p, rfl, rd, _⟩ := dInts_tup a
      exact ⟨(p, r) :: ks, rfl, by rw [List.map_cons, e2], fun q hq => (List.mem_cons.mp hq).elim (fun z => by rw [z]; exact rd) (e3 q)⟩
/-- sorted(set(t)) and list(t), t a tuple of lots: whether they are alike -/
theorem ss_cmp {K : PySem.W.Frag} {P : Program} {w : World} {Z : Addr → Prop} {H : Hp} {σ : L2.St} {j : Nat} {a : Addr} {xs : List V} {rows : List (List Int)} (e : σ[j]? = some (some (.ref a))) (ea : Rd H a (.tup xs)) (L : DqL Z H xs (rows.map dInts)) (few : rows.length < 64) (ok : ∀ r ∈ rows, 1 ≤ r.length ∧ r.length ≤ 63 ∧ Dg 64 r) {Q : V → V → Hp → Prop}
    (q : ∀ G x y d e, Kp No H G → Dp K G x d → Dp K G y e → SeqAt.shaped d = true → SeqAt.shaped e = true → PyData.eqv d e = ascR rows → Q x y G) :
    tCB (rSortSV K P w) (tCons (tCB (rSetTT K P w) (tCons (tVar j) tNil)) tNil) σ H fun x H1 => tCB (fun xs H Q => ∃ p ys, xs = [.ref p] ∧ (SqL K H p ys ∨ SqT K H p ys) ∧ ∀ l, H l = none → Q (.ref l) (upd H l (.lst ys))) (tCons (tVar j) tNil) σ H1 fun y H2 => Q x y H2 := by
  obtain ⟨ks, rfl, e2, e3⟩ := ks_of L
  have lk : ks.length = rows.length := by rw [← e2, List.length_map]
  have okk : ∀ p ∈ ks, 1 ≤ p.2.length ∧ p.2.length ≤ 63 ∧ Dg 64 p.2 := fun p hp => ok p.2 (by rw [← e2]; exact List.mem_map.mpr ⟨p, hp, rfl⟩)
  refine ⟨_, e, a, ks, rfl, .inl ea, fun p hp => .inl (e3 p hp), by omega, fun b M nb sub sup => ⟨b, M, 63, 64, rfl, upd_same, fun p hp => .inl (rd_kp (Kp.new (Z := No) nb) (fun z => z) (e3 p (sub p hp))), by decide, fun p hp => okk p (sub p hp), fun R c pm nd pw nc => ?_⟩⟩
  refine ⟨_, e, a, _, rfl, .inr (.inl (rd_kp ((Kp.new (Z := No) nb).tr (Kp.new nc)) (fun z => z) ea)), fun l nl => ?_⟩
  have k3 : Kp No H (upd (upd (upd H b (SetTO P w b M)) c (.lst (R.map fun q => V.ref q.1))) l (.lst (ks.map fun p => V.ref p.1))) := ((Kp.new nb).tr (Kp.new nc)).tr (Kp.new nl)
  have da : ∀ T : List (Addr × List Int), (∀ p ∈ T, p ∈ ks) → DpAll K (upd (upd (upd H b (SetTO P w b M)) c (.lst (R.map fun q => V.ref q.1))) l (.lst (ks.map fun p => V.ref p.1))) (T.map fun p => V.ref p.1) ((T.map (·.2)).map dInts) := fun T => by
    induction T with
    | nil => exact fun _ => .nil
    | cons p T ih => exact fun h => .cons (.tup (.inl (rd_kp k3 (fun z => z) (e3 p (h p List.mem_cons_self)))) (DpAll.ints p.2)) (ih fun q hq => h q (List.mem_cons_of_mem _ hq))
  have subR : ∀ p ∈ R, p ∈ ks := fun p hp => sub p (pm.mem_iff.mp hp)
  refine q _ _ _ (.list ((R.map (·.2)).map dInts)) (.list ((ks.map (·.2)).map dInts)) k3 (.lst (.inl (.inl ((upd_ne (ne_of_none upd_same nl)).trans upd_same))) (da R subR)) (.lst (.inl (.inl upd_same)) (da ks fun p hp => hp)) (shaped_rows _) (shaped_rows _) ?_
  show PyData.eqvAll ((R.map (·.2)).map dInts) ((ks.map (·.2)).map dInts) = ascR rows
  rw [eqv_rows, e2]
  have up : (R.map (·.2)).Pairwise (fun x y => ltI x y = true) := by
    refine List.pairwise_map.mpr ?_
    have nd' := List.pairwise_map.mp nd
    exact (pw.and nd').imp fun ⟨h1, h2⟩ => ltI_tri h1 h2
  have mem : ∀ k, k ∈ R.map (·.2) ↔ k ∈ rows := fun k => by
    constructor
    · intro h
      obtain ⟨p, hp, rfl⟩ := List.mem_map.mp h
      rw [← e2]
      exact List.mem_map.mpr ⟨p, subR p hp, rfl⟩
    · intro h
      rw [← e2] at h
      obtain ⟨p, hp, rfl⟩ := List.mem_map.mp h
      exact ((pm.map (·.2)).mem_iff).mpr (sup p hp)
  by_cases h : R.map (·.2) = rows
  · rw [decide_eq_true h, ← h]
    exact (ascR_of up).symm
  · rw [decide_eq_false h]
    cases h2 : ascR rows with
    | false => rfl
    | true => exact absurd (asc_unique (lt := fun x y => ltI x y = true) (fun x z => by rw [ltI_irr] at z; cases z) (fun a b => ltI_trans a b) up (ascR_to h2) mem) h
abbrev sIsGraph : Stmt := topS 40
theorem scIsGraph : FnScope ["thing", "part", "names", "arrows", "lots", "name", "arrow", "lot"] ["thing"] (defScope sIsGraph) := ⟨rfl, rfl, rfl, by decide +kernel, rfl, by decide +kernel, by decide +kernel⟩
def spIsGraph : Sp := fun vs H Q _ => ∃ (v : V) (d : PyData) (Z : Addr → Prop), vs = [v] ∧ Dq Z H v d ∧ okd 63 d = true ∧ ∀ G, Kp No H G → Q (.bl (isGraphD d)) G
section
variable {P : Program} {w : World} {K : PySem.W.Frag} {mg : Str → Option Value} {base : Heap}
theorem ok_isgraph {f fW fT fL fN : Addr} {fd fdW fdT fdL fdN : FuncData} (F : Fun K "_law_is_graph" "_law_is_graph" sIsGraph f fd) (FT : Fun K "_law_is_tuple" "_law_is_tuple" sTup fT fdT) (gT : mg "_law_is_tuple" = some (.ref fT)) (bT : L2.Binds K fdT ["thing", "few"] []) (FL : Fun K "_law_is_lot" "_law_is_lot" sIsLot fL fdL) (gL : mg "_law_is_lot" = some (.ref fL)) (bL : L2.Binds K fdL ["few", "thing"] [])
    (FN : Fun K "_law_is_name" "_law_is_name" sIsName fN fdN) (gN : mg "_law_is_name" = some (.ref fN)) (bN : L2.Binds K fdN ["thing"] []) (FW : Fun K "_law_is_whole" "_law_is_whole" sWhole fW fdW) (gW : mg "_law_is_whole" = some (.ref fW)) (bW : L2.Binds K fdW ["thing"] []) (N : Nm mg) (hI : mg "isinstance" = none) (hB : mg "bool" = none) (hSo : mg "sorted" = none) (hL : mg "list" = none) :
    FnOk P w K mg base CX0 3 f fd ["thing"] spIsGraph := by
  have GT : FnOk P w K mg base CX0 1 fT fdT ["thing", "few"] spTup := ok_tup FT hI N.tup N.len
  have GL : FnOk P w K mg base CX0 2 fL fdL ["few", "thing"] spIsLot := ok_islot FL FW gW bW N hI hB hSo hL
  have GN : FnOk P w K mg base CX0 1 fN fdN ["thing"] spIsName := ok_isname FN N hI
  refine F.ok scIsGraph (fun vs H Q E h => ?_) (fun cdv A outer s H vs Q E hr h => ?_)
  · obtain ⟨v, d, Z, rfl, _⟩ := h
    rfl
  · obtain ⟨v, d, Z, rfl, dq, od, q⟩ := h
    have hu : (A.deeper (envOfC (Str.ofString "_law_is_graph") (defScope sIsGraph) s.heap.objs.size f cdv)).units + 64 < cLine := hr.units
    refine ⟨_, pss_cons (ps_if (PW.pt (pw_or (pt_not (pt_val (pe_call GT (hr.mono (by decide)) (by rfl) gT FT.kp bT .nil pass0 (pa_cons (pv 0) (pa_cons pe_int pa_nil))))) (pw_or1 (pt_not (pt_val (pe_callB (cr_all rfl) (by rfl) N.all (by decide +kernel) (pa_cons (pe_lc (own := [("part", 1)]) (g := gName 1) (tt := tYes) rfl scIsGraph.nd (pi_tup (pv 0)) (blkOk_by (N := ["thing", "part", "names", "arrows", "lots", "name", "arrow", "lot"]) (sc := defScope sIsGraph) (by decide +kernel)) (fun _ _ _ _ _ => (pg_name (i := 1) scIsGraph.nd rfl (.inl rfl))) (fun _ _ _ _ _ => pts_nil) (fun _ _ _ _ _ => (pe_callB (show CallR _ _ (rIsi K) from call_isi) (by rfl) hI (by decide +kernel) (pa_cons (pv 1) (pa_cons (pe_bltn (u := .type "tuple") (by rfl) N.tup (by decide +kernel) (rt "tuple")) pa_nil))))) pa_nil))))))) (pss_one (ps_ret pe_bl)) (pss_nil))
      (pss_cons (ps_asg (pv 0) (pg_tup rfl (pgs_cons (pg_name (i := 2) scIsGraph.nd rfl (.inr rfl)) (pgs_cons (pg_name (i := 3) scIsGraph.nd rfl (.inl rfl)) (pgs_cons (pg_name (i := 4) scIsGraph.nd rfl (.inl rfl)) pgs_nil)))))
      (pss_cons (ps_if (PW.pt (pw_or (pt_not (pt_chain op_le op_le pe_int (pe_callB call_len_seq (by rfl) N.len PySem.boot_len (pa_cons (pv 2) pa_nil)) pe_int)) (pw_or (pt_not (pt_val (pe_callB (cr_all rfl) (by rfl) N.all (by decide +kernel) (pa_cons (pe_lc (own := [("name", 5)]) (g := gName 5) (tt := tYes) rfl scIsGraph.nd (pi_tup (pv 2)) (blkOk_by (N := ["thing", "part", "names", "arrows", "lots", "name", "arrow", "lot"]) (sc := defScope sIsGraph) (by decide +kernel)) (fun _ _ _ _ _ => (pg_name (i := 5) scIsGraph.nd rfl (.inl rfl))) (fun _ _ _ _ _ => pts_nil) (fun _ _ _ _ _ => (pe_call GN (hr.mono (by decide)) (by rfl) gN FN.kp bN .nil pass0 (pa_cons (pv 5) pa_nil)))) pa_nil)))) (pw_or1 (pt_cmpR op_ne (pe_lenSetT rfl (by rfl) N.len (by rfl) N.set (pv 2)) (pe_callB call_len_seq (by rfl) N.len PySem.boot_len (pa_cons (pv 2) pa_nil)) (nomark _)))))) (pss_one (ps_ret pe_bl)) (pss_nil))
      (pss_cons (ps_if (pt_not (pt_val (pe_callB (cr_all rfl) (by rfl) N.all (by decide +kernel) (pa_cons (pe_lc (own := [("arrow", 6)]) (g := gName 6) (tt := tYes) rfl scIsGraph.nd (pi_tup (pv 3)) (blkOk_by (N := ["thing", "part", "names", "arrows", "lots", "name", "arrow", "lot"]) (sc := defScope sIsGraph) (by decide +kernel)) (fun _ _ _ _ _ => (pg_name (i := 6) scIsGraph.nd rfl (.inl rfl))) (fun _ _ _ _ _ => pts_nil) (fun _ _ _ _ _ => (pe_and (pe_call GT (hr.mono (by decide)) (by rfl) gT FT.kp bT .nil pass0 (pa_cons (pv 6) (pa_cons pe_int pa_nil))) (pe_one (pe_call GL (hr.mono (by decide)) (by rfl) gL FL.kp bL .nil pass0 (pa_cons (pe_callB (show CallR _ _ (fun xs H Q => ∃ p ys, xs = [.ref p] ∧ (SqL K H p ys ∨ SqT K H p ys) ∧ Q (.int ys.length) H) from call_len_seq) (by rfl) N.len PySem.boot_len (pa_cons (pv 2) pa_nil)) (pa_cons (pv 6) pa_nil))))))) pa_nil)))) (pss_one (ps_ret pe_bl)) (pss_nil))
      (pss_cons (ps_if (PW.pt (pw_or (pt_cmpR (op_neD hu) (pe_callB (cr_sortSV rfl) (by rfl) hSo (by decide +kernel) (pa_cons (pe_callTy (cr_setTT rfl hu) (by rfl) N.set (by decide +kernel) (pa_cons (pv 3) pa_nil)) pa_nil)) (pe_callTy call_list_of (by rfl) hL (by decide +kernel) (pa_cons (pv 3) pa_nil)) (nomark _)) (pw_or1 (pt_cmpR op_gt (pe_callB call_len_seq (by rfl) N.len PySem.boot_len (pa_cons (pv 4) pa_nil)) pe_int (nomark _))))) (pss_one (ps_ret pe_bl)) (pss_nil))
      (pss_cons (ps_if (pt_not (pt_val (pe_callB (cr_all rfl) (by rfl) N.all (by decide +kernel) (pa_cons (pe_lc (own := [("lot", 7)]) (g := gName 7) (tt := tYes) rfl scIsGraph.nd (pi_tup (pv 4)) (blkOk_by (N := ["thing", "part", "names", "arrows", "lots", "name", "arrow", "lot"]) (sc := defScope sIsGraph) (by decide +kernel)) (fun _ _ _ _ _ => (pg_name (i := 7) scIsGraph.nd rfl (.inl rfl))) (fun _ _ _ _ _ => pts_nil) (fun _ _ _ _ _ => (pe_and (pe_call GL (hr.mono (by decide)) (by rfl) gL FL.kp bL .nil pass0 (pa_cons (pe_callB (show CallR _ _ (fun xs H Q => ∃ p ys, xs = [.ref p] ∧ (SqL K H p ys ∨ SqT K H p ys) ∧ Q (.int ys.length) H) from call_len_seq) (by rfl) N.len PySem.boot_len (pa_cons (pv 2) pa_nil)) (pa_cons (pv 7) pa_nil))) (pe_one (pe_cmpR op_gt (pe_callB (show CallR _ _ (fun xs H Q => ∃ p ys, xs = [.ref p] ∧ (SqL K H p ys ∨ SqT K H p ys) ∧ Q (.int ys.length) H) from call_len_seq) (by rfl) N.len PySem.boot_len (pa_cons (pv 7) pa_nil)) pe_int (nomark _)))))) pa_nil)))) (pss_one (ps_ret pe_bl)) (pss_nil))
      (pss_one (ps_ret (pe_cmpR (op_eqD hu) (pe_callB (cr_sortSV rfl) (by rfl) hSo (by decide +kernel) (pa_cons (pe_callTy (cr_setTT rfl hu) (by rfl) N.set (by decide +kernel) (pa_cons (pv 4) pa_nil)) pa_nil)) (pe_callTy call_list_of (by rfl) hL (by decide +kernel) (pa_cons (pv 4) pa_nil)) (nomark _))))))))), ?_⟩
    refine if_ansH (b := !((isTupD d && decide ((lenD d : Int) = 3)) && (itemsOf d).all isTupD)) (fun G => Kp No H G) (fun R r => ?_) (fun c G kG => ?_) (fun c G kG => ?_)
    · refine ⟨v, rfl, v, d, 3, Z, rfl, dq, _, rfl, ifte (fun c => ?_) (fun c => ?_)⟩
      · have r := r H Kp.rfl'
        have e : (isTupD d && decide ((lenD d : Int) = 3)) = false := by
          have c : (!(isTupD d && decide ((lenD d : Int) = 3))) = true := c
          cases h : (isTupD d && decide ((lenD d : Int) = 3)) with
          | false => rfl
          | true => rw [h] at c; cases c
        rw [e] at r
        exact r
      · have e : (isTupD d && decide ((lenD d : Int) = 3)) = true := by
          have c : (!(isTupD d && decide ((lenD d : Int) = 3))) = false := c
          cases h : (isTupD d && decide ((lenD d : Int) = 3)) with
          | true => rfl
          | false => rw [h] at c; cases c
        obtain ⟨ds, rfl⟩ : ∃ ds, d = .tuple ds := by
          cases d with
          | tuple ds => exact ⟨ds, rfl⟩
          | _ => exact absurd e (by simp [isTupD])
        obtain ⟨a, xs, _, rfl, h0, ea, za, L, ll, oo⟩ := tup_at (n := 63) dq ⟨od, _, rfl⟩
        cases h0
        have lx := L.len
        refine ⟨.ref a, rfl, a, rfl, ⟨xs, .inl ea⟩, fun D nD => ?_⟩
        refine lc_tup (K := K) (a := a) (xs := xs) (PvB (fun i => match ds[i]? with | some e => isTupD e | none => false) H D) (PvB.zero nD) (fun i J _ p => .inl (rd_kp p.2 (fun z => z) ea)) ?_ ?_
        · rintro i x J hx p
          have hi : i ≤ 1000 := by
            have := (List.getElem?_eq_some_iff.mp hx).1
            omega
          obtain ⟨e, he, dx⟩ := L.get hx
          have dx := up0 dx p.2
          exact ⟨rfl, tyes ⟨x, rfl, x, _, _, _, _, rfl, .ty "tuple", dq_tx dx, kit_tup K e, p.step nD Kp.rfl' hi (by rw [he])⟩⟩
        · rintro J ⟨eJ, kJ⟩
          refine ⟨D, _, rfl, .inl (.inl eJ), _, rfl, ?_⟩
          have e2 : ((List.range xs.length).map fun i => match ds[i]? with | some e => isTupD e | none => false).all id = ds.all isTupD := by
            rw [lx]
            exact range_all isTupD ds _ fun i x hx => by rw [hx]
          rw [e2]
          have r := r J kJ
          rw [e] at r
          exact r
    · have e : isGraphD d = false := by
        cases h : isGraphD d with
        | false => rfl
        | true =>
          exfalso
          match d, h with
          | .tuple [n, a, l], h =>
            have h : (isNamesD n && (isArrD (lenD n : Int) a && isHidD (lenD n : Int) l)) = true := h
            rw [Bool.and_eq_true, Bool.and_eq_true] at h
            obtain ⟨h1, h2, h3⟩ := h
            have t1 : isTupD n = true := by
              cases n with
              | tuple _ => rfl
              | _ => exact absurd h1 Bool.false_ne_true
            have t2 : isTupD a = true := by
              cases a with
              | tuple _ => rfl
              | _ => exact absurd h2 Bool.false_ne_true
            have t3 : isTupD l = true := by
              cases l with
              | tuple _ => rfl
              | _ => exact absurd h3 Bool.false_ne_true
            have c : (!((true && true) && (isTupD n && (isTupD a && (isTupD l && true))))) = true := c
            rw [t1, t2, t3] at c
            cases c
      have z := q G kG
      rw [e] at z
      exact z
    · have e : ((isTupD d && decide ((lenD d : Int) = 3)) && (itemsOf d).all isTupD) = true := by
        cases h : ((isTupD d && decide ((lenD d : Int) = 3)) && (itemsOf d).all isTupD) with
        | true => rfl
        | false => rw [h] at c; cases c
      obtain ⟨nn, aa, ll, rfl⟩ : ∃ nn aa ll : List PyData, d = .tuple [.tuple nn, .tuple aa, .tuple ll] := by
        rw [Bool.and_eq_true, Bool.and_eq_true] at e
        obtain ⟨⟨e1, e2⟩, e3⟩ := e
        cases d with
        | tuple ds =>
          have e2 : ((ds.length : Nat) : Int) = 3 := of_decide_eq_true e2
          match ds, (show ds.length = 3 by omega), e3 with
          | [x, y, z], _, e3 =>
            have e3 : (isTupD x && (isTupD y && (isTupD z && true))) = true := e3
            rw [Bool.and_eq_true, Bool.and_eq_true, Bool.and_true] at e3
            obtain ⟨a1, a2, a3⟩ := e3
            cases x with
            | tuple x =>
              cases y with
              | tuple y =>
                cases z with
                | tuple z => exact ⟨x, y, z, rfl⟩
                | _ => exact absurd a3 Bool.false_ne_true
              | _ => exact absurd a2 Bool.false_ne_true
            | _ => exact absurd a1 Bool.false_ne_true
        | _ => exact absurd e1 Bool.false_ne_true
      clear c e
      have whole : isGraphD (.tuple [.tuple nn, .tuple aa, .tuple ll]) = (isNamesD (.tuple nn) && (isArrD (nn.length : Int) (.tuple aa) && isHidD (nn.length : Int) (.tuple ll))) := rfl
      have oD := (okd_tup.mp od).2
      have o1 := oD _ (show PyData.tuple nn ∈ _ by simp)
      have o2 := oD _ (show PyData.tuple aa ∈ [PyData.tuple nn, .tuple aa, .tuple ll] by simp)
      have o3 := oD _ (show PyData.tuple ll ∈ [PyData.tuple nn, .tuple aa, .tuple ll] by simp)
      have dqG := up0 dq kG
      cases dqG with
      | @tup g _ _ eg zg Lg =>
      cases Lg with
      | @cons vn _ _ _ dn Lg =>
      cases Lg with
      | @cons va _ _ _ da Lg =>
      cases Lg with
      | @cons vl _ _ _ dl Lg =>
      cases Lg
      obtain ⟨tn, xn, _, rfl, h0, en, zn, Ln, l1, p1⟩ := tup_at (n := 63) dn ⟨o1, _, rfl⟩
      cases h0
      obtain ⟨ta, xa, _, rfl, h0, ea, za, La, l2, p2⟩ := tup_at (n := 63) da ⟨o2, _, rfl⟩
      cases h0
      obtain ⟨tl, xl, _, rfl, h0, el, zl, Ll, l3, p3⟩ := tup_at (n := 63) dl ⟨o3, _, rfl⟩
      cases h0
      have q2 : ∀ J, Kp No G J → Q (.bl (isGraphD (.tuple [.tuple nn, .tuple aa, .tuple ll]))) J := fun J k => q J (kG.tr k)
      clear dq kG q
      refine st_next ?_
      dsimp only
      refine ⟨.ref g, rfl, g, _, rfl, .inl eg, rfl, .ref tn, _, rfl, .ref ta, _, rfl, .ref tl, _, rfl, rfl, ?_⟩
      dsimp only
      have lxn := Ln.len
      have lxa := La.len
      have lxl := Ll.len
      refine if_ansH (b := !isNamesD (.tuple nn)) (fun J => Kp No G J) (fun R r => ?_) (fun c J kJ => ?_) (fun c J kJ => ?_)
      · have rr : ∀ J, Kp No G J → R (!((decide (1 ≤ nn.length) && decide (nn.length ≤ 8)) && (nn.all isNameD && decide ((nn.map valS).Nodup)))) J := r
        refine ⟨.ref tn, rfl, tn, xn, rfl, .inr (.inl en), 1, (xn.length : Int), rfl, rfl, _, rfl, ifte (fun c3 => ⟨(xn.length : Int), 8, rfl, rfl, _, rfl, ?_⟩) (fun c3 => ⟨_, rfl, iteT ?_⟩)⟩
        rotate_left
        · have z := rr G Kp.rfl'
          rw [decide_eq_false (show ¬ 1 ≤ nn.length by have := of_decide_eq_false c3; omega)] at z
          exact z
        have h1 : decide (1 ≤ nn.length) = true := decide_eq_true (by have := of_decide_eq_true c3; omega)
        have e8 : decide ((xn.length : Int) ≤ 8) = decide (nn.length ≤ 8) := decide_eq_decide.mpr (by omega)
        rw [e8]
        cases h8 : decide (nn.length ≤ 8) with
        | false =>
          refine iteT ?_
          have z := rr G Kp.rfl'
          rw [h1, h8] at z
          exact z
        | true =>
          refine iteF ⟨.ref tn, rfl, tn, rfl, ⟨xn, .inl en⟩, fun D nD => ?_⟩
          refine lc_tup (K := K) (a := tn) (xs := xn) (PvB (fun i => match nn[i]? with | some e => isNameD e | none => false) G D) (PvB.zero nD) (fun i J _ p => .inl (rd_kp p.2 (fun z => z) en)) ?_ ?_
          · rintro i x J hx p
            have hi : i ≤ 1000 := by
              have := (List.getElem?_eq_some_iff.mp hx).1
              omega
            obtain ⟨e, he, dx⟩ := Ln.get hx
            have dx := up0 dx p.2
            exact ⟨rfl, tyes ⟨x, rfl, x, e, Z, rfl, dx, p1 e (List.mem_of_getElem? he), fun J2 k2 => p.step nD k2 hi (by rw [he])⟩⟩
          · rintro J ⟨eJ, kJ⟩
            refine ⟨D, _, rfl, .inl (.inl eJ), _, rfl, ?_⟩
            have e2 : ((List.range xn.length).map fun i => match nn[i]? with | some e => isNameD e | none => false).all id = nn.all isNameD := by
              rw [lxn]
              exact range_all isNameD nn _ fun i x hx => by rw [hx]
            rw [e2]
            have z := rr J kJ
            rw [h1, h8] at z
            cases ha : nn.all isNameD with
            | false =>
              rw [ha] at z
              exact iteT z
            | true =>
              rw [ha] at z
              refine iteF ?_
              have ex := dql_str Ln ha
              have en2 := rd_kp kJ (fun z : No tn => z) en
              refine ⟨.ref tn, rfl, tn, nn.map valS, rfl, .inl (by rw [← ex]; exact en2), by rw [List.length_map]; omega, .ref tn, rfl, tn, xn, rfl, .inr (.inl en2), rfl, _, rfl, ?_⟩
              have nd := dcT_eq (ws := nn.map valS) (i := (nn.map valS).length) (Nat.le_refl _)
              rw [List.take_length] at nd
              have e : (!decide (V.int (dcT (nn.map valS) (nn.map valS).length : Nat) = V.int (xn.length : Int))) = !decide ((nn.map valS).Nodup) := by
                have lx : xn.length = (nn.map valS).length := by rw [List.length_map, lxn]
                rw [lx]
                by_cases y : (nn.map valS).Nodup
                · rw [decide_eq_true y, decide_eq_true (by rw [nd.mpr y])]
                · rw [decide_eq_false y, decide_eq_false (fun u => y (nd.mp (by have := V.int.inj u; omega)))]
              show R (!decide (V.int (dcT (nn.map valS) (nn.map valS).length : Nat) = V.int (xn.length : Int))) J
              rw [e]
              exact z
      · have z := q2 J kJ
        have e : isNamesD (.tuple nn) = false := by
          cases h : isNamesD (.tuple nn) with
          | false => rfl
          | true => rw [h] at c; cases c
        rw [whole, e, Bool.false_and] at z
        exact z
      · have e1 : isNamesD (.tuple nn) = true := by
          cases h : isNamesD (.tuple nn) with
          | true => rfl
          | false => rw [h] at c; cases c
        have q2 : ∀ J, Kp No G J → Q (.bl ((aa.all (fun e => isLotD (nn.length : Int) e && decide (lenD e = 2)) && ascR (aa.map rowD)) && (decide (ll.length ≤ 28) && (ll.all (fun e => isLotD (nn.length : Int) e && decide (2 ≤ lenD e)) && ascR (ll.map rowD))))) J := fun J k => by
          have z := q2 J k
          rw [whole, e1, Bool.true_and] at z
          exact z
        have n8 : nn.length ≤ 8 := by
          have z : ((decide (1 ≤ nn.length) && decide (nn.length ≤ 8)) && (nn.all isNameD && decide ((nn.map valS).Nodup))) = true := e1
          simp only [Bool.and_eq_true, decide_eq_true_iff] at z
          exact z.1.2
        have rok : ∀ {e : PyData}, isLotD (nn.length : Int) e = true → Dg 64 (rowD e) := fun {e} h x hx => by
          cases e with
          | tuple es =>
            have h : (es.all (inB (nn.length : Int)) && ascL (es.map valI)) = true := h
            rw [Bool.and_eq_true, List.all_eq_true] at h
            obtain ⟨y, hy, rfl⟩ := List.mem_map.mp hx
            have z := h.1 y hy
            cases y with
            | int i =>
              have z : (decide (0 ≤ i) && decide (i < (nn.length : Int))) = true := z
              rw [Bool.and_eq_true] at z
              have a0 := of_decide_eq_true z.1
              have a1 := of_decide_eq_true z.2
              show 0 ≤ i ∧ i < 64
              omega
            | _ => exact absurd z Bool.false_ne_true
          | _ => exact absurd h Bool.false_ne_true
        have rlen : ∀ {e : PyData}, isLotD (nn.length : Int) e = true → (rowD e).length = lenD e := fun {e} h => by
          cases e with
          | tuple es => exact List.length_map ..
          | _ => exact absurd h Bool.false_ne_true
        refine st_next ?_
        dsimp only
        have en1 := rd_kp kJ (fun z : No tn => z) en
        have ea1 := rd_kp kJ (fun z : No ta => z) ea
        have el1 := rd_kp kJ (fun z : No tl => z) el
        have La1 := upL0 La kJ
        have Ll1 := upL0 Ll kJ
        replace q2 : ∀ J2, Kp No J J2 → _ := fun J2 k => q2 J2 (kJ.tr k)
        clear kJ c whole
        -- the arrows
        refine if_ansH (b := !aa.all (fun e => isLotD (nn.length : Int) e && decide (lenD e = 2))) (fun J2 => Kp No J J2) (fun R r => ?_) (fun c J2 k2 => ?_) (fun c J2 k2 => ?_)
        · refine ⟨.ref ta, rfl, ta, rfl, ⟨xa, .inl ea1⟩, fun D nD => ?_⟩
          refine lc_tup (K := K) (a := ta) (xs := xa) (PvB (fun i => match aa[i]? with | some e => isLotD (nn.length : Int) e && decide (lenD e = 2) | none => false) J D) (PvB.zero nD) (fun i J _ p => .inl (rd_kp p.2 (fun z => z) ea1)) ?_ ?_
          · rintro i x J3 hx p
            have hi : i ≤ 1000 := by
              have := (List.getElem?_eq_some_iff.mp hx).1
              omega
            obtain ⟨e, he, dx⟩ := La1.get hx
            have dx := up0 dx p.2
            refine ⟨rfl, tyes ⟨x, rfl, x, e, 2, Z, rfl, dx, _, rfl, ifte (fun c1 => ?_) (fun c1 => p.step nD Kp.rfl' hi ?_)⟩⟩
            · refine ⟨.ref tn, rfl, tn, xn, rfl, .inr (.inl (rd_kp p.2 (fun z : No tn => z) en1)), x, rfl, (xn.length : Int), x, e, Z, rfl, dx, p2 e (List.mem_of_getElem? he), fun J4 k4 => p.step nD k4 hi ?_⟩
              rw [he, lxn]
              show isLotD (nn.length : Int) e = (isLotD (nn.length : Int) e && decide (lenD e = 2))
              rw [Bool.and_eq_true] at c1
              have := of_decide_eq_true c1.2
              rw [decide_eq_true (show lenD e = 2 by omega), Bool.and_true]
            · rw [he]
              show false = (isLotD (nn.length : Int) e && decide (lenD e = 2))
              cases hh : isLotD (nn.length : Int) e with
              | false => rfl
              | true =>
                have t : isTupD e = true := by
                  cases e with
                  | tuple _ => rfl
                  | _ => exact absurd hh Bool.false_ne_true
                rw [t, Bool.true_and] at c1
                have := of_decide_eq_false c1
                rw [decide_eq_false (show ¬ lenD e = 2 by omega)]
                rfl
          · rintro J3 ⟨eJ, k3⟩
            refine ⟨D, _, rfl, .inl (.inl eJ), _, rfl, ?_⟩
            have e2 : ((List.range xa.length).map fun i => match aa[i]? with | some e => isLotD (nn.length : Int) e && decide (lenD e = 2) | none => false).all id = aa.all (fun e => isLotD (nn.length : Int) e && decide (lenD e = 2)) := by
              rw [lxa]
              exact range_all _ aa _ fun i x hx => by rw [hx]
            rw [e2]
            exact r J3 k3
        · have z := q2 J2 k2
          have e : aa.all (fun e => isLotD (nn.length : Int) e && decide (lenD e = 2)) = false := by
            cases h : aa.all (fun e => isLotD (nn.length : Int) e && decide (lenD e = 2)) with
            | false => rfl
            | true => rw [h] at c; cases c
          rw [e, Bool.false_and, Bool.false_and] at z
          exact z
        have hA : aa.all (fun e => isLotD (nn.length : Int) e && decide (lenD e = 2)) = true := by
          cases h : aa.all (fun e => isLotD (nn.length : Int) e && decide (lenD e = 2)) with
          | true => rfl
          | false => rw [h] at c; cases c
        have hA2 : ∀ e ∈ aa, isLotD (nn.length : Int) e = true ∧ lenD e = 2 := fun e he => by
          have z := List.all_eq_true.mp hA e he
          rw [Bool.and_eq_true] at z
          exact ⟨z.1, of_decide_eq_true z.2⟩
        have aeq := lot_rows (c := (nn.length : Int)) (ds := aa) fun e he => (hA2 e he).1
        replace q2 : ∀ J3, Kp No J2 J3 → Q (.bl (ascR (aa.map rowD) && (decide (ll.length ≤ 28) && (ll.all (fun e => isLotD (nn.length : Int) e && decide (2 ≤ lenD e)) && ascR (ll.map rowD))))) J3 := fun J3 k => by
          have z := q2 J3 (k2.tr k)
          rw [hA, Bool.true_and] at z
          exact z
        have en2 := rd_kp k2 (fun z : No tn => z) en1
        have ea2 := rd_kp k2 (fun z : No ta => z) ea1
        have el2 := rd_kp k2 (fun z : No tl => z) el1
        have La2 := upL0 La1 k2
        have Ll2 := upL0 Ll1 k2
        rw [aeq] at La2
        clear k2 c
        refine st_next ?_
        dsimp only
        refine if_ansH (b := !ascR (aa.map rowD) || decide (28 < ll.length)) (fun J3 => Kp No J2 J3) (fun R r => ?_) (fun c J3 k3 => ?_) (fun c J3 k3 => ?_)
        · refine ss_cmp (K := K) (Z := Z) (rows := aa.map rowD) rfl ea2 La2 (by rw [List.length_map]; omega) (fun r hr => ?_) fun J3 x y d e k3 dx dy sd se ev => ⟨d, e, dx, dy, sd, se, _, rfl, ?_⟩
          · obtain ⟨e, he, rfl⟩ := List.mem_map.mp hr
            obtain ⟨h1, h2⟩ := hA2 e he
            rw [rlen h1, h2]
            exact ⟨by decide, by decide, rok h1⟩
          · rw [ev]
            have r := r J3 k3
            cases hs : ascR (aa.map rowD) with
            | false =>
              rw [hs] at r
              exact iteT r
            | true =>
              rw [hs] at r
              refine iteF ⟨.ref tl, rfl, tl, xl, rfl, .inr (.inl (rd_kp k3 (fun z : No tl => z) el2)), (xl.length : Int), 28, rfl, rfl, _, rfl, ?_⟩
              have e : decide ((28 : Int) < (xl.length : Int)) = decide (28 < ll.length) := decide_eq_decide.mpr (by omega)
              rw [e]
              exact r
        · have z := q2 J3 k3
          cases hs : ascR (aa.map rowD) with
          | false =>
            rw [hs, Bool.false_and] at z
            exact z
          | true =>
            rw [hs] at c
            have c : decide (28 < ll.length) = true := c
            rw [decide_eq_false (show ¬ ll.length ≤ 28 by have := of_decide_eq_true c; omega), Bool.false_and, Bool.and_false] at z
            exact z
        have hs : ascR (aa.map rowD) = true := by
          cases h : ascR (aa.map rowD) with
          | true => rfl
          | false => rw [h] at c; cases c
        have h28 : ll.length ≤ 28 := by
          rw [hs] at c
          have c : decide (28 < ll.length) = false := c
          have := of_decide_eq_false c
          omega
        replace q2 : ∀ J4, Kp No J3 J4 → Q (.bl (ll.all (fun e => isLotD (nn.length : Int) e && decide (2 ≤ lenD e)) && ascR (ll.map rowD))) J4 := fun J4 k => by
          have z := q2 J4 (k3.tr k)
          rw [hs, Bool.true_and, decide_eq_true h28, Bool.true_and] at z
          exact z
        have en3 := rd_kp k3 (fun z : No tn => z) en2
        have el3 := rd_kp k3 (fun z : No tl => z) el2
        have Ll3 := upL0 Ll2 k3
        clear k3 c
        refine st_next ?_
        dsimp only
        refine if_ansH (b := !ll.all (fun e => isLotD (nn.length : Int) e && decide (2 ≤ lenD e))) (fun J4 => Kp No J3 J4) (fun R r => ?_) (fun c J4 k4 => ?_) (fun c J4 k4 => ?_)
        · refine ⟨.ref tl, rfl, tl, rfl, ⟨xl, .inl el3⟩, fun D nD => ?_⟩
          refine lc_tup (K := K) (a := tl) (xs := xl) (PvB (fun i => match ll[i]? with | some e => isLotD (nn.length : Int) e && decide (2 ≤ lenD e) | none => false) J3 D) (PvB.zero nD) (fun i J _ p => .inl (rd_kp p.2 (fun z => z) el3)) ?_ ?_
          · rintro i x J5 hx p
            have hi : i ≤ 1000 := by
              have := (List.getElem?_eq_some_iff.mp hx).1
              omega
            obtain ⟨e, he, dx⟩ := Ll3.get hx
            have dx := up0 dx p.2
            refine ⟨rfl, tyes ⟨.ref tn, rfl, tn, xn, rfl, .inr (.inl (rd_kp p.2 (fun z : No tn => z) en3)), x, rfl, (xn.length : Int), x, e, Z, rfl, dx, p3 e (List.mem_of_getElem? he), fun J6 k6 => ⟨_, rfl, ?_⟩⟩⟩
            rw [lxn]
            refine ifte (fun c1 => ?_) (fun c1 => p.step nD k6 hi ?_)
            · obtain ⟨b, rfl, eb, _, lb⟩ := lot_tup (up0 dx k6) c1
              refine ⟨.ref b, rfl, b, _, rfl, .inr (.inl eb), (((rowD e).map V.int).length : Int), 1, rfl, rfl, p.step nD k6 hi ?_⟩
              rw [he]
              show decide ((1 : Int) < (((rowD e).map V.int).length : Int)) = (isLotD (nn.length : Int) e && decide (2 ≤ lenD e))
              rw [c1, Bool.true_and, List.length_map, ← lb]
              exact decide_eq_decide.mpr (by omega)
            · rw [he]
              show false = (isLotD (nn.length : Int) e && decide (2 ≤ lenD e))
              rw [c1, Bool.false_and]
          · rintro J5 ⟨eJ, k5⟩
            refine ⟨D, _, rfl, .inl (.inl eJ), _, rfl, ?_⟩
            have e2 : ((List.range xl.length).map fun i => match ll[i]? with | some e => isLotD (nn.length : Int) e && decide (2 ≤ lenD e) | none => false).all id = ll.all (fun e => isLotD (nn.length : Int) e && decide (2 ≤ lenD e)) := by
              rw [lxl]
              exact range_all _ ll _ fun i x hx => by rw [hx]
            rw [e2]
            exact r J5 k5
        · have z := q2 J4 k4
          have e : ll.all (fun e => isLotD (nn.length : Int) e && decide (2 ≤ lenD e)) = false := by
            cases h : ll.all (fun e => isLotD (nn.length : Int) e && decide (2 ≤ lenD e)) with
            | false => rfl
            | true => rw [h] at c; cases c
          rw [e, Bool.false_and] at z
          exact z
        have hA3 : ll.all (fun e => isLotD (nn.length : Int) e && decide (2 ≤ lenD e)) = true := by
          cases h : ll.all (fun e => isLotD (nn.length : Int) e && decide (2 ≤ lenD e)) with
          | true => rfl
          | false => rw [h] at c; cases c
        have hA4 : ∀ e ∈ ll, isLotD (nn.length : Int) e = true ∧ 2 ≤ lenD e := fun e he => by
          have z := List.all_eq_true.mp hA3 e he
          rw [Bool.and_eq_true] at z
          exact ⟨z.1, of_decide_eq_true z.2⟩
        have leq := lot_rows (c := (nn.length : Int)) (ds := ll) fun e he => (hA4 e he).1
        have Ll4 := upL0 Ll3 k4
        rw [leq] at Ll4
        refine st_next ?_
        dsimp only
        refine ss_cmp (K := K) (Z := Z) (rows := ll.map rowD) rfl (rd_kp k4 (fun z : No tl => z) el3) Ll4 (by rw [List.length_map]; omega) (fun r hr => ?_) fun J5 x y d e k5 dx dy sd se ev => ⟨d, e, dx, dy, sd, se, ?_⟩
        · obtain ⟨e, he, rfl⟩ := List.mem_map.mp hr
          obtain ⟨h1, h2⟩ := hA4 e he
          have h3 : lenD e ≤ 63 := by
            have z := p3 e he
            cases e with
            | tuple es => exact (okd_tup.mp z).1
            | _ => exact Nat.zero_le _
          rw [rlen h1]
          exact ⟨by omega, h3, rok h1⟩
        · have z := q2 J5 (k4.tr k5)
          rw [hA3, Bool.true_and, ← ev] at z
          exact z
end
end GR

/-! Own layer: «for i, x in enumerate(t)», t a tuple. -/
namespace KS
open PySem PySem.Spec PyProof.Rows L2
abbrev enO (it : Addr) : Obj := { cls := .type "enumerate", data := .fields #[.none, .bool false, .ref it, rawInt 0, .none, .none] }
theorem new_enum {v : Value} {o : Obj} {Hs : Heap → Prop} (B : Begins v o Hs) :
    Meets (Builtin.«enumerate.__new__» ⟨[.type "enumerate", v], []⟩) (fun _ R s => Hs s.heap ∧ R (.ok (.ret (.ref (s.heap.push o).objs.size))) { s with heap := (s.heap.push o).push (enO s.heap.objs.size) }) := by
  refine .of_wp fun prog w A R s hp => ?_
  obtain ⟨there, fin⟩ := hp
  obtain ⟨heap, gl, di, tok, os⟩ := s
  have sub := sub_enumerate
  have begin_ : ∀ {A2 : Around} {E2 : Value → Shared → Prop} {Q2 : Value → Shared → Prop}, Q2 (.ref heap.objs.size) ⟨heap.push o, gl, di, tok, os⟩ → wpAny (model prog w) A2 (pyIter v) Q2 E2 ⟨heap, gl, di, tok, os⟩ :=
    fun x => B.iter prog w _ _ ⟨heap, gl, di, tok, os⟩ _ there x
  wp_walk using begin_
  refine wpAny_stack_any fun st => wpAny_pure ?_
  split
  · rename_i c _ _ _ _ _
    cases (c == Value.type "enumerate") <;> (wp_walk using begin_; exact ⟨_, rfl, fin⟩)
  · wp_walk using begin_
    exact ⟨_, rfl, fin⟩
theorem call_enumT {P : Program} {w : World} {A : Around} {E : Value → Shared → Prop} {s : Shared} {a : Addr} {items : Array Value} {Q : Value → Shared → Prop} (hT : s.heap.IsTuple a items)
    (q : ∀ h', IsEnum h' (s.heap.objs.size + 1) s.heap.objs.size 0 .none → h'.IsTupleIter s.heap.objs.size a 0 → (∀ b o, s.heap.get? b = some o → h'.get? b = some o) → Q (.ref (s.heap.objs.size + 1)) { s with heap := h' }) :
    wpAny (model P w) A (call (.type "enumerate") [.ref a]) Q E s := by
  have B := begins_tuple a items
  refine callType_new F.called_enumerate (by decide) (F.typeCall_enumerate_1 _) (F.newCall_enumerate_1 _) (fun obj => F.args_object_init_2 obj _) F.entry_enumerate_new (new_enum B) ⟨hT, ?_⟩
  generalize hh : s.heap.push { cls := .type "tuple_iterator", data := .fields #[.ref a, .int 0 0] } = h1
  have z1 : h1.objs.size = s.heap.objs.size + 1 := by rw [← hh]; exact Heap.size_push ..
  have e1 : h1.get? s.heap.objs.size = some { cls := .type "tuple_iterator", data := .fields #[.ref a, .int 0 0] } := by rw [← hh]; exact Heap.get?_push_size _ rfl
  have k1 : ∀ b o, s.heap.get? b = some o → h1.get? b = some o := fun b o x => by rw [← hh]; exact Heap.get?_push_of_some _ x
  have e2 : IsEnum (h1.push (enO s.heap.objs.size)) (s.heap.objs.size + 1) s.heap.objs.size 0 .none := by
    rw [← z1]
    exact Heap.get?_push_size _ rfl
  have tail : ∃ o, (h1.push (enO s.heap.objs.size)).get? (s.heap.objs.size + 1) = some o ∧ o.cls = .type "enumerate" := ⟨_, e2, rfl⟩
  have fin := q _ e2 ⟨_, Heap.get?_push_of_some _ e1, rfl, rfl⟩ fun b o x => Heap.get?_push_of_some _ (k1 b o x)
  show _ ∧ _
  rw [z1]
  exact ⟨tail, fin⟩
/-- a tuple's items in new pairs with their numbers -/
def Itn (a : Addr) : It :=
  ⟨fun i H => ∃ (xs : List V) (x : V), Rd H a (.tup xs) ∧ xs[i]? = some x, fun i H v H' => ∃ T x, v = .ref T ∧ H T = none ∧ H' = upd H T (.tup [.int (i : Nat), x]) ∧ ∀ xs, Rd H a (.tup xs) → xs[i]? = some x, fun i H => ∃ xs : List V, Rd H a (.tup xs) ∧ xs.length ≤ i⟩
theorem turn_enumT {P : Program} {w : World} {K : PySem.W.Frag} {elts : List Expr} {kk : Nat} {tpos : Pos} (a e it : Addr) :
    Turn P w K (.Tuple elts kk tpos) (Itn a) [e, it] e (fun i h => (∃ old, IsEnum h e it ((i : Nat) : Int) old) ∧ h.IsTupleIter it a i ∧ e ≠ it) where
  mem := List.mem_cons_self
  obj := fun i h ⟨⟨old, he⟩, ⟨o, ho, _, hd⟩, _⟩ b hb => by
    rcases List.mem_cons.mp hb with rfl | hb
    · exact ⟨_, he, fun v z => nomatch z⟩
    · rw [List.mem_singleton.mp hb]
      exact ⟨o, ho, fun v z => by rw [hd] at z; cases z⟩
  keep := fun i h h' ⟨⟨old, he⟩, hi, ne⟩ k => ⟨⟨old, k e List.mem_cons_self _ he⟩, hi.at fun o q => k it (List.mem_cons_of_mem _ List.mem_cons_self) o q, ne⟩
  item := by
    intro X hP hw hK hc i pins s σ H E I hf st hg
    subst hP hw hK
    obtain ⟨⟨old, he⟩, hit, ne⟩ := st
    obtain ⟨xs, x, hq, hx⟩ := hg
    obtain ⟨its, rv, p, hz⟩ := I.tuple (.inl hq)
    obtain ⟨u, hu, ru⟩ := rv.get hx
    have hel : e < s.heap.objs.size := Heap.lt_size he
    have hil : it < s.heap.objs.size := by obtain ⟨_, q, _⟩ := hit; exact Heap.lt_size q
    have untr : ∀ b ∈ [e, it], b ≠ a := fun b hb z => by
      have n := (hf b hb).1
      rw [z] at n
      rcases hq with q | ⟨o, q⟩ <;> exact absurd (n.symm.trans q) (fun z => nomatch z)
    have ea := untr e List.mem_cons_self
    have ia := untr it (List.mem_cons_of_mem _ List.mem_cons_self)
    have D : Draws X.prog X.w X.A.in1 it [it, a] its.toArray.size (fun i v => its.toArray[i]? = some v) (fun i h => h.IsTupleIter it a i ∧ h.IsTuple a its.toArray) := Draws.tuple (A := X.A.in1) (show X.A.in1.handled = none from I.ok.hd hc) it a (Ne.symm ia) _
    have hlt : i < its.toArray.size := by
      rw [List.size_toArray, ← rv.length]
      exact (List.getElem?_eq_some_iff.mp hx).1
    refine wpAny_pyNext_enum_itemD D he ⟨hit, p⟩ hlt ne (by simp [ne, ea]) fun v h' tk hv ho st' hT hsz hk => ?_
    have ev : v = u := by
      have hv : its.toArray[i]? = some v := hv
      have hu' : its.toArray[i]? = some u := by simpa using hu
      rw [hv] at hu'
      exact Option.some.inj hu'
    subst ev
    refine ⟨_, rfl, wpAny_letOwnedTupleGo_enum (s := { s with heap := h', toks := tk + 1 }) ho fun h'' he' sb => ?_⟩
    have hT2 : h''.get? s.heap.objs.size = some { cls := .type "tuple", data := .seq #[.int i tk, v] } := (sb.2 _ (Nat.ne_of_gt hel)).trans hT
    have new : ObjOk X.prog X.w (upd H s.heap.objs.size (.tup [.int (i : Nat), x])) h'' s.heap.objs.size (.tup [.int (i : Nat), x]) :=
      ⟨by show 2 ≤ sizeLine; decide, [.int i tk, v], .cons ⟨_, rfl⟩ (.cons ru .nil), ⟨_, hT2, rfl, _, rfl⟩⟩
    have I1 : Inv X pins σ (upd H s.heap.objs.size (.tup [.int (i : Nat), x])) { s with heap := h'', toks := tk + 1 } :=
      I.turnedNew (ch := [e, it]) (fun b ob hb q => (sb.2 b (fun z => hb (by simp [z]))).trans (hk b ob (fun z => hb (by simp [z])) (fun z => hb (by simp [z])) q)) hf (Nat.le_refl _) new
    refine ⟨.ref s.heap.objs.size, _, I1, rfl, ⟨_, x, rfl, I.hok.fresh (Nat.le_refl _), rfl, fun ys hy => by rw [I.tuple_inj (.inl hy) (.inl hq)]; exact hx⟩, ⟨⟨v, ?_⟩, st'.1.at fun o q => (sb.2 it (Ne.symm ne)).trans q, ne⟩, fun b hb => ?_⟩
    · have e1 : ((i + 1 : Nat) : Int) = (i : Int) + 1 := by omega
      rw [e1]
      exact he'
    · have hb' : b < s.heap.objs.size := by
        rcases List.mem_cons.mp hb with z | z
        · rw [z]; exact hel
        · rw [List.mem_singleton.mp z]; exact hil
      rw [upd_ne (Nat.ne_of_lt hb')]
      exact (hf b hb).1
  done := by
    intro X hP hw hK hc i pins s σ H E I hf st hg
    subst hP hw hK
    obtain ⟨⟨old, he⟩, hit, ne⟩ := st
    obtain ⟨xs, hq, hx⟩ := hg
    obtain ⟨its, rv, p, hz⟩ := I.tuple (.inl hq)
    obtain ⟨f0, f1, f2, f3, f4, f5⟩ := hf it (List.mem_cons_of_mem _ List.mem_cons_self)
    have len := rv.length
    have hT : s.TypeIs (.ref e) "enumerate" := ⟨_, he, rfl⟩
    unfold pyNext
    refine wpAny_bind (wpAny_attempt (wpAny_callSpecial?_slot (name := Str.ofString "__next__") hT F.slot_enumerate_next (wpAny_call_entry F.slot_enumerate_next hT F.entry_enumerate_next ?_ (F.args_enumerate_next_1 _))))
    show wpAny _ _ (field (.ref e) 2 >>= _) _ _ _
    refine wpAny_bind (wpAny_field he rfl (x := .ref it) rfl ?_)
    refine wpAny_bind (wpAny_nextOf_tuple_end (I.ok.hd hc) hit p (by simp; omega) fun h' x eb ⟨o, ho, hcl⟩ => ?_)
    refine wpAny_bind (wpAny_isInstance (T := "StopIteration") (b := true) ⟨o, ho, hcl⟩ isSubtype_stop ?_)
    exact wpAny_pure ⟨rfl, I.turned (t' := s.toks) (fun b o hb q => eb b o hb q) f0 f1 f3 f4 f5⟩
  self := fun A i s Q E st h => let ⟨⟨_, he⟩, _⟩ := st; wpAny_pyIter_enum he h
def iEnT (ta : TA) : TI := fun σ H R => ta σ H fun vs H1 => ∃ (a : Addr) (xs : List V), vs = [.ref a] ∧ Rd H1 a (.tup xs) ∧ R (Itn a) H1
theorem pi_enumT {X : Cx} {e : Expr} {ta : TA} {p pos tpos : Pos} {elts : List Expr} {kk : Nat} (hg : Gl X "enumerate") (hm : X.mg "enumerate" = none) (ha : PA X [e] ta) (hs : starEach [e] X.env = [(false, eval e X.env)] := by rfl) :
    PI X (.Tuple elts kk tpos) (.Call (.Name "enumerate" p) [e] [] pos) (iEnT ta) := by
  refine ⟨fun pins s σ H R I h => ?_⟩
  refine Call_ (ld_blt I hg hm boot_enumerate (PyProof.Rows.callWith_type1 (thn (ha.run pos pins s σ H _ I h) fun us s1 ⟨vs, H1, I1, r1, a, xs, ex, hq, q⟩ => ?_) hs rfl))
  subst ex
  obtain rfl := Vals.ref1 r1
  obtain ⟨its, rv, p', hz⟩ := I1.tuple (.inl hq)
  refine call_enumT (show s1.heap.IsTuple a its.toArray from p') fun h' he hit hk => wpAny_pyIter_enum he ⟨s1.heap.objs.size + 1, [s1.heap.objs.size + 1, s1.heap.objs.size], _, _, H1, rfl, I1.kept (t' := s1.toks) hk, turn_enumT a (s1.heap.objs.size + 1) s1.heap.objs.size, ⟨⟨.none, he⟩, hit, Nat.succ_ne_self _⟩, fun b hb => ?_, q⟩
  have hle : s1.heap.objs.size ≤ b := by
    rcases List.mem_cons.mp hb with z | z
    · rw [z]; exact Nat.le_add_right _ _
    · rw [List.mem_singleton.mp z]; exact Nat.le_refl _
  exact I1.fpOk hle (I1.hok.fresh hle)
end KS

namespace GR
open PySem PySem.Spec PyProof.Rows L2 KL KG KS KV KY
/-! ### the law's parents -/
abbrev sLPar : Stmt := topS 41
theorem scLPar : FnScope ["graph", "at", "one", "two"] ["graph", "at"] (defScope sLPar) := ⟨rfl, rfl, rfl, by decide +kernel, rfl, by decide +kernel, by decide +kernel⟩
def spLPar : Sp := fun vs H Q _ => ∃ (v : V) (m c : Int) (n r l : PyData) (Z : Addr → Prop), vs = [v, .int m] ∧ Dq Z H v (.tuple [n, r, l]) ∧ isArrD c r = true ∧ lenD r ≤ 1000 ∧ ∀ (T : Addr) (G : Hp), Kp No H G → H T = none → G T = some (.tup ((parL (rowsD r) m).map V.int)) → Q (.ref T) G
theorem kp_none {H G : Hp} (k : Kp No H G) {T : Addr} (n : G T = none) : H T = none := by
  cases z : H T with
  | none => rfl
  | some o =>
    rw [k T o (fun z => z) z] at n
    cases n
theorem par_next {ds : List PyData} {i : Nat} {di : PyData} {p s' m : Int} (hdi : ds[i]? = some di) (hrow : rowD di = [p, s']) : parL ((ds.take (i + 1)).map rowD) m = parL ((ds.take i).map rowD) m ++ (if s' = m then [p] else []) := by
  unfold parL
  rw [List.take_add_one, hdi, List.map_append, List.filter_append, List.map_append]
  refine congrArg _ ?_
  show (List.filter _ [rowD di]).map _ = _
  rw [hrow]
  by_cases z : s' = m <;> simp [z]
theorem chi_next {ds : List PyData} {i : Nat} {di : PyData} {p s' m : Int} (hdi : ds[i]? = some di) (hrow : rowD di = [p, s']) : chiL ((ds.take (i + 1)).map rowD) m = chiL ((ds.take i).map rowD) m ++ (if p = m then [s'] else []) := by
  unfold chiL
  rw [List.take_add_one, hdi, List.map_append, List.filter_append, List.map_append]
  refine congrArg _ ?_
  show (List.filter _ [rowD di]).map _ = _
  rw [hrow]
  by_cases z : p = m <;> simp [z]
theorem par_few (rows : List (List Int)) (m : Int) : (parL rows m).length ≤ rows.length := by
  unfold parL
  rw [List.length_map]
  exact List.length_filter_le _ _
theorem chi_few (rows : List (List Int)) (m : Int) : (chiL rows m).length ≤ rows.length := by
  unfold chiL
  rw [List.length_map]
  exact List.length_filter_le _ _
theorem arrow_at {Z : Addr → Prop} {H : Hp} {c : Int} {x : V} {di : PyData} (dqi : Dq Z H x di) (hi : (isLotD c di && decide (lenD di = 2)) = true) : ∃ (e : Addr) (p s' : Int), x = .ref e ∧ rowD di = [p, s'] ∧ Rd H e (.tup [.int p, .int s']) := by
  rw [Bool.and_eq_true] at hi
  obtain ⟨e, rfl, ee, ze, el⟩ := lot_tup dqi hi.1
  have two : (rowD di).length = 2 := by rw [← el]; exact of_decide_eq_true hi.2
  obtain ⟨p, s', hrow⟩ : ∃ p s', rowD di = [p, s'] := by
    match rowD di, two with
    | [p, s'], _ => exact ⟨p, s', rfl⟩
  rw [hrow] at ee
  exact ⟨e, p, s', rfl, hrow, ee⟩
section
variable {P : Program} {w : World} {K : PySem.W.Frag} {mg : Str → Option Value} {base : Heap}
theorem ok_lpar {f : Addr} {fd : FuncData} (F : Fun K "_law_parents" "_law_parents" sLPar f fd) (mt : mg "tuple" = none) : FnOk P w K mg base CX0 1 f fd ["graph", "at"] spLPar := by
  refine F.ok scLPar (fun vs H Q E h => ?_) (fun cdv A outer s H vs Q E hr h => ?_)
  · obtain ⟨v, m, c, n, r, l, Z, rfl, _⟩ := h
    rfl
  · obtain ⟨v, m, c, n, r, l, Z, rfl, dq, ha, hl, q⟩ := h
    refine ⟨_, pss_one (ps_ret (pe_callTy call_tuple_of (by rfl) mt (by decide +kernel) (pa_cons (pe_lc (own := [("one", 2), ("two", 3)]) (g := gTup K 2 (gCons (gName 2) (gCons (gName 3) gNil))) rfl scLPar.nd (pi_tup (pe_ix ix_tup (pv 0) pe_int (fun _ _ => rfl))) (blkOk_by (N := ["graph", "at", "one", "two"]) (sc := defScope sLPar) (by decide +kernel)) (fun _ _ _ _ _ => (pg_tup rfl (pgs_cons (pg_name (i := 2) scLPar.nd rfl (.inl rfl)) (pgs_cons (pg_name (i := 3) scLPar.nd rfl (.inl rfl)) pgs_nil)))) (fun _ _ _ _ _ => pts_one (pt_cmpR op_eq (pv 3) (pv 1) (nomark _))) (fun _ _ _ _ _ => (pv 2))) pa_nil))), ?_⟩
    cases dq with
    | @tup a _ _ ea za L =>
    cases L with
    | @cons v1 _ _ _ q1 L =>
    cases L with
    | @cons v2 _ _ _ q2 L =>
    obtain ⟨b, ys, ds, rfl, rfl, eb, zb, M, all⟩ := arrow_rows q2 ha
    have hlen : ds.length ≤ 1000 := hl
    refine ⟨.ref a, rfl, a, _, 1, .ref b, rfl, rfl, .inl ea, atI_nat (j := 1) rfl, b, rfl, ⟨ys, .inl eb⟩, fun D nD => ?_⟩
    refine lc_tup (K := K) (a := b) (xs := ys) (fun i J => Kp No H J ∧ J D = some (.lst ((parL ((ds.take i).map rowD) m).map V.int))) ⟨Kp.new nD, upd_same⟩ (fun i J _ h => .inl (rd_kp h.1 (fun y => y) eb)) ?_ ?_
    · rintro i x J hx ⟨ks, eJ⟩
      obtain ⟨di, hdi, dqi⟩ := M.get hx
      obtain ⟨e, p, s', rfl, hrow, ee⟩ := arrow_at (up0 dqi ks) (List.all_eq_true.mp all di (List.mem_of_getElem? hdi))
      have small := par_few ((ds.take i).map rowD) m
      rw [List.length_map, List.length_take] at small
      refine ⟨e, _, rfl, .inl ee, rfl, .int p, _, rfl, .int s', _, rfl, rfl, rfl, .int s', rfl, .int m, rfl, rfl, _, rfl, ifte (fun c1 => ?_) (fun c1 => ?_)⟩
      · have z : s' = m := V.int.inj (of_decide_eq_true c1)
        refine ⟨.int p, rfl, _, eJ, by rw [List.length_map, sizeLine_eq]; omega, Kp.off ks nD, ?_⟩
        rw [upd_same, par_next hdi hrow, if_pos z, List.map_append]
        rfl
      · have z : s' ≠ m := fun y => of_decide_eq_false c1 (congrArg V.int y)
        refine ⟨ks, ?_⟩
        rw [par_next hdi hrow, if_neg z, List.append_nil]
        exact eJ
    · rintro J ⟨ks, eJ⟩
      rw [M.len, List.take_length] at eJ
      exact ⟨D, _, rfl, .inl ⟨.inl (.inl eJ), fun T nT => q T _ (ks.tr (Kp.new nT)) (kp_none ks nT) upd_same⟩⟩
end
end GR

namespace KY
open PySem PySem.Spec PyProof.Rows L2 KL KS GR
/-! ### a def called by keywords alone -/
def tCallK0 (sp : Sp) (gV : List V → List V → List V) (E : XK) (tk : TA) : TE := fun σ H Q => tk σ H fun zs H1 => sp (gV [] zs) H1 Q E
theorem pe_callK0 {X : Cx} {CX : CXT} {k : Nat} {f : Addr} {fd : FuncData} {ps ks : List Str} {sp : Sp} {E : XK} {x : Str} {p pos : Pos} {kws : List Keyword} {tk : TA} {g : List Value → List Value → List Value} {gV : List V → List V → List V}
    (F : FnOk X.prog X.w X.K X.mg X.base CX k f fd ps sp) (hr : Room k X.A) (hg : Gl X x) (hm : X.mg x = some (.ref f)) (hk : PySem.W.keepIn X.K (.ref f) = true) (hb : KBinds X.K fd ps ks g gV) (hx : Passes CX X E) (hkw : PK X kws tk)
    (hall : (backToKw pos (keywordEach kws X.env)).all (·.1.isSome) = true := by rfl) (hks : (backToKw pos (keywordEach kws X.env)).filterMap (·.1) = ks := by rfl) (hdb : (x == ("__debug__" : Str)) = false := by decide)
    (hpl : ((backTo pos (starEach [] X.env)).any (·.1) || (backToKw pos (keywordEach kws X.env)).any (·.1.isNone)) = false := by rfl) : PE X (.Call (.Name x p) [] kws pos) (tCallK0 sp gV E tk) := by
  refine ⟨fun pins s σ H Q I h => wpAny_Call_Name_kw (ld_glob I hg hm ?_ hdb)⟩
  refine PySem.W.callWith_KW0 (h₀ := X.base) I.ok.mod.kin hk hall (thn (hkw.run pos pins s σ H _ I h) fun ws s1 ⟨zs, H1, I1, rz, q⟩ => ⟨I1.kIn, ?_⟩) hpl
  rw [hks]
  exact run_fnk (us := []) (vs := []) F hr hb hx I1 .nil rz q
def gRev : List Value → List Value → List Value
  | [], ws => ws.reverse
  | _ :: _, _ => []
def gRevV : List V → List V → List V
  | [], zs => zs.reverse
  | _ :: _, _ => []
def gOne : List Value → List Value → List Value
  | [], ws => ws
  | _ :: _, _ => []
def gOneV : List V → List V → List V
  | [], zs => zs
  | _ :: _, _ => []
theorem kb_rev {K : PySem.W.Frag} {fd : FuncData} {x y : Str} (h : ∀ (s : Shared) (u v : Value), BindsTo s fd ⟨[], [(y, u), (x, v)]⟩ [(x, v), (y, u)]) : KBinds K fd [x, y] [y, x] gRev gRevV := by
  refine ⟨fun s us ws _ hl => ?_, fun r rz => ?_⟩
  · match us, ws, hl with
    | [], [u, v], _ => exact h s u v
    | [], [], hl => cases hl
    | [], [_], hl => cases hl
    | [], _ :: _ :: _ :: _, hl =>
      have hl : (List.reverse _).length = 2 := hl
      rw [List.length_reverse] at hl
      cases hl
    | _ :: _, _, hl => cases hl
  · cases r with
    | nil => exact rz.reverse
    | cons _ _ => exact .nil
theorem kb_one {K : PySem.W.Frag} {fd : FuncData} {x : Str} (h : ∀ (s : Shared) (u : Value), BindsTo s fd ⟨[], [(x, u)]⟩ [(x, u)]) : KBinds K fd [x] [x] gOne gOneV := by
  refine ⟨fun s us ws _ hl => ?_, fun r rz => ?_⟩
  · match us, ws, hl with
    | [], [u], _ => exact h s u
    | [], [], hl => cases hl
    | [], _ :: _ :: _, hl => cases hl
    | _ :: _, _, hl => cases hl
  · cases r with
    | nil => exact rz
    | cons _ _ => exact .nil
/-- the turns of «for i, x in enumerate(t)» -/
theorem for_enumT {a : Addr} {xs : List V} {g : TG} {tb : TS} {D : Ends} {σ : L2.St} {H : Hp} (Pv : Nat → L2.St → Hp → Prop) (h0 : Pv 0 σ H) (hl : ∀ i σ H, Pv i σ H → Rd H a (.tup xs))
    (hs : ∀ i x σ H T, xs[i]? = some x → Pv i σ H → H T = none → g (.ref T) σ (upd H T (.tup [.int (i : Nat), x])) fun σ2 H2 => tb { D with nx := Pv (i + 1), ct := Pv (i + 1), bk := D.nx } σ2 H2) (hd : ∀ σ H, Pv xs.length σ H → D.nx σ H) :
    ∃ W : Nat → Nat → L2.St → Hp → Prop, (∃ m, W 0 m σ H) ∧ ∀ i m σ H, W i m σ H →
      ((Itn a).stop i H ∧ D.nx σ H) ∨ ((Itn a).go i H ∧ ∃ Nx : L2.St → Hp → Prop, (∀ σ' H', Nx σ' H' → ∃ m', m' < m ∧ W (i + 1) m' σ' H') ∧ ∀ x H', (Itn a).yld i H x H' → g x σ H' fun σ2 H2 => tb { D with nx := Nx, ct := Nx, bk := D.nx } σ2 H2) := by
  refine ⟨fun i m σ H => m + i = xs.length ∧ Pv i σ H, ⟨xs.length, rfl, h0⟩, ?_⟩
  rintro i m σ H ⟨e, p⟩
  have rd := hl i σ H p
  cases m with
  | zero =>
    have e : i = xs.length := by omega
    subst e
    exact .inl ⟨⟨xs, rd, Nat.le_refl _⟩, hd σ H p⟩
  | succ m =>
    have lt : i < xs.length := by omega
    refine .inr ⟨⟨xs, xs[i], rd, List.getElem?_eq_getElem lt⟩, Pv (i + 1), fun σ' H' p' => ⟨m, Nat.lt_succ_self m, by omega, p'⟩, fun x H' ⟨T, y, e1, nT, e2, get⟩ => ?_⟩
    subst e1 e2
    exact hs i y σ H T (get xs rd) p nT
end KY
namespace GR
open PySem PySem.Spec PyProof.Rows L2 KL KG KS KV KY
/-! ### what may be shown -/
structure Sd (k b : Nat) (d : PyData) : Prop where
  sh : PyData.showable d = true
  dp : PyData.depth d ≤ k
  ln : (PyData.shown d).length ≤ b
theorem sd_all {k b : Nat} : ∀ {ds : List PyData}, (∀ d ∈ ds, Sd k b d) → PyData.showableAll ds = true ∧ PyData.depthAll ds ≤ k ∧ ((PyData.shownAll ds).map (·.length)).sum ≤ ds.length * b ∧ (PyData.shownAll ds).length = ds.length
  | [], _ => ⟨rfl, Nat.zero_le _, Nat.zero_le _, rfl⟩
  | d :: ds, h => by
    obtain ⟨a1, a2, a3, a4⟩ := sd_all (ds := ds) fun e he => h e (List.mem_cons_of_mem _ he)
    obtain ⟨c1, c2, c3⟩ := h d List.mem_cons_self
    refine ⟨by simp only [PyData.showableAll, c1, a1, Bool.and_self], by simp only [PyData.depthAll]; omega, ?_, by simp only [PyData.shownAll, List.length_cons, a4]⟩
    simp only [PyData.shownAll, List.map_cons, List.sum_cons, List.length_cons, Nat.succ_mul]
    omega
theorem sd_int {k : Nat} {i : Int} (h : i.natAbs < 10 ^ 8) : Sd k 20 (.int i) := by
  refine ⟨?_, ?_, ?_⟩
  · simp only [PyData.showable]
    have := PySem.Flt.log2_lt_of (n := i.natAbs) (k := 64) (by decide) (Nat.lt_trans h (by decide))
    exact decide_eq_true (by omega)
  · simp only [PyData.depth]
    omega
  · simp only [PyData.shown]
    have := int_text_length_le10 (a := i) (k := 8) (by decide) h
    rw [PySem.ofString_length]
    omega
theorem sd_bl {k : Nat} {b : Bool} : Sd k 20 (.bool b) := by
  refine ⟨rfl, ?_, ?_⟩
  · simp only [PyData.depth]
    omega
  · cases b <;> decide
theorem sd_tup {k b c : Nat} {ds : List PyData} (h : ∀ d ∈ ds, Sd k b d) (hl : ds.length ≤ c) : Sd (k + 1) (c * b + 2 * c + 3) (.tuple ds) := by
  obtain ⟨h1, h2, h3, h4⟩ := sd_all h
  refine ⟨by simp only [PyData.showable, h1], by simp only [PyData.depth]; omega, ?_⟩
  simp only [PyData.shown]
  have := tupleText_len_le (PyData.shownAll ds)
  have m : ds.length * b ≤ c * b := Nat.mul_le_mul_right _ hl
  omega
/-- a list of data that may be shown -/
def ShL (ds : List PyData) : Prop := PyData.showableAll ds = true ∧ PyData.depthAll ds ≤ 60 ∧ (listText (PyData.shownAll ds)).length ≤ 1000000
theorem shL {k b c : Nat} {ds : List PyData} (h : ∀ d ∈ ds, Sd k b d) (hl : ds.length ≤ c) (hk : k ≤ 60) (hb : c * b + 2 * c + 3 ≤ 1000000) : ShL ds := by
  obtain ⟨h1, h2, h3, h4⟩ := sd_all h
  have z := listText_len_le (PyData.shownAll ds)
  have m : ds.length * b ≤ c * b := Nat.mul_le_mul_right _ hl
  exact ⟨h1, by omega, by omega⟩
/-- a program's function asked with a graph and a name -/
structure Ask (P : Program) (w : World) (K : PySem.W.Frag) (mg : Str → Option Value) (base : Heap) (x : Str) (k : Nat) (sp : Sp) (f : Addr) (fd : FuncData) : Prop where
  ok : FnOk P w K mg base CX0 k f fd ["graph", "name"] sp
  g : mg x = some (.ref f)
  kp : PySem.W.keepIn K (.ref f) = true
  b : L2.Binds K fd ["graph", "name"] []
  kb : KBinds K fd ["graph", "name"] ["name", "graph"] gRev gRevV
/-! ### the graph's parts -/
theorem dq_strs {Z : Addr → Prop} {H : Hp} : ∀ {ws : List Str} {xs : List V}, DqL Z H xs (ws.map PyData.str) → xs = ws.map V.str
  | [], _, h => by cases h; rfl
  | w :: ws, _, h => by
    cases h with
    | cons a t =>
      cases a
      rw [dq_strs t]
      rfl
theorem gr_parts {Z : Addr → Prop} {H : Hp} {v : V} {ws : List Str} {ar hd : List (List Int)} (dq : Dq Z H v (dGraph ws ar hd)) : ∃ a b c e, v = .ref a ∧ Rd H a (.tup [.ref b, .ref c, .ref e]) ∧ ¬ Z a ∧ Rd H b (.tup (ws.map V.str)) ∧ ¬ Z b ∧ Dq Z H (.ref c) (dRows ar) ∧ Dq Z H (.ref e) (dRows hd) := by
  cases dq with
  | @tup a _ _ ea za L =>
    cases L with
    | @cons v1 _ _ _ q1 L =>
    cases L with
    | @cons v2 _ _ _ q2 L =>
    cases L with
    | @cons v3 _ _ _ q3 L =>
    cases L
    have q1' := q1
    cases q1 with
    | @tup b xs _ eb zb M =>
    have q2' := q2
    have q3' := q3
    cases q2 with
    | @tup c _ _ _ _ _ =>
    cases q3 with
    | @tup e _ _ _ _ _ =>
    have ex : xs = ws.map V.str := dq_strs M
    exact ⟨a, b, c, e, rfl, ea, za, ex ▸ eb, zb, q2', q3'⟩
theorem fz_kp {Z : Addr → Prop} {H G : Hp} {v : V} {ws : List Str} {ar hd : List (List Int)} (dq : Dq Z H v (dGraph ws ar hd)) (f : FzNames H v) (k : Kp Z H G) : FzNames G v := by
  obtain ⟨a, b, c, e, rfl, ea, za, eb, zb, _, _⟩ := gr_parts dq
  obtain ⟨a0, b0, xs0, ys0, o0, e0, ra, hb, hd⟩ := f
  cases e0
  have same : b0 = b := by
    rcases ra with ra | ⟨o, ra⟩ <;> rcases ea with ea | ⟨o', ea⟩ <;> rw [ra] at ea <;> cases ea <;> rfl
  subst same
  exact ⟨a, b0, xs0, ys0, o0, rfl, rd_kp k za ra, k _ _ zb hb, hd⟩
theorem rows_back (rows : List (List Int)) : rowsD (dRows rows) = rows := by
  show (rows.map dInts).map rowD = rows
  rw [List.map_map]
  exact (List.map_congr_left fun r _ => row_dInts r).trans (List.map_id rows)
/-- the hidden lots that have the variable, as rows -/
def hidR (hd : List (List Int)) (m : Int) : List (List Int) := hd.filter fun r => decide (m ∈ r)
theorem hid_back (hd : List (List Int)) (m : Int) : hidL (dRows hd) m = (hidR hd m).map dInts := by
  unfold hidL hidR
  show (hd.map dInts).filter _ = _
  rw [List.filter_map]
  refine congrArg (List.map dInts) (List.filter_congr fun r _ => ?_)
  show decide (m ∈ rowD (dInts r)) = _
  rw [row_dInts]
theorem idx_at {ws : List Str} (nd : ws.Nodup) {i : Nat} {y : Str} (h : ws[i]? = some y) : ws.idxOf y = i := by
  obtain ⟨hi, e⟩ := List.getElem?_eq_some_iff.mp h
  subst e
  exact List.Nodup.idxOf_getElem nd i hi
/-- what is due for a variable -/
def dueD (ar hd : List (List Int)) (i : Nat) : List PyData := [.int (i : Nat), dInts (parL ar (i : Nat)), dInts (chiL ar (i : Nat)), dRows (hidR hd (i : Nat))]
theorem sd_ints {ns : List Int} {c : Nat} (h : ∀ x ∈ ns, 0 ≤ x ∧ x < (8 : Int)) (hl : ns.length ≤ c) : Sd 1 (c * 20 + 2 * c + 3) (dInts ns) := by
  refine sd_tup (k := 0) (b := 20) (fun d hd => ?_) (by rw [List.length_map]; exact hl)
  obtain ⟨x, hx, rfl⟩ := List.mem_map.mp hd
  obtain ⟨h1, h2⟩ := h x hx
  exact sd_int (Nat.lt_of_lt_of_le (m := 1000) (by omega) (by decide))
theorem row_in {n : Nat} {r : List Int} (h : LotN n r) (hn : n ≤ 8) {x : Int} (hx : x ∈ r) : 0 ≤ x ∧ x < (8 : Int) := by
  obtain ⟨h1, h2⟩ := h.2 x hx
  exact ⟨h1, by omega⟩
theorem Sd.up {k j b c : Nat} {d : PyData} (h : Sd k b d) (hk : k ≤ j := by omega) (hb : b ≤ c := by omega) : Sd j c d := ⟨h.sh, Nat.le_trans h.dp hk, Nat.le_trans h.ln hb⟩
theorem due_sh {n : Nat} {ws : List Str} {ar hd : List (List Int)} (g : GrN n ws ar hd) {i : Nat} (hi : i < n) : ShL (dueD ar hd i) := by
  have m := g.most
  have few := arr_few g.ar m
  have pr : ∀ r ∈ ar, ∃ a b : Int, r = [a, b] ∧ (0 ≤ a ∧ a < (8 : Int)) ∧ 0 ≤ b ∧ b < (8 : Int) := fun r hr => by
    obtain ⟨h1, h3⟩ := g.ar.2 r hr
    match r, h3 with
    | [a, b], _ => exact ⟨a, b, rfl, row_in h1 m (by simp), row_in h1 m (by simp)⟩
  refine shL (k := 2) (b := 6000) (c := 4) (fun d hd' => ?_) (Nat.le_refl 4) (by decide) (by decide)
  simp only [dueD, List.mem_cons, List.not_mem_nil, or_false] at hd'
  rcases hd' with rfl | rfl | rfl | rfl
  · exact (sd_int (k := 0) (Nat.lt_of_lt_of_le (m := 1000) (by omega) (by decide))).up
  · refine (sd_ints (c := 28) (fun x hx => ?_) (Nat.le_trans (par_few ar _) few)).up
    obtain ⟨r, hr, rfl⟩ := List.mem_map.mp hx
    obtain ⟨a, b, rfl, h1, h2⟩ := pr r (List.mem_filter.mp hr).1
    exact h1
  · refine (sd_ints (c := 28) (fun x hx => ?_) (Nat.le_trans (chi_few ar _) few)).up
    obtain ⟨r, hr, rfl⟩ := List.mem_map.mp hx
    obtain ⟨a, b, rfl, h1, h2⟩ := pr r (List.mem_filter.mp hr).1
    exact h2
  · refine (sd_tup (k := 1) (b := 8 * 20 + 2 * 8 + 3) (c := 28) (fun d hd' => ?_) ?_).up
    · obtain ⟨r, hr, rfl⟩ := List.mem_map.mp hd'
      have lr := (g.hd.2.2 r (List.mem_filter.mp hr).1).1
      exact sd_ints (c := 8) (fun x hx => row_in lr m hx) (by have := lot_short lr; omega)
    · rw [List.length_map]
      exact Nat.le_trans (List.length_filter_le _ _) (by have := g.hd.2.1; omega)
end GR

/-! Own layer, part C: defs whose promise leans on there being no repr under way (guards); the end of a law by such. -/
namespace KL
open PySem PySem.Spec PyProof.Rows L2

/-- as FnOk, asked only where nothing is being shown -/
structure FnG (P : Program) (w : World) (K : PySem.W.Frag) (mg : Str → Option Value) (base : Heap) (CX : CXT) (k : Nat) (f : Addr) (fd : FuncData) (ps : List Str) (sp : Sp) : Prop where
  len : ∀ vs H Q E, sp vs H Q E → vs.length = ps.length
  run : ∀ (A : Around) (outer : List Env) (s : Shared) (H : Hp) (args : Args) (us : List Value) (vs : List V) (Q : VK) (E : XK), A.guards = some [] → Room k A → Env0 P w K mg base A outer s H → BindsTo s fd args (ps.zip us) →
    Vals vs us → sp vs H Q E → codeAny (model P w) A (.call (.ref f) args) (CR CX outer P w H s Q E) s
section
variable {P : Program} {w : World} {K : PySem.W.Frag} {mg : Str → Option Value} {base : Heap} {CX : CXT} {k : Nat} {f : Addr} {fd : FuncData} {ps : List Str} {sp : Sp}
theorem FnG.of (F : FnOk P w K mg base CX k f fd ps sp) : FnG P w K mg base CX k f fd ps sp :=
  ⟨F.len, fun A outer s H args us vs Q E _ hr e0 hb rv h => F.run A outer s H args us vs Q E hr e0 hb rv h⟩
theorem FnG.mono {j : Nat} (F : FnG P w K mg base CX j f fd ps sp) (h : j ≤ k) : FnG P w K mg base CX k f fd ps sp :=
  ⟨F.len, fun A outer s H args us vs Q E hg hr => F.run A outer s H args us vs Q E hg (hr.mono h)⟩
end
theorem enter {P : Program} {w : World} {K : PySem.W.Frag} {mg : Str → Option Value} {base : Heap} {CX : CXT} {name qual : Str} {params : Arguments} {body : List Stmt} {scope : Scope} {dV kV doc pm cdv ct oc : Value} {an od : Option Addr} {osl : Array (Option Value)} {N ps : List Str} {f : Addr}
    {A : Around} {outer : List Env} {s : Shared} {H : Hp} {args : Args} {us : List Value} {vs : List V} {Q : VK} {E : XK} {t : TS} (S : FnScope N ps scope)
    (lk : K.lookup f = some ⟨oc, od, .func (PySem.W.fnOf name qual params body scope dV kV doc pm an cdv ct), osl⟩) (hcd : PySem.W.codeIn K cdv qual = true) (hd : A.handled = none) (hdp : A.depth < recursionLimit) (e0 : Env0 P w K mg base A outer s H)
    (hb : BindsTo s (PySem.W.fnOf name qual params body scope dV kV doc pm an cdv ct) args (ps.zip us)) (rv : Vals vs us) (hl : vs.length = ps.length)
    (hp : PSs (cxOf CX P w K mg base N qual scope f cdv A outer s H E) body t) (ht : t { nx := fun _ G => Q .non G, rt := Q } (start N vs) H) :
    codeAny (model P w) A (.call (.ref f) args) (CR CX outer P w H s Q E) s := by
  have up : ∀ b o, base.get? b = some o → s.heap.get? b = some o := fun b o e => (e0.bs b o e).1
  have inK : K.In s.heap := e0.mod.kin.keeps up
  refine codeAny_call_function hdp (inK _ _ lk) rfl S.co S.gen rfl (PySem.W.codeRec_of inK hcd) (hb _ _ _ _ ?_)
  have kinds : ∀ y ∈ ps.zip us, scope.names.lookup y.1 = some .local ∨ (scope.names.lookup y.1 = some .cell ∧ ((cellsFrom (s.heap.objs.size + 1) scope.names []).lookup y.1).isSome = true) := by
    rintro ⟨n, v⟩ hy
    have hn := (List.of_mem_zip hy).1
    exact (S.par n hn).imp id fun q => ⟨q, PySem.W.cellsFrom_some _ _ _ (.inl q)⟩
  refine wpAny_newFunctionEnv_cells S.kind kinds fun env he s1 x => ?_
  subst he
  refine ⟨(e0.mod.nolimit.keeps up).keeps x.toInCall.keep, codeAny_func ?_⟩
  refine wpAny_mono (hp.run [] s1 (start N vs) H _ (inv_start S hd e0 hl rv x) ht) (fun fl s' hs => ?_) fun _ _ z => z
  cases fl with
  | ret u => exact let ⟨v, _, G, J, r, q⟩ := hs; ⟨v, G, J.os, J.bare, J.base, J.hok, r, q⟩
  | next => exact let ⟨_, G, J, q⟩ := hs; ⟨V.non, G, J.os, J.bare, J.base, J.hok, rfl, q⟩
  | brk => exact let ⟨_, _, _, q⟩ := hs; q.elim
  | cont => exact let ⟨_, _, _, q⟩ := hs; q.elim
section
variable {P : Program} {w : World} {K : PySem.W.Frag} {mg : Str → Option Value} {base : Heap}
/-- a def by its body, nothing being shown -/
theorem okG {x qual : Str} {st : Stmt} {f : Addr} {fd : FuncData} {N ps : List Str} {k : Nat} {sp : Sp} (F : Fun K x qual st f fd) (S : FnScope N ps (defScope st)) (len : ∀ vs H Q E, sp vs H Q E → vs.length = ps.length)
    (hbody : ∀ (cdv : Value) (A : Around) (outer : List Env) (s : Shared) (H : Hp) (vs : List V) (Q : VK) (E : XK), A.guards = some [] → Room k (A.deeper (envOfC qual (defScope st) s.heap.objs.size f cdv)) → sp vs H Q E →
      ∃ t, PSs (cxOf CX0 P w K mg base N qual (defScope st) f cdv A outer s H E).nox (defBody st) t ∧ t { nx := fun _ G => Q .non G, rt := Q } (start N vs) H) : FnG P w K mg base CX0 (k + 1) f fd ps sp := by
  obtain ⟨oc, od, kV, doc, pm, an, cdv, ct, osl, rfl, lk, hcd⟩ := F.ex
  refine ⟨len, fun A outer s H args us vs Q E hg hr e0 hb rv h => ?_⟩
  obtain ⟨t, hp, q⟩ := hbody cdv A outer s H vs Q E hg (hr.deeper _) h
  exact enter S lk hcd hr.hd hr.depth e0 hb rv (len _ _ _ _ h) hp.nox q
end
section
variable {X : Cx} {k : Nat} {f : Addr} {fd : FuncData} {ps : List Str} {sp : Sp} {x : Str} {p pos : Pos} {e : Expr} {es : List Expr} {t : TA}
theorem runG {CX : CXT} {E : XK} {pins : List (Addr × Obj)} {σ : L2.St} {H : Hp} {s : Shared} {Q : VK} {us : List Value} {vs : List V} {args : Args} (F : FnG X.prog X.w X.K X.mg X.base CX k f fd ps sp) (hgd : X.A.guards = some []) (hr : Room k X.A)
    (hb : BindsTo s fd args (ps.zip us)) (hx : Passes CX X E) (I : Inv X pins σ H s) (rv : Vals vs us) (h : sp vs H Q E) : codeAny (model X.prog X.w) X.A (.call (.ref f) args) (fun r s' => match r with | .ok (.ret v) => EP X pins σ Q v s' | .ok _ => False | .error e => X.xe e s') s := by
  refine codeAny_mono (F.run X.A X.stack s H args us vs Q E hgd hr I.env0 hb rv h) fun r s' hq => ?_
  rcases r with e | (u | _ | _ | _)
  · exact hx pins σ H s e s' I hq
  all_goals first | exact I.after hq | exact False.elim hq
theorem pe_callG (F : FnG X.prog X.w X.K X.mg X.base CX0 k f fd ps sp) (hgd : X.A.guards = some []) (hr : Room k X.A) (hg : Gl X x) (hm : X.mg x = some (.ref f)) (hk : PySem.W.keepIn X.K (.ref f) = true) (hb : Binds X.K fd ps [])
    (ha : PA X (e :: es) t) (hdb : (x == ("__debug__" : Str)) = false := by decide) (he : starEach (e :: es) X.env = (false, eval e X.env) :: starEach es X.env := by rfl) (hpl : (backTo pos (starEach es X.env)).any (·.1) = false := by rfl) :
    PE X (.Call (.Name x p) (e :: es) [] pos) (tCall sp [] E0 t) := by
  refine ⟨fun pins s σ H Q I h => wpAny_Call_Name_kw (ld_glob I hg hm ?_ hdb)⟩
  refine PySem.W.callWith_K (h₀ := X.base) I.ok.mod.kin hk (thn (ha.run pos pins s σ H _ I h) fun us s1 ⟨vs, G, J, rv, q⟩ => ⟨J.kIn, wpAny_call ?_⟩) he hpl
  have q' : sp vs G Q E0 := by
    have z : sp (vs ++ []) G Q E0 := q
    rw [List.append_nil] at z
    exact z
  have hl : us.length = ps.length := rv.length.symm.trans (F.len _ _ _ _ q')
  have bt := hb s1 us J.kIn (by rw [List.append_nil]; exact hl)
  rw [List.append_nil] at bt
  exact codeAny_mono (runG F hgd hr bt pass0 J rv q') fun r s' z => by
    rcases r with e | (u | _ | _ | _) <;> exact z
end

/-! ### the law's own call -/
section
variable {P : Program} {w : World} {K : PySem.W.Frag} {mg mb : Str → Option Value} {k : Nat} {fa a : Addr} {fd : FuncData} {x : Str} {sp : Sp} {s : Shared} {vs : List Value} {ns : List Int}
theorem lawG (inK : K.In s.heap) (hns : s.heap.Ns mainGlobals mg) (hb : s.heap.Ns builtinsNs mb) (hbb : ∀ y : Str, y ≠ "__name__" → mb y = bootBuiltins y) (lim : s.heap.NoLimit) (hg : s.gens = #[]) (ha : s.heap.get? a = some { cls := .type "list", data := .seq vs.toArray })
    (hi : IntsAre vs ns) (hl : ns.length ≤ sizeLine) (hr : Room k callerA) (F : ∀ base : Heap, K.In base → base.Ns mainGlobals mg → FnG P w K mg base CX0 k fa fd [x] sp) (hbind : ∀ (s : Shared) (u : Value), BindsTo s fd ⟨[u], []⟩ [(x, u)])
    (hsp : ∀ H : Hp, Only H → SqL K H a (ns.map V.int) → sp [.ref a] H (fun v _ => v = .bl true) E0) :
    codeAny (model P w) callerA (.call (.ref fa) ⟨[.ref a], []⟩) (fun r s' => r = .ok (.ret (.bool true)) ∧ OldK s.heap s'.heap ∧ s'.os = s.os ∧ AllBare s'.gens) s := by
  have core : ∀ H : Hp, Only H → SqL K H a (ns.map V.int) → HOk P w H s.heap → (∀ b u, H b = some u → b = a) → (∀ u, H a = some u → K.lookup a = none) →
      codeAny (model P w) callerA (.call (.ref fa) ⟨[.ref a], []⟩) (fun r s' => r = .ok (.ret (.bool true)) ∧ OldK s.heap s'.heap ∧ s'.os = s.os ∧ AllBare s'.gens) s := by
    intro H only hS ok oneA offK
    have dictFree : ∀ {b : Addr} {o : Obj} {es : Array DictEntry} {ep : Nat}, s.heap.get? b = some o → o.data = .dict es ep → H b = none := by
      intro b o es ep e d
      cases q : H b with
      | none => rfl
      | some u =>
        rw [oneA b u q, ha] at e
        cases e
        cases d
    have ns' : ∀ {b : Addr} {m : Str → Option Value}, s.heap.Ns b m → (hidT s.heap H).Ns b m := by
      rintro b m ⟨o, es, ep, e, d, rest⟩
      exact ⟨o, es, ep, hidT_get e (dictFree e d), d, rest⟩
    have inB : K.In (hidT s.heap H) := fun b o e => by
      refine hidT_get (inK b o e) ?_
      cases q : H b with
      | none => rfl
      | some u =>
        have hb := oneA b u q
        subst hb
        rw [offK u q] at e
        cases e
    have M : Mod K mg (hidT s.heap H) := ⟨inB, ns' hns, ⟨mb, ns' hb, hbb⟩, by
      obtain ⟨mc, h1, h2⟩ := lim
      exact ⟨mc, ns' h1, h2⟩⟩
    have e0 : Env0 P w K mg (hidT s.heap H) callerA [] s H := ⟨rfl, M, fun b o e => of_hidT e, Nat.le_of_eq (hidT_size _ _), trivial, (fun b z => absurd z List.not_mem_nil), ok, .of_eq hg⟩
    have call := (F _ inB (ns' hns)).run callerA [] s H ⟨[.ref a], []⟩ [.ref a] [.ref a] (fun v _ => v = .bl true) E0 rfl hr e0 (hbind s (.ref a)) (.cons rfl .nil) (hsp H only hS)
    refine codeAny_mono call fun r s' z => ?_
    cases r with
    | error e => exact False.elim z
    | ok fl =>
      cases fl with
      | next => exact False.elim z
      | brk => exact False.elim z
      | cont => exact False.elim z
      | ret u =>
        obtain ⟨v, G, os, bare, un, ok', rv, q⟩ := z
        have q1 : v = .bl true := q
        subst q1
        obtain rfl : u = Value.bool true := rv
        refine ⟨rfl, OldK.of_keep fun b o e => ?_, os, bare⟩
        cases n0 : H b with
        | none => exact un.keep b o e n0 (fun z => absurd z List.not_mem_nil) List.not_mem_nil
        | some u0 =>
          rcases only b with n | ⟨ob, xs, n⟩
          · rw [n0] at n
            cases n
          · obtain ⟨e1, _⟩ := ok b _ n
            obtain ⟨e2, _⟩ := ok' b _ (un.frzs b ob _ n)
            rw [e] at e1
            rw [e2]
            exact e1.symm
  have rv := vals_ints hi
  cases hk : K.lookup a with
  | some o =>
    have e := inK a o hk
    rw [ha] at e
    cases e
    exact core (fun _ => none) (fun _ => .inl rfl) (.inr ⟨_, vs.toArray, _, hk, rfl, rfl, rfl, by rw [List.size_toArray, hi.length]; exact hl, by simpa using rv⟩) (fun b u z => nomatch z) (fun b u z => nomatch z) fun u z => nomatch z
  | none =>
    have key : ∀ b u, (if b = a then some (HO.frz { cls := .type "list", data := .seq vs.toArray } (.lst (ns.map V.int))) else none) = some u → b = a ∧ u = .frz { cls := .type "list", data := .seq vs.toArray } (.lst (ns.map V.int)) := by
      intro b u z
      split at z
      · cases z
        exact ⟨by assumption, rfl⟩
      · cases z
    refine core (fun b => if b = a then some (.frz { cls := .type "list", data := .seq vs.toArray } (.lst (ns.map V.int))) else none) (fun b => ?_) (.inl (.inr ⟨_, if_pos rfl⟩)) (fun b u z => ?_) (fun b u z => (key b u z).1) fun _ _ => hk
    · cases q : (if b = a then some (HO.frz { cls := .type "list", data := .seq vs.toArray } (.lst (ns.map V.int))) else none : Option HO) with
      | none => exact .inl q
      | some u => exact .inr ⟨_, _, q.trans (congrArg some (key b u q).2)⟩
    · obtain ⟨rfl, rfl⟩ := key b u z
      exact ⟨ha, by rw [List.length_map]; exact hl, vs, _, rv, ha⟩
end
/-- what k_head leaves, from such a promise of the law's def -/
theorem walkG {l : PySem.W.OpenLaw} {n k : Nat} {q : Program} {loose : List Str} {XP : (Str → Option Value) → Heap → Prop} {YP : World → Heap → Prop} {d : DefRec} {K : Params → PySem.W.Frag} {sp : PySem.W.Frag → Sp} {x : Str} (hn : l.most = some n) (hn2 : n ≤ sizeLine) (hdf : d.params.defaults = [])
    (hr : Room k callerA) (hY : ∀ (w : World) (h : Heap), YP w h → (K w.params).In h)
    (F : ∀ (w : World) (mg : Str → Option Value) (fa : Addr) (h : Heap), (K w.params).In h → h.Ns mainGlobals mg → mg d.name = some (.ref fa) →
      ∃ fd : FuncData, (∀ (s : Shared) (u : Value), BindsTo s fd ⟨[u], []⟩ [(x, u)]) ∧ ∀ base : Heap, (K w.params).In base → base.Ns mainGlobals mg → FnG l.prog w (K w.params) mg base CX0 k fa fd [x] (sp (K w.params)))
    (hsp : ∀ (K : PySem.W.Frag) (H : Hp) (a : Addr) (ns : List Int), ns.length ≤ n → Only H → SqL K H a (ns.map V.int) → sp K [.ref a] H (fun v _ => v = .bl true) E0) :
    PySem.W.WalkO q loose XP YP l.row.toRowW d [] (fun f vs => PySem.call f vs) := by
  refine Att.attach_call hn hdf fun w s₀ s₁ mg mb fa o pm cd doc a vs ns G Y ho hd hcd hmg hobj hints hlen hg => ?_
  obtain ⟨fd, hb, hF⟩ := F w mg fa _ (hY w _ Y) G.T.g hmg
  exact lawG (hY w _ Y) G.T.g G.T.b G.T.builtins G.T.nolimit hg hobj hints (Nat.le_trans hlen hn2) hr hF hb fun H only hS => hsp _ H a ns hlen only hS
end KL

namespace GR
open PySem PySem.Spec PyProof.Rows L2 KL KG KS KV KY
/-! ### the law asks about each name -/
abbrev sAsk : Stmt := topS 44
theorem scAsk : FnScope ["graph", "names", "arrows", "lots", "at", "name", "due", "one", "two", "lot", "told", "last"] ["graph"] (defScope sAsk) := ⟨rfl, rfl, rfl, by decide +kernel, rfl, by decide +kernel, by decide +kernel⟩
def spAsk (ts : List Addr) : Sp := fun vs H Q _ => ∃ (v : V) (n : Nat) (ws : List Str) (ar hd : List (List Int)), vs = [v] ∧ Tb ts H ∧ Dq (fun b => b ∈ ts) H v (dGraph ws ar hd) ∧ GrN n ws ar hd ∧ FzNames H v ∧ ∀ G, Ms ts H G → Q (.bl true) G
theorem atI_end {α : Type} {xs : List α} {v : α} (h : xs[xs.length - 1]? = some v) : atI xs (-1) = some v := by
  have ne : xs ≠ [] := fun z => by rw [z] at h; cases h
  have e := List.dropLast_concat_getLast ne
  have g : xs.getLast ne = v := by
    have z := List.getLast?_eq_getElem? (l := xs)
    rw [h, List.getLast?_eq_some_getLast ne] at z
    exact Option.some.inj z
  rw [← e, g]
  exact atI_last _ _
theorem new_out {ts : List Addr} {H : Hp} {T : Addr} (t : Tb ts H) (n : H T = none) : T ∉ ts := fun u => by
  obtain ⟨ps, e, _⟩ := t T u
  rw [n] at e
  cases e
section
variable {P : Program} {w : World} {K : PySem.W.Frag} {mg : Str → Option Value} {base : Heap} {ts : List Addr}
theorem ok_ask {f fLP fI fP fC fH : Addr} {fd fdLP fdI fdP fdC fdH : FuncData} (F : Fun K "_law_is_asked_right" "_law_is_asked_right" sAsk f fd) (FLP : Fun K "_law_parents" "_law_parents" sLPar fLP fdLP) (gLP : mg "_law_parents" = some (.ref fLP)) (bLP : L2.Binds K fdLP ["graph", "at"] [])
    (AI : Ask P w K mg base "index_of" 11 (spIdx ts) fI fdI) (AP : Ask P w K mg base "parents" 12 (spPar ts) fP fdP) (AC : Ask P w K mg base "children" 12 (spChi ts) fC fdC) (AH : Ask P w K mg base "hidden_lots" 12 (spHidL ts) fH fdH) (N : Nm mg) (hEn : mg "enumerate" = none) (hRe : mg "repr" = none) : FnG P w K mg base CX0 13 f fd ["graph"] (spAsk ts) := by
  have GLP : FnOk P w K mg base CX0 1 fLP fdLP ["graph", "at"] spLPar := ok_lpar FLP N.tup
  refine okG F (k := 12) scAsk (fun vs H Q E h => ?_) (fun cdv A outer s H vs Q E hgd hr h => ?_)
  · obtain ⟨v, n, ws, ar, hd, rfl, _⟩ := h
    rfl
  · obtain ⟨v, n, ws, ar, hd, rfl, tb, dq, gr, fz, q⟩ := h
    refine ⟨_, pss_cons (ps_asg (pv 0) (pg_tup rfl (pgs_cons (pg_name (i := 1) scAsk.nd rfl (.inl rfl)) (pgs_cons (pg_name (i := 2) scAsk.nd rfl (.inl rfl)) (pgs_cons (pg_name (i := 3) scAsk.nd rfl (.inl rfl)) pgs_nil)))))
      (pss_cons (ps_for PassesOwn.never rfl (pi_enumT (by rfl) hEn (pa_cons (pv 1) pa_nil)) (pg_tup rfl (pgs_cons (pg_name (i := 4) scAsk.nd rfl (.inr rfl)) (pgs_cons (pg_name (i := 5) scAsk.nd rfl (.inl rfl)) pgs_nil)))
      (pss_cons (ps_set (i := 6) scAsk.nd rfl (.inl rfl) (pe_lst (pa_cons (pv 4) (pa_cons (pe_call GLP (hr.mono (by decide)) (by rfl) gLP FLP.kp bLP .nil pass0 (pa_cons (pv 0) (pa_cons (pv 4) pa_nil))) (pa_cons (pe_callTy call_tuple_of (by rfl) N.tup (by decide +kernel) (pa_cons (pe_lc (own := [("one", 7), ("two", 8)]) (g := gTup K 2 (gCons (gName 7) (gCons (gName 8) gNil))) rfl scAsk.nd (pi_tup (pv 2)) (blkOk_by (N := ["graph", "names", "arrows", "lots", "at", "name", "due", "one", "two", "lot", "told", "last"]) (sc := defScope sAsk) (by decide +kernel)) (fun _ _ _ _ _ => (pg_tup rfl (pgs_cons (pg_name (i := 7) scAsk.nd rfl (.inl rfl)) (pgs_cons (pg_name (i := 8) scAsk.nd rfl (.inl rfl)) pgs_nil)))) (fun _ _ _ _ _ => pts_one (pt_cmpR op_eq (pv 7) (pv 4) (nomark _))) (fun _ _ _ _ _ => (pv 8))) pa_nil)) pa_nil)))))
      (pss_cons (ps_expr (pe_bm PySem.F.plainAttrs_list PySem.F.slot_list_append PySem.F.type_list_append mt_append (pv 6) (pa_cons (pe_callTy call_tuple_of (by rfl) N.tup (by decide +kernel) (pa_cons (pe_lc (own := [("lot", 9)]) (g := gName 9) rfl scAsk.nd (pi_tup (pv 3)) (blkOk_by (N := ["graph", "names", "arrows", "lots", "at", "name", "due", "one", "two", "lot", "told", "last"]) (sc := defScope sAsk) (by decide +kernel)) (fun _ _ _ _ _ => (pg_name (i := 9) scAsk.nd rfl (.inl rfl))) (fun _ _ _ _ _ => pts_one (pt_cmpR (show OpR _ _ (rIn K false) from op_in_seq) (pv 4) (pv 9) (by with_unfolding_all rfl))) (fun _ _ _ _ _ => (pv 9))) pa_nil)) pa_nil)))
      (pss_cons (ps_set (i := 10) scAsk.nd rfl (.inl rfl) (pe_lst (pa_cons (pe_call AI.ok (hr.mono (by decide)) (by rfl) AI.g AI.kp AI.b .nil pass0 (pa_cons (pv 0) (pa_cons (pv 5) pa_nil))) (pa_cons (pe_call AP.ok (hr.mono (by decide)) (by rfl) AP.g AP.kp AP.b .nil pass0 (pa_cons (pv 0) (pa_cons (pv 5) pa_nil))) (pa_cons (pe_call AC.ok (hr.mono (by decide)) (by rfl) AC.g AC.kp AC.b .nil pass0 (pa_cons (pv 0) (pa_cons (pv 5) pa_nil))) (pa_cons (pe_call AH.ok (hr.mono (by decide)) (by rfl) AH.g AH.kp AH.b .nil pass0 (pa_cons (pv 0) (pa_cons (pv 5) pa_nil))) pa_nil))))))
      (pss_one (ps_if (pt_cmpR op_ne (pe_callB (call_repr hgd hr.units) (by rfl) hRe (by decide +kernel) (pa_cons (pv 10) pa_nil)) (pe_callB (call_repr hgd hr.units) (by rfl) hRe (by decide +kernel) (pa_cons (pv 6) pa_nil)) (nomark _)) (pss_one (ps_ret pe_bl)) (pss_nil)))))))
      (pss_cons (ps_set (i := 11) scAsk.nd rfl (.inl rfl) (pe_ix ix_tup (pv 1) (pe_un un_neg pe_int) (fun _ _ => rfl)))
      (pss_cons (ps_set (i := 10) scAsk.nd rfl (.inl rfl) (pe_lst (pa_cons (pe_callK0 AI.ok (hr.mono (by decide)) (by rfl) AI.g AI.kp AI.kb pass0 (pk_cons (pv 11) (pk_cons (pv 0) pk_nil))) (pa_cons (pe_callK0 AP.ok (hr.mono (by decide)) (by rfl) AP.g AP.kp AP.kb pass0 (pk_cons (pv 11) (pk_cons (pv 0) pk_nil))) (pa_cons (pe_callK0 AC.ok (hr.mono (by decide)) (by rfl) AC.g AC.kp AC.kb pass0 (pk_cons (pv 11) (pk_cons (pv 0) pk_nil))) pa_nil)))))
      (pss_one (ps_ret (pe_cmpR op_eq (pe_callB (call_repr hgd hr.units) (by rfl) hRe (by decide +kernel) (pa_cons (pe_op op_cat (pv 10) (pe_lst (pa_cons (pe_callK0 AH.ok (hr.mono (by decide)) (by rfl) AH.g AH.kp AH.kb pass0 (pk_cons (pv 11) (pk_cons (pv 0) pk_nil))) pa_nil))) pa_nil)) (pe_callB (call_repr hgd hr.units) (by rfl) hRe (by decide +kernel) (pa_cons (pv 6) pa_nil)) (nomark _))))))), ?_⟩
    have graphOk := gr.data
    have len2 := okd_len (n := 30) (by decide) 2 gr.ok
    obtain ⟨a, b, c, e, rfl, ea, za, eb, zb, qc, qe⟩ := gr_parts dq
    refine ⟨.ref a, rfl, a, _, rfl, .inl ea, rfl, .ref b, _, rfl, .ref c, _, rfl, .ref e, _, rfl, rfl, ?_⟩
    refine st_next ?_
    dsimp only
    refine ⟨.ref b, rfl, b, _, rfl, eb, ?_⟩
    refine for_enumT (a := b) (xs := ws.map V.str) (fun i σ J => ∃ y1 y2 y3 y4 y5 : Option V, Ms ts H J ∧ σ = [some (.ref a), some (.ref b), some (.ref c), some (.ref e), y1, y2, y3, none, none, none, y4, none] ∧ ∀ j, i = j + 1 → ∃ (D : Addr) (us : List V), y3 = some (.ref D) ∧ D ∉ ts ∧ J D = some (.lst us) ∧ DqL (fun b => b ∈ ts) J us (dueD ar hd j)) ?_ ?_ ?_ ?_
    · exact ⟨none, none, none, none, none, Ms.rfl' tb, rfl, fun j e => absurd e (by omega)⟩
    · rintro i σ J ⟨y1, y2, y3, y4, y5, ms, rfl, _⟩
      exact rd_kp ms.1 zb eb
    · rintro i x σ J T hx ⟨y1, y2, y3, y4, y5, ms, rfl, _⟩ nT
      obtain ⟨y, hy, rfl⟩ : ∃ y, ws[i]? = some y ∧ x = .str y := by
        rw [List.getElem?_map] at hx
        cases z : ws[i]? with
        | none => rw [z] at hx; cases hx
        | some y => rw [z] at hx; exact ⟨y, rfl, (Option.some.inj hx).symm⟩
      have hin : i < n := by
        rw [← gr.len]
        exact (List.getElem?_eq_some_iff.mp hy).1
      have ms1 : Ms ts H (upd J T (.tup [.int (i : Nat), .str y])) := ms.new nT
      refine ⟨T, _, rfl, .inl (.inl upd_same), rfl, .int i, _, rfl, .str y, _, rfl, rfl, ?_⟩
      generalize upd J T (.tup [.int (i : Nat), .str y]) = J1 at ms1
      refine ⟨.int i, rfl, .ref a, rfl, .int i, rfl, .ref a, i, n, dStrs ws, dRows ar, dRows hd, fun b => b ∈ ts, rfl, dq.kp ms1.1, arrows_data gr.ar, ?_, fun T1 G1 k1 nT1 e1 => ?_⟩
      · show (ar.map dInts).length ≤ 1000
        rw [List.length_map]
        have := arr_few gr.ar gr.most
        omega
      have ms2 := ms1.kp k1
      obtain ⟨c', ys, ds, hds, e', ec, zc, M, all⟩ := arrow_rows (qc.kp ms2.1) (arrows_data gr.ar)
      cases e'
      have hds : ds = ar.map dInts := (PyData.tuple.inj hds).symm
      subst hds
      refine ⟨.ref c, rfl, c, rfl, ⟨ys, .inl ec⟩, fun D nD => ?_⟩
      refine lc_tup (K := K) (a := c) (xs := ys) (fun j J => Kp No G1 J ∧ J D = some (.lst ((chiL (((ar.map dInts).take j).map rowD) (i : Nat)).map V.int))) ⟨Kp.new nD, upd_same⟩ (fun j J _ h => .inl (rd_kp h.1 (fun y => y) ec)) ?_ ?_
      · rintro j x J hx ⟨ks, eJ⟩
        obtain ⟨di, hdi, dqi⟩ := M.get hx
        obtain ⟨e, p, s', rfl, hrow, ee⟩ := arrow_at (up0 dqi ks) (List.all_eq_true.mp all di (List.mem_of_getElem? hdi))
        have small := chi_few (((ar.map dInts).take j).map rowD) (i : Nat)
        rw [List.length_map, List.length_take, List.length_map] at small
        have few := arr_few gr.ar gr.most
        refine ⟨e, _, rfl, .inl ee, rfl, .int p, _, rfl, .int s', _, rfl, rfl, rfl, .int p, rfl, .int (i : Nat), rfl, rfl, _, rfl, ifte (fun c1 => ?_) (fun c1 => ?_)⟩
        · have z : p = (i : Nat) := V.int.inj (of_decide_eq_true c1)
          refine ⟨.int s', rfl, _, eJ, by rw [List.length_map, sizeLine_eq]; omega, Kp.off ks nD, ?_⟩
          rw [upd_same, chi_next hdi hrow, if_pos z, List.map_append]
          rfl
        · have z : p ≠ (i : Nat) := fun y => of_decide_eq_false c1 (congrArg V.int y)
          refine ⟨ks, ?_⟩
          rw [chi_next hdi hrow, if_neg z, List.append_nil]
          exact eJ
      rintro J2 ⟨k2, eJ2⟩
      rw [M.len, List.take_length, show (ar.map dInts).map rowD = ar from rows_of ar] at eJ2
      refine ⟨D, _, rfl, .inl ⟨.inl (.inl eJ2), fun T2 nT2 => ?_⟩⟩
      have k3 : Kp No G1 (upd J2 T2 (.tup ((chiL ar (i : Nat)).map V.int))) := k2.tr (Kp.new nT2)
      have ms3 := ms2.kp k3
      have e1' := k3 _ _ (fun z => z) e1
      have e2' : (upd J2 T2 (.tup ((chiL ar (i : Nat)).map V.int))) T2 = _ := upd_same
      generalize upd J2 T2 (.tup ((chiL ar (i : Nat)).map V.int)) = J3 at k3 ms3 e1' e2'
      refine ⟨by show 3 ≤ sizeLine; decide, fun R nR => ?_⟩
      refine st_next ?_
      dsimp only
      have nT2' : T2 ∉ ts := new_out ms2.2 (kp_none k2 nT2)
      have nT1' : T1 ∉ ts := new_out ms1.2 nT1
      cases qe.kp ms3.1 with
      | @tup e zs _ ee ze M2 =>
      have ee : Rd J3 e (.tup zs) := ee
      have ls := M2.len
      rw [List.length_map] at ls
      have few2 : hd.length ≤ 28 := gr.hd.2.1
      have kR : Kp No J3 (upd J3 R (.lst [.int (i : Nat), .ref T1, .ref T2])) := Kp.new nR
      refine ⟨.ref R, rfl, .inl ⟨rfl, _, .inl (.inl upd_same)⟩, .ref e, rfl, e, rfl, ⟨zs, .inl (rd_kp kR (fun z => z) ee)⟩, fun D2 nD2 => ?_⟩
      have eR : (upd J3 R (.lst [.int (i : Nat), .ref T1, .ref T2])) R = some (.lst [.int (i : Nat), .ref T1, .ref T2]) := upd_same
      generalize upd J3 R (.lst [.int (i : Nat), .ref T1, .ref T2]) = J4 at kR eR nD2
      refine lc_tup (K := K) (a := e) (xs := zs) (fun j J => Kp No J4 J ∧ ∃ acc, J D2 = some (.lst acc) ∧ DqL (fun b => b ∈ ts) J3 acc ((hidR (hd.take j) (i : Nat)).map dInts)) ⟨Kp.new nD2, _, upd_same, .nil⟩ (fun j J _ h => .inl (rd_kp h.1 (fun y => y) (rd_kp kR (fun z => z) ee))) ?_ ?_
      · rintro j x J hx ⟨ks, acc, eJ, A1⟩
        obtain ⟨di, hdi, dqi⟩ := M2.get hx
        obtain ⟨r, hr, rfl⟩ : ∃ r, hd[j]? = some r ∧ di = dInts r := by
          rw [List.getElem?_map] at hdi
          cases z : hd[j]? with
          | none => rw [z] at hdi; cases hdi
          | some r => rw [z] at hdi; exact ⟨r, rfl, (Option.some.inj hdi).symm⟩
        obtain ⟨p, rfl, rd, np⟩ := dInts_tup (up0 (up0 dqi kR) ks)
        have small : acc.length ≤ 28 := by
          rw [A1.len, List.length_map]
          refine Nat.le_trans (List.length_filter_le _ _) ?_
          rw [List.length_take]
          omega
        have nxt : hidR (hd.take (j + 1)) (i : Nat) = hidR (hd.take j) (i : Nat) ++ (if ((i : Nat) : Int) ∈ r then [r] else []) := by
          unfold hidR
          rw [List.take_add_one, hr, List.filter_append]
          refine congrArg _ ?_
          show List.filter _ [r] = _
          by_cases z : ((i : Nat) : Int) ∈ r <;> simp [z]
        refine ⟨rfl, .int (i : Nat), rfl, .ref p, rfl, p, r.map V.int, rfl, .inr (.inl rd), rfl, flat_ints _, _, rfl, ?_⟩
        have ev : (if false = true then !inV (.int (i : Nat)) (r.map V.int) else inV (.int (i : Nat)) (r.map V.int)) = decide (((i : Nat) : Int) ∈ r) := by
          rw [if_neg Bool.false_ne_true, in_ints]
        rw [ev]
        refine ifte (fun c1 => ?_) (fun c1 => ?_)
        · have z : ((i : Nat) : Int) ∈ r := of_decide_eq_true c1
          refine ⟨.ref p, rfl, _, eJ, by rw [sizeLine_eq]; omega, Kp.off ks nD2, _, upd_same, ?_⟩
          rw [nxt, if_pos z, List.map_append]
          exact A1.app (.cons dqi .nil)
        · have z : ¬ ((i : Nat) : Int) ∈ r := of_decide_eq_false c1
          refine ⟨ks, acc, eJ, ?_⟩
          rw [nxt, if_neg z, List.append_nil]
          exact A1
      rintro J5 ⟨k5, acc, eJ5, A1⟩
      rw [ls, List.take_length] at A1
      refine ⟨D2, _, rfl, .inl ⟨.inl (.inl eJ5), fun T3 nT3 => ?_⟩⟩
      have k6 : Kp No J4 (upd J5 T3 (.tup acc)) := k5.tr (Kp.new nT3)
      refine ⟨R, _, .ref T3, rfl, rfl, k6 _ _ (fun z => z) eR, by show 3 < sizeLine; decide, ?_⟩
      have nT3R : T3 ≠ R := fun z => by
        have z1 := k5 _ _ (fun z => z) eR
        rw [← z, nT3] at z1
        cases z1
      have nT3' : T3 ∉ ts := new_out ms3.2 (kp_none (kR.tr k5) nT3)
      have kk : Kp No J3 (upd (upd J5 T3 (.tup acc)) R (.lst ([.int (i : Nat), .ref T1, .ref T2] ++ [.ref T3]))) := Kp.off (kR.tr k6) nR
      have e3' : (upd (upd J5 T3 (.tup acc)) R (.lst ([.int (i : Nat), .ref T1, .ref T2] ++ [.ref T3]))) T3 = some (.tup acc) := by
        rw [upd_ne nT3R]
        exact upd_same
      have A2 : DqL (fun b => b ∈ ts) (upd (upd J5 T3 (.tup acc)) R (.lst ([.int (i : Nat), .ref T1, .ref T2] ++ [.ref T3]))) acc ((hidR hd (i : Nat)).map dInts) := upL0 A1 kk
      have eR' : (upd (upd J5 T3 (.tup acc)) R (.lst ([.int (i : Nat), .ref T1, .ref T2] ++ [.ref T3]))) R = some (.lst [.int (i : Nat), .ref T1, .ref T2, .ref T3]) := upd_same
      generalize upd (upd J5 T3 (.tup acc)) R (.lst ([.int (i : Nat), .ref T1, .ref T2] ++ [.ref T3])) = J6 at kk e3' A2 eR'
      have ms6 := ms3.kp kk
      have e1' := kk _ _ (fun z => z) e1'
      have e2' := kk _ _ (fun z => z) e2'
      have due : DqL (fun b => b ∈ ts) J6 [.int (i : Nat), .ref T1, .ref T2, .ref T3] (dueD ar hd i) := .cons (.int _) (.cons (dInts_new (by rw [rows_of] at e1'; exact e1') nT1') (.cons (dInts_new e2' nT2') (.cons (.tup (.inl e3') nT3' A2) .nil)))
      have idx : (strsD (dStrs ws)).idxOf y = i := by rw [strs_of]; exact idx_at gr.nd hy
      have yin : y ∈ strsD (dStrs ws) := by rw [strs_of]; exact List.mem_of_getElem? hy
      have asks : ∀ {J : Hp}, Ms ts H J → Tb ts J ∧ Dq (fun b => b ∈ ts) J (.ref a) (.tuple [dStrs ws, dRows ar, dRows hd]) ∧ FzNames J (.ref a) := fun m => ⟨m.2, dq.kp m.1, fz_kp dq fz m.1⟩
      refine st_next ?_
      dsimp only
      obtain ⟨x1, x2, x3⟩ := asks ms6
      refine ⟨.ref a, rfl, .str y, rfl, .ref a, y, dStrs ws, dRows ar, dRows hd, fun b => b ∈ ts, rfl, fun b z => z, x1, x2, x3, len2, graphOk, yin, fun G7 m7 => ?_⟩
      rw [idx]
      have ms7 := ms6.tr m7
      obtain ⟨x1, x2, x3⟩ := asks ms7
      refine ⟨.ref a, rfl, .str y, rfl, .ref a, y, dStrs ws, dRows ar, dRows hd, fun b => b ∈ ts, rfl, fun b z => z, x1, x2, x3, len2, graphOk, yin, fun U1 G8 m8 nU1 eU1 => ?_⟩
      rw [idx, rows_of] at eU1
      have ms8 := ms7.tr m8
      obtain ⟨x1, x2, x3⟩ := asks ms8
      refine ⟨.ref a, rfl, .str y, rfl, .ref a, y, dStrs ws, dRows ar, dRows hd, fun b => b ∈ ts, rfl, fun b z => z, x1, x2, x3, len2, graphOk, yin, fun U2 G9 m9 nU2 eU2 => ?_⟩
      rw [idx, rows_of] at eU2
      have ms9 := ms8.tr m9
      obtain ⟨x1, x2, x3⟩ := asks ms9
      refine ⟨.ref a, rfl, .str y, rfl, .ref a, y, dStrs ws, dRows ar, dRows hd, fun b => b ∈ ts, rfl, fun b z => z, x1, x2, x3, len2, graphOk, yin, fun U3 G10 hs m10 nU3 eU3 hU3 => ?_⟩
      rw [idx, hid_back] at hU3
      have ms10 := ms9.tr m10
      refine ⟨by show 4 ≤ sizeLine; decide, fun R2 nR2 => ?_⟩
      have kR2 : Kp (fun b => b ∈ ts) G10 (upd G10 R2 (.lst [.int (i : Nat), .ref U1, .ref U2, .ref U3])) := Kp.new nR2
      have ms11 : Ms ts H (upd G10 R2 (.lst [.int (i : Nat), .ref U1, .ref U2, .ref U3])) := ms10.new nR2
      have m6_11 : Kp (fun b => b ∈ ts) J6 (upd G10 R2 (.lst [.int (i : Nat), .ref U1, .ref U2, .ref U3])) := (((m7.1.tr m8.1).tr m9.1).tr m10.1).tr kR2
      have told : DqL (fun b => b ∈ ts) (upd G10 R2 (.lst [.int (i : Nat), .ref U1, .ref U2, .ref U3])) [.int (i : Nat), .ref U1, .ref U2, .ref U3] (dueD ar hd i) := by
        have o1 := new_out ms7.2 nU1
        have o2 := new_out ms8.2 nU2
        have o3 := new_out ms9.2 nU3
        refine .cons (.int _) (.cons ((dInts_new eU1 o1).kp ((m9.1.tr m10.1).tr kR2)) (.cons ((dInts_new eU2 o2).kp (m10.1.tr kR2)) (.cons (.tup (.inl (kR2 _ _ o3 eU3)) o3 (hU3.kp (m10.1.tr kR2))) .nil)))
      have RtR : R ∉ ts := fun z => by
        have o := new_out ms3.2 nR
        exact o z
      have eR11 := m6_11 _ _ RtR eR'
      have due11 := due.kp m6_11
      have sh := due_sh gr hin
      have eR2 : (upd G10 R2 (.lst [.int (i : Nat), .ref U1, .ref U2, .ref U3])) R2 = some (.lst [.int (i : Nat), .ref U1, .ref U2, .ref U3]) := upd_same
      generalize upd G10 R2 (.lst [.int (i : Nat), .ref U1, .ref U2, .ref U3]) = J11 at ms11 told eR11 due11 eR2
      refine st_next ?_
      dsimp only
      refine ⟨.ref R2, rfl, _, R2, _, _, rfl, eR2, told, sh.1, sh.2.1, sh.2.2, .ref R, rfl, _, R, _, _, rfl, eR11, due11, sh.1, sh.2.1, sh.2.2, rfl, _, rfl, ?_⟩
      rw [decide_eq_true rfl]
      refine (if_neg Bool.false_ne_true).mpr ?_
      refine ⟨some (.int (i : Nat)), some (.str y), some (.ref R), some (.ref R2), none, ms11, rfl, fun j e => ?_⟩
      have e : i = j := by omega
      subst e
      exact ⟨R, _, rfl, RtR, eR11, due11⟩
    · rintro σ J ⟨y1, y2, y3, y4, y5, ms, rfl, dueOf⟩
      have one := gr.one
      have lw := gr.len
      obtain ⟨D, us, rfl, Dt, eD, due⟩ := dueOf (n - 1) (by rw [List.length_map]; omega)
      clear dueOf
      have hlast : ws[n - 1]? = some (ws[n - 1]'(by omega)) := List.getElem?_eq_getElem _
      generalize (ws[n - 1]'(by omega)) = y at hlast
      have last : atI (ws.map V.str) (-1) = some (.str y) := by
        refine atI_end ?_
        rw [List.length_map, lw, List.getElem?_map, hlast]
        rfl
      have hin : n - 1 < n := by omega
      generalize n - 1 = i at hin due hlast
      have idx : (strsD (dStrs ws)).idxOf y = i := by rw [strs_of]; exact idx_at gr.nd hlast
      have yin : y ∈ strsD (dStrs ws) := by rw [strs_of]; exact List.mem_of_getElem? hlast
      have asks : ∀ {J : Hp}, Ms ts H J → Tb ts J ∧ Dq (fun b => b ∈ ts) J (.ref a) (.tuple [dStrs ws, dRows ar, dRows hd]) ∧ FzNames J (.ref a) := fun m => ⟨m.2, dq.kp m.1, fz_kp dq fz m.1⟩
      refine st_next ?_
      dsimp only
      refine ⟨.ref b, rfl, 1, rfl, b, _, -1, .str y, rfl, rfl, .inl (rd_kp ms.1 zb eb), last, ?_⟩
      refine st_next ?_
      dsimp only
      obtain ⟨x1, x2, x3⟩ := asks ms
      refine ⟨.str y, rfl, .ref a, rfl, .ref a, y, dStrs ws, dRows ar, dRows hd, fun b => b ∈ ts, rfl, fun b z => z, x1, x2, x3, len2, graphOk, yin, fun G7 m7 => ?_⟩
      rw [idx]
      have ms7 := ms.tr m7
      obtain ⟨x1, x2, x3⟩ := asks ms7
      refine ⟨.str y, rfl, .ref a, rfl, .ref a, y, dStrs ws, dRows ar, dRows hd, fun b => b ∈ ts, rfl, fun b z => z, x1, x2, x3, len2, graphOk, yin, fun U1 G8 m8 nU1 eU1 => ?_⟩
      rw [idx, rows_of] at eU1
      have ms8 := ms7.tr m8
      obtain ⟨x1, x2, x3⟩ := asks ms8
      refine ⟨.str y, rfl, .ref a, rfl, .ref a, y, dStrs ws, dRows ar, dRows hd, fun b => b ∈ ts, rfl, fun b z => z, x1, x2, x3, len2, graphOk, yin, fun U2 G9 m9 nU2 eU2 => ?_⟩
      rw [idx, rows_of] at eU2
      have ms9 := ms8.tr m9
      refine ⟨by show 3 ≤ sizeLine; decide, fun R2 nR2 => ?_⟩
      refine st_next ?_
      dsimp only
      have kR2 : Kp (fun b => b ∈ ts) G9 (upd G9 R2 (.lst [.int (i : Nat), .ref U1, .ref U2])) := Kp.new nR2
      have ms10 : Ms ts H (upd G9 R2 (.lst [.int (i : Nat), .ref U1, .ref U2])) := ms9.new nR2
      have eR2 : (upd G9 R2 (.lst [.int (i : Nat), .ref U1, .ref U2])) R2 = some (.lst [.int (i : Nat), .ref U1, .ref U2]) := upd_same
      generalize upd G9 R2 (.lst [.int (i : Nat), .ref U1, .ref U2]) = G10 at kR2 ms10 eR2
      obtain ⟨x1, x2, x3⟩ := asks ms10
      refine ⟨.ref R2, rfl, .str y, rfl, .ref a, rfl, .ref a, y, dStrs ws, dRows ar, dRows hd, fun b => b ∈ ts, rfl, fun b z => z, x1, x2, x3, len2, graphOk, yin, fun U3 G11 hs m11 nU3 eU3 hU3 => ?_⟩
      rw [idx, hid_back] at hU3
      have ms11 := ms10.tr m11
      have R2t : R2 ∉ ts := new_out ms9.2 nR2
      refine ⟨by show 1 ≤ sizeLine; decide, fun R3 nR3 => ⟨R2, R3, _, _, rfl, rfl, (Kp.new (Z := fun b => b ∈ ts) nR3) _ _ R2t (m11.1 _ _ R2t eR2), upd_same, by show 3 + 1 ≤ sizeLine; decide, fun R4 nR4 => ?_⟩⟩
      have kEnd : Kp (fun b => b ∈ ts) G11 (upd (upd G11 R3 (.lst [.ref U3])) R4 (.lst ([.int (i : Nat), .ref U1, .ref U2] ++ [.ref U3]))) := (Kp.new nR3).tr (Kp.new nR4)
      have msE : Ms ts H (upd (upd G11 R3 (.lst [.ref U3])) R4 (.lst ([.int (i : Nat), .ref U1, .ref U2] ++ [.ref U3]))) := (ms11.new nR3).new nR4
      have eR4 : (upd (upd G11 R3 (.lst [.ref U3])) R4 (.lst ([.int (i : Nat), .ref U1, .ref U2] ++ [.ref U3]))) R4 = some (.lst [.int (i : Nat), .ref U1, .ref U2, .ref U3]) := upd_same
      generalize upd (upd G11 R3 (.lst [.ref U3])) R4 (.lst ([.int (i : Nat), .ref U1, .ref U2] ++ [.ref U3])) = G12 at kEnd msE eR4
      have told : DqL (fun b => b ∈ ts) G12 [.int (i : Nat), .ref U1, .ref U2, .ref U3] (dueD ar hd i) := by
        have o1 := new_out ms7.2 nU1
        have o2 := new_out ms8.2 nU2
        have o3 := new_out ms10.2 nU3
        exact .cons (.int _) (.cons ((dInts_new eU1 o1).kp (((m9.1.tr kR2).tr m11.1).tr kEnd)) (.cons ((dInts_new eU2 o2).kp ((kR2.tr m11.1).tr kEnd)) (.cons (.tup (.inl (kEnd _ _ o3 eU3)) o3 (hU3.kp (m11.1.tr kEnd))) .nil)))
      have kAll : Kp (fun b => b ∈ ts) J G12 := ((((m7.1.tr m8.1).tr m9.1).tr kR2).tr m11.1).tr kEnd
      have sh := due_sh gr hin
      refine ⟨_, R4, _, _, rfl, eR4, told, sh.1, sh.2.1, sh.2.2, .ref D, rfl, _, D, _, _, rfl, kAll _ _ Dt eD, due.kp kAll, sh.1, sh.2.1, sh.2.2, rfl, ?_⟩
      rw [decide_eq_true rfl]
      exact q G12 msE
end
end GR

namespace GR
open PySem PySem.Spec PyProof.Rows L2 KL KG KS KV KY
/-! ### what the law bends is nice -/
theorem letters_small : lettersS.cps.toList.all (fun c => decide (c < 0x110000)) = true := by decide +kernel
theorem figures_small : figuresS.cps.toList.all (fun c => decide (c < 0x110000)) = true := by decide +kernel
theorem name_nice {x : Str} (h : isNameD (.str x) = true) : nice (.str x) = true := by
  have z : (!inV (.str x) (wordsL.map V.str) && ((decide (1 ≤ x.length) && decide (x.length ≤ 8)) && (firstOk x && x.cps.toList.all (fun c => letterC c || figureC c)))) = true := h
  simp only [Bool.and_eq_true, decide_eq_true_iff] at z
  obtain ⟨_, ⟨_, l⟩, _, cs⟩ := z
  show (decide (x.length ≤ 64) && PyData.strOk x) = true
  rw [decide_eq_true (by omega), Bool.true_and]
  show x.cps.all (· < 0x110000) = true
  rw [← Array.all_toList, List.all_eq_true]
  intro c hc
  have k := List.all_eq_true.mp cs c hc
  rw [Bool.or_eq_true] at k
  rcases k with k | k
  · exact List.all_eq_true.mp letters_small c (of_decide_eq_true k)
  · exact List.all_eq_true.mp figures_small c (of_decide_eq_true k)
theorem depth_tup {k : Nat} : ∀ {ds : List PyData}, (∀ d ∈ ds, d.depth ≤ k) → PyData.depthAll ds ≤ k
  | [], _ => Nat.zero_le _
  | d :: ds, h => by
    have a := h d List.mem_cons_self
    have b := depth_tup (ds := ds) fun e he => h e (List.mem_cons_of_mem _ he)
    simp only [PyData.depthAll]
    omega
theorem depth_up {k : Nat} {ds : List PyData} (h : ∀ d ∈ ds, d.depth ≤ k) : PyData.depth (.tuple ds) ≤ k + 1 := by
  have := depth_tup h
  simp only [PyData.depth]
  omega
theorem ints_nice {ns : List Int} (h : ∀ x ∈ ns, 0 ≤ x ∧ x < (8 : Int)) (hl : ns.length ≤ 30) : nice (dInts ns) = true ∧ PyData.depth (dInts ns) ≤ 1 := by
  refine ⟨nice_tup.mpr ⟨by rw [List.length_map]; exact hl, fun d hd => ?_⟩, depth_up (k := 0) fun d hd => ?_⟩
  · obtain ⟨x, hx, rfl⟩ := List.mem_map.mp hd
    obtain ⟨h1, h2⟩ := h x hx
    show decide (x.natAbs ≤ 1000) = true
    exact decide_eq_true (by omega)
  · obtain ⟨x, hx, rfl⟩ := List.mem_map.mp hd
    simp only [PyData.depth]
    exact Nat.le_refl 0
theorem lot_nice {n : Nat} {ns : List Int} (h : LotN n ns) (hn : n ≤ 8) : Nice (dInts ns) := by
  obtain ⟨a, b⟩ := ints_nice (fun x hx => row_in h hn hx) (by have := lot_short h; omega)
  exact ⟨a, by omega⟩
theorem rows_nice {rows : List (List Int)} (h : ∀ r ∈ rows, (∀ x ∈ r, 0 ≤ x ∧ x < (8 : Int)) ∧ r.length ≤ 30) (hl : rows.length ≤ 30) : nice (dRows rows) = true ∧ PyData.depth (dRows rows) ≤ 2 := by
  refine ⟨nice_tup.mpr ⟨by rw [List.length_map]; exact hl, fun d hd => ?_⟩, depth_up (k := 1) fun d hd => ?_⟩
  all_goals
    obtain ⟨r, hr, rfl⟩ := List.mem_map.mp hd
    have z := ints_nice (h r hr).1 (h r hr).2
    first | exact z.1 | exact z.2
theorem grn_nice {n : Nat} {ws : List Str} {ar hd : List (List Int)} (g : GrN n ws ar hd) : Nice (dGraph ws ar hd) := by
  have m := g.most
  have ln : ∀ {r : List Int}, LotN n r → (∀ x ∈ r, 0 ≤ x ∧ x < (8 : Int)) ∧ r.length ≤ 30 := fun lr => ⟨fun x hx => row_in lr m hx, by have := lot_short lr; omega⟩
  have a := rows_nice (rows := ar) (fun r hr => ln (g.ar.2 r hr).1) (by have := arr_few g.ar m; omega)
  have b := rows_nice (rows := hd) (fun r hr => ln (g.hd.2.2 r hr).1) (by have := g.hd.2.1; omega)
  have c : nice (dStrs ws) = true ∧ PyData.depth (dStrs ws) ≤ 2 := by
    refine ⟨nice_tup.mpr ⟨by rw [List.length_map, g.len]; omega, fun d hd => ?_⟩, depth_up (k := 1) fun d hd => ?_⟩
    · obtain ⟨x, hx, rfl⟩ := List.mem_map.mp hd
      exact name_nice (g.nm x hx)
    · obtain ⟨x, hx, rfl⟩ := List.mem_map.mp hd
      simp only [PyData.depth]
      omega
  refine ⟨nice_tup.mpr ⟨by show 3 ≤ 30; decide, fun d hd => ?_⟩, Nat.le_trans (depth_up (k := 2) fun d hd => ?_) (by decide)⟩
  all_goals
    simp only [List.mem_cons, List.not_mem_nil, or_false] at hd
    rcases hd with rfl | rfl | rfl
  · exact c.1
  · exact a.1
  · exact b.1
  · exact c.2
  · exact a.2
  · exact b.2
/-! ### the well and the tables may change -/
abbrev Zn (ts : List Addr) (a : Addr) : Addr → Prop := fun b => b = a ∨ b ∈ ts
def Mw (ts : List Addr) (a : Addr) (H G : Hp) : Prop := Kp (Zn ts a) H G ∧ Wl G a ∧ Tb ts G
section
variable {ts : List Addr} {a p : Addr} {H G J : Hp} {o : HO}
theorem Mw.start (h : Wl H a) (t : Tb ts H) : Mw ts a H H := ⟨Kp.rfl', h, t⟩
theorem Mw.tr (h : Mw ts a H G) (k : Mw ts a G J) : Mw ts a H J := ⟨h.1.tr k.1, k.2⟩
theorem tb_mv (at_ : a ∉ ts) (t : Tb ts G) (k : Mv a G J) : Tb ts J := fun P hP => by
  obtain ⟨ps, e, r⟩ := t P hP
  exact ⟨ps, k.1 _ _ (fun z => at_ (z ▸ hP)) e, r⟩
theorem Mw.mv (at_ : a ∉ ts) (h : Mw ts a H G) (k : Mv a G J) : Mw ts a H J := ⟨h.1.tr (k.1.wk fun _ z => .inl z), k.2, tb_mv at_ h.2.2 k⟩
theorem wl_kp {Z : Addr → Prop} (h : Wl G a) (z : ¬ Z a) (k : Kp Z G J) : Wl J a := by
  obtain ⟨x, y, u, e⟩ := h
  exact ⟨x, y, u, k _ _ z e⟩
theorem Mw.ms (at_ : a ∉ ts) (h : Mw ts a H G) (k : Ms ts G J) : Mw ts a H J := ⟨h.1.tr (k.1.wk fun _ z => .inr z), wl_kp h.2.1 at_ k.1, k.2⟩
theorem Mw.kp (h : Mw ts a H G) (k : Kp No G J) : Mw ts a H J := ⟨h.1.tr (k.wk fun _ z => z.elim), wl_kp h.2.1 (fun z => z) k, h.2.2.kp k⟩
theorem Mw.new (h : Mw ts a H G) (n : G p = none) : Mw ts a H (upd G p o) := h.kp (Kp.new n)
theorem Mw.trk (h : Mw ts a H G) : ∀ b, Zn ts a b → tracked G b := fun b z n => by
  rcases z with z | z
  · obtain ⟨x, y, u, e⟩ := h.2.1
    rw [z, e] at n
    cases n
  · exact new_out h.2.2 n z
theorem Mw.out (h : Mw ts a H G) (n : G p = none) : ¬ Zn ts a p := fun z => h.trk p z n
theorem Ms.off (h : Ms ts H G) (t : Tb ts H) (n : H p = none) : Ms ts H (upd G p o) := by
  refine ⟨Kp.off h.1 n, fun P hP => ?_⟩
  obtain ⟨ps, e, r⟩ := h.2 P hP
  have ne : P ≠ p := fun z => new_out t n (by rw [← z]; exact hP)
  exact ⟨ps, by rw [upd_ne ne]; exact e, r⟩
end
/-! ### [f(thing) for thing in a list of data] -/
theorem lc_bools {K : PySem.W.Frag} {ts : List Addr} {Y : Addr → Prop} {p : Addr} {xs : List V} {ds : List PyData} {te : TE} {j : Nat} {σ : L2.St} {H1 : Hp} {D : Addr} {f : PyData → Bool} {Qd : Hp → Prop} (nD : H1 D = none) (tb : Tb ts H1) (hY : ∀ b ∈ ts, Y b) (pt : p ∉ ts) (rd : H1 p = some (.lst xs)) (L : DqL Y H1 xs ds) (few : ds.length ≤ 1008)
    (hw : ∀ x, wipe ((wipe σ [j]).set j (some x)) [j] = wipe σ [j]) (one : ∀ x d J (Q : VK), d ∈ ds → Dq Y J x d → Ms ts H1 J → (∀ G, Ms ts J G → Q (.bl (f d)) G) → te ((wipe σ [j]).set j (some x)) J Q)
    (done : ∀ J, Ms ts H1 J → J D = some (.lst ((ds.map f).map V.bl)) → Qd J) :
    ∃ W : Nat → Nat → Hp → Prop, (∃ m, W 0 m (upd H1 D (.lst []))) ∧ ∀ i m H, W i m H →
      ((Itl K p).stop i H ∧ Qd H) ∨ ((Itl K p).go i H ∧ ∃ Nx : Hp → Prop, (∀ H', Nx H' → ∃ m', m' < m ∧ W (i + 1) m' H') ∧ ∀ x H', (Itl K p).yld i H x H' → gName j x (wipe σ [j]) H' fun σ2 H2 => wipe σ2 [j] = wipe σ [j] ∧ tYes σ2 H2 fun b H3 =>
        if b = true then te σ2 H3 fun y H4 => ∃ acc, H4 D = some (.lst acc) ∧ acc.length < sizeLine ∧ Nx (upd H4 D (.lst (acc ++ [y]))) else Nx H3) := by
  have Dt := new_out tb nD
  have lx := L.len
  refine lc_list (K := K) (a := p) (xs := xs) (fun i J => Ms ts H1 J ∧ J D = some (.lst (((ds.take i).map f).map V.bl))) ⟨(Ms.rfl' tb).new nD, upd_same⟩ (fun i J _ h => .inl (.inl (h.1.1 _ _ pt rd))) ?_ ?_
  · rintro i x J hx ⟨ms, eJ⟩
    obtain ⟨d, hd, dq⟩ := L.get hx
    refine ⟨hw x, tyes (one x d J _ (List.mem_of_getElem? hd) (dq.kp (ms.1.wk hY)) ms fun G m => ⟨_, m.1 _ _ Dt eJ, ?_, Ms.off (ms.tr m) tb nD, ?_⟩)⟩
    · rw [List.length_map, List.length_map, List.length_take, sizeLine_eq]
      omega
    · rw [upd_same, List.take_add_one, hd, List.map_append, List.map_append]
      rfl
  · rintro J ⟨ms, eJ⟩
    rw [lx, List.take_length] at eJ
    exact done J ms eJ
theorem dq_bools {Z : Addr → Prop} {H : Hp} : ∀ bs : List Bool, DqL Z H (bs.map V.bl) (bs.map PyData.bool)
  | [] => .nil
  | b :: bs => .cons (.bl b) (dq_bools bs)
theorem sh_bools {bs : List Bool} (h : bs.length ≤ 1008) : ShL (bs.map PyData.bool) := by
  refine shL (k := 0) (b := 20) (c := 1008) (fun d hd => ?_) (by rw [List.length_map]; exact h) (by decide) (by decide)
  obtain ⟨b, _, rfl⟩ := List.mem_map.mp hd
  exact sd_bl
end GR

namespace KY
open PySem PySem.Spec PyProof.Rows L2 KL KS GR
section
variable {Z : Addr → Prop} {n i : Nat} {σ : L2.St} {H H0 : Hp} {D : Ends} {rest : TS} {t : TE} {ta tr : TA} {Q : List V → Hp → Prop}
theorem yc_step (h : YS Z (OK n) σ H0 t) (k : Kp No H0 H) (q : ∀ v d G, Kp No H G → Dq Z G v d → okd n d = true → tr σ G fun vs J => Q (v :: vs) J) : tCons t tr σ H Q := h H k _ fun v d G k1 dq p => q v d G k1 dq p
theorem sq_lst0 (h : ta σ H fun vs G => vs.length ≤ sizeLine ∧ ∀ p, G p = none → rest D (σ.set i (some (.ref p))) (upd G p (.lst vs))) : tSeq (tAsg (tLst ta) (gName i)) rest D σ H := h
theorem ys_rng {m j : Nat} (hZ : ∀ b, Z b → tracked H0 b) (e : σ[i]? = some (some (.int (m : Int)))) (hm : m ≤ 60) (hn : m ≤ n) : YS Z (OK n) σ H0 (tTupRg (tRg1 (tVar i))) := fun H k Q q => by
  refine ⟨_, e, (m : Int), rfl, RgOk.of_le (by omega) (by omega) (by omega) (by omega), fun p np => ?_⟩
  have ex : rgV 0 (m : Int) = ((List.range m).map fun (i : Nat) => (i : Int)).map V.int := by
    unfold rgV
    rw [List.map_map, show ((m : Int) - 0).toNat = m by omega]
    exact List.map_congr_left fun i _ => by show V.int (0 + (i : Int)) = V.int (i : Int); rw [Int.zero_add]
  rw [ex]
  refine q _ (dInts ((List.range m).map fun (i : Nat) => (i : Int))) _ (Kp.new np) (dInts_new upd_same (free0 hZ k np)) ?_
  refine okd_ints (m := 60) (by decide) (fun x hx => ?_) (by rw [List.length_map, List.length_range]; exact hn)
  obtain ⟨i, hi, rfl⟩ := List.mem_map.mp hx
  have := List.mem_range.mp hi
  omega
end
end KY
namespace GR
open PySem PySem.Spec PyProof.Rows L2 KL KG KS KV KY
/-- a part of a list -/
def cutL {α : Type} (xs : List α) (lo hi : Option Int) : List α := (xs.drop (HT.sIx xs.length 0 lo)).take (HT.sIx xs.length xs.length hi - HT.sIx xs.length 0 lo)
theorem cut_map {α : Type} (f : α → V) (xs : List α) (lo hi : Option Int) : cutV (xs.map f) lo hi = (cutL xs lo hi).map f := by
  unfold cutV cutL
  rw [List.length_map, List.map_take, List.map_drop]
theorem cut_map2 {α β : Type} (f : α → β) (xs : List α) (lo hi : Option Int) : cutL (xs.map f) lo hi = (cutL xs lo hi).map f := by
  unfold cutL
  rw [List.length_map, List.map_take, List.map_drop]
theorem cut_mem {α : Type} {xs : List α} {lo hi : Option Int} {x : α} (h : x ∈ cutL xs lo hi) : x ∈ xs := List.mem_of_mem_drop (List.mem_of_mem_take h)
theorem cut_len {α : Type} (xs : List α) (lo hi : Option Int) : (cutL xs lo hi).length ≤ xs.length := by
  unfold cutL
  rw [List.length_take, List.length_drop]
  omega
theorem dq_cut {Z : Addr → Prop} {H : Hp} {xs : List V} {ds : List PyData} (L : DqL Z H xs ds) (lo hi : Option Int) : DqL Z H (cutV xs lo hi) (cutL ds lo hi) := by
  unfold cutV cutL
  rw [L.len]
  exact DqL.take _ (DqL.drop _ L)
/-- a def with what it promises and how it is found -/
structure Lf (P : Program) (w : World) (K : PySem.W.Frag) (mg : Str → Option Value) (base : Heap) (x : Str) (k : Nat) (ps : List Str) (sp : Sp) (f : Addr) (fd : FuncData) : Prop where
  ok : FnOk P w K mg base CX0 k f fd ps sp
  g : mg x = some (.ref f)
  kp : PySem.W.keepIn K (.ref f) = true
  b : L2.Binds K fd ps []
structure Rt (P : Program) (w : World) (K : PySem.W.Frag) (mg : Str → Option Value) (base : Heap) (ts : List Addr) (a1 a2 a3 a4 a5 a6 a7 a8 a9 b1 b2 b3 : Addr) (d1 d2 d3 d4 d5 d6 d7 d8 d9 e1 e2 e3 : FuncData) : Prop where
  one : Lf P w K mg base "_law_one" 2 ["well", "some"] spOne a1 d1
  gr : Lf P w K mg base "_law_graph" 5 ["well", "few", "most"] spGr a2 d2
  fu : Lf P w K mg base "_law_full" 5 ["well"] spFull a3 d3
  ne : Lf P w K mg base "_law_near" 5 ["well", "graph"] spNear a4 d4
  be : Lf P w K mg base "_law_bent" 4 ["well", "thing"] spBent a5 d5
  ig : Lf P w K mg base "_law_is_graph" 3 ["thing"] spIsGraph a6 d6
  ll : Lf P w K mg base "_law_lot" 3 ["well", "few", "least"] spLLot a7 d7
  od : Lf P w K mg base "_law_odd" 3 ["well"] spOdd a8 d8
  il : Lf P w K mg base "_law_is_lot" 2 ["few", "thing"] spIsLot a9 d9
  ag : Lf P w K mg base "is_graph" 9 ["value"] (spGraph ts) b1 e1
  al : Lf P w K mg base "is_lot_of" 11 ["graph", "value"] (spLotOf ts) b2 e2
  kbG : KBinds K e1 ["value"] ["value"] gOne gOneV
  kbL : KBinds K e2 ["graph", "value"] ["value", "graph"] gRev gRevV
  as_ : FnG P w K mg base CX0 13 b3 e3 ["graph"] (spAsk ts)
  gAs : mg "_law_is_asked_right" = some (.ref b3)
  kAs : PySem.W.keepIn K (.ref b3) = true
  bAs : L2.Binds K e3 ["graph"] []
  N : Nm mg
  hRe : mg "repr" = none
  hL : mg "list" = none
abbrev sRight : Stmt := topS 45
theorem scRight : FnScope ["well", "few", "graph", "some", "turn", "due", "thing", "lot", "lots"] ["well"] (defScope sRight) := ⟨rfl, rfl, rfl, by decide +kernel, rfl, by decide +kernel, by decide +kernel⟩
def spRight (ts : List Addr) : Sp := fun vs H Q _ => ∃ a : Addr, vs = [.ref a] ∧ Wl H a ∧ a ∉ ts ∧ Tb ts H ∧ ∀ G, Mw ts a H G → Q (.bl true) G
section
variable {P : Program} {w : World} {K : PySem.W.Frag} {mg : Str → Option Value} {base : Heap} {ts : List Addr} {a1 a2 a3 a4 a5 a6 a7 a8 a9 b1 b2 b3 : Addr} {d1 d2 d3 d4 d5 d6 d7 d8 d9 e1 e2 e3 : FuncData}
theorem ok_right {f : Addr} {fd : FuncData} (F : Fun K "_law_right" "_law_right" sRight f fd) (S : Rt P w K mg base ts a1 a2 a3 a4 a5 a6 a7 a8 a9 b1 b2 b3 d1 d2 d3 d4 d5 d6 d7 d8 d9 e1 e2 e3) : FnG P w K mg base CX0 14 f fd ["well"] (spRight ts) := by
  refine okG F (k := 13) scRight (fun vs H Q E h => ?_) (fun cdv A outer s H vs Q E hgd hr h => ?_)
  · obtain ⟨a, rfl, _⟩ := h
    rfl
  · obtain ⟨a, rfl, hW, at_, tb, q⟩ := h
    refine ⟨_, pss_cons (ps_set (i := 1) scRight.nd rfl (.inr rfl) (pe_call S.one.ok (hr.mono (by decide)) (by rfl) S.one.g S.one.kp S.one.b .nil pass0 (pa_cons (pv 0) (pa_cons (pe_tup (pa_cons pe_int (pa_cons pe_int (pa_cons pe_int (pa_cons pe_int (pa_cons pe_int (pa_cons pe_int (pa_cons pe_int pa_nil)))))))) pa_nil))))
      (pss_cons (ps_set (i := 2) scRight.nd rfl (.inr rfl) (pe_call S.gr.ok (hr.mono (by decide)) (by rfl) S.gr.g S.gr.kp S.gr.b .nil pass0 (pa_cons (pv 0) (pa_cons (pv 1) (pa_cons pe_int pa_nil)))))
      (pss_cons (ps_set (i := 3) scRight.nd rfl (.inl rfl) (pe_op op_cat (pe_lst (pa_cons (pv 2) (pa_cons (pe_call S.fu.ok (hr.mono (by decide)) (by rfl) S.fu.g S.fu.kp S.fu.b .nil pass0 (pa_cons (pv 0) pa_nil)) pa_nil))) (pe_call S.ne.ok (hr.mono (by decide)) (by rfl) S.ne.g S.ne.kp S.ne.b .nil pass0 (pa_cons (pv 0) (pa_cons (pv 2) pa_nil)))))
      (pss_cons (ps_for PassesOwn.never rfl (pi_range1 (by rfl) S.N.rng (pa_cons pe_int pa_nil)) (pg_name (i := 4) scRight.nd rfl (.inl rfl))
      (pss_one (ps_expr (pe_bm PySem.F.plainAttrs_list PySem.F.slot_list_append PySem.F.type_list_append mt_append (pv 3) (pa_cons (pe_call S.be.ok (hr.mono (by decide)) (by rfl) S.be.g S.be.kp S.be.b .nil pass0 (pa_cons (pv 0) (pa_cons (pv 2) pa_nil))) pa_nil)))))
      (pss_cons (ps_setLc (own := [("thing", 6)]) (g := gName 6) (tt := tYes) (i := 5) rfl scRight.nd rfl rfl (sw_true rfl rfl rfl (by decide +kernel)) (pi_list (pv 3)) (blkOk_by (N := ["well", "few", "graph", "some", "turn", "due", "thing", "lot", "lots"]) (sc := defScope sRight) (by decide +kernel)) (fun _ _ _ _ _ => (pg_name (i := 6) scRight.nd rfl (.inl rfl))) (fun _ _ _ _ _ => pts_nil) (fun _ _ _ _ _ => (pe_call S.ig.ok (hr.mono (by decide)) (by rfl) S.ig.g S.ig.kp S.ig.b .nil pass0 (pa_cons (pv 6) pa_nil))))
      (pss_cons (ps_if (PW.pt (pw_or (pt_cmpR op_ne (pe_callB (call_repr hgd hr.units) (by rfl) S.hRe (by decide +kernel) (pa_cons (pe_lc (own := [("thing", 6)]) (g := gName 6) (tt := tYes) rfl scRight.nd (pi_list (pv 3)) (blkOk_by (N := ["well", "few", "graph", "some", "turn", "due", "thing", "lot", "lots"]) (sc := defScope sRight) (by decide +kernel)) (fun _ _ _ _ _ => (pg_name (i := 6) scRight.nd rfl (.inl rfl))) (fun _ _ _ _ _ => pts_nil) (fun _ _ _ _ _ => (pe_call S.ag.ok (hr.mono (by decide)) (by rfl) S.ag.g S.ag.kp S.ag.b .nil pass0 (pa_cons (pv 6) pa_nil)))) pa_nil)) (pe_callB (call_repr hgd hr.units) (by rfl) S.hRe (by decide +kernel) (pa_cons (pv 5) pa_nil)) (nomark _)) (pw_or1 (pt_not (pt_val (pe_callG S.as_ hgd hr (by rfl) S.gAs S.kAs S.bAs (pa_cons (pv 2) pa_nil))))))) (pss_one (ps_ret pe_bl)) (pss_nil))
      (pss_cons (ps_if (pt_cmpR op_ne (pe_callB (call_repr hgd hr.units) (by rfl) S.hRe (by decide +kernel) (pa_cons (pe_lc (own := [("thing", 6)]) (g := gName 6) (tt := tYes) rfl scRight.nd (pi_list (pe_slice sl_list (pv 3) (po_some (pe_un un_neg pe_int)) po_none)) (blkOk_by (N := ["well", "few", "graph", "some", "turn", "due", "thing", "lot", "lots"]) (sc := defScope sRight) (by decide +kernel)) (fun _ _ _ _ _ => (pg_name (i := 6) scRight.nd rfl (.inl rfl))) (fun _ _ _ _ _ => pts_nil) (fun _ _ _ _ _ => (pe_callK0 S.ag.ok (hr.mono (by decide)) (by rfl) S.ag.g S.ag.kp S.kbG pass0 (pk_cons (pv 6) pk_nil)))) pa_nil)) (pe_callB (call_repr hgd hr.units) (by rfl) S.hRe (by decide +kernel) (pa_cons (pe_slice sl_list (pv 5) (po_some (pe_un un_neg pe_int)) po_none) pa_nil)) (nomark _)) (pss_one (ps_ret pe_bl)) (pss_nil))
      (pss_cons (ps_set (i := 7) scRight.nd rfl (.inl rfl) (pe_call S.ll.ok (hr.mono (by decide)) (by rfl) S.ll.g S.ll.kp S.ll.b .nil pass0 (pa_cons (pv 0) (pa_cons (pv 1) (pa_cons pe_int pa_nil)))))
      (pss_cons (ps_set (i := 8) scRight.nd rfl (.inl rfl) (pe_lst (pa_cons (pv 7) (pa_cons (pe_revA (pv 7)) (pa_cons (pe_op op_catA (pv 7) (pe_slice sl_tupA (pv 7) (po_some (pe_un un_neg pe_int)) po_none)) (pa_cons (pe_callTy call_lstM (by rfl) S.hL (by decide +kernel) (pa_cons (pv 7) pa_nil)) (pa_cons (pe_op op_catA (pv 7) (pe_tup (pa_cons (pv 1) pa_nil))) (pa_cons (pe_lit (lit_some (n := 60) (by decide +kernel))) (pa_cons (pe_lit (lit_some (n := 60) (by decide +kernel))) (pa_cons (pe_tupRg rfl (by rfl) S.N.tup (prg_1 (by rfl) S.N.rng (pv 1))) (pa_cons (pe_call S.od.ok (hr.mono (by decide)) (by rfl) S.od.g S.od.kp S.od.b .nil pass0 (pa_cons (pv 0) pa_nil)) pa_nil)))))))))))
      (pss_cons (ps_for PassesOwn.never rfl (pi_range1 (by rfl) S.N.rng (pa_cons pe_int pa_nil)) (pg_name (i := 4) scRight.nd rfl (.inl rfl))
      (pss_one (ps_expr (pe_bm PySem.F.plainAttrs_list PySem.F.slot_list_append PySem.F.type_list_append mt_append (pv 8) (pa_cons (pe_call S.be.ok (hr.mono (by decide)) (by rfl) S.be.g S.be.kp S.be.b .nil pass0 (pa_cons (pv 0) (pa_cons (pv 7) pa_nil))) pa_nil)))))
      (pss_cons (ps_setLc (own := [("thing", 6)]) (g := gName 6) (tt := tYes) (i := 5) rfl scRight.nd rfl rfl (sw_true rfl rfl rfl (by decide +kernel)) (pi_list (pv 8)) (blkOk_by (N := ["well", "few", "graph", "some", "turn", "due", "thing", "lot", "lots"]) (sc := defScope sRight) (by decide +kernel)) (fun _ _ _ _ _ => (pg_name (i := 6) scRight.nd rfl (.inl rfl))) (fun _ _ _ _ _ => pts_nil) (fun _ _ _ _ _ => (pe_call S.il.ok (hr.mono (by decide)) (by rfl) S.il.g S.il.kp S.il.b .nil pass0 (pa_cons (pv 1) (pa_cons (pv 6) pa_nil)))))
      (pss_cons (ps_if (pt_cmpR op_ne (pe_callB (call_repr hgd hr.units) (by rfl) S.hRe (by decide +kernel) (pa_cons (pe_lc (own := [("thing", 6)]) (g := gName 6) (tt := tYes) rfl scRight.nd (pi_list (pv 8)) (blkOk_by (N := ["well", "few", "graph", "some", "turn", "due", "thing", "lot", "lots"]) (sc := defScope sRight) (by decide +kernel)) (fun _ _ _ _ _ => (pg_name (i := 6) scRight.nd rfl (.inl rfl))) (fun _ _ _ _ _ => pts_nil) (fun _ _ _ _ _ => (pe_call S.al.ok (hr.mono (by decide)) (by rfl) S.al.g S.al.kp S.al.b .nil pass0 (pa_cons (pv 2) (pa_cons (pv 6) pa_nil))))) pa_nil)) (pe_callB (call_repr hgd hr.units) (by rfl) S.hRe (by decide +kernel) (pa_cons (pv 5) pa_nil)) (nomark _)) (pss_one (ps_ret pe_bl)) (pss_nil))
      (pss_one (ps_ret (pe_cmpR op_eq (pe_callB (call_repr hgd hr.units) (by rfl) S.hRe (by decide +kernel) (pa_cons (pe_lc (own := [("thing", 6)]) (g := gName 6) (tt := tYes) rfl scRight.nd (pi_list (pv 8)) (blkOk_by (N := ["well", "few", "graph", "some", "turn", "due", "thing", "lot", "lots"]) (sc := defScope sRight) (by decide +kernel)) (fun _ _ _ _ _ => (pg_name (i := 6) scRight.nd rfl (.inl rfl))) (fun _ _ _ _ _ => pts_nil) (fun _ _ _ _ _ => (pe_callK0 S.al.ok (hr.mono (by decide)) (by rfl) S.al.g S.al.kp S.kbL pass0 (pk_cons (pv 6) (pk_cons (pv 2) pk_nil))))) pa_nil)) (pe_callB (call_repr hgd hr.units) (by rfl) S.hRe (by decide +kernel) (pa_cons (pv 5) pa_nil)) (nomark _))))))))))))))), ?_⟩
    have m0 : Mw ts a H H := Mw.start hW tb
    -- few, graph
    refine ⟨.ref a, rfl, by show 7 ≤ sizeLine; decide, fun t nt => ⟨a, t, _, rfl, hW.new nt, upd_same, by show 0 < 7; decide, by show 7 ≤ 1000; decide, fun i v G1 hv mv1 => ?_⟩⟩
    obtain ⟨n, rfl, n1, n8⟩ : ∃ n : Nat, v = .int (n : Int) ∧ 1 ≤ n ∧ n ≤ 8 := by
      have hm := List.mem_of_getElem? hv
      simp only [List.mem_cons, List.not_mem_nil, or_false] at hm
      rcases hm with rfl | rfl | rfl | rfl | rfl | rfl | rfl
      · exact ⟨1, rfl, by decide, by decide⟩
      · exact ⟨2, rfl, by decide, by decide⟩
      · exact ⟨3, rfl, by decide, by decide⟩
      · exact ⟨3, rfl, by decide, by decide⟩
      · exact ⟨4, rfl, by decide, by decide⟩
      · exact ⟨5, rfl, by decide, by decide⟩
      · exact ⟨8, rfl, by decide, by decide⟩
    have m1 : Mw ts a H G1 := (m0.new nt).mv at_ mv1
    clear hv mv1 nt
    refine st_next ?_
    dsimp only
    refine ⟨.ref a, rfl, .int (n : Int), rfl, a, n, 4, rfl, m1.2.1, n1, n8, by decide, fun v ws ar hd G2 gr mv2 dq2 fz2 => ?_⟩
    have m2 := m1.mv at_ mv2
    have dq : Dq (Zn ts a) G2 v (dGraph ws ar hd) := dq2.wk m1.trk
    clear dq2 mv2
    refine st_next ?_
    dsimp only
    -- some
    refine ⟨v, rfl, .ref a, rfl, a, rfl, m2.2.1, fun vf df G3 mv3 dqf okf => ⟨by show 2 ≤ sizeLine; decide, fun L1 nL1 => ?_⟩⟩
    have m3 := m2.mv at_ mv3
    have dq3 : Dq (Zn ts a) G3 v (dGraph ws ar hd) := dq.kp (mv3.1.wk fun _ z => .inl z)
    have fz3 : FzNames G3 v := fz_kp dq fz2 (mv3.1.wk fun _ z => .inl z)
    have dqf3 : Dq (Zn ts a) G3 vf df := dqf.wk m2.trk
    have m4 : Mw ts a H (upd G3 L1 (.lst [v, vf])) := m3.new nL1
    have k4 : Kp No G3 (upd G3 L1 (.lst [v, vf])) := Kp.new nL1
    have eL1 : (upd G3 L1 (.lst [v, vf])) L1 = some (.lst [v, vf]) := upd_same
    have aL1 : L1 ≠ a := fun z => m3.out nL1 (.inl z)
    generalize upd G3 L1 (.lst [v, vf]) = G4 at m4 k4 eL1
    refine ⟨.ref a, rfl, v, rfl, a, v, n, ws, ar, hd, Zn ts a, rfl, m4.2.1, m4.trk, .inl rfl, up0 dq3 k4, gr, fun p k G5 mv5 np ls k1000 => ?_⟩
    obtain ⟨xs5, ds5, ep, L5, ok5, len5⟩ := ls
    have m5 := m4.mv at_ mv5
    have l5 := L5.len
    refine ⟨L1, p, _, _, rfl, rfl, mv5.1 _ _ aL1 eL1, ep, by rw [sizeLine_eq]; show 2 + xs5.length ≤ _; omega, fun Sm nS => ?_⟩
    have kf : Kp (Zn ts a) G3 (upd G5 Sm (.lst ([v, vf] ++ xs5))) := ((k4.wk fun _ z => z.elim).tr (mv5.1.wk fun _ z => .inl z)).tr (Kp.new nS)
    have m6 : Mw ts a H (upd G5 Sm (.lst ([v, vf] ++ xs5))) := m5.new nS
    have HS : H Sm = none := by
      cases z : H Sm with
      | none => rfl
      | some o => exact absurd (m5.1 Sm o (fun u => m5.out nS u) z) (by rw [nS]; exact fun z => nomatch z)
    have St := new_out m5.2.2 nS
    have Sa : Sm ≠ a := fun z => m5.out nS (.inl z)
    have w5 : Kp (Zn ts a) G3 G5 := (k4.wk fun _ z => z.elim).tr (mv5.1.wk fun _ z => .inl z)
    have dq5 : Dq (Zn ts a) G5 v (dGraph ws ar hd) := dq3.kp w5
    have dqf5 : Dq (Zn ts a) G5 vf df := dqf3.kp w5
    have dq6 : Dq (fun b => Zn ts a b ∨ b = Sm) (upd G5 Sm (.lst ([v, vf] ++ xs5))) v (dGraph ws ar hd) := up0 (Dq.out nS _ _ dq5) (Kp.new nS)
    have ls6 : Ls (fun b => Zn ts a b ∨ b = Sm) 63 (upd G5 Sm (.lst ([v, vf] ++ xs5))) Sm (k + 2) := by
      refine ⟨_, [dGraph ws ar hd, df] ++ ds5, upd_same, upL0 (DqL.out nS _ _ (.cons dq5 (.cons dqf5 L5))) (Kp.new nS), fun d hd' => ?_, by rw [List.length_append, len5]; exact Nat.add_comm 2 k⟩
      rcases List.mem_append.mp hd' with z | z
      · simp only [List.mem_cons, List.not_mem_nil, or_false] at z
        rcases z with rfl | rfl
        · exact okd_up (by decide) gr.ok
        · exact okd_up (by decide) okf
      · exact ok5 d z
    have fz6 := fz_kp dq3 fz3 kf
    generalize upd G5 Sm (.lst ([v, vf] ++ xs5)) = G6 at m6 dq6 ls6 fz6
    refine st_next ?_
    dsimp only
    have nice := grn_nice gr
    have nS' : ∀ b, (Zn ts a b ∨ b = Sm) → b = Sm ∨ Zn ts a b := fun b z => z.symm
    refine ⟨6, rfl, by decide, by decide, ?_⟩
    refine for_range (lo := 0) (n := 6) (fun i σ J => ∃ y : Option V, σ = [some (.ref a), some (.int (n : Int)), some v, some (.ref Sm), y, none, none, none, none] ∧ Mw ts a H J ∧ Dq (fun b => Zn ts a b ∨ b = Sm) J v (dGraph ws ar hd) ∧ FzNames J v ∧ Ls (fun b => Zn ts a b ∨ b = Sm) 63 J Sm (k + 2 + i)) ⟨none, rfl, m6, dq6, fz6, ls6⟩ ?_ ?_
    · rintro i σ J hi ⟨y, rfl, mJ, dqJ, fzJ, lsJ⟩
      obtain ⟨xs0, ds0, e0, L0, ok0, len0⟩ := lsJ
      have trkJ : ∀ b, (Zn ts a b ∨ b = Sm) → tracked J b := fun b z => z.elim (mJ.trk b) fun u => by
        rw [u]
        exact fun n => by rw [e0] at n; cases n
      refine ⟨.ref Sm, rfl, .inl ⟨rfl, _, .inl (.inl e0)⟩, .ref a, rfl, v, rfl, a, v, dGraph ws ar hd, fun b => Zn ts a b ∨ b = Sm, rfl, mJ.2.1, trkJ, .inl (.inl rfl), dqJ, nice, fun v' d' J2 mv dq' od' => ?_⟩
      have kJ : Kp (fun b => Zn ts a b ∨ b = Sm) J J2 := mv.1.wk fun _ z => .inl (.inl z)
      have ls2 : Ls (fun b => Zn ts a b ∨ b = Sm) 63 J2 Sm (k + 2 + i) := ⟨xs0, ds0, mv.1 _ _ Sa e0, L0.kp kJ, ok0, len0⟩
      obtain ⟨xs2, ex2, lx2, ls3⟩ := ls2.add (.inr rfl) dq' od'
      refine ⟨Sm, xs2, v', rfl, rfl, ex2, by rw [lx2, sizeLine_eq]; omega, ?_⟩
      have kE : Kp (fun b => Zn ts a b ∨ b = Sm) J2 (upd J2 Sm (.lst (xs2 ++ [v']))) := Kp.at (.inr rfl)
      have m2' := mJ.mv at_ mv
      refine ⟨_, rfl, ⟨Kp.off m2'.1 HS, ?_, ?_⟩, (dqJ.kp kJ).kp kE, fz_kp (dqJ.kp kJ) (fz_kp dqJ fzJ kJ) kE, ls3⟩
      · obtain ⟨x, y, u, e⟩ := m2'.2.1
        exact ⟨x, y, u, by rw [upd_ne (Ne.symm Sa)]; exact e⟩
      · intro P hP
        obtain ⟨ps, e, r⟩ := m2'.2.2 P hP
        have ne : P ≠ Sm := fun z => St (by rw [← z]; exact hP)
        exact ⟨ps, by rw [upd_ne ne]; exact e, r⟩
    rintro σ J ⟨y, rfl, mJ, dqJ, fzJ, lsJ⟩
    obtain ⟨xs, ds, eS, L, okS, lenS⟩ := lsJ
    have fewS : ds.length ≤ 1008 := by omega
    have hY : ∀ b ∈ ts, (Zn ts a b ∨ b = Sm) := fun b z => .inl (.inr z)
    refine st_next ?_
    dsimp only
    -- due
    refine ⟨.ref Sm, rfl, Sm, rfl, ⟨xs, .inl (.inl eS)⟩, fun D nD => ?_⟩
    refine lc_bools (K := K) (f := isGraphD) nD mJ.2.2 hY St eS L fewS (fun _ => rfl) (fun x d J1 Q1 hd' dq' ms1 q1 => ⟨x, rfl, x, d, _, rfl, dq', okS d hd', fun G k => q1 G ((Ms.rfl' ms1.2).kp k)⟩) ?_
    intro J2 ms2 eD
    refine st_next ?_
    dsimp only
    have Dt := new_out mJ.2.2 nD
    have mJ2 := mJ.ms at_ ms2
    have tsY : ∀ {J' : Hp}, Ms ts J J' → Kp (fun b => Zn ts a b ∨ b = Sm) J J' := fun m => m.1.wk hY
    have shb : ShL ((ds.map isGraphD).map PyData.bool) := sh_bools (by rw [List.length_map]; exact fewS)
    refine if_ansH (b := false) (fun G => Ms ts J2 G) (fun R r => ?_) (fun c _ _ => absurd c Bool.false_ne_true) (fun _ J3 ms3 => ?_)
    · refine ⟨.ref Sm, rfl, Sm, rfl, ⟨xs, .inl (.inl (ms2.1 _ _ St eS))⟩, fun D2 nD2 => ?_⟩
      refine lc_bools (K := K) (f := isGraphD) nD2 ms2.2 hY St (ms2.1 _ _ St eS) (L.kp (tsY ms2)) fewS (fun _ => rfl) (fun x d J1 Q1 hd' dq' ms1 q1 => ⟨x, rfl, x, d, _, rfl, hY, ms1.2, dq', okd_len (by decide) 2 (okS d hd'), q1⟩) ?_
      intro J4 ms4 eD2
      refine ⟨fun _ => False, D2, _, _, rfl, eD2, dq_bools _, shb.1, shb.2.1, shb.2.2, .ref D, rfl, fun _ => False, D, _, _, rfl, ms4.1 _ _ Dt eD, dq_bools _, shb.1, shb.2.1, shb.2.2, rfl, false, by rw [decide_eq_true rfl]; rfl, (if_neg Bool.false_ne_true).mpr ?_⟩
      have ms24 := ms2.tr ms4
      exact ⟨v, rfl, v, n, ws, ar, hd, rfl, ms4.2, (dqJ.kp (tsY ms24)).wk hY, gr, fz_kp dqJ fzJ (tsY ms24), fun G mG => ⟨true, rfl, r G (ms4.tr mG)⟩⟩
    refine st_next ?_
    dsimp only
    have ms23 := ms2.tr ms3
    have eS3 := ms23.1 _ _ St eS
    have L3 := L.kp (tsY ms23)
    have few6 : (cutL ds (some (-6)) none).length ≤ 1008 := Nat.le_trans (cut_len ds _ _) fewS
    have shc : ShL (((cutL ds (some (-6)) none).map isGraphD).map PyData.bool) := sh_bools (by rw [List.length_map]; exact few6)
    refine if_ansH (b := false) (fun G => Ms ts J3 G) (fun R r => ?_) (fun c _ _ => absurd c Bool.false_ne_true) (fun _ J4 ms4 => ?_)
    · refine ⟨.ref Sm, rfl, 6, rfl, -6, rfl, Sm, xs, rfl, .inl (.inl eS3), fun C nC => ⟨C, rfl, ⟨_, .inl (.inl upd_same)⟩, fun D3 nD3 => ?_⟩⟩
      have kC : Kp No J3 (upd J3 C (.lst (cutV xs (some (-6)) none))) := Kp.new nC
      have eC : (upd J3 C (.lst (cutV xs (some (-6)) none))) C = some (.lst (cutV xs (some (-6)) none)) := upd_same
      have mC : Ms ts J3 (upd J3 C (.lst (cutV xs (some (-6)) none))) := (Ms.rfl' ms3.2).new nC
      have Ct := new_out ms3.2 nC
      generalize upd J3 C (.lst (cutV xs (some (-6)) none)) = J5 at kC eC mC nD3
      refine lc_bools (K := K) (f := isGraphD) nD3 mC.2 hY Ct eC (upL0 (dq_cut L3 _ _) kC) few6 (fun _ => rfl) (fun x d J1 Q1 hd' dq' ms1 q1 => ⟨x, rfl, x, d, _, rfl, hY, ms1.2, dq', okd_len (by decide) 2 (okS d (cut_mem hd')), q1⟩) ?_
      intro J6 ms6 eD3
      have ms36 := mC.tr ms6
      refine ⟨fun _ => False, D3, _, _, rfl, eD3, dq_bools _, shc.1, shc.2.1, shc.2.2, .ref D, rfl, 6, rfl, -6, rfl, D, _, rfl, .inl (.inl ((ms3.tr ms36).1 _ _ Dt eD)), fun C2 nC2 => ?_⟩
      have ecut : cutV (((ds.map isGraphD).map V.bl)) (some (-6)) none = ((cutL ds (some (-6)) none).map isGraphD).map V.bl := by rw [cut_map, cut_map2]
      refine ⟨fun _ => False, C2, _, _, rfl, (by rw [ecut]; exact upd_same), dq_bools _, shc.1, shc.2.1, shc.2.2, rfl, false, by rw [decide_eq_true rfl]; rfl, r _ (ms36.new nC2)⟩
    refine st_next ?_
    dsimp only
    have ms24 := ms23.tr ms4
    have mJ4 := mJ.ms at_ ms24
    have dq4 := dqJ.kp (tsY ms24)
    have fz4 := fz_kp dqJ fzJ (tsY ms24)
    clear shc few6 L3 eS3 shb eD Dt nD ms2 ms3 ms23 mJ2
    -- the lots
    refine ⟨.ref a, rfl, .int (n : Int), rfl, a, n, 0, rfl, mJ4.2.1, by omega, Nat.zero_le _, fun pl ns J5 hl _ mv5 nl el => ?_⟩
    have m5 := mJ4.mv at_ mv5
    refine st_next ?_
    dsimp only
    have im : ∀ {Y : Addr → Prop} {σ : L2.St} {J : Hp}, YS Y OI σ J (tUn (rU fun i => .int (-i)) (tC (.int 1))) := fun {Y σ J} H1 k Q q => ⟨1, rfl, q _ _ H1 Kp.rfl' (.int (-1)) ⟨-1, rfl, by decide⟩⟩
    have hZ := m5.trk
    have lotN : ns.length ≤ 8 := by have := lot_short hl; omega
    have dl : Dq (Zn ts a) J5 (.ref pl) (dInts ns) := dInts_new el (mJ4.out nl)
    have ol : OT 30 (dInts ns) := ⟨(nice_all (lot_nice hl n8).1).1, _, rfl⟩
    have dq5' : Dq (Zn ts a) J5 v (dGraph ws ar hd) := (dq4.kp (mv5.1.wk fun _ z => .inl (.inl z))).wk fun _ z => .inl z
    have fz5 : FzNames J5 v := fz_kp dq4 fz4 (mv5.1.wk fun _ z => .inl (.inl z))
    refine sq_lst0 ?_
    refine yc_step (Z := Zn ts a) (n := 63) (H0 := J5) (ys_var rfl dl ol).ok Kp.rfl' fun v1 c1 G1 g1 q1 o1 => ?_
    refine yc_step (Z := Zn ts a) (n := 63) (H0 := J5) (ys_rev hZ (ys_var rfl dl ol)).ok g1 fun v2 c2 G2 g2 q2 o2 => ?_
    have h2 := g1.tr g2
    refine yc_step (Z := Zn ts a) (n := 63) (H0 := J5) (ys_cat hZ (ys_var rfl dl ol) (ys_sl hZ (ys_var rfl dl ol) (yp_some (Z := Zn ts a) im) yp_none)).ok h2 fun v3 c3 G3 g3 q3 o3 => ?_
    have h3 := h2.tr g3
    refine yc_step (Z := Zn ts a) (n := 63) (H0 := J5) ((ys_list hZ (ys_var rfl dl ol)).mono fun _ p => okd_up (by decide) p) h3 fun v4 c4 G4 g4 q4 o4 => ?_
    have h4 := h3.tr g4
    refine yc_step (Z := Zn ts a) (n := 63) (H0 := J5) (ys_cat hZ (ys_var rfl dl ol) (ys_tup (n := 30) hZ (ya_cons (ys_var rfl (.int _) (okd_int.mpr (Nat.lt_of_le_of_lt (m := 1000) (by omega) (by decide)))) ya_nil))).ok h4 fun v5 c5 G5 g5 q5 o5 => ?_
    have h5 := h4.tr g5
    refine yc_step (Z := Zn ts a) (n := 63) (H0 := J5) (ys_lit hZ (litOK (by decide +kernel))) h5 fun v6 c6 G6 g6 q6 o6 => ?_
    have h6 := h5.tr g6
    refine yc_step (Z := Zn ts a) (n := 63) (H0 := J5) (ys_lit hZ (litOK (by decide +kernel))) h6 fun v7 c7 G7 g7 q7 o7 => ?_
    have h7 := h6.tr g7
    refine yc_step (Z := Zn ts a) (n := 63) (H0 := J5) (ys_rng (m := n) (j := 0) hZ rfl (by omega) (by omega)) h7 fun v8 c8 G8 g8 q8 o8 => ?_
    have h8 := h7.tr g8
    have m8 := m5.kp h8
    refine ⟨.ref a, rfl, a, rfl, m8.2.1, fun v9 c9 G9 mv9 q9 _ hodd => ⟨by show 9 ≤ sizeLine; decide, fun Lm nL => ?_⟩⟩
    have m9 := m8.mv at_ mv9
    have e8 : Kp (Zn ts a) G8 G9 := mv9.1.wk fun _ z => .inl z
    have e7 := (g8.wk (Y := Zn ts a) fun _ z => z.elim).tr e8
    have e6 := (g7.wk (Y := Zn ts a) fun _ z => z.elim).tr e7
    have e5 := (g6.wk (Y := Zn ts a) fun _ z => z.elim).tr e6
    have e4 := (g5.wk (Y := Zn ts a) fun _ z => z.elim).tr e5
    have e3 := (g4.wk (Y := Zn ts a) fun _ z => z.elim).tr e4
    have e2 := (g3.wk (Y := Zn ts a) fun _ z => z.elim).tr e3
    have e1 := (g2.wk (Y := Zn ts a) fun _ z => z.elim).tr e2
    have e0 := (g1.wk (Y := Zn ts a) fun _ z => z.elim).tr e1
    have L9 : DqL (Zn ts a) G9 [v1, v2, v3, v4, v5, v6, v7, v8, v9] [c1, c2, c3, c4, c5, c6, c7, c8, c9] :=
      .cons (q1.kp e1) (.cons (q2.kp e2) (.cons (q3.kp e3) (.cons (q4.kp e4) (.cons (q5.kp e5) (.cons (q6.kp e6) (.cons (q7.kp e7) (.cons (q8.kp e8) (.cons (q9.wk m8.trk) .nil))))))))
    have ok9 : ∀ d ∈ [c1, c2, c3, c4, c5, c6, c7, c8, c9], okd 63 d = true := fun d hd' => by
      simp only [List.mem_cons, List.not_mem_nil, or_false] at hd'
      rcases hd' with rfl | rfl | rfl | rfl | rfl | rfl | rfl | rfl | rfl
      · exact o1
      · exact o2
      · exact o3
      · exact o4
      · exact o5
      · exact o6
      · exact o7
      · exact o8
      · exact okd_up (by decide) (List.all_eq_true.mp odds_ok _ hodd)
    have dq9 := dq5'.kp e0
    have fz9 := fz_kp dq5' fz5 e0
    have dl9 := dl.kp e0
    have kL : Kp No G9 (upd G9 Lm (.lst [v1, v2, v3, v4, v5, v6, v7, v8, v9])) := Kp.new nL
    have m10 : Mw ts a H (upd G9 Lm (.lst [v1, v2, v3, v4, v5, v6, v7, v8, v9])) := m9.new nL
    have HL : H Lm = none := by
      cases z : H Lm with
      | none => rfl
      | some o => exact absurd (m9.1 Lm o (fun u => m9.out nL u) z) (by rw [nL]; exact fun z => nomatch z)
    have Lt := new_out m9.2.2 nL
    have La : Lm ≠ a := fun z => m9.out nL (.inl z)
    have dqA : Dq (fun b => Zn ts a b ∨ b = Lm) (upd G9 Lm (.lst [v1, v2, v3, v4, v5, v6, v7, v8, v9])) v (dGraph ws ar hd) := up0 (Dq.out nL _ _ dq9) kL
    have dlA : Dq (fun b => Zn ts a b ∨ b = Lm) (upd G9 Lm (.lst [v1, v2, v3, v4, v5, v6, v7, v8, v9])) (.ref pl) (dInts ns) := up0 (Dq.out nL _ _ dl9) kL
    have lsA : Ls (fun b => Zn ts a b ∨ b = Lm) 63 (upd G9 Lm (.lst [v1, v2, v3, v4, v5, v6, v7, v8, v9])) Lm 9 := ⟨_, _, upd_same, upL0 (DqL.out nL _ _ L9) kL, ok9, rfl⟩
    have fzA := fz_kp dq9 fz9 (kL.wk (Y := Zn ts a) fun _ z => z.elim)
    generalize upd G9 Lm (.lst [v1, v2, v3, v4, v5, v6, v7, v8, v9]) = GA at m10 dqA dlA lsA fzA
    clear L9 ok9 q1 q2 q3 q4 q5 q6 q7 q8 q9 e0 e1 e2 e3 e4 e5 e6 e7 e8
    have niceL := lot_nice hl n8
    refine ⟨4, rfl, by decide, by decide, ?_⟩
    refine for_range (lo := 0) (n := 4) (fun i σ J => ∃ y : Option V, σ = [some (.ref a), some (.int (n : Int)), some v, some (.ref Sm), y, some (.ref D), none, some (.ref pl), some (.ref Lm)] ∧ Mw ts a H J ∧ Dq (fun b => Zn ts a b ∨ b = Lm) J v (dGraph ws ar hd) ∧ FzNames J v ∧ Dq (fun b => Zn ts a b ∨ b = Lm) J (.ref pl) (dInts ns) ∧ Ls (fun b => Zn ts a b ∨ b = Lm) 63 J Lm (9 + i)) ⟨_, rfl, m10, dqA, fzA, dlA, lsA⟩ ?_ ?_
    · rintro i σ J hi ⟨y, rfl, mJ, dqJ, fzJ, dlJ, lsJ⟩
      obtain ⟨xs0, ds0, e0, L0, ok0, len0⟩ := lsJ
      have trkJ : ∀ b, (Zn ts a b ∨ b = Lm) → tracked J b := fun b z => z.elim (mJ.trk b) fun u => by
        rw [u]
        exact fun n => by rw [e0] at n; cases n
      refine ⟨.ref Lm, rfl, .inl ⟨rfl, _, .inl (.inl e0)⟩, .ref a, rfl, .ref pl, rfl, a, .ref pl, dInts ns, fun b => Zn ts a b ∨ b = Lm, rfl, mJ.2.1, trkJ, .inl (.inl rfl), dlJ, niceL, fun v' d' J2 mv dq' od' => ?_⟩
      have kJ : Kp (fun b => Zn ts a b ∨ b = Lm) J J2 := mv.1.wk fun _ z => .inl (.inl z)
      have ls2 : Ls (fun b => Zn ts a b ∨ b = Lm) 63 J2 Lm (9 + i) := ⟨xs0, ds0, mv.1 _ _ La e0, L0.kp kJ, ok0, len0⟩
      obtain ⟨xs2, ex2, lx2, ls3⟩ := ls2.add (.inr rfl) dq' od'
      refine ⟨Lm, xs2, v', rfl, rfl, ex2, by rw [lx2, sizeLine_eq]; omega, ?_⟩
      have kE : Kp (fun b => Zn ts a b ∨ b = Lm) J2 (upd J2 Lm (.lst (xs2 ++ [v']))) := Kp.at (.inr rfl)
      have m2' := mJ.mv at_ mv
      refine ⟨_, rfl, ⟨Kp.off m2'.1 HL, ?_, ?_⟩, (dqJ.kp kJ).kp kE, fz_kp (dqJ.kp kJ) (fz_kp dqJ fzJ kJ) kE, (dlJ.kp kJ).kp kE, ls3⟩
      · obtain ⟨x, y, u, e⟩ := m2'.2.1
        exact ⟨x, y, u, by rw [upd_ne (Ne.symm La)]; exact e⟩
      · intro P hP
        obtain ⟨ps, e, r⟩ := m2'.2.2 P hP
        have ne : P ≠ Lm := fun z => Lt (by rw [← z]; exact hP)
        exact ⟨ps, by rw [upd_ne ne]; exact e, r⟩
    clear m10 dqA dlA lsA fzA dq9 fz9 dl9 dqJ fzJ eS L okS lenS fewS hY tsY mJ
    rintro σ J ⟨y, rfl, mJ, dqJ, fzJ, dlJ, lsJ⟩
    obtain ⟨xs, ds, eS, L, okS, lenS⟩ := lsJ
    have fewS : ds.length ≤ 1008 := by omega
    have hY : ∀ b ∈ ts, (Zn ts a b ∨ b = Lm) := fun b z => .inl (.inr z)
    have tsY : ∀ {J' : Hp}, Ms ts J J' → Kp (fun b => Zn ts a b ∨ b = Lm) J J' := fun m => m.1.wk hY
    refine st_next ?_
    dsimp only
    refine ⟨.ref Lm, rfl, Lm, rfl, ⟨xs, .inl (.inl eS)⟩, fun D nD => ?_⟩
    refine lc_bools (K := K) (f := isLotD (n : Int)) nD mJ.2.2 hY Lt eS L fewS (fun _ => rfl) (fun x d J1 Q1 hd' dq' ms1 q1 => ⟨.int (n : Int), rfl, x, rfl, (n : Int), x, d, _, rfl, dq', okS d hd', fun G k => q1 G ((Ms.rfl' ms1.2).kp k)⟩) ?_
    intro J2 ms2 eD
    have Dt := new_out mJ.2.2 nD
    have shb : ShL ((ds.map (isLotD (n : Int))).map PyData.bool) := sh_bools (by rw [List.length_map]; exact fewS)
    have lenN : lenD (dStrs ws) = n := (lenD_strs ws).trans gr.len
    have gd := gr.data
    have g2 := okd_len (n := 30) (by decide) 2 gr.ok
    have ask : ∀ (x : V) (d : PyData) (J0 J1 : Hp) (Q1 : VK), Ms ts J J0 → d ∈ ds → Dq (fun b => Zn ts a b ∨ b = Lm) J1 x d → Ms ts J0 J1 → (∀ G, Ms ts J1 G → Q1 (.bl (isLotD (n : Int) d)) G) → spLotOf ts [v, x] J1 Q1 E0 := fun x d J0 J1 Q1 m01 hd' dq' ms1 q1 =>
      ⟨v, x, dStrs ws, dRows ar, dRows hd, d, _, rfl, hY, ms1.2, dqJ.kp (tsY (m01.tr ms1)), g2, gd, dq', okd_len (by decide) 0 (okS d hd'), fun G mG => by rw [lenN]; exact q1 G mG⟩
    refine st_next ?_
    dsimp only
    refine if_ansH (b := false) (fun G => Ms ts J2 G) (fun R r => ?_) (fun c _ _ => absurd c Bool.false_ne_true) (fun _ J3 ms3 => ?_)
    · refine ⟨.ref Lm, rfl, Lm, rfl, ⟨xs, .inl (.inl (ms2.1 _ _ Lt eS))⟩, fun D2 nD2 => ?_⟩
      refine lc_bools (K := K) (f := isLotD (n : Int)) nD2 ms2.2 hY Lt (ms2.1 _ _ Lt eS) (L.kp (tsY ms2)) fewS (fun _ => rfl) (fun x d J1 Q1 hd' dq' ms1 q1 => ⟨v, rfl, x, rfl, ask x d J2 J1 Q1 ms2 hd' dq' ms1 q1⟩) ?_
      intro J4 ms4 eD2
      exact ⟨fun _ => False, D2, _, _, rfl, eD2, dq_bools _, shb.1, shb.2.1, shb.2.2, .ref D, rfl, fun _ => False, D, _, _, rfl, ms4.1 _ _ Dt eD, dq_bools _, shb.1, shb.2.1, shb.2.2, rfl, false, by rw [decide_eq_true rfl]; rfl, r _ ms4⟩
    refine st_next ?_
    dsimp only
    have ms23 := ms2.tr ms3
    refine ⟨.ref Lm, rfl, Lm, rfl, ⟨xs, .inl (.inl (ms23.1 _ _ Lt eS))⟩, fun D2 nD2 => ?_⟩
    refine lc_bools (K := K) (f := isLotD (n : Int)) nD2 ms3.2 hY Lt (ms23.1 _ _ Lt eS) (L.kp (tsY ms23)) fewS (fun _ => rfl) (fun x d J1 Q1 hd' dq' ms1 q1 => ⟨x, rfl, v, rfl, ask x d J3 J1 Q1 ms23 hd' dq' ms1 q1⟩) ?_
    intro J4 ms4 eD2
    refine ⟨fun _ => False, D2, _, _, rfl, eD2, dq_bools _, shb.1, shb.2.1, shb.2.2, .ref D, rfl, fun _ => False, D, _, _, rfl, (ms3.tr ms4).1 _ _ Dt eD, dq_bools _, shb.1, shb.2.1, shb.2.2, rfl, ?_⟩
    rw [decide_eq_true rfl]
    exact q J4 (mJ.ms at_ (ms23.tr ms4))
end
end GR

namespace GR
open PySem PySem.Spec PyProof.Rows L2 KL KG KS KV KY
abbrev sLaw : Stmt := topS 46
theorem scLaw : FnScope ["script", "lap"] ["script"] (defScope sLaw) := ⟨rfl, rfl, rfl, by decide +kernel, rfl, by decide +kernel, by decide +kernel⟩
theorem sql_ms {K : PySem.W.Frag} {ts : List Addr} {H J : Hp} {a : Addr} {xs : List V} (t : Tb ts H) (m : Ms ts H J) (s : SqL K H a xs) : SqL K J a xs := by
  rcases s with s | s
  · refine .inl (rd_kp m.1 (fun z => ?_) s)
    obtain ⟨ps, e, _⟩ := t a z
    rcases s with s | ⟨o, s⟩ <;> rw [e] at s <;> cases s
  · exact .inr s
def spLaw (K : PySem.W.Frag) (ts : List Addr) : Sp := fun vs H Q _ => ∃ (a : Addr) (ns : List Int), vs = [.ref a] ∧ SqL K H a (ns.map V.int) ∧ ns.length ≤ 63 ∧ Tb ts H ∧ ∀ G : Hp, Q (.bl true) G
section
variable {P : Program} {w : World} {K : PySem.W.Frag} {mg : Str → Option Value} {base : Heap} {ts : List Addr} {a1 a2 a3 a4 a5 a6 a7 a8 a9 b1 b2 b3 : Addr} {d1 d2 d3 d4 d5 d6 d7 d8 d9 e1 e2 e3 : FuncData}
theorem ok_law {f fW fR : Addr} {fd fdW fdR : FuncData} (F : Fun K "law" "law" sLaw f fd) (FW : Fun K "_law_well" "_law_well" sWell fW fdW) (FR : Fun K "_law_right" "_law_right" sRight fR fdR) (gW : mg "_law_well" = some (.ref fW)) (gR : mg "_law_right" = some (.ref fR)) (bW : L2.Binds K fdW ["script", "lap"] []) (bR : L2.Binds K fdR ["well"] [])
    (S : Rt P w K mg base ts a1 a2 a3 a4 a5 a6 a7 a8 a9 b1 b2 b3 d1 d2 d3 d4 d5 d6 d7 d8 d9 e1 e2 e3) (ma : mg "abs" = none) (mx : mg "max" = none) (mn : mg "min" = none) : FnG P w K mg base CX0 15 f fd ["script"] (spLaw K ts) := by
  have GW : FnOk P w K mg base CX0 1 fW fdW ["script", "lap"] (spWell K) := ok_well FW S.N.int S.N.len ma
  have GR : FnG P w K mg base CX0 14 fR fdR ["well"] (spRight ts) := ok_right FR S
  refine okG F (k := 14) scLaw (fun vs H Q E h => ?_) (fun cdv A outer s H vs Q E hgd hr h => ?_)
  · obtain ⟨a, ns, rfl, _⟩ := h
    rfl
  · obtain ⟨a, ns, rfl, hS, hl, tb, q⟩ := h
    refine ⟨_, pss_one (ps_ret (pe_callB (cr_all rfl) (by rfl) S.N.all (by decide +kernel) (pa_cons
      (pe_lc (own := [("lap", 1)]) (g := gName 1) (tt := tYes) rfl scLaw.nd
        (pi_range1 (by rfl) S.N.rng (pa_cons (pe_callB (call_max2 rfl) (by rfl) mx (by decide +kernel) (pa_cons pe_int (pa_cons (pe_callB (call_min2 rfl) (by rfl) mn (by decide +kernel) (pa_cons (pe_callB call_len_seq (by rfl) S.N.len PySem.boot_len (pa_cons (pv 0) pa_nil)) (pa_cons pe_int pa_nil))) pa_nil))) pa_nil))
        (blkOk_by (N := ["script", "lap"]) (sc := defScope sLaw) (by decide +kernel)) (fun _ _ _ _ _ => pg_name (i := 1) scLaw.nd rfl (Or.inl rfl)) (fun _ _ _ _ _ => pts_nil)
        (fun _ _ _ _ _ => pe_callG GR hgd hr (by rfl) gR FR.kp bR (pa_cons (pe_call GW (hr.mono (by decide)) (by rfl) gW FW.kp bW .nil pass0 (pa_cons (pv 0) (pa_cons (pv 1) pa_nil))) pa_nil))) pa_nil))), ?_⟩
    refine ⟨.ref a, rfl, a, ns.map V.int, rfl, .inl hS, _, _, rfl, _, _, rfl, ?_⟩
    rw [List.length_map]
    obtain ⟨c, ec, hc⟩ : ∃ c : Nat, (if (if (3 : Int) < (ns.length : Int) then (3 : Int) else (ns.length : Int)) > 2 then (if (3 : Int) < (ns.length : Int) then (3 : Int) else (ns.length : Int)) else 2) = (c : Int) ∧ c ≤ 3 := by
      refine ⟨_, (Int.toNat_of_nonneg (a := if (if (3 : Int) < (ns.length : Int) then (3 : Int) else (ns.length : Int)) > 2 then (if (3 : Int) < (ns.length : Int) then (3 : Int) else (ns.length : Int)) else 2) ?_).symm, ?_⟩
      · split <;> split <;> omega
      · split <;> split <;> omega
    refine ⟨(c : Int), congrArg (fun z => [V.int z]) ec, by omega, by omega, fun D nD => ?_⟩
    have Dt := new_out tb nD
    refine lc_range (lo := 0) (n := c) (fun i J => J D = some (.lst ((List.replicate i true).map V.bl)) ∧ Ms ts H J) ⟨upd_same, (Ms.rfl' tb).new nD⟩ ?_ ?_
    · rintro i J hi ⟨eJ, mJ⟩
      refine ⟨rfl, tyes ?_⟩
      refine ⟨.ref a, rfl, .int (0 + (i : Int)), rfl, a, ns, i, (by show [V.ref a, V.int (0 + (i : Int))] = [V.ref a, V.int (i : Int)]; rw [Int.zero_add]), sql_ms tb mJ hS, hl, fun p G kG np hW => ?_⟩
      have tG := mJ.2.kp kG
      have pt := new_out mJ.2 np
      refine ⟨p, rfl, hW, pt, tG, fun G2 mw => ?_⟩
      have pD : D ≠ p := fun z => by rw [← z, eJ] at np; cases np
      have eG : G2 D = some (.lst ((List.replicate i true).map V.bl)) := mw.1 _ _ (fun z => z.elim pD Dt) (kG _ _ (fun z => z) eJ)
      have m2 : Ms ts J G2 := ⟨fun b o nb e => mw.1 b o (fun z => z.elim (ne_of_none e np) nb) (kG _ _ (fun z => z) e), mw.2.2⟩
      refine ⟨_, eG, by rw [List.length_map, List.length_replicate, sizeLine_eq]; omega, ?_, Ms.off (mJ.tr m2) tb nD⟩
      rw [upd_same, List.replicate_succ', List.map_append]
      rfl
    · rintro J ⟨eJ, kJ⟩
      refine ⟨D, List.replicate c true, rfl, .inl (.inl eJ), ?_⟩
      have e : (List.replicate c true).all id = true := by simp
      rw [e]
      exact q J
end
end GR

/-! Own layer, part W: the law's own call where defs have tables of code objects and nothing is being shown. -/
namespace KL
open PySem PySem.Spec PyProof.Rows L2
section
variable {P : Program} {w : World} {K : PySem.W.Frag} {mg mb : Str → Option Value} {k : Nat} {fa a : Addr} {cs : List (Addr × Addr)} {fd : FuncData} {x : Str} {sp : Sp} {s : Shared} {vs : List Value} {ns : List Int}
/-- where the tables are, and the script if it is no part of what is written out -/
theorem firstH (K : PySem.W.Frag) (a : Addr) (ps : List Addr) (oA : Obj) (uA : HO) (ha : a ∉ ps) : ∃ H : Hp, (∀ b ∈ ps, H b = some (.tbl #[])) ∧ (K.lookup a = none → H a = some (.frz oA uA)) ∧
    ∀ b u, H b = some u → (b ∈ ps ∧ u = .tbl #[]) ∨ (b = a ∧ K.lookup a = none ∧ u = .frz oA uA) := by
  classical
  refine ⟨fun b => if b ∈ ps then some (.tbl #[]) else if b = a ∧ K.lookup a = none then some (.frz oA uA) else none, fun b hb => if_pos hb, fun h => ?_, fun b u h => ?_⟩
  · show (if a ∈ ps then _ else _) = _
    rw [if_neg ha, if_pos ⟨rfl, h⟩]
  · by_cases h1 : b ∈ ps
    · have h : (if b ∈ ps then some (HO.tbl #[]) else if b = a ∧ K.lookup a = none then some (.frz oA uA) else none) = some u := h
      rw [if_pos h1] at h
      exact .inl ⟨h1, (Option.some.inj h).symm⟩
    · have h : (if b ∈ ps then some (HO.tbl #[]) else if b = a ∧ K.lookup a = none then some (.frz oA uA) else none) = some u := h
      rw [if_neg h1] at h
      by_cases h2 : b = a ∧ K.lookup a = none
      · rw [if_pos h2] at h
        exact .inr ⟨h2.1, h2.2, (Option.some.inj h).symm⟩
      · rw [if_neg h2] at h
        cases h
theorem lawGT (inK : K.In s.heap) (hns : s.heap.Ns mainGlobals mg) (hb : s.heap.Ns builtinsNs mb) (hbb : ∀ y : Str, y ≠ "__name__" → mb y = bootBuiltins y) (lim : s.heap.NoLimit) (hg : s.gens = #[])
    (hT : ∀ p ∈ cs, s.heap.get? p.2 = some { cls := .none, data := .fields #[] }) (nT : ∀ p ∈ cs, K.lookup p.2 = none) (hC : ∀ p ∈ cs, PySem.W.CodeHd s.heap p.1 p.2)
    (hM : ∃ (bm : Addr) (ob : Obj), mg "__builtins__" = some (.ref bm) ∧ bm ≠ builtinsNs ∧ s.heap.get? bm = some ob ∧ ob.cls = .type "module" ∧ ob.dict = some builtinsNs ∧ ob.data = .plain)
    (ha : s.heap.get? a = some { cls := .type "list", data := .seq vs.toArray }) (hi : IntsAre vs ns) (hl : ns.length ≤ sizeLine) (hr : Room k callerA)
    (F : ∀ base : Heap, K.In base → base.Ns mainGlobals mg → (∀ p ∈ cs, GxR.TabB base mg p.1 p.2) → FnG P w K mg base CX0 k fa fd [x] sp) (hbind : ∀ (s : Shared) (u : Value), BindsTo s fd ⟨[u], []⟩ [(x, u)])
    (hsp : ∀ H : Hp, (∀ p ∈ cs, H p.2 = some (.tbl #[])) → SqL K H a (ns.map V.int) → sp [.ref a] H (fun v _ => v = .bl true) E0) :
    codeAny (model P w) callerA (.call (.ref fa) ⟨[.ref a], []⟩) (fun r s' => r = .ok (.ret (.bool true)) ∧ OldK s.heap s'.heap ∧ s'.os = s.os ∧ AllBare s'.gens) s := by
  have rv := vals_ints hi
  have tabs : ∀ b ∈ cs.map (·.2), s.heap.get? b = some { cls := .none, data := .fields #[] } := fun b m => by
    obtain ⟨p, hp, rfl⟩ := List.mem_map.mp m
    exact hT p hp
  have aNo : a ∉ cs.map (·.2) := fun m => by
    have z := tabs a m
    rw [ha] at z
    injection z with z
    injection z with _ _ z _
    cases z
  obtain ⟨H, h1, h2, h3⟩ := firstH K a (cs.map (·.2)) { cls := .type "list", data := .seq vs.toArray } (.lst (ns.map V.int)) aNo
  have inT : ∀ p ∈ cs, p.2 ∈ cs.map (·.2) := fun p hp => List.mem_map.mpr ⟨p, hp, rfl⟩
  have script : SqL K H a (ns.map V.int) := by
    cases hk : K.lookup a with
    | some o =>
      have e := inK a o hk
      rw [ha] at e
      cases e
      exact .inr ⟨_, vs.toArray, _, hk, rfl, rfl, rfl, by rw [List.size_toArray, hi.length]; exact hl, by simpa using rv⟩
    | none => exact .inl (.inr ⟨_, h2 hk⟩)
  have hok : HOk P w H s.heap := fun b u e => by
    rcases h3 b u e with ⟨m, rfl⟩ | ⟨rfl, _, rfl⟩
    · exact tabs b m
    · exact ⟨ha, by rw [List.length_map]; exact hl, vs, _, rv, ha⟩
  -- what is neither a table nor the script is not tracked
  have clear : ∀ {b : Addr} {o : Obj}, s.heap.get? b = some o → (∀ v n, o.data ≠ .seq v n) → o.data ≠ .fields #[] → H b = none := fun {b o} e d1 d2 => by
    cases q : H b with
    | none => rfl
    | some u =>
      rcases h3 b u q with ⟨m, _⟩ | ⟨rfl, _, _⟩
      · rw [tabs b m] at e
        cases e
        exact absurd rfl d2
      · rw [ha] at e
        cases e
        exact absurd rfl (d1 _ _)
  have see : ∀ {b : Addr} {o : Obj}, s.heap.get? b = some o → (∀ v n, o.data ≠ .seq v n) → o.data ≠ .fields #[] → (hidT s.heap H).get? b = some o := fun e d1 d2 => hidT_get e (clear e d1 d2)
  have seeNs : ∀ {b : Addr} {m : Str → Option Value}, s.heap.Ns b m → (hidT s.heap H).Ns b m := fun {b m} ⟨o, es, ep, e, d, rest⟩ => ⟨o, es, ep, see e (fun v n z => by rw [d] at z; cases z) (fun z => by rw [d] at z; cases z), d, rest⟩
  have inB : K.In (hidT s.heap H) := fun b o e => hidT_get (inK b o e) (by
    cases q : H b with
    | none => rfl
    | some u =>
      rcases h3 b u q with ⟨m, _⟩ | ⟨rfl, z, _⟩
      · obtain ⟨p, hp, rfl⟩ := List.mem_map.mp m
        rw [nT p hp] at e
        cases e
      · rw [z] at e
        cases e)
  have M : Mod K mg (hidT s.heap H) := ⟨inB, seeNs hns, ⟨mb, seeNs hb, hbb⟩, let ⟨mc, z1, z2⟩ := lim; ⟨mc, seeNs z1, z2⟩⟩
  have glob : ∀ {b : Addr} {o : Obj}, s.heap.get? b = some o → (∀ es n, o.data ≠ .dict es n) → mainGlobals ≠ b := fun {b o} e d z => by
    obtain ⟨o', es, ep, e', d', _⟩ := hns
    rw [z, e] at e'
    cases e'
    exact d _ _ d'
  have TB : ∀ p ∈ cs, GxR.TabB (hidT s.heap H) mg p.1 p.2 := fun p hp => by
    have t0 := hT p hp
    obtain ⟨bm, ob, m1, m2, m3, m4, m5, m6⟩ := hM
    refine ⟨?_, ⟨bm, ob, m1, m2, (glob m3 fun es n z => by rw [m6] at z; cases z).symm, fun z => ?_, see m3 (fun v n z => by rw [m6] at z; cases z) (fun z => by rw [m6] at z; cases z), m4, m5, m6⟩, glob t0 fun es n z => by cases z⟩
    · obtain ⟨o, us, c1, c2, c3, c4, c5, c6, c7, e1, e2, e3, e4, rest⟩ := hC p hp
      exact ⟨o, us, c1, c2, c3, c4, c5, c6, c7, see e1 (fun v n z => by rw [e3] at z; cases z) (fun z => by rw [e3] at z; injection z with z; rw [z] at e4; simp at e4), e2, e3, e4, rest⟩
    · rw [z, t0] at m3
      cases m3
      cases m6
  have e0 : Env0 P w K mg (hidT s.heap H) callerA [] s H := ⟨rfl, M, fun b o e => of_hidT e, Nat.le_of_eq (hidT_size _ _), trivial, (fun b z => absurd z List.not_mem_nil), hok, .of_eq hg⟩
  have call := (F _ inB (seeNs hns) TB).run callerA [] s H ⟨[.ref a], []⟩ [.ref a] [.ref a] (fun v _ => v = .bl true) E0 rfl hr e0 (hbind s (.ref a)) (.cons rfl .nil) (hsp H (fun p hp => h1 p.2 (inT p hp)) script)
  refine codeAny_mono call fun r s' z => ?_
  cases r with
  | error e => exact False.elim z
  | ok fl =>
  cases fl with
  | next => exact False.elim z
  | brk => exact False.elim z
  | cont => exact False.elim z
  | ret u =>
  obtain ⟨v, G, os, bare, un, ok', rv', q⟩ := z
  obtain rfl : v = .bl true := q
  obtain rfl : u = Value.bool true := rv'
  have grown : ∀ b ∈ cs.map (·.2), ∃ more : Array Value, s'.heap.get? b = some { cls := .none, data := .fields more } := fun b m => by
    obtain ⟨more, z⟩ := un.tbls b #[] (h1 b m)
    exact ⟨_, ok' b _ z⟩
  have kept : ∀ b o, b ∉ cs.map (·.2) → s.heap.get? b = some o → s'.heap.get? b = some o := fun b o nm e => by
    cases q : H b with
    | none => exact un.keep b o e q (fun z => absurd z List.not_mem_nil) List.not_mem_nil
    | some u =>
      rcases h3 b u q with ⟨m, _⟩ | ⟨rfl, _, rfl⟩
      · exact absurd m nm
      · obtain ⟨e2, _⟩ := ok' b _ (un.frzs b _ _ q)
        rw [ha] at e
        rw [e2]
        exact e
  refine ⟨rfl, ⟨fun b o e => ?_, fun b o e => ?_⟩, os, bare⟩
  · by_cases m : b ∈ cs.map (·.2)
    · obtain ⟨more, z⟩ := grown b m
      obtain ⟨p, hp, rfl⟩ := List.mem_map.mp m
      have t0 := hT p hp
      rw [t0] at e
      cases e
      exact .inr (.inl ⟨((hC p hp).tab t0).isCodeTable, rfl, #[], more, rfl, by rw [Array.empty_append]; exact z⟩)
    · exact .inl (kept b o m e)
  · by_cases m : b ∈ cs.map (·.2)
    · obtain ⟨more, z⟩ := grown b m
      exact ⟨_, z⟩
    · exact ⟨o, kept b o m e⟩
end
/-- the table of the def with that name is empty -/
def TabOf (K : PySem.W.Frag) (mg : Str → Option Value) (y : Str) (h : Heap) : Prop := ∀ (f c P : Addr) (o : Obj) (fd : FuncData) (e : Value) (dd : Option Addr) (vs : Array Value) (sl : Array (Option Value)), mg y = some (.ref f) → K.lookup f = some o → o.data = .func fd → fd.code = .ref c →
  K.lookup c = some ⟨e, dd, .fields vs, sl⟩ → vs[11]? = some (.ref P) → h.get? P = some { cls := .none, data := .fields #[] }
/-- what k_head leaves, from the law's def, where defs have tables -/
theorem walkGT {l : PySem.W.OpenLaw} {n k : Nat} {q : Program} {loose : List Str} {XP : (Str → Option Value) → Heap → Prop} {YP : World → Heap → Prop} {d : DefRec} {K : Params → PySem.W.Frag} {x : Str} (hn : l.most = some n) (hn2 : n ≤ sizeLine) (hdf : d.params.defaults = [])
    (hr : Room k callerA) (hY : ∀ (w : World) (h : Heap), YP w h → (K w.params).In h)
    (F : ∀ (w : World) (mg : Str → Option Value) (fa : Addr) (h : Heap), (K w.params).In h → h.Ns mainGlobals mg → mg d.name = some (.ref fa) → (∀ y : Str, ((recsOf q).any fun e => e.name == y) = true → TabOf (K w.params) mg y h) →
      ∃ (fd : FuncData) (cs : List (Addr × Addr)) (sp : Sp), (∀ p ∈ cs, h.get? p.2 = some { cls := .none, data := .fields #[] }) ∧ (∀ p ∈ cs, (K w.params).lookup p.2 = none) ∧ (∀ p ∈ cs, PySem.W.CodeHd h p.1 p.2) ∧ (∀ (s : Shared) (u : Value), BindsTo s fd ⟨[u], []⟩ [(x, u)]) ∧
        (∀ (H : Hp) (a : Addr) (ns : List Int), ns.length ≤ n → (∀ p ∈ cs, H p.2 = some (.tbl #[])) → SqL (K w.params) H a (ns.map V.int) → sp [.ref a] H (fun v _ => v = .bl true) E0) ∧
        ∀ base : Heap, (K w.params).In base → base.Ns mainGlobals mg → (∀ p ∈ cs, GxR.TabB base mg p.1 p.2) → FnG l.prog w (K w.params) mg base CX0 k fa fd [x] sp) :
    PySem.W.WalkO q loose XP YP l.row.toRowW d [] (fun f vs => PySem.call f vs) := by
  refine Att.attach_call hn hdf fun w s₀ s₁ mg mb fa o pm cd doc a vs ns G Y ho hd hcd hmg hobj hints hlen hg => ?_
  have inK := hY w _ Y
  have tab : ∀ y : Str, ((recsOf q).any fun e => e.name == y) = true → TabOf (K w.params) mg y s₁.heap := fun y hy f c P o1 fd1 e dd us sl k1 k2 k3 k4 k5 k6 => by
    obtain ⟨dr, hm, hn'⟩ := List.any_eq_true.mp hy
    obtain ⟨f', o', fd', c', P', j1, j2, j3, j4, _, ⟨⟨oc, vc, i1, _, i3, i4⟩, hP⟩⟩ := G.T.tab dr hm
    rw [beq_iff_eq.mp hn', k1] at j1
    obtain rfl := Value.ref.inj (Option.some.inj j1)
    rw [inK _ _ k2] at j2
    obtain rfl := Option.some.inj j2
    rw [k3] at j3
    obtain rfl := Data.func.inj j3
    rw [k4] at j4
    obtain rfl := Value.ref.inj j4
    rw [inK _ _ k5] at i1
    obtain rfl := Option.some.inj i1
    obtain rfl := Data.fields.inj i3
    rw [k6] at i4
    obtain rfl := Value.ref.inj (Option.some.inj i4)
    exact hP
  obtain ⟨fd, cs, sp, t1, t2, t3, hb, hsp, hF⟩ := F w mg fa _ inK G.T.g hmg tab
  exact lawGT inK G.T.g G.T.b G.T.builtins G.T.nolimit hg t1 t2 t3 G.T.bmain hobj hints (Nat.le_trans hlen hn2) hr hF hb fun H hH hS => hsp H a ns hlen hH hS
end KL

namespace GR
open PySem PySem.Spec PyProof.Rows L2 KL KG KS KV KY
/-! ### what the written part says, by tests -/
def isNo (o : Option (Option Value)) : Bool := match o with
  | some none => true
  | _ => false
theorem isNo_of {o : Option (Option Value)} (h : isNo o = true) : o = some none := by
  unfold isNo at h
  split at h
  · rfl
  · cases h
def freeNames : List Str := ["all", "range", "len", "type", "tuple", "int", "str", "set", "abs", "max", "min", "divmod", "sorted", "list", "isinstance", "bool", "enumerate", "repr"]
def ckNo (K : PySem.W.Frag) : Bool := freeNames.all fun x => isNo (PySem.W.nsIn K mainGlobals x)
theorem no_of {K : PySem.W.Frag} {h : Heap} {mg : Str → Option Value} (X : K.In h) (G : h.Ns mainGlobals mg) (c : ckNo K = true) {x : Str} (hx : x ∈ freeNames) : mg x = none := PySem.W.mg_none_of X G (isNo_of (List.all_eq_true.mp c x hx))
def isStrV (v : Value) : Bool := match v with
  | .str _ _ => true
  | _ => false
def isIntV (v : Value) : Bool := match v with
  | .int _ _ => true
  | _ => false
def isBoolV (v : Value) : Bool := match v with
  | .bool _ => true
  | _ => false
def isRefV (v : Value) (p : Addr) : Bool := match v with
  | .ref q => q == p
  | _ => false
def isCodeV (v : Value) : Bool := match v with
  | .type t => t == "code"
  | _ => false
def ckCode (e : Value) (vs : Array Value) (c p : Addr) : Bool := isCodeV e && (isRefV (vs.getD 11 .none) p && (isStrV (vs.getD 18 .none) && (isIntV (vs.getD 7 .none) && (isBoolV (vs.getD 9 .none) && (isIntV (vs.getD 10 .none) && !Nat.beq c p)))))
theorem code_hd {K : PySem.W.Frag} {h : Heap} {c p : Addr} {e : Value} {d : Option Addr} {vs : Array Value} {sl : Array (Option Value)} (X : K.In h) (l : K.lookup c = some ⟨e, d, .fields vs, sl⟩) (g : vs[11]? = some (.ref p)) (z : ckCode e vs c p = true) : PySem.W.CodeHd h c p := by
  unfold ckCode at z
  simp only [Bool.and_eq_true] at z
  obtain ⟨z1, z2, z3, z4, z5, z6, z7⟩ := z
  have e1 : e = .type "code" := by
    unfold isCodeV at z1
    split at z1
    · rw [beq_iff_eq.mp z1]
    · cases z1
  have e2 : vs.getD 11 .none = .ref p := by
    unfold isRefV at z2
    split at z2
    · rename_i q he
      rw [he, beq_iff_eq.mp z2]
    · cases z2
  have e3 : ∃ a t, vs.getD 18 .none = .str a t := by
    unfold isStrV at z3
    split at z3
    · rename_i a t he
      exact ⟨a, t, he⟩
    · cases z3
  have e4 : ∃ a t, vs.getD 7 .none = .int a t := by
    unfold isIntV at z4
    split at z4
    · rename_i a t he
      exact ⟨a, t, he⟩
    · cases z4
  have e5 : ∃ b, vs.getD 9 .none = .bool b := by
    unfold isBoolV at z5
    split at z5
    · rename_i b he
      exact ⟨b, he⟩
    · cases z5
  have e6 : ∃ a t, vs.getD 10 .none = .int a t := by
    unfold isIntV at z6
    split at z6
    · rename_i a t he
      exact ⟨a, t, he⟩
    · cases z6
  have e7 : c ≠ p := fun q => by
    have z7 : (!Nat.beq c p) = true := z7
    rw [q] at z7
    have y : Nat.beq p p = true := Nat.beq_refl p
    rw [y] at z7
    cases z7
  obtain ⟨a3, t3, e3⟩ := e3
  obtain ⟨a4, t4, e4⟩ := e4
  obtain ⟨b5, e5⟩ := e5
  obtain ⟨a6, t6, e6⟩ := e6
  exact ⟨_, vs, a3, t3, a4, t4, b5, a6, t6, X _ _ l, e1, rfl, g, e2, e3, e4, e5, e6, e7⟩
theorem all_mk {P : Program} {w : World} {K : PySem.W.Frag} {h : Heap} {mg : Str → Option Value} (X : K.In h) (G : h.Ns mainGlobals mg)
    {fa : Addr} {w0 w1 w2 w3 w4 w5 w6 w7 w8 w9 w10 w11 w12 w13 w14 w15 w16 w17 w18 w19 w20 w21 w22 w23 w24 w25 w26 u0 c0 p0 u1 c1 p1 u2 c2 p2 u3 c3 p3 u4 c4 p4 u5 c5 p5 u6 c6 p6 u7 c7 p7 aw : Addr}
    {ocw0 kVw0 dcw0 pmw0 cdw0 ctw0 : Value} {odw0 anw0 : Option Addr} {slw0 : Array (Option Value)}
    {ocw1 kVw1 dcw1 pmw1 cdw1 ctw1 : Value} {odw1 anw1 : Option Addr} {slw1 : Array (Option Value)}
    {ocw2 kVw2 dcw2 pmw2 cdw2 ctw2 : Value} {odw2 anw2 : Option Addr} {slw2 : Array (Option Value)}
    {ocw3 kVw3 dcw3 pmw3 cdw3 ctw3 : Value} {odw3 anw3 : Option Addr} {slw3 : Array (Option Value)}
    {ocw4 kVw4 dcw4 pmw4 cdw4 ctw4 : Value} {odw4 anw4 : Option Addr} {slw4 : Array (Option Value)}
    {ocw5 kVw5 dcw5 pmw5 cdw5 ctw5 : Value} {odw5 anw5 : Option Addr} {slw5 : Array (Option Value)}
    {ocw6 kVw6 dcw6 pmw6 cdw6 ctw6 : Value} {odw6 anw6 : Option Addr} {slw6 : Array (Option Value)}
    {ocw7 kVw7 dcw7 pmw7 cdw7 ctw7 : Value} {odw7 anw7 : Option Addr} {slw7 : Array (Option Value)}
    {ocw8 kVw8 dcw8 pmw8 cdw8 ctw8 : Value} {odw8 anw8 : Option Addr} {slw8 : Array (Option Value)}
    {ocw9 kVw9 dcw9 pmw9 cdw9 ctw9 : Value} {odw9 anw9 : Option Addr} {slw9 : Array (Option Value)}
    {ocw10 kVw10 dcw10 pmw10 cdw10 ctw10 : Value} {odw10 anw10 : Option Addr} {slw10 : Array (Option Value)}
    {ocw11 kVw11 dcw11 pmw11 cdw11 ctw11 : Value} {odw11 anw11 : Option Addr} {slw11 : Array (Option Value)}
    {ocw12 kVw12 dcw12 pmw12 cdw12 ctw12 : Value} {odw12 anw12 : Option Addr} {slw12 : Array (Option Value)}
    {ocw13 kVw13 dcw13 pmw13 cdw13 ctw13 : Value} {odw13 anw13 : Option Addr} {slw13 : Array (Option Value)}
    {ocw14 kVw14 dcw14 pmw14 cdw14 ctw14 : Value} {odw14 anw14 : Option Addr} {slw14 : Array (Option Value)}
    {ocw15 kVw15 dcw15 pmw15 cdw15 ctw15 : Value} {odw15 anw15 : Option Addr} {slw15 : Array (Option Value)}
    {ocw16 kVw16 dcw16 pmw16 cdw16 ctw16 : Value} {odw16 anw16 : Option Addr} {slw16 : Array (Option Value)}
    {ocw17 kVw17 dcw17 pmw17 cdw17 ctw17 : Value} {odw17 anw17 : Option Addr} {slw17 : Array (Option Value)}
    {ocw18 kVw18 dcw18 pmw18 cdw18 ctw18 : Value} {odw18 anw18 : Option Addr} {slw18 : Array (Option Value)}
    {ocw19 kVw19 dcw19 pmw19 cdw19 ctw19 : Value} {odw19 anw19 : Option Addr} {slw19 : Array (Option Value)}
    {ocw20 kVw20 dcw20 pmw20 cdw20 ctw20 : Value} {odw20 anw20 : Option Addr} {slw20 : Array (Option Value)}
    {ocw21 kVw21 dcw21 pmw21 cdw21 ctw21 : Value} {odw21 anw21 : Option Addr} {slw21 : Array (Option Value)}
    {ocw22 kVw22 dcw22 pmw22 cdw22 ctw22 : Value} {odw22 anw22 : Option Addr} {slw22 : Array (Option Value)}
    {ocw23 kVw23 dcw23 pmw23 cdw23 ctw23 : Value} {odw23 anw23 : Option Addr} {slw23 : Array (Option Value)}
    {ocw24 kVw24 dcw24 pmw24 cdw24 ctw24 : Value} {odw24 anw24 : Option Addr} {slw24 : Array (Option Value)}
    {ocw25 kVw25 dcw25 pmw25 cdw25 ctw25 : Value} {odw25 anw25 : Option Addr} {slw25 : Array (Option Value)}
    {ocw26 kVw26 dcw26 pmw26 cdw26 ctw26 : Value} {odw26 anw26 : Option Addr} {slw26 : Array (Option Value)}
    {ocu0 kVu0 dcu0 pmu0 ctu0 ecu0 : Value} {odu0 anu0 ddu0 : Option Addr} {slu0 scu0 : Array (Option Value)} {vu0 : Array Value}
    {ocu1 kVu1 dcu1 pmu1 ctu1 ecu1 : Value} {odu1 anu1 ddu1 : Option Addr} {slu1 scu1 : Array (Option Value)} {vu1 : Array Value}
    {ocu2 kVu2 dcu2 pmu2 ctu2 ecu2 : Value} {odu2 anu2 ddu2 : Option Addr} {slu2 scu2 : Array (Option Value)} {vu2 : Array Value}
    {ocu3 kVu3 dcu3 pmu3 ctu3 ecu3 : Value} {odu3 anu3 ddu3 : Option Addr} {slu3 scu3 : Array (Option Value)} {vu3 : Array Value}
    {ocu4 kVu4 dcu4 pmu4 ctu4 ecu4 : Value} {odu4 anu4 ddu4 : Option Addr} {slu4 scu4 : Array (Option Value)} {vu4 : Array Value}
    {ocu5 kVu5 dcu5 pmu5 ctu5 ecu5 : Value} {odu5 anu5 ddu5 : Option Addr} {slu5 scu5 : Array (Option Value)} {vu5 : Array Value}
    {ocu6 kVu6 dcu6 pmu6 ctu6 ecu6 : Value} {odu6 anu6 ddu6 : Option Addr} {slu6 scu6 : Array (Option Value)} {vu6 : Array Value}
    {ocu7 kVu7 dcu7 pmu7 ctu7 ecu7 : Value} {odu7 anu7 ddu7 : Option Addr} {slu7 scu7 : Array (Option Value)} {vu7 : Array Value}
    {tl tf : Nat} {tsg tvr thd : Nat} {t0 t1 t2 t3 t4 t5 t6 t7 t8 : Nat} {nwd : Nat} {dwd : Option Addr} {swd : Array (Option Value)}
    (hfa : mg "law" = some (.ref fa))
    (gw0 : PySem.W.nsIn K mainGlobals "_law_well" = some (some (.ref w0)))
    (lw0 : K.lookup w0 = some ⟨ocw0, odw0, .func (PySem.W.fnOf "_law_well" "_law_well" (defArgs sWell) (defBody sWell) (defScope sWell) .none kVw0 dcw0 pmw0 anw0 cdw0 ctw0), slw0⟩)
    (cw0 : PySem.W.codeIn K cdw0 "_law_well" = true)
    (kw0 : PySem.W.keepIn K (.ref w0) = true)
    (gw1 : PySem.W.nsIn K mainGlobals "_law_draw" = some (some (.ref w1)))
    (lw1 : K.lookup w1 = some ⟨ocw1, odw1, .func (PySem.W.fnOf "_law_draw" "_law_draw" (defArgs sDraw) (defBody sDraw) (defScope sDraw) .none kVw1 dcw1 pmw1 anw1 cdw1 ctw1), slw1⟩)
    (cw1 : PySem.W.codeIn K cdw1 "_law_draw" = true)
    (kw1 : PySem.W.keepIn K (.ref w1) = true)
    (gw2 : PySem.W.nsIn K mainGlobals "_law_one" = some (some (.ref w2)))
    (lw2 : K.lookup w2 = some ⟨ocw2, odw2, .func (PySem.W.fnOf "_law_one" "_law_one" (defArgs sOne) (defBody sOne) (defScope sOne) .none kVw2 dcw2 pmw2 anw2 cdw2 ctw2), slw2⟩)
    (cw2 : PySem.W.codeIn K cdw2 "_law_one" = true)
    (kw2 : PySem.W.keepIn K (.ref w2) = true)
    (gw3 : PySem.W.nsIn K mainGlobals "_law_dealt" = some (some (.ref w3)))
    (lw3 : K.lookup w3 = some ⟨ocw3, odw3, .func (PySem.W.fnOf "_law_dealt" "_law_dealt" (defArgs sDealt) (defBody sDealt) (defScope sDealt) .none kVw3 dcw3 pmw3 anw3 cdw3 ctw3), slw3⟩)
    (cw3 : PySem.W.codeIn K cdw3 "_law_dealt" = true)
    (kw3 : PySem.W.keepIn K (.ref w3) = true)
    (gw4 : PySem.W.nsIn K mainGlobals "_law_is_whole" = some (some (.ref w4)))
    (lw4 : K.lookup w4 = some ⟨ocw4, odw4, .func (PySem.W.fnOf "_law_is_whole" "_law_is_whole" (defArgs sWhole) (defBody sWhole) (defScope sWhole) .none kVw4 dcw4 pmw4 anw4 cdw4 ctw4), slw4⟩)
    (cw4 : PySem.W.codeIn K cdw4 "_law_is_whole" = true)
    (kw4 : PySem.W.keepIn K (.ref w4) = true)
    (gw5 : PySem.W.nsIn K mainGlobals "_law_is_tuple" = some (some (.ref w5)))
    (lw5 : K.lookup w5 = some ⟨ocw5, odw5, .func (PySem.W.fnOf "_law_is_tuple" "_law_is_tuple" (defArgs sTup) (defBody sTup) (defScope sTup) .none kVw5 dcw5 pmw5 anw5 cdw5 ctw5), slw5⟩)
    (cw5 : PySem.W.codeIn K cdw5 "_law_is_tuple" = true)
    (kw5 : PySem.W.keepIn K (.ref w5) = true)
    (gw6 : PySem.W.nsIn K mainGlobals "_law_odd" = some (some (.ref w6)))
    (lw6 : K.lookup w6 = some ⟨ocw6, odw6, .func (PySem.W.fnOf "_law_odd" "_law_odd" (defArgs sOdd) (defBody sOdd) (defScope sOdd) .none kVw6 dcw6 pmw6 anw6 cdw6 ctw6), slw6⟩)
    (cw6 : PySem.W.codeIn K cdw6 "_law_odd" = true)
    (kw6 : PySem.W.keepIn K (.ref w6) = true)
    (gw7 : PySem.W.nsIn K mainGlobals "_law_bent" = some (some (.ref w7)))
    (lw7 : K.lookup w7 = some ⟨ocw7, odw7, .func (PySem.W.fnOf "_law_bent" "_law_bent" (defArgs sBent) (defBody sBent) (defScope sBent) .none kVw7 dcw7 pmw7 anw7 cdw7 ctw7), slw7⟩)
    (cw7 : PySem.W.codeIn K cdw7 "_law_bent" = true)
    (kw7 : PySem.W.keepIn K (.ref w7) = true)
    (gw8 : PySem.W.nsIn K mainGlobals "_law_name" = some (some (.ref w8)))
    (lw8 : K.lookup w8 = some ⟨ocw8, odw8, .func (PySem.W.fnOf "_law_name" "_law_name" (defArgs sNam) (defBody sNam) (defScope sNam) .none kVw8 dcw8 pmw8 anw8 cdw8 ctw8), slw8⟩)
    (cw8 : PySem.W.codeIn K cdw8 "_law_name" = true)
    (kw8 : PySem.W.keepIn K (.ref w8) = true)
    (gw9 : PySem.W.nsIn K mainGlobals "_law_names" = some (some (.ref w9)))
    (lw9 : K.lookup w9 = some ⟨ocw9, odw9, .func (PySem.W.fnOf "_law_names" "_law_names" (defArgs sNams) (defBody sNams) (defScope sNams) .none kVw9 dcw9 pmw9 anw9 cdw9 ctw9), slw9⟩)
    (cw9 : PySem.W.codeIn K cdw9 "_law_names" = true)
    (kw9 : PySem.W.keepIn K (.ref w9) = true)
    (gw10 : PySem.W.nsIn K mainGlobals "_law_lot" = some (some (.ref w10)))
    (lw10 : K.lookup w10 = some ⟨ocw10, odw10, .func (PySem.W.fnOf "_law_lot" "_law_lot" (defArgs sLLot) (defBody sLLot) (defScope sLLot) .none kVw10 dcw10 pmw10 anw10 cdw10 ctw10), slw10⟩)
    (cw10 : PySem.W.codeIn K cdw10 "_law_lot" = true)
    (kw10 : PySem.W.keepIn K (.ref w10) = true)
    (gw11 : PySem.W.nsIn K mainGlobals "_law_graph" = some (some (.ref w11)))
    (lw11 : K.lookup w11 = some ⟨ocw11, odw11, .func (PySem.W.fnOf "_law_graph" "_law_graph" (defArgs sGr) (defBody sGr) (defScope sGr) .none kVw11 dcw11 pmw11 anw11 cdw11 ctw11), slw11⟩)
    (cw11 : PySem.W.codeIn K cdw11 "_law_graph" = true)
    (kw11 : PySem.W.keepIn K (.ref w11) = true)
    (gw12 : PySem.W.nsIn K mainGlobals "_law_is_lot" = some (some (.ref w12)))
    (lw12 : K.lookup w12 = some ⟨ocw12, odw12, .func (PySem.W.fnOf "_law_is_lot" "_law_is_lot" (defArgs sIsLot) (defBody sIsLot) (defScope sIsLot) .none kVw12 dcw12 pmw12 anw12 cdw12 ctw12), slw12⟩)
    (cw12 : PySem.W.codeIn K cdw12 "_law_is_lot" = true)
    (kw12 : PySem.W.keepIn K (.ref w12) = true)
    (gw13 : PySem.W.nsIn K mainGlobals "_law_is_name" = some (some (.ref w13)))
    (lw13 : K.lookup w13 = some ⟨ocw13, odw13, .func (PySem.W.fnOf "_law_is_name" "_law_is_name" (defArgs sIsName) (defBody sIsName) (defScope sIsName) .none kVw13 dcw13 pmw13 anw13 cdw13 ctw13), slw13⟩)
    (cw13 : PySem.W.codeIn K cdw13 "_law_is_name" = true)
    (kw13 : PySem.W.keepIn K (.ref w13) = true)
    (gw14 : PySem.W.nsIn K mainGlobals "_law_is_graph" = some (some (.ref w14)))
    (lw14 : K.lookup w14 = some ⟨ocw14, odw14, .func (PySem.W.fnOf "_law_is_graph" "_law_is_graph" (defArgs sIsGraph) (defBody sIsGraph) (defScope sIsGraph) .none kVw14 dcw14 pmw14 anw14 cdw14 ctw14), slw14⟩)
    (cw14 : PySem.W.codeIn K cdw14 "_law_is_graph" = true)
    (kw14 : PySem.W.keepIn K (.ref w14) = true)
    (gw15 : PySem.W.nsIn K mainGlobals "_law_parents" = some (some (.ref w15)))
    (lw15 : K.lookup w15 = some ⟨ocw15, odw15, .func (PySem.W.fnOf "_law_parents" "_law_parents" (defArgs sLPar) (defBody sLPar) (defScope sLPar) .none kVw15 dcw15 pmw15 anw15 cdw15 ctw15), slw15⟩)
    (cw15 : PySem.W.codeIn K cdw15 "_law_parents" = true)
    (kw15 : PySem.W.keepIn K (.ref w15) = true)
    (gw16 : PySem.W.nsIn K mainGlobals "_law_full" = some (some (.ref w16)))
    (lw16 : K.lookup w16 = some ⟨ocw16, odw16, .func (PySem.W.fnOf "_law_full" "_law_full" (defArgs sFull) (defBody sFull) (defScope sFull) .none kVw16 dcw16 pmw16 anw16 cdw16 ctw16), slw16⟩)
    (cw16 : PySem.W.codeIn K cdw16 "_law_full" = true)
    (kw16 : PySem.W.keepIn K (.ref w16) = true)
    (gw17 : PySem.W.nsIn K mainGlobals "_law_near" = some (some (.ref w17)))
    (lw17 : K.lookup w17 = some ⟨ocw17, odw17, .func (PySem.W.fnOf "_law_near" "_law_near" (defArgs sNear) (defBody sNear) (defScope sNear) .none kVw17 dcw17 pmw17 anw17 cdw17 ctw17), slw17⟩)
    (cw17 : PySem.W.codeIn K cdw17 "_law_near" = true)
    (kw17 : PySem.W.keepIn K (.ref w17) = true)
    (gw18 : PySem.W.nsIn K mainGlobals "_law_is_asked_right" = some (some (.ref w18)))
    (lw18 : K.lookup w18 = some ⟨ocw18, odw18, .func (PySem.W.fnOf "_law_is_asked_right" "_law_is_asked_right" (defArgs sAsk) (defBody sAsk) (defScope sAsk) .none kVw18 dcw18 pmw18 anw18 cdw18 ctw18), slw18⟩)
    (cw18 : PySem.W.codeIn K cdw18 "_law_is_asked_right" = true)
    (kw18 : PySem.W.keepIn K (.ref w18) = true)
    (gw19 : PySem.W.nsIn K mainGlobals "_law_right" = some (some (.ref w19)))
    (lw19 : K.lookup w19 = some ⟨ocw19, odw19, .func (PySem.W.fnOf "_law_right" "_law_right" (defArgs sRight) (defBody sRight) (defScope sRight) .none kVw19 dcw19 pmw19 anw19 cdw19 ctw19), slw19⟩)
    (cw19 : PySem.W.codeIn K cdw19 "_law_right" = true)
    (kw19 : PySem.W.keepIn K (.ref w19) = true)
    (gw20 : PySem.W.nsIn K mainGlobals "law" = some (some (.ref w20)))
    (lw20 : K.lookup w20 = some ⟨ocw20, odw20, .func (PySem.W.fnOf "law" "law" (defArgs sLaw) (defBody sLaw) (defScope sLaw) .none kVw20 dcw20 pmw20 anw20 cdw20 ctw20), slw20⟩)
    (cw20 : PySem.W.codeIn K cdw20 "law" = true)
    (kw20 : PySem.W.keepIn K (.ref w20) = true)
    (gw21 : PySem.W.nsIn K mainGlobals "ascends" = some (some (.ref w21)))
    (lw21 : K.lookup w21 = some ⟨ocw21, odw21, .func (PySem.W.fnOf "ascends" "ascends" (defArgs sAsc) (defBody sAsc) (defScope sAsc) .none kVw21 dcw21 pmw21 anw21 cdw21 ctw21), slw21⟩)
    (cw21 : PySem.W.codeIn K cdw21 "ascends" = true)
    (kw21 : PySem.W.keepIn K (.ref w21) = true)
    (gw22 : PySem.W.nsIn K mainGlobals "is_graph" = some (some (.ref w22)))
    (lw22 : K.lookup w22 = some ⟨ocw22, odw22, .func (PySem.W.fnOf "is_graph" "is_graph" (defArgs sGraph) (defBody sGraph) (defScope sGraph) .none kVw22 dcw22 pmw22 anw22 cdw22 ctw22), slw22⟩)
    (cw22 : PySem.W.codeIn K cdw22 "is_graph" = true)
    (kw22 : PySem.W.keepIn K (.ref w22) = true)
    (gw23 : PySem.W.nsIn K mainGlobals "need_graph" = some (some (.ref w23)))
    (lw23 : K.lookup w23 = some ⟨ocw23, odw23, .func (PySem.W.fnOf "need_graph" "need_graph" (defArgs sNeed) (defBody sNeed) (defScope sNeed) .none kVw23 dcw23 pmw23 anw23 cdw23 ctw23), slw23⟩)
    (cw23 : PySem.W.codeIn K cdw23 "need_graph" = true)
    (kw23 : PySem.W.keepIn K (.ref w23) = true)
    (gw24 : PySem.W.nsIn K mainGlobals "index_of" = some (some (.ref w24)))
    (lw24 : K.lookup w24 = some ⟨ocw24, odw24, .func (PySem.W.fnOf "index_of" "index_of" (defArgs sIdx) (defBody sIdx) (defScope sIdx) .none kVw24 dcw24 pmw24 anw24 cdw24 ctw24), slw24⟩)
    (cw24 : PySem.W.codeIn K cdw24 "index_of" = true)
    (kw24 : PySem.W.keepIn K (.ref w24) = true)
    (gw25 : PySem.W.nsIn K mainGlobals "is_lot_of" = some (some (.ref w25)))
    (lw25 : K.lookup w25 = some ⟨ocw25, odw25, .func (PySem.W.fnOf "is_lot_of" "is_lot_of" (defArgs sLotOf) (defBody sLotOf) (defScope sLotOf) .none kVw25 dcw25 pmw25 anw25 cdw25 ctw25), slw25⟩)
    (cw25 : PySem.W.codeIn K cdw25 "is_lot_of" = true)
    (kw25 : PySem.W.keepIn K (.ref w25) = true)
    (gw26 : PySem.W.nsIn K mainGlobals "parents" = some (some (.ref w26)))
    (lw26 : K.lookup w26 = some ⟨ocw26, odw26, .func (PySem.W.fnOf "parents" "parents" (defArgs sPar) (defBody sPar) (defScope sPar) .none kVw26 dcw26 pmw26 anw26 cdw26 ctw26), slw26⟩)
    (cw26 : PySem.W.codeIn K cdw26 "parents" = true)
    (kw26 : PySem.W.keepIn K (.ref w26) = true)
    (gu0 : PySem.W.nsIn K mainGlobals "is_lot" = some (some (.ref u0)))
    (lu0 : K.lookup u0 = some ⟨ocu0, odu0, .func (PySem.W.fnOf "is_lot" "is_lot" (defArgs sLot) (defBody sLot) (defScope sLot) .none kVu0 dcu0 pmu0 anu0 (.ref c0) ctu0), slu0⟩)
    (cu0 : PySem.W.codeIn K (.ref c0) "is_lot" = true)
    (ku0 : PySem.W.keepIn K (.ref u0) = true)
    (xu0 : K.lookup c0 = some ⟨ecu0, ddu0, .fields vu0, scu0⟩)
    (pu0 : vu0[11]? = some (.ref p0))
    (zu0 : ckCode ecu0 vu0 c0 p0 = true)
    (nu0 : (K.lookup p0).isNone = true)
    (gu1 : PySem.W.nsIn K mainGlobals "is_name" = some (some (.ref u1)))
    (lu1 : K.lookup u1 = some ⟨ocu1, odu1, .func (PySem.W.fnOf "is_name" "is_name" (defArgs sName) (defBody sName) (defScope sName) .none kVu1 dcu1 pmu1 anu1 (.ref c1) ctu1), slu1⟩)
    (cu1 : PySem.W.codeIn K (.ref c1) "is_name" = true)
    (ku1 : PySem.W.keepIn K (.ref u1) = true)
    (xu1 : K.lookup c1 = some ⟨ecu1, ddu1, .fields vu1, scu1⟩)
    (pu1 : vu1[11]? = some (.ref p1))
    (zu1 : ckCode ecu1 vu1 c1 p1 = true)
    (nu1 : (K.lookup p1).isNone = true)
    (gu2 : PySem.W.nsIn K mainGlobals "are_names" = some (some (.ref u2)))
    (lu2 : K.lookup u2 = some ⟨ocu2, odu2, .func (PySem.W.fnOf "are_names" "are_names" (defArgs sNames) (defBody sNames) (defScope sNames) .none kVu2 dcu2 pmu2 anu2 (.ref c2) ctu2), slu2⟩)
    (cu2 : PySem.W.codeIn K (.ref c2) "are_names" = true)
    (ku2 : PySem.W.keepIn K (.ref u2) = true)
    (xu2 : K.lookup c2 = some ⟨ecu2, ddu2, .fields vu2, scu2⟩)
    (pu2 : vu2[11]? = some (.ref p2))
    (zu2 : ckCode ecu2 vu2 c2 p2 = true)
    (nu2 : (K.lookup p2).isNone = true)
    (gu3 : PySem.W.nsIn K mainGlobals "are_arrows" = some (some (.ref u3)))
    (lu3 : K.lookup u3 = some ⟨ocu3, odu3, .func (PySem.W.fnOf "are_arrows" "are_arrows" (defArgs sArr) (defBody sArr) (defScope sArr) .none kVu3 dcu3 pmu3 anu3 (.ref c3) ctu3), slu3⟩)
    (cu3 : PySem.W.codeIn K (.ref c3) "are_arrows" = true)
    (ku3 : PySem.W.keepIn K (.ref u3) = true)
    (xu3 : K.lookup c3 = some ⟨ecu3, ddu3, .fields vu3, scu3⟩)
    (pu3 : vu3[11]? = some (.ref p3))
    (zu3 : ckCode ecu3 vu3 c3 p3 = true)
    (nu3 : (K.lookup p3).isNone = true)
    (gu4 : PySem.W.nsIn K mainGlobals "are_hidden_lots" = some (some (.ref u4)))
    (lu4 : K.lookup u4 = some ⟨ocu4, odu4, .func (PySem.W.fnOf "are_hidden_lots" "are_hidden_lots" (defArgs sHid) (defBody sHid) (defScope sHid) .none kVu4 dcu4 pmu4 anu4 (.ref c4) ctu4), slu4⟩)
    (cu4 : PySem.W.codeIn K (.ref c4) "are_hidden_lots" = true)
    (ku4 : PySem.W.keepIn K (.ref u4) = true)
    (xu4 : K.lookup c4 = some ⟨ecu4, ddu4, .fields vu4, scu4⟩)
    (pu4 : vu4[11]? = some (.ref p4))
    (zu4 : ckCode ecu4 vu4 c4 p4 = true)
    (nu4 : (K.lookup p4).isNone = true)
    (gu5 : PySem.W.nsIn K mainGlobals "children" = some (some (.ref u5)))
    (lu5 : K.lookup u5 = some ⟨ocu5, odu5, .func (PySem.W.fnOf "children" "children" (defArgs sChi) (defBody sChi) (defScope sChi) .none kVu5 dcu5 pmu5 anu5 (.ref c5) ctu5), slu5⟩)
    (cu5 : PySem.W.codeIn K (.ref c5) "children" = true)
    (ku5 : PySem.W.keepIn K (.ref u5) = true)
    (xu5 : K.lookup c5 = some ⟨ecu5, ddu5, .fields vu5, scu5⟩)
    (pu5 : vu5[11]? = some (.ref p5))
    (zu5 : ckCode ecu5 vu5 c5 p5 = true)
    (nu5 : (K.lookup p5).isNone = true)
    (gu6 : PySem.W.nsIn K mainGlobals "parents_at" = some (some (.ref u6)))
    (lu6 : K.lookup u6 = some ⟨ocu6, odu6, .func (PySem.W.fnOf "parents_at" "parents_at" (defArgs sParAt) (defBody sParAt) (defScope sParAt) .none kVu6 dcu6 pmu6 anu6 (.ref c6) ctu6), slu6⟩)
    (cu6 : PySem.W.codeIn K (.ref c6) "parents_at" = true)
    (ku6 : PySem.W.keepIn K (.ref u6) = true)
    (xu6 : K.lookup c6 = some ⟨ecu6, ddu6, .fields vu6, scu6⟩)
    (pu6 : vu6[11]? = some (.ref p6))
    (zu6 : ckCode ecu6 vu6 c6 p6 = true)
    (nu6 : (K.lookup p6).isNone = true)
    (gu7 : PySem.W.nsIn K mainGlobals "hidden_lots" = some (some (.ref u7)))
    (lu7 : K.lookup u7 = some ⟨ocu7, odu7, .func (PySem.W.fnOf "hidden_lots" "hidden_lots" (defArgs sHidL) (defBody sHidL) (defScope sHidL) .none kVu7 dcu7 pmu7 anu7 (.ref c7) ctu7), slu7⟩)
    (cu7 : PySem.W.codeIn K (.ref c7) "hidden_lots" = true)
    (ku7 : PySem.W.keepIn K (.ref u7) = true)
    (xu7 : K.lookup c7 = some ⟨ecu7, ddu7, .fields vu7, scu7⟩)
    (pu7 : vu7[11]? = some (.ref p7))
    (zu7 : ckCode ecu7 vu7 c7 p7 = true)
    (nu7 : (K.lookup p7).isNone = true)
    (gl : PySem.W.nsIn K mainGlobals "LETTERS" = some (some (.str lettersS tl)))
    (gf : PySem.W.nsIn K mainGlobals "FIGURES" = some (some (.str figuresS tf)))
    (gd : PySem.W.nsIn K mainGlobals "WORDS" = some (some (.ref aw)))
    (gsg : PySem.W.nsIn K mainGlobals "MOST_SIGNS" = some (some (.int 8 tsg)))
    (gvr : PySem.W.nsIn K mainGlobals "MOST_VARIABLES" = some (some (.int 8 tvr)))
    (ghd : PySem.W.nsIn K mainGlobals "MOST_HIDDEN_LOTS" = some (some (.int 28 thd)))
    (lwd : K.lookup aw = some ⟨.type "tuple", dwd, .seq #[.str "names" t0, .str "arrows" t1, .str "hidden" t2, .str "sizes" t3, .str "lot" t4, .str "table" t5, .str "told" t6, .str "sum" t7, .str "on" t8] nwd, swd⟩)
    (zN : ckNo K = true)
    (tb0 : TabOf K mg "is_lot" h)
    (tb1 : TabOf K mg "is_name" h)
    (tb2 : TabOf K mg "are_names" h)
    (tb3 : TabOf K mg "are_arrows" h)
    (tb4 : TabOf K mg "are_hidden_lots" h)
    (tb5 : TabOf K mg "children" h)
    (tb6 : TabOf K mg "parents_at" h)
    (tb7 : TabOf K mg "hidden_lots" h)
    : ∃ (fd : FuncData) (cs : List (Addr × Addr)) (sp : Sp), (∀ p ∈ cs, h.get? p.2 = some { cls := .none, data := .fields #[] }) ∧ (∀ p ∈ cs, K.lookup p.2 = none) ∧ (∀ p ∈ cs, PySem.W.CodeHd h p.1 p.2) ∧ (∀ (s : Shared) (u : Value), BindsTo s fd ⟨[u], []⟩ [("script", u)]) ∧
        (∀ (H : Hp) (a : Addr) (ns : List Int), ns.length ≤ 63 → (∀ p ∈ cs, H p.2 = some (.tbl #[])) → SqL K H a (ns.map V.int) → sp [.ref a] H (fun v _ => v = .bl true) E0) ∧
        ∀ base : Heap, K.In base → base.Ns mainGlobals mg → (∀ p ∈ cs, GxR.TabB base mg p.1 p.2) → FnG P w K mg base CX0 15 fa fd ["script"] sp := by
  have e := hfa.symm.trans (PySem.W.mg_of X G gw20)
  cases e
  have no : ∀ {x : Str}, x ∈ freeNames → mg x = none := fun hx => no_of X G zN hx
  have F0 := fun_mk (st := sWell) lw0 cw0 kw0
  have b0 := F0.binds (ps := ["script", "lap"]) fun _ _ _ _ _ _ us hl => match us, hl with | [_, _], _ => rfl
  have m0 := PySem.W.mg_of X G gw0
  have F1 := fun_mk (st := sDraw) lw1 cw1 kw1
  have b1 := F1.binds (ps := ["well", "few"]) fun _ _ _ _ _ _ us hl => match us, hl with | [_, _], _ => rfl
  have m1 := PySem.W.mg_of X G gw1
  have F2 := fun_mk (st := sOne) lw2 cw2 kw2
  have b2 := F2.binds (ps := ["well", "some"]) fun _ _ _ _ _ _ us hl => match us, hl with | [_, _], _ => rfl
  have m2 := PySem.W.mg_of X G gw2
  have F3 := fun_mk (st := sDealt) lw3 cw3 kw3
  have b3 := F3.binds (ps := ["well", "few"]) fun _ _ _ _ _ _ us hl => match us, hl with | [_, _], _ => rfl
  have m3 := PySem.W.mg_of X G gw3
  have F4 := fun_mk (st := sWhole) lw4 cw4 kw4
  have b4 := F4.binds (ps := ["thing"]) fun _ _ _ _ _ _ us hl => match us, hl with | [_], _ => rfl
  have m4 := PySem.W.mg_of X G gw4
  have F5 := fun_mk (st := sTup) lw5 cw5 kw5
  have b5 := F5.binds (ps := ["thing", "few"]) fun _ _ _ _ _ _ us hl => match us, hl with | [_, _], _ => rfl
  have m5 := PySem.W.mg_of X G gw5
  have F6 := fun_mk (st := sOdd) lw6 cw6 kw6
  have b6 := F6.binds (ps := ["well"]) fun _ _ _ _ _ _ us hl => match us, hl with | [_], _ => rfl
  have m6 := PySem.W.mg_of X G gw6
  have F7 := fun_mk (st := sBent) lw7 cw7 kw7
  have b7 := F7.binds (ps := ["well", "thing"]) fun _ _ _ _ _ _ us hl => match us, hl with | [_, _], _ => rfl
  have m7 := PySem.W.mg_of X G gw7
  have F8 := fun_mk (st := sNam) lw8 cw8 kw8
  have b8 := F8.binds (ps := ["well"]) fun _ _ _ _ _ _ us hl => match us, hl with | [_], _ => rfl
  have m8 := PySem.W.mg_of X G gw8
  have F9 := fun_mk (st := sNams) lw9 cw9 kw9
  have b9 := F9.binds (ps := ["well", "few"]) fun _ _ _ _ _ _ us hl => match us, hl with | [_, _], _ => rfl
  have m9 := PySem.W.mg_of X G gw9
  have F10 := fun_mk (st := sLLot) lw10 cw10 kw10
  have b10 := F10.binds (ps := ["well", "few", "least"]) fun _ _ _ _ _ _ us hl => match us, hl with | [_, _, _], _ => rfl
  have m10 := PySem.W.mg_of X G gw10
  have F11 := fun_mk (st := sGr) lw11 cw11 kw11
  have b11 := F11.binds (ps := ["well", "few", "most"]) fun _ _ _ _ _ _ us hl => match us, hl with | [_, _, _], _ => rfl
  have m11 := PySem.W.mg_of X G gw11
  have F12 := fun_mk (st := sIsLot) lw12 cw12 kw12
  have b12 := F12.binds (ps := ["few", "thing"]) fun _ _ _ _ _ _ us hl => match us, hl with | [_, _], _ => rfl
  have m12 := PySem.W.mg_of X G gw12
  have F13 := fun_mk (st := sIsName) lw13 cw13 kw13
  have b13 := F13.binds (ps := ["thing"]) fun _ _ _ _ _ _ us hl => match us, hl with | [_], _ => rfl
  have m13 := PySem.W.mg_of X G gw13
  have F14 := fun_mk (st := sIsGraph) lw14 cw14 kw14
  have b14 := F14.binds (ps := ["thing"]) fun _ _ _ _ _ _ us hl => match us, hl with | [_], _ => rfl
  have m14 := PySem.W.mg_of X G gw14
  have F15 := fun_mk (st := sLPar) lw15 cw15 kw15
  have b15 := F15.binds (ps := ["graph", "at"]) fun _ _ _ _ _ _ us hl => match us, hl with | [_, _], _ => rfl
  have m15 := PySem.W.mg_of X G gw15
  have F16 := fun_mk (st := sFull) lw16 cw16 kw16
  have b16 := F16.binds (ps := ["well"]) fun _ _ _ _ _ _ us hl => match us, hl with | [_], _ => rfl
  have m16 := PySem.W.mg_of X G gw16
  have F17 := fun_mk (st := sNear) lw17 cw17 kw17
  have b17 := F17.binds (ps := ["well", "graph"]) fun _ _ _ _ _ _ us hl => match us, hl with | [_, _], _ => rfl
  have m17 := PySem.W.mg_of X G gw17
  have F18 := fun_mk (st := sAsk) lw18 cw18 kw18
  have b18 := F18.binds (ps := ["graph"]) fun _ _ _ _ _ _ us hl => match us, hl with | [_], _ => rfl
  have m18 := PySem.W.mg_of X G gw18
  have F19 := fun_mk (st := sRight) lw19 cw19 kw19
  have b19 := F19.binds (ps := ["well"]) fun _ _ _ _ _ _ us hl => match us, hl with | [_], _ => rfl
  have m19 := PySem.W.mg_of X G gw19
  have F20 := fun_mk (st := sLaw) lw20 cw20 kw20
  have b20 := F20.binds (ps := ["script"]) fun _ _ _ _ _ _ us hl => match us, hl with | [_], _ => rfl
  have m20 := PySem.W.mg_of X G gw20
  have F21 := fun_mk (st := sAsc) lw21 cw21 kw21
  have b21 := F21.binds (ps := ["row"]) fun _ _ _ _ _ _ us hl => match us, hl with | [_], _ => rfl
  have m21 := PySem.W.mg_of X G gw21
  have F22 := fun_mk (st := sGraph) lw22 cw22 kw22
  have b22 := F22.binds (ps := ["value"]) fun _ _ _ _ _ _ us hl => match us, hl with | [_], _ => rfl
  have m22 := PySem.W.mg_of X G gw22
  have F23 := fun_mk (st := sNeed) lw23 cw23 kw23
  have b23 := F23.binds (ps := ["graph"]) fun _ _ _ _ _ _ us hl => match us, hl with | [_], _ => rfl
  have m23 := PySem.W.mg_of X G gw23
  have F24 := fun_mk (st := sIdx) lw24 cw24 kw24
  have b24 := F24.binds (ps := ["graph", "name"]) fun _ _ _ _ _ _ us hl => match us, hl with | [_, _], _ => rfl
  have m24 := PySem.W.mg_of X G gw24
  have F25 := fun_mk (st := sLotOf) lw25 cw25 kw25
  have b25 := F25.binds (ps := ["graph", "value"]) fun _ _ _ _ _ _ us hl => match us, hl with | [_, _], _ => rfl
  have m25 := PySem.W.mg_of X G gw25
  have F26 := fun_mk (st := sPar) lw26 cw26 kw26
  have b26 := F26.binds (ps := ["graph", "name"]) fun _ _ _ _ _ _ us hl => match us, hl with | [_, _], _ => rfl
  have m26 := PySem.W.mg_of X G gw26
  have U0 : FunC K "is_lot" "is_lot" sLot u0 _ c0 := ⟨⟨_, _, _, _, _, _, _, _, rfl, lu0, cu0⟩, ku0⟩
  have v0 := U0.fn.binds (ps := ["count", "value"]) fun _ _ _ _ _ _ us hl => match us, hl with | [_, _], _ => rfl
  have n0 := PySem.W.mg_of X G gu0
  have hd0 := code_hd X xu0 pu0 zu0
  have te0 : h.get? p0 = some { cls := .none, data := .fields #[] } := tb0 u0 c0 p0 _ _ _ _ _ _ n0 lu0 rfl rfl xu0 pu0
  have tn0 : K.lookup p0 = none := Option.isNone_iff_eq_none.mp nu0
  have U1 : FunC K "is_name" "is_name" sName u1 _ c1 := ⟨⟨_, _, _, _, _, _, _, _, rfl, lu1, cu1⟩, ku1⟩
  have v1 := U1.fn.binds (ps := ["value"]) fun _ _ _ _ _ _ us hl => match us, hl with | [_], _ => rfl
  have n1 := PySem.W.mg_of X G gu1
  have hd1 := code_hd X xu1 pu1 zu1
  have te1 : h.get? p1 = some { cls := .none, data := .fields #[] } := tb1 u1 c1 p1 _ _ _ _ _ _ n1 lu1 rfl rfl xu1 pu1
  have tn1 : K.lookup p1 = none := Option.isNone_iff_eq_none.mp nu1
  have U2 : FunC K "are_names" "are_names" sNames u2 _ c2 := ⟨⟨_, _, _, _, _, _, _, _, rfl, lu2, cu2⟩, ku2⟩
  have v2 := U2.fn.binds (ps := ["value"]) fun _ _ _ _ _ _ us hl => match us, hl with | [_], _ => rfl
  have n2 := PySem.W.mg_of X G gu2
  have hd2 := code_hd X xu2 pu2 zu2
  have te2 : h.get? p2 = some { cls := .none, data := .fields #[] } := tb2 u2 c2 p2 _ _ _ _ _ _ n2 lu2 rfl rfl xu2 pu2
  have tn2 : K.lookup p2 = none := Option.isNone_iff_eq_none.mp nu2
  have U3 : FunC K "are_arrows" "are_arrows" sArr u3 _ c3 := ⟨⟨_, _, _, _, _, _, _, _, rfl, lu3, cu3⟩, ku3⟩
  have v3 := U3.fn.binds (ps := ["count", "value"]) fun _ _ _ _ _ _ us hl => match us, hl with | [_, _], _ => rfl
  have n3 := PySem.W.mg_of X G gu3
  have hd3 := code_hd X xu3 pu3 zu3
  have te3 : h.get? p3 = some { cls := .none, data := .fields #[] } := tb3 u3 c3 p3 _ _ _ _ _ _ n3 lu3 rfl rfl xu3 pu3
  have tn3 : K.lookup p3 = none := Option.isNone_iff_eq_none.mp nu3
  have U4 : FunC K "are_hidden_lots" "are_hidden_lots" sHid u4 _ c4 := ⟨⟨_, _, _, _, _, _, _, _, rfl, lu4, cu4⟩, ku4⟩
  have v4 := U4.fn.binds (ps := ["count", "value"]) fun _ _ _ _ _ _ us hl => match us, hl with | [_, _], _ => rfl
  have n4 := PySem.W.mg_of X G gu4
  have hd4 := code_hd X xu4 pu4 zu4
  have te4 : h.get? p4 = some { cls := .none, data := .fields #[] } := tb4 u4 c4 p4 _ _ _ _ _ _ n4 lu4 rfl rfl xu4 pu4
  have tn4 : K.lookup p4 = none := Option.isNone_iff_eq_none.mp nu4
  have U5 : FunC K "children" "children" sChi u5 _ c5 := ⟨⟨_, _, _, _, _, _, _, _, rfl, lu5, cu5⟩, ku5⟩
  have v5 := U5.fn.binds (ps := ["graph", "name"]) fun _ _ _ _ _ _ us hl => match us, hl with | [_, _], _ => rfl
  have n5 := PySem.W.mg_of X G gu5
  have hd5 := code_hd X xu5 pu5 zu5
  have te5 : h.get? p5 = some { cls := .none, data := .fields #[] } := tb5 u5 c5 p5 _ _ _ _ _ _ n5 lu5 rfl rfl xu5 pu5
  have tn5 : K.lookup p5 = none := Option.isNone_iff_eq_none.mp nu5
  have U6 : FunC K "parents_at" "parents_at" sParAt u6 _ c6 := ⟨⟨_, _, _, _, _, _, _, _, rfl, lu6, cu6⟩, ku6⟩
  have v6 := U6.fn.binds (ps := ["graph", "variable"]) fun _ _ _ _ _ _ us hl => match us, hl with | [_, _], _ => rfl
  have n6 := PySem.W.mg_of X G gu6
  have hd6 := code_hd X xu6 pu6 zu6
  have te6 : h.get? p6 = some { cls := .none, data := .fields #[] } := tb6 u6 c6 p6 _ _ _ _ _ _ n6 lu6 rfl rfl xu6 pu6
  have tn6 : K.lookup p6 = none := Option.isNone_iff_eq_none.mp nu6
  have U7 : FunC K "hidden_lots" "hidden_lots" sHidL u7 _ c7 := ⟨⟨_, _, _, _, _, _, _, _, rfl, lu7, cu7⟩, ku7⟩
  have v7 := U7.fn.binds (ps := ["graph", "name"]) fun _ _ _ _ _ _ us hl => match us, hl with | [_, _], _ => rfl
  have n7 := PySem.W.mg_of X G gu7
  have hd7 := code_hd X xu7 pu7 zu7
  have te7 : h.get? p7 = some { cls := .none, data := .fields #[] } := tb7 u7 c7 p7 _ _ _ _ _ _ n7 lu7 rfl rfl xu7 pu7
  have tn7 : K.lookup p7 = none := Option.isNone_iff_eq_none.mp nu7
  refine ⟨PySem.W.fnOf "law" "law" (defArgs sLaw) (defBody sLaw) (defScope sLaw) .none kVw20 dcw20 pmw20 anw20 cdw20 ctw20, [(c0, p0), (c1, p1), (c2, p2), (c3, p3), (c4, p4), (c5, p5), (c6, p6), (c7, p7)], spLaw K [p0, p1, p2, p3, p4, p5, p6, p7], fun p hp => ?_, fun p hp => ?_, fun p hp => ?_, fun s u => .of_eq rfl, fun H a ns hl hT hS => ?_, fun base KB GB TB => ?_⟩
  · simp only [List.mem_cons, List.not_mem_nil, or_false] at hp
    rcases hp with rfl | rfl | rfl | rfl | rfl | rfl | rfl | rfl
    · exact te0
    · exact te1
    · exact te2
    · exact te3
    · exact te4
    · exact te5
    · exact te6
    · exact te7
  · simp only [List.mem_cons, List.not_mem_nil, or_false] at hp
    rcases hp with rfl | rfl | rfl | rfl | rfl | rfl | rfl | rfl
    · exact tn0
    · exact tn1
    · exact tn2
    · exact tn3
    · exact tn4
    · exact tn5
    · exact tn6
    · exact tn7
  · simp only [List.mem_cons, List.not_mem_nil, or_false] at hp
    rcases hp with rfl | rfl | rfl | rfl | rfl | rfl | rfl | rfl
    · exact hd0
    · exact hd1
    · exact hd2
    · exact hd3
    · exact hd4
    · exact hd5
    · exact hd6
    · exact hd7
  · refine ⟨a, ns, rfl, hS, hl, fun P hP => ⟨#[], ?_, ?_⟩, fun _ => rfl⟩
    · simp only [List.mem_cons, List.not_mem_nil, or_false] at hP
      rcases hP with q | q | q | q | q | q | q | q <;> rw [q]
      · exact hT (c0, p0) (by simp)
      · exact hT (c1, p1) (by simp)
      · exact hT (c2, p2) (by simp)
      · exact hT (c3, p3) (by simp)
      · exact hT (c4, p4) (by simp)
      · exact hT (c5, p5) (by simp)
      · exact hT (c6, p6) (by simp)
      · exact hT (c7, p7) (by simp)
    · exact True.intro
  have B0 := TB (c0, p0) (by simp)
  have M0 : p0 ∈ ([p0, p1, p2, p3, p4, p5, p6, p7] : List Addr) := by simp
  have B1 := TB (c1, p1) (by simp)
  have M1 : p1 ∈ ([p0, p1, p2, p3, p4, p5, p6, p7] : List Addr) := by simp
  have B2 := TB (c2, p2) (by simp)
  have M2 : p2 ∈ ([p0, p1, p2, p3, p4, p5, p6, p7] : List Addr) := by simp
  have B3 := TB (c3, p3) (by simp)
  have M3 : p3 ∈ ([p0, p1, p2, p3, p4, p5, p6, p7] : List Addr) := by simp
  have B4 := TB (c4, p4) (by simp)
  have M4 : p4 ∈ ([p0, p1, p2, p3, p4, p5, p6, p7] : List Addr) := by simp
  have B5 := TB (c5, p5) (by simp)
  have M5 : p5 ∈ ([p0, p1, p2, p3, p4, p5, p6, p7] : List Addr) := by simp
  have B6 := TB (c6, p6) (by simp)
  have M6 : p6 ∈ ([p0, p1, p2, p3, p4, p5, p6, p7] : List Addr) := by simp
  have B7 := TB (c7, p7) (by simp)
  have M7 : p7 ∈ ([p0, p1, p2, p3, p4, p5, p6, p7] : List Addr) := by simp
  have N : Nm mg := ⟨no (by decide), no (by decide), no (by decide), no (by decide), no (by decide), no (by decide), no (by decide), no (by decide)⟩
  have C : Cn K mg := ⟨⟨_, PySem.W.mg_of X G gl⟩, ⟨_, PySem.W.mg_of X G gf⟩, ⟨_, PySem.W.mg_of X G gd, fun H => .inr ⟨_, _, _, lwd, rfl, rfl, (by show 9 ≤ sizeLine; decide), .cons ⟨_, rfl⟩ (.cons ⟨_, rfl⟩ (.cons ⟨_, rfl⟩ (.cons ⟨_, rfl⟩ (.cons ⟨_, rfl⟩ (.cons ⟨_, rfl⟩ (.cons ⟨_, rfl⟩ (.cons ⟨_, rfl⟩ (.cons ⟨_, rfl⟩ .nil))))))))⟩⟩, ⟨_, PySem.W.mg_of X G gsg⟩, ⟨_, PySem.W.mg_of X G gvr⟩, ⟨_, PySem.W.mg_of X G ghd⟩⟩
  have LO : Lo K mg base [p0, p1, p2, p3, p4, p5, p6, p7] u0 w21 c0 p0 _ _ := ⟨U0, B0, M0, n0, v0, F21, m21, b21⟩
  have S : Pg K mg base [p0, p1, p2, p3, p4, p5, p6, p7] _ _ _ _ _ _ _ _ _ _ _ _ _ _ _ _ _ _ _ _ _ _ := ⟨N, C, LO, U1, B1, M1, n1, v1, U2, B2, M2, n2, v2, U3, B3, M3, n3, v3, U4, B4, M4, n4, v4⟩
  have D : Dw K mg _ _ _ _ _ _ := ⟨F1, F2, F3, m1, m2, m3, b1, b2, b3, no (by decide), no (by decide), no (by decide), no (by decide), no (by decide), no (by decide), no (by decide)⟩
  have kbG : KBinds K _ ["value"] ["value"] gOne gOneV := kb_one (K := K) (fd := PySem.W.fnOf "is_graph" "is_graph" (defArgs sGraph) (defBody sGraph) (defScope sGraph) .none kVw22 dcw22 pmw22 anw22 cdw22 ctw22) fun s u => BindsTo.of_eq rfl
  have kbL : KBinds K _ ["graph", "value"] ["value", "graph"] gRev gRevV := kb_rev (K := K) (fd := PySem.W.fnOf "is_lot_of" "is_lot_of" (defArgs sLotOf) (defBody sLotOf) (defScope sLotOf) .none kVw25 dcw25 pmw25 anw25 cdw25 ctw25) fun s u v => BindsTo.of_eq rfl
  have AI : Ask P w K mg base "index_of" 11 (spIdx [p0, p1, p2, p3, p4, p5, p6, p7]) _ _ := ⟨ok_idx F24 F22 m22 b22 F23 m23 b23 S, m24, kw24, b24, kb_rev (K := K) (fd := (PySem.W.fnOf "index_of" "index_of" (defArgs sIdx) (defBody sIdx) (defScope sIdx) .none kVw24 dcw24 pmw24 anw24 cdw24 ctw24)) fun s u v => BindsTo.of_eq rfl⟩
  have AP : Ask P w K mg base "parents" 12 (spPar [p0, p1, p2, p3, p4, p5, p6, p7]) _ _ := ⟨ok_par F26 U6 B6 M6 n6 v6 F24 m24 b24 F22 m22 b22 F23 m23 b23 S, m26, kw26, b26, kb_rev (K := K) (fd := (PySem.W.fnOf "parents" "parents" (defArgs sPar) (defBody sPar) (defScope sPar) .none kVw26 dcw26 pmw26 anw26 cdw26 ctw26)) fun s u v => BindsTo.of_eq rfl⟩
  have AC : Ask P w K mg base "children" 12 (spChi [p0, p1, p2, p3, p4, p5, p6, p7]) _ _ := ⟨ok_chi U5 B5 M5 F24 m24 b24 F22 m22 b22 F23 m23 b23 S, n5, ku5, v5, kb_rev (K := K) (fd := (PySem.W.fnOf "children" "children" (defArgs sChi) (defBody sChi) (defScope sChi) .none kVu5 dcu5 pmu5 anu5 (.ref c5) ctu5)) fun s u v => BindsTo.of_eq rfl⟩
  have AH : Ask P w K mg base "hidden_lots" 12 (spHidL [p0, p1, p2, p3, p4, p5, p6, p7]) _ _ := ⟨ok_hidl U7 B7 M7 F24 m24 b24 F22 m22 b22 F23 m23 b23 S, n7, ku7, v7, kb_rev (K := K) (fd := (PySem.W.fnOf "hidden_lots" "hidden_lots" (defArgs sHidL) (defBody sHidL) (defScope sHidL) .none kVu7 dcu7 pmu7 anu7 (.ref c7) ctu7)) fun s u v => BindsTo.of_eq rfl⟩
  have R : Rt P w K mg base [p0, p1, p2, p3, p4, p5, p6, p7] _ _ _ _ _ _ _ _ _ _ _ _ _ _ _ _ _ _ _ _ _ _ _ _ := ⟨⟨D.okO, m2, kw2, b2⟩,
    ⟨ok_gr F11 F9 m9 b9 F8 m8 b8 D, m11, kw11, b11⟩,
    ⟨ok_full F16 F9 m9 b9 F8 m8 b8 D, m16, kw16, b16⟩,
    ⟨ok_near F17 F6 m6 b6 F9 m9 b9 F8 m8 b8 D, m17, kw17, b17⟩,
    ⟨ok_bent F7 F6 m6 b6 F4 m4 b4 (no (by decide)) (no (by decide)) (no (by decide)) D, m7, kw7, b7⟩,
    ⟨ok_isgraph F14 F5 m5 b5 F12 m12 b12 F13 m13 b13 F4 m4 b4 N (no (by decide)) (no (by decide)) (no (by decide)) (no (by decide)), m14, kw14, b14⟩,
    ⟨ok_llot F10 D, m10, kw10, b10⟩,
    ⟨ok_odd F6 F2 F1 m2 m1 b2 b1 (no (by decide)) (no (by decide)) (no (by decide)), m6, kw6, b6⟩,
    ⟨ok_islot F12 F4 m4 b4 N (no (by decide)) (no (by decide)) (no (by decide)) (no (by decide)), m12, kw12, b12⟩,
    ⟨ok_graph F22 S, m22, kw22, b22⟩,
    ⟨ok_lotof F25 F22 m22 b22 F23 m23 b23 S, m25, kw25, b25⟩,
    kbG, kbL, ok_ask F18 F15 m15 b15 AI AP AC AH N (no (by decide)) (no (by decide)), m18, kw18, b18, N, no (by decide), no (by decide)⟩
  exact ok_law F20 F0 F19 m0 m19 b0 b19 R (no (by decide)) (no (by decide)) (no (by decide))
end GR

open PySem PySem.W PyProof.Rows
set_option maxHeartbeats 0 in
theorem PySem.Challenge.cw_causaleffects_k02_whole_graphs_and_lots_holds : PySem.Challenge.rw_causaleffects_k02_whole_graphs_and_lots.Holds := by
  w_on; o_law; k_head; (case hw => w_witness2)
  k_fill
  refine KL.walkGT (l := PySem.Challenge.rw_causaleffects_k02_whole_graphs_and_lots) (n := 63) (k := 15) (x := "script") rfl (by decide) rfl ⟨rfl, by decide, by decide⟩ (fun w h Y => PySem.W.kIn_of Y) ?F
  intro w mg fa h KX G hmg tab
  refine' GR.all_mk KX G hmg ?own_gw0 ?own_lw0 ?own_cw0 ?own_kw0 ?own_gw1 ?own_lw1 ?own_cw1 ?own_kw1 ?own_gw2 ?own_lw2 ?own_cw2 ?own_kw2 ?own_gw3 ?own_lw3 ?own_cw3 ?own_kw3 ?own_gw4 ?own_lw4 ?own_cw4 ?own_kw4 ?own_gw5 ?own_lw5 ?own_cw5 ?own_kw5 ?own_gw6 ?own_lw6 ?own_cw6 ?own_kw6 ?own_gw7 ?own_lw7 ?own_cw7 ?own_kw7 ?own_gw8 ?own_lw8 ?own_cw8 ?own_kw8 ?own_gw9 ?own_lw9 ?own_cw9 ?own_kw9 ?own_gw10 ?own_lw10 ?own_cw10 ?own_kw10 ?own_gw11 ?own_lw11 ?own_cw11 ?own_kw11 ?own_gw12 ?own_lw12 ?own_cw12 ?own_kw12 ?own_gw13 ?own_lw13 ?own_cw13 ?own_kw13 ?own_gw14 ?own_lw14 ?own_cw14 ?own_kw14 ?own_gw15 ?own_lw15 ?own_cw15 ?own_kw15 ?own_gw16 ?own_lw16 ?own_cw16 ?own_kw16 ?own_gw17 ?own_lw17 ?own_cw17 ?own_kw17 ?own_gw18 ?own_lw18 ?own_cw18 ?own_kw18 ?own_gw19 ?own_lw19 ?own_cw19 ?own_kw19 ?own_gw20 ?own_lw20 ?own_cw20 ?own_kw20 ?own_gw21 ?own_lw21 ?own_cw21 ?own_kw21 ?own_gw22 ?own_lw22 ?own_cw22 ?own_kw22 ?own_gw23 ?own_lw23 ?own_cw23 ?own_kw23 ?own_gw24 ?own_lw24 ?own_cw24 ?own_kw24 ?own_gw25 ?own_lw25 ?own_cw25 ?own_kw25 ?own_gw26 ?own_lw26 ?own_cw26 ?own_kw26 ?own_gu0 ?own_lu0 ?own_cu0 ?own_ku0 ?own_xu0 ?own_pu0 ?own_zu0 ?own_nu0 ?own_gu1 ?own_lu1 ?own_cu1 ?own_ku1 ?own_xu1 ?own_pu1 ?own_zu1 ?own_nu1 ?own_gu2 ?own_lu2 ?own_cu2 ?own_ku2 ?own_xu2 ?own_pu2 ?own_zu2 ?own_nu2 ?own_gu3 ?own_lu3 ?own_cu3 ?own_ku3 ?own_xu3 ?own_pu3 ?own_zu3 ?own_nu3 ?own_gu4 ?own_lu4 ?own_cu4 ?own_ku4 ?own_xu4 ?own_pu4 ?own_zu4 ?own_nu4 ?own_gu5 ?own_lu5 ?own_cu5 ?own_ku5 ?own_xu5 ?own_pu5 ?own_zu5 ?own_nu5 ?own_gu6 ?own_lu6 ?own_cu6 ?own_ku6 ?own_xu6 ?own_pu6 ?own_zu6 ?own_nu6 ?own_gu7 ?own_lu7 ?own_cu7 ?own_ku7 ?own_xu7 ?own_pu7 ?own_zu7 ?own_nu7 ?own_gl ?own_gf ?own_gd ?own_gsg ?own_gvr ?own_ghd ?own_lwd ?own_zN (tab "is_lot" (by kernel_rfl)) (tab "is_name" (by kernel_rfl)) (tab "are_names" (by kernel_rfl)) (tab "are_arrows" (by kernel_rfl)) (tab "are_hidden_lots" (by kernel_rfl)) (tab "children" (by kernel_rfl)) (tab "parents_at" (by kernel_rfl)) (tab "hidden_lots" (by kernel_rfl))
  (case own_gw0 => k_is)
  (case own_lw0 => k_is)
  (case own_cw0 => k_is)
  (case own_kw0 => k_is)
  (case own_gw1 => k_is)
  (case own_lw1 => k_is)
  (case own_cw1 => k_is)
  (case own_kw1 => k_is)
  (case own_gw2 => k_is)
  (case own_lw2 => k_is)
  (case own_cw2 => k_is)
  (case own_kw2 => k_is)
  (case own_gw3 => k_is)
  (case own_lw3 => k_is)
  (case own_cw3 => k_is)
  (case own_kw3 => k_is)
  (case own_gw4 => k_is)
  (case own_lw4 => k_is)
  (case own_cw4 => k_is)
  (case own_kw4 => k_is)
  (case own_gw5 => k_is)
  (case own_lw5 => k_is)
  (case own_cw5 => k_is)
  (case own_kw5 => k_is)
  (case own_gw6 => k_is)
  (case own_lw6 => k_is)
  (case own_cw6 => k_is)
  (case own_kw6 => k_is)
  (case own_gw7 => k_is)
  (case own_lw7 => k_is)
  (case own_cw7 => k_is)
  (case own_kw7 => k_is)
  (case own_gw8 => k_is)
  (case own_lw8 => k_is)
  (case own_cw8 => k_is)
  (case own_kw8 => k_is)
  (case own_gw9 => k_is)
  (case own_lw9 => k_is)
  (case own_cw9 => k_is)
  (case own_kw9 => k_is)
  (case own_gw10 => k_is)
  (case own_lw10 => k_is)
  (case own_cw10 => k_is)
  (case own_kw10 => k_is)
  (case own_gw11 => k_is)
  (case own_lw11 => k_is)
  (case own_cw11 => k_is)
  (case own_kw11 => k_is)
  (case own_gw12 => k_is)
  (case own_lw12 => k_is)
  (case own_cw12 => k_is)
  (case own_kw12 => k_is)
  (case own_gw13 => k_is)
  (case own_lw13 => k_is)
  (case own_cw13 => k_is)
  (case own_kw13 => k_is)
  (case own_gw14 => k_is)
  (case own_lw14 => k_is)
  (case own_cw14 => k_is)
  (case own_kw14 => k_is)
  (case own_gw15 => k_is)
  (case own_lw15 => k_is)
  (case own_cw15 => k_is)
  (case own_kw15 => k_is)
  (case own_gw16 => k_is)
  (case own_lw16 => k_is)
  (case own_cw16 => k_is)
  (case own_kw16 => k_is)
  (case own_gw17 => k_is)
  (case own_lw17 => k_is)
  (case own_cw17 => k_is)
  (case own_kw17 => k_is)
  (case own_gw18 => k_is)
  (case own_lw18 => k_is)
  (case own_cw18 => k_is)
  (case own_kw18 => k_is)
  (case own_gw19 => k_is)
  (case own_lw19 => k_is)
  (case own_cw19 => k_is)
  (case own_kw19 => k_is)
  (case own_gw20 => k_is)
  (case own_lw20 => k_is)
  (case own_cw20 => k_is)
  (case own_kw20 => k_is)
  (case own_gw21 => k_is)
  (case own_lw21 => k_is)
  (case own_cw21 => k_is)
  (case own_kw21 => k_is)
  (case own_gw22 => k_is)
  (case own_lw22 => k_is)
  (case own_cw22 => k_is)
  (case own_kw22 => k_is)
  (case own_gw23 => k_is)
  (case own_lw23 => k_is)
  (case own_cw23 => k_is)
  (case own_kw23 => k_is)
  (case own_gw24 => k_is)
  (case own_lw24 => k_is)
  (case own_cw24 => k_is)
  (case own_kw24 => k_is)
  (case own_gw25 => k_is)
  (case own_lw25 => k_is)
  (case own_cw25 => k_is)
  (case own_kw25 => k_is)
  (case own_gw26 => k_is)
  (case own_lw26 => k_is)
  (case own_cw26 => k_is)
  (case own_kw26 => k_is)
  (case own_gu0 => k_is)
  (case own_lu0 => k_is)
  (case own_cu0 => k_is)
  (case own_ku0 => k_is)
  (case own_xu0 => k_is)
  (case own_pu0 => rfl)
  (case own_zu0 => kernel_rfl)
  (case own_nu0 => kernel_rfl)
  (case own_gu1 => k_is)
  (case own_lu1 => k_is)
  (case own_cu1 => k_is)
  (case own_ku1 => k_is)
  (case own_xu1 => k_is)
  (case own_pu1 => rfl)
  (case own_zu1 => kernel_rfl)
  (case own_nu1 => kernel_rfl)
  (case own_gu2 => k_is)
  (case own_lu2 => k_is)
  (case own_cu2 => k_is)
  (case own_ku2 => k_is)
  (case own_xu2 => k_is)
  (case own_pu2 => rfl)
  (case own_zu2 => kernel_rfl)
  (case own_nu2 => kernel_rfl)
  (case own_gu3 => k_is)
  (case own_lu3 => k_is)
  (case own_cu3 => k_is)
  (case own_ku3 => k_is)
  (case own_xu3 => k_is)
  (case own_pu3 => rfl)
  (case own_zu3 => kernel_rfl)
  (case own_nu3 => kernel_rfl)
  (case own_gu4 => k_is)
  (case own_lu4 => k_is)
  (case own_cu4 => k_is)
  (case own_ku4 => k_is)
  (case own_xu4 => k_is)
  (case own_pu4 => rfl)
  (case own_zu4 => kernel_rfl)
  (case own_nu4 => kernel_rfl)
  (case own_gu5 => k_is)
  (case own_lu5 => k_is)
  (case own_cu5 => k_is)
  (case own_ku5 => k_is)
  (case own_xu5 => k_is)
  (case own_pu5 => rfl)
  (case own_zu5 => kernel_rfl)
  (case own_nu5 => kernel_rfl)
  (case own_gu6 => k_is)
  (case own_lu6 => k_is)
  (case own_cu6 => k_is)
  (case own_ku6 => k_is)
  (case own_xu6 => k_is)
  (case own_pu6 => rfl)
  (case own_zu6 => kernel_rfl)
  (case own_nu6 => kernel_rfl)
  (case own_gu7 => k_is)
  (case own_lu7 => k_is)
  (case own_cu7 => k_is)
  (case own_ku7 => k_is)
  (case own_xu7 => k_is)
  (case own_pu7 => rfl)
  (case own_zu7 => kernel_rfl)
  (case own_nu7 => kernel_rfl)
  (case own_gl => k_is)
  (case own_gf => k_is)
  (case own_gd => k_is)
  (case own_gsg => k_is)
  (case own_gvr => k_is)
  (case own_ghd => k_is)
  (case own_lwd => k_is)
  (case own_zN => kernel_rfl)

