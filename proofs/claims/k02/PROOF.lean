import PyProof.Rows.All
import Wide.All
import OpenK.AllK
import Wide.FinOn
import HandS.ForMost
import HandS.GenList
import HandS.AnyAll
import HandS.Wide
import HandS.TupMul
import HandS.TupAny
import HandS.Gcd
import HandS.IsInst
import HandS.SortInts
import HandS.Deep
import HandS.Style
import HandS.TupLe
import HandS.Small
import HandS.Rev
import HandS.RevTup
import HandS.Zip
import HandS.Flow
import HandS.Defaults
import HandS.WordsExc
import KE.GoesMore
import KE.GoesEnum
import HandS.SetFor
import HandS.Strs
import HandS.HeadWalk
import HandS.Head0
import HandS.Head1
import HandS.Head2
import HandS.HeadEnd
import HandS.HeadHook1
import HandS.HeadHook2
import HandS.HeadHook3
import HandS.HeadHook4
import HandS.Head3
import PySem.Challenge.RW_hoursheets_k02_whole_numbers_over_diviso
section
set_option Elab.async false
set_option linter.all false
set_option maxRecDepth 100000
set_option maxHeartbeats 2000000
namespace GX
open PySem PySem.Spec PyProof.Rows L2

/-- the context of a generator expression's frame -/
abbrev gcx (X : Cx) (B : Around) (s : Shared) (H : Hp) (scope : Scope) (cenv : Env) (fp : List Addr) : Cx :=
  { X with A := B.deeper cenv, s_0 := s, H_0 := H, env := cenv, outer := X.stack, stack := cenv :: X.stack, ex := fp, fn := fun x => scope.names.lookup x == some .cell, calm := true, pn := [], xe := fun _ _ => False }

/-- the names of a generator expression's frame: its own (with their places in N), or captured -/
structure GenOk (N : List Str) (sc scope : Scope) (own : List (Str × Nat)) : Prop where
  kind : scope.kind = .function
  co : scope.isCoroutine = false
  dot : scope.names.lookup (".0" : Str) = some NameKind.local
  uniq : ∀ y ∈ scope.names, scope.names.lookup y.1 = some y.2
  ix : ∀ p ∈ own, N[p.2]? = some p.1
  free : ∀ y ∈ scope.names, y.2 = .free → sc.names.lookup y.1 = some .cell ∨ sc.names.lookup y.1 = some .free
  own : ∀ y ∈ scope.names, y.2 = .local ∨ y.2 = .cell → y.1 ∈ own.map (·.1) ∨ y.1 ∉ N

section
variable {X : Cx} {pins : List (Addr × Obj)} {σ : L2.St} {H : Hp} {s : Shared}
theorem gen_start {scope : Scope} {own : List (Str × Nat)} {fp : List Addr} {B : Around} {cenv : Env} {h' : Heap} {C : Addr} {m : Str → Option Value} (I : Inv X pins σ H s) (ok : GenOk X.N X.env.scope scope own) (hN : X.N.Nodup) (hfp : ∀ b ∈ fp, FpOk X pins H b ∧ b < s.heap.objs.size)
    (hBh : B.handled = none) (hBf : B.frames = some X.stack)
    (hC : C = s.heap.objs.size) (hL : cenv.locals = C) (hcl : cenv.cells = cellsFrom (C + 1) scope.names (cloFrom X.env.cells scope.names [])) (hsc : cenv.scope = scope) (hgl : cenv.globals = mainGlobals) (hbl : cenv.builtins = builtinsNs) (hfr : cenv.frame = some C)
    (hn : h'.Ns C m) (hk : ∀ b o, b ≠ C → (pushCells (s.heap.push { cls := .type "frame", data := .dict #[] }) scope.names).get? b = some o → h'.get? b = some o)
    {g' : Array GenState} {t' : Nat} (hg : AllBare g') :
    Inv (gcx X B s H scope cenv fp) [] (wipe σ (own.map (·.2))) H { s with heap := h', gens := g', toks := t' } := by
  have hfree : ∀ y ∈ scope.names, y.2 = .free → ∃ c, X.env.cells.lookup y.1 = some c := fun y hy e => by
    rcases ok.free y hy e with k | k
    · exact I.ok.has _ (.inl k)
    · exact I.ok.has _ (.inr k)
  have kp : ∀ b o, s.heap.get? b = some o → h'.get? b = some o := fun b o e => hk b o (by rw [hC]; exact Nat.ne_of_lt (Heap.lt_size e)) (pushCells_keeps _ _ _ _ (Heap.get?_push_of_some _ e))
  subst hC
  rw [← Heap.size_push s.heap { cls := .type "frame", data := .dict #[] }] at hcl
  have cm : ∀ {y c}, (y, c) ∈ cloFrom X.env.cells scope.names [] → X.env.cells.lookup y = some c ∧ c < s.heap.objs.size := fun {y c} hm => by
    rcases cloFrom_mem hm with hm | ⟨h1, rfl⟩
    · cases hm
    · obtain ⟨c, hc⟩ := hfree _ h1 rfl
      rw [hc]
      obtain ⟨w, z⟩ := I.cell _ _ hc
      exact ⟨rfl, z.lt⟩
  have mem : ∀ {y c}, cenv.cells.lookup y = some c → (X.env.cells.lookup y = some c ∧ c < s.heap.objs.size) ∨ (s.heap.objs.size + 1 ≤ c ∧ CellAt h' c none) := fun {y c} e => by
    rw [hcl] at e
    rcases cells_mem (PySem.mem_of_lookup e) with hm | ⟨_, h2, h3⟩
    · exact .inl (cm hm)
    · rw [Heap.size_push] at h2
      obtain ⟨o, ho, hd⟩ := h3
      exact .inr ⟨h2, o, hk c o (Nat.ne_of_gt h2) ho, hd⟩
  have look : ∀ {y}, scope.names.lookup y = some .free → ∃ c, cenv.cells.lookup y = some c ∧ X.env.cells.lookup y = some c := fun {y} hl => by
    have hy : (y, NameKind.free) ∈ scope.names := PySem.mem_of_lookup hl
    obtain ⟨c', e'⟩ := mem_lookup (cells_acc (names := scope.names) (n := (s.heap.push { cls := .type "frame", data := .dict #[] }).objs.size) (cloFrom_has (cells := X.env.cells) (acc := []) hy))
    rw [← hcl] at e'
    refine ⟨c', e', ?_⟩
    rw [hcl] at e'
    rcases cells_mem (PySem.mem_of_lookup e') with hm | ⟨h1, _, _⟩
    · exact (cm hm).1
    · have := ok.uniq _ h1
      rw [hl] at this; cases this
  have okB : (gcx X B s H scope cenv fp).Ok := by
    refine ⟨I.ok.mod, by show cenv.scope.kind = _; rw [hsc]; exact ok.kind, hgl, hbl, by show s.heap.objs.size ≤ cenv.locals; rw [hL]; exact Nat.le_refl _,
      fun y z c e1 e2 => ?_, fun y hy => ?_, fun y c z e => ?_, fun _ => hBh, Around.frames_deeper hBf, .inr ⟨rfl, by show cenv.frame = some cenv.locals; rw [hfr, hL]⟩, fun b hb => ⟨?_, fun y c e z => ?_⟩, I.bs, Nat.le_trans I.ok.bsz I.sz, fun b o e hb => ?_, fun b hb z => ?_, I.stack, I.stkFree⟩
    · have e1 : cenv.cells.lookup y = some c := e1
      have e2 : cenv.cells.lookup z = some c := e2
      rw [hcl] at e1 e2
      refine cells_inj (fun p hp => ?_) (fun y z c a b => I.ok.inj y z c (cm a).1 (cm b).1) (PySem.mem_of_lookup e1) (PySem.mem_of_lookup e2)
      rw [Heap.size_push]
      exact Nat.lt_succ_of_lt (cm (y := p.1) (c := p.2) hp).2
    · show ∃ c, cenv.cells.lookup y = some c
      have hy : scope.names.lookup y = some .cell ∨ scope.names.lookup y = some .free := by
        have hy : cenv.scope.names.lookup y = some .cell ∨ cenv.scope.names.lookup y = some .free := hy
        rw [hsc] at hy; exact hy
      rcases hy with e | e
      · obtain ⟨c, hm⟩ := cells_has (n := (s.heap.push { cls := .type "frame", data := .dict #[] }).objs.size) (acc := cloFrom X.env.cells scope.names []) (PySem.mem_of_lookup e)
        obtain ⟨c', e'⟩ := mem_lookup hm
        exact ⟨c', by rw [hcl]; exact e'⟩
      · obtain ⟨c, h1, _⟩ := look e
        exact ⟨c, h1⟩
    · have z : (scope.names.lookup y == some NameKind.cell) = true := z
      have z : scope.names.lookup y = some .cell := by simpa using z
      have e : cenv.cells.lookup y = some c := e
      rw [hcl] at e
      rcases cells_mem (PySem.mem_of_lookup e) with hm | ⟨_, h2, _⟩
      · rcases cloFrom_mem hm with hm | ⟨h1, _⟩
        · cases hm
        · have q := ok.uniq _ h1
          rw [z] at q; cases q
      · rw [Heap.size_push] at h2
        exact Nat.le_of_succ_le h2
    · show b ≠ cenv.locals
      rw [hL]; exact Nat.ne_of_lt (hfp b hb).2
    · have e : cenv.cells.lookup y = some c := e
      rcases mem e with ⟨h1, _⟩ | ⟨h1, _⟩
      · exact (hfp b hb).1.2.2.2.2.1 y c h1 z
      · have h2 : s.heap.objs.size + 1 ≤ b := by rw [← z]; exact h1
        exact absurd (Nat.lt_of_lt_of_le (hfp b hb).2 (Nat.le_of_succ_le h2)) (Nat.lt_irrefl _)
    · rcases (hfp b hb).1.2.2.2.1 with z | z
      · exact I.ok.noex b o e z
      · exact absurd (Nat.lt_of_lt_of_le (Heap.lt_size e) (Nat.le_trans I.ok.bsz z)) (Nat.lt_irrefl _)
    · rcases List.mem_cons.mp (I.stkSub b z) with z | z
      · exact (hfp b hb).1.2.1 z
      · exact (hfp b hb).1.2.2.1 z
  refine ⟨okB, rfl, hg, Un.kept kp, ⟨m, ?_, fun i y av e1 e2 e3 => ?_⟩, fun y c e => ?_, ?_, fun y c e => ?_, fun p hp => ?_, I.hok.kept kp, by rw [wipe_length]; exact I.len⟩
  · show Heap.Ns _ cenv.locals _
    rw [hL]
    exact hn
  · obtain ⟨e2, hne⟩ := wipe_some e2
    have hfr' : scope.names.lookup y = some .free ∧ (cenv.kindOf y = some .cell ∨ cenv.kindOf y = some .free) := by
      have no : ∀ k', scope.names.lookup y = some k' → ¬ (k' = .local ∨ k' = .cell) := fun k' e hh => by
        rcases ok.own _ (PySem.mem_of_lookup e) hh with e' | e'
        · obtain ⟨p, hp, hpy⟩ := List.mem_map.mp e'
          have e3 := ok.ix p hp
          have : p.1 = y := hpy
          rw [this] at e3
          exact hne (List.mem_map.mpr ⟨p, hp, nodup_ix hN e3 e1⟩)
        · exact e' (List.mem_of_getElem? e1)
      have e3 : Vis cenv.scope y := e3
      rw [hsc] at e3
      rcases e3 with e3 | e3 | e3
      · exact absurd (.inl rfl) (no _ e3)
      · exact absurd (.inr rfl) (no _ e3)
      · exact ⟨e3, .inr (by show cenv.scope.names.lookup y = _; rw [hsc]; exact e3)⟩
    obtain ⟨m0, hn0, hl⟩ := I.loc
    have hvis : Vis X.env.scope y := (ok.free _ (PySem.mem_of_lookup hfr'.1) rfl).elim (fun k => .inr (.inl k)) (fun k => .inr (.inr k))
    obtain ⟨w, r, q⟩ := hl i y av e1 e2 hvis
    refine ⟨w, r, .inr ⟨hfr'.2, ?_⟩⟩
    obtain ⟨c, h1, h2⟩ := look hfr'.1
    rcases q with ⟨k, _⟩ | ⟨_, c', e', z⟩
    · have k : X.env.scope.names.lookup y = some .local := k
      rcases ok.free _ (PySem.mem_of_lookup hfr'.1) rfl with k' | k' <;> rw [show X.env.scope.names.lookup y = _ from k'] at k <;> cases k
    · rw [h2] at e'; cases e'
      exact ⟨c, h1, z.keeps kp⟩
  · have e : cenv.cells.lookup y = some c := e
    rcases mem e with ⟨h1, _⟩ | ⟨_, z⟩
    · obtain ⟨w, z⟩ := I.cell y c h1
      exact ⟨w, z.keeps kp⟩
    · exact ⟨_, z⟩
  · show H cenv.locals = none
    rw [hL]; exact I.hok.fresh (Nat.le_refl _)
  · have e : cenv.cells.lookup y = some c := e
    rcases mem e with ⟨h1, _⟩ | ⟨h1, _⟩
    · exact I.freeC y c h1
    · exact I.hok.fresh (Nat.le_of_succ_le h1)
  · exact absurd (show p ∈ ([] : List (Addr × Obj)) ++ [] from hp) (by simp)
end
end GX
end

section
set_option Elab.async false
set_option linter.all false
set_option maxRecDepth 100000
set_option maxHeartbeats 2000000
namespace GX
open PySem PySem.Spec PyProof.Rows L2

theorem over_gen {B : Around} {elt : Expr} {cs : List Comprehension} {scope : Scope} {pos : Pos} {it acc : Value} {cenv : Env} :
    B.over (.compLoop (.GeneratorExp elt cs scope pos) 0 it acc cenv) [] = B.deeper cenv := by
  first
    | rfl
    | (obtain ⟨hd, d, fr, gs, u⟩ := B; simp [Around.over, Around.deeper, marksOver, frameCount, unitsOf, envsOf, guardsOf, pushEnvs, pushGuards, Code.envs, Code.env?, Code.isFrame, Code.guards, Code.isGuard, Code.weight, Code.frames, Code.isCreation, Code.isCaller, Code.cUnits])
theorem over_gen0 {B : Around} {elt : Expr} {cs : List Comprehension} {scope : Scope} {pos : Pos} {it acc : Value} {cenv : Env} :
    B.over (.compStart (.GeneratorExp elt cs scope pos) 0 it acc cenv) [] = B.deeper cenv := by
  first
    | rfl
    | (obtain ⟨hd, d, fr, gs, u⟩ := B; simp [Around.over, Around.deeper, marksOver, frameCount, unitsOf, envsOf, guardsOf, pushEnvs, pushGuards, Code.envs, Code.env?, Code.isFrame, Code.guards, Code.isGuard, Code.weight, Code.frames, Code.isCreation, Code.isCaller, Code.cUnits])

/-- what a consumer keeps at its own objects wr, told by the values that are out -/
structure Hold (wr : List Addr) (hold : List V → Heap → Prop) : Prop where
  at_ : ∀ ys h h', (∀ b ∈ wr, ∀ o, h.get? b = some o → h'.get? b = some o) → hold ys h → hold ys h'
  there : ∀ ys h, hold ys h → ∀ b ∈ wr, ∃ o, h.get? b = some o ∧ ∀ v, o.data ≠ .cell v

section
variable (X : Cx) (σ0 : L2.St) (wr fp : List Addr) (tn : Nat → Heap → Prop) (hold : List V → Heap → Prop) (W : Nat → Nat → List V → Hp → Prop) (C : List V → V → Hp → Prop → Prop) (F : List V → Hp → Prop)
def GInv (i : Nat) (H : Hp) (s : Shared) : Prop := Inv X [] σ0 H s ∧ tn i s.heap ∧ (∀ b ∈ fp, H b = none) ∧ ∀ b ∈ wr, H b = none
def GY : Protocol := fun n s₀ v s kap => ∃ i ys y H, RelV y v ∧ GInv X σ0 wr fp tn (i + 1) H s ∧ hold ys s.heap ∧ (∀ b ∈ wr, ∀ o, s₀.heap.get? b = some o → s.heap.get? b = some o) ∧ C ys y H (∃ m, m < n ∧ W (i + 1) m (ys ++ [y]) H) ∧
  ∀ s'', GInv X σ0 wr fp tn (i + 1) H s'' → hold (ys ++ [y]) s''.heap → (∃ m, m < n ∧ W (i + 1) m (ys ++ [y]) H) → kap (.send .none) s''
def GR : GenEnd := fun _ s₀ r s => r = .ok .next ∧ ∃ ys H, Inv X [] σ0 H s ∧ (∀ b ∈ wr, H b = none) ∧ hold ys s.heap ∧ (∀ b ∈ wr, ∀ o, s₀.heap.get? b = some o → s.heap.get? b = some o) ∧ F ys H
/-- the turns, told by the target's, the tests' and the element's readings -/
def Turns (J : It) (g : TG) (tt : TT) (te : TE) (vs : List Nat) : Prop := ∀ i m ys H, W i m ys H → (J.stop i H ∧ F ys H) ∨ (J.go i H ∧ ∀ x H', J.yld i H x H' → g x σ0 H' fun σ2 H2 => wipe σ2 vs = σ0 ∧ tt σ2 H2 fun b H3 =>
  if b = true then te σ2 H3 fun y H4 => C ys y H4 (∃ m', m' < m ∧ W (i + 1) m' (ys ++ [y]) H4) else ∃ m', m' < m ∧ W (i + 1) m' ys H3)
/-- what never changes of the consumer's and the iterator's objects -/
structure Stat : Prop where
  wr : ∀ b ∈ wr, b ≠ X.env.locals ∧ b ∉ X.fs ∧ X.s_0.heap.objs.size ≤ b ∧ (∀ x c, X.env.cells.lookup x = some c → c ≠ b) ∧ b ∉ fp
  fp : ∀ b ∈ fp, b ∈ X.ex
  pn : X.pn = []
end

section
variable {X : Cx} {B : Around} {σ0 : L2.St} {wr fp : List Addr} {tn : Nat → Heap → Prop} {hold : List V → Heap → Prop} {W : Nat → Nat → List V → Hp → Prop} {C : List V → V → Hp → Prop → Prop} {F : List V → Hp → Prop}
theorem Stat.fpOk {H : Hp} {s : Shared} (S : Stat X wr fp) {pins : List (Addr × Obj)} {σ : L2.St} (I : Inv X pins σ H s) (hn : ∀ b ∈ fp, H b = none) (hp : ∀ p ∈ pins, p.1 ∉ fp) : ∀ b ∈ fp, FpOk X pins H b := fun b hb => by
  have hx := S.fp b hb
  refine ⟨hn b hb, (I.ok.exf b hx).1, I.ok.exfs b hx, .inl hx, fun x c e => (I.ok.exf b hx).2 x c e, fun p z => ?_⟩
  rw [S.pn] at z
  intro e
  exact hp p (by simpa using z) (e ▸ hb)
theorem Stat.wrOk {H : Hp} (S : Stat X wr fp) (hn : ∀ b ∈ wr, H b = none) : ∀ b ∈ wr, FpOk X [] H b := fun b hb => by
  obtain ⟨h1, h2, h3, h4, _⟩ := S.wr b hb
  refine ⟨hn b hb, h1, h2, .inr h3, h4, fun p z => ?_⟩
  rw [S.pn] at z
  exact absurd (show p ∈ ([] : List (Addr × Obj)) ++ [] from z) (by simp)

theorem seg_genX {elt tg iter : Expr} {ifs : List Expr} {scope : Scope} {pos : Pos} {it : Addr} {J : It} {g : TG} {tt : TT} {te : TE} {vs : List Nat}
    (hX : X.A = B.deeper X.env) (hc : X.calm = true) (hxe : X.xe = fun _ _ => False) (hco : X.env.scope.isCoroutine = false)
    (S : Stat X wr fp) (Hd : Hold wr hold) (T : Turn X.prog X.w X.K tg J fp it tn) (pg : PG X tg g) (pt : PTs X ifs tt) (pe : PE X elt te)
    (turns : Turns σ0 W C F J g tt te vs) (hC : ∀ ys y H (P Q : Prop), (P → Q) → C ys y H P → C ys y H Q) :
    ∀ (n m i : Nat) (ys : List V) (s₀ s : Shared) (H : Hp), m < n → W i m ys H → GInv X σ0 wr fp tn i H s → hold ys s.heap → (∀ b ∈ wr, ∀ o, s₀.heap.get? b = some o → s.heap.get? b = some o) →
      Seg (model X.prog X.w) B (GR X σ0 wr hold F) (GY X σ0 wr fp tn hold W C) n s₀ (.compLoop (.GeneratorExp elt [⟨tg, iter, ifs, 0⟩] scope pos) 0 (.ref it) .none X.env)
        ((model X.prog X.w).den (.compLoop (.GeneratorExp elt [⟨tg, iter, ifs, 0⟩] scope pos) 0 (.ref it) .none X.env)) [] s := by
  intro n
  induction n using Nat.strongRecOn with
  | ind n ihn =>
  intro m
  induction m using Nat.strongRecOn with
  | ind m ih =>
    intro i ys s₀ s H hmn w hI hh hk0
    obtain ⟨I, st, nf, nw⟩ := hI
    show Seg _ B _ _ _ s₀ _ ((compTurn (.GeneratorExp elt [⟨tg, iter, ifs, 0⟩] scope pos) 0 (.ref it) .none X.env).onRaise (leaving X.env)) [] s
    rw [compTurn_gen, Sem.onRaise_eq_wrap]
    refine seg_bind_wrap (wpAny_standAt ?_)
    -- the consumer's objects pinned through the turn
    have I1 : Inv X ([] ++ pinsAt wr s.heap) σ0 H s := I.pinned (S.wrOk nw) (Hd.there _ _ hh)
    have pw : ∀ p ∈ ([] : List (Addr × Obj)) ++ pinsAt wr s.heap, p.1 ∉ fp := fun p hp z => by
      obtain ⟨hb, _⟩ := of_pinsAt (show p ∈ pinsAt wr s.heap by simpa using hp)
      exact (S.wr p.1 hb).2.2.2.2 z
    have f1 := S.fpOk I1 nf pw
    have keepW : ∀ {σ' : L2.St} {H' : Hp} {s' : Shared} {more : List (Addr × Obj)}, Inv X (([] ++ pinsAt wr s.heap) ++ more) σ' H' s' → (∀ b ∈ wr, ∀ o, s.heap.get? b = some o → s'.heap.get? b = some o) ∧ ∀ b ∈ wr, H' b = none := fun {σ' H' s' more} I' => by
      have z : ∀ b ∈ wr, ∀ o, s.heap.get? b = some o → s'.heap.get? b = some o ∧ H' b = none := fun b hb o e =>
        let q := I'.pin (b, o) (List.mem_append_right _ (List.mem_append_left _ (List.mem_append_right _ (mem_pinsAt hb e))))
        ⟨q.1, q.2.1⟩
      refine ⟨fun b hb o e => (z b hb o e).1, fun b hb => ?_⟩
      obtain ⟨o, e, _⟩ := Hd.there _ _ hh b hb
      exact (z b hb o e).2
    have nox : ∀ {α : Type} {t : Sem α} {Q : α → Shared → Prop} {Q' : α → Shared → Prop} {E : Value → Shared → Prop} {s1 : Shared}, wpAny (model X.prog X.w) X.A t Q X.xe s1 → (∀ a s', Q a s' → Q' a s') → wpAny (model X.prog X.w) (B.over (.compLoop (.GeneratorExp elt [⟨tg, iter, ifs, 0⟩] scope pos) 0 (.ref it) .none X.env) []) t Q' E s1 := fun {α t Q Q' E s1} h hQ => by
      rw [over_gen, ← hX]
      exact wpAny_mono h hQ fun e s' z => by rw [hxe] at z; exact z.elim
    rcases turns i m ys H w with ⟨stop, fin⟩ | ⟨go, step⟩
    · have td := T.done X rfl rfl rfl hc i _ s _ H X.xe I1 f1 st stop
      refine seg_bind_wrap (nox td fun r s1 hr => ?_)
      obtain ⟨rfl, I2⟩ := hr
      have kw := keepW (more := []) (by rw [List.append_nil]; exact I2)
      exact seg_end (.ok .next) ⟨rfl, ys, H, I2.unpinned (pins := []), kw.2, Hd.at_ _ _ _ kw.1 hh, fun b hb o e => kw.1 b hb o (hk0 b hb o e), fin⟩
    · have ti := T.item X rfl rfl rfl hc i _ s _ H X.xe I1 f1 st go
      refine seg_bind_wrap (nox ti fun r s1 hr => ?_)
      obtain ⟨u, rfl, h1⟩ := hr
      refine seg_bind_wrap (nox h1 fun _ s2 hs2 => ?_)
      obtain ⟨x, H2, I2, rx, yx, st2, n2⟩ := hs2
      have I2' := I2.pinned (S.fpOk I2 n2 pw) (T.obj _ _ st2)
      refine seg_bind_wrap (nox (pg.run _ s2 σ0 H2 x u _ I2' rx (step x H2 yx)) fun _ s3 hs3 => ?_)
      obtain ⟨σ3, H3, I3, hw3, q3⟩ := hs3
      refine seg_bind_wrap (nox (pt.run _ s3 σ3 H3 _ I3 q3) fun b s4 hs4 => ?_)
      obtain ⟨H4, I4, q4⟩ := hs4
      have back : ∀ {H' : Hp} {s' : Shared}, Inv X (([] ++ pinsAt wr s.heap) ++ pinsAt fp s2.heap) σ3 H' s' → (GInv X σ0 wr fp tn (i + 1) H' s' ∧ hold ys s'.heap) ∧ (∀ b ∈ wr, ∀ o, s₀.heap.get? b = some o → s'.heap.get? b = some o) := fun {H' s'} I' => by
        have kw := keepW I'
        have pin' : ∀ b ∈ fp, ∀ o, s2.heap.get? b = some o → s'.heap.get? b = some o ∧ H' b = none := fun b hb o e =>
          let z := I'.pin (b, o) (List.mem_append_right _ (List.mem_append_right _ (mem_pinsAt hb e)))
          ⟨z.1, z.2.1⟩
        have hl : σ0.length = σ3.length := by rw [← hw3, wipe_length]
        refine ⟨⟨⟨((I'.unpinned (pins := ([] ++ pinsAt wr s.heap))).unpinned (pins := [])).weak hl (fun j v e => ?_), T.keep _ _ _ st2 fun b hb o e => (pin' b hb o e).1, fun b hb => ?_, kw.2⟩, Hd.at_ _ _ _ kw.1 hh⟩, fun b hb o e => kw.1 b hb o (hk0 b hb o e)⟩
        · rw [← hw3] at e
          exact (wipe_some e).1
        · obtain ⟨o, e, _⟩ := T.obj _ _ st2 b hb
          exact (pin' b hb o e).2
      cases b with
      | false =>
        simp only [Bool.false_eq_true, if_false] at q4 ⊢
        obtain ⟨m', hm, w'⟩ := q4
        obtain ⟨⟨hI', hh'⟩, hk'⟩ := back I4
        exact seg_again rfl (ih m' hm (i + 1) ys s₀ s4 H4 (by omega) w' hI' hh' hk')
      | true =>
        simp only [if_true] at q4 ⊢
        obtain ⟨n', rfl⟩ : ∃ n', n = n' + 1 := ⟨n - 1, by omega⟩
        have hy : ∀ v, yieldOut X.env v = yieldValue v := fun v => by simp only [yieldOut, hco, Bool.false_eq_true, if_false]
        simp only [hy]
        rw [Sem.bind_eq_wrap', Sem.bind_eq_wrap', Sem.wrap_wrap, Sem.wrap_wrap]
        refine seg_wrap (nox (pe.run _ s4 σ3 H4 _ I4 q4) fun v s5 hs5 => ?_)
        obtain ⟨y, H5, I5, ry, q5⟩ := hs5
        obtain ⟨⟨hI5, hh5⟩, hk5⟩ := back I5
        refine seg_at (seg_yield rfl rfl rfl ⟨i, ys, y, H5, ry, hI5, hh5, hk5, ?_, fun s'' hI'' hh'' hw'' => ?_⟩)
        · exact hC _ _ _ _ _ (fun ⟨m', hm, w'⟩ => ⟨m', by omega, w'⟩) q5
        · obtain ⟨m', hm, w'⟩ := hw''
          exact seg_again rfl (ihn n' (Nat.lt_succ_self _) m' (i + 1) (ys ++ [y]) s'' s'' H5 hm w' hI'' hh'' fun _ _ _ e => e)
end
end GX
end

section
set_option Elab.async false
set_option linter.all false
set_option maxRecDepth 100000
set_option maxHeartbeats 2000000
namespace GX
open PySem PySem.Spec PyProof.Rows L2

theorem newEnv_gen {M : Model} {A : Around} {E : Value → Shared → Prop} {s : Shared} {scope : Scope} {globals : Addr} {closure : List (Str × Addr)} {qual : Str} {code it : Value} {builtins : Addr} {Q : Env → Shared → Prop}
    (hk : scope.kind = .function) (h0 : scope.names.lookup (".0" : Str) = some .local)
    (h : ∀ h' m, h'.Ns s.heap.objs.size m → Heap.SameBut s.heap.objs.size (pushCells (s.heap.push { cls := .type "frame", data := .dict #[] }) scope.names) h' →
      Q (newEnv scope s.heap.objs.size globals (cellsFrom (s.heap.objs.size + 1) scope.names closure) qual none code none builtins) { s with heap := h', toks := s.toks + 1 }) :
    wpAny M A (newFunctionEnv scope globals closure [(".0", it)] qual none code none builtins) Q E s := by
  simp only [newFunctionEnv, Option.isSome_none, Bool.false_eq_true, if_false]
  refine wpAny_bind (wpAny_alloc ?_)
  refine wpAny_bind (wpAny_layCells _ (fun n k c => rfl) scope.names closure _ _ ?_)
  rw [show ({ s with heap := s.heap.push { cls := .type "frame", data := .dict #[] } } : Shared).heap.objs.size = s.heap.objs.size + 1 from Heap.size_push ..]
  have hn0 : (pushCells (s.heap.push { cls := .type "frame", data := .dict #[] }) scope.names).Ns s.heap.objs.size (fun _ => none) := Heap.Ns.keeps (Heap.Ns.new ..) fun b o e => pushCells_keeps _ _ _ _ e
  simp only [List.forIn_cons, List.forIn_nil]
  refine wpAny_bind (wpAny_bind (wpAny_bind ?_))
  refine wpAny_storeName_local (m := fun _ => none) (env := { scope := scope, locals := s.heap.objs.size, globals := globals, cells := cellsFrom (s.heap.objs.size + 1) scope.names closure, qual := qual, func := none, code := code, frame := some s.heap.objs.size, builtins := builtins }) h0 hn0 (fun h' hn' hs => ?_) (by show (scope.kind == .class || _) = false; rw [hk]; rfl)
  exact wpAny_pure (wpAny_pure (wpAny_pure (h h' _ hn' hs)))

/-- a generator expression's object a, made at the def's context X: its frame's context is gcx X B s4 H2 scope cenv fp, whatever the place B from which it is woken -/
structure Made (X : Cx) (pins : List (Addr × Obj)) (σ : L2.St) (tg : Expr) (e : Expr) (scope : Scope) (own : List (Str × Nat)) (J : It) (H2 : Hp) (a : Addr) (s5 : Shared) : Prop where
  intro_ ::
  ex : ∃ (it : Addr) (fp : List Addr) (tn : Nat → Heap → Prop) (cenv : Env) (s4 : Shared) (g : Nat),
    Inv X pins σ H2 s4 ∧ Turn X.prog X.w X.K tg J fp it tn ∧ (∀ b ∈ fp, FpOk X pins H2 b ∧ b < s4.heap.objs.size) ∧ tn 0 s5.heap ∧
    cenv.locals = s4.heap.objs.size ∧ cenv.scope = scope ∧ cenv.globals = mainGlobals ∧
    (∀ B : Around, B.handled = none → B.frames = some X.stack → Inv (gcx X B s4 H2 scope cenv fp) [] (wipe σ (own.map (·.2))) H2 s5) ∧
    s4.heap.objs.size < a ∧ (∀ x c, cenv.cells.lookup x = some c → c < a) ∧ a < s5.heap.objs.size ∧ s5.heap.IsGen a g ∧ s5.gens[g]? = some (.fresh (.compStart e 0 (.ref it) .none cenv)) ∧
    (∀ b o, s4.heap.get? b = some o → s5.heap.get? b = some o) ∧ s5.os = s4.os ∧ AllBare s5.gens

section
variable {X : Cx} {pins : List (Addr × Obj)} {σ : L2.St} {H : Hp} {s : Shared}
theorem cellsFrom_lt : ∀ {names : List (Str × NameKind)} {h : Heap} {acc : List (Str × Addr)} {n : Nat} {x : Str} {c : Addr}, h.objs.size = n → (∀ p ∈ acc, p.2 < n) → (x, c) ∈ cellsFrom n names acc → c < (pushCells h names).objs.size
  | [], h, acc, n, x, c, hn, ha, hm => by
    show c < h.objs.size
    rw [hn]; exact ha (x, c) hm
  | (y, k) :: r, h, acc, n, x, c, hn, ha, hm => by
    unfold cellsFrom at hm
    unfold pushCells
    by_cases hk : (k == NameKind.cell) = true
    · rw [if_pos hk] at hm ⊢
      refine cellsFrom_lt (h := h.push { cls := .type "cell", data := .cell none }) (by rw [Heap.size_push, hn]) (fun p hp => ?_) hm
      rcases List.mem_cons.mp hp with e | hp
      · rw [e]; exact Nat.lt_succ_self _
      · exact Nat.lt_succ_of_lt (ha p hp)
    · rw [if_neg hk] at hm ⊢
      exact cellsFrom_lt hn ha hm

theorem make_gen {c P : Addr} {elt tg iter : Expr} {ifs : List Expr} {scope : Scope} {own : List (Str × Nat)} {gpos : Pos} {wi : TI} {k : Nat} {Q' : Value → Shared → Prop} {R : It → Hp → Prop}
    (hN : X.N.Nodup) (hr : Room k X.A) (TB : GxR.TabB X.base X.mg c P) (hcode : X.env.code = .ref c) (ok : GenOk X.N X.env.scope scope own) (hi : PI X tg iter wi)
    (hs : ∀ v, genFold iter X.env v = pure v) (I : Inv X pins σ H s) (h : wi σ H fun J H1 => GxR.TabG H1 P ∧ R J H1)
    (hQ : ∀ J H1 H2 a s5, R J H1 → GxR.Tabbed P H1 H2 → Made X pins σ tg (.GeneratorExp elt [⟨tg, iter, ifs, 0⟩] scope gpos) scope own J H2 a s5 → Q' (.ref a) s5) :
    wpAny (model X.prog X.w) X.A (eval (.GeneratorExp elt [⟨tg, iter, ifs, 0⟩] scope gpos) X.env) Q' X.xe s := by
  have hfree : ∀ y ∈ scope.names, y.2 = .free → ∃ c, X.env.cells.lookup y.1 = some c := fun y hy e => by
    rcases ok.free y hy e with k | k
    · exact I.ok.has _ (.inl k)
    · exact I.ok.has _ (.inr k)
  rw [eval_GeneratorExp1 _ _ _ _ _ _ _ ok.co, closure_ok hfree]
  refine wpAny_bind (thn (hi.run pins s σ H _ I h) fun xv s1 hx => ?_)
  refine wpAny_bind (wpAny_standAt ?_)
  refine wpAny_bind (wpAny_of_eq (hs xv) ?_)
  refine wpAny_bind (wpAny_holding (thn hx fun itv s2 h2 => ?_))
  obtain ⟨it, fp, tn, J, H1, e, I1, T, st2, f2, ⟨ps, hP, ht⟩, q1⟩ := h2
  subst e
  refine wpAny_bind (wpAny_enterFrame I1.nolimit (by have := hr.dp; omega) ?_)
  refine wpAny_bind (wpAny_pure ?_)
  have hPs : s2.heap.get? P = some { cls := .none, data := .fields ps } := I1.hok P _ hP
  have cd : PySem.W.CodeHd s2.heap c P := TB.code.keeps fun b u e => I1.bk b u e
  have sz : ∀ b ∈ fp, b < s2.heap.objs.size := fun b hb => by
    obtain ⟨o, e, _⟩ := T.obj _ _ st2 b hb
    exact Heap.lt_size e
  have nP : ∀ b ∈ fp, b ≠ P := fun b hb z => by
    have q := (f2 b hb).1
    rw [z, hP] at q
    cases q
  -- behind the code object
  have cont : ∀ (code : Value) (h3 : Heap) (tk : Nat) (ps' : Array Value), Heap.ExtBut P s2.heap h3 → s2.heap.objs.size ≤ h3.objs.size → h3.get? P = some { cls := .none, data := .fields ps' } → (∃ more, ps' = ps ++ more) → TriplesOk ps'.toList →
      wpAny (model X.prog X.w) X.A (do
        let bi ← builtinsFor X.env.globals X.env.builtins
        let cenv ← newFunctionEnv scope X.env.globals (cloFrom X.env.cells scope.names []) [(".0", .ref it)] (X.env.qual ++ "<genexpr>.") none code none bi
        newGenerator (.compStart (.GeneratorExp elt [⟨tg, iter, ifs, 0⟩] scope gpos) 0 (.ref it) .none cenv) "<genexpr>" (X.env.qual ++ "<genexpr>")) Q' X.xe { s2 with heap := h3, toks := tk } := by
    intro code h3 tk ps' hx hsz hP3 hmore ht3
    obtain ⟨more, rfl⟩ := hmore
    obtain ⟨bm, ob, e1, e2, e3, e4, e5, e6, e7, e8⟩ := TB.bm
    have keep3 : ∀ b u, b ≠ P → s2.heap.get? b = some u → h3.get? b = some u := fun b u hb e => hx b u hb e
    refine wpAny_bind (wpAny_builtinsFor (m := X.mg) (by rw [I1.ok.glob]; exact (I1.mod.glob.keeps I1.bk).extBut hx TB.gP) e1 e2 (keep3 _ _ e4 (I1.bk _ _ e5)) e6 e7 e8 ?_)
    have I3 : Inv X pins σ (upd H1 P (.tbl (ps ++ more))) { s2 with heap := h3, toks := tk } := GxR.inv_tab (g' := s2.gens) (d' := s2.drawn) I1 hP keep3 hP3 I1.bare
    have hT : GxR.Tabbed P H1 (upd H1 P (.tbl (ps ++ more))) := ⟨⟨ps ++ more, upd_same, ht3⟩, fun b hb => upd_ne hb⟩
    have f3 : ∀ b ∈ fp, FpOk X pins (upd H1 P (.tbl (ps ++ more))) b ∧ b < h3.objs.size := fun b hb => by
      refine ⟨⟨?_, (f2 b hb).2⟩, Nat.lt_of_lt_of_le (sz b hb) hsz⟩
      rw [upd_ne (nP b hb)]
      exact (f2 b hb).1
    refine wpAny_bind (newEnv_gen ok.kind ok.dot fun h4 m hn4 hs4 => ?_)
    simp only [newGenerator, newFields]
    refine wpAny_bind (wpAny_newGen (wpAny_bind (wpAny_mkText (wpAny_bind (wpAny_mkText (wpAny_newObj_type ?_ (by size_fits)))))))
    have hC : ({ s2 with heap := h3, toks := tk } : Shared).heap.objs.size = h3.objs.size := rfl
    have k4 : ∀ b o, h3.get? b = some o → h4.get? b = some o := fun b o e => hs4.extBut b o (Nat.ne_of_lt (Heap.lt_size e)) (pushCells_keeps _ _ _ _ (Heap.get?_push_of_some _ e))
    have sz4 : h4.objs.size = (pushCells (h3.push { cls := .type "frame", data := .dict #[] }) scope.names).objs.size := hs4.1
    have sz4' : h3.objs.size < h4.objs.size := by
      rw [sz4]
      refine Nat.lt_of_lt_of_le ?_ (pushCells_size scope.names _)
      rw [Heap.size_push]; exact Nat.lt_succ_self _
    refine hQ J H1 _ _ _ q1 hT ⟨it, fp, tn, newEnv scope h3.objs.size X.env.globals (cellsFrom (h3.objs.size + 1) scope.names (cloFrom X.env.cells scope.names [])) (X.env.qual ++ "<genexpr>.") none code none builtinsNs,
      { s2 with heap := h3, toks := tk }, s2.gens.size, I3, T, f3, ?_, rfl, rfl, I3.ok.glob, fun B hB1 hB2 => ?_, ?_, fun x c e => ?_, ?_, ?_, ?_, ?_, rfl, ?_⟩
    · exact T.keep _ _ _ st2 fun b hb o e => Heap.get?_push_of_some _ (k4 _ _ (keep3 b o (nP b hb) e))
    · refine gen_start (cenv := newEnv scope h3.objs.size X.env.globals (cellsFrom (h3.objs.size + 1) scope.names (cloFrom X.env.cells scope.names [])) (X.env.qual ++ "<genexpr>.") none code none builtinsNs) I3 ok hN f3 hB1 hB2 rfl rfl rfl rfl I3.ok.glob rfl rfl (m := m) ?_ (fun b o hb e => Heap.get?_push_of_some _ (hs4.extBut b o hb e)) (AllBare.push (g := .fresh _) I1.bare rfl)
      exact hn4.push _
    · exact sz4'
    · have e' := PySem.mem_of_lookup e
      show c < h4.objs.size
      rw [sz4]
      refine cellsFrom_lt (acc := cloFrom X.env.cells scope.names []) (n := h3.objs.size + 1) (Heap.size_push ..) (fun p hp => ?_) e'
      rcases cloFrom_mem (n := p.1) (c := p.2) hp with hm | ⟨h1, h2⟩
      · cases hm
      · obtain ⟨c, hc⟩ := hfree _ h1 rfl
        rw [h2, hc]
        obtain ⟨w, z⟩ := I3.cell _ _ hc
        exact Nat.lt_succ_of_lt z.lt
    · show h4.objs.size < (h4.push _).objs.size
      rw [Heap.size_push]; exact Nat.lt_succ_self _
    · exact ⟨_, _, _, Heap.get?_push_size _ rfl, rfl, rfl, rfl⟩
    · exact Array.getElem?_push_size ..
    · exact fun b o e => Heap.get?_push_of_some _ (k4 _ _ e)
    · exact AllBare.push (g := .fresh _) I1.bare rfl
  cases hf : codeAmong gpos ps.toList with
  | none =>
    refine wpAny_bind (wpAny_genexprCodeX hcode (cd.code hPs ht) (cd.tab hPs) hf fun c' h' tk hx hge hlt hco' _ htab' _ => ?_)
    obtain ⟨o1, vs, f1, tf, fl, tg, inF, tx, tt, op, _, _, _, _, _, _, _, _, _, htr, _⟩ := hco'
    exact cont _ h' tk _ hx (Nat.le_trans hge (Nat.le_of_lt hlt)) htab'.2 ⟨_, rfl⟩ htr
  | some cv =>
    refine wpAny_bind (wpAny_genexprCode_hit hcode (cd.code hPs ht) hf ?_)
    exact cont cv s2.heap s2.toks ps (Heap.ExtBut.refl _ _) (Nat.le_refl _) hPs ⟨#[], by simp⟩ ht
end
end GX
end

section
set_option Elab.async false
set_option linter.all false
set_option maxRecDepth 100000
set_option maxHeartbeats 2000000
namespace GX
open PySem PySem.Spec PyProof.Rows L2

theorem inv_gens {X : Cx} {pins : List (Addr × Obj)} {σ : L2.St} {H : Hp} {s : Shared} {g' : Array GenState} {h' : Heap} {t' : Nat} (I : Inv X pins σ H s) (hg : AllBare g') (hk : ∀ b o, s.heap.get? b = some o → h'.get? b = some o) :
    Inv X pins σ H { s with heap := h', gens := g', toks := t' } := by
  have J := I.kept (h' := h') (t' := t') hk
  exact ⟨J.ok, J.os, hg, J.base, J.loc, J.cell, J.free, J.freeC, J.pin, J.hok, J.len⟩

section
variable {X : Cx} {σ0 : L2.St} {wr fp : List Addr} {tn : Nat → Heap → Prop} {hold : List V → Heap → Prop} {W : Nat → Nat → List V → Hp → Prop} {C : List V → V → Hp → Prop → Prop} {F : List V → Hp → Prop}
theorem GInv.keep {i : Nat} {H : Hp} {s : Shared} {g' : Array GenState} {h' : Heap} {t' : Nat} (hT : ∀ i h h', tn i h → (∀ b ∈ fp, ∀ o, h.get? b = some o → h'.get? b = some o) → tn i h') (h : GInv X σ0 wr fp tn i H s) (hg : AllBare g') (hk : ∀ b o, s.heap.get? b = some o → h'.get? b = some o) :
    GInv X σ0 wr fp tn i H { s with heap := h', gens := g', toks := t' } :=
  ⟨inv_gens h.1 hg hk, hT _ _ _ h.2.1 fun b _ o e => hk b o e, h.2.2.1, h.2.2.2⟩

/-- the generator a at rest, to be woken from A; at most n values are still to come -/
def GAt (A : Around) (X : Cx) (σ0 : L2.St) (wr fp : List Addr) (tn : Nat → Heap → Prop) (hold : List V → Heap → Prop) (W : Nat → Nat → List V → Hp → Prop) (C : List V → V → Hp → Prop → Prop) (F : List V → Hp → Prop) (a : Addr) (g n : Nat) (s : Shared) : Prop :=
  s.heap.IsGen a g ∧ s.heap.NoLimit ∧ ∃ gs, s.gens[g]? = some gs ∧ gs.Goes (model X.prog X.w) A.in1 (GR X σ0 wr hold F) (GY X σ0 wr fp tn hold W C) n (.send .none) (s.setGen g .running)

/-- what stands behind one step of it -/
def Stepped (A : Around) (X : Cx) (σ0 : L2.St) (wr fp : List Addr) (tn : Nat → Heap → Prop) (hold : List V → Heap → Prop) (W : Nat → Nat → List V → Hp → Prop) (C : List V → V → Hp → Prop → Prop) (F : List V → Hp → Prop) (a : Addr) (g n : Nat) (s : Shared) (r : Option Value) (s' : Shared) : Prop := (∀ b ∈ wr, ∀ o, s.heap.get? b = some o → s'.heap.get? b = some o) ∧
  match r with
  | none => ∃ ys H, Inv X [] σ0 H s' ∧ (∀ b ∈ wr, H b = none) ∧ hold ys s'.heap ∧ F ys H
  | some v => ∃ i ys y H, RelV y v ∧ GInv X σ0 wr fp tn (i + 1) H s' ∧ hold ys s'.heap ∧ C ys y H (∃ m, m < n - 1 ∧ W (i + 1) m (ys ++ [y]) H) ∧ g < s'.gens.size ∧
      ∀ h' t', GInv X σ0 wr fp tn (i + 1) H { s' with heap := h', toks := t' } → hold (ys ++ [y]) h' → (∃ m, m < n - 1 ∧ W (i + 1) m (ys ++ [y]) H) → ∃ m, n = m + 1 ∧ GAt A X σ0 wr fp tn hold W C F a g m { s' with heap := h', toks := t' }

theorem gnext {A : Around} {a : Addr} {g n : Nat} {s : Shared} {Q : Option Value → Shared → Prop} {E : Value → Shared → Prop} (hh : A.handled = none) (hroom : A.depth < recursionLimit) (Hd : Hold wr hold) (hgen : ∀ ys h, hold ys h → h.IsGen a g)
    (hT : ∀ i h h', tn i h → (∀ b ∈ fp, ∀ o, h.get? b = some o → h'.get? b = some o) → tn i h')
    (h : GAt A X σ0 wr fp tn hold W C F a g n s) (hQ : ∀ r s', Stepped A X σ0 wr fp tn hold W C F a g n s r s' → Q r s') : wpAny (model X.prog X.w) A (pyNext (.ref a)) Q E s := by
  obtain ⟨hg, hl, gs, hgs, hgo⟩ := h
  have hgl : g < s.gens.size := (Array.getElem?_eq_some_iff.mp hgs).1
  refine GenW.wpAny_gsz (n := g + 1) hgl (wpAny_pyNext_genexpQ (P := fun _ s0 s1 => ∃ ys H, Inv X [] σ0 H s1 ∧ (∀ b ∈ wr, H b = none) ∧ hold ys s1.heap ∧ (∀ b ∈ wr, ∀ o, s0.heap.get? b = some o → s1.heap.get? b = some o) ∧ F ys H) hh hl hroom hg hgs hgo (fun v s₁ gs' hb hv hsz => ?_) (fun s₁ hp h' hk hsz => ?_))
  · obtain ⟨i, ys, y, H, ry, hI, hho, hk0, hC, hk⟩ := hv
    have hsz1 : g < s₁.gens.size := by
      have q : (s₁.setGen g gs').gens.size = s₁.gens.size := GenW.setGen_size _ _ _
      omega
    have hb' : AllBare (s₁.setGen g gs').gens := allBare_setGen hI.1.bare hb
    refine hQ _ _ ⟨hk0, i, ys, y, H, ry, hI.keep (h' := s₁.heap) (t' := s₁.toks) hT hb' (fun _ _ e => e), hho, hC, by omega, fun h' t' hI' hho' hw => ?_⟩
    cases n with
    | zero =>
      obtain ⟨m, hm, _⟩ := hw
      exact absurd hm (by omega)
    | succ n =>
      refine ⟨n, rfl, hgen _ _ hho', hI'.1.nolimit, gs', ?_, ?_⟩
      · exact setGen_at hsz1
      · refine hk _ ?_ hho' hw
        exact hI'.keep (h' := h') (t' := t') hT (allBare_setGen (s := { s₁.setGen g gs' with heap := h', toks := t' }) hb' rfl) (fun _ _ e => e)
  · obtain ⟨ys, H, I1, hw, hho, hk0, hF⟩ := hp
    exact hQ _ _ ⟨fun b hb o e => hk b o (hk0 b hb o e), ys, H, inv_gens (s := s₁) (g' := (s₁.setGen g .finished).gens) (t' := s₁.toks) I1 (allBare_setGen I1.bare rfl) hk, hw, Hd.at_ _ _ _ (fun b _ o e => hk b o e) hho, hF⟩

theorem tru_any {A : Around} {E : Value → Shared → Prop} {pins : List (Addr × Obj)} {σ : L2.St} {H : Hp} {s : Shared} {x : V} {v : Value} {k : Bool} {Q : Bool → Shared → Prop} (I : Inv X pins σ H s) (rx : RelV x v) (e : TruV X.K x H k) (q : ∀ tk, Q k { s with toks := tk }) :
    wpAny (model X.prog X.w) A (truthy v) Q E s := by
  have hl := line63
  have hs : sizeLine = 16777216 := sizeLine_eq
  cases x with
  | non =>
    cases rx
    have e' : k = false := e
    subst e'
    exact truthy_none (q s.toks)
  | bl b =>
    cases rx
    have e' : k = b := e
    subst e'
    exact wpAny_truthy_bool (q s.toks)
  | int i =>
    obtain ⟨t, rfl⟩ := rx
    have e' : k = (i != 0) := e
    subst e'
    exact PySem.P.truthy_int (q s.toks)
  | str y =>
    obtain ⟨t, rfl⟩ := rx
    obtain ⟨hy, e'⟩ : y.length ≤ sizeLine ∧ k = ((y.length : Int) != 0) := e
    subst e'
    exact PySem.P.truthy_str (by omega) (q _)
  | byt y =>
    obtain ⟨t, rfl⟩ := rx
    obtain ⟨hy, e'⟩ : y.size ≤ sizeLine ∧ k = ((y.size : Int) != 0) := e
    subst e'
    exact PySem.W.truthy_bytes (by omega) (q _)
  | ref p =>
    cases rx
    have e' : (∃ xs, SqL X.K H p xs ∧ k = !xs.isEmpty) ∨ (∃ xs, SqT X.K H p xs ∧ k = !xs.isEmpty) ∨ ∃ kvs, H p = some (.dK kvs) ∧ k = !kvs.isEmpty := e
    rcases e' with ⟨xs, hx, e'⟩ | ⟨xs, hx, e'⟩ | ⟨kvs, hx, e'⟩
    · subst e'
      obtain ⟨its, r, pl, hz⟩ := I.list hx
      have hlen := r.length
      exact wpAny_truthy_list pl.isList (by simp only [List.size_toArray]; omega) (by rw [isEmpty_of r]; exact q _)
    · subst e'
      obtain ⟨its, r, pl, hz⟩ := I.tuple hx
      have hlen := r.length
      exact truthy_tuple pl (by simp only [List.size_toArray]; omega) (by rw [isEmpty_of r]; exact q _)
    · subst e'
      obtain ⟨hz, hS, vs, r, m⟩ : kvs.length ≤ sizeLine ∧ (p == sysModules) = false ∧ ∃ vs, KV kvs vs ∧ s.heap.DictOf (mixKind X.prog X.w) p vs := I.hok p _ hx
      have hlen : kvs.length = vs.length := Paired.length r
      exact wpAny_truthy_dict hS m (by omega) (by rw [isEmpty_kv r]; exact q _)
  | _ => exact (show False from e).elim

/-- what all and any ask of an element: its truth; b ends the walk -/
def CTru (K : PySem.W.Frag) (b : Bool) (Qf : Hp → Prop) : List V → V → Hp → Prop → Prop := fun _ y H P => ∃ k, TruV K y H k ∧ if k = b then Qf H else P
theorem CTru.mono {K : PySem.W.Frag} {b : Bool} {Qf : Hp → Prop} : ∀ ys y H (P Q : Prop), (P → Q) → CTru K b Qf ys y H P → CTru K b Qf ys y H Q := fun ys y H P Q h ⟨k, e, q⟩ => ⟨k, e, by
  split at q
  · rename_i z; rw [if_pos z]; exact q
  · rename_i z; rw [if_neg z]; exact h q⟩

theorem all_loop {A : Around} {a : Addr} {g : Nat} {Qf : Hp → Prop} {R : Result → Shared → Prop} (hh : A.handled = none) (hroom : A.depth < recursionLimit) (Hd : Hold wr hold) (hgen : ∀ ys h, hold ys h → h.IsGen a g) (hh2 : ∀ ys y h, hold ys h → hold (ys ++ [y]) h)
    (hT : ∀ i h h', tn i h → (∀ b ∈ fp, ∀ o, h.get? b = some o → h'.get? b = some o) → tn i h')
    (hend : ∀ ys H s', Inv X [] σ0 H s' → F ys H → R (.ok (.ret (.bool true))) s') (hstop : ∀ H s', Inv X [] σ0 H s' → Qf H → R (.ok (.ret (.bool false))) s') :
    ∀ n s, GAt A.in1 X σ0 wr fp tn hold W (CTru X.K false Qf) F a g n s → codeAny (model X.prog X.w) A (.builtin "all.loop" ⟨[.ref a], []⟩) R s := by
  intro n
  induction n using Nat.strongRecOn with
  | ind n ih =>
  intro s h
  refine codeAny_builtin PySem.F.entry_all_loop ?_
  rw [Around.under_plainId PySem.F.plain_all_loop _]
  show wpAny _ A.in1 (pyNext (.ref a) >>= _) _ _ s
  refine wpAny_bind (gnext (A := A.in1) hh hroom Hd hgen hT h fun r s' st => ?_)
  cases r with
  | none =>
    obtain ⟨_, ys, H, I, _, _, hF⟩ := st
    exact wpAny_bind (wpAny_rule (wpAny_pure (hend ys H s' I hF)))
  | some v =>
    obtain ⟨_, i, ys, y, H, ry, hI, hho, ⟨k, hk, hC⟩, hsz, hgo⟩ := st
    refine wpAny_bind (wpAny_holding (tru_any hI.1 ry hk fun tk => ?_))
    refine wpAny_bind (wpAny_letGo ?_)
    cases k with
    | true =>
      rw [if_neg (by decide)] at hC
      obtain ⟨m, e, hg⟩ := hgo s'.heap tk (hI.keep (g' := s'.gens) hT hI.1.bare fun _ _ e => e) (hh2 _ _ _ hho) hC
      exact wpAny_pure ⟨plainId_quiet PySem.F.plain_all_loop _, ih m (by omega) _ hg⟩
    | false =>
      rw [if_pos rfl] at hC
      exact wpAny_bind (wpAny_rule (wpAny_pure (hstop H _ (hI.1.tok tk) hC)))
theorem any_loop {A : Around} {a : Addr} {g : Nat} {Qf : Hp → Prop} {R : Result → Shared → Prop} (hh : A.handled = none) (hroom : A.depth < recursionLimit) (Hd : Hold wr hold) (hgen : ∀ ys h, hold ys h → h.IsGen a g) (hh2 : ∀ ys y h, hold ys h → hold (ys ++ [y]) h)
    (hT : ∀ i h h', tn i h → (∀ b ∈ fp, ∀ o, h.get? b = some o → h'.get? b = some o) → tn i h')
    (hend : ∀ ys H s', Inv X [] σ0 H s' → F ys H → R (.ok (.ret (.bool false))) s') (hstop : ∀ H s', Inv X [] σ0 H s' → Qf H → R (.ok (.ret (.bool true))) s') :
    ∀ n s, GAt A.in1 X σ0 wr fp tn hold W (CTru X.K true Qf) F a g n s → codeAny (model X.prog X.w) A (.builtin "any.loop" ⟨[.ref a], []⟩) R s := by
  intro n
  induction n using Nat.strongRecOn with
  | ind n ih =>
  intro s h
  refine codeAny_builtin PySem.F.entry_any_loop ?_
  rw [Around.under_plainId PySem.F.plain_any_loop _]
  show wpAny _ A.in1 (pyNext (.ref a) >>= _) _ _ s
  refine wpAny_bind (gnext (A := A.in1) hh hroom Hd hgen hT h fun r s' st => ?_)
  cases r with
  | none =>
    obtain ⟨_, ys, H, I, _, _, hF⟩ := st
    exact wpAny_bind (wpAny_rule (wpAny_pure (hend ys H s' I hF)))
  | some v =>
    obtain ⟨_, i, ys, y, H, ry, hI, hho, ⟨k, hk, hC⟩, hsz, hgo⟩ := st
    refine wpAny_bind (wpAny_holding (tru_any hI.1 ry hk fun tk => ?_))
    refine wpAny_bind (wpAny_letGo ?_)
    cases k with
    | false =>
      rw [if_neg (by decide)] at hC
      obtain ⟨m, e, hg⟩ := hgo s'.heap tk (hI.keep (g' := s'.gens) hT hI.1.bare fun _ _ e => e) (hh2 _ _ _ hho) hC
      exact wpAny_pure ⟨plainId_quiet PySem.F.plain_any_loop _, ih m (by omega) _ hg⟩
    | true =>
      rw [if_pos rfl] at hC
      exact wpAny_bind (wpAny_rule (wpAny_pure (hstop H _ (hI.1.tok tk) hC)))
end
end GX
end

section
set_option Elab.async false
set_option linter.all false
set_option maxRecDepth 100000
set_option maxHeartbeats 2000000
namespace GX
open PySem PySem.Spec PyProof.Rows L2

section
variable {X : Cx} {B : Around} {σ0 : L2.St} {wr fp : List Addr} {tn : Nat → Heap → Prop} {hold : List V → Heap → Prop} {W : Nat → Nat → List V → Hp → Prop} {C : List V → V → Hp → Prop → Prop} {F : List V → Hp → Prop}
theorem seg_genStart {elt tg iter : Expr} {ifs : List Expr} {scope : Scope} {pos : Pos} {it : Addr} {J : It} {n i : Nat} {s₀ s : Shared}
    (T : Turn X.prog X.w X.K tg J fp it tn) (st : tn i s.heap)
    (loop : Seg (model X.prog X.w) B (GR X σ0 wr hold F) (GY X σ0 wr fp tn hold W C) n s₀ (.compLoop (.GeneratorExp elt [⟨tg, iter, ifs, 0⟩] scope pos) 0 (.ref it) .none X.env)
        ((model X.prog X.w).den (.compLoop (.GeneratorExp elt [⟨tg, iter, ifs, 0⟩] scope pos) 0 (.ref it) .none X.env)) [] s) :
    Seg (model X.prog X.w) B (GR X σ0 wr hold F) (GY X σ0 wr fp tn hold W C) n s₀ (.compStart (.GeneratorExp elt [⟨tg, iter, ifs, 0⟩] scope pos) 0 (.ref it) .none X.env)
        ((model X.prog X.w).den (.compStart (.GeneratorExp elt [⟨tg, iter, ifs, 0⟩] scope pos) 0 (.ref it) .none X.env)) [] s := by
  show Seg _ B _ _ _ s₀ _ ((compStart (.GeneratorExp elt [⟨tg, iter, ifs, 0⟩] scope pos) 0 (.ref it) .none X.env).onRaise (leaving X.env)) [] s
  unfold compStart
  rw [Sem.onRaise_eq_wrap]
  show Seg _ B _ _ _ s₀ _ ((ask >>= _).wrap _ _ _ _) [] s
  refine seg_bind_wrap (wpAny_askSetting ?_)
  split
  · exact seg_again rfl loop
  · first
      | exact seg_bind_wrap (wpAny_rule (seg_bind_wrap (wpAny_standAt (seg_bind_wrap (T.self _ i s _ _ st (seg_again rfl loop))))))
      | (refine seg_bind_wrap (wpAny_rule ?_); show Seg _ B _ _ _ s₀ _ ((standAt iter.pos >>= _).wrap _ _ _ _) [] s; exact seg_bind_wrap (wpAny_standAt (seg_bind_wrap (T.self _ i s _ _ st (seg_again rfl loop)))))
end

/-- the readings of a generator expression's parts, in its frame's context -/
structure Parts (X : Cx) (k : Nat) (scope : Scope) (tg elt : Expr) (ifs : List Expr) (g : TG) (tt : TT) (te : TE) : Prop where
  pg : ∀ (B : Around) (s : Shared) (H : Hp) (cenv : Env) (fp : List Addr), Room k (B.deeper cenv) → (B.deeper cenv).guards = X.A.guards → cenv.scope = scope → PG (gcx X B s H scope cenv fp) tg g
  pt : ∀ (B : Around) (s : Shared) (H : Hp) (cenv : Env) (fp : List Addr), Room k (B.deeper cenv) → (B.deeper cenv).guards = X.A.guards → cenv.scope = scope → PTs (gcx X B s H scope cenv fp) ifs tt
  pe : ∀ (B : Around) (s : Shared) (H : Hp) (cenv : Env) (fp : List Addr), Room k (B.deeper cenv) → (B.deeper cenv).guards = X.A.guards → cenv.scope = scope → PE (gcx X B s H scope cenv fp) elt te

/-- what a consumer gets: the generator a at rest, to be woken from A; and the way back into the def's context -/
theorem made_at {X : Cx} {pins : List (Addr × Obj)} {σ : L2.St} {tg elt iter : Expr} {ifs : List Expr} {scope : Scope} {own : List (Str × Nat)} {gpos : Pos} {J : It} {H2 : Hp} {a : Addr} {s5 : Shared} {A : Around} {k : Nat} {g : TG} {tt : TT} {te : TE}
    {W : Nat → Nat → List V → Hp → Prop} {C : List V → V → Hp → Prop → Prop} {F : List V → Hp → Prop} {wrc : List Addr} {holdc : List V → Heap → Prop} {h6 : Heap} {t6 : Nat}
    (M : Made X pins σ tg (.GeneratorExp elt [⟨tg, iter, ifs, 0⟩] scope gpos) scope own J H2 a s5) (ok : GenOk X.N X.env.scope scope own) (P : Parts X k scope tg elt ifs g tt te)
    (hA : A.handled = none) (hf : A.frames = some X.stack) (hgd : A.guards = X.A.guards) (hr : ∀ cenv, Room k (A.in1.deeper cenv))
    (hC : ∀ ys y H (P Q : Prop), (P → Q) → C ys y H P → C ys y H Q) (turns : Turns (wipe σ (own.map (·.2))) W C F J g tt te (own.map (·.2))) {m0 : Nat} (w0 : W 0 m0 [] H2)
    (h6k : ∀ b o, s5.heap.get? b = some o → h6.get? b = some o) (Hdc : Hold wrc holdc) (hc0 : holdc [] h6) (hwc : ∀ b ∈ wrc, s5.heap.objs.size ≤ b) :
    ∃ (Xg : Cx) (fp : List Addr) (tn : Nat → Heap → Prop) (gg n : Nat), Xg.prog = X.prog ∧ Xg.w = X.w ∧ Xg.K = X.K ∧
      GAt A Xg (wipe σ (own.map (·.2))) (a :: wrc) fp tn (fun ys h => h.IsGen a gg ∧ holdc ys h) W C F a gg n { s5 with heap := h6, toks := t6 } ∧
      (∀ i h h', tn i h → (∀ b ∈ fp, ∀ o, h.get? b = some o → h'.get? b = some o) → tn i h') ∧ Hold (a :: wrc) (fun ys h => h.IsGen a gg ∧ holdc ys h) ∧
      (∀ b ∈ fp, b < s5.heap.objs.size) ∧ Stat Xg (a :: wrc) fp ∧
      (∀ H' s', Inv Xg [] (wipe σ (own.map (·.2))) H' s' → Inv X pins σ H' s') := by
  obtain ⟨it, fp, tn, cenv, s4, gg, I4, T, f4, tn0, hL, hsc, hgl, hI, ha1, hac, ha2, hgen, hgs, hk5, hos, hb5⟩ := M.ex
  have Ig := hI A.in1 hA hf
  have I6 : Inv (gcx X A.in1 s4 H2 scope cenv fp) [] (wipe σ (own.map (·.2))) H2 { s5 with heap := h6, toks := t6 } := Ig.kept h6k
  have fpl : ∀ b ∈ fp, b < s5.heap.objs.size := fun b hb => Nat.lt_trans (f4 b hb).2 (Nat.lt_trans ha1 ha2)
  have frl : ∀ b ∈ frs X.stack, b < s4.heap.objs.size := fun b hb => by
    obtain ⟨_, o, ho, _⟩ := I4.stack.mem hb
    exact Heap.lt_size ho
  have wrs : ∀ b ∈ a :: wrc, a ≤ b := fun b hb => by
    rcases List.mem_cons.mp hb with e | hb
    · rw [e]; exact Nat.le_refl _
    · exact Nat.le_of_lt (Nat.lt_of_lt_of_le ha2 (hwc b hb))
  have S : Stat (gcx X A.in1 s4 H2 scope cenv fp) (a :: wrc) fp := by
    refine ⟨fun b hb => ?_, fun b hb => hb, rfl⟩
    have hab := wrs b hb
    have hab' : a ≤ b := hab
    refine ⟨?_, fun z => ?_, ?_, fun x c e z => ?_, fun z => ?_⟩
    · show b ≠ cenv.locals
      rw [hL]; exact Nat.ne_of_gt (Nat.lt_of_lt_of_le ha1 hab)
    · exact absurd (Nat.lt_of_lt_of_le (frl b z) (Nat.le_of_lt (Nat.lt_of_lt_of_le ha1 hab))) (Nat.lt_irrefl _)
    · exact Nat.le_of_lt (Nat.lt_of_lt_of_le ha1 hab)
    · have q := hac x c e
      rw [z] at q
      exact absurd (Nat.lt_of_lt_of_le q hab) (Nat.lt_irrefl _)
    · exact absurd (Nat.lt_of_lt_of_le (f4 b z).2 (Nat.le_of_lt (Nat.lt_of_lt_of_le ha1 hab))) (Nat.lt_irrefl _)
  have Hd : Hold (a :: wrc) (fun ys h => h.IsGen a gg ∧ holdc ys h) := by
    refine ⟨fun ys h h' k ⟨hg, hc⟩ => ⟨?_, Hdc.at_ ys h h' (fun b hb o e => k b (List.mem_cons_of_mem _ hb) o e) hc⟩, fun ys h ⟨hg, hc⟩ b hb => ?_⟩
    · obtain ⟨o, nm, qn, ho, r⟩ := hg
      exact ⟨o, nm, qn, k a List.mem_cons_self o ho, r⟩
    · rcases List.mem_cons.mp hb with e | hb
      · obtain ⟨o, nm, qn, ho, hc1, hd1, hs1⟩ := hg
        rw [e]
        exact ⟨o, ho, fun v z => by rw [hd1] at z; cases z⟩
      · exact Hdc.there ys h hc b hb
  have hnw : ∀ b ∈ a :: wrc, H2 b = none := fun b hb => I4.hok.fresh (Nat.le_of_lt (Nat.lt_of_lt_of_le ha1 (wrs b hb)))
  refine ⟨gcx X A.in1 s4 H2 scope cenv fp, fp, tn, gg, m0 + 1, rfl, rfl, rfl, ⟨hgen.keeps h6k, I6.nolimit, _, hgs, rfl, ?_⟩, fun i h h' => T.keep i h h', Hd, fpl, S, fun H' s' I' => ?_⟩
  · refine seg_genStart (X := gcx X A.in1 s4 H2 scope cenv fp) (J := J) (i := 0) T (T.keep _ _ _ tn0 fun b _ o e => h6k b o e) ?_
    refine seg_genX (X := gcx X A.in1 s4 H2 scope cenv fp) rfl rfl rfl (by show cenv.scope.isCoroutine = false; rw [hsc]; exact ok.co) S Hd T (P.pg _ _ _ _ _ (hr cenv) hgd hsc) (P.pt _ _ _ _ _ (hr cenv) hgd hsc) (P.pe _ _ _ _ _ (hr cenv) hgd hsc) turns hC (m0 + 1) m0 0 [] _ _ H2 (Nat.lt_succ_self _) w0 ⟨?_, T.keep _ _ _ tn0 fun b _ o e => h6k b o e, fun b hb => (f4 b hb).1.1, hnw⟩ ⟨hgen.keeps h6k, hc0⟩ (fun _ _ _ e => e)
    exact inv_gens (h' := h6) (t' := t6) I6 (allBare_setGen (s := { s5 with heap := h6, toks := t6 }) hb5 rfl) fun _ _ e => e
  · exact I4.call' (ch := fp) I'.os I'.base I'.hok I'.bare fun b hb => ⟨(f4 b hb).1.2.2.2.1, (f4 b hb).1.2.1, (f4 b hb).1.2.2.2.2.1, (f4 b hb).1.2.2.2.2.2⟩
end GX
end

section
set_option Elab.async false
set_option linter.all false
set_option maxRecDepth 100000
set_option maxHeartbeats 2000000
namespace GX
open PySem PySem.Spec PyProof.Rows L2

theorem hold_nil : Hold [] (fun (_ : List V) (_ : Heap) => True) := ⟨fun _ _ _ _ _ => trivial, fun _ _ _ b hb => absurd hb (by simp)⟩

/-- all(..), any(..) of a generator expression: b ends the walk -/
def tGenB (P : Addr) (K : PySem.W.Frag) (b : Bool) (wi : TI) (g : TG) (tt : TT) (te : TE) (vs : List Nat) : TE := fun σ H Q => wi σ H fun J H1 => GxR.TabG H1 P ∧ ∀ H2, GxR.Tabbed P H1 H2 → ∃ W : Nat → Nat → List V → Hp → Prop, (∃ m, W 0 m [] H2) ∧
  Turns (wipe σ vs) W (CTru K b (fun H' => Q (.bl b) H')) (fun _ H' => Q (.bl (!b)) H') J g tt te vs

section
variable {X : Cx}
theorem room_gen {k : Nat} {A : Around} (r : Room (k + 1) A) (cenv : Env) : Room k (A.in1.in1.deeper cenv) :=
  ⟨r.hd, by have := r.dp; show A.depth + 1 + 3 * k + 5 < _; omega, by have := r.un; show A.units + 1 + 1 + 3 + 16 * k + 200 < _; omega⟩

theorem pe_genall {c P : Addr} {elt tg iter : Expr} {ifs : List Expr} {scope : Scope} {own : List (Str × Nat)} {p gpos pos : Pos} {wi : TI} {g : TG} {tt : TT} {te : TE} {k : Nat}
    (hN : X.N.Nodup) (hr : Room (k + 1) X.A) (hg : Gl X "all") (hm : X.mg "all" = none) (TB : GxR.TabB X.base X.mg c P) (hcode : X.env.code = .ref c) (ok : GenOk X.N X.env.scope scope own) (hi : PI X tg iter wi) (Pt : Parts X k scope tg elt ifs g tt te)
    (hs : ∀ v, genFold iter X.env v = pure v)
    (he : starEach [.GeneratorExp elt [⟨tg, iter, ifs, 0⟩] scope gpos] X.env = (false, eval (.GeneratorExp elt [⟨tg, iter, ifs, 0⟩] scope gpos) X.env) :: starEach [] X.env := by rfl) :
    PE X (.Call (.Name "all" p) [.GeneratorExp elt [⟨tg, iter, ifs, 0⟩] scope gpos] [] pos) (tGenB P X.K false wi g tt te (own.map (·.2))) := by
  refine ⟨fun pins s σ H Q I h => ?_⟩
  refine wpAny_Call_Name_kw (ld_blt I hg hm boot_all ?_)
  refine PyProof.Rows.callWith_builtin1 ?_ he (by rfl)
  rw [he]
  show wpAny _ _ (spliced ((false, eval (.GeneratorExp elt [⟨tg, iter, ifs, 0⟩] scope gpos) X.env) :: backTo pos (starEach [] X.env))) _ _ s
  refine Calls.spliced_cons (make_gen (k := k + 1) (R := fun J H1 => ∀ H2, GxR.Tabbed P H1 H2 → ∃ W : Nat → Nat → List V → Hp → Prop, (∃ m, W 0 m [] H2) ∧
    Turns (wipe σ (List.map (fun x : Str × Nat => x.2) own)) W (CTru X.K false (fun H' => Q (.bl false) H')) (fun _ H' => Q (.bl (!false)) H') J g tt te (List.map (fun x : Str × Nat => x.2) own)) hN hr TB hcode ok hi hs I h fun J H1 H2 a s5 hR hT M => ?_)
  obtain ⟨W, ⟨m0, w0⟩, turns⟩ := hR H2 hT
  refine Calls.spliced_nil ?_
  obtain ⟨Xg, fp, tn, gg, n, e1, e2, e3, hat, hTk, Hd, hfp, _, back⟩ := made_at (A := X.A.in1) (k := k) (wrc := []) (holdc := fun _ _ => True) (h6 := s5.heap) (t6 := s5.toks) M ok Pt hr.hd I.ok.frames rfl (fun cenv => room_gen hr cenv) (CTru.mono) turns w0 (fun _ _ e => e) hold_nil trivial (fun b hb => absurd hb (by simp))
  rw [← e3] at hat
  refine call_function_tree PySem.F.kind_all PySem.F.plain_all PySem.F.entry_all (PySem.F.args_all1 _) ?_
  unfold Builtin.«all»
  refine wpAny_bind (m := oneArg "all" _) (wpAny_pure ?_)
  refine wpAny_bind (wpAny_pyIter_gen hat.1 ?_)
  refine wpAny_pure ⟨plainId_quiet PySem.F.plain_all_loop _, ?_⟩
  rw [← e1, ← e2]
  refine all_loop (A := X.A) hr.hd (by have := hr.dp; omega) Hd (fun ys h z => z.1) (fun ys y h z => ⟨z.1, trivial⟩) hTk (fun ys H' s' I' hF => ?_) (fun H' s' I' hF => ?_) n _ hat
  · exact ⟨.bl true, H', back _ _ I', rfl, hF⟩
  · exact ⟨.bl false, H', back _ _ I', rfl, hF⟩
theorem pe_genany {c P : Addr} {elt tg iter : Expr} {ifs : List Expr} {scope : Scope} {own : List (Str × Nat)} {p gpos pos : Pos} {wi : TI} {g : TG} {tt : TT} {te : TE} {k : Nat}
    (hN : X.N.Nodup) (hr : Room (k + 1) X.A) (hg : Gl X "any") (hm : X.mg "any" = none) (TB : GxR.TabB X.base X.mg c P) (hcode : X.env.code = .ref c) (ok : GenOk X.N X.env.scope scope own) (hi : PI X tg iter wi) (Pt : Parts X k scope tg elt ifs g tt te)
    (hs : ∀ v, genFold iter X.env v = pure v)
    (he : starEach [.GeneratorExp elt [⟨tg, iter, ifs, 0⟩] scope gpos] X.env = (false, eval (.GeneratorExp elt [⟨tg, iter, ifs, 0⟩] scope gpos) X.env) :: starEach [] X.env := by rfl) :
    PE X (.Call (.Name "any" p) [.GeneratorExp elt [⟨tg, iter, ifs, 0⟩] scope gpos] [] pos) (tGenB P X.K true wi g tt te (own.map (·.2))) := by
  refine ⟨fun pins s σ H Q I h => ?_⟩
  refine wpAny_Call_Name_kw (ld_blt I hg hm boot_any ?_)
  refine PyProof.Rows.callWith_builtin1 ?_ he (by rfl)
  rw [he]
  show wpAny _ _ (spliced ((false, eval (.GeneratorExp elt [⟨tg, iter, ifs, 0⟩] scope gpos) X.env) :: backTo pos (starEach [] X.env))) _ _ s
  refine Calls.spliced_cons (make_gen (k := k + 1) (R := fun J H1 => ∀ H2, GxR.Tabbed P H1 H2 → ∃ W : Nat → Nat → List V → Hp → Prop, (∃ m, W 0 m [] H2) ∧
    Turns (wipe σ (List.map (fun x : Str × Nat => x.2) own)) W (CTru X.K true (fun H' => Q (.bl true) H')) (fun _ H' => Q (.bl (!true)) H') J g tt te (List.map (fun x : Str × Nat => x.2) own)) hN hr TB hcode ok hi hs I h fun J H1 H2 a s5 hR hT M => ?_)
  obtain ⟨W, ⟨m0, w0⟩, turns⟩ := hR H2 hT
  refine Calls.spliced_nil ?_
  obtain ⟨Xg, fp, tn, gg, n, e1, e2, e3, hat, hTk, Hd, hfp, _, back⟩ := made_at (A := X.A.in1) (k := k) (wrc := []) (holdc := fun _ _ => True) (h6 := s5.heap) (t6 := s5.toks) M ok Pt hr.hd I.ok.frames rfl (fun cenv => room_gen hr cenv) (CTru.mono) turns w0 (fun _ _ e => e) hold_nil trivial (fun b hb => absurd hb (by simp))
  rw [← e3] at hat
  refine call_function_tree PySem.F.kind_any PySem.F.plain_any PySem.F.entry_any (PySem.F.args_any1 _) ?_
  unfold Builtin.«any»
  refine wpAny_bind (m := oneArg "any" _) (wpAny_pure ?_)
  refine wpAny_bind (wpAny_pyIter_gen hat.1 ?_)
  refine wpAny_pure ⟨plainId_quiet PySem.F.plain_any_loop _, ?_⟩
  rw [← e1, ← e2]
  refine any_loop (A := X.A) hr.hd (by have := hr.dp; omega) Hd (fun ys h z => z.1) (fun ys y h z => ⟨z.1, trivial⟩) hTk (fun ys H' s' I' hF => ?_) (fun H' s' I' hF => ?_) n _ hat
  · exact ⟨.bl false, H', back _ _ I', rfl, hF⟩
  · exact ⟨.bl true, H', back _ _ I', rfl, hF⟩
end

/-! ### what fills a list: tuple, list, sorted of a generator expression -/
def holdL (S : Addr) (ys : List V) (h : Heap) : Prop := ys.length ≤ sizeLine ∧ ∃ (acc : Array Value) (c : Nat), h.get? S = some (lstObj acc c) ∧ Vals ys acc.toList
theorem hold_L (S : Addr) : Hold [S] (holdL S) := by
  refine ⟨fun ys h h' k ⟨z, acc, c, e, r⟩ => ⟨z, acc, c, k S (by simp) _ e, r⟩, fun ys h ⟨z, acc, c, e, r⟩ b hb => ?_⟩
  have e' : b = S := by simpa using hb
  rw [e']
  exact ⟨_, e, fun v q => by cases q⟩
def CCol : List V → V → Hp → Prop → Prop := fun ys _ _ P => ys.length < sizeLine ∧ P
theorem CCol.mono : ∀ ys y H (P Q : Prop), (P → Q) → CCol ys y H P → CCol ys y H Q := fun _ _ _ _ _ h q => ⟨q.1, h q.2⟩

section
variable {X : Cx} {σ0 : L2.St} {fp : List Addr} {tn : Nat → Heap → Prop} {W : Nat → Nat → List V → Hp → Prop} {C : List V → V → Hp → Prop → Prop} {F : List V → Hp → Prop}
/-- the consumer's own object S is changed -/
theorem GInv.turned {wr : List Addr} {S : Addr} {i : Nat} {H : Hp} {s : Shared} {h' : Heap} {t' : Nat} (St : Stat X wr fp) (hS : S ∈ wr) (hT : ∀ i h h', tn i h → (∀ b ∈ fp, ∀ o, h.get? b = some o → h'.get? b = some o) → tn i h') (h : GInv X σ0 wr fp tn i H s)
    (hk : ∀ b o, b ≠ S → s.heap.get? b = some o → h'.get? b = some o) : GInv X σ0 wr fp tn i H { s with heap := h', toks := t' } := by
  obtain ⟨h1, h2, h3, h4, h5⟩ := St.wr S hS
  refine ⟨h.1.turned (it := S) hk (h.2.2.2 S hS) h1 (.inr h3) h4 (fun p hp => ?_), hT _ _ _ h.2.1 fun b hb o e => hk b o (fun z => h5 (z ▸ hb)) e, h.2.2.1, h.2.2.2⟩
  rw [St.pn] at hp
  exact absurd (show p ∈ ([] : List (Addr × Obj)) ++ [] from hp) (by simp)

theorem ext_loop {A : Around} {a S : Addr} {g : Nat} {res : Value} {R : Result → Shared → Prop} (hh : A.handled = none) (hroom : A.depth < recursionLimit) (hSa : S ≠ a) (Hd : Hold [a, S] (fun ys h => h.IsGen a g ∧ holdL S ys h)) (St : Stat X [a, S] fp)
    (hT : ∀ i h h', tn i h → (∀ b ∈ fp, ∀ o, h.get? b = some o → h'.get? b = some o) → tn i h')
    (hend : ∀ ys H s' acc c, Inv X [] σ0 H s' → H S = none → s'.heap.get? S = some (lstObj acc c) → Vals ys acc.toList → ys.length ≤ sizeLine → F ys H → R (.ok (.ret res)) s') :
    ∀ n s, GAt A.in1 X σ0 [a, S] fp tn (fun ys h => h.IsGen a g ∧ holdL S ys h) W CCol F a g n s → codeAny (model X.prog X.w) A (.builtin "list.extend.loop" ⟨[.ref S, .ref a, res], []⟩) R s := by
  intro n
  induction n using Nat.strongRecOn with
  | ind n ih =>
  intro s h
  refine codeAny_builtin PySem.F.entry_extend_loop ?_
  rw [Around.under_plainId PySem.F.plain_extend_loop _]
  show wpAny _ A.in1 (pyNext (.ref a) >>= _) _ _ s
  refine wpAny_bind (gnext (A := A.in1) hh hroom Hd (fun ys h z => z.1) hT h fun r s' st => ?_)
  cases r with
  | none =>
    obtain ⟨_, ys, H, I, hw, ⟨_, hz, acc, c, e, r⟩, hF⟩ := st
    exact wpAny_pure (hend ys H s' acc c I (hw S (by simp)) e r hz hF)
  | some v =>
    obtain ⟨_, i, ys, y, H, ry, hI, ⟨hgn, hz, acc, c, e, r⟩, ⟨hlt, hC⟩, hsz, hgo⟩ := st
    have hlen : ys.length = acc.size := by
      have q := Vals.length r
      simpa using q
    have hasz : acc.size < sizeLine := by omega
    show wpAny _ A.in1 (updateSeq S (·.push v) >>= _) _ _ _
    refine wpAny_bind ?_
    have keep3 : ∀ b o, b ≠ S → s'.heap.get? b = some o → (s'.heap.update S (Obj.mapSeq (·.push v))).get? b = some o := fun b o hbS e => (Heap.get?_update_other _ _ (Ne.symm hbS)).trans e
    obtain ⟨m, em, hg⟩ := hgo (s'.heap.update S (Obj.mapSeq (·.push v))) s'.toks (hI.turned (S := S) St (by simp) hT keep3)
      ⟨by obtain ⟨o, nm, qn, ho, r⟩ := hgn; exact ⟨o, nm, qn, keep3 a o (Ne.symm hSa) ho, r⟩, by rw [List.length_append, List.length_singleton]; exact hlt, _, _, Heap.get?_update_self _ e rfl, by rw [Array.toList_push]; exact r.append (.cons ry .nil)⟩ hC
    refine wpAny_updateSeq e rfl (wpAny_pure ⟨plainId_quiet PySem.F.plain_extend_loop _, ?_⟩) (Nat.le_of_lt hasz) (by show (acc.push v).size ≤ sizeLine + 1; rw [Array.size_push]; omega)
    exact ih m (by omega) _ hg
end
end GX
end

section
set_option Elab.async false
set_option linter.all false
set_option maxRecDepth 100000
set_option maxHeartbeats 2000000
namespace GX
open PySem PySem.Spec PyProof.Rows L2

section
variable {X : Cx} {pins : List (Addr × Obj)} {σ : L2.St}
theorem collect_gen {tg elt iter : Expr} {ifs : List Expr} {scope : Scope} {own : List (Str × Nat)} {gpos : Pos} {J : It} {H2 : Hp} {a : Addr} {s5 : Shared} {A : Around} {k : Nat} {g : TG} {tt : TT} {te : TE}
    {W : Nat → Nat → List V → Hp → Prop} {F : List V → Hp → Prop} {Q : List Value → Shared → Prop} {E : Value → Shared → Prop}
    (M : Made X pins σ tg (.GeneratorExp elt [⟨tg, iter, ifs, 0⟩] scope gpos) scope own J H2 a s5) (ok : GenOk X.N X.env.scope scope own) (P : Parts X k scope tg elt ifs g tt te)
    (hA : A.handled = none) (hd : A.depth < recursionLimit) (hf : A.frames = some X.stack) (hgd : A.guards = X.A.guards) (hr : ∀ cenv, Room k (A.in1.in1.deeper cenv))
    (turns : Turns (wipe σ (own.map (·.2))) W CCol F J g tt te (own.map (·.2))) {m0 : Nat} (w0 : W 0 m0 [] H2)
    (hQ : ∀ ys vs H' s', Inv X pins σ H' s' → Vals ys vs → ys.length ≤ sizeLine → F ys H' → Q vs s') :
    wpAny (model X.prog X.w) A (collect (.ref a)) Q E s5 := by
  have hgen : ∃ gg, s5.heap.IsGen a gg := by obtain ⟨it, fp, tn, cenv, s4, gg, I4, T, f4, tn0, hL, hsc, hgl, hI, ha1, hac, ha2, hgen, _⟩ := M.ex; exact ⟨gg, hgen⟩
  have ha2 : a < s5.heap.objs.size := by obtain ⟨_, o, _, _, ho, _⟩ := hgen; exact Heap.lt_size ho
  obtain ⟨gg0, hgen0⟩ := hgen
  have hSI : s5.heap.objs.size ≠ a := Nat.ne_of_gt ha2
  unfold collect
  refine wpAny_bind (wpAny_runValue (codeAny_builtin PySem.F.entry_proto_collect ?_))
  rw [Around.under_plainId PySem.F.plain_proto_collect _]
  show wpAny _ A.in1 (newList [] >>= fun l => again (.builtin "list.__iadd__" ⟨[l, .ref a], []⟩)) _ _ s5
  refine wpAny_bind (wpAny_newObj_type ?_)
  refine wpAny_pure ⟨plainId_quiet PySem.F.plain_list_iadd _, codeAny_builtin PySem.F.entry_list_iadd ?_⟩
  rw [Around.under_plainId PySem.F.plain_list_iadd _]
  have gty : ∀ {h : Heap}, (∀ b o, s5.heap.get? b = some o → h.get? b = some o) → h.IsGen a gg0 := fun {h} q => hgen0.keeps q
  have k1 : ∀ b o, s5.heap.get? b = some o → (s5.heap.push { cls := .type "list", data := .seq ([] : List Value).toArray }).get? b = some o := fun b o e => Heap.get?_push_of_some _ e
  show wpAny _ A.in1 (Builtin.List.listExtendWith (.ref s5.heap.objs.size) (.ref a) (.ref s5.heap.objs.size)) _ _ _
  unfold Builtin.List.listExtendWith
  refine wpAny_bind (wpAny_typeOf (Heap.IsGen.typeIs (s := { s5 with heap := _ }) (gty k1)) ?_)
  have h1 : Builtin.List.listSameRef (.ref s5.heap.objs.size) (.ref a) = false := by simp [Builtin.List.listSameRef, hSI]
  have h2 : (Value.type "generator" == Value.type "list") = false := by decide
  have h3 : (Value.type "generator" == Value.type "tuple") = false := by decide
  simp only [h1, h2, h3, Bool.or_false, Bool.false_eq_true, if_false]
  refine wpAny_bind (wpAny_pyIter_gen (s := { s5 with heap := _ }) (gty k1) ?_)
  refine wpAny_bind (wpAny_holding ?_)
  unfold Builtin.List.listLengthHint
  refine wpAny_bind (wpAny_specialOf (Heap.IsGen.typeIs (s := { s5 with heap := _ }) (gty k1)) PySem.F.gen_no_len ?_)
  show wpAny _ A.in1 (specialOf (Value.ref a) (Str.ofString "__length_hint__") >>= _) _ _ _
  refine wpAny_bind (wpAny_specialOf (Heap.IsGen.typeIs (s := { s5 with heap := _ }) (gty k1)) PySem.F.gen_no_hint ?_)
  refine wpAny_pure ?_
  show wpAny _ A.in1 (rule "list.extend.makes-room" >>= fun _ => Builtin.List.listTouch (.ref s5.heap.objs.size) >>= fun _ =>
    again (.builtin "list.extend.loop" ⟨[.ref s5.heap.objs.size, .ref a, .ref s5.heap.objs.size], []⟩)) _ _ _
  refine wpAny_bind (wpAny_rule ?_)
  have hS₁ : (s5.heap.push { cls := .type "list", data := .seq ([] : List Value).toArray }).get? s5.heap.objs.size = some { cls := .type "list", data := .seq ([] : List Value).toArray } := Heap.get?_push_size _ rfl
  refine wpAny_bind ?_
  show wpAny _ A.in1 (updateSeq s5.heap.objs.size (·.push .none) >>= fun _ => updateSeq s5.heap.objs.size (·.pop)) _ _ _
  refine wpAny_bind (wpAny_updateSeq hS₁ rfl ?_)
  have hS₂ := Heap.get?_update_self (Obj.mapSeq (·.push Value.none)) hS₁ rfl
  refine wpAny_updateSeq hS₂ rfl ?_
  have hS₃ := Heap.get?_update_self (Obj.mapSeq (·.pop)) hS₂ rfl
  have up : ∀ (h : Heap) (f : Obj → Obj), (∀ b o, s5.heap.get? b = some o → h.get? b = some o) → ∀ b o, s5.heap.get? b = some o → (h.update s5.heap.objs.size f).get? b = some o := fun h f q b o e =>
    (Heap.get?_update_other _ _ (Ne.symm (Nat.ne_of_lt (Heap.lt_size e)))).trans (q b o e)
  have k4 := up _ (Obj.mapSeq (·.pop)) (up _ (Obj.mapSeq (·.push Value.none)) k1)
  obtain ⟨Xg, fp, tn, gg, n, e1, e2, e3, hat, hTk, Hd, hfp, St, back⟩ := made_at (A := A.in1) (k := k) (wrc := [s5.heap.objs.size]) (holdc := holdL s5.heap.objs.size) (h6 := _) (t6 := s5.toks) M ok P hA hf hgd hr (CCol.mono) turns w0 k4 (hold_L _) ⟨Nat.zero_le _, _, _, hS₃, .nil⟩ (fun b hb => by rw [show b = s5.heap.objs.size by simpa using hb]; exact Nat.le_refl _)
  refine wpAny_pure ⟨plainId_quiet PySem.F.plain_extend_loop _, ?_⟩
  rw [← e1, ← e2]
  refine ext_loop (A := A) hA hd hSI Hd St hTk (fun ys H' s' acc c I' hSn hS hv hle hF => ?_) n _ hat
  rw [e1, e2]
  show wpAny _ A (load s5.heap.objs.size >>= _) _ _ s'
  refine wpAny_bind (wpAny_load hS ?_)
  exact wpAny_pure (hQ ys _ H' s' (back _ _ I') hv hle hF)

/-- tuple(.. for ..) -/
def tGenT (P : Addr) (wi : TI) (g : TG) (tt : TT) (te : TE) (vs : List Nat) : TE := fun σ H Q => wi σ H fun J H1 => GxR.TabG H1 P ∧ ∀ H2, GxR.Tabbed P H1 H2 → ∃ W : Nat → Nat → List V → Hp → Prop, (∃ m, W 0 m [] H2) ∧
  Turns (wipe σ vs) W CCol (fun ys H' => ∀ p, H' p = none → Q (.ref p) (upd H' p (.tup ys))) J g tt te vs
theorem room_gen4 {k : Nat} {A : Around} (r : Room (k + 1) A) (cenv : Env) : Room k (A.in1.in1.in1.in1.deeper cenv) :=
  ⟨r.hd, by have := r.dp; show A.depth + 1 + 3 * k + 5 < _; omega, by have := r.un; show A.units + 1 + 1 + 1 + 1 + 3 + 16 * k + 200 < _; omega⟩

theorem pe_gentup {c P : Addr} {elt tg iter : Expr} {ifs : List Expr} {scope : Scope} {own : List (Str × Nat)} {p gpos pos : Pos} {wi : TI} {g : TG} {tt : TT} {te : TE} {k : Nat}
    (hN : X.N.Nodup) (hr : Room (k + 1) X.A) (hg : Gl X "tuple") (hm : X.mg "tuple" = none) (TB : GxR.TabB X.base X.mg c P) (hcode : X.env.code = .ref c) (ok : GenOk X.N X.env.scope scope own) (hi : PI X tg iter wi) (Pt : Parts X k scope tg elt ifs g tt te)
    (hs : ∀ v, genFold iter X.env v = pure v)
    (he : starEach [.GeneratorExp elt [⟨tg, iter, ifs, 0⟩] scope gpos] X.env = (false, eval (.GeneratorExp elt [⟨tg, iter, ifs, 0⟩] scope gpos) X.env) :: starEach [] X.env := by rfl) :
    PE X (.Call (.Name "tuple" p) [.GeneratorExp elt [⟨tg, iter, ifs, 0⟩] scope gpos] [] pos) (tGenT P wi g tt te (own.map (·.2))) := by
  refine ⟨fun pins s σ H Q I h => ?_⟩
  refine wpAny_Call_Name_kw (ld_blt I hg hm boot_tuple ?_)
  refine PyProof.Rows.callWith_type1 ?_ he (by rfl)
  rw [he]
  show wpAny _ _ (spliced ((false, eval (.GeneratorExp elt [⟨tg, iter, ifs, 0⟩] scope gpos) X.env) :: backTo pos (starEach [] X.env))) _ _ s
  refine Calls.spliced_cons (make_gen (k := k + 1) (R := fun J H1 => ∀ H2, GxR.Tabbed P H1 H2 → ∃ W : Nat → Nat → List V → Hp → Prop, (∃ m, W 0 m [] H2) ∧
    Turns (wipe σ (List.map (fun x : Str × Nat => x.2) own)) W CCol (fun ys H' => ∀ p, H' p = none → Q (.ref p) (upd H' p (.tup ys))) J g tt te (List.map (fun x : Str × Nat => x.2) own)) hN hr TB hcode ok hi hs I h fun J H1 H2 a s5 hR hT M => ?_)
  obtain ⟨W, ⟨m0, w0⟩, turns⟩ := hR H2 hT
  refine Calls.spliced_nil ?_
  refine callType_meetsIn (Q₁ := fun obj s₁ => s₁.TypeIs obj "tuple" ∧ EP X pins σ Q obj s₁) PySem.F.called_tuple (PySem.F.typeCall_tuple_1 _) (PySem.F.newCall_tuple_1 _) PySem.F.entry_tuple_new PySem.F.entry_object_init
    (S := fun A R s => wpAny (model X.prog X.w) A.in1 (Builtin.«tuple.__new__» ⟨[.type "tuple", .ref a], []⟩) (fun fin s' => match fin with | .done f => R (.ok f) s' | .again c' => c'.quiet = true ∧ codeAny (model X.prog X.w) A c' R s') (fun e s' => R (.error e) s') s)
    (fun A R s h => h) ?_ (fun obj s1 h => ⟨h.1, PySem.F.args_object_init_2 obj _, _, object_init_meets PySem.F.called_tuple.init.lookup PySem.F.called_tuple.made (by decide), h.1, rfl, h.2⟩)
  have hgen : ∃ gg, s5.heap.IsGen a gg := by obtain ⟨it, fp, tn, cenv, s4, gg, I4, T, f4, tn0, hL, hsc, hgl, hI, ha1, hac, ha2, hgen, _⟩ := M.ex; exact ⟨gg, hgen⟩
  obtain ⟨gg, hgen⟩ := hgen
  have hT2 : s5.TypeIs (.ref a) "generator" := hgen.typeIs
  obtain ⟨ob, nm, qn, ht, hcl, hdt, hsl⟩ := _root_.id hgen
  have hsub := sub_tuple_self
  have hinit := init_tuple_lookup
  have hmh := madeHere_tuple
  show wpAny (model X.prog X.w) X.A.in1.in1 (Builtin.«tuple.__new__» ⟨[.type "tuple", .ref a], []⟩) _ _ _
  unfold Builtin.«tuple.__new__»
  dsimp only
  generalize hcol : collect (Value.ref a) = col
  wp_walk using wpAny_loadPart' ht, wpAny_typeOf hT2
  rw [← hcol]
  refine collect_gen (A := X.A.in1.in1) (k := k) M ok Pt hr.hd (by have := hr.dp; show X.A.depth < _; omega) I.ok.frames rfl (fun cenv => room_gen4 hr cenv) turns w0 fun ys vs H' s' I' hv hle hF => ?_
  refine wpAny_bind (wpAny_pure ?_)
  show wpAny _ _ (Builtin.Tuple.tupleExact vs.toArray >>= fun v => ret v) _ _ _
  unfold Builtin.Tuple.tupleExact
  have hlen : vs.length = ys.length := (Vals.length hv).symm
  refine wpAny_bind (wpAny_newObj_type ?_ (by show vs.toArray.size ≤ sizeLine; simp only [List.size_toArray]; omega))
  refine wpAny_pure ⟨⟨_, Heap.get?_push_size _ rfl, rfl⟩, ?_⟩
  have hn : H' s'.heap.objs.size = none := I'.hok.fresh (Nat.le_refl _)
  refine ⟨.ref s'.heap.objs.size, _, I'.laid (o := .tup ys) (t' := s'.toks) (fun b o e => Heap.get?_push_of_some _ e) (Nat.le_refl _) ⟨hle, vs, hv, ?_⟩, rfl, hF _ hn⟩
  exact ⟨_, Heap.get?_push_size _ rfl, rfl, _, rfl⟩
end

/-! ### sum of a generator expression -/
def vint : V → Int
  | .int i => i
  | _ => 0
def vsum (ys : List V) : Int := (ys.map vint).sum
theorem vsum_snoc (ys : List V) (i : Int) : vsum (ys ++ [.int i]) = vsum ys + i := by
  unfold vsum
  rw [List.map_append, List.sum_append]
  simp [vint]
def holdS (S : Addr) (ys : List V) (h : Heap) : Prop := ∃ (t : Tok) (c : Nat), h.get? S = some (lstObj #[.int (vsum ys) t] c)
theorem hold_S (S : Addr) : Hold [S] (holdS S) := by
  refine ⟨fun ys h h' k ⟨t, c, e⟩ => ⟨t, c, k S (by simp) _ e⟩, fun ys h ⟨t, c, e⟩ b hb => ?_⟩
  have e' : b = S := by simpa using hb
  rw [e']
  exact ⟨_, e, fun v q => by cases q⟩
def CSum : List V → V → Hp → Prop → Prop := fun ys y _ P => ∃ i, y = .int i ∧ InLong i ∧ InLong (vsum ys + i) ∧ P
theorem CSum.mono : ∀ ys y H (P Q : Prop), (P → Q) → CSum ys y H P → CSum ys y H Q := fun _ _ _ _ _ h ⟨i, a, b, c, d⟩ => ⟨i, a, b, c, h d⟩
section
variable {X : Cx} {σ0 : L2.St} {fp : List Addr} {tn : Nat → Heap → Prop} {W : Nat → Nat → List V → Hp → Prop} {F : List V → Hp → Prop}
theorem sum_loop {A : Around} {a S : Addr} {g : Nat} {R : Result → Shared → Prop} (hh : A.handled = none) (hroom : A.depth < recursionLimit) (hSa : S ≠ a) (Hd : Hold [a, S] (fun ys h => h.IsGen a g ∧ holdS S ys h)) (St : Stat X [a, S] fp)
    (hT : ∀ i h h', tn i h → (∀ b ∈ fp, ∀ o, h.get? b = some o → h'.get? b = some o) → tn i h')
    (hend : ∀ ys H s' t, Inv X [] σ0 H s' → F ys H → R (.ok (.ret (.int (vsum ys) t))) s') :
    ∀ n s, GAt A.in1 X σ0 [a, S] fp tn (fun ys h => h.IsGen a g ∧ holdS S ys h) W CSum F a g n s → (∃ ys, holdS S ys s.heap) → codeAny (model X.prog X.w) A (.builtin "sum.loop" ⟨[.ref a, .ref S, rawInt 0, rawInt 0], []⟩) R s := by
  intro n
  induction n using Nat.strongRecOn with
  | ind n ih =>
  intro s h ⟨ys0, t0, c0, hS0⟩
  refine codeAny_builtin PySem.F.entry_sum_loop ?_
  rw [Around.under_plainId PySem.F.plain_sum_loop _]
  show wpAny _ A.in1 (seqItems? (.ref S) >>= _) _ _ s
  refine wpAny_bind (wpAny_seqItems hS0 rfl ?_)
  show wpAny _ A.in1 (tryCatch (pyNext (.ref a)) _ >>= _) _ _ s
  refine wpAny_bind (wpAny_tryCatch (gnext (A := A.in1) hh hroom Hd (fun ys h z => z.1) hT h fun r s' st => ?_))
  obtain ⟨hkS, st⟩ := st
  have eS := hkS S (by simp) _ hS0
  cases r with
  | none =>
    obtain ⟨ys, H, I, hw, ⟨_, t, c, e⟩, hF⟩ := st
    have q : lstObj #[Value.int (vsum ys0) t0] c0 = lstObj #[Value.int (vsum ys) t] c := Option.some.inj (eS.symm.trans e)
    have q1 : (#[Value.int (vsum ys0) t0] : Array Value) = #[Value.int (vsum ys) t] := by injection congrArg Obj.data q
    have q2 : vsum ys0 = vsum ys ∧ t0 = t := by
      have q3 : ([Value.int (vsum ys0) t0] : List Value) = [Value.int (vsum ys) t] := congrArg Array.toList q1
      simpa using q3
    have hR := hend ys H s' t I hF
    rw [← q2.1, ← q2.2] at hR
    exact wpAny_pure hR
  | some v =>
    obtain ⟨i, ys, y, H, ry, hI, ⟨hgn, t, c, e⟩, ⟨iv, rfl, hi1, hi2, hC⟩, hsz, hgo⟩ := st
    obtain ⟨tv, rfl⟩ := ry
    have q : lstObj #[Value.int (vsum ys0) t0] c0 = lstObj #[Value.int (vsum ys) t] c := Option.some.inj (eS.symm.trans e)
    have q1 : (#[Value.int (vsum ys0) t0] : Array Value) = #[Value.int (vsum ys) t] := by injection congrArg Obj.data q
    have q2 : vsum ys0 = vsum ys ∧ t0 = t := by
      have q3 : ([Value.int (vsum ys0) t0] : List Value) = [Value.int (vsum ys) t] := congrArg Array.toList q1
      simpa using q3
    obtain ⟨f1, f2⟩ := hi1
    obtain ⟨f3, f4⟩ := hi2
    have hc : ((decide (-(2 ^ 63) ≤ iv) && decide (iv < 2 ^ 63)) && (decide (-(2 ^ 63) ≤ vsum ys0 + iv) && decide (vsum ys0 + iv < 2 ^ 63))) = true := by
      rw [q2.1]
      simp only [Bool.and_eq_true, decide_eq_true_eq]
      exact ⟨⟨f1, f2⟩, f3, f4⟩
    show wpAny _ A.in1 (if (_ : Bool) = true then (mkInt (vsum ys0 + iv) >>= _) else _) _ _ _
    split
    · refine wpAny_bind (wpAny_mkInt ?_)
      show wpAny _ A.in1 (updateSeq S (fun _ => #[.int (vsum ys0 + iv) s'.toks]) >>= _) _ _ _
      refine wpAny_bind ?_
      have keep3 : ∀ b o, b ≠ S → s'.heap.get? b = some o → (s'.heap.update S (Obj.mapSeq (fun _ => #[.int (vsum ys0 + iv) s'.toks]))).get? b = some o := fun b o hbS e => (Heap.get?_update_other _ _ (Ne.symm hbS)).trans e
      have hS2 := Heap.get?_update_self (Obj.mapSeq (fun _ => #[Value.int (vsum ys0 + iv) s'.toks])) eS rfl
      have hold2 : holdS S (ys ++ [.int iv]) (s'.heap.update S (Obj.mapSeq (fun _ => #[.int (vsum ys0 + iv) s'.toks]))) := ⟨s'.toks, _, by rw [hS2, vsum_snoc, ← q2.1]; rfl⟩
      obtain ⟨m, em, hg⟩ := hgo (s'.heap.update S (Obj.mapSeq (fun _ => #[.int (vsum ys0 + iv) s'.toks]))) (s'.toks + 1) (hI.turned (S := S) St (by simp) hT keep3)
        ⟨by obtain ⟨o, nm, qn, ho, r⟩ := hgn; exact ⟨o, nm, qn, keep3 a o (Ne.symm hSa) ho, r⟩, hold2⟩ hC
      exact wpAny_updateSeq eS rfl (wpAny_pure ⟨plainId_quiet PySem.F.plain_sum_loop _, ih m (by omega) _ hg ⟨_, hold2⟩⟩)
    · rename_i hn
      exact absurd hc hn
end

def tGenS (P : Addr) (wi : TI) (g : TG) (tt : TT) (te : TE) (vs : List Nat) : TE := fun σ H Q => wi σ H fun J H1 => GxR.TabG H1 P ∧ ∀ H2, GxR.Tabbed P H1 H2 → ∃ W : Nat → Nat → List V → Hp → Prop, (∃ m, W 0 m [] H2) ∧
  Turns (wipe σ vs) W CSum (fun ys H' => Q (.int (vsum ys)) H') J g tt te vs
theorem boot_sum : bootBuiltins "sum" = some (.builtin "sum") := by decide +kernel
section
variable {X : Cx} {pins : List (Addr × Obj)} {σ : L2.St}
theorem pe_gensum {c P : Addr} {elt tg iter : Expr} {ifs : List Expr} {scope : Scope} {own : List (Str × Nat)} {p gpos pos : Pos} {wi : TI} {g : TG} {tt : TT} {te : TE} {k : Nat}
    (hN : X.N.Nodup) (hr : Room (k + 1) X.A) (hg : Gl X "sum") (hm : X.mg "sum" = none) (TB : GxR.TabB X.base X.mg c P) (hcode : X.env.code = .ref c) (ok : GenOk X.N X.env.scope scope own) (hi : PI X tg iter wi) (Pt : Parts X k scope tg elt ifs g tt te)
    (hs : ∀ v, genFold iter X.env v = pure v)
    (he : starEach [.GeneratorExp elt [⟨tg, iter, ifs, 0⟩] scope gpos] X.env = (false, eval (.GeneratorExp elt [⟨tg, iter, ifs, 0⟩] scope gpos) X.env) :: starEach [] X.env := by rfl) :
    PE X (.Call (.Name "sum" p) [.GeneratorExp elt [⟨tg, iter, ifs, 0⟩] scope gpos] [] pos) (tGenS P wi g tt te (own.map (·.2))) := by
  refine ⟨fun pins s σ H Q I h => ?_⟩
  refine wpAny_Call_Name_kw (ld_blt I hg hm boot_sum ?_)
  refine PyProof.Rows.callWith_builtin1 ?_ he (by rfl)
  rw [he]
  show wpAny _ _ (spliced ((false, eval (.GeneratorExp elt [⟨tg, iter, ifs, 0⟩] scope gpos) X.env) :: backTo pos (starEach [] X.env))) _ _ s
  refine Calls.spliced_cons (make_gen (k := k + 1) (R := fun J H1 => ∀ H2, GxR.Tabbed P H1 H2 → ∃ W : Nat → Nat → List V → Hp → Prop, (∃ m, W 0 m [] H2) ∧
    Turns (wipe σ (List.map (fun x : Str × Nat => x.2) own)) W CSum (fun ys H' => Q (.int (vsum ys)) H') J g tt te (List.map (fun x : Str × Nat => x.2) own)) hN hr TB hcode ok hi hs I h fun J H1 H2 a s5 hR hT M => ?_)
  obtain ⟨W, ⟨m0, w0⟩, turns⟩ := hR H2 hT
  refine Calls.spliced_nil ?_
  have hgen : ∃ gg, s5.heap.IsGen a gg := by obtain ⟨it, fp, tn, cenv, s4, gg, I4, T, f4, tn0, hL, hsc, hgl, hI, ha1, hac, ha2, hgen, _⟩ := M.ex; exact ⟨gg, hgen⟩
  obtain ⟨gg0, hgen0⟩ := hgen
  have ha2 : a < s5.heap.objs.size := by obtain ⟨o, _, _, ho, _⟩ := hgen0; exact Heap.lt_size ho
  have hSI : s5.heap.objs.size ≠ a := Nat.ne_of_gt ha2
  refine call_function_tree PySem.F.kind_sum PySem.F.plain_sum PySem.F.entry_sum (PySem.F.args_sum1 _) ?_
  unfold Builtin.«sum»
  simp only [List.length_cons, List.length_nil]
  rw [if_neg (by decide)]
  refine wpAny_bind (wpAny_of_eq (show Builtin.Builtins.bindParams "sum" ["start"] 0 { } = pure [none] from rfl) ?_)
  refine wpAny_bind (wpAny_pyIter_gen hgen0 ?_)
  refine wpAny_bind (wpAny_mkInt ?_)
  refine wpAny_bind (wpAny_pure ?_)
  simp only [List.forIn_cons, List.forIn_nil]
  refine wpAny_bind (wpAny_bind (wpAny_bind (wpAny_isInstance (T := "int") (b := false) (typeIs_int _ _ _) PySem.sub_int_str ?_)))
  simp only [Bool.false_eq_true, if_false]
  refine wpAny_pure (wpAny_bind (wpAny_bind (wpAny_isInstance (T := "int") (b := false) (typeIs_int _ _ _) PySem.sub_int_bytes ?_)))
  simp only [Bool.false_eq_true, if_false]
  refine wpAny_pure (wpAny_bind (wpAny_bind (wpAny_isInstance (T := "int") (b := false) (typeIs_int _ _ _) PySem.sub_int_bytearray ?_)))
  simp only [Bool.false_eq_true, if_false]
  refine wpAny_pure (wpAny_pure ?_)
  refine wpAny_bind (wpAny_newObj_type ?_)
  have hS := Heap.get?_push_size s5.heap (o := { cls := .type "list", data := .seq [Value.int 0 s5.toks].toArray }) rfl
  obtain ⟨Xg, fp, tn, gg, n, e1, e2, e3, hat, hTk, Hd, hfp, St, back⟩ := made_at (A := X.A.in1) (k := k) (wrc := [s5.heap.objs.size]) (holdc := holdS s5.heap.objs.size) (h6 := _) (t6 := s5.toks + 1) M ok Pt hr.hd I.ok.frames rfl (fun cenv => room_gen hr cenv) (CSum.mono) turns w0
    (fun b o e => Heap.get?_push_of_some _ e) (hold_S _) ⟨_, _, hS⟩ (fun b hb => by rw [show b = s5.heap.objs.size by simpa using hb]; exact Nat.le_refl _)
  refine wpAny_pure ⟨plainId_quiet PySem.F.plain_sum_loop _, ?_⟩
  rw [← e1, ← e2]
  refine sum_loop (A := X.A) hr.hd (by have := hr.dp; omega) hSI Hd St hTk (fun ys H' s' t I' hF => ?_) n _ hat ⟨[], _, _, hS⟩
  exact ⟨.int (vsum ys), H', back _ _ I', ⟨t, rfl⟩, hF⟩
end
end GX
end

section
set_option Elab.async false
set_option linter.all false
set_option maxRecDepth 100000
set_option maxHeartbeats 2000000
/-! the small language: values, cells, expressions, statements, what they do -/
namespace PI
open PySem PySem.Spec PyProof.Rows L2

inductive PV where
  | non | bl (b : Bool) | int (i : Int) | str (s : Str) | ty (n : String)
  | tup (xs : List PV)
  /-- a list that never changes -/
  | fl (xs : List PV)
  /-- a cell -/
  | ref (i : Nat)
  deriving Inhabited
inductive Cell where
  | lst (xs : List PV)
  | dic (kvs : List (Key × PV))
  deriving Inhabited
abbrev IHeap := List Cell
abbrev Env' := List (Option PV)
inductive Bop where
  | add | sub | mul | mod | fdiv | pow | shl
  deriving DecidableEq
inductive Cop where
  | eq | ne | lt | le | gt | ge | isin | notin | is_ | isnot
  deriving DecidableEq
/-- what is walked -/
inductive IK where
  | seq | range | zip | enum | rev
  deriving DecidableEq
/-- who consumes a generator expression -/
inductive GC where
  | all | any | sum | tup
  deriving DecidableEq
inductive Blt where
  | len | int | abs | tuple | list | sum | max2 | min2 | gcd | repr | isinst | sortedI
  deriving DecidableEq
inductive Mth where
  | append | pop | extend
  deriving DecidableEq
inductive Tg where
  | nm (i : Nat) | tp (is : List Nat)
inductive IE where
  | var (i : Nat) | con (v : PV)
  | bin (op : Bop) (a b : IE) | cmp (op : Cop) (a b : IE) | chain (o1 o2 : Cop) (a b c : IE)
  | not (a : IE) | neg (a : IE) | and (a b : IE) | or (a b : IE) | ife (c a b : IE)
  | nil | cons (a as : IE)
  | tup (as : IE) | lst (as : IE) | dic (ks : List Str) (vs : IE)
  | idx (a i : IE) | slc (l h : Bool) (a lo hi : IE) | rev (a : IE)
  | call (f : Nat) (as : IE) | callK (f : Nat) (perm : List Nat) (as bs : IE) | blt (b : Blt) (as : IE) | mth (m : Mth) (o as : IE)
  | lc (vs : List Nat) (tg : Tg) (k : IK) (src : IE) (ifs elt : IE)
  | gen (c : GC) (vs : List Nat) (tg : Tg) (k : IK) (src : IE) (ifs elt : IE)
  /-- sorted(set(a)), len(set(a)) -/
  | sts (b : Bool) (a : IE)
inductive IS where
  | nil | seq (a b : IS) | never | pass | brk | cnt
  | asg (t : Tg) (e : IE) | sub (o i e : IE) | aug (i : Nat) (op : Bop) (e : IE) | ex (e : IE)
  | ret (e : IE) | ife (c : IE) (a b : IS) | for_ (t : Tg) (k : IK) (src : IE) (b : IS) | while_ (c : IE) (b : IS)

/-! ### operations -/
def keyOf : PV → Option Key
  | .int i => some (.inl i)
  | .str s => some (.inr s)
  | _ => none
def seqOf (h : IHeap) : PV → Option (List PV)
  | .tup xs => some xs
  | .fl xs => some xs
  | .ref i => match h[i]? with
    | some (.lst xs) => some xs
    | _ => none
  | _ => none
def truthy (h : IHeap) : PV → Option Bool
  | .non => some false
  | .bl b => some b
  | .int i => some (i != 0)
  | .str s => if s.length ≤ sizeLine then some ((s.length : Int) != 0) else none
  | .tup xs => some (!xs.isEmpty)
  | .fl xs => some (!xs.isEmpty)
  | .ref i => match h[i]? with
    | some (.lst xs) => some (!xs.isEmpty)
    | some (.dic kvs) => some (!kvs.isEmpty)
    | none => none
  | .ty _ => none
mutual
/-- a value as the library's data, its cells by g -/
def datG (g : Nat → Option PyData) : PV → Option PyData
  | .non => some .none
  | .bl b => some (.bool b)
  | .int i => some (.int i)
  | .str s => some (.str s)
  | .tup xs => (datsG g xs).map .tuple
  | .fl xs => (datsG g xs).map .list
  | .ref i => g i
  | .ty _ => none
termination_by structural v => v
def datsG (g : Nat → Option PyData) : List PV → Option (List PyData)
  | [] => some []
  | x :: xs => match datG g x, datsG g xs with
    | some d, some ds => some (d :: ds)
    | _, _ => none
termination_by structural v => v
end
def toDataI (h : IHeap) : Nat → Nat → Option PyData
  | 0, _ => none
  | k + 1, i => match h[i]? with
    | some (.lst xs) => (datsG (toDataI h k) xs).map .list
    | _ => none
/-- lists nested in cells up to five deep -/
abbrev toData (h : IHeap) (v : PV) : Option PyData := datG (toDataI h 5) v

def ixNat (n : Nat) (i : Int) : Option Nat := if 0 ≤ i then (if i < n then some i.toNat else none) else if -(n : Int) ≤ i then some (i + n).toNat else none
def getAt (xs : List PV) (i : Int) : Option PV := (ixNat xs.length i).bind fun j => xs[j]?
def kvGet (k : Key) (kvs : List (Key × PV)) : Option PV := (kvs.find? fun kv => decide (kv.1 = k)).map (·.2)
def kvPut (k : Key) (v : PV) (kvs : List (Key × PV)) : List (Key × PV) :=
  if (kvs.any fun kv => decide (kv.1 = k)) = true then kvs.map (fun kv => if kv.1 = k then (kv.1, v) else kv) else kvs ++ [(k, v)]
def small (i : Int) : Bool := decide (-(2 ^ 64) < i) && decide (i < 2 ^ 64)
/-- an int of at most 8,999 bits -/
def middling (i : Int) : Bool := decide (i.natAbs.log2 < 9000)

def newCell (c : Cell) (h : IHeap) : PV × IHeap := (.ref h.length, h ++ [c])

def binop (op : Bop) (a b : PV) (h : IHeap) : Option (PV × IHeap) :=
  match op, a, b with
  | .add, .int i, .int j => some (.int (i + j), h)
  | .sub, .int i, .int j => some (.int (i - j), h)
  | .mul, .int i, .int j => if i.natAbs.log2 + j.natAbs.log2 < 1000000 then some (.int (i * j), h) else none
  | .mod, .int i, .int j => if j = 0 then none else some (.int (i.fmod j), h)
  | .fdiv, .int i, .int j => if 0 < j ∧ middling j then some (.int (i / j), h) else none
  | .pow, .int i, .int j => if 0 ≤ j ∧ j ≤ 1000000 ∧ small i then some (.int (i ^ j.toNat), h) else none
  | .shl, .int i, .int j => if 0 ≤ j ∧ j ≤ 1000000 ∧ small i then some (.int (i * 2 ^ j.toNat), h) else none
  | .add, .str i, .str j => if i.length + j.length ≤ sizeLine then some (.str (i ++ j), h) else none
  | .add, .tup xs, .tup ys => if xs.length + ys.length ≤ sizeLine then some (.tup (xs ++ ys), h) else none
  | .add, .ref i, .ref j => match h[i]?, h[j]? with
    | some (.lst xs), some (.lst ys) => if xs.length + ys.length ≤ sizeLine then some (newCell (.lst (xs ++ ys)) h) else none
    | _, _ => none
  | .mul, .tup xs, .int k => if -(2 ^ 63) ≤ k ∧ k ≤ 1000 ∧ xs.length ≤ 1000 then some (.tup (List.replicate k.toNat xs).flatten, h) else none
  | .mul, .ref i, .int k => match h[i]? with
    | some (.lst xs) => if -(2 ^ 63) ≤ k ∧ k < 2 ^ 63 ∧ xs.length * k.toNat ≤ sizeLine then some (newCell (.lst (List.replicate k.toNat xs).flatten) h) else none
    | _ => none
  | _, _, _ => none
def augop (op : Bop) (a b : PV) (h : IHeap) : Option (PV × IHeap) :=
  match op, a, b with
  | .add, .int i, .int j => binop .add (.int i) (.int j) h
  | .sub, .int i, .int j => binop .sub (.int i) (.int j) h
  | .mul, .int i, .int j => binop .mul (.int i) (.int j) h
  | .fdiv, .int i, .int j => binop .fdiv (.int i) (.int j) h
  | _, _, _ => none
/-- the scalars that == tells apart as data does, lists and tuples of them -/
def eqop (a b : PV) (h : IHeap) : Option Bool :=
  match a, b with
  | .non, .non => some true
  | .int i, .int j => some (decide (i = j))
  | .bl i, .bl j => some (decide (i = j))
  | .str i, .str j => some (decide (i = j))
  | _, _ => match toData h a, toData h b with
    | some d, some e => if SeqAt.shaped d && SeqAt.shaped e then some (PyData.eqv d e) else none
    | _, _ => none
/-- scalars, as the hand layer has them -/
def flatP : PV → Option V
  | .non => some .non
  | .bl b => some (.bl b)
  | .int i => some (.int i)
  | .str s => some (.str s)
  | _ => none
def flatsP : List PV → Option (List V)
  | [] => some []
  | x :: xs => match flatP x, flatsP xs with
    | some y, some ys => some (y :: ys)
    | _, _ => none
/-- is a scalar in a tuple of scalars -/
def inTup (a : PV) (ys : List PV) : Option Bool :=
  match flatP a, flatsP ys with
  | some x, some xs => some (L2.inV x xs)
  | _, _ => none
def cmpop (op : Cop) (a b : PV) (h : IHeap) : Option Bool :=
  match op with
  | .eq => eqop a b h
  | .ne => (eqop a b h).map (! ·)
  | .lt => match a, b with
    | .int i, .int j => some (decide (i < j))
    | _, _ => none
  | .le => match a, b with
    | .int i, .int j => some (decide (i ≤ j))
    | _, _ => none
  | .gt => match a, b with
    | .int i, .int j => some (decide (j < i))
    | _, _ => none
  | .ge => match a, b with
    | .int i, .int j => some (decide (j ≤ i))
    | _, _ => none
  | .is_ => match b with
    | .non => some (match a with | .non => true | _ => false)
    | .bl j => match a with
      | .bl i => some (decide (i = j))
      | _ => none
    | _ => none
  | .isnot => match b with
    | .non => some (match a with | .non => false | _ => true)
    | .bl j => match a with
      | .bl i => some (!decide (i = j))
      | _ => none
    | _ => none
  | .isin => match b with
    | .tup ys => inTup a ys
    | .ref i => match h[i]?, keyOf a with
      | some (.dic kvs), some k => some (kvGet k kvs).isSome
      | some (.lst _), _ => match toData h a, toData h b with
        | some d, some (.list ds) => if SeqAt.shaped d && SeqAt.shaped (.list ds) then some (ds.any fun z => PyData.eqv z d) else none
        | _, _ => none
      | _, _ => none
    | _ => none
  | .notin => match b with
    | .tup ys => (inTup a ys).map (! ·)
    | .ref i => match h[i]?, keyOf a with
      | some (.dic kvs), some k => some (!(kvGet k kvs).isSome)
      | some (.lst _), _ => match toData h a, toData h b with
        | some d, some (.list ds) => if SeqAt.shaped d && SeqAt.shaped (.list ds) then some (!ds.any fun z => PyData.eqv z d) else none
        | _, _ => none
      | _, _ => none
    | _ => none
def sIx (n : Nat) (d : Nat) : Option Int → Nat := HT.sIx n d
def cut (xs : List PV) (lo hi : Option Int) : List PV := (xs.drop (HT.sIx xs.length 0 lo)).take (HT.sIx xs.length xs.length hi - HT.sIx xs.length 0 lo)
def slcop (a : PV) (lo hi : Option Int) (h : IHeap) : Option (PV × IHeap) :=
  match a with
  | .tup xs => some (.tup (cut xs lo hi), h)
  | .fl xs => some (newCell (.lst (cut xs lo hi)) h)
  | .ref i => match h[i]? with
    | some (.lst xs) => some (newCell (.lst (cut xs lo hi)) h)
    | _ => none
  | _ => none
def idxop (a i : PV) (h : IHeap) : Option PV :=
  match a with
  | .tup xs => match i with
    | .int k => getAt xs k
    | _ => none
  | .fl xs => match i with
    | .int k => getAt xs k
    | _ => none
  | .ref j => match h[j]? with
    | some (.lst xs) => match i with
      | .int k => getAt xs k
      | _ => none
    | some (.dic kvs) => (keyOf i).bind fun k => kvGet k kvs
    | none => none
  | _ => none
def intsOf : List PV → Option (List Int)
  | [] => some []
  | .int i :: r => (intsOf r).map (i :: ·)
  | _ => none
def tyOf (h : IHeap) : PV → Option String
  | .non => some "NoneType"
  | .bl _ => some "bool"
  | .int _ => some "int"
  | .str _ => some "str"
  | .tup _ => some "tuple"
  | .fl _ => some "list"
  | .ref i => match h[i]? with
    | some (.lst _) => some "list"
    | some (.dic _) => some "dict"
    | none => none
  | .ty _ => none
/-- is a value of the type t one of the type T -/
def isTy (t T : String) : Bool := t == T || (t == "bool" && T == "int")
def bltop (b : Blt) (as : List PV) (h : IHeap) : Option (PV × IHeap) :=
  match b, as with
  | .len, [.str s] => if s.length ≤ sizeLine then some (.int s.length, h) else none
  | .len, [.ref i] => match h[i]? with
    | some (.lst xs) => some (.int xs.length, h)
    | some (.dic kvs) => some (.int kvs.length, h)
    | none => none
  | .len, [.tup xs] => some (.int xs.length, h)
  | .len, [.fl xs] => some (.int xs.length, h)
  | .int, [.int i] => some (.int i, h)
  | .int, [.bl k] => some (.int (if k then 1 else 0), h)
  | .abs, [.int i] => some (.int (if i < 0 then -i else i), h)
  | .tuple, [.tup xs] => some (.tup xs, h)
  | .tuple, [.fl xs] => some (.tup xs, h)
  | .tuple, [.ref i] => match h[i]? with
    | some (.lst xs) => some (.tup xs, h)
    | _ => none
  | .list, [.tup xs] => some (newCell (.lst xs) h)
  | .list, [.fl xs] => some (newCell (.lst xs) h)
  | .list, [.ref i] => match h[i]? with
    | some (.lst xs) => some (newCell (.lst xs) h)
    | _ => none
  | .sum, [.ref i] => match h[i]? with
    | some (.lst xs) => (intsOf xs).map fun ns => (.int ns.sum, h)
    | _ => none
  | .max2, [.int i, .int j] => some (.int (if j > i then j else i), h)
  | .min2, [.int i, .int j] => some (.int (if j < i then j else i), h)
  | .gcd, [.int i, .int j] => if middling i && middling j then some (.int (Int.gcd i j), h) else none
  | .repr, [v] => match toData h v with
    | some d => if d.showable && decide (d.depth ≤ 64) && decide (d.shown.length ≤ sizeLine) then some (.str d.shown, h) else none
    | none => none
  | .isinst, [v, .ty T] => match tyOf h v with
    | some t => if ["int", "bool", "str", "tuple", "list", "dict"].contains T then some (.bl (isTy t T), h) else none
    | none => none
  | .sortedI, [.ref i] => match h[i]? with
    | some (.lst xs) => (intsOf xs).map fun ns => newCell (.lst ((ns.mergeSort).map .int)) h
    | _ => none
  | _, _ => none
/-- each once -/
def dd : List Int → List Int
  | [] => []
  | x :: xs => if x ∈ xs then dd xs else x :: dd xs
def ssort (ns : List Int) : List Int := (dd ns).mergeSort
def stsop (b : Bool) (v : PV) (h : IHeap) : Option (PV × IHeap) :=
  match v with
  | .ref i => match h[i]? with
    | some (.lst xs) => (intsOf xs).bind fun ns => if ns.length < 60 then (if b = true then some (newCell (.lst ((ssort ns).map .int)) h) else some (.int (dd ns).length, h)) else none
    | _ => none
  | _ => none
def mthop (m : Mth) (o : PV) (as : List PV) (h : IHeap) : Option (PV × IHeap) :=
  match o with
  | .ref i => match h[i]? with
    | some (.lst xs) => match m, as with
      | .append, [v] => if xs.length < sizeLine then some (.non, h.set i (.lst (xs ++ [v]))) else none
      | .pop, [] => match xs[xs.length - 1]? with
        | some y => some (y, h.set i (.lst xs.dropLast))
        | none => none
      | .extend, [.ref j] => match h[j]? with
        | some (.lst ys) => if xs.length + ys.length ≤ sizeLine then some (.non, h.set i (.lst (xs ++ ys))) else none
        | _ => none
      | _, _ => none
    | _ => none
  | _ => none
def isLst (h : IHeap) : PV → Bool
  | .ref i => match h[i]? with
    | some (.lst _) => true
    | _ => false
  | _ => false
def setop (o i v : PV) (h : IHeap) : Option IHeap :=
  match o with
  | .ref j => match h[j]? with
    | some (.lst xs) => match i with
      | .int k => (ixNat xs.length k).map fun n => h.set j (.lst (xs.set n v))
      | _ => none
    | some (.dic kvs) => (keyOf i).bind fun k => if kvs.length < sizeLine then some (h.set j (.dic (kvPut k v kvs))) else none
    | none => none
  | _ => none
/-! ### what is walked -/
inductive Src where
  | its (xs : List PV) | cell (i : Nat) | zipc (i j : Nat) | enumc (i : Nat) | revn (i n : Nat)
  /-- a list of so many items and a tuple, the list first or last -/
  | zipm (b : Bool) (i n : Nat) (ys : List PV)
  | enumt (ys : List PV)
def srcAt (s : Src) (h : IHeap) (j : Nat) : Option (Option PV) :=
  match s with
  | .its xs => some xs[j]?
  | .cell i => match h[i]? with
    | some (.lst xs) => some xs[j]?
    | _ => none
  | .zipc i k => match h[i]?, h[k]? with
    | some (.lst xs), some (.lst ys) => match xs[j]?, ys[j]? with
      | some x, some y => some (some (.tup [x, y]))
      | _, _ => some none
    | _, _ => none
  | .enumc i => match h[i]? with
    | some (.lst xs) => some (xs[j]?.map fun x => .tup [.int j, x])
    | _ => none
  | .enumt ys => match ys[j]? with
    | some y => some (some (.tup [.int j, y]))
    | none => if j = ys.length then some none else none
  | .zipm b i n ys => match h[i]? with
    | some (.lst xs) => if xs.length = n then (match xs[j]?, ys[j]? with
      | some x, some y => some (some (.tup (if b = true then [x, y] else [y, x])))
      | _, _ => if j ≤ n ∧ j ≤ ys.length then some none else none) else none
    | _ => none
  | .revn i n => if j < n then (match h[i]? with
    | some (.lst xs) => xs[n - 1 - j]?.map some
    | _ => none) else some none
def srcLen (s : Src) (h : IHeap) : Nat :=
  match s with
  | .its xs => xs.length
  | .revn _ n => n
  | .zipm _ _ n _ => n
  | .enumt ys => ys.length
  | .cell i | .zipc i _ | .enumc i => match h[i]? with
    | some (.lst xs) => xs.length
    | _ => 0
def fits62 (i : Int) : Bool := decide (-(2 ^ 62) ≤ i) && decide (i < 2 ^ 62)
def srcOf (k : IK) (as : PV) (h : IHeap) : Option Src :=
  match k, as with
  | .seq, .tup [.tup xs] => some (.its xs)
  | .seq, .tup [.fl xs] => some (.its xs)
  | .seq, .tup [.ref i] => match h[i]? with
    | some (.lst _) => some (.cell i)
    | _ => none
  | .range, .tup [.int n] => if fits62 n then some (.its ((List.range n.toNat).map fun i => .int (0 + (i : Nat)))) else none
  | .range, .tup [.int a, .int b] => if fits62 a && fits62 b then some (.its ((List.range (b - a).toNat).map fun i => .int (a + (i : Nat)))) else none
  | .zip, .tup [.tup xs, .tup ys] => some (.its (List.zipWith (fun x y => .tup [x, y]) xs ys))
  | .zip, .tup [.ref i, .ref j] => match h[i]?, h[j]? with
    | some (.lst _), some (.lst _) => some (.zipc i j)
    | _, _ => none
  | .zip, .tup [.ref i, .tup ys] => match h[i]? with
    | some (.lst xs) => some (.zipm true i xs.length ys)
    | _ => none
  | .zip, .tup [.tup ys, .ref i] => match h[i]? with
    | some (.lst xs) => some (.zipm false i xs.length ys)
    | _ => none
  | .enum, .tup [.tup xs] => some (.enumt xs)
  | .enum, .tup [.ref i] => match h[i]? with
    | some (.lst _) => some (.enumc i)
    | _ => none
  | .rev, .tup [.ref i] => match h[i]? with
    | some (.lst xs) => some (.revn i xs.length)
    | _ => none
  | .rev, .tup [.tup xs] => some (.its xs.reverse)
  | _, _ => none
/-- the turns of a walk: the state a goes on, or b ends it -/
def loopN {α β : Type} (s : Src) (step : PV → α → IHeap → Option (Sum α β × IHeap)) : Nat → Nat → α → IHeap → Option (Sum α β × IHeap)
  | 0, _, _, _ => none
  | f + 1, j, a, h => match srcAt s h j with
    | none => none
    | some none => some (.inl a, h)
    | some (some x) => match step x a h with
      | none => none
      | some (.inl a', h') => loopN s step f (j + 1) a' h'
      | some (.inr b, h') => some (.inr b, h')

def setAll : List Nat → List PV → Env' → Option Env'
  | [], [], ρ => some ρ
  | i :: is, x :: xs, ρ => setAll is xs (ρ.set i (some x))
  | _, _, _ => none
def assignT (t : Tg) (v : PV) (ρ : Env') : Option Env' :=
  match t with
  | .nm i => some (ρ.set i (some v))
  | .tp is => match v with
    | .tup xs => setAll is xs ρ
    | _ => none
def wipeE (ρ : Env') : List Nat → Env'
  | [] => ρ
  | v :: vs => (wipeE ρ vs).set v none

/-- a consumer's step, what it begins and ends with -/
def genStep (c : GC) (v : PV) (acc : List PV) (h : IHeap) : Option (Sum (List PV) Bool × IHeap) :=
  match c with
  | .all => (truthy h v).bind fun w => if w = true then some (.inl acc, h) else some (.inr false, h)
  | .any => (truthy h v).bind fun w => if w = true then some (.inr true, h) else some (.inl acc, h)
  | .sum => match v, acc with
    | .int i, [.int a] => if (decide (-(2 ^ 63) ≤ i) && decide (i < 2 ^ 63)) && (decide (-(2 ^ 63) ≤ a + i) && decide (a + i < 2 ^ 63)) then some (.inl [.int (a + i)], h) else none
    | _, _ => none
  | .tup => if acc.length < sizeLine then some (.inl (acc ++ [v]), h) else none
def genInit (c : GC) : List PV := match c with
  | .sum => [.int 0]
  | _ => []
def genEnd (c : GC) (r : Sum (List PV) Bool) : Option PV :=
  match c, r with
  | .all, .inl _ => some (.bl true)
  | .all, .inr b => some (.bl b)
  | .any, .inl _ => some (.bl false)
  | .any, .inr b => some (.bl b)
  | .sum, .inl [v] => some v
  | .tup, .inl acc => some (.tup acc)
  | _, _ => none
/-- the arguments in the parameters' order -/
def pm {α : Type} (perm : List Nat) (xs : List α) : List α := perm.filterMap fun j => xs[j]?
section
variable (F : Nat → List PV → IHeap → Option (PV × IHeap))
def ev : IE → Env' → IHeap → Option (PV × IHeap)
  | .var i, ρ, h => match ρ[i]? with
    | some (some v) => some (v, h)
    | _ => none
  | .con v, _, h => some (v, h)
  | .bin op a b, ρ, h => do
    let (x, h1) ← ev a ρ h
    let (y, h2) ← ev b ρ h1
    binop op x y h2
  | .cmp op a b, ρ, h => do
    let (x, h1) ← ev a ρ h
    let (y, h2) ← ev b ρ h1
    let r ← cmpop op x y h2
    some (.bl r, h2)
  | .chain o1 o2 a b c, ρ, h => do
    let (x, h1) ← ev a ρ h
    let (y, h2) ← ev b ρ h1
    let r ← cmpop o1 x y h2
    if r then do
      let (z, h3) ← ev c ρ h2
      let r' ← cmpop o2 y z h3
      some (.bl r', h3)
    else some (.bl false, h2)
  | .not a, ρ, h => do
    let (x, h1) ← ev a ρ h
    let r ← truthy h1 x
    some (.bl (!r), h1)
  | .neg a, ρ, h => do
    let (x, h1) ← ev a ρ h
    match x with
    | .int i => some (.int (-i), h1)
    | _ => none
  | .and a b, ρ, h => do
    let (x, h1) ← ev a ρ h
    let r ← truthy h1 x
    if r then ev b ρ h1 else some (x, h1)
  | .or a b, ρ, h => do
    let (x, h1) ← ev a ρ h
    let r ← truthy h1 x
    if r then some (x, h1) else ev b ρ h1
  | .ife c a b, ρ, h => do
    let (x, h1) ← ev c ρ h
    let r ← truthy h1 x
    if r then ev a ρ h1 else ev b ρ h1
  | .nil, _, h => some (.tup [], h)
  | .cons a as, ρ, h => do
    let (x, h1) ← ev a ρ h
    let (y, h2) ← ev as ρ h1
    match y with
    | .tup ys => some (.tup (x :: ys), h2)
    | _ => none
  | .tup as, ρ, h => do
    let (y, h1) ← ev as ρ h
    match y with
    | .tup ys => if ys.length ≤ sizeLine then some (.tup ys, h1) else none
    | _ => none
  | .lst as, ρ, h => do
    let (y, h1) ← ev as ρ h
    match y with
    | .tup ys => if ys.length ≤ sizeLine then some (newCell (.lst ys) h1) else none
    | _ => none
  | .dic ks vs, ρ, h => do
    let (y, h1) ← ev vs ρ (h ++ [.dic []])
    match y, h1[h.length]? with
    | .tup ys, some (.dic []) => if ys.length = ks.length ∧ ks.length ≤ 15 then some (.ref h.length, h1.set h.length (.dic ((ks.zip ys).foldl (fun kvs p => kvPut (.inr p.1) p.2 kvs) []))) else none
    | _, _ => none
  | .idx a i, ρ, h => do
    let (x, h1) ← ev a ρ h
    let (y, h2) ← ev i ρ h1
    let r ← idxop x y h2
    some (r, h2)
  | .slc l r a lo hi, ρ, h => (ev a ρ h).bind fun p => ((if l = true then (ev lo ρ p.2).bind fun z => match z.1 with
      | .int i => some (some i, z.2)
      | _ => none
    else some (none, p.2)) : Option (Option Int × IHeap)).bind fun q => ((if r = true then (ev hi ρ q.2).bind fun z => match z.1 with
      | .int i => some (some i, z.2)
      | _ => none
    else some (none, q.2)) : Option (Option Int × IHeap)).bind fun u => slcop p.1 q.1 u.1 u.2
  | .rev a, ρ, h => do
    let (x, h1) ← ev a ρ h
    match x with
    | .ref i => match h1[i]? with
      | some (.lst xs) => some (newCell (.lst xs.reverse) h1)
      | _ => none
    | _ => none
  | .call f as, ρ, h => do
    let (y, h1) ← ev as ρ h
    match y with
    | .tup ys => F f ys h1
    | _ => none
  | .callK f perm as bs, ρ, h => (ev as ρ h).bind fun p => (ev bs ρ p.2).bind fun q => match p.1, q.1 with
    | .tup ys, .tup zs => F f (pm perm (ys ++ zs)) q.2
    | _, _ => none
  | .blt b as, ρ, h => do
    let (y, h1) ← ev as ρ h
    match y with
    | .tup ys => bltop b ys h1
    | _ => none
  | .mth m o as, ρ, h => do
    let (x, h1) ← ev o ρ h
    if isLst h1 x then do
      let (y, h2) ← ev as ρ h1
      match y with
      | .tup ys => mthop m x ys h2
      | _ => none
    else none
  | .lc vs tg k src ifs elt, ρ, h => (ev src ρ h).bind fun p => (srcOf k p.1 p.2).bind fun s =>
    (loopN (α := Unit) (β := Unit) s (fun x _ h => (assignT tg x (wipeE ρ vs)).bind fun ρ1 => ((ev ifs ρ1 h).bind fun q => (truthy q.2 q.1).bind fun b => some (b, q.2)).bind fun t =>
      if t.1 = true then (ev elt ρ1 t.2).bind fun q => (match q.2[p.2.length]? with
        | some (.lst acc) => if acc.length < sizeLine then some (.inl (), q.2.set p.2.length (.lst (acc ++ [q.1]))) else none
        | _ => none) else some (.inl (), t.2)) (srcLen s (p.2 ++ [.lst []]) + 1) 0 () (p.2 ++ [.lst []])).bind fun r => some (.ref p.2.length, r.2)
  | .gen c vs tg k src ifs elt, ρ, h => (ev src ρ h).bind fun p => (srcOf k p.1 p.2).bind fun s =>
    (loopN (α := List PV) (β := Bool) s (fun x acc h => (assignT tg x (wipeE ρ vs)).bind fun ρ1 => ((ev ifs ρ1 h).bind fun q => (truthy q.2 q.1).bind fun b => some (b, q.2)).bind fun t =>
      if t.1 = true then (ev elt ρ1 t.2).bind fun q => genStep c q.1 acc q.2 else some (.inl acc, t.2)) (srcLen s p.2 + 1) 0 (genInit c) p.2).bind fun r => (genEnd c r.1).bind fun v => some (v, r.2)

  | .sts b a, ρ, h => (ev a ρ h).bind fun p => stsop b p.1 p.2

inductive Fl where
  | nx (ρ : Env') | rt (v : PV) | bk (ρ : Env') | ct (ρ : Env')
def whileN (c : Env' → IHeap → Option (Bool × IHeap)) (body : Env' → IHeap → Option (Fl × IHeap)) : Nat → Env' → IHeap → Option (Fl × IHeap)
  | 0, _, _ => none
  | f + 1, ρ, h => (c ρ h).bind fun p => if p.1 = true then (body ρ p.2).bind fun q => (match q.1 with
      | .nx ρ' => whileN c body f ρ' q.2
      | .ct ρ' => whileN c body f ρ' q.2
      | .bk ρ' => some (.nx ρ', q.2)
      | .rt v => some (.rt v, q.2)) else some (.nx ρ, p.2)
/-- how a loop's body ends a turn -/
def forEnd : Fl → Sum Env' Fl
  | .nx ρ' => .inl ρ'
  | .ct ρ' => .inl ρ'
  | .bk ρ' => .inr (.nx ρ')
  | .rt v => .inr (.rt v)
def ex (wf : Nat) : IS → Env' → IHeap → Option (Fl × IHeap)
  | .nil, ρ, h => some (.nx ρ, h)
  | .pass, ρ, h => some (.nx ρ, h)
  | .never, _, _ => none
  | .brk, ρ, h => some (.bk ρ, h)
  | .cnt, ρ, h => some (.ct ρ, h)
  | .seq a b, ρ, h => (ex wf a ρ h).bind fun p => match p.1 with
    | .nx ρ' => ex wf b ρ' p.2
    | fl => some (fl, p.2)
  | .asg t e, ρ, h => (ev F e ρ h).bind fun p => (assignT t p.1 ρ).bind fun ρ' => some (.nx ρ', p.2)
  | .sub o i e, ρ, h => (ev F e ρ h).bind fun p => (ev F o ρ p.2).bind fun q => (ev F i ρ q.2).bind fun u => (setop q.1 u.1 p.1 u.2).bind fun h4 => some (.nx ρ, h4)
  | .aug i op e, ρ, h => match ρ[i]? with
    | some (some x) => (ev F e ρ h).bind fun p => (augop op x p.1 p.2).bind fun q => some (.nx (ρ.set i (some q.1)), q.2)
    | _ => none
  | .ex e, ρ, h => (ev F e ρ h).bind fun p => some (.nx ρ, p.2)
  | .ret e, ρ, h => (ev F e ρ h).bind fun p => some (.rt p.1, p.2)
  | .ife c a b, ρ, h => ((ev F c ρ h).bind fun q => (truthy q.2 q.1).bind fun b => some (b, q.2)).bind fun p => if p.1 = true then ex wf a ρ p.2 else ex wf b ρ p.2
  | .while_ c b, ρ, h => whileN (fun ρ h => (ev F c ρ h).bind fun q => (truthy q.2 q.1).bind fun b => some (b, q.2)) (ex wf b) wf ρ h
  | .for_ t k src b, ρ, h => (ev F src ρ h).bind fun p => (srcOf k p.1 p.2).bind fun s =>
    (loopN (α := Env') (β := Fl) s (fun x ρ h => (assignT t x ρ).bind fun ρ1 => (ex wf b ρ1 h).bind fun q => some (forEnd q.1, q.2)) (srcLen s p.2 + 1) 0 ρ p.2).bind fun r => match r.1 with
      | .inl ρ' => some (.nx ρ', r.2)
      | .inr fl => some (fl, r.2)
end
end PI
end

section
set_option Elab.async false
set_option linter.all false
set_option maxRecDepth 100000
set_option maxHeartbeats 2000000
/-! what stands for what: values, cells, slots -/
namespace PI
open PySem PySem.Spec PyProof.Rows L2

/-- a list that never changes: known to the object, or the module's own -/
def FroL (K : PySem.W.Frag) (H : Hp) (a : Addr) (xs : List V) : Prop :=
  (∃ o, H a = some (.frz o (.lst xs))) ∨
    ∃ (o : Obj) (its : Array Value) (n : Nat), K.lookup a = some o ∧ o.cls = .type "list" ∧ o.dict = none ∧ o.data = .seq its n ∧ its.size ≤ sizeLine ∧ Vals xs its.toList
theorem FroL.sq {K : PySem.W.Frag} {H : Hp} {a : Addr} {xs : List V} (h : FroL K H a xs) : SqL K H a xs := by
  rcases h with ⟨o, h⟩ | h
  · exact .inl (.inr ⟨o, h⟩)
  · exact .inr h
mutual
inductive VRep (K : PySem.W.Frag) (φ : Nat → Addr) (n : Nat) (H : Hp) : PV → V → Prop
  | non : VRep K φ n H .non .non
  | bl (b) : VRep K φ n H (.bl b) (.bl b)
  | int (i) : VRep K φ n H (.int i) (.int i)
  | str (s) : VRep K φ n H (.str s) (.str s)
  | ty (t) : VRep K φ n H (.ty t) (.ty t)
  | ref {i} : i < n → VRep K φ n H (.ref i) (.ref (φ i))
  | tup {a xs vs} : SqT K H a xs → VReps K φ n H vs xs → VRep K φ n H (.tup vs) (.ref a)
  | fl {a xs vs} : FroL K H a xs → VReps K φ n H vs xs → VRep K φ n H (.fl vs) (.ref a)
inductive VReps (K : PySem.W.Frag) (φ : Nat → Addr) (n : Nat) (H : Hp) : List PV → List V → Prop
  | nil : VReps K φ n H [] []
  | cons {v x vs xs} : VRep K φ n H v x → VReps K φ n H vs xs → VReps K φ n H (v :: vs) (x :: xs)
end
section
variable {K : PySem.W.Frag} {φ φ' : Nat → Addr} {n n' : Nat} {H H' : Hp}
/-- the tuples and the known lists stand -/
structure Stay (H H' : Hp) : Prop where
  tup : ∀ a xs, H a = some (.tup xs) → H' a = some (.tup xs)
  frz : ∀ a o u, H a = some (.frz o u) → H' a = some (.frz o u)
theorem Stay.refl : Stay H H := ⟨fun _ _ h => h, fun _ _ _ h => h⟩
theorem Stay.trans {H2 : Hp} (a : Stay H H') (b : Stay H' H2) : Stay H H2 := ⟨fun c xs h => b.tup c xs (a.tup c xs h), fun c o u h => b.frz c o u (a.frz c o u h)⟩
theorem Stay.sqT (s : Stay H H') {a : Addr} {xs : List V} (h : SqT K H a xs) : SqT K H' a xs := by
  rcases h with (h | ⟨o, h⟩) | h
  · exact .inl (.inl (s.tup _ _ h))
  · exact .inl (.inr ⟨o, s.frz _ _ _ h⟩)
  · exact .inr h
theorem Stay.froL (s : Stay H H') {a : Addr} {xs : List V} (h : FroL K H a xs) : FroL K H' a xs := by
  rcases h with ⟨o, h⟩ | h
  · exact .inl ⟨o, s.frz _ _ _ h⟩
  · exact .inr h
theorem Stay.fresh {p : Addr} {o : HO} (h : H p = none) : Stay H (upd H p o) :=
  ⟨fun a xs e => by rw [upd_ne (ne_of_none e h)]; exact e, fun a ob u e => by rw [upd_ne (ne_of_none e h)]; exact e⟩
theorem Stay.mut {p : Addr} {o u : HO} (h : H p = some u) (hu : Mut (some u)) : Stay H (upd H p o) := by
  refine ⟨fun a xs e => ?_, fun a ob w e => ?_⟩
  · rw [upd_ne (fun z => by rw [z, h] at e; cases e; exact hu)]; exact e
  · rw [upd_ne (fun z => by rw [z, h] at e; cases e; exact hu)]; exact e
mutual
theorem VRep.mono (hs : Stay H H') (hn : n ≤ n') (hφ : ∀ i, i < n → φ' i = φ i) : ∀ {v : PV} {x : V}, VRep K φ n H v x → VRep K φ' n' H' v x
  | _, _, .non => .non
  | _, _, .bl b => .bl b
  | _, _, .int i => .int i
  | _, _, .str s => .str s
  | _, _, .ty t => .ty t
  | _, _, .ref (i := i) h => by rw [← hφ i h]; exact .ref (Nat.lt_of_lt_of_le h hn)
  | _, _, .tup h r => .tup (hs.sqT h) (VReps.mono hs hn hφ r)
  | _, _, .fl h r => .fl (hs.froL h) (VReps.mono hs hn hφ r)
theorem VReps.mono (hs : Stay H H') (hn : n ≤ n') (hφ : ∀ i, i < n → φ' i = φ i) : ∀ {vs : List PV} {xs : List V}, VReps K φ n H vs xs → VReps K φ' n' H' vs xs
  | _, _, .nil => .nil
  | _, _, .cons r rs => .cons (VRep.mono hs hn hφ r) (VReps.mono hs hn hφ rs)
end
theorem VReps.length : ∀ {vs : List PV} {xs : List V}, VReps K φ n H vs xs → vs.length = xs.length
  | _, _, .nil => rfl
  | _, _, .cons _ rs => congrArg (· + 1) rs.length
theorem VReps.get : ∀ {vs : List PV} {xs : List V} {i : Nat} {v : PV}, VReps K φ n H vs xs → vs[i]? = some v → ∃ x, xs[i]? = some x ∧ VRep K φ n H v x
  | _, _, _, _, .nil, e => by simp at e
  | _, _, 0, _, .cons r _, e => by simp at e; subst e; exact ⟨_, rfl, r⟩
  | _, _, i + 1, v, .cons _ rs, e => by
    obtain ⟨x, h1, h2⟩ := VReps.get (i := i) (v := v) rs (by simpa using e)
    exact ⟨x, by simpa using h1, h2⟩
theorem VReps.get' : ∀ {vs : List PV} {xs : List V} {i : Nat} {x : V}, VReps K φ n H vs xs → xs[i]? = some x → ∃ v, vs[i]? = some v ∧ VRep K φ n H v x
  | _, _, _, _, .nil, e => by simp at e
  | _, _, 0, _, .cons r _, e => by simp at e; subst e; exact ⟨_, rfl, r⟩
  | _, _, i + 1, v, .cons _ rs, e => by
    obtain ⟨x, h1, h2⟩ := VReps.get' (i := i) (x := v) rs (by simpa using e)
    exact ⟨x, by simpa using h1, h2⟩
theorem VReps.append : ∀ {vs ws : List PV} {xs ys : List V}, VReps K φ n H vs xs → VReps K φ n H ws ys → VReps K φ n H (vs ++ ws) (xs ++ ys)
  | _, _, _, _, .nil, s => s
  | _, _, _, _, .cons r rs, s => .cons r (VReps.append rs s)
theorem VReps.take : ∀ {vs : List PV} {xs : List V} (k : Nat), VReps K φ n H vs xs → VReps K φ n H (vs.take k) (xs.take k)
  | _, _, 0, _ => .nil
  | _, _, _ + 1, .nil => .nil
  | _, _, k + 1, .cons r rs => .cons r (VReps.take k rs)
theorem VReps.drop : ∀ {vs : List PV} {xs : List V} (k : Nat), VReps K φ n H vs xs → VReps K φ n H (vs.drop k) (xs.drop k)
  | _, _, 0, r => r
  | _, _, _ + 1, .nil => .nil
  | _, _, k + 1, .cons _ rs => VReps.drop k rs
theorem VReps.set {v : PV} {x : V} (r : VRep K φ n H v x) : ∀ {vs : List PV} {xs : List V} (i : Nat), VReps K φ n H vs xs → VReps K φ n H (vs.set i v) (xs.set i x)
  | _, _, _, .nil => .nil
  | _, _, 0, .cons _ rs => .cons r rs
  | _, _, i + 1, .cons q rs => .cons q (VReps.set r i rs)
theorem VReps.reverse : ∀ {vs : List PV} {xs : List V}, VReps K φ n H vs xs → VReps K φ n H vs.reverse xs.reverse
  | _, _, .nil => .nil
  | _, _, .cons r rs => by rw [List.reverse_cons, List.reverse_cons]; exact rs.reverse.append (.cons r .nil)
theorem VReps.ints : ∀ (ns : List Int), VReps K φ n H (ns.map .int) (ns.map .int)
  | [] => .nil
  | i :: r => .cons (.int i) (VReps.ints r)
theorem VReps.ints_of : ∀ {vs : List PV} {xs : List V} {ns : List Int}, VReps K φ n H vs xs → intsOf vs = some ns → xs = ns.map V.int
  | _, _, ns, .nil, e => by cases e; rfl
  | .int i :: vs, _, ns, .cons r rs, e => by
    cases r
    unfold intsOf at e
    cases q : intsOf vs with
    | none => rw [q] at e; cases e
    | some ms => rw [q] at e; cases e; rw [List.map_cons, VReps.ints_of rs q]

inductive KReps (K : PySem.W.Frag) (φ : Nat → Addr) (n : Nat) (H : Hp) : List (Key × PV) → List (Key × V) → Prop
  | nil : KReps K φ n H [] []
  | cons {k v x vs xs} : VRep K φ n H v x → KReps K φ n H vs xs → KReps K φ n H ((k, v) :: vs) ((k, x) :: xs)
theorem KReps.mono (hs : Stay H H') (hn : n ≤ n') (hφ : ∀ i, i < n → φ' i = φ i) : ∀ {vs : List (Key × PV)} {xs : List (Key × V)}, KReps K φ n H vs xs → KReps K φ' n' H' vs xs
  | _, _, .nil => .nil
  | _, _, .cons r rs => .cons (r.mono hs hn hφ) (rs.mono hs hn hφ)
theorem KReps.length : ∀ {vs : List (Key × PV)} {xs : List (Key × V)}, KReps K φ n H vs xs → vs.length = xs.length
  | _, _, .nil => rfl
  | _, _, .cons _ rs => congrArg (· + 1) rs.length
def CRep (K : PySem.W.Frag) (φ : Nat → Addr) (n : Nat) (H : Hp) (c : Cell) (a : Addr) : Prop :=
  match c with
  | .lst vs => ∃ xs, H a = some (.lst xs) ∧ VReps K φ n H vs xs
  | .dic kvs => ∃ kxs, H a = some (.dK kxs) ∧ KReps K φ n H kvs kxs
theorem CRep.some {c : Cell} {a : Addr} (h : CRep K φ n H c a) : ∃ u, H a = some u ∧ Mut (some u) := by
  cases c with
  | lst vs => obtain ⟨xs, e, _⟩ := h; exact ⟨_, e, trivial⟩
  | dic kvs => obtain ⟨xs, e, _⟩ := h; exact ⟨_, e, trivial⟩
theorem CRep.mono (hs : Stay H H') (hn : n ≤ n') (hφ : ∀ i, i < n → φ' i = φ i) {c : Cell} {a : Addr} (h : CRep K φ n H c a) (e : H' a = H a) : CRep K φ' n' H' c a := by
  cases c with
  | lst vs => obtain ⟨xs, q, r⟩ := h; exact ⟨xs, e.trans q, r.mono hs hn hφ⟩
  | dic kvs => obtain ⟨xs, q, r⟩ := h; exact ⟨xs, e.trans q, r.mono hs hn hφ⟩
end

/-- the cells h are the objects at φ 0, φ 1, ..; the tables of code objects at tabs -/
structure Sim (K : PySem.W.Frag) (tabs : List Addr) (φ : Nat → Addr) (h : IHeap) (H : Hp) : Prop where
  inj : ∀ i j, i < h.length → j < h.length → φ i = φ j → i = j
  cell : ∀ i c, h[i]? = some c → CRep K φ h.length H c (φ i)
  tab : ∀ P ∈ tabs, GxR.TabG H P
/-- later -/
structure Le (φ : Nat → Addr) (h : IHeap) (H : Hp) (φ' : Nat → Addr) (h' : IHeap) (H' : Hp) : Prop where
  stay : Stay H H'
  len : h.length ≤ h'.length
  eq : ∀ i, i < h.length → φ' i = φ i
section
variable {K : PySem.W.Frag} {tabs : List Addr} {φ φ' φ2 : Nat → Addr} {h h' h2 : IHeap} {H H' H2 : Hp}
theorem Le.refl : Le φ h H φ h H := ⟨.refl, Nat.le_refl _, fun _ _ => rfl⟩
theorem Le.trans (a : Le φ h H φ' h' H') (b : Le φ' h' H' φ2 h2 H2) : Le φ h H φ2 h2 H2 :=
  ⟨a.stay.trans b.stay, Nat.le_trans a.len b.len, fun i hi => (b.eq i (Nat.lt_of_lt_of_le hi a.len)).trans (a.eq i hi)⟩
theorem Le.rep (l : Le φ h H φ' h' H') {v : PV} {x : V} (r : VRep K φ h.length H v x) : VRep K φ' h'.length H' v x := r.mono l.stay l.len l.eq
theorem Le.reps (l : Le φ h H φ' h' H') {v : List PV} {x : List V} (r : VReps K φ h.length H v x) : VReps K φ' h'.length H' v x := r.mono l.stay l.len l.eq
/-- a new cell -/
def phi (φ : Nat → Addr) (n : Nat) (p : Addr) : Nat → Addr := fun i => if i = n then p else φ i
theorem Sim.lt {i : Nat} {c : Cell} (e : h[i]? = some c) : i < h.length := (List.getElem?_eq_some_iff.mp e).1
theorem Sim.alloc (S : Sim K tabs φ h H) {p : Addr} {c : Cell} {o : HO} (hp : H p = none) (ho : Mut (some o))
    (hc : CRep K (phi φ h.length p) (h ++ [c]).length (upd H p o) c p) : Sim K tabs (phi φ h.length p) (h ++ [c]) (upd H p o) ∧ Le φ h H (phi φ h.length p) (h ++ [c]) (upd H p o) := by
  have hlen : (h ++ [c]).length = h.length + 1 := by simp
  have le : Le φ h H (phi φ h.length p) (h ++ [c]) (upd H p o) := ⟨.fresh hp, by omega, fun i hi => if_neg (Nat.ne_of_lt hi)⟩
  have ne : ∀ i, i < h.length → φ i ≠ p := fun i hi => by
    obtain ⟨u, e, _⟩ := (S.cell i _ (List.getElem?_eq_getElem hi)).some
    exact ne_of_none e hp
  refine ⟨⟨fun i j hi hj e => ?_, fun i c' e => ?_, fun P hP => ?_⟩, le⟩
  · rw [hlen] at hi hj
    unfold phi at e
    by_cases h1 : i = h.length
    · by_cases h2 : j = h.length
      · exact h1.trans h2.symm
      · rw [if_pos h1, if_neg h2] at e
        exact absurd e.symm (ne j (by omega))
    · by_cases h2 : j = h.length
      · rw [if_neg h1, if_pos h2] at e
        exact absurd e (ne i (by omega))
      · rw [if_neg h1, if_neg h2] at e
        exact S.inj i j (by omega) (by omega) e
  · by_cases h1 : i = h.length
    · subst h1
      rw [List.getElem?_append_right (Nat.le_refl _)] at e
      simp at e
      subst e
      have q : phi φ h.length p h.length = p := if_pos rfl
      rw [q]
      exact hc
    · have hi : i < h.length := by
        have := Sim.lt e
        rw [hlen] at this
        omega
      rw [List.getElem?_append_left hi] at e
      have q : phi φ h.length p i = φ i := if_neg h1
      rw [q]
      exact (S.cell i c' e).mono le.stay le.len le.eq (upd_ne (ne i hi))
  · obtain ⟨ps, e, t⟩ := S.tab P hP
    exact ⟨ps, by rw [upd_ne (ne_of_none e hp)]; exact e, t⟩
theorem Sim.set (S : Sim K tabs φ h H) {i : Nat} {c0 c : Cell} {o : HO} (e0 : h[i]? = some c0) (ho : Mut (some o))
    (hc : CRep K φ h.length (upd H (φ i) o) c (φ i)) : Sim K tabs φ (h.set i c) (upd H (φ i) o) ∧ Le φ h H φ (h.set i c) (upd H (φ i) o) := by
  obtain ⟨u, eu, mu⟩ := (S.cell i c0 e0).some
  have hi := Sim.lt e0
  have le : Le φ h H φ (h.set i c) (upd H (φ i) o) := ⟨.mut eu mu, by simp, fun _ _ => rfl⟩
  refine ⟨⟨fun a b ha hb e => S.inj a b (by simpa using ha) (by simpa using hb) e, fun j c' e => ?_, fun P hP => ?_⟩, le⟩
  · by_cases hj : j = i
    · subst hj
      rw [List.getElem?_set_self hi] at e
      cases e
      simpa using hc
    · rw [List.getElem?_set_ne (Ne.symm hj)] at e
      exact (S.cell j c' e).mono le.stay le.len le.eq (upd_ne fun z => hj (S.inj j i (Sim.lt e) hi z))
  · obtain ⟨ps, e, t⟩ := S.tab P hP
    exact ⟨ps, by rw [upd_ne (fun z => by rw [z, eu] at e; cases e; exact mu)]; exact e, t⟩
theorem Sim.tup (S : Sim K tabs φ h H) {p : Addr} {xs : List V} (hp : H p = none) : Sim K tabs φ h (upd H p (.tup xs)) ∧ Le φ h H φ h (upd H p (.tup xs)) := by
  have le : Le φ h H φ h (upd H p (.tup xs)) := ⟨.fresh hp, Nat.le_refl _, fun _ _ => rfl⟩
  refine ⟨⟨S.inj, fun i c e => ?_, fun P hP => ?_⟩, le⟩
  · obtain ⟨u, q, _⟩ := (S.cell i c e).some
    exact (S.cell i c e).mono le.stay le.len le.eq (upd_ne (ne_of_none q hp))
  · obtain ⟨ps, e, t⟩ := S.tab P hP
    exact ⟨ps, by rw [upd_ne (ne_of_none e hp)]; exact e, t⟩
theorem Sim.tabbed (S : Sim K tabs φ h H) {P : Addr} (hP : P ∈ tabs) (t : GxR.Tabbed P H H') : Sim K tabs φ h H' ∧ Le φ h H φ h H' := by
  obtain ⟨ps, e, _⟩ := S.tab P hP
  have nP : ∀ b u, H b = some u → (∀ q, u ≠ .tbl q) → b ≠ P := fun b u q z w => by
    rw [w, e] at q
    exact z ps (Option.some.inj q).symm
  have st : Stay H H' := ⟨fun a xs q => by rw [t.2 a (nP a _ q fun _ z => by cases z)]; exact q, fun a o u q => by rw [t.2 a (nP a _ q fun _ z => by cases z)]; exact q⟩
  have le : Le φ h H φ h H' := ⟨st, Nat.le_refl _, fun _ _ => rfl⟩
  refine ⟨⟨S.inj, fun i c q => ?_, fun P' hP' => ?_⟩, le⟩
  · obtain ⟨u, q', mu⟩ := (S.cell i c q).some
    exact (S.cell i c q).mono le.stay le.len le.eq (t.2 _ (nP _ _ q' fun _ z => by subst z; exact mu))
  · by_cases z : P' = P
    · rw [z]; exact t.1
    · obtain ⟨qs, e', t'⟩ := S.tab P' hP'
      exact ⟨qs, by rw [t.2 P' z]; exact e', t'⟩
end

/-- the slots -/
def ERep (K : PySem.W.Frag) (φ : Nat → Addr) (n : Nat) (H : Hp) (ρ : Env') (σ : L2.St) : Prop :=
  ρ.length = σ.length ∧ ∀ (i : Nat) (v : PV), ρ[i]? = some (some v) → ∃ x, σ[i]? = some (some x) ∧ VRep K φ n H v x
section
variable {K : PySem.W.Frag} {φ φ' : Nat → Addr} {n n' : Nat} {h h' : IHeap} {H H' : Hp} {ρ : Env'} {σ : L2.St}
theorem Le.erep (l : Le φ h H φ' h' H') (r : ERep K φ h.length H ρ σ) : ERep K φ' h'.length H' ρ σ :=
  ⟨r.1, fun i v e => let ⟨x, q, z⟩ := r.2 i v e; ⟨x, q, l.rep z⟩⟩
theorem ERep.set (r : ERep K φ n H ρ σ) {i : Nat} {v : PV} {x : V} (q : VRep K φ n H v x) : ERep K φ n H (ρ.set i (some v)) (σ.set i (some x)) := by
  refine ⟨by simpa using r.1, fun j w e => ?_⟩
  by_cases hj : j = i
  · subst hj
    by_cases hl : j < ρ.length
    · rw [List.getElem?_set_self hl] at e
      cases e
      exact ⟨x, List.getElem?_set_self (by rw [← r.1]; exact hl), q⟩
    · rw [List.getElem?_eq_none (by simpa using hl)] at e
      cases e
  · rw [List.getElem?_set_ne (Ne.symm hj)] at e ⊢
    exact r.2 j w e
theorem ERep.setN (r : ERep K φ n H ρ σ) {i : Nat} : ERep K φ n H (ρ.set i none) (σ.set i none) := by
  refine ⟨by simpa using r.1, fun j w e => ?_⟩
  by_cases hj : j = i
  · subst hj
    by_cases hl : j < ρ.length
    · rw [List.getElem?_set_self hl] at e
      cases e
    · rw [List.getElem?_eq_none (by simpa using hl)] at e
      cases e
  · rw [List.getElem?_set_ne (Ne.symm hj)] at e ⊢
    exact r.2 j w e
theorem ERep.wipe (r : ERep K φ n H ρ σ) : ∀ vs : List Nat, ERep K φ n H (wipeE ρ vs) (L2.wipe σ vs)
  | [] => r
  | v :: vs => by unfold wipeE L2.wipe; exact (ERep.wipe r vs).setN
end
end PI
end

section
set_option Elab.async false
set_option linter.all false
set_option maxRecDepth 100000
set_option maxHeartbeats 2000000
/-! the operations do what the small language says -/
namespace PI
open PySem PySem.Spec PyProof.Rows L2

/-! ### tuple * int, the rest of it -/
theorem tuple_mul1 (l : Addr) (items : Array Value) (n : Nat) (dd : Option Addr) (sl : Array (Option Value)) (x : Int) (u : Tok) (c0 : (decide (x < -(2 ^ 63)) || decide (x ≥ 2 ^ 63)) = false) (c1 : (items.isEmpty || x == 1) = true) :
    Meets (Builtin.«tuple.__mul__» ⟨[.ref l, .int x u], []⟩) (fun _ R s => s.heap.get? l = some { cls := .type "tuple", dict := dd, data := .seq items n, slots := sl } ∧ R (.ok (.ret (Value.ref l))) s) :=
  .of_wp fun prog w A R s h => by
    obtain ⟨hp, g, d, tk, os⟩ := s
    obtain ⟨hl, h⟩ := h
    have f1 := AutoSeq1.idx_int
    wp_walk using wpAny_loadPart' hl
    repeat (first
      | (refine wpAny_ite_false (decide_eq_false (by rw [c0]; exact Bool.false_ne_true)) ?_; wp_walk using wpAny_loadPart' hl)
      | (refine wpAny_ite_true (decide_eq_true (by rw [c1])) ?_; wp_walk using wpAny_loadPart' hl))
    exact ⟨_, rfl, h⟩
theorem tuple_mul0 (l : Addr) (items : Array Value) (n : Nat) (dd : Option Addr) (sl : Array (Option Value)) (x : Int) (u : Tok) (c0 : (decide (x < -(2 ^ 63)) || decide (x ≥ 2 ^ 63)) = false) (c1 : (items.isEmpty || x == 1) = false) (c2 : (decide (x ≤ 0) || items.isEmpty) = true) :
    Meets (Builtin.«tuple.__mul__» ⟨[.ref l, .int x u], []⟩) (fun _ R s => s.heap.get? l = some { cls := .type "tuple", dict := dd, data := .seq items n, slots := sl } ∧
      R (.ok (.ret (Value.ref s.heap.objs.size))) { s with heap := s.heap.push { cls := Value.type "tuple", data := Data.seq #[] }, toks := s.toks }) :=
  .of_wp fun prog w A R s h => by
    obtain ⟨hp, g, d, tk, os⟩ := s
    obtain ⟨hl, h⟩ := h
    have f1 := AutoSeq1.idx_int
    wp_walk using wpAny_loadPart' hl
    repeat (first
      | (refine wpAny_ite_false (decide_eq_false (by rw [c0]; exact Bool.false_ne_true)) ?_; wp_walk using wpAny_loadPart' hl)
      | (refine wpAny_ite_false (decide_eq_false (by rw [c1]; exact Bool.false_ne_true)) ?_; wp_walk using wpAny_loadPart' hl)
      | (refine wpAny_ite_true (decide_eq_true (by rw [c2])) ?_; wp_walk using wpAny_loadPart' hl))
    exact ⟨_, rfl, h⟩
section
variable {X : Cx}
theorem op_repT01 : OpR X (binaryOp .Mult) (fun x y H Q => ∃ l k xs, x = .ref l ∧ y = .int k ∧ SqT X.K H l xs ∧ -(2 ^ 63) ≤ k ∧ k < 2 ^ 63 ∧ ((xs = [] ∨ k = 1) ∧ Q (.ref l) H ∨ (xs ≠ [] ∧ k ≤ 0) ∧ ∀ p, H p = none → Q (.ref p) (upd H p (.tup [])))) := by
  intro pins s σ H x y v u Q I rx ry h
  obtain ⟨l, k, xs, rfl, rfl, hT, h1, h2, h⟩ := h
  cases rx
  obtain ⟨t, rfl⟩ := ry
  obtain ⟨its, r, ⟨⟨cls, dd, data, sl⟩, ho, hc, n, hd⟩, hs⟩ := I.tuple hT
  simp only at hc hd
  subst hc hd
  have c0 : (decide (k < -(2 ^ 63)) || decide (k ≥ 2 ^ 63)) = false := by
    rw [decide_eq_false (by omega), decide_eq_false (by omega)] <;> rfl
  rcases h with ⟨hk, q⟩ | ⟨⟨hne, hk⟩, q⟩
  · have c1 : (its.toArray.isEmpty || k == 1) = true := by
      rcases hk with hk | hk
      · subst hk
        cases r
        rfl
      · subst hk
        simp
    exact wpAny_binaryOp_repeat_ref (T := "tuple") (U := "int") (by decide) ⟨_, ho, rfl⟩ (fun s' => typeIs_int s' k t) noFill_tuple_mul PySem.F.fills_int_mul PySem.F.slot_int_rmul repeat_tuple PySem.F.slot_int_index.lookup
      (call_meets PySem.F.slot_int_rmul (typeIs_int s k t) PySem.F.entry_int_rmul (PySem.F.args_int_rmul_2 _ _) (int_rmul_tuple k t l its.toArray n dd sl)
        ⟨ho, rfl, ⟨_, ho, rfl⟩, call_meets PySem.F.slot_tuple_mul ⟨_, ho, rfl⟩ PySem.F.entry_tuple_mul (PySem.F.args_tuple_mul_2 _ _) (tuple_mul1 l its.toArray n dd sl k t c0 c1) ⟨ho, .ref l, H, I, rfl, q⟩⟩)
  · have c1 : (its.toArray.isEmpty || k == 1) = false := by
      cases r with
      | nil => exact absurd rfl hne
      | cons a b =>
        have : (k == 1) = false := beq_eq_false_iff_ne.mpr (by omega)
        simp [this]
    have c2 : (decide (k ≤ 0) || its.toArray.isEmpty) = true := by rw [decide_eq_true hk]; rfl
    refine wpAny_binaryOp_repeat_ref (T := "tuple") (U := "int") (by decide) ⟨_, ho, rfl⟩ (fun s' => typeIs_int s' k t) noFill_tuple_mul PySem.F.fills_int_mul PySem.F.slot_int_rmul repeat_tuple PySem.F.slot_int_index.lookup
      (call_meets PySem.F.slot_int_rmul (typeIs_int s k t) PySem.F.entry_int_rmul (PySem.F.args_int_rmul_2 _ _) (int_rmul_tuple k t l its.toArray n dd sl)
        ⟨ho, rfl, ⟨_, ho, rfl⟩, call_meets PySem.F.slot_tuple_mul ⟨_, ho, rfl⟩ PySem.F.entry_tuple_mul (PySem.F.args_tuple_mul_2 _ _) (tuple_mul0 l its.toArray n dd sl k t c0 c1 c2) ⟨ho, ?_⟩⟩)
    refine ⟨.ref s.heap.objs.size, _, I.laid (t' := s.toks) (o := .tup []) (fun b ob q => Heap.get?_push_of_some _ q) (Nat.le_refl _) ?_, rfl, q _ (I.hok.fresh (Nat.le_refl _))⟩
    exact ⟨Nat.zero_le _, [], .nil, IsTup.new _ _⟩
end

/-- what follows an operation -/
def Then (K : PySem.W.Frag) (tabs : List Addr) (φ : Nat → Addr) (h : IHeap) (H : Hp) (r : Option (PV × IHeap)) (Q : VK) : Prop :=
  ∃ v h', r = some (v, h') ∧ ∀ φ' H' z, Le φ h H φ' h' H' → Sim K tabs φ' h' H' → VRep K φ' h'.length H' v z → Q z H'
section
variable {K : PySem.W.Frag} {tabs : List Addr} {φ : Nat → Addr} {h : IHeap} {H : Hp} {Q : VK}
theorem Then.here {v : PV} {z : V} {r : Option (PV × IHeap)} (q : Then K tabs φ h H r Q) (e : r = some (v, h)) (S : Sim K tabs φ h H) (z' : VRep K φ h.length H v z) : Q z H := by
  obtain ⟨w, h2, e2, k⟩ := q
  rw [e] at e2
  cases e2
  exact k φ H z .refl S z'
theorem Then.tup {vs : List PV} {xs : List V} {r : Option (PV × IHeap)} (q : Then K tabs φ h H r Q) (e : r = some (.tup vs, h)) (S : Sim K tabs φ h H) (z : VReps K φ h.length H vs xs) {p : Addr} (hp : H p = none) : Q (.ref p) (upd H p (.tup xs)) := by
  obtain ⟨w, h2, e2, k⟩ := q
  rw [e] at e2
  cases e2
  obtain ⟨S', le⟩ := S.tup (xs := xs) hp
  exact k φ _ _ le S' (.tup (.inl (.inl upd_same)) (le.reps z))
theorem Then.lst {vs : List PV} {xs : List V} {r : Option (PV × IHeap)} (q : Then K tabs φ h H r Q) (e : r = some (newCell (.lst vs) h)) (S : Sim K tabs φ h H) (z : VReps K φ h.length H vs xs) {p : Addr} (hp : H p = none) : Q (.ref p) (upd H p (.lst xs)) := by
  obtain ⟨w, h2, e2, k⟩ := q
  rw [e] at e2
  cases e2
  have st : Stay H (upd H p (.lst xs)) := .fresh hp
  obtain ⟨S', le⟩ := S.alloc (p := p) (c := .lst vs) (o := .lst xs) hp trivial ⟨xs, upd_same, z.mono st (by simp) (fun i hi => if_neg (Nat.ne_of_lt hi))⟩
  refine k _ _ _ le S' ?_
  have q2 : VRep K (phi φ h.length p) (h ++ [Cell.lst vs]).length (upd H p (.lst xs)) (.ref h.length) (.ref (phi φ h.length p h.length)) := .ref (by simp)
  rw [show phi φ h.length p h.length = p from if_pos rfl] at q2
  exact q2
theorem Then.dic {kvs : List (Key × PV)} {kxs : List (Key × V)} {r : Option (PV × IHeap)} (q : Then K tabs φ h H r Q) (e : r = some (newCell (.dic kvs) h)) (S : Sim K tabs φ h H) (z : KReps K φ h.length H kvs kxs) {p : Addr} (hp : H p = none) : Q (.ref p) (upd H p (.dK kxs)) := by
  obtain ⟨w, h2, e2, k⟩ := q
  rw [e] at e2
  cases e2
  have st : Stay H (upd H p (.dK kxs)) := .fresh hp
  obtain ⟨S', le⟩ := S.alloc (p := p) (c := .dic kvs) (o := .dK kxs) hp trivial ⟨kxs, upd_same, z.mono st (by simp) (fun i hi => if_neg (Nat.ne_of_lt hi))⟩
  refine k _ _ _ le S' ?_
  have q2 : VRep K (phi φ h.length p) (h ++ [Cell.dic kvs]).length (upd H p (.dK kxs)) (.ref h.length) (.ref (phi φ h.length p h.length)) := .ref (by simp)
  rw [show phi φ h.length p h.length = p from if_pos rfl] at q2
  exact q2
theorem VReps.rep {n : Nat} : ∀ (m : Nat) {vs : List PV} {xs : List V}, VReps K φ n H vs xs → VReps K φ n H (List.replicate m vs).flatten (List.replicate m xs).flatten
  | 0, _, _, _ => .nil
  | m + 1, vs, xs, r => by
    rw [List.replicate_succ, List.replicate_succ, List.flatten_cons, List.flatten_cons]
    exact r.append (VReps.rep m r)
theorem Sim.lst (S : Sim K tabs φ h H) {i : Nat} {vs : List PV} (e : h[i]? = some (.lst vs)) : ∃ xs, H (φ i) = some (.lst xs) ∧ VReps K φ h.length H vs xs := S.cell i _ e
theorem Sim.dic (S : Sim K tabs φ h H) {i : Nat} {vs : List (Key × PV)} (e : h[i]? = some (.dic vs)) : ∃ xs, H (φ i) = some (.dK xs) ∧ KReps K φ h.length H vs xs := S.cell i _ e
end

def opO : Bop → Operator
  | .add => .Add | .sub => .Sub | .mul => .Mult | .mod => .Mod | .fdiv => .FloorDiv | .pow => .Pow | .shl => .LShift
/-- a two-place operation on values that stand for values -/
def rB (K : PySem.W.Frag) (tabs : List Addr) (f : PV → PV → IHeap → Option (PV × IHeap)) : R2 := fun x y H Q => ∃ φ a b h, Sim K tabs φ h H ∧ VRep K φ h.length H a x ∧ VRep K φ h.length H b y ∧ Then K tabs φ h H (f a b h) Q
theorem log2_64 {i : Int} (h1 : -(2 ^ 64) < i) (h2 : i < 2 ^ 64) : -(2 ^ 64) < i ∧ i < 2 ^ 64 := ⟨h1, h2⟩
theorem op_mulA {X : Cx} : OpR X (binaryOp .Mult) (fun x y H Q => ∃ i j, x = .int i ∧ y = .int j ∧ CMulW i j ∧ Q (.int (i * j)) H) := op_mulW

section
variable {X : Cx} {tabs : List Addr}
theorem opB (op : Bop) : OpR X (binaryOp (opO op)) (rB X.K tabs (binop op)) := by
  intro pins s σ H x y v u Q I rx ry hr
  obtain ⟨φ, a, b, h, S, ra, rb, q⟩ := hr
  have q0 := q
  obtain ⟨w, h', e, k⟩ := q0
  have sc : ∀ {c : PV} {z : V}, binop op a b h = some (c, h) → VRep X.K φ h.length H c z → Q z H := fun {c z} e2 z' => q.here (v := c) e2 S z'
  cases op with
  | add =>
    cases a <;> cases b <;> first | (exfalso; simp [binop] at e; done) | skip
    · cases ra; cases rb; exact op_add pins s σ H _ _ v u Q I rx ry ⟨_, _, rfl, rfl, sc rfl (.int _)⟩
    · rename_i i j
      cases ra; cases rb
      by_cases hz : i.length + j.length ≤ sizeLine
      · exact op_add_str pins s σ H _ _ v u Q I rx ry ⟨_, _, rfl, rfl, hz, sc (by simp [binop, hz]) (.str _)⟩
      · simp [binop, hz] at e
    · rename_i vs ws
      cases ra with
      | tup ha ra =>
      cases rb with
      | tup hb rb =>
      rename_i p1 xs p2 ys
      by_cases hz : vs.length + ws.length ≤ sizeLine
      · have eb : binop .add (.tup vs) (.tup ws) h = some (.tup (vs ++ ws), h) := by simp [binop, hz]
        refine op_catA pins s σ H _ _ v u Q I rx ry ⟨_, _, _, _, rfl, rfl, ha, hb, by rw [← ra.length, ← rb.length]; exact hz, fun h1 => ?_, fun h1 h2 => ?_, fun h1 h2 p hp => ?_⟩
        · subst h1
          cases ra
          exact sc (by simpa using eb) (.tup hb rb)
        · subst h2
          cases rb
          exact sc (by simpa using eb) (.tup ha ra)
        · exact q.tup eb S (ra.append rb) hp
      · simp [binop, hz] at e
    · rename_i i j
      cases ra with
      | ref hi =>
      cases rb with
      | ref hj =>
      cases ei : h[i]? with
      | none => simp [binop, ei] at e
      | some c =>
      cases c with
      | dic _ => simp [binop, ei] at e
      | lst vs =>
      cases ej : h[j]? with
      | none => simp [binop, ei, ej] at e
      | some c =>
      cases c with
      | dic _ => simp [binop, ei, ej] at e
      | lst ws =>
      obtain ⟨xs, hx, r1⟩ := S.lst ei
      obtain ⟨ys, hy, r2⟩ := S.lst ej
      by_cases hz : vs.length + ws.length ≤ sizeLine
      · exact op_cat pins s σ H _ _ v u Q I rx ry ⟨_, _, _, _, rfl, rfl, hx, hy, by rw [← r1.length, ← r2.length]; exact hz, fun p hp => q.lst (vs := vs ++ ws) (by simp [binop, ei, ej, hz]) S (r1.append r2) hp⟩
      · simp [binop, ei, ej, hz] at e
  | sub =>
    cases a <;> cases b <;> first | (exfalso; simp [binop] at e; done) | skip
    cases ra; cases rb; exact op_sub pins s σ H _ _ v u Q I rx ry ⟨_, _, rfl, rfl, sc rfl (.int _)⟩
  | mul =>
    cases a <;> cases b <;> first | (exfalso; simp [binop] at e; done) | skip
    · rename_i i j
      cases ra; cases rb
      by_cases hz : i.natAbs.log2 + j.natAbs.log2 < 1000000
      · exact op_mulA pins s σ H _ _ v u Q I rx ry ⟨_, _, rfl, rfl, hz, sc (by simp only [binop, hz, if_true]) (.int _)⟩
      · simp [binop, hz] at e
    · rename_i vs k
      cases rb
      cases ra with
      | tup ha ra =>
      rename_i p1 xs
      by_cases hz : -(2 ^ 63) ≤ k ∧ k ≤ 1000 ∧ vs.length ≤ 1000
      · have eb : binop .mul (.tup vs) (.int k) h = some (.tup (List.replicate k.toNat vs).flatten, h) := by simp only [binop]; rw [if_pos hz]
        have hl := ra.length
        by_cases h1 : xs = [] ∨ k = 1
        · refine op_repT01 pins s σ H _ _ v u Q I rx ry ⟨_, _, _, rfl, rfl, ha, hz.1, by omega, .inl ⟨h1, sc eb ?_⟩⟩
          have : (List.replicate k.toNat vs).flatten = vs := by
            rcases h1 with h1 | h1
            · subst h1
              cases ra
              simp
            · subst h1
              simp
          rw [this]
          exact .tup ha ra
        · have h1' : xs ≠ [] ∧ k ≠ 1 := ⟨fun z => h1 (.inl z), fun z => h1 (.inr z)⟩
          by_cases h2 : k ≤ 0
          · refine op_repT01 pins s σ H _ _ v u Q I rx ry ⟨_, _, _, rfl, rfl, ha, hz.1, by omega, .inr ⟨⟨h1'.1, h2⟩, fun p hp => q.tup (vs := []) ?_ S .nil hp⟩⟩
            rw [eb, Int.toNat_of_nonpos h2]
            rfl
          · exact op_repT pins s σ H _ _ v u Q I rx ry ⟨_, _, _, rfl, rfl, ha, h1'.1, by omega, hz.2.1, by omega, fun p hp => q.tup eb S (ra.rep _) hp⟩
      · simp only [binop] at e; rw [if_neg hz] at e; cases e
    · rename_i i k
      cases rb
      cases ra with
      | ref hi =>
      cases ei : h[i]? with
      | none => simp [binop, ei] at e
      | some c =>
      cases c with
      | dic _ => simp [binop, ei] at e
      | lst vs =>
      obtain ⟨xs, hx, r1⟩ := S.lst ei
      by_cases hz : -(2 ^ 63) ≤ k ∧ k < 2 ^ 63 ∧ vs.length * k.toNat ≤ sizeLine
      · exact op_rep pins s σ H _ _ v u Q I rx ry ⟨_, _, _, rfl, rfl, hx, hz.1, hz.2.1, by rw [← r1.length]; exact hz.2.2, fun p hp => q.lst (vs := (List.replicate k.toNat vs).flatten) (by simp only [binop, ei]; rw [if_pos hz]) S (r1.rep _) hp⟩
      · simp only [binop, ei] at e; rw [if_neg hz] at e; cases e
  | mod =>
    cases a <;> cases b <;> first | (exfalso; simp [binop] at e; done) | skip
    rename_i i j
    cases ra; cases rb
    by_cases hz : j = 0
    · simp [binop, hz] at e
    · exact op_modN pins s σ H _ _ v u Q I rx ry ⟨_, _, rfl, rfl, hz, sc (by simp [binop, hz]) (.int _)⟩
  | fdiv =>
    cases a <;> cases b <;> first | (exfalso; simp [binop] at e; done) | skip
    rename_i i j
    cases ra; cases rb
    by_cases hz : 0 < j ∧ middling j = true
    · exact op_fdivW pins s σ H _ _ v u Q I rx ry ⟨_, _, rfl, rfl, ⟨hz.1, by simpa [middling] using hz.2⟩, sc (by simp only [binop]; rw [if_pos hz]) (.int _)⟩
    · simp only [binop] at e; rw [if_neg hz] at e; cases e
  | pow =>
    cases a <;> cases b <;> first | (exfalso; simp [binop] at e; done) | skip
    rename_i i j
    cases ra; cases rb
    by_cases hz : 0 ≤ j ∧ j ≤ 1000000 ∧ small i = true
    · refine op_pow pins s σ H _ _ v u Q I rx ry ⟨_, _, rfl, rfl, ⟨hz.1, hz.2.1, ?_⟩, sc (by simp only [binop]; rw [if_pos hz]) (.int _)⟩
      have := hz.2.2
      simp only [small, Bool.and_eq_true, decide_eq_true_eq] at this
      omega
    · simp only [binop] at e; rw [if_neg hz] at e; cases e
  | shl =>
    cases a <;> cases b <;> first | (exfalso; simp [binop] at e; done) | skip
    rename_i i j
    cases ra; cases rb
    by_cases hz : 0 ≤ j ∧ j ≤ 1000000 ∧ small i = true
    · refine op_shl pins s σ H _ _ v u Q I rx ry ⟨_, _, rfl, rfl, ⟨hz.1, hz.2.1, ?_⟩, sc (by simp only [binop]; rw [if_pos hz]) (.int _)⟩
      have := hz.2.2
      simp only [small, Bool.and_eq_true, decide_eq_true_eq] at this
      omega
    · simp only [binop] at e; rw [if_neg hz] at e; cases e
end
end PI
end

section
set_option Elab.async false
set_option linter.all false
set_option maxRecDepth 100000
set_option maxHeartbeats 2000000
namespace PI
open PySem PySem.Spec PyProof.Rows L2

section
variable {K : PySem.W.Frag} {tabs : List Addr} {φ : Nat → Addr} {h : IHeap} {H : Hp} {n : Nat}
mutual
theorem dp_of {g : Nat → Option PyData} (hg : ∀ i d, i < n → g i = some d → Dp K H (.ref (φ i)) d) : ∀ {v : PV} {x : V} {d : PyData}, VRep K φ n H v x → datG g v = some d → Dp K H x d
  | _, _, d, .non, e => by unfold datG at e; cases e; exact .non
  | _, _, d, .bl b, e => by unfold datG at e; cases e; exact .bl b
  | _, _, d, .int i, e => by unfold datG at e; cases e; exact .int i
  | _, _, d, .str s, e => by unfold datG at e; cases e; exact .str s
  | _, _, d, .ty t, e => by unfold datG at e; cases e
  | _, _, d, .ref (i := i) hi, e => by unfold datG at e; exact hg i d hi e
  | _, _, d, .tup (vs := vs) ha r, e => by
    unfold datG at e
    cases q : datsG g vs with
    | none => rw [q] at e; cases e
    | some ds => rw [q] at e; cases e; exact .tup ha (dps_of hg r q)
  | _, _, d, .fl (vs := vs) ha r, e => by
    unfold datG at e
    cases q : datsG g vs with
    | none => rw [q] at e; cases e
    | some ds => rw [q] at e; cases e; exact .lst ha.sq (dps_of hg r q)
theorem dps_of {g : Nat → Option PyData} (hg : ∀ i d, i < n → g i = some d → Dp K H (.ref (φ i)) d) : ∀ {vs : List PV} {xs : List V} {ds : List PyData}, VReps K φ n H vs xs → datsG g vs = some ds → DpAll K H xs ds
  | _, _, ds, .nil, e => by unfold datsG at e; cases e; exact .nil
  | _, _, ds, .cons (v := v) (vs := vs) r rs, e => by
    unfold datsG at e
    cases q1 : datG g v with
    | none => rw [q1] at e; cases e
    | some d =>
      cases q2 : datsG g vs with
      | none => rw [q1, q2] at e; cases e
      | some ds' => rw [q1, q2] at e; cases e; exact .cons (dp_of hg r q1) (dps_of hg rs q2)
end
theorem dpI (S : Sim K tabs φ h H) : ∀ (k i : Nat) (d : PyData), i < h.length → toDataI h k i = some d → Dp K H (.ref (φ i)) d
  | 0, i, d, _, e => by unfold toDataI at e; cases e
  | k + 1, i, d, hi, e => by
    unfold toDataI at e
    cases ei : h[i]? with
    | none => rw [ei] at e; cases e
    | some c =>
      cases c with
      | dic _ => rw [ei] at e; cases e
      | lst vs =>
        rw [ei] at e
        simp only at e
        obtain ⟨xs, hx, r⟩ := S.lst ei
        cases q : datsG (toDataI h k) vs with
        | none => rw [q] at e; cases e
        | some ds => rw [q] at e; cases e; exact .lst (SqL.of hx) (dps_of (fun i d hi e => dpI S k i d hi e) r q)
theorem dpV (S : Sim K tabs φ h H) {v : PV} {x : V} {d : PyData} (r : VRep K φ h.length H v x) (e : toData h v = some d) : Dp K H x d := dp_of (fun i d hi e => dpI S 5 i d hi e) r e
theorem seq_of (S : Sim K tabs φ h H) {v : PV} {x : V} (r : VRep K φ h.length H v x) {vs : List PV} (e : seqOf h v = some vs) : ∃ a xs, x = .ref a ∧ (SqL K H a xs ∨ SqT K H a xs) ∧ VReps K φ h.length H vs xs := by
  cases r with
  | tup ha rs => cases e; exact ⟨_, _, rfl, .inr ha, rs⟩
  | fl ha rs => cases e; exact ⟨_, _, rfl, .inl ha.sq, rs⟩
  | @ref i hi =>
    unfold seqOf at e
    cases ei : h[i]? with
    | none => simp only [ei] at e; cases e
    | some c =>
      cases c with
      | dic _ => simp only [ei] at e; cases e
      | lst ws =>
        simp only [ei] at e
        cases e
        obtain ⟨xs, hx, rs⟩ := S.lst ei
        exact ⟨_, _, rfl, .inl (SqL.of hx), rs⟩
  | _ => cases e
/-- truth -/
theorem tru_of (S : Sim K tabs φ h H) {v : PV} {x : V} (r : VRep K φ h.length H v x) {b : Bool} (e : truthy h v = some b) : TruV K x H b := by
  cases r with
  | non => cases e; rfl
  | bl b => cases e; rfl
  | int i => cases e; rfl
  | str s =>
    by_cases hs : s.length ≤ sizeLine
    · simp only [truthy, hs, if_true] at e; cases e; exact ⟨hs, rfl⟩
    · simp only [truthy, hs, if_false] at e; cases e
  | ty t => cases e
  | tup ha rs =>
    cases e
    refine .inr (.inl ⟨_, ha, ?_⟩)
    cases rs <;> rfl
  | fl ha rs =>
    cases e
    refine .inl ⟨_, ha.sq, ?_⟩
    cases rs <;> rfl
  | @ref i hi =>
    unfold truthy at e
    cases ei : h[i]? with
    | none => simp only [ei] at e; cases e
    | some c =>
      cases c with
      | dic ks =>
        simp only [ei] at e
        cases e
        obtain ⟨xs, hx, rs⟩ := S.dic ei
        refine .inr (.inr ⟨_, hx, ?_⟩)
        cases rs <;> rfl
      | lst ws =>
        simp only [ei] at e
        cases e
        obtain ⟨xs, hx, rs⟩ := S.lst ei
        refine .inl ⟨_, SqL.of hx, ?_⟩
        cases rs <;> rfl

theorem KReps.find {φ : Nat → Addr} {n : Nat} (k : Key) : ∀ {kvs : List (Key × PV)} {kxs : List (Key × V)}, KReps K φ n H kvs kxs → (∀ v, kvGet k kvs = some v → ∃ x, valV kxs k = some x ∧ VRep K φ n H v x) ∧ (kvGet k kvs = none → valV kxs k = none)
  | _, _, .nil => ⟨fun v e => (by cases e), fun _ => rfl⟩
  | _, _, .cons (k := j) (v := w) (x := x) (vs := vs) (xs := xs) r rs => by
    have ih := KReps.find k rs
    unfold kvGet valV at *
    by_cases hj : j = k
    · simp only [List.find?_cons, hj, decide_true]
      exact ⟨fun v e => (by cases e; exact ⟨x, rfl, r⟩), fun e => (by cases e)⟩
    · simp only [List.find?_cons, hj, decide_false]
      exact ih
theorem KReps.any {φ : Nat → Addr} {n : Nat} (k : Key) : ∀ {kvs : List (Key × PV)} {kxs : List (Key × V)}, KReps K φ n H kvs kxs → (kvs.any fun kv => decide (kv.1 = k)) = (kxs.any fun kv => decide (kv.1 = k))
  | _, _, .nil => rfl
  | _, _, .cons r rs => by rw [List.any_cons, List.any_cons, KReps.any k rs]
theorem KReps.map {φ : Nat → Addr} {n : Nat} {k : Key} {v : PV} {x : V} (q : VRep K φ n H v x) : ∀ {kvs : List (Key × PV)} {kxs : List (Key × V)}, KReps K φ n H kvs kxs → KReps K φ n H (kvs.map (fun kv => if kv.1 = k then (kv.1, v) else kv)) (kxs.map (fun kv => if kv.1 = k then (kv.1, x) else kv))
  | _, _, .nil => .nil
  | _, _, .cons (k := j) r rs => by
    rw [List.map_cons, List.map_cons]
    by_cases hj : j = k
    · simp only [hj, if_true]
      exact .cons q (KReps.map q rs)
    · simp only [hj, if_false]
      exact .cons r (KReps.map q rs)
theorem KReps.append {φ : Nat → Addr} {n : Nat} : ∀ {vs ws : List (Key × PV)} {xs ys : List (Key × V)}, KReps K φ n H vs xs → KReps K φ n H ws ys → KReps K φ n H (vs ++ ws) (xs ++ ys)
  | _, _, _, _, .nil, s => s
  | _, _, _, _, .cons r rs, s => .cons r (KReps.append rs s)
theorem KReps.put {φ : Nat → Addr} {n : Nat} {k : Key} {v : PV} {x : V} (q : VRep K φ n H v x) {kvs : List (Key × PV)} {kxs : List (Key × V)} (r : KReps K φ n H kvs kxs) : KReps K φ n H (kvPut k v kvs) (putK kxs k x) := by
  unfold kvPut putK
  rw [KReps.any k r]
  by_cases hk : (kxs.any fun kv => decide (kv.1 = k)) = true
  · rw [if_pos hk, if_pos hk]; exact KReps.map q r
  · rw [if_neg hk, if_neg hk]; exact KReps.append r (.cons q .nil)
theorem key_rep {φ : Nat → Addr} {n : Nat} {v : PV} {x : V} {k : Key} (r : VRep K φ n H v x) (e : keyOf v = some k) : x = kV k := by
  cases r <;> cases e <;> rfl
end
end PI
end

section
set_option Elab.async false
set_option linter.all false
set_option maxRecDepth 100000
set_option maxHeartbeats 2000000
namespace PI
open PySem PySem.Spec PyProof.Rows L2

def copO : Cop → CmpOp
  | .eq => .Eq | .ne => .NotEq | .lt => .Lt | .le => .LtE | .gt => .Gt | .ge => .GtE | .isin => .In | .notin => .NotIn | .is_ => .Is | .isnot => .IsNot
def isDic (h : IHeap) : PV → Bool
  | .ref i => match h[i]? with
    | some (.dic _) => true
    | _ => false
  | _ => false
/-- a comparison of values that stand for values (in: not of a dict) -/
theorem inTup_ok {a : PV} {ys : List PV} {r : Bool} (e : inTup a ys = some r) : ∃ x xs, flatP a = some x ∧ flatsP ys = some xs ∧ r = L2.inV x xs := by
  unfold inTup at e
  split at e
  · rename_i x xs h1 h2; cases e; exact ⟨x, xs, h1, h2, rfl⟩
  · cases e
theorem flatP_ok {K : PySem.W.Frag} {φ : Nat → Addr} {n : Nat} {H : Hp} {a : PV} {x y : V} (e : flatP a = some x) (r : VRep K φ n H a y) : y = x ∧ flatV x = true := by
  cases r <;> first | (cases e; done) | (cases e; exact ⟨rfl, rfl⟩)
theorem flatsP_ok {K : PySem.W.Frag} {φ : Nat → Addr} {n : Nat} {H : Hp} : ∀ {ys : List PV} {xs zs : List V}, flatsP ys = some xs → VReps K φ n H ys zs → zs = xs ∧ xs.all flatV = true
  | [], _, _, e, .nil => by cases e; exact ⟨rfl, rfl⟩
  | y :: ys, xs, _, e, .cons r rs => by
    unfold flatsP at e
    split at e
    · rename_i a as h1 h2
      cases e
      obtain ⟨q1, q2⟩ := flatP_ok h1 r
      obtain ⟨q3, q4⟩ := flatsP_ok h2 rs
      subst q1 q3
      exact ⟨rfl, by rw [List.all_cons, q2, q4]; rfl⟩
    · cases e
def rC (K : PySem.W.Frag) (tabs : List Addr) (op : Cop) : R2 := fun x y H Q => ∃ φ a b h r, Sim K tabs φ h H ∧ VRep K φ h.length H a x ∧ VRep K φ h.length H b y ∧ ((op = .isin ∨ op = .notin) → isDic h b = false) ∧ cmpop op a b h = some r ∧ Q (.bl r) H
section
variable {X : Cx} {tabs : List Addr}
theorem eqD (hu : X.A.units + 64 < cLine) {φ : Nat → Addr} {h : IHeap} {H : Hp} {a b : PV} {x y : V} {r : Bool} (S : Sim X.K tabs φ h H) (ra : VRep X.K φ h.length H a x) (rb : VRep X.K φ h.length H b y) {Q : VK}
    (e : (match toData h a, toData h b with
    | some d, some e => if (SeqAt.shaped d && SeqAt.shaped e) = true then some (PyData.eqv d e) else none
    | _, _ => none) = some r) (q : Q (.bl r) H) : rEqD X.K x y H Q := by
  cases q1 : toData h a with
  | none => rw [q1] at e; cases e
  | some d =>
    cases q2 : toData h b with
    | none => rw [q1, q2] at e; cases e
    | some d' =>
      rw [q1, q2] at e
      simp only at e
      by_cases hs : (SeqAt.shaped d && SeqAt.shaped d') = true
      · rw [if_pos hs] at e
        cases e
        simp only [Bool.and_eq_true] at hs
        exact ⟨d, d', dpV S ra q1, dpV S rb q2, hs.1, hs.2, q⟩
      · rw [if_neg hs] at e; cases e
theorem opEq (hu : X.A.units + 64 < cLine) : OpR X (compareOp .Eq) (fun x y H Q => ∃ φ a b h r, Sim X.K tabs φ h H ∧ VRep X.K φ h.length H a x ∧ VRep X.K φ h.length H b y ∧ eqop a b h = some r ∧ Q (.bl r) H) := by
  intro pins s σ H x y v u Q I rx ry hr
  obtain ⟨φ, a, b, h, r, S, ra, rb, e, q⟩ := hr
  have D : (match toData h a, toData h b with
    | some d, some e => if (SeqAt.shaped d && SeqAt.shaped e) = true then some (PyData.eqv d e) else none
    | _, _ => none) = some r → wpAny (model X.prog X.w) X.A (compareOp .Eq v u) (EP X pins σ Q) X.xe s := fun e => op_eqD hu pins s σ H x y v u Q I rx ry (eqD hu S ra rb e q)
  have Sc : ∀ {k : Bool}, scal x y = true → decide (x = y) = r → wpAny (model X.prog X.w) X.A (compareOp .Eq v u) (EP X pins σ Q) X.xe s := fun {k} h1 h2 => op_eq pins s σ H x y v u Q I rx ry ⟨h1, by rw [h2]; exact q⟩
  unfold eqop at e
  split at e
  · cases ra; cases rb; cases e; exact Sc (k := true) rfl (by simp)
  · cases ra; cases rb; cases e; exact Sc (k := true) rfl (by simp)
  · cases ra; cases rb; cases e; exact Sc (k := true) rfl (by simp)
  · cases ra; cases rb; cases e; exact Sc (k := true) rfl (by simp)
  · exact D e
theorem opNe (hu : X.A.units + 64 < cLine) : OpR X (compareOp .NotEq) (fun x y H Q => ∃ φ a b h r, Sim X.K tabs φ h H ∧ VRep X.K φ h.length H a x ∧ VRep X.K φ h.length H b y ∧ eqop a b h = some r ∧ Q (.bl (!r)) H) := by
  intro pins s σ H x y v u Q I rx ry hr
  obtain ⟨φ, a, b, h, r, S, ra, rb, e, q⟩ := hr
  have D : (match toData h a, toData h b with
    | some d, some e => if (SeqAt.shaped d && SeqAt.shaped e) = true then some (PyData.eqv d e) else none
    | _, _ => none) = some r → wpAny (model X.prog X.w) X.A (compareOp .NotEq v u) (EP X pins σ Q) X.xe s := fun e => op_neD hu pins s σ H x y v u Q I rx ry (by
      obtain ⟨d, d', h1, h2, h3, h4, h5⟩ := eqD hu (Q := fun v H => ∃ r', v = .bl r' ∧ Q (.bl (!r')) H) S ra rb e ⟨r, rfl, q⟩
      obtain ⟨r', e', q'⟩ := h5
      cases e'
      exact ⟨d, d', h1, h2, h3, h4, q'⟩)
  have Sc : ∀ {k : Bool}, scal x y = true → decide (x = y) = r → wpAny (model X.prog X.w) X.A (compareOp .NotEq v u) (EP X pins σ Q) X.xe s := fun {k} h1 h2 => op_ne pins s σ H x y v u Q I rx ry ⟨h1, by rw [h2]; exact q⟩
  unfold eqop at e
  split at e
  · cases ra; cases rb; cases e; exact Sc (k := true) rfl (by simp)
  · cases ra; cases rb; cases e; exact Sc (k := true) rfl (by simp)
  · cases ra; cases rb; cases e; exact Sc (k := true) rfl (by simp)
  · cases ra; cases rb; cases e; exact Sc (k := true) rfl (by simp)
  · exact D e
theorem opC (hu : X.A.units + 65 < cLine) (op : Cop) : OpR X (compareOp (copO op)) (rC X.K tabs op) := by
  intro pins s σ H x y v u Q I rx ry hr
  obtain ⟨φ, a, b, h, r, S, ra, rb, hd, e, q⟩ := hr
  cases op with
  | eq => exact opEq (tabs := tabs) (by omega) pins s σ H x y v u Q I rx ry ⟨φ, a, b, h, r, S, ra, rb, e, q⟩
  | ne =>
    unfold cmpop at e
    cases q1 : eqop a b h with
    | none => simp only [q1] at e; cases e
    | some k =>
      simp only [q1] at e
      cases e
      exact opNe (tabs := tabs) (by omega) pins s σ H x y v u Q I rx ry ⟨φ, a, b, h, k, S, ra, rb, q1, q⟩
  | lt =>
    cases a <;> cases b <;> first | (exfalso; simp [cmpop] at e; done) | skip
    cases ra; cases rb; cases e; exact op_lt pins s σ H _ _ v u Q I rx ry ⟨_, _, rfl, rfl, q⟩
  | le =>
    cases a <;> cases b <;> first | (exfalso; simp [cmpop] at e; done) | skip
    cases ra; cases rb; cases e; exact op_le pins s σ H _ _ v u Q I rx ry ⟨_, _, rfl, rfl, q⟩
  | gt =>
    cases a <;> cases b <;> first | (exfalso; simp [cmpop] at e; done) | skip
    cases ra; cases rb; cases e; exact op_gt pins s σ H _ _ v u Q I rx ry ⟨_, _, rfl, rfl, q⟩
  | ge =>
    cases a <;> cases b <;> first | (exfalso; simp [cmpop] at e; done) | skip
    cases ra; cases rb; cases e; exact op_ge pins s σ H _ _ v u Q I rx ry ⟨_, _, rfl, rfl, q⟩
  | is_ =>
    cases b <;> first | (exfalso; simp [cmpop] at e; done) | skip
    · cases rb
      refine op_isN pins s σ H _ _ v u Q I rx ry ⟨rfl, ?_⟩
      have : r = decide (x = V.non) := by
        cases ra <;> simp [cmpop] at e <;> simp [← e]
      rw [← this]; exact q
    · cases a <;> first | (exfalso; simp [cmpop] at e; done) | skip
      cases rb; cases ra; cases e
      exact op_is_bl pins s σ H _ _ v u Q I rx ry ⟨_, _, rfl, rfl, q⟩
  | isnot =>
    cases b <;> first | (exfalso; simp [cmpop] at e; done) | skip
    · cases rb
      refine op_notN pins s σ H _ _ v u Q I rx ry ⟨rfl, ?_⟩
      have : r = !decide (x = V.non) := by
        cases ra <;> simp [cmpop] at e <;> simp [← e]
      rw [← this]; exact q
    · cases a <;> first | (exfalso; simp [cmpop] at e; done) | skip
      cases rb; cases ra; cases e
      exact op_isnot_bl pins s σ H _ _ v u Q I rx ry ⟨_, _, rfl, rfl, q⟩
  | isin =>
    replace hd := hd (.inl rfl)
    cases b <;> first | (exfalso; simp [cmpop] at e; done) | skip
    · rename_i ys
      cases rb with
      | tup hq rs =>
        obtain ⟨x', xs', h1, h2, h3⟩ := inTup_ok e
        obtain ⟨ex, fx⟩ := flatP_ok h1 ra
        obtain ⟨es, fs⟩ := flatsP_ok h2 rs
        subst ex es
        rw [h3] at q
        exact op_in_seq pins s σ H _ _ v u Q I rx ry ⟨_, _, rfl, .inr hq, fx, fs, q⟩
    rename_i i
    cases ei : h[i]? with
    | none => simp only [cmpop, ei] at e; cases e
    | some c =>
      cases c with
      | dic _ => simp only [isDic, ei] at hd; cases hd
      | lst vs =>
        simp only [cmpop, ei] at e
        have e' := e
        cases q1 : toData h a with
        | none => rw [q1] at e'; cases e'
        | some d =>
          cases q2 : toData h (.ref i) with
          | none => rw [q1, q2] at e'; cases e'
          | some d' =>
            rw [q1, q2] at e'
            cases d' <;> first | (cases e'; done) | skip
            rename_i ds
            simp only at e'
            by_cases hs : (SeqAt.shaped d && SeqAt.shaped (.list ds)) = true
            · rw [if_pos hs] at e'
              cases e'
              simp only [Bool.and_eq_true] at hs
              exact op_inD hu pins s σ H _ _ v u Q I rx ry ⟨d, ds, dpV S ra q1, dpV S rb q2, hs.1, hs.2, q⟩
            · rw [if_neg hs] at e'; cases e'
  | notin =>
    replace hd := hd (.inr rfl)
    cases b <;> first | (exfalso; simp [cmpop] at e; done) | skip
    · rename_i ys
      cases rb with
      | tup hq rs =>
        obtain ⟨z, e1, e2⟩ := Option.map_eq_some_iff.mp (show (inTup a ys).map (! ·) = some r from e)
        obtain ⟨x', xs', h1, h2, h3⟩ := inTup_ok e1
        obtain ⟨ex, fx⟩ := flatP_ok h1 ra
        obtain ⟨es, fs⟩ := flatsP_ok h2 rs
        subst ex es
        rw [← e2, h3] at q
        exact op_notIn_seq pins s σ H _ _ v u Q I rx ry ⟨_, _, rfl, .inr hq, fx, fs, q⟩
    rename_i i
    cases ei : h[i]? with
    | none => simp only [cmpop, ei] at e; cases e
    | some c =>
      cases c with
      | dic _ => simp only [isDic, ei] at hd; cases hd
      | lst vs =>
        simp only [cmpop, ei] at e
        have e' := e
        cases q1 : toData h a with
        | none => rw [q1] at e'; cases e'
        | some d =>
          cases q2 : toData h (.ref i) with
          | none => rw [q1, q2] at e'; cases e'
          | some d' =>
            rw [q1, q2] at e'
            cases d' <;> first | (cases e'; done) | skip
            rename_i ds
            simp only at e'
            by_cases hs : (SeqAt.shaped d && SeqAt.shaped (.list ds)) = true
            · rw [if_pos hs] at e'
              cases e'
              simp only [Bool.and_eq_true] at hs
              exact op_notInD hu pins s σ H _ _ v u Q I rx ry ⟨d, ds, dpV S ra q1, dpV S rb q2, hs.1, hs.2, q⟩
            · rw [if_neg hs] at e'; cases e'
end
end PI
end

section
set_option Elab.async false
set_option linter.all false
set_option maxRecDepth 100000
set_option maxHeartbeats 2000000
namespace PI
open PySem PySem.Spec PyProof.Rows L2

/-! ### items and slices -/
def rIdx (K : PySem.W.Frag) (tabs : List Addr) : R2 := fun x y H Q => ∃ φ a i h r, Sim K tabs φ h H ∧ VRep K φ h.length H a x ∧ VRep K φ h.length H i y ∧ isDic h a = false ∧ idxop a i h = some r ∧ ∀ z, VRep K φ h.length H r z → Q z H
theorem atI_rep {K : PySem.W.Frag} {φ : Nat → Addr} {n : Nat} {H : Hp} {vs : List PV} {xs : List V} (r : VReps K φ n H vs xs) {i : Int} {v : PV} (e : getAt vs i = some v) : ∃ x, atI xs i = some x ∧ VRep K φ n H v x := by
  unfold getAt at e
  unfold atI
  have h : ixN xs.length i = ixNat vs.length i := by rw [← r.length]; rfl
  rw [h]
  cases q : ixNat vs.length i with
  | none => rw [q] at e; cases e
  | some j =>
    rw [q] at e
    exact r.get e
section
variable {X : Cx} {tabs : List Addr}
theorem ixI : IxR X (rIdx X.K tabs) := by
  intro value slice pins s σ H x y v u Q I rx ry hr
  obtain ⟨φ, a, i, h, r, S, ra, ri, hd, e, q⟩ := hr
  have fin : ∀ {p : Addr} {vs : List PV} {xs : List V} {k : Int}, VReps X.K φ h.length H vs xs → getAt vs k = some r → x = .ref p → y = .int k → (SqL X.K H p xs ∨ SqT X.K H p xs) → rIxL X.K x y H Q ∨ rIxT X.K x y H Q := fun {p vs xs k} rs e hx hy hs => by
    obtain ⟨z, hz, rz⟩ := atI_rep rs e
    rcases hs with hs | hs
    · exact .inl ⟨p, xs, k, z, hx, hy, hs, hz, q z rz⟩
    · exact .inr ⟨p, xs, k, z, hx, hy, hs, hz, q z rz⟩
  refine (ix_list.or ix_tup) value slice pins s σ H x y v u Q I rx ry ?_
  cases ra with
  | tup ha rs =>
    cases ri <;> first | (exfalso; simp [idxop] at e; done) | skip
    exact fin rs e rfl rfl (.inr ha)
  | fl ha rs =>
    cases ri <;> first | (exfalso; simp [idxop] at e; done) | skip
    exact fin rs e rfl rfl (.inl ha.sq)
  | @ref j hj =>
    cases ej : h[j]? with
    | none => simp only [idxop, ej] at e; cases e
    | some c =>
      cases c with
      | dic _ => simp only [isDic, ej] at hd; cases hd
      | lst vs =>
        obtain ⟨xs, hx, rs⟩ := S.lst ej
        simp only [idxop, ej] at e
        cases ri <;> first | (exfalso; simp at e; done) | skip
        exact fin rs e rfl rfl (.inl (SqL.of hx))
  | _ => simp [idxop] at e
/-- the item of a dict -/
theorem idx_dic {K : PySem.W.Frag} {φ : Nat → Addr} {h : IHeap} {H : Hp} {a i r : PV} {x y : V} {Q : VK} (S : Sim K tabs φ h H) (ra : VRep K φ h.length H a x) (ri : VRep K φ h.length H i y) (hd : isDic h a = true) (e : idxop a i h = some r)
    (q : ∀ z, VRep K φ h.length H r z → Q z H) : ∃ d v, x = V.ref d ∧ DGet H d y (some v) ∧ Q v H := by
  cases ra <;> first | (exfalso; simp [isDic] at hd; done) | skip
  rename_i j hj
  cases ej : h[j]? with
  | none => simp only [isDic, ej] at hd; cases hd
  | some c =>
    cases c with
    | lst _ => simp only [isDic, ej] at hd; cases hd
    | dic kvs =>
      obtain ⟨kxs, hx, rs⟩ := S.dic ej
      simp only [idxop, ej] at e
      cases ek : keyOf i with
      | none => rw [ek] at e; cases e
      | some k =>
        rw [ek] at e
        have e : kvGet k kvs = some r := e
        obtain ⟨z, hz, rz⟩ := (rs.find k).1 r e
        exact ⟨_, z, rfl, .inl ⟨kxs, k, .of hx, key_rep ri ek, hz.symm⟩, q z rz⟩
/-- k in d -/
theorem in_dic {K : PySem.W.Frag} {φ : Nat → Addr} {h : IHeap} {H : Hp} {a b : PV} {x y : V} {r : Bool} {Q : VK} (S : Sim K tabs φ h H) (ra : VRep K φ h.length H a x) (rb : VRep K φ h.length H b y) (hd : isDic h b = true) (e : cmpop .isin a b h = some r)
    (q : Q (.bl r) H) : ∃ d o, y = V.ref d ∧ DGet H d x o ∧ Q (.bl o.isSome) H := by
  cases rb <;> first | (exfalso; simp [isDic] at hd; done) | skip
  rename_i j hj
  cases ej : h[j]? with
  | none => simp only [isDic, ej] at hd; cases hd
  | some c =>
    cases c with
    | lst _ => simp only [isDic, ej] at hd; cases hd
    | dic kvs =>
      obtain ⟨kxs, hx, rs⟩ := S.dic ej
      simp only [cmpop, ej] at e
      cases ek : keyOf a with
      | none => rw [ek] at e; cases e
      | some k =>
        rw [ek] at e
        cases e
        refine ⟨_, valV kxs k, rfl, .inl ⟨kxs, k, .of hx, key_rep ra ek, rfl⟩, ?_⟩
        cases eg : kvGet k kvs with
        | none => rw [(rs.find k).2 eg]; rw [eg] at q; exact q
        | some w =>
          obtain ⟨z, hz, _⟩ := (rs.find k).1 w eg
          rw [hz]; rw [eg] at q; exact q
theorem notin_dic {K : PySem.W.Frag} {φ : Nat → Addr} {h : IHeap} {H : Hp} {a b : PV} {x y : V} {r : Bool} {Q : VK} (S : Sim K tabs φ h H) (ra : VRep K φ h.length H a x) (rb : VRep K φ h.length H b y) (hd : isDic h b = true) (e : cmpop .notin a b h = some r)
    (q : Q (.bl r) H) : ∃ d o, y = V.ref d ∧ DGet H d x o ∧ Q (.bl (!o.isSome)) H := by
  cases rb <;> first | (exfalso; simp [isDic] at hd; done) | skip
  rename_i j hj
  cases ej : h[j]? with
  | none => simp only [isDic, ej] at hd; cases hd
  | some c =>
    cases c with
    | lst _ => simp only [isDic, ej] at hd; cases hd
    | dic kvs =>
      obtain ⟨kxs, hx, rs⟩ := S.dic ej
      simp only [cmpop, ej] at e
      cases ek : keyOf a with
      | none => rw [ek] at e; cases e
      | some k =>
        rw [ek] at e
        cases e
        refine ⟨_, valV kxs k, rfl, .inl ⟨kxs, k, .of hx, key_rep ra ek, rfl⟩, ?_⟩
        cases eg : kvGet k kvs with
        | none => rw [(rs.find k).2 eg]; rw [eg] at q; exact q
        | some w =>
          obtain ⟨z, hz, _⟩ := (rs.find k).1 w eg
          rw [hz]; rw [eg] at q; exact q
def rSlc (K : PySem.W.Frag) (tabs : List Addr) : V → Option Int → Option Int → Hp → VK → Prop := fun x lo hi H Q => ∃ φ a h, Sim K tabs φ h H ∧ VRep K φ h.length H a x ∧ Then K tabs φ h H (slcop a lo hi h) Q
theorem cut_rep {K : PySem.W.Frag} {φ : Nat → Addr} {n : Nat} {H : Hp} {vs : List PV} {xs : List V} (r : VReps K φ n H vs xs) (lo hi : Option Int) : VReps K φ n H (cut vs lo hi) (cutV xs lo hi) := by
  unfold cut cutV
  rw [r.length]
  exact (r.drop _).take _
theorem cut_all {vs : List PV} {lo hi : Option Int} (h : HT.sIx vs.length 0 lo = 0 ∧ HT.sIx vs.length vs.length hi = vs.length) : cut vs lo hi = vs := by
  unfold cut
  rw [h.1, h.2]
  simp
theorem slI : SlR X (rSlc X.K tabs) := by
  intro pins s σ H x v vl vu lo hi sl Q I rx hs hl hh hr
  obtain ⟨φ, a, h, S, ra, q⟩ := hr
  have q0 := q
  obtain ⟨w, h', e, _⟩ := q0
  cases ra with
  | @tup p xs vs ha rs =>
    refine sl_tupA pins s σ H _ v vl vu lo hi sl Q I rx hs hl hh ⟨_, _, rfl, ha, fun hw => ?_, fun hw p hp => ?_⟩
    · rw [← rs.length] at hw
      refine q.here (v := .tup (cut vs lo hi)) rfl S ?_
      rw [cut_all hw]
      exact .tup ha rs
    · exact q.tup rfl S (cut_rep rs lo hi) hp
  | fl ha rs => exact sl_list pins s σ H _ v vl vu lo hi sl Q I rx hs hl hh ⟨_, _, rfl, ha.sq, fun p hp => q.lst rfl S (cut_rep rs lo hi) hp⟩
  | @ref j hj =>
    cases ej : h[j]? with
    | none => simp only [slcop, ej] at e; cases e
    | some c =>
      cases c with
      | dic _ => simp only [slcop, ej] at e; cases e
      | lst vs =>
        obtain ⟨xs, hx, rs⟩ := S.lst ej
        exact sl_list pins s σ H _ v vl vu lo hi sl Q I rx hs hl hh ⟨_, _, rfl, SqL.of hx, fun p hp => q.lst (vs := cut vs lo hi) (by simp only [slcop, ej]) S (cut_rep rs lo hi) hp⟩
  | _ => simp [slcop] at e

/-! ### o[i] = v -/
def tSet (K : PySem.W.Frag) (tabs : List Addr) : TSet := fun o i v H Q => ∃ φ a j w h h', Sim K tabs φ h H ∧ VRep K φ h.length H a o ∧ VRep K φ h.length H j i ∧ VRep K φ h.length H w v ∧ setop a j w h = some h' ∧ ∀ H', Le φ h H φ h' H' → Sim K tabs φ h' H' → Q H'
theorem setS (hu : X.A.units + 1 < cLine) : PSet X (tSet X.K tabs) := by
  intro pins s σ H o i v ov iv u Q I ro ri rv hr
  obtain ⟨φ, a, j, w, h, h', S, ra, rj, rw', e, q⟩ := hr
  cases ra <;> first | (exfalso; simp [setop] at e; done) | skip
  rename_i k hk
  cases ek : h[k]? with
  | none => simp only [setop, ek] at e; cases e
  | some c =>
    cases c with
    | lst vs =>
      obtain ⟨xs, hx, rs⟩ := S.lst ek
      simp only [setop, ek] at e
      cases rj <;> first | (exfalso; simp at e; done) | skip
      rename_i z
      simp only at e
      cases en : ixNat vs.length z with
      | none => rw [en] at e; cases e
      | some m =>
        rw [en] at e
        cases e
        refine set_list pins s σ H _ _ v ov iv u Q I ro ri rv ⟨_, xs, z, m, rfl, rfl, hx, by rw [← rs.length]; exact en, ?_⟩
        obtain ⟨S', le⟩ := S.set (c := .lst (vs.set m w)) (o := .lst (xs.set m v)) ek trivial ⟨_, upd_same, (rs.set rw' m).mono (.mut hx trivial) (Nat.le_refl _) fun _ _ => rfl⟩
        exact q _ le S'
    | dic kvs =>
      obtain ⟨kxs, hx, rs⟩ := S.dic ek
      simp only [setop, ek] at e
      cases eq : keyOf j with
      | none => rw [eq] at e; cases e
      | some key =>
        rw [eq] at e
        have e : (if kvs.length < sizeLine then some (h.set k (.dic (kvPut key w kvs))) else none) = some h' := e
        by_cases hz : kvs.length < sizeLine
        · rw [if_pos hz] at e
          cases e
          refine set_dict hu pins s σ H _ _ v ov iv u Q I ro ri rv ⟨_, _, rfl, .inl ⟨kxs, key, hx, key_rep rj eq, by rw [← rs.length]; exact hz, rfl⟩, ?_⟩
          obtain ⟨S', le⟩ := S.set (c := .dic (kvPut key w kvs)) (o := .dK (putK kxs key v)) ek trivial ⟨_, upd_same, (KReps.put rw' rs).mono (.mut hx trivial) (Nat.le_refl _) fun _ _ => rfl⟩
          exact q _ le S'
        · rw [if_neg hz] at e; cases e
end
end PI
end

section
set_option Elab.async false
set_option linter.all false
set_option maxRecDepth 100000
set_option maxHeartbeats 2000000
namespace PI
open PySem PySem.Spec PyProof.Rows L2

/-! ### repr -/
mutual
theorem dp_nod {K : PySem.W.Frag} {H : Hp} : ∀ {x : V} {d : PyData}, Dp K H x d → d.hasDict = false
  | _, _, .non => rfl
  | _, _, .bl _ => rfl
  | _, _, .int _ => rfl
  | _, _, .str _ => rfl
  | _, _, .lst _ h => by unfold PyData.hasDict; exact dps_nod h
  | _, _, .tup _ h => by unfold PyData.hasDict; exact dps_nod h
theorem dps_nod {K : PySem.W.Frag} {H : Hp} : ∀ {x : List V} {d : List PyData}, DpAll K H x d → PyData.hasDictAll d = false
  | _, _, .nil => rfl
  | _, _, .cons h hs => by unfold PyData.hasDictAll; rw [dp_nod h, dps_nod hs]; rfl
end
section
variable {X : Cx}
theorem repr_ok (hg : X.A.guards = some []) (hu : X.A.units + 100 < cLine) : CallR X (.builtin "repr") (fun xs H Q => ∃ x d, xs = [x] ∧ Dp X.K H x d ∧ d.showable = true ∧ d.depth ≤ 64 ∧ d.shown.length ≤ sizeLine ∧ Q (.str d.shown) H) := by
  intro pins s σ H xs us Q I r h
  obtain ⟨x, d, rfl, hd, hs, hdp, hz, q⟩ := h
  obtain ⟨u, rfl, ru⟩ := vals1 r
  obtain ⟨as, rd⟩ := Dp.reads I d x u hd ru
  have hd' := hd
  cases hd with
  | non => cases ru; exact PySem.P.repr_of_none ⟨.str _, H, I.tok _, ⟨_, rfl⟩, q⟩
  | bl b =>
    cases ru
    refine PySem.P.repr_of_bool ⟨.str _, H, I.tok _, ⟨_, rfl⟩, ?_⟩
    exact q
  | int i =>
    obtain ⟨t, rfl⟩ := ru
    have hs' : i.natAbs.log2 < 1920 := by
      have z : decide (i.natAbs.log2 < 1920) = true := hs
      simpa using z
    exact PySem.P.repr_of_int hs' ⟨.str _, H, I.tok _, ⟨_, rfl⟩, q⟩
  | str y =>
    obtain ⟨t, rfl⟩ := ru
    exact PySem.P.repr_of_str (hsz := hz) ⟨.str _, H, I.tok _, ⟨_, rfl⟩, q⟩
  | lst h1 h2 =>
    cases ru
    refine repr_of_reads' (hsz := hz) rd hs (fun z => ?_) hg (by omega) (fun _ _ e => e) fun h' u tk hk => ⟨.str _, H, I.kept hk, ⟨_, rfl⟩, q⟩
    exact PyData.noDict_hsm (dp_nod hd') z
  | tup h1 h2 =>
    cases ru
    refine repr_of_reads' (hsz := hz) rd hs (fun z => ?_) hg (by omega) (fun _ _ e => e) fun h' u tk hk => ⟨.str _, H, I.kept hk, ⟨_, rfl⟩, q⟩
    exact PyData.noDict_hsm (dp_nod hd') z
end
end PI
end

section
set_option Elab.async false
set_option linter.all false
set_option maxRecDepth 100000
set_option maxHeartbeats 2000000
namespace PI
open PySem PySem.Spec PyProof.Rows L2

/-! ### calls of builtins, methods of lists -/
def bltV : Blt → Value
  | .len => .builtin "len" | .int => .type "int" | .abs => .builtin "abs" | .tuple => .type "tuple" | .list => .type "list"
  | .sum => .builtin "sum" | .max2 => .builtin "max" | .min2 => .builtin "min" | .gcd => .builtin "math.gcd" | .repr => .builtin "repr"
  | .isinst => .builtin "isinstance" | .sortedI => .builtin "sorted"
def rBlt (K : PySem.W.Frag) (tabs : List Addr) (b : Blt) : List V → Hp → VK → Prop := fun xs H Q => ∃ φ vs h, Sim K tabs φ h H ∧ VReps K φ h.length H vs xs ∧ Then K tabs φ h H (bltop b vs h) Q
section
variable {K : PySem.W.Frag} {tabs : List Addr} {φ : Nat → Addr} {h : IHeap} {H : Hp} {n : Nat} {Q : VK}
theorem reps1 {a : PV} {xs : List V} (r : VReps K φ n H [a] xs) : ∃ x, xs = [x] ∧ VRep K φ n H a x := by
  cases r with
  | cons r rs => cases rs; exact ⟨_, rfl, r⟩
theorem reps2 {a b : PV} {xs : List V} (r : VReps K φ n H [a, b] xs) : ∃ x y, xs = [x, y] ∧ VRep K φ n H a x ∧ VRep K φ n H b y := by
  cases r with
  | cons r rs => obtain ⟨y, rfl, q⟩ := reps1 rs; exact ⟨_, _, rfl, r, q⟩
theorem ty_of (S : Sim K tabs φ h H) {v : PV} {x : V} (r : VRep K φ h.length H v x) {t : String} (e : tyOf h v = some t) : TyX K H x (.type t) ∧ t ∈ ["NoneType", "bool", "int", "str", "tuple", "list", "dict"] := by
  cases r with
  | non => cases e; exact ⟨.base .non, by decide⟩
  | bl b => cases e; exact ⟨.base (.bl b), by decide⟩
  | int i => cases e; exact ⟨.base (.int i), by decide⟩
  | str s => cases e; exact ⟨.base (.str s), by decide⟩
  | ty t => cases e
  | tup ha _ =>
    cases e
    refine ⟨?_, by decide⟩
    rcases ha with (ha | ⟨o, ha⟩) | ⟨o, its, m, h1, h2, _⟩
    · exact .base (.tup ha)
    · exact .fTuple ha
    · exact .kTuple h1 h2
  | fl ha _ =>
    cases e
    refine ⟨?_, by decide⟩
    rcases ha with ⟨o, ha⟩ | ⟨o, its, m, h1, h2, _⟩
    · exact .base (.frz ha)
    · exact .kList h1 h2
  | @ref i hi =>
    unfold tyOf at e
    cases ei : h[i]? with
    | none => simp only [ei] at e; cases e
    | some c =>
      cases c with
      | dic ks =>
        simp only [ei] at e
        cases e
        obtain ⟨xs, hx, rs⟩ := S.dic ei
        exact ⟨.base (.dK hx), by decide⟩
      | lst ws =>
        simp only [ei] at e
        cases e
        obtain ⟨xs, hx, rs⟩ := S.lst ei
        exact ⟨.base (.lst hx), by decide⟩
theorem kitB_is : ∀ t ∈ ["NoneType", "bool", "int", "str", "tuple", "list", "dict"], ∀ T ∈ ["int", "bool", "str", "tuple", "list", "dict"], kitB t T = some (isTy t T) := by decide
theorem sort_uniq {ns ms : List Int} (p : ms.Perm ns) (q : ms.Pairwise (· ≤ ·)) : ms = ns.mergeSort := by
  refine List.Perm.eq_of_pairwise (le := fun a b => a ≤ b) (fun a b _ _ h1 h2 => Int.le_antisymm h1 h2) q ?_ (p.trans (List.mergeSort_perm _ _).symm)
  refine (List.pairwise_mergeSort (fun a b c h1 h2 => ?_) (fun a b => ?_) ns).imp fun h => of_decide_eq_true h
  · simp only [decide_eq_true_eq] at *; omega
  · simp only [Bool.or_eq_true, decide_eq_true_eq]; omega
end
section
variable {X : Cx} {tabs : List Addr}
theorem cr_blt (hc : X.calm = true) (hg : X.A.guards = some []) (hu : X.A.units + 100 < cLine) (b : Blt) : CallR X (bltV b) (rBlt X.K tabs b) := by
  intro pins s σ H xs us Q I r hr
  obtain ⟨φ, vs, h, S, rs, q⟩ := hr
  have q0 := q
  obtain ⟨w, h', e, _⟩ := q0
  cases b with
  | len =>
    match vs, e with
    | [], e => simp [bltop] at e
    | _ :: _ :: _, e => simp [bltop] at e
    | [a], e =>
      obtain ⟨x, rfl, rx⟩ := reps1 rs
      cases rx with
      | str y =>
        by_cases hy : y.length ≤ sizeLine
        · exact call_len pins s σ H _ us Q I r ⟨_, _, rfl, ⟨hy, rfl⟩, q.here (v := .int y.length) (by simp only [bltop, hy, if_true]) S (.int _)⟩
        · simp only [bltop, hy, if_false] at e; cases e
      | tup ha rs' => exact call_len pins s σ H _ us Q I r ⟨_, _, rfl, .inr ⟨_, ha, rfl⟩, q.here rfl S (by rw [rs'.length]; exact .int _)⟩
      | fl ha rs' => exact call_len pins s σ H _ us Q I r ⟨_, _, rfl, .inl ⟨_, ha.sq, rfl⟩, q.here rfl S (by rw [rs'.length]; exact .int _)⟩
      | @ref i hi =>
        cases ei : h[i]? with
        | none => simp only [bltop, ei] at e; cases e
        | some c =>
          cases c with
          | dic ks =>
            obtain ⟨ys, hx, rs'⟩ := S.dic ei
            exact call_lenD pins s σ H _ us Q I r ⟨_, _, rfl, hx, q.here (v := .int ks.length) (by simp only [bltop, ei]) S (by rw [rs'.length]; exact .int _)⟩
          | lst ks =>
            obtain ⟨ys, hx, rs'⟩ := S.lst ei
            exact call_len pins s σ H _ us Q I r ⟨_, _, rfl, .inl ⟨_, SqL.of hx, rfl⟩, q.here (v := .int ks.length) (by simp only [bltop, ei]) S (by rw [rs'.length]; exact .int _)⟩
      | _ => cases e
  | int =>
    match vs, e with
    | [], e => simp [bltop] at e
    | [.int i], e => obtain ⟨x, rfl, rx⟩ := reps1 rs; cases rx; exact call_int1 pins s σ H _ us Q I r (.inl ⟨_, rfl, q.here rfl S (.int _)⟩)
    | [.bl i], e => obtain ⟨x, rfl, rx⟩ := reps1 rs; cases rx; exact call_int1 pins s σ H _ us Q I r (.inr ⟨_, rfl, q.here rfl S (.int _)⟩)
  | abs =>
    match vs, e with
    | [], e => simp [bltop] at e
    | [.int i], e => obtain ⟨x, rfl, rx⟩ := reps1 rs; cases rx; exact call_abs pins s σ H _ us Q I r ⟨_, rfl, q.here rfl S (.int _)⟩
  | tuple =>
    match vs, e with
    | [], e => simp [bltop] at e
    | _ :: _ :: _, e => simp [bltop] at e
    | [a], e =>
      obtain ⟨x, rfl, rx⟩ := reps1 rs
      cases rx with
      | tup ha rs' => exact call_tuple_of pins s σ H _ us Q I r ⟨_, _, rfl, .inr ⟨ha, q.here rfl S (.tup ha rs')⟩⟩
      | fl ha rs' => exact call_tuple_of pins s σ H _ us Q I r ⟨_, _, rfl, .inl ⟨ha.sq, fun p hp => q.tup rfl S rs' hp⟩⟩
      | @ref i hi =>
        cases ei : h[i]? with
        | none => simp only [bltop, ei] at e; cases e
        | some c =>
          cases c with
          | dic ks => simp only [bltop, ei] at e; cases e
          | lst ks =>
            obtain ⟨ys, hx, rs'⟩ := S.lst ei
            exact call_tuple_of pins s σ H _ us Q I r ⟨_, _, rfl, .inl ⟨SqL.of hx, fun p hp => q.tup (vs := ks) (by simp only [bltop, ei]) S rs' hp⟩⟩
      | _ => cases e
  | list =>
    match vs, e with
    | [], e => simp [bltop] at e
    | _ :: _ :: _, e => simp [bltop] at e
    | [a], e =>
      obtain ⟨x, rfl, rx⟩ := reps1 rs
      cases rx with
      | tup ha rs' => exact call_list_of pins s σ H _ us Q I r ⟨_, _, rfl, .inr ha, fun p hp => q.lst rfl S rs' hp⟩
      | fl ha rs' => exact call_list_of pins s σ H _ us Q I r ⟨_, _, rfl, .inl ha.sq, fun p hp => q.lst rfl S rs' hp⟩
      | @ref i hi =>
        cases ei : h[i]? with
        | none => simp only [bltop, ei] at e; cases e
        | some c =>
          cases c with
          | dic ks => simp only [bltop, ei] at e; cases e
          | lst ks =>
            obtain ⟨ys, hx, rs'⟩ := S.lst ei
            exact call_list_of pins s σ H _ us Q I r ⟨_, _, rfl, .inl (SqL.of hx), fun p hp => q.lst (vs := ks) (by simp only [bltop, ei]) S rs' hp⟩
      | _ => cases e
  | sum =>
    match vs, e with
    | [], e => simp [bltop] at e
    | [.ref i], e =>
      obtain ⟨x, rfl, rx⟩ := reps1 rs
      cases rx
      cases ei : h[i]? with
      | none => simp only [bltop, ei] at e; cases e
      | some c =>
        cases c with
        | dic ks => simp only [bltop, ei] at e; cases e
        | lst ks =>
          obtain ⟨ys, hx, rs'⟩ := S.lst ei
          cases en : intsOf ks with
          | none => simp only [bltop, ei, en] at e; cases e
          | some ns =>
            rw [rs'.ints_of en] at hx
            exact cr_sum hc pins s σ H _ us Q I r ⟨_, ns, rfl, SqL.of hx, q.here (v := .int ns.sum) (by simp only [bltop, ei, en]; rfl) S (.int _)⟩
  | max2 =>
    match vs, e with
    | [], e => simp [bltop] at e
    | [.int i, .int j], e =>
      obtain ⟨x, y, rfl, rx, ry⟩ := reps2 rs
      cases rx; cases ry
      exact call_max2 hc pins s σ H _ us Q I r ⟨_, _, rfl, q.here rfl S (.int _)⟩
  | min2 =>
    match vs, e with
    | [], e => simp [bltop] at e
    | [.int i, .int j], e =>
      obtain ⟨x, y, rfl, rx, ry⟩ := reps2 rs
      cases rx; cases ry
      exact call_min2 hc pins s σ H _ us Q I r ⟨_, _, rfl, q.here rfl S (.int _)⟩
  | gcd =>
    match vs, e with
    | [], e => simp [bltop] at e
    | [.int i, .int j], e =>
      obtain ⟨x, y, rfl, rx, ry⟩ := reps2 rs
      cases rx; cases ry
      by_cases hm : (middling i && middling j) = true
      · exact cr_gcd pins s σ H _ us Q I r ⟨_, _, rfl, q.here (v := .int (Int.gcd i j)) (by simp only [bltop, hm, if_true]) S (.int _)⟩
      · simp only [bltop, hm] at e; cases e
  | repr =>
    match vs, e with
    | [], e => simp [bltop] at e
    | _ :: _ :: _, e => simp [bltop] at e
    | [a], e =>
      obtain ⟨x, rfl, rx⟩ := reps1 rs
      cases ed : toData h a with
      | none => simp only [bltop, ed] at e; cases e
      | some d =>
        by_cases hm : (d.showable && decide (d.depth ≤ 64) && decide (d.shown.length ≤ sizeLine)) = true
        · have e1 : bltop .repr [a] h = some (.str d.shown, h) := by simp only [bltop, ed]; rw [if_pos hm]
          simp only [Bool.and_eq_true, decide_eq_true_eq] at hm
          exact repr_ok hg hu pins s σ H _ us Q I r ⟨_, d, rfl, dpV S rx ed, hm.1.1, hm.1.2, hm.2, q.here e1 S (.str _)⟩
        · simp only [bltop, ed] at e; rw [if_neg hm] at e; cases e
  | isinst =>
    match vs, e with
    | [], e => simp [bltop] at e
    | [a, .ty T], e =>
      obtain ⟨x, y, rfl, rx, ry⟩ := reps2 rs
      cases ry
      cases et : tyOf h a with
      | none => simp only [bltop, et] at e; cases e
      | some t =>
        by_cases hm : ["int", "bool", "str", "tuple", "list", "dict"].contains T = true
        · have e1 : bltop .isinst [a, .ty T] h = some (.bl (isTy t T), h) := by simp only [bltop, et]; rw [if_pos hm]
          obtain ⟨tx, mem⟩ := ty_of S rx et
          refine call_isi pins s σ H _ us Q I r ⟨_, _, _, _, _, rfl, .ty T, tx, kit_ty (kitB_is t mem T (List.contains_iff_mem.mp hm)), q.here e1 S (.bl _)⟩
        · simp only [bltop, et] at e; rw [if_neg hm] at e; cases e
  | sortedI =>
    match vs, e with
    | [], e => simp [bltop] at e
    | [.ref i], e =>
      obtain ⟨x, rfl, rx⟩ := reps1 rs
      cases rx
      cases ei : h[i]? with
      | none => simp only [bltop, ei] at e; cases e
      | some c =>
        cases c with
        | dic ks => simp only [bltop, ei] at e; cases e
        | lst ks =>
          obtain ⟨ys, hx, rs'⟩ := S.lst ei
          cases en : intsOf ks with
          | none => simp only [bltop, ei, en] at e; cases e
          | some ns =>
            rw [rs'.ints_of en] at hx
            refine cr_sortedI pins s σ H _ us Q I r ⟨_, ns, rfl, SqL.of hx, fun ns' p hp hs hn => ?_⟩
            have := sort_uniq hp hs
            subst this
            exact q.lst (vs := ns.mergeSort.map .int) (by simp only [bltop, ei, en]; rfl) S (VReps.ints _) hn

def mthId : Mth → String
  | .append => "list.append" | .pop => "list.pop" | .extend => "list.extend"
def rMth (K : PySem.W.Frag) (tabs : List Addr) (m : Mth) : V → List V → Hp → VK → Prop := fun x xs H Q => ∃ φ a vs h, Sim K tabs φ h H ∧ VRep K φ h.length H a x ∧ VReps K φ h.length H vs xs ∧ Then K tabs φ h H (mthop m a vs h) Q
theorem Then.put {K : PySem.W.Frag} {φ : Nat → Addr} {h : IHeap} {H : Hp} {Q : VK} {i : Nat} {v : PV} {x : V} {ws vs : List PV} {xs : List V} {r : Option (PV × IHeap)} (q : Then K tabs φ h H r Q) (e : r = some (v, h.set i (.lst vs))) (S : Sim K tabs φ h H) (e0 : h[i]? = some (.lst ws))
    (z : VReps K φ h.length H vs xs) (rx : VRep K φ h.length H v x) : Q x (upd H (φ i) (.lst xs)) := by
  obtain ⟨v', h', e', q⟩ := q
  rw [e] at e'
  cases e'
  obtain ⟨u, hx, _⟩ := S.lst e0
  obtain ⟨S', le⟩ := S.set (c := .lst vs) (o := .lst xs) e0 trivial ⟨_, upd_same, z.mono (.mut hx trivial) (Nat.le_refl _) fun _ _ => rfl⟩
  exact q _ _ _ le S' (le.rep rx)

theorem mt_mth (m : Mth) : MtR X (mthId m) (rMth X.K tabs m) := by
  intro pins s σ H x xs v us Q I rv r hr
  obtain ⟨φ, a, vs, h, S, ra, rs, q⟩ := hr
  have q0 := q
  obtain ⟨w, h', e, _⟩ := q0
  cases ra with
  | @ref i hi =>
    cases ei : h[i]? with
    | none => simp only [mthop, ei] at e; cases e
    | some c =>
      cases c with
      | dic ks => simp only [mthop, ei] at e; cases e
      | lst ks =>
        obtain ⟨ys, hx, rs'⟩ := S.lst ei
        cases m with
        | append =>
          match vs, e with
          | [], e => simp [mthop, ei] at e
          | _ :: _ :: _, e => simp [mthop, ei] at e
          | [b], e =>
            obtain ⟨y, rfl, ry⟩ := reps1 rs
            by_cases hz : ks.length < sizeLine
            · have e1 : mthop .append (.ref i) [b] h = some (.non, h.set i (.lst (ks ++ [b]))) := by simp only [mthop, ei, hz, if_true]
              exact mt_append pins s σ H _ _ v us Q I rv r ⟨_, _, _, rfl, rfl, hx, by rw [← rs'.length]; exact hz, q.put e1 S ei (rs'.append (.cons ry .nil)) .non⟩
            · simp only [mthop, ei, hz, if_false] at e; cases e
        | pop =>
          match vs, e with
          | _ :: _, e => simp [mthop, ei] at e
          | [], e =>
            cases rs
            cases el : ks[ks.length - 1]? with
            | none => simp only [mthop, ei, el] at e; cases e
            | some b =>
              obtain ⟨y, hy, ry⟩ := rs'.get el
              have e1 : mthop .pop (.ref i) [] h = some (b, h.set i (.lst ks.dropLast)) := by simp only [mthop, ei, el]
              refine mt_pop pins s σ H _ _ v us Q I rv r ⟨_, _, y, rfl, rfl, hx, by rw [← rs'.length]; exact hy, q.put e1 S ei ?_ ry⟩
              rw [List.dropLast_eq_take, List.dropLast_eq_take, ← rs'.length]
              exact rs'.take _
        | extend =>
          match vs, e with
          | [], e => simp [mthop, ei] at e
          | _ :: _ :: _, e => simp [mthop, ei] at e
          | [b], e =>
            obtain ⟨y, rfl, ry⟩ := reps1 rs
            cases ry with
            | @ref j hj =>
              cases ej : h[j]? with
              | none => simp only [mthop, ei, ej] at e; cases e
              | some c =>
                cases c with
                | dic ks => simp only [mthop, ei, ej] at e; cases e
                | lst ms =>
                  obtain ⟨zs, hz, rz⟩ := S.lst ej
                  by_cases hl : ks.length + ms.length ≤ sizeLine
                  · have e1 : mthop .extend (.ref i) [.ref j] h = some (.non, h.set i (.lst (ks ++ ms))) := by simp only [mthop, ei, ej, hl, if_true]
                    exact mt_extend pins s σ H _ _ v us Q I rv r ⟨_, _, _, _, rfl, rfl, hx, hz, by rw [← rs'.length, ← rz.length]; exact hl, q.put e1 S ei (rs'.append rz) .non⟩
                  · simp only [mthop, ei, ej, hl, if_false] at e; cases e
            | _ => simp [mthop, ei] at e
  | _ => simp [mthop] at e
theorem mth_ty {K : PySem.W.Frag} {φ : Nat → Addr} {h : IHeap} {H : Hp} {m : Mth} {a : PV} {x : V} {vs : List PV} {z : PV × IHeap} (S : Sim K tabs φ h H) (ra : VRep K φ h.length H a x) (e : mthop m a vs h = some z) : tyV K "list" x H := by
  cases ra with
  | @ref i hi =>
    cases ei : h[i]? with
    | none => simp only [mthop, ei] at e; cases e
    | some c =>
      cases c with
      | dic ks => simp only [mthop, ei] at e; cases e
      | lst ks =>
        obtain ⟨ys, hx, rs'⟩ := S.lst ei
        exact .inl ⟨rfl, _, SqL.of hx⟩
  | _ => simp [mthop] at e
end
end PI
end

section
set_option Elab.async false
set_option linter.all false
set_option maxRecDepth 100000
set_option maxHeartbeats 2000000
/-! comparisons and items: dicts too -/
namespace PI
open PySem PySem.Spec PyProof.Rows L2
def rCA (K : PySem.W.Frag) (tabs : List Addr) (op : Cop) : R2 := fun x y H Q => ∃ φ a b h r, Sim K tabs φ h H ∧ VRep K φ h.length H a x ∧ VRep K φ h.length H b y ∧ cmpop op a b h = some r ∧ Q (.bl r) H
def rIdxA (K : PySem.W.Frag) (tabs : List Addr) : R2 := fun x y H Q => ∃ φ a i h r, Sim K tabs φ h H ∧ VRep K φ h.length H a x ∧ VRep K φ h.length H i y ∧ idxop a i h = some r ∧ ∀ z, VRep K φ h.length H r z → Q z H
section
variable {X : Cx} {tabs : List Addr}
theorem opCA (hu : X.A.units + 65 < cLine) (op : Cop) : OpR X (compareOp (copO op)) (rCA X.K tabs op) := by
  intro pins s σ H x y v u Q I rx ry hr
  obtain ⟨φ, a, b, h, r, S, ra, rb, e, q⟩ := hr
  have gen : ((op = .isin ∨ op = .notin) → isDic h b = false) → wpAny (model X.prog X.w) X.A (compareOp (copO op) v u) (EP X pins σ Q) X.xe s :=
    fun hd => opC (tabs := tabs) hu op pins s σ H x y v u Q I rx ry ⟨φ, a, b, h, r, S, ra, rb, hd, e, q⟩
  by_cases h1 : op = .isin
  · subst h1
    by_cases hd : isDic h b = true
    · obtain ⟨d, o, rfl, g, q'⟩ := in_dic S ra rb hd e q
      obtain rfl : u = Value.ref d := ry
      exact d_in (by omega) I g rx fun s3 I3 => ⟨.bl o.isSome, H, I3, rfl, q'⟩
    · exact gen fun _ => by simpa using hd
  · by_cases h2 : op = .notin
    · subst h2
      by_cases hd : isDic h b = true
      · obtain ⟨d, o, rfl, g, q'⟩ := notin_dic S ra rb hd e q
        obtain rfl : u = Value.ref d := ry
        exact d_notIn (by omega) I g rx fun s3 I3 => ⟨.bl (!o.isSome), H, I3, rfl, q'⟩
      · exact gen fun _ => by simpa using hd
    · exact gen fun z => by rcases z with z | z <;> contradiction
theorem ixA (hu : X.A.units + 1 < cLine) : IxR X (rIdxA X.K tabs) := by
  intro value slice pins s σ H x y v u Q I rx ry hr hs
  obtain ⟨φ, a, i, h, r, S, ra, ri, e, q⟩ := hr
  by_cases hd : isDic h a = true
  · obtain ⟨d, w, rfl, g, q'⟩ := idx_dic S ra ri hd e q
    obtain rfl : v = Value.ref d := rx
    have hT := dict_typeIs I g
    unfold subscriptTail
    refine wpAny_bind ?_
    rw [getitemInPython_of_ne hT.not_modules]
    refine wpAny_bind (wpAny_specialOf hT PySem.F.slot_dict_getitem.lookup ?_)
    have fin : wpAny (model X.prog X.w) X.A (subscripted slice false (Value.ref d) u) (fun r s₃ => wpAny (model X.prog X.w) X.A (letTemporaryGo value (Value.ref d) r >>= fun _ => pure r) (EP X pins σ Q) X.xe s₃) X.xe s := by
      rw [hs]
      exact wpAny_operating (d_getItem hu I g ry fun w' s3 I3 rw' => wpAny_bind (wpAny_letTemporaryGo (wpAny_pure ⟨w, H, I3, rw', q'⟩)))
    first
      | exact wpAny_pure (wpAny_bind fin)
      | exact wpAny_bind (wpAny_pure (wpAny_bind fin))
      | exact wpAny_bind fin
  · exact ixI (tabs := tabs) value slice pins s σ H x y v u Q I rx ry ⟨φ, a, i, h, r, S, ra, ri, by simpa using hd, e, q⟩ hs
end
end PI
end

section
set_option Elab.async false
set_option linter.all false
set_option maxRecDepth 100000
set_option maxHeartbeats 2000000
/-! expressions: what the small language says is what the text does -/
namespace PI
open PySem PySem.Spec PyProof.Rows L2

section
variable (K : PySem.W.Frag) (tabs : List Addr) (F : Nat → List PV → IHeap → Option (PV × IHeap))
def TIe (e : IE) : TE := fun σ H Q => ∃ φ ρ h, Sim K tabs φ h H ∧ ERep K φ h.length H ρ σ ∧ Then K tabs φ h H (ev F e ρ h) Q
def ThenL (φ : Nat → Addr) (h : IHeap) (H : Hp) (r : Option (PV × IHeap)) (Q : List V → Hp → Prop) : Prop :=
  ∃ vs h', r = some (.tup vs, h') ∧ ∀ (φ' : Nat → Addr) (H' : Hp) (xs : List V), Le φ h H φ' h' H' → Sim K tabs φ' h' H' → VReps K φ' h'.length H' vs xs → Q xs H'
def TIs (e : IE) : TA := fun σ H Q => ∃ φ ρ h, Sim K tabs φ h H ∧ ERep K φ h.length H ρ σ ∧ ThenL K tabs φ h H (ev F e ρ h) Q
def evT (e : IE) (ρ : Env') (h : IHeap) : Option (Bool × IHeap) := (ev F e ρ h).bind fun p => (truthy p.2 p.1).bind fun b => some (b, p.2)
def ThenB (φ : Nat → Addr) (h : IHeap) (H : Hp) (r : Option (Bool × IHeap)) (Q : Bool → Hp → Prop) : Prop :=
  ∃ b h', r = some (b, h') ∧ ∀ (φ' : Nat → Addr) (H' : Hp), Le φ h H φ' h' H' → Sim K tabs φ' h' H' → Q b H'
def TIt (e : IE) : TT := fun σ H Q => ∃ φ ρ h, Sim K tabs φ h H ∧ ERep K φ h.length H ρ σ ∧ ThenB K tabs φ h H (evT F e ρ h) Q
end

section
variable {K : PySem.W.Frag} {tabs : List Addr} {F : Nat → List PV → IHeap → Option (PV × IHeap)} {φ φ1 : Nat → Addr} {h h1 : IHeap} {H H1 : Hp} {r : Option (PV × IHeap)} {Q Q' : VK} {ρ : Env'} {σ : L2.St}
theorem Then.imp (q : Then K tabs φ h H r Q) (i : ∀ x H', Q x H' → Q' x H') : Then K tabs φ h H r Q' := by
  obtain ⟨v, h', e, q⟩ := q
  exact ⟨v, h', e, fun φ' H' z l S z' => i _ _ (q φ' H' z l S z')⟩
theorem Then.after (l : Le φ h H φ1 h1 H1) (q : Then K tabs φ h H r Q) : Then K tabs φ1 h1 H1 r Q := by
  obtain ⟨v, h', e, q⟩ := q
  exact ⟨v, h', e, fun φ' H' z l' S z' => q φ' H' z (l.trans l') S z'⟩
theorem ThenB.after {r : Option (Bool × IHeap)} {Q : Bool → Hp → Prop} (l : Le φ h H φ1 h1 H1) (q : ThenB K tabs φ h H r Q) : ThenB K tabs φ1 h1 H1 r Q := by
  obtain ⟨v, h', e, q⟩ := q
  exact ⟨v, h', e, fun φ' H' l' S => q φ' H' (l.trans l') S⟩
theorem ThenL.after {Q : List V → Hp → Prop} (l : Le φ h H φ1 h1 H1) (q : ThenL K tabs φ h H r Q) : ThenL K tabs φ1 h1 H1 r Q := by
  obtain ⟨v, h', e, q⟩ := q
  exact ⟨v, h', e, fun φ' H' z l' S z' => q φ' H' z (l.trans l') S z'⟩
/-- what is known behind a part -/
def Mid (K : PySem.W.Frag) (tabs : List Addr) (φ : Nat → Addr) (h : IHeap) (H : Hp) (ρ : Env') (σ : L2.St) (x : V) (H1 : Hp) (P : (Nat → Addr) → PV → IHeap → Prop) : Prop :=
  ∃ φ1 v h1, Le φ h H φ1 h1 H1 ∧ Sim K tabs φ1 h1 H1 ∧ VRep K φ1 h1.length H1 v x ∧ ERep K φ1 h1.length H1 ρ σ ∧ P φ1 v h1
theorem seqV {k : PV × IHeap → Option (PV × IHeap)} (E : ERep K φ h.length H ρ σ) (q : Then K tabs φ h H (r.bind k) Q) :
    Then K tabs φ h H r (fun x H1 => Mid K tabs φ h H ρ σ x H1 fun φ1 v h1 => Then K tabs φ1 h1 H1 (k (v, h1)) Q) := by
  obtain ⟨v, h', e, q⟩ := q
  cases hr : r with
  | none => rw [hr] at e; cases e
  | some p =>
    rw [hr] at e
    obtain ⟨w, h1⟩ := p
    exact ⟨w, h1, rfl, fun φ' H' z l S z' => ⟨φ', w, h1, l, S, z', l.erep E, v, h', e, fun φ2 H2 z2 l2 S2 r2 => q φ2 H2 z2 (l.trans l2) S2 r2⟩⟩
theorem seqB {k : PV × IHeap → Option (Bool × IHeap)} {Q : Bool → Hp → Prop} (E : ERep K φ h.length H ρ σ) (q : ThenB K tabs φ h H (r.bind k) Q) :
    Then K tabs φ h H r (fun x H1 => Mid K tabs φ h H ρ σ x H1 fun φ1 v h1 => ThenB K tabs φ1 h1 H1 (k (v, h1)) Q) := by
  obtain ⟨v, h', e, q⟩ := q
  cases hr : r with
  | none => rw [hr] at e; cases e
  | some p =>
    rw [hr] at e
    obtain ⟨w, h1⟩ := p
    exact ⟨w, h1, rfl, fun φ' H' z l S z' => ⟨φ', w, h1, l, S, z', l.erep E, v, h', e, fun φ2 H2 l2 S2 => q φ2 H2 (l.trans l2) S2⟩⟩
/-- a test, then the rest -/
def MidB (K : PySem.W.Frag) (tabs : List Addr) (φ : Nat → Addr) (h : IHeap) (H : Hp) (ρ : Env') (σ : L2.St) (H1 : Hp) (P : (Nat → Addr) → IHeap → Prop) : Prop :=
  ∃ φ1 h1, Le φ h H φ1 h1 H1 ∧ Sim K tabs φ1 h1 H1 ∧ ERep K φ1 h1.length H1 ρ σ ∧ P φ1 h1
theorem testV {t : Option (Bool × IHeap)} {k : Bool × IHeap → Option (PV × IHeap)} (E : ERep K φ h.length H ρ σ) (q : Then K tabs φ h H (t.bind k) Q) :
    ThenB K tabs φ h H t (fun b H1 => MidB K tabs φ h H ρ σ H1 fun φ1 h1 => Then K tabs φ1 h1 H1 (k (b, h1)) Q) := by
  obtain ⟨v, h', e, q⟩ := q
  cases hr : t with
  | none => rw [hr] at e; cases e
  | some p =>
    rw [hr] at e
    obtain ⟨w, h1⟩ := p
    exact ⟨w, h1, rfl, fun φ' H' l S => ⟨φ', h1, l, S, l.erep E, v, h', e, fun φ2 H2 z2 l2 S2 r2 => q φ2 H2 z2 (l.trans l2) S2 r2⟩⟩
theorem testB {t : Option (Bool × IHeap)} {k : Bool × IHeap → Option (Bool × IHeap)} {Q : Bool → Hp → Prop} (E : ERep K φ h.length H ρ σ) (q : ThenB K tabs φ h H (t.bind k) Q) :
    ThenB K tabs φ h H t (fun b H1 => MidB K tabs φ h H ρ σ H1 fun φ1 h1 => ThenB K tabs φ1 h1 H1 (k (b, h1)) Q) := by
  obtain ⟨v, h', e, q⟩ := q
  cases hr : t with
  | none => rw [hr] at e; cases e
  | some p =>
    rw [hr] at e
    obtain ⟨w, h1⟩ := p
    exact ⟨w, h1, rfl, fun φ' H' l S => ⟨φ', h1, l, S, l.erep E, v, h', e, fun φ2 H2 l2 S2 => q φ2 H2 (l.trans l2) S2⟩⟩
theorem seqL {k : PV × IHeap → Option (PV × IHeap)} (E : ERep K φ h.length H ρ σ) (hk : ∀ v h1 z, k (v, h1) = some z → ∃ vs, v = .tup vs) (q : Then K tabs φ h H (r.bind k) Q) :
    ThenL K tabs φ h H r (fun xs H1 => ∃ φ1 vs h1, Le φ h H φ1 h1 H1 ∧ Sim K tabs φ1 h1 H1 ∧ VReps K φ1 h1.length H1 vs xs ∧ ERep K φ1 h1.length H1 ρ σ ∧ Then K tabs φ1 h1 H1 (k (.tup vs, h1)) Q) := by
  obtain ⟨v, h', e, q⟩ := q
  cases hr : r with
  | none => rw [hr] at e; cases e
  | some p =>
    rw [hr] at e
    obtain ⟨w, h1⟩ := p
    obtain ⟨vs, rfl⟩ := hk w h1 _ e
    exact ⟨vs, h1, rfl, fun φ' H' z l S z' => ⟨φ', vs, h1, l, S, z', l.erep E, v, h', e, fun φ2 H2 z2 l2 S2 r2 => q φ2 H2 z2 (l.trans l2) S2 r2⟩⟩
end

section
variable {X : Cx} {e a b c : Expr} {t t' : TE} {pos : Pos} {tabs : List Addr} {F : Nat → List PV → IHeap → Option (PV × IHeap)} {ia ib ic : IE}
theorem PEimp (p : PE X e t) (i : ∀ σ H Q, t' σ H Q → t σ H Q) : PE X e t' := ⟨fun pins s σ H Q I h => p.run pins s σ H Q I (i _ _ _ h)⟩
theorem PTimp {t t' : TT} (p : PT X e t) (i : ∀ σ H Q, t' σ H Q → t σ H Q) : PT X e t' := ⟨fun pins s σ H Q I h => p.run pins s σ H Q I (i _ _ _ h)⟩
theorem PWimp {t t' : TT} (p : PW X e t) (i : ∀ σ H Q, t' σ H Q → t σ H Q) : PW X e t' := ⟨fun w pins s σ H Q I h => p.run w pins s σ H Q I (i _ _ _ h)⟩
/-- an expression whose test is its value's truth -/
theorem s_truth (p : PE X a (TIe X.K tabs F ia)) (he : ∀ whole, isTrue a X.env whole = (do let v ← whole; standAt a.pos; holding [v] (PySem.truthy v))) : PT X a (TIt X.K tabs F ia) := by
  refine PTimp (pt_truth p he) fun σ H Q ⟨φ, ρ, h, S, E, q⟩ => ⟨φ, ρ, h, S, E, ?_⟩
  refine (seqB E q).imp fun x H1 ⟨φ1, v, h1, l, S1, r1, E1, q1⟩ => ?_
  obtain ⟨b, h2, e, q1⟩ := q1
  cases ht : truthy h1 v with
  | none => simp only [ht] at e; cases e
  | some k =>
    simp only [ht] at e
    cases e
    exact ⟨_, tru_of S1 r1 ht, q1 _ _ .refl S1⟩
theorem ev_bin {op : Bop} {ρ : Env'} {h : IHeap} : ev F (.bin op ia ib) ρ h = (ev F ia ρ h).bind fun p => (ev F ib ρ p.2).bind fun q => binop op p.1 q.1 q.2 := rfl
theorem s_bin {op : Bop} (ha : PE X a (TIe X.K tabs F ia)) (hb : PE X b (TIe X.K tabs F ib)) : PE X (.BinOp a (opO op) b pos) (TIe X.K tabs F (.bin op ia ib)) := by
  refine PEimp (pe_op (opB (tabs := tabs) op) ha hb) fun σ H Q ⟨φ, ρ, h, S, E, q⟩ => ⟨φ, ρ, h, S, E, ?_⟩
  refine (seqV E q).imp fun x H1 ⟨φ1, v, h1, l, S1, r1, E1, q1⟩ => ⟨φ1, ρ, h1, S1, E1, ?_⟩
  exact (seqV E1 q1).imp fun y H2 ⟨φ2, w, h2, l2, S2, r2, E2, q2⟩ => ⟨φ2, v, w, h2, S2, l2.rep r1, r2, q2⟩

theorem ev_cmp {op : Cop} {ρ : Env'} {h : IHeap} : ev F (.cmp op ia ib) ρ h = (ev F ia ρ h).bind fun p => (ev F ib ρ p.2).bind fun q => (cmpop op p.1 q.1 q.2).bind fun r => some (.bl r, q.2) := rfl
theorem cmp_end {K : PySem.W.Frag} {φ : Nat → Addr} {h : IHeap} {H : Hp} {op : Cop} {v w : PV} {x y : V} {Q : VK} (S : Sim K tabs φ h H) (r1 : VRep K φ h.length H v x) (r2 : VRep K φ h.length H w y)
    (q : Then K tabs φ h H ((cmpop op v w h).bind fun r => some (.bl r, h)) Q) : rCA K tabs op x y H Q := by
  have q0 := q
  obtain ⟨z, h', e, _⟩ := q0
  cases hr : cmpop op v w h with
  | none => rw [hr] at e; cases e
  | some r => exact ⟨φ, v, w, h, r, S, r1, r2, hr, q.here (v := .bl r) (by rw [hr]; rfl) S (.bl r)⟩
theorem s_cmp {op : Cop} (hu : X.A.units + 65 < cLine) (ha : PE X a (TIe X.K tabs F ia)) (hb : PE X b (TIe X.K tabs F ib)) (hm : behindInMarks (copO op) b = false) : PE X (.Compare a [copO op] [b] pos) (TIe X.K tabs F (.cmp op ia ib)) := by
  refine PEimp (pe_cmpR (opCA (tabs := tabs) hu op) ha hb hm) fun σ H Q ⟨φ, ρ, h, S, E, q⟩ => ⟨φ, ρ, h, S, E, ?_⟩
  refine (seqV E q).imp fun x H1 ⟨φ1, v, h1, l, S1, r1, E1, q1⟩ => ⟨φ1, ρ, h1, S1, E1, ?_⟩
  exact (seqV E1 q1).imp fun y H2 ⟨φ2, w, h2, l2, S2, r2, E2, q2⟩ => cmp_end S2 (l2.rep r1) r2 q2
/-- a test of a value that is a bool -/
theorem evT_bl {e : IE} {ρ : Env'} {h : IHeap} {r : Option (Bool × IHeap)} (h1 : ev F e ρ h = r.bind fun p => some (.bl p.1, p.2)) : evT F e ρ h = r := by
  unfold evT
  rw [h1]
  cases r <;> rfl
/-- as a test: the value is a bool anyway -/
theorem tt_bl {K : PySem.W.Frag} {φ : Nat → Addr} {h : IHeap} {H : Hp} {r : Option (PV × IHeap)} {Q : Bool → Hp → Prop} (hb : ∀ v h', r = some (v, h') → ∃ b, v = .bl b) (q : ThenB K tabs φ h H (r.bind fun p => (truthy p.2 p.1).bind fun b => some (b, p.2)) Q) :
    Then K tabs φ h H r (fun x H' => ∃ k, x = .bl k ∧ Q k H') := by
  obtain ⟨b, h', e, q⟩ := q
  cases hr : r with
  | none => rw [hr] at e; cases e
  | some p =>
    obtain ⟨v, h1⟩ := p
    obtain ⟨k, rfl⟩ := hb v h1 hr
    rw [hr] at e
    cases e
    exact ⟨.bl _, h1, rfl, fun φ' H' z l S r => by cases r; exact ⟨_, rfl, q φ' H' l S⟩⟩
theorem cmp_bl {op : Cop} {ρ : Env'} {h : IHeap} {v : PV} {h' : IHeap} (e : ev F (.cmp op ia ib) ρ h = some (v, h')) : ∃ b, v = .bl b := by
  rw [ev_cmp] at e
  cases e1 : ev F ia ρ h with
  | none => rw [e1] at e; cases e
  | some p =>
    rw [e1] at e
    simp only [Option.bind_some] at e
    cases e2 : ev F ib ρ p.2 with
    | none => rw [e2] at e; cases e
    | some q =>
      rw [e2] at e
      simp only [Option.bind_some] at e
      cases e3 : cmpop op p.1 q.1 q.2 with
      | none => rw [e3] at e; cases e
      | some r => rw [e3] at e; cases e; exact ⟨r, rfl⟩
theorem t_cmp {op : Cop} (hu : X.A.units + 65 < cLine) (ha : PE X a (TIe X.K tabs F ia)) (hb : PE X b (TIe X.K tabs F ib)) (hm : behindInMarks (copO op) b = false) : PT X (.Compare a [copO op] [b] pos) (TIt X.K tabs F (.cmp op ia ib)) := by
  refine PTimp (pt_cmpR (opCA (tabs := tabs) hu op) ha hb hm) fun σ H Q ⟨φ, ρ, h, S, E, q⟩ => ⟨φ, ρ, h, S, E, ?_⟩
  have q := tt_bl (fun v h' e => cmp_bl e) q
  rw [ev_cmp] at q
  refine (seqV E q).imp fun x H1 ⟨φ1, v, h1, l, S1, r1, E1, q1⟩ => ⟨φ1, ρ, h1, S1, E1, ?_⟩
  exact (seqV E1 q1).imp fun y H2 ⟨φ2, w, h2, l2, S2, r2, E2, q2⟩ => cmp_end S2 (l2.rep r1) r2 q2
theorem ev_chain {o1 o2 : Cop} {ρ : Env'} {h : IHeap} : ev F (.chain o1 o2 ia ib ic) ρ h = (ev F ia ρ h).bind fun p => (ev F ib ρ p.2).bind fun q => (cmpop o1 p.1 q.1 q.2).bind fun r =>
    if r = true then (ev F ic ρ q.2).bind fun u => (cmpop o2 q.1 u.1 u.2).bind fun r' => some (.bl r', u.2) else some (.bl false, q.2) := rfl
theorem chain_go {K : PySem.W.Frag} {φ : Nat → Addr} {h : IHeap} {H : Hp} {ρ : Env'} {σ : L2.St} {Q : VK} {o1 o2 : Cop} (S : Sim K tabs φ h H) (E : ERep K φ h.length H ρ σ) (q : Then K tabs φ h H (ev F (.chain o1 o2 ia ib ic) ρ h) Q) :
    Then K tabs φ h H (ev F ia ρ h) fun x H1 => TIe K tabs F ib σ H1 fun y H2 => rCA K tabs o1 x y H2 fun z H3 => ∃ k, z = .bl k ∧ (if k = true then TIe K tabs F ic σ H3 (fun w' H4 => rCA K tabs o2 y w' H4 Q) else Q (.bl false) H3) := by
  rw [ev_chain] at q
  refine (seqV E q).imp fun x H1 ⟨φ1, v, h1, l, S1, r1, E1, q1⟩ => ⟨φ1, ρ, h1, S1, E1, ?_⟩
  refine (seqV E1 q1).imp fun y H2 ⟨φ2, w, h2, l2, S2, r2, E2, q2⟩ => ?_
  have q3 := q2
  obtain ⟨z, h', e, _⟩ := q3
  cases hr : cmpop o1 v w h2 with
  | none => simp only [hr] at e; cases e
  | some r =>
    simp only [hr, Option.bind_some] at q2
    refine ⟨φ2, v, w, h2, r, S2, l2.rep r1, r2, hr, r, rfl, ?_⟩
    by_cases hk : r = true
    · rw [if_pos hk] at q2 ⊢
      exact ⟨φ2, ρ, h2, S2, E2, (seqV E2 q2).imp fun u H3 ⟨φ3, w3, h3, l3, S3, r3, E3, q4⟩ => cmp_end S3 (l3.rep r2) r3 q4⟩
    · rw [if_neg hk] at q2 ⊢
      exact q2.here rfl S2 (.bl false)
theorem s_chain {o1 o2 : Cop} (hu : X.A.units + 65 < cLine) (ha : PE X a (TIe X.K tabs F ia)) (hb : PE X b (TIe X.K tabs F ib)) (hc : PE X c (TIe X.K tabs F ic)) (hm : lastMarks [copO o1, copO o2] [b, c] = false) :
    PE X (.Compare a [copO o1, copO o2] [b, c] pos) (TIe X.K tabs F (.chain o1 o2 ia ib ic)) :=
  PEimp (pe_chain (opCA (tabs := tabs) hu o1) (opCA (tabs := tabs) hu o2) ha hb hc hm) fun σ H Q ⟨φ, ρ, h, S, E, q⟩ => ⟨φ, ρ, h, S, E, chain_go S E q⟩
theorem chain_bl {o1 o2 : Cop} {ρ : Env'} {h : IHeap} {v : PV} {h' : IHeap} (e : ev F (.chain o1 o2 ia ib ic) ρ h = some (v, h')) : ∃ b, v = .bl b := by
  rw [ev_chain] at e
  cases e1 : ev F ia ρ h with
  | none => rw [e1] at e; cases e
  | some p =>
    rw [e1] at e
    simp only [Option.bind_some] at e
    cases e2 : ev F ib ρ p.2 with
    | none => rw [e2] at e; cases e
    | some q =>
      rw [e2] at e
      simp only [Option.bind_some] at e
      cases e3 : cmpop o1 p.1 q.1 q.2 with
      | none => rw [e3] at e; cases e
      | some r =>
        rw [e3] at e
        simp only [Option.bind_some] at e
        by_cases hk : r = true
        · rw [if_pos hk] at e
          cases e4 : ev F ic ρ q.2 with
          | none => rw [e4] at e; cases e
          | some u =>
            rw [e4] at e
            simp only [Option.bind_some] at e
            cases e5 : cmpop o2 q.1 u.1 u.2 with
            | none => rw [e5] at e; cases e
            | some r => rw [e5] at e; cases e; exact ⟨r, rfl⟩
        · rw [if_neg hk] at e; cases e; exact ⟨false, rfl⟩
theorem t_chain {o1 o2 : Cop} (hu : X.A.units + 65 < cLine) (ha : PE X a (TIe X.K tabs F ia)) (hb : PE X b (TIe X.K tabs F ib)) (hc : PE X c (TIe X.K tabs F ic)) (hm : lastMarks [copO o1, copO o2] [b, c] = false) :
    PT X (.Compare a [copO o1, copO o2] [b, c] pos) (TIt X.K tabs F (.chain o1 o2 ia ib ic)) :=
  PTimp (pt_chain (opCA (tabs := tabs) hu o1) (opCA (tabs := tabs) hu o2) ha hb hc hm) fun σ H Q ⟨φ, ρ, h, S, E, q⟩ => ⟨φ, ρ, h, S, E, chain_go S E (tt_bl (fun v h' e => chain_bl e) q)⟩

theorem ev_not {ρ : Env'} {h : IHeap} : ev F (.not ia) ρ h = (evT F ia ρ h).bind fun p => some (.bl (!p.1), p.2) := by
  unfold evT
  show ((ev F ia ρ h).bind fun p => (truthy p.2 p.1).bind fun r => some (PV.bl (!r), p.2)) = _
  cases ev F ia ρ h with
  | none => rfl
  | some p =>
    simp only [Option.bind_some]
    cases truthy p.2 p.1 <;> rfl
theorem s_not (ha : PT X a (TIt X.K tabs F ia)) (hp : PE X a (TIe X.K tabs F ia)) : PE X (.UnaryOp .Not a pos) (TIe X.K tabs F (.not ia)) := by
  refine PEimp (pe_notT hp) fun σ H Q ⟨φ, ρ, h, S, E, q⟩ => ⟨φ, ρ, h, S, E, ?_⟩
  have q : Then X.K tabs φ h H ((ev F ia ρ h).bind fun p => (truthy p.2 p.1).bind fun r => some (.bl (!r), p.2)) Q := q
  refine (seqV E q).imp fun x H1 ⟨φ1, v, h1, l, S1, r1, E1, q1⟩ => ?_
  have q0 := q1
  obtain ⟨b, h2, e, _⟩ := q0
  cases ht : truthy h1 v with
  | none => simp only [ht] at e; cases e
  | some k =>
    simp only [ht, Option.bind_some] at q1
    exact ⟨k, tru_of S1 r1 ht, q1.here rfl S1 (.bl _)⟩
theorem t_not (ha : PT X a (TIt X.K tabs F ia)) : PT X (.UnaryOp .Not a pos) (TIt X.K tabs F (.not ia)) := by
  refine PTimp (pt_not ha) fun σ H Q ⟨φ, ρ, h, S, E, q⟩ => ⟨φ, ρ, h, S, E, ?_⟩
  have e : evT F (.not ia) ρ h = (evT F ia ρ h).bind fun p => some (!p.1, p.2) := by
    unfold evT
    rw [show ev F (.not ia) ρ h = _ from ev_not]
    unfold evT
    cases ev F ia ρ h with
    | none => rfl
    | some p =>
      simp only [Option.bind_some]
      cases truthy p.2 p.1 <;> rfl
  rw [e] at q
  obtain ⟨b, h', e', f⟩ := testB E q
  refine ⟨b, h', e', fun φ' H' l S' => ?_⟩
  obtain ⟨φ1, h1, l1, S1, E1, b', h2, e2, q2⟩ := f φ' H' l S'
  cases e2
  exact q2 φ1 H' .refl S1
theorem s_neg (ha : PE X a (TIe X.K tabs F ia)) : PE X (.UnaryOp .USub a pos) (TIe X.K tabs F (.neg ia)) := by
  refine PEimp (pe_un un_neg ha) fun σ H Q ⟨φ, ρ, h, S, E, q⟩ => ⟨φ, ρ, h, S, E, ?_⟩
  have q : Then X.K tabs φ h H ((ev F ia ρ h).bind fun p => match p.1 with | .int i => some (.int (-i), p.2) | _ => none) Q := q
  refine (seqV E q).imp fun x H1 ⟨φ1, v, h1, l, S1, r1, E1, q1⟩ => ?_
  have q0 := q1
  obtain ⟨b, h2, e, _⟩ := q0
  cases v <;> first | (cases e; done) | skip
  cases r1
  exact ⟨_, rfl, q1.here rfl S1 (.int _)⟩
end
end PI
end

section
set_option Elab.async false
set_option linter.all false
set_option maxRecDepth 100000
set_option maxHeartbeats 2000000
namespace PI
open PySem PySem.Spec PyProof.Rows L2

/-! ### what is seen of the text -/
def isStar : Expr → Bool
  | .Starred .. => true
  | _ => false
theorem star_cons {e : Expr} {es : List Expr} {env : Env} (h : isStar e = false) : starEach (e :: es) env = (false, eval e env) :: starEach es env := by
  cases e <;> first | rfl | cases h
theorem star_all {env : Env} : ∀ {es : List Expr}, es.all (fun e => !isStar e) = true → (starEach es env).any (·.1) = false
  | [], _ => rfl
  | e :: es, h => by
    simp only [List.all_cons, Bool.and_eq_true, Bool.not_eq_true'] at h
    rw [star_cons h.1, List.any_cons, star_all h.2]
    rfl
theorem back_any {pos : Pos} {l : List (Bool × Sem Value)} : (backTo pos l).any (·.1) = l.any (·.1) := by
  unfold backTo
  rw [List.any_map]
  rfl
theorem back_all {pos : Pos} {l : List (Bool × Sem Value)} : (backTo pos l).all (fun x => !x.1) = l.all (fun x => !x.1) := by
  unfold backTo
  rw [List.all_map]
  rfl
theorem star_all' {env : Env} : ∀ {es : List Expr}, es.all (fun e => !isStar e) = true → (starEach es env).all (fun x => !x.1) = true
  | [], _ => rfl
  | e :: es, h => by
    simp only [List.all_cons, Bool.and_eq_true, Bool.not_eq_true'] at h
    rw [star_cons h.1, List.all_cons, star_all' h.2]
    rfl
def isSlice : Expr → Bool
  | .Slice .. => true
  | _ => false
theorem plain_ix {b : Expr} (h : isSlice b = false) : PlainIx b := by
  intro o i
  cases b <;> first | rfl | cases h
def isCall : Expr → Bool
  | .Call .. => true
  | _ => false
theorem plain_base {o : Expr} {m : Str} {env : Env} (h : isCall o = false) : attributeBase o m env (eval o env) = eval o env := by
  cases o <;> first | rfl | cases h
/-- the test is the value's truth -/
def isPlainT : Expr → Bool
  | .UnaryOp .Not _ _ => false
  | .BoolOp .. => false
  | .IfExp .. => false
  | .Compare .. => false
  | _ => true
theorem plain_t {e : Expr} {env : Env} (h : isPlainT e = true) (whole : Sem Value) : isTrue e env whole = (do let v ← whole; standAt e.pos; holding [v] (PySem.truthy v)) := by
  cases e <;> first | rfl | (cases h; done) | skip
  rename_i op _ _
  cases op <;> first | rfl | cases h

section
variable {X : Cx} {e a b c : Expr} {t t' : TE} {pos : Pos} {tabs : List Addr} {F : Nat → List PV → IHeap → Option (PV × IHeap)} {ia ib ic : IE} {rest es : List Expr}
theorem ev_and {ρ : Env'} {h : IHeap} : ev F (.and ia ib) ρ h = (ev F ia ρ h).bind fun p => (truthy p.2 p.1).bind fun r => if r = true then ev F ib ρ p.2 else some (p.1, p.2) := rfl
theorem ev_or {ρ : Env'} {h : IHeap} : ev F (.or ia ib) ρ h = (ev F ia ρ h).bind fun p => (truthy p.2 p.1).bind fun r => if r = true then some (p.1, p.2) else ev F ib ρ p.2 := rfl
theorem s_and (ha : PE X a (TIe X.K tabs F ia)) (hb : PE X (.BoolOp .And (b :: rest) pos) (TIe X.K tabs F ib)) : PE X (.BoolOp .And (a :: b :: rest) pos) (TIe X.K tabs F (.and ia ib)) := by
  refine PEimp (pe_andT ha hb) fun σ H Q ⟨φ, ρ, h, S, E, q⟩ => ⟨φ, ρ, h, S, E, ?_⟩
  rw [ev_and] at q
  refine (seqV E q).imp fun x H1 ⟨φ1, v, h1, l, S1, r1, E1, q1⟩ => ?_
  have q0 := q1
  obtain ⟨w, h2, e, _⟩ := q0
  cases ht : truthy h1 v with
  | none => simp only [ht] at e; cases e
  | some k =>
    simp only [ht, Option.bind_some] at q1
    refine ⟨k, tru_of S1 r1 ht, ?_⟩
    by_cases hk : k = true
    · rw [if_pos hk] at q1 ⊢
      exact ⟨φ1, ρ, h1, S1, E1, q1⟩
    · rw [if_neg hk] at q1 ⊢
      exact q1.here rfl S1 r1
theorem s_or (ha : PE X a (TIe X.K tabs F ia)) (hb : PE X (.BoolOp .Or (b :: rest) pos) (TIe X.K tabs F ib)) : PE X (.BoolOp .Or (a :: b :: rest) pos) (TIe X.K tabs F (.or ia ib)) := by
  refine PEimp (pe_orT ha hb) fun σ H Q ⟨φ, ρ, h, S, E, q⟩ => ⟨φ, ρ, h, S, E, ?_⟩
  rw [ev_or] at q
  refine (seqV E q).imp fun x H1 ⟨φ1, v, h1, l, S1, r1, E1, q1⟩ => ?_
  have q0 := q1
  obtain ⟨w, h2, e, _⟩ := q0
  cases ht : truthy h1 v with
  | none => simp only [ht] at e; cases e
  | some k =>
    simp only [ht, Option.bind_some] at q1
    refine ⟨k, tru_of S1 r1 ht, ?_⟩
    by_cases hk : k = true
    · rw [if_pos hk] at q1 ⊢
      exact q1.here rfl S1 r1
    · rw [if_neg hk] at q1 ⊢
      exact ⟨φ1, ρ, h1, S1, E1, q1⟩
theorem evT_and {ρ : Env'} {h : IHeap} : evT F (.and ia ib) ρ h = (evT F ia ρ h).bind fun p => if p.1 = true then evT F ib ρ p.2 else some (false, p.2) := by
  unfold evT
  rw [ev_and]
  cases ev F ia ρ h with
  | none => rfl
  | some p =>
    simp only [Option.bind_some]
    cases ht : truthy p.2 p.1 with
    | none => rfl
    | some k => cases k <;> simp [ht]
theorem evT_or {ρ : Env'} {h : IHeap} : evT F (.or ia ib) ρ h = (evT F ia ρ h).bind fun p => if p.1 = true then some (true, p.2) else evT F ib ρ p.2 := by
  unfold evT
  rw [ev_or]
  cases ev F ia ρ h with
  | none => rfl
  | some p =>
    simp only [Option.bind_some]
    cases ht : truthy p.2 p.1 with
    | none => rfl
    | some k => cases k <;> simp [ht]
theorem w_and (ha : PT X a (TIt X.K tabs F ia)) (hb : PW X (.BoolOp .And (b :: rest) pos) (TIt X.K tabs F ib)) : PW X (.BoolOp .And (a :: b :: rest) pos) (TIt X.K tabs F (.and ia ib)) := by
  refine PWimp (pw_and ha hb) fun σ H Q ⟨φ, ρ, h, S, E, q⟩ => ⟨φ, ρ, h, S, E, ?_⟩
  rw [evT_and] at q
  obtain ⟨k, h', e', f⟩ := testB E q
  refine ⟨k, h', e', fun φ' H' l S' => ?_⟩
  obtain ⟨φ1, h1, l1, S1, E1, q1⟩ := f φ' H' l S'
  by_cases hk : k = true
  · rw [if_pos hk] at q1 ⊢
    exact ⟨φ1, ρ, h1, S1, E1, q1⟩
  · rw [if_neg hk] at q1 ⊢
    obtain ⟨b', h2, e2, q2⟩ := q1
    cases e2
    exact q2 φ1 H' .refl S1
theorem w_or (ha : PT X a (TIt X.K tabs F ia)) (hb : PW X (.BoolOp .Or (b :: rest) pos) (TIt X.K tabs F ib)) : PW X (.BoolOp .Or (a :: b :: rest) pos) (TIt X.K tabs F (.or ia ib)) := by
  refine PWimp (pw_or ha hb) fun σ H Q ⟨φ, ρ, h, S, E, q⟩ => ⟨φ, ρ, h, S, E, ?_⟩
  rw [evT_or] at q
  obtain ⟨k, h', e', f⟩ := testB E q
  refine ⟨k, h', e', fun φ' H' l S' => ?_⟩
  obtain ⟨φ1, h1, l1, S1, E1, q1⟩ := f φ' H' l S'
  by_cases hk : k = true
  · rw [if_pos hk] at q1 ⊢
    obtain ⟨b', h2, e2, q2⟩ := q1
    cases e2
    exact q2 φ1 H' .refl S1
  · rw [if_neg hk] at q1 ⊢
    exact ⟨φ1, ρ, h1, S1, E1, q1⟩
theorem ev_ife {ρ : Env'} {h : IHeap} : ev F (.ife ic ia ib) ρ h = (evT F ic ρ h).bind fun p => if p.1 = true then ev F ia ρ p.2 else ev F ib ρ p.2 := by
  unfold evT
  show ((ev F ic ρ h).bind fun p => (truthy p.2 p.1).bind fun r => if r = true then ev F ia ρ p.2 else ev F ib ρ p.2) = _
  cases ev F ic ρ h with
  | none => rfl
  | some p =>
    simp only [Option.bind_some]
    cases truthy p.2 p.1 <;> rfl
theorem s_ife (hc : PT X c (TIt X.K tabs F ic)) (ha : PE X a (TIe X.K tabs F ia)) (hb : PE X b (TIe X.K tabs F ib)) : PE X (.IfExp c a b pos) (TIe X.K tabs F (.ife ic ia ib)) := by
  refine PEimp (pe_ifExp hc ha hb) fun σ H Q ⟨φ, ρ, h, S, E, q⟩ => ⟨φ, ρ, h, S, E, ?_⟩
  rw [ev_ife] at q
  obtain ⟨k, h', e', f⟩ := testV E q
  refine ⟨k, h', e', fun φ' H' l S' => ?_⟩
  obtain ⟨φ1, h1, l1, S1, E1, q1⟩ := f φ' H' l S'
  by_cases hk : k = true
  · rw [if_pos hk] at q1 ⊢
    exact ⟨φ1, ρ, h1, S1, E1, q1⟩
  · rw [if_neg hk] at q1 ⊢
    exact ⟨φ1, ρ, h1, S1, E1, q1⟩
theorem pt_ife {tC tA tB' : TT} (hc : PT X c tC) (ha : PT X a tA) (hb : PT X b tB') : PT X (.IfExp c a b pos) (fun σ H Q => tC σ H fun k H1 => if k = true then tA σ H1 Q else tB' σ H1 Q) := by
  refine ⟨fun pins s σ H Q I h => ?_⟩
  show wpAny _ _ (do if ← isTrue c X.env (eval c X.env) then isTrue a X.env (eval a X.env) else isTrue b X.env (eval b X.env)) _ _ s
  refine wpAny_bind (thn (hc.run pins s σ H _ I h) fun k s1 ⟨H1, I1, q1⟩ => ?_)
  cases k with
  | true => exact ha.run pins s1 σ H1 Q I1 q1
  | false => exact hb.run pins s1 σ H1 Q I1 q1
theorem t_ife (hc : PT X c (TIt X.K tabs F ic)) (ha : PT X a (TIt X.K tabs F ia)) (hb : PT X b (TIt X.K tabs F ib)) : PT X (.IfExp c a b pos) (TIt X.K tabs F (.ife ic ia ib)) := by
  refine PTimp (pt_ife hc ha hb) fun σ H Q ⟨φ, ρ, h, S, E, q⟩ => ⟨φ, ρ, h, S, E, ?_⟩
  have e : evT F (.ife ic ia ib) ρ h = (evT F ic ρ h).bind fun p => if p.1 = true then evT F ia ρ p.2 else evT F ib ρ p.2 := by
    show ((ev F (.ife ic ia ib) ρ h).bind fun p => (truthy p.2 p.1).bind fun b => some (b, p.2)) = _
    rw [ev_ife]
    cases evT F ic ρ h with
    | none => rfl
    | some p =>
      obtain ⟨k, h1⟩ := p
      cases k <;> rfl
  rw [e] at q
  obtain ⟨k, h', e', f⟩ := testB E q
  refine ⟨k, h', e', fun φ' H' l S' => ?_⟩
  obtain ⟨φ1, h1, l1, S1, E1, q1⟩ := f φ' H' l S'
  by_cases hk : k = true
  · rw [if_pos hk] at q1 ⊢
    exact ⟨φ1, ρ, h1, S1, E1, q1⟩
  · rw [if_neg hk] at q1 ⊢
    exact ⟨φ1, ρ, h1, S1, E1, q1⟩
theorem s_var {i : Nat} {x : Str} (hN : X.N[i]? = some x) (hv : Vis X.env.scope x) (hd : (x == ("__debug__" : Str)) = false) (hcd : (x == ("__classdict__" : Str)) = false) : PE X (.Name x pos) (TIe X.K tabs F (.var i)) := by
  refine PEimp (pe_var hN hv hd hcd) fun σ H Q ⟨φ, ρ, h, S, E, q⟩ => ?_
  have q0 := q
  obtain ⟨v, h', e, _⟩ := q0
  have e' : (match ρ[i]? with | some (some v) => some (v, h) | _ => none) = some (v, h') := e
  split at e'
  · rename_i w hw
    cases e'
    obtain ⟨y, hy, ry⟩ := E.2 i v hw
    exact ⟨y, hy, q.here (show ev F (.var i) ρ h = some (v, h) from e) S ry⟩
  · cases e'
/-- a value that is at hand always -/
def Known (K : PySem.W.Frag) (v : PV) (x : V) : Prop := ∀ φ n H, VRep K φ n H v x
theorem s_con {v : PV} {x : V} (hk : Known X.K v x) (p : PE X a (tC x)) : PE X a (TIe X.K tabs F (.con v)) :=
  PEimp p fun σ H Q ⟨φ, ρ, h, S, E, q⟩ => q.here (show ev F (.con v) ρ h = some (v, h) from rfl) S (hk _ _ _)

/-! ### argument lists -/
theorem a_nil : PA X [] (TIs X.K tabs F .nil) := ⟨fun pos pins s σ H Q I ⟨φ, ρ, h, S, E, q⟩ => pa_nil.run pos pins s σ H Q I (by
  obtain ⟨vs, h', e, q⟩ := q
  cases e
  exact q φ H [] .refl S .nil)⟩
theorem ev_cons {ρ : Env'} {h : IHeap} : ev F (.cons ia ib) ρ h = (ev F ia ρ h).bind fun p => (ev F ib ρ p.2).bind fun q => match q.1 with | .tup ys => some (.tup (p.1 :: ys), q.2) | _ => none := rfl
theorem PAimp {t t' : TA} (p : PA X es t) (i : ∀ σ H Q, t' σ H Q → t σ H Q) : PA X es t' := ⟨fun pos pins s σ H Q I h => p.run pos pins s σ H Q I (i _ _ _ h)⟩
theorem a_cons (ha : PE X a (TIe X.K tabs F ia)) (hr : PA X es (TIs X.K tabs F ib)) (hs : isStar a = false) : PA X (a :: es) (TIs X.K tabs F (.cons ia ib)) := by
  refine PAimp (pa_cons ha hr (star_cons hs)) fun σ H Q ⟨φ, ρ, h, S, E, q⟩ => ⟨φ, ρ, h, S, E, ?_⟩
  obtain ⟨vs, h', e, q⟩ := q
  rw [ev_cons] at e
  cases e1 : ev F ia ρ h with
  | none => rw [e1] at e; cases e
  | some p =>
    obtain ⟨v, h1⟩ := p
    rw [e1] at e
    simp only [Option.bind_some] at e
    cases e2 : ev F ib ρ h1 with
    | none => rw [e2] at e; cases e
    | some p2 =>
      obtain ⟨w, h2⟩ := p2
      rw [e2] at e
      simp only [Option.bind_some] at e
      cases w <;> first | (cases e; done) | skip
      cases e
      refine ⟨v, h1, rfl, fun φ1 H1 x l S1 r1 => ⟨φ1, ρ, h1, S1, l.erep E, _, _, e2, fun φ2 H2 xs l2 S2 r2 => ?_⟩⟩
      exact q φ2 H2 (x :: xs) (l.trans l2) S2 (.cons (l2.rep r1) r2)
/-- what takes a list of values -/
theorem args_go {K : PySem.W.Frag} {φ : Nat → Addr} {h : IHeap} {H : Hp} {ρ : Env'} {σ : L2.St} {Q : VK} {as : IE} {k : List PV → IHeap → Option (PV × IHeap)} (S : Sim K tabs φ h H) (E : ERep K φ h.length H ρ σ)
    (q : Then K tabs φ h H ((ev F as ρ h).bind fun p => match p.1 with | .tup ys => k ys p.2 | _ => none) Q) :
    TIs K tabs F as σ H fun xs H1 => ∃ φ1 vs h1, Sim K tabs φ1 h1 H1 ∧ VReps K φ1 h1.length H1 vs xs ∧ ERep K φ1 h1.length H1 ρ σ ∧ Le φ h H φ1 h1 H1 ∧ Then K tabs φ1 h1 H1 (k vs h1) Q := by
  refine ⟨φ, ρ, h, S, E, ?_⟩
  obtain ⟨vs, h', e, f⟩ := seqL E (fun v h1 z e => by cases v <;> first | (cases e; done) | exact ⟨_, rfl⟩) q
  refine ⟨vs, h', e, fun φ' H' xs l S' r => ?_⟩
  obtain ⟨φ1, vs1, h1, l1, S1, r1, E1, q1⟩ := f φ' H' xs l S' r
  exact ⟨φ1, vs1, h1, S1, r1, E1, l1, q1⟩
theorem s_tup {x1} (ha : PA X es (TIs X.K tabs F ia)) : PE X (.Tuple es x1 pos) (TIe X.K tabs F (.tup ia)) := by
  refine PEimp (pe_tup ha) fun σ H Q ⟨φ, ρ, h, S, E, q⟩ => ?_
  obtain ⟨φ', ρ', h', S', E', vs, h2, e, f⟩ := args_go (k := fun ys h => if ys.length ≤ sizeLine then some (.tup ys, h) else none) S E q
  refine ⟨φ', ρ', h', S', E', vs, h2, e, fun φ1 H1 xs l S1 r1 => ?_⟩
  obtain ⟨φ2, ws, h3, S3, r3, E3, l3, q3⟩ := f φ1 H1 xs l S1 r1
  have q0 := q3
  obtain ⟨_, _, e0, _⟩ := q0
  by_cases hz : ws.length ≤ sizeLine
  · rw [if_pos hz] at q3
    exact ⟨by rw [← r3.length]; exact hz, fun p hp => q3.tup rfl S3 r3 hp⟩
  · rw [if_neg hz] at e0; cases e0
theorem s_lst (ha : PA X es (TIs X.K tabs F ia)) : PE X (.List es pos) (TIe X.K tabs F (.lst ia)) := by
  refine PEimp (pe_lst ha) fun σ H Q ⟨φ, ρ, h, S, E, q⟩ => ?_
  obtain ⟨φ', ρ', h', S', E', vs, h2, e, f⟩ := args_go (k := fun ys h => if ys.length ≤ sizeLine then some (newCell (.lst ys) h) else none) S E q
  refine ⟨φ', ρ', h', S', E', vs, h2, e, fun φ1 H1 xs l S1 r1 => ?_⟩
  obtain ⟨φ2, ws, h3, S3, r3, E3, l3, q3⟩ := f φ1 H1 xs l S1 r1
  have q0 := q3
  obtain ⟨_, _, e0, _⟩ := q0
  by_cases hz : ws.length ≤ sizeLine
  · rw [if_pos hz] at q3
    exact ⟨by rw [← r3.length]; exact hz, fun p hp => q3.lst rfl S3 r3 hp⟩
  · rw [if_neg hz] at e0; cases e0
/-! ### items, slices -/
theorem ev_idx {ρ : Env'} {h : IHeap} : ev F (.idx ia ib) ρ h = (ev F ia ρ h).bind fun p => (ev F ib ρ p.2).bind fun q => (idxop p.1 q.1 q.2).bind fun r => some (r, q.2) := rfl
theorem s_idx (hu : X.A.units + 1 < cLine) (ha : PE X a (TIe X.K tabs F ia)) (hb : PE X b (TIe X.K tabs F ib)) (hs : isSlice b = false) : PE X (.Subscript a b pos) (TIe X.K tabs F (.idx ia ib)) := by
  refine PEimp (pe_ix (ixA (tabs := tabs) hu) ha hb (plain_ix hs)) fun σ H Q ⟨φ, ρ, h, S, E, q⟩ => ⟨φ, ρ, h, S, E, ?_⟩
  rw [ev_idx] at q
  refine (seqV E q).imp fun x H1 ⟨φ1, v, h1, l, S1, r1, E1, q1⟩ => ⟨φ1, ρ, h1, S1, E1, ?_⟩
  refine (seqV E1 q1).imp fun y H2 ⟨φ2, w, h2, l2, S2, r2, E2, q2⟩ => ?_
  have q0 := q2
  obtain ⟨z, h', e, _⟩ := q0
  cases hr : idxop v w h2 with
  | none => simp only [hr] at e; cases e
  | some r => exact ⟨φ2, v, w, h2, r, S2, l2.rep r1, r2, hr, fun z hz => q2.here (v := r) (by simp only [hr]; rfl) S2 hz⟩
end
end PI
end

section
set_option Elab.async false
set_option linter.all false
set_option maxRecDepth 100000
set_option maxHeartbeats 2000000
namespace PI
open PySem PySem.Spec PyProof.Rows L2

section
variable {X : Cx} {e a b c : Expr} {t t' : TE} {pos p2 : Pos} {tabs : List Addr} {F : Nat → List PV → IHeap → Option (PV × IHeap)} {ia ib ic : IE} {rest es : List Expr}
/-! ### slices -/
def evO (F : Nat → List PV → IHeap → Option (PV × IHeap)) (l : Bool) (e : IE) (ρ : Env') (h : IHeap) : Option (Option Int × IHeap) :=
  if l = true then (ev F e ρ h).bind fun p => match p.1 with
    | .int i => some (some i, p.2)
    | _ => none
  else some (none, h)
def TIo (K : PySem.W.Frag) (tabs : List Addr) (F : Nat → List PV → IHeap → Option (PV × IHeap)) (l : Bool) (e : IE) : TO := fun σ H Q => ∃ φ ρ h, Sim K tabs φ h H ∧ ERep K φ h.length H ρ σ ∧
  ∃ o h', evO F l e ρ h = some (o, h') ∧ ∀ φ' H', Le φ h H φ' h' H' → Sim K tabs φ' h' H' → Q o H'
theorem ev_slc {l r : Bool} {ρ : Env'} {h : IHeap} : ev F (.slc l r ia ib ic) ρ h = (ev F ia ρ h).bind fun p => (evO F l ib ρ p.2).bind fun q => (evO F r ic ρ q.2).bind fun u => slcop p.1 q.1 u.1 u.2 := rfl
theorem o_none : PO X none (TIo X.K tabs F false ia) := ⟨fun pins s σ H Q I ⟨φ, ρ, h, S, E, o, h', e, q⟩ => po_none.run pins s σ H Q I (by cases e; exact q φ H .refl S)⟩
theorem o_some (ha : PE X a (TIe X.K tabs F ia)) : PO X (some a) (TIo X.K tabs F true ia) := ⟨fun pins s σ H Q I ⟨φ, ρ, h, S, E, o, h', e, q⟩ => (po_some ha).run pins s σ H Q I (by
  refine ⟨φ, ρ, h, S, E, ?_⟩
  unfold evO at e
  rw [if_pos rfl] at e
  cases e1 : ev F ia ρ h with
  | none => rw [e1] at e; cases e
  | some p =>
    obtain ⟨v, h1⟩ := p
    rw [e1] at e
    simp only [Option.bind_some] at e
    cases v <;> first | (cases e; done) | skip
    cases e
    exact ⟨_, _, rfl, fun φ' H' z l S' r => by cases r; exact ⟨_, rfl, q φ' H' l S'⟩⟩)⟩
theorem s_slc {l r : Bool} {lo hi : Option Expr} (ha : PE X a (TIe X.K tabs F ia)) (hl : PO X lo (TIo X.K tabs F l ib)) (hr : PO X hi (TIo X.K tabs F r ic)) : PE X (.Subscript a (.Slice lo hi none p2) pos) (TIe X.K tabs F (.slc l r ia ib ic)) := by
  refine PEimp (pe_slice (slI (tabs := tabs)) ha hl hr) fun σ H Q ⟨φ, ρ, h, S, E, q⟩ => ⟨φ, ρ, h, S, E, ?_⟩
  rw [ev_slc] at q
  refine (seqV E q).imp fun x H1 ⟨φ1, v, h1, l1, S1, r1, E1, q1⟩ => ⟨φ1, ρ, h1, S1, E1, ?_⟩
  obtain ⟨z, hz, e, f⟩ := q1
  cases e2 : evO F l ib ρ h1 with
  | none => simp only [e2] at e; cases e
  | some p =>
    obtain ⟨o1, h2⟩ := p
    simp only [e2, Option.bind_some] at e
    refine ⟨o1, h2, rfl, fun φ2 H2 l2 S2 => ⟨φ2, ρ, h2, S2, l2.erep E1, ?_⟩⟩
    cases e3 : evO F r ic ρ h2 with
    | none => simp only [e3] at e; cases e
    | some p =>
      obtain ⟨o2, h3⟩ := p
      simp only [e3, Option.bind_some] at e
      exact ⟨o2, h3, rfl, fun φ3 H3 l3 S3 => ⟨φ3, v, h3, S3, (l2.trans l3).rep r1, z, hz, e, fun φ' H' z' l' S' r' => f φ' H' z' ((l2.trans l3).trans l') S' r'⟩⟩
theorem s_rev {k : Nat} {p1 p3 : Pos} (ha : PE X a (TIe X.K tabs F ia)) : PE X (.Subscript a (.Slice none none (some (.UnaryOp .USub (.Constant (.int 1) k p1) p2)) p3) pos) (TIe X.K tabs F (.rev ia)) := by
  refine PEimp (pe_revL ha) fun σ H Q ⟨φ, ρ, h, S, E, q⟩ => ⟨φ, ρ, h, S, E, ?_⟩
  have q : Then X.K tabs φ h H ((ev F ia ρ h).bind fun p => match p.1 with | .ref i => (match p.2[i]? with | some (.lst xs) => some (newCell (.lst xs.reverse) p.2) | _ => none) | _ => none) Q := q
  refine (seqV E q).imp fun x H1 ⟨φ1, v, h1, l1, S1, r1, E1, q1⟩ => ?_
  have q0 := q1
  obtain ⟨z, h', e, _⟩ := q0
  cases r1 with
  | @ref i hi =>
    cases ei : h1[i]? with
    | none => simp only [ei] at e; cases e
    | some c =>
      cases c with
      | dic _ => simp only [ei] at e; cases e
      | lst vs =>
        obtain ⟨xs, hx, rs⟩ := S1.lst ei
        exact ⟨_, xs, rfl, SqL.of hx, fun p hp => q1.lst (vs := vs.reverse) (by simp only [ei]) S1 rs.reverse hp⟩
  | _ => cases e

/-! ### dict displays -/
def trsOf (K : PySem.W.Frag) (tabs : List Addr) (F : Nat → List PV → IHeap → Option (PV × IHeap)) : List Str → IE → List (TE × TE)
  | k :: ks, .cons a as => (tC (.str k), TIe K tabs F a) :: trsOf K tabs F ks as
  | _, _ => []
inductive IsL : List Str → IE → Prop
  | nil : IsL [] .nil
  | cons {k ks a as} : IsL ks as → IsL (k :: ks) (.cons a as)
theorem pairs_go {K : PySem.W.Frag} {ρ : Env'} {σ : L2.St} : ∀ {ks : List Str} {ie : IE}, IsL ks ie → ∀ (φ : Nat → Addr) (h : IHeap) (H : Hp) (vs : List PV) (h' : IHeap) (Q : List (V × V) → Hp → Prop), Sim K tabs φ h H → ERep K φ h.length H ρ σ → ev F ie ρ h = some (.tup vs, h') →
    (∀ φ' H' xs, Le φ h H φ' h' H' → Sim K tabs φ' h' H' → VReps K φ' h'.length H' vs xs → vs.length = ks.length → Q ((ks.map V.str).zip xs) H') → tPairs (trsOf K tabs F ks ie) σ H Q
  | _, _, .nil, φ, h, H, vs, h', Q, S, E, e, q => by
    cases e; exact q φ H [] .refl S .nil rfl
  | _, _, @IsL.cons k ks a as hl, φ, h, H, vs, h', Q, S, E, e, q => by
    rw [ev_cons] at e
    cases e1 : ev F a ρ h with
    | none => rw [e1] at e; cases e
    | some p =>
      obtain ⟨v, h1⟩ := p
      rw [e1] at e
      simp only [Option.bind_some] at e
      cases e2 : ev F as ρ h1 with
      | none => rw [e2] at e; cases e
      | some p2 =>
        obtain ⟨w, h2⟩ := p2
        rw [e2] at e
        simp only [Option.bind_some] at e
        cases w <;> first | (cases e; done) | skip
        cases e
        show TIe K tabs F a σ H _
        refine ⟨φ, ρ, h, S, E, v, h1, e1, fun φ1 H1 x l S1 r1 => ?_⟩
        refine pairs_go hl φ1 h1 H1 _ _ _ S1 (l.erep E) e2 fun φ2 H2 xs l2 S2 r2 hlen => ?_
        exact q φ2 H2 (x :: xs) (l.trans l2) S2 (.cons (l2.rep r1) r2) (by simp [hlen])
theorem fold_rep {K : PySem.W.Frag} {φ : Nat → Addr} {n : Nat} {H : Hp} : ∀ {ks : List Str} {vs : List PV} {xs : List V} {kvs : List (Key × PV)} {kxs : List (Key × V)}, VReps K φ n H vs xs → KReps K φ n H kvs kxs →
    KReps K φ n H ((ks.zip vs).foldl (fun kvs p => kvPut (.inr p.1) p.2 kvs) kvs) (mergeK kxs ((ks.map (fun k => (Sum.inr k : Key))).zip xs))
  | [], _, _, _, _, _, r => r
  | _ :: _, _, _, _, _, .nil, r => r
  | k :: ks, _, _, _, _, .cons r rs, r0 => by
    rw [List.zip_cons_cons, List.foldl_cons, List.map_cons, List.zip_cons_cons]
    exact fold_rep rs (KReps.put r r0)
theorem zip_keys : ∀ (ks : List Str) (xs : List V), (ks.map V.str).zip xs = ((ks.map (fun k => (Sum.inr k : Key))).zip xs).map fun kv => (kV kv.1, kv.2)
  | [], _ => rfl
  | _ :: _, [] => rfl
  | k :: ks, x :: xs => by
    rw [List.map_cons, List.zip_cons_cons, List.map_cons, List.zip_cons_cons, List.map_cons, zip_keys ks xs]
    rfl
theorem s_dic {keys : List (Option Expr)} {values : List Expr} {ks : List Str} (hl : IsL ks ia) (h : PPs X pos keys values (trsOf X.K tabs F ks ia)) (hall : keys.all (·.isSome) = true) (hlen : keys.length = values.length) (h0 : keys ≠ []) (h15 : keys.length ≤ 15) :
    PE X (.Dict keys values pos) (TIe X.K tabs F (.dic ks ia)) := by
  refine PEimp (pe_disp h hall hlen h0 h15) fun σ H Q ⟨φ, ρ, h, S, E, q⟩ p hp => ?_
  have q : Then X.K tabs φ h H ((ev F ia ρ (h ++ [.dic []])).bind fun z => match z.1, z.2[h.length]? with
    | .tup ys, some (.dic []) => if ys.length = ks.length ∧ ks.length ≤ 15 then some (.ref h.length, z.2.set h.length (.dic ((ks.zip ys).foldl (fun kvs p => kvPut (.inr p.1) p.2 kvs) []))) else none
    | _, _ => none) Q := q
  obtain ⟨S1, l1⟩ := S.alloc (c := .dic []) (o := .dK []) hp trivial ⟨[], upd_same, .nil⟩
  obtain ⟨z, h', e, f⟩ := q
  cases e1 : ev F ia ρ (h ++ [.dic []]) with
  | none => rw [e1] at e; cases e
  | some w =>
    obtain ⟨v, h1⟩ := w
    rw [e1] at e
    simp only [Option.bind_some] at e
    cases v <;> first | (simp at e; done) | skip
    rename_i ys
    cases e2 : h1[h.length]? with
    | none => simp only [e2] at e; cases e
    | some c =>
      cases c with
      | lst _ => simp only [e2] at e; cases e
      | dic kvs =>
        cases kvs with
        | cons _ _ => simp only [e2] at e; cases e
        | nil =>
          simp only [e2] at e
          by_cases hc : ys.length = ks.length ∧ ks.length ≤ 15
          · rw [if_pos hc] at e
            cases e
            refine pairs_go hl _ _ _ ys h1 _ S1 (l1.erep E) e1 fun φ2 H2 xs l2 S2 r2 hn => ?_
            have hφ : φ2 h.length = p := (l2.eq h.length (by simp)).trans (if_pos rfl)
            have hH : H2 p = some (.dK []) := by
              obtain ⟨kxs, hx, rk⟩ := S2.dic e2
              rw [hφ] at hx
              cases rk
              exact hx
            refine ⟨hH, (ks.map (fun k => (Sum.inr k : Key))).zip xs, zip_keys ks xs, by rw [List.length_zip, List.length_map]; omega, ?_⟩
            have mu : Stay H2 (upd H2 (φ2 h.length) (.dK (mergeK [] ((ks.map (fun k => (Sum.inr k : Key))).zip xs)))) := .mut (u := .dK []) (by rw [hφ]; exact hH) trivial
            obtain ⟨S3, l3⟩ := S2.set (c := .dic ((ks.zip ys).foldl (fun kvs p => kvPut (.inr p.1) p.2 kvs) [])) (o := .dK (mergeK [] ((ks.map (fun k => (Sum.inr k : Key))).zip xs))) e2 trivial
              ⟨_, upd_same, (fold_rep r2 .nil).mono mu (Nat.le_refl _) fun _ _ => rfl⟩
            have := f φ2 _ (.ref (φ2 h.length)) (l1.trans (l2.trans l3)) S3 (.ref (by rw [List.length_set]; exact Sim.lt e2))
            rw [hφ] at this
            exact this
          · rw [if_neg hc] at e; cases e
/-! ### builtins -/
theorem ev_blt {bb : Blt} {ρ : Env'} {h : IHeap} : ev F (.blt bb ia) ρ h = (ev F ia ρ h).bind fun p => match p.1 with | .tup ys => bltop bb ys p.2 | _ => none := rfl
theorem tcb_go {bb : Blt} {σ : L2.St} {H : Hp} {Q : VK} (hq : TIe X.K tabs F (.blt bb ia) σ H Q) : tCB (rBlt X.K tabs bb) (TIs X.K tabs F ia) σ H Q := by
  obtain ⟨φ, ρ, h, S, E, q⟩ := hq
  rw [ev_blt] at q
  obtain ⟨φ', ρ', h', S', E', vs, h2, e, f⟩ := args_go S E q
  refine ⟨φ', ρ', h', S', E', vs, h2, e, fun φ1 H1 xs l S1 r1 => ?_⟩
  obtain ⟨φ2, ws, h3, S3, r3, E3, l3, q3⟩ := f φ1 H1 xs l S1 r1
  exact ⟨φ2, ws, h3, S3, r3, q3⟩
def bltName : Blt → Str
  | .len => "len" | .int => "int" | .abs => "abs" | .tuple => "tuple" | .list => "list" | .sum => "sum" | .max2 => "max" | .min2 => "min" | .gcd => "gcd" | .repr => "repr" | .isinst => "isinstance" | .sortedI => "sorted"
/-- what the module's names must be -/
def bltMg (mg : Str → Option Value) (bb : Blt) : Prop := if bb = .gcd then mg "gcd" = some (.builtin "math.gcd") else mg (bltName bb) = none
theorem bt_len : bootBuiltins "len" = some (.builtin "len") := by decide +kernel
theorem bt_abs : bootBuiltins "abs" = some (.builtin "abs") := by decide +kernel
theorem bt_sum : bootBuiltins "sum" = some (.builtin "sum") := by decide +kernel
theorem bt_max : bootBuiltins "max" = some (.builtin "max") := by decide +kernel
theorem bt_min : bootBuiltins "min" = some (.builtin "min") := by decide +kernel
theorem bt_repr : bootBuiltins "repr" = some (.builtin "repr") := by decide +kernel
theorem bt_isi : bootBuiltins "isinstance" = some (.builtin "isinstance") := by decide +kernel
theorem bt_sorted : bootBuiltins "sorted" = some (.builtin "sorted") := by decide +kernel
theorem bt_int : bootBuiltins "int" = some (.type "int") := by decide +kernel
theorem bt_tuple : bootBuiltins "tuple" = some (.type "tuple") := by decide +kernel
theorem bt_list : bootBuiltins "list" = some (.type "list") := by decide +kernel
theorem bt_bool : bootBuiltins "bool" = some (.type "bool") := by decide +kernel
theorem bt_str : bootBuiltins "str" = some (.type "str") := by decide +kernel
theorem bt_dict : bootBuiltins "dict" = some (.type "dict") := by decide +kernel
theorem s_blt {p : Pos} {bb : Blt} (hc : X.calm = true) (hg : X.A.guards = some []) (hu : X.A.units + 100 < cLine) (gl : Gl X (bltName bb)) (hm : bltMg X.mg bb) (ha : PA X (e :: es) (TIs X.K tabs F ia)) (hs : (e :: es).all (fun e => !isStar e) = true) :
    PE X (.Call (.Name (bltName bb) p) (e :: es) [] pos) (TIe X.K tabs F (.blt bb ia)) := by
  have cr := cr_blt (tabs := tabs) hc hg hu bb
  have h1 := hs
  simp only [List.all_cons, Bool.and_eq_true, Bool.not_eq_true'] at h1
  have he : starEach (e :: es) X.env = (false, eval e X.env) :: starEach es X.env := star_cons h1.1
  have hpl : (backTo pos (starEach es X.env)).any (·.1) = false := by rw [back_any]; exact star_all h1.2
  cases bb with
  | len => exact PEimp (pe_callB cr gl hm bt_len ha (by decide) (by decide) he hpl) fun _ _ _ h => tcb_go h
  | abs => exact PEimp (pe_callB cr gl hm bt_abs ha (by decide) (by decide) he hpl) fun _ _ _ h => tcb_go h
  | sum => exact PEimp (pe_callB cr gl hm bt_sum ha (by decide) (by decide) he hpl) fun _ _ _ h => tcb_go h
  | max2 => exact PEimp (pe_callB cr gl hm bt_max ha (by decide) (by decide) he hpl) fun _ _ _ h => tcb_go h
  | min2 => exact PEimp (pe_callB cr gl hm bt_min ha (by decide) (by decide) he hpl) fun _ _ _ h => tcb_go h
  | repr => exact PEimp (pe_callB cr gl hm bt_repr ha (by decide) (by decide) he hpl) fun _ _ _ h => tcb_go h
  | isinst => exact PEimp (pe_callB cr gl hm bt_isi ha (by decide) (by decide) he hpl) fun _ _ _ h => tcb_go h
  | sortedI => exact PEimp (pe_callB cr gl hm bt_sorted ha (by decide) (by decide) he hpl) fun _ _ _ h => tcb_go h
  | int => exact PEimp (pe_callTy cr gl hm bt_int ha (by decide) (by decide) he hpl) fun _ _ _ h => tcb_go h
  | tuple => exact PEimp (pe_callTy cr gl hm bt_tuple ha (by decide) (by decide) he hpl) fun _ _ _ h => tcb_go h
  | list => exact PEimp (pe_callTy cr gl hm bt_list ha (by decide) (by decide) he hpl) fun _ _ _ h => tcb_go h
  | gcd => exact PEimp (pe_callBfun cr gl hm ha (by decide) he hpl) fun _ _ _ h => tcb_go h
/-! ### methods of lists -/
def mthName : Mth → Str
  | .append => "append" | .pop => "pop" | .extend => "extend"
theorem ev_mth {m : Mth} {ρ : Env'} {h : IHeap} : ev F (.mth m ia ib) ρ h = (ev F ia ρ h).bind fun p => if isLst p.2 p.1 = true then (ev F ib ρ p.2).bind fun q => (match q.1 with | .tup ys => mthop m p.1 ys q.2 | _ => none) else none := rfl
theorem lst_ty {K : PySem.W.Frag} {φ : Nat → Addr} {h : IHeap} {H : Hp} {a : PV} {x : V} (S : Sim K tabs φ h H) (ra : VRep K φ h.length H a x) (e : isLst h a = true) : tyV K "list" x H := by
  cases ra <;> first | (cases e; done) | skip
  rename_i i hi
  unfold isLst at e
  cases ei : h[i]? with
  | none => simp only [ei] at e; cases e
  | some c =>
    cases c with
    | dic ks => simp only [ei] at e; cases e
    | lst ks =>
      obtain ⟨ys, hx, rs'⟩ := S.lst ei
      exact .inl ⟨rfl, _, SqL.of hx⟩
theorem mth_go {m : Mth} {σ : L2.St} {H : Hp} {Q : VK} (hq : TIe X.K tabs F (.mth m ia ib) σ H Q) :
    TIe X.K tabs F ia σ H fun x H1 => tyV X.K "list" x H1 ∧ TIs X.K tabs F ib σ H1 fun xs H2 => rMth X.K tabs m x xs H2 Q := by
  obtain ⟨φ, ρ, h, S, E, q⟩ := hq
  refine ⟨φ, ρ, h, S, E, ?_⟩
  rw [ev_mth] at q
  refine (seqV E q).imp fun x H1 ⟨φ1, v, h1, l, S1, r1, E1, q1⟩ => ?_
  have q1 : Then X.K tabs φ1 h1 H1 (if isLst h1 v = true then (ev F ib ρ h1).bind fun q => (match q.1 with | .tup ys => mthop m v ys q.2 | _ => none) else none) Q := q1
  by_cases hl : isLst h1 v = true
  · rw [if_pos hl] at q1
    refine ⟨lst_ty S1 r1 hl, ?_⟩
    obtain ⟨φ', ρ', h', S', E', vs, h2, e, f⟩ := args_go S1 E1 q1
    refine ⟨φ1, ρ, h1, S1, E1, ?_⟩
    obtain ⟨z, hz, e0, f0⟩ := q1
    cases e1 : ev F ib ρ h1 with
    | none => rw [e1] at e0; cases e0
    | some p =>
      obtain ⟨w, h2⟩ := p
      rw [e1] at e0
      simp only [Option.bind_some] at e0
      cases w <;> first | (cases e0; done) | skip
      rename_i ys
      refine ⟨ys, h2, rfl, fun φ2 H2 xs l2 S2 r2 => ⟨φ2, v, ys, h2, S2, l2.rep r1, r2, z, hz, e0, fun φ3 H3 y l3 S3 r3 => f0 φ3 H3 y (l2.trans l3) S3 r3⟩⟩
  · rw [if_neg hl] at q1
    obtain ⟨_, _, e0, _⟩ := q1
    cases e0
theorem s_mth {m : Mth} {apos cpos : Pos} (ho : PE X a (TIe X.K tabs F ia)) (ha : PA X (e :: es) (TIs X.K tabs F ib)) (hb : isCall a = false) (hn : (e :: es).length < 30) (hl : (apos.endLine == cpos.line) = true) (hs : (e :: es).all (fun e => !isStar e) = true) :
    PE X (.Call (.Attribute a (mthName m) apos) (e :: es) [] cpos) (TIe X.K tabs F (.mth m ia ib)) := by
  have h1 := hs
  simp only [List.all_cons, Bool.and_eq_true, Bool.not_eq_true'] at h1
  have he : starEach (e :: es) X.env = (false, eval e X.env) :: starEach es X.env := star_cons h1.1
  have hpl : (backTo cpos (starEach es X.env)).any (·.1) = false := by rw [back_any]; exact star_all h1.2
  have hfew : ((backTo cpos (starEach (e :: es) X.env)).all (fun x => !x.1) && (backToKw cpos (keywordEach [] X.env)).all (fun x => x.1.isSome)
      && decide ((e :: es).length + ([] : List Keyword).length + (if ([] : List Keyword).isEmpty then 0 else 1) < 30)) = true := by
    rw [back_all, star_all' hs]
    simp [backToKw, keywordEach]
    simpa using hn
  cases m with
  | append => exact PEimp (pe_bm PySem.F.plainAttrs_list slot_list_append type_list_append (mt_mth (tabs := tabs) .append) ho ha (plain_base hb) hfew hl he hpl) fun _ _ _ h => mth_go h
  | pop => exact PEimp (pe_bm PySem.F.plainAttrs_list PySem.F.slot_list_pop PySem.F.type_list_pop (mt_mth (tabs := tabs) .pop) ho ha (plain_base hb) hfew hl he hpl) fun _ _ _ h => mth_go h
  | extend => exact PEimp (pe_bm PySem.F.plainAttrs_list PySem.F.slot_list_extend PySem.F.type_list_extend (mt_mth (tabs := tabs) .extend) ho ha (plain_base hb) hfew hl he hpl) fun _ _ _ h => mth_go h
theorem s_pop0 {apos cpos : Pos} (ho : PE X a (TIe X.K tabs F ia)) (hb : isCall a = false) (hl : (apos.endLine == cpos.line) = true) : PE X (.Call (.Attribute a (mthName .pop) apos) [] [] cpos) (TIe X.K tabs F (.mth .pop ia .nil)) := by
  refine PEimp (pe_bm0 PySem.F.plainAttrs_list PySem.F.slot_list_pop PySem.F.type_list_pop (mt_mth (tabs := tabs) .pop) ho (plain_base hb) hl) fun σ H Q hq => ?_
  obtain ⟨φ, ρ, h, S, E, q⟩ := mth_go hq
  refine ⟨φ, ρ, h, S, E, q.imp fun x H1 ⟨ty, φ1, ρ1, h1, S1, E1, vs, h2, e, f⟩ => ⟨ty, ?_⟩⟩
  cases e
  exact f φ1 H1 [] .refl S1 .nil
end
end PI
end

section
set_option Elab.async false
set_option linter.all false
set_option maxRecDepth 100000
set_option maxHeartbeats 2000000
namespace PI
open PySem PySem.Spec PyProof.Rows L2

/-! ### defs: their promise where no repr guard is open -/
structure FnG (P : Program) (w : World) (K : PySem.W.Frag) (mg : Str → Option Value) (base : Heap) (k : Nat) (f : Addr) (fd : FuncData) (ps : List Str) (sp : Sp) : Prop where
  len : ∀ vs H Q E, sp vs H Q E → vs.length = ps.length
  run : ∀ (A : Around) (outer : List Env) (s : Shared) (H : Hp) (args : Args) (us : List Value) (vs : List V) (Q : VK) (E : XK), Room k A → A.guards = some [] → Env0 P w K mg base A outer s H → BindsTo s fd args (ps.zip us) → Vals vs us → sp vs H Q E →
    codeAny (model P w) A (.call (.ref f) args) (CR CX0 outer P w H s Q E) s
section
variable {P : Program} {w : World} {K : PySem.W.Frag} {mg : Str → Option Value} {base : Heap} {x qual : Str} {params : Arguments} {body : List Stmt} {scope : Scope} {dvs : List V} {kws : List (Str × V)} {f : Addr} {fd : FuncData} {N ps : List Str} {k : Nat} {sp : Sp}
theorem deep_guards {A : Around} {env : Env} : (A.deeper env).guards = A.guards := rfl
theorem fng_of (F : FunD K x qual params body scope dvs kws f fd) (S : FnScope N ps scope) (len : ∀ vs H Q E, sp vs H Q E → vs.length = ps.length)
    (hbody : ∀ (cdv : Value) (A : Around) (outer : List Env) (s : Shared) (H : Hp) (vs : List V) (Q : VK) (E : XK), Room k (A.deeper (envOfC qual scope s.heap.objs.size f cdv)) → (A.deeper (envOfC qual scope s.heap.objs.size f cdv)).guards = some [] →
      (∃ (oc : Value) (od : Option Addr) (dV kV doc pm : Value) (an : Option Addr) (ct : Value) (osl : Array (Option Value)), K.lookup f = some ⟨oc, od, .func (PySem.W.fnOf x qual params body scope dV kV doc pm an cdv ct), osl⟩) → sp vs H Q E →
      ∃ t, PSs (cxOf CX0 P w K mg base N qual scope f cdv A outer s H E).nox body t ∧ t { nx := fun _ H' => Q .non H', rt := Q } (start N vs) H) : FnG P w K mg base (k + 1) f fd ps sp := by
  obtain ⟨oc, od, dV, kV, doc, pm, an, cdv, ct, osl, rfl, lk, hcd, _, _⟩ := F.ex
  refine ⟨len, fun A outer s H args us vs Q E hr hg e0 hb r hsp => ?_⟩
  have hl := len _ _ _ _ hsp
  have KX : K.In s.heap := e0.mod.kin.keeps fun b o e => (e0.bs b o e).1
  have lim : s.heap.NoLimit := e0.mod.nolimit.keeps fun b o e => (e0.bs b o e).1
  have hkind : ∀ y ∈ ps.zip us, scope.names.lookup y.1 = some .local ∨ (scope.names.lookup y.1 = some .cell ∧ ((cellsFrom (s.heap.objs.size + 1) scope.names []).lookup y.1).isSome = true) := by
    rintro ⟨n, v⟩ hy
    rcases S.par n (List.of_mem_zip hy).1 with q | q
    · exact .inl q
    · exact .inr ⟨q, PySem.W.cellsFrom_some _ _ _ (.inl q)⟩
  refine codeAny_call_function hr.depth (KX _ _ lk) rfl S.co S.gen rfl (PySem.W.codeRec_of KX hcd) (hb _ _ _ _ ?_)
  refine wpAny_newFunctionEnv_cells S.kind hkind fun env he s1 x => ?_
  subst he
  refine ⟨lim.keeps x.toInCall.keep, codeAny_func ?_⟩
  obtain ⟨t, ht, hq⟩ := hbody cdv A outer s H vs Q E (hr.deeper _) hg ⟨oc, od, dV, kV, doc, pm, an, ct, osl, lk⟩ hsp
  have I := inv_start (CX := CX0) (E := E) (qual := qual) (f := f) (cd := cdv) (A := A) (outer := outer) S hr.hd e0 hl r x
  refine wpAny_mono ((PSs.nox ht).run [] s1 (start N vs) H _ I hq) (fun fl s' hs => ?_) fun e s' hs => hs
  cases fl with
  | ret u =>
    obtain ⟨v, σ', H', J, rv, q⟩ := hs
    exact ⟨v, H', J.os, J.bare, J.base, J.hok, rv, q⟩
  | next =>
    obtain ⟨σ', H', J, q⟩ := hs
    exact ⟨V.non, H', J.os, J.bare, J.base, J.hok, rfl, q⟩
  | brk =>
    obtain ⟨_, _, _, q⟩ := hs
    exact False.elim q
  | cont =>
    obtain ⟨_, _, _, q⟩ := hs
    exact False.elim q
end
section
variable {X : Cx} {k : Nat} {f : Addr} {fd : FuncData} {ps ks : List Str} {sp : Sp} {x : Str} {p pos : Pos} {e : Expr} {es : List Expr} {kws : List Keyword} {t tk : TA} {g : List Value → List Value → List Value} {gV : List V → List V → List V}
theorem call_fin {pins : List (Addr × Obj)} {σ : L2.St} {H : Hp} {s s' : Shared} {Q : VK} {E : XK} {r : Result} (I : Inv X pins σ H s) (h : CR CX0 X.stack X.prog X.w H s Q E r s') : (match r with | .ok (.ret u) => EP X pins σ Q u s' | .ok _ => False | .error e => X.xe e s') := by
  cases r with
  | error e => exact h.elim
  | ok fl =>
    cases fl with
    | ret u => exact I.after h
    | next => exact h
    | brk => exact h
    | cont => exact h
theorem run_g {pins : List (Addr × Obj)} {σ : L2.St} {H : Hp} {s : Shared} {Q : VK} {us ws : List Value} {vs zs : List V} (F : FnG X.prog X.w X.K X.mg X.base k f fd ps sp) (hr : Room k X.A) (hg : X.A.guards = some []) (hb : KBinds X.K fd ps ks g gV)
    (I : Inv X pins σ H s) (r : Vals vs us) (rz : Vals zs ws) (h : sp (gV vs zs) H Q E0) : wpAny (model X.prog X.w) X.A (call (.ref f) us (ks.zip ws)) (EP X pins σ Q) X.xe s := by
  have r2 := hb.rel r rz
  have hl : (g us ws).length = ps.length := by rw [← r2.length]; exact F.len _ _ _ _ h
  refine wpAny_call (codeAny_mono (F.run X.A X.stack s H ⟨us, ks.zip ws⟩ (g us ws) (gV vs zs) Q E0 hr hg I.env0 (hb.to s us ws I.kIn hl) r2 h) fun r s' hq => ?_)
  have q := call_fin I hq
  cases r with
  | error e => exact q
  | ok fl => cases fl <;> exact q
theorem run_g0 {pins : List (Addr × Obj)} {σ : L2.St} {H : Hp} {s : Shared} {Q : VK} {us : List Value} {vs : List V} (F : FnG X.prog X.w X.K X.mg X.base k f fd ps sp) (hr : Room k X.A) (hg : X.A.guards = some []) (hb : Binds X.K fd ps [])
    (I : Inv X pins σ H s) (r : Vals vs us) (h : sp vs H Q E0) : wpAny (model X.prog X.w) X.A (call (.ref f) us) (EP X pins σ Q) X.xe s := by
  have hl : (us ++ []).length = ps.length := by rw [List.append_nil, ← r.length]; exact F.len _ _ _ _ h
  have b := hb s us I.kIn hl
  rw [List.append_nil] at b
  refine wpAny_call (codeAny_mono (F.run X.A X.stack s H ⟨us, []⟩ us vs Q E0 hr hg I.env0 b r h) fun r s' hq => ?_)
  have q := call_fin I hq
  cases r with
  | error e => exact q
  | ok fl => cases fl <;> exact q
theorem pe_g (F : FnG X.prog X.w X.K X.mg X.base k f fd ps sp) (hr : Room k X.A) (hq : X.A.guards = some []) (hg : Gl X x) (hm : X.mg x = some (.ref f)) (hk : PySem.W.keepIn X.K (.ref f) = true) (hb : Binds X.K fd ps [])
    (ha : PA X (e :: es) t) (hdb : (x == ("__debug__" : Str)) = false) (hs : (e :: es).all (fun e => !isStar e) = true) : PE X (.Call (.Name x p) (e :: es) [] pos) (fun σ H Q => t σ H fun vs H1 => sp vs H1 Q E0) := by
  have h1 := hs
  simp only [List.all_cons, Bool.and_eq_true, Bool.not_eq_true'] at h1
  refine ⟨fun pins s σ H Q I h => ?_⟩
  refine wpAny_Call_Name_kw (ld_glob I hg hm ?_ hdb)
  exact PySem.W.callWith_K (h₀ := X.base) I.ok.mod.kin hk (thn (ha.run pos pins s σ H _ I h) fun us s1 ⟨vs, H1, I1, r, q⟩ => ⟨I1.kIn, run_g0 F hr hq hb I1 r q⟩) (star_cons h1.1) (by rw [back_any]; exact star_all h1.2)
theorem pe_g0 (F : FnG X.prog X.w X.K X.mg X.base k f fd ps sp) (hr : Room k X.A) (hq : X.A.guards = some []) (hg : Gl X x) (hm : X.mg x = some (.ref f)) (hk : PySem.W.keepIn X.K (.ref f) = true) (hb : Binds X.K fd ps [])
    (hdb : (x == ("__debug__" : Str)) = false) : PE X (.Call (.Name x p) [] [] pos) (fun σ H Q => sp [] H Q E0) := by
  refine ⟨fun pins s σ H Q I h => ?_⟩
  refine wpAny_Call_Name_kw (ld_glob I hg hm ?_ hdb)
  exact PySem.W.callWith_K0 I.kIn hk (run_g0 (us := []) F hr hq hb I .nil h)
theorem pe_gk (F : FnG X.prog X.w X.K X.mg X.base k f fd ps sp) (hr : Room k X.A) (hq : X.A.guards = some []) (hg : Gl X x) (hm : X.mg x = some (.ref f)) (hk : PySem.W.keepIn X.K (.ref f) = true) (hb : KBinds X.K fd ps ks g gV)
    (ha : PA X (e :: es) t) (hkw : PK X kws tk) (hall : (backToKw pos (keywordEach kws X.env)).all (·.1.isSome) = true) (hks : (backToKw pos (keywordEach kws X.env)).filterMap (·.1) = ks)
    (hdb : (x == ("__debug__" : Str)) = false) (hs : (e :: es).all (fun e => !isStar e) = true) : PE X (.Call (.Name x p) (e :: es) kws pos) (fun σ H Q => t σ H fun vs H1 => tk σ H1 fun zs H2 => sp (gV vs zs) H2 Q E0) := by
  have h1 := hs
  simp only [List.all_cons, Bool.and_eq_true, Bool.not_eq_true'] at h1
  refine ⟨fun pins s σ H Q I h => ?_⟩
  refine wpAny_Call_Name_kw (ld_glob I hg hm ?_ hdb)
  refine PySem.W.callWith_KW (h₀ := X.base) I.ok.mod.kin hk hall (thn (ha.run pos pins s σ H _ I h) fun us s1 ⟨vs, H1, I1, r, q⟩ => ?_) ?_ (star_cons h1.1)
  · refine thn (hkw.run pos pins s1 σ H1 _ I1 q) fun ws s2 ⟨zs, H2, I2, rz, q2⟩ => ⟨I2.kIn, ?_⟩
    rw [hks]
    exact run_g F hr hq hb I2 r rz q2
  · rw [back_any, star_all hs, Bool.false_or]
    have : ∀ l : List (Option Str × Sem Value), l.all (·.1.isSome) = true → l.any (·.1.isNone) = false := fun l h => by
      induction l with
      | nil => rfl
      | cons y ys ih =>
        simp only [List.all_cons, Bool.and_eq_true] at h
        rw [List.any_cons, ih h.2]
        cases h3 : y.1 with
        | none => rw [h3] at h; cases h.1
        | some _ => rfl
    exact this _ hall
end
end PI
end

section
set_option Elab.async false
set_option linter.all false
set_option maxRecDepth 100000
set_option maxHeartbeats 4000000
/-! zip of a list and a tuple, either way round -/
namespace PI
open PySem PySem.Spec PyProof.Rows L2
/-- xs at a: a list (true) or a tuple -/
def SqB (K : PySem.W.Frag) (H : Hp) (k : Bool) (a : Addr) (xs : List V) : Prop := if k = true then SqL K H a xs else SqT K H a xs
def SeqB (h : Heap) (k : Bool) (a : Addr) (vs : Array Value) : Prop := if k = true then h.IsList a vs else h.IsTuple a vs
def IterB (h : Heap) (k : Bool) (it a : Addr) (i : Nat) : Prop := if k = true then h.IsListIter it a i else h.IsTupleIter it a i
def ItzM (K : PySem.W.Frag) (k1 k2 : Bool) (a b : Addr) : It :=
  ⟨fun i H => ∃ xs ys x y, SqB K H k1 a xs ∧ SqB K H k2 b ys ∧ xs[i]? = some x ∧ ys[i]? = some y,
    fun i H v H' => ∃ T x y, v = V.ref T ∧ H T = none ∧ H' = upd H T (.tup [x, y]) ∧ (∀ xs, SqB K H k1 a xs → xs[i]? = some x) ∧ ∀ ys, SqB K H k2 b ys → ys[i]? = some y,
    fun i H => ∃ xs ys, SqB K H k1 a xs ∧ SqB K H k2 b ys ∧ i ≤ xs.length ∧ i ≤ ys.length ∧ (i = xs.length ∨ i = ys.length)⟩
theorem drawsB {P : Program} {w : World} {A : Around} (hh : A.handled = none) (k : Bool) (it a : Addr) (ne : a ≠ it) (vs : Array Value) :
    Draws P w A it [it, a] vs.size (fun i v => vs[i]? = some v) (fun i h => IterB h k it a i ∧ SeqB h k a vs) := by
  cases k
  · exact Draws.tuple hh it a ne vs
  · exact Draws.list hh it a ne vs
section
variable {X : Cx} {pins : List (Addr × Obj)} {s : Shared} {σ : L2.St} {H : Hp}
theorem sqB_at (I : Inv X pins σ H s) {k : Bool} {a : Addr} {xs : List V} (q : SqB X.K H k a xs) : ∃ vs : List Value, Vals xs vs ∧ SeqB s.heap k a vs.toArray ∧ a < s.heap.objs.size := by
  cases k
  · obtain ⟨vs, r, p, _⟩ := I.tuple q
    obtain ⟨o, ho, _⟩ := id p
    exact ⟨vs, r, p, Heap.lt_size ho⟩
  · obtain ⟨vs, r, p, _⟩ := I.list q
    exact ⟨vs, r, p.isList, p.lt⟩
theorem sqB_inj (I : Inv X pins σ H s) {k : Bool} {a : Addr} {xs ys : List V} (p : SqB X.K H k a xs) (q : SqB X.K H k a ys) : xs = ys := by
  cases k
  · exact I.tuple_inj p q
  · exact I.list_inj p q
end
theorem iterB_at {h h' : Heap} {k : Bool} {it a : Addr} {i : Nat} (p : IterB h k it a i) (e : ∀ o, h.get? it = some o → h'.get? it = some o) : IterB h' k it a i := by
  cases k
  · exact Heap.IsTupleIter.at p e
  · exact Heap.IsListIter.at p e
theorem iterB_ob {h : Heap} {k : Bool} {it a : Addr} {i : Nat} (p : IterB h k it a i) : ∃ o, h.get? it = some o ∧ ∀ v, o.data ≠ .cell v := by
  cases k
  · obtain ⟨o, e, _, d⟩ := p; exact ⟨o, e, fun v q => by rw [d] at q; cases q⟩
  · obtain ⟨o, e, _, d⟩ := p; exact ⟨o, e, fun v q => by rw [d] at q; cases q⟩
/-- the objects of the walk -/
def ZipM (z TI TO i1 i2 a b : Addr) (k1 k2 : Bool) (i : Nat) (h : Heap) : Prop :=
  IsZip h z TI TO .none ∧ IsTupOf2 h TI (.ref i1) (.ref i2) ∧ (∃ x y, IsTupOf2 h TO x y) ∧ IterB h k1 i1 a i ∧ IterB h k2 i2 b i
theorem turn_zipM {P : Program} {w : World} {K : PySem.W.Frag} {elts : List Expr} {kk : Nat} {tpos : Pos} {k1 k2 : Bool} {a b z TI TO i1 i2 : Addr} (D : ZipSep2 z TI TO i1 i2 [i1, a] [i2, b]) (n1 : a ≠ i1) (n2 : b ≠ i2) :
    Turn P w K (.Tuple elts kk tpos) (ItzM K k1 k2 a b) [z, TI, TO, i1, i2] z (ZipM z TI TO i1 i2 a b k1 k2) where
  mem := by simp
  obj := fun i h ⟨hz, hI, ⟨x, y, hO⟩, h1, h2⟩ c hc => by
    simp only [List.mem_cons, List.not_mem_nil, or_false] at hc
    rcases hc with q | q | q | q | q <;> subst q
    · exact ⟨_, hz, fun v q => by cases q⟩
    · exact ⟨_, hI, fun v q => by cases q⟩
    · exact ⟨_, hO, fun v q => by cases q⟩
    · exact iterB_ob h1
    · exact iterB_ob h2
  keep := fun i h h' ⟨hz, hI, ⟨x, y, hO⟩, h1, h2⟩ k =>
    ⟨k z (by simp) _ hz, k TI (by simp) _ hI, ⟨x, y, k TO (by simp) _ hO⟩, iterB_at h1 fun o q => k i1 (by simp) o q, iterB_at h2 fun o q => k i2 (by simp) o q⟩
  item := by
    intro X eP ew eK hc i pins s σ H E I hf ⟨hz, hI, ⟨x0, y0, hO⟩, h1, h2⟩ ⟨xs, ys, x, y, qx, qy, ex, ey⟩
    subst eP ew eK
    obtain ⟨vs, r1, p1, _⟩ := sqB_at I qx
    obtain ⟨us, r2, p2, _⟩ := sqB_at I qy
    obtain ⟨v, ev, rv⟩ := r1.get ex
    obtain ⟨u, eu, ru⟩ := r2.get ey
    have hh : X.A.in1.handled = none := by simp [I.ok.hd hc]
    have zl : z < s.heap.objs.size := Heap.lt_size hz
    refine wpAny_pyNext_zipD2_item D (drawsB hh k1 i1 a n1 vs.toArray) (drawsB hh k2 i2 b n2 us.toArray) hz hI hO ⟨h1, p1⟩ ⟨h2, p2⟩
      (by simpa using (List.getElem?_eq_some_iff.mp ev).1) (by simpa using (List.getElem?_eq_some_iff.mp eu).1) fun v' u' h' tk e1 e2 hz' hO' j1 j2 hT hs hk => ?_
    have e1 : v' = v := by
      have : vs.toArray[i]? = some v' := e1
      rw [List.getElem?_toArray, ev] at this
      exact (Option.some.inj this).symm
    have e2 : u' = u := by
      have : us.toArray[i]? = some u' := e2
      rw [List.getElem?_toArray, eu] at this
      exact (Option.some.inj this).symm
    subst e1 e2
    refine ⟨_, rfl, wpAny_letOwnedTupleGo_zip (s := { s with heap := h', toks := tk }) hz' fun h2' hz2 sb => ?_⟩
    have at2 : ∀ c o, c ≠ z → h'.get? c = some o → h2'.get? c = some o := fun c o n q => (sb.2 c n).trans q
    have hT2 := at2 _ _ (Nat.ne_of_gt zl) hT
    have new : ObjOk X.prog X.w (upd H s.heap.objs.size (.tup [x, y])) h2' s.heap.objs.size (.tup [x, y]) := ⟨show 2 ≤ sizeLine by decide, _, .cons rv (.cons ru .nil), ⟨_, hT2, rfl, _, rfl⟩⟩
    have I1 : Inv X pins σ (upd H s.heap.objs.size (.tup [x, y])) { s with heap := h2', toks := tk } :=
      I.turnedNew (ch := [z, TI, TO, i1, i2]) (fun c o hb q => at2 c o (fun e => hb (by simp [e])) (hk c o (fun e => hb (by simp [e])) (fun e => hb (by simp [e])) (fun e => hb (by simp [e])) (fun e => hb (by simp [e])) q)) hf (Nat.le_refl _) new
    have lt : ∀ c ∈ [z, TI, TO, i1, i2], c < s.heap.objs.size := fun c hm => by
      simp only [List.mem_cons, List.not_mem_nil, or_false] at hm
      rcases hm with q | q | q | q | q <;> subst q
      · exact zl
      · exact Heap.lt_size hI
      · exact Heap.lt_size hO
      · obtain ⟨o, e, _⟩ := iterB_ob h1; exact Heap.lt_size e
      · obtain ⟨o, e, _⟩ := iterB_ob h2; exact Heap.lt_size e
    exact ⟨.ref s.heap.objs.size, _, I1, rfl, ⟨_, x, y, rfl, I.hok.fresh (Nat.le_refl _), rfl, fun l hl => by rw [sqB_inj I hl qx]; exact ex, fun l hl => by rw [sqB_inj I hl qy]; exact ey⟩,
      ⟨hz2, at2 _ _ D.TIz (hk _ _ D.TIz D.TITO D.TIi1 D.TIi2 hI), ⟨_, _, at2 _ _ D.TOz hO'⟩, iterB_at j1.1 fun o q => at2 _ o (Ne.symm D.zi1) q, iterB_at j2.1 fun o q => at2 _ o (Ne.symm D.zi2) q⟩,
      fun c hm => by rw [upd_ne (Nat.ne_of_lt (lt c hm))]; exact (hf c hm).1⟩
  done := by
    intro X eP ew eK hc i pins s σ H E I hf ⟨hz, hI, ⟨x0, y0, hO⟩, h1, h2⟩ ⟨xs, ys, qx, qy, l1, l2, hend⟩
    subst eP ew eK
    obtain ⟨vs, r1, p1, _⟩ := sqB_at I qx
    obtain ⟨us, r2, p2, _⟩ := sqB_at I qy
    have hh : X.A.in1.handled = none := by simp [I.ok.hd hc]
    have q1 := r1.length
    have q2 := r2.length
    refine wpAny_pyNext_zipD2_end D (drawsB hh k1 i1 a n1 vs.toArray) (drawsB hh k2 i2 b n2 us.toArray) hz hI hO ⟨h1, p1⟩ ⟨h2, p2⟩ (by simp; omega) (by simp; omega) (by simp; omega) fun h' tk hk => ⟨rfl, ?_⟩
    exact I.turnedL (ch := [z, TI, TO, i1, i2]) (fun c o hb q => hk c o (fun e => hb (by simp [e])) (fun e => hb (by simp [e])) (fun e => hb (by simp [e])) (fun e => hb (by simp [e])) q) hf
  self := fun A i s Q E st h => wpAny_pyIter_zip st.1 h
theorem beginsB (k : Bool) (a : Addr) (vs : Array Value) : ∃ o : Obj, Begins (.ref a) o (fun h => SeqB h k a vs) ∧ ∀ {h : Heap} {it : Addr}, h.get? it = some o → IterB h k it a 0 := by
  cases k
  · exact ⟨_, begins_tuple a vs, fun e => ⟨_, e, rfl, rfl⟩⟩
  · exact ⟨_, begins_list a vs, fun e => ⟨_, e, rfl, rfl⟩⟩
def zipIt (K : PySem.W.Frag) (k1 k2 : Bool) (a b : Addr) : It :=
  match k1, k2 with
  | true, true => Itz K a b
  | false, false => RZ.ItzT K a b
  | true, false => ItzM K true false a b
  | false, true => ItzM K false true a b
def iZipM (K : PySem.W.Frag) (ta : TA) : TI := fun σ H R => ta σ H fun vs H1 => ∃ k1 k2 a b xs ys, vs = [.ref a, .ref b] ∧ SqB K H1 k1 a xs ∧ SqB K H1 k2 b ys ∧ R (zipIt K k1 k2 a b) H1
theorem pi_zipM {X : Cx} {e e2 : Expr} {ta : TA} {p pos tpos : Pos} {elts : List Expr} {kk : Nat} (hg : Gl X "zip") (hm : X.mg "zip" = none) (ha : PA X [e, e2] ta)
    (hs : starEach [e, e2] X.env = (false, eval e X.env) :: starEach [e2] X.env) (hpl : (backTo pos (starEach [e2] X.env)).any (·.1) = false) : L2.PI X (.Tuple elts kk tpos) (.Call (.Name "zip" p) [e, e2] [] pos) (iZipM X.K ta) := by
  refine ⟨fun pins s σ H R I h => Call_ (ld_blt I hg hm PyProof.Rows.boot_zip (PyProof.Rows.callWith_type1 (thn (ha.run pos pins s σ H _ I h) fun us s1 ⟨vs, H1, I1, r1, k1, k2, a, b, xs, ys, ex, q1, q2, q⟩ => ?_) hs hpl))⟩
  subst ex
  cases r1 with
  | cons ra rr => cases rr with
    | cons rb rr =>
      cases rr
      cases ra
      cases rb
      obtain ⟨vs, _, p1, la⟩ := sqB_at I1 q1
      obtain ⟨us, _, p2, lb⟩ := sqB_at I1 q2
      obtain ⟨o1, B1, it1⟩ := beginsB k1 a vs.toArray
      obtain ⟨o2, B2, it2⟩ := beginsB k2 b us.toArray
      refine zip_begins2 B1 B2 p1 p2 fun h' hz hI hO g1 g2 hsz hk => wpAny_pyIter_zip hz ?_
      have sep := zip_sep2 (N := s1.heap.objs.size) (fp1 := [a]) (fp2 := [b]) (fun c hc => by rw [List.mem_singleton.mp hc]; exact la) fun c hc => by rw [List.mem_singleton.mp hc]; exact lb
      have free : ∀ c ∈ [s1.heap.objs.size + 4, s1.heap.objs.size + 2, s1.heap.objs.size + 3, s1.heap.objs.size, s1.heap.objs.size + 1], FpOk X pins H1 c := fun c hm => by
        have le : s1.heap.objs.size ≤ c := by
          simp only [List.mem_cons, List.not_mem_nil, or_false] at hm
          rcases hm with z | z | z | z | z <;> rw [z] <;> first | exact Nat.le_refl _ | exact Nat.le_add_right _ _
        exact I1.fpOk le (I1.hok.fresh le)
      have I2 := I1.kept (t' := s1.toks) hk
      have ap := PySem.W.ktu_apart s1.heap.objs.size a b la lb
      cases k1 <;> cases k2
      · exact ⟨_, _, _, _, H1, rfl, I2, RZ.turn_zipT ap, ⟨hz, hI, ⟨_, _, hO⟩, it1 g1, it2 g2⟩, free, q⟩
      · exact ⟨_, _, _, _, H1, rfl, I2, turn_zipM sep (Nat.ne_of_lt la) (Nat.ne_of_lt (Nat.lt_succ_of_lt lb)), ⟨hz, hI, ⟨_, _, hO⟩, it1 g1, it2 g2⟩, free, q⟩
      · exact ⟨_, _, _, _, H1, rfl, I2, turn_zipM sep (Nat.ne_of_lt la) (Nat.ne_of_lt (Nat.lt_succ_of_lt lb)), ⟨hz, hI, ⟨_, _, hO⟩, it1 g1, it2 g2⟩, free, q⟩
      · exact ⟨_, _, _, _, H1, rfl, I2, turn_zip ap, ⟨hz, hI, ⟨_, _, hO⟩, it1 g1, it2 g2⟩, free, q⟩
end PI
end

section
set_option Elab.async false
set_option linter.all false
set_option maxRecDepth 100000
set_option maxHeartbeats 4000000
/-! enumerate of a list or a tuple -/
namespace PI
open PySem PySem.Spec PyProof.Rows L2
abbrev enumObj (n : Nat) : Obj := { cls := .type "enumerate", data := .fields #[.none, .bool false, .ref n, rawInt 0, .none, .none] }
theorem enum_meets {v : Value} {o : Obj} {H : Heap → Prop} (B : Begins v o H) :
    Meets (Builtin.«enumerate.__new__» ⟨[.type "enumerate", v], []⟩) (fun _ R s => H s.heap ∧ R (.ok (.ret (.ref (s.heap.push o).objs.size))) { s with heap := (s.heap.push o).push (enumObj s.heap.objs.size) }) :=
  .of_wp fun P w A R s ⟨h1, hR⟩ => by
    obtain ⟨hp, g, d, tk, os⟩ := s
    have sub := sub_enumerate
    have it : ∀ {A' : Around} {E Q : Value → Shared → Prop}, Q (.ref hp.objs.size) ⟨hp.push o, g, d, tk, os⟩ → wpAny (model P w) A' (pyIter v) Q E ⟨hp, g, d, tk, os⟩ := fun q => B.iter _ _ _ _ ⟨hp, g, d, tk, os⟩ _ h1 q
    wp_walk using it
    refine wpAny_stack_any fun st => wpAny_pure ?_
    split
    · rename_i cl _ _ _ _ _
      cases (cl == Value.type "enumerate") <;> (wp_walk using it; exact ⟨_, rfl, hR⟩)
    · wp_walk using it
      exact ⟨_, rfl, hR⟩
theorem call_enum {P : Program} {w : World} {A : Around} {E : Value → Shared → Prop} {s : Shared} {v : Value} {o : Obj} {H : Heap → Prop} {Q : Value → Shared → Prop} (B : Begins v o H) (h1 : H s.heap)
    (h : ∀ h', IsEnum h' (s.heap.objs.size + 1) s.heap.objs.size 0 .none → h'.get? s.heap.objs.size = some o → (∀ b u, s.heap.get? b = some u → h'.get? b = some u) → Q (.ref (s.heap.objs.size + 1)) { s with heap := h' }) :
    wpAny (model P w) A (call (.type "enumerate") [v]) Q E s := by
  refine callType_new F.called_enumerate (by decide) (F.typeCall_enumerate_1 _) (F.newCall_enumerate_1 _) (fun ob => F.args_object_init_2 ob _) F.entry_enumerate_new (enum_meets B) ⟨h1, ?_⟩
  have sz : (s.heap.push o).objs.size = s.heap.objs.size + 1 := Heap.size_push ..
  have e1 : ((s.heap.push o).push (enumObj s.heap.objs.size)).get? (s.heap.objs.size + 1) = some (enumObj s.heap.objs.size) := by rw [← sz]; exact Heap.get?_push_size _ rfl
  show _ ∧ _
  rw [sz]
  exact ⟨⟨_, e1, rfl⟩, h _ e1 (Heap.get?_push_of_some _ (Heap.get?_push_size _ B.free)) fun b u q => Heap.get?_push_of_some _ (Heap.get?_push_of_some _ q)⟩
/-- the tuple at a, its items with their places -/
def IteT (K : PySem.W.Frag) (a : Addr) : It :=
  ⟨fun i H => ∃ (xs : List V) (x : V), SqT K H a xs ∧ xs[i]? = some x,
    fun i H v H' => ∃ T x, v = V.ref T ∧ H T = none ∧ H' = upd H T (.tup [.int (i : Nat), x]) ∧ ∀ xs, SqT K H a xs → xs[i]? = some x,
    fun i H => ∃ xs : List V, SqT K H a xs ∧ i = xs.length⟩
theorem turn_enumT {P : Program} {w : World} {K : PySem.W.Frag} {elts : List Expr} {kk : Nat} {tpos : Pos} {a e it : Addr} (ne : e ≠ it) (ae : a ≠ e) (ai : a ≠ it) :
    Turn P w K (.Tuple elts kk tpos) (IteT K a) [e, it] e (fun i h => (∃ old, IsEnum h e it ((i : Nat) : Int) old) ∧ IterB h false it a i) where
  mem := by simp
  obj := fun i h ⟨⟨old, he⟩, hi⟩ b hb => by
    simp only [List.mem_cons, List.not_mem_nil, or_false] at hb
    rcases hb with q | q <;> subst q
    · exact ⟨_, he, fun v q => by cases q⟩
    · exact iterB_ob hi
  keep := fun i h h' ⟨⟨old, he⟩, hi⟩ k => ⟨⟨old, k e (by simp) _ he⟩, iterB_at hi fun o q => k it (by simp) o q⟩
  item := by
    intro X eP ew eK hc i pins s σ H E I hf ⟨⟨old, he⟩, hi⟩ ⟨xs, x, qx, ex⟩
    subst eP ew eK
    obtain ⟨vs, r1, p1, _⟩ := sqB_at (k := false) I qx
    obtain ⟨v, ev, rv⟩ := r1.get ex
    have hh : X.A.in1.handled = none := by simp [I.ok.hd hc]
    have el : e < s.heap.objs.size := Heap.lt_size he
    have il : it < s.heap.objs.size := by obtain ⟨o, q, _⟩ := iterB_ob hi; exact Heap.lt_size q
    refine wpAny_pyNext_enum_itemC (drawsB hh false it a ai vs.toArray) he ⟨hi, p1⟩ (by simpa using (List.getElem?_eq_some_iff.mp ev).1) ne (by simp [ne, Ne.symm ae]) fun v' h' tk e1 ho j hT hs hk => ?_
    have e1 : v' = v := by
      have : vs.toArray[i]? = some v' := e1
      rw [List.getElem?_toArray, ev] at this
      exact (Option.some.inj this).symm
    subst e1
    refine ⟨_, rfl, wpAny_letOwnedTupleGo_enum (s := { s with heap := h', toks := tk + 1 }) ho fun h2 he2 sb => ?_⟩
    have at2 : ∀ c o, c ≠ e → h'.get? c = some o → h2.get? c = some o := fun c o n q => (sb.2 c n).trans q
    have hT2 := at2 _ _ (Nat.ne_of_gt el) hT
    have new : ObjOk X.prog X.w (upd H s.heap.objs.size (.tup [.int (i : Nat), x])) h2 s.heap.objs.size (.tup [.int (i : Nat), x]) := ⟨show 2 ≤ sizeLine by decide, _, .cons ⟨tk, rfl⟩ (.cons rv .nil), ⟨_, hT2, rfl, _, rfl⟩⟩
    have I1 : Inv X pins σ (upd H s.heap.objs.size (.tup [.int (i : Nat), x])) { s with heap := h2, toks := tk + 1 } :=
      I.turnedNew (ch := [e, it]) (fun c o hb q => at2 c o (fun z => hb (by simp [z])) (hk c o (fun z => hb (by simp [z])) (fun z => hb (by simp [z])) q)) hf (Nat.le_refl _) new
    refine ⟨.ref s.heap.objs.size, _, I1, rfl, ⟨_, x, rfl, I.hok.fresh (Nat.le_refl _), rfl, fun l hl => by rw [I.tuple_inj hl qx]; exact ex⟩, ⟨⟨v', ?_⟩, iterB_at j.1 fun o q => at2 _ o (Ne.symm ne) q⟩, fun c hm => ?_⟩
    · have e1 : ((i + 1 : Nat) : Int) = (i : Int) + 1 := by omega
      rw [e1]
      exact he2
    · have lt : c < s.heap.objs.size := by
        simp only [List.mem_cons, List.not_mem_nil, or_false] at hm
        rcases hm with q | q <;> subst q <;> assumption
      rw [upd_ne (Nat.ne_of_lt lt)]
      exact (hf c hm).1
  done := by
    intro X eP ew eK hc i pins s σ H E I hf ⟨⟨old, he⟩, hi⟩ ⟨xs, qx, en⟩
    subst eP ew eK
    obtain ⟨vs, r1, p1, _⟩ := sqB_at (k := false) I qx
    have hh : X.A.in1.handled = none := by simp [I.ok.hd hc]
    have l1 := r1.length
    refine wpAny_pyNext_enum_endD (drawsB hh false it a ai vs.toArray) he ⟨by rw [show vs.toArray.size = i by simp; omega]; exact hi, p1⟩ fun h' hx => ⟨rfl, ?_⟩
    exact I.turnedL (t' := s.toks) (ch := [e, it]) (fun c o hb q => hx c o (fun z => hb (by simp [z])) q) hf
  self := fun A i s Q E st h => by
    obtain ⟨⟨old, he⟩, _⟩ := st
    exact wpAny_pyIter_enum he h
def iEnumX (K : PySem.W.Frag) (ta : TA) : TI := fun σ H R => ta σ H fun vs H1 => ∃ k a xs, vs = [.ref a] ∧ SqB K H1 k a xs ∧ R (if k = true then Ite K a else IteT K a) H1
theorem pi_enumX {X : Cx} {e : Expr} {ta : TA} {p pos tpos : Pos} {elts : List Expr} {kk : Nat} (hg : Gl X "enumerate") (hm : X.mg "enumerate" = none) (ha : PA X [e] ta) (hs : starEach [e] X.env = [(false, eval e X.env)]) :
    L2.PI X (.Tuple elts kk tpos) (.Call (.Name "enumerate" p) [e] [] pos) (iEnumX X.K ta) := by
  refine ⟨fun pins s σ H R I h => Call_ (ld_blt I hg hm PyProof.Rows.boot_enumerate (PyProof.Rows.callWith_type1 (thn (ha.run pos pins s σ H _ I h) fun us s1 ⟨vs, H1, I1, r1, k, a, xs, ex, q1, q⟩ => ?_) hs rfl))⟩
  subst ex
  cases r1 with
  | cons ra rr =>
    cases rr
    cases ra
    obtain ⟨vs, _, p1, la⟩ := sqB_at I1 q1
    have free : ∀ c ∈ [s1.heap.objs.size + 1, s1.heap.objs.size], FpOk X pins H1 c := fun c hm => by
      have le : s1.heap.objs.size ≤ c := by
        simp only [List.mem_cons, List.not_mem_nil, or_false] at hm
        rcases hm with z | z <;> rw [z] <;> first | exact Nat.le_refl _ | exact Nat.le_add_right _ _
      exact I1.fpOk le (I1.hok.fresh le)
    obtain ⟨o1, B1, it1⟩ := beginsB k a vs.toArray
    refine call_enum B1 p1 fun h' he g1 hk => wpAny_pyIter_enum he ?_
    have I2 := I1.kept (t' := s1.toks) hk
    cases k
    · exact ⟨_, _, _, _, H1, rfl, I2, turn_enumT (Nat.succ_ne_self _) (Nat.ne_of_lt (Nat.lt_succ_of_lt la)) (Nat.ne_of_lt la), ⟨⟨.none, he⟩, it1 g1⟩, free, q⟩
    · exact ⟨_, _, _, _, H1, rfl, I2, turn_enum a (s1.heap.objs.size + 1) s1.heap.objs.size, ⟨⟨.none, he⟩, it1 g1, Nat.succ_ne_self _⟩, free, q⟩
end PI
end

section
set_option Elab.async false
set_option linter.all false
set_option maxRecDepth 100000
set_option maxHeartbeats 2000000
namespace PI
open PySem PySem.Spec PyProof.Rows L2

/-! ### walks -/
section
variable (K : PySem.W.Frag) (tabs : List Addr) (F : Nat → List PV → IHeap → Option (PV × IHeap))
/-- J walks what the source says, whatever is done between -/
def Wk (J : It) (s : Src) (φ1 : Nat → Addr) (h1 : IHeap) (H1 : Hp) : Prop := ∀ (φ' : Nat → Addr) (h' : IHeap) (H' : Hp) (j : Nat), Le φ1 h1 H1 φ' h' H' → Sim K tabs φ' h' H' →
  (srcAt s h' j = some none → J.stop j H') ∧ (∀ x, srcAt s h' j = some (some x) → J.go j H' ∧ ∀ v H'', J.yld j H' v H'' → Le φ' h' H' φ' h' H'' ∧ Sim K tabs φ' h' H'' ∧ VRep K φ' h'.length H'' x v)
def TIi (k : IK) (src : IE) : TI := fun σ H R => ∃ φ ρ h, Sim K tabs φ h H ∧ ERep K φ h.length H ρ σ ∧ ∃ y h1 s, ev F src ρ h = some (y, h1) ∧ srcOf k y h1 = some s ∧
  ∀ φ' H' J, Le φ h H φ' h1 H' → Sim K tabs φ' h1 H' → Wk K tabs J s φ' h1 H' → R J H'
end
section
variable {K : PySem.W.Frag} {tabs : List Addr} {φ : Nat → Addr} {h : IHeap} {H : Hp}
theorem wk_tup {a : Addr} {vs : List PV} {xs : List V} (ha : SqT K H a xs) (r : VReps K φ h.length H vs xs) : Wk K tabs (Itt K a) (.its vs) φ h H := by
  intro φ' h' H' j l S
  have ha' := l.stay.sqT ha
  have r' := l.reps r
  refine ⟨fun e => ⟨xs, ha', ?_⟩, fun x e => ?_⟩
  · have e : vs[j]? = none := Option.some.inj e
    rw [← r'.length]
    exact List.getElem?_eq_none_iff.mp e
  · have e : vs[j]? = some x := Option.some.inj e
    obtain ⟨y, hy, ry⟩ := r'.get e
    refine ⟨⟨xs, y, ha', hy⟩, fun v H'' ⟨e1, e2⟩ => ?_⟩
    subst e1
    have := e2 xs ha'
    rw [hy] at this
    cases this
    exact ⟨.refl, S, ry⟩
theorem wk_fl {a : Addr} {vs : List PV} {xs : List V} (ha : FroL K H a xs) (r : VReps K φ h.length H vs xs) : Wk K tabs (Itl K a) (.its vs) φ h H := by
  intro φ' h' H' j l S
  have ha' := (l.stay.froL ha).sq
  have r' := l.reps r
  refine ⟨fun e => ⟨xs, ha', ?_⟩, fun x e => ?_⟩
  · have e : vs[j]? = none := Option.some.inj e
    rw [← r'.length]
    exact List.getElem?_eq_none_iff.mp e
  · have e : vs[j]? = some x := Option.some.inj e
    obtain ⟨y, hy, ry⟩ := r'.get e
    refine ⟨⟨xs, y, ha', hy⟩, fun v H'' ⟨e1, e2⟩ => ?_⟩
    subst e1
    have := e2 xs ha'
    rw [hy] at this
    cases this
    exact ⟨.refl, S, ry⟩
theorem wk_cell {i : Nat} (hi : i < h.length) : Wk K tabs (Itl K (φ i)) (.cell i) φ h H := by
  intro φ' h' H' j l S
  have eφ := l.eq i hi
  unfold srcAt
  cases ei : h'[i]? with
  | none => exact ⟨fun e => (by simp only [ei] at e; cases e), fun x e => (by simp only [ei] at e; cases e)⟩
  | some c =>
    cases c with
    | dic _ => exact ⟨fun e => (by simp only [ei] at e; cases e), fun x e => (by simp only [ei] at e; cases e)⟩
    | lst vs =>
      obtain ⟨xs, hx, rs⟩ := S.lst ei
      rw [eφ] at hx
      simp only [ei]
      refine ⟨fun e => ⟨xs, SqL.of hx, ?_⟩, fun x e => ?_⟩
      · have e : vs[j]? = none := Option.some.inj e
        rw [← rs.length]
        exact List.getElem?_eq_none_iff.mp e
      · have e : vs[j]? = some x := Option.some.inj e
        obtain ⟨y, hy, ry⟩ := rs.get e
        refine ⟨⟨xs, y, SqL.of hx, hy⟩, fun v H'' ⟨e1, e2⟩ => ?_⟩
        subst e1
        have := e2 xs (SqL.of hx)
        rw [hy] at this
        cases this
        exact ⟨.refl, S, ry⟩
theorem wk_rng {lo : Int} {n : Nat} : Wk K tabs (Itr lo n) (.its ((List.range n).map fun i => .int (lo + (i : Nat)))) φ h H := by
  intro φ' h' H' j l S
  refine ⟨fun e => ?_, fun x e => ?_⟩
  · have e : ((List.range n).map fun i => PV.int (lo + (i : Nat)))[j]? = none := Option.some.inj e
    have := List.getElem?_eq_none_iff.mp e
    simp only [List.length_map, List.length_range] at this
    exact this
  · have e : ((List.range n).map fun i => PV.int (lo + (i : Nat)))[j]? = some x := Option.some.inj e
    rw [List.getElem?_map] at e
    have hj : j < n := by
      have hj := (List.getElem?_eq_some_iff.mp (show ((List.range n).map fun i => PV.int (lo + (i : Nat)))[j]? = some x by rw [List.getElem?_map]; exact e)).1
      simpa using hj
    rw [List.getElem?_range hj] at e
    cases e
    refine ⟨hj, fun v H'' ⟨e1, e2⟩ => ?_⟩
    subst e1 e2
    exact ⟨.refl, S, .int _⟩
theorem wk_zipT {a b : Addr} {vs ws : List PV} {xs ys : List V} (ha : SqT K H a xs) (hb : SqT K H b ys) (r : VReps K φ h.length H vs xs) (q : VReps K φ h.length H ws ys) :
    Wk K tabs (RZ.ItzT K a b) (.its (List.zipWith (fun x y => .tup [x, y]) vs ws)) φ h H := by
  intro φ' h' H' j l S
  have ha' := l.stay.sqT ha
  have hb' := l.stay.sqT hb
  have r' := l.reps r
  have q' := l.reps q
  refine ⟨fun e => ⟨xs, ys, ha', hb', ?_⟩, fun x e => ?_⟩
  · have e : (List.zipWith (fun x y => PV.tup [x, y]) vs ws)[j]? = none := Option.some.inj e
    have := List.getElem?_eq_none_iff.mp e
    rw [List.length_zipWith] at this
    rw [← r'.length, ← q'.length]
    omega
  · have e : (List.zipWith (fun x y => PV.tup [x, y]) vs ws)[j]? = some x := Option.some.inj e
    rw [List.getElem?_zipWith] at e
    cases e1 : vs[j]? with
    | none => rw [e1] at e; cases e
    | some v =>
      cases e2 : ws[j]? with
      | none => rw [e1, e2] at e; cases e
      | some w =>
        rw [e1, e2] at e
        cases e
        obtain ⟨y, hy, ry⟩ := r'.get e1
        obtain ⟨z, hz, rz⟩ := q'.get e2
        refine ⟨⟨xs, ys, y, z, ha', hb', hy, hz⟩, fun u H'' ⟨T, y', z', eu, hT, eH, f1, f2⟩ => ?_⟩
        have g1 := f1 xs ha'
        have g2 := f2 ys hb'
        rw [hy] at g1
        rw [hz] at g2
        cases g1
        cases g2
        subst eu eH
        obtain ⟨S2, l2⟩ := S.tup (xs := [y, z]) hT
        exact ⟨l2, S2, .tup (.inl (.inl upd_same)) (.cons (l2.rep ry) (.cons (l2.rep rz) .nil))⟩
theorem wk_zipc {i k : Nat} (hi : i < h.length) (hk : k < h.length) : Wk K tabs (Itz K (φ i) (φ k)) (.zipc i k) φ h H := by
  intro φ' h' H' j l S
  have eφ := l.eq i hi
  have eφ2 := l.eq k hk
  unfold srcAt
  cases ei : h'[i]? with
  | none => exact ⟨fun e => (by simp only [ei] at e; cases e), fun x e => (by simp only [ei] at e; cases e)⟩
  | some c =>
    cases c with
    | dic _ => exact ⟨fun e => (by simp only [ei] at e; cases e), fun x e => (by simp only [ei] at e; cases e)⟩
    | lst vs =>
      cases ek : h'[k]? with
      | none => exact ⟨fun e => (by simp only [ei, ek] at e; cases e), fun x e => (by simp only [ei, ek] at e; cases e)⟩
      | some c =>
        cases c with
        | dic _ => exact ⟨fun e => (by simp only [ei, ek] at e; cases e), fun x e => (by simp only [ei, ek] at e; cases e)⟩
        | lst ws =>
          obtain ⟨xs, hx, rs⟩ := S.lst ei
          obtain ⟨ys, hy, qs⟩ := S.lst ek
          rw [eφ] at hx
          rw [eφ2] at hy
          simp only [ei, ek]
          cases e1 : vs[j]? with
          | none =>
            refine ⟨fun e => ⟨xs, ys, SqL.of hx, SqL.of hy, .inl ?_⟩, fun x e => (by simp only [e1] at e; cases e)⟩
            rw [← rs.length]
            exact List.getElem?_eq_none_iff.mp e1
          | some v =>
            cases e2 : ws[j]? with
            | none =>
              refine ⟨fun e => ⟨xs, ys, SqL.of hx, SqL.of hy, .inr ?_⟩, fun x e => (by simp only [e1, e2] at e; cases e)⟩
              rw [← qs.length]
              exact List.getElem?_eq_none_iff.mp e2
            | some w =>
              refine ⟨fun e => (by simp only [e1, e2] at e; cases e), fun x e => ?_⟩
              simp only [e1, e2] at e
              cases e
              obtain ⟨y, hy', ry⟩ := rs.get e1
              obtain ⟨z, hz', rz⟩ := qs.get e2
              refine ⟨⟨xs, ys, y, z, SqL.of hx, SqL.of hy, hy', hz'⟩, fun u H'' ⟨T, y', z', eu, hT, eH, f1, f2⟩ => ?_⟩
              have g1 := f1 xs (SqL.of hx)
              have g2 := f2 ys (SqL.of hy)
              rw [hy'] at g1
              rw [hz'] at g2
              cases g1
              cases g2
              subst eu eH
              obtain ⟨S2, l2⟩ := S.tup (xs := [y, z]) hT
              exact ⟨l2, S2, .tup (.inl (.inl upd_same)) (.cons (l2.rep ry) (.cons (l2.rep rz) .nil))⟩
theorem wk_zipm {bb : Bool} {i : Nat} {a : Addr} {ys : List V} {ws : List PV} {m : Nat} (hi : i < h.length) (ha : SqT K H a ys) (q : VReps K φ h.length H ws ys) :
    Wk K tabs (if bb = true then ItzM K true false (φ i) a else ItzM K false true a (φ i)) (.zipm bb i m ws) φ h H := by
  intro φ' h' H' j l S
  have eφ := l.eq i hi
  have ha' := l.stay.sqT ha
  have q' := l.reps q
  unfold srcAt
  cases ei : h'[i]? with
  | none => exact ⟨fun e => (by simp only [ei] at e; cases e), fun x e => (by simp only [ei] at e; cases e)⟩
  | some c =>
    cases c with
    | dic _ => exact ⟨fun e => (by simp only [ei] at e; cases e), fun x e => (by simp only [ei] at e; cases e)⟩
    | lst vs =>
      simp only [ei]
      by_cases hm : vs.length = m
      · rw [if_pos hm]
        obtain ⟨xs, hx, rs⟩ := S.lst ei
        rw [eφ] at hx
        have sx : SqB K H' true (φ i) xs := SqL.of hx
        have sy : SqB K H' false a ys := ha'
        have stop : (j ≤ m ∧ j ≤ ws.length) → (vs[j]? = none ∨ ws[j]? = none) → (if bb = true then ItzM K true false (φ i) a else ItzM K false true a (φ i)).stop j H' := fun hl hn => by
          have l1 := rs.length
          have l2 := q'.length
          have en : j = xs.length ∨ j = ys.length := by
            rcases hn with z | z
            · have := List.getElem?_eq_none_iff.mp z; left; omega
            · have := List.getElem?_eq_none_iff.mp z; right; omega
          cases bb
          · exact ⟨ys, xs, sy, sx, by omega, by omega, en.symm⟩
          · exact ⟨xs, ys, sx, sy, by omega, by omega, en⟩
        cases e1 : vs[j]? with
        | none =>
          cases e2 : ws[j]? with
          | none =>
            refine ⟨fun e => ?_, fun x e => ?_⟩
            · simp only [e1, e2] at e
              split at e
              · rename_i hl; exact stop hl (.inl e1)
              · cases e
            · simp only [e1, e2] at e; split at e <;> cases e
          | some w =>
            refine ⟨fun e => ?_, fun x e => ?_⟩
            · simp only [e1, e2] at e
              split at e
              · rename_i hl; exact stop hl (.inl e1)
              · cases e
            · simp only [e1, e2] at e; split at e <;> cases e
        | some v =>
          cases e2 : ws[j]? with
          | none =>
            refine ⟨fun e => ?_, fun x e => ?_⟩
            · simp only [e1, e2] at e
              split at e
              · rename_i hl; exact stop hl (.inr e2)
              · cases e
            · simp only [e1, e2] at e; split at e <;> cases e
          | some w =>
            refine ⟨fun e => (by simp only [e1, e2] at e; cases e), fun x e => ?_⟩
            simp only [e1, e2] at e
            obtain ⟨y, hy', ry⟩ := rs.get e1
            obtain ⟨z, hz', rz⟩ := q'.get e2
            cases bb with
            | true =>
              simp only [if_true] at e ⊢
              cases e
              refine ⟨⟨xs, ys, y, z, sx, sy, hy', hz'⟩, fun u H'' ⟨T, y', z', eu, hT, eH, f1, f2⟩ => ?_⟩
              have g1 := f1 xs sx
              have g2 := f2 ys sy
              rw [hy'] at g1
              rw [hz'] at g2
              cases g1
              cases g2
              subst eu eH
              obtain ⟨S2, l2⟩ := S.tup (xs := [y, z]) hT
              exact ⟨l2, S2, .tup (.inl (.inl upd_same)) (.cons (l2.rep ry) (.cons (l2.rep rz) .nil))⟩
            | false =>
              simp only [Bool.false_eq_true, if_false] at e ⊢
              cases e
              refine ⟨⟨ys, xs, z, y, sy, sx, hz', hy'⟩, fun u H'' ⟨T, y', z', eu, hT, eH, f1, f2⟩ => ?_⟩
              have g1 := f1 ys sy
              have g2 := f2 xs sx
              rw [hz'] at g1
              rw [hy'] at g2
              cases g1
              cases g2
              subst eu eH
              obtain ⟨S2, l2⟩ := S.tup (xs := [z, y]) hT
              exact ⟨l2, S2, .tup (.inl (.inl upd_same)) (.cons (l2.rep rz) (.cons (l2.rep ry) .nil))⟩
      · refine ⟨fun e => ?_, fun x e => ?_⟩
        · rw [if_neg hm] at e; cases e
        · rw [if_neg hm] at e; cases e
theorem wk_enumT {a : Addr} {ys : List V} {ws : List PV} (ha : SqT K H a ys) (q : VReps K φ h.length H ws ys) : Wk K tabs (IteT K a) (.enumt ws) φ h H := by
  intro φ' h' H' j l S
  have ha' := l.stay.sqT ha
  have q' := l.reps q
  unfold srcAt
  simp only
  cases e1 : ws[j]? with
  | none =>
    refine ⟨fun e => ?_, fun x e => ?_⟩
    · by_cases hj : j = ws.length
      · exact ⟨ys, ha', by rw [hj, q'.length]⟩
      · simp only at e; rw [if_neg hj] at e; cases e
    · simp only at e; split at e <;> cases e
  | some w =>
    refine ⟨fun e => (by cases e), fun x e => ?_⟩
    cases e
    obtain ⟨y, hy, ry⟩ := q'.get e1
    refine ⟨⟨ys, y, ha', hy⟩, fun u H'' ⟨T, y', eu, hT, eH, f1⟩ => ?_⟩
    have g1 := f1 ys ha'
    rw [hy] at g1
    cases g1
    subst eu eH
    obtain ⟨S2, l2⟩ := S.tup (xs := [.int (j : Nat), y]) hT
    exact ⟨l2, S2, .tup (.inl (.inl upd_same)) (.cons (.int _) (.cons (l2.rep ry) .nil))⟩
theorem wk_enum {i : Nat} (hi : i < h.length) : Wk K tabs (Ite K (φ i)) (.enumc i) φ h H := by
  intro φ' h' H' j l S
  have eφ := l.eq i hi
  unfold srcAt
  cases ei : h'[i]? with
  | none => exact ⟨fun e => (by simp only [ei] at e; cases e), fun x e => (by simp only [ei] at e; cases e)⟩
  | some c =>
    cases c with
    | dic _ => exact ⟨fun e => (by simp only [ei] at e; cases e), fun x e => (by simp only [ei] at e; cases e)⟩
    | lst vs =>
      obtain ⟨xs, hx, rs⟩ := S.lst ei
      rw [eφ] at hx
      simp only [ei]
      cases e1 : vs[j]? with
      | none =>
        refine ⟨fun e => ⟨xs, SqL.of hx, ?_⟩, fun x e => (by cases e)⟩
        rw [← rs.length]
        exact List.getElem?_eq_none_iff.mp e1
      | some v =>
        refine ⟨fun e => (by cases e), fun x e => ?_⟩
        cases e
        obtain ⟨y, hy, ry⟩ := rs.get e1
        refine ⟨⟨xs, y, SqL.of hx, hy⟩, fun u H'' ⟨T, y', eu, hT, eH, f1⟩ => ?_⟩
        have g1 := f1 xs (SqL.of hx)
        rw [hy] at g1
        cases g1
        subst eu eH
        obtain ⟨S2, l2⟩ := S.tup (xs := [.int j, y]) hT
        exact ⟨l2, S2, .tup (.inl (.inl upd_same)) (.cons (.int _) (.cons (l2.rep ry) .nil))⟩

theorem wk_rev {i n : Nat} (hi : i < h.length) : Wk K tabs (Itv K (φ i) n) (.revn i n) φ h H := by
  intro φ' h' H' j l S
  have eφ := l.eq i hi
  unfold srcAt
  by_cases hj : j < n
  · simp only [hj, if_true]
    cases ei : h'[i]? with
    | none => exact ⟨fun e => (by cases e), fun x e => (by cases e)⟩
    | some c =>
      cases c with
      | dic _ => exact ⟨fun e => (by cases e), fun x e => (by cases e)⟩
      | lst vs =>
        obtain ⟨xs, hx, rs⟩ := S.lst ei
        rw [eφ] at hx
        simp only
        cases e1 : vs[n - 1 - j]? with
        | none => exact ⟨fun e => (by cases e), fun x e => (by cases e)⟩
        | some v =>
          refine ⟨fun e => (by cases e), fun x e => ?_⟩
          cases e
          obtain ⟨y, hy, ry⟩ := rs.get e1
          refine ⟨⟨hj, xs, y, SqL.of hx, hy⟩, fun u H'' ⟨eH, f1⟩ => ?_⟩
          have g1 := f1 xs (SqL.of hx)
          rw [hy] at g1
          cases g1
          subst eH
          exact ⟨.refl, S, ry⟩
  · simp only [hj, if_false]
    exact ⟨fun _ => Nat.le_of_not_lt hj, fun x e => (by cases e)⟩
theorem wk_revT {a : Addr} {vs : List PV} {xs : List V} (ha : SqT K H a xs) (r : VReps K φ h.length H vs xs) : Wk K tabs (RT.ItvT K a xs.length) (.its vs.reverse) φ h H := by
  intro φ' h' H' j l S
  have ha' := l.stay.sqT ha
  have r' := l.reps r
  refine ⟨fun e => ?_, fun x e => ?_⟩
  · have e : vs.reverse[j]? = none := Option.some.inj e
    have := List.getElem?_eq_none_iff.mp e
    rw [List.length_reverse, r'.length] at this
    exact this
  · have e : vs.reverse[j]? = some x := Option.some.inj e
    have hj : j < vs.length := by
      have := (List.getElem?_eq_some_iff.mp e).1
      rwa [List.length_reverse] at this
    rw [List.getElem?_reverse hj] at e
    obtain ⟨y, hy, ry⟩ := r'.get e
    rw [r'.length] at hy hj
    refine ⟨⟨hj, xs, y, ha', hy⟩, fun v H'' ⟨e1, e2⟩ => ?_⟩
    subst e1
    have := e2 xs ha'
    rw [hy] at this
    cases this
    exact ⟨.refl, S, ry⟩
end

/-! ### what may be walked -/
section
variable {X : Cx} {tabs : List Addr} {F : Nat → List PV → IHeap → Option (PV × IHeap)} {a b tg : Expr} {ia ib : IE} {p pos : Pos}
theorem PIimp {wi wi' : TI} {iter : Expr} (q : PI X tg iter wi) (i : ∀ σ H R, wi' σ H R → wi σ H R) : PI X tg iter wi' := ⟨fun pins s σ H R I h => q.run pins s σ H R I (i _ _ _ h)⟩
theorem one_of {ρ : Env'} {h h1 : IHeap} {y : PV} (e : ev F (.cons ia .nil) ρ h = some (y, h1)) : ∃ v, y = .tup [v] ∧ ev F ia ρ h = some (v, h1) := by
  rw [ev_cons] at e
  cases e1 : ev F ia ρ h with
  | none => rw [e1] at e; cases e
  | some p =>
    obtain ⟨v, h2⟩ := p
    rw [e1] at e
    cases e
    exact ⟨v, rfl, rfl⟩
theorem i_seq (ha : PE X a (TIe X.K tabs F ia)) : PI X tg a (TIi X.K tabs F .seq (.cons ia .nil)) := by
  refine ⟨fun pins s σ H R I ⟨φ, ρ, h, S, E, y, h1, sr, e, es, q⟩ => ?_⟩
  obtain ⟨v, rfl, e1⟩ := one_of e
  cases v with
  | tup vs =>
    cases es
    refine (pi_tup ha).run pins s σ H R I ⟨φ, ρ, h, S, E, _, h1, e1, fun φ' H' z l S' r => ?_⟩
    cases r with
    | tup ht rs => exact ⟨_, rfl, ⟨_, ht⟩, q φ' H' _ l S' (wk_tup ht rs)⟩
  | fl vs =>
    cases es
    refine (pi_list ha).run pins s σ H R I ⟨φ, ρ, h, S, E, _, h1, e1, fun φ' H' z l S' r => ?_⟩
    cases r with
    | fl ht rs => exact ⟨_, rfl, ⟨_, ht.sq⟩, q φ' H' _ l S' (wk_fl ht rs)⟩
  | ref i =>
    simp only [srcOf] at es
    cases ei : h1[i]? with
    | none => simp only [ei] at es; cases es
    | some c =>
      cases c with
      | dic _ => simp only [ei] at es; cases es
      | lst ks =>
        simp only [ei] at es
        cases es
        refine (pi_list ha).run pins s σ H R I ⟨φ, ρ, h, S, E, _, h1, e1, fun φ' H' z l S' r => ?_⟩
        cases r with
        | ref hi =>
          obtain ⟨xs, hx, _⟩ := S'.lst ei
          exact ⟨_, rfl, ⟨xs, SqL.of hx⟩, q φ' H' _ l S' (wk_cell hi)⟩
  | _ => simp [srcOf] at es
theorem fits_of {i : Int} (h : fits62 i = true) : -2 ^ 62 ≤ i ∧ i < 2 ^ 62 := by
  unfold fits62 at h
  simp only [Bool.and_eq_true, decide_eq_true_eq] at h
  exact h
theorem two_of {ρ : Env'} {h h1 : IHeap} {y : PV} (e : ev F (.cons ia (.cons ib .nil)) ρ h = some (y, h1)) : ∃ v w h2, y = .tup [v, w] ∧ ev F ia ρ h = some (v, h2) ∧ ev F ib ρ h2 = some (w, h1) := by
  rw [ev_cons] at e
  cases e1 : ev F ia ρ h with
  | none => rw [e1] at e; cases e
  | some p =>
    obtain ⟨v, h2⟩ := p
    rw [e1] at e
    simp only [Option.bind_some] at e
    cases e2 : ev F (.cons ib .nil) ρ h2 with
    | none => rw [e2] at e; cases e
    | some q =>
      obtain ⟨w, h3⟩ := q
      obtain ⟨u, rfl, e3⟩ := one_of e2
      rw [e2] at e
      cases e
      exact ⟨v, u, h2, rfl, rfl, e3⟩
theorem arg_of {ρ : Env'} {σ : L2.St} {φ : Nat → Addr} {h h1 : IHeap} {H : Hp} {vs : List PV} {Q : List V → Hp → Prop} (S : Sim X.K tabs φ h H) (E : ERep X.K φ h.length H ρ σ) (e : ev F ia ρ h = some (.tup vs, h1))
    (hq : ∀ φ' H' xs, Le φ h H φ' h1 H' → Sim X.K tabs φ' h1 H' → VReps X.K φ' h1.length H' vs xs → Q xs H') : TIs X.K tabs F ia σ H Q := ⟨φ, ρ, h, S, E, vs, h1, e, fun φ' H' xs l S' r => hq φ' H' xs l S' r⟩
theorem i_range1 (hg : Gl X "range") (hm : X.mg "range" = none) (ha : PA X [a] (TIs X.K tabs F (.cons ia .nil))) (hs : isStar a = false) : PI X tg (.Call (.Name "range" p) [a] [] pos) (TIi X.K tabs F .range (.cons ia .nil)) := by
  refine ⟨fun pins s σ H R I ⟨φ, ρ, h, S, E, y, h1, sr, e, es, q⟩ => ?_⟩
  obtain ⟨v, rfl, e1⟩ := one_of e
  refine (pi_range1 hg hm ha (star_cons hs)).run pins s σ H R I (arg_of S E e fun φ' H' xs l S' r => ?_)
  obtain ⟨x, rfl, rx⟩ := reps1 r
  cases rx with
  | int n =>
    simp only [srcOf] at es
    by_cases hf : fits62 n = true
    · rw [if_pos hf] at es
      cases es
      exact ⟨n, rfl, (fits_of hf).1, (fits_of hf).2, q φ' H' _ l S' wk_rng⟩
    · rw [if_neg hf] at es; cases es
  | _ => simp [srcOf] at es
theorem i_range2 (hg : Gl X "range") (hm : X.mg "range" = none) (ha : PA X [a, b] (TIs X.K tabs F (.cons ia (.cons ib .nil)))) (hs : isStar a = false) (hs2 : isStar b = false) : PI X tg (.Call (.Name "range" p) [a, b] [] pos) (TIi X.K tabs F .range (.cons ia (.cons ib .nil))) := by
  refine ⟨fun pins s σ H R I ⟨φ, ρ, h, S, E, y, h1, sr, e, es, q⟩ => ?_⟩
  obtain ⟨v, w, _, rfl, _, _⟩ := two_of e
  refine (pi_range2 hg hm ha (by rw [star_cons hs, star_cons hs2]; rfl) (star_cons hs2)).run pins s σ H R I (arg_of S E e fun φ' H' xs l S' r => ?_)
  obtain ⟨x, y, rfl, rx, ry⟩ := reps2 r
  cases rx with
  | int n =>
    cases ry with
    | int m =>
      simp only [srcOf] at es
      by_cases hf : (fits62 n && fits62 m) = true
      · rw [if_pos hf] at es
        cases es
        simp only [Bool.and_eq_true] at hf
        exact ⟨n, m, rfl, ⟨(fits_of hf.1).1, (fits_of hf.1).2, (fits_of hf.2).1, (fits_of hf.2).2⟩, q φ' H' _ l S' wk_rng⟩
      · rw [if_neg hf] at es; cases es
    | _ => simp [srcOf] at es
  | _ => simp [srcOf] at es
theorem i_zip {elts : List Expr} {kk : Nat} {tpos : Pos} (hg : Gl X "zip") (hm : X.mg "zip" = none) (ha : PA X [a, b] (TIs X.K tabs F (.cons ia (.cons ib .nil)))) (hs : isStar a = false) (hs2 : isStar b = false) :
    PI X (.Tuple elts kk tpos) (.Call (.Name "zip" p) [a, b] [] pos) (TIi X.K tabs F .zip (.cons ia (.cons ib .nil))) := by
  refine ⟨fun pins s σ H R I ⟨φ, ρ, h, S, E, y, h1, sr, e, es, q⟩ => ?_⟩
  obtain ⟨v, w, _, rfl, _, _⟩ := two_of e
  refine (pi_zipM hg hm ha (star_cons hs) (by rw [back_any, star_cons hs2]; rfl)).run pins s σ H R I (arg_of S E e fun φ' H' xs l S' r => ?_)
  obtain ⟨x, y, rfl, rx, ry⟩ := reps2 r
  cases rx with
  | tup h1 r1 =>
    cases ry with
    | tup h2 r2 =>
      cases es
      exact ⟨false, false, _, _, _, _, rfl, h1, h2, q φ' H' _ l S' (wk_zipT h1 h2 r1 r2)⟩
    | @ref j hj =>
      simp only [srcOf] at es
      split at es
      · rename_i vs ei
        cases es
        obtain ⟨xs, hx, _⟩ := S'.lst ei
        exact ⟨false, true, _, _, _, _, rfl, h1, SqL.of hx, q φ' H' _ l S' (wk_zipm (bb := false) hj h1 r1)⟩
      · cases es
    | _ => simp [srcOf] at es
  | @ref i hi =>
    cases ry with
    | tup h2 r2 =>
      simp only [srcOf] at es
      split at es
      · rename_i vs ei
        cases es
        obtain ⟨xs, hx, _⟩ := S'.lst ei
        exact ⟨true, false, _, _, _, _, rfl, SqL.of hx, h2, q φ' H' _ l S' (wk_zipm (bb := true) hi h2 r2)⟩
      · cases es
    | @ref j hj =>
      simp only [srcOf] at es
      cases ei : h1[i]? with
      | none => simp only [ei] at es; cases es
      | some c =>
        cases c with
        | dic _ => simp only [ei] at es; cases es
        | lst vs =>
          cases ej : h1[j]? with
          | none => simp only [ei, ej] at es; cases es
          | some c =>
            cases c with
            | dic _ => simp only [ei, ej] at es; cases es
            | lst ws =>
              simp only [ei, ej] at es
              cases es
              obtain ⟨xs, hx, _⟩ := S'.lst ei
              obtain ⟨ys, hy, _⟩ := S'.lst ej
              exact ⟨true, true, _, _, _, _, rfl, SqL.of hx, SqL.of hy, q φ' H' _ l S' (wk_zipc hi hj)⟩
    | _ => simp [srcOf] at es
  | _ => simp [srcOf] at es
theorem i_enum {elts : List Expr} {kk : Nat} {tpos : Pos} (hg : Gl X "enumerate") (hm : X.mg "enumerate" = none) (ha : PA X [a] (TIs X.K tabs F (.cons ia .nil))) (hs : isStar a = false) :
    PI X (.Tuple elts kk tpos) (.Call (.Name "enumerate" p) [a] [] pos) (TIi X.K tabs F .enum (.cons ia .nil)) := by
  refine ⟨fun pins s σ H R I ⟨φ, ρ, h, S, E, y, h1, sr, e, es, q⟩ => ?_⟩
  obtain ⟨v, rfl, e1⟩ := one_of e
  refine (pi_enumX hg hm ha (star_cons hs)).run pins s σ H R I (arg_of S E e fun φ' H' xs l S' r => ?_)
  obtain ⟨x, rfl, rx⟩ := reps1 r
  cases rx with
  | tup h1 r1 =>
    cases es
    exact ⟨false, _, _, rfl, h1, q φ' H' _ l S' (wk_enumT h1 r1)⟩
  | @ref i hi =>
    simp only [srcOf] at es
    cases ei : h1[i]? with
    | none => simp only [ei] at es; cases es
    | some c =>
      cases c with
      | dic _ => simp only [ei] at es; cases es
      | lst vs =>
        simp only [ei] at es
        cases es
        obtain ⟨xs, hx, _⟩ := S'.lst ei
        exact ⟨true, _, _, rfl, SqL.of hx, q φ' H' _ l S' (wk_enum hi)⟩
  | _ => simp [srcOf] at es
theorem i_rev (hg : Gl X "reversed") (hm : X.mg "reversed" = none) (ha : PE X a (TIe X.K tabs F ia)) (hs : isStar a = false) : PI X tg (.Call (.Name "reversed" p) [a] [] pos) (TIi X.K tabs F .rev (.cons ia .nil)) := by
  refine ⟨fun pins s σ H R I ⟨φ, ρ, h, S, E, y, h1, sr, e, es, q⟩ => ?_⟩
  obtain ⟨v, rfl, e1⟩ := one_of e
  refine (RT.pi_revA hg hm ha (star_cons hs)).run pins s σ H R I ⟨φ, ρ, h, S, E, v, h1, e1, fun φ' H' z l S' rx => ?_⟩
  cases rx with
  | tup h1 r1 =>
    cases es
    exact ⟨_, _, rfl, .inr ⟨h1, q φ' H' _ l S' (wk_revT h1 r1)⟩⟩
  | @ref i hi =>
    simp only [srcOf] at es
    cases ei : h1[i]? with
    | none => simp only [ei] at es; cases es
    | some c =>
      cases c with
      | dic _ => simp only [ei] at es; cases es
      | lst vs =>
        simp only [ei] at es
        cases es
        obtain ⟨xs, hx, rs⟩ := S'.lst ei
        rw [rs.length] at q
        exact ⟨_, _, rfl, .inl ⟨SqL.of hx, q φ' H' _ l S' (wk_rev hi)⟩⟩
  | _ => simp [srcOf] at es
end
end PI
end

section
set_option Elab.async false
set_option linter.all false
set_option maxRecDepth 100000
set_option maxHeartbeats 2000000
namespace PI
open PySem PySem.Spec PyProof.Rows L2

/-! ### targets -/
def tgIx : Tg → List Nat
  | .nm i => [i]
  | .tp is => is
def Clean (is : List Nat) (σ σ' : L2.St) : Prop := ∀ vs : List Nat, (∀ i ∈ is, i ∈ vs) → L2.wipe σ' vs = L2.wipe σ vs
def TIg (K : PySem.W.Frag) (tabs : List Addr) (t : Tg) : TG := fun v σ H Q => ∃ φ ρ h w ρ', Sim K tabs φ h H ∧ ERep K φ h.length H ρ σ ∧ VRep K φ h.length H w v ∧ assignT t w ρ = some ρ' ∧
  ∀ σ', ERep K φ h.length H ρ' σ' → Clean (tgIx t) σ σ' → Q σ' H
def TIgs (K : PySem.W.Frag) (tabs : List Addr) (is : List Nat) : TGs := fun vs σ H Q => ∃ φ ρ h ws ρ', Sim K tabs φ h H ∧ ERep K φ h.length H ρ σ ∧ VReps K φ h.length H ws vs ∧ setAll is ws ρ = some ρ' ∧
  ∀ σ', ERep K φ h.length H ρ' σ' → Clean is σ σ' → Q σ' H
theorem wipe_set {σ : L2.St} {i : Nat} {o : Option V} : ∀ {vs : List Nat}, i ∈ vs → L2.wipe (σ.set i o) vs = L2.wipe σ vs
  | [], h => by cases h
  | v :: vs, h => by
    unfold L2.wipe
    by_cases hv : i ∈ vs
    · rw [wipe_set hv]
    · have e : i = v := by
        rcases List.mem_cons.mp h with e | e
        · exact e
        · exact absurd e hv
      subst e
      have q : ∀ us : List Nat, i ∉ us → L2.wipe (σ.set i o) us = (L2.wipe σ us).set i o := fun us => by
        induction us with
        | nil => intro _; rfl
        | cons u us ih =>
          intro hu
          rw [List.mem_cons, not_or] at hu
          unfold L2.wipe
          rw [ih hu.2, List.set_comm _ _ (Ne.symm (Ne.symm hu.1))]
      rw [q vs hv, List.set_set]
theorem wipe_wipe {σ : L2.St} {ws : List Nat} : ∀ {vs : List Nat}, (∀ i ∈ vs, i ∈ ws) → L2.wipe (L2.wipe σ vs) ws = L2.wipe σ ws
  | [], _ => rfl
  | v :: vs, h => by
    show L2.wipe ((L2.wipe σ vs).set v none) ws = _
    rw [wipe_set (h v List.mem_cons_self), wipe_wipe fun i hi => h i (List.mem_cons_of_mem _ hi)]
theorem Clean.refl {is : List Nat} {σ : L2.St} : Clean is σ σ := fun _ _ => rfl
section
variable {X : Cx} {tabs : List Addr} {e : Expr} {es : List Expr} {pos : Pos}
theorem PGimp {t t' : TG} (p : PG X e t) (i : ∀ v σ H Q, t' v σ H Q → t v σ H Q) : PG X e t' := ⟨fun pins s σ H v u Q I r h => p.run pins s σ H v u Q I r (i _ _ _ _ h)⟩
theorem g_name {i : Nat} {x : Str} (hN : X.N.Nodup) (hi : X.N[i]? = some x) (hx : Loc X.env.scope x) (hf : X.fn x = true ∨ X.env.scope.names.lookup x = some .local) : PG X (.Name x pos) (TIg X.K tabs (.nm i)) := by
  refine PGimp (pg_name hN hi hx hf) fun v σ H Q ⟨φ, ρ, h, w, ρ', S, E, r, e, q⟩ => ?_
  cases e
  refine q _ (E.set r) fun vs hv => wipe_set (hv i (by simp [tgIx]))
theorem gs_nil : PGs X [] (TIgs X.K tabs []) := ⟨fun pins s σ H vs us Q I r ⟨φ, ρ, h, ws, ρ', S, E, rs, e, q⟩ => pgs_nil.run pins s σ H vs us Q I r (by
  cases ws with
  | nil => cases rs; cases e; exact ⟨rfl, q σ E .refl⟩
  | cons _ _ => cases e)⟩
theorem gs_cons {i : Nat} {is : List Nat} {x : Str} {p : Pos} (h1 : PG X (.Name x p) (gName i)) (h2 : PGs X es (TIgs X.K tabs is)) : PGs X (.Name x p :: es) (TIgs X.K tabs (i :: is)) := by
  refine ⟨fun pins s σ H vs us Q I r ⟨φ, ρ, h, ws, ρ', S, E, rs, e, q⟩ => (pgs_cons h1 h2 rfl).run pins s σ H vs us Q I r ?_⟩
  cases ws with
  | nil => cases e
  | cons w ws =>
    cases rs with
    | cons rw rs =>
      refine ⟨_, _, rfl, φ, _, h, ws, ρ', S, E.set rw, rs, e, fun σ' E' c => q σ' E' fun vs hv => ?_⟩
      rw [c vs fun j hj => hv j (List.mem_cons_of_mem _ hj), wipe_set (hv i List.mem_cons_self)]
def isName : Expr → Bool
  | .Name .. => true
  | _ => false
theorem names_len {env : Env} : ∀ {es : List Expr}, es.all isName = true → (assignEach es env).length = es.length ∧ (assignEach es env).findIdx? (·.1) = none
  | [], _ => ⟨rfl, rfl⟩
  | e :: es, h => by
    simp only [List.all_cons, Bool.and_eq_true] at h
    obtain ⟨h1, h2⟩ := names_len (env := env) h.2
    cases e <;> first | (cases h.1; done) | skip
    refine ⟨congrArg (· + 1) h1, ?_⟩
    rename_i x p
    show List.findIdx? (fun z : Bool × (Value → Sem Unit) => z.1) ((false, assign (.Name x p) env) :: assignEach es env) = none
    rw [List.findIdx?_cons, h2]
    rfl
theorem setAll_len : ∀ {is : List Nat} {ws : List PV} {ρ ρ' : Env'}, setAll is ws ρ = some ρ' → ws.length = is.length
  | [], [], _, _, _ => rfl
  | [], _ :: _, _, _, e => by cases e
  | _ :: _, [], _, _, e => by cases e
  | i :: is, w :: ws, ρ, ρ', e => congrArg (· + 1) (setAll_len (show setAll is ws (ρ.set i (some w)) = some ρ' from e))
theorem g_tup {is : List Nat} {k : Nat} (hc : X.calm = true) (h : PGs X es (TIgs X.K tabs is)) (hn : es.all isName = true) (hl : es.length = is.length) : PG X (.Tuple es k pos) (TIg X.K tabs (.tp is)) := by
  refine PGimp (pg_tup (n := es.length) hc h (names_len hn).1 (names_len hn).2) fun v σ H Q ⟨φ, ρ, h, w, ρ', S, E, r, e, q⟩ => ?_
  cases r with
  | @tup a xs ws ha rs => exact ⟨_, _, rfl, ha, by rw [← rs.length, setAll_len e, hl], φ, ρ, h, ws, ρ', S, E, rs, e, q⟩
  | _ => cases e
end

/-! ### list comprehensions -/
def lcStep (F : Nat → List PV → IHeap → Option (PV × IHeap)) (ρ : Env') (vs : List Nat) (tg : Tg) (ifs elt : IE) (D : Nat) : PV → Unit → IHeap → Option (Sum Unit Unit × IHeap) := fun x _ h =>
  (assignT tg x (wipeE ρ vs)).bind fun ρ1 => (evT F ifs ρ1 h).bind fun t => if t.1 = true then (ev F elt ρ1 t.2).bind fun p => (match p.2[D]? with
    | some (.lst acc) => if acc.length < sizeLine then some (.inl (), p.2.set D (.lst (acc ++ [p.1]))) else none
    | _ => none) else some (.inl (), t.2)
theorem ev_lc {F : Nat → List PV → IHeap → Option (PV × IHeap)} {vs : List Nat} {tg : Tg} {k : IK} {src ifs elt : IE} {ρ : Env'} {h : IHeap} : ev F (.lc vs tg k src ifs elt) ρ h = (ev F src ρ h).bind fun p => (srcOf k p.1 p.2).bind fun s =>
    (loopN s (lcStep F ρ vs tg ifs elt p.2.length) (srcLen s (p.2 ++ [.lst []]) + 1) 0 () (p.2 ++ [.lst []])).bind fun r => some (.ref p.2.length, r.2) := rfl
theorem loop_last {α β : Type} {s : Src} {step : PV → α → IHeap → Option (Sum α β × IHeap)} {f j : Nat} {a : α} {h : IHeap} {r : Sum α β × IHeap} (e : loopN s step f j a h = some r) : ∃ m, f = m + 1 ∧
    ((srcAt s h j = some none ∧ r = (.inl a, h)) ∨ ∃ x, srcAt s h j = some (some x) ∧ ((∃ a' h', step x a h = some (.inl a', h') ∧ loopN s step m (j + 1) a' h' = some r) ∨ ∃ b h', step x a h = some (.inr b, h') ∧ r = (.inr b, h'))) := by
  cases f with
  | zero => cases e
  | succ m =>
    refine ⟨m, rfl, ?_⟩
    unfold loopN at e
    cases es : srcAt s h j with
    | none => rw [es] at e; cases e
    | some o =>
      cases o with
      | none => rw [es] at e; cases e; exact .inl ⟨rfl, rfl⟩
      | some x =>
        rw [es] at e
        simp only at e
        refine .inr ⟨x, rfl, ?_⟩
        cases et : step x a h with
        | none => rw [et] at e; cases e
        | some q =>
          obtain ⟨q, h'⟩ := q
          rw [et] at e
          cases q with
          | inl a' => exact .inl ⟨a', h', rfl, e⟩
          | inr b => cases e; exact .inr ⟨b, h', rfl, rfl⟩
section
variable {X : Cx} {tabs : List Addr} {F : Nat → List PV → IHeap → Option (PV × IHeap)}
theorem lc_go {tg : Tg} {vs : List Nat} {k : IK} {src ifs elt : IE} {σ : L2.St} {H : Hp} {Q : VK} (hv : ∀ i ∈ tgIx tg, i ∈ vs) (hq : TIe X.K tabs F (.lc vs tg k src ifs elt) σ H Q) :
    tLc (TIi X.K tabs F k src) (TIg X.K tabs tg) (TIt X.K tabs F ifs) (TIe X.K tabs F elt) vs σ H Q := by
  obtain ⟨φ, ρ, h, S, E, v, h', e, q⟩ := hq
  rw [ev_lc] at e
  cases e1 : ev F src ρ h with
  | none => rw [e1] at e; cases e
  | some p =>
    obtain ⟨y, h1⟩ := p
    rw [e1] at e
    simp only [Option.bind_some] at e
    cases e2 : srcOf k y h1 with
    | none => rw [e2] at e; cases e
    | some s =>
      rw [e2] at e
      simp only [Option.bind_some] at e
      cases e3 : loopN s (lcStep F ρ vs tg ifs elt h1.length) (srcLen s (h1 ++ [.lst []]) + 1) 0 () (h1 ++ [.lst []]) with
      | none => rw [e3] at e; cases e
      | some r =>
        rw [e3] at e
        cases e
        refine ⟨φ, ρ, h, S, E, y, h1, s, e1, e2, fun φ1 H1 J l1 S1 wk D hD => ?_⟩
        obtain ⟨Sb, lb⟩ := S1.alloc (c := .lst []) (o := .lst []) hD trivial ⟨[], upd_same, .nil⟩
        have wk' : ∀ φ' h' H' j, Le (phi φ1 h1.length D) (h1 ++ [.lst []]) (upd H1 D (.lst [])) φ' h' H' → Sim X.K tabs φ' h' H' → _ := fun φ' h' H' j l S' => wk φ' h' H' j (lb.trans l) S'
        refine ⟨fun i m H' => ∃ φ' h', Le (phi φ1 h1.length D) (h1 ++ [.lst []]) (upd H1 D (.lst [])) φ' h' H' ∧ Sim X.K tabs φ' h' H' ∧ loopN s (lcStep F ρ vs tg ifs elt h1.length) m i () h' = some r, ⟨_, _, _, .refl, Sb, e3⟩, fun i m H' ⟨φ', hh, l, S', run⟩ => ?_⟩
        have hφ : φ' h1.length = D := (l.eq h1.length (by simp)).trans (if_pos rfl)
        have hlt : h1.length < hh.length := Nat.lt_of_lt_of_le (by simp) l.len
        obtain ⟨m', rfl, c⟩ := loop_last run
        rcases c with ⟨hn, rfl⟩ | ⟨x, hx, c⟩
        · refine .inl ⟨(wk' φ' hh H' i l S').1 hn, ?_⟩
          have := q φ' H' (.ref (φ' h1.length)) (l1.trans (lb.trans l)) S' (.ref hlt)
          rw [hφ] at this
          exact this
        · refine .inr ⟨((wk' φ' hh H' i l S').2 x hx).1, _, fun _ h => h, fun xv H2 hy => ?_⟩
          obtain ⟨l2, S2, rx⟩ := ((wk' φ' hh H' i l S').2 x hx).2 xv H2 hy
          have E2 : ERep X.K φ' hh.length H2 ρ σ := l2.erep (l.erep ((l1.trans lb).erep E))
          rcases c with ⟨a', h3, st, run'⟩ | ⟨b, h3, st, _⟩
          · unfold lcStep at st
            cases ea : assignT tg x (wipeE ρ vs) with
            | none => rw [ea] at st; cases st
            | some ρ1 =>
              rw [ea] at st
              simp only [Option.bind_some] at st
              cases et : evT F ifs ρ1 hh with
              | none => rw [et] at st; cases st
              | some t =>
                obtain ⟨t, h4⟩ := t
                rw [et] at st
                simp only [Option.bind_some] at st
                refine ⟨φ', _, hh, x, ρ1, S2, E2.wipe vs, rx, ea, fun σ2 E3 cl => ⟨(cl vs hv).trans (wipe_wipe fun _ h => h), φ', ρ1, hh, S2, E3, t, h4, et, fun φ5 H5 l5 S5 => ?_⟩⟩
                by_cases ht : t = true
                · rw [if_pos ht] at st ⊢
                  cases ev5 : ev F elt ρ1 h4 with
                  | none => rw [ev5] at st; cases st
                  | some pv =>
                    obtain ⟨pv, h6⟩ := pv
                    rw [ev5] at st
                    simp only [Option.bind_some] at st
                    refine ⟨φ5, ρ1, h4, S5, l5.erep E3, pv, h6, ev5, fun φ6 H6 z l6 S6 rz => ?_⟩
                    have lall := l.trans (l2.trans (l5.trans l6))
                    have hφ6 : φ6 h1.length = D := (lall.eq h1.length (by simp)).trans (if_pos rfl)
                    cases ec : h6[h1.length]? with
                    | none => simp only [ec] at st; cases st
                    | some c =>
                      cases c with
                      | dic _ => simp only [ec] at st; cases st
                      | lst acc =>
                        simp only [ec] at st
                        by_cases hz : acc.length < sizeLine
                        · rw [if_pos hz] at st
                          cases st
                          obtain ⟨xs, hxs, rs⟩ := S6.lst ec
                          rw [hφ6] at hxs
                          refine ⟨xs, hxs, by rw [← rs.length]; exact hz, m', Nat.lt_succ_self _, ?_⟩
                          have mu : Stay H6 (upd H6 (φ6 h1.length) (.lst (xs ++ [z]))) := .mut (u := .lst xs) (by rw [hφ6]; exact hxs) trivial
                          obtain ⟨S7, l7⟩ := S6.set (c := .lst (acc ++ [pv])) (o := .lst (xs ++ [z])) ec trivial ⟨_, upd_same, (rs.append (.cons rz .nil)).mono mu (Nat.le_refl _) fun _ _ => rfl⟩
                          rw [hφ6] at S7 l7
                          exact ⟨φ6, _, lall.trans l7, S7, run'⟩
                        · rw [if_neg hz] at st; cases st
                · rw [if_neg ht] at st ⊢
                  cases st
                  exact ⟨m', Nat.lt_succ_self _, φ5, _, l.trans (l2.trans l5), S5, run'⟩
          · exfalso
            unfold lcStep at st
            cases ea : assignT tg x (wipeE ρ vs) with
            | none => rw [ea] at st; cases st
            | some ρ1 =>
              rw [ea] at st
              simp only [Option.bind_some] at st
              cases et : evT F ifs ρ1 hh with
              | none => rw [et] at st; cases st
              | some t =>
                rw [et] at st
                simp only [Option.bind_some] at st
                by_cases ht : t.1 = true
                · rw [if_pos ht] at st
                  cases ev5 : ev F elt ρ1 t.2 with
                  | none => rw [ev5] at st; cases st
                  | some pv =>
                    rw [ev5] at st
                    simp only [Option.bind_some] at st
                    split at st
                    · split at st <;> cases st
                    · cases st
                · rw [if_neg ht] at st; cases st
end
end PI
end

section
set_option Elab.async false
set_option linter.all false
set_option maxRecDepth 100000
set_option maxHeartbeats 2000000
namespace PI
open PySem PySem.Spec PyProof.Rows L2

/-! ### generator expressions and who consumes them -/
def gStep (F : Nat → List PV → IHeap → Option (PV × IHeap)) (c : GC) (ρ : Env') (vs : List Nat) (tg : Tg) (ifs elt : IE) : PV → List PV → IHeap → Option (Sum (List PV) Bool × IHeap) := fun x acc h =>
  (assignT tg x (wipeE ρ vs)).bind fun ρ1 => (evT F ifs ρ1 h).bind fun t => if t.1 = true then (ev F elt ρ1 t.2).bind fun q => genStep c q.1 acc q.2 else some (.inl acc, t.2)
theorem ev_gen {F : Nat → List PV → IHeap → Option (PV × IHeap)} {c : GC} {vs : List Nat} {tg : Tg} {k : IK} {src ifs elt : IE} {ρ : Env'} {h : IHeap} : ev F (.gen c vs tg k src ifs elt) ρ h = (ev F src ρ h).bind fun p => (srcOf k p.1 p.2).bind fun s =>
    (loopN s (gStep F c ρ vs tg ifs elt) (srcLen s p.2 + 1) 0 (genInit c) p.2).bind fun r => (genEnd c r.1).bind fun v => some (v, r.2) := rfl
section
variable {X : Cx} {tabs : List Addr} {F : Nat → List PV → IHeap → Option (PV × IHeap)}
theorem gen_turns {c : GC} {tg : Tg} {vs : List Nat} {ifs elt : IE} {ρ : Env'} {σ : L2.St} {J : It} {s : Src} {φ0 : Nat → Addr} {h0 : IHeap} {H0 : Hp} {m0 : Nat} {r : Sum (List PV) Bool × IHeap}
    {A : (Nat → Addr) → Nat → Hp → List PV → List V → Prop} {C : List V → V → Hp → Prop → Prop} {Ff : List V → Hp → Prop}
    (hv : ∀ i ∈ tgIx tg, i ∈ vs) (S0 : Sim X.K tabs φ0 h0 H0) (E : ERep X.K φ0 h0.length H0 ρ σ) (wk : Wk X.K tabs J s φ0 h0 H0) (run : loopN s (gStep F c ρ vs tg ifs elt) m0 0 (genInit c) h0 = some r) (a0 : A φ0 h0.length H0 (genInit c) [])
    (hA : ∀ φ h H φ' h' H' acc ys, Le φ h H φ' h' H' → A φ h.length H acc ys → A φ' h'.length H' acc ys)
    (hend : ∀ φ' h' H' acc ys, Le φ0 h0 H0 φ' h' H' → Sim X.K tabs φ' h' H' → A φ' h'.length H' acc ys → r = (.inl acc, h') → Ff ys H')
    (hstep : ∀ φ' h' H' acc ys pv z acc' (P : Prop), Sim X.K tabs φ' h' H' → VRep X.K φ' h'.length H' pv z → A φ' h'.length H' acc ys → genStep c pv acc h' = some (.inl acc', h') → (A φ' h'.length H' acc' (ys ++ [z]) → P) → C ys z H' P)
    (hstop : ∀ φ' h' H' acc ys pv z b (P : Prop), Le φ0 h0 H0 φ' h' H' → Sim X.K tabs φ' h' H' → VRep X.K φ' h'.length H' pv z → genStep c pv acc h' = some (.inr b, h') → r = (.inr b, h') → C ys z H' P) :
    ∃ W : Nat → Nat → List V → Hp → Prop, (∃ m, W 0 m [] H0) ∧ GX.Turns (L2.wipe σ vs) W C Ff J (TIg X.K tabs tg) (TIt X.K tabs F ifs) (TIe X.K tabs F elt) vs := by
  have same : ∀ (pv : PV) (acc : List PV) (h : IHeap) (o : Sum (List PV) Bool) (h' : IHeap), genStep c pv acc h = some (o, h') → h' = h := fun pv acc h o h' e => by
    unfold genStep at e
    split at e
    · cases ht : truthy h pv with
      | none => rw [ht] at e; cases e
      | some k => rw [ht] at e; cases k <;> cases e <;> rfl
    · cases ht : truthy h pv with
      | none => rw [ht] at e; cases e
      | some k => rw [ht] at e; cases k <;> cases e <;> rfl
    · split at e
      · split at e
        · cases e; rfl
        · cases e
      · cases e
    · split at e
      · cases e; rfl
      · cases e
  refine ⟨fun i m ys H' => ∃ φ' h' acc, Le φ0 h0 H0 φ' h' H' ∧ Sim X.K tabs φ' h' H' ∧ A φ' h'.length H' acc ys ∧ loopN s (gStep F c ρ vs tg ifs elt) m i acc h' = some r, ⟨m0, φ0, h0, _, .refl, S0, a0, run⟩, fun i m ys H' ⟨φ', hh, acc, l, S', aa, run⟩ => ?_⟩
  obtain ⟨m', rfl, cs⟩ := loop_last run
  rcases cs with ⟨hn, rfl⟩ | ⟨x, hx, cs⟩
  · exact .inl ⟨(wk φ' hh H' i l S').1 hn, hend φ' hh H' acc ys l S' aa rfl⟩
  · refine .inr ⟨((wk φ' hh H' i l S').2 x hx).1, fun xv H2 hy => ?_⟩
    obtain ⟨l2, S2, rx⟩ := ((wk φ' hh H' i l S').2 x hx).2 xv H2 hy
    have E2 : ERep X.K φ' hh.length H2 ρ σ := l2.erep (l.erep E)
    have aa2 := hA _ _ _ _ _ _ _ _ l2 aa
    have go : ∀ (P : L2.St → Hp → Prop) (o : Sum (List PV) Bool) (h3 : IHeap), gStep F c ρ vs tg ifs elt x acc hh = some (o, h3) →
        (∀ ρ1 σ2 h4 φ5 H5 t, assignT tg x (wipeE ρ vs) = some ρ1 → evT F ifs ρ1 hh = some (t, h4) → ERep X.K φ' hh.length H2 ρ1 σ2 → Le φ' hh H2 φ5 h4 H5 → Sim X.K tabs φ5 h4 H5 →
          (if t = true then (ev F elt ρ1 h4).bind fun q => genStep c q.1 acc q.2 else some (.inl acc, h4)) = some (o, h3) →
          if t = true then TIe X.K tabs F elt σ2 H5 (fun y H4 => C ys y H4 (∃ m'', m'' < m' + 1 ∧ (∃ φ' h' acc, Le φ0 h0 H0 φ' h' H4 ∧ Sim X.K tabs φ' h' H4 ∧ A φ' h'.length H4 acc (ys ++ [y]) ∧ loopN s (gStep F c ρ vs tg ifs elt) m'' (i + 1) acc h' = some r)))
          else ∃ m'', m'' < m' + 1 ∧ (∃ φ' h' acc, Le φ0 h0 H0 φ' h' H5 ∧ Sim X.K tabs φ' h' H5 ∧ A φ' h'.length H5 acc ys ∧ loopN s (gStep F c ρ vs tg ifs elt) m'' (i + 1) acc h' = some r)) →
        TIg X.K tabs tg xv (L2.wipe σ vs) H2 fun σ2 H2 => L2.wipe σ2 vs = L2.wipe σ vs ∧ TIt X.K tabs F ifs σ2 H2 fun b H3 => if b = true then TIe X.K tabs F elt σ2 H3 (fun y H4 => C ys y H4 (∃ m'', m'' < m' + 1 ∧ (∃ φ' h' acc, Le φ0 h0 H0 φ' h' H4 ∧ Sim X.K tabs φ' h' H4 ∧ A φ' h'.length H4 acc (ys ++ [y]) ∧ loopN s (gStep F c ρ vs tg ifs elt) m'' (i + 1) acc h' = some r)))
          else ∃ m'', m'' < m' + 1 ∧ (∃ φ' h' acc, Le φ0 h0 H0 φ' h' H3 ∧ Sim X.K tabs φ' h' H3 ∧ A φ' h'.length H3 acc ys ∧ loopN s (gStep F c ρ vs tg ifs elt) m'' (i + 1) acc h' = some r) := fun P o h3 st f => by
      unfold gStep at st
      cases ea : assignT tg x (wipeE ρ vs) with
      | none => rw [ea] at st; cases st
      | some ρ1 =>
        rw [ea] at st
        simp only [Option.bind_some] at st
        cases et : evT F ifs ρ1 hh with
        | none => rw [et] at st; cases st
        | some t =>
          obtain ⟨t, h4⟩ := t
          rw [et] at st
          simp only [Option.bind_some] at st
          refine ⟨φ', _, hh, x, ρ1, S2, E2.wipe vs, rx, ea, fun σ2 E3 cl => ⟨(cl vs hv).trans (wipe_wipe fun _ h => h), φ', ρ1, hh, S2, E3, t, h4, et, fun φ5 H5 l5 S5 => ?_⟩⟩
          exact f ρ1 σ2 h4 φ5 H5 t ea et E3 l5 S5 st
    rcases cs with ⟨acc', h3, st, run'⟩ | ⟨b, h3, st, er⟩
    · refine go (fun _ _ => True) _ _ st fun ρ1 σ2 h4 φ5 H5 t ea et E3 l5 S5 st => ?_
      by_cases ht : t = true
      · rw [if_pos ht] at st ⊢
        cases ev5 : ev F elt ρ1 h4 with
        | none => rw [ev5] at st; cases st
        | some pv =>
          obtain ⟨pv, h6⟩ := pv
          rw [ev5] at st
          simp only [Option.bind_some] at st
          have eh := same _ _ _ _ _ st
          subst eh
          refine ⟨φ5, ρ1, h4, S5, l5.erep E3, pv, h3, ev5, fun φ6 H6 z l6 S6 rz => ?_⟩
          refine hstep φ6 h3 H6 acc ys pv z acc' _ S6 rz (hA _ _ _ _ _ _ _ _ (l5.trans l6) aa2) st fun a' => ?_
          exact ⟨m', Nat.lt_succ_self _, φ6, h3, acc', l.trans (l2.trans (l5.trans l6)), S6, a', run'⟩
      · rw [if_neg ht] at st ⊢
        cases st
        exact ⟨m', Nat.lt_succ_self _, φ5, _, acc, l.trans (l2.trans l5), S5, hA _ _ _ _ _ _ _ _ l5 aa2, run'⟩
    · refine go (fun _ _ => True) _ _ st fun ρ1 σ2 h4 φ5 H5 t ea et E3 l5 S5 st => ?_
      by_cases ht : t = true
      · rw [if_pos ht] at st ⊢
        cases ev5 : ev F elt ρ1 h4 with
        | none => rw [ev5] at st; cases st
        | some pv =>
          obtain ⟨pv, h6⟩ := pv
          rw [ev5] at st
          simp only [Option.bind_some] at st
          have eh := same _ _ _ _ _ st
          subst eh
          refine ⟨φ5, ρ1, h4, S5, l5.erep E3, pv, h3, ev5, fun φ6 H6 z l6 S6 rz => ?_⟩
          exact hstop φ6 h3 H6 acc ys pv z b _ (l.trans (l2.trans (l5.trans l6))) S6 rz st er
      · rw [if_neg ht] at st
        cases st
/-- from the reading: the walk's parts -/
theorem gen_open {c : GC} {tg : Tg} {vs : List Nat} {k : IK} {src ifs elt : IE} {σ : L2.St} {H : Hp} {Q : VK} {P : Addr} {R : It → Hp → Prop} (hP : P ∈ tabs) (hq : TIe X.K tabs F (.gen c vs tg k src ifs elt) σ H Q)
    (f : ∀ ρ φ1 h1 H1 J s r v, ERep X.K φ1 h1.length H1 ρ σ → Sim X.K tabs φ1 h1 H1 → Wk X.K tabs J s φ1 h1 H1 → loopN s (gStep F c ρ vs tg ifs elt) (srcLen s h1 + 1) 0 (genInit c) h1 = some r → genEnd c r.1 = some v →
      (∀ φ' H' z, Le φ1 h1 H1 φ' r.2 H' → Sim X.K tabs φ' r.2 H' → VRep X.K φ' r.2.length H' v z → Q z H') → R J H1) :
    TIi X.K tabs F k src σ H fun J H1 => GxR.TabG H1 P ∧ ∀ H2, GxR.Tabbed P H1 H2 → R J H2 := by
  obtain ⟨φ, ρ, h, S, E, v, h', e, q⟩ := hq
  rw [ev_gen] at e
  cases e1 : ev F src ρ h with
  | none => rw [e1] at e; cases e
  | some p =>
    obtain ⟨y, h1⟩ := p
    rw [e1] at e
    simp only [Option.bind_some] at e
    cases e2 : srcOf k y h1 with
    | none => rw [e2] at e; cases e
    | some s =>
      rw [e2] at e
      simp only [Option.bind_some] at e
      cases e3 : loopN s (gStep F c ρ vs tg ifs elt) (srcLen s h1 + 1) 0 (genInit c) h1 with
      | none => rw [e3] at e; cases e
      | some r =>
        rw [e3] at e
        simp only [Option.bind_some] at e
        cases e4 : genEnd c r.1 with
        | none => rw [e4] at e; cases e
        | some v =>
          rw [e4] at e
          cases e
          refine ⟨φ, ρ, h, S, E, y, h1, s, e1, e2, fun φ1 H1 J l1 S1 wk => ⟨S1.tab P hP, fun H2 t => ?_⟩⟩
          obtain ⟨S2, l2⟩ := S1.tabbed hP t
          exact f ρ φ1 h1 H2 J s r _ ((l1.trans l2).erep E) S2 (fun φ' h' H' j l S' => wk φ' h' H' j (l2.trans l) S') e3 e4 fun φ' H' z l S' rz => q φ' H' z ((l1.trans l2).trans l) S' rz
theorem genall_go {tg : Tg} {vs : List Nat} {k : IK} {src ifs elt : IE} {σ : L2.St} {H : Hp} {Q : VK} {P : Addr} (hP : P ∈ tabs) (hv : ∀ i ∈ tgIx tg, i ∈ vs) (hq : TIe X.K tabs F (.gen .all vs tg k src ifs elt) σ H Q) :
    GX.tGenB P X.K false (TIi X.K tabs F k src) (TIg X.K tabs tg) (TIt X.K tabs F ifs) (TIe X.K tabs F elt) vs σ H Q := by
  refine gen_open hP hq fun ρ φ1 h1 H1 J s r v E S wk run he f => ?_
  refine gen_turns (A := fun _ _ _ _ _ => True) hv S E wk run trivial (fun _ _ _ _ _ _ _ _ _ _ => trivial) (fun φ' h' H' acc ys l S' _ er => ?_) (fun φ' h' H' acc ys pv z acc' PP S' rz _ st hp => ?_) (fun φ' h' H' acc ys pv z b PP l S' rz st er => ?_)
  · subst er
    cases he
    exact f φ' H' _ l S' (.bl _)
  · unfold genStep at st
    simp only at st
    cases ht : truthy h' pv with
    | none => rw [ht] at st; cases st
    | some k =>
      rw [ht] at st
      cases k with
      | false => cases st
      | true => exact ⟨true, tru_of S' rz ht, by simpa using hp⟩
  · unfold genStep at st
    simp only at st
    cases ht : truthy h' pv with
    | none => rw [ht] at st; cases st
    | some k =>
      rw [ht] at st
      cases k with
      | true => cases st
      | false =>
        cases st
        subst er
        cases he
        exact ⟨false, tru_of S' rz ht, by rw [if_pos rfl]; exact f φ' H' _ l S' (.bl _)⟩
theorem genany_go {tg : Tg} {vs : List Nat} {k : IK} {src ifs elt : IE} {σ : L2.St} {H : Hp} {Q : VK} {P : Addr} (hP : P ∈ tabs) (hv : ∀ i ∈ tgIx tg, i ∈ vs) (hq : TIe X.K tabs F (.gen .any vs tg k src ifs elt) σ H Q) :
    GX.tGenB P X.K true (TIi X.K tabs F k src) (TIg X.K tabs tg) (TIt X.K tabs F ifs) (TIe X.K tabs F elt) vs σ H Q := by
  refine gen_open hP hq fun ρ φ1 h1 H1 J s r v E S wk run he f => ?_
  refine gen_turns (A := fun _ _ _ _ _ => True) hv S E wk run trivial (fun _ _ _ _ _ _ _ _ _ _ => trivial) (fun φ' h' H' acc ys l S' _ er => ?_) (fun φ' h' H' acc ys pv z acc' PP S' rz _ st hp => ?_) (fun φ' h' H' acc ys pv z b PP l S' rz st er => ?_)
  · subst er
    cases he
    exact f φ' H' _ l S' (.bl _)
  · unfold genStep at st
    simp only at st
    cases ht : truthy h' pv with
    | none => rw [ht] at st; cases st
    | some k =>
      rw [ht] at st
      cases k with
      | true => cases st
      | false => exact ⟨false, tru_of S' rz ht, by simpa using hp⟩
  · unfold genStep at st
    simp only at st
    cases ht : truthy h' pv with
    | none => rw [ht] at st; cases st
    | some k =>
      rw [ht] at st
      cases k with
      | false => cases st
      | true =>
        cases st
        subst er
        cases he
        exact ⟨true, tru_of S' rz ht, by rw [if_pos rfl]; exact f φ' H' _ l S' (.bl _)⟩
theorem gentup_go {tg : Tg} {vs : List Nat} {k : IK} {src ifs elt : IE} {σ : L2.St} {H : Hp} {Q : VK} {P : Addr} (hP : P ∈ tabs) (hv : ∀ i ∈ tgIx tg, i ∈ vs) (hq : TIe X.K tabs F (.gen .tup vs tg k src ifs elt) σ H Q) :
    GX.tGenT P (TIi X.K tabs F k src) (TIg X.K tabs tg) (TIt X.K tabs F ifs) (TIe X.K tabs F elt) vs σ H Q := by
  refine gen_open hP hq fun ρ φ1 h1 H1 J s r v E S wk run he f => ?_
  refine gen_turns (A := fun φ n H acc ys => VReps X.K φ n H acc ys) hv S E wk run .nil (fun _ _ _ _ _ _ _ _ l a => l.reps a) (fun φ' h' H' acc ys l S' aa er p hp => ?_) (fun φ' h' H' acc ys pv z acc' PP S' rz aa st hp => ?_) (fun φ' h' H' acc ys pv z b PP l S' rz st er => ?_)
  · subst er
    cases he
    obtain ⟨S2, l2⟩ := S'.tup (xs := ys) hp
    exact f φ' _ _ (l.trans l2) S2 (.tup (.inl (.inl upd_same)) (l2.reps aa))
  · unfold genStep at st
    simp only at st
    by_cases hz : acc.length < sizeLine
    · rw [if_pos hz] at st
      cases st
      exact ⟨by rw [← aa.length]; exact hz, hp (aa.append (.cons rz .nil))⟩
    · rw [if_neg hz] at st; cases st
  · unfold genStep at st
    simp only at st
    split at st <;> cases st
theorem gensum_go {tg : Tg} {vs : List Nat} {k : IK} {src ifs elt : IE} {σ : L2.St} {H : Hp} {Q : VK} {P : Addr} (hP : P ∈ tabs) (hv : ∀ i ∈ tgIx tg, i ∈ vs) (hq : TIe X.K tabs F (.gen .sum vs tg k src ifs elt) σ H Q) :
    GX.tGenS P (TIi X.K tabs F k src) (TIg X.K tabs tg) (TIt X.K tabs F ifs) (TIe X.K tabs F elt) vs σ H Q := by
  refine gen_open hP hq fun ρ φ1 h1 H1 J s r v E S wk run he f => ?_
  refine gen_turns (A := fun φ n H acc ys => acc = [.int (GX.vsum ys)]) hv S E wk run rfl (fun _ _ _ _ _ _ _ _ l a => a) (fun φ' h' H' acc ys l S' aa er => ?_) (fun φ' h' H' acc ys pv z acc' PP S' rz aa st hp => ?_) (fun φ' h' H' acc ys pv z b PP l S' rz st er => ?_)
  · subst er aa
    cases he
    exact f φ' H' _ l S' (.int _)
  · subst aa
    unfold genStep at st
    cases pv with
    | int i =>
      cases rz
      simp only at st
      split at st
      · rename_i hc
        cases st
        simp only [Bool.and_eq_true, decide_eq_true_eq] at hc
        exact ⟨i, rfl, ⟨hc.1.1, hc.1.2⟩, ⟨hc.2.1, hc.2.2⟩, hp (by rw [GX.vsum_snoc])⟩
      · cases st
    | _ => simp at st
  · unfold genStep at st
    simp only at st
    split at st
    · split at st <;> cases st
    · cases st
end
end PI
end

section
set_option Elab.async false
set_option linter.all false
set_option maxRecDepth 100000
set_option maxHeartbeats 2000000
namespace PI
open PySem PySem.Spec PyProof.Rows L2

/-! ### statements -/
def Lands (K : PySem.W.Frag) (φ : Nat → Addr) (n : Nat) (H : Hp) (D : Ends) : Fl → Prop
  | .nx ρ => ∀ σ, ERep K φ n H ρ σ → D.nx σ H
  | .rt v => ∀ z, VRep K φ n H v z → D.rt z H
  | .bk ρ => ∀ σ, ERep K φ n H ρ σ → D.bk σ H
  | .ct ρ => ∀ σ, ERep K φ n H ρ σ → D.ct σ H
def ThenS (K : PySem.W.Frag) (tabs : List Addr) (φ : Nat → Addr) (h : IHeap) (H : Hp) (r : Option (Fl × IHeap)) (D : Ends) : Prop :=
  ∃ fl h', r = some (fl, h') ∧ ∀ (φ' : Nat → Addr) (H' : Hp), Le φ h H φ' h' H' → Sim K tabs φ' h' H' → Lands K φ' h'.length H' D fl
def TIst (K : PySem.W.Frag) (tabs : List Addr) (F : Nat → List PV → IHeap → Option (PV × IHeap)) (wf : Nat) (s : IS) : TS := fun D σ H => ∃ φ ρ h, Sim K tabs φ h H ∧ ERep K φ h.length H ρ σ ∧ ThenS K tabs φ h H (ex F wf s ρ h) D
section
variable {X : Cx} {tabs : List Addr} {F : Nat → List PV → IHeap → Option (PV × IHeap)} {wf : Nat} {e o i : Expr} {ie io ii : IE} {st : Stmt} {rest body : List Stmt} {sa sb : IS} {pos pos' : Pos}
theorem PSimp {t t' : TS} (p : PS X st t) (i : ∀ D σ H, t' D σ H → t D σ H) : PS X st t' := ⟨fun pins s σ H D I h => p.run pins s σ H D I (i _ _ _ h)⟩
theorem PSsimp {t t' : TS} (p : PSs X rest t) (i : ∀ D σ H, t' D σ H → t D σ H) : PSs X rest t' := ⟨fun pins s σ H D I h => p.run pins s σ H D I (i _ _ _ h)⟩
theorem st_nil : PSs X [] (TIst X.K tabs F wf .nil) := PSsimp pss_nil fun D σ H ⟨φ, ρ, h, S, E, fl, h', e, q⟩ => by
  cases e; exact q φ H .refl S σ E
theorem st_pass : PS X (.Pass pos) (TIst X.K tabs F wf .pass) := PSimp ps_pass fun D σ H ⟨φ, ρ, h, S, E, fl, h', e, q⟩ => by
  cases e; exact q φ H .refl S σ E
theorem st_doc {x : Str} {j : Nat} : PS X (.Expr (.Constant (.str x) j pos) pos') (TIst X.K tabs F wf .pass) := PSimp ps_doc fun D σ H ⟨φ, ρ, h, S, E, fl, h', e, q⟩ => by
  cases e; exact q φ H .refl S σ E
theorem st_brk : PS X (.Break pos) (TIst X.K tabs F wf .brk) := PSimp ps_break fun D σ H ⟨φ, ρ, h, S, E, fl, h', e, q⟩ => by
  cases e; exact q φ H .refl S σ E
theorem st_cnt : PS X (.Continue pos) (TIst X.K tabs F wf .cnt) := PSimp ps_continue fun D σ H ⟨φ, ρ, h, S, E, fl, h', e, q⟩ => by
  cases e; exact q φ H .refl S σ E
theorem st_never : PS X st (TIst X.K tabs F wf .never) := PSimp ps_never fun D σ H ⟨φ, ρ, h, S, E, fl, h', e, q⟩ => by cases e
theorem st_seq (h1 : PS X st (TIst X.K tabs F wf sa)) (h2 : PSs X rest (TIst X.K tabs F wf sb)) : PSs X (st :: rest) (TIst X.K tabs F wf (.seq sa sb)) := by
  refine PSsimp (pss_cons h1 h2) fun D σ H ⟨φ, ρ, h, S, E, fl, h', e, q⟩ => ⟨φ, ρ, h, S, E, ?_⟩
  have e : (ex F wf sa ρ h).bind (fun p => match p.1 with | .nx ρ' => ex F wf sb ρ' p.2 | fl => some (fl, p.2)) = some (fl, h') := e
  cases e1 : ex F wf sa ρ h with
  | none => rw [e1] at e; cases e
  | some p =>
    obtain ⟨f1, h1⟩ := p
    rw [e1] at e
    simp only [Option.bind_some] at e
    refine ⟨f1, h1, rfl, fun φ1 H1 l1 S1 => ?_⟩
    cases f1 with
    | nx ρ' => exact fun σ' E' => ⟨φ1, ρ', h1, S1, E', fl, h', e, fun φ2 H2 l2 S2 => q φ2 H2 (l1.trans l2) S2⟩
    | rt v => cases e; exact q φ1 H1 l1 S1
    | bk ρ' => cases e; exact q φ1 H1 l1 S1
    | ct ρ' => cases e; exact q φ1 H1 l1 S1
theorem asg_go {t : Tg} {D : Ends} {σ : L2.St} {H : Hp} (h : TIst X.K tabs F wf (.asg t ie) D σ H) : TIe X.K tabs F ie σ H fun x H1 => TIg X.K tabs t x σ H1 D.nx := by
  obtain ⟨φ, ρ, h, S, E, fl, h', e, q⟩ := h
  refine ⟨φ, ρ, h, S, E, ?_⟩
  have e : (ev F ie ρ h).bind (fun p => (assignT t p.1 ρ).bind fun ρ' => some (.nx ρ', p.2)) = some (fl, h') := e
  cases e1 : ev F ie ρ h with
  | none => rw [e1] at e; cases e
  | some p =>
    obtain ⟨v, h1⟩ := p
    rw [e1] at e
    simp only [Option.bind_some] at e
    cases e2 : assignT t v ρ with
    | none => rw [e2] at e; cases e
    | some ρ' =>
      rw [e2] at e
      cases e
      exact ⟨v, _, rfl, fun φ1 H1 z l S1 r => ⟨φ1, ρ, _, v, ρ', S1, l.erep E, r, e2, fun σ' E' _ => q φ1 H1 l S1 σ' E'⟩⟩
def isComp : Expr → Bool
  | .ListComp .. => true
  | .SetComp .. => true
  | .DictComp .. => true
  | _ => false
theorem noswap {t : Option Expr} {n : Nat} {env : Env} (h : isComp e = false) : swapsWith e t n env = pure false := by
  cases e <;> first | rfl | cases h
def isDisp : Expr → Bool
  | .Tuple .. => true
  | .List .. => true
  | _ => false
theorem st_asgN {k : Nat} {x : Str} (hN : X.N.Nodup) (hi : X.N[k]? = some x) (hx : Loc X.env.scope x) (he : PE X e (TIe X.K tabs F ie)) (hs : swapsWith e (some (.Name x pos')) pos.line X.env = pure false) (hf : X.fn x = true ∨ X.env.scope.names.lookup x = some .local) :
    PS X (.Assign [.Name x pos'] e pos) (TIst X.K tabs F wf (.asg (.nm k) ie)) := by
  refine PSimp (ps_set hN hi hx he hs hf) fun D σ H h => ?_
  obtain ⟨φ, ρ, h, S, E, q⟩ := asg_go h
  refine ⟨φ, ρ, h, S, E, q.imp fun x H1 ⟨φ1, ρ1, h1, w, ρ', S1, E1, r, e, f⟩ => ?_⟩
  cases e
  exact f _ (E1.set r) fun vs hv => wipe_set (hv k (by simp [tgIx]))
theorem st_asgT {es : List Expr} {j : Nat} {t : Tg} {tpos : Pos} (he : PE X e (TIe X.K tabs F ie)) (hg : PG X (.Tuple es j tpos) (TIg X.K tabs t)) (hd : isDisp e = false) : PS X (.Assign [.Tuple es j tpos] e pos) (TIst X.K tabs F wf (.asg t ie)) := by
  refine PSimp (ps_asg he hg (by cases e <;> rfl) (by cases e <;> first | rfl | cases hd) rfl) fun D σ H h => asg_go h
theorem st_sub (hu : X.A.units + 1 < cLine) (hsl : isSlice i = false) (ho : PE X o (TIe X.K tabs F io)) (hi : PE X i (TIe X.K tabs F ii)) (he : PE X e (TIe X.K tabs F ie)) : PS X (.Assign [.Subscript o i pos'] e pos) (TIst X.K tabs F wf (.sub io ii ie)) := by
  refine PSimp (ps_asg he (pg_sub ho hi (setS (tabs := tabs) hu) (by intro v; cases i <;> first | rfl | cases hsl)) (by cases e <;> rfl) (by cases e <;> rfl) rfl) fun D σ H ⟨φ, ρ, h, S, E, fl, h', e, q⟩ => ⟨φ, ρ, h, S, E, ?_⟩
  have e : (ev F ie ρ h).bind (fun p => (ev F io ρ p.2).bind fun q => (ev F ii ρ q.2).bind fun u => (setop q.1 u.1 p.1 u.2).bind fun h4 => some (.nx ρ, h4)) = some (fl, h') := e
  cases e1 : ev F ie ρ h with
  | none => rw [e1] at e; cases e
  | some p =>
    obtain ⟨v, h1⟩ := p
    rw [e1] at e
    simp only [Option.bind_some] at e
    refine ⟨v, h1, rfl, fun φ1 H1 z l S1 r => ⟨φ1, ρ, h1, S1, l.erep E, ?_⟩⟩
    cases e2 : ev F io ρ h1 with
    | none => rw [e2] at e; cases e
    | some p =>
      obtain ⟨w, h2⟩ := p
      rw [e2] at e
      simp only [Option.bind_some] at e
      refine ⟨w, h2, rfl, fun φ2 H2 y l2 S2 r2 => ⟨φ2, ρ, h2, S2, l2.erep (l.erep E), ?_⟩⟩
      cases e3 : ev F ii ρ h2 with
      | none => rw [e3] at e; cases e
      | some p =>
        obtain ⟨u, h3⟩ := p
        rw [e3] at e
        simp only [Option.bind_some] at e
        cases e4 : setop w u v h3 with
        | none => rw [e4] at e; cases e
        | some h4 =>
          rw [e4] at e
          cases e
          refine ⟨u, h3, rfl, fun φ3 H3 x l3 S3 r3 => ⟨φ3, w, u, v, h3, _, S3, l3.rep r2, r3, (l2.trans l3).rep r, e4, fun H' l' S' => ?_⟩⟩
          have lall := (l.trans (l2.trans l3)).trans l'
          exact q φ3 H' lall S' σ (lall.erep E)
theorem ipA {op : Bop} : PIp X (opO op) (fun x y H Q => ∃ φ a b h, Sim X.K tabs φ h H ∧ VRep X.K φ h.length H a x ∧ VRep X.K φ h.length H b y ∧ Then X.K tabs φ h H (augop op a b h) Q) := by
  intro pins s σ H x y v u Q I rx ry ⟨φ, a, b, h, S, ra, rb, q⟩
  have q0 := q
  obtain ⟨w, h', e, _⟩ := q0
  have two : ∃ i j, a = .int i ∧ b = .int j := by
    unfold augop at e
    split at e <;> first | exact ⟨_, _, rfl, rfl⟩ | cases e
  obtain ⟨i, j, rfl, rfl⟩ := two
  cases ra
  cases rb
  obtain ⟨t, rfl⟩ := rx
  obtain ⟨t', rfl⟩ := ry
  cases op <;> first | (cases e; done) | skip
  · exact iadd_int ⟨.int _, H, I.tok _, ⟨_, rfl⟩, q.here rfl S (.int _)⟩
  · exact isub_int ⟨.int _, H, I.tok _, ⟨_, rfl⟩, q.here rfl S (.int _)⟩
  · have e : (if i.natAbs.log2 + j.natAbs.log2 < 1000000 then some (PV.int (i * j), h) else none) = some (w, h') := e
    by_cases hz : i.natAbs.log2 + j.natAbs.log2 < 1000000
    · exact PyProof.Rows.imul_int ⟨.int _, H, I.tok _, ⟨_, rfl⟩, q.here (v := .int (i * j)) (by show (if i.natAbs.log2 + j.natAbs.log2 < 1000000 then some (PV.int (i * j), h) else none) = _; rw [if_pos hz]) S (.int _)⟩ (CMulW.ok hz)
    · rw [if_neg hz] at e; cases e
  · have e : (if 0 < j ∧ middling j then some (PV.int (i / j), h) else none) = some (w, h') := e
    by_cases hz : 0 < j ∧ middling j = true
    · have h2 : j.natAbs.log2 < 9000 := by simpa [middling] using hz.2
      refine PyProof.Rows.ifloordiv_int (by omega) ?_ (.inl (PyProof.noPylong_of_log2 h2))
      rw [Int.fdiv_eq_ediv_of_nonneg i (by omega)]
      exact ⟨.int _, H, I.tok _, ⟨_, rfl⟩, q.here (v := .int (i / j)) (by show (if 0 < j ∧ middling j then some (PV.int (i / j), h) else none) = _; rw [if_pos hz]) S (.int _)⟩
    · rw [if_neg hz] at e; cases e
theorem st_aug {k : Nat} {x : Str} {op : Bop} (hN : X.N.Nodup) (hi : X.N[k]? = some x) (hx : Loc X.env.scope x) (he : PE X e (TIe X.K tabs F ie)) (hf : X.fn x = true ∨ X.env.scope.names.lookup x = some .local) :
    PS X (.AugAssign (.Name x pos') (opO op) e pos) (TIst X.K tabs F wf (.aug k op ie)) := by
  refine PSimp (ps_aug hN hi hx he (ipA (tabs := tabs) (op := op)) hf) fun D σ H ⟨φ, ρ, h, S, E, fl, h', e, q⟩ => ?_
  have e : (match ρ[k]? with
    | some (some x) => (ev F ie ρ h).bind fun p => (augop op x p.1 p.2).bind fun q => some (.nx (ρ.set k (some q.1)), q.2)
    | _ => none) = some (fl, h') := e
  split at e
  · rename_i w hw
    obtain ⟨z, hz, rz⟩ := E.2 k w hw
    refine ⟨z, hz, φ, ρ, h, S, E, ?_⟩
    cases e1 : ev F ie ρ h with
    | none => rw [e1] at e; cases e
    | some p =>
      obtain ⟨v, h1⟩ := p
      rw [e1] at e
      simp only [Option.bind_some] at e
      cases e2 : augop op w v h1 with
      | none => rw [e2] at e; cases e
      | some p2 =>
        obtain ⟨u, h2⟩ := p2
        rw [e2] at e
        cases e
        exact ⟨v, h1, rfl, fun φ1 H1 y l S1 r => ⟨φ1, w, v, h1, S1, l.rep rz, r, u, _, e2, fun φ2 H2 y2 l2 S2 r2 => q φ2 H2 (l.trans l2) S2 _ (((l.trans l2).erep E).set r2)⟩⟩
  · cases e
theorem st_ex (he : PE X e (TIe X.K tabs F ie)) (hs : isComp e = false) : PS X (.Expr e pos) (TIst X.K tabs F wf (.ex ie)) := by
  refine PSimp (ps_expr he (noswap hs)) fun D σ H ⟨φ, ρ, h, S, E, fl, h', e, q⟩ => ⟨φ, ρ, h, S, E, ?_⟩
  have e : (ev F ie ρ h).bind (fun p => some (.nx ρ, p.2)) = some (fl, h') := e
  cases e1 : ev F ie ρ h with
  | none => rw [e1] at e; cases e
  | some p =>
    obtain ⟨v, h1⟩ := p
    rw [e1] at e
    cases e
    exact ⟨v, _, rfl, fun φ1 H1 y l S1 r => q φ1 H1 l S1 σ (l.erep E)⟩
theorem st_ret (he : PE X e (TIe X.K tabs F ie)) : PS X (.Return (some e) pos) (TIst X.K tabs F wf (.ret ie)) := by
  refine PSimp (ps_ret he) fun D σ H ⟨φ, ρ, h, S, E, fl, h', e, q⟩ => ⟨φ, ρ, h, S, E, ?_⟩
  have e : (ev F ie ρ h).bind (fun p => some (.rt p.1, p.2)) = some (fl, h') := e
  cases e1 : ev F ie ρ h with
  | none => rw [e1] at e; cases e
  | some p =>
    obtain ⟨v, h1⟩ := p
    rw [e1] at e
    cases e
    exact ⟨v, _, rfl, fun φ1 H1 y l S1 r => q φ1 H1 l S1 y r⟩
theorem st_ret0 : PS X (.Return none pos) (TIst X.K tabs F wf (.ret (.con .non))) := PSimp ps_retN fun D σ H ⟨φ, ρ, h, S, E, fl, h', e, q⟩ => by
  cases e
  exact q φ H .refl S _ .non
theorem st_if {c : Expr} {ic : IE} {a b : List Stmt} (hc : PT X c (TIt X.K tabs F ic)) (ha : PSs X a (TIst X.K tabs F wf sa)) (hb : PSs X b (TIst X.K tabs F wf sb)) : PS X (.If c a b pos) (TIst X.K tabs F wf (.ife ic sa sb)) := by
  refine PSimp (ps_if hc ha hb) fun D σ H ⟨φ, ρ, h, S, E, fl, h', e, q⟩ => ⟨φ, ρ, h, S, E, ?_⟩
  have e : (evT F ic ρ h).bind (fun p => if p.1 = true then ex F wf sa ρ p.2 else ex F wf sb ρ p.2) = some (fl, h') := e
  cases e1 : evT F ic ρ h with
  | none => rw [e1] at e; cases e
  | some p =>
    obtain ⟨k, h1⟩ := p
    rw [e1] at e
    simp only [Option.bind_some] at e
    refine ⟨k, h1, rfl, fun φ1 H1 l S1 => ?_⟩
    by_cases hk : k = true
    · rw [if_pos hk] at e ⊢
      exact ⟨φ1, ρ, h1, S1, l.erep E, fl, h', e, fun φ2 H2 l2 S2 => q φ2 H2 (l.trans l2) S2⟩
    · rw [if_neg hk] at e ⊢
      exact ⟨φ1, ρ, h1, S1, l.erep E, fl, h', e, fun φ2 H2 l2 S2 => q φ2 H2 (l.trans l2) S2⟩
theorem st_while {c : Expr} {ic : IE} (hp : PassesOwn (model X.prog X.w) X.A X.env X.xe) (hc : PT X c (TIt X.K tabs F ic)) (hb : PSs X body (TIst X.K tabs F wf sb)) : PS X (.While c body [] pos) (TIst X.K tabs F wf (.while_ ic sb)) := by
  refine PSimp (ps_while hp hc hb) fun D σ H ⟨φ, ρ, h, S, E, fl, h', e, q⟩ => ?_
  have e : whileN (evT F ic) (ex F wf sb) wf ρ h = some (fl, h') := e
  refine ⟨fun m σ' H' => ∃ φ' ρ' hh, Le φ h H φ' hh H' ∧ Sim X.K tabs φ' hh H' ∧ ERep X.K φ' hh.length H' ρ' σ' ∧ whileN (evT F ic) (ex F wf sb) m ρ' hh = some (fl, h'), ⟨wf, φ, ρ, h, .refl, S, E, e⟩, fun m σ' H' ⟨φ', ρ', hh, l, S', E', run⟩ => ?_⟩
  cases m with
  | zero => cases run
  | succ m =>
    unfold whileN at run
    cases e1 : evT F ic ρ' hh with
    | none => rw [e1] at run; cases run
    | some p =>
      obtain ⟨k, h1⟩ := p
      rw [e1] at run
      simp only [Option.bind_some] at run
      refine ⟨φ', ρ', hh, S', E', k, h1, e1, fun φ1 H1 l1 S1 => ?_⟩
      by_cases hk : k = true
      · rw [if_pos hk] at run ⊢
        refine ⟨_, fun σ2 H2 z => z, φ1, ρ', h1, S1, l1.erep E', ?_⟩
        cases e2 : ex F wf sb ρ' h1 with
        | none => rw [e2] at run; cases run
        | some p2 =>
          obtain ⟨f2, h2⟩ := p2
          rw [e2] at run
          simp only [Option.bind_some] at run
          refine ⟨f2, h2, rfl, fun φ2 H2 l2 S2 => ?_⟩
          have lall := l.trans (l1.trans l2)
          cases f2 with
          | nx ρ2 => exact fun σ2 E2 => ⟨m, Nat.lt_succ_self _, φ2, ρ2, h2, lall, S2, E2, run⟩
          | ct ρ2 => exact fun σ2 E2 => ⟨m, Nat.lt_succ_self _, φ2, ρ2, h2, lall, S2, E2, run⟩
          | bk ρ2 => cases run; exact q φ2 H2 lall S2
          | rt v => cases run; exact q φ2 H2 lall S2
      · rw [if_neg hk] at run ⊢
        cases run
        exact q φ1 H1 (l.trans l1) S1 σ' (l1.erep E')
theorem ex_for {t : Tg} {k : IK} {ρ : Env'} {h : IHeap} : ex F wf (.for_ t k ie sb) ρ h = (ev F ie ρ h).bind fun p => (srcOf k p.1 p.2).bind fun s =>
    (loopN s (fun x ρ h => (assignT t x ρ).bind fun ρ1 => (ex F wf sb ρ1 h).bind fun q => some (forEnd q.1, q.2)) (srcLen s p.2 + 1) 0 ρ p.2).bind fun r => match r.1 with
      | .inl ρ' => some (.nx ρ', r.2)
      | .inr fl => some (fl, r.2) := rfl
theorem st_for {tg iter : Expr} {t : Tg} {k : IK} (hp : PassesOwn (model X.prog X.w) X.A X.env X.xe) (hc : X.calm = true) (hi : PI X tg iter (TIi X.K tabs F k ie)) (hg : PG X tg (TIg X.K tabs t)) (hb : PSs X body (TIst X.K tabs F wf sb)) (hs : ∀ x, foldedSetIterable iter X.env x = pure x) :
    PS X (.For tg iter body [] pos) (TIst X.K tabs F wf (.for_ t k ie sb)) := by
  refine PSimp (ps_for hp hc hi hg hb hs) fun D σ H ⟨φ, ρ, h, S, E, fl, h', e, q⟩ => ?_
  rw [ex_for] at e
  cases e1 : ev F ie ρ h with
  | none => rw [e1] at e; cases e
  | some p =>
    obtain ⟨y, h1⟩ := p
    rw [e1] at e
    simp only [Option.bind_some] at e
    cases e2 : srcOf k y h1 with
    | none => rw [e2] at e; cases e
    | some s =>
      rw [e2] at e
      simp only [Option.bind_some] at e
      generalize hstep : (fun (x : PV) (ρ : Env') (h : IHeap) => (assignT t x ρ).bind fun ρ1 => (ex F wf sb ρ1 h).bind fun q => some (forEnd q.1, q.2)) = step at e
      cases e3 : loopN s step (srcLen s h1 + 1) 0 ρ h1 with
      | none => rw [e3] at e; cases e
      | some r =>
        rw [e3] at e
        simp only [Option.bind_some] at e
        refine ⟨φ, ρ, h, S, E, y, h1, s, e1, e2, fun φ1 H1 J l1 S1 wk => ?_⟩
        refine ⟨fun i m σ' H' => ∃ φ' ρ' hh, Le φ1 h1 H1 φ' hh H' ∧ Sim X.K tabs φ' hh H' ∧ ERep X.K φ' hh.length H' ρ' σ' ∧ loopN s step m i ρ' hh = some r, ⟨_, φ1, ρ, h1, .refl, S1, l1.erep E, e3⟩, fun i m σ' H' ⟨φ', ρ', hh, l, S', E', run⟩ => ?_⟩
        obtain ⟨m', rfl, cs⟩ := loop_last run
        rcases cs with ⟨hn, rfl⟩ | ⟨x, hx, cs⟩
        · cases e
          exact .inl ⟨(wk φ' _ H' i l S').1 hn, q φ' H' (l1.trans l) S' σ' E'⟩
        · refine .inr ⟨((wk φ' hh H' i l S').2 x hx).1, _, fun _ _ h => h, fun xv H2 hy => ?_⟩
          obtain ⟨l2, S2, rx⟩ := ((wk φ' hh H' i l S').2 x hx).2 xv H2 hy
          have E2 := l2.erep E'
          have go : ∀ (o : Sum Env' Fl) (h3 : IHeap), step x ρ' hh = some (o, h3) → ∃ ρ1 f2, assignT t x ρ' = some ρ1 ∧ ex F wf sb ρ1 hh = some (f2, h3) ∧ o = forEnd f2 := fun o h3 st => by
            subst hstep
            cases ea : assignT t x ρ' with
            | none => simp only [ea] at st; cases st
            | some ρ1 =>
              simp only [ea, Option.bind_some] at st
              cases ex2 : ex F wf sb ρ1 hh with
              | none => rw [ex2] at st; cases st
              | some z =>
                rw [ex2] at st
                cases st
                exact ⟨ρ1, z.1, rfl, ex2, rfl⟩
          rcases cs with ⟨a', h3, st, run'⟩ | ⟨b, h3, st, er⟩
          · obtain ⟨ρ1, f2, ea, ex2, eo⟩ := go _ _ st
            refine ⟨φ', ρ', hh, x, ρ1, S2, E2, rx, ea, fun σ2 E3 _ => ⟨φ', ρ1, hh, S2, E3, f2, h3, ex2, fun φ3 H3 l3 S3 => ?_⟩⟩
            cases f2 with
            | nx ρ2 => cases eo; exact fun σ3 E4 => ⟨m', Nat.lt_succ_self _, φ3, _, h3, l.trans (l2.trans l3), S3, E4, run'⟩
            | ct ρ2 => cases eo; exact fun σ3 E4 => ⟨m', Nat.lt_succ_self _, φ3, _, h3, l.trans (l2.trans l3), S3, E4, run'⟩
            | bk ρ2 => cases eo
            | rt v => cases eo
          · obtain ⟨ρ1, f2, ea, ex2, eo⟩ := go _ _ st
            subst er
            refine ⟨φ', ρ', hh, x, ρ1, S2, E2, rx, ea, fun σ2 E3 _ => ⟨φ', ρ1, hh, S2, E3, f2, h3, ex2, fun φ3 H3 l3 S3 => ?_⟩⟩
            have lall := l1.trans (l.trans (l2.trans l3))
            cases f2 with
            | nx ρ2 => cases eo
            | ct ρ2 => cases eo
            | bk ρ2 => cases eo; cases e; exact q φ3 H3 lall S3
            | rt v => cases eo; cases e; exact q φ3 H3 lall S3
end
end PI
end

section
set_option Elab.async false
set_option linter.all false
set_option maxRecDepth 100000
set_option maxHeartbeats 2000000
/-! from the text to the small language -/
namespace PI
open PySem PySem.Spec PyProof.Rows L2

/-- the module's names: defs by number, values, built-ins that are not hidden -/
structure GT where
  defs : List (Str × Nat × List Str)
  vals : List (Str × PV)
  blts : List Str
  gcd : Bool
  kws : List ((Str × Nat × List Str) × List Nat)
/-- a block's names -/
structure CC where
  N : List Str
  names : List (Str × NameKind)
  cells : List Str
  code : Bool
def bopOf : Operator → Option Bop
  | .Add => some .add | .Sub => some .sub | .Mult => some .mul | .Mod => some .mod | .FloorDiv => some .fdiv | .Pow => some .pow | .LShift => some .shl | _ => none
def copOf : CmpOp → Option Cop
  | .Eq => some .eq | .NotEq => some .ne | .Lt => some .lt | .LtE => some .le | .Gt => some .gt | .GtE => some .ge | .In => some .isin | .NotIn => some .notin | .Is => some .is_ | .IsNot => some .isnot
theorem bopOf_ok {o : Operator} {b : Bop} (h : bopOf o = some b) : o = opO b := by cases o <;> cases h <;> rfl
theorem copOf_ok {o : CmpOp} {b : Cop} (h : copOf o = some b) : o = copO b := by cases o <;> cases h <;> rfl
def tyNames : List Str := ["int", "bool", "str", "tuple", "list", "dict"]
def slotOf (N : List Str) (x : Str) : Option Nat := N.idxOf? x
def isSet : Expr → Bool
  | .Set .. => true
  | _ => false
def isListE : Expr → Bool
  | .List .. => true
  | _ => false
def isTupE : Expr → Bool
  | .Tuple .. => true
  | _ => false
section
variable (G : GT) (C : CC)
/-- a global name -/
def glb (x : Str) : Bool := C.names.lookup x == some NameKind.globalImplicit && x != "__debug__"
def blt (x : Str) : Bool := glb C x && G.blts.contains x
def cName (x : Str) : Option IE :=
  match C.names.lookup x with
  | some .local | some .cell | some .free => if x != "__debug__" && x != "__classdict__" then (C.N.idxOf? x).map .var else none
  | some .globalImplicit => if x != "__debug__" then (match G.vals.lookup x with
    | some v => some (.con v)
    | none => if tyNames.contains x && G.blts.contains x then some (.con (.ty x.toString)) else none) else none
  | _ => none
def cConst : Const → Option PV
  | .none => some .non
  | .bool b => some (.bl b)
  | .int i => some (.int i)
  | .str s => some (.str s)
  | _ => none
def cL (f : Expr → Option IE) : List Expr → Option IE
  | [] => some .nil
  | e :: es => if isStar e then none else (f e).bind fun a => (cL f es).bind fun as => some (.cons a as)
def cB (f : Expr → Option IE) (op : BoolOp) : List Expr → Option IE
  | [] => none
  | [a] => f a
  | a :: b :: r => (f a).bind fun x => (cB f op (b :: r)).bind fun y => some (match op with | .And => .and x y | .Or => .or x y)
/-- a target -/
def cTn (x : Str) : Option Nat :=
  match C.names.lookup x with
  | some .local => C.N.idxOf? x
  | some .cell => if C.cells.contains x then C.N.idxOf? x else none
  | _ => none
def cTs : List Expr → Option (List Nat)
  | [] => some []
  | .Name x _ :: r => (cTn C x).bind fun i => (cTs r).bind fun is => some (i :: is)
  | _ => none
def cT : Expr → Option Tg
  | .Name x _ => (cTn C x).map .nm
  | .Tuple es _ _ => (cTs C es).map .tp
  | _ => none
def cI (f : Expr → Option IE) (tup : Bool) : Expr → Option (IK × IE)
  | .Call (.Name x _) [a] [] _ =>
    if x == "range" && blt G C x && !isStar a then (f a).map fun i => (.range, .cons i .nil)
    else if x == "reversed" && blt G C x && !isStar a then (f a).map fun i => (.rev, .cons i .nil)
    else if x == "enumerate" && blt G C x && !isStar a && tup then (f a).map fun i => (.enum, .cons i .nil)
    else none
  | .Call (.Name x p) [a, b] [] q =>
    if x == "range" && blt G C x && !isStar a && !isStar b then (f a).bind fun i => (f b).map fun j => (.range, .cons i (.cons j .nil))
    else if x == "zip" && blt G C x && !isStar a && !isStar b && tup then (f a).bind fun i => (f b).map fun j => (.zip, .cons i (.cons j .nil))
    else none
  | _ => none
def cIter (f : Expr → Option IE) (tup : Bool) (e : Expr) : Option (IK × IE) :=
  match cI G C f tup e with
  | some r => some r
  | none => (f e).map fun i => (.seq, .cons i .nil)
/-- a comprehension's own names -/
def ownOf (names : List (Str × NameKind)) : List (Str × Nat) := names.filterMap fun y => match y.2 with
  | .local | .cell => (C.N.idxOf? y.1).map fun i => (y.1, i)
  | _ => none
def cellsOf (names : List (Str × NameKind)) : List Str := names.filterMap fun y => if names.lookup y.1 == some NameKind.cell then some y.1 else none
def blkCC (scope : Scope) : CC := { C with
  names := scope.names.map fun y => if (y.2 == .free && C.names.lookup y.1 == some .cell) then (y.1, .cell) else (y.1, y.2)
  cells := cellsOf scope.names }
def genCC (scope : Scope) : CC := { C with names := scope.names, cells := cellsOf scope.names, code := false }
def scOf : Scope := ⟨.function, C.names, false, false, []⟩
def genC (N : List Str) (sc scope : Scope) (own : List (Str × Nat)) : Bool :=
  blkC N sc scope own && !scope.isCoroutine && (scope.names.lookup (".0" : Str) == some NameKind.local)
def cIfs (f : Expr → Option IE) : List Expr → Option IE
  | [] => some (.con (.bl true))
  | [c] => f c
  | _ => none
def gcOf (x : Str) : Option GC := if x == "all" then some .all else if x == "any" then some .any else if x == "sum" then some .sum else if x == "tuple" then some .tup else none
def bltOf (x : Str) (n : Nat) : Option Blt :=
  if x == "len" then some .len else if x == "int" then some .int else if x == "abs" then some .abs else if x == "tuple" then some .tuple else if x == "list" then some .list else if x == "sum" then some .sum
  else if x == "max" && n == 2 then some .max2 else if x == "min" && n == 2 then some .min2 else if x == "gcd" then some .gcd else if x == "repr" then some .repr else if x == "isinstance" then some .isinst else if x == "sorted" then some .sortedI else none
def mthOf (x : Str) : Option Mth := if x == "append" then some .append else if x == "pop" then some .pop else if x == "extend" then some .extend else none
def strKeys : List (Option Expr) → Option (List Str)
  | [] => some []
  | some (.Constant (.str s) _ _) :: r => (strKeys r).map (s :: ·)
  | _ => none
def kwNames : List Keyword → Option (List Str)
  | [] => some []
  | k :: r => k.arg.bind fun x => (kwNames r).map (x :: ·)
def cCmp (f : Expr → Option IE) (a : Expr) : List CmpOp → List Expr → Option IE
  | [op], [b] => (copOf op).bind fun o => if behindInMarks op b = true then none else (f a).bind fun x => (f b).bind fun y => some (.cmp o x y)
  | [o1, o2], [b, c] => (copOf o1).bind fun p1 => (copOf o2).bind fun p2 => if lastMarks [o1, o2] [b, c] = true then none else (f a).bind fun x => (f b).bind fun y => (f c).bind fun z => some (.chain p1 p2 x y z)
  | _, _ => none
def isRev : Option Expr → Bool
  | some (.UnaryOp .USub (.Constant (.int 1) _ _) _) => true
  | _ => false
def cPart (f : Expr → Option IE) : Option Expr → Option (Bool × IE)
  | none => some (false, IE.nil)
  | some l => (f l).map fun i => (true, i)
def cSub (f : Expr → Option IE) (a : Expr) : Expr → Option IE
  | .Slice lo hi st _ => (match st with
    | none => (f a).bind fun x => (cPart f lo).bind fun l => (cPart f hi).bind fun r => some (.slc l.1 r.1 x l.2 r.2)
    | some s => if lo.isNone && hi.isNone && isRev (some s) then (f a).map .rev else none)
  | b => (f a).bind fun x => (f b).bind fun y => some (.idx x y)
/-- one generator's parts -/
def cPts (f : Expr → Option IE) (fC : CC → Expr → Option IE) (C' : CC) (elt tg iter : Expr) (ifs : List Expr) (scope : Scope) (mk : List Nat → Tg → IK → IE → IE → IE → IE) : Option IE :=
  (cIter G C f (isTupE tg) iter).bind fun s => (cT C' tg).bind fun t => if ((tgIx t).all fun i => ((ownOf C scope.names).map (·.2)).contains i) = true then
    (cIfs (fC C') ifs).bind fun i => (fC C' elt).bind fun y => some (mk ((ownOf C scope.names).map (·.2)) t s.1 s.2 i y) else none
def cLc (f : Expr → Option IE) (fC : CC → Expr → Option IE) (elt : Expr) (gens : List Comprehension) (scope : Scope) : Option IE :=
  match gens with
  | [⟨tg, iter, ifs, asy⟩] => if asy = 0 ∧ isSet iter = false ∧ blkC C.N (scOf C) scope (ownOf C scope.names) = true then cPts G C f fC (blkCC C scope) elt tg iter ifs scope .lc else none
  | _ => none
def cGen (f : Expr → Option IE) (fC : CC → Expr → Option IE) (x : Str) (elt : Expr) (gens : List Comprehension) (scope : Scope) : Option IE :=
  match gens with
  | [⟨tg, iter, ifs, asy⟩] => if asy = 0 ∧ C.code = true ∧ blt G C x = true ∧ isSet iter = false ∧ isListE iter = false ∧ genC C.N (scOf C) scope (ownOf C scope.names) = true then
      (gcOf x).bind fun c => cPts G C f fC (genCC C scope) elt tg iter ifs scope (.gen c) else none
  | _ => none
def cFn (f : Expr → Option IE) (x : Str) (es : List Expr) (kws : List Keyword) : Option IE :=
  match G.defs.lookup x with
  | some (i, ps) => if glb C x = true then (if kws.isEmpty = true then (cL f es).map (.call i)
      else (kwNames kws).bind fun ks => (G.kws.lookup (x, es.length, ks)).bind fun pm => (cL f es).bind fun as => (cL f (kws.map (·.value))).map fun bs => .callK i pm as bs) else none
  | none => (bltOf x es.length).bind fun b => if kws.isEmpty = true ∧ es.isEmpty = false ∧ glb C x = true ∧ (if b = .gcd then G.gcd else G.blts.contains x) = true then (cL f es).map (.blt b) else none
def setArg : List Expr → Option (Str × Expr)
  | [.Call (.Name y _) [a] [] _] => if y == "set" then some (y, a) else none
  | _ => none
def cSts (f : Expr → Option IE) (x y : Str) (a : Expr) : Option IE :=
  if (x == "sorted" || x == "len") && blt G C x && blt G C y && !isStar a && (G.defs.lookup y).isNone then (f a).map (.sts (x == "sorted")) else none
def genArg : List Expr → Option (Expr × List Comprehension × Scope)
  | [.GeneratorExp elt gens scope _] => some (elt, gens, scope)
  | _ => none
def cMth (f : Expr → Option IE) (o : Expr) (m : Str) (apos : Pos) (es : List Expr) (pos : Pos) : Option IE :=
  (mthOf m).bind fun k => if isCall o = false ∧ (apos.endLine == pos.line) = true ∧ es.length < 30 ∧ (es.isEmpty = true → k = .pop) then (f o).bind fun x => (cL f es).map fun as => .mth k x as else none
def cCall (f : Expr → Option IE) (fC : CC → Expr → Option IE) (fn : Expr) (es : List Expr) (kws : List Keyword) (pos : Pos) : Option IE :=
  match fn with
  | .Name x _ => (match genArg es with
    | some g => if kws.isEmpty = true then cGen G C f fC x g.1 g.2.1 g.2.2 else none
    | none => (match setArg es with
      | some a => if kws.isEmpty = true then cSts G C f x a.1 a.2 else none
      | none => cFn G C f x es kws))
  | .Attribute o m apos => if kws.isEmpty = true then cMth f o m apos es pos else none
  | _ => none
end
def cE (G : GT) : Nat → CC → Expr → Option IE
  | 0, _, _ => none
  | n + 1, C, e => match e with
    | .Name x _ => cName G C x
    | .Constant c _ _ => (cConst c).map .con
    | .BinOp a op b _ => (bopOf op).bind fun o => (cE G n C a).bind fun x => (cE G n C b).bind fun y => some (.bin o x y)
    | .UnaryOp op a _ => (match op with
      | .Not => (cE G n C a).map .not
      | .USub => (cE G n C a).map .neg
      | _ => none)
    | .BoolOp op es _ => cB (cE G n C) op es
    | .Compare a ops bs _ => cCmp (cE G n C) a ops bs
    | .IfExp c a b _ => (cE G n C c).bind fun x => (cE G n C a).bind fun y => (cE G n C b).bind fun z => some (.ife x y z)
    | .Tuple es _ _ => (cL (cE G n C) es).map .tup
    | .List es _ => (cL (cE G n C) es).map .lst
    | .Dict keys vals _ => (strKeys keys).bind fun ks => if keys.length = vals.length ∧ keys.isEmpty = false ∧ keys.length ≤ 15 then (cL (cE G n C) vals).map (.dic ks) else none
    | .Subscript a b _ => cSub (cE G n C) a b
    | .ListComp elt gens scope _ => cLc G C (cE G n C) (cE G n) elt gens scope
    | .Call fn es kws pos => cCall G C (cE G n C) (cE G n) fn es kws pos
    | _ => none
end PI
end

section
set_option Elab.async false
set_option linter.all false
set_option maxRecDepth 100000
set_option maxHeartbeats 2000000
/-! the translation is right -/
namespace PI
open PySem PySem.Spec PyProof.Rows L2

/-- what a def promises: what the small language says of it -/
def spF (K : PySem.W.Frag) (tabs : List Addr) (F : Nat → List PV → IHeap → Option (PV × IHeap)) (i : Nat) : Sp := fun xs H Q _ => ∃ φ vs h, Sim K tabs φ h H ∧ VReps K φ h.length H vs xs ∧ Then K tabs φ h H (F i vs h) Q
def BindK (K : PySem.W.Frag) (fd : FuncData) (ps : List Str) (n : Nat) (ks : List Str) (perm : List Nat) : Prop :=
  ∀ (s : Shared) (us ws : List Value), K.In s.heap → us.length = n → ws.length = ks.length → BindsTo s fd ⟨us, ks.zip ws⟩ (ps.zip (pm perm (us ++ ws)))
structure DefOk (P : Program) (w : World) (K : PySem.W.Frag) (mg : Str → Option Value) (base : Heap) (tabs : List Addr) (F : Nat → List PV → IHeap → Option (PV × IHeap)) (kf : Nat) (G : GT) (x : Str) (i : Nat) (ps : List Str) (f : Addr) (fd : FuncData) : Prop where
  fn : FnG P w K mg base kf f fd ps (spF K tabs F i)
  at_ : mg x = some (.ref f)
  kp : PySem.W.keepIn K (.ref f) = true
  pos : Binds K fd ps []
  kw : ∀ n ks perm, G.kws.lookup (x, n, ks) = some perm → BindK K fd ps n ks perm
structure GOk (P : Program) (w : World) (K : PySem.W.Frag) (mg : Str → Option Value) (base : Heap) (tabs : List Addr) (F : Nat → List PV → IHeap → Option (PV × IHeap)) (kf : Nat) (G : GT) : Prop where
  vals : ∀ x v, G.vals.lookup x = some v → ∃ xv u, mg x = some u ∧ RelV xv u ∧ Known K v xv
  blts : ∀ x ∈ G.blts, mg x = none
  gcd : G.gcd = true → mg "gcd" = some (.builtin "math.gcd")
  defs : ∀ x i ps, G.defs.lookup x = some (i, ps) → ∃ f fd, DefOk P w K mg base tabs F kf G x i ps f fd
structure COk (G : GT) (tabs : List Addr) (F : Nat → List PV → IHeap → Option (PV × IHeap)) (kf : Nat) (C : CC) (X : Cx) : Prop where
  N : X.N = C.N
  nd : X.N.Nodup
  names : X.env.scope.names = C.names
  kind : X.env.scope.kind = .function
  calm : X.calm = true
  grd : X.A.guards = some []
  room : Room (if C.code = true then kf + 1 else kf) X.A
  fns : ∀ x ∈ C.cells, X.fn x = true
  code : C.code = true → ∃ c P, X.env.code = .ref c ∧ GxR.TabB X.base X.mg c P ∧ P ∈ tabs
  glob : GOk X.prog X.w X.K X.mg X.base tabs F kf G

section
variable {G : GT} {tabs : List Addr} {F : Nat → List PV → IHeap → Option (PV × IHeap)} {kf : Nat} {C : CC} {X : Cx} {f : Expr → Option IE}
theorem COk.un (c : COk G tabs F kf C X) : X.A.units + 100 < cLine := by have := c.room.un; omega
theorem COk.gl (c : COk G tabs F kf C X) {x : Str} (h : glb C x = true) : Gl X x ∧ (x == ("__debug__" : Str)) = false := by
  unfold glb at h
  simp only [Bool.and_eq_true] at h
  refine ⟨?_, by simpa using h.2⟩
  show X.env.scope.names.lookup x = _
  rw [c.names]
  exact eq_of_beq h.1
theorem COk.bl (c : COk G tabs F kf C X) {x : Str} (h : blt G C x = true) : Gl X x ∧ X.mg x = none := by
  unfold blt at h
  simp only [Bool.and_eq_true] at h
  exact ⟨(c.gl h.1).1, c.glob.blts x (List.contains_iff_mem.mp h.2)⟩
theorem idx_get {N : List Str} {x : Str} {i : Nat} (h : N.idxOf? x = some i) : N[i]? = some x := by
  unfold List.idxOf? at h
  have := List.findIdx?_eq_some_iff_getElem.mp h
  obtain ⟨hi, hp, _⟩ := this
  rw [List.getElem?_eq_getElem hi]
  exact congrArg some (eq_of_beq hp)
/-- both readings -/
def Both (X : Cx) (tabs : List Addr) (F : Nat → List PV → IHeap → Option (PV × IHeap)) (e : Expr) (ie : IE) : Prop := PE X e (TIe X.K tabs F ie) ∧ PT X e (TIt X.K tabs F ie)
theorem both_plain {e : Expr} {ie : IE} (p : PE X e (TIe X.K tabs F ie)) (h : isPlainT e = true) : Both X tabs F e ie := ⟨p, s_truth p (plain_t h)⟩
theorem ok_ty {x : Str} (h : tyNames.contains x = true) : bootBuiltins x = some (.type x.toString) ∧ x ≠ "__name__" := by
  have h := List.contains_iff_mem.mp h
  simp only [tyNames, List.mem_cons, List.not_mem_nil, or_false] at h
  rcases h with rfl | rfl | rfl | rfl | rfl | rfl
  · exact ⟨bt_int, by decide⟩
  · exact ⟨bt_bool, by decide⟩
  · exact ⟨bt_str, by decide⟩
  · exact ⟨bt_tuple, by decide⟩
  · exact ⟨bt_list, by decide⟩
  · exact ⟨bt_dict, by decide⟩
theorem ok_name (c : COk G tabs F kf C X) {x : Str} {p : Pos} {ie : IE} (h : cName G C x = some ie) : Both X tabs F (.Name x p) ie := by
  refine both_plain ?_ rfl
  unfold cName at h
  have var : ∀ {i : Nat}, (if (x != "__debug__" && x != "__classdict__") = true then (C.N.idxOf? x).map IE.var else none) = some ie → Vis X.env.scope x → PE X (.Name x p) (TIe X.K tabs F ie) := fun {i} h v => by
    by_cases hd : (x != "__debug__" && x != "__classdict__") = true
    · rw [if_pos hd] at h
      cases hi : C.N.idxOf? x with
      | none => rw [hi] at h; cases h
      | some i =>
        rw [hi] at h
        cases h
        simp only [Bool.and_eq_true] at hd
        exact s_var (by rw [c.N]; exact idx_get hi) v (by simpa using hd.1) (by simpa using hd.2)
    · rw [if_neg hd] at h; cases h
  cases hk : C.names.lookup x with
  | none => rw [hk] at h; cases h
  | some k =>
    have hk' : X.env.scope.names.lookup x = some k := by rw [c.names]; exact hk
    rw [hk] at h
    cases k with
    | «local» => exact var (i := 0) h (.inl hk')
    | cell => exact var (i := 0) h (.inr (.inl hk'))
    | free => exact var (i := 0) h (.inr (.inr hk'))
    | globalExplicit => cases h
    | globalImplicit =>
      simp only at h
      by_cases hd : (x != "__debug__") = true
      · rw [if_pos hd] at h
        have hd' : (x == ("__debug__" : Str)) = false := by simpa using hd
        cases hv : G.vals.lookup x with
        | some v =>
          rw [hv] at h
          cases h
          obtain ⟨xv, u, m, r, kn⟩ := c.glob.vals x v hv
          exact s_con kn (pe_glob hk' m r hd')
        | none =>
          rw [hv] at h
          simp only at h
          by_cases ht : (tyNames.contains x && G.blts.contains x) = true
          · rw [if_pos ht] at h
            cases h
            simp only [Bool.and_eq_true] at ht
            obtain ⟨hb, hn⟩ := ok_ty ht.1
            exact s_con (x := .ty x.toString) (fun _ _ _ => .ty _) (pe_bltn hk' (c.glob.blts x (List.contains_iff_mem.mp ht.2)) hb rfl hn hd')
          · rw [if_neg ht] at h; cases h
      · rw [if_neg hd] at h; cases h
theorem ok_const {k : Const} {j : Nat} {p : Pos} {v : PV} (h : cConst k = some v) : Both X tabs F (.Constant k j p) (.con v) := by
  refine both_plain ?_ rfl
  cases k <;> cases h
  · exact s_con (x := .non) (fun _ _ _ => .non) pe_non
  · exact s_con (x := .bl _) (fun _ _ _ => .bl _) pe_bl
  · exact s_con (x := .int _) (fun _ _ _ => .int _) pe_int
  · exact s_con (x := .str _) (fun _ _ _ => .str _) pe_str
theorem ok_cL (hf : ∀ e ie, f e = some ie → Both X tabs F e ie) : ∀ {es : List Expr} {ia : IE}, cL f es = some ia → PA X es (TIs X.K tabs F ia) ∧ es.all (fun e => !isStar e) = true ∧ ∀ (ρ : Env') h vs h', ev F ia ρ h = some (.tup vs, h') → vs.length = es.length
  | [], ia, h => by cases h; exact ⟨a_nil, rfl, fun ρ h vs h' e => by cases e; rfl⟩
  | e :: es, ia, h => by
    unfold cL at h
    cases hs : isStar e with
    | true => rw [hs] at h; cases h
    | false =>
      rw [hs] at h
      simp only [Bool.false_eq_true, if_false] at h
      cases h1 : f e with
      | none => rw [h1] at h; cases h
      | some x =>
        rw [h1] at h
        simp only [Option.bind_some] at h
        cases h2 : cL f es with
        | none => rw [h2] at h; cases h
        | some y =>
          rw [h2] at h
          cases h
          obtain ⟨p, q, l⟩ := ok_cL hf h2
          refine ⟨a_cons (hf _ _ h1).1 p hs, by rw [List.all_cons, q, hs]; rfl, fun ρ h vs h' e => ?_⟩
          rw [ev_cons] at e
          cases e1 : ev F x ρ h with
          | none => rw [e1] at e; cases e
          | some p1 =>
            rw [e1] at e
            simp only [Option.bind_some] at e
            cases e2 : ev F y ρ p1.2 with
            | none => rw [e2] at e; cases e
            | some p2 =>
              obtain ⟨w, h2⟩ := p2
              rw [e2] at e
              simp only [Option.bind_some] at e
              cases w <;> first | (cases e; done) | skip
              cases e
              exact congrArg (· + 1) (l _ _ _ _ e2)
theorem ok_cB (hf : ∀ e ie, f e = some ie → Both X tabs F e ie) {op : BoolOp} {pos : Pos} : ∀ {es : List Expr} {ie : IE}, cB f op es = some ie → PE X (.BoolOp op es pos) (TIe X.K tabs F ie) ∧ PW X (.BoolOp op es pos) (TIt X.K tabs F ie)
  | [], ie, h => by cases h
  | [a], ie, h => by
    have q := hf a ie h
    refine ⟨pe_one q.1, ?_⟩
    cases op with
    | And => exact pw_and1 q.2
    | Or => exact pw_or1 q.2
  | a :: b :: r, ie, h => by
    unfold cB at h
    cases h1 : f a with
    | none => rw [h1] at h; cases h
    | some x =>
      rw [h1] at h
      simp only [Option.bind_some] at h
      cases h2 : cB f op (b :: r) with
      | none => rw [h2] at h; cases h
      | some y =>
        rw [h2] at h
        simp only [Option.bind_some] at h
        obtain ⟨p, q⟩ := ok_cB hf h2
        have qa := hf a x h1
        cases op with
        | And => cases h; exact ⟨s_and qa.1 p, w_and qa.2 q⟩
        | Or => cases h; exact ⟨s_or qa.1 p, w_or qa.2 q⟩
theorem ok_cmp (c : COk G tabs F kf C X) (hf : ∀ e ie, f e = some ie → Both X tabs F e ie) {a : Expr} {ops : List CmpOp} {bs : List Expr} {ie : IE} {pos : Pos} (h : cCmp f a ops bs = some ie) : Both X tabs F (.Compare a ops bs pos) ie := by
  have hu : X.A.units + 65 < cLine := by have := c.un; omega
  unfold cCmp at h
  split at h
  · rename_i op b
    cases ho : copOf op with
    | none => rw [ho] at h; cases h
    | some o =>
      rw [ho] at h
      simp only [Option.bind_some] at h
      have eo := copOf_ok ho
      subst eo
      by_cases hm : behindInMarks (copO o) b = true
      · rw [if_pos hm] at h; cases h
      · rw [if_neg hm] at h
        have hm' : behindInMarks (copO o) b = false := by simpa using hm
        cases h1 : f a with
        | none => rw [h1] at h; cases h
        | some x =>
          rw [h1] at h
          simp only [Option.bind_some] at h
          cases h2 : f b with
          | none => rw [h2] at h; cases h
          | some y =>
            rw [h2] at h
            cases h
            exact ⟨s_cmp hu (hf _ _ h1).1 (hf _ _ h2).1 hm', t_cmp hu (hf _ _ h1).1 (hf _ _ h2).1 hm'⟩
  · rename_i o1 o2 b d
    cases ho : copOf o1 with
    | none => rw [ho] at h; cases h
    | some p1 =>
      rw [ho] at h
      simp only [Option.bind_some] at h
      cases ho2 : copOf o2 with
      | none => rw [ho2] at h; cases h
      | some p2 =>
        rw [ho2] at h
        simp only [Option.bind_some] at h
        have eo := copOf_ok ho
        subst eo
        have eo2 := copOf_ok ho2
        subst eo2
        by_cases hm : lastMarks [copO p1, copO p2] [b, d] = true
        · rw [if_pos hm] at h; cases h
        · rw [if_neg hm] at h
          have hm' : lastMarks [copO p1, copO p2] [b, d] = false := by simpa using hm
          cases h1 : f a with
          | none => rw [h1] at h; cases h
          | some x =>
            rw [h1] at h
            simp only [Option.bind_some] at h
            cases h2 : f b with
            | none => rw [h2] at h; cases h
            | some y =>
              rw [h2] at h
              simp only [Option.bind_some] at h
              cases h3 : f d with
              | none => rw [h3] at h; cases h
              | some z =>
                rw [h3] at h
                cases h
                exact ⟨s_chain hu (hf _ _ h1).1 (hf _ _ h2).1 (hf _ _ h3).1 hm', t_chain hu (hf _ _ h1).1 (hf _ _ h2).1 (hf _ _ h3).1 hm'⟩
  · cases h
theorem ok_part (hf : ∀ e ie, f e = some ie → Both X tabs F e ie) {o : Option Expr} {r : Bool × IE} (h : cPart f o = some r) : PO X o (TIo X.K tabs F r.1 r.2) := by
  cases o with
  | none => cases h; exact o_none
  | some e =>
    have h : (f e).map (fun i => (true, i)) = some r := h
    cases h1 : f e with
    | none => rw [h1] at h; cases h
    | some x => rw [h1] at h; cases h; exact o_some (hf _ _ h1).1
theorem ok_sub (c : COk G tabs F kf C X) (hf : ∀ e ie, f e = some ie → Both X tabs F e ie) {a b : Expr} {ie : IE} {pos : Pos} (h : cSub f a b = some ie) : Both X tabs F (.Subscript a b pos) ie := by
  refine both_plain ?_ rfl
  have hu : X.A.units + 1 < cLine := by have := c.un; omega
  have plain : isSlice b = false → ((f a).bind fun x => (f b).bind fun y => some (IE.idx x y)) = some ie → PE X (.Subscript a b pos) (TIe X.K tabs F ie) := fun hs h => by
    cases h1 : f a with
    | none => rw [h1] at h; cases h
    | some x =>
      rw [h1] at h
      simp only [Option.bind_some] at h
      cases h2 : f b with
      | none => rw [h2] at h; cases h
      | some y =>
        rw [h2] at h
        cases h
        exact s_idx hu (hf _ _ h1).1 (hf _ _ h2).1 hs
  cases b <;> first | exact plain rfl h | skip
  rename_i lo hi st p2
  cases st with
  | none =>
    have h : ((f a).bind fun x => (cPart f lo).bind fun l => (cPart f hi).bind fun r => some (IE.slc l.1 r.1 x l.2 r.2)) = some ie := h
    cases h1 : f a with
    | none => rw [h1] at h; cases h
    | some x =>
      rw [h1] at h
      simp only [Option.bind_some] at h
      cases h2 : cPart f lo with
      | none => rw [h2] at h; cases h
      | some l =>
        rw [h2] at h
        simp only [Option.bind_some] at h
        cases h3 : cPart f hi with
        | none => rw [h3] at h; cases h
        | some r =>
          rw [h3] at h
          cases h
          exact s_slc (hf _ _ h1).1 (ok_part hf h2) (ok_part hf h3)
  | some s =>
    have h5 : (if (lo.isNone && hi.isNone && isRev (some s)) = true then (f a).map IE.rev else none) = some ie := h
    by_cases hc : (lo.isNone && hi.isNone && isRev (some s)) = true
    · rw [if_pos hc] at h5
      simp only [Bool.and_eq_true, Option.isNone_iff_eq_none] at hc
      obtain ⟨⟨rfl, rfl⟩, hr⟩ := hc
      cases h1 : f a with
      | none => rw [h1] at h5; cases h5
      | some x =>
        rw [h1] at h5
        cases h5
        unfold isRev at hr
        split at hr
        · rename_i z he
          cases he
          exact s_rev (hf _ _ h1).1
        · cases hr
    · rw [if_neg hc] at h5; cases h5
end
end PI
end

section
set_option Elab.async false
set_option linter.all false
set_option maxRecDepth 100000
set_option maxHeartbeats 2000000
namespace PI
open PySem PySem.Spec PyProof.Rows L2

section
variable {G : GT} {tabs : List Addr} {F : Nat → List PV → IHeap → Option (PV × IHeap)} {kf : Nat} {C : CC} {X : Cx} {f : Expr → Option IE}
/-! ### displays of dicts -/
theorem keys_isL {vals : List Expr} : ∀ {ks : List Str} {ia : IE}, cL f vals = some ia → ks.length = vals.length → IsL ks ia := by
  induction vals with
  | nil => intro ks ia h hl; cases h; cases ks with
    | nil => exact .nil
    | cons _ _ => cases hl
  | cons e es ih =>
    intro ks ia h hl
    unfold cL at h
    cases hs : isStar e with
    | true => rw [hs] at h; cases h
    | false =>
      rw [hs] at h
      simp only [Bool.false_eq_true, if_false] at h
      cases h1 : f e with
      | none => rw [h1] at h; cases h
      | some x =>
        rw [h1] at h
        simp only [Option.bind_some] at h
        cases h2 : cL f es with
        | none => rw [h2] at h; cases h
        | some y =>
          rw [h2] at h
          cases h
          cases ks with
          | nil => cases hl
          | cons k ks => exact .cons (ih h2 (by simpa using hl))
theorem ok_pairs (hf : ∀ e ie, f e = some ie → Both X tabs F e ie) {pos : Pos} : ∀ {keys : List (Option Expr)} {ks : List Str} {vals : List Expr} {ia : IE}, strKeys keys = some ks → cL f vals = some ia → keys.length = vals.length →
    PPs X pos keys vals (trsOf X.K tabs F ks ia) ∧ keys.all (·.isSome) = true ∧ ks.length = keys.length
  | [], ks, vals, ia, hk, hc, hl => by
    cases hk
    cases vals with
    | nil => cases hc; exact ⟨pps_nil, rfl, rfl⟩
    | cons _ _ => cases hl
  | none :: r, ks, vals, ia, hk, hc, hl => by cases hk
  | some k :: r, ks, vals, ia, hk, hc, hl => by
    cases vals with
    | nil => cases hl
    | cons e es =>
      cases k <;> first | (cases hk; done) | skip
      rename_i cst j p
      cases cst <;> first | (cases hk; done) | skip
      rename_i s
      have hk : (strKeys r).map (s :: ·) = some ks := hk
      cases hr : strKeys r with
      | none => rw [hr] at hk; cases hk
      | some ks' =>
        rw [hr] at hk
        cases hk
        unfold cL at hc
        cases hs : isStar e with
        | true => rw [hs] at hc; cases hc
        | false =>
          rw [hs] at hc
          simp only [Bool.false_eq_true, if_false] at hc
          cases h1 : f e with
          | none => rw [h1] at hc; cases hc
          | some x =>
            rw [h1] at hc
            simp only [Option.bind_some] at hc
            cases h2 : cL f es with
            | none => rw [h2] at hc; cases hc
            | some y =>
              rw [h2] at hc
              cases hc
              obtain ⟨p1, p2, p3⟩ := ok_pairs hf (pos := pos) hr h2 (by simpa using hl)
              exact ⟨pps_cons pe_str (hf _ _ h1).1 p1, by rw [List.all_cons, p2]; rfl, by simp [p3]⟩
/-! ### targets -/
theorem ok_tn (c : COk G tabs F kf C X) {x : Str} {i : Nat} (h : cTn C x = some i) : X.N[i]? = some x ∧ Loc X.env.scope x ∧ (X.fn x = true ∨ X.env.scope.names.lookup x = some .local) := by
  unfold cTn at h
  cases hk : C.names.lookup x with
  | none => rw [hk] at h; cases h
  | some k =>
    have hk' : X.env.scope.names.lookup x = some k := by rw [c.names]; exact hk
    rw [hk] at h
    cases k with
    | «local» => exact ⟨by rw [c.N]; exact idx_get h, .inl hk', .inr hk'⟩
    | cell =>
      simp only at h
      by_cases hc : C.cells.contains x = true
      · rw [if_pos hc] at h
        exact ⟨by rw [c.N]; exact idx_get h, .inr hk', .inl (c.fns x (List.contains_iff_mem.mp hc))⟩
      · rw [if_neg hc] at h; cases h
    | _ => cases h
theorem ok_ts (c : COk G tabs F kf C X) : ∀ {es : List Expr} {is : List Nat}, cTs C es = some is → PGs X es (TIgs X.K tabs is) ∧ es.all isName = true ∧ es.length = is.length
  | [], is, h => by cases h; exact ⟨gs_nil, rfl, rfl⟩
  | e :: es, is, h => by
    cases e <;> first | (cases h; done) | skip
    rename_i x p
    have h : (cTn C x).bind (fun i => (cTs C es).bind fun is => some (i :: is)) = some is := h
    cases h1 : cTn C x with
    | none => rw [h1] at h; cases h
    | some i =>
      rw [h1] at h
      simp only [Option.bind_some] at h
      cases h2 : cTs C es with
      | none => rw [h2] at h; cases h
      | some js =>
        rw [h2] at h
        cases h
        obtain ⟨p1, p2, p3⟩ := ok_ts c h2
        obtain ⟨t1, t2, t3⟩ := ok_tn c h1
        exact ⟨gs_cons (pg_name c.nd t1 t2 t3) p1, by rw [List.all_cons, p2]; rfl, by simp [p3]⟩
theorem ok_t (c : COk G tabs F kf C X) {tg : Expr} {t : Tg} (h : cT C tg = some t) : PG X tg (TIg X.K tabs t) := by
  cases tg <;> first | (cases h; done) | skip
  · rename_i x p
    have h : (cTn C x).map Tg.nm = some t := h
    cases h1 : cTn C x with
    | none => rw [h1] at h; cases h
    | some i =>
      rw [h1] at h
      cases h
      obtain ⟨t1, t2, t3⟩ := ok_tn c h1
      exact g_name c.nd t1 t2 t3
  · rename_i es k p
    have h : (cTs C es).map Tg.tp = some t := h
    cases h1 : cTs C es with
    | none => rw [h1] at h; cases h
    | some is =>
      rw [h1] at h
      cases h
      obtain ⟨p1, p2, p3⟩ := ok_ts c h1
      exact g_tup c.calm p1 p2 p3
/-! ### walks -/
theorem tup_is {tg : Expr} (h : isTupE tg = true) : ∃ es k p, tg = .Tuple es k p := by
  cases tg <;> first | (cases h; done) | exact ⟨_, _, _, rfl⟩
theorem ok_iter (c : COk G tabs F kf C X) (hf : ∀ e ie, f e = some ie → Both X tabs F e ie) {tg iter : Expr} {r : IK × IE} (h : cIter G C f (isTupE tg) iter = some r) : PI X tg iter (TIi X.K tabs F r.1 r.2) := by
  unfold cIter at h
  have seq : (f iter).map (fun i => (IK.seq, IE.cons i .nil)) = some r → PI X tg iter (TIi X.K tabs F r.1 r.2) := fun h => by
    cases h1 : f iter with
    | none => rw [h1] at h; cases h
    | some x => rw [h1] at h; cases h; exact i_seq (hf _ _ h1).1
  cases hc : cI G C f (isTupE tg) iter with
  | none => rw [hc] at h; exact seq h
  | some r' =>
    rw [hc] at h
    cases h
    unfold cI at hc
    split at hc
    · rename_i x p a q
      by_cases h1 : (x == "range" && blt G C x && !isStar a) = true
      · rw [if_pos h1] at hc
        simp only [Bool.and_eq_true, Bool.not_eq_true'] at h1
        obtain ⟨⟨e1, e2⟩, e3⟩ := h1
        have e1 := eq_of_beq e1
        subst e1
        cases h2 : f a with
        | none => rw [h2] at hc; cases hc
        | some y => rw [h2] at hc; cases hc; exact i_range1 (c.bl e2).1 (c.bl e2).2 (a_cons (hf _ _ h2).1 a_nil e3) e3
      · rw [if_neg h1] at hc
        by_cases h1 : (x == "reversed" && blt G C x && !isStar a) = true
        · rw [if_pos h1] at hc
          simp only [Bool.and_eq_true, Bool.not_eq_true'] at h1
          obtain ⟨⟨e1, e2⟩, e3⟩ := h1
          have e1 := eq_of_beq e1
          subst e1
          cases h2 : f a with
          | none => rw [h2] at hc; cases hc
          | some y => rw [h2] at hc; cases hc; exact i_rev (c.bl e2).1 (c.bl e2).2 (hf _ _ h2).1 e3
        · rw [if_neg h1] at hc
          by_cases h1 : (x == "enumerate" && blt G C x && !isStar a && isTupE tg) = true
          · rw [if_pos h1] at hc
            simp only [Bool.and_eq_true, Bool.not_eq_true'] at h1
            obtain ⟨⟨⟨e1, e2⟩, e3⟩, e4⟩ := h1
            have e1 := eq_of_beq e1
            subst e1
            obtain ⟨es, k, p, rfl⟩ := tup_is e4
            cases h2 : f a with
            | none => rw [h2] at hc; cases hc
            | some y => rw [h2] at hc; cases hc; exact i_enum (c.bl e2).1 (c.bl e2).2 (a_cons (hf _ _ h2).1 a_nil e3) e3
          · rw [if_neg h1] at hc; cases hc
    · rename_i x p a b q
      by_cases h1 : (x == "range" && blt G C x && !isStar a && !isStar b) = true
      · rw [if_pos h1] at hc
        simp only [Bool.and_eq_true, Bool.not_eq_true'] at h1
        obtain ⟨⟨⟨e1, e2⟩, e3⟩, e4⟩ := h1
        have e1 := eq_of_beq e1
        subst e1
        cases h2 : f a with
        | none => rw [h2] at hc; cases hc
        | some y =>
          rw [h2] at hc
          simp only [Option.bind_some] at hc
          cases h3 : f b with
          | none => rw [h3] at hc; cases hc
          | some z => rw [h3] at hc; cases hc; exact i_range2 (c.bl e2).1 (c.bl e2).2 (a_cons (hf _ _ h2).1 (a_cons (hf _ _ h3).1 a_nil e4) e3) e3 e4
      · rw [if_neg h1] at hc
        by_cases h1 : (x == "zip" && blt G C x && !isStar a && !isStar b && isTupE tg) = true
        · rw [if_pos h1] at hc
          simp only [Bool.and_eq_true, Bool.not_eq_true'] at h1
          obtain ⟨⟨⟨⟨e1, e2⟩, e3⟩, e4⟩, e5⟩ := h1
          have e1 := eq_of_beq e1
          subst e1
          obtain ⟨es, k, p, rfl⟩ := tup_is e5
          cases h2 : f a with
          | none => rw [h2] at hc; cases hc
          | some y =>
            rw [h2] at hc
            simp only [Option.bind_some] at hc
            cases h3 : f b with
            | none => rw [h3] at hc; cases hc
            | some z => rw [h3] at hc; cases hc; exact i_zip (c.bl e2).1 (c.bl e2).2 (a_cons (hf _ _ h2).1 (a_cons (hf _ _ h3).1 a_nil e4) e3) e3 e4
        · rw [if_neg h1] at hc; cases hc
    · cases hc
theorem ok_ifs {f' : Expr → Option IE} {X' : Cx} (hf : ∀ e ie, f' e = some ie → Both X' tabs F e ie) {ifs : List Expr} {ie : IE} (h : cIfs f' ifs = some ie) : PTs X' ifs (TIt X'.K tabs F ie) := by
  unfold cIfs at h
  split at h
  · cases h
    refine ⟨fun pins s σ H Q I ⟨φ, ρ, h, S, E, b, h', e, q⟩ => pts_nil.run pins s σ H Q I ?_⟩
    cases e
    exact q φ H .refl S
  · exact pts_one (hf _ _ h).2
  · cases h
end
end PI
end

section
set_option Elab.async false
set_option linter.all false
set_option maxRecDepth 100000
set_option maxHeartbeats 2000000
namespace PI
open PySem PySem.Spec PyProof.Rows L2

section
variable {G : GT} {tabs : List Addr} {F : Nat → List PV → IHeap → Option (PV × IHeap)} {kf : Nat} {C : CC} {X : Cx} {f : Expr → Option IE} {fC : CC → Expr → Option IE}
theorem cells_look {names : List (Str × NameKind)} {x : Str} (h : x ∈ cellsOf names) : names.lookup x = some .cell := by
  unfold cellsOf at h
  rw [List.mem_filterMap] at h
  obtain ⟨y, _, e⟩ := h
  split at e
  · rename_i hc; cases e; exact eq_of_beq hc
  · cases e
theorem blkC_names {N : List Str} {sc sc' scope : Scope} {own : List (Str × Nat)} (h : sc.names = sc'.names) : blkC N sc scope own = blkC N sc' scope own := by
  unfold blkC
  rw [h]
theorem ok_blk (c : COk G tabs F kf C X) {scope : Scope} {own : List (Str × Nat)} (h : blkC C.N (scOf C) scope own = true) : BlkOk X.N X.env.scope scope own := by
  refine blkOk_by ?_
  rw [blkC_names (sc' := scOf C) c.names, c.N]
  exact h
theorem ok_genC (c : COk G tabs F kf C X) {scope : Scope} {own : List (Str × Nat)} (h : genC C.N (scOf C) scope own = true) : GX.GenOk X.N X.env.scope scope own := by
  unfold genC at h
  simp only [Bool.and_eq_true, Bool.not_eq_true'] at h
  have b := ok_blk c h.1.1
  exact ⟨b.kind, h.1.2, eq_of_beq h.2, b.uniq, b.ix, b.free, b.own⟩
/-- inside a list comprehension -/
theorem COk.blk (c : COk G tabs F kf C X) {scope : Scope} (hk : scope.kind = .function) (s : Shared) (H : Hp) (Ca : Addr) (cl : List (Str × Addr)) (fp : List Addr) : COk G tabs F kf (blkCC C scope) (X.blk s H scope (compEnvC scope cl Ca X.env) fp) := by
  refine ⟨c.N, c.nd, ?_, hk, c.calm, c.grd, c.room, fun x hx => ?_, c.code, c.glob⟩
  · show (relabel scope X.env).names = _
    unfold relabel blkCC
    have hk : (X.env.scope.kind == ScopeKind.function) = true := by rw [c.kind]; rfl
    refine List.map_congr_left fun y _ => ?_
    show (if (y.2 == .free && X.env.scope.kind == .function && X.env.scope.names.lookup y.1 == some .cell) = true then (y.1, NameKind.cell) else (y.1, y.2)) = _
    rw [hk, c.names, Bool.and_true]
  · show (scope.names.lookup x == some NameKind.cell) = true
    rw [cells_look hx]
    rfl
/-- inside a generator expression -/
theorem COk.gcx (c : COk G tabs F kf C X) {scope : Scope} (hc : C.code = true) (hk : scope.kind = .function) {B : Around} {s : Shared} {H : Hp} {cenv : Env} {fp : List Addr} (hr : Room kf (B.deeper cenv)) (hg : (B.deeper cenv).guards = X.A.guards) (hs : cenv.scope = scope) :
    COk G tabs F kf (genCC C scope) (GX.gcx X B s H scope cenv fp) := by
  refine ⟨c.N, c.nd, ?_, ?_, rfl, hg.trans c.grd, hr, fun x hx => ?_, fun h => (by cases h), c.glob⟩
  · show cenv.scope.names = _
    rw [hs]; rfl
  · show cenv.scope.kind = _
    rw [hs]; exact hk
  · show (scope.names.lookup x == some NameKind.cell) = true
    rw [cells_look hx]
    rfl
theorem noset {iter : Expr} {env : Env} {x : Value} (h : isSet iter = false) : foldedSetIterable iter env x = pure x := by
  cases iter <;> first | rfl | cases h
theorem nofold {iter : Expr} {env : Env} {x : Value} (h : isSet iter = false) (h2 : isListE iter = false) : genFold iter env x = pure x := by
  cases iter <;> first | rfl | (cases h; done) | cases h2
theorem in_all {t : Tg} {vs : List Nat} (h : ((tgIx t).all fun i => vs.contains i) = true) : ∀ i ∈ tgIx t, i ∈ vs := fun i hi => List.contains_iff_mem.mp (List.all_eq_true.mp h i hi)
theorem open_pts {C' : CC} {elt tg iter : Expr} {ifs : List Expr} {scope : Scope} {mk : List Nat → Tg → IK → IE → IE → IE → IE} {ie : IE} (h : cPts G C f fC C' elt tg iter ifs scope mk = some ie) :
    ∃ s t i y, cIter G C f (isTupE tg) iter = some s ∧ cT C' tg = some t ∧ (∀ i ∈ tgIx t, i ∈ (ownOf C scope.names).map (·.2)) ∧ cIfs (fC C') ifs = some i ∧ fC C' elt = some y ∧ ie = mk ((ownOf C scope.names).map (·.2)) t s.1 s.2 i y := by
  unfold cPts at h
  cases h1 : cIter G C f (isTupE tg) iter with
  | none => rw [h1] at h; cases h
  | some s =>
    rw [h1] at h
    simp only [Option.bind_some] at h
    cases h2 : cT C' tg with
    | none => rw [h2] at h; cases h
    | some t =>
      rw [h2] at h
      simp only [Option.bind_some] at h
      by_cases hc : ((tgIx t).all fun i => ((ownOf C scope.names).map (·.2)).contains i) = true
      · rw [if_pos hc] at h
        cases h3 : cIfs (fC C') ifs with
        | none => rw [h3] at h; cases h
        | some i =>
          rw [h3] at h
          simp only [Option.bind_some] at h
          cases h4 : fC C' elt with
          | none => rw [h4] at h; cases h
          | some y =>
            rw [h4] at h
            cases h
            exact ⟨s, t, i, y, rfl, rfl, in_all hc, rfl, rfl, rfl⟩
      · rw [if_neg hc] at h; cases h
/-- the parts of a list comprehension, read -/
structure LcOk (X : Cx) (tabs : List Addr) (F : Nat → List PV → IHeap → Option (PV × IHeap)) (elt tg iter : Expr) (ifs : List Expr) (scope : Scope) (own : List (Str × Nat)) (t : Tg) (k : IK) (src i y : IE) : Prop where
  pi : PI X tg iter (TIi X.K tabs F k src)
  ok : BlkOk X.N X.env.scope scope own
  pg : ∀ (s : Shared) (H : Hp) (Ca : Addr) (cl : List (Str × Addr)) (fp : List Addr), PG (X.blk s H scope (compEnvC scope cl Ca X.env) fp) tg (TIg X.K tabs t)
  pt : ∀ (s : Shared) (H : Hp) (Ca : Addr) (cl : List (Str × Addr)) (fp : List Addr), PTs (X.blk s H scope (compEnvC scope cl Ca X.env) fp) ifs (TIt X.K tabs F i)
  pe : ∀ (s : Shared) (H : Hp) (Ca : Addr) (cl : List (Str × Addr)) (fp : List Addr), PE (X.blk s H scope (compEnvC scope cl Ca X.env) fp) elt (TIe X.K tabs F y)
  fold : ∀ x, foldedSetIterable iter X.env x = pure x
  cov : ∀ i ∈ tgIx t, i ∈ own.map (·.2)
theorem ok_lcP (c : COk G tabs F kf C X) (hf : ∀ e ie, f e = some ie → Both X tabs F e ie) (hfC : ∀ C' X', COk G tabs F kf C' X' → ∀ e ie, fC C' e = some ie → Both X' tabs F e ie) {elt : Expr} {gens : List Comprehension} {scope : Scope} {ie : IE}
    (h : cLc G C f fC elt gens scope = some ie) : ∃ tg iter ifs t k src i y, gens = [⟨tg, iter, ifs, 0⟩] ∧ ie = .lc ((ownOf C scope.names).map (·.2)) t k src i y ∧ LcOk X tabs F elt tg iter ifs scope (ownOf C scope.names) t k src i y := by
  unfold cLc at h
  split at h
  · rename_i tg iter ifs asy
    by_cases hc : asy = 0 ∧ isSet iter = false ∧ blkC C.N (scOf C) scope (ownOf C scope.names) = true
    · rw [if_pos hc] at h
      obtain ⟨rfl, h1, h2⟩ := hc
      obtain ⟨s, t, i, y, a1, a2, a3, a4, a5, rfl⟩ := open_pts h
      have b := ok_blk c h2
      refine ⟨tg, iter, ifs, t, s.1, s.2, i, y, rfl, rfl, ok_iter c hf a1, b, fun s H Ca cl fp => ok_t (c.blk b.kind s H Ca cl fp) a2, fun s H Ca cl fp => ok_ifs (hfC _ _ (c.blk b.kind s H Ca cl fp)) a4,
        fun s H Ca cl fp => (hfC _ _ (c.blk b.kind s H Ca cl fp) _ _ a5).1, fun x => noset h1, a3⟩
    · rw [if_neg hc] at h; cases h
  · cases h
theorem ok_lc (c : COk G tabs F kf C X) (hf : ∀ e ie, f e = some ie → Both X tabs F e ie) (hfC : ∀ C' X', COk G tabs F kf C' X' → ∀ e ie, fC C' e = some ie → Both X' tabs F e ie) {elt : Expr} {gens : List Comprehension} {scope : Scope} {ie : IE} {pos : Pos}
    (h : cLc G C f fC elt gens scope = some ie) : Both X tabs F (.ListComp elt gens scope pos) ie := by
  obtain ⟨tg, iter, ifs, t, k, src, i, y, rfl, rfl, L⟩ := ok_lcP c hf hfC h
  refine both_plain (PEimp (pe_lc c.calm c.nd L.pi L.ok L.pg L.pt L.pe L.fold) fun σ H Q h => lc_go L.cov h) rfl
theorem ok_gen (c : COk G tabs F kf C X) (hf : ∀ e ie, f e = some ie → Both X tabs F e ie) (hfC : ∀ C' X', COk G tabs F kf C' X' → ∀ e ie, fC C' e = some ie → Both X' tabs F e ie) {x : Str} {elt : Expr} {gens : List Comprehension} {scope : Scope} {ie : IE} {p gpos pos : Pos}
    (h : cGen G C f fC x elt gens scope = some ie) : PE X (.Call (.Name x p) [.GeneratorExp elt gens scope gpos] [] pos) (TIe X.K tabs F ie) := by
  unfold cGen at h
  split at h
  · rename_i tg iter ifs asy
    by_cases hc : asy = 0 ∧ C.code = true ∧ blt G C x = true ∧ isSet iter = false ∧ isListE iter = false ∧ genC C.N (scOf C) scope (ownOf C scope.names) = true
    · rw [if_pos hc] at h
      obtain ⟨rfl, hcode, hb, h1, h2, h3⟩ := hc
      cases hg : gcOf x with
      | none => rw [hg] at h; cases h
      | some g =>
        rw [hg] at h
        simp only [Option.bind_some] at h
        obtain ⟨s, t, i, y, a1, a2, a3, a4, a5, rfl⟩ := open_pts h
        have ok := ok_genC c h3
        obtain ⟨cd, P, ec, TB, hP⟩ := c.code hcode
        have hr : Room (kf + 1) X.A := by have := c.room; rw [if_pos hcode] at this; exact this
        have bl := c.bl hb
        have Pt : GX.Parts X kf scope tg elt ifs (TIg X.K tabs t) (TIt X.K tabs F i) (TIe X.K tabs F y) :=
          ⟨fun B s H cenv fp r g e => ok_t (c.gcx hcode ok.kind r g e) a2, fun B s H cenv fp r g e => ok_ifs (hfC _ _ (c.gcx hcode ok.kind r g e)) a4, fun B s H cenv fp r g e => (hfC _ _ (c.gcx hcode ok.kind r g e) _ _ a5).1⟩
        have hi := ok_iter c hf a1
        have hs : ∀ v, genFold iter X.env v = pure v := fun v => nofold h1 h2
        unfold gcOf at hg
        by_cases e1 : (x == "all") = true
        · rw [if_pos e1] at hg
          have e1 := eq_of_beq e1
          subst e1
          cases hg
          exact PEimp (GX.pe_genall c.nd hr bl.1 bl.2 TB ec ok hi Pt hs) fun σ H Q h => genall_go hP a3 h
        · rw [if_neg e1] at hg
          by_cases e1 : (x == "any") = true
          · rw [if_pos e1] at hg
            have e1 := eq_of_beq e1
            subst e1
            cases hg
            exact PEimp (GX.pe_genany c.nd hr bl.1 bl.2 TB ec ok hi Pt hs) fun σ H Q h => genany_go hP a3 h
          · rw [if_neg e1] at hg
            by_cases e1 : (x == "sum") = true
            · rw [if_pos e1] at hg
              have e1 := eq_of_beq e1
              subst e1
              cases hg
              exact PEimp (GX.pe_gensum c.nd hr bl.1 bl.2 TB ec ok hi Pt hs) fun σ H Q h => gensum_go hP a3 h
            · rw [if_neg e1] at hg
              by_cases e1 : (x == "tuple") = true
              · rw [if_pos e1] at hg
                have e1 := eq_of_beq e1
                subst e1
                cases hg
                exact PEimp (GX.pe_gentup c.nd hr bl.1 bl.2 TB ec ok hi Pt hs) fun σ H Q h => gentup_go hP a3 h
              · rw [if_neg e1] at hg; cases hg
    · rw [if_neg hc] at h; cases h
  · cases h
end
end PI
end

section
set_option Elab.async false
set_option linter.all false
set_option maxRecDepth 100000
set_option maxHeartbeats 4000000
/-! the set of a list of whole numbers -/
namespace PI
open PySem PySem.Spec PyProof.Rows L2
/-- a set without members, as it is made -/
abbrev setEmp (w : World) : Obj := { cls := .type "set", dict := none, data := .set #[] 0 (.fresh 0 0 (!w.params.followText "set-order")) }
/-- what the set's start leaves behind -/
def SetIn (w : World) (ns : List Int) (s0 s : Shared) : Prop :=
  ∃ hp tk c, s = { s0 with heap := hp, toks := tk } ∧ SetR w hp s0.heap.objs.size (fun j => decide (j ∈ ns)) c ∧ c ≤ ns.length ∧ ∀ b o, s0.heap.get? b = some o → hp.get? b = some o
section
variable {P : Program} {w : World} {A : Around} {E : Value → Shared → Prop} {s : Shared} {l : Addr} {its : Array Value} {ns : List Int}
theorem new_old {h : Heap} {b n : Nat} {o : Obj} (e : h.get? b = some o) (k : h.objs.size ≤ n) : b ≠ n :=
  Nat.ne_of_lt (Nat.lt_of_lt_of_le (Heap.lt_size e) k)
/-- the set's start fills it from the list -/
theorem set_init_list (nh : A.handled = none) (isl : s.heap.IsList l its) (hI : IntsAre its.toList ns) (few : ns.length + 1 < scanBound) :
    codeAny (model P w) A (.call (.builtin "set.__init__") ⟨[.ref s.heap.objs.size, .ref l], []⟩)
      (wants (fun r t => r = .none ∧ SetIn w ns s t) E) { s with heap := s.heap.push (setEmp w) } := by
  have many : its.size = ns.length := (Array.length_toList (xs := its)).symm.trans (IntsAre.length hI)
  obtain ⟨ob, at0, kind, _, dat⟩ := isl
  obtain ⟨oc, od, oda, os⟩ := ob
  simp only at kind dat
  subst kind dat
  have new : (s.heap.push (setEmp w)).get? s.heap.objs.size = some (setEmp w) := Heap.get?_push_size _ rfl
  have at1 := Heap.get?_push_of_some (setEmp w) at0
  have isl1 : (s.heap.push (setEmp w)).IsList l its := ⟨_, at1, rfl, _, rfl⟩
  have sz1 := Heap.size_push s.heap (setEmp w)
  refine codeAny_call_builtin F.called_set.init.plain F.entry_set_init (check_set_init_1 ⟨_, new, rfl⟩ ?_)
  have nosub1 := F.sub_list_set
  have nosub2 := F.sub_list_frozenset
  have nodict : (Value.type "list" == Value.type "dict") = false := by decide
  unfold Builtin.«set.__init__»
  unfold noKeywords
  unfold Builtin.Frozenset.updateFrom
  generalize iter : pyIter = it
  wp_walk
  subst iter
  refine wpAny_pyIter_list isl1 (wpAny_bind (wpAny_runValue ?_))
  have away : l ≠ (s.heap.push (setEmp w)).objs.size := new_old at1 (Nat.le_refl _)
  have nh3 : A.in1.in1.handled = none := by simp [nh]
  refine set_update_ints (Walks.list nh3 _ l away its).toS s.heap.objs.size ?_ ns many few (fun i v e => ?_) (its.size - 0) 0 _ rfl (Nat.zero_le _)
    ?_ ⟨0, Nat.le_refl 0, ?_⟩ ?_
  · rw [sz1]
    have := Heap.lt_size at0
    intro z
    rcases List.mem_cons.mp z with z | z
    · exact absurd z (Nat.ne_of_lt (Nat.lt_succ_self _))
    · exact absurd (List.mem_singleton.mp z) (Nat.ne_of_gt this)
  · have lt : i < ns.length := many ▸ (Array.getElem?_eq_some_iff.mp e).1
    obtain ⟨tk, q⟩ := hI.int_at i v ((Array.getElem?_toList ..).trans e)
    exact ⟨_, tk, List.getElem?_eq_getElem lt, by rw [q, List.getD_eq_getElem?_getD, List.getElem?_eq_getElem lt]; rfl⟩
  · exact ⟨⟨_, Heap.get?_push_size _ rfl, rfl, rfl⟩, isl1.push _⟩
  · exact setR_new_at (Heap.get?_push_of_some _ new)
  · intro t c mv le R
    obtain ⟨hp, gs, dr, tk, oo⟩ := t
    cases (show gs = s.gens from mv.gens)
    cases (show dr = s.drawn from mv.drawn)
    cases (show oo = s.os from mv.os)
    refine wpAny_pure (wpAny_pure ⟨rfl, hp, tk, c, rfl, R, many ▸ le, fun b o e => mv.heap b o ?_ (Heap.get?_push_of_some _ (Heap.get?_push_of_some _ e))⟩)
    have := Heap.lt_size e
    intro z
    rcases List.mem_cons.mp z with z | z
    · exact absurd z (Nat.ne_of_lt this)
    · exact new_old (Heap.get?_push_of_some (setEmp w) e) (Nat.le_refl _) (List.mem_singleton.mp z)
/-- set(l) -/
theorem set_of_list (nh : A.handled = none) (isl : s.heap.IsList l its) (hI : IntsAre its.toList ns) (few : ns.length + 1 < scanBound) {Q : Value → Shared → Prop}
    (fin : ∀ t, SetIn w ns s t → Q (.ref s.heap.objs.size) t) : wpAny (model P w) A (call (.type "set") [.ref l]) Q E s := by
  obtain ⟨mc, mt, mro⟩ := F.called_set.mro
  have made := F.called_set.made
  have sub := F.called_set.sub
  have nt := F.called_set.notType
  have cc := F.called_set.canCreate
  have ct := F.typeCall_set_1 (.ref l)
  have li := F.called_set.init.lookup
  have bi := F.called_set.init.bind (.ref s.heap.objs.size)
  refine wpAny_call (codeAny_of_tree (wpAny_pure ⟨Code.quiet_builtin _ (by decide +kernel), codeAny_builtin F.entry_type_call ?_⟩))
  rw [Around.under_plain (weight_type_call_type "set" [.ref l] []) rfl]
  repeat (any_goals (first | assumption | wp_step))
  refine codeAny_mono (code_set_led1 (.ref l) (E := E) (Q₁ := fun ob t => ob = .ref s.heap.objs.size ∧ t = { s with heap := s.heap.push (setEmp w) }) ⟨rfl, rfl⟩) fun r t hr => ?_
  cases r with
  | error e => exact hr
  | ok fl =>
    cases fl with
    | ret ob =>
      obtain ⟨rfl, rfl⟩ := hr
      have ty : Shared.TypeIs { s with heap := s.heap.push (setEmp w) } (.ref s.heap.objs.size) "set" := ⟨_, Heap.get?_push_size _ rfl, rfl⟩
      repeat (any_goals (first | assumption | wp_step))
      refine codeAny_mono (set_init_list (by simp [nh]) isl hI few (E := E)) fun r t ht => ?_
      cases r with
      | error e => exact ht
      | ok fl =>
        cases fl with
        | ret r =>
          obtain ⟨rfl, g⟩ := ht
          repeat (any_goals (first | assumption | wp_step))
          exact fin _ g
        | _ => exact ht.elim
    | _ => exact hr.elim
end
end PI
end

section
set_option Elab.async false
set_option linter.all false
set_option maxRecDepth 100000
set_option maxHeartbeats 2000000
/-! sorted(set(a)), len(set(a)) -/
namespace PI
open PySem PySem.Spec PyProof.Rows L2

theorem mem_dd {x : Int} : ∀ {ns : List Int}, x ∈ dd ns ↔ x ∈ ns
  | [] => Iff.rfl
  | y :: ns => by
    unfold dd
    by_cases h : y ∈ ns
    · rw [if_pos h, mem_dd, List.mem_cons]
      exact ⟨.inr, fun z => z.elim (fun e => e ▸ h) id⟩
    · rw [if_neg h, List.mem_cons, List.mem_cons, mem_dd]
theorem nodup_dd : ∀ ns : List Int, (dd ns).Nodup
  | [] => List.nodup_nil
  | y :: ns => by
    unfold dd
    by_cases h : y ∈ ns
    · rw [if_pos h]; exact nodup_dd ns
    · rw [if_neg h]; exact List.nodup_cons.mpr ⟨fun z => h (mem_dd.mp z), nodup_dd ns⟩
theorem len_dd : ∀ ns : List Int, (dd ns).length ≤ ns.length
  | [] => Nat.le_refl _
  | y :: ns => by
    unfold dd
    have := len_dd ns
    split <;> simp <;> omega
theorem mem_ssort {x : Int} {ns : List Int} : x ∈ ssort ns ↔ x ∈ ns := (List.mem_mergeSort).trans mem_dd
theorem asc_ssort (ns : List Int) : (ssort ns).Pairwise (· < ·) := by
  have h1 : (ssort ns).Pairwise (· ≤ ·) := by
    refine (List.pairwise_mergeSort (fun a b c h1 h2 => ?_) (fun a b => ?_) (dd ns)).imp fun h => of_decide_eq_true h
    · simp only [decide_eq_true_eq] at *; omega
    · simp only [Bool.or_eq_true, decide_eq_true_eq]; omega
  have h2 : (ssort ns).Nodup := (List.mergeSort_perm _ _).nodup_iff.mpr (nodup_dd ns)
  exact (h1.and h2).imp fun ⟨a, b⟩ => by omega
/-- two ascending lists with the same members are one -/
theorem asc_uniq : ∀ {xs ys : List Int}, xs.Pairwise (· < ·) → ys.Pairwise (· < ·) → (∀ x, x ∈ xs ↔ x ∈ ys) → xs = ys := by
  intro xs ys h1 h2 m
  have p : xs.Perm ys := (List.perm_ext_iff_of_nodup (h1.imp fun h => by omega) (h2.imp fun h => by omega)).mpr m
  exact p.eq_of_pairwise (le := fun a b => a ≤ b) (fun a b _ _ u v => Int.le_antisymm u v) (h1.imp fun h => by omega) (h2.imp fun h => by omega)
theorem len_set {w : World} {hp : Heap} {a : Addr} {ns : List Int} {c : Nat} (R : SetR w hp a (fun j => decide (j ∈ ns)) c) : c = (dd ns).length := by
  obtain ⟨o, es, ep, t, _, _, _, _, nd, m, _, _, e, _⟩ := R
  have p : (es.toList.map L2.keyOf).Perm (dd ns) := (List.perm_ext_iff_of_nodup nd (nodup_dd ns)).mpr fun x => by
    rw [mem_dd, ← m x, decide_eq_true_eq]
  rw [← e, ← p.length_eq, List.length_map, Array.length_toList]
section
variable {X : Cx} {a : Expr} {p p2 q pos : Pos} {tabs : List Addr} {F : Nat → List PV → IHeap → Option (PV × IHeap)} {ia : IE}
theorem Sim.junk {K : PySem.W.Frag} {φ : Nat → Addr} {h : IHeap} {H : Hp} (S : Sim K tabs φ h H) {d : Addr} {o : HO} (hp : H d = none) : Sim K tabs φ h (upd H d o) ∧ Le φ h H φ h (upd H d o) := by
  have le : Le φ h H φ h (upd H d o) := ⟨.fresh hp, Nat.le_refl _, fun _ _ => rfl⟩
  refine ⟨⟨S.inj, fun i c e => ?_, fun P hP => ?_⟩, le⟩
  · obtain ⟨u, q, _⟩ := (S.cell i c e).some
    exact (S.cell i c e).mono le.stay le.len le.eq (upd_ne (ne_of_none q hp))
  · obtain ⟨ps, e, t⟩ := S.tab P hP
    exact ⟨ps, by rw [upd_ne (ne_of_none e hp)]; exact e, t⟩
theorem ev_sts {b : Bool} {ρ : Env'} {h : IHeap} : ev F (.sts b ia) ρ h = (ev F ia ρ h).bind fun p => stsop b p.1 p.2 := rfl
theorem stsop_ok {b : Bool} {v w : PV} {h h' : IHeap} (e : stsop b v h = some (w, h')) : ∃ i xs ns, v = .ref i ∧ h[i]? = some (.lst xs) ∧ intsOf xs = some ns ∧ ns.length < 60 ∧
    (if b = true then (w, h') = newCell (.lst ((ssort ns).map .int)) h else (w, h') = (.int (dd ns).length, h)) := by
  unfold stsop at e
  split at e
  · split at e
    · rename_i i x0 xs hi
      cases en : intsOf xs with
      | none => rw [en] at e; cases e
      | some ns =>
        rw [en] at e
        simp only [Option.bind_some] at e
        by_cases hl : ns.length < 60
        · rw [if_pos hl] at e
          refine ⟨i, xs, ns, rfl, hi, en, hl, ?_⟩
          cases b
          · simp only [Bool.false_eq_true, if_false] at e ⊢
            cases e; rfl
          · simp only [if_true] at e ⊢
            exact (Option.some.inj e).symm
        · rw [if_neg hl] at e; cases e
    · cases e
  · cases e
/-- the set of a list as an object of its own -/
theorem set_run {pins : List (Addr × Obj)} {σ : L2.St} {H1 : Hp} {s1 : Shared} {φ1 : Nat → Addr} {h1 : IHeap} {i : Nat} {xs : List PV} {ns : List Int} {x : V} {v : Value} {Q : Value → Shared → Prop} (hc : X.calm = true)
    (I1 : Inv X pins σ H1 s1) (S1 : Sim X.K tabs φ1 h1 H1) (r1 : VRep X.K φ1 h1.length H1 (.ref i) x) (rv : RelV x v) (ei : h1[i]? = some (.lst xs)) (en : intsOf xs = some ns) (hl : ns.length < 60)
    (k : ∀ d t c, H1 d = none → SetR X.w t.heap d (fun j => decide (j ∈ ns)) c → Inv X pins σ (upd H1 d (SetO X.w d (fun j => decide (j ∈ ns)) c)) t → Q (.ref d) t) :
    wpAny (model X.prog X.w) X.A (call (.type "set") [v]) Q X.xe s1 := by
  cases r1 with
  | ref hi =>
    obtain ⟨ys, hx, rs⟩ := S1.lst ei
    rw [rs.ints_of en] at hx
    cases rv
    obtain ⟨its, r, pl, hz⟩ := I1.list (SqL.of hx)
    refine set_of_list (I1.ok.hd hc) pl.isList (ns := ns) (by simpa using r.ints) (by unfold scanBound; omega) fun t ⟨hp, tk, c, et, R, le, keep⟩ => ?_
    subst et
    exact k _ _ c (I1.hok.fresh (Nat.le_refl _)) R (I1.laid keep (Nat.le_refl _) (setO_new R))
theorem s_sts {b : Bool} {y : Str} (hc : X.calm = true) (gl : Gl X (if b = true then "sorted" else "len")) (hm : X.mg (if b = true then "sorted" else "len") = none) (gl2 : Gl X "set") (hm2 : X.mg "set" = none) (ha : PE X a (TIe X.K tabs F ia)) (hs : isStar a = false) :
    PE X (.Call (.Name (if b = true then "sorted" else "len") p) [.Call (.Name "set" p2) [a] [] q] [] pos) (TIe X.K tabs F (.sts b ia)) := by
  refine ⟨fun pins s σ H Q I hq => ?_⟩
  obtain ⟨φ, ρ, h, S, E, g⟩ := hq
  rw [ev_sts] at g
  have na : starEach [a] X.env = (false, eval a X.env) :: starEach [] X.env := star_cons hs
  have inner : ∀ {Q' : List Value → Shared → Prop} (pos' : Pos), (∀ (d : Addr) t c φ1 H1 ns i xs h1, h1[i]? = some (.lst xs) → intsOf xs = some ns → ns.length < 60 → Sim X.K tabs φ1 h1 H1 → H1 d = none → SetR X.w t.heap d (fun j => decide (j ∈ ns)) c →
      Inv X pins σ (upd H1 d (SetO X.w d (fun j => decide (j ∈ ns)) c)) t → Then X.K tabs φ1 h1 H1 (stsop b (.ref i) h1) Q → Q' [.ref d] t) →
      wpAny (model X.prog X.w) X.A (spliced (backTo pos' (starEach [.Call (.Name "set" p2) [a] [] q] X.env))) Q' X.xe s := fun {Q'} pos' k => by
    refine PyProof.Rows.args_cons ?_ rfl
    refine Call_ (ld_blt I gl2 hm2 PyProof.Rows.boot_set ?_)
    refine PyProof.Rows.callWith_type1 (PyProof.Rows.args_cons (thn (ha.run pins s σ H _ I ⟨φ, ρ, h, S, E, seqV E g⟩) fun v s1 ⟨x, H1, I1, r1, q1⟩ => PyProof.Rows.args_nil ?_) na) na rfl
    obtain ⟨φ1, w, h1, le, S1, rw1, E1, q1⟩ := q1
    have q1' := q1
    obtain ⟨w2, h2, e2, _⟩ := q1'
    obtain ⟨i, xs, ns, rfl, ei, en, hl, ew⟩ := stsop_ok e2
    exact set_run hc I1 S1 rw1 r1 ei en hl fun d t c nd R I2 => PyProof.Rows.args_nil (k d t c φ1 H1 ns i xs h1 ei en hl S1 nd R I2 q1)
  have few : ∀ {ns : List Int} {t : Shared} {d : Addr} {c : Nat}, ns.length < 60 → SetR X.w t.heap d (fun j => decide (j ∈ ns)) c → c < 64 := fun hl R => by
    have := len_dd ‹List Int›
    rw [len_set R]
    omega
  cases b with
  | true =>
    simp only [if_true] at gl hm ⊢
    refine Call_ (ld_blt I gl hm bt_sorted ?_)
    refine PyProof.Rows.callWith_builtin1 (inner _ fun d t c φ1 H1 ns i xs h1 ei en hl S1 nd R I2 q1 => ?_) rfl rfl
    refine cr_sortedSet hc pins t σ _ [.ref d] [.ref d] Q I2 (.cons rfl .nil) ⟨d, _, c, rfl, upd_same, few hl R, fun ns' p asc mem len hp => ?_⟩
    obtain ⟨S2, le2⟩ := S1.junk (o := SetO X.w d (fun j => decide (j ∈ ns)) c) nd
    have : ns' = ssort ns := asc_uniq asc (asc_ssort ns) fun x => by rw [mem, mem_ssort, decide_eq_true_eq]
    subst this
    exact (q1.after le2).lst (vs := (ssort ns).map .int) (by simp only [stsop, ei, en, Option.bind_some]; rw [if_pos hl, if_pos trivial]) S2 (VReps.ints _) hp
  | false =>
    simp only [Bool.false_eq_true, if_false] at gl hm ⊢
    refine Call_ (ld_blt I gl hm bt_len ?_)
    refine PyProof.Rows.callWith_builtin1 (inner _ fun d t c φ1 H1 ns i xs h1 ei en hl S1 nd R I2 q1 => ?_) rfl rfl
    have hn := len_set R
    have h64 := few hl R
    obtain ⟨S2, le2⟩ := S1.junk (o := SetO X.w d (fun j => decide (j ∈ ns)) c) nd
    obtain ⟨o, es, ep, tb, ho, hex, hd, _, _, _, _, hf, hz, _⟩ := R
    exact call_len_set ho hex hd hf (by rw [hz] <;> omega) ⟨.int (dd ns).length, _, I2.tok _, ⟨_, by rw [hz, hn]⟩,
      (q1.after le2).here (v := .int (dd ns).length) (by simp only [stsop, ei, en, Option.bind_some]; rw [if_pos hl]; simp) S2 (.int _)⟩
end
end PI
end

section
set_option Elab.async false
set_option linter.all false
set_option maxRecDepth 100000
set_option maxHeartbeats 2000000
namespace PI
open PySem PySem.Spec PyProof.Rows L2

section
variable {X : Cx} {k : Nat} {fa : Addr} {fd : FuncData} {ps ks : List Str} {sp : Sp} {x : Str} {p pos : Pos} {e : Expr} {es : List Expr} {kws : List Keyword} {t tk : TA} {perm : List Nat}
theorem pm_vals {perm : List Nat} {xs : List V} {us : List Value} (r : Vals xs us) : Vals (pm perm xs) (pm perm us) := by
  unfold pm
  induction perm with
  | nil => exact .nil
  | cons j js ih =>
    rw [List.filterMap_cons, List.filterMap_cons]
    cases hx : xs[j]? with
    | none =>
      have : us[j]? = none := by
        rw [List.getElem?_eq_none_iff, ← r.length]
        exact List.getElem?_eq_none_iff.mp hx
      rw [this]
      exact ih
    | some v =>
      obtain ⟨u, hu, rv⟩ := r.get hx
      rw [hu]
      exact .cons rv ih
theorem pm_reps {K : PySem.W.Frag} {φ : Nat → Addr} {n : Nat} {H : Hp} {perm : List Nat} {vs : List PV} {xs : List V} (r : VReps K φ n H vs xs) : VReps K φ n H (pm perm vs) (pm perm xs) := by
  unfold pm
  induction perm with
  | nil => exact .nil
  | cons j js ih =>
    rw [List.filterMap_cons, List.filterMap_cons]
    cases hx : vs[j]? with
    | none =>
      have : xs[j]? = none := by
        rw [List.getElem?_eq_none_iff, ← r.length]
        exact List.getElem?_eq_none_iff.mp hx
      rw [this]
      exact ih
    | some v =>
      obtain ⟨u, hu, rv⟩ := r.get hx
      rw [hu]
      exact .cons rv ih
theorem run_gK {pins : List (Addr × Obj)} {σ : L2.St} {H : Hp} {s : Shared} {Q : VK} {us ws : List Value} {vs zs : List V} {n : Nat} (Fn : FnG X.prog X.w X.K X.mg X.base k fa fd ps sp) (hr : Room k X.A) (hg : X.A.guards = some []) (hb : BindK X.K fd ps n ks perm)
    (I : Inv X pins σ H s) (r : Vals vs us) (rz : Vals zs ws) (l1 : vs.length = n) (l2 : zs.length = ks.length) (h : sp (pm perm (vs ++ zs)) H Q E0) : wpAny (model X.prog X.w) X.A (call (.ref fa) us (ks.zip ws)) (EP X pins σ Q) X.xe s := by
  have r2 := pm_vals (perm := perm) (r.append rz)
  refine wpAny_call (codeAny_mono (Fn.run X.A X.stack s H ⟨us, ks.zip ws⟩ _ _ Q E0 hr hg I.env0 (hb s us ws I.kIn (r.length.symm.trans l1) (rz.length.symm.trans l2)) r2 h) fun r s' hq => ?_)
  have q := call_fin I hq
  cases r with
  | error e => exact q
  | ok fl => cases fl <;> exact q
theorem pe_gK {n : Nat} (Fn : FnG X.prog X.w X.K X.mg X.base k fa fd ps sp) (hr : Room k X.A) (hq : X.A.guards = some []) (hg : Gl X x) (hm : X.mg x = some (.ref fa)) (hk : PySem.W.keepIn X.K (.ref fa) = true) (hb : BindK X.K fd ps n ks perm)
    (ha : PA X (e :: es) t) (hkw : PK X kws tk) (hall : (backToKw pos (keywordEach kws X.env)).all (·.1.isSome) = true) (hks : (backToKw pos (keywordEach kws X.env)).filterMap (·.1) = ks)
    (hdb : (x == ("__debug__" : Str)) = false) (hs : (e :: es).all (fun e => !isStar e) = true) : PE X (.Call (.Name x p) (e :: es) kws pos) (fun σ H Q => t σ H fun vs H1 => tk σ H1 fun zs H2 => vs.length = n ∧ zs.length = ks.length ∧ sp (pm perm (vs ++ zs)) H2 Q E0) := by
  have h1 := hs
  simp only [List.all_cons, Bool.and_eq_true, Bool.not_eq_true'] at h1
  refine ⟨fun pins s σ H Q I h => ?_⟩
  refine wpAny_Call_Name_kw (ld_glob I hg hm ?_ hdb)
  refine PySem.W.callWith_KW (h₀ := X.base) I.ok.mod.kin hk hall (thn (ha.run pos pins s σ H _ I h) fun us s1 ⟨vs, H1, I1, r, q⟩ => ?_) ?_ (star_cons h1.1)
  · refine thn (hkw.run pos pins s1 σ H1 _ I1 q) fun ws s2 ⟨zs, H2, I2, rz, l1, l2, q2⟩ => ⟨I2.kIn, ?_⟩
    rw [hks]
    exact run_gK Fn hr hq hb I2 r rz l1 l2 q2
  · rw [back_any, star_all hs, Bool.false_or]
    have : ∀ l : List (Option Str × Sem Value), l.all (·.1.isSome) = true → l.any (·.1.isNone) = false := fun l h => by
      induction l with
      | nil => rfl
      | cons y ys ih =>
        simp only [List.all_cons, Bool.and_eq_true] at h
        rw [List.any_cons, ih h.2]
        cases h3 : y.1 with
        | none => rw [h3] at h; cases h.1
        | some _ => rfl
    exact this _ hall
theorem pe_gK0 (Fn : FnG X.prog X.w X.K X.mg X.base k fa fd ps sp) (hr : Room k X.A) (hq : X.A.guards = some []) (hg : Gl X x) (hm : X.mg x = some (.ref fa)) (hk : PySem.W.keepIn X.K (.ref fa) = true) (hb : BindK X.K fd ps 0 ks perm)
    (hkw : PK X kws tk) (hall : (backToKw pos (keywordEach kws X.env)).all (·.1.isSome) = true) (hks : (backToKw pos (keywordEach kws X.env)).filterMap (·.1) = ks)
    (hdb : (x == ("__debug__" : Str)) = false) : PE X (.Call (.Name x p) [] kws pos) (fun σ H Q => tk σ H fun zs H2 => zs.length = ks.length ∧ sp (pm perm zs) H2 Q E0) := by
  refine ⟨fun pins s σ H Q I h => ?_⟩
  refine wpAny_Call_Name_kw (ld_glob I hg hm ?_ hdb)
  refine PySem.W.callWith_KW0 (h₀ := X.base) I.ok.mod.kin hk hall ?_ ?_
  · refine thn (hkw.run pos pins s σ H _ I h) fun ws s2 ⟨zs, H2, I2, rz, l2, q2⟩ => ⟨I2.kIn, ?_⟩
    rw [hks]
    exact run_gK (us := []) (vs := []) Fn hr hq hb I2 .nil rz rfl l2 q2
  · show (false || _) = false
    rw [Bool.false_or]
    have : ∀ l : List (Option Str × Sem Value), l.all (·.1.isSome) = true → l.any (·.1.isNone) = false := fun l h => by
      induction l with
      | nil => rfl
      | cons y ys ih =>
        simp only [List.all_cons, Bool.and_eq_true] at h
        rw [List.any_cons, ih h.2]
        cases h3 : y.1 with
        | none => rw [h3] at h; cases h.1
        | some _ => rfl
    exact this _ hall
theorem PKimp {t t' : TA} (q : PK X kws t) (i : ∀ σ H Q, t' σ H Q → t σ H Q) : PK X kws t' := ⟨fun pos pins s σ H Q I h => q.run pos pins s σ H Q I (i _ _ _ h)⟩
theorem kw_names {env : Env} {pos : Pos} : ∀ {kws : List Keyword} {ks : List Str}, kwNames kws = some ks → (backToKw pos (keywordEach kws env)).all (·.1.isSome) = true ∧ (backToKw pos (keywordEach kws env)).filterMap (·.1) = ks ∧ ks.length = kws.length
  | [], ks, h => by cases h; exact ⟨rfl, rfl, rfl⟩
  | ⟨a, v, p⟩ :: r, ks, h => by
    cases a with
    | none => cases h
    | some x =>
      have h : (kwNames r).map (x :: ·) = some ks := h
      cases h1 : kwNames r with
      | none => rw [h1] at h; cases h
      | some ks' =>
        rw [h1] at h
        cases h
        obtain ⟨p1, p2, p3⟩ := kw_names (env := env) (pos := pos) h1
        refine ⟨?_, ?_, by simp [p3]⟩
        · show ((some x).isSome && _) = true
          exact p1
        · show x :: (backToKw pos (keywordEach r env)).filterMap (·.1) = x :: ks'
          rw [p2]
end
section
variable {G : GT} {tabs : List Addr} {F : Nat → List PV → IHeap → Option (PV × IHeap)} {kf : Nat} {C : CC} {X : Cx} {f : Expr → Option IE} {fC : CC → Expr → Option IE}
theorem ok_pk (hf : ∀ e ie, f e = some ie → Both X tabs F e ie) : ∀ {kws : List Keyword} {ib : IE}, cL f (kws.map (·.value)) = some ib → PK X kws (TIs X.K tabs F ib)
  | [], ib, h => by
    cases h
    exact PKimp pk_nil fun σ H Q ⟨φ, ρ, h, S, E, vs, h', e, q⟩ => by cases e; exact q φ H [] .refl S .nil
  | ⟨a, v, p⟩ :: r, ib, h => by
    rw [List.map_cons] at h
    unfold cL at h
    cases hs : isStar v with
    | true => simp only [hs] at h; cases h
    | false =>
      simp only [hs, Bool.false_eq_true, if_false] at h
      cases h1 : f v with
      | none => rw [h1] at h; cases h
      | some x =>
        rw [h1] at h
        simp only [Option.bind_some] at h
        cases h2 : cL f (r.map (·.value)) with
        | none => rw [h2] at h; cases h
        | some y =>
          rw [h2] at h
          cases h
          refine PKimp (pk_cons (hf _ _ h1).1 (ok_pk hf h2)) fun σ H Q ⟨φ, ρ, h, S, E, vs, h', e, q⟩ => ⟨φ, ρ, h, S, E, ?_⟩
          rw [ev_cons] at e
          cases e1 : ev F x ρ h with
          | none => rw [e1] at e; cases e
          | some p =>
            obtain ⟨v, h1⟩ := p
            rw [e1] at e
            simp only [Option.bind_some] at e
            cases e2 : ev F y ρ h1 with
            | none => rw [e2] at e; cases e
            | some p2 =>
              obtain ⟨w, h2⟩ := p2
              rw [e2] at e
              simp only [Option.bind_some] at e
              cases w <;> first | (cases e; done) | skip
              cases e
              refine ⟨v, h1, rfl, fun φ1 H1 x l S1 r1 => ⟨φ1, ρ, h1, S1, l.erep E, _, _, e2, fun φ2 H2 xs l2 S2 r2 => ?_⟩⟩
              exact q φ2 H2 (x :: xs) (l.trans l2) S2 (.cons (l2.rep r1) r2)
theorem bltOf_ok {x : Str} {n : Nat} {b : Blt} (h : bltOf x n = some b) : x = bltName b := by
  have step : ∀ {c : Bool} {r : Blt} {o : Option Blt} {y : Str}, (if c = true then some r else o) = some b → (c = true → x = bltName r) → (o = some b → x = bltName b) → x = bltName b := fun {c r o y} h h1 h2 => by
    by_cases hc : c = true
    · rw [if_pos hc] at h; cases h; exact h1 hc
    · rw [if_neg hc] at h; exact h2 h
  unfold bltOf at h
  refine step (y := x) h (fun c => eq_of_beq c) fun h => ?_
  refine step (y := x) h (fun c => eq_of_beq c) fun h => ?_
  refine step (y := x) h (fun c => eq_of_beq c) fun h => ?_
  refine step (y := x) h (fun c => eq_of_beq c) fun h => ?_
  refine step (y := x) h (fun c => eq_of_beq c) fun h => ?_
  refine step (y := x) h (fun c => eq_of_beq c) fun h => ?_
  refine step (y := x) h (fun c => eq_of_beq (by simp only [Bool.and_eq_true] at c; exact c.1)) fun h => ?_
  refine step (y := x) h (fun c => eq_of_beq (by simp only [Bool.and_eq_true] at c; exact c.1)) fun h => ?_
  refine step (y := x) h (fun c => eq_of_beq c) fun h => ?_
  refine step (y := x) h (fun c => eq_of_beq c) fun h => ?_
  refine step (y := x) h (fun c => eq_of_beq c) fun h => ?_
  refine step (y := x) h (fun c => eq_of_beq c) fun h => ?_
  cases h
theorem COk.low (c : COk G tabs F kf C X) : Room kf X.A := by
  have := c.room
  by_cases h : C.code = true
  · rw [if_pos h] at this; exact this.mono (Nat.le_succ _)
  · rw [if_neg h] at this; exact this
theorem ev_callK {i : Nat} {perm : List Nat} {ia ib : IE} {ρ : Env'} {h : IHeap} : ev F (.callK i perm ia ib) ρ h = (ev F ia ρ h).bind fun p => (ev F ib ρ p.2).bind fun q => match p.1, q.1 with
    | .tup ys, .tup zs => F i (pm perm (ys ++ zs)) q.2
    | _, _ => none := rfl
theorem ok_fn (c : COk G tabs F kf C X) (hf : ∀ e ie, f e = some ie → Both X tabs F e ie) {x : Str} {es : List Expr} {kws : List Keyword} {ie : IE} {p pos : Pos} (h : cFn G C f x es kws = some ie) :
    PE X (.Call (.Name x p) es kws pos) (TIe X.K tabs F ie) := by
  unfold cFn at h
  cases hd : G.defs.lookup x with
  | some ip =>
    obtain ⟨i, ps⟩ := ip
    rw [hd] at h
    simp only at h
    obtain ⟨fa, fd, D⟩ := c.glob.defs x i ps hd
    by_cases hg : glb C x = true
    · rw [if_pos hg] at h
      obtain ⟨gl, hdb⟩ := c.gl hg
      by_cases hk : kws.isEmpty = true
      · rw [if_pos hk] at h
        have hk := List.isEmpty_iff.mp hk
        subst hk
        cases h1 : cL f es with
        | none => rw [h1] at h; cases h
        | some ia =>
          rw [h1] at h
          cases h
          obtain ⟨pa, st, len⟩ := ok_cL hf h1
          cases es with
          | nil =>
            refine PEimp (pe_g0 D.fn c.low c.grd gl D.at_ D.kp D.pos hdb) fun σ H Q ⟨φ, ρ, h, S, E, q⟩ => ?_
            cases h1
            exact ⟨φ, [], h, S, .nil, q⟩
          | cons e es =>
            refine PEimp (pe_g D.fn c.low c.grd gl D.at_ D.kp D.pos pa hdb st) fun σ H Q ⟨φ, ρ, h, S, E, q⟩ => ?_
            obtain ⟨φ', ρ', h', S', E', vs, h2, e, g⟩ := args_go (k := F i) S E q
            refine ⟨φ', ρ', h', S', E', vs, h2, e, fun φ1 H1 xs l S1 r1 => ?_⟩
            obtain ⟨φ2, ws, h3, S3, r3, E3, l3, q3⟩ := g φ1 H1 xs l S1 r1
            exact ⟨φ2, ws, h3, S3, r3, q3⟩
      · rw [if_neg hk] at h
        cases hn : kwNames kws with
        | none => rw [hn] at h; cases h
        | some ks =>
          rw [hn] at h
          simp only [Option.bind_some] at h
          cases hp : G.kws.lookup (x, es.length, ks) with
          | none => rw [hp] at h; cases h
          | some perm =>
            rw [hp] at h
            simp only [Option.bind_some] at h
            cases h1 : cL f es with
            | none => rw [h1] at h; cases h
            | some ia =>
              rw [h1] at h
              simp only [Option.bind_some] at h
              cases h2 : cL f (kws.map (·.value)) with
              | none => rw [h2] at h; cases h
              | some ib =>
                rw [h2] at h
                cases h
                obtain ⟨pa, st, len⟩ := ok_cL hf h1
                obtain ⟨_, _, len2⟩ := ok_cL hf h2
                obtain ⟨n1, n2, n3⟩ := kw_names (env := X.env) (pos := pos) hn
                have parts : ∀ {φ : Nat → Addr} {ρ : Env'} {h : IHeap} {H : Hp} {Q : VK}, Then X.K tabs φ h H (ev F (.callK i perm ia ib) ρ h) Q → ∃ ys zs h1 h2, ev F ia ρ h = some (.tup ys, h1) ∧ ev F ib ρ h1 = some (.tup zs, h2) ∧ ∃ v h', F i (pm perm (ys ++ zs)) h2 = some (v, h') ∧
                    ∀ φ' H' z, Le φ h H φ' h' H' → Sim X.K tabs φ' h' H' → VRep X.K φ' h'.length H' v z → Q z H' := fun {φ ρ h H Q} q => by
                  obtain ⟨v, h', e0, q⟩ := q
                  rw [ev_callK] at e0
                  cases e1 : ev F ia ρ h with
                  | none => rw [e1] at e0; cases e0
                  | some p1 =>
                    obtain ⟨y, h1⟩ := p1
                    rw [e1] at e0
                    simp only [Option.bind_some] at e0
                    cases e2 : ev F ib ρ h1 with
                    | none => rw [e2] at e0; cases e0
                    | some p2 =>
                      obtain ⟨z, h2⟩ := p2
                      rw [e2] at e0
                      simp only [Option.bind_some] at e0
                      cases y <;> first | (cases e0; done) | skip
                      cases z <;> first | (cases e0; done) | skip
                      exact ⟨_, _, h1, h2, rfl, e2, v, h', e0, q⟩
                cases es with
                | nil =>
                  cases h1
                  refine PEimp (pe_gK0 D.fn c.low c.grd gl D.at_ D.kp (D.kw _ _ _ hp) (ok_pk hf h2) n1 n2 hdb) fun σ H Q ⟨φ, ρ, h, S, E, q⟩ => ⟨φ, ρ, h, S, E, ?_⟩
                  obtain ⟨ys, zs, h1, h2, e1, e2, v, h', e3, q⟩ := parts q
                  cases e1
                  refine ⟨zs, h2, e2, fun φ2 H2 us l2 S2 r2 => ⟨?_, ?_⟩⟩
                  · rw [← r2.length, len2 _ _ _ _ e2, n3, List.length_map]
                  · exact ⟨φ2, _, h2, S2, pm_reps r2, v, h', e3, fun φ3 H3 z l3 S3 r3 => q φ3 H3 z (l2.trans l3) S3 r3⟩
                | cons e es =>
                  refine PEimp (pe_gK D.fn c.low c.grd gl D.at_ D.kp (D.kw _ _ _ hp) pa (ok_pk hf h2) n1 n2 hdb st) fun σ H Q ⟨φ, ρ, h, S, E, q⟩ => ⟨φ, ρ, h, S, E, ?_⟩
                  obtain ⟨ys, zs, h1, h2, e1, e2, v, h', e3, q⟩ := parts q
                  refine ⟨ys, h1, e1, fun φ1 H1 xs l1 S1 r1 => ⟨φ1, ρ, h1, S1, l1.erep E, zs, h2, e2, fun φ2 H2 us l2 S2 r2 => ⟨?_, ?_, ?_⟩⟩⟩
                  · rw [← r1.length]; exact len _ _ _ _ e1
                  · rw [← r2.length, len2 _ _ _ _ e2, n3, List.length_map]
                  · exact ⟨φ2, _, h2, S2, pm_reps ((l2.reps r1).append r2), v, h', e3, fun φ3 H3 z l3 S3 r3 => q φ3 H3 z ((l1.trans l2).trans l3) S3 r3⟩
    · rw [if_neg hg] at h; cases h
  | none =>
    rw [hd] at h
    simp only at h
    cases hb : bltOf x es.length with
    | none => rw [hb] at h; cases h
    | some b =>
      rw [hb] at h
      simp only [Option.bind_some] at h
      by_cases hc : kws.isEmpty = true ∧ es.isEmpty = false ∧ glb C x = true ∧ (if b = .gcd then G.gcd else G.blts.contains x) = true
      · rw [if_pos hc] at h
        obtain ⟨hk, he, hg, hm⟩ := hc
        have hk := List.isEmpty_iff.mp hk
        subst hk
        have ex := bltOf_ok hb
        subst ex
        cases h1 : cL f es with
        | none => rw [h1] at h; cases h
        | some ia =>
          rw [h1] at h
          cases h
          obtain ⟨pa, st, len⟩ := ok_cL hf h1
          cases es with
          | nil => cases he
          | cons e es =>
            refine s_blt c.calm c.grd c.un (c.gl hg).1 ?_ pa st
            unfold bltMg
            by_cases hbg : b = .gcd
            · rw [if_pos hbg] at hm ⊢
              exact c.glob.gcd hm
            · rw [if_neg hbg] at hm ⊢
              exact c.glob.blts _ (List.contains_iff_mem.mp hm)
      · rw [if_neg hc] at h; cases h
theorem mthOf_ok {m : Str} {k : Mth} (h : mthOf m = some k) : m = mthName k := by
  unfold mthOf at h
  by_cases c : (m == "append") = true
  · rw [if_pos c] at h; cases h; exact eq_of_beq c
  · rw [if_neg c] at h
    by_cases c : (m == "pop") = true
    · rw [if_pos c] at h; cases h; exact eq_of_beq c
    · rw [if_neg c] at h
      by_cases c : (m == "extend") = true
      · rw [if_pos c] at h; cases h; exact eq_of_beq c
      · rw [if_neg c] at h; cases h
theorem ok_mth (c : COk G tabs F kf C X) (hf : ∀ e ie, f e = some ie → Both X tabs F e ie) {o : Expr} {m : Str} {apos pos : Pos} {es : List Expr} {ie : IE} (h : cMth f o m apos es pos = some ie) :
    PE X (.Call (.Attribute o m apos) es [] pos) (TIe X.K tabs F ie) := by
  unfold cMth at h
  cases hm : mthOf m with
  | none => rw [hm] at h; cases h
  | some k =>
    rw [hm] at h
    simp only [Option.bind_some] at h
    have em := mthOf_ok hm
    subst em
    by_cases hc : isCall o = false ∧ (apos.endLine == pos.line) = true ∧ es.length < 30 ∧ (es.isEmpty = true → k = .pop)
    · rw [if_pos hc] at h
      obtain ⟨h1, h2, h3, h4⟩ := hc
      cases e1 : f o with
      | none => rw [e1] at h; cases h
      | some x =>
        rw [e1] at h
        simp only [Option.bind_some] at h
        cases e2 : cL f es with
        | none => rw [e2] at h; cases h
        | some ia =>
          rw [e2] at h
          cases h
          obtain ⟨pa, st, len⟩ := ok_cL hf e2
          cases es with
          | nil =>
            have := h4 rfl
            subst this
            cases e2
            exact s_pop0 (hf _ _ e1).1 h1 h2
          | cons e es => exact s_mth (hf _ _ e1).1 pa h1 h3 h2 st
    · rw [if_neg hc] at h; cases h
theorem genArg_ok {es : List Expr} {g : Expr × List Comprehension × Scope} (h : genArg es = some g) : ∃ gpos, es = [.GeneratorExp g.1 g.2.1 g.2.2 gpos] := by
  unfold genArg at h
  split at h
  · cases h; exact ⟨_, rfl⟩
  · cases h
theorem setArg_ok {es : List Expr} {y : Str} {a : Expr} (h : setArg es = some (y, a)) : ∃ p2 q, es = [.Call (.Name "set" p2) [a] [] q] ∧ y = "set" := by
  unfold setArg at h
  split at h
  · rename_i z p2 b q
    by_cases hz : (z == "set") = true
    · rw [if_pos hz] at h
      cases h
      have := eq_of_beq hz
      subst this
      exact ⟨_, _, rfl, rfl⟩
    · rw [if_neg hz] at h; cases h
  · cases h
theorem ok_sts (c : COk G tabs F kf C X) (hf : ∀ e ie, f e = some ie → Both X tabs F e ie) {x y : Str} {a : Expr} {es : List Expr} {ie : IE} {p pos : Pos} (hs : setArg es = some (y, a)) (h : cSts G C f x y a = some ie) :
    PE X (.Call (.Name x p) es [] pos) (TIe X.K tabs F ie) := by
  obtain ⟨p2, q, rfl, rfl⟩ := setArg_ok hs
  unfold cSts at h
  split at h
  · rename_i hc
    simp only [Bool.and_eq_true, Bool.or_eq_true, Bool.not_eq_true'] at hc
    obtain ⟨⟨⟨⟨hx, bx⟩, bs⟩, st⟩, _⟩ := hc
    cases h1 : f a with
    | none => rw [h1] at h; cases h
    | some ia =>
      rw [h1] at h
      cases h
      obtain ⟨gx, mx⟩ := c.bl bx
      obtain ⟨gs, ms⟩ := c.bl bs
      rcases hx with hx | hx
      · have := eq_of_beq hx
        subst this
        exact s_sts (b := true) (y := "set") c.calm gx mx gs ms (hf _ _ h1).1 st
      · have := eq_of_beq hx
        subst this
        exact s_sts (b := false) (y := "set") c.calm gx mx gs ms (hf _ _ h1).1 st
  · cases h
theorem ok_call (c : COk G tabs F kf C X) (hf : ∀ e ie, f e = some ie → Both X tabs F e ie) (hfC : ∀ C' X', COk G tabs F kf C' X' → ∀ e ie, fC C' e = some ie → Both X' tabs F e ie) {fn : Expr} {es : List Expr} {kws : List Keyword} {ie : IE} {pos : Pos}
    (h : cCall G C f fC fn es kws pos = some ie) : Both X tabs F (.Call fn es kws pos) ie := by
  refine both_plain ?_ rfl
  unfold cCall at h
  split at h
  · rename_i x p
    cases hg : genArg es with
    | some g =>
      rw [hg] at h
      simp only at h
      by_cases hk : kws.isEmpty = true
      · rw [if_pos hk] at h
        have hk := List.isEmpty_iff.mp hk
        subst hk
        obtain ⟨gpos, rfl⟩ := genArg_ok hg
        exact ok_gen c hf hfC h
      · rw [if_neg hk] at h; cases h
    | none =>
      rw [hg] at h
      simp only at h
      cases hs : setArg es with
      | none =>
        rw [hs] at h
        exact ok_fn c hf h
      | some ya =>
        obtain ⟨y, a⟩ := ya
        rw [hs] at h
        simp only at h
        by_cases hk : kws.isEmpty = true
        · rw [if_pos hk] at h
          have hk := List.isEmpty_iff.mp hk
          subst hk
          exact ok_sts c hf hs h
        · rw [if_neg hk] at h; cases h
  · rename_i o m apos
    by_cases hk : kws.isEmpty = true
    · rw [if_pos hk] at h
      have hk := List.isEmpty_iff.mp hk
      subst hk
      exact ok_mth c hf h
    · rw [if_neg hk] at h; cases h
  · cases h
/-- THE TRANSLATION OF AN EXPRESSION IS RIGHT -/
theorem sound : ∀ (n : Nat) (C : CC) (X : Cx), COk G tabs F kf C X → ∀ e ie, cE G n C e = some ie → Both X tabs F e ie
  | 0, C, X, c, e, ie, h => by cases h
  | n + 1, C, X, c, e, ie, h => by
    have hf := sound n C X c
    have hfC := fun C' X' (c' : COk G tabs F kf C' X') => sound n C' X' c'
    cases e <;> first | (cases h; done) | skip
    case BoolOp op es p => exact ⟨(ok_cB hf h).1, (ok_cB hf h).2.pt⟩
    case BinOp a op b p =>
      refine both_plain ?_ rfl
      replace h : (bopOf op).bind (fun o => (cE G n C a).bind fun x => (cE G n C b).bind fun y => some (.bin o x y)) = some ie := h
      cases ho : bopOf op with
      | none => rw [ho] at h; cases h
      | some o =>
        rw [ho] at h
        simp only [Option.bind_some] at h
        have eo := bopOf_ok ho
        subst eo
        cases h1 : cE G n C a with
        | none => rw [h1] at h; cases h
        | some x =>
          rw [h1] at h
          simp only [Option.bind_some] at h
          cases h2 : cE G n C b with
          | none => rw [h2] at h; cases h
          | some y => rw [h2] at h; cases h; exact s_bin (hf _ _ h1).1 (hf _ _ h2).1
    case UnaryOp op a p =>
      cases op <;> first | (cases h; done) | skip
      · have h : (cE G n C a).map IE.not = some ie := h
        cases h1 : cE G n C a with
        | none => rw [h1] at h; cases h
        | some x => rw [h1] at h; cases h; exact ⟨s_not (hf _ _ h1).2 (hf _ _ h1).1, t_not (hf _ _ h1).2⟩
      · have h : (cE G n C a).map IE.neg = some ie := h
        cases h1 : cE G n C a with
        | none => rw [h1] at h; cases h
        | some x => rw [h1] at h; cases h; exact both_plain (s_neg (hf _ _ h1).1) rfl
    case IfExp t a b p =>
      replace h : (cE G n C t).bind (fun x => (cE G n C a).bind fun y => (cE G n C b).bind fun z => some (.ife x y z)) = some ie := h
      cases h1 : cE G n C t with
      | none => rw [h1] at h; cases h
      | some x =>
        rw [h1] at h
        simp only [Option.bind_some] at h
        cases h2 : cE G n C a with
        | none => rw [h2] at h; cases h
        | some y =>
          rw [h2] at h
          simp only [Option.bind_some] at h
          cases h3 : cE G n C b with
          | none => rw [h3] at h; cases h
          | some z =>
            rw [h3] at h
            cases h
            exact ⟨s_ife (hf _ _ h1).2 (hf _ _ h2).1 (hf _ _ h3).1, t_ife (hf _ _ h1).2 (hf _ _ h2).2 (hf _ _ h3).2⟩
    case Dict keys vals p =>
      refine both_plain ?_ rfl
      replace h : (strKeys keys).bind (fun ks => if keys.length = vals.length ∧ keys.isEmpty = false ∧ keys.length ≤ 15 then (cL (cE G n C) vals).map (.dic ks) else none) = some ie := h
      cases hk : strKeys keys with
      | none => rw [hk] at h; cases h
      | some ks =>
        rw [hk] at h
        simp only [Option.bind_some] at h
        by_cases hc : keys.length = vals.length ∧ keys.isEmpty = false ∧ keys.length ≤ 15
        · rw [if_pos hc] at h
          cases h1 : cL (cE G n C) vals with
          | none => rw [h1] at h; cases h
          | some ia =>
            rw [h1] at h
            cases h
            obtain ⟨p1, p2, p3⟩ := ok_pairs hf (pos := p) hk h1 hc.1
            exact s_dic (keys_isL h1 (p3.trans hc.1)) p1 p2 hc.1 (fun z => by rw [z] at hc; cases hc.2.1) hc.2.2
        · rw [if_neg hc] at h; cases h
    case ListComp elt gens scope p => exact ok_lc c hf hfC h
    case Compare a ops bs p => exact ok_cmp c hf h
    case Call fn es kws p => exact ok_call c hf hfC h
    case Constant k j p =>
      replace h : (cConst k).map IE.con = some ie := h
      cases h1 : cConst k with
      | none => rw [h1] at h; cases h
      | some v => rw [h1] at h; cases h; exact ok_const h1
    case Subscript a b p => exact ok_sub c hf h
    case Name x p => exact ok_name c h
    case List es p =>
      replace h : (cL (cE G n C) es).map IE.lst = some ie := h
      cases h1 : cL (cE G n C) es with
      | none => rw [h1] at h; cases h
      | some ia => rw [h1] at h; cases h; exact both_plain (s_lst (ok_cL hf h1).1) rfl
    case Tuple es k p =>
      replace h : (cL (cE G n C) es).map IE.tup = some ie := h
      cases h1 : cL (cE G n C) es with
      | none => rw [h1] at h; cases h
      | some ia => rw [h1] at h; cases h; exact both_plain (s_tup (ok_cL hf h1).1) rfl
end
end PI
end

section
set_option Elab.async false
set_option linter.all false
set_option maxRecDepth 100000
set_option maxHeartbeats 2000000
/-! statements: from the text to the small language -/
namespace PI
open PySem PySem.Spec PyProof.Rows L2

/-- does a, b = x, y store from the right; none: the model says nothing -/
def swaps (names : List (Str × NameKind)) (ts vs : List Expr) : Option Bool :=
  if (!(ts.length == 2 || ts.length == 3) || vs.length != ts.length) = true then some false
  else if (vs.any fun | .Starred .. => true | _ => false) = true then some false
  else if ((ts.filterMap fun
      | .Name id pos => if names.lookup id == some .local && pos.line == (ts.head?.map (·.pos.line)).getD 0 then some id else none
      | _ => none).length != ts.length || (ts.filterMap fun
      | .Name id pos => if names.lookup id == some .local && pos.line == (ts.head?.map (·.pos.line)).getD 0 then some id else none
      | _ => none).eraseDups.length != (ts.filterMap fun
      | .Name id pos => if names.lookup id == some .local && pos.line == (ts.head?.map (·.pos.line)).getD 0 then some id else none
      | _ => none).length) = true then some false
  else if vs.all (foldedForSure 8) = true then some false
  else if vs.all (constantsAlone 8) = true then none
  else some true
theorem swaps_no {env : Env} {ts vs : List Expr} {k k2 : Nat} {p p2 : Pos} (hb : env.blockKind = .function) (h : swaps env.scope.names ts vs = some false) : swappedStores [.Tuple ts k p] (.Tuple vs k2 p2) env = pure none := by
  unfold swaps at h
  unfold swappedStores
  simp only [hb, pure_bind, Env.kindOf] at *
  split at h
  · rename_i h1
    simp only [Bool.or_eq_true] at h1
    rcases h1 with h1 | h1
    · simp [h1]
    · simp [h1]
  · rename_i h1
    have h1' : (!(ts.length == 2 || ts.length == 3) || vs.length != ts.length || ScopeKind.function != ScopeKind.function) = false := by
      simp only [Bool.or_eq_true, not_or] at h1
      have a := h1.1
      have b := h1.2
      simp only [Bool.not_eq_true] at a b
      rw [a, b]
      rfl
    rw [h1']
    simp only [Bool.false_eq_true, if_false]
    split at h
    · rename_i h2; exact if_pos h2
    · rename_i h2
      refine (if_neg h2).trans ?_
      split at h
      · rename_i h3; exact if_pos h3
      · rename_i h3
        refine (if_neg h3).trans ?_
        split at h
        · rename_i h4; exact if_pos h4
        · split at h
          · cases h
          · cases h
theorem swaps_yes {env : Env} {ts vs : List Expr} {k k2 : Nat} {p p2 : Pos} (hb : env.blockKind = .function) (h : swaps env.scope.names ts vs = some true) : swappedStores [.Tuple ts k p] (.Tuple vs k2 p2) env = pure (some (ts.filterMap fun
      | .Name id pos => if env.scope.names.lookup id == some .local && pos.line == (ts.head?.map (·.pos.line)).getD 0 then some id else none
      | _ => none)) := by
  unfold swaps at h
  unfold swappedStores
  simp only [hb, pure_bind, Env.kindOf] at *
  split at h
  · cases h
  · rename_i h1
    have h1' : (!(ts.length == 2 || ts.length == 3) || vs.length != ts.length || ScopeKind.function != ScopeKind.function) = false := by
      simp only [Bool.or_eq_true, not_or] at h1
      have a := h1.1
      have b := h1.2
      simp only [Bool.not_eq_true] at a b
      rw [a, b]
      rfl
    rw [h1']
    simp only [Bool.false_eq_true, if_false]
    split at h
    · cases h
    · rename_i h2
      refine (if_neg h2).trans ?_
      split at h
      · cases h
      · rename_i h3
        refine (if_neg h3).trans ?_
        split at h
        · cases h
        · rename_i h4
          refine (if_neg h4).trans ?_
          split at h
          · cases h
          · rename_i h5; exact if_neg h5

section
variable {X : Cx} {tabs : List Addr} {F : Nat → List PV → IHeap → Option (PV × IHeap)} {wf : Nat} {e : Expr} {ia : IE} {pos tpos : Pos}
theorem st_asgT' {es : List Expr} {j : Nat} {t : Tg} {ie : IE} (he : PE X e (TIe X.K tabs F ie)) (hg : PG X (.Tuple es j tpos) (TIg X.K tabs t)) (hw : swappedStores [.Tuple es j tpos] e X.env = pure none) : PS X (.Assign [.Tuple es j tpos] e pos) (TIst X.K tabs F wf (.asg t ie)) := by
  refine PSimp (ps_asg he hg (by cases e <;> rfl) hw rfl) fun D σ H h => asg_go h
/-- a tuple's items into slots -/
theorem par_go {is : List Nat} {D : Ends} {σ : L2.St} {H : Hp} (h : TIst X.K tabs F wf (.asg (.tp is) (.tup ia)) D σ H) :
    TIs X.K tabs F ia σ H fun xs H1 => ∃ φ1 ρ h1 vs ρ', Sim X.K tabs φ1 h1 H1 ∧ ERep X.K φ1 h1.length H1 ρ σ ∧ VReps X.K φ1 h1.length H1 vs xs ∧ setAll is vs ρ = some ρ' ∧ ∀ σ', ERep X.K φ1 h1.length H1 ρ' σ' → D.nx σ' H1 := by
  obtain ⟨φ, ρ, h, S, E, fl, h', e, q⟩ := h
  refine ⟨φ, ρ, h, S, E, ?_⟩
  have e : ((ev F ia ρ h).bind fun p => match p.1 with | .tup ys => (if ys.length ≤ sizeLine then some (PV.tup ys, p.2) else none) | _ => none).bind (fun p => (assignT (.tp is) p.1 ρ).bind fun ρ' => some (Fl.nx ρ', p.2)) = some (fl, h') := e
  cases e1 : ev F ia ρ h with
  | none => rw [e1] at e; cases e
  | some p =>
    obtain ⟨v, h1⟩ := p
    rw [e1] at e
    simp only [Option.bind_some] at e
    cases v <;> first | (cases e; done) | skip
    rename_i ys
    simp only at e
    by_cases hz : ys.length ≤ sizeLine
    · rw [if_pos hz] at e
      have e : (setAll is ys ρ).bind (fun ρ' => some (Fl.nx ρ', h1)) = some (fl, h') := e
      cases e2 : setAll is ys ρ with
      | none => rw [e2] at e; cases e
      | some ρ' =>
        rw [e2] at e
        cases e
        exact ⟨ys, _, rfl, fun φ1 H1 xs l S1 r => ⟨φ1, ρ, _, ys, ρ', S1, l.erep E, r, e2, fun σ' E' => q φ1 H1 l S1 σ' E'⟩⟩
    · rw [if_neg hz] at e; cases e
theorem st_par2 {i j : Nat} {x y : Str} {a b : Expr} {px py pt pt2 : Pos} {kt k2 : Nat} (hc : X.calm = true) (hN : X.N.Nodup) (hi : X.N[i]? = some x) (hj : X.N[j]? = some y) (hij : i ≠ j) (hx : X.env.scope.names.lookup x = some .local) (hy : X.env.scope.names.lookup y = some .local)
    (ha : PA X [a, b] (TIs X.K tabs F ia)) (hw : swappedStores [.Tuple [.Name x px, .Name y py] kt pt] (.Tuple [a, b] k2 pt2) X.env = pure (some [x, y])) :
    PS X (.Assign [.Tuple [.Name x px, .Name y py] kt pt] (.Tuple [a, b] k2 pt2) pos) (TIst X.K tabs F wf (.asg (.tp [i, j]) (.tup ia))) := by
  refine PSimp (ps_par hc hN hi hj hij hx hy ha hw rfl) fun D σ H h => ?_
  obtain ⟨φ, ρ, h, S, E, vs, h', e, q⟩ := par_go h
  refine ⟨φ, ρ, h, S, E, vs, h', e, fun φ1 H1 xs l S1 r => ?_⟩
  obtain ⟨φ2, ρ2, h2, ws, ρ', S2, E2, r2, es, f⟩ := q φ1 H1 xs l S1 r
  match ws, es with
  | [], es => cases es
  | [_], es => cases es
  | _ :: _ :: _ :: _, es => cases es
  | [v, w], es =>
    cases es
    obtain ⟨z, u, rfl, rz, ru⟩ := reps2 r2
    exact ⟨z, u, rfl, f _ ((E2.set rz).set ru)⟩
theorem st_par3 {i j k : Nat} {x y z : Str} {a b c : Expr} {px py pz pt pt2 : Pos} {kt k2 : Nat} (hc : X.calm = true) (hN : X.N.Nodup) (hi : X.N[i]? = some x) (hj : X.N[j]? = some y) (hk : X.N[k]? = some z) (hij : i ≠ j) (hik : i ≠ k) (hjk : j ≠ k)
    (hx : X.env.scope.names.lookup x = some .local) (hy : X.env.scope.names.lookup y = some .local) (hz : X.env.scope.names.lookup z = some .local)
    (ha : PA X [a, b, c] (TIs X.K tabs F ia)) (hw : swappedStores [.Tuple [.Name x px, .Name y py, .Name z pz] kt pt] (.Tuple [a, b, c] k2 pt2) X.env = pure (some [x, y, z])) :
    PS X (.Assign [.Tuple [.Name x px, .Name y py, .Name z pz] kt pt] (.Tuple [a, b, c] k2 pt2) pos) (TIst X.K tabs F wf (.asg (.tp [i, j, k]) (.tup ia))) := by
  refine PSimp (ps_par3 hc hN hi hj hk hij hik hjk hx hy hz ha hw rfl) fun D σ H h => ?_
  obtain ⟨φ, ρ, h, S, E, vs, h', e, q⟩ := par_go h
  refine ⟨φ, ρ, h, S, E, vs, h', e, fun φ1 H1 xs l S1 r => ?_⟩
  obtain ⟨φ2, ρ2, h2, ws, ρ', S2, E2, r2, es, f⟩ := q φ1 H1 xs l S1 r
  match ws, es with
  | [], es => cases es
  | [_], es => cases es
  | [_, _], es => cases es
  | _ :: _ :: _ :: _ :: _, es => cases es
  | [v, w, t], es =>
    cases es
    cases r2 with
    | cons rv rs =>
      obtain ⟨u, s, rfl, ru, rs⟩ := reps2 rs
      exact ⟨_, u, s, rfl, f _ (((E2.set rv).set ru).set rs)⟩
end

section
variable (G : GT) (C : CC)
def nmsOf (ts : List Expr) : List Str := ts.filterMap fun
  | .Name id _ => some id
  | _ => none
def lineNms (names : List (Str × NameKind)) (ts : List Expr) : List Str := ts.filterMap fun
  | .Name id pos => if names.lookup id == some .local && pos.line == (ts.head?.map (·.pos.line)).getD 0 then some id else none
  | _ => none
def cTup (f : Expr → Option IE) (ts vs : List Expr) : Option IS :=
  (swaps C.names ts vs).bind fun b => (cTs C ts).bind fun is => (cL f vs).bind fun ia =>
    if b = false ∨ (lineNms C.names ts = nmsOf ts ∧ is.Nodup ∧ (nmsOf ts).all (fun x => C.names.lookup x == some .local) = true ∧ vs.length = ts.length ∧ (ts.length = 2 ∨ ts.length = 3)) then some (.asg (.tp is) (.tup ia)) else none
def cAsg (f : Expr → Option IE) (fC : CC → Expr → Option IE) (t e : Expr) : Option IS :=
  match t with
  | .Name x _ => (cTn C x).bind fun i => (match e with
    | .ListComp elt gens scope _ => (cLc G C f fC elt gens scope).map fun ie => .asg (.nm i) ie
    | e => if isComp e = true then none else (f e).map fun ie => .asg (.nm i) ie)
  | .Tuple ts _ _ => (match e with
    | .Tuple vs _ _ => cTup C f ts vs
    | e => if isDisp e = true then none else (cTs C ts).bind fun is => (f e).map fun ie => .asg (.tp is) ie)
  | .Subscript o i _ => if isSlice i = true then none else (f e).bind fun ie => (f o).bind fun io => (f i).map fun ii => .sub io ii ie
  | _ => none
def cSs (f : Stmt → Option IS) : List Stmt → Option IS
  | [] => some .nil
  | s :: r => (f s).bind fun a => (cSs f r).map fun b => .seq a b
def isDoc : Expr → Bool
  | .Constant (.str _) _ _ => true
  | _ => false
def cS : Nat → Stmt → Option IS
  | 0, _ => none
  | n + 1, st => match st with
    | .Expr e _ => if isDoc e = true then some .pass else if isComp e = true then none else (cE G 100 C e).map .ex
    | .Pass _ => some .pass
    | .Break _ => some .brk
    | .Continue _ => some .cnt
    | .Return r _ => (match r with
      | none => some (.ret (.con .non))
      | some e => (cE G 100 C e).map .ret)
    | .If c a b _ => (cE G 100 C c).bind fun x => (cSs (cS n) a).bind fun y => (cSs (cS n) b).map fun z => .ife x y z
    | .While c b o _ => if o.isEmpty = true then (cE G 100 C c).bind fun x => (cSs (cS n) b).map fun y => .while_ x y else none
    | .For tg iter b o _ => if o.isEmpty = true ∧ isSet iter = false then (cIter G C (cE G 100 C) (isTupE tg) iter).bind fun s => (cT C tg).bind fun t => (cSs (cS n) b).map fun y => .for_ t s.1 s.2 y else none
    | .Assign ts e _ => (match ts with
      | [t] => cAsg G C (cE G 100 C) (cE G 100) t e
      | _ => none)
    | .AugAssign t op e _ => (match t with
      | .Name x _ => (bopOf op).bind fun o => (cTn C x).bind fun i => (cE G 100 C e).map fun ie => .aug i o ie
      | _ => none)
    | .Raise .. => some .never
    | _ => none
end

structure SOk (G : GT) (tabs : List Addr) (F : Nat → List PV → IHeap → Option (PV × IHeap)) (kf : Nat) (C : CC) (X : Cx) : Prop where
  c : COk G tabs F kf C X
  bk : X.env.blockKind = .function
  own : PassesOwn (model X.prog X.w) X.A X.env X.xe
section
variable {G : GT} {tabs : List Addr} {F : Nat → List PV → IHeap → Option (PV × IHeap)} {kf wf : Nat} {C : CC} {X : Cx} {f : Expr → Option IE} {fC : CC → Expr → Option IE}
theorem ok_setLc (c : COk G tabs F kf C X) {i : Nat} {y : Str} {py pos spos : Pos} {elt tg iter : Expr} {ifs : List Expr} {scope : Scope} {own : List (Str × Nat)} {t : Tg} {k : IK} {src ii iy : IE} (h : cTn C y = some i) (L : LcOk X tabs F elt tg iter ifs scope own t k src ii iy) :
    PS X (.Assign [.Name y py] (.ListComp elt [⟨tg, iter, ifs, 0⟩] scope pos) spos) (TIst X.K tabs F wf (.asg (.nm i) (.lc (own.map (·.2)) t k src ii iy))) := by
  obtain ⟨t1, t2, t3⟩ := ok_tn c h
  obtain ⟨b, hb, hl⟩ : ∃ b, swapsWith (.ListComp elt [⟨tg, iter, ifs, 0⟩] scope pos) (some (.Name y py)) spos.line X.env = pure b ∧ (b = true → X.env.scope.names.lookup y = some .local) := by
    refine ⟨_, rfl, fun z => ?_⟩
    simp only [Bool.and_eq_true] at z
    exact eq_of_beq z.1.1.2
  cases b with
  | true =>
    refine PSimp (ps_setLc c.calm c.nd t1 (hl rfl) hb L.pi L.ok L.pg L.pt L.pe L.fold) fun D σ H h => ?_
    have q := asg_go h
    refine lc_go (Q := fun x H1 => gName i x σ H1 D.nx) L.cov ?_
    obtain ⟨φ, ρ, h, S, E, q⟩ := q
    refine ⟨φ, ρ, h, S, E, q.imp fun x H1 ⟨φ1, ρ1, h1, w, ρ', S1, E1, r, e, f⟩ => ?_⟩
    cases e
    exact f _ (E1.set r) fun vs hv => wipe_set (hv i (by simp [tgIx]))
  | false => exact st_asgN c.nd t1 t2 (PEimp (pe_lc c.calm c.nd L.pi L.ok L.pg L.pt L.pe L.fold) fun σ H Q h => lc_go L.cov h) hb t3
theorem ok_tup (s : SOk G tabs F kf C X) (hf : ∀ e ie, f e = some ie → Both X tabs F e ie) {ts vs : List Expr} {k k2 : Nat} {pa1 pa2 pos : Pos} {r : IS} (h : cTup C f ts vs = some r) : PS X (.Assign [.Tuple ts k pa1] (.Tuple vs k2 pa2) pos) (TIst X.K tabs F wf r) := by
  have c := s.c
  unfold cTup at h
  cases h1 : swaps C.names ts vs with
  | none => rw [h1] at h; cases h
  | some b =>
    rw [h1] at h
    simp only [Option.bind_some] at h
    rw [← c.names] at h1
    cases h2 : cTs C ts with
    | none => rw [h2] at h; cases h
    | some is =>
      rw [h2] at h
      simp only [Option.bind_some] at h
      cases h3 : cL f vs with
      | none => rw [h3] at h; cases h
      | some ia =>
        rw [h3] at h
        simp only [Option.bind_some] at h
        obtain ⟨pa, st, len⟩ := ok_cL hf h3
        obtain ⟨p1, p2, p3⟩ := ok_ts c h2
        split at h
        · rename_i hc
          cases h
          cases b with
          | false => exact st_asgT' (s_tup pa) (g_tup c.calm p1 p2 p3) (swaps_no s.bk h1)
          | true =>
            rcases hc with hc | ⟨c1, c2, c3, c4, c5⟩
            · cases hc
            · have hy := swaps_yes (k := k) (k2 := k2) (p := pa1) (p2 := pa2) s.bk h1
              replace hy : swappedStores [.Tuple ts k pa1] (.Tuple vs k2 pa2) X.env = pure (some (lineNms X.env.scope.names ts)) := hy
              rw [c.names, c1] at hy
              have isn : ∀ {e : Expr}, isName e = true → ∃ x p, e = .Name x p := fun {e} h => by cases e <;> first | (cases h; done) | exact ⟨_, _, rfl⟩
              rcases c5 with c5 | c5
              · match ts, vs, c5, c4.trans c5 with
                | [t1, t2], [a, b], _, _ =>
                  simp only [List.all_cons, List.all_nil, Bool.and_true, Bool.and_eq_true] at p2
                  obtain ⟨x, px, rfl⟩ := isn p2.1
                  obtain ⟨y, py, rfl⟩ := isn p2.2
                  replace h2 : (cTn C x).bind (fun i => ((cTn C y).bind fun i => some [i]).bind fun is => some (i :: is)) = some is := h2
                  cases e1 : cTn C x with
                  | none => rw [e1] at h2; cases h2
                  | some i =>
                    cases e2 : cTn C y with
                    | none => rw [e1, e2] at h2; cases h2
                    | some j =>
                      rw [e1, e2] at h2
                      cases h2
                      have hij : i ≠ j := fun z => by subst z; simp at c2
                      simp only [nmsOf, List.filterMap_cons, List.filterMap_nil, List.all_cons, List.all_nil, Bool.and_true, Bool.and_eq_true] at c3
                      rw [← c.names] at c3
                      exact st_par2 c.calm c.nd (ok_tn c e1).1 (ok_tn c e2).1 hij (eq_of_beq c3.1) (eq_of_beq c3.2) pa hy
              · match ts, vs, c5, c4.trans c5 with
                | [t1, t2, t3], [a, b, d], _, _ =>
                  simp only [List.all_cons, List.all_nil, Bool.and_true, Bool.and_eq_true] at p2
                  obtain ⟨x, px, rfl⟩ := isn p2.1
                  obtain ⟨y, py, rfl⟩ := isn p2.2.1
                  obtain ⟨z, pz, rfl⟩ := isn p2.2.2
                  replace h2 : (cTn C x).bind (fun i => ((cTn C y).bind fun i => ((cTn C z).bind fun i => some [i]).bind fun is => some (i :: is)).bind fun is => some (i :: is)) = some is := h2
                  cases e1 : cTn C x with
                  | none => rw [e1] at h2; cases h2
                  | some i =>
                    cases e2 : cTn C y with
                    | none => rw [e1, e2] at h2; cases h2
                    | some j =>
                      cases e3 : cTn C z with
                      | none => rw [e1, e2, e3] at h2; cases h2
                      | some l =>
                        rw [e1, e2, e3] at h2
                        cases h2
                        have hn : i ≠ j ∧ i ≠ l ∧ j ≠ l := by simp at c2; exact ⟨c2.1.1, c2.1.2, c2.2⟩
                        simp only [nmsOf, List.filterMap_cons, List.filterMap_nil, List.all_cons, List.all_nil, Bool.and_true, Bool.and_eq_true] at c3
                        rw [← c.names] at c3
                        exact st_par3 c.calm c.nd (ok_tn c e1).1 (ok_tn c e2).1 (ok_tn c e3).1 hn.1 hn.2.1 hn.2.2 (eq_of_beq c3.1) (eq_of_beq c3.2.1) (eq_of_beq c3.2.2) pa hy
        · cases h
end
end PI
end

section
set_option Elab.async false
set_option linter.all false
set_option maxRecDepth 100000
set_option maxHeartbeats 2000000
namespace PI
open PySem PySem.Spec PyProof.Rows L2

section
variable {G : GT} {tabs : List Addr} {F : Nat → List PV → IHeap → Option (PV × IHeap)} {kf wf : Nat} {C : CC} {X : Cx} {f : Expr → Option IE} {fC : CC → Expr → Option IE}
theorem ok_asg (s : SOk G tabs F kf C X) (hf : ∀ e ie, f e = some ie → Both X tabs F e ie) (hfC : ∀ C' X', COk G tabs F kf C' X' → ∀ e ie, fC C' e = some ie → Both X' tabs F e ie) {t e : Expr} {pos : Pos} {r : IS} (h : cAsg G C f fC t e = some r) :
    PS X (.Assign [t] e pos) (TIst X.K tabs F wf r) := by
  have c := s.c
  unfold cAsg at h
  cases t <;> first | (cases h; done) | skip
  case Subscript o i p =>
    simp only at h
    by_cases hs : isSlice i = true
    · rw [if_pos hs] at h; cases h
    · rw [if_neg hs] at h
      have hs' : isSlice i = false := by simpa using hs
      cases h1 : f e with
      | none => rw [h1] at h; cases h
      | some ie =>
        rw [h1] at h
        simp only [Option.bind_some] at h
        cases h2 : f o with
        | none => rw [h2] at h; cases h
        | some io =>
          rw [h2] at h
          simp only [Option.bind_some] at h
          cases h3 : f i with
          | none => rw [h3] at h; cases h
          | some ii =>
            rw [h3] at h
            cases h
            exact st_sub (by have := c.un; omega) hs' (hf _ _ h2).1 (hf _ _ h3).1 (hf _ _ h1).1
  case Name x p =>
    simp only at h
    cases h1 : cTn C x with
    | none => rw [h1] at h; cases h
    | some i =>
      rw [h1] at h
      simp only [Option.bind_some] at h
      have plain : isComp e = false → (f e).map (fun ie => IS.asg (.nm i) ie) = some r → PS X (.Assign [.Name x p] e pos) (TIst X.K tabs F wf r) := fun hc h => by
        cases h2 : f e with
        | none => rw [h2] at h; cases h
        | some ie =>
          rw [h2] at h
          cases h
          obtain ⟨t1, t2, t3⟩ := ok_tn c h1
          exact st_asgN c.nd t1 t2 (hf _ _ h2).1 (noswap hc) t3
      split at h
      · rename_i elt gens scope lp
        cases h2 : cLc G C f fC elt gens scope with
        | none => rw [h2] at h; cases h
        | some ie =>
          rw [h2] at h
          cases h
          obtain ⟨tg, iter, ifs, t, k, src, i', y, rfl, rfl, L⟩ := ok_lcP c hf hfC h2
          exact ok_setLc c h1 L
      · by_cases hc : isComp e = true
        · rw [if_pos hc] at h; cases h
        · rw [if_neg hc] at h
          exact plain (by simpa using hc) h
  case Tuple ts k p =>
    simp only at h
    split at h
    · exact ok_tup s hf h
    · by_cases hc : isDisp e = true
      · rw [if_pos hc] at h; cases h
      · rw [if_neg hc] at h
        cases h1 : cTs C ts with
        | none => rw [h1] at h; cases h
        | some is =>
          rw [h1] at h
          simp only [Option.bind_some] at h
          cases h2 : f e with
          | none => rw [h2] at h; cases h
          | some ie =>
            rw [h2] at h
            cases h
            obtain ⟨p1, p2, p3⟩ := ok_ts c h1
            exact st_asgT (hf _ _ h2).1 (g_tup c.calm p1 p2 p3) (by simpa using hc)
theorem ok_cSs {g : Stmt → Option IS} (hg : ∀ st r, g st = some r → PS X st (TIst X.K tabs F wf r)) : ∀ {sts : List Stmt} {r : IS}, cSs g sts = some r → PSs X sts (TIst X.K tabs F wf r)
  | [], r, h => by cases h; exact st_nil
  | st :: sts, r, h => by
    unfold cSs at h
    cases h1 : g st with
    | none => rw [h1] at h; cases h
    | some a =>
      rw [h1] at h
      simp only [Option.bind_some] at h
      cases h2 : cSs g sts with
      | none => rw [h2] at h; cases h
      | some b => rw [h2] at h; cases h; exact st_seq (hg _ _ h1) (ok_cSs hg h2)
/-- THE TRANSLATION OF A STATEMENT IS RIGHT -/
theorem soundS (s : SOk G tabs F kf C X) : ∀ (n : Nat) st r, cS G C n st = some r → PS X st (TIst X.K tabs F wf r)
  | 0, st, r, h => by cases h
  | n + 1, st, r, h => by
    have c := s.c
    have hf := sound 100 C X c
    have hfC := fun C' X' (c' : COk G tabs F kf C' X') => sound 100 C' X' c'
    have ih : ∀ {sts : List Stmt} {r : IS}, cSs (cS G C n) sts = some r → PSs X sts (TIst X.K tabs F wf r) := fun h => ok_cSs (soundS s n) h
    cases st <;> first | (cases h; done) | skip
    case Expr e p =>
      replace h : (if isDoc e = true then some IS.pass else if isComp e = true then none else (cE G 100 C e).map .ex) = some r := h
      by_cases hd : isDoc e = true
      · rw [if_pos hd] at h
        cases h
        cases e <;> first | (cases hd; done) | skip
        rename_i k _ _
        cases k <;> first | (cases hd; done) | exact st_doc
      · rw [if_neg hd] at h
        by_cases hc : isComp e = true
        · rw [if_pos hc] at h; cases h
        · rw [if_neg hc] at h
          cases h1 : cE G 100 C e with
          | none => rw [h1] at h; cases h
          | some x => rw [h1] at h; cases h; exact st_ex (hf _ _ h1).1 (by simpa using hc)
    case Pass p => cases h; exact st_pass
    case Break p => cases h; exact st_brk
    case Continue p => cases h; exact st_cnt
    case Return o p =>
      cases o with
      | none => cases h; exact st_ret0
      | some e =>
        replace h : (cE G 100 C e).map IS.ret = some r := h
        cases h1 : cE G 100 C e with
        | none => rw [h1] at h; cases h
        | some x => rw [h1] at h; cases h; exact st_ret (hf _ _ h1).1
    case If t a b p =>
      replace h : (cE G 100 C t).bind (fun x => (cSs (cS G C n) a).bind fun y => (cSs (cS G C n) b).map fun z => IS.ife x y z) = some r := h
      cases h1 : cE G 100 C t with
      | none => rw [h1] at h; cases h
      | some x =>
        rw [h1] at h
        simp only [Option.bind_some] at h
        cases h2 : cSs (cS G C n) a with
        | none => rw [h2] at h; cases h
        | some y =>
          rw [h2] at h
          simp only [Option.bind_some] at h
          cases h3 : cSs (cS G C n) b with
          | none => rw [h3] at h; cases h
          | some z => rw [h3] at h; cases h; exact st_if (hf _ _ h1).2 (ih h2) (ih h3)
    case While t b o p =>
      replace h : (if o.isEmpty = true then (cE G 100 C t).bind (fun x => (cSs (cS G C n) b).map fun y => IS.while_ x y) else none) = some r := h
      by_cases ho : o.isEmpty = true
      · rw [if_pos ho] at h
        have ho := List.isEmpty_iff.mp ho
        subst ho
        cases h1 : cE G 100 C t with
        | none => rw [h1] at h; cases h
        | some x =>
          rw [h1] at h
          simp only [Option.bind_some] at h
          cases h2 : cSs (cS G C n) b with
          | none => rw [h2] at h; cases h
          | some y => rw [h2] at h; cases h; exact st_while s.own (hf _ _ h1).2 (ih h2)
      · rw [if_neg ho] at h; cases h
    case For tg iter b o p =>
      replace h : (if o.isEmpty = true ∧ isSet iter = false then (cIter G C (cE G 100 C) (isTupE tg) iter).bind (fun s => (cT C tg).bind fun t => (cSs (cS G C n) b).map fun y => IS.for_ t s.1 s.2 y) else none) = some r := h
      by_cases ho : o.isEmpty = true ∧ isSet iter = false
      · rw [if_pos ho] at h
        obtain ⟨ho, hs⟩ := ho
        have ho := List.isEmpty_iff.mp ho
        subst ho
        cases h1 : cIter G C (cE G 100 C) (isTupE tg) iter with
        | none => rw [h1] at h; cases h
        | some x =>
          rw [h1] at h
          simp only [Option.bind_some] at h
          cases h2 : cT C tg with
          | none => rw [h2] at h; cases h
          | some t =>
            rw [h2] at h
            simp only [Option.bind_some] at h
            cases h3 : cSs (cS G C n) b with
            | none => rw [h3] at h; cases h
            | some y => rw [h3] at h; cases h; exact st_for s.own c.calm (ok_iter c hf h1) (ok_t c h2) (ih h3) fun x => noset hs
      · rw [if_neg ho] at h; cases h
    case Assign ts e p =>
      match ts, h with
      | [t], h => exact ok_asg s hf hfC h
    case AugAssign t op e p =>
      cases t <;> first | (cases h; done) | skip
      rename_i x px
      replace h : (bopOf op).bind (fun o => (cTn C x).bind fun i => (cE G 100 C e).map fun ie => IS.aug i o ie) = some r := h
      cases ho : bopOf op with
      | none => rw [ho] at h; cases h
      | some o =>
        rw [ho] at h
        simp only [Option.bind_some] at h
        have eo := bopOf_ok ho
        subst eo
        cases h1 : cTn C x with
        | none => rw [h1] at h; cases h
        | some i =>
          rw [h1] at h
          simp only [Option.bind_some] at h
          cases h2 : cE G 100 C e with
          | none => rw [h2] at h; cases h
          | some ie =>
            rw [h2] at h
            cases h
            obtain ⟨t1, t2, t3⟩ := ok_tn c h1
            exact st_aug c.nd t1 t2 (hf _ _ h2).1 t3
    case Raise a b p => cases h; exact st_never
end

/-! ### the table of defs -/
structure IDef where
  np : Nat
  slots : Nat
  body : IS
def start' (d : IDef) (vs : List PV) : Env' := vs.map some ++ List.replicate (d.slots - vs.length) none
def retOf : Fl → Option PV
  | .rt v => some v
  | .nx _ => some .non
  | _ => none
/-- calls, so many levels deep -/
def callN (defs : List IDef) (wf : Nat) : Nat → Nat → List PV → IHeap → Option (PV × IHeap)
  | 0, _, _, _ => none
  | k + 1, i, vs, h => match defs[i]? with
    | none => none
    | some d => if vs.length = d.np then (ex (callN defs wf k) wf d.body (start' d vs) h).bind fun p => (retOf p.1).bind fun v => some (v, p.2) else none
theorem callN_len {defs : List IDef} {wf k i : Nat} {d : IDef} {vs : List PV} {h : IHeap} {r : PV × IHeap} (hd : defs[i]? = some d) (e : callN defs wf k i vs h = some r) : vs.length = d.np := by
  cases k with
  | zero => cases e
  | succ k =>
    unfold callN at e
    rw [hd] at e
    simp only at e
    by_cases hl : vs.length = d.np
    · exact hl
    · rw [if_neg hl] at e; cases e

structure DRec where
  x : Str
  params : Arguments
  body : List Stmt
  scope : Scope
  N : List Str
  ps : List Str
  code : Bool
def DRec.cc (d : DRec) : CC := ⟨d.N, d.scope.names, cellsOf d.scope.names, d.code⟩
/-- how a def stands in the module -/
structure DFact (K : PySem.W.Frag) (mg : Str → Option Value) (base : Heap) (tabs : List Addr) (G : GT) (d : DRec) (f : Addr) (fd : FuncData) : Prop where
  fn : FunD K d.x d.x d.params d.body d.scope [] [] f fd
  at_ : mg d.x = some (.ref f)
  pos : Binds K fd d.ps []
  kw : ∀ n ks perm, G.kws.lookup (d.x, n, ks) = some perm → BindK K fd d.ps n ks perm
  code : d.code = true → ∀ cdv : Value, (∃ (oc : Value) (od : Option Addr) (dV kV doc pm : Value) (an : Option Addr) (ct : Value) (osl : Array (Option Value)), K.lookup f = some ⟨oc, od, .func (PySem.W.fnOf d.x d.x d.params d.body d.scope dV kV doc pm an cdv ct), osl⟩) →
    ∃ c P', cdv = .ref c ∧ GxR.TabB base mg c P' ∧ P' ∈ tabs
/-- the text's defs, translated -/
structure Text (G : GT) (recs : List DRec) (defs : List IDef) : Prop where
  names : ∀ x i ps, G.defs.lookup x = some (i, ps) → ∃ d, recs[i]? = some d ∧ d.x = x ∧ d.ps = ps
  comp : ∀ (i : Nat) (d : DRec), recs[i]? = some d → ∃ r, cSs (cS G d.cc 100) d.body = some r ∧ defs[i]? = some ⟨d.ps.length, d.N.length, r⟩
  scope : ∀ (i : Nat) (d : DRec), recs[i]? = some d → FnScope d.N d.ps d.scope
section
variable {P : Program} {w : World} {K : PySem.W.Frag} {mg : Str → Option Value} {base : Heap} {tabs : List Addr} {G : GT} {recs : List DRec} {defs : List IDef} {wf : Nat}
theorem erep_start {φ : Nat → Addr} {n : Nat} {H : Hp} {d : IDef} {N : List Str} {vs : List PV} {xs : List V} (r : VReps K φ n H vs xs) (hN : d.slots = N.length) : ERep K φ n H (start' d vs) (L2.start N xs) := by
  unfold start' L2.start
  refine ⟨by simp [r.length, hN], fun i v e => ?_⟩
  have hi : i < vs.length := by
    by_cases hi : i < vs.length
    · exact hi
    · rw [List.getElem?_append_right (by simpa using hi), List.getElem?_replicate] at e
      split at e <;> cases e
  rw [List.getElem?_append_left (by simpa using hi), List.getElem?_map] at e
  cases hv : vs[i]? with
  | none => rw [hv] at e; cases e
  | some w =>
    rw [hv] at e
    cases e
    obtain ⟨x, hx, rx⟩ := r.get hv
    have hl : i < xs.length := by rw [← r.length]; exact hi
    exact ⟨x, by rw [List.getElem?_append_left (by simpa using hl), List.getElem?_map, hx]; rfl, rx⟩
theorem all_ok (T : Text G recs defs) (facts : ∀ (i : Nat) (d : DRec), recs[i]? = some d → ∃ f fd, DFact K mg base tabs G d f fd)
    (vals : ∀ x v, G.vals.lookup x = some v → ∃ xv u, mg x = some u ∧ RelV xv u ∧ Known K v xv) (blts : ∀ x ∈ G.blts, mg x = none) (gcd : G.gcd = true → mg "gcd" = some (.builtin "math.gcd")) :
    ∀ k, GOk P w K mg base tabs (callN defs wf k) (2 * k) G ∧ ∀ (i : Nat) (d : DRec) (f : Addr) (fd : FuncData), recs[i]? = some d → DFact K mg base tabs G d f fd → FnG P w K mg base (2 * k) f fd d.ps (spF K tabs (callN defs wf k) i) := by
  intro k
  have mk : ∀ k, (∀ (i : Nat) (d : DRec) (f : Addr) (fd : FuncData), recs[i]? = some d → DFact K mg base tabs G d f fd → FnG P w K mg base (2 * k) f fd d.ps (spF K tabs (callN defs wf k) i)) → GOk P w K mg base tabs (callN defs wf k) (2 * k) G := fun k h => by
    refine ⟨vals, blts, gcd, fun x i ps e => ?_⟩
    obtain ⟨d, hd, rfl, rfl⟩ := T.names x i ps e
    obtain ⟨f, fd, D⟩ := facts i d hd
    exact ⟨f, fd, h i d f fd hd D, D.at_, D.fn.kp, D.pos, D.kw⟩
  have fns : ∀ (i : Nat) (d : DRec) (f : Addr) (fd : FuncData), recs[i]? = some d → DFact K mg base tabs G d f fd → FnG P w K mg base (2 * k) f fd d.ps (spF K tabs (callN defs wf k) i) := by
    induction k with
    | zero =>
      intro i d f fd hd D
      have no : ∀ vs H Q E, ¬ spF K tabs (callN defs wf 0) i vs H Q E := fun vs H Q E ⟨φ, ws, h, S, r, v, h', e, _⟩ => by cases e
      exact ⟨fun vs H Q E h => absurd h (no vs H Q E), fun A outer s H args us vs Q E _ _ _ _ _ h => absurd h (no vs H Q E)⟩
    | succ k ih =>
      intro i d f fd hd D
      have GO := mk k ih
      obtain ⟨r, hc, hdef⟩ := T.comp i d hd
      have Sc := T.scope i d hd
      show FnG P w K mg base (2 * k + 1 + 1) f fd d.ps _
      refine fng_of D.fn Sc (fun vs H Q E ⟨φ, ws, h, S, rs, v, h', e, _⟩ => ?_) fun cdv A outer s H vs Q E hr hg hlk ⟨φ, ws, h, S, rs, v, h', e, q⟩ => ?_
      · rw [← rs.length]
        exact callN_len hdef e
      · have cok : COk G tabs (callN defs wf k) (2 * k) d.cc (cxOf CX0 P w K mg base d.N d.x d.scope f cdv A outer s H E).nox := by
          refine ⟨rfl, Sc.nd, rfl, Sc.kind, rfl, hg, ?_, fun _ _ => rfl, fun hcd => D.code hcd cdv hlk, GO⟩
          by_cases hcd : d.cc.code = true
          · rw [if_pos hcd]; exact hr
          · rw [if_neg hcd]; exact hr.mono (Nat.le_succ _)
        have sok : SOk G tabs (callN defs wf k) (2 * k) d.cc (cxOf CX0 P w K mg base d.N d.x d.scope f cdv A outer s H E).nox := by
          refine ⟨cok, ?_, PassesOwn.never⟩
          show (if d.scope.kind.isAnnotationScope then ScopeKind.function else d.scope.kind) = _
          rw [Sc.kind]
          rfl
        refine ⟨_, ok_cSs (wf := wf) (soundS sok 100) hc, φ, start' ⟨d.ps.length, d.N.length, r⟩ ws, h, S, erep_start rs rfl, ?_⟩
        unfold callN at e
        rw [hdef] at e
        simp only at e
        by_cases hl : ws.length = d.ps.length
        · rw [if_pos hl] at e
          cases ex1 : ex (callN defs wf k) wf r (start' ⟨d.ps.length, d.N.length, r⟩ ws) h with
          | none => rw [ex1] at e; cases e
          | some p =>
            obtain ⟨fl, h1⟩ := p
            rw [ex1] at e
            simp only [Option.bind_some] at e
            cases er : retOf fl with
            | none => rw [er] at e; cases e
            | some z =>
              rw [er] at e
              cases e
              refine ⟨fl, _, rfl, fun φ' H' l S' => ?_⟩
              cases fl with
              | rt v => cases er; exact fun z rz => q φ' H' z l S' rz
              | nx ρ => cases er; exact fun σ _ => q φ' H' .non l S' .non
              | bk ρ => cases er
              | ct ρ => cases er
        · rw [if_neg hl] at e; cases e
  exact ⟨mk k fns, fns⟩
end
end PI
end

section
set_option Elab.async false
set_option linter.all false
set_option maxRecDepth 100000
set_option maxHeartbeats 2000000
/-! the end of a law: its call from outside -/
namespace PI
open PySem PySem.Spec PyProof.Rows L2

section
variable {P : Program} {w : World} {K : PySem.W.Frag} {mg mb : Str → Option Value} {k : Nat} {fa a : Addr} {cs : List (Addr × Addr)} {fd : FuncData} {x : Str} {sp : Sp} {s₁ : Shared} {vs : List Value} {ns : List Int}
/-- the heap that is seen at the call: the script (where the fragment has it not), the tables -/
def seen (K : PySem.W.Frag) (a : Addr) (Ts : List Addr) (o : Obj) (xs : List V) : Hp := fun b => if b = a then (if (K.lookup a).isSome = true then none else some (.frz o (.lst xs))) else if b ∈ Ts then some (.tbl #[]) else none
theorem law_callG
    (KX : K.In s₁.heap) (hns : s₁.heap.Ns mainGlobals mg) (hb : s₁.heap.Ns builtinsNs mb) (hbb : ∀ x : Str, x ≠ "__name__" → mb x = bootBuiltins x) (hlim : s₁.heap.NoLimit) (hg : s₁.gens = #[])
    (hT : ∀ p ∈ cs, s₁.heap.get? p.2 = some { cls := .none, data := .fields #[] }) (nT : ∀ p ∈ cs, K.lookup p.2 = none) (C : ∀ p ∈ cs, PySem.W.CodeHd s₁.heap p.1 p.2)
    (hbm : ∃ (bm : Addr) (ob : Obj), mg "__builtins__" = some (.ref bm) ∧ bm ≠ builtinsNs ∧ s₁.heap.get? bm = some ob ∧ ob.cls = .type "module" ∧ ob.dict = some builtinsNs ∧ ob.data = .plain)
    (ha : s₁.heap.get? a = some { cls := .type "list", data := .seq vs.toArray }) (hi : IntsAre vs ns) (hl : ns.length ≤ sizeLine) (hr : Room k callerA)
    (F : ∀ base : Heap, K.In base → base.Ns mainGlobals mg → (∀ p ∈ cs, GxR.TabB base mg p.1 p.2) → FnG P w K mg base k fa fd [x] sp) (hbind : ∀ (s : Shared) (u : Value), BindsTo s fd ⟨[u], []⟩ [(x, u)])
    (hsp : ∀ H : Hp, (∀ p ∈ cs, H p.2 = some (.tbl #[])) → (H a = some (.frz { cls := .type "list", data := .seq vs.toArray } (.lst (ns.map V.int))) ∨ FroL K H a (ns.map V.int)) → sp [.ref a] H (fun v _ => v = .bl true) fun _ _ _ => False) :
    codeAny (model P w) callerA (.call (.ref fa) ⟨[.ref a], []⟩) (fun r s' => r = .ok (.ret (.bool true)) ∧ OldK s₁.heap s'.heap ∧ s'.os = s₁.os ∧ AllBare s'.gens) s₁ := by
  have rv := vals_ints hi
  let Ts : List Addr := cs.map (·.2)
  have isT : ∀ b : Addr, b ∈ Ts → s₁.heap.get? b = some { cls := .none, data := .fields #[] } := fun b hb => by
    obtain ⟨p, hp, rfl⟩ := List.mem_map.mp hb
    exact hT p hp
  have aT : a ∉ Ts := fun z => by
    have q := ha.symm.trans (isT a z)
    cases q
  have notT : ∀ {b : Addr} {o : Obj}, s₁.heap.get? b = some o → o.data ≠ .fields #[] → b ∉ Ts := fun {b o} e n z => by
    rw [isT b z] at e
    cases e
    exact n rfl
  have notA : ∀ {b : Addr} {o : Obj}, s₁.heap.get? b = some o → (∀ z n, o.data ≠ .seq z n) → b ≠ a := fun {b o} e n z => by
    rw [z, ha] at e
    cases e
    exact n _ _ rfl
  -- what is seen
  generalize hH : seen K a Ts { cls := .type "list", data := .seq vs.toArray } (ns.map V.int) = H
  have Ha : (K.lookup a).isSome = true → H a = none := fun z => by rw [← hH]; unfold seen; rw [if_pos rfl, if_pos z]
  have Ha' : (K.lookup a).isSome = false → H a = some (.frz { cls := .type "list", data := .seq vs.toArray } (.lst (ns.map V.int))) := fun z => by rw [← hH]; unfold seen; rw [if_pos rfl, z]; rfl
  have Ht : ∀ b ∈ Ts, H b = some (.tbl #[]) := fun b z => by
    rw [← hH]; unfold seen
    have nb : ¬ b = a := fun e => by rw [e] at z; exact aT z
    rw [if_neg nb, if_pos z]
  have Hn : ∀ b, b ≠ a → b ∉ Ts → H b = none := fun b z1 z2 => by rw [← hH]; unfold seen; rw [if_neg z1, if_neg z2]
  have plain : ∀ {b : Addr} {o : Obj}, s₁.heap.get? b = some o → (∀ z n, o.data ≠ .seq z n) → o.data ≠ .fields #[] → (hidT s₁.heap H).get? b = some o := fun e n1 n2 => hidT_get e (Hn _ (notA e n1) (notT e n2))
  have nsK : ∀ {b : Addr} {m : Str → Option Value}, s₁.heap.Ns b m → (hidT s₁.heap H).Ns b m := fun {b m} ⟨o, es, ep, e, d, r⟩ => ⟨o, es, ep, plain e (fun z n q => by rw [d] at q; cases q) (fun q => by rw [d] at q; cases q), d, r⟩
  have hKb : K.In (hidT s₁.heap H) := fun b o e => by
    refine hidT_get (KX b o e) ?_
    by_cases z : b = a
    · subst z; exact Ha (by rw [e]; rfl)
    · refine Hn b z fun t => ?_
      obtain ⟨p, hp, rfl⟩ := List.mem_map.mp t
      rw [nT p hp] at e
      cases e
  have hM : L2.Mod K mg (hidT s₁.heap H) := ⟨hKb, nsK hns, ⟨mb, nsK hb, hbb⟩, let ⟨mc, h1, h2⟩ := hlim; ⟨mc, nsK h1, h2⟩⟩
  have TB : ∀ p ∈ cs, GxR.TabB (hidT s₁.heap H) mg p.1 p.2 := fun p hp => by
    have hTp := hT p hp
    refine ⟨?_, ?_, fun z => ?_⟩
    · obtain ⟨o, us, file, tf, flags, tg, inF, text, tt, e1, r1, r2, r3, r⟩ := C p hp
      exact ⟨o, us, file, tf, flags, tg, inF, text, tt, plain e1 (fun z n q => by rw [r2] at q; cases q) (fun q => by rw [r2] at q; cases q; simp at r3), r1, r2, r3, r⟩
    · obtain ⟨bm, ob, b1, b2, b3, b4, b5, b6⟩ := hbm
      refine ⟨bm, ob, b1, b2, fun q => ?_, fun q => ?_, plain b3 (fun z n q => by rw [b6] at q; cases q) (fun q => by rw [b6] at q; cases q), b4, b5, b6⟩
      · obtain ⟨o, es, ep, e, hd, _⟩ := hns
        rw [q, e] at b3
        cases b3
        rw [hd] at b6
        cases b6
      · rw [q, hTp] at b3
        cases b3
        cases b6
    · obtain ⟨o, es, ep, e, hd, _⟩ := hns
      rw [z, hTp] at e
      cases e
      cases hd
  have hok : HOk P w H s₁.heap := fun b u z => by
    by_cases h1 : b = a
    · subst h1
      cases hk : (K.lookup b).isSome with
      | true => rw [Ha hk] at z; cases z
      | false =>
        rw [Ha' hk] at z
        cases z
        exact ⟨ha, by rw [List.length_map]; exact hl, vs, _, rv, ha⟩
    · by_cases h2 : b ∈ Ts
      · rw [Ht b h2] at z
        cases z
        exact isT b h2
      · rw [Hn b h1 h2] at z; cases z
  have fro : H a = some (.frz { cls := .type "list", data := .seq vs.toArray } (.lst (ns.map V.int))) ∨ FroL K H a (ns.map V.int) := by
    cases hk : K.lookup a with
    | none => exact .inl (Ha' (by rw [hk]; rfl))
    | some o =>
      have e := (KX a o hk).symm.trans ha
      cases e
      exact .inr (.inr ⟨_, vs.toArray, _, hk, rfl, rfl, rfl, by rw [List.size_toArray, hi.length]; exact hl, by simpa using rv⟩)
  have e0 : Env0 P w K mg (hidT s₁.heap H) callerA [] s₁ H := ⟨rfl, hM, fun b o e => of_hidT e, Nat.le_of_eq (hidT_size _ _), trivial, fun b hb => absurd (show b ∈ ([] : List Addr) from hb) (by simp), hok, .of_eq hg⟩
  refine codeAny_mono ((F _ hKb (nsK hns) TB).run callerA [] s₁ H ⟨[.ref a], []⟩ [.ref a] [.ref a] _ _ hr rfl e0 (hbind s₁ (.ref a)) (.cons rfl .nil) (hsp H (fun p hp => Ht _ (List.mem_map.mpr ⟨p, hp, rfl⟩)) fro)) fun r s' h => ?_
  cases r with
  | error e => exact h.elim
  | ok fl =>
    cases fl with
    | next => exact False.elim h
    | brk => exact False.elim h
    | cont => exact False.elim h
    | ret u =>
      obtain ⟨v, H', os, bare, un, hok', r', q⟩ := h
      have q' : v = .bl true := q
      subst q'
      obtain rfl : u = Value.bool true := r'
      have key : ∀ b o, b ∉ Ts → s₁.heap.get? b = some o → s'.heap.get? b = some o := fun b o nb e => by
        by_cases h1 : b = a
        · subst h1
          cases hk : (K.lookup b).isSome with
          | true => exact un.keep b o e (Ha hk) (by intro z; exact absurd (show b ∈ ([] : List Addr) from z) (by simp)) (by simp)
          | false =>
            have z := un.frzs b _ _ (Ha' hk)
            obtain ⟨e2, _⟩ := hok' b _ z
            rw [ha] at e
            cases e
            exact e2
        · exact un.keep b o e (Hn b h1 nb) (by intro z; exact absurd (show b ∈ ([] : List Addr) from z) (by simp)) (by simp)
      have grown : ∀ b ∈ Ts, ∃ more : Array Value, s'.heap.get? b = some { cls := .none, data := .fields more } := fun b hb => by
        obtain ⟨more, z⟩ := un.tbls b #[] (Ht b hb)
        exact ⟨_, hok' b _ z⟩
      refine ⟨rfl, ⟨fun b o e => ?_, fun b o e => ?_⟩, os, bare⟩
      · by_cases hb : b ∈ Ts
        · obtain ⟨more, hm⟩ := grown b hb
          obtain ⟨p, hp, rfl⟩ := List.mem_map.mp hb
          rw [hT p hp] at e
          cases e
          exact .inr (.inl ⟨((C p hp).tab (hT p hp)).isCodeTable, rfl, #[], more, rfl, by rw [Array.empty_append]; exact hm⟩)
        · exact .inl (key b o hb e)
      · by_cases hb : b ∈ Ts
        · obtain ⟨more, hm⟩ := grown b hb
          exact ⟨_, hm⟩
        · exact ⟨o, key b o hb e⟩
end
/-- what must be known of the law at the head's heap -/
def LawAtG (l : PySem.W.OpenLaw) (w : World) (K : PySem.W.Frag) (k n : Nat) (x : Str) (mg : Str → Option Value) (fa : Addr) (h : Heap) : Prop :=
  ∃ (fd : FuncData) (cs : List (Addr × Addr)) (sp : Sp), (∀ p ∈ cs, h.get? p.2 = some { cls := .none, data := .fields #[] }) ∧ (∀ p ∈ cs, K.lookup p.2 = none) ∧ (∀ p ∈ cs, PySem.W.CodeHd h p.1 p.2) ∧ (∀ (s : Shared) (u : Value), BindsTo s fd ⟨[u], []⟩ [(x, u)]) ∧
    (∀ (H : Hp) (a : Addr) (o : Obj) (ns : List Int), ns.length ≤ n → (∀ z ∈ ns, Builtin.Int.intBits z ≤ 1048576) → (∀ p ∈ cs, H p.2 = some (.tbl #[])) → (H a = some (.frz o (.lst (ns.map V.int))) ∨ FroL K H a (ns.map V.int)) → sp [.ref a] H (fun v _ => v = .bl true) fun _ _ _ => False) ∧
    ∀ base : Heap, K.In base → base.Ns mainGlobals mg → (∀ p ∈ cs, GxR.TabB base mg p.1 p.2) → FnG l.prog w K mg base k fa fd [x] sp
theorem walkG {l : PySem.W.OpenLaw} {n k : Nat} {q : Program} {loose : List Str} {XP : (Str → Option Value) → Heap → Prop} {YP : World → Heap → Prop} {d : DefRec} {x : Str}
    (hn : l.most = some n) (hn2 : n ≤ sizeLine) (hdf : d.params.defaults = []) (hr : Room k callerA)
    (F : ∀ (w : World) (mg : Str → Option Value) (fa : Addr) (h : Heap), YP w h → h.Ns mainGlobals mg → mg d.name = some (.ref fa) → ∃ K : PySem.W.Frag, K.In h ∧ LawAtG l w K k n x mg fa h) :
    PySem.W.WalkO q loose XP YP l.row.toRowW d [] (fun f vs => PySem.call f vs) := by
  refine Att.attach_callB hn hdf fun w s₀ s₁ mg mb fa o pm cd doc a vs ns G Y ho hd hcd hmg hobj hints hlen hbits hg => ?_
  obtain ⟨K, KX, fd, cs, sp, hT, nT, C, hb, hsp, hF⟩ := F w mg fa _ Y G.T.g hmg
  exact law_callG KX G.T.g G.T.b G.T.builtins G.T.nolimit hg hT nT C G.T.bmain hobj hints (Nat.le_trans hlen hn2) hr hF hb fun H hH hS => hsp H a _ ns hlen hbits hH hS
end PI
end

section
set_option Elab.async false
set_option linter.all false
set_option maxRecDepth 100000
set_option maxHeartbeats 2000000
/-! from the head's facts to the law -/
namespace PI
open PySem PySem.Spec PyProof.Rows L2

def DRec.dd (d : DRec) : He.DefD := ⟨(d.x, none), d.x, d.x, d.params, d.body, d.scope, [], []⟩
def valFa : Str × PV → Option He.Fa
  | (x, .int i) => some (.int x i)
  | (x, .str s) => some (.str x s)
  | _ => none
def faOf (G : GT) (recs : List DRec) : List He.Fa := recs.map (fun d => He.Fa.glo d.x) ++ (G.vals.filterMap valFa ++ G.blts.map He.Fa.free)
def fnOf' (recs : List DRec) : List He.DefD := recs.map DRec.dd
def tfOf (recs : List DRec) : List He.Defn := (recs.filter (·.code)).map fun d => (d.x, none)
def exOf (G : GT) (K : PySem.W.Frag) : Bool := if G.gcd = true then He.eqO (PySem.W.nsIn K mainGlobals "gcd") (some (some (.builtin "math.gcd"))) else true
/-- how the defs are called -/
def Calls' (G : GT) (recs : List DRec) : Prop := ∀ (i : Nat) (d : DRec), recs[i]? = some d → ∀ (K : PySem.W.Frag) (f : Addr) (fd : FuncData), FunD K d.x d.x d.params d.body d.scope [] [] f fd →
  Binds K fd d.ps [] ∧ ∀ e ∈ G.kws, e.1.1 = d.x → BindK K fd d.ps e.1.2.1 e.1.2.2 e.2
theorem triples_nil : TriplesOk (#[] : Array Value).toList := by first | exact trivial | exact .nil | simp [TriplesOk]
theorem look_mem {α β : Type} [BEq α] [LawfulBEq α] {a : α} {b : β} : ∀ {l : List (α × β)}, l.lookup a = some b → (a, b) ∈ l
  | [], h => by cases h
  | (c, d) :: r, h => by
    rw [List.lookup_cons] at h
    cases q : a == c with
    | true =>
      rw [q] at h
      cases h
      rw [eq_of_beq q]
      exact List.mem_cons_self
    | false =>
      rw [q] at h
      exact List.mem_cons_of_mem _ (look_mem h)
theorem bindK_of {K : PySem.W.Frag} {x qual : Str} {params : Arguments} {body : List Stmt} {scope : Scope} {f : Addr} {fd : FuncData} {ps ks : List Str} {n : Nat} {perm : List Nat} (F : FunD K x qual params body scope [] [] f fd)
    (h : ∀ (kV doc pm' : Value) (an : Option Addr) (cdv ct : Value) (us ws : List Value), us.length = n → ws.length = ks.length → bindArgs (PySem.W.fnOf x qual params body scope .none kV doc pm' an cdv ct) ⟨us, ks.zip ws⟩ = pure (ps.zip (pm perm (us ++ ws)))) : BindK K fd ps n ks perm := by
  intro s us ws _ l1 l2
  obtain ⟨oc, od, dV, kV, doc, pm', an, cdv, ct, osl, rfl, lk, hcd, hD, hK⟩ := F.ex
  rcases hD with ⟨_, rfl⟩ | ⟨e, _⟩
  · exact .of_eq (h kV doc pm' an cdv ct us ws l1 l2)
  · exact absurd rfl e
section
variable {l : PySem.W.OpenLaw} {w : World} {K : PySem.W.Frag} {mg : Str → Option Value} {fa : Addr} {h : Heap} {G : GT} {recs : List DRec} {defs : List IDef} {wf k : Nat}
theorem lawAt (T : Text G recs defs) (cl : Calls' G recs) (hv : G.vals.all (fun y => (valFa y).isSome) = true) (X : K.In h) (hns : h.Ns mainGlobals mg) (hfa : mg ("law" : Str) = some (.ref fa)) (c : He.SaysX (faOf G recs) (fnOf' recs) [] (tfOf recs) (exOf G) w h K)
    {iL : Nat} {dL : DRec} (hL : recs[iL]? = some dL) (hx : dL.x = "law") (hps : dL.ps = [("script" : Str)])
    (hbL : ∀ (kV doc pm' : Value) (an : Option Addr) (cdv ct : Value) (us : List Value), us.length = dL.ps.length → bindArgs (PySem.W.fnOf dL.x dL.x dL.params dL.body dL.scope .none kV doc pm' an cdv ct) ⟨us, []⟩ = pure (dL.ps.zip us))
    (hold : ∀ ns : List Int, ns.length ≤ 63 → (∀ z ∈ ns, Builtin.Int.intBits z ≤ 1048576) → ∃ h', callN defs wf k iL [.fl (ns.map .int)] [] = some (.bl true, h')) :
    LawAtG l w K (2 * k) 63 "script" mg fa h := by
  have cd : He.SaysD (faOf G recs) (fnOf' recs) K := c.t.d
  have mem : ∀ {i : Nat} {d : DRec}, recs[i]? = some d → d ∈ recs := fun {i d} e => List.mem_of_getElem? e
  have glo : ∀ {i : Nat} {d : DRec}, recs[i]? = some d → mg d.x = some (.ref (He.ga K d.x)) := fun {i d} e => He.glo_ok X hns (cd.facts (f := .glo d.x) (List.mem_append_left _ (List.mem_map.mpr ⟨d, mem e, rfl⟩)))
  have fun_ : ∀ {i : Nat} {d : DRec}, recs[i]? = some d → ∃ fd, FunD K d.x d.x d.params d.body d.scope [] [] (He.ga K d.x) fd := fun {i d} e => cd.defs (d := d.dd) (List.mem_map.mpr ⟨d, mem e, rfl⟩)
  have vals : ∀ x v, G.vals.lookup x = some v → ∃ xv u, mg x = some u ∧ RelV xv u ∧ Known K v xv := fun x v e => by
    have m := look_mem e
    have hs := List.all_eq_true.mp hv _ m
    have f : ∀ {f : He.Fa}, valFa (x, v) = some f → f.ok K = true := fun {f} z => cd.facts (List.mem_append_right _ (List.mem_append_left _ (List.mem_filterMap.mpr ⟨_, m, z⟩)))
    cases v <;> first | (cases hs; done) | skip
    · obtain ⟨t, z⟩ := He.int_ok X hns (f rfl)
      exact ⟨.int _, _, z, ⟨_, rfl⟩, fun _ _ _ => .int _⟩
    · obtain ⟨t, z⟩ := He.str_ok X hns (f rfl)
      exact ⟨.str _, _, z, ⟨_, rfl⟩, fun _ _ _ => .str _⟩
  have blts : ∀ x ∈ G.blts, mg x = none := fun x hx => He.free_ok X hns (cd.facts (f := .free x) (List.mem_append_right _ (List.mem_append_right _ (List.mem_map.mpr ⟨x, hx, rfl⟩))))
  have gcd : G.gcd = true → mg "gcd" = some (.builtin "math.gcd") := fun hg => by
    have z := c.more
    unfold exOf at z
    rw [if_pos hg] at z
    exact PySem.W.mg_of X hns (He.eqO_ok z)
  obtain ⟨fdL, FL⟩ := fun_ hL
  have eL : fa = He.ga K dL.x := by
    have := glo hL
    rw [hx] at this ⊢
    have := hfa.symm.trans this
    injection this with this
    injection this with this
  refine ⟨fdL, (tfOf recs).map (He.cT K), spF K ((tfOf recs).map fun p => (He.cT K p).2) (callN defs wf k) iL, fun p hp => ?_, fun p hp => ?_, fun p hp => ?_, fun s u => ?_, fun H a o ns hl hbits hT hS => ?_, fun base KB bns TB => ?_⟩
  · obtain ⟨q, hq, rfl⟩ := List.mem_map.mp hp
    exact c.empty q hq
  · obtain ⟨q, hq, rfl⟩ := List.mem_map.mp hp
    exact c.out q hq
  · obtain ⟨q, hq, rfl⟩ := List.mem_map.mp hp
    exact PySem.W.codeHd_of_K X (c.hd q hq)
  · have b := FL.bindsA hbL s [u] (by rw [hps]; rfl)
    rw [hps] at b
    exact b
  · obtain ⟨h', e⟩ := hold ns hl hbits
    refine ⟨fun _ => 0, [.fl (ns.map .int)], [], ⟨fun i j hi => absurd hi (Nat.not_lt_zero _), fun i c e => by simp at e, fun P hP => ?_⟩, .cons (.fl ?_ (VReps.ints ns)) .nil, .bl true, h', e, fun φ' H' z _ _ r => by cases r; rfl⟩
    · obtain ⟨q, hq, rfl⟩ := List.mem_map.mp hP
      exact ⟨#[], hT _ (List.mem_map.mpr ⟨q, hq, rfl⟩), triples_nil⟩
    · rcases hS with hS | hS
      · exact .inl ⟨o, hS⟩
      · exact hS
  · have mkF : ∀ {i : Nat} {d : DRec} {fd : FuncData}, recs[i]? = some d → FunD K d.x d.x d.params d.body d.scope [] [] (He.ga K d.x) fd → DFact K mg base ((tfOf recs).map fun p => (He.cT K p).2) G d (He.ga K d.x) fd := fun {i d fd} e F => by
      obtain ⟨b1, b2⟩ := cl i d e K _ fd F
      refine ⟨F, glo e, b1, fun n ks perm hk => b2 _ (look_mem hk) rfl, fun hc cdv ⟨oc, od, dV, kV, doc, pm', an, ct, osl, lk⟩ => ?_⟩
      obtain ⟨oc0, od0, dV0, kV0, doc0, pm0, an0, cdv0, ct0, osl0, ef, lk0, hcd, _, _⟩ := F.ex
      have e1 := lk0.symm.trans lk
      injection e1 with e1
      injection e1 with _ _ e1 _
      injection e1 with e1
      have e2 : fd.code = cdv := congrArg FuncData.code e1
      have e3 : fd.code = cdv0 := congrArg FuncData.code ef
      obtain ⟨cc, hcc⟩ := He.codeIn_ref hcd
      have e4 : He.codeOf K (d.x, none) = cc := He.codeOf_eq (p := (d.x, none)) lk0 (e3.trans hcc)
      have mT : (d.x, none) ∈ tfOf recs := List.mem_map.mpr ⟨d, List.mem_filter.mpr ⟨mem e, hc⟩, rfl⟩
      refine ⟨cc, (He.cT K (d.x, none)).2, e2.symm.trans (e3.trans hcc), ?_, List.mem_map.mpr ⟨_, mT, rfl⟩⟩
      have := TB _ (List.mem_map.mpr ⟨_, mT, rfl⟩)
      rw [← e4]
      exact this
    have facts : ∀ (i : Nat) (d : DRec), recs[i]? = some d → ∃ f fd, DFact K mg base ((tfOf recs).map fun p => (He.cT K p).2) G d f fd := fun i d e => by
      obtain ⟨fd, F⟩ := fun_ e
      exact ⟨_, fd, mkF e F⟩
    have A := all_ok (P := l.prog) (w := w) (base := base) (wf := wf) T facts vals blts gcd k
    have := A.2 iL dL _ fdL hL (mkF hL FL)
    rw [eL, ← hps]
    exact this
end
end PI
end

section
set_option Elab.async false
set_option linter.all false
set_option maxRecDepth 100000
set_option maxHeartbeats 2000000
/-! what is checked of a text by the kernel -/
namespace PI
open PySem PySem.Spec PyProof.Rows L2
def scopeB (d : DRec) : Bool := (match d.scope.kind with | .function => true | _ => false) && !d.scope.isCoroutine && !d.scope.isGenerator && decide d.N.Nodup && decide (d.N.take d.ps.length = d.ps) &&
  (d.ps.all fun x => decide (d.scope.names.lookup x = some .local) || decide (d.scope.names.lookup x = some .cell)) && (d.scope.names.all fun y => match y.2 with | .free => false | _ => true)
theorem scopeB_ok {d : DRec} (h : scopeB d = true) : FnScope d.N d.ps d.scope := by
  unfold scopeB at h
  simp only [Bool.and_eq_true, Bool.not_eq_true', decide_eq_true_eq, List.all_eq_true, Bool.or_eq_true] at h
  obtain ⟨⟨⟨⟨⟨⟨h1, h2⟩, h3⟩, h4⟩, h5⟩, h6⟩, h7⟩ := h
  refine ⟨?_, h2, h3, h4, h5, h6, fun y hy e => ?_⟩
  · split at h1
    · rename_i q; exact q
    · cases h1
  · have := h7 y hy
    rw [e] at this
    cases this
def namesB (G : GT) (recs : List DRec) : Bool := G.defs.all fun e => match recs[e.2.1]? with
  | some d => d.x == e.1 && d.ps == e.2.2
  | none => false
theorem namesB_ok {G : GT} {recs : List DRec} (h : namesB G recs = true) (x : Str) (i : Nat) (ps : List Str) (e : G.defs.lookup x = some (i, ps)) : ∃ d, recs[i]? = some d ∧ d.x = x ∧ d.ps = ps := by
  have := List.all_eq_true.mp h _ (look_mem e)
  cases hd : recs[i]? with
  | none => simp only [hd] at this; cases this
  | some d =>
    simp only [hd, Bool.and_eq_true] at this
    exact ⟨d, rfl, eq_of_beq this.1, eq_of_beq this.2⟩
/-- every def's body is translated as told -/
def Comp (G : GT) : List DRec → List IDef → Prop
  | [], [] => True
  | d :: ds, e :: es => cSs (cS G d.cc 100) d.body = some e.body ∧ e.np = d.ps.length ∧ e.slots = d.N.length ∧ Comp G ds es
  | _, _ => False
theorem comp_ok {G : GT} : ∀ {recs : List DRec} {defs : List IDef}, Comp G recs defs → ∀ (i : Nat) (d : DRec), recs[i]? = some d → ∃ r, cSs (cS G d.cc 100) d.body = some r ∧ defs[i]? = some ⟨d.ps.length, d.N.length, r⟩
  | [], _, _, i, d, e => by simp at e
  | _ :: _, [], h, _, _, _ => h.elim
  | c :: cs, e :: es, h, 0, d, q => by
    cases q
    obtain ⟨h1, h2, h3, _⟩ := h
    refine ⟨e.body, h1, ?_⟩
    rw [← h2, ← h3]
    rfl
  | c :: cs, e :: es, h, i + 1, d, q => by
    obtain ⟨r, h1, h2⟩ := comp_ok h.2.2.2 i d (by simpa using q)
    exact ⟨r, h1, by simpa using h2⟩
theorem text_ok {G : GT} {recs : List DRec} {defs : List IDef} (h1 : namesB G recs = true) (h2 : Comp G recs defs) (h3 : recs.all scopeB = true) : Text G recs defs :=
  ⟨namesB_ok h1, comp_ok h2, fun i d e => scopeB_ok (List.all_eq_true.mp h3 d (List.mem_of_getElem? e))⟩

end PI
end

section
set_option Elab.async false
set_option linter.all false
set_option maxRecDepth 100000
set_option maxHeartbeats 2000000
/-! how the small language is reasoned about -/
namespace PI
open PySem PySem.Spec PyProof.Rows L2

/-- it comes to an end, and there P holds -/
def Wp {α : Type} (r : Option (α × IHeap)) (P : α → IHeap → Prop) : Prop := ∃ v h, r = some (v, h) ∧ P v h
section
variable {α β : Type} {F : Nat → List PV → IHeap → Option (PV × IHeap)} {ρ : Env'} {h : IHeap} {P P' : α → IHeap → Prop} {Q : PV → IHeap → Prop}
theorem Wp.of {v : α} (q : P v h) : Wp (some (v, h)) P := ⟨v, h, rfl, q⟩
@[simp] theorem wp_some {v : α} : Wp (some (v, h)) P ↔ P v h := ⟨fun ⟨_, _, e, q⟩ => (by cases e; exact q), fun q => ⟨v, h, rfl, q⟩⟩
@[simp] theorem wp_none : Wp (none : Option (α × IHeap)) P ↔ False := ⟨fun ⟨_, _, e, _⟩ => (by cases e), False.elim⟩
theorem Wp.mono {r : Option (α × IHeap)} (q : Wp r P) (i : ∀ v h, P v h → P' v h) : Wp r P' := let ⟨v, h, e, q⟩ := q; ⟨v, h, e, i _ _ q⟩
theorem wp_bind {r : Option (β × IHeap)} {k : β × IHeap → Option (α × IHeap)} : Wp (r.bind k) P ↔ Wp r fun v h => Wp (k (v, h)) P := by
  constructor
  · rintro ⟨v, h', e, q⟩
    cases hr : r with
    | none => rw [hr] at e; cases e
    | some p => rw [hr] at e; exact ⟨p.1, p.2, rfl, v, h', e, q⟩
  · rintro ⟨w, h1, e, v, h', e', q⟩
    exact ⟨v, h', by rw [e]; exact e', q⟩
theorem wp_obind {γ : Type} {r : Option γ} {k : γ → Option (α × IHeap)} : Wp (r.bind k) P ↔ ∃ v, r = some v ∧ Wp (k v) P := by
  constructor
  · rintro ⟨v, h', e, q⟩
    cases hr : r with
    | none => rw [hr] at e; cases e
    | some p => rw [hr] at e; exact ⟨p, rfl, v, h', e, q⟩
  · rintro ⟨w, e, v, h', e', q⟩
    exact ⟨v, h', by rw [e]; exact e', q⟩
/-! ### expressions -/
variable {a b c : IE} {as bs : IE}
theorem wp_var {i : Nat} {v : PV} (e : ρ[i]? = some (some v)) : Wp (ev F (.var i) ρ h) Q ↔ Q v h := by
  have : ev F (.var i) ρ h = some (v, h) := by show (match ρ[i]? with | some (some v) => some (v, h) | _ => none) = _; rw [e]
  rw [this, wp_some]
theorem wp_con {v : PV} : Wp (ev F (.con v) ρ h) Q ↔ Q v h := wp_some
theorem wp_bin {op : Bop} : Wp (ev F (.bin op a b) ρ h) Q ↔ Wp (ev F a ρ h) fun x h1 => Wp (ev F b ρ h1) fun y h2 => Wp (binop op x y h2) Q := by
  rw [ev_bin, wp_bind]
  simp only [wp_bind]
theorem wp_cmp {op : Cop} : Wp (ev F (.cmp op a b) ρ h) Q ↔ Wp (ev F a ρ h) fun x h1 => Wp (ev F b ρ h1) fun y h2 => ∃ r, cmpop op x y h2 = some r ∧ Q (.bl r) h2 := by
  rw [ev_cmp, wp_bind]
  simp only [wp_bind]
  simp only [wp_obind, wp_some]
theorem wp_not : Wp (ev F (.not a) ρ h) Q ↔ Wp (ev F a ρ h) fun x h1 => ∃ r, truthy h1 x = some r ∧ Q (.bl (!r)) h1 := by
  show Wp ((ev F a ρ h).bind fun p => (truthy p.2 p.1).bind fun r => some (PV.bl (!r), p.2)) Q ↔ _
  rw [wp_bind]
  simp only [wp_obind, wp_some]
theorem wp_and : Wp (ev F (.and a b) ρ h) Q ↔ Wp (ev F a ρ h) fun x h1 => ∃ r, truthy h1 x = some r ∧ (if r = true then Wp (ev F b ρ h1) Q else Q x h1) := by
  rw [ev_and, wp_bind]
  simp only [wp_obind]
  constructor
  · exact fun q => q.mono fun v h ⟨r, e, q⟩ => ⟨r, e, by cases r <;> simpa using q⟩
  · exact fun q => q.mono fun v h ⟨r, e, q⟩ => ⟨r, e, by cases r <;> simpa using q⟩
theorem wp_or : Wp (ev F (.or a b) ρ h) Q ↔ Wp (ev F a ρ h) fun x h1 => ∃ r, truthy h1 x = some r ∧ (if r = true then Q x h1 else Wp (ev F b ρ h1) Q) := by
  rw [ev_or, wp_bind]
  simp only [wp_obind]
  constructor
  · exact fun q => q.mono fun v h ⟨r, e, q⟩ => ⟨r, e, by cases r <;> simpa using q⟩
  · exact fun q => q.mono fun v h ⟨r, e, q⟩ => ⟨r, e, by cases r <;> simpa using q⟩
theorem wp_ife : Wp (ev F (.ife c a b) ρ h) Q ↔ Wp (ev F c ρ h) fun x h1 => ∃ r, truthy h1 x = some r ∧ (if r = true then Wp (ev F a ρ h1) Q else Wp (ev F b ρ h1) Q) := by
  show Wp ((ev F c ρ h).bind fun p => (truthy p.2 p.1).bind fun r => if r = true then ev F a ρ p.2 else ev F b ρ p.2) Q ↔ _
  rw [wp_bind]
  simp only [wp_obind]
  constructor
  · exact fun q => q.mono fun v h ⟨r, e, q⟩ => ⟨r, e, by cases r <;> simpa using q⟩
  · exact fun q => q.mono fun v h ⟨r, e, q⟩ => ⟨r, e, by cases r <;> simpa using q⟩
theorem wp_neg {Q : PV → IHeap → Prop} : Wp (ev F (.neg a) ρ h) Q ↔ Wp (ev F a ρ h) fun x h1 => ∃ i, x = .int i ∧ Q (.int (-i)) h1 := by
  show Wp ((ev F a ρ h).bind fun p => match p.1 with | .int i => some (PV.int (-i), p.2) | _ => none) Q ↔ _
  rw [wp_bind]
  constructor
  · refine fun q => q.mono fun v h q => ?_
    cases v with
    | int i => exact ⟨_, rfl, wp_some.mp q⟩
    | _ => exact (wp_none.mp q).elim
  · refine fun q => q.mono fun v h ⟨i, e, q⟩ => ?_
    subst e
    exact wp_some.mpr q
theorem wp_idx : Wp (ev F (.idx a b) ρ h) Q ↔ Wp (ev F a ρ h) fun x h1 => Wp (ev F b ρ h1) fun y h2 => ∃ r, idxop x y h2 = some r ∧ Q r h2 := by
  rw [ev_idx, wp_bind]
  simp only [wp_bind]
  simp only [wp_obind, wp_some]
/-! ### lists of arguments -/
def Wl (F : Nat → List PV → IHeap → Option (PV × IHeap)) (as : IE) (ρ : Env') (h : IHeap) (P : List PV → IHeap → Prop) : Prop := Wp (ev F as ρ h) fun v h1 => ∃ vs, v = .tup vs ∧ P vs h1
theorem wl_nil {P : List PV → IHeap → Prop} : Wl F .nil ρ h P ↔ P [] h := by
  unfold Wl
  show Wp (some (PV.tup [], h)) _ ↔ _
  rw [wp_some]
  exact ⟨fun ⟨_, e, q⟩ => (by cases e; exact q), fun q => ⟨[], rfl, q⟩⟩
theorem wl_cons {P : List PV → IHeap → Prop} : Wl F (.cons a as) ρ h P ↔ Wp (ev F a ρ h) fun x h1 => Wl F as ρ h1 fun xs h2 => P (x :: xs) h2 := by
  unfold Wl
  rw [ev_cons, wp_bind]
  simp only [wp_bind]
  constructor
  · refine fun q => q.mono fun v h q => q.mono fun w h q => ?_
    cases w with
    | tup ys =>
      obtain ⟨vs, e, q⟩ := wp_some.mp q
      cases e
      exact ⟨_, rfl, q⟩
    | _ => exact (wp_none.mp q).elim
  · refine fun q => q.mono fun v h q => q.mono fun w h ⟨vs, e, q⟩ => ?_
    subst e
    exact wp_some.mpr ⟨_, rfl, q⟩
theorem wl_of {k : List PV → IHeap → Option (PV × IHeap)} : Wp ((ev F as ρ h).bind fun p => match p.1 with | .tup ys => k ys p.2 | _ => none) Q ↔ Wl F as ρ h fun xs h1 => Wp (k xs h1) Q := by
  unfold Wl
  rw [wp_bind]
  constructor
  · refine fun q => q.mono fun v h q => ?_
    cases v with
    | tup ys => exact ⟨_, rfl, q⟩
    | _ => exact (wp_none.mp q).elim
  · refine fun q => q.mono fun v h ⟨vs, e, q⟩ => ?_
    subst e
    exact q
theorem wp_ite {p : Prop} [Decidable p] {v : PV × IHeap} : Wp (if p then some v else none) Q ↔ p ∧ Q v.1 v.2 := by
  by_cases hp : p
  · rw [if_pos hp]; exact ⟨fun q => ⟨hp, wp_some.mp q⟩, fun q => wp_some.mpr q.2⟩
  · rw [if_neg hp]; exact ⟨fun q => (wp_none.mp q).elim, fun q => absurd q.1 hp⟩
theorem wp_tup : Wp (ev F (.tup as) ρ h) Q ↔ Wl F as ρ h fun xs h1 => xs.length ≤ sizeLine ∧ Q (.tup xs) h1 := by
  refine (wl_of (k := fun ys h => if ys.length ≤ sizeLine then some (PV.tup ys, h) else none)).trans ?_
  simp only [wp_ite]
theorem wp_lst : Wp (ev F (.lst as) ρ h) Q ↔ Wl F as ρ h fun xs h1 => xs.length ≤ sizeLine ∧ Q (.ref h1.length) (h1 ++ [.lst xs]) := by
  refine (wl_of (k := fun ys h => if ys.length ≤ sizeLine then some (newCell (.lst ys) h) else none)).trans ?_
  simp only [wp_ite, newCell]
theorem wp_call {i : Nat} : Wp (ev F (.call i as) ρ h) Q ↔ Wl F as ρ h fun xs h1 => Wp (F i xs h1) Q := wl_of (k := F i)
theorem wp_blt {bb : Blt} : Wp (ev F (.blt bb as) ρ h) Q ↔ Wl F as ρ h fun xs h1 => Wp (bltop bb xs h1) Q := wl_of (k := bltop bb)
theorem wp_callK {i : Nat} {perm : List Nat} : Wp (ev F (.callK i perm as bs) ρ h) Q ↔ Wl F as ρ h fun xs h1 => Wl F bs ρ h1 fun ys h2 => Wp (F i (pm perm (xs ++ ys)) h2) Q := by
  rw [ev_callK, wp_bind]
  unfold Wl
  constructor
  · refine fun q => q.mono fun v h q => ?_
    rw [wp_bind] at q
    obtain ⟨w, h2, e2, q⟩ := q
    cases v with
    | tup ys => cases w with
      | tup zs => exact ⟨_, rfl, _, h2, e2, _, rfl, q⟩
      | _ => exact (wp_none.mp q).elim
    | _ => exact (wp_none.mp q).elim
  · refine fun q => q.mono fun v h ⟨xs, e, w, h2, e2, ys, ew, q⟩ => ?_
    subst e ew
    rw [wp_bind]
    exact ⟨_, h2, e2, q⟩
theorem wp_mth {m : Mth} : Wp (ev F (.mth m a as) ρ h) Q ↔ Wp (ev F a ρ h) fun x h1 => isLst h1 x = true ∧ Wl F as ρ h1 fun xs h2 => Wp (mthop m x xs h2) Q := by
  rw [ev_mth, wp_bind]
  constructor
  · refine fun q => q.mono fun v h q => ?_
    by_cases hl : isLst h v = true
    · have q : Wp (if isLst h v = true then (ev F as ρ h).bind fun q => (match q.1 with | .tup ys => mthop m v ys q.2 | _ => none) else none) Q := q
      rw [if_pos hl] at q
      exact ⟨hl, (wl_of (k := mthop m v)).mp q⟩
    · have q : Wp (if isLst h v = true then (ev F as ρ h).bind fun q => (match q.1 with | .tup ys => mthop m v ys q.2 | _ => none) else none) Q := q
      rw [if_neg hl] at q
      exact (wp_none.mp q).elim
  · refine fun q => q.mono fun v h ⟨hl, q⟩ => ?_
    show Wp (if isLst h v = true then (ev F as ρ h).bind fun q => (match q.1 with | .tup ys => mthop m v ys q.2 | _ => none) else none) Q
    rw [if_pos hl]
    exact (wl_of (k := mthop m v)).mpr q
/-! ### statements -/
variable {wf : Nat} {R : Fl → IHeap → Prop} {s t : IS} {e o i : IE}
theorem wp_seq : Wp (ex F wf (.seq s t) ρ h) R ↔ Wp (ex F wf s ρ h) fun fl h1 => match fl with | .nx ρ' => Wp (ex F wf t ρ' h1) R | fl => R fl h1 := by
  show Wp ((ex F wf s ρ h).bind fun p => match p.1 with | .nx ρ' => ex F wf t ρ' p.2 | fl => some (fl, p.2)) R ↔ _
  rw [wp_bind]
  constructor
  · refine fun q => q.mono fun v h q => ?_
    cases v <;> first | exact q | exact wp_some.mp q
  · refine fun q => q.mono fun v h q => ?_
    cases v <;> first | exact q | exact wp_some.mpr q
theorem wp_asg {tg : Tg} : Wp (ex F wf (.asg tg e) ρ h) R ↔ Wp (ev F e ρ h) fun v h1 => ∃ ρ', assignT tg v ρ = some ρ' ∧ R (.nx ρ') h1 := by
  show Wp ((ev F e ρ h).bind fun p => (assignT tg p.1 ρ).bind fun ρ' => some (Fl.nx ρ', p.2)) R ↔ _
  rw [wp_bind]
  simp only [wp_obind, wp_some]
theorem wp_ret : Wp (ex F wf (.ret e) ρ h) R ↔ Wp (ev F e ρ h) fun v h1 => R (.rt v) h1 := by
  show Wp ((ev F e ρ h).bind fun p => some (Fl.rt p.1, p.2)) R ↔ _
  rw [wp_bind]
  simp only [wp_some]
theorem wp_ex : Wp (ex F wf (.ex e) ρ h) R ↔ Wp (ev F e ρ h) fun v h1 => R (.nx ρ) h1 := by
  show Wp ((ev F e ρ h).bind fun p => some (Fl.nx ρ, p.2)) R ↔ _
  rw [wp_bind]
  simp only [wp_some]
theorem wp_nil : Wp (ex F wf .nil ρ h) R ↔ R (.nx ρ) h := wp_some
theorem wp_pass : Wp (ex F wf .pass ρ h) R ↔ R (.nx ρ) h := wp_some
theorem wp_if : Wp (ex F wf (.ife c s t) ρ h) R ↔ Wp (ev F c ρ h) fun x h1 => ∃ r, truthy h1 x = some r ∧ (if r = true then Wp (ex F wf s ρ h1) R else Wp (ex F wf t ρ h1) R) := by
  show Wp (((ev F c ρ h).bind fun q => (truthy q.2 q.1).bind fun b => some (b, q.2)).bind fun p => if p.1 = true then ex F wf s ρ p.2 else ex F wf t ρ p.2) R ↔ _
  rw [wp_bind, wp_bind]
  simp only [wp_obind, wp_some]
  constructor
  · exact fun q => q.mono fun v h ⟨r, e, q⟩ => ⟨r, e, by cases r <;> simpa using q⟩
  · exact fun q => q.mono fun v h ⟨r, e, q⟩ => ⟨r, e, by cases r <;> simpa using q⟩
theorem wp_sub : Wp (ex F wf (.sub o i e) ρ h) R ↔ Wp (ev F e ρ h) fun v h1 => Wp (ev F o ρ h1) fun x h2 => Wp (ev F i ρ h2) fun y h3 => ∃ h4, setop x y v h3 = some h4 ∧ R (.nx ρ) h4 := by
  show Wp ((ev F e ρ h).bind fun p => (ev F o ρ p.2).bind fun q => (ev F i ρ q.2).bind fun u => (setop q.1 u.1 p.1 u.2).bind fun h4 => some (Fl.nx ρ, h4)) R ↔ _
  rw [wp_bind]
  simp only [wp_bind]
  simp only [wp_obind, wp_some]
end
/-- a def's call, by its body -/
theorem wp_def {defs : List IDef} {wf k i : Nat} {d : IDef} {vs : List PV} {h : IHeap} {Q : PV → IHeap → Prop} (hd : defs[i]? = some d) (hl : vs.length = d.np)
    (q : Wp (ex (callN defs wf k) wf d.body (start' d vs) h) fun fl h1 => ∃ v, retOf fl = some v ∧ Q v h1) : Wp (callN defs wf (k + 1) i vs h) Q := by
  unfold callN
  rw [hd]
  simp only
  rw [if_pos hl, wp_bind]
  refine q.mono fun fl h1 ⟨v, e, q⟩ => ?_
  simp only [e, Option.bind_some]
  exact wp_some.mpr q
end PI
end

section
set_option Elab.async false
set_option linter.all false
set_option maxRecDepth 100000
set_option maxHeartbeats 2000000
namespace PI
open PySem PySem.Spec PyProof.Rows L2
abbrev kC : Key := .inr (Str.ofString "cells")
abbrev kM : Key := .inr (Str.ofString "mixed")
abbrev kD : Key := .inr (Str.ofString "draws")
abbrev deckD (c : Nat) (m t : Int) : Cell := .dic [(kC, .ref c), (kM, .int m), (kD, .int t)]
theorem get_c {a b e : PV} : kvGet kC [(kC, a), (kM, b), (kD, e)] = some a := rfl
theorem get_m {a b e : PV} : kvGet kM [(kC, a), (kM, b), (kD, e)] = some b := rfl
theorem get_d {a b e : PV} : kvGet kD [(kC, a), (kM, b), (kD, e)] = some e := rfl
theorem put_d {a b e v : PV} : kvPut kD v [(kC, a), (kM, b), (kD, e)] = [(kC, a), (kM, b), (kD, v)] := rfl
/-- the deck stands at d, its cells at c -/
structure Dk (d c : Nat) (B : Nat) (h : IHeap) : Prop where
  ex : ∃ (m t : Int) (cells : List Int), h[d]? = some (deckD c m t) ∧ h[c]? = some (.lst (cells.map .int)) ∧ 0 ≤ m ∧ m < 2147483647 ∧ 0 ≤ t ∧ t ≤ B ∧ cells.length ≤ 63
  ne : c ≠ d
/-- all else stands -/
structure Fr (d c : Nat) (h h' : IHeap) : Prop where
  len : h.length ≤ h'.length
  eq : ∀ i, i < h.length → i ≠ d → i ≠ c → h'[i]? = h[i]?
theorem log2_le {i : Int} {n : Nat} (h : i.natAbs < 2 ^ (n + 1)) : i.natAbs.log2 ≤ n := by
  by_cases h0 : i.natAbs = 0
  · rw [h0]; simp
  · have := (Nat.log2_lt h0).mpr h
    omega
theorem mul_ok {i j : Int} (h1 : i.natAbs < 2 ^ 100) (h2 : j.natAbs < 2 ^ 100) (h : IHeap) : binop .mul (.int i) (.int j) h = some (.int (i * j), h) := by
  have a := log2_le (n := 99) h1
  have b := log2_le (n := 99) h2
  show (if i.natAbs.log2 + j.natAbs.log2 < 1000000 then some (PV.int (i * j), h) else none) = _
  rw [if_pos (by omega)]
theorem wp_varE {F : Nat → List PV → IHeap → Option (PV × IHeap)} {ρ : Env'} {h : IHeap} {Q : PV → IHeap → Prop} {i : Nat} : Wp (ev F (.var i) ρ h) Q ↔ ∃ v, ρ[i]? = some (some v) ∧ Q v h := by
  constructor
  · rintro ⟨v, h', e, q⟩
    have e' : (match ρ[i]? with | some (some v) => some (v, h) | _ => none) = some (v, h') := e
    split at e'
    · cases e'; exact ⟨_, by assumption, q⟩
    · cases e'
  · rintro ⟨v, e, q⟩
    exact (wp_var e).mpr q
/-- what a walk through a text needs -/
theorem wl_def {F : Nat → List PV → IHeap → Option (PV × IHeap)} {as : IE} {ρ : Env'} {h : IHeap} {P : List PV → IHeap → Prop} : Wl F as ρ h P = Wl F as ρ h P := rfl
theorem toData_ints (h : IHeap) (i : Nat) (ns : List Int) (e : h[i]? = some (.lst (ns.map .int))) : toData h (.ref i) = some (.list (ns.map .int)) := by
  show toDataI h 5 i = _
  unfold toDataI
  rw [e]
  simp only
  have : ∀ (g : Nat → Option PyData) (ns : List Int), datsG g (ns.map .int) = some (ns.map .int) := fun g ns => by
    induction ns with
    | nil => rfl
    | cons a r ih => rw [List.map_cons]; unfold datsG; rw [ih]; rfl
  rw [this]
  rfl
theorem canLay_ints : ∀ ns : List Int, PyData.canLayAll0 (ns.map .int) = true
  | [] => by unfold PyData.canLayAll0; rfl
  | a :: r => by
    rw [List.map_cons]
    unfold PyData.canLayAll0
    rw [canLay_ints r]
    rfl
theorem depth_ints : ∀ ns : List Int, PyData.depthAll (ns.map .int) = 0
  | [] => rfl
  | a :: r => by
    rw [List.map_cons]
    unfold PyData.depthAll
    rw [depth_ints r]
    rfl
theorem shaped_ints (ns : List Int) (hl : ns.length ≤ 100000) : SeqAt.shaped (.list (ns.map .int)) = true := by
  unfold SeqAt.shaped
  have h1 : (PyData.list (ns.map .int)).canLay0 = true := by
    unfold PyData.canLay0
    simp [canLay_ints]
  have h2 : (PyData.list (ns.map .int)).depth = 1 := by
    unfold PyData.depth
    rw [depth_ints]
  rw [h1, h2]
  rfl
theorem eqv_nil (ns : List Int) : PyData.eqv (.list (ns.map .int)) (.list []) = ns.isEmpty := by cases ns <;> rfl
theorem bo_add {i j : Int} {h : IHeap} : binop .add (.int i) (.int j) h = some (.int (i + j), h) := rfl
theorem bo_sub {i j : Int} {h : IHeap} : binop .sub (.int i) (.int j) h = some (.int (i - j), h) := rfl
theorem bo_mod {i j : Int} {h : IHeap} (hj : 0 < j) : binop .mod (.int i) (.int j) h = some (.int (i % j), h) := by
  show (if j = 0 then none else some (PV.int (i.fmod j), h)) = _
  rw [if_neg (by omega), Int.fmod_eq_emod_of_nonneg i (by omega)]
theorem bo_fdiv {i j : Int} {h : IHeap} (hj : 0 < j) (h2 : j.natAbs < 2 ^ 8000) : binop .fdiv (.int i) (.int j) h = some (.int (i / j), h) := by
  show (if 0 < j ∧ middling j = true then some (PV.int (i / j), h) else none) = _
  have := log2_le (n := 7999) h2
  rw [if_pos ⟨hj, by simp [middling]; omega⟩]
theorem bl_int {i : Int} {h : IHeap} : bltop .int [.int i] h = some (.int i, h) := rfl
theorem bl_max {i j : Int} {h : IHeap} : bltop .max2 [.int i, .int j] h = some (.int (if j > i then j else i), h) := rfl
theorem cp_ge {i j : Int} {h : IHeap} : cmpop .ge (.int i) (.int j) h = some (decide (j ≤ i)) := rfl
theorem tr_bl {b : Bool} {h : IHeap} : truthy h (.bl b) = some b := rfl
theorem ix_dic {h : IHeap} {d c : Nat} {m t : Int} {k : Str} (e : h[d]? = some (deckD c m t)) : idxop (.ref d) (.str k) h = kvGet (.inr k) [(kC, .ref c), (kM, .int m), (kD, .int t)] := by
  show (match h[d]? with | some (.lst xs) => _ | some (.dic kvs) => _ | none => _) = _
  rw [e]
  rfl
theorem se_dic {h : IHeap} {d c : Nat} {m t : Int} {v : PV} (e : h[d]? = some (deckD c m t)) : setop (.ref d) (.str (Str.ofString "draws")) v h = some (h.set d (.dic [(kC, .ref c), (kM, .int m), (kD, v)])) := by
  show (match h[d]? with | some (.lst xs) => _ | some (.dic kvs) => _ | none => _) = _
  rw [e]
  rfl
/-- is the list of cells not empty -/
theorem ne_nil {h : IHeap} {c : Nat} {ns : List Int} (e : h[c]? = some (.lst (ns.map .int))) (hl : ns.length ≤ 63) : cmpop .ne (.ref c) (.ref h.length) (h ++ [.lst []]) = some (!ns.isEmpty) := by
  have hc : c < h.length := (List.getElem?_eq_some_iff.mp e).1
  have d1 := toData_ints (h ++ [.lst []]) c ns (by rw [List.getElem?_append_left hc]; exact e)
  have d2 := toData_ints (h ++ [.lst []]) h.length [] (by simp)
  show (eqop (.ref c) (.ref h.length) (h ++ [.lst []])).map (! ·) = _
  have : eqop (.ref c) (.ref h.length) (h ++ [.lst []]) = some ns.isEmpty := by
    show (match toData (h ++ [.lst []]) (.ref c), toData (h ++ [.lst []]) (.ref h.length) with
      | some d, some e => if (SeqAt.shaped d && SeqAt.shaped e) = true then some (PyData.eqv d e) else none
      | _, _ => none) = _
    rw [d1, d2]
    simp only
    rw [shaped_ints ns (by omega), shaped_ints [] (by simp)]
    exact congrArg some (eqv_nil ns)
  rw [this]
  rfl
end PI
end

section
set_option Elab.async false
set_option linter.all false
set_option maxRecDepth 100000
set_option maxHeartbeats 2000000
/-! comprehensions whose parts change nothing -/
namespace PI
open PySem PySem.Spec PyProof.Rows L2
section
variable {F : Nat → List PV → IHeap → Option (PV × IHeap)} {ρ : Env'} {h h1 : IHeap} {vs : List Nat} {tg : Tg} {k : IK} {src ifs elt : IE} {Q : PV → IHeap → Prop}
/-- one turn that changes nothing -/
def Turn1 (F : Nat → List PV → IHeap → Option (PV × IHeap)) (ρ : Env') (vs : List Nat) (tg : Tg) (ifs elt : IE) (x : PV) (o : Option PV) (H : IHeap) : Prop :=
  ∃ ρ1, assignT tg x (wipeE ρ vs) = some ρ1 ∧ Wp (ev F ifs ρ1 H) fun t H' => H' = H ∧ ∃ b, truthy H t = some b ∧ if b = true then (Wp (ev F elt ρ1 H) fun v H' => H' = H ∧ o = some v) else o = none
theorem lc_turn {x : PV} {o : Option PV} {acc : List PV} (ha : acc.length < sizeLine) (q : Turn1 F ρ vs tg ifs elt x o (h1 ++ [.lst acc])) :
    lcStep F ρ vs tg ifs elt h1.length x () (h1 ++ [.lst acc]) = some (.inl (), h1 ++ [.lst (acc ++ o.toList)]) := by
  obtain ⟨ρ1, e1, t, H', e2, rfl, b, e3, q⟩ := q
  unfold lcStep evT
  rw [e1]
  simp only [Option.bind_some]
  rw [e2]
  simp only [Option.bind_some]
  rw [e3]
  simp only [Option.bind_some]
  cases b with
  | false =>
    simp only [Bool.false_eq_true, if_false] at q ⊢
    rw [q]
    simp
  | true =>
    simp only [if_true] at q ⊢
    obtain ⟨v, H2, e4, rfl, rfl⟩ := q
    rw [e4]
    simp only [Option.bind_some]
    have e5 : (h1 ++ [Cell.lst acc])[h1.length]? = some (.lst acc) := by simp
    rw [e5]
    simp only
    rw [if_pos ha]
    congr 1
    simp
theorem lc_loop {s : Src} {xs : List PV} {f : PV → Option PV} (hs : ∀ acc j, srcAt s (h1 ++ [Cell.lst acc]) j = some xs[j]?) (hz : xs.length ≤ sizeLine)
    (q : ∀ x ∈ xs, ∀ acc : List PV, Turn1 F ρ vs tg ifs elt x (f x) (h1 ++ [.lst acc])) :
    ∀ (m j : Nat) (acc : List PV), xs.length - j < m → acc.length ≤ j → loopN s (lcStep F ρ vs tg ifs elt h1.length) m j () (h1 ++ [.lst acc]) = some (.inl (), h1 ++ [.lst (acc ++ (xs.drop j).filterMap f)])
  | 0, j, acc, hm, _ => absurd hm (Nat.not_lt_zero _)
  | m + 1, j, acc, hm, ha => by
    unfold loopN
    rw [hs acc j]
    by_cases hj : j < xs.length
    · rw [List.getElem?_eq_getElem hj]
      simp only
      rw [lc_turn (by omega) (q _ (List.getElem_mem hj) acc)]
      simp only
      rw [lc_loop hs hz q m (j + 1) _ (by omega) (by rw [List.length_append]; cases f xs[j] <;> simp <;> omega)]
      rw [List.drop_eq_getElem_cons hj, List.filterMap_cons]
      cases f xs[j] <;> simp
    · rw [List.getElem?_eq_none (by omega)]
      simp only
      rw [List.drop_eq_nil_of_le (by omega)]
      simp
/-- a list comprehension whose parts change nothing -/
theorem wp_lc {xs : List PV} {f : PV → Option PV} (hsrc : Wl F src ρ h fun ys h1 => ∃ s, srcOf k (.tup ys) h1 = some s ∧ (∀ acc j, srcAt s (h1 ++ [Cell.lst acc]) j = some xs[j]?) ∧ srcLen s (h1 ++ [.lst []]) = xs.length ∧ xs.length ≤ sizeLine ∧
      (∀ x ∈ xs, ∀ acc : List PV, Turn1 F ρ vs tg ifs elt x (f x) (h1 ++ [.lst acc])) ∧ Q (.ref h1.length) (h1 ++ [.lst (xs.filterMap f)])) : Wp (ev F (.lc vs tg k src ifs elt) ρ h) Q := by
  obtain ⟨v, h1, e, ys, rfl, s, es, hs, hl, hz, ht, q⟩ := hsrc
  rw [ev_lc, e]
  simp only [Option.bind_some]
  rw [es]
  simp only [Option.bind_some]
  rw [lc_loop hs hz ht _ 0 [] (by omega) (Nat.zero_le _)]
  simp only [Option.bind_some, List.drop_zero, List.nil_append]
  exact wp_some.mpr q
theorem src_its {xs : List PV} (h1 : IHeap) : (∀ acc j, srcAt (.its xs) (h1 ++ [Cell.lst acc]) j = some xs[j]?) ∧ srcLen (.its xs) (h1 ++ [.lst []]) = xs.length := ⟨fun _ _ => rfl, rfl⟩
theorem src_cell {xs : List PV} {h1 : IHeap} {i : Nat} (e : h1[i]? = some (.lst xs)) : (∀ acc j, srcAt (.cell i) (h1 ++ [Cell.lst acc]) j = some xs[j]?) ∧ srcLen (.cell i) (h1 ++ [.lst []]) = xs.length := by
  have hi := (List.getElem?_eq_some_iff.mp e).1
  have e' : ∀ c, (h1 ++ [Cell.lst c])[i]? = some (.lst xs) := fun c => by rw [List.getElem?_append_left hi]; exact e
  refine ⟨fun acc j => ?_, ?_⟩
  · show (match (h1 ++ [Cell.lst acc])[i]? with | some (.lst xs) => some xs[j]? | _ => none) = _
    rw [e']
  · show (match (h1 ++ [Cell.lst []])[i]? with | some (.lst xs) => xs.length | _ => 0) = _
    rw [e']
/-- the ints of a range -/
def rng (a b : Int) : List PV := (List.range (b - a).toNat).map fun i => .int (a + (i : Nat))
theorem mem_rng {a b : Int} {x : PV} (h : x ∈ rng a b) : ∃ i, x = .int i ∧ a ≤ i ∧ i < b := by
  obtain ⟨j, hj, rfl⟩ := List.mem_map.mp h
  have := List.mem_range.mp hj
  exact ⟨_, rfl, by omega, by omega⟩
theorem srcOf_range2 {a b : Int} {h : IHeap} (ha : fits62 a = true) (hb : fits62 b = true) : srcOf .range (.tup [.int a, .int b]) h = some (.its (rng a b)) := by
  show (if (fits62 a && fits62 b) = true then some (Src.its _) else none) = _
  rw [ha, hb]
  rfl
theorem srcOf_range1 {b : Int} {h : IHeap} (hb : fits62 b = true) : srcOf .range (.tup [.int b]) h = some (.its (rng 0 b)) := by
  show (if fits62 b = true then some (Src.its _) else none) = _
  rw [hb, if_pos rfl]
  unfold rng
  rw [Int.sub_zero]
theorem fits_small {i : Int} (h : i.natAbs < 2 ^ 61) : fits62 i = true := by
  unfold fits62
  simp only [Bool.and_eq_true, decide_eq_true_eq]
  omega
end
end PI
namespace PI
open PySem PySem.Spec PyProof.Rows L2
abbrev rowV (xs : List Int) : PV := .tup (xs.map .int)
def on1 (g : Int → Option Int) : PV → Option PV
  | .int a => (g a).map .int
  | _ => none
def on2 (g : Int → Int → Int) : PV → Option PV
  | .tup [.int a, .int b] => some (.int (g a b))
  | _ => none
theorem on1_map {g : Int → Option Int} : ∀ xs : List Int, (xs.map PV.int).filterMap (on1 g) = (xs.filterMap g).map .int
  | [] => rfl
  | a :: r => by
    have e : on1 g (.int a) = (g a).map .int := rfl
    rw [List.map_cons, List.filterMap_cons, List.filterMap_cons, e, on1_map r]
    cases g a <;> rfl
def pairV (xs ys : List Int) : List PV := List.zipWith (fun x y => .tup [x, y]) (xs.map .int) (ys.map .int)
theorem on2_map {g : Int → Int → Int} : ∀ xs ys : List Int, (pairV xs ys).filterMap (on2 g) = (List.zipWith g xs ys).map .int
  | [], _ => rfl
  | _ :: _, [] => rfl
  | a :: r, b :: s => by
    show (PV.tup [.int a, .int b] :: pairV r s).filterMap (on2 g) = _
    rw [List.filterMap_cons]
    show PV.int (g a b) :: _ = _
    rw [on2_map r s]
    rfl
theorem mem_pair {x : PV} : ∀ {xs ys : List Int}, x ∈ pairV xs ys → ∃ a b, x = .tup [.int a, .int b] ∧ a ∈ xs ∧ b ∈ ys
  | [], _, h => by cases h
  | _ :: _, [], h => by cases h
  | a :: r, b :: s, h => by
    rcases List.mem_cons.mp h with e | h
    · exact ⟨a, b, e, List.mem_cons_self, List.mem_cons_self⟩
    · obtain ⟨a', b', e, h1, h2⟩ := mem_pair h
      exact ⟨a', b', e, List.mem_cons_of_mem _ h1, List.mem_cons_of_mem _ h2⟩
theorem pair_len (xs ys : List Int) : (pairV xs ys).length = min xs.length ys.length := by unfold pairV; simp
theorem mem_ints {x : PV} {xs : List Int} (h : x ∈ xs.map PV.int) : ∃ a, x = .int a ∧ a ∈ xs := by
  obtain ⟨a, ha, rfl⟩ := List.mem_map.mp h
  exact ⟨a, rfl, ha⟩
theorem bl_tuple {h : IHeap} {xs : List PV} : bltop .tuple [.ref h.length] (h ++ [.lst xs]) = some (.tup xs, h ++ [.lst xs]) := by
  have e : (h ++ [Cell.lst xs])[h.length]? = some (.lst xs) := by simp
  simp only [bltop, e]
theorem intsOf_map : ∀ xs : List Int, intsOf (xs.map .int) = some xs
  | [] => rfl
  | a :: r => by
    rw [List.map_cons]
    unfold intsOf
    rw [intsOf_map r]
    rfl
theorem bl_sum {h : IHeap} {xs : List Int} : bltop .sum [.ref h.length] (h ++ [.lst (xs.map .int)]) = some (.int xs.sum, h ++ [.lst (xs.map .int)]) := by
  have e : (h ++ [Cell.lst (xs.map PV.int)])[h.length]? = some (.lst (xs.map .int)) := by simp
  simp only [bltop, e, intsOf_map]
  rfl
/-- only new cells -/
def Gr (h h' : IHeap) : Prop := ∃ g, h' = h ++ g
theorem Gr.refl {h : IHeap} : Gr h h := ⟨[], by simp⟩
theorem Gr.one {h : IHeap} {c : Cell} : Gr h (h ++ [c]) := ⟨[c], rfl⟩
theorem Gr.trans {h h1 h2 : IHeap} (a : Gr h h1) (b : Gr h1 h2) : Gr h h2 := by
  obtain ⟨g, rfl⟩ := a
  obtain ⟨g', rfl⟩ := b
  exact ⟨g ++ g', by simp⟩
theorem Gr.get {h h' : IHeap} (a : Gr h h') {i : Nat} {c : Cell} (e : h[i]? = some c) : h'[i]? = some c := by
  obtain ⟨g, rfl⟩ := a
  rw [List.getElem?_append_left (List.getElem?_eq_some_iff.mp e).1]
  exact e
end PI
namespace PI
open PySem PySem.Spec PyProof.Rows L2
section
variable {F : Nat → List PV → IHeap → Option (PV × IHeap)} {ρ : Env'} {h h1 H : IHeap} {vs : List Nat} {tg : Tg} {k : IK} {src ifs elt a b c : IE} {Q : PV → IHeap → Prop} {g : GC}
theorem wp_chain {o1 o2 : Cop} : Wp (ev F (.chain o1 o2 a b c) ρ h) Q ↔ Wp (ev F a ρ h) fun x h1 => Wp (ev F b ρ h1) fun y h2 => ∃ r, cmpop o1 x y h2 = some r ∧ (if r = true then Wp (ev F c ρ h2) fun z h3 => ∃ r', cmpop o2 y z h3 = some r' ∧ Q (.bl r') h3 else Q (.bl false) h2) := by
  rw [ev_chain, wp_bind]
  simp only [wp_bind]
  simp only [wp_obind]
  constructor
  · refine fun q => q.mono fun v h q => q.mono fun w h ⟨r, e, q⟩ => ⟨r, e, ?_⟩
    cases r with
    | true => simp only [if_true, wp_bind] at q ⊢; exact q.mono fun v h q => by obtain ⟨r', e', q⟩ := wp_obind.mp q; exact ⟨r', e', wp_some.mp q⟩
    | false => simpa using q
  · refine fun q => q.mono fun v h q => q.mono fun w h ⟨r, e, q⟩ => ⟨r, e, ?_⟩
    cases r with
    | true => simp only [if_true, wp_bind] at q ⊢; exact q.mono fun v h ⟨r', e', q⟩ => wp_obind.mpr ⟨r', e', wp_some.mpr q⟩
    | false => simpa using q
theorem cp_le {i j : Int} : cmpop .le (.int i) (.int j) h = some (decide (i ≤ j)) := rfl
theorem cp_lt {i j : Int} : cmpop .lt (.int i) (.int j) h = some (decide (i < j)) := rfl
theorem cp_gt {i j : Int} : cmpop .gt (.int i) (.int j) h = some (decide (j < i)) := rfl
theorem cp_eqI {i j : Int} : cmpop .eq (.int i) (.int j) h = some (decide (i = j)) := rfl
theorem cp_neI {i j : Int} : cmpop .ne (.int i) (.int j) h = some (!decide (i = j)) := rfl
/-- one turn of a generator that changes nothing -/
theorem g_turn {x : PV} {acc acc' : List PV} (q : ∃ ρ1, assignT tg x (wipeE ρ vs) = some ρ1 ∧ Wp (ev F ifs ρ1 H) fun t H' => H' = H ∧ ∃ b, truthy H t = some b ∧ if b = true then (Wp (ev F elt ρ1 H) fun v H' => H' = H ∧ genStep g v acc H = some (.inl acc', H)) else acc' = acc) :
    gStep F g ρ vs tg ifs elt x acc H = some (.inl acc', H) := by
  obtain ⟨ρ1, e1, t, H', e2, rfl, b, e3, q⟩ := q
  unfold gStep evT
  rw [e1]
  simp only [Option.bind_some]
  rw [e2]
  simp only [Option.bind_some]
  rw [e3]
  simp only [Option.bind_some]
  cases b with
  | false =>
    simp only [Bool.false_eq_true, if_false] at q ⊢
    rw [q]
  | true =>
    simp only [if_true] at q ⊢
    obtain ⟨v, H2, e4, rfl, e5⟩ := q
    rw [e4]
    exact e5
theorem g_loop {s : Src} {xs : List PV} {st : List PV → PV → List PV} {I : Nat → List PV → Prop} (hs : ∀ j, srcAt s H j = some xs[j]?) (q : ∀ j x acc, xs[j]? = some x → I j acc → gStep F g ρ vs tg ifs elt x acc H = some (.inl (st acc x), H) ∧ I (j + 1) (st acc x)) :
    ∀ (m j : Nat) (acc : List PV), xs.length - j < m → I j acc → loopN s (gStep F g ρ vs tg ifs elt) m j acc H = some (.inl ((xs.drop j).foldl st acc), H)
  | 0, j, acc, hm, _ => absurd hm (Nat.not_lt_zero _)
  | m + 1, j, acc, hm, hI => by
    unfold loopN
    rw [hs j]
    by_cases hj : j < xs.length
    · have e := List.getElem?_eq_getElem hj
      rw [e]
      simp only
      obtain ⟨e1, e2⟩ := q j _ acc e hI
      rw [e1]
      simp only
      rw [g_loop hs q m (j + 1) _ (by omega) e2, List.drop_eq_getElem_cons hj, List.foldl_cons]
    · rw [List.getElem?_eq_none (by omega)]
      simp only
      rw [List.drop_eq_nil_of_le (by omega)]
      rfl
/-- a generator expression whose parts change nothing, walked to its end -/
theorem wp_gen {xs : List PV} {st : List PV → PV → List PV} {I : Nat → List PV → Prop} (hsrc : Wl F src ρ h fun ys h1 => ∃ s, srcOf k (.tup ys) h1 = some s ∧ (∀ j, srcAt s h1 j = some xs[j]?) ∧ srcLen s h1 = xs.length ∧ I 0 (genInit g) ∧
      (∀ j x acc, xs[j]? = some x → I j acc → gStep F g ρ vs tg ifs elt x acc h1 = some (.inl (st acc x), h1) ∧ I (j + 1) (st acc x)) ∧ ∃ v, genEnd g (.inl (xs.foldl st (genInit g))) = some v ∧ Q v h1) : Wp (ev F (.gen g vs tg k src ifs elt) ρ h) Q := by
  obtain ⟨v, h1, e, ys, rfl, s, es, hs, hl, hI, ht, w, ew, q⟩ := hsrc
  rw [ev_gen, e]
  simp only [Option.bind_some]
  rw [es]
  simp only [Option.bind_some]
  rw [g_loop hs ht _ 0 _ (by omega) hI]
  simp only [Option.bind_some, List.drop_zero]
  rw [ew]
  exact wp_some.mpr q
end
end PI
end

section
set_option Elab.async false
set_option linter.all false
set_option maxRecDepth 100000
set_option maxHeartbeats 2000000
namespace PI
open PySem PySem.Spec PyProof.Rows L2
/-! ### rows as data: their reprs, their equality -/
abbrev rowD (xs : List Int) : PyData := .tuple (xs.map .int)
theorem datsG_ints (g : Nat → Option PyData) : ∀ ns : List Int, datsG g (ns.map .int) = some (ns.map .int)
  | [] => rfl
  | a :: r => by
    rw [List.map_cons]
    unfold datsG
    rw [datsG_ints g r]
    rfl
theorem datG_row (g : Nat → Option PyData) (xs : List Int) : datG g (rowV xs) = some (rowD xs) := by
  show datG g (.tup (xs.map .int)) = _
  unfold datG
  rw [datsG_ints]
  rfl
theorem toData_row (h : IHeap) (xs : List Int) : toData h (rowV xs) = some (rowD xs) := datG_row _ xs
theorem shown_row {xs : List Int} (hx : ∀ x ∈ xs, x.natAbs < 10 ^ 12) (hl : xs.length ≤ 1000) : (rowD xs).shown.length ≤ 20000 := by
  have e : ∀ ys : List Int, (∀ x ∈ ys, x.natAbs < 10 ^ 12) → (PyData.shownAll (ys.map .int)).length = ys.length ∧ ((PyData.shownAll (ys.map .int)).map (·.length)).sum ≤ 13 * ys.length := fun ys hy => by
    induction ys with
    | nil => exact ⟨rfl, Nat.le_refl _⟩
    | cons a r ih =>
      obtain ⟨i1, i2⟩ := ih fun x hx => hy x (List.mem_cons_of_mem _ hx)
      have := PyData.shown_int_le (hy a List.mem_cons_self)
      rw [List.map_cons]
      unfold PyData.shownAll
      refine ⟨by rw [List.length_cons, List.length_cons, i1], ?_⟩
      rw [List.map_cons, List.sum_cons, List.length_cons]
      omega
  have q : (rowD xs).shown = tupleText (PyData.shownAll (xs.map .int)) := by unfold PyData.shown; rfl
  rw [q]
  have a := tupleText_len_le (PyData.shownAll (xs.map .int))
  obtain ⟨i1, i2⟩ := e xs hx
  rw [i1] at a
  omega
theorem showable_row {xs : List Int} (hx : ∀ x ∈ xs, x.natAbs < 10 ^ 12) : (rowD xs).showable = true := by
  have e : ∀ ys : List Int, (∀ x ∈ ys, x.natAbs < 10 ^ 12) → PyData.showableAll (ys.map .int) = true := fun ys hy => by
    induction ys with
    | nil => rfl
    | cons a r ih =>
      rw [List.map_cons]
      unfold PyData.showableAll
      rw [ih fun x hx => hy x (List.mem_cons_of_mem _ hx), Bool.and_true]
      show decide (a.natAbs.log2 < 1920) = true
      have := log2_le (i := a) (n := 99) (Nat.lt_of_lt_of_le (hy a List.mem_cons_self) (by decide))
      exact decide_eq_true (by omega)
  show PyData.showableAll (xs.map .int) = true
  exact e xs hx
theorem depth_row (xs : List Int) : (rowD xs).depth = 1 := by
  show PyData.depthAll (xs.map .int) + 1 = 1
  rw [depth_ints]
/-- the repr of a row -/
theorem repr_row {h : IHeap} {xs : List Int} (hx : ∀ x ∈ xs, x.natAbs < 10 ^ 12) (hl : xs.length ≤ 1000) : bltop .repr [rowV xs] h = some (.str (rowD xs).shown, h) := by
  show (match toData h (rowV xs) with | some d => (if (d.showable && decide (d.depth ≤ 64) && decide (d.shown.length ≤ sizeLine)) = true then some (PV.str d.shown, h) else none) | none => none) = _
  rw [toData_row]
  simp only
  have a := shown_row hx hl
  have z : sizeLine = 16777216 := rfl
  rw [if_pos (by rw [showable_row hx, depth_row, decide_eq_true (show (rowD xs).shown.length ≤ sizeLine by omega)]; rfl)]
/-- of two rows and an int -/
theorem repr_row3 {h : IHeap} {xs ys : List Int} {i : Int} (hx : ∀ x ∈ xs, x.natAbs < 10 ^ 12) (hl : xs.length ≤ 1000) (hy : ∀ x ∈ ys, x.natAbs < 10 ^ 12) (hm : ys.length ≤ 1000) (hi : i.natAbs < 10 ^ 12) :
    bltop .repr [.tup [rowV xs, rowV ys, .int i]] h = some (.str (PyData.tuple [rowD xs, rowD ys, .int i]).shown, h) := by
  have e : toData h (.tup [rowV xs, rowV ys, .int i]) = some (.tuple [rowD xs, rowD ys, .int i]) := by
    show datG _ (.tup [rowV xs, rowV ys, .int i]) = _
    unfold datG datsG
    rw [datG_row]
    unfold datsG
    rw [datG_row]
    rfl
  show (match toData h (.tup [rowV xs, rowV ys, .int i]) with | some d => (if (d.showable && decide (d.depth ≤ 64) && decide (d.shown.length ≤ sizeLine)) = true then some (PV.str d.shown, h) else none) | none => none) = _
  rw [e]
  simp only
  have a := shown_row hx hl
  have b := shown_row hy hm
  have c := PyData.shown_int_le hi
  have z : sizeLine = 16777216 := rfl
  have s1 : (PyData.tuple [rowD xs, rowD ys, .int i]).showable = true := by
    show (PyData.showable (rowD xs) && (PyData.showable (rowD ys) && (PyData.showable (.int i) && true))) = true
    rw [showable_row hx, showable_row hy]
    show decide (i.natAbs.log2 < 1920) && true = true
    have := log2_le (i := i) (n := 99) (Nat.lt_of_lt_of_le hi (by decide))
    rw [decide_eq_true (by omega)]
    rfl
  have s2 : (PyData.tuple [rowD xs, rowD ys, .int i]).depth ≤ 64 := by
    show max (PyData.depth (rowD xs)) (max (PyData.depth (rowD ys)) (max 0 0)) + 1 ≤ 64
    rw [depth_row, depth_row]
    decide
  have s3 : (PyData.tuple [rowD xs, rowD ys, .int i]).shown.length ≤ sizeLine := by
    have q : (PyData.tuple [rowD xs, rowD ys, .int i]).shown = tupleText [(rowD xs).shown, (rowD ys).shown, (PyData.int i).shown] := rfl
    rw [q]
    have t := tupleText_len_le [(rowD xs).shown, (rowD ys).shown, (PyData.int i).shown]
    simp only [List.map_cons, List.map_nil, List.sum_cons, List.sum_nil, List.length_cons, List.length_nil] at t
    omega
  rw [if_pos (by rw [s1, decide_eq_true s2, decide_eq_true s3]; rfl)]
theorem cp_neS {x y : Str} {h : IHeap} : cmpop .ne (.str x) (.str y) h = some (!decide (x = y)) := rfl
theorem cp_eqS {x y : Str} {h : IHeap} : cmpop .eq (.str x) (.str y) h = some (decide (x = y)) := rfl
theorem eqv_ints : ∀ xs ys : List Int, PyData.eqvAll (xs.map .int) (ys.map .int) = decide (xs = ys)
  | [], [] => rfl
  | [], _ :: _ => rfl
  | _ :: _, [] => rfl
  | x :: xs, y :: ys => by
    rw [List.map_cons, List.map_cons]
    unfold PyData.eqvAll
    rw [eqv_ints xs ys]
    show (x == y && decide (xs = ys)) = _
    by_cases h1 : x = y
    · by_cases h2 : xs = ys
      · simp [h1, h2]
      · simp [h1, h2]
    · simp [h1]
theorem shaped_row (xs : List Int) : SeqAt.shaped (rowD xs) = true := by
  unfold SeqAt.shaped
  have h1 : (rowD xs).canLay0 = true := by
    unfold PyData.canLay0
    exact canLay_ints xs
  rw [h1, depth_row]
  rfl
theorem eq_rows {h : IHeap} {xs ys : List Int} : eqop (rowV xs) (rowV ys) h = some (decide (xs = ys)) := by
  show (match toData h (rowV xs), toData h (rowV ys) with
    | some d, some e => if (SeqAt.shaped d && SeqAt.shaped e) = true then some (PyData.eqv d e) else none
    | _, _ => none) = _
  rw [toData_row, toData_row]
  simp only
  rw [shaped_row, shaped_row]
  exact congrArg some (eqv_ints xs ys)
theorem cp_eqR {h : IHeap} {xs ys : List Int} : cmpop .eq (rowV xs) (rowV ys) h = some (decide (xs = ys)) := eq_rows
theorem cp_neR {h : IHeap} {xs ys : List Int} : cmpop .ne (rowV xs) (rowV ys) h = some (!decide (xs = ys)) := by
  show (eqop (rowV xs) (rowV ys) h).map (! ·) = _
  rw [eq_rows]
  rfl
theorem cp_isT {h : IHeap} {b : Bool} : cmpop .is_ (.bl b) (.bl true) h = some (decide (b = true)) := rfl
end PI
end

section
set_option Elab.async false
set_option linter.all false
set_option maxRecDepth 100000
set_option maxHeartbeats 2000000
/-! walks with an invariant -/
namespace PI
open PySem PySem.Spec PyProof.Rows L2
section
variable {F : Nat → List PV → IHeap → Option (PV × IHeap)} {ρ : Env'} {h : IHeap} {vs : List Nat} {tg : Tg} {k : IK} {src ifs elt : IE} {Q : PV → IHeap → Prop} {wf : Nat} {body : IS} {R : Fl → IHeap → Prop}
theorem lc_inv_loop {xs : List PV} {D : Nat} {I : Nat → List PV → IHeap → Prop}
    (turn : ∀ j x acc H, xs[j]? = some x → I j acc H → ∃ ρ1, assignT tg x (wipeE ρ vs) = some ρ1 ∧ Wp (ev F ifs ρ1 H) fun t H1 => ∃ b, truthy H1 t = some b ∧ if b = true then (Wp (ev F elt ρ1 H1) fun v H2 => ∃ acc', H2[D]? = some (.lst acc') ∧ acc'.length < sizeLine ∧ I (j + 1) (acc' ++ [v]) (H2.set D (.lst (acc' ++ [v])))) else I (j + 1) acc H1) :
    ∀ (m j : Nat) (acc : List PV) (H : IHeap), xs.length - j < m → I j acc H → ∃ acc' H', loopN (.its xs) (lcStep F ρ vs tg ifs elt D) m j () H = some (.inl (), H') ∧ ∃ j', xs.length ≤ j' ∧ (j ≤ xs.length → j' = xs.length) ∧ I j' acc' H'
  | 0, j, acc, H, hm, _ => absurd hm (Nat.not_lt_zero _)
  | m + 1, j, acc, H, hm, hI => by
    unfold loopN
    rw [show srcAt (.its xs) H j = some xs[j]? from rfl]
    by_cases hj : j < xs.length
    · have e := List.getElem?_eq_getElem hj
      rw [e]
      simp only
      obtain ⟨ρ1, e1, t, H1, e2, b, e3, q⟩ := turn j _ acc H e hI
      have st : ∃ acc2 H2, lcStep F ρ vs tg ifs elt D xs[j] () H = some (.inl (), H2) ∧ I (j + 1) acc2 H2 := by
        unfold lcStep evT
        rw [e1]
        simp only [Option.bind_some]
        rw [e2]
        simp only [Option.bind_some]
        rw [e3]
        simp only [Option.bind_some]
        cases b with
        | false =>
          simp only [Bool.false_eq_true, if_false] at q ⊢
          exact ⟨acc, H1, rfl, q⟩
        | true =>
          simp only [if_true] at q ⊢
          obtain ⟨v, H2, e4, acc', e5, hz, q⟩ := q
          rw [e4]
          simp only [Option.bind_some]
          rw [e5]
          simp only
          rw [if_pos hz]
          exact ⟨_, _, rfl, q⟩
      obtain ⟨acc2, H2, e6, i2⟩ := st
      rw [e6]
      simp only
      obtain ⟨acc', H', e7, j', h1, h2, i3⟩ := lc_inv_loop turn m (j + 1) acc2 H2 (by omega) i2
      exact ⟨acc', H', e7, j', h1, fun _ => h2 (by omega), i3⟩
    · rw [List.getElem?_eq_none (by omega)]
      exact ⟨acc, H, rfl, j, by omega, fun z => by omega, hI⟩
/-- a list comprehension over what stands, by an invariant -/
theorem wp_lcI {xs : List PV} {I : Nat → List PV → IHeap → Prop} (hsrc : Wl F src ρ h fun ys h1 => srcOf k (.tup ys) h1 = some (.its xs) ∧ I 0 [] (h1 ++ [.lst []]) ∧
    (∀ j x acc H, xs[j]? = some x → I j acc H → ∃ ρ1, assignT tg x (wipeE ρ vs) = some ρ1 ∧ Wp (ev F ifs ρ1 H) fun t H1 => ∃ b, truthy H1 t = some b ∧ if b = true then (Wp (ev F elt ρ1 H1) fun v H2 => ∃ acc', H2[h1.length]? = some (.lst acc') ∧ acc'.length < sizeLine ∧ I (j + 1) (acc' ++ [v]) (H2.set h1.length (.lst (acc' ++ [v])))) else I (j + 1) acc H1) ∧
    ∀ acc H, I xs.length acc H → Q (.ref h1.length) H) : Wp (ev F (.lc vs tg k src ifs elt) ρ h) Q := by
  obtain ⟨v, h1, e, ys, rfl, es, i0, turn, fin⟩ := hsrc
  rw [ev_lc, e]
  simp only [Option.bind_some]
  rw [es]
  simp only [Option.bind_some]
  obtain ⟨acc, H, e2, j, h1', h2, i⟩ := lc_inv_loop turn (srcLen (.its xs) (h1 ++ [.lst []]) + 1) 0 [] (h1 ++ [.lst []]) (by show xs.length - 0 < xs.length + 1; omega) i0
  rw [e2]
  simp only [Option.bind_some]
  rw [h2 (Nat.zero_le _)] at i
  exact wp_some.mpr (fin acc H i)
/-- a for, by an invariant; what is walked stands -/
theorem for_loop {s : Src} {xs : List PV} {I : Nat → Env' → IHeap → Prop} {step : PV → Env' → IHeap → Option (Sum Env' Fl × IHeap)} (hs : ∀ j ρ H, I j ρ H → srcAt s H j = some xs[j]?)
    (turn : ∀ j x ρ H, xs[j]? = some x → I j ρ H → Wp (step x ρ H) fun o H' => match o with | .inl ρ' => I (j + 1) ρ' H' | .inr fl => R fl H') :
    ∀ (m j : Nat) (ρ : Env') (H : IHeap), j ≤ xs.length → xs.length - j < m → I j ρ H → Wp (loopN s step m j ρ H) fun o H' => match o with | .inl ρ' => I xs.length ρ' H' | .inr fl => R fl H'
  | 0, j, ρ, H, _, hm, _ => absurd hm (Nat.not_lt_zero _)
  | m + 1, j, ρ, H, hjl, hm, hI => by
    unfold loopN
    rw [hs j ρ H hI]
    by_cases hj : j < xs.length
    · have e := List.getElem?_eq_getElem hj
      rw [e]
      simp only
      obtain ⟨o, H', e1, q⟩ := turn j _ ρ H e hI
      rw [e1]
      cases o with
      | inl ρ' => exact for_loop hs turn m (j + 1) ρ' H' (by omega) (by omega) q
      | inr fl => exact wp_some.mpr q
    · rw [List.getElem?_eq_none (by omega)]
      simp only
      have : j = xs.length := by omega
      rw [this] at hI
      exact wp_some.mpr hI
theorem wp_for {xs : List PV} {I : Nat → Env' → IHeap → Prop} (hsrc : Wl F src ρ h fun ys h1 => ∃ s, srcOf k (.tup ys) h1 = some s ∧ srcLen s h1 = xs.length ∧ (∀ j ρ H, I j ρ H → srcAt s H j = some xs[j]?) ∧ I 0 ρ h1 ∧
    (∀ j x ρ H, xs[j]? = some x → I j ρ H → ∃ ρ1, assignT tg x ρ = some ρ1 ∧ Wp (ex F wf body ρ1 H) fun fl H' => match fl with | .nx ρ' => I (j + 1) ρ' H' | .ct ρ' => I (j + 1) ρ' H' | .bk ρ' => R (.nx ρ') H' | .rt v => R (.rt v) H') ∧
    ∀ ρ H, I xs.length ρ H → R (.nx ρ) H) : Wp (ex F wf (.for_ tg k src body) ρ h) R := by
  obtain ⟨v, h1, e, ys, rfl, s, es, hl, hs, i0, turn, fin⟩ := hsrc
  rw [ex_for, e]
  simp only [Option.bind_some]
  rw [es]
  simp only [Option.bind_some]
  rw [wp_bind]
  refine (for_loop (R := R) (I := I) hs (fun j x ρ H hx hI => ?_) _ 0 ρ h1 (Nat.zero_le _) (by rw [hl]; omega) i0).mono fun o H' q => ?_
  · obtain ⟨ρ1, e1, q⟩ := turn j x ρ H hx hI
    rw [e1]
    simp only [Option.bind_some]
    rw [wp_bind]
    refine q.mono fun fl H' q => ?_
    cases fl <;> exact wp_some.mpr q
  · cases o with
    | inl ρ' => exact wp_some.mpr (fin ρ' H' q)
    | inr fl => exact wp_some.mpr q
theorem wp_slc {a b c : IE} {l r : Bool} : Wp (ev F (.slc l r a b c) ρ h) Q ↔ Wp (ev F a ρ h) fun x h1 => ∃ o h2, evO F l b ρ h1 = some (o, h2) ∧ ∃ u h3, evO F r c ρ h2 = some (u, h3) ∧ Wp (slcop x o u h3) Q := by
  rw [ev_slc, wp_bind]
  constructor
  · refine fun q => q.mono fun v h q => ?_
    obtain ⟨p, e, q⟩ := wp_obind.mp q
    obtain ⟨p2, e2, q⟩ := wp_obind.mp q
    exact ⟨p.1, p.2, e, p2.1, p2.2, e2, q⟩
  · refine fun q => q.mono fun v h ⟨o, h2, e, u, h3, e2, q⟩ => ?_
    exact wp_obind.mpr ⟨_, e, wp_obind.mpr ⟨_, e2, q⟩⟩
theorem wp_rev {a : IE} : Wp (ev F (.rev a) ρ h) Q ↔ Wp (ev F a ρ h) fun x h1 => ∃ i xs, x = .ref i ∧ h1[i]? = some (.lst xs) ∧ Q (.ref h1.length) (h1 ++ [.lst xs.reverse]) := by
  show Wp ((ev F a ρ h).bind fun p => match p.1 with | .ref i => (match p.2[i]? with | some (.lst xs) => some (newCell (.lst xs.reverse) p.2) | _ => none) | _ => none) Q ↔ _
  rw [wp_bind]
  constructor
  · refine fun q => q.mono fun v h q => ?_
    cases v with
    | ref i =>
      cases e : h[i]? with
      | none => simp only [e] at q; exact (wp_none.mp q).elim
      | some c =>
        cases c with
        | dic _ => simp only [e] at q; exact (wp_none.mp q).elim
        | lst xs => simp only [e] at q; exact ⟨i, xs, rfl, e, wp_some.mp q⟩
    | _ => exact (wp_none.mp q).elim
  · refine fun q => q.mono fun v h ⟨i, xs, e1, e2, q⟩ => ?_
    subst e1
    simp only [e2]
    exact wp_some.mpr q
theorem wp_dic {ks : List Str} {as : IE} : Wl F as ρ (h ++ [.dic []]) (fun ys h1 => h1[h.length]? = some (.dic []) ∧ ys.length = ks.length ∧ ks.length ≤ 15 ∧ Q (.ref h.length) (h1.set h.length (.dic ((ks.zip ys).foldl (fun kvs p => kvPut (.inr p.1) p.2 kvs) [])))) → Wp (ev F (.dic ks as) ρ h) Q := by
  rintro ⟨v, h1, e, ys, rfl, e2, l1, l2, q⟩
  show Wp ((ev F as ρ (h ++ [.dic []])).bind fun z => match z.1, z.2[h.length]? with
    | .tup ys, some (.dic []) => if ys.length = ks.length ∧ ks.length ≤ 15 then some (.ref h.length, z.2.set h.length (.dic ((ks.zip ys).foldl (fun kvs p => kvPut (.inr p.1) p.2 kvs) []))) else none
    | _, _ => none) Q
  rw [e]
  simp only [Option.bind_some, e2]
  rw [if_pos ⟨l1, l2⟩]
  exact wp_some.mpr q
theorem cut_map (lo hi : Option Int) (ns : List Int) : ∃ ns' : List Int, cut (ns.map .int) lo hi = ns'.map .int ∧ ns'.length ≤ ns.length := by
  unfold cut
  refine ⟨(ns.drop (HT.sIx (ns.map PV.int).length 0 lo)).take (HT.sIx (ns.map PV.int).length (ns.map PV.int).length hi - HT.sIx (ns.map PV.int).length 0 lo), by rw [List.map_take, List.map_drop], ?_⟩
  rw [List.length_take, List.length_drop]
  omega
end
end PI
end

section
set_option Elab.async false
set_option linter.all false
set_option maxRecDepth 100000
set_option maxHeartbeats 2000000
/-! lists as values: what they stand for, and the operations -/
namespace PI
open PySem PySem.Spec PyProof.Rows L2

/-- the deck, where values are told -/
abbrev tok : PV := .ref 0
mutual
/-- v stands for w (lists by what is in them, the deck at d by tok); no list at a place of A -/
inductive Den (d : Nat) (h : IHeap) (A : Nat → Prop) : PV → PV → Prop
  | non : Den d h A .non .non
  | bl (b) : Den d h A (.bl b) (.bl b)
  | int (i) : Den d h A (.int i) (.int i)
  | str (s) : Den d h A (.str s) (.str s)
  | ty (t) : Den d h A (.ty t) (.ty t)
  | dk : Den d h A (.ref d) tok
  | tup {xs ws} : Dens d h A xs ws → Den d h A (.tup xs) (.tup ws)
  | lst {i xs ws} : ¬ A i → h[i]? = some (.lst xs) → Dens d h A xs ws → Den d h A (.ref i) (.fl ws)
inductive Dens (d : Nat) (h : IHeap) (A : Nat → Prop) : List PV → List PV → Prop
  | nil : Dens d h A [] []
  | cons {x w xs ws} : Den d h A x w → Dens d h A xs ws → Dens d h A (x :: xs) (w :: ws)
end
/-- as told, but the list itself may stand anywhere -/
inductive Top (d c : Nat) (h : IHeap) (A : Nat → Prop) : PV → PV → Prop
  | den {v w} : Den d h A v w → Top d c h A v w
  | lst {i xs ws} : i ≠ c → h[i]? = some (.lst xs) → Dens d h A xs ws → Top d c h A (.ref i) (.fl ws)
section
variable {d : Nat} {h h' : IHeap} {A B : Nat → Prop}
mutual
theorem Den.move (hl : ∀ i c, h[i]? = some c → ¬ A i → h'[i]? = some c ∧ ¬ B i) : ∀ {v w}, Den d h A v w → Den d h' B v w
  | _, _, .non => .non
  | _, _, .bl b => .bl b
  | _, _, .int i => .int i
  | _, _, .str s => .str s
  | _, _, .ty t => .ty t
  | _, _, .dk => .dk
  | _, _, .tup r => .tup (Dens.move hl r)
  | _, _, .lst n e r => .lst (hl _ _ e n).2 (hl _ _ e n).1 (Dens.move hl r)
theorem Dens.move (hl : ∀ i c, h[i]? = some c → ¬ A i → h'[i]? = some c ∧ ¬ B i) : ∀ {v w}, Dens d h A v w → Dens d h' B v w
  | _, _, .nil => .nil
  | _, _, .cons r rs => .cons (Den.move hl r) (Dens.move hl rs)
end
theorem Dens.length : ∀ {xs ws : List PV}, Dens d h A xs ws → xs.length = ws.length
  | _, _, .nil => rfl
  | _, _, .cons _ r => congrArg (· + 1) r.length
theorem Dens.append : ∀ {xs ws ys us : List PV}, Dens d h A xs ws → Dens d h A ys us → Dens d h A (xs ++ ys) (ws ++ us)
  | _, _, _, _, .nil, s => s
  | _, _, _, _, .cons r rs, s => .cons r (rs.append s)
theorem Dens.get : ∀ {xs ws : List PV} {i : Nat} {w : PV}, Dens d h A xs ws → ws[i]? = some w → ∃ x, xs[i]? = some x ∧ Den d h A x w
  | _, _, _, _, .nil, e => by simp at e
  | _, _, 0, _, .cons r _, e => by simp at e; subst e; exact ⟨_, rfl, r⟩
  | _, _, i + 1, w, .cons _ rs, e => by
    obtain ⟨x, h1, h2⟩ := rs.get (i := i) (w := w) (by simpa using e)
    exact ⟨x, by simpa using h1, h2⟩
theorem Dens.drop : ∀ {xs ws : List PV} (k : Nat), Dens d h A xs ws → Dens d h A (xs.drop k) (ws.drop k)
  | _, _, 0, r => r
  | _, _, _ + 1, .nil => .nil
  | _, _, k + 1, .cons _ rs => Dens.drop k rs
theorem Dens.take : ∀ {xs ws : List PV} (k : Nat), Dens d h A xs ws → Dens d h A (xs.take k) (ws.take k)
  | _, _, 0, _ => .nil
  | _, _, _ + 1, .nil => .nil
  | _, _, k + 1, .cons r rs => .cons r (Dens.take k rs)
theorem Dens.cut {xs ws : List PV} {lo hi : Option Int} (r : Dens d h A xs ws) : Dens d h A (PI.cut xs lo hi) (PI.cut ws lo hi) := by
  unfold PI.cut
  rw [r.length]
  exact (r.drop _).take _
theorem Dens.reverse : ∀ {xs ws : List PV}, Dens d h A xs ws → Dens d h A xs.reverse ws.reverse
  | _, _, .nil => .nil
  | _, _, .cons r rs => by rw [List.reverse_cons, List.reverse_cons]; exact rs.reverse.append (.cons r .nil)
theorem Dens.set {x w : PV} (r : Den d h A x w) : ∀ {xs ws : List PV} (i : Nat), Dens d h A xs ws → Dens d h A (xs.set i x) (ws.set i w)
  | _, _, _, .nil => .nil
  | _, _, 0, .cons _ rs => .cons r rs
  | _, _, i + 1, .cons q rs => .cons q (Dens.set r i rs)
theorem Dens.ints : ∀ ns : List Int, Dens d h A (ns.map .int) (ns.map .int)
  | [] => .nil
  | i :: r => .cons (.int i) (Dens.ints r)
theorem Dens.ints_of : ∀ {xs ws : List PV} {ns : List Int}, Dens d h A xs ws → intsOf ws = some ns → xs = ns.map .int
  | _, _, ns, .nil, e => by cases e; rfl
  | _, .int i :: ws, ns, .cons r rs, e => by
    cases r
    unfold intsOf at e
    cases q : intsOf ws with
    | none => rw [q] at e; cases e
    | some ms => rw [q] at e; cases e; rw [List.map_cons, rs.ints_of q]
  | _, .non :: _, _, .cons _ _, e => by cases e
  | _, .bl _ :: _, _, .cons _ _, e => by cases e
  | _, .str _ :: _, _, .cons _ _, e => by cases e
  | _, .ty _ :: _, _, .cons _ _, e => by cases e
  | _, .tup _ :: _, _, .cons _ _, e => by cases e
  | _, .fl _ :: _, _, .cons _ _, e => by cases e
  | _, .ref _ :: _, _, .cons _ _, e => by cases e
theorem Dens.rep {xs ws : List PV} (r : Dens d h A xs ws) : ∀ k : Nat, Dens d h A (List.replicate k xs).flatten (List.replicate k ws).flatten
  | 0 => .nil
  | k + 1 => by rw [List.replicate_succ, List.replicate_succ, List.flatten_cons, List.flatten_cons]; exact r.append (r.rep k)
theorem Dens.pairs : ∀ {xs ws ys us : List PV}, Dens d h A xs ws → Dens d h A ys us → Dens d h A (List.zipWith (fun x y => .tup [x, y]) xs ys) (List.zipWith (fun x y => .tup [x, y]) ws us)
  | _, _, _, _, .nil, _ => .nil
  | _, _, _, _, .cons _ _, .nil => .nil
  | _, _, _, _, .cons r rs, .cons q qs => .cons (.tup (.cons r (.cons q .nil))) (rs.pairs qs)
end
/-! ### the data of values -/
mutual
def lv : PV → Nat
  | .tup xs => lvs xs
  | .fl xs => lvs xs + 1
  | _ => 0
termination_by structural v => v
def lvs : List PV → Nat
  | [] => 0
  | x :: xs => max (lv x) (lvs xs)
termination_by structural v => v
end
section
variable {d : Nat} {h : IHeap} {A : Nat → Prop}
theorem dat_nil (h : IHeap) : ∀ k i, toDataI ([] : IHeap) k i = none
  | 0, _ => rfl
  | k + 1, i => by unfold toDataI; simp
mutual
theorem Den.dat (hd : ∀ xs, h[d]? ≠ some (.lst xs)) : ∀ {v w : PV} {k : Nat}, Den d h A v w → lv w ≤ k → datG (toDataI h k) v = datG (fun _ => none) w
  | _, _, _, .non, _ => rfl
  | _, _, _, .bl b, _ => rfl
  | _, _, _, .int i, _ => rfl
  | _, _, _, .str s, _ => rfl
  | _, _, _, .ty t, _ => rfl
  | _, _, k, .dk, _ => by
    show toDataI h k d = none
    cases k with
    | zero => rfl
    | succ k =>
      unfold toDataI
      split
      · rename_i xs e; exact absurd e (hd xs)
      · rfl
  | _, _, k, .tup r, hl => by
    show datG _ (.tup _) = datG _ (.tup _)
    unfold datG
    rw [Dens.dat hd r (by unfold lv at hl; exact hl)]
  | _, _, 0, .lst _ _ _, hl => by unfold lv at hl; omega
  | _, _, k + 1, .lst (i := i) n e r, hl => by
    show toDataI h (k + 1) i = datG _ (.fl _)
    unfold toDataI datG
    rw [e]
    simp only
    rw [Dens.dat hd r (by unfold lv at hl; omega)]
theorem Dens.dat (hd : ∀ xs, h[d]? ≠ some (.lst xs)) : ∀ {v w : List PV} {k : Nat}, Dens d h A v w → lvs w ≤ k → datsG (toDataI h k) v = datsG (fun _ => none) w
  | _, _, _, .nil, _ => rfl
  | _, _, k, .cons r rs, hl => by
    unfold lvs at hl
    unfold datsG
    rw [Den.dat hd r (by omega), Dens.dat hd rs (by omega)]
end
theorem toDataI_nil (k : Nat) : toDataI ([] : IHeap) k = fun _ => none := funext fun i => dat_nil [] k i
theorem dat_lst (hd : ∀ xs, h[d]? ≠ some (.lst xs)) {i : Nat} {xs ws : List PV} (e : h[i]? = some (.lst xs)) (r : Dens d h A xs ws) (hl : lvs ws ≤ 4) : toData h (.ref i) = toData [] (.fl ws) := by
  show toDataI h 5 i = datG (toDataI [] 5) (.fl ws)
  rw [toDataI_nil]
  unfold toDataI datG
  rw [e]
  simp only
  rw [r.dat hd hl]
theorem Top.dat {c : Nat} (hd : ∀ xs, h[d]? ≠ some (.lst xs)) {v w : PV} (r : Top d c h A v w) (hl : lv w ≤ 5) : toData h v = toData [] w := by
  cases r with
  | den r =>
    show datG (toDataI h 5) v = datG (toDataI [] 5) w
    rw [toDataI_nil]
    exact r.dat hd hl
  | lst _ e r => exact dat_lst hd e r (by unfold lv at hl; omega)
end
/-! ### operations -/
def ins (x : Int) : List Int → List Int
  | [] => [x]
  | y :: ys => if x ≤ y then x :: y :: ys else y :: ins x ys
def isort : List Int → List Int
  | [] => []
  | x :: xs => ins x (isort xs)
theorem ins_perm (x : Int) : ∀ ys : List Int, (ins x ys).Perm (x :: ys)
  | [] => .refl _
  | y :: ys => by
    unfold ins
    split
    · exact .refl _
    · exact ((ins_perm x ys).cons y).trans (.swap x y ys)
theorem ins_asc {x : Int} : ∀ {ys : List Int}, ys.Pairwise (· ≤ ·) → (ins x ys).Pairwise (· ≤ ·)
  | [], _ => by simp [ins]
  | y :: ys, q => by
    unfold ins
    obtain ⟨q1, q2⟩ := List.pairwise_cons.mp q
    split
    · rename_i hxy
      exact List.pairwise_cons.mpr ⟨fun z hz => by rcases List.mem_cons.mp hz with e | e; · omega
                                                   · have := q1 z e; omega, q⟩
    · rename_i hxy
      refine List.pairwise_cons.mpr ⟨fun z hz => ?_, ins_asc q2⟩
      rcases List.mem_cons.mp ((ins_perm x ys).mem_iff.mp hz) with e | e
      · omega
      · exact q1 z e
theorem isort_perm : ∀ xs : List Int, (isort xs).Perm xs
  | [] => .refl _
  | x :: xs => (ins_perm x _).trans ((isort_perm xs).cons x)
theorem isort_asc : ∀ xs : List Int, (isort xs).Pairwise (· ≤ ·)
  | [] => .nil
  | x :: xs => ins_asc (isort_asc xs)
theorem isort_eq (xs : List Int) : isort xs = xs.mergeSort := sort_uniq (isort_perm xs) (isort_asc xs)
def pbin (op : Bop) (a b : PV) : Option PV :=
  match op, a, b with
  | .add, .fl xs, .fl ys => if xs.length + ys.length ≤ sizeLine then some (.fl (xs ++ ys)) else none
  | .mul, .fl xs, .int k => if -(2 ^ 63) ≤ k ∧ k < 2 ^ 63 ∧ xs.length * k.toNat ≤ sizeLine then some (.fl (List.replicate k.toNat xs).flatten) else none
  | op, a, b => (binop op a b []).map (·.1)
def pany (w : PV) (ys : List PV) : Option Bool :=
  match toData [] w, toData [] (.fl ys) with
  | some d, some (.list ds) => if SeqAt.shaped d && SeqAt.shaped (.list ds) then some (ds.any fun z => PyData.eqv z d) else none
  | _, _ => none
def pcmp (op : Cop) (a b : PV) : Option Bool :=
  match op, b with
  | .isin, .fl ys => if lv a ≤ 5 ∧ lvs ys ≤ 4 then pany a ys else none
  | .notin, .fl ys => if lv a ≤ 5 ∧ lvs ys ≤ 4 then (pany a ys).map (!·) else none
  | .isin, .tup ys => inTup a ys
  | .notin, .tup ys => (inTup a ys).map (!·)
  | .isin, _ => none
  | .notin, _ => none
  | op, b => if lv a ≤ 5 ∧ lv b ≤ 5 then cmpop op a b [] else none
def pblt (b : Blt) (as : List PV) : Option PV :=
  match b, as with
  | .list, [.tup xs] => some (.fl xs)
  | .list, [.fl xs] => some (.fl xs)
  | .sum, [.fl xs] => (intsOf xs).map fun ns => .int ns.sum
  | .sortedI, [.fl xs] => (intsOf xs).map fun ns => .fl ((isort ns).map .int)
  | .repr, [v] => if lv v ≤ 5 then (bltop .repr [v] []).map (·.1) else none
  | .list, _ => none
  | .sum, _ => none
  | .sortedI, _ => none
  | b, as => (bltop b as []).map (·.1)
def psts (b : Bool) (v : PV) : Option PV :=
  match v with
  | .fl xs => (intsOf xs).bind fun ns => if ns.length < 60 then (if b = true then some (.fl ((isort (dd ns)).map .int)) else some (.int (dd ns).length)) else none
  | _ => none
def pslc (a : PV) (lo hi : Option Int) : Option PV :=
  match a with
  | .tup xs => some (.tup (cut xs lo hi))
  | .fl xs => some (.fl (cut xs lo hi))
  | _ => none
def prev (a : PV) : Option PV :=
  match a with
  | .fl xs => some (.fl xs.reverse)
  | _ => none
def penum : Nat → List PV → List PV
  | _, [] => []
  | j, x :: xs => .tup [.int j, x] :: penum (j + 1) xs
def prng : Nat → Int → List PV
  | 0, _ => []
  | n + 1, a => .int a :: prng n (a + 1)
def psrcL (k : IK) (as : List PV) : Option (List PV) :=
  match k, as with
  | .seq, [.tup xs] => some xs
  | .seq, [.fl xs] => some xs
  | .range, [.int n] => if fits62 n then some (prng n.toNat 0) else none
  | .range, [.int a, .int b] => if fits62 a && fits62 b then some (prng (b - a).toNat a) else none
  | .zip, [.tup xs, .tup ys] => some (List.zipWith (fun x y => .tup [x, y]) xs ys)
  | .zip, [.fl xs, .fl ys] => some (List.zipWith (fun x y => .tup [x, y]) xs ys)
  | .zip, [.fl xs, .tup ys] => some (List.zipWith (fun x y => .tup [x, y]) xs ys)
  | .zip, [.tup xs, .fl ys] => some (List.zipWith (fun x y => .tup [x, y]) xs ys)
  | .enum, [.fl xs] => some (penum 0 xs)
  | .enum, [.tup xs] => some (penum 0 xs)
  | .rev, [.fl xs] => some xs.reverse
  | .rev, [.tup xs] => some xs.reverse
  | _, _ => none
def psrc (k : IK) (as : PV) : Option (List PV) :=
  match as with
  | .tup ws => psrcL k ws
  | _ => none
theorem prng_eq : ∀ (n : Nat) (a : Int), prng n a = (List.range n).map fun i : Nat => PV.int (a + i)
  | 0, a => rfl
  | n + 1, a => by
    unfold prng
    rw [List.range_succ_eq_map, List.map_cons, List.map_map, prng_eq n (a + 1)]
    congr 1
    · simp
    · refine List.map_congr_left fun i _ => ?_
      simp only [Function.comp]
      congr 1
      omega
theorem penum_get : ∀ (xs : List PV) (j i : Nat), (penum j xs)[i]? = xs[i]?.map fun x => PV.tup [.int ((j + i : Nat) : Int), x]
  | [], _, _ => by simp [penum]
  | x :: xs, j, 0 => by simp [penum]
  | x :: xs, j, i + 1 => by
    unfold penum
    rw [List.getElem?_cons_succ, List.getElem?_cons_succ, penum_get xs (j + 1) i]
    have : j + 1 + i = j + (i + 1) := by omega
    rw [this]
theorem penum_len : ∀ (xs : List PV) (j : Nat), (penum j xs).length = xs.length
  | [], _ => rfl
  | x :: xs, j => by unfold penum; rw [List.length_cons, List.length_cons, penum_len xs]
end PI
end

section
set_option Elab.async false
set_option linter.all false
set_option maxRecDepth 100000
set_option maxHeartbeats 2000000
/-! the operations are right -/
namespace PI
open PySem PySem.Spec PyProof.Rows L2
/-- what the deck holds: its entries, told the place of its list of cells; the cells -/
structure Sg where
  kvs : Nat → List (Key × PV)
  cells : List Int
structure Hs (d c : Nat) (σ : Sg) (h : IHeap) : Prop where
  dk : h[d]? = some (.dic (σ.kvs c))
  cl : h[c]? = some (.lst (σ.cells.map .int))
  ne : c ≠ d
/-- a new list -/
def Fresh (d : Nat) (h0 h : IHeap) (A : Nat → Prop) (v w : PV) : Prop := ∃ i xs ws, v = .ref i ∧ w = .fl ws ∧ h0.length ≤ i ∧ h[i]? = some (.lst xs) ∧ Dens d h (fun n => A n ∨ n = i) xs ws
section
variable {d c : Nat} {h h' h1 : IHeap} {A : Nat → Prop} {σ : Sg} {v w va vb wa wb : PV}
theorem Fresh.den (q : Fresh d h h' A v w) (hA : ∀ j, A j → j < h.length) : Den d h' A v w := by
  obtain ⟨i, xs, ws, rfl, rfl, hi, e, r⟩ := q
  exact .lst (fun z => by have := hA i z; omega) e (r.move fun i x e n => ⟨e, fun z => n (.inl z)⟩)
theorem gr_move (g : Gr h h') : ∀ i c, h[i]? = some c → ¬ A i → h'[i]? = some c ∧ ¬ A i := fun _ _ e n => ⟨g.get e, n⟩
theorem Den.gr (r : Den d h A v w) (g : Gr h h') : Den d h' A v w := r.move (gr_move g)
theorem Dens.gr {xs ws : List PV} (r : Dens d h A xs ws) (g : Gr h h') : Dens d h' A xs ws := r.move (gr_move g)
theorem Fresh.new {xs ws : List PV} (r : Dens d h A xs ws) : Fresh d h (h ++ [.lst xs]) A (.ref h.length) (.fl ws) :=
  ⟨_, xs, ws, rfl, rfl, Nat.le_refl _, by simp, r.move fun i x e n => ⟨Gr.one.get e, fun z => z.elim n fun z => by have := (List.getElem?_eq_some_iff.mp e).1; omega⟩⟩
mutual
/-- no list within -/
def flat : PV → Bool
  | .tup xs => flats xs
  | .fl _ => false
  | .ref _ => false
  | _ => true
termination_by structural v => v
def flats : List PV → Bool
  | [] => true
  | x :: xs => flat x && flats xs
termination_by structural v => v
end
mutual
theorem Den.flat : ∀ {w : PV}, PI.flat w = true → Den d h A w w
  | .non, _ => .non
  | .bl b, _ => .bl b
  | .int i, _ => .int i
  | .str s, _ => .str s
  | .ty t, _ => .ty t
  | .tup xs, e => .tup (Dens.flat (by unfold PI.flat at e; exact e))
  | .fl _, e => by cases e
  | .ref _, e => by cases e
theorem Dens.flat : ∀ {w : List PV}, flats w = true → Dens d h A w w
  | [], _ => .nil
  | x :: xs, e => by
    unfold flats at e
    simp only [Bool.and_eq_true] at e
    exact .cons (Den.flat e.1) (Dens.flat e.2)
end
theorem Top.tup {ws : List PV} (r : Top d c h A v (.tup ws)) : ∃ xs, v = .tup xs ∧ Dens d h A xs ws := by
  cases r with
  | den r => cases r with
    | tup r => exact ⟨_, rfl, r⟩
theorem Top.fl {ws : List PV} (r : Top d c h A v (.fl ws)) : ∃ i xs, v = .ref i ∧ h[i]? = some (.lst xs) ∧ Dens d h A xs ws := by
  cases r with
  | den r => cases r with
    | lst _ e r => exact ⟨_, _, rfl, e, r⟩
  | lst _ e r => exact ⟨_, _, rfl, e, r⟩
theorem Top.int {i : Int} (r : Top d c h A v (.int i)) : v = .int i := by
  cases r with
  | den r => cases r; rfl
theorem Top.str {i : Str} (r : Top d c h A v (.str i)) : v = .str i := by
  cases r with
  | den r => cases r; rfl
theorem Top.bl {i : Bool} (r : Top d c h A v (.bl i)) : v = .bl i := by
  cases r with
  | den r => cases r; rfl
theorem Top.ty {i : String} (r : Top d c h A v (.ty i)) : v = .ty i := by
  cases r with
  | den r => cases r; rfl
theorem Top.non (r : Top d c h A v .non) : v = .non := by
  cases r with
  | den r => cases r; rfl
/-- what an operation gives -/
def Gives (d : Nat) (h : IHeap) (A : Nat → Prop) (r : Option (PV × IHeap)) (w : PV) : Prop :=
  ∃ v h', r = some (v, h') ∧ Gr h h' ∧ Den d h' A v w ∧ ∀ ws, w = .fl ws → Fresh d h h' A v w
theorem Gives.flat {r : Option (PV × IHeap)} (e : r = some (w, h)) (hf : PI.flat w = true) : Gives d h A r w :=
  ⟨w, h, e, .refl, .flat hf, fun ws z => by subst z; cases hf⟩
theorem Gives.tup {r : Option (PV × IHeap)} {xs ws : List PV} (e : r = some (.tup xs, h)) (q : Dens d h A xs ws) : Gives d h A r (.tup ws) :=
  ⟨_, h, e, .refl, .tup q, fun ws z => by cases z⟩
theorem Gives.new {r : Option (PV × IHeap)} {xs ws : List PV} (hA : ∀ j, A j → j < h.length) (e : r = some (newCell (.lst xs) h)) (q : Dens d h A xs ws) : Gives d h A r (.fl ws) :=
  ⟨_, _, e, .one, (Fresh.new q).den hA, fun ws z => by cases z; exact Fresh.new q⟩
theorem Gives.it {r : Option (PV × IHeap)} (e : r = some (v, h)) (q : Den d h A v w) (nf : ∀ ws, w ≠ .fl ws) : Gives d h A r w :=
  ⟨v, h, e, .refl, q, fun ws z => absurd z (nf ws)⟩
theorem if_some {p : Prop} [Decidable p] {α : Type} {x y : α} (e : (if p then some x else none) = some y) : p ∧ x = y := by
  by_cases hp : p
  · rw [if_pos hp] at e; exact ⟨hp, Option.some.inj e⟩
  · rw [if_neg hp] at e; cases e
theorem if_map {p : Prop} [Decidable p] {x : PV × IHeap} {y : PV} (e : (if p then some x else none).map (·.1) = some y) : p ∧ x.1 = y := by
  by_cases hp : p
  · rw [if_pos hp] at e; exact ⟨hp, Option.some.inj e⟩
  · rw [if_neg hp] at e; cases e
theorem bin_ok {op : Bop} (hA : ∀ j, A j → j < h.length) (ra : Top d c h A va wa) (rb : Top d c h A vb wb) (e : pbin op wa wb = some w) : Gives d h A (binop op va vb h) w := by
  unfold pbin at e
  split at e
  · obtain ⟨hp, rfl⟩ := if_some e
    obtain ⟨i, xs, rfl, ei, r1⟩ := ra.fl
    obtain ⟨j, ys, rfl, ej, r2⟩ := rb.fl
    refine .new hA (xs := xs ++ ys) ?_ (r1.append r2)
    simp only [binop, ei, ej]
    rw [if_pos (by rw [r1.length, r2.length]; exact hp)]
  · obtain ⟨hp, rfl⟩ := if_some e
    obtain ⟨i, xs, rfl, ei, r1⟩ := ra.fl
    have := rb.int
    subst this
    refine .new hA ?_ (r1.rep _)
    simp only [binop, ei]
    rw [if_pos (by rw [r1.length]; exact hp)]
  · unfold binop at e
    split at e
    · cases e; rw [ra.int, rb.int]; exact .flat rfl rfl
    · cases e; rw [ra.int, rb.int]; exact .flat rfl rfl
    · obtain ⟨hp, rfl⟩ := if_map e; rw [ra.int, rb.int]; exact .flat (by simp only [binop]; rw [if_pos hp]) rfl
    · rename_i i j _ _
      by_cases hp : j = 0
      · rw [if_pos hp] at e; cases e
      · rw [if_neg hp] at e; cases e; rw [ra.int, rb.int]; exact .flat (by simp only [binop]; rw [if_neg hp]) rfl
    · obtain ⟨hp, rfl⟩ := if_map e; rw [ra.int, rb.int]; exact .flat (by simp only [binop]; rw [if_pos hp]) rfl
    · obtain ⟨hp, rfl⟩ := if_map e; rw [ra.int, rb.int]; exact .flat (by simp only [binop]; rw [if_pos hp]) rfl
    · obtain ⟨hp, rfl⟩ := if_map e; rw [ra.int, rb.int]; exact .flat (by simp only [binop]; rw [if_pos hp]) rfl
    · obtain ⟨hp, rfl⟩ := if_map e; rw [ra.str, rb.str]; exact .flat (by simp only [binop]; rw [if_pos hp]) rfl
    · obtain ⟨hp, rfl⟩ := if_map e
      obtain ⟨xs, rfl, r1⟩ := ra.tup
      obtain ⟨ys, rfl, r2⟩ := rb.tup
      exact .tup (by simp only [binop]; rw [if_pos (by rw [r1.length, r2.length]; exact hp)]) (r1.append r2)
    · simp at e
    · obtain ⟨hp, rfl⟩ := if_map e
      obtain ⟨xs, rfl, r1⟩ := ra.tup
      have := rb.int
      subst this
      exact .tup (by simp only [binop]; rw [if_pos (by rw [r1.length]; exact hp)]) (r1.rep _)
    · simp at e
    · simp at e
theorem aug_ok {op : Bop} (ra : Top d c h A va wa) (rb : Top d c h A vb wb) (e : (augop op wa wb []).map (·.1) = some w) : Gives d h A (augop op va vb h) w := by
  unfold augop at e
  split at e
  · cases e; rw [ra.int, rb.int]; exact .flat rfl rfl
  · cases e; rw [ra.int, rb.int]; exact .flat rfl rfl
  · obtain ⟨hp, rfl⟩ := if_map e; rw [ra.int, rb.int]; exact .flat (by simp only [augop, binop]; rw [if_pos hp]) rfl
  · obtain ⟨hp, rfl⟩ := if_map e; rw [ra.int, rb.int]; exact .flat (by simp only [augop, binop]; rw [if_pos hp]) rfl
  · cases e
theorem truth_ok {b : Bool} (ra : Top d c h A v w) (e : truthy [] w = some b) : truthy h v = some b := by
  have emp : ∀ {xs ws : List PV}, Dens d h A xs ws → xs.isEmpty = ws.isEmpty := fun r => by cases r <;> rfl
  cases ra with
  | den r =>
    cases r with
    | dk => simp [truthy] at e
    | tup r => rw [← e]; show some (!_) = some (!_); rw [emp r]
    | lst n ei r => rw [← e]; simp only [truthy, ei]; rw [emp r]
    | _ => exact e
  | lst _ ei r => rw [← e]; simp only [truthy, ei]; rw [emp r]
theorem Hs.nol (s : Hs d c σ h) : ∀ xs, h[d]? ≠ some (.lst xs) := fun xs e => by rw [s.dk] at e; cases e
theorem eq_ok {b : Bool} (hs : ∀ xs, h[d]? ≠ some (.lst xs)) (ra : Top d c h A va wa) (rb : Top d c h A vb wb) (la : lv wa ≤ 5) (lb : lv wb ≤ 5) (e : eqop wa wb [] = some b) : eqop va vb h = some b := by
  have ea := ra.dat hs la
  have eb := rb.dat hs lb
  unfold eqop at e
  split at e
  · rw [ra.non, rb.non]; exact e
  · rw [ra.int, rb.int]; exact e
  · rw [ra.bl, rb.bl]; exact e
  · rw [ra.str, rb.str]; exact e
  · rename_i n1 n2 n3 n4
    rw [← ea, ← eb] at e
    cases ra with
    | den ra => cases ra <;> cases rb with
      | den rb => cases rb <;> first | exact e | exact (n1 rfl rfl).elim | exact (n2 _ _ rfl rfl).elim | exact (n3 _ _ rfl rfl).elim | exact (n4 _ _ rfl rfl).elim
      | lst _ _ _ => exact e
    | lst _ _ _ => cases rb with
      | den rb => cases rb <;> exact e
      | lst _ _ _ => exact e
theorem pany_ok {ws xs : List PV} {i : Nat} {b : Bool} (hs : ∀ xs, h[d]? ≠ some (.lst xs)) (ra : Top d c h A va wa) (ei : h[i]? = some (.lst xs)) (rb : Dens d h A xs ws) (la : lv wa ≤ 5) (lb : lvs ws ≤ 4) (e : pany wa ws = some b) :
    cmpop .isin va (.ref i) h = some b ∧ cmpop .notin va (.ref i) h = some (!b) := by
  have ea := ra.dat hs la
  have eb := dat_lst hs ei rb lb
  unfold pany at e
  rw [← ea, ← eb] at e
  constructor
  · simp only [cmpop, ei]
    exact e
  · simp only [cmpop, ei]
    split at e
    · rename_i dd ds h1 h2
      obtain ⟨hp, rfl⟩ := if_some e
      try simp only [h1, h2]
      rw [if_pos hp]
    · cases e
theorem flat_same {x : V} (r : Den d h A v w) (e : flatP w = some x) : flatP v = some x := by
  cases r <;> first | exact e | (cases e; done)
theorem flats_same : ∀ {vs ws : List PV} {xs : List V}, Dens d h A vs ws → flatsP ws = some xs → flatsP vs = some xs
  | _, _, _, .nil, e => e
  | _, w :: ws, xs, .cons r rs, e => by
    unfold flatsP at e ⊢
    split at e
    · rename_i y ys h1 h2
      rw [flat_same r h1, flats_same rs h2]
      exact e
    · cases e
theorem inTup_same {ws : List PV} {xs : List PV} {b : Bool} (ra : Top d c h A va wa) (rb : Dens d h A xs ws) (e : inTup wa ws = some b) : inTup va xs = some b := by
  unfold inTup at e ⊢
  split at e
  · rename_i x ys h1 h2
    have : flatP va = some x := by
      cases ra with
      | den r => exact flat_same r h1
      | lst _ _ _ => cases h1
    rw [this, flats_same rb h2]
    exact e
  · cases e
theorem cmp_ok {op : Cop} {b : Bool} (hs : ∀ xs, h[d]? ≠ some (.lst xs)) (ra : Top d c h A va wa) (rb : Top d c h A vb wb) (e : pcmp op wa wb = some b) : cmpop op va vb h = some b := by
  unfold pcmp at e
  split at e
  · rename_i ys
    obtain ⟨i, xs, rfl, ei, r⟩ := rb.fl
    by_cases hp : lv wa ≤ 5 ∧ lvs ys ≤ 4
    · rw [if_pos hp] at e; exact (pany_ok hs ra ei r hp.1 hp.2 e).1
    · rw [if_neg hp] at e; cases e
  · rename_i ys
    obtain ⟨i, xs, rfl, ei, r⟩ := rb.fl
    by_cases hp : lv wa ≤ 5 ∧ lvs ys ≤ 4
    · rw [if_pos hp] at e
      cases hb : pany wa ys with
      | none => rw [hb] at e; cases e
      | some b' => rw [hb] at e; cases e; exact (pany_ok hs ra ei r hp.1 hp.2 hb).2
    · rw [if_neg hp] at e; cases e
  · obtain ⟨xs, rfl, r⟩ := rb.tup
    exact inTup_same ra r e
  · obtain ⟨xs, rfl, r⟩ := rb.tup
    obtain ⟨z, e1, e2⟩ := Option.map_eq_some_iff.mp e
    show (inTup va xs).map (! ·) = _
    rw [inTup_same ra r e1, ← e2]
    rfl
  · cases e
  · cases e
  · rename_i m1 m2 m3 m4
    by_cases hp : lv wa ≤ 5 ∧ lv wb ≤ 5
    · rw [if_pos hp] at e
      cases op with
      | eq => exact eq_ok hs ra rb hp.1 hp.2 e
      | ne =>
        have e' : (eqop wa wb []).map (! ·) = some b := e
        cases hb : eqop wa wb [] with
        | none => rw [hb] at e'; cases e'
        | some b' => rw [hb] at e'; cases e'; show (eqop va vb h).map (! ·) = _; rw [eq_ok hs ra rb hp.1 hp.2 hb]; rfl
      | isin => simp_all
      | notin => simp_all
      | lt => simp only [cmpop] at e; split at e <;> first | (cases e; done) | (rw [ra.int, rb.int]; exact e)
      | le => simp only [cmpop] at e; split at e <;> first | (cases e; done) | (rw [ra.int, rb.int]; exact e)
      | gt => simp only [cmpop] at e; split at e <;> first | (cases e; done) | (rw [ra.int, rb.int]; exact e)
      | ge => simp only [cmpop] at e; split at e <;> first | (cases e; done) | (rw [ra.int, rb.int]; exact e)
      | is_ =>
        simp only [cmpop] at e
        split at e
        · rw [rb.non]
          cases ra with
          | den r => cases r <;> exact e
          | lst _ _ _ => exact e
        · split at e
          · rw [rb.bl, ra.bl]; exact e
          · cases e
        · cases e
      | isnot =>
        simp only [cmpop] at e
        split at e
        · rw [rb.non]
          cases ra with
          | den r => cases r <;> exact e
          | lst _ _ _ => exact e
        · split at e
          · rw [rb.bl, ra.bl]; exact e
          · cases e
        · cases e
    · rw [if_neg hp] at e; cases e

theorem Dens.one {w : PV} {xs : List PV} (r : Dens d h A xs [w]) : ∃ x, xs = [x] ∧ Den d h A x w := by
  cases r with
  | cons r rs => cases rs; exact ⟨_, rfl, r⟩
/-- one after the other, lists anywhere -/
inductive Tops (d c : Nat) (h : IHeap) (A : Nat → Prop) : List PV → List PV → Prop
  | nil : Tops d c h A [] []
  | cons {x w xs ws} : Top d c h A x w → Tops d c h A xs ws → Tops d c h A (x :: xs) (w :: ws)
theorem Tops.one {w : PV} {xs : List PV} (r : Tops d c h A xs [w]) : ∃ x, xs = [x] ∧ Top d c h A x w := by
  cases r with
  | cons r rs => cases rs; exact ⟨_, rfl, r⟩
theorem Tops.two {w u : PV} {xs : List PV} (r : Tops d c h A xs [w, u]) : ∃ x y, xs = [x, y] ∧ Top d c h A x w ∧ Top d c h A y u := by
  cases r with
  | cons r rs => obtain ⟨y, rfl, q⟩ := rs.one; exact ⟨_, _, rfl, r, q⟩
theorem ty_ok {t : String} (ra : Top d c h A va wa) (e : tyOf [] wa = some t) : tyOf h va = some t := by
  cases ra with
  | den r =>
    cases r with
    | lst _ ei _ => cases e; simp [tyOf, ei]
    | dk => simp [tyOf] at e
    | _ => exact e
  | lst _ ei _ => cases e; simp [tyOf, ei]
theorem blt_ok {b : Blt} {vs ws : List PV} (hA : ∀ j, A j → j < h.length) (hs : ∀ xs, h[d]? ≠ some (.lst xs)) (r : Tops d c h A vs ws) (e : pblt b ws = some w) : Gives d h A (bltop b vs h) w := by
  unfold pblt at e
  split at e
  · cases e
    obtain ⟨x, rfl, q⟩ := r.one
    obtain ⟨xs, rfl, qq⟩ := q.tup
    exact .new hA rfl qq
  · cases e
    obtain ⟨x, rfl, q⟩ := r.one
    obtain ⟨i, xs, rfl, ei, qq⟩ := q.fl
    exact .new hA (by simp only [bltop, ei]) qq
  · rename_i ws
    obtain ⟨x, rfl, q⟩ := r.one
    obtain ⟨i, xs, rfl, ei, qq⟩ := q.fl
    cases en : intsOf ws with
    | none => rw [en] at e; cases e
    | some ns =>
      rw [en] at e
      cases e
      rw [qq.ints_of en] at ei
      exact .flat (by simp only [bltop, ei, intsOf_map]; rfl) rfl
  · rename_i ws
    obtain ⟨x, rfl, q⟩ := r.one
    obtain ⟨i, xs, rfl, ei, qq⟩ := q.fl
    cases en : intsOf ws with
    | none => rw [en] at e; cases e
    | some ns =>
      rw [en] at e
      cases e
      rw [qq.ints_of en] at ei
      show Gives _ _ _ _ (.fl ((isort ns).map .int))
      rw [isort_eq]
      exact .new hA (by simp only [bltop, ei, intsOf_map]; rfl) (.ints _)
  · rename_i v0
    obtain ⟨x, rfl, q⟩ := r.one
    by_cases hp : lv v0 ≤ 5
    · rw [if_pos hp] at e
      have ed := q.dat hs hp
      simp only [bltop] at e
      split at e
      · rename_i dd h1
        obtain ⟨hq, rfl⟩ := if_map e
        refine .flat ?_ rfl
        simp only [bltop]
        rw [ed, h1]
        simp only
        rw [if_pos hq]
      · cases e
    · rw [if_neg hp] at e; cases e
  · cases e
  · cases e
  · cases e
  · unfold bltop at e
    split at e
    · obtain ⟨x, rfl, q⟩ := r.one
      obtain ⟨hp, rfl⟩ := if_map e
      rw [q.str]
      exact .flat (by simp only [bltop]; rw [if_pos hp]) rfl
    · simp at e
    · cases e
      obtain ⟨x, rfl, q⟩ := r.one
      obtain ⟨xs, rfl, qq⟩ := q.tup
      exact .flat (by simp only [bltop]; rw [qq.length]) rfl
    · cases e
      obtain ⟨x, rfl, q⟩ := r.one
      obtain ⟨i, xs, rfl, ei, qq⟩ := q.fl
      exact .flat (by simp only [bltop, ei]; rw [qq.length]) rfl
    · cases e
      obtain ⟨x, rfl, q⟩ := r.one
      rw [q.int]
      exact .flat rfl rfl
    · cases e
      obtain ⟨x, rfl, q⟩ := r.one
      rw [q.bl]
      exact .flat rfl rfl
    · cases e
      obtain ⟨x, rfl, q⟩ := r.one
      rw [q.int]
      exact .flat rfl rfl
    · cases e
      obtain ⟨x, rfl, q⟩ := r.one
      obtain ⟨xs, rfl, qq⟩ := q.tup
      exact .tup rfl qq
    · cases e
      obtain ⟨x, rfl, q⟩ := r.one
      obtain ⟨i, xs, rfl, ei, qq⟩ := q.fl
      exact .tup (by simp only [bltop, ei]) qq
    · simp at e
    · exfalso; simp_all
    · exfalso; simp_all
    · exfalso; simp_all
    · exfalso; simp_all
    · cases e
      obtain ⟨x, y, rfl, q1, q2⟩ := r.two
      rw [q1.int, q2.int]
      exact .flat rfl rfl
    · cases e
      obtain ⟨x, y, rfl, q1, q2⟩ := r.two
      rw [q1.int, q2.int]
      exact .flat rfl rfl
    · obtain ⟨hp, rfl⟩ := if_map e
      obtain ⟨x, y, rfl, q1, q2⟩ := r.two
      rw [q1.int, q2.int]
      exact .flat (by simp only [bltop]; rw [if_pos hp]) rfl
    · exfalso; simp_all
    · rename_i v0 T _ _ _ _ _ _ _ _
      obtain ⟨x, y, rfl, q1, q2⟩ := r.two
      cases et : tyOf [] v0 with
      | none => rw [et] at e; cases e
      | some t =>
        rw [et] at e
        obtain ⟨hp, rfl⟩ := if_map e
        refine .flat ?_ rfl
        rw [q2.ty]
        simp only [bltop, ty_ok q1 et]
        rw [if_pos hp]
    · exfalso; simp_all
    · cases e
theorem sts_ok {b : Bool} (hA : ∀ j, A j → j < h.length) (ra : Top d c h A v wa) (e : psts b wa = some w) : Gives d h A (stsop b v h) w := by
  unfold psts at e
  split at e
  · rename_i ws
    obtain ⟨i, xs, rfl, ei, q⟩ := ra.fl
    cases en : intsOf ws with
    | none => rw [en] at e; cases e
    | some ns =>
      rw [en] at e
      simp only [Option.bind_some] at e
      rw [q.ints_of en] at ei
      by_cases hl : ns.length < 60
      · rw [if_pos hl] at e
        cases b with
        | true =>
          simp only [if_true] at e
          cases e
          rw [isort_eq]
          refine .new hA ?_ (.ints _)
          simp only [stsop, ei, intsOf_map, Option.bind_some]
          rw [if_pos hl, if_pos trivial]
          rfl
        | false =>
          simp only [Bool.false_eq_true, if_false] at e
          cases e
          refine .flat ?_ rfl
          simp only [stsop, ei, intsOf_map, Option.bind_some]
          rw [if_pos hl]
          simp
      · rw [if_neg hl] at e; cases e
  · cases e
theorem slc_ok {lo hi : Option Int} (hA : ∀ j, A j → j < h.length) (ra : Top d c h A v wa) (e : pslc wa lo hi = some w) : Gives d h A (slcop v lo hi h) w := by
  unfold pslc at e
  split at e
  · cases e
    obtain ⟨xs, rfl, q⟩ := ra.tup
    exact .tup rfl q.cut
  · cases e
    obtain ⟨i, xs, rfl, ei, q⟩ := ra.fl
    exact .new hA (by simp only [slcop, ei]) q.cut
  · cases e
theorem idx_ok (ra : Top d c h A va wa) (rb : Top d c h A vb wb) (e : idxop wa wb [] = some w) : ∃ v, idxop va vb h = some v ∧ Den d h A v w := by
  have at_ : ∀ {xs ws : List PV} {k : Int}, Dens d h A xs ws → getAt ws k = some w → ∃ v, getAt xs k = some v ∧ Den d h A v w := fun r e => by
    unfold getAt at e ⊢
    rw [r.length]
    cases hn : ixNat _ _ with
    | none => rw [hn] at e; cases e
    | some n => rw [hn] at e; exact r.get e
  unfold idxop at e
  split at e
  · split at e
    · rw [rb.int]
      obtain ⟨xs, rfl, q⟩ := ra.tup
      exact at_ q e
    · cases e
  · split at e
    · rw [rb.int]
      obtain ⟨i, xs, rfl, ei, q⟩ := ra.fl
      simp only [idxop, ei]
      exact at_ q e
    · cases e
  · simp at e
  · cases e
end
end PI
end

section
set_option Elab.async false
set_option linter.all false
set_option maxRecDepth 100000
set_option maxHeartbeats 2000000
/-! expressions over values -/
namespace PI
open PySem PySem.Spec PyProof.Rows L2
abbrev FP := Nat → List PV → Sg → Option (PV × Sg)
/-- a walk over what is told -/
def walkP {α β : Type} (step : PV → α → Sg → Option (Sum α β × Sg)) : List PV → α → Sg → Option (Sum α β × Sg)
  | [], a, σ => some (.inl a, σ)
  | x :: xs, a, σ => match step x a σ with
    | none => none
    | some (.inl a', σ') => walkP step xs a' σ'
    | some (.inr b, σ') => some (.inr b, σ')
def pgend (c : GC) (r : Sum (List PV) Bool) : Option PV :=
  match c, r with
  | .sum, .inl [.int i] => some (.int i)
  | .sum, _ => none
  | c, r => genEnd c r
def pgen (c : GC) (v : PV) (acc : List PV) : Option (Sum (List PV) Bool) := (genStep c v acc []).map (·.1)
def fe (F : FP) : IE → Env' → Sg → Option (PV × Sg)
  | .var i, ρ, σ => match ρ[i]? with
    | some (some v) => some (v, σ)
    | _ => none
  | .con v, _, σ => if flat v = true then some (v, σ) else none
  | .bin op a b, ρ, σ => (fe F a ρ σ).bind fun p => (fe F b ρ p.2).bind fun q => (pbin op p.1 q.1).bind fun v => some (v, q.2)
  | .cmp op a b, ρ, σ => (fe F a ρ σ).bind fun p => (fe F b ρ p.2).bind fun q => (pcmp op p.1 q.1).bind fun r => some (.bl r, q.2)
  | .chain o1 o2 a b c, ρ, σ => (fe F a ρ σ).bind fun p => (fe F b ρ p.2).bind fun q => (pcmp o1 p.1 q.1).bind fun r =>
    if r = true then (fe F c ρ q.2).bind fun u => (pcmp o2 q.1 u.1).bind fun r' => some (.bl r', u.2) else some (.bl false, q.2)
  | .not a, ρ, σ => (fe F a ρ σ).bind fun p => (truthy [] p.1).bind fun r => some (.bl (!r), p.2)
  | .neg a, ρ, σ => (fe F a ρ σ).bind fun p => match p.1 with
    | .int i => some (.int (-i), p.2)
    | _ => none
  | .and a b, ρ, σ => (fe F a ρ σ).bind fun p => (truthy [] p.1).bind fun r => if r = true then fe F b ρ p.2 else some (p.1, p.2)
  | .or a b, ρ, σ => (fe F a ρ σ).bind fun p => (truthy [] p.1).bind fun r => if r = true then some (p.1, p.2) else fe F b ρ p.2
  | .ife c a b, ρ, σ => (fe F c ρ σ).bind fun p => (truthy [] p.1).bind fun r => if r = true then fe F a ρ p.2 else fe F b ρ p.2
  | .nil, _, σ => some (.tup [], σ)
  | .cons a as, ρ, σ => (fe F a ρ σ).bind fun p => (fe F as ρ p.2).bind fun q => match q.1 with
    | .tup ys => some (.tup (p.1 :: ys), q.2)
    | _ => none
  | .tup as, ρ, σ => (fe F as ρ σ).bind fun p => match p.1 with
    | .tup ys => if ys.length ≤ sizeLine then some (.tup ys, p.2) else none
    | _ => none
  | .lst as, ρ, σ => (fe F as ρ σ).bind fun p => match p.1 with
    | .tup ys => if ys.length ≤ sizeLine then some (.fl ys, p.2) else none
    | _ => none
  | .idx a i, ρ, σ => (fe F a ρ σ).bind fun p => (fe F i ρ p.2).bind fun q => (idxop p.1 q.1 []).bind fun r => some (r, q.2)
  | .slc l r a lo hi, ρ, σ => (fe F a ρ σ).bind fun p => ((if l = true then (fe F lo ρ p.2).bind fun z => match z.1 with
      | .int i => some (some i, z.2)
      | _ => none
    else some (none, p.2)) : Option (Option Int × Sg)).bind fun q => ((if r = true then (fe F hi ρ q.2).bind fun z => match z.1 with
      | .int i => some (some i, z.2)
      | _ => none
    else some (none, q.2)) : Option (Option Int × Sg)).bind fun u => (pslc p.1 q.1 u.1).bind fun v => some (v, u.2)
  | .rev a, ρ, σ => (fe F a ρ σ).bind fun p => (prev p.1).bind fun v => some (v, p.2)
  | .call f as, ρ, σ => (fe F as ρ σ).bind fun p => match p.1 with
    | .tup ys => F f ys p.2
    | _ => none
  | .callK f perm as bs, ρ, σ => (fe F as ρ σ).bind fun p => (fe F bs ρ p.2).bind fun q => match p.1, q.1 with
    | .tup ys, .tup zs => F f (pm perm (ys ++ zs)) q.2
    | _, _ => none
  | .blt b as, ρ, σ => (fe F as ρ σ).bind fun p => match p.1 with
    | .tup ys => (pblt b ys).bind fun v => some (v, p.2)
    | _ => none
  | .sts b a, ρ, σ => (fe F a ρ σ).bind fun p => (psts b p.1).bind fun v => some (v, p.2)
  | .lc vs tg k src ifs elt, ρ, σ => (fe F src ρ σ).bind fun p => (psrc k p.1).bind fun xs =>
    (walkP (α := List PV) (β := Unit) (fun x acc σ => (assignT tg x (wipeE ρ vs)).bind fun ρ1 => (fe F ifs ρ1 σ).bind fun q => (truthy [] q.1).bind fun b =>
      if b = true then (fe F elt ρ1 q.2).bind fun u => if acc.length < sizeLine then some (.inl (acc ++ [u.1]), u.2) else none else some (.inl acc, q.2)) xs [] p.2).bind fun r => match r.1 with
      | .inl acc => some (.fl acc, r.2)
      | .inr _ => none
  | .gen c vs tg k src ifs elt, ρ, σ => (fe F src ρ σ).bind fun p => (psrc k p.1).bind fun xs =>
    (walkP (α := List PV) (β := Bool) (fun x acc σ => (assignT tg x (wipeE ρ vs)).bind fun ρ1 => (fe F ifs ρ1 σ).bind fun q => (truthy [] q.1).bind fun b =>
      if b = true then (fe F elt ρ1 q.2).bind fun u => (pgen c u.1 acc).bind fun s => some (s, u.2) else some (.inl acc, q.2)) xs (genInit c) p.2).bind fun r => (pgend c r.1).bind fun v => some (v, r.2)
  | .dic _ _, _, _ => none
  | .mth _ _ _, _, _ => none
def lcP (F : FP) (ρ : Env') (vs : List Nat) (tg : Tg) (ifs elt : IE) : PV → List PV → Sg → Option (Sum (List PV) Unit × Sg) := fun x acc σ =>
  (assignT tg x (wipeE ρ vs)).bind fun ρ1 => (fe F ifs ρ1 σ).bind fun q => (truthy [] q.1).bind fun b =>
    if b = true then (fe F elt ρ1 q.2).bind fun u => if acc.length < sizeLine then some (.inl (acc ++ [u.1]), u.2) else none else some (.inl acc, q.2)
theorem fe_lc {F : FP} {vs : List Nat} {tg : Tg} {k : IK} {src ifs elt : IE} {ρ : Env'} {σ : Sg} : fe F (.lc vs tg k src ifs elt) ρ σ = (fe F src ρ σ).bind fun p => (psrc k p.1).bind fun xs =>
    (walkP (lcP F ρ vs tg ifs elt) xs [] p.2).bind fun r => match r.1 with
      | .inl acc => some (.fl acc, r.2)
      | .inr _ => none := rfl
def genP (F : FP) (c : GC) (ρ : Env') (vs : List Nat) (tg : Tg) (ifs elt : IE) : PV → List PV → Sg → Option (Sum (List PV) Bool × Sg) := fun x acc σ =>
  (assignT tg x (wipeE ρ vs)).bind fun ρ1 => (fe F ifs ρ1 σ).bind fun q => (truthy [] q.1).bind fun b =>
    if b = true then (fe F elt ρ1 q.2).bind fun u => (pgen c u.1 acc).bind fun s => some (s, u.2) else some (.inl acc, q.2)
theorem fe_gen {F : FP} {c : GC} {vs : List Nat} {tg : Tg} {k : IK} {src ifs elt : IE} {ρ : Env'} {σ : Sg} : fe F (.gen c vs tg k src ifs elt) ρ σ = (fe F src ρ σ).bind fun p => (psrc k p.1).bind fun xs =>
    (walkP (genP F c ρ vs tg ifs elt) xs (genInit c) p.2).bind fun r => (pgend c r.1).bind fun v => some (v, r.2) := rfl
/-! ### what may be said where -/
inductive Md where
  | loose | strict | fresh
  deriving DecidableEq
def slots : Tg → List Nat
  | .nm i => [i]
  | .tp is => is
/-- it gives a list of its own -/
def isFresh : IE → Bool
  | .lst _ => true
  | .lc .. => true
  | .bin .add a b => isFresh a || isFresh b
  | .bin .mul a _ => isFresh a
  | .slc _ _ a _ _ => isFresh a
  | .rev _ => true
  | .sts true _ => true
  | .blt .list _ => true
  | .blt .sortedI _ => true
  | _ => false
def offO (O : List Nat) (l : List Nat) : Bool := l.all fun i => !O.contains i
mutual
def chk (O : List Nat) : IE → Md → Bool
  | .var i, m => m == .loose || (m == .strict && !O.contains i)
  | .con _, m => m != .fresh
  | .bin op a b, m => (m != .fresh || op == .add || op == .mul) && chk O a .loose && chk O b .loose
  | .cmp _ a b, m => m != .fresh && chk O a .loose && chk O b .loose
  | .chain _ _ a b c, m => m != .fresh && chk O a .loose && chk O b .loose && chk O c .loose
  | .not a, m => m != .fresh && chk O a .loose
  | .neg a, m => m != .fresh && chk O a .loose
  | .and a b, m => m != .fresh && chk O a .strict && chk O b .strict
  | .or a b, m => m != .fresh && chk O a .strict && chk O b .strict
  | .ife c a b, m => m != .fresh && chk O c .loose && chk O a .strict && chk O b .strict
  | .tup as, m => m != .fresh && chkL O as .strict
  | .lst as, _ => chkL O as .strict
  | .idx a i, m => m != .fresh && chk O a .loose && chk O i .loose
  | .slc l r a lo hi, _ => chk O a .loose && (!l || chk O lo .loose) && (!r || chk O hi .loose)
  | .rev a, _ => chk O a .loose
  | .call _ as, m => m != .fresh && chkL O as .strict
  | .callK _ _ as bs, m => m != .fresh && chkL O as .strict && chkL O bs .strict
  | .blt b as, m => (m != .fresh || b == .list || b == .sortedI) && chkL O as .loose
  | .sts b a, m => (m != .fresh || b) && chk O a .loose
  | .lc vs tg _ src ifs elt, _ => offO O vs && offO O (slots tg) && chkL O src .loose && chk O ifs .loose && chk O elt .strict
  | .gen _ vs tg _ src ifs elt, m => m != .fresh && offO O vs && offO O (slots tg) && chkL O src .loose && chk O ifs .loose && chk O elt .strict
  | .nil, _ => false
  | .cons _ _, _ => false
  | .dic _ _, _ => false
  | .mth _ _ _, _ => false
termination_by structural e => e
def chkL (O : List Nat) : IE → Md → Bool
  | .nil, _ => true
  | .cons a as, m => chk O a m && chkL O as m
  | _, _ => false
termination_by structural e => e
end
/-! ### what is kept -/
structure Inv' (d c : Nat) (A : Nat → Prop) (h : IHeap) : Prop where
  d : A d
  c : A c
  lt : ∀ j, A j → j < h.length
/-- the slots; those of O hold lists that stand at places of A -/
structure ER (d c : Nat) (h : IHeap) (A : Nat → Prop) (O : List Nat) (ρ ρp : Env') : Prop where
  len : ρ.length = ρp.length
  val : ∀ (s : Nat) (w : PV), ρp[s]? = some (some w) → ∃ v, ρ[s]? = some (some v) ∧ (if s ∈ O then Top d c h A v w else Den d h A v w)
def RM (d c : Nat) (m : Md) (h0 h : IHeap) (A : Nat → Prop) (v w : PV) : Prop :=
  match m with
  | .loose => Top d c h A v w
  | .strict => Den d h A v w
  | .fresh => Den d h A v w ∧ ∀ ws, w = .fl ws → Fresh d h0 h A v w
/-- F is as Fp tells -/
def Sound (d c : Nat) (F : Nat → List PV → IHeap → Option (PV × IHeap)) (Fp : FP) : Prop :=
  ∀ i ws σ w σ', Fp i ws σ = some (w, σ') → ∀ h A vs, Hs d c σ h → Inv' d c A h → Dens d h A vs ws → ∃ v h', F i vs h = some (v, h') ∧ Fr d c h h' ∧ Hs d c σ' h' ∧ Den d h' A v w
section
variable {d c : Nat} {h h' h1 h2 : IHeap} {A B : Nat → Prop} {O : List Nat} {ρ ρp : Env'} {v w : PV} {σ σ' : Sg}
theorem fr_move (g : Fr d c h h') (hd : A d) (hc : A c) : ∀ i x, h[i]? = some x → ¬ A i → h'[i]? = some x ∧ ¬ A i := fun i x e n =>
  ⟨by rw [g.eq i (List.getElem?_eq_some_iff.mp e).1 (fun z => n (z ▸ hd)) (fun z => n (z ▸ hc))]; exact e, n⟩
theorem Den.fr (r : Den d h A v w) (I : Inv' d c A h) (g : Fr d c h h') : Den d h' A v w := r.move (fr_move g I.d I.c)
theorem Dens.fr {xs ws : List PV} (r : Dens d h A xs ws) (I : Inv' d c A h) (g : Fr d c h h') : Dens d h' A xs ws := r.move (fr_move g I.d I.c)
theorem Top.fr (r : Top d c h A v w) (I : Inv' d c A h) (g : Fr d c h h') (s : Hs d c σ h) : Top d c h' A v w := by
  cases r with
  | den r => exact .den (r.fr I g)
  | lst hn e r =>
    refine .lst hn ?_ (r.fr I g)
    rw [g.eq _ (List.getElem?_eq_some_iff.mp e).1 (fun z => by rw [z, s.dk] at e; cases e) hn]
    exact e
theorem Inv'.fr (I : Inv' d c A h) (g : Fr d c h h') : Inv' d c A h' := ⟨I.d, I.c, fun j hj => Nat.lt_of_lt_of_le (I.lt j hj) g.len⟩
theorem Fr.id : Fr d c h h := ⟨Nat.le_refl _, fun _ _ _ _ => rfl⟩
theorem Fr.tr (a : Fr d c h h1) (b : Fr d c h1 h2) : Fr d c h h2 := ⟨Nat.le_trans a.len b.len, fun i hi q1 q2 => (b.eq i (Nat.lt_of_lt_of_le hi a.len) q1 q2).trans (a.eq i hi q1 q2)⟩
theorem Gr.fr (a : Gr h h1) : Fr d c h h1 := by
  obtain ⟨g, rfl⟩ := a
  exact ⟨by simp, fun i hi _ _ => List.getElem?_append_left hi⟩
theorem Hs.gr (s : Hs d c σ h) (g : Gr h h') : Hs d c σ h' := ⟨g.get s.dk, g.get s.cl, s.ne⟩
end
end PI
end

section
set_option Elab.async false
set_option linter.all false
set_option maxRecDepth 100000
set_option maxHeartbeats 4000000
/-! expressions over values are right -/
namespace PI
open PySem PySem.Spec PyProof.Rows L2
section
variable {d c : Nat} {h h' h1 h2 : IHeap} {A B : Nat → Prop} {O : List Nat} {ρ ρp : Env'} {v w : PV} {σ σ' : Sg} {m : Md} {F : Nat → List PV → IHeap → Option (PV × IHeap)} {Fp : FP}
theorem ER.fr (E : ER d c h A O ρ ρp) (I : Inv' d c A h) (g : Fr d c h h') (s : Hs d c σ h) : ER d c h' A O ρ ρp :=
  ⟨E.len, fun k w e => by
    obtain ⟨v, ev, q⟩ := E.val k w e
    refine ⟨v, ev, ?_⟩
    split at q
    · rename_i hk; rw [if_pos hk]; exact q.fr I g s
    · rename_i hk; rw [if_neg hk]; exact q.fr I g⟩
theorem rm_den (hm : m ≠ .fresh) {h0 : IHeap} (r : Den d h A v w) : RM d c m h0 h A v w := by
  cases m with
  | loose => exact .den r
  | strict => exact r
  | fresh => exact absurd rfl hm
theorem rm_flat {h0 : IHeap} (hf : flat w = true) : RM d c m h0 h A w w := by
  cases m with
  | loose => exact .den (.flat hf)
  | strict => exact .flat hf
  | fresh => exact ⟨.flat hf, fun ws z => by subst z; cases hf⟩
theorem rm_gives {h0 : IHeap} {r : Option (PV × IHeap)} (q : Gives d h A r w) (hl : h0.length ≤ h.length) : ∃ v h', r = some (v, h') ∧ Gr h h' ∧ RM d c m h0 h' A v w := by
  obtain ⟨v, h', e, g, dn, f⟩ := q
  refine ⟨v, h', e, g, ?_⟩
  cases m with
  | loose => exact .den dn
  | strict => exact dn
  | fresh =>
    refine ⟨dn, fun ws z => ?_⟩
    obtain ⟨i, xs, us, e1, e2, e3, e4, e5⟩ := f ws z
    exact ⟨i, xs, us, e1, e2, Nat.le_trans hl e3, e4, e5⟩
theorem RM.top {h0 : IHeap} (r : RM d c m h0 h A v w) : Top d c h A v w := by
  cases m with
  | loose => exact r
  | strict => exact .den r
  | fresh => exact .den r.1
/-- what an expression comes to -/
def EvOk (d c : Nat) (F : Nat → List PV → IHeap → Option (PV × IHeap)) (e : IE) (m : Md) (ρ : Env') (h : IHeap) (A : Nat → Prop) (w : PV) (σ' : Sg) : Prop :=
  ∃ v h', ev F e ρ h = some (v, h') ∧ Fr d c h h' ∧ Hs d c σ' h' ∧ RM d c m h h' A v w
def Rels (d c : Nat) (m : Md) (h : IHeap) (A : Nat → Prop) (vs ws : List PV) : Prop := if m = .strict then Dens d h A vs ws else Tops d c h A vs ws
def OkE (d c : Nat) (O : List Nat) (F : Nat → List PV → IHeap → Option (PV × IHeap)) (Fp : FP) (e : IE) : Prop :=
  ∀ m ρ ρp σ w σ' h A, chk O e m = true → fe Fp e ρp σ = some (w, σ') → Hs d c σ h → Inv' d c A h → ER d c h A O ρ ρp → EvOk d c F e m ρ h A w σ'
def OkL (d c : Nat) (O : List Nat) (F : Nat → List PV → IHeap → Option (PV × IHeap)) (Fp : FP) (e : IE) : Prop :=
  ∀ m ρ ρp σ w σ' h A, m ≠ .fresh → chkL O e m = true → fe Fp e ρp σ = some (w, σ') → Hs d c σ h → Inv' d c A h → ER d c h A O ρ ρp →
    ∃ ws vs h', w = .tup ws ∧ ev F e ρ h = some (.tup vs, h') ∧ Fr d c h h' ∧ Hs d c σ' h' ∧ Rels d c m h' A vs ws
theorem Tops.fr {vs ws : List PV} (r : Tops d c h A vs ws) (I : Inv' d c A h) (g : Fr d c h h') (s : Hs d c σ h) : Tops d c h' A vs ws := by
  induction r with
  | nil => exact .nil
  | cons r rs ih => exact .cons (r.fr I g s) ih
theorem Rels.cons {x : PV} {vs ws : List PV} (hm : m ≠ .fresh) {h0 : IHeap} (r : RM d c m h0 h A x w) (rs : Rels d c m h A vs ws) : Rels d c m h A (x :: vs) (w :: ws) := by
  cases m with
  | loose => exact .cons r rs
  | strict => exact .cons r rs
  | fresh => exact absurd rfl hm
theorem Rels.nil : Rels d c m h A [] [] := by unfold Rels; split <;> constructor
theorem RM.fr (hm : m ≠ .fresh) {h0 : IHeap} (r : RM d c m h0 h A v w) (I : Inv' d c A h) (g : Fr d c h h') (s : Hs d c σ h) : RM d c m h0 h' A v w := by
  cases m with
  | loose => exact Top.fr r I g s
  | strict => exact Den.fr r I g
  | fresh => exact absurd rfl hm
theorem chk_nf {p : Bool} (h : (m != Md.fresh && p) = true) : m ≠ .fresh ∧ p = true := by
  simp only [Bool.and_eq_true, bne_iff_ne] at h
  exact h
/-! ### walks -/
def SrcAt (d : Nat) (s : Src) (h : IHeap) (A : Nat → Prop) (items : List PV) : Prop :=
  ∀ j, j ≤ items.length → match items[j]? with
    | some w => ∃ v, srcAt s h j = some (some v) ∧ Den d h A v w
    | none => srcAt s h j = some none
theorem dens_at {xs ws : List PV} (r : Dens d h A xs ws) (j : Nat) : match ws[j]? with | some w => ∃ v, xs[j]? = some v ∧ Den d h A v w | none => xs[j]? = none := by
  cases e : ws[j]? with
  | some w => exact r.get e
  | none =>
    have := List.getElem?_eq_none_iff.mp e
    exact List.getElem?_eq_none_iff.mpr (by rw [r.length]; exact this)
theorem src_of_dens {s : Src} {xs ws : List PV} (r : Dens d h A xs ws) (e : ∀ j, srcAt s h j = some xs[j]?) : SrcAt d s h A ws := fun j _ => by
  have q := dens_at r j
  rw [e j]
  split <;> rename_i e1
  · rw [e1] at q
    obtain ⟨v, e2, q⟩ := q
    exact ⟨v, by rw [e2], q⟩
  · rw [e1] at q
    simp only at q
    rw [q]
theorem Tops.two' {w u : PV} {xs : List PV} (r : Tops d c h A xs [w, u]) : ∃ x y, xs = [x, y] ∧ Top d c h A x w ∧ Top d c h A y u := r.two
theorem mv (mm : ∀ v w, Den d h A v w → Den d h' B v w) : ∀ {xs ws : List PV}, Dens d h A xs ws → Dens d h' B xs ws
  | _, _, .nil => .nil
  | _, _, .cons r rs => .cons (mm _ _ r) (mv mm rs)
/-- a source that stays -/
theorem psrc_ok {k : IK} {vs ws items : List PV} (N : Nat → Prop) (r : Tops d c h A vs ws) (hN : ∀ i xs, PV.ref i ∈ vs → h[i]? = some (.lst xs) → ¬ N i) (e : psrc k (.tup ws) = some items) :
    ∃ s, srcOf k (.tup vs) h = some s ∧ ∀ (h' : IHeap) (B : Nat → Prop), (∀ i x, h[i]? = some x → ¬ N i → h'[i]? = some x) → (∀ v w, Den d h A v w → Den d h' B v w) → items.length ≤ srcLen s h' ∧ SrcAt d s h' B items := by
  replace e : psrcL k ws = some items := e
  unfold psrcL at e
  split at e
  · cases e
    obtain ⟨x, rfl, q⟩ := r.one
    obtain ⟨xs, rfl, q2⟩ := q.tup
    exact ⟨.its xs, rfl, fun h' B k mm => ⟨by show _ ≤ xs.length; rw [q2.length]; exact Nat.le_refl _, src_of_dens (mv mm q2) fun _ => rfl⟩⟩
  · cases e
    obtain ⟨x, rfl, q⟩ := r.one
    obtain ⟨i, xs, rfl, ei, q2⟩ := q.fl
    refine ⟨.cell i, by simp only [srcOf, ei], fun h' B k mm => ?_⟩
    have ei' := k i _ ei (hN i xs (by simp) ei)
    exact ⟨by simp only [srcLen, ei']; rw [q2.length]; exact Nat.le_refl _, src_of_dens (mv mm q2) fun j => by simp only [srcAt, ei']⟩
  · rename_i n
    by_cases hp : fits62 n = true
    · rw [if_pos hp] at e
      cases e
      obtain ⟨x, rfl, q⟩ := r.one
      rw [q.int]
      refine ⟨_, by simp only [srcOf]; rw [if_pos hp], fun h' B k mm => ⟨by rw [prng_eq]; simp [srcLen], ?_⟩⟩
      have : prng n.toNat 0 = ((List.range n.toNat).map fun i : Nat => (0 : Int) + i).map PV.int := by rw [prng_eq, List.map_map]; rfl
      rw [this]
      exact src_of_dens (xs := ((List.range n.toNat).map fun i : Nat => (0 : Int) + i).map PV.int) (.ints _) fun j => by simp only [srcAt, List.map_map]; rfl
    · rw [if_neg hp] at e; cases e
  · rename_i a b
    by_cases hp : (fits62 a && fits62 b) = true
    · rw [if_pos hp] at e
      cases e
      obtain ⟨x, y, rfl, q1, q2⟩ := r.two
      rw [q1.int, q2.int]
      refine ⟨_, by simp only [srcOf]; rw [if_pos hp], fun h' B k mm => ⟨by rw [prng_eq]; simp [srcLen], ?_⟩⟩
      have : prng (b - a).toNat a = ((List.range (b - a).toNat).map fun i : Nat => a + i).map PV.int := by rw [prng_eq, List.map_map]; rfl
      rw [this]
      exact src_of_dens (xs := ((List.range (b - a).toNat).map fun i : Nat => a + i).map PV.int) (.ints _) fun j => by simp only [srcAt, List.map_map]; rfl
    · rw [if_neg hp] at e; cases e
  · cases e
    obtain ⟨x, y, rfl, q1, q2⟩ := r.two
    obtain ⟨xs, rfl, p1⟩ := q1.tup
    obtain ⟨ys, rfl, p2⟩ := q2.tup
    exact ⟨_, rfl, fun h' B k mm => ⟨by show _ ≤ (List.zipWith _ xs ys).length; rw [List.length_zipWith, List.length_zipWith, p1.length, p2.length]; exact Nat.le_refl _, src_of_dens ((mv mm p1).pairs (mv mm p2)) fun _ => rfl⟩⟩
  · cases e
    obtain ⟨x, y, rfl, q1, q2⟩ := r.two
    obtain ⟨i, xs, rfl, e1, p1⟩ := q1.fl
    obtain ⟨j, ys, rfl, e2, p2⟩ := q2.fl
    refine ⟨.zipc i j, by simp only [srcOf, e1, e2], fun h' B k mm => ?_⟩
    have e1' := k i _ e1 (hN i xs (by simp) e1)
    have e2' := k j _ e2 (hN j ys (by simp) e2)
    refine ⟨by simp only [srcLen, e1']; rw [List.length_zipWith, p1.length]; exact Nat.min_le_left _ _, src_of_dens ((mv mm p1).pairs (mv mm p2)) fun n => ?_⟩
    simp only [srcAt, e1', e2']
    rw [List.getElem?_zipWith]
    cases xs[n]? <;> cases ys[n]? <;> rfl
  · cases e
    obtain ⟨x, y, rfl, q1, q2⟩ := r.two
    obtain ⟨i, xs, rfl, e1, p1⟩ := q1.fl
    obtain ⟨ys, rfl, p2⟩ := q2.tup
    refine ⟨.zipm true i xs.length ys, by simp only [srcOf, e1], fun h' B k mm => ?_⟩
    have e1' := k i _ e1 (hN i xs (by simp) e1)
    refine ⟨by simp only [srcLen]; rw [List.length_zipWith, p1.length]; exact Nat.min_le_left _ _, fun n hn => ?_⟩
    rw [List.length_zipWith, ← p1.length, ← p2.length] at hn
    have hl : n ≤ xs.length ∧ n ≤ ys.length := by omega
    have q3 := dens_at ((mv mm p1).pairs (mv mm p2)) n
    rw [List.getElem?_zipWith (as := xs)] at q3
    simp only [srcAt, e1', if_true]
    split <;> rename_i e2
    · rw [e2] at q3
      obtain ⟨v, e3, q3⟩ := q3
      cases h1 : xs[n]? <;> cases h2 : ys[n]? <;> rw [h1, h2] at e3 <;> cases e3
      exact ⟨_, rfl, q3⟩
    · rw [e2] at q3
      cases h1 : xs[n]? <;> cases h2 : ys[n]? <;> rw [h1, h2] at q3 <;> first | (cases q3; done) | (simp only; rw [if_pos hl])
  · cases e
    obtain ⟨x, y, rfl, q1, q2⟩ := r.two
    obtain ⟨xs, rfl, p1⟩ := q1.tup
    obtain ⟨i, ys, rfl, e1, p2⟩ := q2.fl
    refine ⟨.zipm false i ys.length xs, by simp only [srcOf, e1], fun h' B k mm => ?_⟩
    have e1' := k i _ e1 (hN i ys (by simp) e1)
    refine ⟨by simp only [srcLen]; rw [List.length_zipWith, p2.length]; exact Nat.min_le_right _ _, fun n hn => ?_⟩
    rw [List.length_zipWith, ← p1.length, ← p2.length] at hn
    have hl : n ≤ ys.length ∧ n ≤ xs.length := by omega
    have q3 := dens_at ((mv mm p1).pairs (mv mm p2)) n
    rw [List.getElem?_zipWith (as := xs)] at q3
    simp only [srcAt, e1', Bool.false_eq_true, if_false, if_true]
    split <;> rename_i e2
    · rw [e2] at q3
      obtain ⟨v, e3, q3⟩ := q3
      cases h1 : xs[n]? <;> cases h2 : ys[n]? <;> rw [h1, h2] at e3 <;> cases e3
      exact ⟨_, rfl, q3⟩
    · rw [e2] at q3
      cases h1 : xs[n]? <;> cases h2 : ys[n]? <;> rw [h1, h2] at q3 <;> first | (cases q3; done) | (simp only; rw [if_pos hl])
  · cases e
    obtain ⟨x, rfl, q⟩ := r.one
    obtain ⟨i, xs, rfl, ei, q2⟩ := q.fl
    refine ⟨.enumc i, by simp only [srcOf, ei], fun h' B k mm => ?_⟩
    have ei' := k i _ ei (hN i xs (by simp) ei)
    refine ⟨by simp only [srcLen, ei']; rw [penum_len, q2.length]; exact Nat.le_refl _, fun j _ => ?_⟩
    have q3 := dens_at (mv mm q2) j
    rw [penum_get]
    simp only [srcAt, ei']
    split <;> rename_i e1
    · obtain ⟨y, e2, e3⟩ := Option.map_eq_some_iff.mp e1
      rw [e2] at q3
      obtain ⟨v, e4, q3⟩ := q3
      rw [e4, ← e3]
      exact ⟨_, rfl, .tup (.cons (by simp only [Nat.zero_add]; exact .int _) (.cons q3 .nil))⟩
    · have e2 := Option.map_eq_none_iff.mp e1
      rw [e2] at q3
      simp only at q3
      rw [q3]
      rfl
  · cases e
    obtain ⟨x, rfl, q⟩ := r.one
    obtain ⟨xs, rfl, q2⟩ := q.tup
    refine ⟨.enumt xs, rfl, fun h' B k mm => ?_⟩
    refine ⟨by show _ ≤ xs.length; rw [penum_len, q2.length]; exact Nat.le_refl _, fun j hj => ?_⟩
    rw [penum_len] at hj
    have q3 := dens_at (mv mm q2) j
    rw [penum_get]
    simp only [srcAt]
    split <;> rename_i e1
    · obtain ⟨y, e2, e3⟩ := Option.map_eq_some_iff.mp e1
      rw [e2] at q3
      obtain ⟨v, e4, q3⟩ := q3
      rw [e4, ← e3]
      exact ⟨_, rfl, .tup (.cons (by simp only [Nat.zero_add]; exact .int _) (.cons q3 .nil))⟩
    · have e2 := Option.map_eq_none_iff.mp e1
      rw [e2] at q3
      simp only at q3
      have := List.getElem?_eq_none_iff.mp e2
      rw [q3, if_pos (by rw [q2.length]; omega)]
  · cases e
    obtain ⟨x, rfl, q⟩ := r.one
    obtain ⟨i, xs, rfl, ei, q2⟩ := q.fl
    refine ⟨.revn i xs.length, by simp only [srcOf, ei], fun h' B k mm => ?_⟩
    have ei' := k i _ ei (hN i xs (by simp) ei)
    refine ⟨by show _ ≤ xs.length; rw [List.length_reverse, q2.length]; exact Nat.le_refl _, src_of_dens (mv mm q2).reverse fun j => ?_⟩
    simp only [srcAt, ei']
    by_cases hj : j < xs.length
    · rw [if_pos hj, List.getElem?_reverse hj, List.getElem?_eq_getElem (show xs.length - 1 - j < xs.length by omega)]
      rfl
    · rw [if_neg hj, List.getElem?_eq_none (by simp; omega)]
  · cases e
    obtain ⟨x, rfl, q⟩ := r.one
    obtain ⟨xs, rfl, q2⟩ := q.tup
    exact ⟨.its xs.reverse, rfl, fun h' B k mm => ⟨by show _ ≤ xs.reverse.length; rw [List.length_reverse, List.length_reverse, q2.length]; exact Nat.le_refl _, src_of_dens (mv mm q2).reverse fun _ => rfl⟩⟩
  · cases e
def SumR {α β α' β' : Type} (P : α → α' → Prop) (Q : β → β' → Prop) : Sum α β → Sum α' β' → Prop
  | .inl x, .inl y => P x y
  | .inr x, .inr y => Q x y
  | _, _ => False
theorem loop_sim {α β α' β' : Type} {s : Src} {items : List PV} {step : PV → α → IHeap → Option (Sum α β × IHeap)} {stepP : PV → α' → Sg → Option (Sum α' β' × Sg)} (R : α → IHeap → α' → Sg → Prop) (T : β → IHeap → β' → Sg → Prop) (AA : α → IHeap → Nat → Prop)
    (src : ∀ a h a' σ, R a h a' σ → SrcAt d s h (AA a h) items)
    (turn : ∀ a h a' σ v w r σ1, R a h a' σ → Den d h (AA a h) v w → w ∈ items → stepP w a' σ = some (r, σ1) → ∃ r' h1, step v a h = some (r', h1) ∧ SumR (fun x y => R x h1 y σ1) (fun x y => T x h1 y σ1) r' r) :
    ∀ (m j : Nat) (a : α) (h : IHeap) (a' : α') (σ : Sg) (r : Sum α' β') (σ1 : Sg), j ≤ items.length → items.length - j < m → R a h a' σ → walkP stepP (items.drop j) a' σ = some (r, σ1) →
      ∃ r' h1, loopN s step m j a h = some (r', h1) ∧ SumR (fun x y => R x h1 y σ1) (fun x y => T x h1 y σ1) r' r
  | 0, j, _, _, _, _, _, _, _, hm, _, _ => absurd hm (Nat.not_lt_zero _)
  | m + 1, j, a, h, a', σ, r, σ1, hj0, hm, hR, e => by
    have q := src a h a' σ hR j hj0
    unfold loopN
    by_cases hj : j < items.length
    · have ei := List.getElem?_eq_getElem hj
      rw [ei] at q
      simp only at q
      obtain ⟨v, es, dv⟩ := q
      rw [es]
      simp only
      rw [List.drop_eq_getElem_cons hj] at e
      unfold walkP at e
      split at e
      · cases e
      · rename_i a1 σ2 est
        obtain ⟨r', h1, e1, rel⟩ := turn a h a' σ v _ _ _ hR dv (List.getElem_mem hj) est
        rw [e1]
        cases r' with
        | inl x => exact loop_sim R T AA src turn m (j + 1) x h1 a1 σ2 r σ1 (by omega) (by omega) rel e
        | inr x => exact rel.elim
      · rename_i b1 σ2 est
        cases e
        obtain ⟨r', h1, e1, rel⟩ := turn a h a' σ v _ _ _ hR dv (List.getElem_mem hj) est
        rw [e1]
        cases r' with
        | inl x => exact rel.elim
        | inr x => exact ⟨.inr x, h1, rfl, rel⟩
    · have ei : items[j]? = none := List.getElem?_eq_none (by omega)
      rw [ei] at q
      simp only at q
      rw [q]
      simp only
      rw [List.drop_eq_nil_of_le (by omega)] at e
      cases e
      exact ⟨.inl a, h, rfl, hR⟩
end
end PI
end

section
set_option Elab.async false
set_option linter.all false
set_option maxRecDepth 100000
set_option maxHeartbeats 8000000
namespace PI
open PySem PySem.Spec PyProof.Rows L2
section
variable {d c : Nat} {h h' h1 h2 : IHeap} {A B : Nat → Prop} {O : List Nat} {ρ ρp : Env'} {v w : PV} {σ σ' : Sg} {m : Md} {F : Nat → List PV → IHeap → Option (PV × IHeap)} {Fp : FP}
theorem off_mem {l : List Nat} (q : offO O l = true) {i : Nat} (hi : i ∈ l) : i ∉ O := by
  have := List.all_eq_true.mp q i hi
  simpa using this
theorem ER.set (E : ER d c h A O ρ ρp) {i : Nat} (hi : i ∉ O) (r : Den d h A v w) : ER d c h A O (ρ.set i (some v)) (ρp.set i (some w)) := by
  refine ⟨by simpa using E.len, fun s u e => ?_⟩
  by_cases hs : s = i
  · subst hs
    have hl : s < ρp.length := by
      by_cases hl : s < ρp.length
      · exact hl
      · rw [List.getElem?_eq_none (by simpa using hl)] at e; cases e
    rw [List.getElem?_set_self hl] at e
    cases e
    exact ⟨v, List.getElem?_set_self (by rw [E.len]; exact hl), by rw [if_neg hi]; exact r⟩
  · rw [List.getElem?_set_ne (Ne.symm hs)] at e ⊢
    exact E.val s u e
theorem ER.setN (E : ER d c h A O ρ ρp) (i : Nat) : ER d c h A O (ρ.set i none) (ρp.set i none) := by
  refine ⟨by simpa using E.len, fun s u e => ?_⟩
  by_cases hs : s = i
  · subst hs
    by_cases hl : s < ρp.length
    · rw [List.getElem?_set_self hl] at e; cases e
    · rw [List.getElem?_eq_none (by simpa using hl)] at e; cases e
  · rw [List.getElem?_set_ne (Ne.symm hs)] at e ⊢
    exact E.val s u e
theorem ER.wipe (E : ER d c h A O ρ ρp) : ∀ vs : List Nat, ER d c h A O (wipeE ρ vs) (wipeE ρp vs)
  | [] => E
  | v :: vs => by unfold wipeE; exact (ER.wipe E vs).setN v
theorem setAll_ok : ∀ {is : List Nat} {xs ws : List PV} {ρ ρp ρp' : Env'}, ER d c h A O ρ ρp → Dens d h A xs ws → offO O is = true → setAll is ws ρp = some ρp' → ∃ ρ', setAll is xs ρ = some ρ' ∧ ER d c h A O ρ' ρp'
  | [], _, _, ρ, _, _, E, .nil, _, e => by cases e; exact ⟨ρ, rfl, E⟩
  | [], _, _, _, _, _, _, .cons _ _, _, e => by cases e
  | _ :: _, _, _, _, _, _, _, .nil, _, e => by cases e
  | i :: is, _ :: _, _ :: _, _, _, _, E, .cons r rs, o, e => by
    have o1 := off_mem o (i := i) (by simp)
    have o2 : offO O is = true := by unfold offO at o ⊢; rw [List.all_cons] at o; simp only [Bool.and_eq_true] at o; exact o.2
    have q := setAll_ok (E.set o1 r) rs o2 e
    exact q
theorem asg_ok {t : Tg} {ρp' : Env'} (E : ER d c h A O ρ ρp) (r : Den d h A v w) (o : offO O (slots t) = true) (e : assignT t w ρp = some ρp') : ∃ ρ', assignT t v ρ = some ρ' ∧ ER d c h A O ρ' ρp' := by
  cases t with
  | nm i => cases e; exact ⟨_, rfl, E.set (off_mem o (by simp [slots])) r⟩
  | tp is =>
    cases r with
    | tup r => exact setAll_ok E r o e
    | _ => cases e
theorem ER.mv (E : ER d c h A O ρ ρp) (mm : ∀ v w, Den d h A v w → Den d h' B v w) (mt : ∀ v w, Top d c h A v w → Top d c h' B v w) : ER d c h' B O ρ ρp :=
  ⟨E.len, fun s w e => by
    obtain ⟨v, ev, q⟩ := E.val s w e
    refine ⟨v, ev, ?_⟩
    split at q
    · rename_i hk; rw [if_pos hk]; exact mt _ _ q
    · rename_i hk; rw [if_neg hk]; exact mm _ _ q⟩
theorem Tops.ref {vs ws : List PV} (r : Tops d c h A vs ws) (I : Inv' d c A h) (s : Hs d c σ h) {i : Nat} {xs : List PV} (hi : PV.ref i ∈ vs) (e : h[i]? = some (.lst xs)) : ¬ (i = d ∨ i = c) := by
  rintro (z | z)
  · rw [z, s.dk] at e; cases e
  · induction r with
    | nil => cases hi
    | cons q qs ih =>
      rcases List.mem_cons.mp hi with e1 | hi
      · subst e1
        cases q with
        | den q => cases q with
          | dk => exact s.ne z.symm
          | lst n _ _ => exact n (z ▸ I.c)
        | lst n _ _ => exact n z
      · exact ih hi
theorem pgen_ok (c : Nat) {g : GC} {acc accp : List PV} {r : Sum (List PV) Bool} (q : Den d h A v w) (qa : Dens d h A acc accp) (e : pgen g w accp = some r) :
    ∃ r', genStep g v acc h = some (r', h) ∧ SumR (Dens d h A) (· = ·) r' r := by
  unfold pgen at e
  cases g with
  | all =>
    simp only [genStep] at e ⊢
    cases et : truthy [] w with
    | none => rw [et] at e; cases e
    | some b =>
      rw [et] at e
      rw [truth_ok (c := c) (.den q) et]
      simp only [Option.bind_some] at e ⊢
      cases b
      · simp only [Bool.false_eq_true, if_false] at e ⊢; cases e; exact ⟨_, rfl, rfl⟩
      · simp only [if_true] at e ⊢; cases e; exact ⟨_, rfl, qa⟩
  | any =>
    simp only [genStep] at e ⊢
    cases et : truthy [] w with
    | none => rw [et] at e; cases e
    | some b =>
      rw [et] at e
      rw [truth_ok (c := c) (.den q) et]
      simp only [Option.bind_some] at e ⊢
      cases b
      · simp only [Bool.false_eq_true, if_false] at e ⊢; cases e; exact ⟨_, rfl, qa⟩
      · simp only [if_true] at e ⊢; cases e; exact ⟨_, rfl, rfl⟩
  | sum =>
    simp only [genStep] at e
    split at e
    · rename_i i a
      by_cases hp : (decide (-(2 ^ 63) ≤ i) && decide (i < 2 ^ 63) && (decide (-(2 ^ 63) ≤ a + i) && decide (a + i < 2 ^ 63))) = true
      · rw [if_pos hp] at e
        cases e
        cases q
        cases qa with
        | cons q1 q2 =>
          cases q1; cases q2
          exact ⟨.inl [.int (a + i)], by simp only [genStep]; rw [if_pos hp], .cons (.int _) .nil⟩
      · rw [if_neg hp] at e; cases e
    · cases e
  | tup =>
    simp only [genStep] at e ⊢
    by_cases hp : accp.length < sizeLine
    · rw [if_pos hp] at e; cases e
      rw [if_pos (by rw [qa.length]; exact hp)]
      exact ⟨_, rfl, qa.append (.cons q .nil)⟩
    · rw [if_neg hp] at e; cases e
theorem gend_ok {g : GC} {r r' : Sum (List PV) Bool} (q : SumR (Dens d h A) (· = ·) r' r) (e : pgend g r = some w) : ∃ v, genEnd g r' = some v ∧ Den d h A v w ∧ ∀ ws, w ≠ .fl ws := by
  cases r with
  | inl y =>
    cases r' with
    | inr _ => exact q.elim
    | inl x =>
      cases g with
      | all => cases e; exact ⟨_, rfl, .bl _, fun _ z => by cases z⟩
      | any => cases e; exact ⟨_, rfl, .bl _, fun _ z => by cases z⟩
      | tup => cases e; exact ⟨_, rfl, .tup q, fun _ z => by cases z⟩
      | sum =>
        simp only [pgend] at e
        split at e
        · cases e
          rename_i y0 i _ z
          cases z
          cases q with
          | cons q1 q2 => cases q1; cases q2; exact ⟨_, rfl, .int _, fun _ z => by cases z⟩
        · cases e
        · rename_i n1 n2 n3; exact (n2 rfl).elim
  | inr y =>
    cases r' with
    | inl _ => exact q.elim
    | inr x =>
      have q : x = y := q
      subst q
      cases g with
      | all => cases e; exact ⟨_, rfl, .bl _, fun _ z => by cases z⟩
      | any => cases e; exact ⟨_, rfl, .bl _, fun _ z => by cases z⟩
      | tup => cases e
      | sum => cases e
end
end PI
end

section
set_option Elab.async false
set_option linter.all false
set_option maxRecDepth 100000
set_option maxHeartbeats 8000000
/-! every expression -/
namespace PI
open PySem PySem.Spec PyProof.Rows L2
section
variable {d c : Nat} {h h' h1 h2 : IHeap} {A B : Nat → Prop} {O : List Nat} {ρ ρp : Env'} {v w : PV} {σ σ' σ1 : Sg} {m : Md} {F : Nat → List PV → IHeap → Option (PV × IHeap)} {Fp : FP} {a b e : IE}
theorem bnd {α β : Type} {r : Option α} {k : α → Option β} {y : β} (e : r.bind k = some y) : ∃ x, r = some x ∧ k x = some y := Option.bind_eq_some_iff.mp e
/-- one part, loosely -/
theorem part (ih : OkE d c O F Fp a) (hc : chk O a .loose = true) {p : PV × Sg} (e : fe Fp a ρp σ = some p) (s : Hs d c σ h) (I : Inv' d c A h) (E : ER d c h A O ρ ρp) :
    ∃ v h', ev F a ρ h = some (v, h') ∧ Fr d c h h' ∧ Hs d c p.2 h' ∧ Inv' d c A h' ∧ ER d c h' A O ρ ρp ∧ Top d c h' A v p.1 := by
  obtain ⟨w, σ'⟩ := p
  obtain ⟨v, h', e1, f, s', r⟩ := ih .loose _ _ _ _ _ _ _ hc e s I E
  exact ⟨v, h', e1, f, s', I.fr f, E.fr I f s, r⟩
theorem partS (ih : OkE d c O F Fp a) (hc : chk O a .strict = true) {p : PV × Sg} (e : fe Fp a ρp σ = some p) (s : Hs d c σ h) (I : Inv' d c A h) (E : ER d c h A O ρ ρp) :
    ∃ v h', ev F a ρ h = some (v, h') ∧ Fr d c h h' ∧ Hs d c p.2 h' ∧ Inv' d c A h' ∧ ER d c h' A O ρ ρp ∧ Den d h' A v p.1 := by
  obtain ⟨w, σ'⟩ := p
  obtain ⟨v, h', e1, f, s', r⟩ := ih .strict _ _ _ _ _ _ _ hc e s I E
  exact ⟨v, h', e1, f, s', I.fr f, E.fr I f s, r⟩
theorem partL (ih : OkL d c O F Fp a) (hm : m ≠ .fresh) (hc : chkL O a m = true) {p : PV × Sg} (e : fe Fp a ρp σ = some p) (s : Hs d c σ h) (I : Inv' d c A h) (E : ER d c h A O ρ ρp) :
    ∃ ws vs h', p.1 = .tup ws ∧ ev F a ρ h = some (.tup vs, h') ∧ Fr d c h h' ∧ Hs d c p.2 h' ∧ Inv' d c A h' ∧ ER d c h' A O ρ ρp ∧ Rels d c m h' A vs ws := by
  obtain ⟨w, σ'⟩ := p
  obtain ⟨ws, vs, h', e0, e1, f, s', r⟩ := ih m _ _ _ _ _ _ _ hm hc e s I E
  exact ⟨ws, vs, h', e0, e1, f, s', I.fr f, E.fr I f s, r⟩
/-- the end of an operation -/
theorem ends {h0 : IHeap} {r : Option (PV × IHeap)} (hF : Fr d c h0 h) (s : Hs d c σ' h) (q : Gives d h A r w) (hr : ev F e ρ h0 = r) : EvOk d c F e m ρ h0 A w σ' := by
  obtain ⟨v, h', e1, g, q⟩ := rm_gives (m := m) (c := c) q hF.len
  exact ⟨v, h', hr.trans e1, hF.tr (Gr.fr g), s.gr g, q⟩
theorem endsD {h0 : IHeap} (hm : m ≠ .fresh) (hF : Fr d c h0 h) (s : Hs d c σ' h) (q : Den d h A v w) (hr : ev F e ρ h0 = some (v, h)) : EvOk d c F e m ρ h0 A w σ' :=
  ⟨v, h, hr, hF, s, rm_den hm q⟩
theorem endsF {h0 : IHeap} (hm : m ≠ .fresh) (hF : Fr d c h0 h) (s : Hs d c σ' h) (q : flat w = true) (hr : ev F e ρ h0 = some (w, h)) : EvOk d c F e m ρ h0 A w σ' :=
  ⟨w, h, hr, hF, s, rm_flat q⟩
theorem ev_lst {ρ : Env'} {h : IHeap} : ev F (.lst a) ρ h = (ev F a ρ h).bind fun p => match p.1 with | .tup ys => (if ys.length ≤ sizeLine then some (newCell (.lst ys) p.2) else none) | _ => none := rfl
theorem ev_tup' {ρ : Env'} {h : IHeap} : ev F (.tup a) ρ h = (ev F a ρ h).bind fun p => match p.1 with | .tup ys => (if ys.length ≤ sizeLine then some (.tup ys, p.2) else none) | _ => none := rfl
theorem ev_call {i : Nat} {ρ : Env'} {h : IHeap} : ev F (.call i a) ρ h = (ev F a ρ h).bind fun p => match p.1 with | .tup ys => F i ys p.2 | _ => none := rfl
theorem ev_neg' {ρ : Env'} {h : IHeap} : ev F (.neg a) ρ h = (ev F a ρ h).bind fun p => match p.1 with | .int i => some (.int (-i), p.2) | _ => none := rfl
theorem ev_not' {ρ : Env'} {h : IHeap} : ev F (.not a) ρ h = (ev F a ρ h).bind fun p => (truthy p.2 p.1).bind fun r => some (.bl (!r), p.2) := rfl
theorem ev_ife' {x : IE} {ρ : Env'} {h : IHeap} : ev F (.ife x a b) ρ h = (ev F x ρ h).bind fun p => (truthy p.2 p.1).bind fun r => if r = true then ev F a ρ p.2 else ev F b ρ p.2 := rfl
theorem ev_rev' {ρ : Env'} {h : IHeap} : ev F (.rev a) ρ h = (ev F a ρ h).bind fun p => match p.1 with | .ref i => (match p.2[i]? with | some (.lst xs) => some (newCell (.lst xs.reverse) p.2) | _ => none) | _ => none := rfl
theorem Rels.tops {vs ws : List PV} (hm : m = .loose) (r : Rels d c m h A vs ws) : Tops d c h A vs ws := by subst hm; exact r
theorem Rels.dens {vs ws : List PV} (r : Rels d c .strict h A vs ws) : Dens d h A vs ws := r
theorem pm_dens {perm : List Nat} {vs ws : List PV} (r : Dens d h A vs ws) : Dens d h A (pm perm vs) (pm perm ws) := by
  unfold pm
  induction perm with
  | nil => exact .nil
  | cons j js ih =>
    rw [List.filterMap_cons, List.filterMap_cons]
    have q := dens_at r j
    cases hx : ws[j]? with
    | none =>
      rw [hx] at q
      simp only at q
      rw [q]
      exact ih
    | some w =>
      rw [hx] at q
      obtain ⟨v, e, q⟩ := q
      rw [e]
      exact .cons q ih
theorem lc_ok {vs : List Nat} {tg : Tg} {k : IK} {src ifs elt : IE} (ihs : OkL d c O F Fp src) (ihi : OkE d c O F Fp ifs) (ihe : OkE d c O F Fp elt) : OkE d c O F Fp (.lc vs tg k src ifs elt) := by
  intro m ρ ρp σ w σ' h A hc e s I E
  unfold chk at hc
  simp only [Bool.and_eq_true] at hc
  obtain ⟨⟨⟨⟨_, ht⟩, hcs⟩, hci⟩, hce⟩ := hc
  rw [fe_lc] at e
  obtain ⟨⟨u, σ1⟩, e1, e⟩ := bnd e
  obtain ⟨items, e2, e⟩ := bnd e
  obtain ⟨⟨r, σ2⟩, e3, e⟩ := bnd e
  obtain ⟨ws, vs', h1, rfl, f1, F1, s1, I1, E1, R1⟩ := partL ihs (m := .loose) (by decide) hcs e1 s I E
  have R1 := R1.tops rfl
  obtain ⟨sr, es, later⟩ := psrc_ok (N := fun i => i = d ∨ i = c) R1 (fun i xs hi ei => R1.ref I1 s1 hi ei) e2
  let AD : Nat → Prop := fun j => A j ∨ j = h1.length
  have hd1 : d < h1.length := (List.getElem?_eq_some_iff.mp s1.dk).1
  have hc1 : c < h1.length := (List.getElem?_eq_some_iff.mp s1.cl).1
  have keep : ∀ {H : IHeap}, Fr d c h1 H → ∀ v w, Den d h1 A v w → Den d H AD v w := fun f v w q => q.move fun i x ei n =>
    ⟨(fr_move f I1.d I1.c i x ei n).1, fun z => z.elim n fun z => by have := (List.getElem?_eq_some_iff.mp ei).1; omega⟩
  have keepT : ∀ {H : IHeap}, Fr d c h1 H → ∀ v w, Top d c h1 A v w → Top d c H AD v w := fun f v w q => by
    cases q with
    | den q => exact .den (keep f _ _ q)
    | lst n ei q =>
      refine .lst n ?_ (mv (keep f) q)
      rw [f.eq _ (List.getElem?_eq_some_iff.mp ei).1 (fun z => by rw [z, s1.dk] at ei; cases ei) n]
      exact ei
  have sim := loop_sim (d := d) (s := sr) (items := items) (step := lcStep F ρ vs tg ifs elt h1.length) (stepP := lcP Fp ρp vs tg ifs elt)
    (fun (_ : Unit) H (acc : List PV) σ => ∃ accv, H[h1.length]? = some (.lst accv) ∧ Dens d H AD accv acc ∧ Hs d c σ H ∧ Fr d c h1 H) (fun (_ : Unit) _ (_ : Unit) _ => False) (fun _ _ => AD)
    (fun _ H acc σ ⟨accv, _, _, _, f⟩ => (later H AD (fun i x ei n => by rw [f.eq i (List.getElem?_eq_some_iff.mp ei).1 (fun z => n (.inl z)) (fun z => n (.inr z))]; exact ei) (keep f)).2)
    (fun _ H acc σ x y r σ3 ⟨accv, eD, qa, sH, f⟩ dx _ est => by
      obtain ⟨ρp1, a1, est⟩ := bnd est
      obtain ⟨⟨t, σ4⟩, a2, est⟩ := bnd est
      obtain ⟨bb, a3, est⟩ := bnd est
      have hDl : h1.length < H.length := (List.getElem?_eq_some_iff.mp eD).1
      have IH : Inv' d c AD H := ⟨.inl I1.d, .inl I1.c, fun j z => z.elim (fun z => Nat.lt_of_lt_of_le (I1.lt j z) f.len) fun z => by omega⟩
      have EH : ER d c H AD O ρ ρp := E1.mv (keep f) (keepT f)
      obtain ⟨ρ1, b1, E2⟩ := asg_ok (EH.wipe vs) dx ht a1
      obtain ⟨tv, H1, b2, f2, s2, I2, E3, T2⟩ := part ihi hci a2 sH IH E2
      have b3 := truth_ok T2 a3
      have eD1 : H1[h1.length]? = some (.lst accv) := by rw [f2.eq _ hDl (by omega) (by omega)]; exact eD
      unfold lcStep evT
      rw [b1]
      simp only [Option.bind_some]
      rw [b2]
      simp only [Option.bind_some]
      rw [b3]
      simp only [Option.bind_some]
      cases bb with
      | false =>
        simp only [Bool.false_eq_true, if_false] at est ⊢
        cases est
        exact ⟨_, _, rfl, accv, eD1, qa.fr IH f2, s2, f.tr f2⟩
      | true =>
        simp only [if_true] at est ⊢
        obtain ⟨⟨uu, σ5⟩, a4, est⟩ := bnd est
        by_cases hz : acc.length < sizeLine
        · simp only at est
          rw [if_pos hz] at est
          cases est
          obtain ⟨uv, H2, b4, f3, s3, I3, _, D3⟩ := partS ihe hce a4 s2 I2 E3
          have eD2 : H2[h1.length]? = some (.lst accv) := by rw [f3.eq _ (Nat.lt_of_lt_of_le hDl f2.len) (by omega) (by omega)]; exact eD1
          rw [b4]
          simp only [Option.bind_some]
          rw [eD2]
          simp only
          rw [if_pos (by rw [qa.length]; exact hz)]
          have mvS : ∀ v w, Den d H2 AD v w → Den d (H2.set h1.length (.lst (accv ++ [uv]))) AD v w := fun v w q => q.move fun i x ei n =>
            ⟨by rw [List.getElem?_set_ne (fun z => n (.inr z.symm))]; exact ei, n⟩
          refine ⟨_, _, rfl, accv ++ [uv], List.getElem?_set_self (List.getElem?_eq_some_iff.mp eD2).1, (mv mvS ((qa.fr IH f2).fr I2 f3)).append (.cons (mvS _ _ D3) .nil), ⟨?_, ?_, s3.ne⟩, ⟨?_, fun i hi n1 n2 => ?_⟩⟩
          · rw [List.getElem?_set_ne (by omega)]; exact s3.dk
          · rw [List.getElem?_set_ne (by omega)]; exact s3.cl
          · rw [List.length_set]; exact ((f.tr f2).tr f3).len
          · rw [List.getElem?_set_ne (by omega)]; exact ((f.tr f2).tr f3).eq i hi n1 n2
        · simp only at est
          rw [if_neg hz] at est; cases est)
    (srcLen sr (h1 ++ [.lst []]) + 1) 0 () (h1 ++ [.lst []]) [] σ1 r σ2 (Nat.zero_le _) (by
      have := (later (h1 ++ [.lst []]) AD (fun i x ei _ => by rw [List.getElem?_append_left (List.getElem?_eq_some_iff.mp ei).1]; exact ei) (keep (Gr.fr .one))).1
      omega) ⟨[], by simp, .nil, s1.gr .one, Gr.fr .one⟩ (by rw [List.drop_zero]; exact e3)
  obtain ⟨r', H, e4, rel⟩ := sim
  cases r with
  | inr _ => cases e
  | inl acc =>
    cases e
    cases r' with
    | inr _ => exact rel.elim
    | inl _ =>
      obtain ⟨accv, eD, qa, sH, f⟩ := rel
      have qA : Dens d H A accv acc := qa.move fun i x ei n => ⟨ei, fun z => n (.inl z)⟩
      have fr : Fresh d h H A (.ref h1.length) (.fl acc) := ⟨_, accv, acc, rfl, rfl, F1.len, eD, qa⟩
      have IH : Inv' d c A H := I1.fr f
      refine ⟨.ref h1.length, H, ?_, F1.tr f, sH, ?_⟩
      · rw [ev_lc, f1]
        simp only [Option.bind_some]
        rw [es]
        simp only [Option.bind_some]
        rw [e4]
        rfl
      · have dn : Den d H A (.ref h1.length) (.fl acc) := .lst (fun z => Nat.lt_irrefl _ (I1.lt _ z)) eD qA
        cases m with
        | loose => exact .den dn
        | strict => exact dn
        | fresh => exact ⟨dn, fun _ _ => by rename_i z; cases z; exact fr⟩
end
end PI
end

section
set_option Elab.async false
set_option linter.all false
set_option maxRecDepth 100000
set_option maxHeartbeats 8000000
namespace PI
open PySem PySem.Spec PyProof.Rows L2
section
variable {d c : Nat} {h h' h1 h2 : IHeap} {A B : Nat → Prop} {O : List Nat} {ρ ρp : Env'} {v w : PV} {σ σ' σ1 : Sg} {m : Md} {F : Nat → List PV → IHeap → Option (PV × IHeap)} {Fp : FP} {a b e : IE}
theorem gen_ok {g : GC} {vs : List Nat} {tg : Tg} {k : IK} {src ifs elt : IE} (ihs : OkL d c O F Fp src) (ihi : OkE d c O F Fp ifs) (ihe : OkE d c O F Fp elt) : OkE d c O F Fp (.gen g vs tg k src ifs elt) := by
  intro m ρ ρp σ w σ' h A hc e s I E
  unfold chk at hc
  simp only [Bool.and_eq_true, bne_iff_ne] at hc
  obtain ⟨⟨⟨⟨⟨hm, _⟩, ht⟩, hcs⟩, hci⟩, hce⟩ := hc
  rw [fe_gen] at e
  obtain ⟨⟨u, σ1⟩, e1, e⟩ := bnd e
  obtain ⟨items, e2, e⟩ := bnd e
  obtain ⟨⟨r, σ2⟩, e3, e⟩ := bnd e
  obtain ⟨w2, e5, e7⟩ := bnd e
  obtain ⟨ws, vs', h1, rfl, f1, F1, s1, I1, E1, R1⟩ := partL ihs (m := .loose) (by decide) hcs e1 s I E
  have R1 := R1.tops rfl
  obtain ⟨sr, es, later⟩ := psrc_ok (N := fun i => i = d ∨ i = c) R1 (fun i xs hi ei => R1.ref I1 s1 hi ei) e2
  have keep : ∀ {H : IHeap}, Fr d c h1 H → ∀ v w, Den d h1 A v w → Den d H A v w := fun f v w q => q.fr I1 f
  have still : ∀ {H : IHeap}, Fr d c h1 H → ∀ i x, h1[i]? = some x → ¬ (i = d ∨ i = c) → H[i]? = some x := fun f i x ei n => by
    rw [f.eq i (List.getElem?_eq_some_iff.mp ei).1 (fun z => n (.inl z)) (fun z => n (.inr z))]; exact ei
  have start : ∀ g : GC, Dens d h1 A (genInit g) (genInit g) := fun g => by cases g <;> first | exact .nil | exact .cons (.int _) .nil
  have sim := loop_sim (d := d) (s := sr) (items := items) (step := gStep F g ρ vs tg ifs elt) (stepP := genP Fp g ρp vs tg ifs elt)
    (fun (acc : List PV) H (accp : List PV) σ => Dens d H A acc accp ∧ Hs d c σ H ∧ Fr d c h1 H) (fun (x : Bool) H (y : Bool) σ => x = y ∧ Hs d c σ H ∧ Fr d c h1 H) (fun _ _ => A)
    (fun _ H acc σ ⟨_, _, f⟩ => (later H A (still f) (keep f)).2)
    (fun acc H accp σ x y r σ3 ⟨qa, sH, f⟩ dx _ est => by
      obtain ⟨ρp1, a1, est⟩ := bnd est
      obtain ⟨⟨t, σ4⟩, a2, est⟩ := bnd est
      obtain ⟨bb, a3, est⟩ := bnd est
      have IH : Inv' d c A H := I1.fr f
      have EH : ER d c H A O ρ ρp := E1.fr I1 f s1
      obtain ⟨ρ1, b1, E2⟩ := asg_ok (EH.wipe vs) dx ht a1
      obtain ⟨tv, H1, b2, f2, s2, I2, E3, T2⟩ := part ihi hci a2 sH IH E2
      have b3 := truth_ok T2 a3
      unfold gStep evT
      rw [b1]
      simp only [Option.bind_some]
      rw [b2]
      simp only [Option.bind_some]
      rw [b3]
      simp only [Option.bind_some]
      cases bb with
      | false =>
        simp only [Bool.false_eq_true, if_false] at est ⊢
        cases est
        exact ⟨_, _, rfl, qa.fr IH f2, s2, f.tr f2⟩
      | true =>
        simp only [if_true] at est ⊢
        obtain ⟨⟨uu, σ5⟩, a4, est⟩ := bnd est
        obtain ⟨r2, a5, est⟩ := bnd est
        cases est
        obtain ⟨uv, H2, b4, f3, s3, I3, _, D3⟩ := partS ihe hce a4 s2 I2 E3
        rw [b4]
        simp only [Option.bind_some]
        obtain ⟨r', e6, rel⟩ := pgen_ok c D3 ((qa.fr IH f2).fr I2 f3) a5
        refine ⟨r', H2, e6, ?_⟩
        cases r' <;> cases r <;> first | exact rel.elim | exact ⟨rel, s3, (f.tr f2).tr f3⟩)
    (srcLen sr h1 + 1) 0 (genInit g) h1 (genInit g) σ1 r σ2 (Nat.zero_le _) (by
      have := (later h1 A (fun i x ei _ => ei) (fun _ _ q => q)).1
      omega) ⟨start g, s1, .id⟩ (by rw [List.drop_zero]; exact e3)
  obtain ⟨r', H, e4, rel⟩ := sim
  cases e7
  have : ∃ v, genEnd g r' = some v ∧ Den d H A v w ∧ (∀ ws, w ≠ PV.fl ws) ∧ Hs d c σ2 H ∧ Fr d c h1 H := by
    cases r' <;> cases r
    · obtain ⟨v, q1, q2, q3⟩ := gend_ok (h := H) (d := d) (A := A) (r' := .inl _) (r := .inl _) rel.1 e5
      exact ⟨v, q1, q2, q3, rel.2⟩
    · exact rel.elim
    · exact rel.elim
    · obtain ⟨v, q1, q2, q3⟩ := gend_ok (h := H) (d := d) (A := A) (r' := .inr _) (r := .inr _) rel.1 e5
      exact ⟨v, q1, q2, q3, rel.2⟩
  obtain ⟨v, q1, q2, q3, s2, f2⟩ := this
  refine endsD hm (F1.tr f2) s2 q2 ?_
  rw [ev_gen, f1]
  simp only [Option.bind_some]
  rw [es]
  simp only [Option.bind_some]
  rw [e4]
  simp only [Option.bind_some]
  rw [q1]
  rfl
theorem okL_bad (hh : ∀ m, chkL O a m = false) : OkL d c O F Fp a := fun m _ _ _ _ _ _ _ _ hc => by rw [hh] at hc; cases hc
theorem okE_bad (hh : ∀ m, chk O a m = false) : OkE d c O F Fp a := fun m _ _ _ _ _ _ _ hc => by rw [hh] at hc; cases hc
theorem fe_all (hF : Sound d c F Fp) (O : List Nat) (e : IE) : OkE d c O F Fp e ∧ OkL d c O F Fp e := by
  induction e with
  | nil => exact ⟨okE_bad fun _ => rfl, fun m ρ ρp σ w σ' h A _ _ e s I E => by cases e; exact ⟨[], [], h, rfl, rfl, .id, s, Rels.nil⟩⟩
  | cons a as iha ihas =>
    refine ⟨okE_bad fun _ => rfl, fun m ρ ρp σ w σ' h A hm hc e s I E => ?_⟩
    unfold chkL at hc
    simp only [Bool.and_eq_true] at hc
    unfold fe at e
    obtain ⟨⟨x, σ1⟩, e1, e⟩ := bnd e
    obtain ⟨⟨y, σ2⟩, e2, e⟩ := bnd e
    obtain ⟨v, h1, f1, F1, s1, r1⟩ := iha.1 m _ _ _ _ _ _ _ hc.1 e1 s I E
    obtain ⟨ws, vs, h2, e0, f2, F2, s2, I2, E2, R2⟩ := partL ihas.2 hm hc.2 e2 s1 (I.fr F1) (E.fr I F1 s)
    simp only at e0
    subst e0
    cases e
    refine ⟨_, v :: vs, h2, rfl, ?_, F1.tr F2, s2, Rels.cons hm (h0 := h) (r1.fr hm (I.fr F1) F2 s1) R2⟩
    rw [ev_cons, f1]
    simp only [Option.bind_some]
    rw [f2]
    rfl
  | var i =>
    refine ⟨fun m ρ ρp σ w σ' h A hc e s I E => ?_, okL_bad fun _ => rfl⟩
    unfold fe at e
    split at e
    · rename_i v0 ev0
      cases e
      obtain ⟨v, ev1, q⟩ := E.val i _ ev0
      refine ⟨v, h, by show (match ρ[i]? with | some (some v) => some (v, h) | _ => none) = _; rw [ev1], .id, s, ?_⟩
      unfold chk at hc
      cases m with
      | loose =>
        split at q
        · exact q
        · exact .den q
      | strict =>
        have hi : i ∉ O := by simpa using hc
        rw [if_neg hi] at q
        exact q
      | fresh => simp at hc
    · cases e
  | con v =>
    refine ⟨fun m ρ ρp σ w σ' h A hc e s I E => ?_, okL_bad fun _ => rfl⟩
    unfold fe at e
    obtain ⟨hf, q⟩ := if_some e
    cases q
    unfold chk at hc
    exact endsF (by simpa using hc) .id s hf rfl
  | bin op a b iha ihb =>
    refine ⟨fun m ρ ρp σ w σ' h A hc e s I E => ?_, okL_bad fun _ => rfl⟩
    unfold chk at hc
    simp only [Bool.and_eq_true] at hc
    unfold fe at e
    obtain ⟨⟨x, σ1⟩, e1, e⟩ := bnd e
    obtain ⟨⟨y, σ2⟩, e2, e⟩ := bnd e
    obtain ⟨z, e3, e⟩ := bnd e
    cases e
    obtain ⟨v1, h1, f1, F1, s1, I1, E1, T1⟩ := part iha.1 hc.1.2 e1 s I E
    obtain ⟨v2, h2, f2, F2, s2, I2, E2, T2⟩ := part ihb.1 hc.2 e2 s1 I1 E1
    exact ends (F1.tr F2) s2 (bin_ok I2.lt (T1.fr I1 F2 s1) T2 e3) (by rw [ev_bin, f1]; simp only [Option.bind_some]; rw [f2]; rfl)
  | cmp op a b iha ihb =>
    refine ⟨fun m ρ ρp σ w σ' h A hc e s I E => ?_, okL_bad fun _ => rfl⟩
    unfold chk at hc
    simp only [Bool.and_eq_true, bne_iff_ne] at hc
    unfold fe at e
    obtain ⟨⟨x, σ1⟩, e1, e⟩ := bnd e
    obtain ⟨⟨y, σ2⟩, e2, e⟩ := bnd e
    obtain ⟨z, e3, e⟩ := bnd e
    cases e
    obtain ⟨v1, h1, f1, F1, s1, I1, E1, T1⟩ := part iha.1 hc.1.2 e1 s I E
    obtain ⟨v2, h2, f2, F2, s2, I2, E2, T2⟩ := part ihb.1 hc.2 e2 s1 I1 E1
    have := cmp_ok s2.nol (T1.fr I1 F2 s1) T2 e3
    exact endsF hc.1.1 (F1.tr F2) s2 rfl (by rw [ev_cmp, f1]; simp only [Option.bind_some]; rw [f2]; simp only [Option.bind_some]; rw [this]; rfl)
  | chain o1 o2 a b x iha ihb ihx =>
    refine ⟨fun m ρ ρp σ w σ' h A hc e s I E => ?_, okL_bad fun _ => rfl⟩
    unfold chk at hc
    simp only [Bool.and_eq_true, bne_iff_ne] at hc
    unfold fe at e
    obtain ⟨⟨y1, σ1⟩, e1, e⟩ := bnd e
    obtain ⟨⟨y2, σ2⟩, e2, e⟩ := bnd e
    obtain ⟨z, e3, e⟩ := bnd e
    obtain ⟨v1, h1, f1, F1, s1, I1, E1, T1⟩ := part iha.1 hc.1.1.2 e1 s I E
    obtain ⟨v2, h2, f2, F2, s2, I2, E2, T2⟩ := part ihb.1 hc.1.2 e2 s1 I1 E1
    have q1 := cmp_ok s2.nol (T1.fr I1 F2 s1) T2 e3
    cases z with
    | false =>
      simp only [Bool.false_eq_true, if_false] at e
      cases e
      exact endsF hc.1.1.1 (F1.tr F2) s2 rfl (by rw [ev_chain, f1]; simp only [Option.bind_some]; rw [f2]; simp only [Option.bind_some]; rw [q1]; simp)
    | true =>
      simp only [if_true] at e
      obtain ⟨⟨y3, σ3⟩, e4, e⟩ := bnd e
      obtain ⟨z2, e5, e⟩ := bnd e
      cases e
      obtain ⟨v3, h3, f3, F3, s3, I3, E3, T3⟩ := part ihx.1 hc.2 e4 s2 I2 E2
      have q2 := cmp_ok s3.nol (T2.fr I2 F3 s2) T3 e5
      exact endsF hc.1.1.1 ((F1.tr F2).tr F3) s3 rfl (by rw [ev_chain, f1]; simp only [Option.bind_some]; rw [f2]; simp only [Option.bind_some]; rw [q1]; simp only [Option.bind_some, if_true]; rw [f3]; simp only [Option.bind_some]; rw [q2]; rfl)
  | not a iha =>
    refine ⟨fun m ρ ρp σ w σ' h A hc e s I E => ?_, okL_bad fun _ => rfl⟩
    unfold chk at hc
    obtain ⟨hm, hc⟩ := chk_nf hc
    unfold fe at e
    obtain ⟨⟨x, σ1⟩, e1, e⟩ := bnd e
    obtain ⟨z, e3, e⟩ := bnd e
    cases e
    obtain ⟨v1, h1, f1, F1, s1, I1, E1, T1⟩ := part iha.1 hc e1 s I E
    exact endsF hm F1 s1 rfl (by rw [ev_not', f1]; simp only [Option.bind_some]; rw [truth_ok T1 e3]; rfl)
  | neg a iha =>
    refine ⟨fun m ρ ρp σ w σ' h A hc e s I E => ?_, okL_bad fun _ => rfl⟩
    unfold chk at hc
    obtain ⟨hm, hc⟩ := chk_nf hc
    unfold fe at e
    obtain ⟨⟨x, σ1⟩, e1, e⟩ := bnd e
    simp only at e
    split at e
    · cases e
      obtain ⟨v1, h1, f1, F1, s1, I1, E1, T1⟩ := part iha.1 hc e1 s I E
      have := T1.int
      subst this
      exact endsF hm F1 s1 rfl (by rw [ev_neg', f1]; rfl)
    · cases e
  | and a b iha ihb =>
    refine ⟨fun m ρ ρp σ w σ' h A hc e s I E => ?_, okL_bad fun _ => rfl⟩
    unfold chk at hc
    simp only [Bool.and_eq_true, bne_iff_ne] at hc
    unfold fe at e
    obtain ⟨⟨x, σ1⟩, e1, e⟩ := bnd e
    obtain ⟨z, e3, e⟩ := bnd e
    obtain ⟨v1, h1, f1, F1, s1, I1, E1, D1⟩ := partS iha.1 hc.1.2 e1 s I E
    have t1 := truth_ok (c := c) (.den D1) e3
    cases z with
    | true =>
      simp only [if_true] at e
      obtain ⟨v2, h2, f2, F2, s2, I2, E2, D2⟩ := partS ihb.1 hc.2 e s1 I1 E1
      exact endsD hc.1.1 (F1.tr F2) s2 D2 (by rw [ev_and, f1]; simp only [Option.bind_some]; rw [t1]; simp only [Option.bind_some, if_true]; exact f2)
    | false =>
      simp only [Bool.false_eq_true, if_false] at e
      cases e
      exact endsD hc.1.1 F1 s1 D1 (by rw [ev_and, f1]; simp only [Option.bind_some]; rw [t1]; simp)
  | or a b iha ihb =>
    refine ⟨fun m ρ ρp σ w σ' h A hc e s I E => ?_, okL_bad fun _ => rfl⟩
    unfold chk at hc
    simp only [Bool.and_eq_true, bne_iff_ne] at hc
    unfold fe at e
    obtain ⟨⟨x, σ1⟩, e1, e⟩ := bnd e
    obtain ⟨z, e3, e⟩ := bnd e
    obtain ⟨v1, h1, f1, F1, s1, I1, E1, D1⟩ := partS iha.1 hc.1.2 e1 s I E
    have t1 := truth_ok (c := c) (.den D1) e3
    cases z with
    | true =>
      simp only [if_true] at e
      cases e
      exact endsD hc.1.1 F1 s1 D1 (by rw [ev_or, f1]; simp only [Option.bind_some]; rw [t1]; simp)
    | false =>
      simp only [Bool.false_eq_true, if_false] at e
      obtain ⟨v2, h2, f2, F2, s2, I2, E2, D2⟩ := partS ihb.1 hc.2 e s1 I1 E1
      exact endsD hc.1.1 (F1.tr F2) s2 D2 (by rw [ev_or, f1]; simp only [Option.bind_some]; rw [t1]; simp only [Option.bind_some, Bool.false_eq_true, if_false]; exact f2)
  | ife x a b ihx iha ihb =>
    refine ⟨fun m ρ ρp σ w σ' h A hc e s I E => ?_, okL_bad fun _ => rfl⟩
    unfold chk at hc
    simp only [Bool.and_eq_true, bne_iff_ne] at hc
    unfold fe at e
    obtain ⟨⟨y, σ1⟩, e1, e⟩ := bnd e
    obtain ⟨z, e3, e⟩ := bnd e
    obtain ⟨v1, h1, f1, F1, s1, I1, E1, T1⟩ := part ihx.1 hc.1.1.2 e1 s I E
    have t1 := truth_ok T1 e3
    cases z with
    | true =>
      simp only [if_true] at e
      obtain ⟨v2, h2, f2, F2, s2, I2, E2, D2⟩ := partS iha.1 hc.1.2 e s1 I1 E1
      exact endsD hc.1.1.1 (F1.tr F2) s2 D2 (by rw [ev_ife', f1]; simp only [Option.bind_some]; rw [t1]; simp only [Option.bind_some, if_true]; exact f2)
    | false =>
      simp only [Bool.false_eq_true, if_false] at e
      obtain ⟨v2, h2, f2, F2, s2, I2, E2, D2⟩ := partS ihb.1 hc.2 e s1 I1 E1
      exact endsD hc.1.1.1 (F1.tr F2) s2 D2 (by rw [ev_ife', f1]; simp only [Option.bind_some]; rw [t1]; simp only [Option.bind_some, Bool.false_eq_true, if_false]; exact f2)
  | tup as ih =>
    refine ⟨fun m ρ ρp σ w σ' h A hc e s I E => ?_, okL_bad fun _ => rfl⟩
    unfold chk at hc
    obtain ⟨hm, hc⟩ := chk_nf hc
    unfold fe at e
    obtain ⟨p, e1, e⟩ := bnd e
    obtain ⟨ws, vs, h1, e0, f1, F1, s1, I1, E1, R1⟩ := partL ih.2 (m := .strict) (by decide) hc e1 s I E
    rw [e0] at e
    simp only at e
    obtain ⟨hp, e⟩ := if_some e
    cases e
    have R1 := R1.dens
    exact endsD hm F1 s1 (.tup R1) (by rw [ev_tup', f1]; simp only [Option.bind_some]; rw [if_pos (by rw [R1.length]; exact hp)])
  | lst as ih =>
    refine ⟨fun m ρ ρp σ w σ' h A hc e s I E => ?_, okL_bad fun _ => rfl⟩
    unfold chk at hc
    unfold fe at e
    obtain ⟨p, e1, e⟩ := bnd e
    obtain ⟨ws, vs, h1, e0, f1, F1, s1, I1, E1, R1⟩ := partL ih.2 (m := .strict) (by decide) hc e1 s I E
    rw [e0] at e
    simp only at e
    obtain ⟨hp, e⟩ := if_some e
    cases e
    have R1 := R1.dens
    exact ends F1 s1 (.new I1.lt (r := some (newCell (.lst vs) h1)) rfl R1) (by rw [ev_lst, f1]; simp only [Option.bind_some]; rw [if_pos (by rw [R1.length]; exact hp)])
  | dic ks vs ih => exact ⟨okE_bad fun _ => rfl, okL_bad fun _ => rfl⟩
  | idx a b iha ihb =>
    refine ⟨fun m ρ ρp σ w σ' h A hc e s I E => ?_, okL_bad fun _ => rfl⟩
    unfold chk at hc
    simp only [Bool.and_eq_true, bne_iff_ne] at hc
    unfold fe at e
    obtain ⟨⟨x, σ1⟩, e1, e⟩ := bnd e
    obtain ⟨⟨y, σ2⟩, e2, e⟩ := bnd e
    obtain ⟨z, e3, e⟩ := bnd e
    cases e
    obtain ⟨v1, h1, f1, F1, s1, I1, E1, T1⟩ := part iha.1 hc.1.2 e1 s I E
    obtain ⟨v2, h2, f2, F2, s2, I2, E2, T2⟩ := part ihb.1 hc.2 e2 s1 I1 E1
    obtain ⟨v, q, dn⟩ := idx_ok (T1.fr I1 F2 s1) T2 e3
    exact endsD hc.1.1 (F1.tr F2) s2 dn (by rw [ev_idx, f1]; simp only [Option.bind_some]; rw [f2]; simp only [Option.bind_some]; rw [q]; rfl)
  | slc l r a lo hi iha ihl ihh =>
    refine ⟨fun m ρ ρp σ w σ' h A hc e s I E => ?_, okL_bad fun _ => rfl⟩
    unfold chk at hc
    simp only [Bool.and_eq_true, Bool.or_eq_true, Bool.not_eq_true'] at hc
    unfold fe at e
    obtain ⟨⟨x, σ1⟩, e1, e⟩ := bnd e
    obtain ⟨⟨o, σ2⟩, e2, e⟩ := bnd e
    obtain ⟨⟨u, σ3⟩, e3, e⟩ := bnd e
    obtain ⟨z, e4, e⟩ := bnd e
    cases e
    obtain ⟨v1, h1, f1, F1, s1, I1, E1, T1⟩ := part iha.1 hc.1.1 e1 s I E
    have bound : ∀ {l : Bool} {lo : IE} {σ σ' : Sg} {h : IHeap} {o : Option Int}, OkE d c O F Fp lo → (l = false ∨ chk O lo .loose = true) → Hs d c σ h → Inv' d c A h → ER d c h A O ρ ρp →
        ((if l = true then (fe Fp lo ρp σ).bind fun z => match z.1 with | .int i => some (some i, z.2) | _ => none else some (none, σ)) : Option (Option Int × Sg)) = some (o, σ') →
        ∃ h', evO F l lo ρ h = some (o, h') ∧ Fr d c h h' ∧ Hs d c σ' h' ∧ Inv' d c A h' ∧ ER d c h' A O ρ ρp := fun {l lo σ σ' h o} ih hc s I E e => by
      cases l with
      | false =>
        simp only [Bool.false_eq_true, if_false] at e
        cases e
        exact ⟨h, rfl, .id, s, I, E⟩
      | true =>
        simp only [if_true] at e
        obtain ⟨⟨x, σ1⟩, e1, e⟩ := bnd e
        simp only at e
        split at e
        · cases e
          obtain ⟨v1, h1, f1, F1, s1, I1, E1, T1⟩ := part ih (by simpa using hc) e1 s I E
          have := T1.int
          subst this
          refine ⟨h1, ?_, F1, s1, I1, E1⟩
          unfold evO
          rw [if_pos rfl, f1]
          rfl
        · cases e
    obtain ⟨h2, f2, F2, s2, I2, E2⟩ := bound ihl.1 hc.1.2 s1 I1 E1 e2
    obtain ⟨h3, f3, F3, s3, I3, E3⟩ := bound ihh.1 hc.2 s2 I2 E2 e3
    refine ends ((F1.tr F2).tr F3) s3 (slc_ok I3.lt ((T1.fr I1 F2 s1).fr I2 F3 s2) e4) ?_
    rw [ev_slc, f1]
    simp only [Option.bind_some]
    rw [f2]
    simp only [Option.bind_some]
    rw [f3]
    rfl
  | rev a iha =>
    refine ⟨fun m ρ ρp σ w σ' h A hc e s I E => ?_, okL_bad fun _ => rfl⟩
    unfold chk at hc
    unfold fe at e
    obtain ⟨⟨x, σ1⟩, e1, e⟩ := bnd e
    obtain ⟨z, e3, e⟩ := bnd e
    cases e
    obtain ⟨v1, h1, f1, F1, s1, I1, E1, T1⟩ := part iha.1 hc e1 s I E
    unfold prev at e3
    simp only at e3
    split at e3
    · cases e3
      obtain ⟨i, xs, rfl, ei, q⟩ := T1.fl
      exact ends F1 s1 (.new I1.lt (r := some (newCell (.lst xs.reverse) h1)) rfl q.reverse) (by rw [ev_rev', f1]; simp only [Option.bind_some, ei])
    · cases e3
  | call i as ih =>
    refine ⟨fun m ρ ρp σ w σ' h A hc e s I E => ?_, okL_bad fun _ => rfl⟩
    unfold chk at hc
    obtain ⟨hm, hc⟩ := chk_nf hc
    unfold fe at e
    obtain ⟨p, e1, e⟩ := bnd e
    obtain ⟨ws, vs, h1, e0, f1, F1, s1, I1, E1, R1⟩ := partL ih.2 (m := .strict) (by decide) hc e1 s I E
    rw [e0] at e
    simp only at e
    obtain ⟨v, h2, f2, F2, s2, D2⟩ := hF _ _ _ _ _ e _ _ _ s1 I1 R1.dens
    exact endsD hm (F1.tr F2) s2 D2 (by rw [ev_call, f1]; exact f2)
  | callK i perm as bs iha ihb =>
    refine ⟨fun m ρ ρp σ w σ' h A hc e s I E => ?_, okL_bad fun _ => rfl⟩
    unfold chk at hc
    simp only [Bool.and_eq_true, bne_iff_ne] at hc
    unfold fe at e
    obtain ⟨p, e1, e⟩ := bnd e
    obtain ⟨q, e2, e⟩ := bnd e
    obtain ⟨ws, vs, h1, e0, f1, F1, s1, I1, E1, R1⟩ := partL iha.2 (m := .strict) (by decide) hc.1.2 e1 s I E
    obtain ⟨ws2, vs2, h2, e02, f2, F2, s2, I2, E2, R2⟩ := partL ihb.2 (m := .strict) (by decide) hc.2 e2 s1 I1 E1
    rw [e0, e02] at e
    simp only at e
    obtain ⟨v, h3, f3, F3, s3, D3⟩ := hF _ _ _ _ _ e _ _ _ s2 I2 (pm_dens ((R1.dens.fr I1 F2).append R2.dens))
    exact endsD hc.1.1 ((F1.tr F2).tr F3) s3 D3 (by rw [ev_callK, f1]; simp only [Option.bind_some]; rw [f2]; exact f3)
  | blt b as ih =>
    refine ⟨fun m ρ ρp σ w σ' h A hc e s I E => ?_, okL_bad fun _ => rfl⟩
    unfold chk at hc
    simp only [Bool.and_eq_true] at hc
    unfold fe at e
    obtain ⟨p, e1, e⟩ := bnd e
    obtain ⟨ws, vs, h1, e0, f1, F1, s1, I1, E1, R1⟩ := partL ih.2 (m := .loose) (by decide) hc.2 e1 s I E
    rw [e0] at e
    simp only at e
    obtain ⟨z, e3, e⟩ := bnd e
    cases e
    exact ends F1 s1 (blt_ok I1.lt s1.nol (R1.tops rfl) e3) (by rw [ev_blt, f1]; rfl)
  | mth k o as iho ih => exact ⟨okE_bad fun _ => rfl, okL_bad fun _ => rfl⟩
  | lc vs tg k src ifs elt ihs ihi ihe => exact ⟨lc_ok ihs.2 ihi.1 ihe.1, okL_bad fun _ => rfl⟩
  | gen g vs tg k src ifs elt ihs ihi ihe => exact ⟨gen_ok ihs.2 ihi.1 ihe.1, okL_bad fun _ => rfl⟩
  | sts b a iha =>
    refine ⟨fun m ρ ρp σ w σ' h A hc e s I E => ?_, okL_bad fun _ => rfl⟩
    unfold chk at hc
    simp only [Bool.and_eq_true] at hc
    unfold fe at e
    obtain ⟨⟨x, σ1⟩, e1, e⟩ := bnd e
    obtain ⟨z, e3, e⟩ := bnd e
    cases e
    obtain ⟨v1, h1, f1, F1, s1, I1, E1, T1⟩ := part iha.1 hc.2 e1 s I E
    exact ends F1 s1 (sts_ok I1.lt T1 e3) (by rw [ev_sts, f1]; rfl)
end
end PI
end

section
set_option Elab.async false
set_option linter.all false
set_option maxRecDepth 100000
set_option maxHeartbeats 8000000
/-! statements over values -/
namespace PI
open PySem PySem.Spec PyProof.Rows L2
def whileP (c : Env' → Sg → Option (Bool × Sg)) (body : Env' → Sg → Option (Fl × Sg)) : Nat → Env' → Sg → Option (Fl × Sg)
  | 0, _, _ => none
  | f + 1, ρ, σ => (c ρ σ).bind fun p => if p.1 = true then (body ρ p.2).bind fun q => (match q.1 with
      | .nx ρ' => whileP c body f ρ' q.2
      | .ct ρ' => whileP c body f ρ' q.2
      | .bk ρ' => some (.nx ρ', q.2)
      | .rt v => some (.rt v, q.2)) else some (.nx ρ, p.2)
/-- a list's change in its slot -/
def appP (o : Nat) (ρ : Env') (k : List PV → Option (List PV)) : Option Env' :=
  match ρ[o]? with
  | some (some (.fl xs)) => (k xs).map fun ys => ρ.set o (some (.fl ys))
  | _ => none
/-- what changes a list in place -/
inductive Mt where
  | app (o : Nat) (e : IE) | ext (o : Nat) (e : IE)
def mtOf : IE → Option Mt
  | .mth .append (.var o) (.cons a .nil) => some (.app o a)
  | .mth .extend (.var o) (.cons a .nil) => some (.ext o a)
  | _ => none
def varOf : IE → Option Nat
  | .var o => some o
  | _ => none
def fex (F : FP) (wf : Nat) : IS → Env' → Sg → Option (Fl × Sg)
  | .nil, ρ, σ => some (.nx ρ, σ)
  | .pass, ρ, σ => some (.nx ρ, σ)
  | .never, _, _ => none
  | .brk, ρ, σ => some (.bk ρ, σ)
  | .cnt, ρ, σ => some (.ct ρ, σ)
  | .seq a b, ρ, σ => (fex F wf a ρ σ).bind fun p => match p.1 with
    | .nx ρ' => fex F wf b ρ' p.2
    | fl => some (fl, p.2)
  | .asg t e, ρ, σ => (fe F e ρ σ).bind fun p => (assignT t p.1 ρ).bind fun ρ' => some (.nx ρ', p.2)
  | .sub o i e, ρ, σ => match varOf o with
    | some o => (fe F e ρ σ).bind fun p => (fe F i ρ p.2).bind fun u => match u.1 with
      | .int k => (appP o ρ fun xs => (ixNat xs.length k).map fun n => xs.set n p.1).bind fun ρ' => some (.nx ρ', u.2)
      | _ => none
    | none => none
  | .aug i op e, ρ, σ => match ρ[i]? with
    | some (some x) => (fe F e ρ σ).bind fun p => ((augop op x p.1 []).map (·.1)).bind fun v => some (.nx (ρ.set i (some v)), p.2)
    | _ => none
  | .ex e, ρ, σ => match mtOf e with
    | some (.app o a) => (fe F a ρ σ).bind fun p => (appP o ρ fun xs => if xs.length < sizeLine then some (xs ++ [p.1]) else none).bind fun ρ' => some (.nx ρ', p.2)
    | some (.ext o a) => (fe F a ρ σ).bind fun p => match p.1 with
      | .fl ys => (appP o ρ fun xs => if xs.length + ys.length ≤ sizeLine then some (xs ++ ys) else none).bind fun ρ' => some (.nx ρ', p.2)
      | _ => none
    | none => (fe F e ρ σ).bind fun p => some (.nx ρ, p.2)
  | .ret e, ρ, σ => (fe F e ρ σ).bind fun p => some (.rt p.1, p.2)
  | .ife c a b, ρ, σ => (fe F c ρ σ).bind fun p => (truthy [] p.1).bind fun r => if r = true then fex F wf a ρ p.2 else fex F wf b ρ p.2
  | .while_ c b, ρ, σ => whileP (fun ρ σ => (fe F c ρ σ).bind fun p => (truthy [] p.1).bind fun r => some (r, p.2)) (fex F wf b) wf ρ σ
  | .for_ t k src b, ρ, σ => (fe F src ρ σ).bind fun p => (psrc k p.1).bind fun xs =>
    (walkP (α := Env') (β := Fl) (fun x ρ σ => (assignT t x ρ).bind fun ρ1 => (fex F wf b ρ1 σ).bind fun q => some (forEnd q.1, q.2)) xs ρ p.2).bind fun r => match r.1 with
      | .inl ρ' => some (.nx ρ', r.2)
      | .inr fl => some (fl, r.2)
/-! ### what may be said where -/
/-- no list changes, none is made in a slot of O -/
def still (O : List Nat) : IS → Bool
  | .seq a b => still O a && still O b
  | .asg t _ => offO O (slots t)
  | .sub _ _ _ => false
  | .ex e => (mtOf e).isNone
  | .ife _ a b => still O a && still O b
  | .while_ _ b => still O b
  | .for_ _ _ _ b => still O b
  | _ => true
def chkM (O : List Nat) : List Nat → IE → Bool
  | [], .nil => true
  | i :: is, .cons a as => (if O.contains i then isFresh a && chk O a .fresh && !is.contains i else chk O a .strict) && chkM O is as
  | _, _ => false
def chkA (O : List Nat) (t : Tg) (e : IE) : Bool :=
  match t with
  | .nm i => if O.contains i then isFresh e && chk O e .fresh else chk O e .strict
  | .tp is => if offO O is then chk O e .strict else (match e with
    | .tup es => chkM O is es
    | _ => false)
def chkS (O : List Nat) : IS → Bool
  | .seq a b => chkS O a && chkS O b
  | .asg t e => chkA O t e
  | .sub o i e => (match varOf o with | some o => O.contains o | none => false) && chk O i .loose && chk O e .strict
  | .aug i _ e => !O.contains i && chk O e .loose
  | .ex e => (match mtOf e with
    | some (.app o a) => O.contains o && chk O a .strict
    | some (.ext o a) => O.contains o && chk O a .loose
    | none => chk O e .strict)
  | .ret e => (match varOf e with | some _ => true | none => chk O e .strict)
  | .ife c a b => chk O c .loose && chkS O a && chkS O b
  | .while_ c b => chk O c .loose && chkS O b
  | .for_ t _ src b => offO O (slots t) && chkL O src (if still O b then .loose else .strict) && chkS O b
  | _ => true
/-! ### what is kept -/
/-- the lists of the slots of O -/
def Own (O : List Nat) (ρ : Env') (j : Nat) : Prop := ∃ s ∈ O, ρ[s]? = some (some (.ref j))
/-- no list may stand there -/
abbrev Off (A : Nat → Prop) (O : List Nat) (ρ : Env') : Nat → Prop := fun j => A j ∨ Own O ρ j
structure OK (d c : Nat) (A : Nat → Prop) (m0 : Nat) (O : List Nat) (ρ ρp : Env') (h : IHeap) : Prop where
  er : ER d c h (Off A O ρ) O ρ ρp
  inv : Inv' d c A h
  /-- slots of O are known on both sides, and hold lists of their own -/
  own : ∀ s ∈ O, ∀ v, ρ[s]? = some (some v) → ∃ j xs ws, v = .ref j ∧ ρp[s]? = some (some (.fl ws)) ∧ m0 ≤ j ∧ ¬ A j ∧ h[j]? = some (.lst xs) ∧ Dens d h (Off A O ρ) xs ws
  one : ∀ s ∈ O, ∀ s' ∈ O, ∀ j, ρ[s]? = some (some (.ref j)) → ρ[s']? = some (some (.ref j)) → s = s'
  d0 : d < m0
  c0 : c < m0
  sl : ∀ s ∈ O, s < ρ.length
/-- what a statement does to the heap -/
structure Eff (d c m0 : Nat) (N : Nat → Prop) (h h' : IHeap) : Prop where
  len : h.length ≤ h'.length
  mv : ∀ i, i < m0 → i ≠ d → i ≠ c → h'[i]? = h[i]?
  kp : ∀ i x, h[i]? = some x → ¬ N i → h'[i]? = some x
section
variable {d c m0 : Nat} {h h' h1 h2 : IHeap} {A B N : Nat → Prop} {O : List Nat} {ρ ρp ρ' : Env'} {v w : PV} {σ σ' σ1 : Sg} {F : Nat → List PV → IHeap → Option (PV × IHeap)} {Fp : FP} {a b e : IE}
theorem OK.off (k : OK d c A m0 O ρ ρp h) : Inv' d c (Off A O ρ) h := ⟨.inl k.inv.d, .inl k.inv.c, fun j z => z.elim (k.inv.lt j) fun ⟨s, hs, e⟩ => by
  obtain ⟨j', xs, ws, q, _, _, _, e2, _⟩ := k.own s hs _ e
  cases q
  exact (List.getElem?_eq_some_iff.mp e2).1⟩
theorem OK.fr (k : OK d c A m0 O ρ ρp h) (s : Hs d c σ h) (f : Fr d c h h') : OK d c A m0 O ρ ρp h' where
  er := k.er.fr k.off f s
  inv := k.inv.fr f
  own := fun sl hs v e => by
    obtain ⟨j, xs, ws, q1, q2, q3, q4, q5, q6⟩ := k.own sl hs v e
    exact ⟨j, xs, ws, q1, q2, q3, q4, by
      rw [f.eq j (List.getElem?_eq_some_iff.mp q5).1 (fun z => by rw [z, s.dk] at q5; cases q5) (fun z => q4 (z ▸ k.inv.c))]; exact q5, q6.fr k.off f⟩
  one := k.one
  d0 := k.d0
  c0 := k.c0
  sl := k.sl
theorem Eff.of (k : OK d c A m0 O ρ ρp h) (hl : m0 ≤ h.length) (f : Fr d c h h') : Eff d c m0 (Off A O ρ) h h' :=
  ⟨f.len, fun i hi n1 n2 => f.eq i (by omega) n1 n2, fun i x e n => by
    rw [f.eq i (List.getElem?_eq_some_iff.mp e).1 (fun z => n (.inl (z ▸ k.inv.d))) (fun z => n (.inl (z ▸ k.inv.c)))]; exact e⟩
theorem Eff.tr {M : Nat → Prop} (a : Eff d c m0 N h h1) (b : Eff d c m0 M h1 h2) (mn : ∀ j, M j → N j ∨ h.length ≤ j) : Eff d c m0 N h h2 :=
  ⟨Nat.le_trans a.len b.len, fun i hi n1 n2 => (b.mv i hi n1 n2).trans (a.mv i hi n1 n2), fun i x e n => b.kp i x (a.kp i x e n) fun z => (mn i z).elim n fun z => by have := (List.getElem?_eq_some_iff.mp e).1; omega⟩
theorem Off.mono (g : ∀ j, Own O ρ' j → Own O ρ j ∨ h.length ≤ j) : ∀ j, Off A O ρ' j → Off A O ρ j ∨ h.length ≤ j := fun j z => z.elim (fun z => .inl (.inl z)) fun z => (g j z).elim (fun z => .inl (.inr z)) .inr
theorem own_set (hi : i ∉ O) : Own O (ρ.set i v') = Own O ρ := by
  funext j
  refine propext ⟨fun ⟨s, hs, e⟩ => ⟨s, hs, ?_⟩, fun ⟨s, hs, e⟩ => ⟨s, hs, ?_⟩⟩
  · rw [List.getElem?_set_ne (fun z : i = s => hi (z ▸ hs))] at e; exact e
  · rw [List.getElem?_set_ne (fun z : i = s => hi (z ▸ hs))]; exact e
theorem get_set {ρ : Env'} {i : Nat} {x y : Option PV} (e : (ρ.set i x)[i]? = some y) : x = y ∧ i < ρ.length := by
  by_cases hl : i < ρ.length
  · rw [List.getElem?_set_self hl] at e; exact ⟨Option.some.inj e, hl⟩
  · rw [List.getElem?_eq_none (by simpa using hl)] at e; cases e
/-- a slot that is no list's own -/
theorem OK.setS (k : OK d c A m0 O ρ ρp h) {i : Nat} (hi : i ∉ O) (r : Den d h (Off A O ρ) v w) : OK d c A m0 O (ρ.set i (some v)) (ρp.set i (some w)) h := by
  have ho : Own O (ρ.set i (some v)) = Own O ρ := own_set hi
  have hne : ∀ s ∈ O, i ≠ s := fun s hs z => hi (z ▸ hs)
  refine ⟨?_, k.inv, fun s hs x e => ?_, fun s hs s' hs' j e e' => ?_, k.d0, k.c0, fun s hs => by simpa using k.sl s hs⟩
  · unfold Off; rw [ho]; exact k.er.set hi r
  · rw [List.getElem?_set_ne (hne s hs)] at e
    rw [List.getElem?_set_ne (hne s hs)]
    unfold Off; rw [ho]
    exact k.own s hs x e
  · rw [List.getElem?_set_ne (hne s hs)] at e
    rw [List.getElem?_set_ne (hne s' hs')] at e'
    exact k.one s hs s' hs' j e e'

/-- a new list at j, which is now a slot's own -/
theorem OK.setO {B : Nat → Prop} (k : OK d c B m0 O ρ ρp h) (I : Inv' d c A h) {i j : Nat} {xs us : List PV} (hi : i ∈ O) (hl : i < ρ.length) (hB : ∀ n, B n ↔ A n ∨ n = j) (nj : m0 ≤ j) (nA : ¬ A j) (ej : h[j]? = some (.lst xs)) (r : Dens d h (Off B O ρ) xs us) :
    OK d c A m0 O (ρ.set i (some (.ref j))) (ρp.set i (some (.fl us))) h := by
  have hlp : i < ρp.length := by rw [← k.er.len]; exact hl
  have sub : ∀ n, Off A O (ρ.set i (some (.ref j))) n → Off B O ρ n := fun n z => by
    rcases z with z | ⟨s, hs, e⟩
    · exact .inl ((hB n).mpr (.inl z))
    · by_cases q : i = s
      · subst q
        have := (get_set e).1
        cases this
        exact .inl ((hB _).mpr (.inr rfl))
      · rw [List.getElem?_set_ne q] at e
        exact .inr ⟨s, hs, e⟩
  have mm : ∀ v w, Den d h (Off B O ρ) v w → Den d h (Off A O (ρ.set i (some (.ref j)))) v w := fun v w q => q.move fun n x e nn => ⟨e, fun z => nn (sub n z)⟩
  have r' := mv mm r
  have notown : ∀ s ∈ O, ρ[s]? ≠ some (some (.ref j)) := fun s hs e => by
    obtain ⟨j', _, _, q, _, _, q4, _⟩ := k.own s hs _ e
    cases q
    exact q4 ((hB j).mpr (.inr rfl))
  refine ⟨⟨by simpa using k.er.len, fun s w e => ?_⟩, I, fun s hs v e => ?_, fun s hs s' hs' n e e' => ?_, k.d0, k.c0, fun s hs => by simpa using k.sl s hs⟩
  · by_cases q : i = s
    · subst q
      obtain ⟨z, _⟩ := get_set e
      cases z
      exact ⟨_, List.getElem?_set_self hl, by rw [if_pos hi]; exact .lst (fun z => nA (z ▸ I.c)) ej r'⟩
    · rw [List.getElem?_set_ne q] at e
      obtain ⟨v, e2, q2⟩ := k.er.val s w e
      refine ⟨v, by rw [List.getElem?_set_ne q]; exact e2, ?_⟩
      split at q2
      · rename_i hs
        rw [if_pos hs]
        cases q2 with
        | den q2 => exact .den (mm _ _ q2)
        | lst n e3 q3 => exact .lst n e3 (mv mm q3)
      · rename_i hs
        rw [if_neg hs]
        exact mm _ _ q2
  · by_cases q : i = s
    · subst q
      obtain ⟨z, _⟩ := get_set e
      cases z
      exact ⟨j, xs, us, rfl, List.getElem?_set_self hlp, nj, nA, ej, r'⟩
    · rw [List.getElem?_set_ne q] at e
      obtain ⟨j', xs', ws', q1, q2, q3, q4, q5, q6⟩ := k.own s hs v e
      exact ⟨j', xs', ws', q1, by rw [List.getElem?_set_ne q]; exact q2, q3, fun z => q4 ((hB _).mpr (.inl z)), q5, mv mm q6⟩
  · by_cases q : i = s
    · subst q
      obtain ⟨z, _⟩ := get_set e
      cases z
      by_cases q' : i = s'
      · exact q'
      · rw [List.getElem?_set_ne q'] at e'
        exact absurd e' (notown s' hs')
    · rw [List.getElem?_set_ne q] at e
      by_cases q' : i = s'
      · subst q'
        obtain ⟨z, _⟩ := get_set e'
        cases z
        exact absurd e (notown s hs)
      · rw [List.getElem?_set_ne q'] at e'
        exact k.one s hs s' hs' n e e'
/-- new lists are kept off -/
theorem OK.more {B : Nat → Prop} (k : OK d c A m0 O ρ ρp h) (s : Hs d c σ h) (f : Fr d c h h') (hB : ∀ n, B n → A n ∨ h.length ≤ n) (hA : ∀ n, A n → B n) (hlt : ∀ n, B n → n < h'.length) : OK d c B m0 O ρ ρp h' := by
  have mm : ∀ v w, Den d h (Off A O ρ) v w → Den d h' (Off B O ρ) v w := fun v w q => q.move fun i x e n => ⟨(fr_move f k.off.d k.off.c i x e n).1, fun z => z.elim (fun z => (hB i z).elim (fun z => n (.inl z)) fun z => by have := (List.getElem?_eq_some_iff.mp e).1; omega) fun z => n (.inr z)⟩
  refine ⟨k.er.mv mm fun v w q => ?_, ⟨hA _ k.inv.d, hA _ k.inv.c, hlt⟩, fun sl hs v e => ?_, k.one, k.d0, k.c0, k.sl⟩
  · cases q with
    | den q => exact .den (mm _ _ q)
    | lst n e q => exact .lst n (by rw [f.eq _ (List.getElem?_eq_some_iff.mp e).1 (fun z => by rw [z, s.dk] at e; cases e) n]; exact e) (PI.mv mm q)
  · obtain ⟨j, xs, ws, q1, q2, q3, q4, q5, q6⟩ := k.own sl hs v e
    have hj := (List.getElem?_eq_some_iff.mp q5).1
    exact ⟨j, xs, ws, q1, q2, q3, fun z => (hB j z).elim q4 fun z => by omega, by
      rw [f.eq j hj (fun z => by rw [z, s.dk] at q5; cases q5) (fun z => q4 (z ▸ k.inv.c))]; exact q5, PI.mv mm q6⟩
/-- a list of a slot's own is changed -/
theorem OK.chg (k : OK d c A m0 O ρ ρp h) (s : Hs d c σ h) {o : Nat} {ws us : List PV} (ho : o ∈ O) (ep : ρp[o]? = some (some (.fl ws))) :
    ∃ j xs, ρ[o]? = some (some (.ref j)) ∧ h[j]? = some (.lst xs) ∧ Dens d h (Off A O ρ) xs ws ∧ ∀ ys us, Dens d h (Off A O ρ) ys us →
      OK d c A m0 O ρ (ρp.set o (some (.fl us))) (h.set j (.lst ys)) ∧ Hs d c σ (h.set j (.lst ys)) ∧ Eff d c m0 (Off A O ρ) h (h.set j (.lst ys)) := by
  obtain ⟨v, ev1, _⟩ := k.er.val o _ ep
  obtain ⟨j, xs, ws', rfl, q2, q3, q4, q5, q6⟩ := k.own o ho v ev1
  rw [ep] at q2
  cases q2
  refine ⟨j, xs, ev1, q5, q6, fun ys us r => ?_⟩
  have hj := (List.getElem?_eq_some_iff.mp q5).1
  have oj : Off A O ρ j := .inr ⟨o, ho, ev1⟩
  have jd : j ≠ d := fun z => q4 (z ▸ k.inv.d)
  have jc : j ≠ c := fun z => q4 (z ▸ k.inv.c)
  have mm : ∀ v w, Den d h (Off A O ρ) v w → Den d (h.set j (.lst ys)) (Off A O ρ) v w := fun v w q => q.move fun i x e n => ⟨by rw [List.getElem?_set_ne (fun z : j = i => n (z ▸ oj))]; exact e, n⟩
  have hlp : o < ρp.length := (List.getElem?_eq_some_iff.mp ep).1
  refine ⟨⟨⟨by simpa using k.er.len, fun sl w e => ?_⟩, ⟨k.inv.d, k.inv.c, fun n z => by rw [List.length_set]; exact k.inv.lt n z⟩, fun sl hs v e => ?_, k.one, k.d0, k.c0, k.sl⟩, ⟨by rw [List.getElem?_set_ne jd]; exact s.dk, by rw [List.getElem?_set_ne jc]; exact s.cl, s.ne⟩,
    ⟨by rw [List.length_set]; exact Nat.le_refl _, fun i hi _ _ => List.getElem?_set_ne (by omega), fun i x e n => by rw [List.getElem?_set_ne (fun z : j = i => n (z ▸ oj))]; exact e⟩⟩
  · by_cases q : o = sl
    · subst q
      obtain ⟨z, _⟩ := get_set e
      cases z
      exact ⟨_, ev1, by rw [if_pos ho]; exact .lst jc (List.getElem?_set_self hj) (PI.mv mm r)⟩
    · rw [List.getElem?_set_ne q] at e
      obtain ⟨v, e2, q2⟩ := k.er.val sl w e
      refine ⟨v, e2, ?_⟩
      split at q2
      · rename_i hs
        rw [if_pos hs]
        cases q2 with
        | den q2 => exact .den (mm _ _ q2)
        | @lst i _ _ n e3 q3 =>
          refine .lst n ?_ (PI.mv mm q3)
          rw [List.getElem?_set_ne (fun z : j = i => q (k.one o ho sl hs j ev1 (by rw [e2, z])))]
          exact e3
      · rename_i hs
        rw [if_neg hs]
        exact mm _ _ q2
  · obtain ⟨j', xs', ws', p1, p2, p3, p4, p5, p6⟩ := k.own sl hs v e
    subst p1
    by_cases q : o = sl
    · subst q
      rw [ev1] at e
      cases e
      exact ⟨j, ys, us, rfl, List.getElem?_set_self hlp, p3, p4, List.getElem?_set_self hj, PI.mv mm r⟩
    · exact ⟨j', xs', ws', rfl, by rw [List.getElem?_set_ne q]; exact p2, p3, p4, by
        rw [List.getElem?_set_ne (fun z : j = j' => q (k.one o ho sl hs j ev1 (by rw [e, z])))]; exact p5, PI.mv mm p6⟩
end
end PI
end

section
set_option Elab.async false
set_option linter.all false
set_option maxRecDepth 100000
set_option maxHeartbeats 8000000
namespace PI
open PySem PySem.Spec PyProof.Rows L2
section
variable {d c m0 : Nat} {h h' h1 h2 : IHeap} {A B N : Nat → Prop} {O : List Nat} {ρ ρp ρ' ρp' : Env'} {v w : PV} {σ σ' σ1 : Sg} {F : Nat → List PV → IHeap → Option (PV × IHeap)} {Fp : FP} {a b e : IE}
theorem pbin_flL {xs : List PV} {b w : PV} {op : Bop} (h : op = .add ∨ op = .mul) (e : pbin op (.fl xs) b = some w) : ∃ ws, w = .fl ws := by
  unfold pbin at e
  split at e
  · obtain ⟨_, rfl⟩ := if_some e; exact ⟨_, rfl⟩
  · obtain ⟨_, rfl⟩ := if_some e; exact ⟨_, rfl⟩
  · rcases h with rfl | rfl <;> simp [binop] at e
theorem pbin_flR {xs : List PV} {a w : PV} (e : pbin .add a (.fl xs) = some w) : ∃ ws, w = .fl ws := by
  unfold pbin at e
  split at e
  · obtain ⟨_, rfl⟩ := if_some e; exact ⟨_, rfl⟩
  · rename_i q _; cases q
  · simp [binop] at e
theorem fresh_fl : ∀ {e : IE} {ρ : Env'} {σ : Sg} {p : PV × Sg}, isFresh e = true → fe Fp e ρ σ = some p → ∃ ws, p.1 = .fl ws := by
  intro e
  induction e with
  | lst as _ =>
    intro ρ σ p _ e
    unfold fe at e
    obtain ⟨q, _, e⟩ := bnd e
    split at e
    · obtain ⟨_, e⟩ := if_some e; cases e; exact ⟨_, rfl⟩
    · cases e
  | lc vs tg k src ifs elt =>
    intro ρ σ p _ e
    rw [fe_lc] at e
    obtain ⟨q, _, e⟩ := bnd e
    obtain ⟨q, _, e⟩ := bnd e
    obtain ⟨q, _, e⟩ := bnd e
    split at e
    · cases e; exact ⟨_, rfl⟩
    · cases e
  | bin op a b iha ihb =>
    intro ρ σ p hf e
    unfold fe at e
    obtain ⟨q1, e1, e⟩ := bnd e
    obtain ⟨q2, e2, e⟩ := bnd e
    obtain ⟨q3, e3, e⟩ := bnd e
    cases e
    cases op <;> first | (simp [isFresh] at hf; done) | skip
    · unfold isFresh at hf
      simp only [Bool.or_eq_true] at hf
      rcases hf with hf | hf
      · obtain ⟨ws, q⟩ := iha hf e1
        rw [q] at e3
        exact pbin_flL (.inl rfl) e3
      · obtain ⟨ws, q⟩ := ihb hf e2
        rw [q] at e3
        exact pbin_flR e3
    · obtain ⟨ws, q⟩ := iha (by simpa [isFresh] using hf) e1
      rw [q] at e3
      exact pbin_flL (.inr rfl) e3
  | slc l r a lo hi iha _ _ =>
    intro ρ σ p hf e
    unfold fe at e
    obtain ⟨q1, e1, e⟩ := bnd e
    obtain ⟨q2, e2, e⟩ := bnd e
    obtain ⟨q3, e3, e⟩ := bnd e
    obtain ⟨q4, e4, e⟩ := bnd e
    cases e
    obtain ⟨ws, q⟩ := iha (by simpa [isFresh] using hf) e1
    rw [q] at e4
    cases e4
    exact ⟨_, rfl⟩
  | rev a _ =>
    intro ρ σ p hf e
    unfold fe at e
    obtain ⟨q1, e1, e⟩ := bnd e
    obtain ⟨q4, e4, e⟩ := bnd e
    cases e
    unfold prev at e4
    split at e4
    · cases e4; exact ⟨_, rfl⟩
    · cases e4
  | sts b a _ =>
    intro ρ σ p hf e
    cases b with
    | false => cases hf
    | true =>
      unfold fe at e
      obtain ⟨q1, e1, e⟩ := bnd e
      obtain ⟨q4, e4, e⟩ := bnd e
      cases e
      unfold psts at e4
      split at e4
      · obtain ⟨ns, _, e4⟩ := bnd e4
        obtain ⟨_, e4⟩ := if_some e4
        cases e4
        exact ⟨_, rfl⟩
      · cases e4
  | blt b as _ =>
    intro ρ σ p hf e
    unfold fe at e
    obtain ⟨q1, e1, e⟩ := bnd e
    split at e
    · obtain ⟨q4, e4, e⟩ := bnd e
      cases e
      cases b <;> first | (cases hf; done) | skip
      · unfold pblt at e4
        split at e4 <;> first | (cases e4; exact ⟨_, rfl⟩) | (cases e4; done) | (rename_i z; cases z; done) | skip
        all_goals simp_all
      · unfold pblt at e4
        split at e4 <;> first | (cases e4; exact ⟨_, rfl⟩) | (cases e4; done) | (rename_i z; cases z; done) | skip
        all_goals first | (obtain ⟨ns, _, e4⟩ := Option.map_eq_some_iff.mp e4; exact ⟨_, e4.symm⟩) | simp_all
    · cases e
  | _ => intro ρ σ p hf _; first | (cases hf; done) | (simp [isFresh] at hf)
/-- values and slots, side by side; N the new lists -/
inductive MR (d : Nat) (h : IHeap) (B : Nat → Prop) (O : List Nat) (m1 : Nat) : List Nat → List PV → List PV → List Nat → Prop
  | nil : MR d h B O m1 [] [] [] []
  | strict {i is v w vs ws N} : i ∉ O → Den d h B v w → MR d h B O m1 is vs ws N → MR d h B O m1 (i :: is) (v :: vs) (w :: ws) N
  | fresh {i is j xs us vs ws N} : i ∈ O → i ∉ is → h[j]? = some (.lst xs) → Dens d h B xs us → j ∉ N → m1 ≤ j → MR d h B O m1 is vs ws N → MR d h B O m1 (i :: is) (.ref j :: vs) (.fl us :: ws) (j :: N)
theorem MR.ge {m1 : Nat} {is : List Nat} {vs ws : List PV} {N : List Nat} (r : MR d h B O m1 is vs ws N) : ∀ j ∈ N, m1 ≤ j ∧ j < h.length := by
  induction r with
  | nil => intro j hj; cases hj
  | strict _ _ _ ih => exact ih
  | fresh _ _ e _ _ h1 _ ih =>
    intro j hj
    rcases List.mem_cons.mp hj with z | hj
    · subst z; exact ⟨h1, (List.getElem?_eq_some_iff.mp e).1⟩
    · exact ih j hj
theorem MR.mono {m1 : Nat} {C : Nat → Prop} {is : List Nat} {vs ws : List PV} {N : List Nat} (sub : ∀ j, C j → B j) (r : MR d h B O m1 is vs ws N) : MR d h C O m1 is vs ws N := by
  have mm : ∀ v w, Den d h B v w → Den d h C v w := fun v w q => q.move fun i x e n => ⟨e, fun z => n (sub i z)⟩
  induction r with
  | nil => exact .nil
  | strict a b _ ih => exact .strict a (mm _ _ b) ih
  | fresh a b e q n h1 _ ih => exact .fresh a b e (mv mm q) n h1 ih
theorem MR.low {m1 m2 : Nat} {is : List Nat} {vs ws : List PV} {N : List Nat} (l : m2 ≤ m1) (r : MR d h B O m1 is vs ws N) : MR d h B O m2 is vs ws N := by
  induction r with
  | nil => exact .nil
  | strict a b _ ih => exact .strict a b ih
  | fresh a b e q n h1 _ ih => exact .fresh a b e q n (Nat.le_trans l h1) ih
/-- the parts of a tuple that go to slots -/
theorem evM (hF : Sound d c F Fp) : ∀ {is : List Nat} {es : IE} {A : Nat → Prop} {σ : Sg} {h : IHeap} {p : PV × Sg}, chkM O is es = true → fe Fp es ρp σ = some p → Hs d c σ h → Inv' d c A h → ER d c h A O ρ ρp →
    ∃ ws vs h' N, p.1 = .tup ws ∧ ev F es ρ h = some (.tup vs, h') ∧ Fr d c h h' ∧ Hs d c p.2 h' ∧ MR d h' (fun j => A j ∨ j ∈ N) O h.length is vs ws N
  | [], .nil, A, σ, h, p, _, e, s, I, E => by cases e; exact ⟨[], [], h, [], rfl, rfl, .id, s, .nil⟩
  | i :: is, .cons a as, A, σ, h, p, hc, e, s, I, E => by
    unfold chkM at hc
    simp only [Bool.and_eq_true] at hc
    obtain ⟨hc1, hc2⟩ := hc
    unfold fe at e
    obtain ⟨⟨x, σ1⟩, e1, e⟩ := bnd e
    obtain ⟨⟨y, σ2⟩, e2, e⟩ := bnd e
    by_cases hi : O.contains i = true
    · rw [if_pos hi] at hc1
      simp only [Bool.and_eq_true, Bool.not_eq_true'] at hc1
      obtain ⟨⟨hf, hc1⟩, hn⟩ := hc1
      obtain ⟨v, h1, f1, F1, s1, r1⟩ := (fe_all hF O a).1 .fresh _ _ _ _ _ _ _ hc1 e1 s I E
      obtain ⟨us, z⟩ := fresh_fl hf e1
      simp only at z
      obtain ⟨j, xs, ws0, rfl, z2, hj, ej, q⟩ := r1.2 us z
      rw [z] at z2
      cases z2
      subst z
      have jl := (List.getElem?_eq_some_iff.mp ej).1
      have mm : ∀ v w, Den d h A v w → Den d h1 (fun n => A n ∨ n = j) v w := fun v w q => q.move fun i x e n => ⟨(fr_move F1 I.d I.c i x e n).1, fun z => z.elim n fun z => by have := (List.getElem?_eq_some_iff.mp e).1; omega⟩
      have I1 : Inv' d c (fun n => A n ∨ n = j) h1 := ⟨.inl I.d, .inl I.c, fun n z => z.elim (fun z => Nat.lt_of_lt_of_le (I.lt n z) F1.len) fun z => by omega⟩
      have E1 : ER d c h1 (fun n => A n ∨ n = j) O ρ ρp := E.mv mm fun v w q => by
        cases q with
        | den q => exact .den (mm _ _ q)
        | lst n e q => exact .lst n (by rw [F1.eq _ (List.getElem?_eq_some_iff.mp e).1 (fun z => by rw [z, s.dk] at e; cases e) n]; exact e) (mv mm q)
      obtain ⟨ws, vs, h2, N, e0, f2, F2, s2, M⟩ := evM hF hc2 e2 s1 I1 E1
      simp only at e0
      subst e0
      cases e
      have nj : j ∉ N := fun z => by have := (M.ge j z).1; omega
      refine ⟨_, .ref j :: vs, h2, j :: N, rfl, ?_, F1.tr F2, s2, ?_⟩
      · rw [ev_cons, f1]
        simp only [Option.bind_some]
        rw [f2]
        rfl
      · have hne : ∀ n, (A n ∨ n ∈ j :: N) → ((A n ∨ n = j) ∨ n ∈ N) := fun n z => z.elim (fun z => .inl (.inl z)) fun z => (List.mem_cons.mp z).elim (fun z => .inl (.inr z)) .inr
        have jd : j ≠ d := fun z => by have := I.lt _ I.d; omega
        have jc : j ≠ c := fun z => by have := I.lt _ I.c; omega
        refine .fresh (by simpa using hi) (by simpa using hn) (by rw [F2.eq j jl jd jc]; exact ej) ?_ nj hj ((M.low F1.len).mono hne)
        exact q.move fun i x e n => ⟨(fr_move F2 I.d I.c i x e fun z => n (.inl z)).1, fun z => z.elim (fun z => n (.inl z)) fun z => by
          have il := (List.getElem?_eq_some_iff.mp e).1
          rcases List.mem_cons.mp z with z | z
          · exact n (.inr z)
          · have := (M.ge i z).1; omega⟩
    · rw [if_neg hi] at hc1
      obtain ⟨v, h1, f1, F1, s1, I1, E1, D1⟩ := partS (fe_all hF O a).1 hc1 e1 s I E
      obtain ⟨ws, vs, h2, N, e0, f2, F2, s2, M⟩ := evM hF hc2 e2 s1 I1 E1
      simp only at e0
      subst e0
      cases e
      refine ⟨_, v :: vs, h2, N, rfl, ?_, F1.tr F2, s2, ?_⟩
      · rw [ev_cons, f1]
        simp only [Option.bind_some]
        rw [f2]
        rfl
      · refine .strict (by simpa using hi) ?_ (M.low F1.len)
        exact D1.move fun i x e n => ⟨(fr_move F2 I.d I.c i x e n).1, fun z => z.elim n fun z => by
          have := (M.ge i z).1
          have := (List.getElem?_eq_some_iff.mp e).1
          omega⟩
  | [], .cons _ _, _, _, _, _, hc, _, _, _, _ => by simp [chkM] at hc
  | _ :: _, .nil, _, _, _, _, hc, _, _, _, _ => by simp [chkM] at hc
  | _, .var _, _, _, _, _, hc, _, _, _, _ => by simp [chkM] at hc
  | _, .con _, _, _, _, _, hc, _, _, _, _ => by simp [chkM] at hc
  | _, .bin _ _ _, _, _, _, _, hc, _, _, _, _ => by simp [chkM] at hc
  | _, .cmp _ _ _, _, _, _, _, hc, _, _, _, _ => by simp [chkM] at hc
  | _, .chain _ _ _ _ _, _, _, _, _, hc, _, _, _, _ => by simp [chkM] at hc
  | _, .not _, _, _, _, _, hc, _, _, _, _ => by simp [chkM] at hc
  | _, .neg _, _, _, _, _, hc, _, _, _, _ => by simp [chkM] at hc
  | _, .and _ _, _, _, _, _, hc, _, _, _, _ => by simp [chkM] at hc
  | _, .or _ _, _, _, _, _, hc, _, _, _, _ => by simp [chkM] at hc
  | _, .ife _ _ _, _, _, _, _, hc, _, _, _, _ => by simp [chkM] at hc
  | _, .tup _, _, _, _, _, hc, _, _, _, _ => by simp [chkM] at hc
  | _, .lst _, _, _, _, _, hc, _, _, _, _ => by simp [chkM] at hc
  | _, .dic _ _, _, _, _, _, hc, _, _, _, _ => by simp [chkM] at hc
  | _, .idx _ _, _, _, _, _, hc, _, _, _, _ => by simp [chkM] at hc
  | _, .slc _ _ _ _ _, _, _, _, _, hc, _, _, _, _ => by simp [chkM] at hc
  | _, .rev _, _, _, _, _, hc, _, _, _, _ => by simp [chkM] at hc
  | _, .call _ _, _, _, _, _, hc, _, _, _, _ => by simp [chkM] at hc
  | _, .callK _ _ _ _, _, _, _, _, hc, _, _, _, _ => by simp [chkM] at hc
  | _, .blt _ _, _, _, _, _, hc, _, _, _, _ => by simp [chkM] at hc
  | _, .mth _ _ _, _, _, _, _, hc, _, _, _, _ => by simp [chkM] at hc
  | _, .lc _ _ _ _ _ _, _, _, _, _, hc, _, _, _, _ => by simp [chkM] at hc
  | _, .gen _ _ _ _ _ _ _, _, _, _, _, hc, _, _, _, _ => by simp [chkM] at hc
  | _, .sts _ _, _, _, _, _, hc, _, _, _, _ => by simp [chkM] at hc
end
end PI
end

section
set_option Elab.async false
set_option linter.all false
set_option maxRecDepth 100000
set_option maxHeartbeats 8000000
namespace PI
open PySem PySem.Spec PyProof.Rows L2
section
variable {d c m0 : Nat} {h h' h1 h2 : IHeap} {A B N : Nat → Prop} {O : List Nat} {ρ ρp ρ' ρp' : Env'} {v w : PV} {σ σ' σ1 : Sg} {F : Nat → List PV → IHeap → Option (PV × IHeap)} {Fp : FP} {a b e : IE} {t : Tg} {wf : Nat}
theorem own_setR {i j : Nat} : ∀ n, Own O (ρ.set i (some (.ref j))) n → Own O ρ n ∨ n = j := fun n ⟨s, hs, e⟩ => by
  by_cases q : i = s
  · subst q; obtain ⟨z, _⟩ := get_set e; cases z; exact .inr rfl
  · rw [List.getElem?_set_ne q] at e; exact .inl ⟨s, hs, e⟩
theorem setM {m1 : Nat} (hm : m0 ≤ m1) (hA : ∀ j, A j → j < m1) (I : Inv' d c A h) {is : List Nat} {vs ws : List PV} {N : List Nat} (r : MR d h B O m1 is vs ws N) : ∀ {ρ ρp ρp' : Env'}, (∀ j, Off (fun n => A n ∨ n ∈ N) O ρ j → B j) → OK d c (fun n => A n ∨ n ∈ N) m0 O ρ ρp h → setAll is ws ρp = some ρp' →
    ∃ ρ', setAll is vs ρ = some ρ' ∧ OK d c A m0 O ρ' ρp' h ∧ ∀ j, Own O ρ' j → Own O ρ j ∨ m1 ≤ j := by
  induction r with
  | nil => intro ρ ρp ρp' _ k e; cases e; exact ⟨ρ, rfl, by simpa using k, fun j z => .inl z⟩
  | @strict i is v w vs ws N hi dn rest ih =>
    intro ρ ρp ρp' sub k e
    have ho : Own O (ρ.set i (some v)) = Own O ρ := own_set hi
    obtain ⟨ρ', e', k', g⟩ := ih (ρ := ρ.set i (some v)) (by unfold Off; rw [ho]; exact sub) (k.setS hi (dn.move fun n x q z => ⟨q, fun y => z (sub n y)⟩)) e
    exact ⟨ρ', e', k', fun j z => by have := g j z; rw [ho] at this; exact this⟩
  | @fresh i is j xs us vs ws N hi hn ej q nj lj rest ih =>
    intro ρ ρp ρp' sub k e
    have nA : ¬ (A j ∨ j ∈ N) := fun z => z.elim (fun z => by have := hA j z; omega) nj
    have I' : Inv' d c (fun n => A n ∨ n ∈ N) h := ⟨.inl I.d, .inl I.c, fun n z => k.inv.lt n (z.imp id (List.mem_cons_of_mem _))⟩
    have hB : ∀ n, (A n ∨ n ∈ j :: N) ↔ ((A n ∨ n ∈ N) ∨ n = j) := fun n => by rw [List.mem_cons]; exact ⟨fun z => z.elim (fun z => .inl (.inl z)) fun z => z.elim .inr fun z => .inl (.inr z), fun z => z.elim (fun z => z.imp id .inr) fun z => .inr (.inl z)⟩
    have k1 := k.setO I' hi (k.sl i hi) hB (Nat.le_trans hm lj) nA ej (q.move fun n x q z => ⟨q, fun y => z (sub n y)⟩)
    obtain ⟨ρ', e', k', g⟩ := ih (ρ := ρ.set i (some (.ref j))) (fun n z => z.elim (fun z => sub n (.inl ((hB n).mpr (.inl z)))) fun z => (own_setR n z).elim (fun z => sub n (.inr z)) fun z => sub n (.inl ((hB n).mpr (.inr z)))) k1 e
    exact ⟨ρ', e', k', fun n z => (g n z).elim (fun z => (own_setR n z).imp id fun z => by omega) .inr⟩
/-! ### statements -/
def FlR (d c : Nat) (A : Nat → Prop) (m0 : Nat) (O : List Nat) (ρ : Env') (h h' : IHeap) : Fl → Fl → Prop
  | .nx ρ', .nx ρp' => OK d c A m0 O ρ' ρp' h' ∧ ∀ j, Own O ρ' j → Own O ρ j ∨ h.length ≤ j
  | .bk ρ', .bk ρp' => OK d c A m0 O ρ' ρp' h' ∧ ∀ j, Own O ρ' j → Own O ρ j ∨ h.length ≤ j
  | .ct ρ', .ct ρp' => OK d c A m0 O ρ' ρp' h' ∧ ∀ j, Own O ρ' j → Own O ρ j ∨ h.length ≤ j
  | .rt v, .rt w => Den d h' A v w
  | _, _ => False
def slotsOf : Fl → Option Env'
  | .nx ρ => some ρ
  | .bk ρ => some ρ
  | .ct ρ => some ρ
  | .rt _ => none
/-- what a statement comes to -/
def ExOk (d c : Nat) (F : Nat → List PV → IHeap → Option (PV × IHeap)) (wf : Nat) (s : IS) (A : Nat → Prop) (m0 : Nat) (O : List Nat) (ρ : Env') (h : IHeap) (flp : Fl) (σ' : Sg) : Prop :=
  ∃ fl h', ex F wf s ρ h = some (fl, h') ∧ Hs d c σ' h' ∧ Eff d c m0 (Off A O ρ) h h' ∧ FlR d c A m0 O ρ h h' fl flp ∧
    (still O s = true → Fr d c h h' ∧ ∀ ρ', slotsOf fl = some ρ' → ∀ s ∈ O, ρ'[s]? = ρ[s]?)
def OkS (d c : Nat) (O : List Nat) (F : Nat → List PV → IHeap → Option (PV × IHeap)) (Fp : FP) (wf : Nat) (s : IS) : Prop :=
  ∀ A m0 ρ ρp σ flp σ' h, chkS O s = true → fex Fp wf s ρp σ = some (flp, σ') → Hs d c σ h → OK d c A m0 O ρ ρp h → m0 ≤ h.length → ExOk d c F wf s A m0 O ρ h flp σ'
theorem Eff.id : Eff d c m0 N h h := ⟨Nat.le_refl _, fun _ _ _ _ => rfl, fun _ _ e _ => e⟩
theorem setAll_off : ∀ {is : List Nat} {xs : List PV} {ρ ρ' : Env'} {s : Nat}, s ∉ is → setAll is xs ρ = some ρ' → ρ'[s]? = ρ[s]?
  | [], [], _, _, _, _, e => by cases e; rfl
  | [], _ :: _, _, _, _, _, e => by cases e
  | _ :: _, [], _, _, _, _, e => by cases e
  | i :: is, x :: xs, ρ, ρ', s, hs, e => by
    have := setAll_off (fun z => hs (List.mem_cons_of_mem _ z)) e
    rw [this, List.getElem?_set_ne (fun z => hs (by rw [z]; exact List.mem_cons_self))]
theorem asg_off {v : PV} {s : Nat} (hs : s ∉ slots t) (e : assignT t v ρ = some ρ') : ρ'[s]? = ρ[s]? := by
  cases t with
  | nm i =>
    cases e
    rw [List.getElem?_set_ne (fun z => hs (by rw [z]; simp [slots]))]
  | tp is =>
    cases v with
    | tup xs => exact setAll_off hs e
    | _ => cases e
/-- slots that are no list's own -/
theorem asgS (k : OK d c A m0 O ρ ρp h) (o : offO O (slots t) = true) (r : Den d h (Off A O ρ) v w) (e : assignT t w ρp = some ρp') :
    ∃ ρ', assignT t v ρ = some ρ' ∧ OK d c A m0 O ρ' ρp' h ∧ Own O ρ' = Own O ρ ∧ ∀ s ∈ O, ρ'[s]? = ρ[s]? := by
  have fin : ∀ {ρ' : Env'}, assignT t v ρ = some ρ' → Own O ρ' = Own O ρ ∧ ∀ s ∈ O, ρ'[s]? = ρ[s]? := fun {ρ'} e => by
    have q : ∀ s ∈ O, ρ'[s]? = ρ[s]? := fun s hs => asg_off (fun z => off_mem o z hs) e
    refine ⟨?_, q⟩
    funext j
    exact propext ⟨fun ⟨s, hs, e⟩ => ⟨s, hs, by rw [← q s hs]; exact e⟩, fun ⟨s, hs, e⟩ => ⟨s, hs, by rw [q s hs]; exact e⟩⟩
  cases t with
  | nm i =>
    cases e
    exact ⟨_, rfl, k.setS (off_mem o (by simp [slots])) r, fin rfl⟩
  | tp is =>
    cases r with
    | tup r =>
      have go : ∀ {is : List Nat} {xs ws : List PV} {ρ ρp ρp' : Env'}, OK d c A m0 O ρ ρp h → Dens d h (Off A O ρ) xs ws → offO O is = true → setAll is ws ρp = some ρp' → ∃ ρ', setAll is xs ρ = some ρ' ∧ OK d c A m0 O ρ' ρp' h := by
        intro is
        induction is with
        | nil =>
          intro xs ws ρ ρp ρp' k r _ e
          cases r with
          | nil => cases e; exact ⟨_, rfl, k⟩
          | cons _ _ => cases e
        | cons i is ih =>
          intro xs ws ρ ρp ρp' k r o e
          cases r with
          | nil => cases e
          | @cons x w xs ws r rs =>
            have o1 := off_mem o (i := i) (by simp)
            have o2 : offO O is = true := by unfold offO at o ⊢; rw [List.all_cons] at o; simp only [Bool.and_eq_true] at o; exact o.2
            have ho : Own O (ρ.set i (some x)) = Own O ρ := own_set o1
            exact ih (ρ := ρ.set i (some x)) (k.setS o1 r) (by unfold Off; rw [ho]; exact rs) o2 e
      obtain ⟨ρ', e', k'⟩ := go k r o e
      exact ⟨ρ', e', k', fin e'⟩
    | _ => cases e
end
end PI
end

section
set_option Elab.async false
set_option linter.all false
set_option maxRecDepth 100000
set_option maxHeartbeats 8000000
namespace PI
open PySem PySem.Spec PyProof.Rows L2
section
variable {d c m0 : Nat} {h h' h1 h2 : IHeap} {A B N : Nat → Prop} {O : List Nat} {ρ ρp ρ' ρp' : Env'} {v w : PV} {σ σ' σ1 : Sg} {F : Nat → List PV → IHeap → Option (PV × IHeap)} {Fp : FP} {a b e : IE} {t : Tg} {wf : Nat} {fl flp : Fl} {s r : IS}
theorem ex_asg' {ρ : Env'} {h : IHeap} : ex F wf (.asg t e) ρ h = (ev F e ρ h).bind fun p => (assignT t p.1 ρ).bind fun ρ' => some (.nx ρ', p.2) := rfl
theorem ExOk.nx {ρ1 ρp1 : Env'} (e : ex F wf s ρ h = some (.nx ρ1, h')) (hs : Hs d c σ' h') (ef : Eff d c m0 (Off A O ρ) h h') (k : OK d c A m0 O ρ1 ρp1 h') (g : ∀ j, Own O ρ1 j → Own O ρ j ∨ h.length ≤ j)
    (st : still O s = true → Fr d c h h' ∧ ∀ s ∈ O, ρ1[s]? = ρ[s]?) : ExOk d c F wf s A m0 O ρ h (.nx ρp1) σ' :=
  ⟨_, h', e, hs, ef, ⟨k, g⟩, fun z => ⟨(st z).1, fun ρ' q => by cases q; exact (st z).2⟩⟩
theorem asgN {is : List Nat} {vs ws : List PV} {N : List Nat} {h0 : IHeap} (k : OK d c A m0 O ρ ρp h0) (hl : m0 ≤ h0.length) (hs0 : Hs d c σ h0) (f : Fr d c h0 h) (M : MR d h (fun j => Off A O ρ j ∨ j ∈ N) O h0.length is vs ws N) (e : setAll is ws ρp = some ρp') :
    ∃ ρ', setAll is vs ρ = some ρ' ∧ OK d c A m0 O ρ' ρp' h ∧ ∀ j, Own O ρ' j → Own O ρ j ∨ h0.length ≤ j := by
  have I : Inv' d c A h := k.inv.fr f
  have k1 : OK d c (fun n => A n ∨ n ∈ N) m0 O ρ ρp h := k.more hs0 f (fun n z => z.imp id fun z => (M.ge n z).1) (fun n z => .inl z) fun n z => z.elim (I.lt n) fun z => (M.ge n z).2
  exact setM hl (fun j z => k.inv.lt j z) I M (fun j z => z.elim (fun z => z.imp .inl id) fun z => .inl (.inr z)) k1 e
theorem okS_asg (hF : Sound d c F Fp) : OkS d c O F Fp wf (.asg t e) := by
  intro A m0 ρ ρp σ flp σ' h hc e1 s k hl
  unfold fex at e1
  obtain ⟨⟨x, σ1⟩, a1, e1⟩ := bnd e1
  obtain ⟨ρp1, a2, e1⟩ := bnd e1
  cases e1
  have hc : chkA O t e = true := hc
  have strict : offO O (slots t) = true → chk O e .strict = true → ExOk d c F wf (.asg t e) A m0 O ρ h (.nx ρp1) σ1 := fun ho hc => by
    obtain ⟨v, h1, f1, F1, s1, I1, E1, D1⟩ := partS (fe_all hF O e).1 hc a1 s k.off k.er
    have k1 := k.fr s F1
    obtain ⟨ρ1, b1, k2, hO, same⟩ := asgS k1 ho D1 a2
    exact .nx (by rw [ex_asg', f1]; simp only [Option.bind_some]; rw [b1]; rfl) s1 (.of k hl F1) k2 (fun j z => .inl (by rw [← hO]; exact z)) fun _ => ⟨F1, same⟩
  unfold chkA at hc
  cases t with
  | nm i =>
    simp only at hc
    by_cases hi : O.contains i = true
    · rw [if_pos hi] at hc
      simp only [Bool.and_eq_true] at hc
      obtain ⟨v, h1, f1, F1, s1, r1⟩ := (fe_all hF O e).1 .fresh _ _ _ _ _ _ _ hc.2 a1 s k.off k.er
      obtain ⟨us, z⟩ := fresh_fl hc.1 a1
      simp only at z
      obtain ⟨j, xs, ws0, rfl, z2, hj, ej, q⟩ := r1.2 us z
      rw [z] at z2
      cases z2
      subst z
      have M : MR d h1 (fun n => Off A O ρ n ∨ n ∈ [j]) O h.length [i] [.ref j] [.fl us] [j] := .fresh (by simpa using hi) (by simp) ej (q.move fun i x e n => ⟨e, fun z => n (by simpa using z)⟩) (by simp) hj .nil
      obtain ⟨ρ1, b1, k2, g⟩ := asgN k hl s F1 M (show setAll [i] [.fl us] ρp = some ρp1 from a2)
      refine .nx (by rw [ex_asg', f1]; simp only [Option.bind_some]; rw [show assignT (.nm i) (.ref j) ρ = some ρ1 from b1]; rfl) s1 (.of k hl F1) k2 g fun z => ?_
      exfalso
      unfold still offO at z
      simp only [slots, List.all_cons, List.all_nil, hi] at z
      cases z
    · rw [if_neg hi] at hc
      exact strict (by unfold offO; simp only [slots, List.all_cons, List.all_nil]; simp at hi ⊢; exact hi) hc
  | tp is =>
    simp only at hc
    by_cases ho : offO O is = true
    · rw [if_pos ho] at hc
      exact strict ho hc
    · rw [if_neg ho] at hc
      cases e <;> first | (cases hc; done) | skip
      rename_i es
      unfold fe at a1
      obtain ⟨p, a3, a1⟩ := bnd a1
      obtain ⟨ws, vs, h1, N, e0, f1, F1, s1, M⟩ := evM hF hc a3 s k.off k.er
      rw [e0] at a1
      simp only at a1
      obtain ⟨hp, a1⟩ := if_some a1
      cases a1
      obtain ⟨ρ1, b1, k2, g⟩ := asgN k hl s F1 M a2
      have lens : vs.length = ws.length := by
        have : ∀ {is : List Nat} {vs ws : List PV} {N : List Nat} {B : Nat → Prop} {m1 : Nat}, MR d h1 B O m1 is vs ws N → vs.length = ws.length := fun r => by
          induction r with
          | nil => rfl
          | strict _ _ _ ih => simp [ih]
          | fresh _ _ _ _ _ _ _ ih => simp [ih]
        exact this M
      refine .nx (by rw [ex_asg', ev_tup', f1]; simp only [Option.bind_some]; rw [if_pos (by rw [lens]; exact hp)]; simp only [Option.bind_some]; rw [show assignT (.tp is) (.tup vs) ρ = some ρ1 from b1]; rfl) s1 (.of k hl F1) k2 g fun z => ?_
      exact absurd z ho
theorem ex_ret' {ρ : Env'} {h : IHeap} : ex F wf (.ret e) ρ h = (ev F e ρ h).bind fun p => some (.rt p.1, p.2) := rfl
theorem okS_ret (hF : Sound d c F Fp) : OkS d c O F Fp wf (.ret e) := by
  intro A m0 ρ ρp σ flp σ' h hc e1 s k hl
  unfold fex at e1
  obtain ⟨⟨x, σ1⟩, a1, e1⟩ := bnd e1
  cases e1
  have hc : (match varOf e with | some _ => true | none => chk O e .strict) = true := hc
  have weak : ∀ {h : IHeap} {v w : PV}, Den d h (Off A O ρ) v w → Den d h A v w := fun q => q.move fun i x e n => ⟨e, fun z => n (.inl z)⟩
  cases hv : varOf e with
  | some o =>
    cases e <;> first | (cases hv; done) | skip
    cases hv
    unfold fe at a1
    split at a1
    · rename_i w0 ew
      cases a1
      obtain ⟨v, ev1, q⟩ := k.er.val _ _ ew
      refine ⟨.rt v, h, by rw [ex_ret']; show Option.bind (match ρ[o]? with | some (some v) => some (v, h) | _ => none) _ = _; rw [ev1]; rfl, s, .id, ?_, fun _ => ⟨.id, fun ρ' z => by cases z⟩⟩
      show Den d h A v _
      split at q
      · rename_i ho
        obtain ⟨j, xs, ws, rfl, q2, q3, q4, q5, q6⟩ := k.own o ho v ev1
        rw [ew] at q2
        cases q2
        exact .lst q4 q5 (q6.move fun i x e n => ⟨e, fun z => n (.inl z)⟩)
      · exact weak q
    · cases a1
  | none =>
    rw [hv] at hc
    obtain ⟨v, h1, f1, F1, s1, I1, E1, D1⟩ := partS (fe_all hF O e).1 hc a1 s k.off k.er
    exact ⟨.rt v, h1, by rw [ex_ret', f1]; rfl, s1, .of k hl F1, weak D1, fun _ => ⟨F1, fun ρ' z => by cases z⟩⟩
theorem ex_aug' {ρ : Env'} {h : IHeap} {i : Nat} {op : Bop} : ex F wf (.aug i op e) ρ h = (match ρ[i]? with | some (some x) => (ev F e ρ h).bind fun p => (augop op x p.1 p.2).bind fun q => some (.nx (ρ.set i (some q.1)), q.2) | _ => none) := rfl
theorem okS_aug (hF : Sound d c F Fp) {i : Nat} {op : Bop} : OkS d c O F Fp wf (.aug i op e) := by
  intro A m0 ρ ρp σ flp σ' h hc e1 s k hl
  unfold chkS at hc
  simp only [Bool.and_eq_true, Bool.not_eq_true'] at hc
  have hi : i ∉ O := by simpa using hc.1
  unfold fex at e1
  split at e1
  · rename_i x0 ex0
    obtain ⟨⟨x, σ1⟩, a1, e1⟩ := bnd e1
    obtain ⟨z, a2, e1⟩ := bnd e1
    cases e1
    obtain ⟨v0, ev0, q0⟩ := k.er.val _ _ ex0
    rw [if_neg hi] at q0
    obtain ⟨v, h1, f1, F1, s1, I1, E1, T1⟩ := part (fe_all hF O e).1 hc.2 a1 s k.off k.er
    have k1 := k.fr s F1
    obtain ⟨v2, h2, f2, G2, D2, _⟩ := aug_ok (.den (q0.fr k.off F1)) T1 a2
    have k2 := k1.fr s1 (Gr.fr G2)
    have ho : Own O (ρ.set i (some v2)) = Own O ρ := own_set hi
    refine .nx (by rw [ex_aug', ev0]; simp only; rw [f1]; simp only [Option.bind_some]; rw [f2]; rfl) (s1.gr G2) (.of k hl (F1.tr (Gr.fr G2))) (k2.setS hi D2) (fun j z => .inl (by rw [← ho]; exact z)) fun _ => ⟨F1.tr (Gr.fr G2), fun s hs => List.getElem?_set_ne (fun z : i = s => hi (z ▸ hs))⟩
  · cases e1
theorem app_some {o : Nat} {kk : List PV → Option (List PV)} (e : appP o ρp kk = some ρp') : ∃ ws us, ρp[o]? = some (some (.fl ws)) ∧ kk ws = some us ∧ ρp' = ρp.set o (some (.fl us)) := by
  unfold appP at e
  split at e
  · rename_i ws q
    obtain ⟨us, e1, e2⟩ := Option.map_eq_some_iff.mp e
    exact ⟨ws, us, q, e1, e2.symm⟩
  · cases e
theorem ex_ex' {ρ : Env'} {h : IHeap} : ex F wf (.ex e) ρ h = (ev F e ρ h).bind fun p => some (.nx ρ, p.2) := rfl
theorem mtOf_ok {q : Mt} (h : mtOf e = some q) : (∃ o a, q = .app o a ∧ e = .mth .append (.var o) (.cons a .nil)) ∨ ∃ o a, q = .ext o a ∧ e = .mth .extend (.var o) (.cons a .nil) := by
  unfold mtOf at h
  split at h
  · cases h; exact .inl ⟨_, _, rfl, rfl⟩
  · cases h; exact .inr ⟨_, _, rfl, rfl⟩
  · cases h
theorem ev_mthV {m : Mth} {o j : Nat} {xs : List PV} {v : PV} (e1 : ρ[o]? = some (some (.ref j))) (e2 : h[j]? = some (.lst xs)) (f : ev F a ρ h = some (v, h1)) : ev F (.mth m (.var o) (.cons a .nil)) ρ h = mthop m (.ref j) [v] h1 := by
  have l : isLst h (.ref j) = true := by simp [isLst, e2]
  have x : ev F (.var o) ρ h = some (.ref j, h) := by show (match ρ[o]? with | some (some v) => some (v, h) | _ => none) = _; rw [e1]
  rw [ev_mth, x]
  simp only [Option.bind_some]
  rw [if_pos l, ev_cons, f]
  rfl
theorem okS_ex (hF : Sound d c F Fp) : OkS d c O F Fp wf (.ex e) := by
  intro A m0 ρ ρp σ flp σ' h hc e1 s k hl
  unfold chkS at hc
  unfold fex at e1
  cases hm : mtOf e with
  | none =>
    rw [hm] at hc e1
    obtain ⟨⟨x, σ1⟩, a1, e1⟩ := bnd e1
    cases e1
    obtain ⟨v, h1, f1, F1, s1, I1, E1, D1⟩ := partS (fe_all hF O e).1 hc a1 s k.off k.er
    exact .nx (by rw [ex_ex', f1]; rfl) s1 (.of k hl F1) (k.fr s F1) (fun j z => .inl z) fun _ => ⟨F1, fun _ _ => rfl⟩
  | some q =>
    rw [hm] at hc e1
    have ns : still O (.ex e) = true → False := fun z => by unfold still at z; rw [hm] at z; cases z
    rcases mtOf_ok hm with ⟨o, a, rfl, rfl⟩ | ⟨o, a, rfl, rfl⟩
    · simp only [Bool.and_eq_true] at hc
      have ho : o ∈ O := by simpa using hc.1
      obtain ⟨⟨x, σ1⟩, a1, e1⟩ := bnd e1
      obtain ⟨ρp1, a2, e1⟩ := bnd e1
      cases e1
      obtain ⟨ws, us, ep, eu, rfl⟩ := app_some a2
      obtain ⟨hp, rfl⟩ := if_some eu
      obtain ⟨v, h1, f1, F1, s1, I1, E1, D1⟩ := partS (fe_all hF O a).1 hc.2 a1 s k.off k.er
      have k1 := k.fr s F1
      obtain ⟨j, xs, ej, exs, qd, chg⟩ := k1.chg (us := []) s1 ho ep
      obtain ⟨j0, xs0, ej0, exs0, _, _⟩ := k.chg (us := []) s ho ep
      rw [ej] at ej0
      cases ej0
      obtain ⟨k2, s2, ef⟩ := chg (xs ++ [v]) (ws ++ [x]) (qd.append (.cons D1 .nil))
      refine .nx ?_ s2 ((Eff.of k hl F1).tr ef fun j z => .inl z) k2 (fun j z => .inl z) fun z => (ns z).elim
      rw [ex_ex', ev_mthV ej exs0 f1]
      simp only [mthop, exs]
      rw [if_pos (by rw [qd.length]; exact hp)]
      rfl
    · simp only [Bool.and_eq_true] at hc
      have ho : o ∈ O := by simpa using hc.1
      obtain ⟨⟨x, σ1⟩, a1, e1⟩ := bnd e1
      simp only at e1
      split at e1
      · rename_i ys
        obtain ⟨ρp1, a2, e1⟩ := bnd e1
        cases e1
        obtain ⟨ws, us, ep, eu, rfl⟩ := app_some a2
        obtain ⟨hp, rfl⟩ := if_some eu
        obtain ⟨v, h1, f1, F1, s1, I1, E1, T1⟩ := part (fe_all hF O a).1 hc.2 a1 s k.off k.er
        obtain ⟨i, vs, rfl, ei, qv⟩ := T1.fl
        have k1 := k.fr s F1
        obtain ⟨j, xs, ej, exs, qd, chg⟩ := k1.chg (us := []) s1 ho ep
        obtain ⟨j0, xs0, ej0, exs0, _, _⟩ := k.chg (us := []) s ho ep
        rw [ej] at ej0
        cases ej0
        obtain ⟨k2, s2, ef⟩ := chg (xs ++ vs) (ws ++ ys) (qd.append qv)
        refine .nx ?_ s2 ((Eff.of k hl F1).tr ef fun j z => .inl z) k2 (fun j z => .inl z) fun z => (ns z).elim
        rw [ex_ex', ev_mthV ej exs0 f1]
        simp only [mthop, exs, ei]
        rw [if_pos (by rw [qd.length, qv.length]; exact hp)]
        rfl
      · cases e1
theorem ex_sub' {ρ : Env'} {h : IHeap} {o i : IE} : ex F wf (.sub o i e) ρ h = (ev F e ρ h).bind fun p => (ev F o ρ p.2).bind fun q => (ev F i ρ q.2).bind fun u => (setop q.1 u.1 p.1 u.2).bind fun h4 => some (.nx ρ, h4) := rfl
theorem okS_sub (hF : Sound d c F Fp) {o i : IE} : OkS d c O F Fp wf (.sub o i e) := by
  intro A m0 ρ ρp σ flp σ' h hc e1 s k hl
  unfold chkS at hc
  unfold fex at e1
  simp only [Bool.and_eq_true] at hc
  cases hv : varOf o with
  | none => rw [hv] at e1; cases e1
  | some o' =>
    rw [hv] at e1 hc
    cases o <;> first | (cases hv; done) | skip
    cases hv
    have ho : o' ∈ O := by simpa using hc.1.1
    obtain ⟨⟨x, σ1⟩, a1, e1⟩ := bnd e1
    obtain ⟨⟨y, σ2⟩, a2, e1⟩ := bnd e1
    simp only at e1
    split at e1
    · rename_i n
      obtain ⟨ρp1, a3, e1⟩ := bnd e1
      cases e1
      obtain ⟨ws, us, ep, eu, rfl⟩ := app_some a3
      obtain ⟨m, em, rfl⟩ := Option.map_eq_some_iff.mp eu
      obtain ⟨v, h1, f1, F1, s1, I1, E1, D1⟩ := partS (fe_all hF O e).1 hc.2 a1 s k.off k.er
      have k1 := k.fr s F1
      obtain ⟨v2, h2, f2, F2, s2, I2, E2, T2⟩ := part (fe_all hF O i).1 hc.1.2 a2 s1 k1.off k1.er
      have := T2.int
      subst this
      have k2 := k1.fr s1 F2
      obtain ⟨j, xs, ej, exs, qd, chg⟩ := k2.chg (us := []) s2 ho ep
      obtain ⟨k3, s3, ef⟩ := chg (xs.set m v) (ws.set m x) (.set (D1.fr k1.off F2) m qd)
      refine .nx ?_ s3 ((Eff.of k hl (F1.tr F2)).tr ef fun j z => .inl z) k3 (fun j z => .inl z) fun z => by cases z
      have xv : ∀ h : IHeap, ev F (.var o') ρ h = some (.ref j, h) := fun h => by show (match ρ[o']? with | some (some v) => some (v, h) | _ => none) = _; rw [ej]
      rw [ex_sub', f1]
      simp only [Option.bind_some]
      rw [xv]
      simp only [Option.bind_some]
      rw [f2]
      simp only [Option.bind_some, setop, exs]
      rw [qd.length, em]
      rfl
    · cases e1
end
end PI
end

section
set_option Elab.async false
set_option linter.all false
set_option maxRecDepth 100000
set_option maxHeartbeats 8000000
namespace PI
open PySem PySem.Spec PyProof.Rows L2
section
variable {d c m0 : Nat} {h h' h1 h2 : IHeap} {A B N : Nat → Prop} {O : List Nat} {ρ ρp ρ' ρp' : Env'} {v w : PV} {σ σ' σ1 : Sg} {F : Nat → List PV → IHeap → Option (PV × IHeap)} {Fp : FP} {a b e x : IE} {t : Tg} {wf : Nat} {fl flp : Fl} {s r : IS}
theorem ex_seq' {ρ : Env'} {h : IHeap} : ex F wf (.seq s r) ρ h = (ex F wf s ρ h).bind fun p => match p.1 with | .nx ρ' => ex F wf r ρ' p.2 | fl => some (fl, p.2) := rfl
/-- one statement and what follows -/
theorem FlR.then {h2 : IHeap} (g : ∀ j, Own O ρ' j → Own O ρ j ∨ h.length ≤ j) (l : h.length ≤ h1.length) (q : FlR d c A m0 O ρ' h1 h2 fl flp) : FlR d c A m0 O ρ h h2 fl flp := by
  have tr : ∀ {ρ2 : Env'}, (∀ j, Own O ρ2 j → Own O ρ' j ∨ h1.length ≤ j) → ∀ j, Own O ρ2 j → Own O ρ j ∨ h.length ≤ j := fun g2 j z => (g2 j z).elim (g j) fun z => .inr (by omega)
  cases fl <;> cases flp <;> first | exact q.elim | exact ⟨q.1, tr q.2⟩ | exact q
theorem okS_seq (hs : OkS d c O F Fp wf s) (hr : OkS d c O F Fp wf r) : OkS d c O F Fp wf (.seq s r) := by
  intro A m0 ρ ρp σ flp σ' h hc e1 sh k hl
  unfold chkS at hc
  simp only [Bool.and_eq_true] at hc
  unfold fex at e1
  obtain ⟨⟨fl1, σ1⟩, a1, e1⟩ := bnd e1
  obtain ⟨f1, h1, b1, s1, ef1, r1, st1⟩ := hs A m0 ρ ρp σ fl1 σ1 h hc.1 a1 sh k hl
  have stop : ∀ {fl}, f1 = fl → (∀ ρ, fl ≠ .nx ρ) → some (fl1, σ1) = some (flp, σ') → ExOk d c F wf (.seq s r) A m0 O ρ h flp σ' := fun {fl} z nn q => by
    subst z
    cases q
    refine ⟨f1, h1, ?_, s1, ef1, r1, fun z => ?_⟩
    · rw [ex_seq', b1]
      cases f1 <;> first | exact absurd rfl (nn _) | rfl
    · unfold still at z
      simp only [Bool.and_eq_true] at z
      exact st1 z.1
  cases fl1 with
  | nx ρp1 =>
    cases f1 <;> first | exact r1.elim | skip
    rename_i ρ1
    obtain ⟨k1, g1⟩ := r1
    obtain ⟨f2, h2, b2, s2, ef2, r2, st2⟩ := hr A m0 ρ1 ρp1 σ1 flp σ' h1 hc.2 e1 s1 k1 (Nat.le_trans hl ef1.len)
    refine ⟨f2, h2, by rw [ex_seq', b1]; exact b2, s2, ef1.tr ef2 (Off.mono g1), r2.then g1 ef1.len, fun z => ?_⟩
    unfold still at z
    simp only [Bool.and_eq_true] at z
    obtain ⟨F1, q1⟩ := st1 z.1
    obtain ⟨F2, q2⟩ := st2 z.2
    exact ⟨F1.tr F2, fun ρ' e sl hs => (q2 ρ' e sl hs).trans (q1 ρ1 rfl sl hs)⟩
  | bk ρp1 => cases f1 <;> first | exact r1.elim | exact stop rfl (fun _ z => by cases z) e1
  | ct ρp1 => cases f1 <;> first | exact r1.elim | exact stop rfl (fun _ z => by cases z) e1
  | rt w => cases f1 <;> first | exact r1.elim | exact stop rfl (fun _ z => by cases z) e1
theorem ex_if' {ρ : Env'} {h : IHeap} : ex F wf (.ife x s r) ρ h = ((ev F x ρ h).bind fun q => (truthy q.2 q.1).bind fun b => some (b, q.2)).bind fun p => if p.1 = true then ex F wf s ρ p.2 else ex F wf r ρ p.2 := rfl
theorem ExOk.after (k : OK d c A m0 O ρ ρp h) (hl : m0 ≤ h.length) (F1 : Fr d c h h1) (q : ExOk d c F wf s A m0 O ρ h1 flp σ') {t : IS} (ht : ∀ p, ex F wf s ρ h1 = some p → ex F wf t ρ h = some p) (st : still O t = true → still O s = true) : ExOk d c F wf t A m0 O ρ h flp σ' := by
  obtain ⟨fl, h2, e, s2, ef, r, st1⟩ := q
  exact ⟨fl, h2, ht _ e, s2, (Eff.of k hl F1).tr ef fun j z => .inl z, r.then (fun j z => .inl z) F1.len, fun z => ⟨F1.tr (st1 (st z)).1, (st1 (st z)).2⟩⟩
theorem okS_ife (hF : Sound d c F Fp) (hs : OkS d c O F Fp wf s) (hr : OkS d c O F Fp wf r) : OkS d c O F Fp wf (.ife x s r) := by
  intro A m0 ρ ρp σ flp σ' h hc e1 sh k hl
  unfold chkS at hc
  simp only [Bool.and_eq_true] at hc
  unfold fex at e1
  obtain ⟨⟨y, σ1⟩, a1, e1⟩ := bnd e1
  obtain ⟨z, a2, e1⟩ := bnd e1
  obtain ⟨v1, h1, f1, F1, s1, I1, E1, T1⟩ := part (fe_all hF O x).1 hc.1.1 a1 sh k.off k.er
  have t1 := truth_ok T1 a2
  have k1 := k.fr sh F1
  cases z with
  | true =>
    simp only [if_true] at e1
    refine (hs A m0 ρ ρp σ1 flp σ' h1 hc.1.2 e1 s1 k1 (Nat.le_trans hl F1.len)).after k hl F1 (fun p e => ?_) fun z => ?_
    · rw [ex_if', f1]; simp only [Option.bind_some]; rw [t1]; simp only [Option.bind_some, if_true]; exact e
    · unfold still at z; simp only [Bool.and_eq_true] at z; exact z.1
  | false =>
    simp only [Bool.false_eq_true, if_false] at e1
    refine (hr A m0 ρ ρp σ1 flp σ' h1 hc.2 e1 s1 k1 (Nat.le_trans hl F1.len)).after k hl F1 (fun p e => ?_) fun z => ?_
    · rw [ex_if', f1]; simp only [Option.bind_some]; rw [t1]; simp only [Option.bind_some, Bool.false_eq_true, if_false]; exact e
    · unfold still at z; simp only [Bool.and_eq_true] at z; exact z.2
theorem ex_wh' {ρ : Env'} {h : IHeap} : ex F wf (.while_ x s) ρ h = whileN (fun ρ h => (ev F x ρ h).bind fun q => (truthy q.2 q.1).bind fun b => some (b, q.2)) (ex F wf s) wf ρ h := rfl
theorem okS_while (hF : Sound d c F Fp) (hs : OkS d c O F Fp wf s) : OkS d c O F Fp wf (.while_ x s) := by
  intro A m0 ρ ρp σ flp σ' h hc e1 sh k hl
  unfold chkS at hc
  simp only [Bool.and_eq_true] at hc
  unfold fex at e1
  have go : ∀ (f : Nat) {ρ ρp : Env'} {σ : Sg} {h : IHeap}, whileP (fun ρ σ => (fe Fp x ρ σ).bind fun p => (truthy [] p.1).bind fun r => some (r, p.2)) (fex Fp wf s) f ρp σ = some (flp, σ') → Hs d c σ h → OK d c A m0 O ρ ρp h → m0 ≤ h.length →
      ∃ fl h', whileN (fun ρ h => (ev F x ρ h).bind fun q => (truthy q.2 q.1).bind fun b => some (b, q.2)) (ex F wf s) f ρ h = some (fl, h') ∧ Hs d c σ' h' ∧ Eff d c m0 (Off A O ρ) h h' ∧ FlR d c A m0 O ρ h h' fl flp ∧
        (still O s = true → Fr d c h h' ∧ ∀ ρ', slotsOf fl = some ρ' → ∀ s ∈ O, ρ'[s]? = ρ[s]?) := by
    intro f
    induction f with
    | zero => intro ρ ρp σ h e; cases e
    | succ f ih =>
      intro ρ ρp σ h e1 sh k hl
      unfold whileP at e1
      unfold whileN
      obtain ⟨⟨z, σ1⟩, a1, e1⟩ := bnd e1
      obtain ⟨⟨y, σ0⟩, a0, a1⟩ := bnd a1
      obtain ⟨z', a2, a1⟩ := bnd a1
      cases a1
      obtain ⟨v1, h1, f1, F1, s1, I1, E1, T1⟩ := part (fe_all hF O x).1 hc.1 a0 sh k.off k.er
      have t1 := truth_ok T1 a2
      have k1 := k.fr sh F1
      have hl1 := Nat.le_trans hl F1.len
      rw [f1]
      simp only [Option.bind_some]
      rw [t1]
      simp only [Option.bind_some]
      cases z with
      | false =>
        simp only [Bool.false_eq_true, if_false] at e1 ⊢
        cases e1
        exact ⟨_, _, rfl, s1, .of k hl F1, ⟨k1, fun j z => .inl z⟩, fun _ => ⟨F1, fun ρ' e sl hs => by cases e; rfl⟩⟩
      | true =>
        simp only [if_true] at e1 ⊢
        obtain ⟨⟨fl1, σ2⟩, a3, e1⟩ := bnd e1
        obtain ⟨f2, h2, b2, s2, ef2, r2, st2⟩ := hs A m0 ρ ρp σ0 fl1 σ2 h1 hc.2 a3 s1 k1 hl1
        rw [b2]
        simp only [Option.bind_some]
        have again : ∀ {ρ2 ρp2 : Env'}, OK d c A m0 O ρ2 ρp2 h2 → (∀ j, Own O ρ2 j → Own O ρ j ∨ h1.length ≤ j) → slotsOf f2 = some ρ2 → whileP (fun ρ σ => (fe Fp x ρ σ).bind fun p => (truthy [] p.1).bind fun r => some (r, p.2)) (fex Fp wf s) f ρp2 σ2 = some (flp, σ') →
            ∃ fl h', whileN (fun ρ h => (ev F x ρ h).bind fun q => (truthy q.2 q.1).bind fun b => some (b, q.2)) (ex F wf s) f ρ2 h2 = some (fl, h') ∧ Hs d c σ' h' ∧ Eff d c m0 (Off A O ρ) h h' ∧ FlR d c A m0 O ρ h h' fl flp ∧
              (still O s = true → Fr d c h h' ∧ ∀ ρ', slotsOf fl = some ρ' → ∀ s ∈ O, ρ'[s]? = ρ[s]?) := fun {ρ2 ρp2} k2 g2 sl e => by
          obtain ⟨fl, h3, e3, s3, ef3, r3, st3⟩ := ih e s2 k2 (Nat.le_trans hl1 ef2.len)
          have g : ∀ j, Own O ρ2 j → Own O ρ j ∨ h.length ≤ j := fun j z => (g2 j z).imp id fun z => Nat.le_trans F1.len z
          refine ⟨fl, h3, e3, s3, ((Eff.of k hl F1).tr ef2 fun j z => .inl z).tr ef3 (Off.mono g), r3.then g (Nat.le_trans F1.len ef2.len), fun z => ?_⟩
          obtain ⟨F2, q2⟩ := st2 z
          obtain ⟨F3, q3⟩ := st3 z
          exact ⟨(F1.tr F2).tr F3, fun ρ' e sl' hs => (q3 ρ' e sl' hs).trans (q2 ρ2 sl sl' hs)⟩
        cases fl1 with
        | nx ρp2 =>
          cases f2 <;> first | exact r2.elim | skip
          exact again r2.1 r2.2 rfl e1
        | ct ρp2 =>
          cases f2 <;> first | exact r2.elim | skip
          exact again r2.1 r2.2 rfl e1
        | bk ρp2 =>
          cases f2 <;> first | exact r2.elim | skip
          cases e1
          exact ⟨_, _, rfl, s2, (Eff.of k hl F1).tr ef2 fun j z => .inl z, ⟨r2.1, fun j z => (r2.2 j z).imp id fun z => Nat.le_trans F1.len z⟩, fun z => ⟨F1.tr (st2 z).1, fun ρ' e sl hs => by cases e; exact (st2 z).2 _ rfl sl hs⟩⟩
        | rt w =>
          cases f2 <;> first | exact r2.elim | skip
          cases e1
          exact ⟨_, _, rfl, s2, (Eff.of k hl F1).tr ef2 fun j z => .inl z, r2, fun z => ⟨F1.tr (st2 z).1, fun ρ' e sl hs => by cases e⟩⟩
  obtain ⟨fl, h', e, q⟩ := go wf e1 sh k hl
  exact ⟨fl, h', e, q.1, q.2.1, q.2.2.1, fun z => q.2.2.2 z⟩
theorem Tops.of {vs ws : List PV} (r : Dens d h A vs ws) : Tops d c h A vs ws := by
  induction ws generalizing vs with
  | nil => cases r; exact .nil
  | cons w ws ih => cases r with | cons q r => exact .cons (.den q) (ih r)
theorem Dens.ref {vs ws : List PV} (r : Dens d h A vs ws) (s : Hs d c σ h) {i : Nat} {xs : List PV} (hi : PV.ref i ∈ vs) (ei : h[i]? = some (.lst xs)) : ¬ A i := by
  induction ws generalizing vs with
  | nil => cases r; cases hi
  | cons w ws ih =>
    cases r with
    | cons q r =>
      rcases List.mem_cons.mp hi with z | hi
      · subst z
        cases q with
        | dk => rw [s.dk] at ei; cases ei
        | lst n _ _ => exact n
      · exact ih r hi
def forP (Fp : FP) (wf : Nat) (t : Tg) (s : IS) : PV → Env' → Sg → Option (Sum Env' Fl × Sg) := fun x ρ σ => (assignT t x ρ).bind fun ρ1 => (fex Fp wf s ρ1 σ).bind fun q => some (forEnd q.1, q.2)
theorem fex_for {k : IK} {ρ : Env'} {σ : Sg} : fex Fp wf (.for_ t k x s) ρ σ = (fe Fp x ρ σ).bind fun p => (psrc k p.1).bind fun xs => (walkP (forP Fp wf t s) xs ρ p.2).bind fun r => match r.1 with
      | .inl ρ' => some (.nx ρ', r.2)
      | .inr fl => some (fl, r.2) := rfl
def forFl : Sum Env' Fl → Fl
  | .inl ρ => .nx ρ
  | .inr fl => fl
theorem okS_for (hF : Sound d c F Fp) (hs : OkS d c O F Fp wf s) {kk : IK} : OkS d c O F Fp wf (.for_ t kk x s) := by
  intro A m0 ρ ρp σ flp σ' h hc e1 sh k hl
  unfold chkS at hc
  simp only [Bool.and_eq_true] at hc
  obtain ⟨⟨ht, hcx⟩, hcs⟩ := hc
  rw [fex_for] at e1
  obtain ⟨⟨u, σ1⟩, a1, e1⟩ := bnd e1
  obtain ⟨items, a2, e1⟩ := bnd e1
  obtain ⟨⟨r, σ2⟩, a3, e4⟩ := bnd e1
  obtain ⟨ws, vs, h1, z0, f1, F1, s1, I1, E1, R1⟩ := partL (fe_all hF O x).2 (by split <;> decide) hcx a1 sh k.off k.er
  simp only at z0
  subst z0
  have k1 := k.fr sh F1
  have hl1 := Nat.le_trans hl F1.len
  -- what of the heap the source needs
  let N : Nat → Prop := if still O s = true then fun i => i = d ∨ i = c else Off A O ρ
  have both : (still O s = true ∧ Tops d c h1 (Off A O ρ) vs ws) ∨ (¬ still O s = true ∧ Dens d h1 (Off A O ρ) vs ws) := by
    by_cases hst : still O s = true
    · rw [if_pos hst] at R1; exact .inl ⟨hst, R1.tops rfl⟩
    · rw [if_neg hst] at R1; exact .inr ⟨hst, R1⟩
  have top : Tops d c h1 (Off A O ρ) vs ws := both.elim (fun z => z.2) fun z => .of z.2
  have safe : ∀ i xs, PV.ref i ∈ vs → h1[i]? = some (.lst xs) → ¬ N i := fun i xs hi ei => by
    show ¬ (if still O s = true then (fun i => i = d ∨ i = c) else Off A O ρ) i
    rcases both with ⟨hst, r⟩ | ⟨hst, r⟩
    · rw [if_pos hst]; exact top.ref k1.off s1 hi ei
    · rw [if_neg hst]; exact r.ref s1 hi ei
  obtain ⟨sr, es, later⟩ := psrc_ok (N := N) top safe a2
  -- the turns
  let R : Env' → IHeap → Env' → Sg → Prop := fun ρ1 H ρp1 σ => OK d c A m0 O ρ1 ρp1 H ∧ Hs d c σ H ∧ Eff d c m0 (Off A O ρ) h1 H ∧ (∀ j, Own O ρ1 j → Own O ρ j ∨ h1.length ≤ j) ∧ (still O s = true → Fr d c h1 H ∧ ∀ sl ∈ O, ρ1[sl]? = ρ[sl]?)
  have sim := loop_sim (d := d) (s := sr) (items := items) (step := fun x ρ h => (assignT t x ρ).bind fun ρ1 => (ex F wf s ρ1 h).bind fun q => some (forEnd q.1, q.2)) (stepP := forP Fp wf t s)
    R (fun (fl : Fl) H (flp : Fl) σ => Hs d c σ H ∧ Eff d c m0 (Off A O ρ) h1 H ∧ FlR d c A m0 O ρ h1 H fl flp ∧ (still O s = true → Fr d c h1 H ∧ ∀ ρ', slotsOf fl = some ρ' → ∀ s ∈ O, ρ'[s]? = ρ[s]?)) (fun ρ1 _ => Off A O ρ1)
    (fun ρ1 H ρp1 σ ⟨k2, s2, ef, g, st⟩ => (later H (Off A O ρ1) (fun i x ei n => by
        have n' : ¬ (if still O s = true then (fun i => i = d ∨ i = c) else Off A O ρ) i := n
        by_cases hst : still O s = true
        · rw [if_pos hst] at n'
          rw [(st hst).1.eq i (List.getElem?_eq_some_iff.mp ei).1 (fun z => n' (.inl z)) (fun z => n' (.inr z))]; exact ei
        · rw [if_neg hst] at n'
          exact ef.kp i x ei n') (fun v w q => q.move fun i x ei n => ⟨ef.kp i x ei n, fun z => (Off.mono g i z).elim n fun z => by have := (List.getElem?_eq_some_iff.mp ei).1; omega⟩)).2)
    (fun ρ1 H ρp1 σ v w r σ3 ⟨k2, s2, ef, g, st⟩ dv _ est => by
      obtain ⟨ρp2, b1, est⟩ := bnd est
      obtain ⟨⟨fl1, σ4⟩, b2, est⟩ := bnd est
      cases est
      obtain ⟨ρ2, c1, k3, ho, same⟩ := asgS k2 ht dv b1
      obtain ⟨fl, H2, c2, s3, ef2, r2, st2⟩ := hs A m0 ρ2 ρp2 σ fl1 σ4 H hcs b2 s2 k3 (Nat.le_trans hl1 ef.len)
      have g2 : ∀ j, Own O ρ2 j → Own O ρ j ∨ h1.length ≤ j := fun j z => g j (by rw [← ho]; exact z)
      have ef' : Eff d c m0 (Off A O ρ) h1 H2 := ef.tr ef2 (Off.mono g2)
      have st' : still O s = true → Fr d c h1 H2 ∧ ∀ ρ', slotsOf fl = some ρ' → ∀ s ∈ O, ρ'[s]? = ρ[s]? := fun z => by
        obtain ⟨q1, q2⟩ := st z
        obtain ⟨q3, q4⟩ := st2 z
        exact ⟨q1.tr q3, fun ρ' e sl hs => (q4 ρ' e sl hs).trans ((same sl hs).trans (q2 sl hs))⟩
      have r3 := r2.then g2 ef.len
      refine ⟨forEnd fl, H2, by simp only [c1, Option.bind_some]; rw [c2]; rfl, ?_⟩
      cases fl1 with
      | nx ρp3 => cases fl <;> first | exact r2.elim | exact ⟨r3.1, s3, ef', r3.2, fun z => ⟨(st' z).1, (st' z).2 _ rfl⟩⟩
      | ct ρp3 => cases fl <;> first | exact r2.elim | exact ⟨r3.1, s3, ef', r3.2, fun z => ⟨(st' z).1, (st' z).2 _ rfl⟩⟩
      | bk ρp3 => cases fl <;> first | exact r2.elim | exact ⟨s3, ef', r3, st'⟩
      | rt w => cases fl <;> first | exact r2.elim | exact ⟨s3, ef', r3, st'⟩)
    (srcLen sr h1 + 1) 0 ρ h1 ρp σ1 r σ2 (Nat.zero_le _) (by
      have := (later h1 (Off A O ρ) (fun i x ei _ => ei) (fun _ _ q => q)).1
      omega) ⟨k1, s1, .id, fun j z => .inl z, fun _ => ⟨.id, fun _ _ => rfl⟩⟩ (by rw [List.drop_zero]; exact a3)
  obtain ⟨r', H, e5, rel⟩ := sim
  have ex_ : ex F wf (.for_ t kk x s) ρ h = some (forFl r', H) := by
    rw [ex_for, f1]
    simp only [Option.bind_some]
    rw [es]
    simp only [Option.bind_some]
    rw [e5]
    cases r' <;> rfl
  cases r with
  | inl ρp3 =>
    cases r' with
    | inr _ => exact rel.elim
    | inl ρ3 =>
      obtain ⟨k2, s2, ef, g, st⟩ := rel
      cases e4
      exact .nx ex_ s2 ((Eff.of k hl F1).tr ef fun j z => .inl z) k2 (fun j z => (g j z).imp id fun z => Nat.le_trans F1.len z) fun z => ⟨F1.tr (st z).1, (st z).2⟩
  | inr fl3 =>
    cases r' with
    | inl _ => exact rel.elim
    | inr fl4 =>
      obtain ⟨s2, ef, q, st⟩ := rel
      cases e4
      exact ⟨fl4, H, ex_, s2, (Eff.of k hl F1).tr ef fun j z => .inl z, q.then (fun j z => .inl z) F1.len, fun z => ⟨F1.tr (st z).1, (st z).2⟩⟩
theorem ex_all (hF : Sound d c F Fp) (O : List Nat) (wf : Nat) (s : IS) : OkS d c O F Fp wf s := by
  induction s with
  | nil => intro A m0 ρ ρp σ flp σ' h _ e sh k hl; cases e; exact .nx rfl sh .id k (fun j z => .inl z) fun _ => ⟨.id, fun _ _ => rfl⟩
  | pass => intro A m0 ρ ρp σ flp σ' h _ e sh k hl; cases e; exact .nx rfl sh .id k (fun j z => .inl z) fun _ => ⟨.id, fun _ _ => rfl⟩
  | never => intro A m0 ρ ρp σ flp σ' h _ e; cases e
  | brk => intro A m0 ρ ρp σ flp σ' h _ e sh k hl; cases e; exact ⟨.bk ρ, h, rfl, sh, .id, ⟨k, fun j z => .inl z⟩, fun _ => ⟨.id, fun ρ' z _ _ => by cases z; rfl⟩⟩
  | cnt => intro A m0 ρ ρp σ flp σ' h _ e sh k hl; cases e; exact ⟨.ct ρ, h, rfl, sh, .id, ⟨k, fun j z => .inl z⟩, fun _ => ⟨.id, fun ρ' z _ _ => by cases z; rfl⟩⟩
  | seq a b iha ihb => exact okS_seq iha ihb
  | asg t e => exact okS_asg hF
  | sub o i e => exact okS_sub hF
  | aug i op e => exact okS_aug hF
  | ex e => exact okS_ex hF
  | ret e => exact okS_ret hF
  | ife c a b iha ihb => exact okS_ife hF iha ihb
  | while_ c b ih => exact okS_while hF ih
  | for_ t k src b ih => exact okS_for hF ih
end
end PI
end

section
set_option Elab.async false
set_option linter.all false
set_option maxRecDepth 100000
set_option maxHeartbeats 8000000
/-! calls, over values -/
namespace PI
open PySem PySem.Spec PyProof.Rows L2
/-- the slots whose lists are changed -/
def ownS : IS → List Nat
  | .seq a b => ownS a ++ ownS b
  | .ex e => (match mtOf e with
    | some (.app o _) => [o]
    | some (.ext o _) => [o]
    | none => [])
  | .sub o _ _ => (match varOf o with
    | some o => [o]
    | none => [])
  | .ife _ a b => ownS a ++ ownS b
  | .while_ _ b => ownS b
  | .for_ _ _ _ b => ownS b
  | _ => []
def chkD (d : IDef) : Bool := decide (d.np ≤ d.slots) && (ownS d.body).all (fun s => decide (d.np ≤ s) && decide (s < d.slots)) && chkS (ownS d.body) d.body
/-- a def that is not told -/
def nev : IDef := ⟨0, 0, .never⟩
/-- calls; the def iD draws as D tells -/
def feN (defs : List IDef) (wf iD : Nat) (D : Int → Sg → Option (Int × Sg)) : Nat → FP
  | 0, _, _, _ => none
  | k + 1, i, ws, σ => if i = iD then (match ws with
      | [.ref 0, .int many] => (D many σ).bind fun p => some (.int p.1, p.2)
      | _ => none)
    else match defs[i]? with
    | none => none
    | some d => if ws.length = d.np then (fex (feN defs wf iD D k) wf d.body (start' d ws) σ).bind fun p => (retOf p.1).bind fun w => some (w, p.2) else none
/-- the table that is told is that of the text -/
def Tells (pdefs defs : List IDef) : Prop := ∀ (i : Nat) (e : IDef), pdefs[i]? = some e → e.body = .never ∨ (defs[i]? = some e ∧ chkD e = true)
def tellsB : List IDef → List IDef → Bool
  | [], _ => true
  | e :: es, [] => false
  | e :: es, f :: fs => (match e.body with | .never => true | _ => chkD e) && tellsB es fs
def DrawOk (d c : Nat) (defs : List IDef) (wf iD : Nat) (D : Int → Sg → Option (Int × Sg)) : Prop :=
  ∀ k many σ r σ' h, D many σ = some (r, σ') → Hs d c σ h → ∃ h', callN defs wf (k + 1) iD [.ref d, .int many] h = some (.int r, h') ∧ Fr d c h h' ∧ Hs d c σ' h'
section
variable {d c : Nat} {defs pdefs : List IDef} {wf iD k : Nat} {D : Int → Sg → Option (Int × Sg)} {h : IHeap} {A : Nat → Prop} {O : List Nat}
theorem start_er {e : IDef} {vs ws : List PV} (hn : vs.length = e.np) (hO : ∀ s ∈ O, e.np ≤ s) (r : Dens d h A vs ws) : ER d c h A O (start' e vs) (start' e ws) := by
  have l := r.length
  refine ⟨by unfold start'; simp [l], fun s w q => ?_⟩
  unfold start' at q ⊢
  by_cases hs : s < ws.length
  · rw [List.getElem?_append_left (by simpa using hs), List.getElem?_map] at q
    obtain ⟨w', q1, q2⟩ := Option.map_eq_some_iff.mp q
    cases q2
    obtain ⟨v, q3, q4⟩ := r.get q1
    refine ⟨v, by rw [List.getElem?_append_left (by rw [List.length_map, l]; exact hs), List.getElem?_map, q3]; rfl, ?_⟩
    rw [if_neg (fun z => by have := hO s z; omega)]
    exact q4
  · rw [List.getElem?_append_right (by simpa using hs), List.getElem?_replicate] at q
    split at q <;> cases q
theorem start_none {e : IDef} {vs : List PV} (hn : vs.length = e.np) (hs : e.np ≤ e.slots) {s : Nat} (h1 : e.np ≤ s) (h2 : s < e.slots) : (start' e vs)[s]? = some none := by
  unfold start'
  rw [List.getElem?_append_right (by simp; omega), List.getElem?_replicate]
  rw [if_pos (by simp; omega)]
theorem sound_feN (hT : Tells pdefs defs) (hD : DrawOk d c defs wf iD D) : ∀ k, Sound d c (callN defs wf k) (feN pdefs wf iD D k)
  | 0 => fun i ws σ w σ' e => by cases e
  | k + 1 => fun i ws σ w σ' e h A vs s I r => by
    unfold feN at e
    by_cases hi : i = iD
    · rw [if_pos hi] at e
      subst hi
      split at e
      · rename_i many
        obtain ⟨⟨x, σ1⟩, e1, e⟩ := Option.bind_eq_some_iff.mp e
        cases e
        cases r with
        | cons r1 r2 =>
          cases r2 with
          | cons r2 r3 =>
            cases r3
            cases r1
            cases r2
            obtain ⟨h', e2, F, s'⟩ := hD k _ _ _ _ _ e1 s
            exact ⟨_, h', e2, F, s', .int _⟩
      · cases e
    · rw [if_neg hi] at e
      split at e
      · cases e
      · rename_i dd hdd
        rcases hT i dd hdd with hb | ⟨hd2, hck⟩
        · obtain ⟨_, e⟩ := (show ws.length = dd.np ∧ _ from by
            by_cases hl : ws.length = dd.np
            · rw [if_pos hl] at e; exact ⟨hl, e⟩
            · rw [if_neg hl] at e; cases e)
          rw [hb] at e
          cases e
        · obtain ⟨hl, e⟩ := (show ws.length = dd.np ∧ _ from by
            by_cases hl : ws.length = dd.np
            · rw [if_pos hl] at e; exact ⟨hl, e⟩
            · rw [if_neg hl] at e; cases e)
          obtain ⟨⟨flp, σ1⟩, e1, e⟩ := Option.bind_eq_some_iff.mp e
          obtain ⟨w1, e2, e⟩ := Option.bind_eq_some_iff.mp e
          cases e
          unfold chkD at hck
          simp only [Bool.and_eq_true, decide_eq_true_eq, List.all_eq_true] at hck
          obtain ⟨⟨hsl, hown⟩, hcs⟩ := hck
          have hvl : vs.length = dd.np := r.length.trans hl
          have nl : ∀ s ∈ ownS dd.body, (start' dd vs)[s]? = some none := fun s hs => start_none hvl hsl (hown s hs).1 (hown s hs).2
          have ow : ∀ j, Own (ownS dd.body) (start' dd vs) j → False := fun j ⟨s, hs, q⟩ => by rw [nl s hs] at q; cases q
          have off : Off A (ownS dd.body) (start' dd vs) = A := by
            funext j
            exact propext ⟨fun z => z.elim (fun z => z) fun z => (ow j z).elim, .inl⟩
          have k0 : OK d c A h.length (ownS dd.body) (start' dd vs) (start' dd ws) h := {
            er := by rw [off]; exact start_er hvl (fun s hs => (hown s hs).1) r
            inv := I
            own := fun s hs v q => by rw [nl s hs] at q; cases q
            one := fun s hs s' hs' j q => by rw [nl s hs] at q; cases q
            d0 := I.lt _ I.d
            c0 := I.lt _ I.c
            sl := fun s hs => (List.getElem?_eq_some_iff.mp (nl s hs)).1 }
          obtain ⟨fl, h', f1, s1, ef, rr, _⟩ := ex_all (sound_feN hT hD k) (ownS dd.body) wf dd.body A h.length _ _ _ _ _ _ hcs e1 s k0 (Nat.le_refl _)
          have F : Fr d c h h' := ⟨ef.len, fun i hi n1 n2 => ef.mv i hi n1 n2⟩
          have : ∃ v, retOf fl = some v ∧ Den d h' A v w := by
            cases flp <;> cases fl <;> first | exact rr.elim | skip
            · cases e2; exact ⟨_, rfl, .non⟩
            · cases e2; exact ⟨_, rfl, rr⟩
            · cases e2
            · cases e2
          obtain ⟨v, e3, D3⟩ := this
          refine ⟨v, h', ?_, F, s1, D3⟩
          unfold callN
          rw [hd2]
          simp only
          rw [if_pos hvl, f1]
          simp only [Option.bind_some]
          rw [e3]
          rfl
/-- the law's round: the deck is made, the rest is as told -/
theorem law_round (hT : Tells pdefs defs) (hD : DrawOk d c defs wf iD D) {k : Nat} {rest : IS} {ρ ρp : Env'} {σ σ' : Sg} {h : IHeap} {b : Bool} (hs : Hs d c σ h) (hc : chkS (ownS rest) rest = true) (hl : ρ.length = ρp.length)
    (hv : ∀ (s : Nat) (w : PV), ρp[s]? = some (some w) → w = tok ∧ ρ[s]? = some (some (.ref d))) (hO : ∀ s ∈ ownS rest, ρ[s]? = some none)
    (e : fex (feN pdefs wf iD D k) wf rest ρp σ = some (.rt (.bl b), σ')) : ∃ h', ex (callN defs wf k) wf rest ρ h = some (.rt (.bl b), h') := by
  have hd1 : d < h.length := (List.getElem?_eq_some_iff.mp hs.dk).1
  have hc1 : c < h.length := (List.getElem?_eq_some_iff.mp hs.cl).1
  have ow : ∀ j, Own (ownS rest) ρ j → False := fun j ⟨s, hs, q⟩ => by rw [hO s hs] at q; cases q
  have k0 : OK d c (fun j => j = d ∨ j = c) h.length (ownS rest) ρ ρp h := {
    er := ⟨hl, fun s w q => by
      obtain ⟨z, q2⟩ := hv s w q
      subst z
      refine ⟨_, q2, ?_⟩
      split
      · exact .den .dk
      · exact .dk⟩
    inv := ⟨.inl rfl, .inr rfl, fun j z => by rcases z with z | z <;> omega⟩
    own := fun s hs v q => by rw [hO s hs] at q; cases q
    one := fun s hs s' hs' j q => by rw [hO s hs] at q; cases q
    d0 := hd1
    c0 := hc1
    sl := fun s hs => (List.getElem?_eq_some_iff.mp (hO s hs)).1 }
  obtain ⟨fl, h', f1, s1, ef, rr, _⟩ := ex_all (sound_feN hT hD k) (ownS rest) wf rest _ h.length _ _ _ _ _ _ hc e hs k0 (Nat.le_refl _)
  cases fl <;> first | exact rr.elim | skip
  have rr : Den d h' _ _ (.bl b) := rr
  cases rr
  exact ⟨h', f1⟩
end
end PI
end

section
set_option Elab.async false
set_option linter.all false
set_option maxRecDepth 100000
set_option maxHeartbeats 8000000
/-! the draws of the laws whose deck has one mixed number -/
namespace PI
open PySem PySem.Spec PyProof.Rows L2
abbrev sC : IE := .con (.str (Str.ofString "cells"))
abbrev sD : IE := .con (.str (Str.ofString "draws"))
abbrev sM : IE := .con (.str (Str.ofString "mixed"))
abbrev i1 (a : IE) : IE := .blt .int (.cons a .nil)
def tail1 (a b : Int) : IS := .seq (.asg (.nm 2) (.bin .mod (i1 (.bin .add (.bin .mul (.var 2) (.con (.int 41546))) (.con (.int a)))) (.con (.int 2147483647)))) (.seq (.asg (.nm 2) (.bin .mod (i1 (.bin .add (.bin .add (.bin .mul (.var 2) (.var 2)) (.bin .mul (.con (.int 49297)) (.idx (.var 0) sD))) (.con (.int b)))) (.con (.int 2147483549)))) (.seq (.asg (.nm 2) (.bin .mod (i1 (.bin .mul (.var 2) (.con (.int 39373)))) (.con (.int 2147483587)))) (.seq (.ret (.bin .mod (i1 (.bin .fdiv (.var 2) (.con (.int 64)))) (.var 1))) .nil)))
def cells1 (p : Int) : IS := .ife (.cmp .ne (.idx (.var 0) sC) (.lst .nil)) (.seq (.asg (.nm 3) (.mth .pop (.idx (.var 0) sC) .nil)) (.seq (.ife (.cmp .ge (.var 3) (.bin .pow (.con (.int 10)) (.con (.int 18)))) (.seq (.ex (.mth .append (.idx (.var 0) sC) (.cons (.bin .fdiv (.var 3) (.blt .max2 (.cons (.con (.int 2)) (.cons (.var 1) .nil)))) .nil))) (.seq (.ret (.bin .mod (i1 (.var 3)) (.var 1))) .nil)) .nil) (.seq (.asg (.nm 2) (.bin .add (.var 2) (.bin .mod (i1 (.var 3)) (.con (.int p))))) .nil))) .nil
def draw1 (a b : Int) : IS := .seq (.sub (.var 0) sD (.bin .add (.idx (.var 0) sD) (.con (.int 1)))) (.seq (.asg (.nm 2) (.bin .add (.idx (.var 0) sM) (.bin .mul (.con (.int 71237)) (.idx (.var 0) sD)))) (.seq (cells1 2147483563) (tail1 a b)))
def tailR (a b ν t many : Int) : Int := ((((((ν * 41546 + a) % 2147483647) * ((ν * 41546 + a) % 2147483647) + 49297 * t + b) % 2147483549) * 39373) % 2147483587) / 64 % many
section
variable {a b : Int} (ha : 0 ≤ a ∧ a < 1000) (hb : 0 ≤ b ∧ b < 1000)
theorem tail1_ok {F : Nat → List PV → IHeap → Option (PV × IHeap)} {wf : Nat} {h : IHeap} {d c : Nat} {m t many ν : Int} {x : Option PV} (ha : 0 ≤ a ∧ a < 1000) (hb : 0 ≤ b ∧ b < 1000) (e : h[d]? = some (deckD c m t)) (ht : 0 ≤ t) (ht2 : t ≤ 2000000000) (hν : ν.natAbs < 2 ^ 70) (hm : 0 < many) :
    Wp (ex F wf (tail1 a b) [some (.ref d), some (.int many), some (.int ν), x] h) fun fl h' => fl = .rt (.int (tailR a b ν t many)) ∧ h' = h := by
  simp only [tail1, wp_seq, wp_asg, wp_bin, wp_blt, wl_cons, wl_nil, wp_varE, wp_con, wp_idx, List.getElem?_cons_zero, List.getElem?_cons_succ, Option.some.injEq, exists_eq_left']
  rw [mul_ok (by omega) (by omega)]
  simp only [wp_some, bo_add, bl_int, bo_mod (show (0 : Int) < 2147483647 by omega), assignT, List.set_cons_succ, List.set_cons_zero, Option.some.injEq, exists_eq_left', List.getElem?_cons_zero, List.getElem?_cons_succ]
  unfold tailR
  generalize hn : (ν * 41546 + a) % 2147483647 = n
  have n0 : 0 ≤ n := by rw [← hn]; exact Int.emod_nonneg _ (by omega)
  have n1 : n < 2147483647 := by rw [← hn]; exact Int.emod_lt_of_pos _ (by omega)
  rw [mul_ok (by omega) (by omega)]
  simp only [wp_some, ix_dic e, get_d, Option.some.injEq, exists_eq_left']
  rw [mul_ok (by omega) (by omega)]
  simp only [wp_some, bo_add, bl_int, bo_mod (show (0 : Int) < 2147483549 by omega), assignT, List.set_cons_succ, List.set_cons_zero, Option.some.injEq, exists_eq_left', List.getElem?_cons_zero, List.getElem?_cons_succ]
  generalize hn2 : (n * n + 49297 * t + b) % 2147483549 = n2
  have n20 : 0 ≤ n2 := by rw [← hn2]; exact Int.emod_nonneg _ (by omega)
  have n21 : n2 < 2147483549 := by rw [← hn2]; exact Int.emod_lt_of_pos _ (by omega)
  rw [mul_ok (by omega) (by omega)]
  simp only [wp_some, bo_add, bl_int, bo_mod (show (0 : Int) < 2147483587 by omega), assignT, List.set_cons_succ, List.set_cons_zero, Option.some.injEq, exists_eq_left', List.getElem?_cons_zero, List.getElem?_cons_succ, wp_ret, wp_bin, wp_blt, wl_cons, wl_nil, wp_varE, wp_con]
  rw [bo_fdiv (by omega) (by decide)]
  simp only [wp_some, bl_int, bo_mod hm]
  exact ⟨trivial, trivial⟩
theorem get_last' {ns : List Int} {z : Int} : ((ns ++ [z]).map PV.int)[((ns ++ [z]).map PV.int).length - 1]? = some (.int z) := by simp
def sg1 (m t : Int) (cells : List Int) : Sg := ⟨fun c => [(kC, .ref c), (kM, .int m), (kD, .int t)], cells⟩
/-- n more draws may be made -/
def V1 (σ : Sg) (n : Nat) : Prop := ∃ m t cells, σ = sg1 m t cells ∧ 0 ≤ m ∧ m < 2147483647 ∧ 0 ≤ t ∧ t + n ≤ 1000000000 ∧ cells.length ≤ 63
theorem V1.mono {σ : Sg} {n m : Nat} (h : V1 σ n) (l : m ≤ n) : V1 σ m := by
  obtain ⟨a, b, e, q, h1, h2, h3, h4, h5⟩ := h
  exact ⟨a, b, e, q, h1, h2, h3, by omega, h5⟩
/-- a draw gives r, and the deck is then σ' -/
def Draws (V : Sg → Nat → Prop) (defs : List IDef) (wf iD : Nat) (many : Int) (σ : Sg) (r : Int) (σ' : Sg) : Prop :=
  0 ≤ r ∧ r < many ∧ (∀ n, V σ (n + 1) → V σ' n) ∧ ∀ d c k h, Hs d c σ h → ∃ h', callN defs wf (k + 1) iD [.ref d, .int many] h = some (.int r, h') ∧ Fr d c h h' ∧ Hs d c σ' h'
theorem sg1_V {m m' t : Int} {cells cs : List Int} (hm : 0 ≤ m ∧ m < 2147483647) (ht : 0 ≤ t) (hc : cs.length ≤ 63) : ∀ n, V1 (sg1 m t cells) (n + 1) → V1 (sg1 m (t + 1) cs) n := fun n ⟨m0, t0, c0, q, h1, h2, h3, h4, h5⟩ => by
  have q1 := congrArg (fun s => s.kvs 0) q
  simp only [sg1, List.cons.injEq, Prod.mk.injEq, PV.int.injEq, true_and, and_true] at q1
  obtain ⟨rfl, rfl⟩ := q1
  exact ⟨m, t + 1, cs, rfl, hm.1, hm.2, by omega, by omega, hc⟩
theorem draw1_ok {defs : List IDef} {wf iD : Nat} (ha : 0 ≤ a ∧ a < 1000) (hb : 0 ≤ b ∧ b < 1000) (hd : defs[iD]? = some ⟨2, 4, draw1 a b⟩) {σ : Sg} {n : Nat} {many : Int} (V : V1 σ (n + 1)) (hm : 0 < many) (hm2 : many < 1000000000) : ∃ r σ', Draws V1 defs wf iD many σ r σ' := by
  obtain ⟨m, t, cells, rfl, m0, m1, t0, t1, cl⟩ := V
  -- what the draw does up to the cells
  have go : ∀ (r : Int) (cs : List Int), (0 ≤ r ∧ r < many) → cs.length ≤ 63 → (∀ (F : Nat → List PV → IHeap → Option (PV × IHeap)) (d c : Nat) (J : IHeap), J[d]? = some (deckD c m (t + 1)) → J[c]? = some (.lst (cells.map .int)) → c ≠ d →
        Wp (ex F wf (.seq (cells1 2147483563) (tail1 a b)) [some (.ref d), some (.int many), some (.int (m + 71237 * (t + 1))), none] J) fun fl h' => fl = .rt (.int r) ∧ h'[d]? = some (deckD c m (t + 1)) ∧ h'[c]? = some (.lst (cs.map .int)) ∧ Fr d c J h') →
      ∃ r σ', Draws V1 defs wf iD many (sg1 m t cells) r σ' := fun r cs hr hc q => by
    refine ⟨r, sg1 m (t + 1) cs, hr.1, hr.2, sg1_V (m' := m) ⟨m0, m1⟩ t0 hc, fun d c k h s => ?_⟩
    have h1 : h[d]? = some (deckD c m t) := s.dk
    have hdl : d < h.length := (List.getElem?_eq_some_iff.mp h1).1
    have e1 : (h.set d (deckD c m (t + 1)))[d]? = some (deckD c m (t + 1)) := List.getElem?_set_self hdl
    have e2 : (h.set d (deckD c m (t + 1)))[c]? = some (.lst (cells.map .int)) := by rw [List.getElem?_set_ne (Ne.symm s.ne)]; exact s.cl
    have : Wp (callN defs wf (k + 1) iD [.ref d, .int many] h) fun v h' => v = .int r ∧ Fr d c h h' ∧ Hs d c (sg1 m (t + 1) cs) h' := by
      refine wp_def hd rfl ?_
      have st : start' ⟨2, 4, draw1 a b⟩ [.ref d, .int many] = [some (.ref d), some (.int many), none, none] := rfl
      rw [st]
      unfold draw1
      rw [wp_seq, wp_sub]
      simp only [wp_bin, wp_idx, wp_con, wp_varE, List.getElem?_cons_zero, List.getElem?_cons_succ, Option.some.injEq, exists_eq_left', ix_dic h1, get_d, bo_add, wp_some, se_dic h1]
      rw [wp_seq, wp_asg]
      simp only [wp_bin, wp_idx, wp_con, wp_varE, List.getElem?_cons_zero, List.getElem?_cons_succ, Option.some.injEq, exists_eq_left', ix_dic e1, get_m, get_d]
      rw [mul_ok (by omega) (by omega)]
      simp only [wp_some, bo_add, assignT, List.set_cons_succ, List.set_cons_zero, Option.some.injEq, exists_eq_left']
      refine (q _ d c _ e1 e2 s.ne).mono fun fl h' ⟨z, g1, g2, g3⟩ => ?_
      subst z
      exact ⟨_, rfl, rfl, ⟨by have := g3.len; rw [List.length_set] at this; exact this, fun i hi n1 n2 => by rw [g3.eq i (by rw [List.length_set]; exact hi) n1 n2, List.getElem?_set_ne (Ne.symm n1)]⟩, ⟨g1, g2, s.ne⟩⟩
    obtain ⟨v, h', e, rfl, f, s'⟩ := this
    exact ⟨h', e, f, s'⟩
  have start : ∀ {F : Nat → List PV → IHeap → Option (PV × IHeap)} {d c : Nat} {J : IHeap} {ν : Int} {R : Fl → IHeap → Prop} {s1 : IS}, J[d]? = some (deckD c m (t + 1)) → J[c]? = some (.lst (cells.map .int)) →
      (if (!cells.isEmpty) = true then Wp (ex F wf s1 [some (.ref d), some (.int many), some (.int ν), none] (J ++ [.lst []])) R else R (.nx [some (.ref d), some (.int many), some (.int ν), none]) (J ++ [.lst []])) →
      Wp (ex F wf (.ife (.cmp .ne (.idx (.var 0) sC) (.lst .nil)) s1 .nil) [some (.ref d), some (.int many), some (.int ν), none] J) R := fun {F d c J ν R s1} f1 f2 q => by
    simp only [wp_if, wp_cmp, wp_idx, wp_varE, List.getElem?_cons_zero, List.getElem?_cons_succ, wp_con, ix_dic f1, get_c, wp_lst, wl_nil, List.length_nil, Nat.zero_le, true_and, ne_nil f2 cl, tr_bl, Option.some.injEq, exists_eq_left', wp_nil]
    exact q
  have app : ∀ {J : IHeap} {i : Nat} {x : Cell}, J[i]? = some x → (J ++ [.lst []])[i]? = some x := fun e => by rw [List.getElem?_append_left (List.getElem?_eq_some_iff.mp e).1]; exact e
  by_cases hc : cells = []
  · subst hc
    refine go (tailR a b (m + 71237 * (t + 1)) (t + 1) many) [] ⟨Int.emod_nonneg _ (by omega), Int.emod_lt_of_pos _ hm⟩ (by simp) fun F d c J f1 f2 hne => ?_
    rw [wp_seq]
    unfold cells1
    refine start f1 f2 ?_
    simp only [List.isEmpty_nil, Bool.not_true, Bool.false_eq_true, if_false]
    exact (tail1_ok ha hb (app f1) (by omega) (by omega) (by omega) hm).mono fun fl h' ⟨z1, z2⟩ => by subst z1 z2; exact ⟨rfl, app f1, app f2, Gr.fr .one⟩
  · have hce : cells.isEmpty = false := by cases cells with
      | nil => exact absurd rfl hc
      | cons _ _ => rfl
    obtain ⟨front, z, rfl⟩ : ∃ front z, cells = front ++ [z] := ⟨_, _, (List.dropLast_concat_getLast hc).symm⟩
    have fl : front.length ≤ 62 := by simp at cl; omega
    have pw : ∀ h : IHeap, binop .pow (.int 10) (.int 18) h = some (.int 1000000000000000000, h) := fun h => rfl
    have body : ∀ {F : Nat → List PV → IHeap → Option (PV × IHeap)} {d c : Nat} {J : IHeap} {ν : Int} {R : Fl → IHeap → Prop} {s1 s2 : IS}, J[d]? = some (deckD c m (t + 1)) → J[c]? = some (.lst ((front ++ [z]).map .int)) → c ≠ d →
        (if (1000000000000000000 : Int) ≤ z then Wp (ex F wf s1 [some (.ref d), some (.int many), some (.int ν), some (.int z)] (J.set c (.lst (front.map .int)))) (fun fl h' => match fl with | .nx ρ' => Wp (ex F wf s2 ρ' h') R | fl => R fl h') else Wp (ex F wf s2 [some (.ref d), some (.int many), some (.int ν), some (.int z)] (J.set c (.lst (front.map .int)))) R) →
        Wp (ex F wf (.seq (.asg (.nm 3) (.mth .pop (.idx (.var 0) sC) .nil)) (.seq (.ife (.cmp .ge (.var 3) (.bin .pow (.con (.int 10)) (.con (.int 18)))) s1 .nil) s2)) [some (.ref d), some (.int many), some (.int ν), none] J) R := fun {F d c J ν R s1 s2} f1 f2 hne q => by
      have isl : isLst J (.ref c) = true := by
        show (match J[c]? with | some (.lst _) => true | _ => false) = true
        rw [f2]
      have pop : mthop .pop (.ref c) [] J = some (.int z, J.set c (.lst (front.map .int))) := by
        show (match J[c]? with | some (.lst xs) => _ | _ => none) = _
        rw [f2]
        show (match ((front ++ [z]).map PV.int)[((front ++ [z]).map PV.int).length - 1]? with | some y => some (y, J.set c (.lst ((front ++ [z]).map PV.int).dropLast)) | none => none) = _
        rw [get_last']
        simp
      simp only [wp_seq, wp_asg, wp_mth, wp_idx, wp_varE, wp_con, List.getElem?_cons_zero, List.getElem?_cons_succ, Option.some.injEq, exists_eq_left', ix_dic f1, get_c, isl, true_and, wl_nil, pop, wp_some, assignT, List.set_cons_succ, List.set_cons_zero, wp_if, wp_cmp, wp_bin, pw, cp_ge, tr_bl, wp_nil]
      by_cases hz : (1000000000000000000 : Int) ≤ z
      · rw [if_pos hz] at q; simp only [hz, decide_true, if_true]; exact q
      · rw [if_neg hz] at q; simp only [hz, decide_false, Bool.false_eq_true, if_false]; exact q
    have cset : ∀ {J : IHeap} {c : Nat} {x y : Cell}, J[c]? = some x → (J.set c y)[c]? = some y := fun e => List.getElem?_set_self (List.getElem?_eq_some_iff.mp e).1
    by_cases hz : (1000000000000000000 : Int) ≤ z
    · refine go (z % many) (front ++ [z / (if many > 2 then many else 2)]) ⟨Int.emod_nonneg _ (by omega), Int.emod_lt_of_pos _ hm⟩ (by simp; omega) fun F d c J f1 f2 hne => ?_
      rw [wp_seq]
      unfold cells1
      refine start f1 f2 ?_
      rw [hce]
      simp only [Bool.not_false, if_true]
      refine body (app f1) (app f2) hne ?_
      rw [if_pos hz]
      generalize hL : (J ++ [Cell.lst []]).set c (.lst (front.map .int)) = L
      have g1 : L[d]? = some (deckD c m (t + 1)) := by rw [← hL, List.getElem?_set_ne hne]; exact app f1
      have g2 : L[c]? = some (.lst (front.map .int)) := by rw [← hL]; exact cset (app f2)
      have isl2 : isLst L (.ref c) = true := by
        show (match L[c]? with | some (.lst _) => true | _ => false) = true
        rw [g2]
      have hw : 0 < (if many > 2 then many else 2) ∧ (if many > 2 then many else 2).natAbs < 2 ^ 100 := by split <;> omega
      simp only [wp_seq, wp_ex, wp_mth, wp_idx, wp_varE, wp_con, List.getElem?_cons_zero, List.getElem?_cons_succ, Option.some.injEq, exists_eq_left', ix_dic g1, get_c, wl_cons, wl_nil, wp_bin, wp_blt, bl_max, wp_some]
      refine ⟨isl2, ?_⟩
      generalize (if many > 2 then many else (2 : Int)) = w at hw
      have hw2 : w.natAbs < 2 ^ 8000 := Nat.lt_of_lt_of_le hw.2 (Nat.pow_le_pow_right (by omega) (by omega))
      rw [bo_fdiv hw.1 hw2]
      have ap : mthop .append (.ref c) [.int (z / w)] L = some (.non, L.set c (Cell.lst ((front ++ [z / w]).map PV.int))) := by
        show (match L[c]? with | some (.lst xs) => (if xs.length < sizeLine then some (PV.non, L.set c (Cell.lst (xs ++ [PV.int (z / w)]))) else none) | _ => none) = _
        rw [g2]
        simp only
        rw [if_pos (by rw [List.length_map]; have : sizeLine = 16777216 := rfl; omega)]
        simp
      simp only [wp_some, ap, wp_ret, wp_bin, wp_blt, wl_cons, wl_nil, wp_varE, List.getElem?_cons_zero, List.getElem?_cons_succ, Option.some.injEq, exists_eq_left', bl_int, bo_mod hm]
      refine ⟨trivial, by rw [List.getElem?_set_ne hne]; exact g1, cset g2, ⟨by rw [List.length_set, ← hL]; simp, fun i hi n1 n2 => ?_⟩⟩
      rw [List.getElem?_set_ne (Ne.symm n2), ← hL, List.getElem?_set_ne (Ne.symm n2), List.getElem?_append_left hi]
    · have z0 : 0 ≤ z % 2147483563 := Int.emod_nonneg _ (by omega)
      have z1 : z % 2147483563 < 2147483563 := Int.emod_lt_of_pos _ (by omega)
      refine go (tailR a b (m + 71237 * (t + 1) + z % 2147483563) (t + 1) many) front ⟨Int.emod_nonneg _ (by omega), Int.emod_lt_of_pos _ hm⟩ (by omega) fun F d c J f1 f2 hne => ?_
      rw [wp_seq]
      unfold cells1
      refine start f1 f2 ?_
      rw [hce]
      simp only [Bool.not_false, if_true]
      refine body (app f1) (app f2) hne ?_
      rw [if_neg hz]
      have g1 : ((J ++ [Cell.lst []]).set c (.lst (front.map .int)))[d]? = some (deckD c m (t + 1)) := by rw [List.getElem?_set_ne hne]; exact app f1
      have g2 : ((J ++ [Cell.lst []]).set c (.lst (front.map .int)))[c]? = some (.lst (front.map .int)) := cset (app f2)
      simp only [wp_nil, wp_seq, wp_asg, wp_bin, wp_blt, wl_cons, wl_nil, wp_varE, wp_con, List.getElem?_cons_zero, List.getElem?_cons_succ, Option.some.injEq, exists_eq_left', bl_int, wp_some, bo_mod (show (0 : Int) < 2147483563 by omega), bo_add, assignT, List.set_cons_succ, List.set_cons_zero]
      refine (tail1_ok ha hb g1 (by omega) (by omega) (by omega) hm).mono fun fl h' ⟨z1, z2⟩ => ?_
      subst z1 z2
      exact ⟨rfl, g1, g2, ⟨by simp, fun i hi n1 n2 => by rw [List.getElem?_set_ne (Ne.symm n2), List.getElem?_append_left hi]⟩⟩
/-- what a draw gives -/
noncomputable def drawD (V : Sg → Nat → Prop) (defs : List IDef) (wf iD : Nat) (many : Int) (σ : Sg) : Option (Int × Sg) :=
  open Classical in if h : ∃ p : Int × Sg, Draws V defs wf iD many σ p.1 p.2 then some (Classical.choose h) else none
theorem drawD_ok {V : Sg → Nat → Prop} {defs : List IDef} {wf iD d c : Nat} : DrawOk d c defs wf iD (drawD V defs wf iD) := fun k many σ r σ' h e s => by
  unfold drawD at e
  split at e
  · rename_i hp
    have q := Classical.choose_spec hp
    have e := Option.some.inj e
    rw [e] at q
    exact q.2.2.2 d c k h s
  · cases e
theorem drawD_of {V : Sg → Nat → Prop} {defs : List IDef} {wf iD : Nat} {many : Int} {σ : Sg} {n : Nat} (h : ∃ r σ', Draws V defs wf iD many σ r σ') (hV : V σ (n + 1)) : ∃ r σ', drawD V defs wf iD many σ = some (r, σ') ∧ 0 ≤ r ∧ r < many ∧ V σ' n := by
  obtain ⟨r, σ', q⟩ := h
  have hp : ∃ p : Int × Sg, Draws V defs wf iD many σ p.1 p.2 := ⟨(r, σ'), q⟩
  have q := Classical.choose_spec hp
  exact ⟨_, _, by unfold drawD; rw [dif_pos hp], q.1, q.2.1, q.2.2.1 n hV⟩
end
end PI
end

section
set_option Elab.async false
set_option linter.all false
set_option maxRecDepth 100000
set_option maxHeartbeats 8000000
/-! the deck of one mixed number -/
namespace PI
open PySem PySem.Spec PyProof.Rows L2
abbrev sl63 : IE := .slc false true (.var 0) .nil (.con (.int 63))
def deck1 (s e : Int) : IS := .seq (.asg (.nm 1) (.con (.int s))) (.seq (.for_ (.nm 2) .seq (.cons sl63 .nil) (.seq (.asg (.nm 1) (.bin .mod (i1 (.bin .add (.bin .add (.bin .mul (.var 1) (.con (.int 40014))) (.bin .mod (i1 (.var 2)) (.con (.int 2147483563)))) (.con (.int e)))) (.con (.int 2147483399)))) .nil)) (.seq (.ret (.dic [(Str.ofString "cells"), (Str.ofString "mixed"), (Str.ofString "draws")] (.cons (.rev (.blt .list (.cons sl63 .nil))) (.cons (.var 1) (.cons (.con (.int 0)) .nil))))) .nil))
theorem deck1_ok {defs : List IDef} {wf iK k : Nat} {h : IHeap} {s e : Int} (hs : 0 ≤ s ∧ s < 2147483647) (he : 0 ≤ e ∧ e < 1000) (hd : defs[iK]? = some ⟨1, 3, deck1 s e⟩) {ns : List Int} (hl : ns.length ≤ 63) :
    Wp (callN defs wf (k + 1) iK [.fl (ns.map .int)] h) fun v h' => ∃ d c σ, v = .ref d ∧ Hs d c σ h' ∧ V1 σ 1000000000 := by
  refine wp_def hd rfl ?_
  have st : start' ⟨1, 3, deck1 s e⟩ [.fl (ns.map .int)] = [some (.fl (ns.map .int)), none, none] := rfl
  rw [st]
  obtain ⟨ns', ec, el⟩ := cut_map none (some 63) ns
  have sl : ∀ H : IHeap, slcop (.fl (ns.map .int)) none (some 63) H = some (.ref H.length, H ++ [.lst (ns'.map .int)]) := fun H => by
    show some (newCell (.lst (cut (ns.map .int) none (some 63))) H) = _
    rw [ec]
    rfl
  have o1 : ∀ (F : Nat → List PV → IHeap → Option (PV × IHeap)) (ρ : Env') (H : IHeap), evO F false .nil ρ H = some (none, H) := fun _ _ _ => rfl
  have o2 : ∀ (F : Nat → List PV → IHeap → Option (PV × IHeap)) (ρ : Env') (H : IHeap), evO F true (.con (.int 63)) ρ H = some (some 63, H) := fun _ _ _ => rfl
  simp only [deck1, wp_seq, wp_asg, wp_con, assignT, List.set_cons_succ, List.set_cons_zero, Option.some.injEq, exists_eq_left']
  refine wp_for (xs := ns'.map .int) (I := fun j ρ H => ∃ (m : Int) (x : Option PV), ρ = [some (.fl (ns.map .int)), some (.int m), x] ∧ 0 ≤ m ∧ m < 2147483647 ∧ H = h ++ [.lst (ns'.map .int)]) ?_
  simp only [wl_cons, wl_nil, wp_slc, wp_varE, List.getElem?_cons_zero, Option.some.injEq, exists_eq_left']
  refine ⟨_, _, o1 _ _ _, _, _, o2 _ _ _, ?_⟩
  rw [sl]
  simp only [wp_some]
  have hc : (h ++ [Cell.lst (ns'.map PV.int)])[h.length]? = some (.lst (ns'.map .int)) := by simp
  refine ⟨.cell h.length, by simp [srcOf], by show (match (h ++ [Cell.lst (ns'.map PV.int)])[h.length]? with | some (.lst xs) => xs.length | _ => 0) = _; rw [hc], fun j ρ H ⟨m, x, _, _, _, eH⟩ => ?_, ⟨s, none, rfl, by omega, by omega, by first | rfl | trivial⟩, fun j x ρ H hx ⟨m, y, eρ, m0, m1, eH⟩ => ?_, fun ρ H ⟨m, x, eρ, m0, m1, eH⟩ => ?_⟩
  · rw [eH]
    show (match (h ++ [Cell.lst (ns'.map PV.int)])[h.length]? with | some (.lst xs) => some xs[j]? | _ => none) = _
    rw [hc]
  · obtain ⟨a, rfl, _⟩ := mem_ints (List.mem_of_getElem? hx)
    subst eρ
    refine ⟨_, rfl, ?_⟩
    simp only [wp_seq, wp_asg, wp_bin, wp_blt, wl_cons, wl_nil, wp_varE, wp_con, List.set_cons_succ, List.set_cons_zero, List.getElem?_cons_zero, List.getElem?_cons_succ, Option.some.injEq, exists_eq_left']
    rw [mul_ok (by omega) (by omega)]
    simp only [wp_some, bl_int, bo_mod (show (0 : Int) < 2147483563 by omega), bo_add, bo_mod (show (0 : Int) < 2147483399 by omega), assignT, List.set_cons_succ, List.set_cons_zero, Option.some.injEq, exists_eq_left', wp_nil]
    exact ⟨_, _, rfl, Int.emod_nonneg _ (by omega), Int.lt_trans (Int.emod_lt_of_pos _ (by omega)) (by omega), eH⟩
  · subst eρ eH
    simp only [wp_seq, wp_ret]
    refine wp_dic ?_
    simp only [wl_cons, wl_nil, wp_rev, wp_blt, wp_slc, wp_varE, wp_con, List.getElem?_cons_zero, List.getElem?_cons_succ, Option.some.injEq, exists_eq_left']
    refine ⟨_, _, o1 _ _ _, _, _, o2 _ _ _, ?_⟩
    rw [sl]
    simp only [wp_some]
    generalize hJ : (h ++ [Cell.lst (ns'.map PV.int)]) = J
    have hl2 : bltop .list [.ref (J ++ [Cell.dic []]).length] ((J ++ [Cell.dic []]) ++ [.lst (ns'.map .int)]) = some (newCell (.lst (ns'.map .int)) ((J ++ [Cell.dic []]) ++ [.lst (ns'.map .int)])) := by
      have e : ((J ++ [Cell.dic []]) ++ [Cell.lst (ns'.map PV.int)])[(J ++ [Cell.dic []]).length]? = some (.lst (ns'.map .int)) := by simp
      simp only [bltop, e]
    rw [hl2]
    unfold newCell
    simp only [wp_some]
    generalize hL : ((J ++ [Cell.dic []]) ++ [Cell.lst (ns'.map PV.int)]) = L
    have e3 : (L ++ [Cell.lst (ns'.map PV.int)])[L.length]? = some (.lst (ns'.map .int)) := by simp
    refine ⟨_, _, rfl, e3, ?_⟩
    have hLl : L.length = J.length + 2 := by rw [← hL]; simp
    have e4 : ((L ++ [Cell.lst (ns'.map PV.int)]) ++ [Cell.lst (ns'.map PV.int).reverse])[J.length]? = some (.dic []) := by rw [← hL]; simp
    refine ⟨e4, rfl, by decide, ?_⟩
    refine ⟨_, rfl, J.length, (L ++ [Cell.lst (ns'.map PV.int)]).length, sg1 m 0 ns'.reverse, rfl, ⟨?_, ?_, by simp; omega⟩, ⟨m, 0, ns'.reverse, rfl, m0, m1, by omega, by omega, by simp; omega⟩⟩
    · rw [List.getElem?_set_self (by simp; omega)]
      rfl
    · rw [List.getElem?_set_ne (by simp; omega)]
      simp [sg1]
end PI
end

section
set_option Elab.async false
set_option linter.all false
set_option maxRecDepth 100000
set_option maxHeartbeats 8000000
/-! how values are reckoned with -/
namespace PI
open PySem PySem.Spec PyProof.Rows L2
section
variable {F : FP} {ρ ρ1 : Env'} {σ σ' σ1 : Sg} {a b c e as bs : IE} {v w : PV} {wf : Nat}
theorem fe_var {i : Nat} (h : ρ[i]? = some (some v)) : fe F (.var i) ρ σ = some (v, σ) := by
  show (match ρ[i]? with | some (some v) => some (v, σ) | _ => none) = _
  rw [h]
theorem fe_con (h : flat v = true) : fe F (.con v) ρ σ = some (v, σ) := by
  show (if flat v = true then some (v, σ) else none) = _
  rw [if_pos h]
theorem pb_add {i j : Int} : pbin .add (.int i) (.int j) = some (.int (i + j)) := rfl
theorem pb_sub {i j : Int} : pbin .sub (.int i) (.int j) = some (.int (i - j)) := rfl
theorem pb_mul {i j : Int} (h1 : i.natAbs < 2 ^ 1000) (h2 : j.natAbs < 2 ^ 1000) : pbin .mul (.int i) (.int j) = some (.int (i * j)) := by
  have a := log2_le (n := 999) h1
  have b := log2_le (n := 999) h2
  show ((if i.natAbs.log2 + j.natAbs.log2 < 1000000 then some (PV.int (i * j), ([] : IHeap)) else none).map (·.1)) = _
  rw [if_pos (by omega)]
  rfl
theorem pb_mod {i j : Int} (hj : 0 < j) : pbin .mod (.int i) (.int j) = some (.int (i % j)) := by
  show ((if j = 0 then none else some (PV.int (i.fmod j), ([] : IHeap))).map (·.1)) = _
  rw [if_neg (by omega), Int.fmod_eq_emod_of_nonneg i (by omega)]
  rfl
theorem pb_fdiv {i j : Int} (hj : 0 < j) (h2 : j.natAbs < 2 ^ 1000) : pbin .fdiv (.int i) (.int j) = some (.int (i / j)) := by
  have := log2_le (n := 999) h2
  show ((if 0 < j ∧ middling j = true then some (PV.int (i / j), ([] : IHeap)) else none).map (·.1)) = _
  rw [if_pos ⟨hj, by simp [middling]; omega⟩]
  rfl
theorem pc_eq {i j : Int} : pcmp .eq (.int i) (.int j) = some (decide (i = j)) := rfl
theorem pc_ne {i j : Int} : pcmp .ne (.int i) (.int j) = some (!decide (i = j)) := rfl
theorem pc_lt {i j : Int} : pcmp .lt (.int i) (.int j) = some (decide (i < j)) := rfl
theorem pc_le {i j : Int} : pcmp .le (.int i) (.int j) = some (decide (i ≤ j)) := rfl
theorem pc_gt {i j : Int} : pcmp .gt (.int i) (.int j) = some (decide (j < i)) := rfl
theorem pc_ge {i j : Int} : pcmp .ge (.int i) (.int j) = some (decide (j ≤ i)) := rfl
theorem pl_int {i : Int} : pblt .int [.int i] = some (.int i) := rfl
theorem pl_lenF {xs : List PV} : pblt .len [.fl xs] = some (.int xs.length) := rfl
theorem pl_lenT {xs : List PV} : pblt .len [.tup xs] = some (.int xs.length) := rfl
theorem pl_tupF {xs : List PV} : pblt .tuple [.fl xs] = some (.tup xs) := rfl
theorem pl_sum {xs : List Int} : pblt .sum [.fl (xs.map .int)] = some (.int xs.sum) := by
  show (intsOf (xs.map .int)).map _ = _
  rw [intsOf_map]
  rfl
theorem pl_gcd {i j : Int} (h1 : i.natAbs < 2 ^ 1000) (h2 : j.natAbs < 2 ^ 1000) : pblt .gcd [.int i, .int j] = some (.int (Int.gcd i j)) := by
  have a := log2_le (n := 999) h1
  have b := log2_le (n := 999) h2
  show ((if (middling i && middling j) = true then some (PV.int (Int.gcd i j), ([] : IHeap)) else none).map (·.1)) = _
  rw [if_pos (by simp [middling]; omega)]
  rfl
theorem tr_b {b : Bool} : truthy [] (.bl b) = some b := rfl
/-- a call -/
theorem feN_def {defs : List IDef} {iD k i : Nat} {D : Int → Sg → Option (Int × Sg)} {d : IDef} {ws : List PV} (hi : i ≠ iD) (hd : defs[i]? = some d) (hl : ws.length = d.np) :
    feN defs wf iD D (k + 1) i ws σ = (fex (feN defs wf iD D k) wf d.body (start' d ws) σ).bind fun p => (retOf p.1).bind fun w => some (w, p.2) := by
  show (if i = iD then _ else _) = _
  rw [if_neg hi, hd]
  simp only
  rw [if_pos hl]
theorem feN_draw {defs : List IDef} {iD k : Nat} {D : Int → Sg → Option (Int × Sg)} {many r : Int} (h : D many σ = some (r, σ')) : feN defs wf iD D (k + 1) iD [tok, .int many] σ = some (.int r, σ') := by
  show (if iD = iD then _ else _) = _
  rw [if_pos rfl]
  show (D many σ).bind _ = _
  rw [h]
  rfl
/-- one turn that leaves the deck as it is -/
def TurnP (F : FP) (ρ : Env') (vs : List Nat) (tg : Tg) (ifs elt : IE) (σ : Sg) (x : PV) (o : Option PV) : Prop :=
  ∃ ρ1, assignT tg x (wipeE ρ vs) = some ρ1 ∧ ∃ t b, fe F ifs ρ1 σ = some (t, σ) ∧ truthy [] t = some b ∧ (if b = true then ∃ v, fe F elt ρ1 σ = some (v, σ) ∧ o = some v else o = none)
theorem lc_walk {vs : List Nat} {tg : Tg} {ifs elt : IE} {g : PV → Option PV} : ∀ (xs acc : List PV), acc.length + xs.length ≤ sizeLine → (∀ x ∈ xs, TurnP F ρ vs tg ifs elt σ x (g x)) → walkP (lcP F ρ vs tg ifs elt) xs acc σ = some (.inl (acc ++ xs.filterMap g), σ)
  | [], acc, _, _ => by simp [walkP]
  | x :: xs, acc, hl, h => by
    obtain ⟨ρ1, e1, t, b, e2, e3, q⟩ := h x List.mem_cons_self
    rw [List.length_cons] at hl
    have ih := fun acc' (hl' : acc'.length + xs.length ≤ sizeLine) => lc_walk (vs := vs) (tg := tg) (ifs := ifs) (elt := elt) (g := g) xs acc' hl' fun y hy => h y (List.mem_cons_of_mem _ hy)
    cases b with
    | false =>
      simp only [Bool.false_eq_true, if_false] at q
      have st : lcP F ρ vs tg ifs elt x acc σ = some (.inl acc, σ) := by
        unfold lcP; rw [e1]; simp only [Option.bind_some]; rw [e2]; simp only [Option.bind_some]; rw [e3]; simp
      unfold walkP
      rw [st]
      simp only
      rw [ih acc (by omega), List.filterMap_cons, q]
    | true =>
      simp only [if_true] at q
      obtain ⟨v, e4, q⟩ := q
      have st : lcP F ρ vs tg ifs elt x acc σ = some (.inl (acc ++ [v]), σ) := by
        unfold lcP; rw [e1]; simp only [Option.bind_some]; rw [e2]; simp only [Option.bind_some]; rw [e3]; simp only [Option.bind_some, if_true]; rw [e4]; simp only [Option.bind_some]; rw [if_pos (by omega)]
      unfold walkP
      rw [st]
      simp only
      rw [ih (acc ++ [v]) (by simp; omega), List.filterMap_cons, q]
      simp
/-- a list comprehension whose parts leave the deck as it is -/
theorem fe_lcP {vs : List Nat} {tg : Tg} {k : IK} {src ifs elt : IE} {xs : List PV} (g : PV → Option PV) (h1 : fe F src ρ σ = some (v, σ)) (h2 : psrc k v = some xs) (hl : xs.length ≤ sizeLine) (h : ∀ x ∈ xs, TurnP F ρ vs tg ifs elt σ x (g x)) :
    fe F (.lc vs tg k src ifs elt) ρ σ = some (.fl (xs.filterMap g), σ) := by
  rw [fe_lc, h1]
  simp only [Option.bind_some]
  rw [h2]
  simp only [Option.bind_some]
  rw [lc_walk xs [] (by simpa using hl) h]
  rfl
theorem filterMap_ints {g : Int → Option Int} {f : PV → Option PV} (xs : List Int) (h : ∀ x ∈ xs, f (.int x) = (g x).map .int) : (xs.map PV.int).filterMap f = (xs.filterMap g).map .int := by
  induction xs with
  | nil => rfl
  | cons x xs ih =>
    rw [List.map_cons, List.filterMap_cons, List.filterMap_cons, h x List.mem_cons_self]
    have := ih fun y hy => h y (List.mem_cons_of_mem _ hy)
    cases g x <;> simp [this]
theorem fe_nil : fe F .nil ρ σ = some (.tup [], σ) := rfl
theorem fe_cons {vs : List PV} (h1 : fe F a ρ σ = some (v, σ')) (h2 : fe F as ρ σ' = some (.tup vs, σ1)) : fe F (.cons a as) ρ σ = some (.tup (v :: vs), σ1) := by
  show (fe F a ρ σ).bind _ = _
  rw [h1]
  simp only [Option.bind_some]
  rw [h2]
  rfl
theorem prng_ints (n : Nat) (a : Int) : prng n a = ((List.range n).map fun i : Nat => a + (i : Int)).map PV.int := by rw [prng_eq, List.map_map]; rfl
theorem ps_range1 {n : Int} (h : n.natAbs < 2 ^ 61) : psrc .range (.tup [.int n]) = some (prng n.toNat 0) := by
  show (if fits62 n = true then _ else _) = _
  rw [if_pos (fits_small h)]
theorem ps_range2 {a b : Int} (ha : a.natAbs < 2 ^ 61) (hb : b.natAbs < 2 ^ 61) : psrc .range (.tup [.int a, .int b]) = some (prng (b - a).toNat a) := by
  show (if (fits62 a && fits62 b) = true then _ else _) = _
  rw [if_pos (by rw [fits_small ha, fits_small hb]; rfl)]
end
end PI
end

section
set_option Elab.async false
set_option linter.all false
set_option maxRecDepth 100000
set_option maxHeartbeats 8000000
namespace PI
open PySem PySem.Spec PyProof.Rows L2
section
variable {F : FP} {ρ ρ1 : Env'} {σ σ' σ1 : Sg} {a b c e as bs : IE} {v w : PV} {wf : Nat}
theorem gen_walk {vs : List Nat} {i : Nat} {elt : IE} {g : Int → PV} : ∀ (xs : List Int) (acc : List PV), acc.length + xs.length ≤ sizeLine → (∀ x ∈ xs, fe F elt ((wipeE ρ vs).set i (some (.int x))) σ = some (g x, σ)) →
    walkP (genP F .tup ρ vs (.nm i) (.con (.bl true)) elt) (xs.map .int) acc σ = some (.inl (acc ++ xs.map g), σ)
  | [], acc, _, _ => by simp [walkP]
  | x :: xs, acc, hl, h => by
    rw [List.length_cons] at hl
    have st : genP F .tup ρ vs (.nm i) (.con (.bl true)) elt (.int x) acc σ = some (.inl (acc ++ [g x]), σ) := by
      unfold genP
      simp only [assignT, Option.bind_some]
      rw [fe_con rfl]
      simp only [Option.bind_some, tr_b, if_true]
      rw [h x List.mem_cons_self]
      simp only [Option.bind_some]
      show (((if acc.length < sizeLine then some (Sum.inl (acc ++ [g x]), ([] : IHeap)) else none).map (·.1)).bind _) = _
      rw [if_pos (by omega)]
      rfl
    rw [List.map_cons]
    unfold walkP
    rw [st]
    simp only
    rw [gen_walk xs (acc ++ [g x]) (by simp; omega) fun y hy => h y (List.mem_cons_of_mem _ hy)]
    simp
/-- a tuple by a function of the ints of a list or tuple -/
theorem fe_genT {vs : List Nat} {i : Nat} {src elt : IE} {kk : IK} {xs : List Int} (g : Int → PV) (hl : xs.length ≤ 1000) (h1 : fe F src ρ σ = some (v, σ)) (h2 : psrc kk v = some (xs.map .int))
    (turn : ∀ x ∈ xs, fe F elt ((wipeE ρ vs).set i (some (.int x))) σ = some (g x, σ)) : fe F (.gen .tup vs (.nm i) kk src (.con (.bl true)) elt) ρ σ = some (.tup (xs.map g), σ) := by
  rw [fe_gen, h1]
  simp only [Option.bind_some]
  rw [h2]
  simp only [Option.bind_some]
  rw [show genInit .tup = [] from rfl, gen_walk xs [] (by have : sizeLine = 16777216 := rfl; simp; omega) turn]
  rfl
theorem sx_nx {s r : IS} {ρ' : Env'} (h : fex F wf s ρ σ = some (.nx ρ', σ')) : fex F wf (.seq s r) ρ σ = fex F wf r ρ' σ' := by
  show (fex F wf s ρ σ).bind _ = _
  rw [h]
  rfl
theorem sx_rt {s r : IS} (h : fex F wf s ρ σ = some (.rt v, σ')) : fex F wf (.seq s r) ρ σ = some (.rt v, σ') := by
  show (fex F wf s ρ σ).bind _ = _
  rw [h]
  rfl
theorem sx_ret (h : fe F e ρ σ = some (v, σ')) : fex F wf (.ret e) ρ σ = some (.rt v, σ') := by
  show (fe F e ρ σ).bind _ = _
  rw [h]
  rfl
theorem sx_ex (h : fe F e ρ σ = some (v, σ')) (hm : mtOf e = none) : fex F wf (.ex e) ρ σ = some (.nx ρ, σ') := by
  show (match mtOf e with | some (.app o a) => _ | some (.ext o a) => _ | none => (fe F e ρ σ).bind fun p => some (Fl.nx ρ, p.2)) = _
  rw [hm]
  simp only
  rw [h]
  rfl
theorem sx_asg {t : Tg} {ρ' : Env'} (h : fe F e ρ σ = some (v, σ')) (q : assignT t v ρ = some ρ') : fex F wf (.asg t e) ρ σ = some (.nx ρ', σ') := by
  show (fe F e ρ σ).bind _ = _
  rw [h]
  show (assignT t v ρ).bind _ = _
  rw [q]
  rfl
theorem sx_if {s r : IS} {b : Bool} (h : fe F c ρ σ = some (v, σ')) (q : truthy [] v = some b) : fex F wf (.ife c s r) ρ σ = if b = true then fex F wf s ρ σ' else fex F wf r ρ σ' := by
  show (fe F c ρ σ).bind _ = _
  rw [h]
  show (truthy [] v).bind _ = _
  rw [q]
  rfl
theorem feN_rt {defs : List IDef} {iD k i : Nat} {D : Int → Sg → Option (Int × Sg)} {d : IDef} {ws : List PV} (hi : i ≠ iD) (hd : defs[i]? = some d) (hl : ws.length = d.np) (h : fex (feN defs wf iD D k) wf d.body (start' d ws) σ = some (.rt v, σ')) :
    feN defs wf iD D (k + 1) i ws σ = some (v, σ') := by
  rw [feN_def hi hd hl, h]
  rfl
theorem fe_call {i : Nat} {vs : List PV} (h : fe F as ρ σ = some (.tup vs, σ')) : fe F (.call i as) ρ σ = F i vs σ' := by
  show (fe F as ρ σ).bind _ = _
  rw [h]
  rfl
/-- the first that passes -/
theorem for_find {body : IS} {i : Nat} {kk : IK} {src : IE} {xs : List Int} (p : Int → Bool) (g : Int → PV) (h1 : fe F src ρ σ = some (v, σ)) (h2 : psrc kk v = some (xs.map .int))
    (turn : ∀ x ∈ xs, ∀ ρ' : Env', ρ'.set i (some (.int x)) = ρ.set i (some (.int x)) → fex F wf body (ρ.set i (some (.int x))) σ = some (if p x = true then .rt (g x) else .nx (ρ.set i (some (.int x))), σ)) :
    ∃ ρ', ρ'.length = ρ.length ∧ (∀ j, j ≠ i → ρ'[j]? = ρ[j]?) ∧ fex F wf (.for_ (.nm i) kk src body) ρ σ = some (match xs.find? p with | some x => .rt (g x) | none => .nx ρ', σ) := by
  rw [fex_for, h1]
  simp only [Option.bind_some]
  rw [h2]
  simp only [Option.bind_some]
  have go : ∀ (xs : List Int) (ρ0 : Env'), (∀ x, ρ0.set i (some (.int x)) = ρ.set i (some (.int x))) → (∀ x ∈ xs, fex F wf body (ρ.set i (some (.int x))) σ = some (if p x = true then .rt (g x) else .nx (ρ.set i (some (.int x))), σ)) →
      ∃ ρ', (ρ' = ρ0 ∨ ∃ x, ρ' = ρ.set i (some (.int x))) ∧ walkP (forP F wf (.nm i) body) (xs.map .int) ρ0 σ = some (match xs.find? p with | some x => .inr (.rt (g x)) | none => .inl ρ', σ) := by
    intro xs
    induction xs with
    | nil => intro ρ0 _ _; exact ⟨ρ0, .inl rfl, rfl⟩
    | cons x xs ih =>
      intro ρ0 h0 h
      have hb := h x List.mem_cons_self
      have st : forP F wf (.nm i) body (.int x) ρ0 σ = some (if p x = true then .inr (.rt (g x)) else .inl (ρ.set i (some (.int x))), σ) := by
        unfold forP
        simp only [assignT, Option.bind_some]
        rw [h0 x, hb]
        simp only [Option.bind_some]
        split <;> rfl
      rw [List.map_cons]
      unfold walkP
      rw [st]
      by_cases hp : p x = true
      · refine ⟨ρ0, .inl rfl, ?_⟩
        rw [if_pos hp, List.find?_cons_of_pos hp]
      · rw [if_neg hp]
        obtain ⟨ρ', q, e⟩ := ih (ρ.set i (some (.int x))) (fun y => by rw [List.set_set]) fun y hy => h y (List.mem_cons_of_mem _ hy)
        refine ⟨ρ', .inr (q.elim (fun z => ⟨x, z⟩) id), ?_⟩
        simp only
        rw [e, List.find?_cons_of_neg hp]
  obtain ⟨ρ', q, e⟩ := go xs ρ (fun _ => rfl) fun x hx => turn x hx ρ rfl
  rw [e]
  refine ⟨ρ', ?_, ?_, ?_⟩
  · rcases q with q | ⟨x, q⟩ <;> rw [q]; simp
  · intro j hj
    rcases q with q | ⟨x, q⟩ <;> rw [q]
    rw [List.getElem?_set_ne (Ne.symm hj)]
  · simp only [Option.bind_some]
    cases xs.find? p <;> rfl
end
end PI
end

section
set_option Elab.async false
set_option linter.all false
set_option maxRecDepth 100000
set_option maxHeartbeats 8000000
namespace PI
open PySem PySem.Spec PyProof.Rows L2
section
variable {F : FP} {ρ ρ1 : Env'} {σ σ' σ1 σ2 : Sg} {a b c e as bs : IE} {v w : PV} {wf : Nat}
/-- a loop that keeps a row, or returns -/
theorem for_ret {body : IS} {t : Tg} {kk : IK} {src : IE} {xs : List PV} (I : List PV → Env' → Prop) (K : PV → Prop) (h1 : fe F src ρ σ = some (v, σ)) (h2 : psrc kk v = some xs) (h0 : I xs ρ)
    (st : ∀ x xs ρ, I (x :: xs) ρ → ∃ ρ1, assignT t x ρ = some ρ1 ∧ ((∃ ρ', fex F wf body ρ1 σ = some (.nx ρ', σ) ∧ I xs ρ') ∨ ∃ w, fex F wf body ρ1 σ = some (.rt w, σ) ∧ K w)) :
    (∃ ρ', fex F wf (.for_ t kk src body) ρ σ = some (.nx ρ', σ) ∧ I [] ρ') ∨ ∃ w, fex F wf (.for_ t kk src body) ρ σ = some (.rt w, σ) ∧ K w := by
  have go : ∀ (xs : List PV) (ρ : Env'), I xs ρ → (∃ ρ', walkP (forP F wf t body) xs ρ σ = some (.inl ρ', σ) ∧ I [] ρ') ∨ ∃ w, walkP (forP F wf t body) xs ρ σ = some (.inr (.rt w), σ) ∧ K w := by
    intro xs
    induction xs with
    | nil => intro ρ h; exact .inl ⟨ρ, rfl, h⟩
    | cons x xs ih =>
      intro ρ h
      obtain ⟨ρ1, e1, q⟩ := st x xs ρ h
      rcases q with ⟨ρ', e2, i⟩ | ⟨w, e2, k⟩
      · have s : forP F wf t body x ρ σ = some (.inl ρ', σ) := by
          unfold forP
          rw [e1]
          simp only [Option.bind_some]
          rw [e2]
          rfl
        unfold walkP
        rw [s]
        exact ih ρ' i
      · have s : forP F wf t body x ρ σ = some (.inr (.rt w), σ) := by
          unfold forP
          rw [e1]
          simp only [Option.bind_some]
          rw [e2]
          rfl
        unfold walkP
        rw [s]
        exact .inr ⟨w, rfl, k⟩
  rw [fex_for, h1]
  simp only [Option.bind_some]
  rw [h2]
  simp only [Option.bind_some]
  rcases go xs ρ h0 with ⟨ρ', e, i⟩ | ⟨w, e, k⟩
  · rw [e]
    exact .inl ⟨ρ', rfl, i⟩
  · rw [e]
    exact .inr ⟨w, rfl, k⟩
theorem for_inv {body : IS} {t : Tg} {kk : IK} {src : IE} {xs : List PV} (I : List PV → Env' → Prop) (h1 : fe F src ρ σ = some (v, σ)) (h2 : psrc kk v = some xs) (h0 : I xs ρ)
    (st : ∀ x xs ρ, I (x :: xs) ρ → ∃ ρ1 ρ', assignT t x ρ = some ρ1 ∧ fex F wf body ρ1 σ = some (.nx ρ', σ) ∧ I xs ρ') : ∃ ρ', fex F wf (.for_ t kk src body) ρ σ = some (.nx ρ', σ) ∧ I [] ρ' := by
  rcases for_ret (wf := wf) (body := body) I (fun _ => False) h1 h2 h0 fun x xs ρ h => by
    obtain ⟨ρ1, ρ', e1, e2, i⟩ := st x xs ρ h
    exact ⟨ρ1, e1, .inl ⟨ρ', e2, i⟩⟩ with q | ⟨w, _, k⟩
  · exact q
  · exact k.elim
/-- a loop that may change the deck -/
theorem for_deck {body : IS} {t : Tg} {kk : IK} {src : IE} {xs : List PV} (I : List PV → Env' → Sg → Prop) (K : PV → Sg → Prop) (h1 : fe F src ρ σ = some (v, σ1)) (h2 : psrc kk v = some xs) (h0 : I xs ρ σ1)
    (st : ∀ x xs ρ σ, I (x :: xs) ρ σ → ∃ ρ1, assignT t x ρ = some ρ1 ∧ ((∃ ρ' σ', fex F wf body ρ1 σ = some (.nx ρ', σ') ∧ I xs ρ' σ') ∨ ∃ w σ', fex F wf body ρ1 σ = some (.rt w, σ') ∧ K w σ')) :
    (∃ ρ' σ', fex F wf (.for_ t kk src body) ρ σ = some (.nx ρ', σ') ∧ I [] ρ' σ') ∨ ∃ w σ', fex F wf (.for_ t kk src body) ρ σ = some (.rt w, σ') ∧ K w σ' := by
  have go : ∀ (xs : List PV) (ρ : Env') (σ : Sg), I xs ρ σ → (∃ ρ' σ', walkP (forP F wf t body) xs ρ σ = some (.inl ρ', σ') ∧ I [] ρ' σ') ∨ ∃ w σ', walkP (forP F wf t body) xs ρ σ = some (.inr (.rt w), σ') ∧ K w σ' := by
    intro xs
    induction xs with
    | nil => intro ρ σ h; exact .inl ⟨ρ, σ, rfl, h⟩
    | cons x xs ih =>
      intro ρ σ h
      obtain ⟨ρ1, e1, q⟩ := st x xs ρ σ h
      rcases q with ⟨ρ', σ', e2, i⟩ | ⟨w, σ', e2, k⟩
      · have s : forP F wf t body x ρ σ = some (.inl ρ', σ') := by
          unfold forP
          rw [e1]
          simp only [Option.bind_some]
          rw [e2]
          rfl
        unfold walkP
        rw [s]
        exact ih ρ' σ' i
      · have s : forP F wf t body x ρ σ = some (.inr (.rt w), σ') := by
          unfold forP
          rw [e1]
          simp only [Option.bind_some]
          rw [e2]
          rfl
        unfold walkP
        rw [s]
        exact .inr ⟨w, σ', rfl, k⟩
  rw [fex_for, h1]
  simp only [Option.bind_some]
  rw [h2]
  simp only [Option.bind_some]
  rcases go xs ρ σ1 h0 with ⟨ρ', σ', e, i⟩ | ⟨w, σ', e, k⟩
  · rw [e]
    exact .inl ⟨ρ', σ', rfl, i⟩
  · rw [e]
    exact .inr ⟨w, σ', rfl, k⟩
theorem fe_bin {op : Bop} {r : PV} (h1 : fe F a ρ σ = some (v, σ1)) (h2 : fe F b ρ σ1 = some (w, σ2)) (h3 : pbin op v w = some r) : fe F (.bin op a b) ρ σ = some (r, σ2) := by
  show (fe F a ρ σ).bind _ = _
  rw [h1]
  simp only [Option.bind_some]
  rw [h2]
  simp only [Option.bind_some]
  rw [h3]
  rfl
theorem fe_cmp {op : Cop} {r : Bool} (h1 : fe F a ρ σ = some (v, σ1)) (h2 : fe F b ρ σ1 = some (w, σ2)) (h3 : pcmp op v w = some r) : fe F (.cmp op a b) ρ σ = some (.bl r, σ2) := by
  show (fe F a ρ σ).bind _ = _
  rw [h1]
  simp only [Option.bind_some]
  rw [h2]
  simp only [Option.bind_some]
  rw [h3]
  rfl
theorem fe_blt {bb : Blt} {vs : List PV} {r : PV} (h1 : fe F as ρ σ = some (.tup vs, σ1)) (h3 : pblt bb vs = some r) : fe F (.blt bb as) ρ σ = some (r, σ1) := by
  show (fe F as ρ σ).bind _ = _
  rw [h1]
  simp only [Option.bind_some]
  rw [h3]
  rfl
theorem fe_int {i : Int} (h : fe F a ρ σ = some (.int i, σ1)) : fe F (.blt .int (.cons a .nil)) ρ σ = some (.int i, σ1) := fe_blt (fe_cons h fe_nil) pl_int
theorem fe_neg {i : Int} (h : fe F a ρ σ = some (.int i, σ1)) : fe F (.neg a) ρ σ = some (.int (-i), σ1) := by
  show (fe F a ρ σ).bind _ = _
  rw [h]
  rfl
theorem fe_not {b : Bool} (h : fe F a ρ σ = some (.bl b, σ')) : fe F (.not a) ρ σ = some (.bl (!b), σ') := by
  show (fe F a ρ σ).bind _ = _
  rw [h]
  rfl
theorem fe_or_f (h : fe F a ρ σ = some (.bl false, σ')) : fe F (.or a b) ρ σ = fe F b ρ σ' := by
  show (fe F a ρ σ).bind _ = _
  rw [h]
  rfl
theorem fe_or_t (h : fe F a ρ σ = some (.bl true, σ')) : fe F (.or a b) ρ σ = some (.bl true, σ') := by
  show (fe F a ρ σ).bind _ = _
  rw [h]
  rfl
theorem fe_and_t (h : fe F a ρ σ = some (.bl true, σ')) : fe F (.and a b) ρ σ = fe F b ρ σ' := by
  show (fe F a ρ σ).bind _ = _
  rw [h]
  rfl
theorem fe_ife {r : Bool} (h : fe F c ρ σ = some (.bl r, σ')) : fe F (.ife c a b) ρ σ = if r = true then fe F a ρ σ' else fe F b ρ σ' := by
  show (fe F c ρ σ).bind _ = _
  rw [h]
  rfl
theorem fe_tup {vs : List PV} (h : fe F as ρ σ = some (.tup vs, σ')) (l : vs.length ≤ 1000) : fe F (.tup as) ρ σ = some (.tup vs, σ') := by
  show (fe F as ρ σ).bind _ = _
  rw [h]
  show (if vs.length ≤ sizeLine then _ else _) = _
  rw [if_pos (by have : sizeLine = 16777216 := rfl; omega)]
theorem fe_lst {vs : List PV} (h : fe F as ρ σ = some (.tup vs, σ')) (l : vs.length ≤ 1000) : fe F (.lst as) ρ σ = some (.fl vs, σ') := by
  show (fe F as ρ σ).bind _ = _
  rw [h]
  show (if vs.length ≤ sizeLine then _ else _) = _
  rw [if_pos (by have : sizeLine = 16777216 := rfl; omega)]
theorem fe_sts (h : fe F a ρ σ = some (v, σ')) {bo : Bool} (q : psts bo v = some w) : fe F (.sts bo a) ρ σ = some (w, σ') := by
  show (fe F a ρ σ).bind _ = _
  rw [h]
  simp only [Option.bind_some]
  rw [q]
  rfl
theorem fe_callK {i : Nat} {perm : List Nat} {vs ws us : List PV} (h : fe F as ρ σ = some (.tup vs, σ')) (h2 : fe F bs ρ σ' = some (.tup ws, σ1)) (q : pm perm (vs ++ ws) = us) : fe F (.callK i perm as bs) ρ σ = F i us σ1 := by
  show (fe F as ρ σ).bind _ = _
  rw [h]
  simp only [Option.bind_some]
  rw [h2]
  simp only [Option.bind_some]
  rw [q]
theorem sx_aug {i : Nat} {op : Bop} {x : PV} {r : PV} (h : fe F e ρ σ = some (v, σ')) (q : ρ[i]? = some (some x)) (q2 : (augop op x v []).map (·.1) = some r) : fex F wf (.aug i op e) ρ σ = some (.nx (ρ.set i (some r)), σ') := by
  show (match ρ[i]? with | some (some x) => _ | _ => none) = _
  rw [q]
  show (fe F e ρ σ).bind _ = _
  rw [h]
  simp only [Option.bind_some]
  rw [q2]
  rfl
theorem sx_app {o : Nat} {xs : List PV} (h : fe F a ρ σ = some (v, σ')) (q : ρ[o]? = some (some (.fl xs))) (l : xs.length ≤ 1000000) : fex F wf (.ex (.mth .append (.var o) (.cons a .nil))) ρ σ = some (.nx (ρ.set o (some (.fl (xs ++ [v])))), σ') := by
  show (fe F a ρ σ).bind _ = _
  rw [h]
  show (appP o ρ fun xs => if xs.length < sizeLine then some (xs ++ [v]) else none).bind _ = _
  unfold appP
  rw [q]
  simp only
  rw [if_pos (by have : sizeLine = 16777216 := rfl; omega)]
  rfl
theorem sx_ift {s r : IS} (h : fe F c ρ σ = some (.bl true, σ')) : fex F wf (.ife c s r) ρ σ = fex F wf s ρ σ' := (sx_if h tr_b).trans rfl
theorem sx_iff {s r : IS} (h : fe F c ρ σ = some (.bl false, σ')) : fex F wf (.ife c s r) ρ σ = fex F wf r ρ σ' := (sx_if h tr_b).trans rfl
theorem sx_while {s : IS} : fex F wf (.while_ c s) ρ σ = whileP (fun ρ σ => (fe F c ρ σ).bind fun p => (truthy [] p.1).bind fun r => some (r, p.2)) (fex F wf s) wf ρ σ := rfl
theorem sx_nil : fex F wf .nil ρ σ = some (.nx ρ, σ) := rfl
theorem ag_fdiv {i j : Int} (hj : 0 < j) (h2 : j.natAbs < 2 ^ 1000) : (augop .fdiv (.int i) (.int j) []).map (·.1) = some (.int (i / j)) := pb_fdiv hj h2
theorem ag_add {i j : Int} : (augop .add (.int i) (.int j) []).map (·.1) = some (.int (i + j)) := rfl
theorem pl_lenT' {xs : List PV} {n : Nat} (h : xs.length = n) : pblt .len [.tup xs] = some (.int n) := by rw [pl_lenT, h]
theorem small_of {a : Int} {s : Nat} (h : a.natAbs ≤ s) (q : s < 2 ^ 100) : a.natAbs < 2 ^ 1000 := Nat.lt_of_le_of_lt h (Nat.lt_trans q (by decide))
end
end PI
end

section
set_option Elab.async false
set_option linter.all false
set_option maxRecDepth 100000
set_option maxHeartbeats 8000000
namespace PI
open PySem PySem.Spec PyProof.Rows L2
variable {σ : Sg} {k : Nat}
theorem fm_some {g : Int → PV} : ∀ (xs : List Int) {f : PV → Option PV}, (∀ x ∈ xs, f (.int x) = some (g x)) → (xs.map PV.int).filterMap f = xs.map g
  | [], _, _ => rfl
  | x :: xs, f, h => by
    rw [List.map_cons, List.filterMap_cons, h x List.mem_cons_self]
    simp only
    rw [fm_some xs fun y hy => h y (List.mem_cons_of_mem _ hy)]
    rfl
def onI (g : Int → Option PV) : PV → Option PV
  | .int i => g i
  | _ => none
/-- a list by a function of the ints of a list -/
theorem lc_ints {F : FP} {ρ : Env'} {vs : List Nat} {i : Nat} {src ifs elt : IE} {v : PV} {kk : IK} {xs : List Int} (p : Int → Bool) (g : Int → PV) (hl : xs.length ≤ 1000000) (h1 : fe F src ρ σ = some (v, σ)) (h2 : psrc kk v = some (xs.map .int))
    (turn : ∀ x ∈ xs, fe F ifs ((wipeE ρ vs).set i (some (.int x))) σ = some (.bl (p x), σ) ∧ (p x = true → fe F elt ((wipeE ρ vs).set i (some (.int x))) σ = some (g x, σ))) :
    fe F (.lc vs (.nm i) kk src ifs elt) ρ σ = some (.fl ((xs.filter p).map g), σ) := by
  rw [fe_lcP (onI fun x => if p x = true then some (g x) else none) h1 h2 (by rw [List.length_map]; have : sizeLine = 16777216 := rfl; omega) fun x hx => ?_]
  · have : ∀ xs : List Int, (xs.map PV.int).filterMap (onI fun x => if p x = true then some (g x) else none) = (xs.filter p).map g := fun xs => by
      induction xs with
      | nil => rfl
      | cons x xs ih =>
        rw [List.map_cons, List.filterMap_cons, ih]
        by_cases hp : p x = true
        · rw [List.filter_cons_of_pos hp]
          simp only [onI, if_pos hp, List.map_cons]
        · rw [List.filter_cons_of_neg hp]
          simp only [onI, if_neg hp]
    rw [this]
  · obtain ⟨y, rfl, hy⟩ := mem_ints hx
    obtain ⟨t1, t2⟩ := turn y hy
    refine ⟨_, rfl, _, _, t1, rfl, ?_⟩
    by_cases hp : p y = true
    · rw [if_pos hp]; exact ⟨_, t2 hp, by simp [onI, hp]⟩
    · rw [if_neg hp]; simp [onI, hp]
theorem lc_all {F : FP} {ρ : Env'} {vs : List Nat} {i : Nat} {src elt : IE} {v : PV} {kk : IK} {xs : List Int} (g : Int → PV) (hl : xs.length ≤ 1000000) (h1 : fe F src ρ σ = some (v, σ)) (h2 : psrc kk v = some (xs.map .int))
    (turn : ∀ x ∈ xs, fe F elt ((wipeE ρ vs).set i (some (.int x))) σ = some (g x, σ)) : fe F (.lc vs (.nm i) kk src (.con (.bl true)) elt) ρ σ = some (.fl (xs.map g), σ) := by
  rw [lc_ints (fun _ => true) g hl h1 h2 fun x hx => ⟨fe_con rfl, fun _ => turn x hx⟩]
  rw [List.filter_eq_self.mpr fun _ _ => rfl]
theorem getAt_ints {ns : List Int} {r : Int} (h0 : 0 ≤ r) (h1 : r < ns.length) : ∃ z ∈ ns, getAt (ns.map .int) r = some (.int z) := by
  have hl : r.toNat < ns.length := by omega
  refine ⟨ns[r.toNat], List.getElem_mem hl, ?_⟩
  unfold getAt ixNat
  rw [List.length_map, if_pos h0, if_pos h1]
  simp [List.getElem?_map, List.getElem?_eq_getElem hl]
theorem lv_ints : ∀ xs : List Int, lvs (xs.map .int) = 0
  | [] => rfl
  | x :: xs => by rw [List.map_cons]; unfold lvs; rw [lv_ints xs]; rfl
theorem shapedF (xs : List Int) : SeqAt.shaped (.list (xs.map .int)) = true := by
  unfold SeqAt.shaped
  have h1 : (PyData.list (xs.map .int)).canLay0 = true := by
    unfold PyData.canLay0
    exact canLay_ints xs
  have h2 : (PyData.list (xs.map .int)).depth = 1 := by
    show PyData.depthAll (xs.map .int) + 1 = 1
    rw [depth_ints]
  rw [h1, h2]
  rfl
theorem eq_ints {xs ys : List Int} : eqop (.fl (xs.map .int)) (.fl (ys.map .int)) [] = some (decide (xs = ys)) := by
  have td : ∀ xs : List Int, toData [] (.fl (xs.map .int)) = some (.list (xs.map .int)) := fun xs => by
    show datG _ (.fl _) = _
    unfold datG
    rw [datsG_ints]
    rfl
  show (match toData [] (.fl (xs.map .int)), toData [] (.fl (ys.map .int)) with
    | some d, some e => if (SeqAt.shaped d && SeqAt.shaped e) = true then some (PyData.eqv d e) else none
    | _, _ => none) = _
  rw [td, td]
  simp only
  rw [shapedF, shapedF]
  exact congrArg some (eqv_ints xs ys)
theorem pc_eqF {xs ys : List Int} : pcmp .eq (.fl (xs.map .int)) (.fl (ys.map .int)) = some (decide (xs = ys)) := by
  show (if lv (.fl (xs.map .int)) ≤ 5 ∧ lv (.fl (ys.map .int)) ≤ 5 then cmpop .eq (.fl (xs.map .int)) (.fl (ys.map .int)) [] else none) = _
  rw [if_pos (by unfold lv; rw [lv_ints, lv_ints]; decide)]
  exact eq_ints
theorem pc_neF {xs ys : List Int} : pcmp .ne (.fl (xs.map .int)) (.fl (ys.map .int)) = some (!decide (xs = ys)) := by
  show (if lv (.fl (xs.map .int)) ≤ 5 ∧ lv (.fl (ys.map .int)) ≤ 5 then cmpop .ne (.fl (xs.map .int)) (.fl (ys.map .int)) [] else none) = _
  rw [if_pos (by unfold lv; rw [lv_ints, lv_ints]; decide)]
  show (eqop (.fl (xs.map .int)) (.fl (ys.map .int)) []).map (! ·) = _
  rw [eq_ints]
  rfl
end PI
end

section
set_option Elab.async false
set_option linter.all false
set_option maxRecDepth 100000
set_option maxHeartbeats 4000000
/-! numbers and their prime powers -/
namespace PN
/-- a prime number -/
def Pr (p : Nat) : Prop := 2 ≤ p ∧ ∀ d, d ∣ p → d = 1 ∨ d = p
/-- ascending powers of primes from p on -/
def Fac : Nat → List (Nat × Nat) → Prop
  | _, [] => True
  | p, (q, e) :: L => p ≤ q ∧ Pr q ∧ 1 ≤ e ∧ Fac (q + 1) L
def val : List (Nat × Nat) → Nat
  | [] => 1
  | (q, e) :: L => q ^ e * val L
theorem Pr.cop {p d : Nat} (h : Pr p) (n : ¬p ∣ d) : Nat.Coprime d p := by
  rcases h.2 (Nat.gcd d p) (Nat.gcd_dvd_right d p) with e | e
  · exact e
  · exact absurd (e ▸ Nat.gcd_dvd_left d p) n
theorem Fac.weak : ∀ {p p' : Nat} {L : List (Nat × Nat)}, p' ≤ p → Fac p L → Fac p' L
  | _, _, [], _, _ => trivial
  | _, _, (q, e) :: L, h, ⟨a, b, c, d⟩ => ⟨Nat.le_trans h a, b, c, d⟩
theorem val_pos : ∀ {p : Nat} {L : List (Nat × Nat)}, Fac p L → 1 ≤ val L
  | _, [], _ => Nat.le_refl 1
  | _, (q, e) :: L, ⟨_, b, _, d⟩ => Nat.mul_pos (Nat.pow_pos (Nat.lt_of_lt_of_le (by decide) b.1)) (val_pos d)
/-- a number that none of the primes divides -/
theorem cop_val : ∀ {p d : Nat} {L : List (Nat × Nat)}, Fac p L → (∀ x ∈ L, ¬x.1 ∣ d) → Nat.Coprime d (val L)
  | _, d, [], _, _ => Nat.coprime_one_right d
  | _, d, (q, e) :: L, ⟨_, b, _, f⟩, h => Nat.Coprime.mul_right (Nat.Coprime.pow_right _ (b.cop (h _ List.mem_cons_self))) (cop_val f fun x hx => h x (List.mem_cons_of_mem _ hx))
theorem Fac.ge : ∀ {p : Nat} {L : List (Nat × Nat)}, Fac p L → ∀ x ∈ L, p ≤ x.1 ∧ Pr x.1 ∧ 1 ≤ x.2
  | _, [], _, x, hx => by cases hx
  | p, (q, e) :: L, ⟨a, b, c, f⟩, x, hx => by
    rcases List.mem_cons.mp hx with rfl | hx
    · exact ⟨a, b, c⟩
    · obtain ⟨u, v, w⟩ := f.ge x hx
      exact ⟨by omega, v, w⟩
/-- nothing less divides -/
theorem not_dvd {p d : Nat} {L : List (Nat × Nat)} (h : Fac p L) (d2 : 2 ≤ d) (dp : d < p) : ¬d ∣ val L := fun hd => by
  have c : Nat.Coprime d (val L) := cop_val h fun x hx hxd => by
    have := (h.ge x hx).1
    have := Nat.le_of_dvd (by omega) hxd
    omega
  have := c.eq_one_of_dvd hd
  omega
theorem dvd_head {q e : Nat} {L : List (Nat × Nat)} (he : 1 ≤ e) : q ∣ val ((q, e) :: L) := by
  show q ∣ q ^ e * val L
  exact Nat.dvd_trans (by obtain ⟨k, rfl⟩ : ∃ k, e = k + 1 := ⟨e - 1, by omega⟩; exact ⟨q ^ k, by rw [Nat.pow_succ, Nat.mul_comm]⟩) (Nat.dvd_mul_right _ _)
/-- a number below the square of the least prime -/
theorem small {p : Nat} {L : List (Nat × Nat)} (h : Fac p L) (hp : 2 ≤ p) (l : val L < p * p) : L = [] ∨ ∃ q, L = [(q, 1)] := by
  match L, h with
  | [], _ => exact .inl rfl
  | (q, e) :: L, ⟨a, b, c, f⟩ =>
    refine .inr ⟨q, ?_⟩
    have l : q ^ e * val L < p * p := l
    have pq : p * p ≤ q * q := Nat.mul_le_mul a a
    have e1 : e = 1 := by
      apply Classical.byContradiction
      intro h
      obtain ⟨k, rfl⟩ : ∃ k, e = k + 2 := ⟨e - 2, by omega⟩
      have v := val_pos f
      have : 1 ≤ q ^ k := Nat.pow_pos (by omega)
      have : q * q ≤ q ^ (k + 2) * val L := by
        rw [Nat.pow_succ, Nat.pow_succ, Nat.mul_assoc (q ^ k)]
        have x1 : 1 * (q * q) ≤ q ^ k * (q * q) := Nat.mul_le_mul_right _ this
        have x2 : q ^ k * (q * q) * 1 ≤ q ^ k * (q * q) * val L := Nat.mul_le_mul_left _ v
        omega
      omega
    subst e1
    match L, f with
    | [], _ => rfl
    | (r, i) :: M, f =>
      have d : r ∣ val ((r, i) :: M) := dvd_head f.2.2.1
      have hv : r ≤ val ((r, i) :: M) := Nat.le_of_dvd (val_pos f) d
      have hr := f.1
      rw [Nat.pow_one] at l
      have : q * q ≤ q * val ((r, i) :: M) := Nat.mul_le_mul_left _ (by omega)
      omega
theorem least {m : Nat} (h : 2 ≤ m) : ∃ q, 2 ≤ q ∧ q ∣ m ∧ ∀ d, 2 ≤ d → d ∣ m → q ≤ d := by
  have go : ∀ k, (∃ q, 2 ≤ q ∧ q ∣ m ∧ ∀ d, 2 ≤ d → d ∣ m → q ≤ d) ∨ ∀ d, 2 ≤ d → d ∣ m → k ≤ d := fun k => by
    induction k with
    | zero => exact .inr fun d _ _ => Nat.zero_le d
    | succ k ih =>
      rcases ih with ih | ih
      · exact .inl ih
      · by_cases hk : 2 ≤ k ∧ k ∣ m
        · exact .inl ⟨k, hk.1, hk.2, ih⟩
        · refine .inr fun d d2 dm => ?_
          have := ih d d2 dm
          rcases Nat.lt_or_ge k d with l | l
          · exact l
          · have : d = k := by omega
            subst this
            exact absurd ⟨d2, dm⟩ hk
  rcases go (m + 1) with g | g
  · exact g
  · exact absurd (g m h (Nat.dvd_refl m)) (by omega)
theorem take_out {q : Nat} (hq : 2 ≤ q) : ∀ m, 1 ≤ m → ∃ e r, m = q ^ e * r ∧ ¬q ∣ r ∧ 1 ≤ r := fun m => by
  induction m using Nat.strongRecOn with
  | _ m ih =>
    intro h
    by_cases hd : q ∣ m
    · obtain ⟨k, rfl⟩ := hd
      have k1 : 1 ≤ k := by
        rcases Nat.eq_zero_or_pos k with e | e
        · subst e; simp at h
        · exact e
      have lt : k < q * k := by
        have : 2 * k ≤ q * k := Nat.mul_le_mul_right _ hq
        omega
      obtain ⟨e, r, a, b, c⟩ := ih k lt k1
      exact ⟨e + 1, r, by rw [Nat.pow_succ, Nat.mul_comm (q ^ e) q, Nat.mul_assoc, ← a], b, c⟩
    · exact ⟨0, m, by simp, hd, h⟩
/-- each number has its prime powers -/
theorem fac_of : ∀ m p, 1 ≤ m → (∀ d, 2 ≤ d → d ∣ m → p ≤ d) → ∃ L, Fac p L ∧ val L = m := fun m => by
  induction m using Nat.strongRecOn with
  | _ m ih =>
    intro p h hp
    by_cases h1 : m = 1
    · subst h1; exact ⟨[], trivial, rfl⟩
    · obtain ⟨q, q2, qm, ql⟩ := least (m := m) (by omega)
      have pq : Pr q := ⟨q2, fun d hd => by
        have d0 : 0 < d := Nat.pos_of_dvd_of_pos hd (by omega)
        by_cases d1 : d = 1
        · exact .inl d1
        · have := ql d (by omega) (Nat.dvd_trans hd qm)
          have := Nat.le_of_dvd (by omega) hd
          exact .inr (by omega)⟩
      obtain ⟨e, r, a, b, c⟩ := take_out q2 m h
      have e1 : 1 ≤ e := by
        rcases Nat.eq_zero_or_pos e with z | z
        · subst z; simp at a; rw [← a] at b; exact absurd qm b
        · exact z
      have rm : r ∣ m := a ▸ Nat.dvd_mul_left _ _
      have lt : r < m := by
        have q3 : q ≤ q ^ e := Nat.le_of_dvd (Nat.pow_pos (by omega)) (by obtain ⟨k, rfl⟩ : ∃ k, e = k + 1 := ⟨e - 1, by omega⟩; exact ⟨q ^ k, by rw [Nat.pow_succ, Nat.mul_comm]⟩)
        have : 2 * r ≤ q ^ e * r := Nat.mul_le_mul_right _ (by omega)
        omega
      obtain ⟨L, f, v⟩ := ih r lt (q + 1) c fun d d2 dr => by
        have := ql d d2 (Nat.dvd_trans dr rm)
        rcases Nat.lt_or_ge q d with l | l
        · exact l
        · have : d = q := by omega
          subst this
          exact absurd dr b
      exact ⟨(q, e) :: L, ⟨hp q q2 qm, pq, e1, f⟩, by show q ^ e * val L = m; rw [v, ← a]⟩
theorem fac2 {m : Nat} (h : 1 ≤ m) : ∃ L, Fac 2 L ∧ val L = m := fac_of m 2 h fun d d2 _ => d2
/-! ### the common divisor -/
def jm (q : Nat) : Nat → Nat → Nat
  | 0, _ => 0
  | e + 1, a => if q ^ (e + 1) ∣ a then e + 1 else jm q e a
theorem jm_le (q : Nat) : ∀ e a, jm q e a ≤ e
  | 0, a => Nat.le_refl 0
  | e + 1, a => by
    unfold jm
    split
    · exact Nat.le_refl _
    · have := jm_le q e a; omega
theorem gcd_pow {q : Nat} (h : Pr q) (a : Nat) : ∀ e, Nat.gcd (q ^ e) a = q ^ jm q e a
  | 0 => by simp [jm]
  | e + 1 => by
    unfold jm
    split
    · rename_i hd
      exact Nat.gcd_eq_left hd
    · rename_i hd
      rw [← gcd_pow h a e]
      have q0 : 0 < q := Nat.lt_of_lt_of_le (by decide) h.1
      apply Nat.dvd_antisymm
      · refine Nat.dvd_gcd ?_ (Nat.gcd_dvd_right _ _)
        obtain ⟨k, hk⟩ := Nat.gcd_dvd_left (q ^ (e + 1)) a
        have qk : q ∣ k := by
          apply Classical.byContradiction
          intro hn
          have c : Nat.Coprime k (q ^ (e + 1)) := Nat.Coprime.pow_right _ (h.cop hn)
          have k1 : k = 1 := c.eq_one_of_dvd ⟨Nat.gcd (q ^ (e + 1)) a, by rw [Nat.mul_comm]; exact hk⟩
          rw [k1, Nat.mul_one] at hk
          exact hd (hk ▸ Nat.gcd_dvd_right _ _)
        obtain ⟨k', rfl⟩ := qk
        refine ⟨k', Nat.eq_of_mul_eq_mul_left q0 ?_⟩
        rw [show q * q ^ e = q ^ (e + 1) from by rw [Nat.pow_succ, Nat.mul_comm]]
        rw [Nat.mul_left_comm]
        exact hk
      · exact Nat.dvd_gcd (Nat.dvd_trans (Nat.gcd_dvd_left _ _) (Nat.pow_dvd_pow _ (by omega))) (Nat.gcd_dvd_right _ _)
theorem jm_full {q e a : Nat} : q ^ e ∣ a ↔ jm q e a = e := by
  cases e with
  | zero => simp [jm]
  | succ e =>
    unfold jm
    split
    · rename_i h; exact ⟨fun _ => rfl, fun _ => h⟩
    · rename_i h
      have := jm_le q e a
      exact ⟨fun z => absurd z h, fun z => by omega⟩
theorem jm_pred {q e a : Nat} : q ^ e ∣ a ↔ e ≤ jm q (e + 1) a := by
  have u : jm q (e + 1) a = if q ^ (e + 1) ∣ a then e + 1 else jm q e a := rfl
  rw [u]
  split
  · rename_i h
    exact ⟨fun _ => by omega, fun _ => Nat.dvd_trans (Nat.pow_dvd_pow _ (by omega)) h⟩
  · have := jm_le q e a
    rw [jm_full]
    exact ⟨fun z => by omega, fun z => by omega⟩
def G (a : Nat) : List (Nat × Nat) → Nat
  | [] => 1
  | (q, e) :: L => q ^ jm q e a * G a L
theorem gcd_val (a : Nat) : ∀ {p : Nat} {L : List (Nat × Nat)}, Fac p L → Nat.gcd (val L) a = G a L
  | _, [], _ => by simp [val, G]
  | _, (q, e) :: L, ⟨_, b, c, f⟩ => by
    have cp : Nat.Coprime (q ^ e) (val L) := Nat.Coprime.pow_left _ (cop_val f fun x hx hd => by
      obtain ⟨u, v, w⟩ := f.ge x hx
      have := Nat.le_of_dvd (by have := b.1; omega) hd
      omega)
    show Nat.gcd (q ^ e * val L) a = q ^ jm q e a * G a L
    rw [Nat.gcd_comm, cp.gcd_mul a, Nat.gcd_comm a, Nat.gcd_comm a, gcd_pow b, gcd_val a f]
/-- what is left -/
def R (a : Nat) : List (Nat × Nat) → List (Nat × Nat)
  | [] => []
  | (q, e) :: L => if jm q e a < e then (q, e - jm q e a) :: R a L else R a L
theorem val_R (a : Nat) : ∀ L, val L = G a L * val (R a L)
  | [] => rfl
  | (q, e) :: L => by
    have l := jm_le q e a
    show q ^ e * val L = q ^ jm q e a * G a L * val (R a ((q, e) :: L))
    unfold R
    split
    · show _ = _ * (q ^ (e - jm q e a) * val (R a L))
      rw [val_R a L, Nat.mul_mul_mul_comm, ← Nat.pow_add, show jm q e a + (e - jm q e a) = e by omega]
    · rw [show jm q e a = e by omega, val_R a L, Nat.mul_assoc]
theorem fac_R (a : Nat) : ∀ {p : Nat} {L : List (Nat × Nat)}, Fac p L → Fac p (R a L)
  | _, [], _ => trivial
  | p, (q, e) :: L, ⟨x, b, c, f⟩ => by
    unfold R
    split
    · exact ⟨x, b, by omega, fac_R a f⟩
    · exact (fac_R a f).weak (by omega)
theorem G_pos (a : Nat) : ∀ {p : Nat} {L : List (Nat × Nat)}, Fac p L → 0 < G a L
  | _, [], _ => Nat.one_pos
  | _, (q, e) :: L, ⟨_, b, _, f⟩ => Nat.mul_pos (Nat.pow_pos (Nat.lt_of_lt_of_le (by decide) b.1)) (G_pos a f)
theorem val_div (a : Nat) {p : Nat} {L : List (Nat × Nat)} (h : Fac p L) : val L / Nat.gcd (val L) a = val (R a L) := by
  rw [gcd_val a h]
  conv => lhs; lhs; rw [val_R a L]
  exact Nat.mul_div_cancel_left _ (G_pos a h)
/-! ### sign, unit and sum numbers -/
def U : List (Nat × Nat) → Nat
  | [] => 1
  | (q, e) :: L => (q - 1) * q ^ (e - 1) * U L
def S : List (Nat × Nat) → Int
  | [] => 1
  | (_, e) :: L => (if e = 1 then -1 else 0) * S L
def Q (a : Nat) : List (Nat × Nat) → Nat
  | [] => 1
  | (q, e) :: L => (if jm q e a < e then q ^ jm q e a else (q - 1) * q ^ (e - 1)) * Q a L
def T (a : Nat) : List (Nat × Nat) → Int
  | [] => 1
  | (q, e) :: L => (if q ^ e ∣ a then (((q - 1) * q ^ (e - 1) : Nat) : Int) else if q ^ (e - 1) ∣ a then -((q ^ (e - 1) : Nat) : Int) else 0) * T a L
theorem U_pos : ∀ {p : Nat} {L : List (Nat × Nat)}, Fac p L → 0 < U L
  | _, [], _ => Nat.one_pos
  | _, (q, e) :: L, ⟨_, b, _, f⟩ => Nat.mul_pos (Nat.mul_pos (by have := b.1; omega) (Nat.pow_pos (Nat.lt_of_lt_of_le (by decide) b.1))) (U_pos f)
theorem U_eq (a : Nat) : ∀ {p : Nat} {L : List (Nat × Nat)}, Fac p L → U L = Q a L * U (R a L)
  | _, [], _ => rfl
  | _, (q, e) :: L, ⟨_, b, c, f⟩ => by
    have ih := U_eq a f
    have l := jm_le q e a
    unfold R
    by_cases hj : jm q e a < e
    · rw [if_pos hj]
      show (q - 1) * q ^ (e - 1) * U L = (if jm q e a < e then q ^ jm q e a else (q - 1) * q ^ (e - 1)) * Q a L * ((q - 1) * q ^ (e - jm q e a - 1) * U (R a L))
      rw [if_pos hj, ih]
      have : q ^ (e - 1) = q ^ jm q e a * q ^ (e - jm q e a - 1) := by rw [← Nat.pow_add]; congr 1; omega
      rw [this]
      simp only [Nat.mul_comm, Nat.mul_left_comm, Nat.mul_assoc]
    · rw [if_neg hj]
      show (q - 1) * q ^ (e - 1) * U L = (if jm q e a < e then q ^ jm q e a else (q - 1) * q ^ (e - 1)) * Q a L * U (R a L)
      rw [if_neg hj, ih]
      simp only [Nat.mul_comm, Nat.mul_left_comm, Nat.mul_assoc]
theorem U_div (a : Nat) {p : Nat} {L : List (Nat × Nat)} (h : Fac p L) : U L / U (R a L) = Q a L := by
  rw [U_eq a h]
  exact Nat.mul_div_cancel _ (U_pos (fac_R a h))
theorem S_Q (a : Nat) : ∀ {p : Nat} {L : List (Nat × Nat)}, Fac p L → S (R a L) * (Q a L : Int) = T a L
  | _, [], _ => rfl
  | _, (q, e) :: L, ⟨_, b, c, f⟩ => by
    have ih := S_Q a f
    have l := jm_le q e a
    obtain ⟨k, rfl⟩ : ∃ k, e = k + 1 := ⟨e - 1, by omega⟩
    have d1 := jm_full (q := q) (e := k + 1) (a := a)
    have d2 := jm_pred (q := q) (e := k) (a := a)
    have t : T a ((q, k + 1) :: L) = (if q ^ (k + 1) ∣ a then (((q - 1) * q ^ k : Nat) : Int) else if q ^ k ∣ a then -((q ^ k : Nat) : Int) else 0) * T a L := rfl
    have w : Q a ((q, k + 1) :: L) = (if jm q (k + 1) a < k + 1 then q ^ jm q (k + 1) a else (q - 1) * q ^ k) * Q a L := rfl
    rw [t, w]
    unfold R
    by_cases hj : jm q (k + 1) a < k + 1
    · rw [if_pos hj, if_pos hj, if_neg (fun z => by have := d1.mp z; omega)]
      have s : S ((q, k + 1 - jm q (k + 1) a) :: R a L) = (if k + 1 - jm q (k + 1) a = 1 then -1 else 0) * S (R a L) := rfl
      rw [s]
      by_cases hk : k ≤ jm q (k + 1) a
      · have jk : jm q (k + 1) a = k := by omega
        rw [if_pos (d2.mpr hk), jk, if_pos (by omega), ← ih, Int.natCast_mul]
        rw [Int.neg_mul, Int.neg_mul, Int.neg_mul, Int.one_mul, Int.mul_left_comm]
      · rw [if_neg (fun z => hk (d2.mp z)), if_neg (by omega)]
        simp
    · rw [if_neg hj, if_neg hj, if_pos (d1.mpr (by omega)), ← ih, Int.natCast_mul, Int.mul_left_comm]
/-- the sum number -/
theorem sum_eq (a : Nat) {p : Nat} {L : List (Nat × Nat)} (h : Fac p L) : S (R a L) * ((U L / U (R a L) : Nat) : Int) = T a L := by
  rw [U_div a h]
  exact S_Q a h
theorem T_gcd (a : Nat) {p : Nat} {L : List (Nat × Nat)} (h : Fac p L) : T (Nat.gcd (val L) a) L = T a L := by
  have : R (Nat.gcd (val L) a) L = R a L ∧ Q (Nat.gcd (val L) a) L = Q a L := by
    have j : ∀ q e, q ^ e ∣ val L → jm q e (Nat.gcd (val L) a) = jm q e a := fun q e => by
      induction e with
      | zero => intro _; rfl
      | succ e ih =>
        intro hd
        have i := ih (Nat.dvd_trans (Nat.pow_dvd_pow _ (by omega)) hd)
        unfold jm
        rw [i]
        by_cases hq : q ^ (e + 1) ∣ a
        · rw [if_pos hq, if_pos (Nat.dvd_gcd hd hq)]
        · rw [if_neg hq, if_neg (fun z => hq (Nat.dvd_trans z (Nat.gcd_dvd_right _ _)))]
    have k : ∀ M : List (Nat × Nat), (∀ x ∈ M, x.1 ^ x.2 ∣ val L) → R (Nat.gcd (val L) a) M = R a M ∧ Q (Nat.gcd (val L) a) M = Q a M := fun M => by
      induction M with
      | nil => intro _; exact ⟨rfl, rfl⟩
      | cons x M ih =>
        obtain ⟨q, e⟩ := x
        intro hM
        obtain ⟨i1, i2⟩ := ih fun x hx => hM x (List.mem_cons_of_mem _ hx)
        have := j q e (hM (q, e) List.mem_cons_self)
        exact ⟨by unfold R; rw [this, i1], by unfold Q; rw [this, i2]⟩
    have dv : ∀ M : List (Nat × Nat), ∀ x ∈ M, x.1 ^ x.2 ∣ val M := fun M => by
      induction M with
      | nil => intro x hx; cases hx
      | cons y M ih =>
        obtain ⟨q, e⟩ := y
        intro x hx
        rcases List.mem_cons.mp hx with rfl | hx
        · exact Nat.dvd_mul_right _ _
        · exact Nat.dvd_trans (ih x hx) (Nat.dvd_mul_left _ _)
    exact k L (dv L)
  rw [← S_Q a h, ← S_Q _ h, this.1, this.2]
end PN
end

section
set_option Elab.async false
set_option linter.all false
set_option maxRecDepth 100000
set_option maxHeartbeats 4000000
/-! the list of the primes, and its numbers -/
namespace PN
open PI
def expand : List (Nat × Nat) → List Int
  | [] => []
  | (q, e) :: L => List.replicate e (q : Int) ++ expand L
def firsts (L : List (Nat × Nat)) : List Int := L.map fun x => (x.1 : Int)
theorem mem_expand : ∀ {L : List (Nat × Nat)} {x : Int}, x ∈ expand L → ∃ y ∈ L, x = (y.1 : Int)
  | [], _, h => by cases h
  | (q, e) :: L, x, h => by
    rcases List.mem_append.mp h with h | h
    · exact ⟨(q, e), List.mem_cons_self, List.eq_of_mem_replicate h⟩
    · obtain ⟨y, hy, e⟩ := mem_expand h
      exact ⟨y, List.mem_cons_of_mem _ hy, e⟩
theorem dd_rep (x : Int) (ys : List Int) (h : x ∉ ys) : ∀ e, 1 ≤ e → dd (List.replicate e x ++ ys) = x :: dd ys
  | 0, h => absurd h (by decide)
  | 1, _ => by show (if x ∈ ys then _ else _) = _; rw [if_neg h]; rfl
  | e + 2, _ => by
    show (if x ∈ List.replicate (e + 1) x ++ ys then _ else _) = _
    rw [if_pos (List.mem_append_left _ (by rw [List.replicate_succ]; exact List.mem_cons_self))]
    exact dd_rep x ys h (e + 1) (by omega)
theorem dd_expand : ∀ {p : Nat} {L : List (Nat × Nat)}, Fac p L → dd (expand L) = firsts L
  | _, [], _ => rfl
  | _, (q, e) :: L, ⟨_, b, c, f⟩ => by
    show dd (List.replicate e (q : Int) ++ expand L) = _
    rw [dd_rep _ _ (fun h => by
      obtain ⟨y, hy, e⟩ := mem_expand h
      have := (f.ge y hy).1
      omega) e c, dd_expand f]
    rfl
theorem asc_firsts : ∀ {p : Nat} {L : List (Nat × Nat)}, Fac p L → (firsts L).Pairwise (fun a b => decide (a ≤ b) = true)
  | _, [], _ => List.Pairwise.nil
  | _, (q, e) :: L, ⟨_, b, c, f⟩ => List.Pairwise.cons (fun x hx => by
      obtain ⟨y, hy, rfl⟩ := List.mem_map.mp hx
      have := (f.ge y hy).1
      show decide ((q : Int) ≤ (y.1 : Int)) = true
      exact decide_eq_true (by omega)) (asc_firsts f)
theorem len_expand : ∀ {p : Nat} {L : List (Nat × Nat)}, Fac p L → L.length ≤ (expand L).length ∧ S L = if L.length < (expand L).length then 0 else if (expand L).length % 2 = 0 then 1 else -1
  | _, [], _ => ⟨Nat.le_refl _, rfl⟩
  | _, (q, e) :: L, ⟨_, b, c, f⟩ => by
    obtain ⟨h1, h2⟩ := len_expand f
    have l : (expand ((q, e) :: L)).length = e + (expand L).length := by
      show (List.replicate e (q : Int) ++ expand L).length = _
      rw [List.length_append, List.length_replicate]
    rw [l, List.length_cons]
    refine ⟨by omega, ?_⟩
    show (if e = 1 then -1 else 0) * S L = _
    rw [h2]
    by_cases he : e = 1
    · subst he
      rw [if_pos rfl]
      generalize (expand L).length = n at *
      generalize L.length = i at *
      by_cases hl : i < n
      · have g : i + 1 < 1 + n := by omega
        rw [if_pos hl, if_pos g]; rfl
      · have g : ¬i + 1 < 1 + n := by omega
        rw [if_neg hl, if_neg g]
        by_cases hp : n % 2 = 0
        · have g : ¬(1 + n) % 2 = 0 := by omega
          rw [if_pos hp, if_neg g]; rfl
        · have g : (1 + n) % 2 = 0 := by omega
          rw [if_neg hp, if_pos g]; rfl
    · have g : L.length + 1 < e + (expand L).length := by omega
      rw [if_neg he, if_pos g, Int.zero_mul]
/-- few primes -/
theorem len_small : ∀ {p s : Nat} {L : List (Nat × Nat)}, Fac p L → val L < 2 ^ s → (expand L).length ≤ s
  | _, s, [], _, _ => Nat.zero_le _
  | _, s, (q, e) :: L, ⟨_, b, c, f⟩, h => by
    have h : q ^ e * val L < 2 ^ s := h
    have l : (expand ((q, e) :: L)).length = e + (expand L).length := by
      show (List.replicate e (q : Int) ++ expand L).length = _
      rw [List.length_append, List.length_replicate]
    rw [l]
    have v := val_pos f
    have q2 : 2 ^ e ≤ q ^ e := Nat.pow_le_pow_left b.1 e
    have es : e ≤ s := by
      apply Classical.byContradiction
      intro n
      have x1 : 2 ^ s ≤ 2 ^ e := Nat.pow_le_pow_right (by decide) (by omega)
      have x2 : q ^ e * 1 ≤ q ^ e * val L := Nat.mul_le_mul_left _ v
      omega
    have := len_small (s := s - e) f (by
      apply Classical.byContradiction
      intro n
      have x1 : 2 ^ (s - e) ≤ val L := by omega
      have x2 : 2 ^ e * 2 ^ (s - e) ≤ q ^ e * val L := Nat.mul_le_mul q2 x1
      rw [← Nat.pow_add, show e + (s - e) = s by omega] at x2
      omega)
    omega
/-- the loop of the unit number -/
theorem unit_fold : ∀ {p : Nat} {L : List (Nat × Nat)} (c : Nat), Fac p L → (firsts L).foldl (fun many q => many / q * (q - 1)) ((c * val L : Nat) : Int) = ((c * U L : Nat) : Int)
  | _, [], c, _ => rfl
  | _, (q, e) :: L, c, ⟨_, b, h, f⟩ => by
    obtain ⟨k, rfl⟩ : ∃ k, e = k + 1 := ⟨e - 1, by omega⟩
    have q0 := b.1
    have st : (((c * val ((q, k + 1) :: L) : Nat) : Int) / (q : Int) * ((q : Int) - 1)) = ((c * (q - 1) * q ^ k * val L : Nat) : Int) := by
      show (((c * (q ^ (k + 1) * val L) : Nat) : Int) / (q : Int) * ((q : Int) - 1)) = _
      have e1 : c * (q ^ (k + 1) * val L) = c * q ^ k * val L * q := by
        rw [Nat.pow_succ]
        simp only [Nat.mul_comm, Nat.mul_left_comm, Nat.mul_assoc]
      rw [e1, ← Int.natCast_ediv, Nat.mul_div_cancel _ (by omega)]
      have e2 : ((q : Int) - 1) = ((q - 1 : Nat) : Int) := by omega
      rw [e2, ← Int.natCast_mul]
      congr 1
      simp only [Nat.mul_comm, Nat.mul_left_comm, Nat.mul_assoc]
    show (firsts L).foldl (fun many q => many / q * (q - 1)) (((c * val ((q, k + 1) :: L) : Nat) : Int) / (q : Int) * ((q : Int) - 1)) = _
    rw [st, unit_fold _ f]
    congr 1
    show c * (q - 1) * q ^ k * U L = c * ((q - 1) * q ^ (k + 1 - 1) * U L)
    rw [Nat.add_sub_cancel]
    simp only [Nat.mul_comm, Nat.mul_left_comm, Nat.mul_assoc]
theorem val_two : ∀ {p : Nat} {L : List (Nat × Nat)}, Fac p L → U L ≤ val L
  | _, [], _ => Nat.le_refl _
  | _, (q, e) :: L, ⟨_, b, h, f⟩ => by
    obtain ⟨k, rfl⟩ : ∃ k, e = k + 1 := ⟨e - 1, by omega⟩
    show (q - 1) * q ^ k * U L ≤ q ^ (k + 1) * val L
    refine Nat.mul_le_mul ?_ (val_two f)
    rw [Nat.pow_succ, Nat.mul_comm]
    exact Nat.mul_le_mul_left _ (by omega)
end PN
end

section
set_option Elab.async false
set_option linter.all false
set_option maxRecDepth 100000
set_option maxHeartbeats 0
namespace K02
open PySem PySem.Spec PyProof.Rows L2 PI
def top (i : Nat) : Stmt := PySem.Challenge.pw_hoursheets_k02_whole_numbers_over_diviso.main.body.getD i (.Pass ⟨0, 0, 0, 0⟩)
def G : GT where
  defs := [("prime_divisors", 0, ["m"]), ("sign_number", 1, ["m"]), ("unit_number", 2, ["m"]), ("sum_number", 3, ["m", "a"]), ("_law_deck", 4, ["script"]), ("_law_draw", 5, ["deck", "many"]), ("_law_pick", 6, ["deck", "some"]), ("_law_gcd", 7, ["a", "b"]), ("_law_divisors", 8, ["n"]), ("_law_powers", 9, ["m"]), ("_law_sign", 10, ["m"]), ("_law_power", 11, ["p", "e"]), ("_law_phi", 12, ["m"]), ("_law_sum", 13, ["m", "a"]), ("_law_number", 14, ["deck"]), ("_law_integer", 15, ["deck", "m"]), ("_law_is_told", 16, ["m", "a"]), ("_law_adds_up", 17, ["m", "a"]), ("_law_multiplies", 18, ["m", "k", "a", "b"]), ("law", 19, ["script"])]
  vals := []
  blts := ["int", "list", "len", "abs", "sum", "max", "repr", "sorted", "range", "set"]
  gcd := true
  kws := [(("sign_number", 0, ["m"]), [0]), (("sum_number", 0, ["a", "m"]), [1, 0]), (("unit_number", 0, ["m"]), [0])]
def d0 : DRec := ⟨"prime_divisors", defArgs (top 2), defBody (top 2), defScope (top 2), ["m", "primes", "rest", "prime"], ["m"], false⟩
def d1 : DRec := ⟨"sign_number", defArgs (top 3), defBody (top 3), defScope (top 3), ["m", "primes"], ["m"], false⟩
def d2 : DRec := ⟨"unit_number", defArgs (top 4), defBody (top 4), defScope (top 4), ["m", "many", "prime"], ["m"], false⟩
def d3 : DRec := ⟨"sum_number", defArgs (top 5), defBody (top 5), defScope (top 5), ["m", "a", "rest"], ["m", "a"], false⟩
def d4 : DRec := ⟨"_law_deck", defArgs (top 7), defBody (top 7), defScope (top 7), ["script", "mixed", "cell"], ["script"], false⟩
def d5 : DRec := ⟨"_law_draw", defArgs (top 8), defBody (top 8), defScope (top 8), ["deck", "many", "number", "cell"], ["deck", "many"], false⟩
def d6 : DRec := ⟨"_law_pick", defArgs (top 9), defBody (top 9), defScope (top 9), ["deck", "some"], ["deck", "some"], false⟩
def d7 : DRec := ⟨"_law_gcd", defArgs (top 10), defBody (top 10), defScope (top 10), ["a", "b", "turn"], ["a", "b"], false⟩
def d8 : DRec := ⟨"_law_divisors", defArgs (top 11), defBody (top 11), defScope (top 11), ["n", "d"], ["n"], false⟩
def d9 : DRec := ⟨"_law_powers", defArgs (top 12), defBody (top 12), defScope (top 12), ["m", "found", "left", "p", "many", "turn"], ["m"], false⟩
def d10 : DRec := ⟨"_law_sign", defArgs (top 13), defBody (top 13), defScope (top 13), ["m", "powers", "p", "e"], ["m"], false⟩
def d11 : DRec := ⟨"_law_power", defArgs (top 14), defBody (top 14), defScope (top 14), ["p", "e", "found", "turn"], ["p", "e"], false⟩
def d12 : DRec := ⟨"_law_phi", defArgs (top 15), defBody (top 15), defScope (top 15), ["m", "found", "p", "e"], ["m"], false⟩
def d13 : DRec := ⟨"_law_sum", defArgs (top 16), defBody (top 16), defScope (top 16), ["m", "a", "found", "p", "e", "step"], ["m", "a"], false⟩
def d14 : DRec := ⟨"_law_number", defArgs (top 17), defBody (top 17), defScope (top 17), ["deck", "m", "turn", "p"], ["deck"], false⟩
def d15 : DRec := ⟨"_law_integer", defArgs (top 18), defBody (top 18), defScope (top 18), ["deck", "m", "way", "a"], ["deck", "m"], false⟩
def d16 : DRec := ⟨"_law_is_told", defArgs (top 19), defBody (top 19), defScope (top 19), ["m", "a", "g"], ["m", "a"], false⟩
def d17 : DRec := ⟨"_law_adds_up", defArgs (top 20), defBody (top 20), defScope (top 20), ["m", "a", "parts", "d", "common"], ["m", "a"], false⟩
def d18 : DRec := ⟨"_law_multiplies", defArgs (top 21), defBody (top 21), defScope (top 21), ["m", "k", "a", "b"], ["m", "k", "a", "b"], false⟩
def d19 : DRec := ⟨"law", defArgs (top 22), defBody (top 22), defScope (top 22), ["script", "deck", "great", "turn", "m", "a", "b", "due"], ["script"], false⟩
def recs : List DRec := [d0, d1, d2, d3, d4, d5, d6, d7, d8, d9, d10, d11, d12, d13, d14, d15, d16, d17, d18, d19]
def b0 : IS := (.seq (.asg (.nm 1) (.lst .nil)) (.seq (.asg (.nm 2) (.var 0)) (.seq (.asg (.nm 3) (.con (.int 2))) (.seq (.while_ (.cmp .le (.bin .mul (.var 3) (.var 3)) (.var 2)) (.seq (.ife (.cmp .eq (.bin .mod (.var 2) (.var 3)) (.con (.int 0))) (.seq (.ex (.mth .append (.var 1) (.cons (.var 3) .nil))) (.seq (.aug 2 .fdiv (.var 3)) .nil)) (.seq (.aug 3 .add (.con (.int 1))) .nil)) .nil)) (.seq (.ife (.cmp .gt (.var 2) (.con (.int 1))) (.seq (.ex (.mth .append (.var 1) (.cons (.var 2) .nil))) .nil) .nil) (.seq (.ret (.var 1)) .nil))))))
def b1 : IS := (.seq (.asg (.nm 1) (.call 0 (.cons (.var 0) .nil))) (.seq (.ife (.cmp .lt (.sts false (.var 1)) (.blt .len (.cons (.var 1) .nil))) (.seq (.ret (.con (.int 0))) .nil) .nil) (.seq (.ret (.ife (.cmp .eq (.bin .mod (.blt .len (.cons (.var 1) .nil)) (.con (.int 2))) (.con (.int 0))) (.con (.int 1)) (.neg (.con (.int 1))))) .nil)))
def b2 : IS := (.seq (.asg (.nm 1) (.var 0)) (.seq (.for_ (.nm 2) .seq (.cons (.sts true (.call 0 (.cons (.var 0) .nil))) .nil) (.seq (.asg (.nm 1) (.bin .mul (.bin .fdiv (.var 1) (.var 2)) (.bin .sub (.var 2) (.con (.int 1))))) .nil)) (.seq (.ret (.var 1)) .nil)))
def b3 : IS := (.seq (.asg (.nm 2) (.bin .fdiv (.var 0) (.blt .gcd (.cons (.var 0) (.cons (.var 1) .nil))))) (.seq (.ret (.bin .mul (.call 1 (.cons (.var 2) .nil)) (.bin .fdiv (.call 2 (.cons (.var 0) .nil)) (.call 2 (.cons (.var 2) .nil))))) .nil))
def b4 : IS := (.seq (.asg (.nm 1) (.con (.int 10886209))) (.seq (.for_ (.nm 2) .seq (.cons (.slc false true (.var 0) .nil (.con (.int 63))) .nil) (.seq (.asg (.nm 1) (.bin .mod (.blt .int (.cons (.bin .add (.bin .add (.bin .mul (.var 1) (.con (.int 40014))) (.bin .mod (.blt .int (.cons (.var 2) .nil)) (.con (.int 2147483563)))) (.con (.int 57))) .nil)) (.con (.int 2147483399)))) .nil)) (.seq (.ret (.dic [(Str.ofString "cells"), (Str.ofString "mixed"), (Str.ofString "draws")] (.cons (.rev (.blt .list (.cons (.slc false true (.var 0) .nil (.con (.int 63))) .nil))) (.cons (.var 1) (.cons (.con (.int 0)) .nil))))) .nil)))
def b5 : IS := (.seq (.sub (.var 0) (.con (.str (Str.ofString "draws"))) (.bin .add (.idx (.var 0) (.con (.str (Str.ofString "draws")))) (.con (.int 1)))) (.seq (.asg (.nm 2) (.bin .add (.idx (.var 0) (.con (.str (Str.ofString "mixed")))) (.bin .mul (.con (.int 71237)) (.idx (.var 0) (.con (.str (Str.ofString "draws"))))))) (.seq (.ife (.cmp .ne (.idx (.var 0) (.con (.str (Str.ofString "cells")))) (.lst .nil)) (.seq (.asg (.nm 3) (.mth .pop (.idx (.var 0) (.con (.str (Str.ofString "cells")))) .nil)) (.seq (.ife (.cmp .ge (.var 3) (.bin .pow (.con (.int 10)) (.con (.int 18)))) (.seq (.ex (.mth .append (.idx (.var 0) (.con (.str (Str.ofString "cells")))) (.cons (.bin .fdiv (.var 3) (.blt .max2 (.cons (.con (.int 2)) (.cons (.var 1) .nil)))) .nil))) (.seq (.ret (.bin .mod (.blt .int (.cons (.var 3) .nil)) (.var 1))) .nil)) .nil) (.seq (.asg (.nm 2) (.bin .add (.var 2) (.bin .mod (.blt .int (.cons (.var 3) .nil)) (.con (.int 2147483563))))) .nil))) .nil) (.seq (.asg (.nm 2) (.bin .mod (.blt .int (.cons (.bin .add (.bin .mul (.var 2) (.con (.int 41546))) (.con (.int 57))) .nil)) (.con (.int 2147483647)))) (.seq (.asg (.nm 2) (.bin .mod (.blt .int (.cons (.bin .add (.bin .add (.bin .mul (.var 2) (.var 2)) (.bin .mul (.con (.int 49297)) (.idx (.var 0) (.con (.str (Str.ofString "draws")))))) (.con (.int 53))) .nil)) (.con (.int 2147483549)))) (.seq (.asg (.nm 2) (.bin .mod (.blt .int (.cons (.bin .mul (.var 2) (.con (.int 39373))) .nil)) (.con (.int 2147483587)))) (.seq (.ret (.bin .mod (.blt .int (.cons (.bin .fdiv (.var 2) (.con (.int 64))) .nil)) (.var 1))) .nil)))))))
def b6 : IS := (.seq (.ret (.idx (.var 1) (.call 5 (.cons (.var 0) (.cons (.blt .len (.cons (.var 1) .nil)) .nil))))) .nil)
def b7 : IS := (.seq (.for_ (.nm 2) .range (.cons (.con (.int 200)) .nil) (.seq (.ife (.cmp .eq (.var 1) (.con (.int 0))) (.seq (.ret (.blt .abs (.cons (.var 0) .nil))) .nil) .nil) (.seq (.asg (.tp [0, 1]) (.tup (.cons (.var 1) (.cons (.bin .mod (.blt .int (.cons (.var 0) .nil)) (.var 1)) .nil)))) .nil))) (.seq (.ret (.blt .abs (.cons (.var 0) .nil))) .nil))
def b8 : IS := (.seq (.ret (.lc [1] (.nm 1) .range (.cons (.con (.int 1)) (.cons (.bin .add (.var 0) (.con (.int 1))) .nil)) (.cmp .eq (.bin .mod (.blt .int (.cons (.var 0) .nil)) (.var 1)) (.con (.int 0))) (.var 1))) .nil)
def b9 : IS := (.seq (.asg (.tp [1, 2]) (.tup (.cons (.lst .nil) (.cons (.var 0) .nil)))) (.seq (.for_ (.nm 3) .range (.cons (.con (.int 2)) (.cons (.con (.int 1001)) .nil)) (.seq (.ife (.or (.cmp .le (.bin .mul (.var 3) (.var 3)) (.var 2)) (.cmp .eq (.var 3) (.var 2))) (.seq (.asg (.nm 4) (.con (.int 0))) (.seq (.for_ (.nm 5) .range (.cons (.con (.int 20)) .nil) (.seq (.ife (.cmp .eq (.bin .mod (.blt .int (.cons (.var 2) .nil)) (.var 3)) (.con (.int 0))) (.seq (.asg (.tp [2, 4]) (.tup (.cons (.bin .fdiv (.var 2) (.var 3)) (.cons (.bin .add (.var 4) (.con (.int 1))) .nil)))) .nil) .nil) .nil)) (.seq (.ife (.cmp .gt (.var 4) (.con (.int 0))) (.seq (.ex (.mth .append (.var 1) (.cons (.tup (.cons (.var 3) (.cons (.var 4) .nil))) .nil))) .nil) .nil) .nil))) .nil) .nil)) (.seq (.ret (.bin .add (.var 1) (.ife (.cmp .gt (.var 2) (.con (.int 1))) (.lst (.cons (.tup (.cons (.var 2) (.cons (.con (.int 1)) .nil))) .nil)) (.lst .nil)))) .nil)))
def b10 : IS := (.seq (.asg (.nm 1) (.call 9 (.cons (.var 0) .nil))) (.seq (.ife (.cmp .ne (.lc [2, 3] (.tp [2, 3]) .seq (.cons (.var 1) .nil) (.cmp .gt (.var 3) (.con (.int 1))) (.var 3)) (.lst .nil)) (.seq (.ret (.con (.int 0))) .nil) .nil) (.seq (.ret (.ife (.cmp .eq (.bin .mod (.blt .int (.cons (.blt .len (.cons (.var 1) .nil)) .nil)) (.con (.int 2))) (.con (.int 0))) (.con (.int 1)) (.neg (.con (.int 1))))) .nil)))
def b11 : IS := (.seq (.asg (.nm 2) (.con (.int 1))) (.seq (.for_ (.nm 3) .range (.cons (.var 1) .nil) (.seq (.asg (.nm 2) (.bin .mul (.var 2) (.var 0))) .nil)) (.seq (.ret (.var 2)) .nil)))
def b12 : IS := (.seq (.asg (.nm 1) (.con (.int 1))) (.seq (.for_ (.tp [2, 3]) .seq (.cons (.call 9 (.cons (.var 0) .nil)) .nil) (.seq (.asg (.nm 1) (.bin .mul (.bin .mul (.var 1) (.bin .sub (.var 2) (.con (.int 1)))) (.call 11 (.cons (.var 2) (.cons (.bin .sub (.var 3) (.con (.int 1))) .nil))))) .nil)) (.seq (.ret (.var 1)) .nil)))
def b13 : IS := (.seq (.asg (.nm 2) (.con (.int 1))) (.seq (.for_ (.tp [3, 4]) .seq (.cons (.call 9 (.cons (.var 0) .nil)) .nil) (.seq (.asg (.nm 5) (.call 11 (.cons (.var 3) (.cons (.bin .sub (.var 4) (.con (.int 1))) .nil)))) (.seq (.ife (.cmp .eq (.bin .mod (.blt .int (.cons (.var 1) .nil)) (.bin .mul (.var 5) (.var 3))) (.con (.int 0))) (.seq (.asg (.nm 2) (.bin .mul (.bin .mul (.var 2) (.bin .sub (.var 3) (.con (.int 1)))) (.var 5))) .nil) (.seq (.asg (.nm 2) (.bin .mul (.var 2) (.ife (.cmp .eq (.bin .mod (.blt .int (.cons (.var 1) .nil)) (.var 5)) (.con (.int 0))) (.neg (.var 5)) (.con (.int 0))))) .nil)) .nil))) (.seq (.ret (.var 2)) .nil)))
def b14 : IS := (.seq (.ife (.cmp .eq (.call 5 (.cons (.var 0) (.cons (.con (.int 2)) .nil))) (.con (.int 0))) (.seq (.ret (.bin .add (.con (.int 1)) (.call 5 (.cons (.var 0) (.cons (.con (.int 60)) .nil))))) .nil) .nil) (.seq (.asg (.nm 1) (.con (.int 1))) (.seq (.for_ (.nm 2) .range (.cons (.con (.int 5)) .nil) (.seq (.asg (.nm 3) (.call 6 (.cons (.var 0) (.cons (.tup (.cons (.con (.int 2)) (.cons (.con (.int 3)) (.cons (.con (.int 2)) (.cons (.con (.int 5)) (.cons (.con (.int 7)) (.cons (.con (.int 2)) (.cons (.con (.int 3)) (.cons (.con (.int 11)) (.cons (.con (.int 13)) (.cons (.con (.int 31)) (.cons (.con (.int 43)) .nil)))))))))))) .nil)))) (.seq (.ife (.cmp .le (.bin .mul (.var 1) (.var 3)) (.con (.int 2000))) (.seq (.asg (.nm 1) (.bin .mul (.var 1) (.var 3))) .nil) .nil) .nil))) (.seq (.ret (.var 1)) .nil))))
def b15 : IS := (.seq (.asg (.nm 2) (.call 5 (.cons (.var 0) (.cons (.con (.int 6)) .nil)))) (.seq (.ife (.cmp .eq (.var 2) (.con (.int 0))) (.seq (.ret (.con (.int 0))) .nil) .nil) (.seq (.asg (.nm 3) (.ife (.cmp .lt (.var 2) (.con (.int 4))) (.call 5 (.cons (.var 0) (.cons (.con (.int 100)) .nil))) (.bin .add (.bin .mul (.call 5 (.cons (.var 0) (.cons (.bin .pow (.con (.int 10)) (.con (.int 6))) .nil))) (.bin .pow (.con (.int 10)) (.con (.int 12)))) (.call 5 (.cons (.var 0) (.cons (.bin .pow (.con (.int 10)) (.con (.int 6))) .nil)))))) (.seq (.ife (.cmp .isin (.var 2) (.tup (.cons (.con (.int 3)) (.cons (.con (.int 5)) .nil)))) (.seq (.asg (.nm 3) (.bin .mul (.var 3) (.call 6 (.cons (.var 0) (.cons (.call 8 (.cons (.var 1) .nil)) .nil))))) .nil) .nil) (.seq (.ife (.cmp .eq (.var 2) (.con (.int 2))) (.seq (.asg (.nm 3) (.call 6 (.cons (.var 0) (.cons (.tup (.cons (.bin .sub (.bin .pow (.con (.int 10)) (.con (.int 30))) (.con (.int 1))) (.cons (.var 1) (.cons (.bin .pow (.con (.int 10)) (.con (.int 29))) (.cons (.bin .mul (.var 1) (.var 1)) (.cons (.con (.int 1)) .nil)))))) .nil)))) .nil) .nil) (.seq (.ret (.ife (.cmp .eq (.call 5 (.cons (.var 0) (.cons (.con (.int 3)) .nil))) (.con (.int 0))) (.neg (.var 3)) (.var 3))) .nil))))))
def b16 : IS := (.seq (.ife (.cmp .ne (.blt .repr (.cons (.tup (.cons (.call 1 (.cons (.var 0) .nil)) (.cons (.call 2 (.cons (.var 0) .nil)) (.cons (.call 3 (.cons (.var 0) (.cons (.var 1) .nil))) .nil)))) .nil)) (.blt .repr (.cons (.tup (.cons (.call 10 (.cons (.var 0) .nil)) (.cons (.call 12 (.cons (.var 0) .nil)) (.cons (.call 13 (.cons (.var 0) (.cons (.var 1) .nil))) .nil)))) .nil))) (.seq (.ret (.con (.bl false))) .nil) .nil) (.seq (.ife (.cmp .ne (.blt .repr (.cons (.tup (.cons (.callK 1 [0] .nil (.cons (.var 0) .nil)) (.cons (.callK 2 [0] .nil (.cons (.var 0) .nil)) (.cons (.callK 3 [1, 0] .nil (.cons (.var 1) (.cons (.var 0) .nil))) .nil)))) .nil)) (.blt .repr (.cons (.tup (.cons (.call 10 (.cons (.var 0) .nil)) (.cons (.call 12 (.cons (.var 0) .nil)) (.cons (.call 13 (.cons (.var 0) (.cons (.var 1) .nil))) .nil)))) .nil))) (.seq (.ret (.con (.bl false))) .nil) .nil) (.seq (.asg (.nm 2) (.call 7 (.cons (.var 0) (.cons (.var 1) .nil)))) (.seq (.ife (.cmp .ne (.blt .repr (.cons (.tup (.cons (.call 3 (.cons (.var 0) (.cons (.var 2) .nil))) (.cons (.call 3 (.cons (.var 0) (.cons (.neg (.var 1)) .nil))) (.cons (.call 3 (.cons (.var 0) (.cons (.ife (.cmp .gt (.var 1) (.con (.int 0))) (.bin .sub (.var 1) (.var 0)) (.bin .add (.var 1) (.var 0))) .nil))) .nil)))) .nil)) (.blt .repr (.cons (.bin .mul (.tup (.cons (.call 13 (.cons (.var 0) (.cons (.var 1) .nil))) .nil)) (.con (.int 3))) .nil))) (.seq (.ret (.con (.bl false))) .nil) .nil) (.seq (.ret (.cmp .eq (.bin .mul (.call 3 (.cons (.var 0) (.cons (.var 1) .nil))) (.call 2 (.cons (.bin .fdiv (.var 0) (.var 2)) .nil))) (.bin .mul (.call 1 (.cons (.bin .fdiv (.var 0) (.var 2)) .nil)) (.call 2 (.cons (.var 0) .nil))))) .nil)))))
def b17 : IS := (.seq (.asg (.nm 2) (.call 8 (.cons (.var 0) .nil))) (.seq (.ife (.or (.cmp .ne (.blt .sum (.cons (.lc [3] (.nm 3) .seq (.cons (.var 2) .nil) (.con (.bl true)) (.call 2 (.cons (.var 3) .nil))) .nil)) (.var 0)) (.cmp .ne (.blt .sum (.cons (.lc [3] (.nm 3) .seq (.cons (.var 2) .nil) (.con (.bl true)) (.call 1 (.cons (.var 3) .nil))) .nil)) (.blt .int (.cons (.cmp .eq (.var 0) (.con (.int 1))) .nil)))) (.seq (.ret (.con (.bl false))) .nil) .nil) (.seq (.ife (.cmp .ne (.blt .sum (.cons (.lc [3] (.nm 3) .seq (.cons (.var 2) .nil) (.con (.bl true)) (.call 3 (.cons (.var 3) (.cons (.var 1) .nil)))) .nil)) (.ife (.cmp .eq (.bin .mod (.blt .int (.cons (.var 1) .nil)) (.var 0)) (.con (.int 0))) (.var 0) (.con (.int 0)))) (.seq (.ret (.con (.bl false))) .nil) .nil) (.seq (.asg (.nm 4) (.lc [3] (.nm 3) .seq (.cons (.var 2) .nil) (.cmp .eq (.bin .mod (.blt .int (.cons (.var 1) .nil)) (.var 3)) (.con (.int 0))) (.var 3))) (.seq (.ret (.cmp .eq (.blt .sum (.cons (.lc [3] (.nm 3) .seq (.cons (.var 4) .nil) (.con (.bl true)) (.bin .mul (.var 3) (.call 1 (.cons (.bin .fdiv (.var 0) (.var 3)) .nil)))) .nil)) (.call 3 (.cons (.var 0) (.cons (.var 1) .nil))))) .nil)))))
def b18 : IS := (.seq (.ife (.cmp .ne (.call 7 (.cons (.var 0) (.cons (.var 1) .nil))) (.con (.int 1))) (.seq (.ret (.con (.bl true))) .nil) .nil) (.seq (.ife (.or (.cmp .ne (.call 1 (.cons (.bin .mul (.var 0) (.var 1)) .nil)) (.bin .mul (.call 1 (.cons (.var 0) .nil)) (.call 1 (.cons (.var 1) .nil)))) (.cmp .ne (.call 2 (.cons (.bin .mul (.var 0) (.var 1)) .nil)) (.bin .mul (.call 2 (.cons (.var 0) .nil)) (.call 2 (.cons (.var 1) .nil))))) (.seq (.ret (.con (.bl false))) .nil) .nil) (.seq (.ret (.and (.cmp .eq (.call 3 (.cons (.bin .mul (.var 0) (.var 1)) (.cons (.var 2) .nil))) (.bin .mul (.call 3 (.cons (.var 0) (.cons (.var 2) .nil))) (.call 3 (.cons (.var 1) (.cons (.var 2) .nil))))) (.cmp .eq (.call 3 (.cons (.var 0) (.cons (.bin .mul (.var 2) (.var 3)) .nil))) (.call 3 (.cons (.var 0) (.cons (.call 7 (.cons (.bin .mul (.var 2) (.var 3)) (.cons (.var 0) .nil))) .nil)))))) .nil)))
def b19 : IS := (.seq (.asg (.nm 1) (.call 4 (.cons (.var 0) .nil))) (.seq (.asg (.nm 2) (.cmp .eq (.call 5 (.cons (.var 1) (.cons (.con (.int 64)) .nil))) (.con (.int 0)))) (.seq (.for_ (.nm 3) .range (.cons (.con (.int 4)) .nil) (.seq (.asg (.nm 4) (.call 14 (.cons (.var 1) .nil))) (.seq (.asg (.tp [5, 6]) (.tup (.cons (.call 15 (.cons (.var 1) (.cons (.var 4) .nil))) (.cons (.call 5 (.cons (.var 1) (.cons (.con (.int 1000)) .nil))) .nil)))) (.seq (.ife (.or (.not (.call 16 (.cons (.var 4) (.cons (.var 5) .nil)))) (.not (.call 17 (.cons (.bin .add (.con (.int 1)) (.bin .mod (.blt .int (.cons (.var 4) .nil)) (.con (.int 60)))) (.cons (.bin .sub (.call 5 (.cons (.var 1) (.cons (.con (.int 200)) .nil))) (.con (.int 60))) .nil))))) (.seq (.ret (.con (.bl false))) .nil) .nil) (.seq (.ife (.not (.call 18 (.cons (.bin .add (.con (.int 1)) (.bin .mod (.blt .int (.cons (.var 4) .nil)) (.con (.int 40)))) (.cons (.bin .add (.con (.int 1)) (.call 5 (.cons (.var 1) (.cons (.con (.int 40)) .nil)))) (.cons (.bin .mod (.blt .int (.cons (.var 5) .nil)) (.bin .pow (.con (.int 10)) (.con (.int 9)))) (.cons (.var 6) .nil)))))) (.seq (.ret (.con (.bl false))) .nil) .nil) .nil))))) (.seq (.ife (.var 2) (.seq (.asg (.nm 4) (.call 6 (.cons (.var 1) (.cons (.tup (.cons (.bin .pow (.con (.int 10)) (.con (.int 6))) (.cons (.con (.int 999983)) (.cons (.con (.int 720720)) (.cons (.con (.int 510510)) (.cons (.bin .sub (.bin .pow (.con (.int 10)) (.con (.int 6))) (.call 5 (.cons (.var 1) (.cons (.bin .pow (.con (.int 10)) (.con (.int 5))) .nil)))) (.cons (.bin .mul (.con (.int 997)) (.con (.int 991))) (.cons (.bin .shl (.con (.int 1)) (.con (.int 19))) .nil)))))))) .nil)))) (.seq (.asg (.nm 5) (.bin .mul (.call 15 (.cons (.var 1) (.cons (.con (.int 12)) .nil))) (.call 6 (.cons (.var 1) (.cons (.tup (.cons (.con (.int 1)) (.cons (.con (.int 2)) (.cons (.con (.int 30)) .nil)))) .nil))))) (.seq (.asg (.nm 7) (.tup (.cons (.call 10 (.cons (.var 4) .nil)) (.cons (.call 12 (.cons (.var 4) .nil)) (.cons (.call 13 (.cons (.var 4) (.cons (.bin .mod (.blt .int (.cons (.var 5) .nil)) (.bin .pow (.con (.int 10)) (.con (.int 12)))) .nil))) .nil))))) (.seq (.ret (.cmp .eq (.blt .repr (.cons (.tup (.cons (.call 1 (.cons (.var 4) .nil)) (.cons (.call 2 (.cons (.var 4) .nil)) (.cons (.call 3 (.cons (.var 4) (.cons (.bin .mod (.blt .int (.cons (.var 5) .nil)) (.bin .pow (.con (.int 10)) (.con (.int 12)))) .nil))) .nil)))) .nil)) (.blt .repr (.cons (.var 7) .nil)))) .nil)))) .nil) (.seq (.ret (.con (.bl true))) .nil)))))
def defs : List IDef := [⟨1, 4, b0⟩, ⟨1, 2, b1⟩, ⟨1, 3, b2⟩, ⟨2, 3, b3⟩, ⟨1, 3, b4⟩, ⟨2, 4, b5⟩, ⟨2, 2, b6⟩, ⟨2, 3, b7⟩, ⟨1, 2, b8⟩, ⟨1, 6, b9⟩, ⟨1, 4, b10⟩, ⟨2, 4, b11⟩, ⟨1, 4, b12⟩, ⟨2, 6, b13⟩, ⟨1, 4, b14⟩, ⟨2, 4, b15⟩, ⟨2, 3, b16⟩, ⟨2, 5, b17⟩, ⟨4, 4, b18⟩, ⟨1, 8, b19⟩]
theorem c0 : cSs (cS G d0.cc 100) d0.body = some b0 := by kernel_rfl
theorem c1 : cSs (cS G d1.cc 100) d1.body = some b1 := by kernel_rfl
theorem c2 : cSs (cS G d2.cc 100) d2.body = some b2 := by kernel_rfl
theorem c3 : cSs (cS G d3.cc 100) d3.body = some b3 := by kernel_rfl
theorem c4 : cSs (cS G d4.cc 100) d4.body = some b4 := by kernel_rfl
theorem c5 : cSs (cS G d5.cc 100) d5.body = some b5 := by kernel_rfl
theorem c6 : cSs (cS G d6.cc 100) d6.body = some b6 := by kernel_rfl
theorem c7 : cSs (cS G d7.cc 100) d7.body = some b7 := by kernel_rfl
theorem c8 : cSs (cS G d8.cc 100) d8.body = some b8 := by kernel_rfl
theorem c9 : cSs (cS G d9.cc 100) d9.body = some b9 := by kernel_rfl
theorem c10 : cSs (cS G d10.cc 100) d10.body = some b10 := by kernel_rfl
theorem c11 : cSs (cS G d11.cc 100) d11.body = some b11 := by kernel_rfl
theorem c12 : cSs (cS G d12.cc 100) d12.body = some b12 := by kernel_rfl
theorem c13 : cSs (cS G d13.cc 100) d13.body = some b13 := by kernel_rfl
theorem c14 : cSs (cS G d14.cc 100) d14.body = some b14 := by kernel_rfl
theorem c15 : cSs (cS G d15.cc 100) d15.body = some b15 := by kernel_rfl
theorem c16 : cSs (cS G d16.cc 100) d16.body = some b16 := by kernel_rfl
theorem c17 : cSs (cS G d17.cc 100) d17.body = some b17 := by kernel_rfl
theorem c18 : cSs (cS G d18.cc 100) d18.body = some b18 := by kernel_rfl
theorem c19 : cSs (cS G d19.cc 100) d19.body = some b19 := by kernel_rfl
theorem comp : Comp G recs defs := ⟨c0, rfl, rfl, c1, rfl, rfl, c2, rfl, rfl, c3, rfl, rfl, c4, rfl, rfl, c5, rfl, rfl, c6, rfl, rfl, c7, rfl, rfl, c8, rfl, rfl, c9, rfl, rfl, c10, rfl, rfl, c11, rfl, rfl, c12, rfl, rfl, c13, rfl, rfl, c14, rfl, rfl, c15, rfl, rfl, c16, rfl, rfl, c17, rfl, rfl, c18, rfl, rfl, c19, rfl, rfl, trivial⟩
theorem names : namesB G recs = true := by kernel_rfl
theorem scopes : recs.all scopeB = true := by kernel_rfl
theorem text : Text G recs defs := text_ok names comp scopes
theorem p0 (kV doc pm' : Value) (an : Option Addr) (cdv ct : Value) (us : List Value) (hl : us.length = d0.ps.length) : bindArgs (PySem.W.fnOf d0.x d0.x d0.params d0.body d0.scope .none kV doc pm' an cdv ct) ⟨us, []⟩ = pure (d0.ps.zip us) := match us, hl with | [_], _ => rfl
theorem p1 (kV doc pm' : Value) (an : Option Addr) (cdv ct : Value) (us : List Value) (hl : us.length = d1.ps.length) : bindArgs (PySem.W.fnOf d1.x d1.x d1.params d1.body d1.scope .none kV doc pm' an cdv ct) ⟨us, []⟩ = pure (d1.ps.zip us) := match us, hl with | [_], _ => rfl
theorem p2 (kV doc pm' : Value) (an : Option Addr) (cdv ct : Value) (us : List Value) (hl : us.length = d2.ps.length) : bindArgs (PySem.W.fnOf d2.x d2.x d2.params d2.body d2.scope .none kV doc pm' an cdv ct) ⟨us, []⟩ = pure (d2.ps.zip us) := match us, hl with | [_], _ => rfl
theorem p3 (kV doc pm' : Value) (an : Option Addr) (cdv ct : Value) (us : List Value) (hl : us.length = d3.ps.length) : bindArgs (PySem.W.fnOf d3.x d3.x d3.params d3.body d3.scope .none kV doc pm' an cdv ct) ⟨us, []⟩ = pure (d3.ps.zip us) := match us, hl with | [_, _], _ => rfl
theorem p4 (kV doc pm' : Value) (an : Option Addr) (cdv ct : Value) (us : List Value) (hl : us.length = d4.ps.length) : bindArgs (PySem.W.fnOf d4.x d4.x d4.params d4.body d4.scope .none kV doc pm' an cdv ct) ⟨us, []⟩ = pure (d4.ps.zip us) := match us, hl with | [_], _ => rfl
theorem p5 (kV doc pm' : Value) (an : Option Addr) (cdv ct : Value) (us : List Value) (hl : us.length = d5.ps.length) : bindArgs (PySem.W.fnOf d5.x d5.x d5.params d5.body d5.scope .none kV doc pm' an cdv ct) ⟨us, []⟩ = pure (d5.ps.zip us) := match us, hl with | [_, _], _ => rfl
theorem p6 (kV doc pm' : Value) (an : Option Addr) (cdv ct : Value) (us : List Value) (hl : us.length = d6.ps.length) : bindArgs (PySem.W.fnOf d6.x d6.x d6.params d6.body d6.scope .none kV doc pm' an cdv ct) ⟨us, []⟩ = pure (d6.ps.zip us) := match us, hl with | [_, _], _ => rfl
theorem p7 (kV doc pm' : Value) (an : Option Addr) (cdv ct : Value) (us : List Value) (hl : us.length = d7.ps.length) : bindArgs (PySem.W.fnOf d7.x d7.x d7.params d7.body d7.scope .none kV doc pm' an cdv ct) ⟨us, []⟩ = pure (d7.ps.zip us) := match us, hl with | [_, _], _ => rfl
theorem p8 (kV doc pm' : Value) (an : Option Addr) (cdv ct : Value) (us : List Value) (hl : us.length = d8.ps.length) : bindArgs (PySem.W.fnOf d8.x d8.x d8.params d8.body d8.scope .none kV doc pm' an cdv ct) ⟨us, []⟩ = pure (d8.ps.zip us) := match us, hl with | [_], _ => rfl
theorem p9 (kV doc pm' : Value) (an : Option Addr) (cdv ct : Value) (us : List Value) (hl : us.length = d9.ps.length) : bindArgs (PySem.W.fnOf d9.x d9.x d9.params d9.body d9.scope .none kV doc pm' an cdv ct) ⟨us, []⟩ = pure (d9.ps.zip us) := match us, hl with | [_], _ => rfl
theorem p10 (kV doc pm' : Value) (an : Option Addr) (cdv ct : Value) (us : List Value) (hl : us.length = d10.ps.length) : bindArgs (PySem.W.fnOf d10.x d10.x d10.params d10.body d10.scope .none kV doc pm' an cdv ct) ⟨us, []⟩ = pure (d10.ps.zip us) := match us, hl with | [_], _ => rfl
theorem p11 (kV doc pm' : Value) (an : Option Addr) (cdv ct : Value) (us : List Value) (hl : us.length = d11.ps.length) : bindArgs (PySem.W.fnOf d11.x d11.x d11.params d11.body d11.scope .none kV doc pm' an cdv ct) ⟨us, []⟩ = pure (d11.ps.zip us) := match us, hl with | [_, _], _ => rfl
theorem p12 (kV doc pm' : Value) (an : Option Addr) (cdv ct : Value) (us : List Value) (hl : us.length = d12.ps.length) : bindArgs (PySem.W.fnOf d12.x d12.x d12.params d12.body d12.scope .none kV doc pm' an cdv ct) ⟨us, []⟩ = pure (d12.ps.zip us) := match us, hl with | [_], _ => rfl
theorem p13 (kV doc pm' : Value) (an : Option Addr) (cdv ct : Value) (us : List Value) (hl : us.length = d13.ps.length) : bindArgs (PySem.W.fnOf d13.x d13.x d13.params d13.body d13.scope .none kV doc pm' an cdv ct) ⟨us, []⟩ = pure (d13.ps.zip us) := match us, hl with | [_, _], _ => rfl
theorem p14 (kV doc pm' : Value) (an : Option Addr) (cdv ct : Value) (us : List Value) (hl : us.length = d14.ps.length) : bindArgs (PySem.W.fnOf d14.x d14.x d14.params d14.body d14.scope .none kV doc pm' an cdv ct) ⟨us, []⟩ = pure (d14.ps.zip us) := match us, hl with | [_], _ => rfl
theorem p15 (kV doc pm' : Value) (an : Option Addr) (cdv ct : Value) (us : List Value) (hl : us.length = d15.ps.length) : bindArgs (PySem.W.fnOf d15.x d15.x d15.params d15.body d15.scope .none kV doc pm' an cdv ct) ⟨us, []⟩ = pure (d15.ps.zip us) := match us, hl with | [_, _], _ => rfl
theorem p16 (kV doc pm' : Value) (an : Option Addr) (cdv ct : Value) (us : List Value) (hl : us.length = d16.ps.length) : bindArgs (PySem.W.fnOf d16.x d16.x d16.params d16.body d16.scope .none kV doc pm' an cdv ct) ⟨us, []⟩ = pure (d16.ps.zip us) := match us, hl with | [_, _], _ => rfl
theorem p17 (kV doc pm' : Value) (an : Option Addr) (cdv ct : Value) (us : List Value) (hl : us.length = d17.ps.length) : bindArgs (PySem.W.fnOf d17.x d17.x d17.params d17.body d17.scope .none kV doc pm' an cdv ct) ⟨us, []⟩ = pure (d17.ps.zip us) := match us, hl with | [_, _], _ => rfl
theorem p18 (kV doc pm' : Value) (an : Option Addr) (cdv ct : Value) (us : List Value) (hl : us.length = d18.ps.length) : bindArgs (PySem.W.fnOf d18.x d18.x d18.params d18.body d18.scope .none kV doc pm' an cdv ct) ⟨us, []⟩ = pure (d18.ps.zip us) := match us, hl with | [_, _, _, _], _ => rfl
theorem p19 (kV doc pm' : Value) (an : Option Addr) (cdv ct : Value) (us : List Value) (hl : us.length = d19.ps.length) : bindArgs (PySem.W.fnOf d19.x d19.x d19.params d19.body d19.scope .none kV doc pm' an cdv ct) ⟨us, []⟩ = pure (d19.ps.zip us) := match us, hl with | [_], _ => rfl
theorem k0 (kV doc pm' : Value) (an : Option Addr) (cdv ct : Value) (us ws : List Value) (hl : us.length = 0) (hw : ws.length = (["m"] : List Str).length) : bindArgs (PySem.W.fnOf d1.x d1.x d1.params d1.body d1.scope .none kV doc pm' an cdv ct) ⟨us, (["m"] : List Str).zip ws⟩ = pure (d1.ps.zip (pm [0] (us ++ ws))) := match us, hl, ws, hw with | [], _, [_], _ => rfl
theorem k1 (kV doc pm' : Value) (an : Option Addr) (cdv ct : Value) (us ws : List Value) (hl : us.length = 0) (hw : ws.length = (["a", "m"] : List Str).length) : bindArgs (PySem.W.fnOf d3.x d3.x d3.params d3.body d3.scope .none kV doc pm' an cdv ct) ⟨us, (["a", "m"] : List Str).zip ws⟩ = pure (d3.ps.zip (pm [1, 0] (us ++ ws))) := match us, hl, ws, hw with | [], _, [_, _], _ => rfl
theorem k2 (kV doc pm' : Value) (an : Option Addr) (cdv ct : Value) (us ws : List Value) (hl : us.length = 0) (hw : ws.length = (["m"] : List Str).length) : bindArgs (PySem.W.fnOf d2.x d2.x d2.params d2.body d2.scope .none kV doc pm' an cdv ct) ⟨us, (["m"] : List Str).zip ws⟩ = pure (d2.ps.zip (pm [0] (us ++ ws))) := match us, hl, ws, hw with | [], _, [_], _ => rfl
theorem call0 (K : PySem.W.Frag) (f : Addr) (fd : FuncData) (F : FunD K d0.x d0.x d0.params d0.body d0.scope [] [] f fd) : Binds K fd d0.ps [] ∧ ∀ e ∈ G.kws, e.1.1 = d0.x → BindK K fd d0.ps e.1.2.1 e.1.2.2 e.2 := ⟨F.bindsN p0, List.forall_mem_cons.mpr ⟨fun hx => absurd hx (by decide), List.forall_mem_cons.mpr ⟨fun hx => absurd hx (by decide), List.forall_mem_cons.mpr ⟨fun hx => absurd hx (by decide), List.forall_mem_nil _⟩⟩⟩⟩
theorem call1 (K : PySem.W.Frag) (f : Addr) (fd : FuncData) (F : FunD K d1.x d1.x d1.params d1.body d1.scope [] [] f fd) : Binds K fd d1.ps [] ∧ ∀ e ∈ G.kws, e.1.1 = d1.x → BindK K fd d1.ps e.1.2.1 e.1.2.2 e.2 := ⟨F.bindsN p1, List.forall_mem_cons.mpr ⟨fun _ => bindK_of F k0, List.forall_mem_cons.mpr ⟨fun hx => absurd hx (by decide), List.forall_mem_cons.mpr ⟨fun hx => absurd hx (by decide), List.forall_mem_nil _⟩⟩⟩⟩
theorem call2 (K : PySem.W.Frag) (f : Addr) (fd : FuncData) (F : FunD K d2.x d2.x d2.params d2.body d2.scope [] [] f fd) : Binds K fd d2.ps [] ∧ ∀ e ∈ G.kws, e.1.1 = d2.x → BindK K fd d2.ps e.1.2.1 e.1.2.2 e.2 := ⟨F.bindsN p2, List.forall_mem_cons.mpr ⟨fun hx => absurd hx (by decide), List.forall_mem_cons.mpr ⟨fun hx => absurd hx (by decide), List.forall_mem_cons.mpr ⟨fun _ => bindK_of F k2, List.forall_mem_nil _⟩⟩⟩⟩
theorem call3 (K : PySem.W.Frag) (f : Addr) (fd : FuncData) (F : FunD K d3.x d3.x d3.params d3.body d3.scope [] [] f fd) : Binds K fd d3.ps [] ∧ ∀ e ∈ G.kws, e.1.1 = d3.x → BindK K fd d3.ps e.1.2.1 e.1.2.2 e.2 := ⟨F.bindsN p3, List.forall_mem_cons.mpr ⟨fun hx => absurd hx (by decide), List.forall_mem_cons.mpr ⟨fun _ => bindK_of F k1, List.forall_mem_cons.mpr ⟨fun hx => absurd hx (by decide), List.forall_mem_nil _⟩⟩⟩⟩
theorem call4 (K : PySem.W.Frag) (f : Addr) (fd : FuncData) (F : FunD K d4.x d4.x d4.params d4.body d4.scope [] [] f fd) : Binds K fd d4.ps [] ∧ ∀ e ∈ G.kws, e.1.1 = d4.x → BindK K fd d4.ps e.1.2.1 e.1.2.2 e.2 := ⟨F.bindsN p4, List.forall_mem_cons.mpr ⟨fun hx => absurd hx (by decide), List.forall_mem_cons.mpr ⟨fun hx => absurd hx (by decide), List.forall_mem_cons.mpr ⟨fun hx => absurd hx (by decide), List.forall_mem_nil _⟩⟩⟩⟩
theorem call5 (K : PySem.W.Frag) (f : Addr) (fd : FuncData) (F : FunD K d5.x d5.x d5.params d5.body d5.scope [] [] f fd) : Binds K fd d5.ps [] ∧ ∀ e ∈ G.kws, e.1.1 = d5.x → BindK K fd d5.ps e.1.2.1 e.1.2.2 e.2 := ⟨F.bindsN p5, List.forall_mem_cons.mpr ⟨fun hx => absurd hx (by decide), List.forall_mem_cons.mpr ⟨fun hx => absurd hx (by decide), List.forall_mem_cons.mpr ⟨fun hx => absurd hx (by decide), List.forall_mem_nil _⟩⟩⟩⟩
theorem call6 (K : PySem.W.Frag) (f : Addr) (fd : FuncData) (F : FunD K d6.x d6.x d6.params d6.body d6.scope [] [] f fd) : Binds K fd d6.ps [] ∧ ∀ e ∈ G.kws, e.1.1 = d6.x → BindK K fd d6.ps e.1.2.1 e.1.2.2 e.2 := ⟨F.bindsN p6, List.forall_mem_cons.mpr ⟨fun hx => absurd hx (by decide), List.forall_mem_cons.mpr ⟨fun hx => absurd hx (by decide), List.forall_mem_cons.mpr ⟨fun hx => absurd hx (by decide), List.forall_mem_nil _⟩⟩⟩⟩
theorem call7 (K : PySem.W.Frag) (f : Addr) (fd : FuncData) (F : FunD K d7.x d7.x d7.params d7.body d7.scope [] [] f fd) : Binds K fd d7.ps [] ∧ ∀ e ∈ G.kws, e.1.1 = d7.x → BindK K fd d7.ps e.1.2.1 e.1.2.2 e.2 := ⟨F.bindsN p7, List.forall_mem_cons.mpr ⟨fun hx => absurd hx (by decide), List.forall_mem_cons.mpr ⟨fun hx => absurd hx (by decide), List.forall_mem_cons.mpr ⟨fun hx => absurd hx (by decide), List.forall_mem_nil _⟩⟩⟩⟩
theorem call8 (K : PySem.W.Frag) (f : Addr) (fd : FuncData) (F : FunD K d8.x d8.x d8.params d8.body d8.scope [] [] f fd) : Binds K fd d8.ps [] ∧ ∀ e ∈ G.kws, e.1.1 = d8.x → BindK K fd d8.ps e.1.2.1 e.1.2.2 e.2 := ⟨F.bindsN p8, List.forall_mem_cons.mpr ⟨fun hx => absurd hx (by decide), List.forall_mem_cons.mpr ⟨fun hx => absurd hx (by decide), List.forall_mem_cons.mpr ⟨fun hx => absurd hx (by decide), List.forall_mem_nil _⟩⟩⟩⟩
theorem call9 (K : PySem.W.Frag) (f : Addr) (fd : FuncData) (F : FunD K d9.x d9.x d9.params d9.body d9.scope [] [] f fd) : Binds K fd d9.ps [] ∧ ∀ e ∈ G.kws, e.1.1 = d9.x → BindK K fd d9.ps e.1.2.1 e.1.2.2 e.2 := ⟨F.bindsN p9, List.forall_mem_cons.mpr ⟨fun hx => absurd hx (by decide), List.forall_mem_cons.mpr ⟨fun hx => absurd hx (by decide), List.forall_mem_cons.mpr ⟨fun hx => absurd hx (by decide), List.forall_mem_nil _⟩⟩⟩⟩
theorem call10 (K : PySem.W.Frag) (f : Addr) (fd : FuncData) (F : FunD K d10.x d10.x d10.params d10.body d10.scope [] [] f fd) : Binds K fd d10.ps [] ∧ ∀ e ∈ G.kws, e.1.1 = d10.x → BindK K fd d10.ps e.1.2.1 e.1.2.2 e.2 := ⟨F.bindsN p10, List.forall_mem_cons.mpr ⟨fun hx => absurd hx (by decide), List.forall_mem_cons.mpr ⟨fun hx => absurd hx (by decide), List.forall_mem_cons.mpr ⟨fun hx => absurd hx (by decide), List.forall_mem_nil _⟩⟩⟩⟩
theorem call11 (K : PySem.W.Frag) (f : Addr) (fd : FuncData) (F : FunD K d11.x d11.x d11.params d11.body d11.scope [] [] f fd) : Binds K fd d11.ps [] ∧ ∀ e ∈ G.kws, e.1.1 = d11.x → BindK K fd d11.ps e.1.2.1 e.1.2.2 e.2 := ⟨F.bindsN p11, List.forall_mem_cons.mpr ⟨fun hx => absurd hx (by decide), List.forall_mem_cons.mpr ⟨fun hx => absurd hx (by decide), List.forall_mem_cons.mpr ⟨fun hx => absurd hx (by decide), List.forall_mem_nil _⟩⟩⟩⟩
theorem call12 (K : PySem.W.Frag) (f : Addr) (fd : FuncData) (F : FunD K d12.x d12.x d12.params d12.body d12.scope [] [] f fd) : Binds K fd d12.ps [] ∧ ∀ e ∈ G.kws, e.1.1 = d12.x → BindK K fd d12.ps e.1.2.1 e.1.2.2 e.2 := ⟨F.bindsN p12, List.forall_mem_cons.mpr ⟨fun hx => absurd hx (by decide), List.forall_mem_cons.mpr ⟨fun hx => absurd hx (by decide), List.forall_mem_cons.mpr ⟨fun hx => absurd hx (by decide), List.forall_mem_nil _⟩⟩⟩⟩
theorem call13 (K : PySem.W.Frag) (f : Addr) (fd : FuncData) (F : FunD K d13.x d13.x d13.params d13.body d13.scope [] [] f fd) : Binds K fd d13.ps [] ∧ ∀ e ∈ G.kws, e.1.1 = d13.x → BindK K fd d13.ps e.1.2.1 e.1.2.2 e.2 := ⟨F.bindsN p13, List.forall_mem_cons.mpr ⟨fun hx => absurd hx (by decide), List.forall_mem_cons.mpr ⟨fun hx => absurd hx (by decide), List.forall_mem_cons.mpr ⟨fun hx => absurd hx (by decide), List.forall_mem_nil _⟩⟩⟩⟩
theorem call14 (K : PySem.W.Frag) (f : Addr) (fd : FuncData) (F : FunD K d14.x d14.x d14.params d14.body d14.scope [] [] f fd) : Binds K fd d14.ps [] ∧ ∀ e ∈ G.kws, e.1.1 = d14.x → BindK K fd d14.ps e.1.2.1 e.1.2.2 e.2 := ⟨F.bindsN p14, List.forall_mem_cons.mpr ⟨fun hx => absurd hx (by decide), List.forall_mem_cons.mpr ⟨fun hx => absurd hx (by decide), List.forall_mem_cons.mpr ⟨fun hx => absurd hx (by decide), List.forall_mem_nil _⟩⟩⟩⟩
theorem call15 (K : PySem.W.Frag) (f : Addr) (fd : FuncData) (F : FunD K d15.x d15.x d15.params d15.body d15.scope [] [] f fd) : Binds K fd d15.ps [] ∧ ∀ e ∈ G.kws, e.1.1 = d15.x → BindK K fd d15.ps e.1.2.1 e.1.2.2 e.2 := ⟨F.bindsN p15, List.forall_mem_cons.mpr ⟨fun hx => absurd hx (by decide), List.forall_mem_cons.mpr ⟨fun hx => absurd hx (by decide), List.forall_mem_cons.mpr ⟨fun hx => absurd hx (by decide), List.forall_mem_nil _⟩⟩⟩⟩
theorem call16 (K : PySem.W.Frag) (f : Addr) (fd : FuncData) (F : FunD K d16.x d16.x d16.params d16.body d16.scope [] [] f fd) : Binds K fd d16.ps [] ∧ ∀ e ∈ G.kws, e.1.1 = d16.x → BindK K fd d16.ps e.1.2.1 e.1.2.2 e.2 := ⟨F.bindsN p16, List.forall_mem_cons.mpr ⟨fun hx => absurd hx (by decide), List.forall_mem_cons.mpr ⟨fun hx => absurd hx (by decide), List.forall_mem_cons.mpr ⟨fun hx => absurd hx (by decide), List.forall_mem_nil _⟩⟩⟩⟩
theorem call17 (K : PySem.W.Frag) (f : Addr) (fd : FuncData) (F : FunD K d17.x d17.x d17.params d17.body d17.scope [] [] f fd) : Binds K fd d17.ps [] ∧ ∀ e ∈ G.kws, e.1.1 = d17.x → BindK K fd d17.ps e.1.2.1 e.1.2.2 e.2 := ⟨F.bindsN p17, List.forall_mem_cons.mpr ⟨fun hx => absurd hx (by decide), List.forall_mem_cons.mpr ⟨fun hx => absurd hx (by decide), List.forall_mem_cons.mpr ⟨fun hx => absurd hx (by decide), List.forall_mem_nil _⟩⟩⟩⟩
theorem call18 (K : PySem.W.Frag) (f : Addr) (fd : FuncData) (F : FunD K d18.x d18.x d18.params d18.body d18.scope [] [] f fd) : Binds K fd d18.ps [] ∧ ∀ e ∈ G.kws, e.1.1 = d18.x → BindK K fd d18.ps e.1.2.1 e.1.2.2 e.2 := ⟨F.bindsN p18, List.forall_mem_cons.mpr ⟨fun hx => absurd hx (by decide), List.forall_mem_cons.mpr ⟨fun hx => absurd hx (by decide), List.forall_mem_cons.mpr ⟨fun hx => absurd hx (by decide), List.forall_mem_nil _⟩⟩⟩⟩
theorem call19 (K : PySem.W.Frag) (f : Addr) (fd : FuncData) (F : FunD K d19.x d19.x d19.params d19.body d19.scope [] [] f fd) : Binds K fd d19.ps [] ∧ ∀ e ∈ G.kws, e.1.1 = d19.x → BindK K fd d19.ps e.1.2.1 e.1.2.2 e.2 := ⟨F.bindsN p19, List.forall_mem_cons.mpr ⟨fun hx => absurd hx (by decide), List.forall_mem_cons.mpr ⟨fun hx => absurd hx (by decide), List.forall_mem_cons.mpr ⟨fun hx => absurd hx (by decide), List.forall_mem_nil _⟩⟩⟩⟩
theorem calls : Calls' G recs := fun i d e => match i, e with
  | 0, e => by cases e; exact call0
  | 1, e => by cases e; exact call1
  | 2, e => by cases e; exact call2
  | 3, e => by cases e; exact call3
  | 4, e => by cases e; exact call4
  | 5, e => by cases e; exact call5
  | 6, e => by cases e; exact call6
  | 7, e => by cases e; exact call7
  | 8, e => by cases e; exact call8
  | 9, e => by cases e; exact call9
  | 10, e => by cases e; exact call10
  | 11, e => by cases e; exact call11
  | 12, e => by cases e; exact call12
  | 13, e => by cases e; exact call13
  | 14, e => by cases e; exact call14
  | 15, e => by cases e; exact call15
  | 16, e => by cases e; exact call16
  | 17, e => by cases e; exact call17
  | 18, e => by cases e; exact call18
  | 19, e => by cases e; exact call19
  | i + 20, e => absurd (List.mem_of_getElem? e) (by simp [recs] at e)
theorem valsB : G.vals.all (fun y => (valFa y).isSome) = true := by kernel_rfl
abbrev R : PySem.W.OpenRow := PySem.W.OpenLaw.row PySem.Challenge.rw_hoursheets_k02_whole_numbers_over_diviso
def loose : List Str := (["prime_divisors", "sign_number", "unit_number", "sum_number", "_law_deck", "_law_draw", "_law_pick", "_law_gcd", "_law_divisors", "_law_powers", "_law_sign", "_law_power", "_law_phi", "_law_sum", "_law_number", "_law_integer", "_law_is_told", "_law_adds_up", "_law_multiplies"] : List Str)
abbrev hk : PySem.W.Hook := He.hookX 4 (faOf G recs) (fnOf' recs) [] (tfOf recs) (exOf G)
def ob (s : PySem.W.SharedT) : He.AlX := He.obsX 4 (faOf G recs) (fnOf' recs) [] (tfOf recs) (exOf G) (HandSHeadRun.getT s)
theorem ob_eq (s : PySem.W.SharedT) : ob s = hk.obs s.abs := He.obsX_eq (HandSHeadRun.getT_eq s)
theorem run (w : World) : HandSHeadRun.RunEqI R (PySem.W.view R.prog [0, 22]) hk ob 4000 loose w := by
  unfold HandSHeadRun.RunEqI
  kernel_rfl
end K02
end

section
set_option Elab.async false
set_option linter.all false
set_option maxRecDepth 100000
set_option maxHeartbeats 4000000
open PI PySem PN
namespace K02
/-- the defs that are told over values -/
def pd : List IDef := [⟨1, 4, b0⟩, ⟨1, 2, b1⟩, ⟨1, 3, b2⟩, ⟨2, 3, b3⟩, nev, nev, ⟨2, 2, b6⟩, ⟨2, 3, b7⟩, ⟨1, 2, b8⟩, ⟨1, 6, b9⟩, ⟨1, 4, b10⟩, ⟨2, 4, b11⟩, ⟨1, 4, b12⟩, ⟨2, 6, b13⟩, ⟨1, 4, b14⟩, ⟨2, 4, b15⟩, ⟨2, 3, b16⟩, ⟨2, 5, b17⟩, ⟨4, 4, b18⟩, nev]
abbrev DF := Int → Sg → Option (Int × Sg)
theorem pos_of {p : Nat} (h : 2 ≤ p) : (0 : Int) < (p : Int) := by omega
theorem lt1000 {n : Nat} (h : n < 2 ^ 100) : (n : Int).natAbs < 2 ^ 1000 := Nat.lt_trans (by rw [Int.natAbs_natCast]; exact h) (by decide)
section
variable {F : FP} {wf : Nat} {σ : Sg}
abbrev condA : IE := (.cmp .le (.bin .mul (.var 3) (.var 3)) (.var 2))
abbrev bodyA : IS := (.seq (.ife (.cmp .eq (.bin .mod (.var 2) (.var 3)) (.con (.int 0))) (.seq (.ex (.mth .append (.var 1) (.cons (.var 3) .nil))) (.seq (.aug 2 .fdiv (.var 3)) .nil)) (.seq (.aug 3 .add (.con (.int 1))) .nil)) .nil)
/-- one prime taken out -/
theorem bodyT {m : PV} {acc : List Int} {p v : Nat} (hp : 2 ≤ p) (hp2 : p ≤ 1024) (l : acc.length ≤ 50) : fex F wf bodyA [some m, some (.fl (acc.map .int)), some (.int ((p * v : Nat) : Int)), some (.int (p : Nat))] σ =
    some (.nx [some m, some (.fl ((acc ++ [(p : Int)]).map .int)), some (.int (v : Nat)), some (.int (p : Nat))], σ) := by
  have e0 : ((p * v : Nat) : Int) % (p : Int) = 0 := by rw [← Int.natCast_emod, Nat.mul_mod_right]; rfl
  have e1 : ((p * v : Nat) : Int) / (p : Int) = (v : Nat) := by rw [← Int.natCast_ediv, Nat.mul_div_cancel_left _ (by omega)]
  have c : fe F (.cmp .eq (.bin .mod (.var 2) (.var 3)) (.con (.int 0))) [some m, some (.fl (acc.map .int)), some (.int ((p * v : Nat) : Int)), some (.int (p : Nat))] σ = some (.bl true, σ) :=
    fe_cmp (fe_bin (fe_var rfl) (fe_var rfl) (pb_mod (pos_of hp))) (fe_con rfl) (by rw [e0]; rfl)
  refine (sx_nx ?_).trans sx_nil
  refine (sx_ift c).trans ?_
  refine (sx_nx (sx_app (xs := acc.map .int) (fe_var rfl) rfl (by rw [List.length_map]; omega))).trans ?_
  refine (sx_nx (sx_aug (fe_var rfl) rfl (ag_fdiv (pos_of hp) (lt1000 (Nat.lt_of_le_of_lt hp2 (by decide)))))).trans ?_
  rw [e1, List.map_append]
  rfl
theorem bodyF {m : PV} {acc : List Int} {p v : Nat} (hp : 2 ≤ p) (hd : ¬p ∣ v) : fex F wf bodyA [some m, some (.fl (acc.map .int)), some (.int (v : Nat)), some (.int (p : Nat))] σ =
    some (.nx [some m, some (.fl (acc.map .int)), some (.int (v : Nat)), some (.int ((p + 1 : Nat) : Int))], σ) := by
  have e0 : decide (((v : Nat) : Int) % (p : Int) = 0) = false := decide_eq_false fun h => hd (Nat.dvd_of_mod_eq_zero (by rw [← Int.natCast_emod] at h; omega))
  have c : fe F (.cmp .eq (.bin .mod (.var 2) (.var 3)) (.con (.int 0))) [some m, some (.fl (acc.map .int)), some (.int (v : Nat)), some (.int (p : Nat))] σ = some (.bl false, σ) :=
    fe_cmp (fe_bin (fe_var rfl) (fe_var rfl) (pb_mod (pos_of hp))) (fe_con rfl) (by rw [pc_eq, e0])
  refine (sx_nx ?_).trans sx_nil
  refine (sx_iff c).trans ?_
  refine (sx_nx (sx_aug (fe_con rfl) rfl ag_add)).trans ?_
  rfl
end
theorem peel {p : Nat} {L : List (Nat × Nat)} (f : Fac p L) (hp : 2 ≤ p) (h1 : 2 ≤ val L) (hd : p ∣ val L) : ∃ L', Fac p L' ∧ val L = p * val L' ∧ expand L = (p : Int) :: expand L' := by
  match L, f with
  | [], _ => exact absurd h1 (by decide)
  | (q, e) :: M, ⟨a, b, c, f⟩ =>
    have pq : p = q := by
      rcases Nat.lt_or_ge p q with l | l
      · exact absurd hd (not_dvd (p := q) ⟨Nat.le_refl q, b, c, f⟩ hp l)
      · omega
    subst pq
    obtain ⟨k, rfl⟩ : ∃ k, e = k + 1 := ⟨e - 1, by omega⟩
    have v : val ((p, k + 1) :: M) = p * (p ^ k * val M) := by
      show p ^ (k + 1) * val M = _
      rw [Nat.pow_succ, Nat.mul_comm (p ^ k) p, Nat.mul_assoc]
    cases k with
    | zero =>
      refine ⟨M, f.weak (by omega), ?_, rfl⟩
      rw [v]; simp
    | succ k => exact ⟨(p, k + 1) :: M, ⟨Nat.le_refl p, b, by omega, f⟩, v, rfl⟩
theorem raise {p : Nat} {L : List (Nat × Nat)} (f : Fac p L) (hd : ¬p ∣ val L) : Fac (p + 1) L := by
  match L, f with
  | [], _ => trivial
  | (q, e) :: M, ⟨a, b, c, f⟩ =>
    have : p ≠ q := fun h => hd (h ▸ dvd_head c)
    exact ⟨by omega, b, c, f⟩
section
variable {F : FP} {wf : Nat} {σ : Sg}
theorem loopA {m : PV} : ∀ (f s p : Nat) (L : List (Nat × Nat)) (acc : List Int), Fac p L → 2 ≤ p → p ≤ 1024 → val L < 2 ^ s → s ≤ 20 → acc.length + s ≤ 50 → (1024 - p) + s < f →
    ∃ (acc' : List Int) (r p' : Nat), whileP (fun ρ σ => (fe F condA ρ σ).bind fun p => (truthy [] p.1).bind fun r => some (r, p.2)) (fex F wf bodyA) f [some m, some (.fl (acc.map .int)), some (.int (val L : Nat)), some (.int (p : Nat))] σ =
      some (.nx [some m, some (.fl (acc'.map .int)), some (.int (r : Nat)), some (.int (p' : Nat))], σ) ∧ acc' ++ (if 1 < r then [(r : Int)] else []) = acc ++ expand L ∧ acc'.length ≤ 50
  | 0, _, _, _, _, _, _, _, _, _, _, hf => absurd hf (by omega)
  | f + 1, s, p, L, acc, hL, p2, p3, hv, hs, ha, hf => by
    have s20 : 2 ^ s ≤ 2 ^ 20 := Nat.pow_le_pow_right (by decide) hs
    have s20' : (2 : Nat) ^ 20 = 1048576 := rfl
    have c : fe F condA [some m, some (.fl (acc.map .int)), some (.int (val L : Nat)), some (.int (p : Nat))] σ = some (.bl (decide (p * p ≤ val L)), σ) := by
      refine fe_cmp (fe_bin (fe_var rfl) (fe_var rfl) (pb_mul (lt1000 (Nat.lt_of_le_of_lt p3 (by decide))) (lt1000 (Nat.lt_of_le_of_lt p3 (by decide))))) (fe_var rfl) ?_
      rw [pc_le, ← Int.natCast_mul]
      congr 1
      exact decide_eq_decide.mpr (by omega)
    unfold whileP
    simp only [c, Option.bind_some, tr_b]
    by_cases hq : p * p ≤ val L
    · have p4 : p < 1024 := by
        rcases Nat.lt_or_ge p 1024 with l | l
        · exact l
        · have := Nat.mul_le_mul l l
          omega
      rw [decide_eq_true hq]
      simp only [if_true]
      have v4 : 2 * 2 ≤ val L := Nat.le_trans (Nat.mul_le_mul p2 p2) hq
      by_cases hd : p ∣ val L
      · obtain ⟨L', f', v', x'⟩ := peel hL p2 (by omega) hd
        obtain ⟨s', rfl⟩ : ∃ s', s = s' + 1 := by
          cases s with
          | zero => rw [Nat.pow_zero] at hv; omega
          | succ s => exact ⟨s, rfl⟩
        rw [v', bodyT p2 p3 (by omega)]
        simp only [Option.bind_some]
        obtain ⟨acc', r, p', e, q, l⟩ := loopA f s' p L' (acc ++ [(p : Int)]) f' p2 p3 (by
          have : 2 * val L' ≤ p * val L' := Nat.mul_le_mul_right _ p2
          rw [Nat.pow_succ] at hv
          omega) (by omega) (by rw [List.length_append]; simp; omega) (by omega)
        exact ⟨acc', r, p', e, by rw [q, x', List.append_assoc]; rfl, l⟩
      · rw [bodyF p2 hd]
        simp only [Option.bind_some]
        obtain ⟨acc', r, p', e, q, l⟩ := loopA f s (p + 1) L acc (raise hL hd) (by omega) (by omega) hv hs ha (by omega)
        exact ⟨acc', r, p', e, q, l⟩
    · rw [decide_eq_false hq]
      simp only [Bool.false_eq_true, if_false]
      refine ⟨acc, val L, p, rfl, ?_, by omega⟩
      rcases small hL p2 (by omega) with h | ⟨q, h⟩
      · subst h; rfl
      · subst h
        have b := hL.2.1.1
        have v : val [(q, 1)] = q := by show q ^ 1 * 1 = q; simp
        rw [v, if_pos (by omega)]
        rfl
end
section
variable {D : DF} {σ : Sg} {k : Nat}
abbrev f0 : IDef := ⟨1, 4, b0⟩
/-- the primes -/
theorem primes {L : List (Nat × Nat)} (hL : Fac 2 L) (hv : val L < 2 ^ 20) : feN pd 1000000 5 D (k + 1) 0 [.int (val L : Nat)] σ = some (.fl ((expand L).map .int), σ) := by
  have v1 := val_pos hL
  obtain ⟨acc', r, p', e, q, l⟩ := loopA (F := feN pd 1000000 5 D k) (wf := 1000000) (σ := σ) (m := .int (val L : Nat)) 1000000 20 2 L [] hL (by omega) (by omega) hv (by omega) (by simp) (by omega)
  refine feN_rt (d := f0) (by decide) rfl rfl ?_
  refine (sx_nx (sx_asg (fe_lst fe_nil (by decide)) rfl)).trans ?_
  refine (sx_nx (sx_asg (fe_var rfl) rfl)).trans ?_
  refine (sx_nx (sx_asg (fe_con rfl) rfl)).trans ?_
  refine (sx_nx (ρ' := [some (.int (val L : Nat)), some (.fl (acc'.map .int)), some (.int (r : Nat)), some (.int (p' : Nat))]) (σ' := σ) (sx_while.trans e)).trans ?_
  have c : fe (feN pd 1000000 5 D k) (.cmp .gt (.var 2) (.con (.int 1))) [some (.int (val L : Nat)), some (.fl (acc'.map .int)), some (.int (r : Nat)), some (.int (p' : Nat))] σ = some (.bl (decide (1 < r)), σ) :=
    fe_cmp (fe_var rfl) (fe_con rfl) (by rw [pc_gt]; congr 1; exact decide_eq_decide.mpr (by omega))
  rw [List.nil_append] at q
  by_cases hr : 1 < r
  · rw [decide_eq_true hr] at c
    rw [if_pos hr] at q
    refine (sx_nx ((sx_ift c).trans (sx_nx (sx_app (xs := acc'.map .int) (fe_var rfl) rfl (by rw [List.length_map]; omega))))).trans ?_
    refine sx_rt (sx_ret (fe_var ?_))
    rw [← q, List.map_append]
    rfl
  · rw [decide_eq_false hr] at c
    rw [if_neg hr, List.append_nil] at q
    refine (sx_nx ((sx_iff c).trans sx_nil)).trans ?_
    refine sx_rt (sx_ret (fe_var ?_))
    rw [← q]
    rfl
end
end K02
end

section
set_option Elab.async false
set_option linter.all false
set_option maxRecDepth 100000
set_option maxHeartbeats 4000000
open PI PySem PN
namespace K02
variable {D : DF} {σ : Sg} {k : Nat}
abbrev f1 : IDef := ⟨1, 2, b1⟩
abbrev f2 : IDef := ⟨1, 3, b2⟩
abbrev f3 : IDef := ⟨2, 3, b3⟩
theorem lenL : ∀ (L : List (Nat × Nat)), (firsts L).length = L.length := fun L => by unfold firsts; rw [List.length_map]
theorem sign {L : List (Nat × Nat)} (hL : Fac 2 L) (hv : val L < 2 ^ 20) : feN pd 1000000 5 D (k + 2) 1 [.int (val L : Nat)] σ = some (.int (S L), σ) := by
  have p := primes (D := D) (σ := σ) (k := k) hL hv
  have ls := len_small hL hv
  obtain ⟨l1, l2⟩ := len_expand hL
  refine feN_rt (d := f1) (by decide) rfl rfl ?_
  refine (sx_nx (sx_asg ((fe_call (fe_cons (fe_var rfl) fe_nil)).trans p) rfl)).trans ?_
  have x1 : fe (feN pd 1000000 5 D (k + 1)) (.sts false (.var 1)) [some (.int (val L : Nat)), some (.fl ((expand L).map .int))] σ = some (.int (L.length : Nat), σ) := by
    refine fe_sts (fe_var rfl) ?_
    show (intsOf ((expand L).map .int)).bind _ = _
    rw [intsOf_map]
    simp only [Option.bind_some]
    rw [if_pos (by omega), if_neg (by decide), dd_expand hL, lenL]
  have x2 : fe (feN pd 1000000 5 D (k + 1)) (.blt .len (.cons (.var 1) .nil)) [some (.int (val L : Nat)), some (.fl ((expand L).map .int))] σ = some (.int ((expand L).length : Nat), σ) :=
    fe_blt (fe_cons (fe_var rfl) fe_nil) (by rw [pl_lenF, List.length_map])
  have c : fe (feN pd 1000000 5 D (k + 1)) (.cmp .lt (.sts false (.var 1)) (.blt .len (.cons (.var 1) .nil))) [some (.int (val L : Nat)), some (.fl ((expand L).map .int))] σ = some (.bl (decide (L.length < (expand L).length)), σ) :=
    fe_cmp x1 x2 (by rw [pc_lt]; congr 1; exact decide_eq_decide.mpr (by omega))
  rw [l2]
  by_cases h : L.length < (expand L).length
  · rw [decide_eq_true h] at c
    rw [if_pos h]
    exact sx_rt ((sx_ift c).trans (sx_rt (sx_ret (fe_con rfl))))
  · rw [decide_eq_false h] at c
    rw [if_neg h]
    refine (sx_nx ((sx_iff c).trans sx_nil)).trans (sx_rt (sx_ret ?_))
    have x3 : fe (feN pd 1000000 5 D (k + 1)) (.cmp .eq (.bin .mod (.blt .len (.cons (.var 1) .nil)) (.con (.int 2))) (.con (.int 0))) [some (.int (val L : Nat)), some (.fl ((expand L).map .int))] σ = some (.bl (decide ((expand L).length % 2 = 0)), σ) :=
      fe_cmp (fe_bin x2 (fe_con rfl) (pb_mod (by decide))) (fe_con rfl) (by rw [pc_eq]; congr 1; exact decide_eq_decide.mpr (by omega))
    refine (fe_ife x3).trans ?_
    by_cases h2 : (expand L).length % 2 = 0
    · rw [decide_eq_true h2, if_pos h2, if_pos rfl]
      exact fe_con rfl
    · rw [decide_eq_false h2, if_neg h2, if_neg (by decide)]
      exact fe_neg (fe_con rfl)
theorem firsts_pos : ∀ {p : Nat} {L : List (Nat × Nat)}, Fac p L → ∀ x ∈ firsts L, 2 ≤ x ∧ x ≤ val L
  | _, [], _, x, hx => by cases hx
  | _, (q, e) :: L, ⟨_, b, c, f⟩, x, hx => by
    have v := val_pos f
    have d : q ≤ val ((q, e) :: L) := Nat.le_of_dvd (val_pos (p := q) ⟨Nat.le_refl q, b, c, f⟩) (dvd_head c)
    have w : val L ≤ val ((q, e) :: L) := Nat.le_mul_of_pos_left _ (Nat.pow_pos (Nat.lt_of_lt_of_le (by decide) b.1))
    rcases List.mem_cons.mp hx with h | hx
    · subst h
      have := b.1
      exact ⟨by show (2 : Int) ≤ (q : Int); omega, by show (q : Int) ≤ _; omega⟩
    · have := firsts_pos f x hx
      omega
theorem fold_le {q many : Int} (h0 : 0 ≤ many) (hq : 2 ≤ q) : 0 ≤ many / q * (q - 1) ∧ many / q * (q - 1) ≤ many := by
  have d0 : 0 ≤ many / q := Int.ediv_nonneg h0 (by omega)
  refine ⟨Int.mul_nonneg d0 (by omega), ?_⟩
  have e := Int.mul_ediv_add_emod many q
  have r := Int.emod_nonneg many (show q ≠ 0 by omega)
  have : many / q * (q - 1) = q * (many / q) - many / q := by rw [Int.mul_sub, Int.mul_comm, Int.mul_one]
  omega
/-- the unit number -/
theorem unit {L : List (Nat × Nat)} (hL : Fac 2 L) (hv : val L < 2 ^ 20) : feN pd 1000000 5 D (k + 2) 2 [.int (val L : Nat)] σ = some (.int (U L : Nat), σ) := by
  have p := primes (D := D) (σ := σ) (k := k) hL hv
  have ls := len_small hL hv
  have s20 : (2 : Nat) ^ 20 = 1048576 := rfl
  refine feN_rt (d := f2) (by decide) rfl rfl ?_
  refine (sx_nx (sx_asg (fe_var rfl) rfl)).trans ?_
  have src : fe (feN pd 1000000 5 D (k + 1)) (.cons (.sts true (.call 0 (.cons (.var 0) .nil))) .nil) [some (.int (val L : Nat)), some (.int (val L : Nat)), none] σ = some (.tup [.fl ((firsts L).map .int)], σ) := by
    refine fe_cons (fe_sts ((fe_call (fe_cons (fe_var rfl) fe_nil)).trans p) ?_) fe_nil
    show (intsOf ((expand L).map .int)).bind _ = _
    rw [intsOf_map]
    simp only [Option.bind_some]
    rw [if_pos (by omega)]
    simp only [if_true]
    rw [dd_expand hL, isort_eq, List.mergeSort_of_pairwise (asc_firsts hL)]
  obtain ⟨ρ', e, ys, many, z, e1, e2, e3, _⟩ := for_inv (wf := 1000000) (t := .nm 2) (kk := .seq) (body := .seq (.asg (.nm 1) (.bin .mul (.bin .fdiv (.var 1) (.var 2)) (.bin .sub (.var 2) (.con (.int 1))))) .nil)
    (I := fun xs ρ => ∃ (ys : List Int) (many : Int) (z : Option PV), xs = ys.map .int ∧ ρ = [some (.int (val L : Nat)), some (.int many), z] ∧ ys.foldl (fun many q => many / q * (q - 1)) many = (U L : Nat) ∧ 0 ≤ many ∧ many < 2 ^ 20 ∧ ∀ y ∈ ys, 2 ≤ y ∧ y < 2 ^ 20)
    src rfl ⟨firsts L, _, _, rfl, rfl, by
      have := unit_fold 1 hL
      rw [Nat.one_mul, Nat.one_mul] at this
      exact this, by omega, by omega, fun y hy => by have := firsts_pos hL y hy; omega⟩ fun x xs ρ ⟨ys, many, z, e1, e2, e3, m0, m1, hy⟩ => by
      cases ys with
      | nil => cases e1
      | cons q ys =>
        rw [List.map_cons, List.cons.injEq] at e1
        obtain ⟨rfl, rfl⟩ := e1
        subst e2
        obtain ⟨q0, q1⟩ := hy q List.mem_cons_self
        obtain ⟨n0, n1⟩ := fold_le (q := q) m0 q0
        have d0 : 0 ≤ many / q := Int.ediv_nonneg m0 (by omega)
        have d1 : many / q ≤ many := Int.ediv_le_self _ m0
        refine ⟨_, _, rfl, (sx_nx (sx_asg (v := .int (many / q * (q - 1))) (fe_bin (fe_bin (fe_var rfl) (fe_var rfl) (pb_fdiv (by omega) (small_of (s := 2 ^ 20) (by omega) (by decide)))) (fe_bin (fe_var rfl) (fe_con rfl) pb_sub) (pb_mul (small_of (s := 2 ^ 20) (by omega) (by decide)) (small_of (s := 2 ^ 20) (by omega) (by decide)))) rfl)).trans sx_nil, ys, many / q * (q - 1), _, rfl, rfl, e3, n0, by omega, fun y hh => hy y (List.mem_cons_of_mem _ hh)⟩
  have y0 : ys = [] := List.map_eq_nil_iff.mp e1.symm
  subst y0
  subst e2
  refine (sx_nx e).trans (sx_rt (sx_ret (fe_var ?_)))
  rw [← e3]
  rfl
theorem S_abs : ∀ L : List (Nat × Nat), (S L).natAbs ≤ 1
  | [] => Nat.le_refl 1
  | (q, e) :: L => by
    show ((if e = 1 then -1 else 0) * S L).natAbs ≤ 1
    have := S_abs L
    rw [Int.natAbs_mul]
    split <;> simp <;> omega
/-- the sum number -/
theorem sumN {L : List (Nat × Nat)} {a : Int} (hL : Fac 2 L) (hv : val L < 2 ^ 20) (ha : a.natAbs < 2 ^ 1000) : feN pd 1000000 5 D (k + 3) 3 [.int (val L : Nat), .int a] σ = some (.int (T a.natAbs L), σ) := by
  have s20 : (2 : Nat) ^ 20 = 1048576 := rfl
  have v1 := val_pos hL
  have g0 : 0 < Nat.gcd (val L) a.natAbs := Nat.gcd_pos_of_pos_left _ v1
  have gl : Nat.gcd (val L) a.natAbs ≤ val L := Nat.le_of_dvd v1 (Nat.gcd_dvd_left _ _)
  have fR := fac_R a.natAbs hL
  have vR := val_div a.natAbs hL
  have lR : val (PN.R a.natAbs L) ≤ val L := vR ▸ Nat.div_le_self _ _
  have u1 := U_pos hL
  have u2 := U_pos fR
  have w1 := val_two hL
  have w2 := val_two fR
  refine feN_rt (d := f3) (by decide) rfl rfl ?_
  have x1 : fe (feN pd 1000000 5 D (k + 2)) (.bin .fdiv (.var 0) (.blt .gcd (.cons (.var 0) (.cons (.var 1) .nil)))) [some (.int (val L : Nat)), some (.int a), none] σ = some (.int (val (PN.R a.natAbs L) : Nat), σ) := by
    refine fe_bin (fe_var rfl) (fe_blt (fe_cons (fe_var rfl) (fe_cons (fe_var rfl) fe_nil)) (pl_gcd (lt1000 (Nat.lt_trans hv (by decide))) ha)) ?_
    have e : Int.gcd (val L : Nat) a = Nat.gcd (val L) a.natAbs := rfl
    rw [e, pb_fdiv (by omega) (lt1000 (Nat.lt_of_le_of_lt gl (Nat.lt_trans hv (by decide)))), ← Int.natCast_ediv, vR]
  refine (sx_nx (sx_asg x1 rfl)).trans (sx_rt (sx_ret ?_))
  refine fe_bin ((fe_call (fe_cons (fe_var rfl) fe_nil)).trans (sign fR (by omega))) (fe_bin ((fe_call (fe_cons (fe_var rfl) fe_nil)).trans (unit hL hv)) ((fe_call (fe_cons (fe_var rfl) fe_nil)).trans (unit fR (by omega))) (pb_fdiv (by omega) (small_of (s := 2 ^ 20) (by omega) (by decide)))) ?_
  have s1 := S_abs (PN.R a.natAbs L)
  have q1 : U L / U (PN.R a.natAbs L) ≤ U L := Nat.div_le_self _ _
  rw [← Int.natCast_ediv, pb_mul (small_of (s := 1) s1 (by decide)) (lt1000 (Nat.lt_of_le_of_lt q1 (Nat.lt_of_le_of_lt w1 (Nat.lt_trans hv (by decide))))), sum_eq _ hL]
end K02
end

section
set_option Elab.async false
set_option linter.all false
set_option maxRecDepth 100000
set_option maxHeartbeats 4000000
open PI PySem PN
namespace K02
abbrev pv (x : Nat × Nat) : PV := .tup [.int (x.1 : Nat), .int (x.2 : Nat)]
abbrev pairs (L : List (Nat × Nat)) : List PV := L.map pv
abbrev bodyI : IS := .seq (.ife (.cmp .eq (.bin .mod (.blt .int (.cons (.var 2) .nil)) (.var 3)) (.con (.int 0))) (.seq (.asg (.tp [2, 4]) (.tup (.cons (.bin .fdiv (.var 2) (.var 3)) (.cons (.bin .add (.var 4) (.con (.int 1))) .nil)))) .nil) .nil) .nil
abbrev bodyO : IS := .seq (.ife (.or (.cmp .le (.bin .mul (.var 3) (.var 3)) (.var 2)) (.cmp .eq (.var 3) (.var 2))) (.seq (.asg (.nm 4) (.con (.int 0))) (.seq (.for_ (.nm 5) .range (.cons (.con (.int 20)) .nil) bodyI) (.seq (.ife (.cmp .gt (.var 4) (.con (.int 0))) (.seq (.ex (.mth .append (.var 1) (.cons (.tup (.cons (.var 3) (.cons (.var 4) .nil))) .nil))) .nil) .nil) .nil))) .nil) .nil
theorem b9_eq : b9 = .seq (.asg (.tp [1, 2]) (.tup (.cons (.lst .nil) (.cons (.var 0) .nil)))) (.seq (.for_ (.nm 3) .range (.cons (.con (.int 2)) (.cons (.con (.int 1001)) .nil)) bodyO) (.seq (.ret (.bin .add (.var 1) (.ife (.cmp .gt (.var 2) (.con (.int 1))) (.lst (.cons (.tup (.cons (.var 2) (.cons (.con (.int 1)) .nil))) .nil)) (.lst .nil)))) .nil)) := rfl
theorem prng_len : ∀ (n : Nat) (a : Int), (prng n a).length = n
  | 0, _ => rfl
  | n + 1, a => by show (prng n (a + 1)).length + 1 = _; rw [prng_len n]
section
variable {F : FP} {wf : Nat} {σ : Sg}
theorem inner {m fd : PV} {p E r : Nat} {y : Option PV} (hp : 2 ≤ p) (hp2 : p ≤ 1000) (hr : ¬p ∣ r) (hE : E ≤ 20) :
    ∃ z, fex F wf (.for_ (.nm 5) .range (.cons (.con (.int 20)) .nil) bodyI) [some m, some fd, some (.int ((p ^ E * r : Nat) : Int)), some (.int (p : Nat)), some (.int 0), y] σ = some (.nx [some m, some fd, some (.int (r : Nat)), some (.int (p : Nat)), some (.int (E : Nat)), z], σ) := by
  obtain ⟨ρ', e, ee, many, z, e1, e2, e3⟩ := for_inv (F := F) (wf := wf) (σ := σ) (t := .nm 5) (kk := .range) (body := bodyI) (src := .cons (.con (.int 20)) .nil) (xs := prng 20 0) (v := .tup [.int 20]) (ρ := [some m, some fd, some (.int ((p ^ E * r : Nat) : Int)), some (.int (p : Nat)), some (.int 0), y])
    (I := fun xs ρ => ∃ (e many : Nat) (z : Option PV), ρ = [some m, some fd, some (.int ((p ^ e * r : Nat) : Int)), some (.int (p : Nat)), some (.int (many : Nat)), z] ∧ e + many = E ∧ e ≤ xs.length)
    (fe_cons (fe_con rfl) fe_nil) (ps_range1 (by decide)) ⟨E, 0, y, rfl, rfl, by rw [prng_len]; exact hE⟩ fun x xs ρ ⟨e, many, z, e2, e3, e4⟩ => by
      subst e2
      have md : fe F (.bin .mod (.blt .int (.cons (.var 2) .nil)) (.var 3)) [some m, some fd, some (.int ((p ^ e * r : Nat) : Int)), some (.int (p : Nat)), some (.int (many : Nat)), some x] σ = some (.int ((p ^ e * r % p : Nat) : Int), σ) :=
        fe_bin (fe_int (fe_var rfl)) (fe_var rfl) (by rw [pb_mod (pos_of hp), Int.natCast_emod])
      have c : fe F (.cmp .eq (.bin .mod (.blt .int (.cons (.var 2) .nil)) (.var 3)) (.con (.int 0))) [some m, some fd, some (.int ((p ^ e * r : Nat) : Int)), some (.int (p : Nat)), some (.int (many : Nat)), some x] σ = some (.bl (decide (p ∣ p ^ e * r)), σ) :=
        fe_cmp md (fe_con rfl) (by
          rw [pc_eq]
          congr 1
          refine decide_eq_decide.mpr ?_
          rw [Nat.dvd_iff_mod_eq_zero]
          omega)
      cases e with
      | zero =>
        rw [decide_eq_false (by rw [Nat.pow_zero, Nat.one_mul]; exact hr)] at c
        exact ⟨_, _, rfl, (sx_nx ((sx_iff c).trans sx_nil)).trans sx_nil, 0, many, _, rfl, e3, Nat.zero_le _⟩
      | succ e =>
        have e5 : p ^ (e + 1) * r = p * (p ^ e * r) := by rw [Nat.pow_succ, Nat.mul_comm (p ^ e) p, Nat.mul_assoc]
        rw [decide_eq_true (e5 ▸ Nat.dvd_mul_right _ _)] at c
        have a1 : fe F (.tup (.cons (.bin .fdiv (.var 2) (.var 3)) (.cons (.bin .add (.var 4) (.con (.int 1))) .nil))) [some m, some fd, some (.int ((p ^ (e + 1) * r : Nat) : Int)), some (.int (p : Nat)), some (.int (many : Nat)), some x] σ = some (.tup [.int ((p ^ e * r : Nat) : Int), .int ((many + 1 : Nat) : Int)], σ) := by
          refine fe_tup (fe_cons (fe_bin (fe_var rfl) (fe_var rfl) ?_) (fe_cons (fe_bin (fe_var rfl) (fe_con rfl) pb_add) fe_nil)) (by simp)
          rw [pb_fdiv (pos_of hp) (lt1000 (Nat.lt_of_le_of_lt hp2 (by decide))), ← Int.natCast_ediv, e5, Nat.mul_div_cancel_left _ (by omega)]
        rw [List.length_cons] at e4
        exact ⟨_, _, rfl, (sx_nx ((sx_ift c).trans ((sx_nx (sx_asg a1 rfl)).trans sx_nil))).trans sx_nil, e, many + 1, _, rfl, by omega, by omega⟩
  have e0 : ee = 0 := by simpa using e3
  subst e0
  subst e1
  refine ⟨z, e.trans ?_⟩
  rw [Nat.pow_zero, Nat.one_mul, show many = E by omega]
/-- the head, if p divides -/
theorem head {p : Nat} {L : List (Nat × Nat)} (f : Fac p L) (hp : 2 ≤ p) (hd : p ∣ val L) : ∃ e M, L = (p, e) :: M ∧ 1 ≤ e ∧ Fac (p + 1) M ∧ ¬p ∣ val M := by
  match L, f with
  | [], _ => exact absurd (Nat.le_of_dvd (by decide) hd) (by show ¬p ≤ 1; omega)
  | (q, e) :: M, ⟨a, b, c, f⟩ =>
    have pq : p = q := by
      rcases Nat.lt_or_ge p q with l | l
      · exact absurd hd (not_dvd (p := q) ⟨Nat.le_refl q, b, c, f⟩ hp l)
      · omega
    subst pq
    exact ⟨e, M, rfl, c, f, not_dvd f hp (by omega)⟩
theorem outer {m : PV} {p : Nat} {pre L : List (Nat × Nat)} {y z : Option PV} (f : Fac p L) (hp : 2 ≤ p) (hp2 : p ≤ 1000) (hv : val L < 2 ^ 20) (hl : pre.length ≤ 1000) :
    ∃ pre' L' y' z', fex F wf bodyO [some m, some (.fl (pairs pre)), some (.int (val L : Nat)), some (.int (p : Nat)), y, z] σ = some (.nx [some m, some (.fl (pairs (pre ++ pre'))), some (.int (val L' : Nat)), some (.int (p : Nat)), y', z'], σ) ∧
      L = pre' ++ L' ∧ Fac (p + 1) L' ∧ pre'.length ≤ 1 := by
  have P : (p : Int).natAbs < 2 ^ 1000 := lt1000 (Nat.lt_of_le_of_lt hp2 (by decide))
  have c1 : fe F (.cmp .le (.bin .mul (.var 3) (.var 3)) (.var 2)) [some m, some (.fl (pairs pre)), some (.int (val L : Nat)), some (.int (p : Nat)), y, z] σ = some (.bl (decide (p * p ≤ val L)), σ) :=
    fe_cmp (fe_bin (fe_var rfl) (fe_var rfl) (pb_mul P P)) (fe_var rfl) (by rw [pc_le, ← Int.natCast_mul]; congr 1; exact decide_eq_decide.mpr (by omega))
  have c2 : fe F (.cmp .eq (.var 3) (.var 2)) [some m, some (.fl (pairs pre)), some (.int (val L : Nat)), some (.int (p : Nat)), y, z] σ = some (.bl (decide (p = val L)), σ) :=
    fe_cmp (fe_var rfl) (fe_var rfl) (by rw [pc_eq]; congr 1; exact decide_eq_decide.mpr (by omega))
  have c3 : fe F (.or (.cmp .le (.bin .mul (.var 3) (.var 3)) (.var 2)) (.cmp .eq (.var 3) (.var 2))) [some m, some (.fl (pairs pre)), some (.int (val L : Nat)), some (.int (p : Nat)), y, z] σ = some (.bl (decide (p * p ≤ val L ∨ p = val L)), σ) := by
    by_cases h : p * p ≤ val L
    · rw [decide_eq_true h] at c1
      rw [fe_or_t c1, decide_eq_true (.inl h)]
    · rw [decide_eq_false h] at c1
      rw [fe_or_f c1, c2]
      congr 2
      simp [h]
  by_cases h : p * p ≤ val L ∨ p = val L
  · rw [decide_eq_true h] at c3
    have go : ∀ (e r : Nat), val L = p ^ e * r → ¬p ∣ r → e ≤ 20 → ∃ y' z', fex F wf bodyO [some m, some (.fl (pairs pre)), some (.int (val L : Nat)), some (.int (p : Nat)), y, z] σ = some (.nx [some m, some (.fl (pairs (pre ++ (if 0 < e then [(p, e)] else [])))), some (.int (r : Nat)), some (.int (p : Nat)), y', z'], σ) := fun e r q nr h20 => by
      obtain ⟨z', i⟩ := inner (F := F) (wf := wf) (σ := σ) (m := m) (fd := .fl (pairs pre)) (y := z) hp hp2 nr h20
      rw [← q] at i
      refine ⟨some (.int (e : Nat)), z', (sx_nx ((sx_ift c3).trans ((sx_nx (sx_asg (fe_con rfl) rfl)).trans ((sx_nx i).trans ?_)))).trans sx_nil⟩
      have c4 : fe F (.cmp .gt (.var 4) (.con (.int 0))) [some m, some (.fl (pairs pre)), some (.int (r : Nat)), some (.int (p : Nat)), some (.int (e : Nat)), z'] σ = some (.bl (decide (0 < e)), σ) :=
        fe_cmp (fe_var rfl) (fe_con rfl) (by rw [pc_gt]; congr 1; exact decide_eq_decide.mpr (by omega))
      by_cases he : 0 < e
      · rw [decide_eq_true he] at c4
        rw [if_pos he]
        refine (sx_nx ((sx_ift c4).trans ((sx_nx (sx_app (xs := pairs pre) (fe_tup (fe_cons (fe_var rfl) (fe_cons (fe_var rfl) fe_nil)) (by simp)) rfl (by rw [List.length_map]; omega))).trans sx_nil))).trans ?_
        rw [show pairs (pre ++ [(p, e)]) = pairs pre ++ [pv (p, e)] from List.map_append]
        rfl
      · rw [decide_eq_false he] at c4
        rw [if_neg he, List.append_nil]
        exact (sx_nx ((sx_iff c4).trans sx_nil)).trans sx_nil
    by_cases hd : p ∣ val L
    · obtain ⟨e, M, rfl, e1, fM, nM⟩ := head f hp hd
      have l20 : e ≤ 20 := by
        have := len_small f hv
        have l : (expand ((p, e) :: M)).length = e + (expand M).length := by
          show (List.replicate e (p : Int) ++ expand M).length = _
          rw [List.length_append, List.length_replicate]
        omega
      obtain ⟨y', z', q⟩ := go e (val M) rfl nM l20
      rw [if_pos (by omega)] at q
      exact ⟨[(p, e)], M, y', z', q, rfl, fM, Nat.le_refl _⟩
    · obtain ⟨y', z', q⟩ := go 0 (val L) (by simp) hd (by omega)
      rw [if_neg (by omega)] at q
      exact ⟨[], L, y', z', q, rfl, raise f hd, Nat.zero_le _⟩
  · rw [decide_eq_false h] at c3
    refine ⟨[], L, y, z, ?_, rfl, raise f fun hd => ?_, Nat.zero_le _⟩
    · rw [List.append_nil]
      exact (sx_nx ((sx_iff c3).trans sx_nil)).trans sx_nil
    · have h1 : ¬p * p ≤ val L := fun z => h (.inl z)
      rcases small f hp (by omega) with q | ⟨q, e⟩
      · subst q
        have : p ≤ 1 := Nat.le_of_dvd (by decide) hd
        omega
      · subst e
        have v : val [(q, 1)] = q := by show q ^ 1 * 1 = q; simp
        rw [v] at hd
        rcases f.2.1.2 p hd with z | z
        · omega
        · exact h (.inr (by rw [v]; exact z))
end
section
variable {D : DF} {σ : Sg} {k : Nat}
abbrev f9 : IDef := ⟨1, 6, b9⟩
theorem val_app : ∀ (a b : List (Nat × Nat)), val (a ++ b) = val a * val b
  | [], b => by simp [val]
  | (q, e) :: a, b => by
    show q ^ e * val (a ++ b) = q ^ e * val a * val b
    rw [val_app a b, Nat.mul_assoc]
theorem val_ge : ∀ {p : Nat} {L : List (Nat × Nat)}, Fac p L → 2 ≤ p → L.length ≤ val L ∧ 1 ≤ val L := fun {p L} f hp => by
  induction L generalizing p with
  | nil => exact ⟨Nat.zero_le _, Nat.le_refl _⟩
  | cons x L ih =>
    obtain ⟨q, e⟩ := x
    obtain ⟨a, b, c, f⟩ := f
    obtain ⟨i1, i2⟩ := ih f (by omega)
    have q2 : 2 ≤ q ^ e := Nat.le_trans b.1 (Nat.le_of_dvd (Nat.pow_pos (Nat.lt_of_lt_of_le (by decide) b.1)) (by obtain ⟨k, rfl⟩ : ∃ k, e = k + 1 := ⟨e - 1, by omega⟩; exact ⟨q ^ k, by rw [Nat.pow_succ, Nat.mul_comm]⟩))
    have : 2 * val L ≤ q ^ e * val L := Nat.mul_le_mul_right _ q2
    show L.length + 1 ≤ q ^ e * val L ∧ 1 ≤ q ^ e * val L
    omega
theorem powers {L : List (Nat × Nat)} (hL : Fac 2 L) (hv : val L ≤ 1000000) : feN pd 1000000 5 D (k + 1) 9 [.int (val L : Nat)] σ = some (.fl (pairs L), σ) := by
  have s20 : (2 : Nat) ^ 20 = 1048576 := rfl
  refine feN_rt (d := f9) (by decide) rfl rfl ?_
  show fex _ _ b9 _ _ = _
  rw [b9_eq]
  refine (sx_nx (sx_asg (v := .tup [.fl [], .int (val L : Nat)]) (fe_tup (fe_cons (fe_lst fe_nil (by decide)) (fe_cons (fe_var rfl) fe_nil)) (by simp)) rfl)).trans ?_
  obtain ⟨ρ', e, n, p, pre, L', x3, x4, x5, e1, e2, e3, e4, e5, e6, e7⟩ := for_inv (F := feN pd 1000000 5 D k) (wf := 1000000) (σ := σ) (t := .nm 3) (kk := .range) (body := bodyO) (src := .cons (.con (.int 2)) (.cons (.con (.int 1001)) .nil)) (xs := prng 999 2) (v := .tup [.int 2, .int 1001]) (ρ := [some (.int (val L : Nat)), some (.fl []), some (.int (val L : Nat)), none, none, none])
    (I := fun xs ρ => ∃ (n p : Nat) (pre L' : List (Nat × Nat)) (x3 x4 x5 : Option PV), xs = prng n p ∧ p + n = 1001 ∧ 2 ≤ p ∧ Fac p L' ∧ L = pre ++ L' ∧ ρ = [some (.int (val L : Nat)), some (.fl (pairs pre)), some (.int (val L' : Nat)), x3, x4, x5] ∧ pre.length + 2 ≤ p)
    (fe_cons (fe_con rfl) (fe_cons (fe_con rfl) fe_nil)) (ps_range2 (by decide) (by decide)) ⟨999, 2, [], L, none, none, none, rfl, rfl, Nat.le_refl 2, hL, rfl, rfl, Nat.le_refl 2⟩ fun x xs ρ ⟨n, p, pre, L', x3, x4, x5, e1, e2, e3, e4, e5, e6, e7⟩ => by
      cases n with
      | zero => cases e1
      | succ n =>
        have e1 : x :: xs = .int (p : Nat) :: prng n ((p : Int) + 1) := e1
        rw [List.cons.injEq] at e1
        obtain ⟨rfl, rfl⟩ := e1
        subst e6
        have vl : val L' ≤ val L := by
          rw [e5, val_app]
          refine Nat.le_mul_of_pos_left _ ?_
          have := val_pos hL
          rw [e5, val_app] at this
          exact Nat.pos_of_mul_pos_right this
        obtain ⟨pre', L2, y', z', q, q1, q2, q3⟩ := outer (F := feN pd 1000000 5 D k) (wf := 1000000) (σ := σ) (m := .int (val L : Nat)) (pre := pre) (y := x4) (z := x5) e4 e3 (by omega) (by omega) (by omega)
        exact ⟨_, _, rfl, q, n, p + 1, pre ++ pre', L2, _, _, _, by rw [Int.natCast_add]; rfl, by omega, by omega, q2, by rw [e5, q1, List.append_assoc], rfl, by rw [List.length_append]; omega⟩
  have n0 : n = 0 := by have := congrArg List.length e1; rw [prng_len] at this; simpa using this.symm
  subst n0
  have p1 : p = 1001 := by omega
  subst p1
  subst e6
  refine (sx_nx e).trans (sx_rt (sx_ret ?_))
  have vl : val L' ≤ val L := by
    rw [e5, val_app]
    refine Nat.le_mul_of_pos_left _ ?_
    have := val_pos hL
    rw [e5, val_app] at this
    exact Nat.pos_of_mul_pos_right this
  have ap : ∀ xs : List PV, xs.length ≤ 1 → pbin .add (.fl (pairs pre)) (.fl xs) = some (.fl (pairs pre ++ xs)) := fun xs h => by
    show (if (pairs pre).length + xs.length ≤ sizeLine then _ else _) = _
    rw [if_pos (by rw [List.length_map]; have : sizeLine = 16777216 := rfl; omega)]
  have c : fe (feN pd 1000000 5 D k) (.cmp .gt (.var 2) (.con (.int 1))) [some (.int (val L : Nat)), some (.fl (pairs pre)), some (.int (val L' : Nat)), x3, x4, x5] σ = some (.bl (decide (1 < val L')), σ) :=
    fe_cmp (fe_var rfl) (fe_con rfl) (by rw [pc_gt]; congr 1; exact decide_eq_decide.mpr (by omega))
  rcases small e4 e3 (by omega) with h | ⟨q, h⟩
  · subst h
    rw [decide_eq_false (by decide)] at c
    refine fe_bin (fe_var rfl) ((fe_ife c).trans ((if_neg (by decide)).trans (fe_lst fe_nil (by decide)))) ((ap [] (by decide)).trans ?_)
    rw [e5]
    simp
  · subst h
    have b := e4.2.1.1
    have v : val [(q, 1)] = q := by show q ^ 1 * 1 = q; simp
    rw [decide_eq_true (by rw [v]; omega)] at c
    refine fe_bin (fe_var rfl) ((fe_ife c).trans ((if_pos rfl).trans (fe_lst (fe_cons (fe_tup (fe_cons (fe_var rfl) (fe_cons (fe_con rfl) fe_nil)) (by simp)) fe_nil) (by simp)))) ((ap _ (by simp)).trans ?_)
    rw [e5, v, show pairs (pre ++ [(q, 1)]) = pairs pre ++ [pv (q, 1)] from List.map_append]
    rfl
end
end K02
end

section
set_option Elab.async false
set_option linter.all false
set_option maxRecDepth 100000
set_option maxHeartbeats 4000000
open PI PySem PN
namespace K02
def big (L : List (Nat × Nat)) : List Int := L.filterMap fun x => if 1 < x.2 then some (x.2 : Int) else none
theorem S_big : ∀ {p : Nat} {L : List (Nat × Nat)}, Fac p L → S L = if big L = [] then (if L.length % 2 = 0 then 1 else -1) else 0
  | _, [], _ => rfl
  | _, (q, e) :: L, ⟨_, b, c, f⟩ => by
    have ih := S_big f
    show (if e = 1 then -1 else 0) * S L = _
    rw [ih]
    by_cases he : 1 < e
    · have x : big ((q, e) :: L) = (e : Int) :: big L := by unfold big; rw [List.filterMap_cons, if_pos he]
      have g : ¬e = 1 := by omega
      rw [x, if_neg g, Int.zero_mul, if_neg (List.cons_ne_nil _ _)]
    · have x : big ((q, e) :: L) = big L := by unfold big; rw [List.filterMap_cons, if_neg he]
      have g : e = 1 := by omega
      rw [x, if_pos g, List.length_cons]
      by_cases hb : big L = []
      · rw [if_pos hb, if_pos hb]
        by_cases hl : L.length % 2 = 0
        · have g2 : ¬(L.length + 1) % 2 = 0 := by omega
          rw [if_pos hl, if_neg g2]; rfl
        · have g2 : (L.length + 1) % 2 = 0 := by omega
          rw [if_neg hl, if_pos g2]; rfl
      · rw [if_neg hb, if_neg hb]; rfl
def gB : PV → Option PV
  | .tup [_, .int e] => if 1 < e then some (.int e) else none
  | _ => none
theorem big_map : ∀ L : List (Nat × Nat), (pairs L).filterMap gB = (big L).map .int
  | [] => rfl
  | (q, e) :: L => by
    have ih := big_map L
    show (pv (q, e) :: pairs L).filterMap gB = _
    have g : gB (pv (q, e)) = if (1 : Int) < (e : Int) then some (.int (e : Int)) else none := rfl
    by_cases he : 1 < e
    · have x : big ((q, e) :: L) = (e : Int) :: big L := by unfold big; rw [List.filterMap_cons, if_pos he]
      have h : (1 : Int) < (e : Int) := by omega
      rw [List.filterMap_cons, g, if_pos h, x, ih]; rfl
    · have x : big ((q, e) :: L) = big L := by unfold big; rw [List.filterMap_cons, if_neg he]
      have h : ¬(1 : Int) < (e : Int) := by omega
      rw [List.filterMap_cons, g, if_neg h, x, ih]
section
variable {D : DF} {σ : Sg} {k : Nat}
abbrev f10 : IDef := ⟨1, 4, b10⟩
abbrev f11 : IDef := ⟨2, 4, b11⟩
abbrev f12 : IDef := ⟨1, 4, b12⟩
abbrev f13 : IDef := ⟨2, 6, b13⟩
theorem len_L {L : List (Nat × Nat)} (hL : Fac 2 L) (hv : val L ≤ 1000000) : L.length ≤ 20 := by
  have s20 : (2 : Nat) ^ 20 = 1048576 := rfl
  have := len_small (s := 20) hL (by omega)
  have := (len_expand hL).1
  omega
theorem lawsign {L : List (Nat × Nat)} (hL : Fac 2 L) (hv : val L ≤ 1000000) : feN pd 1000000 5 D (k + 2) 10 [.int (val L : Nat)] σ = some (.int (S L), σ) := by
  have p := powers (D := D) (σ := σ) (k := k) hL hv
  have ll := len_L hL hv
  refine feN_rt (d := f10) (by decide) rfl rfl ?_
  refine (sx_nx (sx_asg ((fe_call (fe_cons (fe_var rfl) fe_nil)).trans p) rfl)).trans ?_
  have x1 : fe (feN pd 1000000 5 D (k + 1)) (.lc [2, 3] (.tp [2, 3]) .seq (.cons (.var 1) .nil) (.cmp .gt (.var 3) (.con (.int 1))) (.var 3)) [some (.int (val L : Nat)), some (.fl (pairs L)), none, none] σ = some (.fl ((big L).map .int), σ) := by
    rw [fe_lcP (xs := pairs L) (v := .tup [.fl (pairs L)]) gB (fe_cons (fe_var rfl) fe_nil) rfl (by rw [List.length_map]; have : sizeLine = 16777216 := rfl; omega) fun x hx => ?_, big_map]
    obtain ⟨⟨q, e⟩, _, rfl⟩ := List.mem_map.mp hx
    refine ⟨_, rfl, _, _, fe_cmp (fe_var rfl) (fe_con rfl) pc_gt, tr_b, ?_⟩
    have g : gB (pv (q, e)) = if (1 : Int) < (e : Int) then some (.int (e : Int)) else none := rfl
    rw [g]
    by_cases he : (1 : Int) < (e : Int)
    · have d : decide ((1 : Int) < (e : Int)) = true := decide_eq_true he
      show if decide ((1 : Int) < (e : Int)) = true then _ else _
      rw [if_pos d, if_pos he]
      exact ⟨_, fe_var rfl, rfl⟩
    · have d : ¬decide ((1 : Int) < (e : Int)) = true := by rw [decide_eq_false he]; decide
      show if decide ((1 : Int) < (e : Int)) = true then _ else _
      rw [if_neg d, if_neg he]
  have c : fe (feN pd 1000000 5 D (k + 1)) (.cmp .ne (.lc [2, 3] (.tp [2, 3]) .seq (.cons (.var 1) .nil) (.cmp .gt (.var 3) (.con (.int 1))) (.var 3)) (.lst .nil)) [some (.int (val L : Nat)), some (.fl (pairs L)), none, none] σ = some (.bl (!decide (big L = [])), σ) :=
    fe_cmp x1 (fe_lst fe_nil (by decide)) (pc_neF (ys := []))
  rw [S_big hL]
  by_cases h : big L = []
  · rw [decide_eq_true h] at c
    rw [if_pos h]
    refine (sx_nx ((sx_iff c).trans sx_nil)).trans (sx_rt (sx_ret ?_))
    have x2 : fe (feN pd 1000000 5 D (k + 1)) (.blt .len (.cons (.var 1) .nil)) [some (.int (val L : Nat)), some (.fl (pairs L)), none, none] σ = some (.int (L.length : Nat), σ) :=
      fe_blt (fe_cons (fe_var rfl) fe_nil) (by rw [pl_lenF, List.length_map])
    have x3 : fe (feN pd 1000000 5 D (k + 1)) (.cmp .eq (.bin .mod (.blt .int (.cons (.blt .len (.cons (.var 1) .nil)) .nil)) (.con (.int 2))) (.con (.int 0))) [some (.int (val L : Nat)), some (.fl (pairs L)), none, none] σ = some (.bl (decide (L.length % 2 = 0)), σ) :=
      fe_cmp (fe_bin (fe_int x2) (fe_con rfl) (pb_mod (by decide))) (fe_con rfl) (by rw [pc_eq]; congr 1; exact decide_eq_decide.mpr (by omega))
    refine (fe_ife x3).trans ?_
    by_cases h2 : L.length % 2 = 0
    · rw [decide_eq_true h2, if_pos h2, if_pos rfl]
      exact fe_con rfl
    · rw [decide_eq_false h2, if_neg h2, if_neg (by decide)]
      exact fe_neg (fe_con rfl)
  · rw [decide_eq_false h] at c
    rw [if_neg h]
    exact sx_rt ((sx_ift c).trans (sx_rt (sx_ret (fe_con rfl))))
theorem power {p e : Nat} (hp : 1 ≤ p) (h : p ^ e < 2 ^ 100) (hp2 : p < 2 ^ 100) (he : e ≤ 1000) : feN pd 1000000 5 D (k + 1) 11 [.int (p : Nat), .int (e : Nat)] σ = some (.int ((p ^ e : Nat) : Int), σ) := by
  refine feN_rt (d := f11) (by decide) rfl rfl ?_
  refine (sx_nx (sx_asg (fe_con rfl) rfl)).trans ?_
  obtain ⟨ρ', q, i, z, e1, e2⟩ := for_inv (F := feN pd 1000000 5 D k) (wf := 1000000) (σ := σ) (t := .nm 3) (kk := .range) (body := .seq (.asg (.nm 2) (.bin .mul (.var 2) (.var 0))) .nil) (src := .cons (.var 1) .nil) (xs := prng (e : Int).toNat 0) (v := .tup [.int (e : Nat)]) (ρ := [some (.int (p : Nat)), some (.int (e : Nat)), some (.int 1), none])
    (I := fun xs ρ => ∃ (i : Nat) (z : Option PV), xs.length + i = e ∧ ρ = [some (.int (p : Nat)), some (.int (e : Nat)), some (.int ((p ^ i : Nat) : Int)), z])
    (fe_cons (fe_var rfl) fe_nil) (ps_range1 (by rw [Int.natAbs_natCast]; exact Nat.lt_of_le_of_lt he (by decide))) ⟨0, none, by rw [prng_len]; simp, rfl⟩ fun x xs ρ ⟨i, z, e1, e2⟩ => by
      subst e2
      rw [List.length_cons] at e1
      have pl : p ^ i < 2 ^ 100 := Nat.lt_of_le_of_lt (Nat.pow_le_pow_right hp (by omega)) h
      refine ⟨_, _, rfl, (sx_nx (sx_asg (fe_bin (fe_var rfl) (fe_var rfl) (pb_mul (lt1000 pl) (lt1000 hp2))) rfl)).trans sx_nil, i + 1, some x, by omega, ?_⟩
      rw [Nat.pow_succ, Int.natCast_mul]
      rfl
  subst e2
  rw [List.length_nil, Nat.zero_add] at e1
  subst e1
  exact (sx_nx q).trans (sx_rt (sx_ret (fe_var rfl)))
theorem pow_le {q e v : Nat} {M : List (Nat × Nat)} {p : Nat} (b : Pr q) (f : Fac p M) (hv : val ((q, e) :: M) ≤ v) : q ^ (e - 1) ≤ v := by
  have m1 := val_pos f
  have a1 : q ^ (e - 1) ≤ q ^ e := Nat.pow_le_pow_right (by have := b.1; omega) (by omega)
  have a2 : q ^ e * 1 ≤ q ^ e * val M := Nat.mul_le_mul_left _ m1
  have a3 : q ^ e * val M ≤ v := hv
  omega
theorem parts_le {q e v : Nat} {M : List (Nat × Nat)} {p : Nat} (b : Pr q) (c : 1 ≤ e) (f : Fac p M) (hv : val ((q, e) :: M) ≤ v) : q ≤ v ∧ val M ≤ v ∧ e ≤ v := by
  have m1 := val_pos f
  obtain ⟨k, rfl⟩ : ∃ k, e = k + 1 := ⟨e - 1, by omega⟩
  have hv : q ^ (k + 1) * val M ≤ v := hv
  have p0 : 1 ≤ q ^ k := Nat.pow_pos (by have := b.1; omega)
  have a1 : 1 * q ≤ q ^ (k + 1) := by rw [Nat.pow_succ]; exact Nat.mul_le_mul_right _ p0
  have a2 : q ^ (k + 1) * 1 ≤ q ^ (k + 1) * val M := Nat.mul_le_mul_left _ m1
  have a3 : 1 * val M ≤ q ^ (k + 1) * val M := Nat.mul_le_mul_right _ (by have := b.1; omega)
  have a4 : k + 1 < 2 ^ (k + 1) := Nat.lt_two_pow_self
  have a5 : 2 ^ (k + 1) ≤ q ^ (k + 1) := Nat.pow_le_pow_left b.1 _
  omega
theorem U_mul_le {q e c u : Nat} {M : List (Nat × Nat)} {p : Nat} (f : Fac p M) (h : c * U ((q, e) :: M) ≤ u) : c * ((q - 1) * q ^ (e - 1)) ≤ u := by
  have m1 := U_pos f
  have h : c * ((q - 1) * q ^ (e - 1) * U M) ≤ u := h
  rw [← Nat.mul_assoc] at h
  exact Nat.le_trans (Nat.le_mul_of_pos_right _ m1) h
theorem phi {L : List (Nat × Nat)} (hL : Fac 2 L) (hv : val L ≤ 1000000) : feN pd 1000000 5 D (k + 2) 12 [.int (val L : Nat)] σ = some (.int (U L : Nat), σ) := by
  have p := powers (D := D) (σ := σ) (k := k) hL hv
  have uv := val_two hL
  refine feN_rt (d := f12) (by decide) rfl rfl ?_
  refine (sx_nx (sx_asg (fe_con rfl) rfl)).trans ?_
  obtain ⟨ρ', q, ys, c, pp, y, z, e1, e2, e3, _⟩ := for_inv (F := feN pd 1000000 5 D (k + 1)) (wf := 1000000) (σ := σ) (t := .tp [2, 3]) (kk := .seq) (body := .seq (.asg (.nm 1) (.bin .mul (.bin .mul (.var 1) (.bin .sub (.var 2) (.con (.int 1)))) (.call 11 (.cons (.var 2) (.cons (.bin .sub (.var 3) (.con (.int 1))) .nil))))) .nil) (src := .cons (.call 9 (.cons (.var 0) .nil)) .nil) (xs := pairs L) (v := .tup [.fl (pairs L)]) (ρ := [some (.int (val L : Nat)), some (.int 1), none, none])
    (I := fun xs ρ => ∃ (ys : List (Nat × Nat)) (c pp : Nat) (y z : Option PV), xs = pairs ys ∧ ρ = [some (.int (val L : Nat)), some (.int (c : Nat)), y, z] ∧ c * U ys = U L ∧ Fac pp ys ∧ val ys ≤ 1000000)
    (fe_cons ((fe_call (fe_cons (fe_var rfl) fe_nil)).trans p) fe_nil) rfl ⟨L, 1, 2, none, none, rfl, rfl, by rw [Nat.one_mul], hL, hv⟩ fun x xs ρ ⟨ys, c, pp, y, z, e1, e2, e3, e4, e5⟩ => by
      match ys, e1, e3, e4, e5 with
      | [], e1, _, _, _ => cases e1
      | (q, e) :: ys, e1, e3, ⟨a, b, ce, f⟩, e5 =>
        have e1 : x :: xs = pv (q, e) :: pairs ys := e1
        rw [List.cons.injEq] at e1
        obtain ⟨rfl, rfl⟩ := e1
        subst e2
        obtain ⟨l1, l2, l3⟩ := parts_le b ce f e5
        have l4 := pow_le b f e5
        have l5 := U_mul_le (q := q) (e := e) (c := c) (u := 1000000) f (by rw [e3]; omega)
        have q1 := b.1
        have ec : ((e : Int) - 1) = ((e - 1 : Nat) : Int) := by omega
        have l6 : c * (q - 1) ≤ 1000000 := Nat.le_trans (Nat.mul_le_mul_left _ (Nat.le_mul_of_pos_right _ (Nat.pow_pos (by omega)))) l5
        have l7 : c ≤ 1000000 := Nat.le_trans (Nat.le_mul_of_pos_right _ (by omega)) l6
        have e20 : e - 1 ≤ 1000 := by
          have a4 : e - 1 < 2 ^ (e - 1) := Nat.lt_two_pow_self
          have a5 : 2 ^ (e - 1) ≤ q ^ (e - 1) := Nat.pow_le_pow_left b.1 _
          apply Classical.byContradiction
          intro n
          have : 2 ^ 1000 ≤ 2 ^ (e - 1) := Nat.pow_le_pow_right (by decide) (by omega)
          have : 2 ^ 20 ≤ 2 ^ 1000 := Nat.pow_le_pow_right (by decide) (by decide)
          have s20 : (2 : Nat) ^ 20 = 1048576 := rfl
          omega
        refine ⟨_, _, rfl, (sx_nx (sx_asg (v := .int ((c * ((q - 1) * q ^ (e - 1)) : Nat) : Int)) (fe_bin (fe_bin (fe_var rfl) (fe_bin (fe_var rfl) (fe_con rfl) pb_sub) (pb_mul (lt1000 (Nat.lt_of_le_of_lt l7 (by decide))) (small_of (s := 1000000) (by omega) (by decide)))) ((fe_call (fe_cons (fe_var rfl) (fe_cons (fe_bin (fe_var rfl) (fe_con rfl) pb_sub) fe_nil))).trans (by
          rw [ec]
          exact power (by omega) (Nat.lt_of_le_of_lt l4 (by decide)) (Nat.lt_of_le_of_lt l1 (by decide)) e20)) ?_) rfl)).trans sx_nil, ys, c * ((q - 1) * q ^ (e - 1)), q + 1, _, _, rfl, rfl, ?_, f, l2⟩
        · have e6 : ((c : Int) * ((q : Int) - 1)) = ((c * (q - 1) : Nat) : Int) := by rw [Int.natCast_mul]; congr 1; omega
          rw [e6, pb_mul (lt1000 (Nat.lt_of_le_of_lt l6 (by decide))) (lt1000 (Nat.lt_of_le_of_lt l4 (by decide))), ← Int.natCast_mul, Nat.mul_assoc]
        · rw [← e3, Nat.mul_assoc]
          rfl
  have y0 : ys = [] := List.map_eq_nil_iff.mp e1.symm
  subst y0
  subst e2
  refine (sx_nx q).trans (sx_rt (sx_ret (fe_var ?_)))
  rw [← e3]
  show some (some (PV.int ((c : Nat) : Int))) = some (some (.int ((c * 1 : Nat) : Int)))
  rw [Nat.mul_one]
end
end K02
end

section
set_option Elab.async false
set_option linter.all false
set_option maxRecDepth 100000
set_option maxHeartbeats 4000000
open PI PySem PN
namespace K02
variable {D : DF} {σ : Sg} {k : Nat}
def tF (a q e : Nat) : Int := if q ^ e ∣ a then (((q - 1) * q ^ (e - 1) : Nat) : Int) else if q ^ (e - 1) ∣ a then -((q ^ (e - 1) : Nat) : Int) else 0
theorem T_cons {a q e : Nat} {M : List (Nat × Nat)} : T a ((q, e) :: M) = tF a q e * T a M := rfl
theorem tF_abs {a q e : Nat} (hq : 2 ≤ q) : (tF a q e).natAbs ≤ (q - 1) * q ^ (e - 1) := by
  unfold tF
  split
  · rw [Int.natAbs_natCast]; exact Nat.le_refl _
  · split
    · rw [Int.natAbs_neg, Int.natAbs_natCast]
      exact Nat.le_mul_of_pos_left _ (by omega)
    · exact Nat.zero_le _
theorem mod_dvd {a : Int} {n : Nat} : decide (a % (n : Int) = 0) = decide (n ∣ a.natAbs) := by
  refine decide_eq_decide.mpr ?_
  rw [← Int.ofNat_dvd_left]
  exact ⟨Int.dvd_of_emod_eq_zero, Int.emod_eq_zero_of_dvd⟩
theorem e_small {q e v : Nat} (b : 2 ≤ q) (h : q ^ (e - 1) ≤ v) (hv : v ≤ 1000000) : e - 1 ≤ 1000 := by
  have a4 : e - 1 < 2 ^ (e - 1) := Nat.lt_two_pow_self
  have a5 : 2 ^ (e - 1) ≤ q ^ (e - 1) := Nat.pow_le_pow_left b _
  apply Classical.byContradiction
  intro n
  have x1 : 2 ^ 20 ≤ 2 ^ (e - 1) := Nat.pow_le_pow_right (by decide) (by omega)
  have s20 : (2 : Nat) ^ 20 = 1048576 := rfl
  omega
abbrev bodyS : IS := .seq (.asg (.nm 5) (.call 11 (.cons (.var 3) (.cons (.bin .sub (.var 4) (.con (.int 1))) .nil)))) (.seq (.ife (.cmp .eq (.bin .mod (.blt .int (.cons (.var 1) .nil)) (.bin .mul (.var 5) (.var 3))) (.con (.int 0))) (.seq (.asg (.nm 2) (.bin .mul (.bin .mul (.var 2) (.bin .sub (.var 3) (.con (.int 1)))) (.var 5))) .nil) (.seq (.asg (.nm 2) (.bin .mul (.var 2) (.ife (.cmp .eq (.bin .mod (.blt .int (.cons (.var 1) .nil)) (.var 5)) (.con (.int 0))) (.neg (.var 5)) (.con (.int 0))))) .nil)) .nil)
theorem sumStep {m : PV} {a c : Int} {q e : Nat} {z : Option PV} (hq : 2 ≤ q) (hq2 : q ≤ 1000000) (he : 1 ≤ e) (l4 : q ^ (e - 1) ≤ 1000000) (l5 : c.natAbs * ((q - 1) * q ^ (e - 1)) ≤ 1000000) :
    fex (feN pd 1000000 5 D (k + 1)) 1000000 bodyS [some m, some (.int a), some (.int c), some (.int (q : Nat)), some (.int (e : Nat)), z] σ = some (.nx [some m, some (.int a), some (.int (c * tF a.natAbs q e)), some (.int (q : Nat)), some (.int (e : Nat)), some (.int ((q ^ (e - 1) : Nat) : Int))], σ) := by
  have ec : ((e : Int) - 1) = ((e - 1 : Nat) : Int) := by omega
  have qc : ((q : Int) - 1) = ((q - 1 : Nat) : Int) := by omega
  have p0 : 0 < q ^ (e - 1) := Nat.pow_pos (by omega)
  have l6 : c.natAbs * (q - 1) ≤ 1000000 := Nat.le_trans (Nat.mul_le_mul_left _ (Nat.le_mul_of_pos_right _ p0)) l5
  have l7 : c.natAbs ≤ 1000000 := Nat.le_trans (Nat.le_mul_of_pos_right _ (by omega)) l6
  have pe : q ^ (e - 1) * q = q ^ e := by rw [← Nat.pow_succ]; congr 1; omega
  have P4 : ((q ^ (e - 1) : Nat) : Int).natAbs < 2 ^ 1000 := lt1000 (Nat.lt_of_le_of_lt l4 (by decide))
  have Q4 : (q : Int).natAbs < 2 ^ 1000 := lt1000 (Nat.lt_of_le_of_lt hq2 (by decide))
  have x0 : fe (feN pd 1000000 5 D (k + 1)) (.call 11 (.cons (.var 3) (.cons (.bin .sub (.var 4) (.con (.int 1))) .nil))) [some m, some (.int a), some (.int c), some (.int (q : Nat)), some (.int (e : Nat)), z] σ = some (.int ((q ^ (e - 1) : Nat) : Int), σ) := by
    refine (fe_call (fe_cons (fe_var rfl) (fe_cons (fe_bin (fe_var rfl) (fe_con rfl) pb_sub) fe_nil))).trans ?_
    rw [ec]
    exact power (by omega) (Nat.lt_of_le_of_lt l4 (by decide)) (Nat.lt_of_le_of_lt hq2 (by decide)) (e_small hq l4 (Nat.le_refl _))
  refine (sx_nx (sx_asg x0 rfl)).trans ?_
  show fex _ _ _ [some m, some (.int a), some (.int c), some (.int (q : Nat)), some (.int (e : Nat)), some (.int ((q ^ (e - 1) : Nat) : Int))] σ = _
  have c1 : fe (feN pd 1000000 5 D (k + 1)) (.cmp .eq (.bin .mod (.blt .int (.cons (.var 1) .nil)) (.bin .mul (.var 5) (.var 3))) (.con (.int 0))) [some m, some (.int a), some (.int c), some (.int (q : Nat)), some (.int (e : Nat)), some (.int ((q ^ (e - 1) : Nat) : Int))] σ = some (.bl (decide (q ^ e ∣ a.natAbs)), σ) :=
    fe_cmp (fe_bin (fe_int (fe_var rfl)) (fe_bin (fe_var rfl) (fe_var rfl) (pb_mul P4 Q4)) (pb_mod (by rw [← Int.natCast_mul, pe]; have : 0 < q ^ e := Nat.pow_pos (by omega); omega))) (fe_con rfl) (by rw [pc_eq, ← Int.natCast_mul, pe, mod_dvd])
  have c2 : fe (feN pd 1000000 5 D (k + 1)) (.cmp .eq (.bin .mod (.blt .int (.cons (.var 1) .nil)) (.var 5)) (.con (.int 0))) [some m, some (.int a), some (.int c), some (.int (q : Nat)), some (.int (e : Nat)), some (.int ((q ^ (e - 1) : Nat) : Int))] σ = some (.bl (decide (q ^ (e - 1) ∣ a.natAbs)), σ) :=
    fe_cmp (fe_bin (fe_int (fe_var rfl)) (fe_var rfl) (pb_mod (by omega))) (fe_con rfl) (by rw [pc_eq, mod_dvd])
  refine (sx_nx ?_).trans sx_nil
  unfold tF
  by_cases h1 : q ^ e ∣ a.natAbs
  · rw [decide_eq_true h1] at c1
    rw [if_pos h1]
    refine (sx_ift c1).trans ((sx_nx (sx_asg (v := .int (c * (((q - 1) * q ^ (e - 1) : Nat) : Int))) (fe_bin (fe_bin (fe_var rfl) (fe_bin (fe_var rfl) (fe_con rfl) pb_sub) (pb_mul (small_of (s := 1000000) l7 (by decide)) (small_of (s := 1000000) (by omega) (by decide)))) (fe_var rfl) ?_) rfl)).trans sx_nil)
    rw [pb_mul (small_of (s := 1000000) (by rw [Int.natAbs_mul, qc, Int.natAbs_natCast]; exact l6) (by decide)) P4, qc, Int.natCast_mul, Int.mul_assoc]
  · rw [decide_eq_false h1] at c1
    rw [if_neg h1]
    have sm : ∀ t : Int, t.natAbs ≤ 1000000 → pbin .mul (.int c) (.int t) = some (.int (c * t)) := fun t ht => pb_mul (small_of (s := 1000000) l7 (by decide)) (small_of (s := 1000000) ht (by decide))
    by_cases h2 : q ^ (e - 1) ∣ a.natAbs
    · rw [decide_eq_true h2] at c2
      rw [if_pos h2]
      exact (sx_iff c1).trans ((sx_nx (sx_asg (fe_bin (fe_var rfl) ((fe_ife c2).trans ((if_pos rfl).trans (fe_neg (fe_var rfl)))) (sm _ (by rw [Int.natAbs_neg, Int.natAbs_natCast]; exact l4))) rfl)).trans sx_nil)
    · rw [decide_eq_false h2] at c2
      rw [if_neg h2]
      exact (sx_iff c1).trans ((sx_nx (sx_asg (fe_bin (fe_var rfl) ((fe_ife c2).trans ((if_neg (by decide)).trans (fe_con rfl))) (sm 0 (by decide))) rfl)).trans sx_nil)
theorem lawsum {L : List (Nat × Nat)} {a : Int} (hL : Fac 2 L) (hv : val L ≤ 1000000) : feN pd 1000000 5 D (k + 2) 13 [.int (val L : Nat), .int a] σ = some (.int (T a.natAbs L), σ) := by
  have p := powers (D := D) (σ := σ) (k := k) hL hv
  have uv := val_two hL
  refine feN_rt (d := f13) (by decide) rfl rfl ?_
  refine (sx_nx (sx_asg (fe_con rfl) rfl)).trans ?_
  obtain ⟨ρ', q, ys, c, pp, y, z, w, e1, e2, e3, _⟩ := for_inv (F := feN pd 1000000 5 D (k + 1)) (wf := 1000000) (σ := σ) (t := .tp [3, 4]) (kk := .seq) (body := bodyS) (src := .cons (.call 9 (.cons (.var 0) .nil)) .nil) (xs := pairs L) (v := .tup [.fl (pairs L)]) (ρ := [some (.int (val L : Nat)), some (.int a), some (.int 1), none, none, none])
    (I := fun xs ρ => ∃ (ys : List (Nat × Nat)) (c : Int) (pp : Nat) (y z w : Option PV), xs = pairs ys ∧ ρ = [some (.int (val L : Nat)), some (.int a), some (.int c), y, z, w] ∧ c * T a.natAbs ys = T a.natAbs L ∧ Fac pp ys ∧ val ys ≤ 1000000 ∧ c.natAbs * U ys ≤ 1000000)
    (fe_cons ((fe_call (fe_cons (fe_var rfl) fe_nil)).trans p) fe_nil) rfl ⟨L, 1, 2, none, none, none, rfl, rfl, by rw [Int.one_mul], hL, hv, by show 1 * U L ≤ _; omega⟩ fun x xs ρ ⟨ys, c, pp, y, z, w, e1, e2, e3, e4, e5, e6⟩ => by
      match ys, e1, e3, e4, e5, e6 with
      | [], e1, _, _, _, _ => cases e1
      | (q, e) :: ys, e1, e3, ⟨i1, b, ce, f⟩, e5, e6 =>
        have e1 : x :: xs = pv (q, e) :: pairs ys := e1
        rw [List.cons.injEq] at e1
        obtain ⟨rfl, rfl⟩ := e1
        subst e2
        obtain ⟨l1, l2, l3⟩ := parts_le b ce f e5
        have l4 := pow_le b f e5
        have l5 := U_mul_le (q := q) (e := e) (c := c.natAbs) (u := 1000000) f e6
        have e6 : c.natAbs * ((q - 1) * q ^ (e - 1) * U ys) ≤ 1000000 := e6
        refine ⟨_, _, rfl, sumStep (z := w) b.1 l1 ce l4 l5, ys, c * tF a.natAbs q e, q + 1, _, _, _, rfl, rfl, ?_, f, l2, ?_⟩
        · rw [← e3, T_cons, Int.mul_assoc]
        · rw [Int.natAbs_mul]
          refine Nat.le_trans (Nat.mul_le_mul_right _ (Nat.mul_le_mul_left _ (tF_abs b.1))) ?_
          rw [Nat.mul_assoc]
          exact e6
  have y0 : ys = [] := List.map_eq_nil_iff.mp e1.symm
  subst y0
  subst e2
  refine (sx_nx q).trans (sx_rt (sx_ret (fe_var ?_)))
  rw [← e3]
  show some (some (PV.int c)) = some (some (.int (c * 1)))
  rw [Int.mul_one]
end K02
end

section
set_option Elab.async false
set_option linter.all false
set_option maxRecDepth 100000
set_option maxHeartbeats 4000000
open PI PySem PN
namespace K02
variable {D : DF} {σ : Sg} {k : Nat}
/-- so many turns are enough -/
def J : Nat → Int → Int → Prop
  | 0, _, b => b = 0
  | n + 1, a, b => b = 0 ∨ J n b (a.fmod b)
theorem J.up : ∀ {n : Nat} {a b : Int}, J n a b → J (n + 1) a b
  | 0, _, _, h => .inl h
  | n + 1, a, b, h => h.elim .inl fun h => .inr h.up
theorem J.le {n m : Nat} {a b : Int} (h : J n a b) (l : n ≤ m) : J m a b := by
  induction l with
  | refl => exact h
  | step _ ih => exact ih.up
theorem J.neg : ∀ {n : Nat} {a b : Int}, J n a b → J n (-a) (-b)
  | 0, a, b, h => by have h : b = 0 := h; show -b = 0; omega
  | n + 1, a, b, h => h.elim (fun h => .inl (by omega)) fun h => .inr (by rw [Int.neg_fmod_neg]; exact h.neg)
theorem fmod_nat (x y : Nat) : (x : Int).fmod (y : Int) = ((x % y : Nat) : Int) := by rw [Int.fmod_eq_emod_of_nonneg _ (Int.natCast_nonneg y)]; rfl
theorem J.nat : ∀ (j x y : Nat), y < 2 ^ j → J (2 * j) x y
  | 0, x, y, h => by show (y : Int) = 0; rw [Nat.pow_zero] at h; omega
  | j + 1, x, y, h => by
    by_cases hy : y = 0
    · subst hy; exact .inl rfl
    refine .inr ?_
    rw [fmod_nat]
    have r1 : x % y < y := Nat.mod_lt _ (by omega)
    generalize x % y = r at r1
    show J (2 * j + 1) y r
    by_cases hr : r = 0
    · subst hr; exact .inl rfl
    refine .inr ?_
    rw [fmod_nat]
    refine J.nat j r (y % r) ?_
    rw [Nat.pow_succ] at h
    rcases Nat.lt_or_ge y (2 * r) with l | l
    · rw [Nat.mod_eq_sub_mod (by omega), Nat.mod_eq_of_lt (by omega)]
      omega
    · have := Nat.mod_lt y (show 0 < r by omega)
      omega
theorem J.any {m : Nat} (a : Int) (h1 : 1 ≤ m) (h2 : m ≤ 4000) : J 200 m a := by
  have s : (2 : Nat) ^ 13 = 8192 := rfl
  by_cases ha : a = 0
  · exact .inl ha
  refine .inr ?_
  rcases Int.eq_nat_or_neg a with ⟨y, rfl | rfl⟩
  · rw [fmod_nat]
    have : m % y ≤ m := Nat.mod_le _ _
    exact (J.nat 13 y (m % y) (by omega)).le (by decide)
  · have y1 : 1 ≤ y := by omega
    have e : ((m : Int)).fmod (-(y : Int)) = -((-(m : Int)) % (y : Int)) := by
      have := Int.neg_fmod_neg (-(m : Int)) (y : Int)
      rw [Int.neg_neg] at this
      rw [this, Int.fmod_eq_emod_of_nonneg _ (Int.natCast_nonneg y)]
    rw [e]
    have t0 : 0 ≤ (-(m : Int)) % (y : Int) := Int.emod_nonneg _ (by omega)
    have t1 : (-(m : Int)) % (y : Int) < y := Int.emod_lt_of_pos _ (by omega)
    refine J.neg ?_
    rcases Nat.lt_or_ge y 8192 with l | l
    · obtain ⟨t, ht⟩ := Int.eq_ofNat_of_zero_le t0
      rw [ht] at t1 ⊢
      exact (J.nat 13 y t (by omega)).le (by decide)
    · have em : (-(m : Int)) % (y : Int) = ((y - m : Nat) : Int) := by
        have : -(m : Int) = ((y - m : Nat) : Int) + (y : Int) * (-1) := by omega
        rw [this, Int.add_mul_emod_self_left]
        exact Int.emod_eq_of_lt (by omega) (by omega)
      rw [em]
      refine .inr ?_
      rw [fmod_nat]
      have : y % (y - m) = m := by
        rw [Nat.mod_eq_sub_mod (by omega)]
        have : y - (y - m) = m := by omega
        rw [this]
        exact Nat.mod_eq_of_lt (by omega)
      rw [this]
      exact (J.nat 13 (y - m) m (by omega)).le (by decide)
abbrev f7 : IDef := ⟨2, 3, b7⟩
abbrev bodyG : IS := .seq (.ife (.cmp .eq (.var 1) (.con (.int 0))) (.seq (.ret (.blt .abs (.cons (.var 0) .nil))) .nil) .nil) (.seq (.asg (.tp [0, 1]) (.tup (.cons (.var 1) (.cons (.bin .mod (.blt .int (.cons (.var 0) .nil)) (.var 1)) .nil)))) .nil)
theorem pb_fmod {i j : Int} (hj : j ≠ 0) : pbin .mod (.int i) (.int j) = some (.int (i.fmod j)) := by
  show ((if j = 0 then none else some (PV.int (i.fmod j), ([] : IHeap))).map (·.1)) = _
  rw [if_neg hj]
  rfl
theorem gcd_fmod (a b : Int) : Int.gcd b (a.fmod b) = Int.gcd a b := by
  rw [Int.fmod_def, Int.gcd_sub_mul_left_right, Int.gcd_comm]
theorem lawgcd {a b : Int} (h : J 200 a b) : feN pd 1000000 5 D (k + 1) 7 [.int a, .int b] σ = some (.int (Int.gcd a b), σ) := by
  have ab : ∀ {F : FP} {ρ : Env'} {a : Int}, ρ[0]? = some (some (.int a)) → fe F (.blt .abs (.cons (.var 0) .nil)) ρ σ = some (.int (a.natAbs : Nat), σ) := fun {F ρ a} h => fe_blt (fe_cons (fe_var h) fe_nil) (by
    show some (PV.int (if a < 0 then -a else a)) = _
    congr 2
    split <;> omega)
  refine feN_rt (d := f7) (by decide) rfl rfl ?_
  rcases for_ret (F := feN pd 1000000 5 D k) (wf := 1000000) (σ := σ) (t := .nm 2) (kk := .range) (body := bodyG) (src := .cons (.con (.int 200)) .nil) (xs := prng 200 0) (v := .tup [.int 200]) (ρ := [some (.int a), some (.int b), none])
    (I := fun xs ρ => ∃ (x y : Int) (z : Option PV), ρ = [some (.int x), some (.int y), z] ∧ Int.gcd x y = Int.gcd a b ∧ J xs.length x y) (K := fun w => w = .int (Int.gcd a b))
    (fe_cons (fe_con rfl) fe_nil) (ps_range1 (by decide)) ⟨a, b, none, rfl, rfl, by rw [prng_len]; exact h⟩ fun v xs ρ ⟨x, y, z, e1, e2, e3⟩ => by
      subst e1
      refine ⟨_, rfl, ?_⟩
      have c : fe (feN pd 1000000 5 D k) (.cmp .eq (.var 1) (.con (.int 0))) [some (.int x), some (.int y), some v] σ = some (.bl (decide (y = 0)), σ) := fe_cmp (fe_var rfl) (fe_con rfl) pc_eq
      by_cases hy : y = 0
      · rw [decide_eq_true hy] at c
        refine .inr ⟨_, sx_rt ((sx_ift c).trans (sx_rt (sx_ret (ab rfl)))), ?_⟩
        rw [← e2, hy, Int.gcd_zero_right]
      · rw [decide_eq_false hy] at c
        refine .inl ⟨_, (sx_nx ((sx_iff c).trans sx_nil)).trans ((sx_nx (sx_asg (fe_tup (fe_cons (fe_var rfl) (fe_cons (fe_bin (fe_int (fe_var rfl)) (fe_var rfl) (pb_fmod hy)) fe_nil)) (by simp)) rfl)).trans sx_nil), y, x.fmod y, _, rfl, by rw [gcd_fmod, e2], ?_⟩
        rw [List.length_cons] at e3
        exact e3.resolve_left hy with ⟨ρ', e, x, y, z, e1, e2, e3⟩ | ⟨w, e, q⟩
  · subst e1
    have y0 : y = 0 := e3
    refine (sx_nx e).trans (sx_rt (sx_ret ((ab rfl).trans ?_)))
    rw [← e2, y0, Int.gcd_zero_right]
  · exact (sx_rt e).trans (by rw [q])
end K02
end

section
set_option Elab.async false
set_option linter.all false
set_option maxRecDepth 100000
set_option maxHeartbeats 4000000
open PI PySem PN
namespace K02
noncomputable abbrev DD : DF := drawD V1 defs 1000000 5
variable {σ : Sg} {k : Nat}
abbrev f6 : IDef := ⟨2, 2, b6⟩
abbrev f8 : IDef := ⟨1, 2, b8⟩
abbrev f14 : IDef := ⟨1, 4, b14⟩
abbrev f15 : IDef := ⟨2, 4, b15⟩
theorem dr {m : Nat} {many : Int} (V : V1 σ (m + 1)) (h0 : 0 < many) (h1 : many < 1000000000) : ∃ r σ', (∀ k, feN pd 1000000 5 DD (k + 1) 5 [tok, .int many] σ = some (.int r, σ')) ∧ 0 ≤ r ∧ r < many ∧ V1 σ' m := by
  obtain ⟨r, σ', e, r0, r1, V'⟩ := drawD_of (draw1_ok (a := 57) (b := 53) (defs := defs) (wf := 1000000) (iD := 5) ⟨by decide, by decide⟩ ⟨by decide, by decide⟩ rfl V h0 h1) V
  exact ⟨r, σ', fun k => feN_draw e, r0, r1, V'⟩
theorem drE {m i : Nat} {many : Int} {ρ : Env'} {e : IE} (hi : ρ[i]? = some (some tok)) (he : ∀ σ, fe (feN pd 1000000 5 DD (k + 1)) e ρ σ = some (.int many, σ)) (V : V1 σ (m + 1)) (h0 : 0 < many) (h1 : many < 1000000000) :
    ∃ r σ', fe (feN pd 1000000 5 DD (k + 1)) (.call 5 (.cons (.var i) (.cons e .nil))) ρ σ = some (.int r, σ') ∧ 0 ≤ r ∧ r < many ∧ V1 σ' m := by
  obtain ⟨r, σ', q, r0, r1, V'⟩ := dr V h0 h1
  exact ⟨r, σ', (fe_call (fe_cons (fe_var hi) (fe_cons (he σ) fe_nil))).trans (q k), r0, r1, V'⟩
theorem pk {m : Nat} {xs : List Int} (V : V1 σ (m + 1)) (h0 : 0 < xs.length) (h1 : xs.length < 1000000) : ∃ x ∈ xs, ∃ σ', (∀ k, feN pd 1000000 5 DD (k + 2) 6 [tok, .fl (xs.map .int)] σ = some (.int x, σ')) ∧ (∀ k, feN pd 1000000 5 DD (k + 2) 6 [tok, .tup (xs.map .int)] σ = some (.int x, σ')) ∧ V1 σ' m := by
  obtain ⟨r, σ', e, r0, r1, V'⟩ := dr (many := xs.length) V (by omega) (by omega)
  obtain ⟨x, hx, ex⟩ := getAt_ints r0 r1
  refine ⟨x, hx, σ', fun k => feN_rt (d := f6) (by decide) rfl rfl (sx_rt (sx_ret ?_)), fun k => feN_rt (d := f6) (by decide) rfl rfl (sx_rt (sx_ret ?_)), V'⟩
  · have x1 : fe (feN pd 1000000 5 DD (k + 1)) (.call 5 (.cons (.var 0) (.cons (.blt .len (.cons (.var 1) .nil)) .nil))) (start' f6 [tok, .fl (xs.map .int)]) σ = some (.int r, σ') :=
      (fe_call (fe_cons (fe_var rfl) (fe_cons (fe_blt (fe_cons (fe_var rfl) fe_nil) (by rw [pl_lenF, List.length_map])) fe_nil))).trans (e k)
    show (fe _ (.var 1) _ σ).bind _ = _
    rw [fe_var (v := .fl (xs.map .int)) rfl]
    simp only [Option.bind_some]
    rw [x1]
    simp only [Option.bind_some, idxop, ex]
  · have x1 : fe (feN pd 1000000 5 DD (k + 1)) (.call 5 (.cons (.var 0) (.cons (.blt .len (.cons (.var 1) .nil)) .nil))) (start' f6 [tok, .tup (xs.map .int)]) σ = some (.int r, σ') :=
      (fe_call (fe_cons (fe_var rfl) (fe_cons (fe_blt (fe_cons (fe_var rfl) fe_nil) (by rw [pl_lenT, List.length_map])) fe_nil))).trans (e k)
    show (fe _ (.var 1) _ σ).bind _ = _
    rw [fe_var (v := .tup (xs.map .int)) rfl]
    simp only [Option.bind_some]
    rw [x1]
    simp only [Option.bind_some, idxop, ex]
/-- the divisors -/
def dvs (n : Nat) : List Int := ((List.range n).map fun i : Nat => (1 : Int) + (i : Int)).filter fun d => decide ((n : Int) % d = 0)
theorem mem_dvs {n : Nat} {d : Int} (h : d ∈ dvs n) : 1 ≤ d ∧ d ≤ n ∧ (n : Int) % d = 0 := by
  unfold dvs at h
  obtain ⟨h1, h2⟩ := List.mem_filter.mp h
  obtain ⟨i, hi, rfl⟩ := List.mem_map.mp h1
  have := List.mem_range.mp hi
  exact ⟨by omega, by omega, of_decide_eq_true h2⟩
theorem len_dvs (n : Nat) : (dvs n).length ≤ n := by
  unfold dvs
  refine Nat.le_trans (List.length_filter_le _ _) ?_
  simp
theorem dvs_pos {n : Nat} (h : 1 ≤ n) : 0 < (dvs n).length := by
  refine List.length_pos_of_mem (a := 1) ?_
  unfold dvs
  refine List.mem_filter.mpr ⟨List.mem_map.mpr ⟨0, List.mem_range.mpr h, rfl⟩, decide_eq_true (Int.emod_one _)⟩
theorem divs {D : DF} {n : Nat} (h : n ≤ 2000) : feN pd 1000000 5 D (k + 1) 8 [.int (n : Nat)] σ = some (.fl ((dvs n).map .int), σ) := by
  refine feN_rt (d := f8) (by decide) rfl rfl (sx_rt (sx_ret ?_))
  have pr : prng ((n : Int) + 1 - 1).toNat 1 = ((List.range n).map fun i : Nat => (1 : Int) + (i : Int)).map .int := by
    rw [show ((n : Int) + 1 - 1).toNat = n by omega, prng_ints]
  rw [lc_ints (σ := σ) (v := .tup [.int 1, .int ((n : Int) + 1)]) (xs := (List.range n).map fun i : Nat => (1 : Int) + (i : Int)) (fun d => decide ((n : Int) % d = 0)) (fun d => .int d) (by rw [List.length_map, List.length_range]; omega) (fe_cons (fe_con rfl) (fe_cons (fe_bin (fe_var rfl) (fe_con rfl) pb_add) fe_nil)) ((ps_range2 (by decide) (by omega)).trans (congrArg some pr)) fun x hx => ?_]
  · rfl
  · obtain ⟨i, _, rfl⟩ := List.mem_map.mp hx
    exact ⟨fe_cmp (fe_bin (fe_int (fe_var rfl)) (fe_var rfl) (pb_mod (by omega))) (fe_con rfl) pc_eq, fun _ => fe_var rfl⟩
abbrev pks : IE := .tup (.cons (.con (.int 2)) (.cons (.con (.int 3)) (.cons (.con (.int 2)) (.cons (.con (.int 5)) (.cons (.con (.int 7)) (.cons (.con (.int 2)) (.cons (.con (.int 3)) (.cons (.con (.int 11)) (.cons (.con (.int 13)) (.cons (.con (.int 31)) (.cons (.con (.int 43)) .nil)))))))))))
abbrev bodyN : IS := .seq (.asg (.nm 3) (.call 6 (.cons (.var 0) (.cons pks .nil)))) (.seq (.ife (.cmp .le (.bin .mul (.var 1) (.var 3)) (.con (.int 2000))) (.seq (.asg (.nm 1) (.bin .mul (.var 1) (.var 3))) .nil) .nil) .nil)
theorem number {m : Nat} (V : V1 σ (m + 6)) : ∃ (n : Nat) (σ' : Sg), 1 ≤ n ∧ n ≤ 2000 ∧ feN pd 1000000 5 DD (k + 3) 14 [tok] σ = some (.int (n : Nat), σ') ∧ V1 σ' m := by
  obtain ⟨r, σ1, e1, r0, r1, V1'⟩ := drE (k := k + 1) (m := m + 5) (i := 0) (many := 2) (ρ := [some tok, none, none, none]) (e := .con (.int 2)) rfl (fun _ => fe_con rfl) V (by decide) (by decide)
  have c := fe_cmp (op := .eq) e1 (fe_con (v := .int 0) rfl) pc_eq
  by_cases hr : r = 0
  · rw [decide_eq_true hr] at c
    obtain ⟨s, σ2, e2, s0, s1, V2'⟩ := drE (k := k + 1) (m := m + 4) (i := 0) (many := 60) (ρ := [some tok, none, none, none]) (e := .con (.int 60)) rfl (fun _ => fe_con rfl) V1' (by decide) (by decide)
    obtain ⟨z, rfl⟩ := Int.eq_ofNat_of_zero_le s0
    refine ⟨1 + z, σ2, by omega, by omega, feN_rt (d := f14) (by decide) rfl rfl (sx_rt ((sx_ift c).trans (sx_rt (sx_ret (fe_bin (fe_con rfl) e2 ?_))))), V2'.mono (by omega)⟩
    rw [pb_add]
    rfl
  · rw [decide_eq_false hr] at c
    rcases for_deck (F := feN pd 1000000 5 DD (k + 2)) (wf := 1000000) (σ := σ1) (σ1 := σ1) (t := .nm 2) (kk := .range) (body := bodyN) (src := .cons (.con (.int 5)) .nil) (xs := prng 5 0) (v := .tup [.int 5]) (ρ := [some tok, some (.int 1), none, none])
      (I := fun xs ρ σ => ∃ (n : Nat) (y z : Option PV), ρ = [some tok, some (.int (n : Nat)), y, z] ∧ 1 ≤ n ∧ n ≤ 2000 ∧ V1 σ (m + xs.length)) (K := fun _ _ => False)
      (fe_cons (fe_con rfl) fe_nil) (ps_range1 (by decide)) ⟨1, none, none, rfl, Nat.le_refl 1, by omega, V1'⟩ (fun x xs ρ σ ⟨n, y, z, e, n1, n2, V⟩ => by
        subst e
        refine ⟨_, rfl, .inl ?_⟩
        rw [List.length_cons] at V
        obtain ⟨p, hp, σ2, _, e2, V2'⟩ := pk (m := m + xs.length) (xs := [2, 3, 2, 5, 7, 2, 3, 11, 13, 31, 43]) V (by decide) (by decide)
        have p2 : 2 ≤ p ∧ p ≤ 43 := by
          simp only [List.mem_cons, List.not_mem_nil, or_false] at hp
          omega
        obtain ⟨q, rfl⟩ := Int.eq_ofNat_of_zero_le (show 0 ≤ p by omega)
        have x1 : fe (feN pd 1000000 5 DD (k + 2)) (.call 6 (.cons (.var 0) (.cons pks .nil))) [some tok, some (.int (n : Nat)), some x, z] σ = some (.int (q : Nat), σ2) :=
          (fe_call (fe_cons (fe_var rfl) (fe_cons (by rfl) fe_nil))).trans (e2 k)
        have mu : fe (feN pd 1000000 5 DD (k + 2)) (.bin .mul (.var 1) (.var 3)) [some tok, some (.int (n : Nat)), some x, some (.int (q : Nat))] σ2 = some (.int ((n * q : Nat) : Int), σ2) :=
          fe_bin (fe_var rfl) (fe_var rfl) (by rw [pb_mul (small_of (s := 2000) (by omega) (by decide)) (small_of (s := 43) (by omega) (by decide)), Int.natCast_mul])
        have c2 : fe (feN pd 1000000 5 DD (k + 2)) (.cmp .le (.bin .mul (.var 1) (.var 3)) (.con (.int 2000))) [some tok, some (.int (n : Nat)), some x, some (.int (q : Nat))] σ2 = some (.bl (decide (n * q ≤ 2000)), σ2) :=
          fe_cmp mu (fe_con rfl) (by rw [pc_le]; congr 1; exact decide_eq_decide.mpr (by omega))
        by_cases hq : n * q ≤ 2000
        · rw [decide_eq_true hq] at c2
          have nq : 1 ≤ n * q := Nat.mul_pos n1 (by omega)
          exact ⟨_, σ2, (sx_nx (sx_asg x1 rfl)).trans ((sx_nx ((sx_ift c2).trans ((sx_nx (sx_asg mu rfl)).trans sx_nil))).trans sx_nil), n * q, _, _, rfl, nq, hq, V2'⟩
        · rw [decide_eq_false hq] at c2
          exact ⟨_, σ2, (sx_nx (sx_asg x1 rfl)).trans ((sx_nx ((sx_iff c2).trans sx_nil)).trans sx_nil), n, _, _, rfl, n1, n2, V2'⟩) with ⟨ρ', σ', e, n, y, z, e1, n1, n2, V'⟩ | ⟨w, σ', _, f⟩
    · subst e1
      exact ⟨n, σ', n1, n2, feN_rt (d := f14) (by decide) rfl rfl ((sx_nx ((sx_iff c).trans sx_nil)).trans ((sx_nx (sx_asg (fe_con rfl) rfl)).trans ((sx_nx e).trans (sx_rt (sx_ret (fe_var rfl)))))), V'⟩
    · exact f.elim
end K02
end

section
set_option Elab.async false
set_option linter.all false
set_option maxRecDepth 100000
set_option maxHeartbeats 4000000
open PI PySem PN
namespace K02
variable {σ : Sg} {k : Nat}
abbrev ten (n : Int) : IE := .bin .pow (.con (.int 10)) (.con (.int n))
theorem pow6 {F : FP} {ρ : Env'} : fe F (ten 6) ρ σ = some (.int 1000000, σ) := rfl
theorem pow12 {F : FP} {ρ : Env'} : fe F (ten 12) ρ σ = some (.int 1000000000000, σ) := rfl
theorem pow30 {F : FP} {ρ : Env'} : fe F (ten 30) ρ σ = some (.int 1000000000000000000000000000000, σ) := rfl
theorem pow29 {F : FP} {ρ : Env'} : fe F (ten 29) ρ σ = some (.int 100000000000000000000000000000, σ) := rfl
abbrev dE (e : IE) : IE := .call 5 (.cons (.var 0) (.cons e .nil))
abbrev E3 : IE := .ife (.cmp .lt (.var 2) (.con (.int 4))) (dE (.con (.int 100))) (.bin .add (.bin .mul (dE (ten 6)) (ten 12)) (dE (ten 6)))
abbrev s4 : IS := .ife (.cmp .isin (.var 2) (.tup (.cons (.con (.int 3)) (.cons (.con (.int 5)) .nil)))) (.seq (.asg (.nm 3) (.bin .mul (.var 3) (.call 6 (.cons (.var 0) (.cons (.call 8 (.cons (.var 1) .nil)) .nil))))) .nil) .nil
abbrev tp5 : IE := .tup (.cons (.bin .sub (ten 30) (.con (.int 1))) (.cons (.var 1) (.cons (ten 29) (.cons (.bin .mul (.var 1) (.var 1)) (.cons (.con (.int 1)) .nil)))))
abbrev s5 : IS := .ife (.cmp .eq (.var 2) (.con (.int 2))) (.seq (.asg (.nm 3) (.call 6 (.cons (.var 0) (.cons tp5 .nil)))) .nil) .nil
abbrev E6 : IE := .ife (.cmp .eq (dE (.con (.int 3))) (.con (.int 0))) (.neg (.var 3)) (.var 3)
theorem b15_eq : b15 = .seq (.asg (.nm 2) (dE (.con (.int 6)))) (.seq (.ife (.cmp .eq (.var 2) (.con (.int 0))) (.seq (.ret (.con (.int 0))) .nil) .nil) (.seq (.asg (.nm 3) E3) (.seq s4 (.seq s5 (.seq (.ret E6) .nil))))) := rfl
theorem e3_ok {m : Nat} {n w : PV} {r : Int} (V : V1 σ (m + 2)) : ∃ (a : Int) (σ' : Sg), fe (feN pd 1000000 5 DD (k + 2)) E3 [some tok, some n, some (.int r), none] σ = some (.int a, σ') ∧ a.natAbs < 2 ^ 70 ∧ V1 σ' m := by
  have c : fe (feN pd 1000000 5 DD (k + 2)) (.cmp .lt (.var 2) (.con (.int 4))) [some tok, some n, some (.int r), none] σ = some (.bl (decide (r < 4)), σ) := fe_cmp (fe_var rfl) (fe_con rfl) pc_lt
  by_cases hr : r < 4
  · rw [decide_eq_true hr] at c
    obtain ⟨s, σ2, e2, s0, s1, V2'⟩ := drE (k := k + 1) (m := m + 1) (i := 0) (many := 100) (ρ := [some tok, some n, some (.int r), none]) (e := .con (.int 100)) rfl (fun _ => fe_con rfl) V (by decide) (by decide)
    exact ⟨s, σ2, (fe_ife c).trans ((if_pos rfl).trans e2), by omega, V2'.mono (by omega)⟩
  · rw [decide_eq_false hr] at c
    obtain ⟨s, σ2, e2, s0, s1, V2'⟩ := drE (k := k + 1) (m := m + 1) (i := 0) (many := 1000000) (ρ := [some tok, some n, some (.int r), none]) (e := ten 6) rfl (fun _ => pow6) V (by decide) (by decide)
    obtain ⟨t, σ3, e3, t0, t1, V3'⟩ := drE (k := k + 1) (m := m) (i := 0) (many := 1000000) (ρ := [some tok, some n, some (.int r), none]) (e := ten 6) rfl (fun _ => pow6) V2' (by decide) (by decide)
    refine ⟨s * 1000000000000 + t, σ3, (fe_ife c).trans ((if_neg (by decide)).trans (fe_bin (fe_bin e2 pow12 (pb_mul (small_of (s := 1000000) (by omega) (by decide)) (small_of (s := 1000000000000) (by decide) (by decide)))) e3 pb_add)), by omega, V3'⟩
theorem s4_ok {m n : Nat} {r a : Int} (h1 : 1 ≤ n) (h2 : n ≤ 2000) (hr : 1 ≤ r ∧ r < 6) (ha : a.natAbs < 2 ^ 70) (V : V1 σ (m + 1)) : ∃ (b : Int) (σ' : Sg), fex (feN pd 1000000 5 DD (k + 2)) 1000000 s4 [some tok, some (.int (n : Nat)), some (.int r), some (.int a)] σ = some (.nx [some tok, some (.int (n : Nat)), some (.int r), some (.int b)], σ') ∧ b.natAbs < 2 ^ 110 ∧ V1 σ' m := by
  have cc : ∃ b : Bool, pcmp .isin (.int r) (.tup [.int 3, .int 5]) = some b := by
    have : r = 1 ∨ r = 2 ∨ r = 3 ∨ r = 4 ∨ r = 5 := by omega
    rcases this with rfl | rfl | rfl | rfl | rfl <;> exact ⟨_, rfl⟩
  obtain ⟨b, hb⟩ := cc
  have c : fe (feN pd 1000000 5 DD (k + 2)) (.cmp .isin (.var 2) (.tup (.cons (.con (.int 3)) (.cons (.con (.int 5)) .nil)))) [some tok, some (.int (n : Nat)), some (.int r), some (.int a)] σ = some (.bl b, σ) :=
    fe_cmp (fe_var rfl) (fe_tup (fe_cons (fe_con rfl) (fe_cons (fe_con rfl) fe_nil)) (by decide)) hb
  cases b with
  | false =>
    refine ⟨a, σ, (sx_iff c).trans sx_nil, Nat.lt_trans ha (by decide), V.mono (by omega)⟩
  | true =>
    obtain ⟨x, hx, σ2, e2, _, V2'⟩ := pk (m := m) (xs := dvs n) V (dvs_pos h1) (Nat.lt_of_le_of_lt (len_dvs n) (by omega))
    obtain ⟨d1, d2, _⟩ := mem_dvs hx
    refine ⟨a * x, σ2, (sx_ift c).trans ((sx_nx (sx_asg (fe_bin (fe_var rfl) ((fe_call (fe_cons (fe_var rfl) (fe_cons ((fe_call (fe_cons (fe_var rfl) fe_nil)).trans (divs h2)) fe_nil))).trans (e2 k)) (pb_mul (Nat.lt_trans ha (Nat.pow_lt_pow_right (by decide) (by decide))) (small_of (s := 2000) (by omega) (by decide)))) rfl)).trans sx_nil), ?_, V2'⟩
    rw [Int.natAbs_mul]
    have : x.natAbs ≤ 2 ^ 11 := by have : (2 : Nat) ^ 11 = 2048 := rfl; omega
    exact Nat.lt_of_lt_of_le (Nat.mul_lt_mul_of_lt_of_le ha this (by decide)) (by decide)
theorem s5_ok {m n : Nat} {r a : Int} (h2 : n ≤ 2000) (ha : a.natAbs < 2 ^ 110) (V : V1 σ (m + 1)) : ∃ (b : Int) (σ' : Sg), fex (feN pd 1000000 5 DD (k + 2)) 1000000 s5 [some tok, some (.int (n : Nat)), some (.int r), some (.int a)] σ = some (.nx [some tok, some (.int (n : Nat)), some (.int r), some (.int b)], σ') ∧ b.natAbs < 2 ^ 110 ∧ V1 σ' m := by
  have c : fe (feN pd 1000000 5 DD (k + 2)) (.cmp .eq (.var 2) (.con (.int 2))) [some tok, some (.int (n : Nat)), some (.int r), some (.int a)] σ = some (.bl (decide (r = 2)), σ) := fe_cmp (fe_var rfl) (fe_con rfl) pc_eq
  by_cases hr : r = 2
  · rw [decide_eq_true hr] at c
    obtain ⟨x, hx, σ2, _, e2, V2'⟩ := pk (m := m) (xs := [1000000000000000000000000000000 - 1, (n : Int), 100000000000000000000000000000, (n : Int) * n, 1]) V (by simp) (by simp)
    have N : (n : Int).natAbs < 2 ^ 1000 := small_of (s := 2000) (by omega) (by decide)
    have tp : fe (feN pd 1000000 5 DD (k + 2)) tp5 [some tok, some (.int (n : Nat)), some (.int r), some (.int a)] σ = some (.tup (([1000000000000000000000000000000 - 1, (n : Int), 100000000000000000000000000000, (n : Int) * n, 1] : List Int).map .int), σ) :=
      fe_tup (fe_cons (fe_bin pow30 (fe_con rfl) pb_sub) (fe_cons (fe_var rfl) (fe_cons pow29 (fe_cons (fe_bin (fe_var rfl) (fe_var rfl) (pb_mul N N)) (fe_cons (fe_con rfl) fe_nil))))) (by simp)
    refine ⟨x, σ2, (sx_ift c).trans ((sx_nx (sx_asg ((fe_call (fe_cons (fe_var rfl) (fe_cons tp fe_nil))).trans (e2 k)) rfl)).trans sx_nil), ?_, V2'⟩
    have nn : n * n ≤ 2000 * 2000 := Nat.mul_le_mul h2 h2
    have nz : ((n : Int) * n) = ((n * n : Nat) : Int) := (Int.natCast_mul n n).symm
    rw [nz] at hx
    have p110 : (2 : Nat) ^ 110 = 1298074214633706907132624082305024 := rfl
    simp only [List.mem_cons, List.not_mem_nil, or_false] at hx
    rcases hx with rfl | rfl | rfl | rfl | rfl <;> omega
  · rw [decide_eq_false hr] at c
    exact ⟨a, σ, (sx_iff c).trans sx_nil, ha, V.mono (by omega)⟩
/-- a drawn integer -/
theorem integer {m n : Nat} (h1 : 1 ≤ n) (h2 : n ≤ 2000) (V : V1 σ (m + 6)) : ∃ (a : Int) (σ' : Sg), feN pd 1000000 5 DD (k + 3) 15 [tok, .int (n : Nat)] σ = some (.int a, σ') ∧ a.natAbs < 2 ^ 110 ∧ V1 σ' m := by
  obtain ⟨r, σ1, e1, r0, r1, V1'⟩ := drE (k := k + 1) (m := m + 5) (i := 0) (many := 6) (ρ := [some tok, some (.int (n : Nat)), none, none]) (e := .con (.int 6)) rfl (fun _ => fe_con rfl) V (by decide) (by decide)
  have c : fe (feN pd 1000000 5 DD (k + 2)) (.cmp .eq (.var 2) (.con (.int 0))) [some tok, some (.int (n : Nat)), some (.int r), none] σ1 = some (.bl (decide (r = 0)), σ1) := fe_cmp (fe_var rfl) (fe_con rfl) pc_eq
  by_cases hr : r = 0
  · rw [decide_eq_true hr] at c
    refine ⟨0, σ1, feN_rt (d := f15) (by decide) rfl rfl ?_, by decide, V1'.mono (by omega)⟩
    show fex _ _ b15 _ _ = _
    rw [b15_eq]
    exact (sx_nx (sx_asg e1 rfl)).trans (sx_rt ((sx_ift c).trans (sx_rt (sx_ret (fe_con rfl)))))
  · rw [decide_eq_false hr] at c
    obtain ⟨a, σ2, q2, a2, V2'⟩ := e3_ok (k := k) (m := m + 3) (n := .int (n : Nat)) (w := .non) (r := r) V1'
    obtain ⟨b, σ3, q3, a3, V3'⟩ := s4_ok (k := k) (m := m + 2) (r := r) h1 h2 (by omega) a2 V2'
    obtain ⟨d, σ4, q4, a4, V4'⟩ := s5_ok (k := k) (m := m + 1) (r := r) h2 a3 V3'
    obtain ⟨s, σ5, q5, s0, s1, V5'⟩ := drE (k := k + 1) (m := m) (i := 0) (many := 3) (ρ := [some tok, some (.int (n : Nat)), some (.int r), some (.int d)]) (e := .con (.int 3)) rfl (fun _ => fe_con rfl) V4' (by decide) (by decide)
    have c5 := fe_cmp (op := .eq) q5 (fe_con (v := .int 0) rfl) pc_eq
    have fin : ∃ z : Int, z.natAbs < 2 ^ 110 ∧ fe (feN pd 1000000 5 DD (k + 2)) E6 [some tok, some (.int (n : Nat)), some (.int r), some (.int d)] σ4 = some (.int z, σ5) := by
      by_cases hs : s = 0
      · rw [decide_eq_true hs] at c5
        exact ⟨-d, by rw [Int.natAbs_neg]; exact a4, (fe_ife c5).trans ((if_pos rfl).trans (fe_neg (fe_var rfl)))⟩
      · rw [decide_eq_false hs] at c5
        exact ⟨d, a4, (fe_ife c5).trans ((if_neg (by decide)).trans (fe_var rfl))⟩
    obtain ⟨z, z1, z2⟩ := fin
    refine ⟨z, σ5, feN_rt (d := f15) (by decide) rfl rfl ?_, z1, V5'⟩
    show fex _ _ b15 _ _ = _
    rw [b15_eq]
    refine (sx_nx (sx_asg e1 rfl)).trans ((sx_nx ((sx_iff c).trans sx_nil)).trans ((sx_nx (sx_asg q2 rfl)).trans ?_))
    exact (sx_nx q3).trans ((sx_nx q4).trans (sx_rt (sx_ret z2)))
end K02
end

section
set_option Elab.async false
set_option linter.all false
set_option maxRecDepth 100000
set_option maxHeartbeats 4000000
open PI PySem PN
namespace K02
variable {D : DF} {σ : Sg} {k : Nat}
abbrev f16 : IDef := ⟨2, 3, b16⟩
theorem repr3 {xs : List Int} (hx : ∀ x ∈ xs, x.natAbs < 10 ^ 12) (hl : xs.length ≤ 1000) : ∃ z, pblt .repr [.tup (xs.map .int)] = some (.str z) := by
  refine ⟨(rowD xs).shown, ?_⟩
  show (if lv (.tup (xs.map .int)) ≤ 5 then (bltop .repr [rowV xs] []).map (·.1) else none) = _
  rw [if_pos (by unfold lv; rw [lv_ints]; decide), repr_row hx hl]
  rfl
theorem ne_same {F : FP} {ρ : Env'} {a b : IE} {w : PV} (ha : fe F a ρ σ = some (w, σ)) (hb : fe F b ρ σ = some (w, σ)) (hz : ∃ z, pblt .repr [w] = some (.str z)) : fe F (.cmp .ne (.blt .repr (.cons a .nil)) (.blt .repr (.cons b .nil))) ρ σ = some (.bl false, σ) := by
  obtain ⟨z, ez⟩ := hz
  refine fe_cmp (fe_blt (fe_cons ha fe_nil) ez) (fe_blt (fe_cons hb fe_nil) ez) ?_
  show (some (decide (z = z))).map (! ·) = _
  simp
theorem eq_same {F : FP} {ρ : Env'} {a b : IE} {w : PV} (ha : fe F a ρ σ = some (w, σ)) (hb : fe F b ρ σ = some (w, σ)) (hz : ∃ z, pblt .repr [w] = some (.str z)) : fe F (.cmp .eq (.blt .repr (.cons a .nil)) (.blt .repr (.cons b .nil))) ρ σ = some (.bl true, σ) := by
  obtain ⟨z, ez⟩ := hz
  refine fe_cmp (fe_blt (fe_cons ha fe_nil) ez) (fe_blt (fe_cons hb fe_nil) ez) ?_
  show some (decide (z = z)) = _
  simp
theorem skip {F : FP} {ρ : Env'} {c : IE} {s r : IS} {wf : Nat} {X : Option (Fl × Sg)} (h : fe F c ρ σ = some (.bl false, σ)) (q : fex F wf r ρ σ = X) : fex F wf (.seq (.ife c s .nil) r) ρ σ = X := (sx_nx ((sx_iff h).trans sx_nil)).trans q
theorem T_abs (a : Nat) : ∀ {p : Nat} {L : List (Nat × Nat)}, Fac p L → (T a L).natAbs ≤ U L
  | _, [], _ => Nat.le_refl 1
  | _, (q, e) :: L, ⟨_, b, c, f⟩ => by
    rw [T_cons, Int.natAbs_mul]
    exact Nat.mul_le_mul (tF_abs b.1) (T_abs a f)
theorem T_same {L : List (Nat × Nat)} {a b : Int} (hL : Fac 2 L) (h : Int.gcd (val L : Nat) a = Int.gcd (val L : Nat) b) : T a.natAbs L = T b.natAbs L := by
  rw [← T_gcd a.natAbs hL, ← T_gcd b.natAbs hL]
  have h : Nat.gcd (val L) a.natAbs = Nat.gcd (val L) b.natAbs := h
  rw [h]
theorem mul3 {t : Int} : pbin .mul (.tup [.int t]) (.int 3) = some (.tup ([t, t, t].map .int)) := rfl
theorem told {L : List (Nat × Nat)} {a : Int} (hL : Fac 2 L) (hv : val L ≤ 4000) (ha : a.natAbs < 2 ^ 200) : feN pd 1000000 5 D (k + 4) 16 [.int (val L : Nat), .int a] σ = some (.bl true, σ) := by
  have v1 := val_pos hL
  have s20 : (2 : Nat) ^ 20 = 1048576 := rfl
  have big : ∀ x : Int, x.natAbs < 2 ^ 220 → x.natAbs < 2 ^ 1000 := fun x h => Nat.lt_trans h (Nat.pow_lt_pow_right (by decide) (by decide))
  have A : a.natAbs < 2 ^ 1000 := big _ (Nat.lt_trans ha (by decide))
  have sA := S_abs L
  have uA := val_two hL
  have tA := T_abs a.natAbs hL
  have r1 : ∃ z, pblt .repr [.tup ([S L, ((U L : Nat) : Int), T a.natAbs L].map .int)] = some (.str z) := repr3 (by
    intro x hx
    simp only [List.mem_cons, List.not_mem_nil, or_false] at hx
    rcases hx with rfl | rfl | rfl <;> omega) (by simp)
  have r2 : ∃ z, pblt .repr [.tup ([T a.natAbs L, T a.natAbs L, T a.natAbs L].map .int)] = some (.str z) := repr3 (by
    intro x hx
    simp only [List.mem_cons, List.not_mem_nil, or_false] at hx
    rcases hx with rfl | rfl | rfl <;> omega) (by simp)
  have q1 : ∀ g : Option PV, fe (feN pd 1000000 5 D (k + 3)) (.tup (.cons (.call 1 (.cons (.var 0) .nil)) (.cons (.call 2 (.cons (.var 0) .nil)) (.cons (.call 3 (.cons (.var 0) (.cons (.var 1) .nil))) .nil)))) [some (.int (val L : Nat)), some (.int a), g] σ = some (.tup ([S L, ((U L : Nat) : Int), T a.natAbs L].map .int), σ) := fun g =>
    fe_tup (fe_cons ((fe_call (fe_cons (fe_var rfl) fe_nil)).trans (sign (k := k + 1) hL (by omega))) (fe_cons ((fe_call (fe_cons (fe_var rfl) fe_nil)).trans (unit (k := k + 1) hL (by omega))) (fe_cons ((fe_call (fe_cons (fe_var rfl) (fe_cons (fe_var rfl) fe_nil))).trans (sumN hL (by omega) A)) fe_nil))) (by simp)
  have q2 : ∀ g : Option PV, fe (feN pd 1000000 5 D (k + 3)) (.tup (.cons (.callK 1 [0] .nil (.cons (.var 0) .nil)) (.cons (.callK 2 [0] .nil (.cons (.var 0) .nil)) (.cons (.callK 3 [1, 0] .nil (.cons (.var 1) (.cons (.var 0) .nil))) .nil)))) [some (.int (val L : Nat)), some (.int a), g] σ = some (.tup ([S L, ((U L : Nat) : Int), T a.natAbs L].map .int), σ) := fun g =>
    fe_tup (fe_cons ((fe_callK fe_nil (fe_cons (fe_var rfl) fe_nil) rfl).trans (sign (k := k + 1) hL (by omega))) (fe_cons ((fe_callK fe_nil (fe_cons (fe_var rfl) fe_nil) rfl).trans (unit (k := k + 1) hL (by omega))) (fe_cons ((fe_callK fe_nil (fe_cons (fe_var rfl) (fe_cons (fe_var rfl) fe_nil)) rfl).trans (sumN hL (by omega) A)) fe_nil))) (by simp)
  have q3 : ∀ g : Option PV, fe (feN pd 1000000 5 D (k + 3)) (.tup (.cons (.call 10 (.cons (.var 0) .nil)) (.cons (.call 12 (.cons (.var 0) .nil)) (.cons (.call 13 (.cons (.var 0) (.cons (.var 1) .nil))) .nil)))) [some (.int (val L : Nat)), some (.int a), g] σ = some (.tup ([S L, ((U L : Nat) : Int), T a.natAbs L].map .int), σ) := fun g =>
    fe_tup (fe_cons ((fe_call (fe_cons (fe_var rfl) fe_nil)).trans (lawsign (k := k + 1) hL (by omega))) (fe_cons ((fe_call (fe_cons (fe_var rfl) fe_nil)).trans (phi (k := k + 1) hL (by omega))) (fe_cons ((fe_call (fe_cons (fe_var rfl) (fe_cons (fe_var rfl) fe_nil))).trans (lawsum (k := k + 1) hL (by omega))) fe_nil))) (by simp)
  have g0 : 0 < Nat.gcd (val L) a.natAbs := Nat.gcd_pos_of_pos_left _ v1
  have gl : Nat.gcd (val L) a.natAbs ≤ val L := Nat.le_of_dvd v1 (Nat.gcd_dvd_left _ _)
  have fR := fac_R a.natAbs hL
  have vR := val_div a.natAbs hL
  have lR : val (PN.R a.natAbs L) ≤ val L := vR ▸ Nat.div_le_self _ _
  have gE : feN pd 1000000 5 D (k + 3) 7 [.int (val L : Nat), .int a] σ = some (.int ((Nat.gcd (val L) a.natAbs : Nat) : Int), σ) := lawgcd (k := k + 2) (J.any a v1 hv)
  refine feN_rt (d := f16) (by decide) rfl rfl ?_
  refine skip (ne_same (q1 none) (q3 none) r1) (skip (ne_same (q2 none) (q3 none) r1) ?_)
  refine (sx_nx (sx_asg ((fe_call (fe_cons (fe_var rfl) (fe_cons (fe_var rfl) fe_nil))).trans gE) rfl)).trans ?_
  have t1 : T ((Nat.gcd (val L) a.natAbs : Nat) : Int).natAbs L = T a.natAbs L := by rw [Int.natAbs_natCast]; exact T_gcd a.natAbs hL
  have t2 : T (-a).natAbs L = T a.natAbs L := by rw [Int.natAbs_neg]
  have x3 : ∃ b : Int, fe (feN pd 1000000 5 D (k + 3)) (.ife (.cmp .gt (.var 1) (.con (.int 0))) (.bin .sub (.var 1) (.var 0)) (.bin .add (.var 1) (.var 0))) [some (.int (val L : Nat)), some (.int a), some (.int ((Nat.gcd (val L) a.natAbs : Nat) : Int))] σ = some (.int b, σ) ∧ T b.natAbs L = T a.natAbs L ∧ b.natAbs < 2 ^ 1000 := by
    have c : fe (feN pd 1000000 5 D (k + 3)) (.cmp .gt (.var 1) (.con (.int 0))) [some (.int (val L : Nat)), some (.int a), some (.int ((Nat.gcd (val L) a.natAbs : Nat) : Int))] σ = some (.bl (decide (0 < a)), σ) := fe_cmp (fe_var rfl) (fe_con rfl) pc_gt
    have two : (2 : Nat) ^ 220 = 2 ^ 200 + (2 ^ 220 - 2 ^ 200) := by decide
    have three : 4000 ≤ (2 : Nat) ^ 220 - 2 ^ 200 := by decide
    by_cases h : 0 < a
    · rw [decide_eq_true h] at c
      exact ⟨a - (val L : Nat), (fe_ife c).trans ((if_pos rfl).trans (fe_bin (fe_var rfl) (fe_var rfl) pb_sub)), T_same hL (by rw [Int.gcd_sub_self_right]), big _ (by omega)⟩
    · rw [decide_eq_false h] at c
      exact ⟨a + (val L : Nat), (fe_ife c).trans ((if_neg (by decide)).trans (fe_bin (fe_var rfl) (fe_var rfl) pb_add)), T_same hL (by rw [Int.gcd_add_self_right]), big _ (by omega)⟩
  obtain ⟨b, x3, tb, bb⟩ := x3
  have y1 : fe (feN pd 1000000 5 D (k + 3)) (.tup (.cons (.call 3 (.cons (.var 0) (.cons (.var 2) .nil))) (.cons (.call 3 (.cons (.var 0) (.cons (.neg (.var 1)) .nil))) (.cons (.call 3 (.cons (.var 0) (.cons (.ife (.cmp .gt (.var 1) (.con (.int 0))) (.bin .sub (.var 1) (.var 0)) (.bin .add (.var 1) (.var 0))) .nil))) .nil)))) [some (.int (val L : Nat)), some (.int a), some (.int ((Nat.gcd (val L) a.natAbs : Nat) : Int))] σ = some (.tup ([T a.natAbs L, T a.natAbs L, T a.natAbs L].map .int), σ) := by
    have z1 := (fe_call (i := 3) (fe_cons (fe_var (F := feN pd 1000000 5 D (k + 3)) (ρ := [some (.int (val L : Nat)), some (.int a), some (.int ((Nat.gcd (val L) a.natAbs : Nat) : Int))]) (σ := σ) (i := 0) rfl) (fe_cons (fe_var (i := 2) rfl) fe_nil))).trans (sumN (k := k) hL (by omega) (big _ (by rw [Int.natAbs_natCast]; exact Nat.lt_of_le_of_lt (Nat.le_trans gl hv) (by decide))))
    have z2 := (fe_call (i := 3) (fe_cons (fe_var (F := feN pd 1000000 5 D (k + 3)) (ρ := [some (.int (val L : Nat)), some (.int a), some (.int ((Nat.gcd (val L) a.natAbs : Nat) : Int))]) (σ := σ) (i := 0) rfl) (fe_cons (fe_neg (fe_var (i := 1) rfl)) fe_nil))).trans (sumN (k := k) (a := -a) hL (by omega) (by rw [Int.natAbs_neg]; exact A))
    have z3 := (fe_call (i := 3) (fe_cons (fe_var (F := feN pd 1000000 5 D (k + 3)) (ρ := [some (.int (val L : Nat)), some (.int a), some (.int ((Nat.gcd (val L) a.natAbs : Nat) : Int))]) (σ := σ) (i := 0) rfl) (fe_cons x3 fe_nil))).trans (sumN (k := k) hL (by omega) bb)
    rw [t1] at z1
    rw [t2] at z2
    rw [tb] at z3
    exact fe_tup (fe_cons z1 (fe_cons z2 (fe_cons z3 fe_nil))) (by simp)
  have y2 : fe (feN pd 1000000 5 D (k + 3)) (.bin .mul (.tup (.cons (.call 13 (.cons (.var 0) (.cons (.var 1) .nil))) .nil)) (.con (.int 3))) [some (.int (val L : Nat)), some (.int a), some (.int ((Nat.gcd (val L) a.natAbs : Nat) : Int))] σ = some (.tup ([T a.natAbs L, T a.natAbs L, T a.natAbs L].map .int), σ) :=
    fe_bin (fe_tup (fe_cons ((fe_call (fe_cons (fe_var rfl) (fe_cons (fe_var rfl) fe_nil))).trans (lawsum (k := k + 1) hL (by omega))) fe_nil) (by simp)) (fe_con rfl) mul3
  refine skip (ne_same y1 y2 r2) ?_
  have md : fe (feN pd 1000000 5 D (k + 3)) (.bin .fdiv (.var 0) (.var 2)) [some (.int (val L : Nat)), some (.int a), some (.int ((Nat.gcd (val L) a.natAbs : Nat) : Int))] σ = some (.int (val (PN.R a.natAbs L) : Nat), σ) :=
    fe_bin (fe_var rfl) (fe_var rfl) (by rw [pb_fdiv (by omega) (lt1000 (Nat.lt_of_le_of_lt (Nat.le_trans gl hv) (by decide))), ← Int.natCast_ediv, vR])
  have uR := val_two fR
  have sR := S_abs (PN.R a.natAbs L)
  have w1 : fe (feN pd 1000000 5 D (k + 3)) (.bin .mul (.call 3 (.cons (.var 0) (.cons (.var 1) .nil))) (.call 2 (.cons (.bin .fdiv (.var 0) (.var 2)) .nil))) [some (.int (val L : Nat)), some (.int a), some (.int ((Nat.gcd (val L) a.natAbs : Nat) : Int))] σ = some (.int (T a.natAbs L * (U (PN.R a.natAbs L) : Nat)), σ) :=
    fe_bin ((fe_call (fe_cons (fe_var rfl) (fe_cons (fe_var rfl) fe_nil))).trans (sumN hL (by omega) A)) ((fe_call (fe_cons md fe_nil)).trans (unit (k := k + 1) fR (by omega))) (pb_mul (small_of (s := 4000) (by omega) (by decide)) (small_of (s := 4000) (by omega) (by decide)))
  have w2 : fe (feN pd 1000000 5 D (k + 3)) (.bin .mul (.call 1 (.cons (.bin .fdiv (.var 0) (.var 2)) .nil)) (.call 2 (.cons (.var 0) .nil))) [some (.int (val L : Nat)), some (.int a), some (.int ((Nat.gcd (val L) a.natAbs : Nat) : Int))] σ = some (.int (S (PN.R a.natAbs L) * (U L : Nat)), σ) :=
    fe_bin ((fe_call (fe_cons md fe_nil)).trans (sign (k := k + 1) fR (by omega))) ((fe_call (fe_cons (fe_var rfl) fe_nil)).trans (unit (k := k + 1) hL (by omega))) (pb_mul (small_of (s := 1) sR (by decide)) (small_of (s := 4000) (by omega) (by decide)))
  refine sx_rt (sx_ret (fe_cmp w1 w2 ?_))
  rw [pc_eq, decide_eq_true]
  rw [U_eq a.natAbs hL, ← S_Q a.natAbs hL, Int.natCast_mul, Int.mul_assoc]
end K02
end

section
set_option Elab.async false
set_option linter.all false
set_option maxRecDepth 100000
set_option maxHeartbeats 0
open PI PySem PN
namespace K02
def muT (r : Nat) : Int := ([0, 1, (-1), (-1), 0, (-1), 1, (-1), 0, 0, 1, (-1), 0, (-1), 1, 1, 0, (-1), 0, (-1), 0, 1, 1, (-1), 0, 0, 1, 0, 0, (-1), (-1), (-1), 0, 1, 1, 1, 0, (-1), 1, 1, 0, (-1), (-1), (-1), 0, 0, 1, (-1), 0, 0, 0, 1, 0, (-1), 0, 1, 0, 1, 1, (-1), 0] : List Int).getD r 0
def phT (r : Nat) : Int := ([0, 1, 1, 2, 2, 4, 2, 6, 4, 6, 4, 10, 4, 12, 6, 8, 8, 16, 6, 18, 8, 12, 10, 22, 8, 20, 12, 18, 12, 28, 8, 30, 16, 20, 16, 24, 12, 36, 18, 24, 16, 40, 12, 42, 20, 24, 22, 46, 16, 42, 20, 32, 24, 52, 18, 40, 24, 36, 28, 58, 16] : List Int).getD r 0
variable {D : DF} {σ : Sg} {k : Nat}
theorem sgn : ∀ (r : Nat), 1 ≤ r → r ≤ 60 → feN pd 1000000 5 D (k + 2) 1 [.int r] σ = some (.int (muT r), σ)
  | 0, h, _ => absurd h (by omega)
  | 1, _, _ => by kernel_rfl
  | 2, _, _ => by kernel_rfl
  | 3, _, _ => by kernel_rfl
  | 4, _, _ => by kernel_rfl
  | 5, _, _ => by kernel_rfl
  | 6, _, _ => by kernel_rfl
  | 7, _, _ => by kernel_rfl
  | 8, _, _ => by kernel_rfl
  | 9, _, _ => by kernel_rfl
  | 10, _, _ => by kernel_rfl
  | 11, _, _ => by kernel_rfl
  | 12, _, _ => by kernel_rfl
  | 13, _, _ => by kernel_rfl
  | 14, _, _ => by kernel_rfl
  | 15, _, _ => by kernel_rfl
  | 16, _, _ => by kernel_rfl
  | 17, _, _ => by kernel_rfl
  | 18, _, _ => by kernel_rfl
  | 19, _, _ => by kernel_rfl
  | 20, _, _ => by kernel_rfl
  | 21, _, _ => by kernel_rfl
  | 22, _, _ => by kernel_rfl
  | 23, _, _ => by kernel_rfl
  | 24, _, _ => by kernel_rfl
  | 25, _, _ => by kernel_rfl
  | 26, _, _ => by kernel_rfl
  | 27, _, _ => by kernel_rfl
  | 28, _, _ => by kernel_rfl
  | 29, _, _ => by kernel_rfl
  | 30, _, _ => by kernel_rfl
  | 31, _, _ => by kernel_rfl
  | 32, _, _ => by kernel_rfl
  | 33, _, _ => by kernel_rfl
  | 34, _, _ => by kernel_rfl
  | 35, _, _ => by kernel_rfl
  | 36, _, _ => by kernel_rfl
  | 37, _, _ => by kernel_rfl
  | 38, _, _ => by kernel_rfl
  | 39, _, _ => by kernel_rfl
  | 40, _, _ => by kernel_rfl
  | 41, _, _ => by kernel_rfl
  | 42, _, _ => by kernel_rfl
  | 43, _, _ => by kernel_rfl
  | 44, _, _ => by kernel_rfl
  | 45, _, _ => by kernel_rfl
  | 46, _, _ => by kernel_rfl
  | 47, _, _ => by kernel_rfl
  | 48, _, _ => by kernel_rfl
  | 49, _, _ => by kernel_rfl
  | 50, _, _ => by kernel_rfl
  | 51, _, _ => by kernel_rfl
  | 52, _, _ => by kernel_rfl
  | 53, _, _ => by kernel_rfl
  | 54, _, _ => by kernel_rfl
  | 55, _, _ => by kernel_rfl
  | 56, _, _ => by kernel_rfl
  | 57, _, _ => by kernel_rfl
  | 58, _, _ => by kernel_rfl
  | 59, _, _ => by kernel_rfl
  | 60, _, _ => by kernel_rfl
  | r + 61, _, h => absurd h (by omega)
theorem unt : ∀ (r : Nat), 1 ≤ r → r ≤ 60 → feN pd 1000000 5 D (k + 2) 2 [.int r] σ = some (.int (phT r), σ)
  | 0, h, _ => absurd h (by omega)
  | 1, _, _ => by kernel_rfl
  | 2, _, _ => by kernel_rfl
  | 3, _, _ => by kernel_rfl
  | 4, _, _ => by kernel_rfl
  | 5, _, _ => by kernel_rfl
  | 6, _, _ => by kernel_rfl
  | 7, _, _ => by kernel_rfl
  | 8, _, _ => by kernel_rfl
  | 9, _, _ => by kernel_rfl
  | 10, _, _ => by kernel_rfl
  | 11, _, _ => by kernel_rfl
  | 12, _, _ => by kernel_rfl
  | 13, _, _ => by kernel_rfl
  | 14, _, _ => by kernel_rfl
  | 15, _, _ => by kernel_rfl
  | 16, _, _ => by kernel_rfl
  | 17, _, _ => by kernel_rfl
  | 18, _, _ => by kernel_rfl
  | 19, _, _ => by kernel_rfl
  | 20, _, _ => by kernel_rfl
  | 21, _, _ => by kernel_rfl
  | 22, _, _ => by kernel_rfl
  | 23, _, _ => by kernel_rfl
  | 24, _, _ => by kernel_rfl
  | 25, _, _ => by kernel_rfl
  | 26, _, _ => by kernel_rfl
  | 27, _, _ => by kernel_rfl
  | 28, _, _ => by kernel_rfl
  | 29, _, _ => by kernel_rfl
  | 30, _, _ => by kernel_rfl
  | 31, _, _ => by kernel_rfl
  | 32, _, _ => by kernel_rfl
  | 33, _, _ => by kernel_rfl
  | 34, _, _ => by kernel_rfl
  | 35, _, _ => by kernel_rfl
  | 36, _, _ => by kernel_rfl
  | 37, _, _ => by kernel_rfl
  | 38, _, _ => by kernel_rfl
  | 39, _, _ => by kernel_rfl
  | 40, _, _ => by kernel_rfl
  | 41, _, _ => by kernel_rfl
  | 42, _, _ => by kernel_rfl
  | 43, _, _ => by kernel_rfl
  | 44, _, _ => by kernel_rfl
  | 45, _, _ => by kernel_rfl
  | 46, _, _ => by kernel_rfl
  | 47, _, _ => by kernel_rfl
  | 48, _, _ => by kernel_rfl
  | 49, _, _ => by kernel_rfl
  | 50, _, _ => by kernel_rfl
  | 51, _, _ => by kernel_rfl
  | 52, _, _ => by kernel_rfl
  | 53, _, _ => by kernel_rfl
  | 54, _, _ => by kernel_rfl
  | 55, _, _ => by kernel_rfl
  | 56, _, _ => by kernel_rfl
  | 57, _, _ => by kernel_rfl
  | 58, _, _ => by kernel_rfl
  | 59, _, _ => by kernel_rfl
  | 60, _, _ => by kernel_rfl
  | r + 61, _, h => absurd h (by omega)
def cS (m g : Nat) : Int := muT (m / g) * (phT m / phT (m / g))
def okS (m : Nat) : Bool := decide (((dvs m).map fun d => phT d.toNat).sum = (m : Int)) && decide (((dvs m).map fun d => muT d.toNat).sum = if m = 1 then 1 else 0)
def okR (m r : Nat) : Bool := decide (((dvs m).map fun d => cS d.toNat (Nat.gcd d.toNat r)).sum = if r = 0 then (m : Int) else 0) &&
  decide ((((dvs m).filter fun d => decide ((r : Int) % d = 0)).map fun d => d * muT (m / d.toNat)).sum = cS m (Nat.gcd m r))
def okM (m : Nat) : Bool := okS m && (List.range m).all (okR m)
theorem m1 : okM 1 = true := by kernel_rfl
theorem m2 : okM 2 = true := by kernel_rfl
theorem m3 : okM 3 = true := by kernel_rfl
theorem m4 : okM 4 = true := by kernel_rfl
theorem m5 : okM 5 = true := by kernel_rfl
theorem m6 : okM 6 = true := by kernel_rfl
theorem m7 : okM 7 = true := by kernel_rfl
theorem m8 : okM 8 = true := by kernel_rfl
theorem m9 : okM 9 = true := by kernel_rfl
theorem m10 : okM 10 = true := by kernel_rfl
theorem m11 : okM 11 = true := by kernel_rfl
theorem m12 : okM 12 = true := by kernel_rfl
theorem m13 : okM 13 = true := by kernel_rfl
theorem m14 : okM 14 = true := by kernel_rfl
theorem m15 : okM 15 = true := by kernel_rfl
theorem m16 : okM 16 = true := by kernel_rfl
theorem m17 : okM 17 = true := by kernel_rfl
theorem m18 : okM 18 = true := by kernel_rfl
theorem m19 : okM 19 = true := by kernel_rfl
theorem m20 : okM 20 = true := by kernel_rfl
theorem m21 : okM 21 = true := by kernel_rfl
theorem m22 : okM 22 = true := by kernel_rfl
theorem m23 : okM 23 = true := by kernel_rfl
theorem m24 : okM 24 = true := by kernel_rfl
theorem m25 : okM 25 = true := by kernel_rfl
theorem m26 : okM 26 = true := by kernel_rfl
theorem m27 : okM 27 = true := by kernel_rfl
theorem m28 : okM 28 = true := by kernel_rfl
theorem m29 : okM 29 = true := by kernel_rfl
theorem m30 : okM 30 = true := by kernel_rfl
theorem m31 : okM 31 = true := by kernel_rfl
theorem m32 : okM 32 = true := by kernel_rfl
theorem m33 : okM 33 = true := by kernel_rfl
theorem m34 : okM 34 = true := by kernel_rfl
theorem m35 : okM 35 = true := by kernel_rfl
theorem m36 : okM 36 = true := by kernel_rfl
theorem m37 : okM 37 = true := by kernel_rfl
theorem m38 : okM 38 = true := by kernel_rfl
theorem m39 : okM 39 = true := by kernel_rfl
theorem m40 : okM 40 = true := by kernel_rfl
theorem m41 : okM 41 = true := by kernel_rfl
theorem m42 : okM 42 = true := by kernel_rfl
theorem m43 : okM 43 = true := by kernel_rfl
theorem m44 : okM 44 = true := by kernel_rfl
theorem m45 : okM 45 = true := by kernel_rfl
theorem m46 : okM 46 = true := by kernel_rfl
theorem m47 : okM 47 = true := by kernel_rfl
theorem m48 : okM 48 = true := by kernel_rfl
theorem m49 : okM 49 = true := by kernel_rfl
theorem m50 : okM 50 = true := by kernel_rfl
theorem m51 : okM 51 = true := by kernel_rfl
theorem m52 : okM 52 = true := by kernel_rfl
theorem m53 : okM 53 = true := by kernel_rfl
theorem m54 : okM 54 = true := by kernel_rfl
theorem m55 : okM 55 = true := by kernel_rfl
theorem m56 : okM 56 = true := by kernel_rfl
theorem m57 : okM 57 = true := by kernel_rfl
theorem m58 : okM 58 = true := by kernel_rfl
theorem m59 : okM 59 = true := by kernel_rfl
theorem m60 : okM 60 = true := by kernel_rfl
theorem okAll : ∀ (r : Nat), 1 ≤ r → r ≤ 60 → okM r = true
  | 0, h, _ => absurd h (by omega)
  | 1, _, _ => m1
  | 2, _, _ => m2
  | 3, _, _ => m3
  | 4, _, _ => m4
  | 5, _, _ => m5
  | 6, _, _ => m6
  | 7, _, _ => m7
  | 8, _, _ => m8
  | 9, _, _ => m9
  | 10, _, _ => m10
  | 11, _, _ => m11
  | 12, _, _ => m12
  | 13, _, _ => m13
  | 14, _, _ => m14
  | 15, _, _ => m15
  | 16, _, _ => m16
  | 17, _, _ => m17
  | 18, _, _ => m18
  | 19, _, _ => m19
  | 20, _, _ => m20
  | 21, _, _ => m21
  | 22, _, _ => m22
  | 23, _, _ => m23
  | 24, _, _ => m24
  | 25, _, _ => m25
  | 26, _, _ => m26
  | 27, _, _ => m27
  | 28, _, _ => m28
  | 29, _, _ => m29
  | 30, _, _ => m30
  | 31, _, _ => m31
  | 32, _, _ => m32
  | 33, _, _ => m33
  | 34, _, _ => m34
  | 35, _, _ => m35
  | 36, _, _ => m36
  | 37, _, _ => m37
  | 38, _, _ => m38
  | 39, _, _ => m39
  | 40, _, _ => m40
  | 41, _, _ => m41
  | 42, _, _ => m42
  | 43, _, _ => m43
  | 44, _, _ => m44
  | 45, _, _ => m45
  | 46, _, _ => m46
  | 47, _, _ => m47
  | 48, _, _ => m48
  | 49, _, _ => m49
  | 50, _, _ => m50
  | 51, _, _ => m51
  | 52, _, _ => m52
  | 53, _, _ => m53
  | 54, _, _ => m54
  | 55, _, _ => m55
  | 56, _, _ => m56
  | 57, _, _ => m57
  | 58, _, _ => m58
  | 59, _, _ => m59
  | 60, _, _ => m60
  | r + 61, _, h => absurd h (by omega)
end K02
end

section
set_option Elab.async false
set_option linter.all false
set_option maxRecDepth 100000
set_option maxHeartbeats 4000000
open PI PySem PN
namespace K02
variable {D : DF} {σ : Sg} {k : Nat}
abbrev f17 : IDef := ⟨2, 5, b17⟩
theorem phT_pos : ∀ (r : Nat), 1 ≤ r → r ≤ 60 → 0 < phT r := by
  intro r h1 h2
  have : ∀ r : Fin 61, 1 ≤ r.val → 0 < phT r.val := by decide
  exact this ⟨r, by omega⟩ h1
theorem phT_lt : ∀ (r : Nat), r ≤ 60 → (phT r).natAbs < 100 ∧ (muT r).natAbs < 100 := by
  intro r h2
  have : ∀ r : Fin 61, (phT r.val).natAbs < 100 ∧ (muT r.val).natAbs < 100 := by decide
  exact this ⟨r, by omega⟩
theorem sumS {m : Nat} {a : Int} (h1 : 1 ≤ m) (h2 : m ≤ 60) (ha : a.natAbs < 2 ^ 100) : feN pd 1000000 5 D (k + 3) 3 [.int m, .int a] σ = some (.int (cS m (Int.gcd m a)), σ) := by
  have g0 : 0 < Int.gcd m a := Int.gcd_pos_of_ne_zero_left _ (by omega)
  have gd : Int.gcd m a ∣ m := by have := Int.gcd_dvd_left (a := (m : Int)) (b := a); exact Int.ofNat_dvd.mp this
  have gl : Int.gcd m a ≤ m := Nat.le_of_dvd h1 gd
  have q1 : 1 ≤ m / Int.gcd m a := Nat.div_pos gl g0
  have q2 : m / Int.gcd m a ≤ 60 := Nat.le_trans (Nat.div_le_self _ _) h2
  have ed : ((m : Int) / (Int.gcd m a : Nat)) = ((m / Int.gcd m a : Nat) : Int) := (Int.natCast_ediv _ _).symm
  have p1 := phT_pos _ q1 q2
  have p2 := phT_lt _ q2
  have p3 := phT_lt _ h2
  refine feN_rt (d := f3) (by decide) rfl rfl ?_
  have x1 : fe (feN pd 1000000 5 D (k + 2)) (.bin .fdiv (.var 0) (.blt .gcd (.cons (.var 0) (.cons (.var 1) .nil)))) [some (.int m), some (.int a), none] σ = some (.int ((m / Int.gcd m a : Nat) : Int), σ) :=
    fe_bin (fe_var rfl) (fe_blt (fe_cons (fe_var rfl) (fe_cons (fe_var rfl) fe_nil)) (pl_gcd (small_of (s := 60) (by omega) (by decide)) (Nat.lt_trans ha (Nat.pow_lt_pow_right (by decide) (by decide))))) (by rw [pb_fdiv (by omega) (small_of (s := 60) (by omega) (by decide)), ed])
  refine (sx_nx (sx_asg x1 rfl)).trans (sx_rt (sx_ret ?_))
  refine fe_bin ((fe_call (fe_cons (fe_var rfl) fe_nil)).trans (sgn _ q1 q2)) (fe_bin ((fe_call (fe_cons (fe_var rfl) fe_nil)).trans (unt _ h1 h2)) ((fe_call (fe_cons (fe_var rfl) fe_nil)).trans (unt _ q1 q2)) (pb_fdiv p1 (small_of (s := 100) (by omega) (by decide)))) ?_
  rw [pb_mul (small_of (s := 100) (by omega) (by decide)) (small_of (s := 100) (Nat.le_trans (Int.natAbs_ediv_le_natAbs _ _) (by omega)) (by decide))]
  rfl
theorem sum_lc {F : FP} {ρ : Env'} {i : Nat} {elt : IE} {xs : List Int} {j : Nat} (g : Int → Int) (hl : xs.length ≤ 1000000) (hj : ρ[j]? = some (some (.fl (xs.map .int)))) (turn : ∀ x ∈ xs, fe F elt ((wipeE ρ [i]).set i (some (.int x))) σ = some (.int (g x), σ)) :
    fe F (.blt .sum (.cons (.lc [i] (.nm i) .seq (.cons (.var j) .nil) (.con (.bl true)) elt) .nil)) ρ σ = some (.int (xs.map g).sum, σ) := by
  refine fe_blt (fe_cons (lc_all (v := .tup [.fl (xs.map .int)]) (xs := xs) (fun x => .int (g x)) hl (fe_cons (fe_var hj) fe_nil) rfl turn) fe_nil) ?_
  rw [show (xs.map fun x => PV.int (g x)) = (xs.map g).map .int by rw [List.map_map]; rfl, pl_sum]
theorem dvs_nat {n : Nat} {d : Int} (h : d ∈ dvs n) : ∃ e : Nat, d = (e : Int) ∧ 1 ≤ e ∧ e ≤ n ∧ e ∣ n := by
  obtain ⟨h1, h2, h3⟩ := mem_dvs h
  obtain ⟨e, rfl⟩ := Int.eq_ofNat_of_zero_le (show 0 ≤ d by omega)
  exact ⟨e, rfl, by omega, by omega, Int.ofNat_dvd.mp (Int.dvd_of_emod_eq_zero h3)⟩
theorem gcd_mod {e n : Nat} {a : Int} (h : e ∣ n) (hn : 1 ≤ n) : Int.gcd (e : Int) a = Nat.gcd e (a % (n : Int)).toNat := by
  have nn := Int.emod_nonneg a (show (n : Int) ≠ 0 by omega)
  have e1 : (((a % (n : Int)).toNat : Nat) : Int) = a % (n : Int) := by omega
  have : Nat.gcd e (a % (n : Int)).toNat = Int.gcd (e : Int) (a % (n : Int)) := by
    rw [← e1]; rfl
  rw [this]
  obtain ⟨c, rfl⟩ := h
  have : a % ((e * c : Nat) : Int) = a - (e : Int) * ((c : Int) * (a / ((e * c : Nat) : Int))) := by
    rw [Int.emod_def, Int.natCast_mul, Int.mul_assoc]
  rw [this, Int.gcd_sub_mul_left_right]
theorem map_congr' {xs : List Int} {f g : Int → Int} (h : ∀ x ∈ xs, f x = g x) : xs.map f = xs.map g := List.map_congr_left h
theorem adds {m : Nat} {a : Int} (h1 : 1 ≤ m) (h2 : m ≤ 60) (ha : a.natAbs < 2 ^ 100) : feN pd 1000000 5 D (k + 4) 17 [.int (m : Nat), .int a] σ = some (.bl true, σ) := by
  have ok := okAll m h1 h2
  unfold okM okS at ok
  simp only [Bool.and_eq_true, decide_eq_true_eq] at ok
  obtain ⟨⟨o1, o2⟩, o3⟩ := ok
  have nn := Int.emod_nonneg a (show (m : Int) ≠ 0 by omega)
  have nl := Int.emod_lt_of_pos a (show (0 : Int) < m by omega)
  have o4 := List.all_eq_true.mp o3 (a % (m : Int)).toNat (List.mem_range.mpr (by omega))
  unfold okR at o4
  simp only [Bool.and_eq_true, decide_eq_true_eq] at o4
  obtain ⟨o4, o5⟩ := o4
  have er : (((a % (m : Int)).toNat : Nat) : Int) = a % (m : Int) := by omega
  have hl : (dvs m).length ≤ 1000000 := Nat.le_trans (len_dvs m) (by omega)
  have su : ∀ c : Option PV, fe (feN pd 1000000 5 D (k + 3)) (.blt .sum (.cons (.lc [3] (.nm 3) .seq (.cons (.var 2) .nil) (.con (.bl true)) (.call 2 (.cons (.var 3) .nil))) .nil)) [some (.int (m : Nat)), some (.int a), some (.fl ((dvs m).map .int)), none, c] σ = some (.int (m : Nat), σ) := fun c => by
    rw [sum_lc (fun d => phT d.toNat) hl rfl fun x hx => ?_, o1]
    obtain ⟨e, rfl, e1, e2, e3⟩ := dvs_nat hx
    exact (fe_call (fe_cons (fe_var rfl) fe_nil)).trans (unt (k := k + 1) e e1 (by omega))
  have ss : ∀ c : Option PV, fe (feN pd 1000000 5 D (k + 3)) (.blt .sum (.cons (.lc [3] (.nm 3) .seq (.cons (.var 2) .nil) (.con (.bl true)) (.call 1 (.cons (.var 3) .nil))) .nil)) [some (.int (m : Nat)), some (.int a), some (.fl ((dvs m).map .int)), none, c] σ = some (.int (if m = 1 then 1 else 0), σ) := fun c => by
    rw [sum_lc (fun d => muT d.toNat) hl rfl fun x hx => ?_, o2]
    obtain ⟨e, rfl, e1, e2, e3⟩ := dvs_nat hx
    exact (fe_call (fe_cons (fe_var rfl) fe_nil)).trans (sgn (k := k + 1) e e1 (by omega))
  have st : ∀ c : Option PV, fe (feN pd 1000000 5 D (k + 3)) (.blt .sum (.cons (.lc [3] (.nm 3) .seq (.cons (.var 2) .nil) (.con (.bl true)) (.call 3 (.cons (.var 3) (.cons (.var 1) .nil)))) .nil)) [some (.int (m : Nat)), some (.int a), some (.fl ((dvs m).map .int)), none, c] σ = some (.int (if (a % (m : Int)).toNat = 0 then (m : Int) else 0), σ) := fun c => by
    rw [sum_lc (fun d => cS d.toNat (Nat.gcd d.toNat (a % (m : Int)).toNat)) hl rfl fun x hx => ?_, o4]
    obtain ⟨e, rfl, e1, e2, e3⟩ := dvs_nat hx
    refine (fe_call (fe_cons (fe_var rfl) (fe_cons (fe_var rfl) fe_nil))).trans ((sumS (k := k) e1 (by omega) ha).trans ?_)
    rw [gcd_mod e3 h1]
    rfl
  have c1 : fe (feN pd 1000000 5 D (k + 3)) (.or (.cmp .ne (.blt .sum (.cons (.lc [3] (.nm 3) .seq (.cons (.var 2) .nil) (.con (.bl true)) (.call 2 (.cons (.var 3) .nil))) .nil)) (.var 0)) (.cmp .ne (.blt .sum (.cons (.lc [3] (.nm 3) .seq (.cons (.var 2) .nil) (.con (.bl true)) (.call 1 (.cons (.var 3) .nil))) .nil)) (.blt .int (.cons (.cmp .eq (.var 0) (.con (.int 1))) .nil)))) [some (.int (m : Nat)), some (.int a), some (.fl ((dvs m).map .int)), none, none] σ = some (.bl false, σ) := by
    have ce : fe (feN pd 1000000 5 D (k + 3)) (.blt .int (.cons (.cmp .eq (.var 0) (.con (.int 1))) .nil)) [some (.int (m : Nat)), some (.int a), some (.fl ((dvs m).map .int)), none, none] σ = some (.int (if m = 1 then 1 else 0), σ) := by
      refine fe_blt (fe_cons (fe_cmp (fe_var rfl) (fe_con rfl) pc_eq) fe_nil) ?_
      show some (PV.int (if decide ((m : Int) = 1) = true then 1 else 0)) = _
      by_cases h : m = 1
      · have g : decide ((m : Int) = 1) = true := decide_eq_true (by omega)
        rw [if_pos g, if_pos h]
      · have g : ¬decide ((m : Int) = 1) = true := by rw [decide_eq_false (show ¬(m : Int) = 1 by omega)]; decide
        rw [if_neg g, if_neg h]
    refine (fe_or_f (fe_cmp (su none) (fe_var rfl) (r := false) ?_)).trans (fe_cmp (ss none) ce ?_)
    · rw [pc_ne]; simp
    · rw [pc_ne]; simp
  have c2 : fe (feN pd 1000000 5 D (k + 3)) (.cmp .ne (.blt .sum (.cons (.lc [3] (.nm 3) .seq (.cons (.var 2) .nil) (.con (.bl true)) (.call 3 (.cons (.var 3) (.cons (.var 1) .nil)))) .nil)) (.ife (.cmp .eq (.bin .mod (.blt .int (.cons (.var 1) .nil)) (.var 0)) (.con (.int 0))) (.var 0) (.con (.int 0)))) [some (.int (m : Nat)), some (.int a), some (.fl ((dvs m).map .int)), none, none] σ = some (.bl false, σ) := by
    have ce : fe (feN pd 1000000 5 D (k + 3)) (.ife (.cmp .eq (.bin .mod (.blt .int (.cons (.var 1) .nil)) (.var 0)) (.con (.int 0))) (.var 0) (.con (.int 0))) [some (.int (m : Nat)), some (.int a), some (.fl ((dvs m).map .int)), none, none] σ = some (.int (if (a % (m : Int)).toNat = 0 then (m : Int) else 0), σ) := by
      have c : fe (feN pd 1000000 5 D (k + 3)) (.cmp .eq (.bin .mod (.blt .int (.cons (.var 1) .nil)) (.var 0)) (.con (.int 0))) [some (.int (m : Nat)), some (.int a), some (.fl ((dvs m).map .int)), none, none] σ = some (.bl (decide (a % (m : Int) = 0)), σ) :=
        fe_cmp (fe_bin (fe_int (fe_var rfl)) (fe_var rfl) (pb_mod (by omega))) (fe_con rfl) pc_eq
      refine (fe_ife c).trans ?_
      by_cases h : a % (m : Int) = 0
      · have g : (a % (m : Int)).toNat = 0 := by omega
        rw [decide_eq_true h, if_pos rfl, if_pos g]
        exact fe_var rfl
      · have g : ¬(a % (m : Int)).toNat = 0 := by omega
        rw [decide_eq_false h, if_neg (by decide), if_neg g]
        exact fe_con rfl
    refine fe_cmp (st none) ce ?_
    rw [pc_ne]; simp
  refine feN_rt (d := f17) (by decide) rfl rfl ?_
  refine (sx_nx (sx_asg ((fe_call (fe_cons (fe_var rfl) fe_nil)).trans (divs (k := k + 2) (by omega))) rfl)).trans ?_
  refine skip c1 (skip c2 ?_)
  have dd : (dvs m).filter (fun d => decide (a % d = 0)) = (dvs m).filter fun d => decide ((((a % (m : Int)).toNat : Nat) : Int) % d = 0) := by
    refine List.filter_congr fun d hd => ?_
    obtain ⟨e, rfl, e1, e2, e3⟩ := dvs_nat hd
    rw [er, Int.emod_emod_of_dvd _ (Int.ofNat_dvd.mpr e3)]
  have x4 : fe (feN pd 1000000 5 D (k + 3)) (.lc [3] (.nm 3) .seq (.cons (.var 2) .nil) (.cmp .eq (.bin .mod (.blt .int (.cons (.var 1) .nil)) (.var 3)) (.con (.int 0))) (.var 3)) [some (.int (m : Nat)), some (.int a), some (.fl ((dvs m).map .int)), none, none] σ = some (.fl (((dvs m).filter fun d => decide ((((a % (m : Int)).toNat : Nat) : Int) % d = 0)).map .int), σ) := by
    rw [lc_ints (v := .tup [.fl ((dvs m).map .int)]) (xs := dvs m) (fun d => decide (a % d = 0)) (fun d => .int d) hl (fe_cons (fe_var rfl) fe_nil) rfl fun x hx => ?_, dd]
    obtain ⟨e, rfl, e1, e2, e3⟩ := dvs_nat hx
    exact ⟨fe_cmp (fe_bin (fe_int (fe_var rfl)) (fe_var rfl) (pb_mod (by omega))) (fe_con rfl) pc_eq, fun _ => fe_var rfl⟩
  refine (sx_nx (sx_asg x4 rfl)).trans (sx_rt (sx_ret ?_))
  refine fe_cmp (sum_lc (fun d => d * muT (m / d.toNat)) (Nat.le_trans (List.length_filter_le _ _) hl) rfl fun x hx => ?_) ((fe_call (fe_cons (fe_var rfl) (fe_cons (fe_var rfl) fe_nil))).trans (sumS (k := k) h1 h2 ha)) ?_
  · obtain ⟨e, rfl, e1, e2, e3⟩ := dvs_nat (List.mem_filter.mp hx).1
    have q1 : 1 ≤ m / e := Nat.div_pos e2 e1
    have q2 : m / e ≤ 60 := Nat.le_trans (Nat.div_le_self _ _) h2
    have p2 := phT_lt _ q2
    refine fe_bin (fe_var rfl) ((fe_call (fe_cons (fe_bin (fe_var rfl) (fe_var rfl) (by rw [pb_fdiv (by omega) (small_of (s := 60) (by omega) (by decide)), ← Int.natCast_ediv])) fe_nil)).trans (sgn (k := k + 1) _ q1 q2)) (pb_mul (small_of (s := 60) (by omega) (by decide)) (small_of (s := 100) (by omega) (by decide)))
  · rw [o5, gcd_mod (Nat.dvd_refl m) h1, pc_eq]
    simp
end K02
end

section
set_option Elab.async false
set_option linter.all false
set_option maxRecDepth 100000
set_option maxHeartbeats 4000000
/-! products of numbers without common divisors -/
namespace PN
def put (q e : Nat) : List (Nat × Nat) → List (Nat × Nat)
  | [] => [(q, e)]
  | (r, f) :: M => if q < r then (q, e) :: (r, f) :: M else (r, f) :: put q e M
theorem put_ok {q e : Nat} (b : Pr q) (c : 1 ≤ e) : ∀ {p : Nat} {M : List (Nat × Nat)}, Fac p M → p ≤ q → (∀ x ∈ M, x.1 ≠ q) → Fac p (put q e M) ∧ val (put q e M) = q ^ e * val M ∧ S (put q e M) = S [(q, e)] * S M ∧ U (put q e M) = U [(q, e)] * U M ∧ ∀ a, T a (put q e M) = T a [(q, e)] * T a M
  | p, [], _, pq, _ => ⟨⟨pq, b, c, trivial⟩, rfl, (Int.mul_one _).symm, (Nat.mul_one _).symm, fun a => (Int.mul_one _).symm⟩
  | p, (r, f) :: M, ⟨x, y, z, w⟩, pq, h => by
    have hr := h (r, f) List.mem_cons_self
    have s1 : S [(q, e)] = if e = 1 then -1 else 0 := Int.mul_one _
    have u1 : U [(q, e)] = (q - 1) * q ^ (e - 1) := Nat.mul_one _
    have t1 : ∀ a, T a [(q, e)] = if q ^ e ∣ a then (((q - 1) * q ^ (e - 1) : Nat) : Int) else if q ^ (e - 1) ∣ a then -((q ^ (e - 1) : Nat) : Int) else 0 := fun a => Int.mul_one _
    unfold put
    by_cases hq : q < r
    · rw [if_pos hq, s1, u1]
      exact ⟨⟨pq, b, c, hq, y, z, w⟩, rfl, rfl, rfl, fun a => by rw [t1]; rfl⟩
    · rw [if_neg hq]
      obtain ⟨i1, i2, i3, i4, i5⟩ := put_ok b c w (by have := hr; simp at this; omega) fun x hx => h x (List.mem_cons_of_mem _ hx)
      refine ⟨⟨x, y, z, i1⟩, ?_, ?_, ?_, fun a => ?_⟩
      · show r ^ f * val (put q e M) = q ^ e * (r ^ f * val M)
        rw [i2, Nat.mul_left_comm]
      · show (if f = 1 then -1 else 0) * S (put q e M) = S [(q, e)] * ((if f = 1 then -1 else 0) * S M)
        rw [i3, Int.mul_left_comm]
      · show (r - 1) * r ^ (f - 1) * U (put q e M) = U [(q, e)] * ((r - 1) * r ^ (f - 1) * U M)
        rw [i4, Nat.mul_left_comm]
      · have g : ∀ N, T a ((r, f) :: N) = T a [(r, f)] * T a N := fun N => by
          have : T a [(r, f)] = if r ^ f ∣ a then (((r - 1) * r ^ (f - 1) : Nat) : Int) else if r ^ (f - 1) ∣ a then -((r ^ (f - 1) : Nat) : Int) else 0 := Int.mul_one _
          rw [this]
          rfl
        rw [g (put q e M), g M, i5, Int.mul_left_comm]
theorem prod_ok : ∀ {p : Nat} {L M : List (Nat × Nat)}, Fac p L → Fac p M → (∀ x ∈ L, ∀ y ∈ M, y.1 ≠ x.1) → ∃ N, Fac p N ∧ val N = val L * val M ∧ S N = S L * S M ∧ U N = U L * U M ∧ ∀ a, T a N = T a L * T a M
  | p, [], M, _, hM, _ => ⟨M, hM, (Nat.one_mul _).symm, (Int.one_mul _).symm, (Nat.one_mul _).symm, fun a => (Int.one_mul _).symm⟩
  | p, (q, e) :: L, M, ⟨x, b, c, f⟩, hM, h => by
    have hq : ∀ y ∈ M, y.1 ≠ q := fun y hy => h (q, e) List.mem_cons_self y hy
    obtain ⟨i1, i2, i3, i4, i5⟩ := put_ok b c hM x hq
    -- the others, put to what is there
    obtain ⟨N, n1, n2, n3, n4, n5⟩ := prod_ok (p := p) (f.weak (by omega)) i1 fun x hx y hy => by
      have mem : ∀ M : List (Nat × Nat), ∀ y ∈ put q e M, y = (q, e) ∨ y ∈ M := fun M => by
        induction M with
        | nil => intro y hy; simpa [put] using hy
        | cons z M ih =>
          obtain ⟨r, g⟩ := z
          intro y hy
          unfold put at hy
          split at hy
          · exact List.mem_cons.mp hy
          · rcases List.mem_cons.mp hy with hy | hy
            · exact .inr (hy ▸ List.mem_cons_self)
            · exact (ih y hy).elim .inl fun z => .inr (List.mem_cons_of_mem _ z)
      rcases mem M y hy with rfl | hy
      · have := (f.ge x hx).1
        show q ≠ x.1
        omega
      · exact h x (List.mem_cons_of_mem _ hx) y hy
    have s1 : S ((q, e) :: L) = S [(q, e)] * S L := by
      have : S [(q, e)] = if e = 1 then -1 else 0 := Int.mul_one _
      rw [this]; rfl
    have u1 : U ((q, e) :: L) = U [(q, e)] * U L := by
      have : U [(q, e)] = (q - 1) * q ^ (e - 1) := Nat.mul_one _
      rw [this]; rfl
    have t1 : ∀ a, T a ((q, e) :: L) = T a [(q, e)] * T a L := fun a => by
      have : T a [(q, e)] = if q ^ e ∣ a then (((q - 1) * q ^ (e - 1) : Nat) : Int) else if q ^ (e - 1) ∣ a then -((q ^ (e - 1) : Nat) : Int) else 0 := Int.mul_one _
      rw [this]; rfl
    refine ⟨N, n1, ?_, ?_, ?_, fun a => ?_⟩
    · rw [n2, i2]
      show val L * (q ^ e * val M) = q ^ e * val L * val M
      rw [Nat.mul_left_comm, Nat.mul_assoc]
    · rw [n3, i3, s1, Int.mul_left_comm, Int.mul_assoc]
    · rw [n4, i4, u1, Nat.mul_left_comm, Nat.mul_assoc]
    · rw [n5, i5, t1, Int.mul_left_comm, Int.mul_assoc]
theorem prod_cop {L M : List (Nat × Nat)} (hL : Fac 2 L) (hM : Fac 2 M) (h : Nat.gcd (val L) (val M) = 1) : ∃ N, Fac 2 N ∧ val N = val L * val M ∧ S N = S L * S M ∧ U N = U L * U M ∧ ∀ a, T a N = T a L * T a M := by
  have dv : ∀ M : List (Nat × Nat), (∀ y ∈ M, 1 ≤ y.2) → ∀ x ∈ M, x.1 ∣ val M := fun M => by
    induction M with
    | nil => intro _ x hx; cases hx
    | cons y M ih =>
      obtain ⟨q, e⟩ := y
      intro h1 x hx
      rcases List.mem_cons.mp hx with rfl | hx
      · exact dvd_head (h1 _ List.mem_cons_self)
      · exact Nat.dvd_trans (ih (fun y hy => h1 y (List.mem_cons_of_mem _ hy)) x hx) (Nat.dvd_mul_left _ _)
  refine prod_ok hL hM fun x hx y hy e => ?_
  have d1 := dv L (fun y hy => (hL.ge y hy).2.2) x hx
  have d2 := dv M (fun y hy => (hM.ge y hy).2.2) y hy
  rw [e] at d2
  have d := Nat.dvd_gcd d1 d2
  rw [h] at d
  have := Nat.le_of_dvd (by decide) d
  have := (hL.ge x hx).1
  omega
end PN
end

section
set_option Elab.async false
set_option linter.all false
set_option maxRecDepth 100000
set_option maxHeartbeats 4000000
open PI PySem PN
namespace K02
variable {D : DF} {σ : Sg} {k : Nat}
abbrev f18 : IDef := ⟨4, 4, b18⟩
theorem mults {m n : Nat} {a b : Int} (m1 : 1 ≤ m) (m2 : m ≤ 40) (n1 : 1 ≤ n) (n2 : n ≤ 40) (a0 : 0 ≤ a) (a1 : a < 1000000000) (b0 : 0 ≤ b) (b1 : b < 1000000000) : feN pd 1000000 5 D (k + 4) 18 [.int (m : Nat), .int (n : Nat), .int a, .int b] σ = some (.bl true, σ) := by
  obtain ⟨L, hL, vL⟩ := fac2 m1
  obtain ⟨M, hM, vM⟩ := fac2 n1
  have s20 : (2 : Nat) ^ 20 = 1048576 := rfl
  have big : ∀ x : Int, x.natAbs < 2 ^ 100 → x.natAbs < 2 ^ 1000 := fun x h => Nat.lt_trans h (Nat.pow_lt_pow_right (by decide) (by decide))
  have c : fe (feN pd 1000000 5 D (k + 3)) (.cmp .ne (.call 7 (.cons (.var 0) (.cons (.var 1) .nil))) (.con (.int 1))) [some (.int (m : Nat)), some (.int (n : Nat)), some (.int a), some (.int b)] σ = some (.bl (!decide (Nat.gcd m n = 1)), σ) := by
    refine fe_cmp ((fe_call (fe_cons (fe_var rfl) (fe_cons (fe_var rfl) fe_nil))).trans (lawgcd (k := k + 2) (J.any _ m1 (by omega)))) (fe_con rfl) ?_
    rw [pc_ne]
    have : Int.gcd (m : Nat) (n : Nat) = Nat.gcd m n := rfl
    rw [this]
    congr 2
    exact decide_eq_decide.mpr (by omega)
  by_cases hg : Nat.gcd m n = 1
  · rw [decide_eq_true hg] at c
    obtain ⟨N, hN, vN, sN, uN, tN⟩ := prod_cop hL hM (by rw [vL, vM]; exact hg)
    have mn : m * n ≤ 1600 := Nat.mul_le_mul m2 n2
    have sL := S_abs L
    have sM := S_abs M
    have uL := val_two hL
    have uM := val_two hM
    have tL := T_abs a.natAbs hL
    have tM := T_abs a.natAbs hM
    have A : a.natAbs < 2 ^ 1000 := small_of (s := 1000000000) (by omega) (by decide)
    have B : b.natAbs < 2 ^ 1000 := small_of (s := 1000000000) (by omega) (by decide)
    have ab : (a * b).natAbs < 2 ^ 100 := by
      rw [Int.natAbs_mul]
      exact Nat.lt_of_le_of_lt (Nat.mul_le_mul (show a.natAbs ≤ 1000000000 by omega) (show b.natAbs ≤ 1000000000 by omega)) (by decide)
    have pr : fe (feN pd 1000000 5 D (k + 3)) (.bin .mul (.var 0) (.var 1)) [some (.int (m : Nat)), some (.int (n : Nat)), some (.int a), some (.int b)] σ = some (.int (val N : Nat), σ) :=
      fe_bin (fe_var rfl) (fe_var rfl) (by rw [pb_mul (small_of (s := 40) (by omega) (by decide)) (small_of (s := 40) (by omega) (by decide)), vN, vL, vM, Int.natCast_mul])
    have vN' : val N ≤ 1600 := by rw [vN, vL, vM]; exact mn
    have m0 : fe (feN pd 1000000 5 D (k + 3)) (.var 0) [some (.int (m : Nat)), some (.int (n : Nat)), some (.int a), some (.int b)] σ = some (.int (val L : Nat), σ) := by rw [vL]; exact fe_var rfl
    have n0 : fe (feN pd 1000000 5 D (k + 3)) (.var 1) [some (.int (m : Nat)), some (.int (n : Nat)), some (.int a), some (.int b)] σ = some (.int (val M : Nat), σ) := by rw [vM]; exact fe_var rfl
    have pab : fe (feN pd 1000000 5 D (k + 3)) (.bin .mul (.var 2) (.var 3)) [some (.int (m : Nat)), some (.int (n : Nat)), some (.int a), some (.int b)] σ = some (.int (a * b), σ) := fe_bin (fe_var rfl) (fe_var rfl) (pb_mul A B)
    refine feN_rt (d := f18) (by decide) rfl rfl ?_
    refine skip c (skip ?_ (sx_rt (sx_ret ?_)))
    · refine (fe_or_f (fe_cmp ((fe_call (fe_cons pr fe_nil)).trans (sign (k := k + 1) hN (by omega))) (fe_bin ((fe_call (fe_cons m0 fe_nil)).trans (sign (k := k + 1) hL (by omega))) ((fe_call (fe_cons n0 fe_nil)).trans (sign (k := k + 1) hM (by omega))) (pb_mul (small_of (s := 1) sL (by decide)) (small_of (s := 1) sM (by decide)))) (r := false) ?_)).trans
        (fe_cmp ((fe_call (fe_cons pr fe_nil)).trans (unit (k := k + 1) hN (by omega))) (fe_bin ((fe_call (fe_cons m0 fe_nil)).trans (unit (k := k + 1) hL (by omega))) ((fe_call (fe_cons n0 fe_nil)).trans (unit (k := k + 1) hM (by omega))) (pb_mul (small_of (s := 40) (by omega) (by decide)) (small_of (s := 40) (by omega) (by decide)))) ?_)
      · rw [pc_ne, sN]; simp
      · rw [pc_ne, uN, Int.natCast_mul]; simp
    · refine (fe_and_t (fe_cmp ((fe_call (fe_cons pr (fe_cons (fe_var rfl) fe_nil))).trans (sumN hN (by omega) A)) (fe_bin ((fe_call (fe_cons m0 (fe_cons (fe_var rfl) fe_nil))).trans (sumN hL (by omega) A)) ((fe_call (fe_cons n0 (fe_cons (fe_var rfl) fe_nil))).trans (sumN hM (by omega) A)) (pb_mul (small_of (s := 40) (by omega) (by decide)) (small_of (s := 40) (by omega) (by decide)))) (r := true) ?_)).trans ?_
      · rw [pc_eq, tN]; simp
      · obtain ⟨x, ex⟩ := Int.eq_ofNat_of_zero_le (Int.mul_nonneg a0 b0)
        have jj : J 200 (a * b) (m : Nat) := by
          rw [ex]
          exact (J.nat 6 x m (by omega)).le (by decide)
        have gg : fe (feN pd 1000000 5 D (k + 3)) (.call 7 (.cons (.bin .mul (.var 2) (.var 3)) (.cons (.var 0) .nil))) [some (.int (m : Nat)), some (.int (n : Nat)), some (.int a), some (.int b)] σ = some (.int ((Nat.gcd (val L) (a * b).natAbs : Nat) : Int), σ) := by
          refine (fe_call (fe_cons pab (fe_cons (fe_var rfl) fe_nil))).trans ((lawgcd (k := k + 2) jj).trans ?_)
          have : Int.gcd (a * b) (m : Nat) = Nat.gcd (val L) (a * b).natAbs := by rw [Int.gcd_comm, vL]; rfl
          rw [this]
        have gl : Nat.gcd (val L) (a * b).natAbs ≤ 40 := by
          rw [vL]
          exact Nat.le_trans (Nat.le_of_dvd (by omega) (Nat.gcd_dvd_left _ _)) m2
        refine fe_cmp ((fe_call (fe_cons m0 (fe_cons pab fe_nil))).trans (sumN hL (by omega) (big _ ab))) ((fe_call (fe_cons m0 (fe_cons gg fe_nil))).trans (sumN hL (by omega) (small_of (s := 40) (by omega) (by decide)))) ?_
        rw [Int.natAbs_natCast, T_gcd _ hL, pc_eq]
        simp
  · rw [decide_eq_false hg] at c
    exact feN_rt (d := f18) (by decide) rfl rfl (sx_rt ((sx_ift c).trans (sx_rt (sx_ret (fe_con rfl)))))
end K02
end

section
set_option Elab.async false
set_option linter.all false
set_option maxRecDepth 100000
set_option maxHeartbeats 4000000
open PI PySem PN
namespace K02
variable {σ : Sg} {k : Nat}
abbrev drw (e : IE) : IE := .call 5 (.cons (.var 1) (.cons e .nil))
abbrev x17 : IE := .bin .add (.con (.int 1)) (.bin .mod (.blt .int (.cons (.var 4) .nil)) (.con (.int 60)))
abbrev y17 : IE := .bin .sub (drw (.con (.int 200))) (.con (.int 60))
abbrev x18 : IE := .bin .add (.con (.int 1)) (.bin .mod (.blt .int (.cons (.var 4) .nil)) (.con (.int 40)))
abbrev y18 : IE := .bin .add (.con (.int 1)) (drw (.con (.int 40)))
abbrev z18 : IE := .bin .mod (.blt .int (.cons (.var 5) .nil)) (ten 9)
abbrev bodyT4 : IS := .seq (.asg (.nm 4) (.call 14 (.cons (.var 1) .nil))) (.seq (.asg (.tp [5, 6]) (.tup (.cons (.call 15 (.cons (.var 1) (.cons (.var 4) .nil))) (.cons (drw (.con (.int 1000))) .nil)))) (.seq (.ife (.or (.not (.call 16 (.cons (.var 4) (.cons (.var 5) .nil)))) (.not (.call 17 (.cons x17 (.cons y17 .nil))))) (.seq (.ret (.con (.bl false))) .nil) .nil) (.seq (.ife (.not (.call 18 (.cons x18 (.cons y18 (.cons z18 (.cons (.var 6) .nil)))))) (.seq (.ret (.con (.bl false))) .nil) .nil) .nil)))
abbrev greats : IE := .tup (.cons (ten 6) (.cons (.con (.int 999983)) (.cons (.con (.int 720720)) (.cons (.con (.int 510510)) (.cons (.bin .sub (ten 6) (drw (ten 5))) (.cons (.bin .mul (.con (.int 997)) (.con (.int 991))) (.cons (.bin .shl (.con (.int 1)) (.con (.int 19))) .nil)))))))
abbrev a12 : IE := .bin .mod (.blt .int (.cons (.var 5) .nil)) (ten 12)
abbrev greatS : IS := .seq (.asg (.nm 4) (.call 6 (.cons (.var 1) (.cons greats .nil)))) (.seq (.asg (.nm 5) (.bin .mul (.call 15 (.cons (.var 1) (.cons (.con (.int 12)) .nil))) (.call 6 (.cons (.var 1) (.cons (.tup (.cons (.con (.int 1)) (.cons (.con (.int 2)) (.cons (.con (.int 30)) .nil)))) .nil))))) (.seq (.asg (.nm 7) (.tup (.cons (.call 10 (.cons (.var 4) .nil)) (.cons (.call 12 (.cons (.var 4) .nil)) (.cons (.call 13 (.cons (.var 4) (.cons a12 .nil))) .nil))))) (.seq (.ret (.cmp .eq (.blt .repr (.cons (.tup (.cons (.call 1 (.cons (.var 4) .nil)) (.cons (.call 2 (.cons (.var 4) .nil)) (.cons (.call 3 (.cons (.var 4) (.cons a12 .nil))) .nil)))) .nil)) (.blt .repr (.cons (.var 7) .nil)))) .nil)))
abbrev rest : IS := .seq (.asg (.nm 2) (.cmp .eq (drw (.con (.int 64))) (.con (.int 0)))) (.seq (.for_ (.nm 3) .range (.cons (.con (.int 4)) .nil) bodyT4) (.seq (.ife (.var 2) greatS .nil) (.seq (.ret (.con (.bl true))) .nil)))
theorem b19_eq : b19 = .seq (.asg (.nm 1) (.call 4 (.cons (.var 0) .nil))) rest := rfl
theorem pow9 {F : FP} {ρ : Env'} : fe F (ten 9) ρ σ = some (.int 1000000000, σ) := rfl
theorem pow5 {F : FP} {ρ : Env'} : fe F (ten 5) ρ σ = some (.int 100000, σ) := rfl
theorem turn {m : Nat} {g x : PV} {y4 y5 y6 : Option PV} (V : V1 σ (m + 15)) : ∃ (n4 n5 n6 : PV) (σ' : Sg), fex (feN pd 1000000 5 DD (k + 4)) 1000000 bodyT4 [none, some tok, some g, some x, y4, y5, y6, none] σ = some (.nx [none, some tok, some g, some x, some n4, some n5, some n6, none], σ') ∧ V1 σ' m := by
  obtain ⟨n, σ1, n1, n2, e1, V1'⟩ := number (k := k + 1) (m := m + 9) V
  obtain ⟨a, σ2, e2, a2, V2'⟩ := integer (k := k + 1) (m := m + 3) n1 n2 V1'
  obtain ⟨b, σ3, e3, b0, b1, V3'⟩ := drE (k := k + 3) (m := m + 2) (i := 1) (many := 1000) (ρ := [none, some tok, some g, some x, some (.int (n : Nat)), y5, y6, none]) (e := .con (.int 1000)) rfl (fun _ => fe_con rfl) V2' (by decide) (by decide)
  obtain ⟨r, σ4, e4, r0, r1, V4'⟩ := drE (k := k + 3) (m := m + 1) (i := 1) (many := 200) (ρ := [none, some tok, some g, some x, some (.int (n : Nat)), some (.int a), some (.int b), none]) (e := .con (.int 200)) rfl (fun _ => fe_con rfl) V3' (by decide) (by decide)
  obtain ⟨s, σ5, e5, s0, s1, V5'⟩ := drE (k := k + 3) (m := m) (i := 1) (many := 40) (ρ := [none, some tok, some g, some x, some (.int (n : Nat)), some (.int a), some (.int b), none]) (e := .con (.int 40)) rfl (fun _ => fe_con rfl) V4' (by decide) (by decide)
  refine ⟨.int (n : Nat), .int a, .int b, σ5, ?_, V5'⟩
  refine (sx_nx (sx_asg ((fe_call (fe_cons (fe_var rfl) fe_nil)).trans e1) rfl)).trans ?_
  have t1 : fe (feN pd 1000000 5 DD (k + 4)) (.tup (.cons (.call 15 (.cons (.var 1) (.cons (.var 4) .nil))) (.cons (drw (.con (.int 1000))) .nil))) [none, some tok, some g, some x, some (.int (n : Nat)), y5, y6, none] σ1 = some (.tup [.int a, .int b], σ3) :=
    fe_tup (fe_cons ((fe_call (fe_cons (fe_var rfl) (fe_cons (fe_var rfl) fe_nil))).trans e2) (fe_cons e3 fe_nil)) (by simp)
  refine (sx_nx (sx_asg t1 rfl)).trans ?_
  show fex _ _ _ [none, some tok, some g, some x, some (.int (n : Nat)), some (.int a), some (.int b), none] _ = _
  obtain ⟨L, hL, vL⟩ := fac2 n1
  have md : ∀ (σ : Sg) (q : Nat), 0 < q → fe (feN pd 1000000 5 DD (k + 4)) (.bin .add (.con (.int 1)) (.bin .mod (.blt .int (.cons (.var 4) .nil)) (.con (.int (q : Nat))))) [none, some tok, some g, some x, some (.int (n : Nat)), some (.int a), some (.int b), none] σ = some (.int ((1 + n % q : Nat) : Int), σ) := fun σ q hq =>
    fe_bin (fe_con rfl) (fe_bin (fe_int (fe_var rfl)) (fe_con rfl) (pb_mod (by omega))) (by rw [pb_add, Int.natCast_add, Int.natCast_emod]; rfl)
  have c1 : fe (feN pd 1000000 5 DD (k + 4)) (.or (.not (.call 16 (.cons (.var 4) (.cons (.var 5) .nil)))) (.not (.call 17 (.cons x17 (.cons y17 .nil))))) [none, some tok, some g, some x, some (.int (n : Nat)), some (.int a), some (.int b), none] σ3 = some (.bl false, σ4) := by
    have w : feN pd 1000000 5 DD (k + 4) 16 [.int (n : Nat), .int a] σ3 = some (.bl true, σ3) := by rw [← vL]; exact told hL (by omega) (Nat.lt_trans a2 (Nat.pow_lt_pow_right (by decide) (by decide)))
    refine (fe_or_f (fe_not ((fe_call (fe_cons (fe_var rfl) (fe_cons (fe_var rfl) fe_nil))).trans w))).trans (fe_not ((fe_call (fe_cons (md σ3 60 (by decide)) (fe_cons (fe_bin e4 (fe_con rfl) pb_sub) fe_nil))).trans (adds (by omega) ?_ ?_)))
    · have := Nat.mod_lt n (show 0 < 60 by decide); omega
    · exact Nat.lt_of_le_of_lt (show _ ≤ 200 by omega) (by decide)
  refine (sx_nx ((sx_iff c1).trans sx_nil)).trans ?_
  have c2 : fe (feN pd 1000000 5 DD (k + 4)) (.not (.call 18 (.cons x18 (.cons y18 (.cons z18 (.cons (.var 6) .nil)))))) [none, some tok, some g, some x, some (.int (n : Nat)), some (.int a), some (.int b), none] σ4 = some (.bl false, σ5) := by
    obtain ⟨t, rfl⟩ := Int.eq_ofNat_of_zero_le s0
    have y : fe (feN pd 1000000 5 DD (k + 4)) y18 [none, some tok, some g, some x, some (.int (n : Nat)), some (.int a), some (.int b), none] σ4 = some (.int ((1 + t : Nat) : Int), σ5) := fe_bin (fe_con rfl) e5 (by rw [pb_add]; rfl)
    refine fe_not ((fe_call (fe_cons (md σ4 40 (by decide)) (fe_cons y (fe_cons (fe_bin (fe_int (fe_var rfl)) pow9 (pb_mod (by decide))) (fe_cons (fe_var rfl) fe_nil))))).trans (mults (by omega) ?_ (by omega) (by omega) (Int.emod_nonneg _ (by decide)) (Int.emod_lt_of_pos _ (by decide)) b0 (by omega)))
    have := Nat.mod_lt n (show 0 < 40 by decide); omega
  exact (sx_nx ((sx_iff c2).trans sx_nil)).trans sx_nil
theorem great_ok {m : Nat} {g x : PV} {y4 y5 y6 : Option PV} (V : V1 σ (m + 9)) : ∃ σ', fex (feN pd 1000000 5 DD (k + 4)) 1000000 greatS [none, some tok, some g, some x, y4, y5, y6, none] σ = some (.rt (.bl true), σ') := by
  obtain ⟨r, σ1, e1, r0, r1, V1'⟩ := drE (k := k + 3) (m := m + 8) (i := 1) (many := 100000) (ρ := [none, some tok, some g, some x, y4, y5, y6, none]) (e := ten 5) rfl (fun _ => pow5) V (by decide) (by decide)
  obtain ⟨q, hq, σ2, _, e2, V2'⟩ := pk (m := m + 7) (xs := [1000000, 999983, 720720, 510510, 1000000 - r, 988027, 524288]) V1' (by simp) (by simp)
  have q2 : 1 ≤ q ∧ q ≤ 1000000 := by
    simp only [List.mem_cons, List.not_mem_nil, or_false] at hq
    rcases hq with rfl | rfl | rfl | rfl | rfl | rfl | rfl <;> omega
  obtain ⟨n, rfl⟩ := Int.eq_ofNat_of_zero_le (show 0 ≤ q by omega)
  obtain ⟨a, σ3, e3, a2, V3'⟩ := integer (k := k + 1) (n := 12) (m := m + 1) (by decide) (by decide) V2'
  obtain ⟨s, hs, σ4, _, e4, V4'⟩ := pk (m := m) (xs := [1, 2, 30]) V3' (by simp) (by simp)
  have s2 : s.natAbs ≤ 30 := by
    simp only [List.mem_cons, List.not_mem_nil, or_false] at hs
    rcases hs with rfl | rfl | rfl <;> decide
  have tp : fe (feN pd 1000000 5 DD (k + 4)) greats [none, some tok, some g, some x, y4, y5, y6, none] σ = some (.tup (([1000000, 999983, 720720, 510510, 1000000 - r, 988027, 524288] : List Int).map .int), σ1) :=
    fe_tup (fe_cons pow6 (fe_cons (fe_con rfl) (fe_cons (fe_con rfl) (fe_cons (fe_con rfl) (fe_cons (fe_bin pow6 e1 pb_sub) (fe_cons (fe_bin (fe_con rfl) (fe_con rfl) (pb_mul (small_of (s := 1000) (by decide) (by decide)) (small_of (s := 1000) (by decide) (by decide)))) (fe_cons rfl fe_nil))))))) (by simp)
  refine ⟨σ4, ?_⟩
  refine (sx_nx (sx_asg ((fe_call (fe_cons (fe_var rfl) (fe_cons tp fe_nil))).trans (e2 (k + 2))) rfl)).trans ?_
  show fex _ _ _ [none, some tok, some g, some x, some (.int (n : Nat)), y5, y6, none] _ = _
  have mu : fe (feN pd 1000000 5 DD (k + 4)) (.bin .mul (.call 15 (.cons (.var 1) (.cons (.con (.int 12)) .nil))) (.call 6 (.cons (.var 1) (.cons (.tup (.cons (.con (.int 1)) (.cons (.con (.int 2)) (.cons (.con (.int 30)) .nil)))) .nil)))) [none, some tok, some g, some x, some (.int (n : Nat)), y5, y6, none] σ2 = some (.int (a * s), σ4) :=
    fe_bin ((fe_call (fe_cons (fe_var rfl) (fe_cons (fe_con rfl) fe_nil))).trans e3) ((fe_call (fe_cons (fe_var rfl) (fe_cons (fe_tup (fe_cons (fe_con rfl) (fe_cons (fe_con rfl) (fe_cons (fe_con rfl) fe_nil))) (by simp)) fe_nil))).trans (e4 (k + 2))) (pb_mul (Nat.lt_trans a2 (Nat.pow_lt_pow_right (by decide) (by decide))) (small_of (s := 30) s2 (by decide)))
  refine (sx_nx (sx_asg mu rfl)).trans ?_
  show fex _ _ _ [none, some tok, some g, some x, some (.int (n : Nat)), some (.int (a * s)), y6, none] _ = _
  obtain ⟨L, hL, vL⟩ := fac2 (m := n) (by omega)
  have s20 : (2 : Nat) ^ 20 = 1048576 := rfl
  have m0 : ∀ d : Option PV, fe (feN pd 1000000 5 DD (k + 4)) (.var 4) [none, some tok, some g, some x, some (.int (n : Nat)), some (.int (a * s)), y6, d] σ4 = some (.int (val L : Nat), σ4) := fun d => by rw [vL]; exact fe_var rfl
  have w0 : ∀ d : Option PV, fe (feN pd 1000000 5 DD (k + 4)) a12 [none, some tok, some g, some x, some (.int (n : Nat)), some (.int (a * s)), y6, d] σ4 = some (.int (a * s % 1000000000000), σ4) := fun d => fe_bin (fe_int (fe_var rfl)) pow12 (pb_mod (by decide))
  have b0 : 0 ≤ a * s % 1000000000000 := Int.emod_nonneg _ (by decide)
  have b1 : a * s % 1000000000000 < 1000000000000 := Int.emod_lt_of_pos _ (by decide)
  have A : (a * s % 1000000000000).natAbs < 2 ^ 1000 := small_of (s := 1000000000000) (by omega) (by decide)
  generalize a * s % 1000000000000 = w at *
  have q1 : fe (feN pd 1000000 5 DD (k + 4)) (.tup (.cons (.call 10 (.cons (.var 4) .nil)) (.cons (.call 12 (.cons (.var 4) .nil)) (.cons (.call 13 (.cons (.var 4) (.cons a12 .nil))) .nil)))) [none, some tok, some g, some x, some (.int (n : Nat)), some (.int (a * s)), y6, none] σ4 = some (.tup ([S L, ((U L : Nat) : Int), T w.natAbs L].map .int), σ4) :=
    fe_tup (fe_cons ((fe_call (fe_cons (m0 none) fe_nil)).trans (lawsign (k := k + 2) hL (by omega))) (fe_cons ((fe_call (fe_cons (m0 none) fe_nil)).trans (phi (k := k + 2) hL (by omega))) (fe_cons ((fe_call (fe_cons (m0 none) (fe_cons (w0 none) fe_nil))).trans (lawsum (k := k + 2) hL (by omega))) fe_nil))) (by simp)
  refine (sx_nx (sx_asg q1 rfl)).trans ?_
  show fex _ _ _ [none, some tok, some g, some x, some (.int (n : Nat)), some (.int (a * s)), y6, some (.tup ([S L, ((U L : Nat) : Int), T w.natAbs L].map .int))] _ = _
  have q3 : ∀ d : Option PV, fe (feN pd 1000000 5 DD (k + 4)) (.tup (.cons (.call 1 (.cons (.var 4) .nil)) (.cons (.call 2 (.cons (.var 4) .nil)) (.cons (.call 3 (.cons (.var 4) (.cons a12 .nil))) .nil)))) [none, some tok, some g, some x, some (.int (n : Nat)), some (.int (a * s)), y6, d] σ4 = some (.tup ([S L, ((U L : Nat) : Int), T w.natAbs L].map .int), σ4) := fun d =>
    fe_tup (fe_cons ((fe_call (fe_cons (m0 d) fe_nil)).trans (sign (k := k + 2) hL (by omega))) (fe_cons ((fe_call (fe_cons (m0 d) fe_nil)).trans (unit (k := k + 2) hL (by omega))) (fe_cons ((fe_call (fe_cons (m0 d) (fe_cons (w0 d) fe_nil))).trans (sumN (k := k + 1) hL (by omega) A)) fe_nil))) (by simp)
  have sA := S_abs L
  have uA := val_two hL
  have tA := T_abs w.natAbs hL
  have rp : ∃ z, pblt .repr [.tup ([S L, ((U L : Nat) : Int), T w.natAbs L].map .int)] = some (.str z) := repr3 (by
    intro x hx
    simp only [List.mem_cons, List.not_mem_nil, or_false] at hx
    rcases hx with rfl | rfl | rfl <;> omega) (by simp)
  exact sx_rt (sx_ret (eq_same (q3 _) (fe_var rfl) rp))
theorem round (V : V1 σ 1000000000) : ∃ σ', fex (feN pd 1000000 5 DD (k + 4)) 1000000 rest [none, some tok, none, none, none, none, none, none] σ = some (.rt (.bl true), σ') := by
  obtain ⟨r, σ1, e1, r0, r1, V1'⟩ := drE (k := k + 3) (m := 100) (i := 1) (many := 64) (ρ := [none, some tok, none, none, none, none, none, none]) (e := .con (.int 64)) rfl (fun _ => fe_con rfl) (V.mono (by omega)) (by decide) (by decide)
  have c : fe (feN pd 1000000 5 DD (k + 4)) (.cmp .eq (drw (.con (.int 64))) (.con (.int 0))) [none, some tok, none, none, none, none, none, none] σ = some (.bl (decide (r = 0)), σ1) := fe_cmp e1 (fe_con rfl) pc_eq
  rcases for_deck (F := feN pd 1000000 5 DD (k + 4)) (wf := 1000000) (σ := σ1) (σ1 := σ1) (t := .nm 3) (kk := .range) (body := bodyT4) (src := .cons (.con (.int 4)) .nil) (xs := prng 4 0) (v := .tup [.int 4]) (ρ := [none, some tok, some (.bl (decide (r = 0))), none, none, none, none, none])
    (I := fun xs ρ σ => ∃ y3 y4 y5 y6 : Option PV, ρ = [none, some tok, some (.bl (decide (r = 0))), y3, y4, y5, y6, none] ∧ V1 σ (15 * xs.length + 20) ∧ (xs = [] → ∃ z, y3 = some z)) (K := fun _ _ => False)
    (fe_cons (fe_con rfl) fe_nil) (ps_range1 (by decide)) ⟨none, none, none, none, rfl, V1'.mono (by decide), fun h => by cases h⟩ (fun x xs ρ σ ⟨y3, y4, y5, y6, e, V, _⟩ => by
      subst e
      refine ⟨_, rfl, .inl ?_⟩
      rw [List.length_cons] at V
      obtain ⟨n4, n5, n6, σ', e, V'⟩ := turn (k := k) (m := 15 * xs.length + 20) (g := .bl (decide (r = 0))) (x := x) (y4 := y4) (y5 := y5) (y6 := y6) (V.mono (by omega))
      exact ⟨_, σ', e, some x, some n4, some n5, some n6, rfl, V', fun _ => ⟨x, rfl⟩⟩) with ⟨ρ', σ', e, y3, y4, y5, y6, e1, V', hz⟩ | ⟨w, σ', _, f⟩
  · subst e1
    obtain ⟨z, rfl⟩ := hz rfl
    by_cases hr : r = 0
    · obtain ⟨σ2, e2⟩ := great_ok (k := k) (m := 0) (g := .bl (decide (r = 0))) (x := z) (y4 := y4) (y5 := y5) (y6 := y6) (V'.mono (by omega))
      have t : fe (feN pd 1000000 5 DD (k + 4)) (.var 2) [none, some tok, some (.bl (decide (r = 0))), some z, y4, y5, y6, none] σ' = some (.bl true, σ') := by rw [fe_var (v := .bl (decide (r = 0))) rfl, decide_eq_true hr]
      exact ⟨σ2, (sx_nx (sx_asg c rfl)).trans ((sx_nx e).trans (sx_rt ((sx_ift t).trans e2)))⟩
    · have t : fe (feN pd 1000000 5 DD (k + 4)) (.var 2) [none, some tok, some (.bl (decide (r = 0))), some z, y4, y5, y6, none] σ' = some (.bl false, σ') := by rw [fe_var (v := .bl (decide (r = 0))) rfl, decide_eq_false hr]
      exact ⟨σ', (sx_nx (sx_asg c rfl)).trans ((sx_nx e).trans ((sx_nx ((sx_iff t).trans sx_nil)).trans (sx_rt (sx_ret (fe_con rfl)))))⟩
  · exact f.elim
end K02
end

section
set_option Elab.async false
set_option linter.all false
set_option maxRecDepth 100000
set_option maxHeartbeats 0
open PySem PySem.W PySem.Calls PyProof.Rows
theorem K02.holds (hold : ∀ ns : List Int, ns.length ≤ 63 → (∀ z ∈ ns, Builtin.Int.intBits z ≤ 1048576) → ∃ h', PI.callN K02.defs 1000000 12 19 [.fl (ns.map .int)] [] = some (.bl true, h')) : PySem.Challenge.rw_hoursheets_k02_whole_numbers_over_diviso.Holds := by
  w_on; o_law
  refine HandSHeadRun.head_imp (r := OpenLaw.row PySem.Challenge.rw_hoursheets_k02_whole_numbers_over_diviso) (q := view (OpenLaw.row PySem.Challenge.rw_hoursheets_k02_whole_numbers_over_diviso).prog [0, 22]) (H := K02.hk) (ob := K02.ob) (M := 4000) (loose := K02.loose) (d := HandSHeadRun.topDef (OpenLaw.row PySem.Challenge.rw_hoursheets_k02_whole_numbers_over_diviso).prog 22) (kwd := []) K02.ob_eq
    K02.run (by kernel_rfl) (by kernel_rfl) (by kernel_rfl) (by rfl) (by first | assumption | decide +kernel) (by decide +kernel) ⟨rfl, rfl, rfl, rfl, rfl, by decide +kernel⟩ ?hw ?hc
  case hw => w_witness2
  case hc =>
    refine PI.walkG (l := PySem.Challenge.rw_hoursheets_k02_whole_numbers_over_diviso) (n := 63) (k := 2 * 12) (x := "script") rfl (by decide) (by kernel_rfl) ⟨rfl, by decide, by decide⟩ ?F
    intro w mg fa h Y G hmg0
    obtain ⟨K, KX, c⟩ := Y
    have hmg : mg ("law" : PySem.Str) = some (.ref fa) := by
      have e : (HandSHeadRun.topDef (OpenLaw.row PySem.Challenge.rw_hoursheets_k02_whole_numbers_over_diviso).prog 22).name = ("law" : PySem.Str) := by kernel_rfl
      rw [← e]
      exact hmg0
    exact ⟨K, KX, PI.lawAt K02.text K02.calls K02.valsB KX G hmg c (iL := 19) rfl rfl rfl K02.p19 hold⟩
end

section
set_option Elab.async false
set_option linter.all false
set_option maxRecDepth 100000
set_option maxHeartbeats 8000000
open PI PySem PN
namespace K02
theorem tells : Tells pd defs := fun i e q => match i, q with
  | 0, q => by cases q; exact .inr ⟨rfl, by kernel_rfl⟩
  | 1, q => by cases q; exact .inr ⟨rfl, by kernel_rfl⟩
  | 2, q => by cases q; exact .inr ⟨rfl, by kernel_rfl⟩
  | 3, q => by cases q; exact .inr ⟨rfl, by kernel_rfl⟩
  | 4, q => by cases q; exact .inl rfl
  | 5, q => by cases q; exact .inl rfl
  | 6, q => by cases q; exact .inr ⟨rfl, by kernel_rfl⟩
  | 7, q => by cases q; exact .inr ⟨rfl, by kernel_rfl⟩
  | 8, q => by cases q; exact .inr ⟨rfl, by kernel_rfl⟩
  | 9, q => by cases q; exact .inr ⟨rfl, by kernel_rfl⟩
  | 10, q => by cases q; exact .inr ⟨rfl, by kernel_rfl⟩
  | 11, q => by cases q; exact .inr ⟨rfl, by kernel_rfl⟩
  | 12, q => by cases q; exact .inr ⟨rfl, by kernel_rfl⟩
  | 13, q => by cases q; exact .inr ⟨rfl, by kernel_rfl⟩
  | 14, q => by cases q; exact .inr ⟨rfl, by kernel_rfl⟩
  | 15, q => by cases q; exact .inr ⟨rfl, by kernel_rfl⟩
  | 16, q => by cases q; exact .inr ⟨rfl, by kernel_rfl⟩
  | 17, q => by cases q; exact .inr ⟨rfl, by kernel_rfl⟩
  | 18, q => by cases q; exact .inr ⟨rfl, by kernel_rfl⟩
  | 19, q => by cases q; exact .inl rfl
  | i + 20, q => by cases q
theorem draw_ok {d c : Nat} : DrawOk d c defs 1000000 5 DD := drawD_ok
theorem law {ns : List Int} {h : IHeap} (hl : ns.length ≤ 63) : Wp (callN defs 1000000 12 19 [.fl (ns.map .int)] h) fun v _ => v = .bl true := by
  refine wp_def (d := ⟨1, 8, b19⟩) rfl rfl ?_
  show Wp (ex _ _ b19 [some (.fl (ns.map .int)), none, none, none, none, none, none, none] h) _
  rw [b19_eq, wp_seq, wp_asg, wp_call, wl_cons, wp_varE]
  refine ⟨_, rfl, ?_⟩
  rw [wl_nil]
  refine (deck1_ok (s := 10886209) (e := 57) (k := 10) (by decide) (by decide) rfl hl).mono fun v h' ⟨d, c, σ, e, hs, V⟩ => ?_
  subst e
  refine ⟨_, rfl, ?_⟩
  obtain ⟨σ', e⟩ := round (k := 7) V
  obtain ⟨h2, e2⟩ := law_round (pdefs := pd) (defs := defs) (wf := 1000000) (iD := 5) (D := DD) (k := 11) (ρ := [some (.fl (ns.map .int)), some (.ref d), none, none, none, none, none, none]) (ρp := [none, some tok, none, none, none, none, none, none]) tells draw_ok hs (by kernel_rfl) rfl (fun s w q => by
    match s, q with
    | 0, q => cases q
    | 1, q => cases q; exact ⟨rfl, rfl⟩
    | 2, q => cases q
    | 3, q => cases q
    | 4, q => cases q
    | 5, q => cases q
    | 6, q => cases q
    | 7, q => cases q
    | s + 8, q => cases q) (fun s hs => by cases hs) e
  exact ⟨_, _, e2, _, rfl, rfl⟩
theorem hold (ns : List Int) (hl : ns.length ≤ 63) (_ : ∀ z ∈ ns, Builtin.Int.intBits z ≤ 1048576) : ∃ h', PI.callN K02.defs 1000000 12 19 [.fl (ns.map .int)] [] = some (.bl true, h') := by
  obtain ⟨v, h', e, q⟩ := law (h := []) hl
  exact ⟨h', by rw [e, q]⟩
theorem fin : PySem.Challenge.rw_hoursheets_k02_whole_numbers_over_diviso.Holds := K02.holds hold
end K02
end

theorem PySem.Challenge.cw_hoursheets_k02_whole_numbers_over_diviso_holds : PySem.Challenge.rw_hoursheets_k02_whole_numbers_over_diviso.Holds :=
  K02.fin
