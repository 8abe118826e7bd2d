import PyProof.Rows.All
import Wide.All
import OpenK.AllK
import Wide.FinOn
import HandS.ForMost
import HandS.AnyAll
import HandS.GenList
import HandS.IsInst
import HandS.Deep
import HandS.TupAny
import HandS.TupLe
import HandS.ForExc
import HandS.Evl
import KE.OsRunLaw
import KE.LtData
import PySem.Builtin.Int.W1All
import HandS.Call
import HandS.WideBits
import KE.IntBitsLaws
import HandS.Iter
import KE.GoesMore
import HandS.Comp
import HandS.Star
import HandS.Dict
import HandS.ListItems
import HandS.Words
import HandS.DictTup
import HandS.Rev
import HandS.TupSets
import HandS.TupMul
import PyProof.ReprRoads
import HandS.RaiseMore
import HandS.List
import HandS.EndTab
import PyProof.ReprBulk
import PyProof.Rows.StrJoinMade
import HandS.SortOrd
import HandS.SortRule
import HandS.Exc
import HandS.ExcOwn
import HandS.ExcCtx
import HandS.ExcIs
import HandS.HotCalls
import KE.KExcStr
import HandS.DictComp
import HandS.Walk
import KE.KNest
import PySem.Challenge.RW_leafward_k05_what_is_a_transformation
set_option Elab.async false
set_option linter.all false
set_option maxRecDepth 100000
set_option maxHeartbeats 1000000
/-! all, any of a generator expression over whatever a for walks, the element any expression of the layer. -/
namespace LW
open PySem PySem.Spec PyProof.Rows L2 GenW

/-- the context of a generator expression's frame -/
abbrev gblk (X : Cx) (A : Around) (s : Shared) (H : Hp) (scope : Scope) (env : Env) (fp : List Addr) (pn : List (Addr × Obj)) : Cx :=
  { X with A := A, s_0 := s, H_0 := H, env := env, outer := X.stack, stack := env :: X.stack, ex := fp, fn := fun x => scope.names.lookup x == some .cell, calm := true, pn := pn, xe := fun _ _ => False }

structure GSc (N : List Str) (sc scope : Scope) (own : List (Str × Nat)) : Prop extends BlkOk N sc scope own where
  co : scope.isCoroutine = false
  cell : ∀ y ∈ scope.names, y.2 ≠ .cell
  dot : scope.names.lookup (".0" : Str) = some NameKind.local

def gscC (scope : Scope) : Bool := (!scope.isCoroutine) && (scope.names.all fun y => decide (y.2 ≠ .cell)) && decide (scope.names.lookup (".0" : Str) = some NameKind.local)
theorem gsc_by {N : List Str} {sc scope : Scope} {own : List (Str × Nat)} (h : blkC N sc scope own = true) (h2 : gscC scope = true) : GSc N sc scope own := by
  unfold gscC at h2
  simp only [Bool.and_eq_true, List.all_eq_true, decide_eq_true_eq, Bool.not_eq_true'] at h2
  exact ⟨blkOk_by h, h2.1.1, h2.1.2, h2.2⟩

section
variable {X : Cx} {pins : List (Addr × Obj)} {σ : L2.St} {H : Hp} {s : Shared}

theorem clo_mem {X : Cx} {pins : List (Addr × Obj)} {σ : L2.St} {H : Hp} {s : Shared} {scope : Scope} {own : List (Str × Nat)} (I : Inv X pins σ H s) (ok : BlkOk X.N X.env.scope scope own) {y : Str} {c : Addr} (e : (cloFrom X.env.cells scope.names []).lookup y = some c) :
    X.env.cells.lookup y = some c ∧ c < s.heap.objs.size ∧ (y, NameKind.free) ∈ scope.names := by
  have hfree : ∀ y ∈ scope.names, y.2 = .free → ∃ c, X.env.cells.lookup y.1 = some c := fun y hy e => by
    rcases ok.free y hy e with k | k
    · exact I.ok.has _ (.inl k)
    · exact I.ok.has _ (.inr k)
  rcases cloFrom_mem (PySem.mem_of_lookup e) with hm | ⟨h1, h2⟩
  · cases hm
  · obtain ⟨c', hc⟩ := hfree _ h1 rfl
    have hc' : X.env.cells.lookup y = some c' := hc
    rw [hc'] at h2
    have h3 : c = c' := h2
    rw [h3]
    obtain ⟨w, z⟩ := I.cell _ _ hc'
    exact ⟨hc', z.lt, h1⟩

/-- the generator's frame stands -/
theorem gen_begin {A : Around} {scope : Scope} {own : List (Str × Nat)} {fp : List Addr} {pn : List (Addr × Obj)} {s5 : Shared} {code : Value} {m : Str → Option Value} (I : Inv X pins σ H s) (ok : GSc X.N X.env.scope scope own) (hN : X.N.Nodup)
    (hfp : ∀ b ∈ fp, FpOk X pins H b ∧ b < s.heap.objs.size) (hA : A.handled = none)
    (hfr : A.frames = some (genEnv scope (cloFrom X.env.cells scope.names []) s.heap.objs.size code builtinsNs X.env :: X.stack))
    (kp : ∀ b o, s.heap.get? b = some o → s5.heap.get? b = some o) (hns : s5.heap.Ns s.heap.objs.size m) (hos : s5.os = s.os) (hb : AllBare s5.gens)
    (hpn : ∀ p ∈ pn, s5.heap.get? p.1 = some p.2 ∧ s.heap.objs.size < p.1 ∧ ∀ v, p.2.data ≠ .cell v) :
    Inv (gblk X A s H scope (genEnv scope (cloFrom X.env.cells scope.names []) s.heap.objs.size code builtinsNs X.env) fp pn) [] (wipe σ (own.map (·.2))) H s5 := by
  generalize henv : genEnv scope (cloFrom X.env.cells scope.names []) s.heap.objs.size code builtinsNs X.env = env at *
  have hL : env.locals = s.heap.objs.size := by rw [← henv]; rfl
  have hcl : env.cells = cloFrom X.env.cells scope.names [] := by rw [← henv]; rfl
  have hsc : env.scope = scope := by rw [← henv]; rfl
  have mem : ∀ {y c}, env.cells.lookup y = some c → X.env.cells.lookup y = some c ∧ c < s.heap.objs.size ∧ (y, NameKind.free) ∈ scope.names := fun {y c} e => by
    rw [hcl] at e
    exact clo_mem I ok.toBlkOk e
  have look : ∀ {y}, scope.names.lookup y = some .free → ∃ c, env.cells.lookup y = some c ∧ X.env.cells.lookup y = some c := fun {y} hl => by
    have hy : (y, NameKind.free) ∈ scope.names := PySem.mem_of_lookup hl
    obtain ⟨c', e'⟩ := mem_lookup (cloFrom_has (cells := X.env.cells) (acc := []) hy)
    exact ⟨c', by rw [hcl]; exact e', (mem (by rw [hcl]; exact e')).1⟩
  have okB : (gblk X A s H scope env fp pn).Ok := by
    refine ⟨I.ok.mod, by show env.scope.kind = _; rw [hsc]; exact ok.kind, by show env.globals = _; rw [← henv]; exact I.ok.glob, by show env.builtins = _; rw [← henv]; rfl, by show s.heap.objs.size ≤ env.locals; rw [hL]; exact Nat.le_refl _,
      fun y z c e1 e2 => I.ok.inj y z c (mem e1).1 (mem e2).1, fun y hy => ?_, fun y c z e => ?_, fun _ => hA, hfr, .inr ⟨rfl, ?_⟩, fun b hb => ⟨?_, fun y c e z => ?_⟩, I.bs, Nat.le_trans I.ok.bsz I.sz, fun b o e hb => ?_, fun b hb z => ?_, I.stack, I.stkFree⟩
    · show ∃ c, env.cells.lookup y = some c
      have hy' : scope.names.lookup y = some .cell ∨ scope.names.lookup y = some .free := by
        have q : env.kindOf y = scope.names.lookup y := by unfold Env.kindOf; rw [hsc]
        rw [← q]; exact hy
      rcases hy' with hy | hy
      · exact absurd rfl (ok.cell _ (PySem.mem_of_lookup hy))
      · obtain ⟨c, h1, _⟩ := look hy
        exact ⟨c, h1⟩
    · have z : (scope.names.lookup y == some NameKind.cell) = true := z
      have z : scope.names.lookup y = some .cell := by simpa using z
      exact absurd rfl (ok.cell _ (PySem.mem_of_lookup z))
    · show env.frame = some env.locals
      rw [← henv]; rfl
    · show b ≠ env.locals
      rw [hL]; exact Nat.ne_of_lt (hfp b hb).2
    · exact (hfp b hb).1.2.2.2.2.1 y c (mem e).1 z
    · rcases (hfp b hb).1.2.2.2.1 with z | z
      · exact I.ok.noex b o e z
      · exact absurd (Nat.lt_of_lt_of_le (Heap.lt_size e) (Nat.le_trans I.ok.bsz z)) (Nat.lt_irrefl _)
    · rcases List.mem_cons.mp (I.stkSub b z) with z | z
      · exact (hfp b hb).1.2.1 z
      · exact (hfp b hb).1.2.2.1 z
  refine ⟨okB, hos, hb, Un.kept kp, ⟨m, ?_, fun i y av e1 e2 e3 => ?_⟩, fun y c e => ?_, ?_, fun y c e => ?_, fun p hp => ?_, I.hok.kept kp, by rw [wipe_length]; exact I.len⟩
  · show Heap.Ns _ env.locals _
    rw [hL]; exact hns
  · obtain ⟨e2, hne⟩ := wipe_some e2
    have kq : env.kindOf y = scope.names.lookup y := by unfold Env.kindOf; rw [hsc]
    have e3 : Vis env.scope y := e3
    rw [hsc] at e3
    have no : ∀ k, scope.names.lookup y = some k → ¬ (k = .local ∨ k = .cell) := fun k hk hh => by
      rcases ok.own _ (PySem.mem_of_lookup hk) hh with e' | e'
      · obtain ⟨p, hp, hpy⟩ := List.mem_map.mp e'
        have e3 := ok.ix p hp
        have : p.1 = y := hpy
        rw [this] at e3
        exact hne (List.mem_map.mpr ⟨p, hp, nodup_ix hN e3 e1⟩)
      · exact e' (List.mem_of_getElem? e1)
    have hfr : scope.names.lookup y = some .free := by
      rcases e3 with e3 | e3 | e3
      · exact absurd (.inl rfl) (no _ e3)
      · exact absurd (.inr rfl) (no _ e3)
      · exact e3
    obtain ⟨m', hn, hl⟩ := I.loc
    have hvis : Vis X.env.scope y := (ok.free _ (PySem.mem_of_lookup hfr) rfl).elim (fun k => .inr (.inl k)) (fun k => .inr (.inr k))
    obtain ⟨w, r, q⟩ := hl i y av e1 e2 hvis
    refine ⟨w, r, .inr ⟨.inr (kq.trans hfr), ?_⟩⟩
    obtain ⟨c, h1, h2⟩ := look hfr
    rcases q with ⟨k, _⟩ | ⟨_, c', e', z⟩
    · have k : X.env.scope.names.lookup y = some .local := k
      rcases ok.free _ (PySem.mem_of_lookup hfr) rfl with k' | k' <;> rw [show X.env.scope.names.lookup y = _ from k'] at k <;> cases k
    · rw [h2] at e'; cases e'
      exact ⟨c, h1, z.keeps kp⟩
  · obtain ⟨w, z⟩ := I.cell y c (mem e).1
    exact ⟨w, z.keeps kp⟩
  · show H env.locals = none
    rw [hL]; exact I.hok.fresh (Nat.le_refl _)
  · exact I.freeC y c (mem e).1
  · have hp' : p ∈ pn := by simpa using hp
    obtain ⟨h1, h2, h3⟩ := hpn p hp'
    have h4 : s.heap.objs.size ≤ p.1 := Nat.le_of_lt h2
    refine ⟨h1, I.hok.fresh h4, ?_, ?_, h3⟩
    · show p.1 ≠ env.locals
      rw [hL]; exact Nat.ne_of_gt h2
    · intro hm
      rcases List.mem_cons.mp (I.stkSub _ hm) with e | e
      · have h5 := I.lt
        rw [← e] at h5
        exact Nat.lt_irrefl _ (Nat.lt_of_lt_of_le h5 h4)
      · exact I.nofs h4 e

/-- from the generator's state back to that of the frame that walks it -/
theorem gen_back {A : Around} {scope : Scope} {env : Env} {fp : List Addr} {pn pins' : List (Addr × Obj)} {σ' : L2.St} {H' : Hp} {s' : Shared} (I : Inv X pins σ H s) (hfp : ∀ b ∈ fp, FpOk X pins H b)
    (J : Inv (gblk X A s H scope env fp pn) pins' σ' H' s') : Inv X pins σ H' s' :=
  I.call' (ch := fp) J.os J.base J.hok J.bare fun b hb => ⟨(hfp b hb).2.2.2.1, (hfp b hb).2.1, (hfp b hb).2.2.2.2.1, (hfp b hb).2.2.2.2.2⟩

/-- only the generators' table moves -/
theorem inv_gens {g' : Array GenState} (I : Inv X pins σ H s) (h : AllBare g') : Inv X pins σ H { s with gens := g' } :=
  I.call' (ch := []) (s' := { s with gens := g' }) rfl Un.refl I.hok h fun b z => absurd z (by simp)
end

/-- what the walked generator hands out: tests; on c it goes on -/
def GYb (X : Cx) (pins : List (Addr × Obj)) (σ : L2.St) (a : Addr) (g : Nat) (c : Bool) (Q : VK) : Protocol := fun _ _ v s kap =>
  ∃ b H, v = .bool b ∧ Inv X pins σ H s ∧ s.heap.IsGen a g ∧ (b = !c → Q (.bl (!c)) H) ∧
    (b = c → ∀ s' : Shared, (∀ d o, s.heap.get? d = some o → s'.heap.get? d = some o) → s'.os = s.os → AllBare s'.gens → kap (.send .none) s')
def GRb (X : Cx) (pins : List (Addr × Obj)) (σ : L2.St) (c : Bool) (Q : VK) : GenEnd := fun _ _ r s => r = .ok .next ∧ ∃ H, Inv X pins σ H s ∧ Q (.bl c) H

/-- the reading behind «an iterator has come» -/
def GW (J : It) (g : TG) (te : TE) (c : Bool) (vs : List Nat) (σ : L2.St) (Q : VK) (W : Nat → Nat → Hp → Prop) : Prop := ∀ i m H, W i m H →
  (J.stop i H ∧ Q (.bl c) H) ∨ (J.go i H ∧ ∃ Nx : Hp → Prop, (∀ H', Nx H' → ∃ m', m' < m ∧ W (i + 1) m' H') ∧ ∀ x H', J.yld i H x H' → g x (wipe σ vs) H' fun σ2 H2 => wipe σ2 vs = wipe σ vs ∧
    te σ2 H2 fun y H3 => ∃ b, y = .bl b ∧ if b = c then Nx H3 else Q (.bl (!c)) H3)

theorem thnX {α : Type} {t : Sem α} {Q Q' : α → Shared → Prop} {E' : Value → Shared → Prop} {M : Model} {A : Around} {s : Shared} (h : wpAny M A t Q (fun _ _ => False) s) (hQ : ∀ a s, Q a s → Q' a s) : wpAny M A t Q' E' s := wpAny_mono h hQ fun _ _ z => False.elim z

theorem wipe_wipe (σ : L2.St) : ∀ vs : List Nat, wipe (wipe σ vs) vs = wipe σ vs := by
  have key : ∀ (us vs : List Nat), (∀ v ∈ us, v ∈ vs) → wipe (wipe σ vs) us = wipe σ vs := by
    intro us vs
    induction us with
    | nil => intro _; rfl
    | cons u us ih =>
      intro h
      show (wipe (wipe σ vs) us).set u none = _
      rw [ih fun v hv => h v (List.mem_cons_of_mem _ hv)]
      refine List.ext_getElem? fun i => ?_
      by_cases hi : u = i
      · subst hi
        by_cases hl : u < (wipe σ vs).length
        · rw [List.getElem?_set_self hl]
          cases q : (wipe σ vs)[u]? with
          | none => exact absurd (List.getElem?_eq_none_iff.mp q) (Nat.not_le_of_lt hl)
          | some o =>
            cases o with
            | none => rfl
            | some v => exact absurd (h u List.mem_cons_self) (wipe_some q).2
        · rw [List.getElem?_eq_none (by simpa using hl), List.getElem?_eq_none (by simpa using hl)]
      · rw [List.getElem?_set_ne hi]
  exact fun vs => key vs vs fun _ h => h
theorem over_gexp {A : Around} {elt : Expr} {gs : List Comprehension} {scope : Scope} {pos : Pos} {it acc : Value} {env : Env} {outer : List Env} (h : A.frames = some outer) :
    (A.over (.compLoop (.GeneratorExp elt gs scope pos) 0 it acc env) []).frames = some (env :: outer) := by
  show pushEnvs (Code.compLoop (.GeneratorExp elt gs scope pos) 0 it acc env).envs (pushEnvs (envsOf ([].map Frame.where_)) A.frames) = _
  rw [h]
  rfl
theorem room_gexp {k : Nat} {A : Around} {elt : Expr} {gs : List Comprehension} {scope : Scope} {pos : Pos} {it acc : Value} {env : Env} (r : Room (k + 1) A) : Room k (A.over (.compLoop (.GeneratorExp elt gs scope pos) 0 it acc env) []) :=
  ⟨r.hd, by have := r.dp; show A.depth + 0 + 1 + 3 * k + 5 < _; omega, by have := r.un; show A.units + 0 + 3 + 16 * k + 200 < _; omega⟩

abbrev gY (X : Cx) (A : Around) (elt tg iter : Expr) (scope : Scope) (pos : Pos) (it : Addr) (env : Env) (s : Shared) (H : Hp) (fp : List Addr) (a : Addr) (go : Obj) : Cx :=
  gblk X (A.over (.compLoop (.GeneratorExp elt [⟨tg, iter, [], 0⟩] scope pos) 0 (.ref it) .none env) []) s H scope env fp [(a, go)]
section
variable {X : Cx} {pins : List (Addr × Obj)} {σ : L2.St} {H : Hp} {s : Shared}
/-- the generator's loop -/
theorem gen_loop {A : Around} {scope : Scope} {env : Env} {fp : List Addr} {a : Addr} {go : Obj} {g : Nat} {elt tg iter : Expr} {pos : Pos} {it : Addr} {vs : List Nat} {J : It} {tn : Nat → Heap → Prop} {gT : TG} {te : TE} {c : Bool} {Q : VK} {W : Nat → Nat → Hp → Prop}
    (I : Inv X pins σ H s) (hfp : ∀ b ∈ fp, FpOk X pins H b) (hL : env.locals ∉ fp) (haf : a ∉ fp) (hco : env.scope.isCoroutine = false)
    (hgo : ∀ h : Heap, h.get? a = some go → h.IsGen a g)
    (T : Turn X.prog X.w X.K tg J fp it tn)
    (pg : PG (gY X A elt tg iter scope pos it env s H fp a go) tg gT)
    (pe : PE (gY X A elt tg iter scope pos it env s H fp a go) elt te)
    (hW : GW J gT te c vs σ Q W) :
    ∀ (n i m : Nat) (s₀ s' : Shared) (σ' : L2.St) (H' : Hp), m < n → wipe σ' vs = wipe σ vs →
      Inv (gY X A elt tg iter scope pos it env s H fp a go) [] σ' H' s' → tn i s'.heap → (∀ b ∈ fp, H' b = none) → W i m H' →
      Seg (model X.prog X.w) A (GRb X pins σ c Q) (GYb X pins σ a g c Q) n s₀ (.compLoop (.GeneratorExp elt [⟨tg, iter, [], 0⟩] scope pos) 0 (.ref it) .none env)
        ((model X.prog X.w).den (.compLoop (.GeneratorExp elt [⟨tg, iter, [], 0⟩] scope pos) 0 (.ref it) .none env)) [] s' := by
  intro n
  induction n with
  | zero => intro i m s₀ s' σ' H' hm; exact absurd hm (Nat.not_lt_zero _)
  | succ n ih =>
    intro i m s₀ s' σ' H' hm hw IY st fr w
    have stat : ∀ {H2 : Hp}, (∀ b ∈ fp, H2 b = none) → ∀ b ∈ fp, FpOk (gY X A elt tg iter scope pos it env s H fp a go) [] H2 b := fun hn b hb =>
      ⟨hn b hb, fun z => hL (z ▸ hb), fun z => IY.ok.exfs b hb z, .inl hb, (IY.ok.exf b hb).2, fun p hp z => by
        have hp' : p = (a, go) := by simpa using hp
        rw [hp'] at z
        have z' : a = b := z
        exact haf (z' ▸ hb)⟩
    have IYw : Inv (gY X A elt tg iter scope pos it env s H fp a go) [] (wipe σ vs) H' s' := by
      rw [← hw]
      exact IY.weak (wipe_length _ _) fun j v e => (wipe_some e).1
    show Seg _ A _ _ _ s₀ _ ((compTurn (.GeneratorExp elt [⟨tg, iter, [], 0⟩] scope pos) 0 (.ref it) .none env).onRaise (leaving env)) [] s'
    rw [compTurn_gen, Sem.onRaise_eq_wrap]
    refine seg_bind_wrap (wpAny_standAt ?_)
    rcases hW i m H' w with ⟨stop, qn⟩ | ⟨goo, Nx, hN, step⟩
    · refine seg_bind_wrap (thnX (T.done (gY X A elt tg iter scope pos it env s H fp a go) rfl rfl rfl rfl i [] s' (wipe σ vs) H' _ IYw (stat fr) st stop) fun r s4 ⟨hr, I4⟩ => ?_)
      subst hr
      exact seg_end (.ok .next) ⟨rfl, H', gen_back I hfp I4, qn⟩
    · refine seg_bind_wrap (thnX (T.item (gY X A elt tg iter scope pos it env s H fp a go) rfl rfl rfl rfl i [] s' (wipe σ vs) H' _ IYw (stat fr) st goo) fun r s4 ⟨u, hr, h4⟩ => ?_)
      subst hr
      refine seg_bind_wrap (thnX h4 fun _ s5 ⟨x, H5, I5, r5, y5, st5, fr5⟩ => ?_)
      have I5' := I5.pinned (stat fr5) (T.obj _ _ st5)
      refine seg_bind_wrap (thnX (pg.run _ s5 (wipe σ vs) H5 x u _ I5' r5 (step x H5 y5)) fun _ s6 ⟨σ6, H6, I6, w6, q6⟩ => ?_)
      simp only [List.forIn_nil]
      refine seg_bind_wrap (wpAny_pure ?_)
      simp only [if_true]
      have hy : ∀ v, yieldOut env v = yieldValue v := fun v => by simp only [yieldOut, hco, Bool.false_eq_true, if_false]
      simp only [hy]
      rw [Sem.bind_eq_wrap', Sem.bind_eq_wrap', Sem.wrap_wrap, Sem.wrap_wrap]
      refine seg_wrap (thnX (pe.run _ s6 σ6 H6 _ I6 q6) fun yv s7 ⟨y, H7, I7, r7, b, ey, q7⟩ => ?_)
      subst ey
      obtain rfl : yv = Value.bool b := r7
      have st7 : tn (i + 1) s7.heap := T.keep _ _ _ st5 fun d hd o e => (I7.pin (d, o) (List.mem_append_right _ (List.mem_append_right _ (mem_pinsAt hd e)))).1
      have fr7 : ∀ d ∈ fp, H7 d = none := fun d hd => by
        obtain ⟨o, e, _⟩ := T.obj _ _ st5 d hd
        exact (I7.pin (d, o) (List.mem_append_right _ (List.mem_append_right _ (mem_pinsAt hd e)))).2.1
      have I7u := I7.unpinned
      have ga : s7.heap.get? a = some go := (I7u.pin (a, go) (List.mem_append_left _ (List.mem_singleton.mpr rfl))).1
      refine seg_at (seg_yield rfl rfl rfl ⟨b, H7, rfl, gen_back I hfp I7u, hgo _ ga, fun hb => ?_, fun hb s'' hk ho hg => ?_⟩)
      · rw [if_neg (by rw [hb]; cases c <;> decide)] at q7
        exact q7
      · rw [if_pos hb] at q7
        obtain ⟨m', hm', w7⟩ := hN H7 q7
        refine seg_again rfl (ih (i + 1) m' s'' s'' σ6 H7 (by omega) w6 ?_ (T.keep _ _ _ st7 fun d _ o e => hk d o e) fr7 w7)
        exact I7u.call' (ch := []) ho (Un.kept hk) (I7u.hok.kept hk) hg fun b z => absurd z (by simp)
end
end LW
set_option maxHeartbeats 1000000
namespace LW
open PySem PySem.Spec PyProof.Rows L2 GenW
section
variable {X : Cx} {pins : List (Addr × Obj)} {σ : L2.St}
theorem not_eq_c {b c : Bool} (h : b ≠ c) : b = !c := by cases b <;> cases c <;> first | rfl | exact absurd rfl h
theorem drain_all {A : Around} {R : Result → Shared → Prop} {a : Addr} {g : Nat} {Q : VK} (hh : A.handled = none) (hd : A.depth < recursionLimit)
    (hR : ∀ b s' H', Inv X pins σ H' s' → Q (.bl b) H' → R (.ok (.ret (.bool b))) s') :
    ∀ (n : Nat) (s : Shared) (H : Hp), s.heap.IsGen a g → Inv X pins σ H s →
      (∃ gs, s.gens[g]? = some gs ∧ gs.Goes (model X.prog X.w) A.in1.in1 (GRb X pins σ true Q) (GYb X pins σ a g true Q) n (.send .none) (s.setGen g .running)) →
      codeAny (model X.prog X.w) A (.builtin "all.loop" ⟨[.ref a], []⟩) R s := by
  intro n
  induction n with
  | zero =>
    intro s H hg I ⟨gs, hgs, hgo⟩
    refine codeAny_builtin F.entry_all_loop ?_
    rw [Around.under_plainId F.plain_all_loop _]
    show wpAny _ A.in1 (pyNext (.ref a) >>= _) _ _ s
    refine wpAny_bind (wpAny_pyNext_genexpQ (A := A.in1) (P := fun _ _ s₁ => ∃ H, Inv X pins σ H s₁ ∧ Q (.bl true) H) hh I.nolimit hd hg hgs hgo (fun v s₁ gs' hbare hv => ?_) (fun s₁ hp h' hk => ?_))
    · obtain ⟨b, H1, rfl, I1, hg1, hq, hk⟩ := hv
      by_cases hb : b = true
      · exact False.elim (hk hb s₁ (fun _ _ e => e) rfl I1.bare)
      · have hb' := not_eq_c hb
        subst hb'
        refine wpAny_bind (wpAny_holding (wpAny_truthy_bool ?_))
        refine wpAny_bind (wpAny_letGo ?_)
        simp only [Bool.not_true, Bool.false_eq_true, if_false]
        refine wpAny_bind (wpAny_rule (wpAny_pure ?_))
        exact hR false _ H1 (inv_gens I1 (allBare_setGen I1.bare hbare)) (hq rfl)
    · obtain ⟨H1, I1, hq⟩ := hp
      refine wpAny_bind (wpAny_rule (wpAny_pure ?_))
      exact hR true _ H1 (I1.call' (ch := []) rfl (Un.kept hk) (I1.hok.kept hk) (allBare_setGen I1.bare rfl) fun b z => absurd z (by simp)) hq
  | succ n ih =>
    intro s H hg I ⟨gs, hgs, hgo⟩
    have hgl : g < s.gens.size := (Array.getElem?_eq_some_iff.mp hgs).1
    refine codeAny_builtin F.entry_all_loop ?_
    rw [Around.under_plainId F.plain_all_loop _]
    show wpAny _ A.in1 (pyNext (.ref a) >>= _) _ _ s
    refine wpAny_bind (wpAny_gsz (n := g + 1) hgl (wpAny_pyNext_genexpQ (A := A.in1) (P := fun _ _ s₁ => ∃ H, Inv X pins σ H s₁ ∧ Q (.bl true) H) hh I.nolimit hd hg hgs hgo (fun v s₁ gs' hbare hv => ?_) (fun s₁ hp h' hk => ?_)))
    · intro hsz
      obtain ⟨b, H1, rfl, I1, hg1, hq, hk⟩ := hv
      refine wpAny_bind (wpAny_holding (wpAny_truthy_bool ?_))
      refine wpAny_bind (wpAny_letGo ?_)
      by_cases hb : b = true
      · subst hb
        simp only [if_true]
        have hsz1 : g < s₁.gens.size := by
          have q : (s₁.setGen g gs').gens.size = s₁.gens.size := setGen_size _ _ _
          have hsz' : g + 1 ≤ (s₁.setGen g gs').gens.size := hsz
          omega
        refine wpAny_pure ⟨plainId_quiet F.plain_all_loop _, ?_⟩
        refine ih (s₁.setGen g gs') H1 hg1 (inv_gens I1 (allBare_setGen I1.bare hbare)) ⟨gs', setGen_at hsz1, ?_⟩
        exact hk rfl _ (fun _ _ e => e) rfl (allBare_setGen (s := s₁.setGen g gs') (allBare_setGen I1.bare hbare) rfl)
      · have hb' := not_eq_c hb
        subst hb'
        simp only [Bool.not_true, Bool.false_eq_true, if_false]
        refine wpAny_bind (wpAny_rule (wpAny_pure ?_))
        exact hR false _ H1 (inv_gens I1 (allBare_setGen I1.bare hbare)) (hq rfl)
    · intro hsz
      obtain ⟨H1, I1, hq⟩ := hp
      refine wpAny_bind (wpAny_rule (wpAny_pure ?_))
      exact hR true _ H1 (I1.call' (ch := []) rfl (Un.kept hk) (I1.hok.kept hk) (allBare_setGen I1.bare rfl) fun b z => absurd z (by simp)) hq
theorem drain_any {A : Around} {R : Result → Shared → Prop} {a : Addr} {g : Nat} {Q : VK} (hh : A.handled = none) (hd : A.depth < recursionLimit)
    (hR : ∀ b s' H', Inv X pins σ H' s' → Q (.bl b) H' → R (.ok (.ret (.bool b))) s') :
    ∀ (n : Nat) (s : Shared) (H : Hp), s.heap.IsGen a g → Inv X pins σ H s →
      (∃ gs, s.gens[g]? = some gs ∧ gs.Goes (model X.prog X.w) A.in1.in1 (GRb X pins σ false Q) (GYb X pins σ a g false Q) n (.send .none) (s.setGen g .running)) →
      codeAny (model X.prog X.w) A (.builtin "any.loop" ⟨[.ref a], []⟩) R s := by
  intro n
  induction n with
  | zero =>
    intro s H hg I ⟨gs, hgs, hgo⟩
    refine codeAny_builtin F.entry_any_loop ?_
    rw [Around.under_plainId F.plain_any_loop _]
    show wpAny _ A.in1 (pyNext (.ref a) >>= _) _ _ s
    refine wpAny_bind (wpAny_pyNext_genexpQ (A := A.in1) (P := fun _ _ s₁ => ∃ H, Inv X pins σ H s₁ ∧ Q (.bl false) H) hh I.nolimit hd hg hgs hgo (fun v s₁ gs' hbare hv => ?_) (fun s₁ hp h' hk => ?_))
    · obtain ⟨b, H1, rfl, I1, hg1, hq, hk⟩ := hv
      by_cases hb : b = false
      · exact False.elim (hk hb s₁ (fun _ _ e => e) rfl I1.bare)
      · have hb' := not_eq_c hb
        subst hb'
        refine wpAny_bind (wpAny_holding (wpAny_truthy_bool ?_))
        refine wpAny_bind (wpAny_letGo ?_)
        simp only [Bool.not_false, if_true]
        refine wpAny_bind (wpAny_rule (wpAny_pure ?_))
        exact hR true _ H1 (inv_gens I1 (allBare_setGen I1.bare hbare)) (hq rfl)
    · obtain ⟨H1, I1, hq⟩ := hp
      refine wpAny_bind (wpAny_rule (wpAny_pure ?_))
      exact hR false _ H1 (I1.call' (ch := []) rfl (Un.kept hk) (I1.hok.kept hk) (allBare_setGen I1.bare rfl) fun b z => absurd z (by simp)) hq
  | succ n ih =>
    intro s H hg I ⟨gs, hgs, hgo⟩
    have hgl : g < s.gens.size := (Array.getElem?_eq_some_iff.mp hgs).1
    refine codeAny_builtin F.entry_any_loop ?_
    rw [Around.under_plainId F.plain_any_loop _]
    show wpAny _ A.in1 (pyNext (.ref a) >>= _) _ _ s
    refine wpAny_bind (wpAny_gsz (n := g + 1) hgl (wpAny_pyNext_genexpQ (A := A.in1) (P := fun _ _ s₁ => ∃ H, Inv X pins σ H s₁ ∧ Q (.bl false) H) hh I.nolimit hd hg hgs hgo (fun v s₁ gs' hbare hv => ?_) (fun s₁ hp h' hk => ?_)))
    · intro hsz
      obtain ⟨b, H1, rfl, I1, hg1, hq, hk⟩ := hv
      refine wpAny_bind (wpAny_holding (wpAny_truthy_bool ?_))
      refine wpAny_bind (wpAny_letGo ?_)
      by_cases hb : b = false
      · subst hb
        simp only [Bool.false_eq_true, if_false]
        have hsz1 : g < s₁.gens.size := by
          have q : (s₁.setGen g gs').gens.size = s₁.gens.size := setGen_size _ _ _
          have hsz' : g + 1 ≤ (s₁.setGen g gs').gens.size := hsz
          omega
        refine wpAny_pure ⟨plainId_quiet F.plain_any_loop _, ?_⟩
        refine ih (s₁.setGen g gs') H1 hg1 (inv_gens I1 (allBare_setGen I1.bare hbare)) ⟨gs', setGen_at hsz1, ?_⟩
        exact hk rfl _ (fun _ _ e => e) rfl (allBare_setGen (s := s₁.setGen g gs') (allBare_setGen I1.bare hbare) rfl)
      · have hb' := not_eq_c hb
        subst hb'
        simp only [Bool.not_false, if_true]
        refine wpAny_bind (wpAny_rule (wpAny_pure ?_))
        exact hR true _ H1 (inv_gens I1 (allBare_setGen I1.bare hbare)) (hq rfl)
    · intro hsz
      obtain ⟨H1, I1, hq⟩ := hp
      refine wpAny_bind (wpAny_rule (wpAny_pure ?_))
      exact hR false _ H1 (I1.call' (ch := []) rfl (Un.kept hk) (I1.hok.kept hk) (allBare_setGen I1.bare rfl) fun b z => absurd z (by simp)) hq
end
end LW
set_option maxHeartbeats 1000000
namespace LW
open PySem PySem.Spec PyProof.Rows L2 GenW
/-- the reading of all(..), any(..) of a generator expression: c: on what it goes on; P: the table of the def's code -/
def tGen (P : Addr) (wi : TI) (g : TG) (te : TE) (c : Bool) (vs : List Nat) : TE := fun σ H Q => wi σ H fun J H1 => GxR.TabG H1 P ∧ ∀ H2, GxR.Tabbed P H1 H2 → ∃ W : Nat → Nat → Hp → Prop, (∃ m, W 0 m H2) ∧ GW J g te c vs σ Q W
section
variable {X : Cx} {pins : List (Addr × Obj)} {σ : L2.St} {H : Hp} {s : Shared}
theorem gen_make {cd P : Addr} {elt tg iter : Expr} {gpos : Pos} {scope : Scope} {own : List (Str × Nat)} {wi : TI} {gT : TG} {te : TE} {c : Bool} {Q : VK} {k : Nat} {Q' : Value → Shared → Prop}
    (hr : Room (k + 3) X.A) (TB : GxR.TabB X.base X.mg cd P) (hcode : X.env.code = .ref cd) (S : GSc X.N X.env.scope scope own) (hN : X.N.Nodup) (hi : PI X tg iter wi)
    (hg : ∀ (A : Around) (s : Shared) (H : Hp) (C : Addr) (cl : List (Str × Addr)) (code : Value) (fp : List Addr) (pn : List (Addr × Obj)), PG (gblk X A s H scope (genEnv scope cl C code builtinsNs X.env) fp pn) tg gT)
    (he : ∀ (A : Around) (s : Shared) (H : Hp) (C : Addr) (cl : List (Str × Addr)) (code : Value) (fp : List Addr) (pn : List (Addr × Obj)), Room k A → PE (gblk X A s H scope (genEnv scope cl C code builtinsNs X.env) fp pn) elt te)
    (hs : ∀ v, genFold iter X.env v = pure v) (I : Inv X pins σ H s) (h : tGen P wi gT te c (own.map (·.2)) σ H Q)
    (hQ : ∀ (a : Addr) (g n : Nat) (H' : Hp) (s5 : Shared), s5.heap.IsGen a g → Inv X pins σ H' s5 →
      (∃ gs, s5.gens[g]? = some gs ∧ gs.Goes (model X.prog X.w) X.A.in1.in1 (GRb X pins σ c Q) (GYb X pins σ a g c Q) n (.send .none) (s5.setGen g .running)) → Q' (.ref a) s5) :
    wpAny (model X.prog X.w) X.A (eval (.GeneratorExp elt [⟨tg, iter, [], 0⟩] scope gpos) X.env) Q' X.xe s := by
  have hfree : ∀ y ∈ scope.names, y.2 = .free → ∃ c, X.env.cells.lookup y.1 = some c := fun y hy e => by
    rcases S.free y hy e with k | k
    · exact I.ok.has _ (.inl k)
    · exact I.ok.has _ (.inr k)
  refine wpAny_GeneratorExp_make S.co (closure_ok hfree) S.cell S.dot S.kind hr.depth ?_ hs
  refine thn (hi.run pins s σ H _ I h) fun xv s1 hx => thn hx fun itv s2 h2 => ?_
  obtain ⟨it, fp, tn, J, H2, e, I2, T, st2, f2, ⟨ps, hP, ht⟩, q⟩ := h2
  subst e
  refine ⟨I2.nolimit, ?_⟩
  have hPs : s2.heap.get? P = some { cls := .none, data := .fields ps } := I2.hok P _ hP
  have hPlt : P < s2.heap.objs.size := Heap.lt_size hPs
  have cdh : PySem.W.CodeHd s2.heap cd P := TB.code.keeps I2.bk
  have szfp : ∀ b ∈ fp, b < s2.heap.objs.size := fun b hb => by
    obtain ⟨o, e, _⟩ := T.obj _ _ st2 b hb
    exact Heap.lt_size e
  have neP : ∀ b ∈ fp, b ≠ P := fun b hb z => by
    have := (f2 b hb).1
    rw [z, hP] at this
    cases this
  have cont : ∀ (code : Value) (h3 : Heap) (tk : Nat) (ps' : Array Value), Heap.ExtBut P s2.heap h3 → s2.heap.objs.size ≤ h3.objs.size → h3.get? P = some { cls := .none, data := .fields ps' } → (∃ more, ps' = ps ++ more) → TriplesOk ps'.toList →
      wpAny (model X.prog X.w) X.A (builtinsFor X.env.globals X.env.builtins) (fun bi s₄ =>
        ∀ h', h'.Ns s₄.heap.objs.size (fun y => if y = ".0" then some (.ref it) else none) → Heap.SameBut s₄.heap.objs.size (s₄.heap.push { cls := .type "frame", data := .dict #[] }) h' →
          Q' (.ref h'.objs.size) { s₄ with
            gens := s₄.gens.push (.fresh (.compStart (.GeneratorExp elt [⟨tg, iter, [], 0⟩] scope gpos) 0 (.ref it) .none (genEnv scope (cloFrom X.env.cells scope.names []) s₄.heap.objs.size code bi X.env))),
            toks := s₄.toks + 1 + 1 + 1,
            heap := h'.push { cls := .type "generator", data := .fields #[.int s₄.gens.size 0, .str "<genexpr>" (s₄.toks + 1), .str (X.env.qual ++ "<genexpr>") (s₄.toks + 1 + 1)] } }) X.xe { s2 with heap := h3, toks := tk } := by
    intro code h3 tk ps' hx hsz hP3 hmore ht3
    obtain ⟨bm, ob, e1, e2, e3, e4, e5, e6, e7, e8⟩ := TB.bm
    have keep3 : ∀ b u, b ≠ P → s2.heap.get? b = some u → h3.get? b = some u := fun b u hb e => hx b u hb e
    refine wpAny_builtinsFor (m := X.mg) (by rw [I2.ok.glob]; exact ((I2.mod.glob.keeps I2.bk)).extBut hx TB.gP) e1 e2 (keep3 _ _ e4 (I2.bk _ _ e5)) e6 e7 e8 ?_
    obtain ⟨more, em⟩ := hmore
    have I3 := GxR.inv_tab (more := more) (h' := h3) (g' := s2.gens) (d' := s2.drawn) (t' := tk) I2 hP (fun b u hb e => keep3 b u hb e) (by rw [← em]; exact hP3) I2.bare
    generalize hH3 : upd H2 P (.tbl (ps ++ more)) = H3 at I3
    have hTab : GxR.Tabbed P H2 H3 := by
      rw [← hH3]
      exact ⟨⟨ps ++ more, upd_same, by rw [← em]; exact ht3⟩, fun b hb => upd_ne hb⟩
    obtain ⟨W, ⟨m0, w0⟩, hW⟩ := q H3 hTab
    have f3 : ∀ b ∈ fp, FpOk X pins H3 b := fun b hb => ⟨by rw [hTab.2 b (neP b hb)]; exact (f2 b hb).1, (f2 b hb).2⟩
    have st3 : tn 0 h3 := T.keep _ _ _ st2 fun b hb o e => keep3 b o (neP b hb) e
    generalize hs4 : ({ s2 with heap := h3, gens := s2.gens, drawn := s2.drawn, toks := tk } : Shared) = s4 at I3
    have hs4' : ({ s2 with heap := h3, toks := tk } : Shared) = s4 := by rw [← hs4]
    have h4 : s4.heap = h3 := by rw [← hs4]
    have g4 : s4.gens = s2.gens := by rw [← hs4]
    have b4 : AllBare s4.gens := I3.bare
    intro h' hn' hs'
    have hsz' : h'.objs.size = s4.heap.objs.size + 1 := by rw [hs'.1, Heap.size_push]
    have keep' : ∀ b o, s4.heap.get? b = some o → h'.get? b = some o := fun b o e => hs'.extBut b o (Nat.ne_of_lt (Heap.lt_size e)) (Heap.get?_push_of_some _ e)
    generalize hgo : ({ cls := .type "generator", data := .fields #[.int s4.gens.size 0, .str "<genexpr>" (s4.toks + 1), .str (X.env.qual ++ "<genexpr>") (s4.toks + 1 + 1)] } : Obj) = go
    have keep5 : ∀ b o, s4.heap.get? b = some o → (h'.push go).get? b = some o := fun b o e => Heap.get?_push_of_some _ (keep' b o e)
    have hga : (h'.push go).get? h'.objs.size = some go := Heap.get?_push_size _ (by rw [← hgo]; rfl)
    have isg : ∀ h : Heap, h.get? h'.objs.size = some go → h.IsGen h'.objs.size s4.gens.size := fun h e => ⟨go, _, _, e, by rw [← hgo], by rw [← hgo], by rw [← hgo]⟩
    have I5 : Inv X pins σ H3 { s4 with gens := s4.gens.push (.fresh (.compStart (.GeneratorExp elt [⟨tg, iter, [], 0⟩] scope gpos) 0 (.ref it) .none (genEnv scope (cloFrom X.env.cells scope.names []) s4.heap.objs.size code builtinsNs X.env))), toks := s4.toks + 1 + 1 + 1, heap := h'.push go } :=
      I3.call' (ch := []) rfl (Un.kept keep5) (I3.hok.kept keep5) (AllBare.push b4 rfl) fun b z => absurd z (by simp)
    refine hQ h'.objs.size s4.gens.size (m0 + 1) H3 _ (isg _ hga) I5 ⟨_, Array.getElem?_push_size .., rfl, ?_⟩
    generalize hs5 : (Shared.setGen { s4 with gens := s4.gens.push (.fresh (.compStart (.GeneratorExp elt [⟨tg, iter, [], 0⟩] scope gpos) 0 (.ref it) .none (genEnv scope (cloFrom X.env.cells scope.names []) s4.heap.objs.size code builtinsNs X.env))), toks := s4.toks + 1 + 1 + 1, heap := h'.push go } s4.gens.size .running) = s5
    have h5 : s5.heap = h'.push go := by rw [← hs5]; rfl
    have os5 : s5.os = s4.os := by rw [← hs5]; rfl
    have b5 : AllBare s5.gens := by rw [← hs5]; exact allBare_setGen (AllBare.push b4 rfl) rfl
    have hAf : (X.A.in1.in1).frames = some X.stack := I3.ok.frames
    have IY := gen_begin (A := X.A.in1.in1.over (.compLoop (.GeneratorExp elt [⟨tg, iter, [], 0⟩] scope gpos) 0 (.ref it) .none (genEnv scope (cloFrom X.env.cells scope.names []) s4.heap.objs.size code builtinsNs X.env)) []) (code := code) (fp := fp) (pn := [(h'.objs.size, go)]) (s5 := s5) I3 S hN
      (fun b hb => ⟨f3 b hb, by rw [h4]; exact Nat.lt_of_lt_of_le (szfp b hb) hsz⟩) hr.hd (over_gexp hAf) (fun b o e => by rw [h5]; exact keep5 b o e) (by rw [h5]; exact hn'.push _) os5 b5 (fun p hp => by
        rw [List.mem_singleton.mp hp]
        refine ⟨by rw [h5]; exact hga, by show s4.heap.objs.size < h'.objs.size; rw [hsz']; exact Nat.lt_succ_self _, fun v z => ?_⟩
        rw [← hgo] at z; cases z)
    have ltfp : ∀ b ∈ fp, b < s4.heap.objs.size := fun b hb => by rw [h4]; exact Nat.lt_of_lt_of_le (szfp b hb) hsz
    have loop := gen_loop (A := X.A.in1.in1) (scope := scope) (env := genEnv scope (cloFrom X.env.cells scope.names []) s4.heap.objs.size code builtinsNs X.env) (fp := fp) (a := h'.objs.size) (go := go) (g := s4.gens.size) (pos := gpos) (it := it)
      (vs := own.map (·.2)) (elt := elt) (tg := tg) (iter := iter) (c := c) (Q := Q) (W := W) I3 f3 (fun z => Nat.lt_irrefl _ (ltfp _ z)) (fun z => by
        have h6 := ltfp _ z
        rw [hsz'] at h6
        exact Nat.lt_irrefl _ (Nat.lt_trans (Nat.lt_succ_self _) h6)) S.co isg T (hg _ _ _ _ _ _ _ _) (he _ _ _ _ _ _ _ _ (room_gexp (Room.in1 (Room.in1 hr)))) hW
      (m0 + 1) 0 m0 s5 s5 (wipe σ (own.map (·.2))) H3 (Nat.lt_succ_self _) (wipe_wipe _ _) IY (by rw [h5]; exact T.keep _ _ _ st3 fun b _ o e => keep5 b o (by rw [h4]; exact e)) (fun b hb => (f3 b hb).1) w0
    have st5 : tn 0 s5.heap := by rw [h5]; exact T.keep _ _ _ st3 fun b _ o e => keep5 b o (by rw [h4]; exact e)
    show Seg _ _ _ _ _ _ _ ((compStart (.GeneratorExp elt [⟨tg, iter, [], 0⟩] scope gpos) 0 (.ref it) .none _).onRaise (leaving _)) [] s5
    unfold compStart
    rw [Sem.onRaise_eq_wrap]
    show Seg _ _ _ _ _ _ _ ((ask >>= _).wrap _ _ _ _) [] s5
    refine seg_bind_wrap (wpAny_askSetting ?_)
    split
    · exact seg_again rfl loop
    · first
        | exact seg_bind_wrap (wpAny_rule (seg_bind_wrap (wpAny_standAt (seg_bind_wrap (T.self _ 0 s5 _ _ st5 (seg_again rfl loop))))))
        | (refine seg_bind_wrap (wpAny_rule ?_); show Seg _ _ _ _ _ _ _ ((standAt iter.pos >>= _).wrap _ _ _ _) [] s5; exact seg_bind_wrap (wpAny_standAt (seg_bind_wrap (T.self _ 0 s5 _ _ st5 (seg_again rfl loop)))))
  cases hf : codeAmong gpos ps.toList with
  | none =>
    refine wpAny_genexprCodeX hcode (cdh.code hPs ht) (cdh.tab hPs) hf fun c' h' tk hx hge hlt hco' _ htab' _ => ?_
    obtain ⟨o1, vs, f1, tf, fl, tg', inF, tx, tt, op, _, _, _, _, _, _, _, _, _, htr, _⟩ := hco'
    exact cont _ h' tk _ hx (Nat.le_trans hge (Nat.le_of_lt hlt)) htab'.2 ⟨_, rfl⟩ htr
  | some cv =>
    refine wpAny_genexprCode_hit hcode (cdh.code hPs ht) hf ?_
    exact cont cv s2.heap s2.toks ps (Heap.ExtBut.refl _ _) (Nat.le_refl _) hPs ⟨#[], by simp⟩ ht
end
end LW
set_option maxHeartbeats 1000000
namespace LW
open PySem PySem.Spec PyProof.Rows L2 GenW
section
variable {X : Cx}
theorem pe_allG {cd P : Addr} {elt tg iter : Expr} {p pos gpos : Pos} {scope : Scope} {own : List (Str × Nat)} {wi : TI} {gT : TG} {te : TE} {k : Nat}
    (hr : Room (k + 3) X.A) (hgl : Gl X "all") (hm : X.mg "all" = none) (hb : bootBuiltins "all" = some (.builtin "all")) (TB : GxR.TabB X.base X.mg cd P) (hcode : X.env.code = .ref cd) (S : GSc X.N X.env.scope scope own) (hN : X.N.Nodup) (hi : PI X tg iter wi)
    (hg : ∀ (A : Around) (s : Shared) (H : Hp) (C : Addr) (cl : List (Str × Addr)) (code : Value) (fp : List Addr) (pn : List (Addr × Obj)), PG (gblk X A s H scope (genEnv scope cl C code builtinsNs X.env) fp pn) tg gT)
    (he : ∀ (A : Around) (s : Shared) (H : Hp) (C : Addr) (cl : List (Str × Addr)) (code : Value) (fp : List Addr) (pn : List (Addr × Obj)), Room k A → PE (gblk X A s H scope (genEnv scope cl C code builtinsNs X.env) fp pn) elt te)
    (hs : ∀ v, genFold iter X.env v = pure v := by intro _; rfl)
    (hse : starEach [.GeneratorExp elt [⟨tg, iter, [], 0⟩] scope gpos] X.env = (false, eval (.GeneratorExp elt [⟨tg, iter, [], 0⟩] scope gpos) X.env) :: starEach [] X.env := by rfl) :
    PE X (.Call (.Name "all" p) [.GeneratorExp elt [⟨tg, iter, [], 0⟩] scope gpos] [] pos) (tGen P wi gT te true (own.map (·.2))) := by
  refine ⟨fun pins s σ H Q I h => ?_⟩
  refine wpAny_Call_Name_kw (ld_blt I hgl hm hb ?_)
  refine PyProof.Rows.callWith_builtin1 ?_ hse (by rfl)
  rw [hse]
  show wpAny _ _ (spliced ((false, eval (.GeneratorExp elt [⟨tg, iter, [], 0⟩] scope gpos) X.env) :: backTo pos (starEach [] X.env))) _ _ s
  refine Calls.spliced_cons (gen_make (c := true) (Q := Q) hr TB hcode S hN hi hg he hs I h fun a g n H' s5 hga I5 hgo => ?_)
  refine Calls.spliced_nil ?_
  refine call_function_tree F.kind_all F.plain_all F.entry_all (F.args_all1 _) ?_
  unfold Builtin.«all»
  refine wpAny_bind (m := oneArg "all" _) (wpAny_pure ?_)
  refine wpAny_bind (wpAny_pyIter_gen hga ?_)
  exact wpAny_pure ⟨plainId_quiet F.plain_all_loop _, drain_all hr.hd hr.depth (fun b s' H' I' q => ⟨.bl b, H', I', rfl, q⟩) n s5 H' hga I5 hgo⟩
theorem pe_anyG {cd P : Addr} {elt tg iter : Expr} {p pos gpos : Pos} {scope : Scope} {own : List (Str × Nat)} {wi : TI} {gT : TG} {te : TE} {k : Nat}
    (hr : Room (k + 3) X.A) (hgl : Gl X "any") (hm : X.mg "any" = none) (TB : GxR.TabB X.base X.mg cd P) (hcode : X.env.code = .ref cd) (S : GSc X.N X.env.scope scope own) (hN : X.N.Nodup) (hi : PI X tg iter wi)
    (hg : ∀ (A : Around) (s : Shared) (H : Hp) (C : Addr) (cl : List (Str × Addr)) (code : Value) (fp : List Addr) (pn : List (Addr × Obj)), PG (gblk X A s H scope (genEnv scope cl C code builtinsNs X.env) fp pn) tg gT)
    (he : ∀ (A : Around) (s : Shared) (H : Hp) (C : Addr) (cl : List (Str × Addr)) (code : Value) (fp : List Addr) (pn : List (Addr × Obj)), Room k A → PE (gblk X A s H scope (genEnv scope cl C code builtinsNs X.env) fp pn) elt te)
    (hs : ∀ v, genFold iter X.env v = pure v := by intro _; rfl)
    (hse : starEach [.GeneratorExp elt [⟨tg, iter, [], 0⟩] scope gpos] X.env = (false, eval (.GeneratorExp elt [⟨tg, iter, [], 0⟩] scope gpos) X.env) :: starEach [] X.env := by rfl) :
    PE X (.Call (.Name "any" p) [.GeneratorExp elt [⟨tg, iter, [], 0⟩] scope gpos] [] pos) (tGen P wi gT te false (own.map (·.2))) := by
  refine ⟨fun pins s σ H Q I h => ?_⟩
  refine wpAny_Call_Name_kw (ld_blt I hgl hm boot_any ?_)
  refine PyProof.Rows.callWith_builtin1 ?_ hse (by rfl)
  rw [hse]
  show wpAny _ _ (spliced ((false, eval (.GeneratorExp elt [⟨tg, iter, [], 0⟩] scope gpos) X.env) :: backTo pos (starEach [] X.env))) _ _ s
  refine Calls.spliced_cons (gen_make (c := false) (Q := Q) hr TB hcode S hN hi hg he hs I h fun a g n H' s5 hga I5 hgo => ?_)
  refine Calls.spliced_nil ?_
  refine call_function_tree F.kind_any F.plain_any F.entry_any (F.args_any1 _) ?_
  unfold Builtin.«any»
  refine wpAny_bind (m := oneArg "any" _) (wpAny_pure ?_)
  refine wpAny_bind (wpAny_pyIter_gen hga ?_)
  exact wpAny_pure ⟨plainId_quiet F.plain_any_loop _, drain_any hr.hd hr.depth (fun b s' H' I' q => ⟨.bl b, H', I', rfl, q⟩) n s5 H' hga I5 hgo⟩
end
/-- over a tuple -/
theorem gw_tup {K : PySem.W.Frag} {a : Addr} {xs : List V} {g : TG} {te : TE} {c : Bool} {vs : List Nat} {σ : L2.St} {H1 : Hp} {Q : VK} (Pv : Nat → Hp → Prop) (h0 : Pv 0 H1) (hl : ∀ i H, i ≤ xs.length → Pv i H → SqT K H a xs)
    (hs : ∀ i x H, xs[i]? = some x → Pv i H → g x (wipe σ vs) H fun σ2 H2 => wipe σ2 vs = wipe σ vs ∧ te σ2 H2 fun y H3 => ∃ b, y = .bl b ∧ if b = c then Pv (i + 1) H3 else Q (.bl (!c)) H3)
    (hd : ∀ H, Pv xs.length H → Q (.bl c) H) : ∃ W : Nat → Nat → Hp → Prop, (∃ m, W 0 m H1) ∧ GW (Itt K a) g te c vs σ Q W := by
  refine ⟨fun i m H => m = xs.length - i ∧ i ≤ xs.length ∧ Pv i H, ⟨xs.length, by simp, Nat.zero_le _, h0⟩, ?_⟩
  rintro i m H ⟨rfl, hi, p⟩
  have q := hl i H hi p
  by_cases hlt : i < xs.length
  · refine .inr ⟨⟨xs, xs[i], q, by simp [hlt]⟩, Pv (i + 1), fun H' p' => ⟨xs.length - (i + 1), by omega, rfl, hlt, p'⟩, fun x H' y => ?_⟩
    obtain ⟨e, y⟩ := y
    subst e
    exact hs i x _ (y xs q) p
  · have e : i = xs.length := by omega
    subst e
    exact .inl ⟨⟨xs, q, Nat.le_refl _⟩, hd H p⟩
theorem gw_list {K : PySem.W.Frag} {a : Addr} {xs : List V} {g : TG} {te : TE} {c : Bool} {vs : List Nat} {σ : L2.St} {H1 : Hp} {Q : VK} (Pv : Nat → Hp → Prop) (h0 : Pv 0 H1) (hl : ∀ i H, i ≤ xs.length → Pv i H → SqL K H a xs)
    (hs : ∀ i x H, xs[i]? = some x → Pv i H → g x (wipe σ vs) H fun σ2 H2 => wipe σ2 vs = wipe σ vs ∧ te σ2 H2 fun y H3 => ∃ b, y = .bl b ∧ if b = c then Pv (i + 1) H3 else Q (.bl (!c)) H3)
    (hd : ∀ H, Pv xs.length H → Q (.bl c) H) : ∃ W : Nat → Nat → Hp → Prop, (∃ m, W 0 m H1) ∧ GW (Itl K a) g te c vs σ Q W := by
  refine ⟨fun i m H => m = xs.length - i ∧ i ≤ xs.length ∧ Pv i H, ⟨xs.length, by simp, Nat.zero_le _, h0⟩, ?_⟩
  rintro i m H ⟨rfl, hi, p⟩
  have q := hl i H hi p
  by_cases hlt : i < xs.length
  · refine .inr ⟨⟨xs, xs[i], q, by simp [hlt]⟩, Pv (i + 1), fun H' p' => ⟨xs.length - (i + 1), by omega, rfl, hlt, p'⟩, fun x H' y => ?_⟩
    obtain ⟨e, y⟩ := y
    subst e
    exact hs i x _ (y xs q) p
  · have e : i = xs.length := by omega
    subst e
    exact .inl ⟨⟨xs, q, Nat.le_refl _⟩, hd H p⟩
/-- over a range -/
theorem gw_range {lo : Int} {n : Nat} {g : TG} {te : TE} {c : Bool} {vs : List Nat} {σ : L2.St} {H1 : Hp} {Q : VK} (Pv : Nat → Hp → Prop) (h0 : Pv 0 H1)
    (hs : ∀ i H, i < n → Pv i H → g (.int (lo + i)) (wipe σ vs) H fun σ2 H2 => wipe σ2 vs = wipe σ vs ∧ te σ2 H2 fun y H3 => ∃ b, y = .bl b ∧ if b = c then Pv (i + 1) H3 else Q (.bl (!c)) H3)
    (hd : ∀ H, Pv n H → Q (.bl c) H) : ∃ W : Nat → Nat → Hp → Prop, (∃ m, W 0 m H1) ∧ GW (Itr lo n) g te c vs σ Q W := by
  refine ⟨fun i m H => m = n - i ∧ i ≤ n ∧ Pv i H, ⟨n, by simp, Nat.zero_le _, h0⟩, ?_⟩
  rintro i m H ⟨rfl, hi, p⟩
  by_cases hlt : i < n
  · refine .inr ⟨hlt, Pv (i + 1), fun H' p' => ⟨n - (i + 1), by omega, rfl, hlt, p'⟩, fun x H' y => ?_⟩
    obtain ⟨e, y⟩ := y
    subst e
    subst y
    exact hs i _ hlt p
  · have e : i = n := by omega
    subst e
    exact .inl ⟨Nat.le_refl _, hd H p⟩
end LW
set_option maxHeartbeats 1000000
namespace LW
open PySem PySem.Spec PyProof.Rows L2
/-! ### growth of the abstract heap: what stands stays but for the places in m; tables grow -/
structure Gr (m : List Addr) (H H' : Hp) : Prop where
  keep : ∀ b o, b ∉ m → H b = some o → (∀ ps, o ≠ .tbl ps) → H' b = some o
  tab : ∀ P, GxR.TabG H P → GxR.TabG H' P
  free : ∀ p, H' p = none → H p = none
theorem upd_none' {H : Hp} {a b : Addr} {o : HO} (e : upd H a o b = none) : H b = none := by
  by_cases h : b = a
  · rw [h, upd_same] at e; cases e
  · rw [upd_ne h] at e; exact e
theorem tabG_tbl {H : Hp} {P : Addr} (t : GxR.TabG H P) : ∃ ps, H P = some (.tbl ps) := let ⟨ps, h, _⟩ := t; ⟨ps, h⟩
theorem Gr.refl {m : List Addr} (H : Hp) : Gr m H H := ⟨fun _ _ _ h _ => h, fun _ h => h, fun _ h => h⟩
theorem Gr.trans {m : List Addr} {H H1 H2 : Hp} (a : Gr m H H1) (b : Gr m H1 H2) : Gr m H H2 := ⟨fun c o hm h n => b.keep c o hm (a.keep c o hm h n) n, fun P t => b.tab P (a.tab P t), fun p h => a.free p (b.free p h)⟩
theorem Gr.mono {m m' : List Addr} {H H1 : Hp} (a : Gr m H H1) (h : ∀ b ∈ m, b ∈ m') : Gr m' H H1 := ⟨fun c o hm => a.keep c o fun z => hm (h c z), a.tab, a.free⟩
theorem Gr.any {m : List Addr} {H H1 : Hp} (a : Gr [] H H1) : Gr m H H1 := a.mono fun _ z => by cases z
/-- a new object -/
theorem Gr.new {m : List Addr} {H : Hp} {p : Addr} {o : HO} (h : H p = none) : Gr m H (upd H p o) :=
  ⟨fun b u _ q _ => by rw [upd_ne (ne_of_none q h)]; exact q, fun P ⟨ps, q, t⟩ => ⟨ps, by rw [upd_ne (ne_of_none q h)]; exact q, t⟩, fun _ => upd_none'⟩
/-- an object at a is written -/
theorem Gr.put {m : List Addr} {H : Hp} {p : Addr} {o u : HO} (h : H p = some u) (n : ∀ ps, u ≠ .tbl ps) (hm : p ∈ m) : Gr m H (upd H p o) :=
  ⟨fun b v hb q _ => by rw [upd_ne (show b ≠ p from fun z => hb (by rw [z]; exact hm))]; exact q, fun P ⟨ps, q, t⟩ => ⟨ps, by rw [upd_ne (fun z => n ps (by rw [z, h] at q; exact Option.some.inj q))]; exact q, t⟩, fun _ => upd_none'⟩
/-- a new object that was new already ahead -/
theorem Gr.put0 {m : List Addr} {H H1 : Hp} {p : Addr} {o : HO} (g : Gr m H H1) (h : H p = none) : Gr m H (upd H1 p o) :=
  ⟨fun b v hb q n => by rw [upd_ne (ne_of_none q h)]; exact g.keep b v hb q n, fun P t => by
    obtain ⟨ps, q⟩ := tabG_tbl t
    obtain ⟨ps', q', t'⟩ := g.tab P t
    exact ⟨ps', by rw [upd_ne (ne_of_none q h)]; exact q', t'⟩, fun _ e => g.free _ (upd_none' e)⟩
/-- what was new ahead of the written place does not count -/
theorem Gr.drop {m : List Addr} {H H1 : Hp} {p : Addr} (g : Gr (p :: m) H H1) (h : H p = none) : Gr m H H1 :=
  ⟨fun b v hb q n => g.keep b v (fun z => (List.mem_cons.mp z).elim (ne_of_none q h) hb) q n, g.tab, g.free⟩
theorem Gr.lst {m : List Addr} {H H' : Hp} {a : Addr} {xs : List V} (g : Gr m H H') (hm : a ∉ m) (h : H a = some (.lst xs)) : H' a = some (.lst xs) := g.keep a _ hm h fun _ z => by cases z
theorem Gr.tup {m : List Addr} {H H' : Hp} {a : Addr} {xs : List V} (g : Gr m H H') (hm : a ∉ m) (h : H a = some (.tup xs)) : H' a = some (.tup xs) := g.keep a _ hm h fun _ z => by cases z
theorem Gr.sqT {H H' : Hp} {K : PySem.W.Frag} {a : Addr} {xs : List V} (g : Gr [] H H') (h : SqT K H a xs) : SqT K H' a xs := by
  rcases h with (h | ⟨o, h⟩) | h
  · exact .inl (.inl (g.tup (by simp) h))
  · exact .inl (.inr ⟨o, g.keep _ _ (by simp) h fun _ z => by cases z⟩)
  · exact .inr h
theorem Gr.sqL {H H' : Hp} {K : PySem.W.Frag} {a : Addr} {xs : List V} (g : Gr [] H H') (h : SqL K H a xs) : SqL K H' a xs := by
  rcases h with (h | ⟨o, h⟩) | h
  · exact .inl (.inl (g.lst (by simp) h))
  · exact .inl (.inr ⟨o, g.keep _ _ (by simp) h fun _ z => by cases z⟩)
  · exact .inr h
/-- a list is no tuple: places of tuples are apart from written lists -/
theorem Gr.sqTm {m : List Addr} {H H' : Hp} {K : PySem.W.Frag} {a : Addr} {xs : List V} (g : Gr m H H') (hm : ∀ b ∈ m, ∃ ys, H b = some (.lst ys)) (h : SqT K H a xs) : SqT K H' a xs := by
  rcases h with (h | ⟨o, h⟩) | h
  · exact .inl (.inl (g.tup (fun z => by obtain ⟨ys, q⟩ := hm a z; rw [h] at q; cases q) h))
  · exact .inl (.inr ⟨o, g.keep _ _ (fun z => by obtain ⟨ys, q⟩ := hm a z; rw [h] at q; cases q) h fun _ z => by cases z⟩)
  · exact .inr h
theorem Tabbed.gr {P : Addr} {H H' : Hp} (t : GxR.TabG H P) (h : GxR.Tabbed P H H') : Gr [] H H' := by
  obtain ⟨ps, q⟩ := tabG_tbl t
  refine ⟨fun b o _ e n => ?_, fun P' t' => ?_, fun b e => ?_⟩
  · rw [h.2 b (fun z => n ps (by rw [z, q] at e; exact (Option.some.inj e).symm))]
    exact e
  · by_cases e : P' = P
    · rw [e]; exact h.1
    · obtain ⟨ps', q', z⟩ := t'
      exact ⟨ps', by rw [h.2 P' e]; exact q', z⟩
  · by_cases z : b = P
    · obtain ⟨ps', q', _⟩ := h.1
      rw [z, q'] at e; cases e
    · rw [h.2 b z] at e; exact e
/-- the tables that stand -/
def Tbs (Ts : List Addr) (H : Hp) : Prop := ∀ P ∈ Ts, GxR.TabG H P
theorem Tbs.gr {Ts m : List Addr} {H H' : Hp} (t : Tbs Ts H) (g : Gr m H H') : Tbs Ts H' := fun P hP => g.tab P (t P hP)

/-! ### data -/
abbrev noLists : PyData → Bool := fun _ => true
mutual
theorem dp_gr {K : PySem.W.Frag} {H H' : Hp} {m : List Addr} (g : Gr m H H') (hm : m = []) : ∀ (d : PyData) (v : V), Dp K H v d → Dp K H' v d
  | .none, _, h => by cases h; exact .non
  | .bool b, _, h => by cases h; exact .bl b
  | .int i, _, h => by cases h; exact .int i
  | .str x, _, h => by cases h; exact .str x
  | .list ds, _, h => by
    subst hm
    cases h with
    | lst hs ha => exact .lst (g.sqL hs) (dpAll_gr g rfl ds _ ha)
  | .tuple ds, _, h => by
    subst hm
    cases h with
    | tup hs ha => exact .tup (g.sqT hs) (dpAll_gr g rfl ds _ ha)
  | .dict _, _, h => by cases h
theorem dpAll_gr {K : PySem.W.Frag} {H H' : Hp} {m : List Addr} (g : Gr m H H') (hm : m = []) : ∀ (ds : List PyData) (vs : List V), DpAll K H vs ds → DpAll K H' vs ds
  | [], _, h => by cases h; exact .nil
  | d :: ds, _, h => by
    cases h with
    | cons h1 h2 => exact .cons (dp_gr g hm d _ h1) (dpAll_gr g hm ds _ h2)
end
/-! data without lists -/
mutual
def pure1 : PyData → Bool
  | .list _ => false
  | .dict _ => false
  | .tuple ds => pureAll ds
  | _ => true
def pureAll : List PyData → Bool
  | [] => true
  | d :: ds => pure1 d && pureAll ds
end
mutual
theorem dp_grm {K : PySem.W.Frag} {H H' : Hp} {m : List Addr} (g : Gr m H H') (hm : ∀ b ∈ m, ∃ ys, H b = some (.lst ys)) : ∀ (d : PyData) (v : V), pure1 d = true → Dp K H v d → Dp K H' v d
  | .none, _, _, h => by cases h; exact .non
  | .bool b, _, _, h => by cases h; exact .bl b
  | .int i, _, _, h => by cases h; exact .int i
  | .str x, _, _, h => by cases h; exact .str x
  | .list ds, _, p, h => nomatch p
  | .tuple ds, _, p, h => by
    cases h with
    | tup hs ha => exact .tup (g.sqTm hm hs) (dpAll_grm g hm ds _ p ha)
  | .dict _, _, _, h => by cases h
theorem dpAll_grm {K : PySem.W.Frag} {H H' : Hp} {m : List Addr} (g : Gr m H H') (hm : ∀ b ∈ m, ∃ ys, H b = some (.lst ys)) : ∀ (ds : List PyData) (vs : List V), pureAll ds = true → DpAll K H vs ds → DpAll K H' vs ds
  | [], _, _, h => by cases h; exact .nil
  | d :: ds, _, p, h => by
    have p' : pure1 d = true ∧ pureAll ds = true := by
      have q : (pure1 d && pureAll ds) = true := p
      simpa using q
    cases h with
    | cons h1 h2 => exact .cons (dp_grm g hm d _ p'.1 h1) (dpAll_grm g hm ds _ p'.2 h2)
end
end LW
namespace L2
open PySem PySem.Spec PyProof.Rows LW
section
variable {K : PySem.W.Frag} {H : Hp}
theorem Dp.gr {H' : Hp} {v : V} {d : PyData} (h : Dp K H v d) (g : Gr [] H H') : Dp K H' v d := dp_gr g rfl d v h
theorem DpAll.gr {H' : Hp} {vs : List V} {ds : List PyData} (h : DpAll K H vs ds) (g : Gr [] H H') : DpAll K H' vs ds := dpAll_gr g rfl ds vs h
theorem DpAll.length : ∀ {vs : List V} {ds : List PyData}, DpAll K H vs ds → vs.length = ds.length
  | _, _, .nil => rfl
  | _, _, .cons _ t => congrArg (· + 1) (DpAll.length t)
theorem DpAll.get : ∀ {vs : List V} {ds : List PyData} {i : Nat} {v : V}, DpAll K H vs ds → vs[i]? = some v → ∃ d, ds[i]? = some d ∧ Dp K H v d
  | _, _, _, _, .nil, e => by simp at e
  | _, _, 0, _, .cons h _, e => by simp at e; subst e; exact ⟨_, rfl, h⟩
  | _, _, i + 1, v, .cons _ t, e => by
    obtain ⟨d, h1, h2⟩ := DpAll.get (i := i) (v := v) t (by simpa using e)
    exact ⟨d, by simpa using h1, h2⟩
theorem DpAll.at : ∀ {vs : List V} {ds : List PyData} {i : Nat} {d : PyData}, DpAll K H vs ds → ds[i]? = some d → ∃ v, vs[i]? = some v ∧ Dp K H v d
  | _, _, _, _, .nil, e => by simp at e
  | _, _, 0, _, .cons h _, e => by simp at e; subst e; exact ⟨_, rfl, h⟩
  | _, _, i + 1, d, .cons _ t, e => by
    obtain ⟨v, h1, h2⟩ := DpAll.at (i := i) (d := d) t (by simpa using e)
    exact ⟨v, by simpa using h1, h2⟩
theorem DpAll.append : ∀ {vs ws : List V} {ds es : List PyData}, DpAll K H vs ds → DpAll K H ws es → DpAll K H (vs ++ ws) (ds ++ es)
  | _, _, _, _, .nil, s => s
  | _, _, _, _, .cons h t, s => .cons h (DpAll.append t s)
theorem DpAll.take : ∀ {vs : List V} {ds : List PyData} (n : Nat), DpAll K H vs ds → DpAll K H (vs.take n) (ds.take n)
  | _, _, 0, _ => .nil
  | _, _, _ + 1, .nil => .nil
  | _, _, n + 1, .cons r t => .cons r (DpAll.take n t)
theorem DpAll.drop : ∀ {vs : List V} {ds : List PyData} (n : Nat), DpAll K H vs ds → DpAll K H (vs.drop n) (ds.drop n)
  | _, _, 0, r => r
  | _, _, _ + 1, .nil => .nil
  | _, _, n + 1, .cons _ t => DpAll.drop n t
theorem Dp.tupI {v : V} {ds : List PyData} (h : Dp K H v (.tuple ds)) : ∃ a xs, v = .ref a ∧ SqT K H a xs ∧ DpAll K H xs ds := by
  cases h with
  | tup hs ha => exact ⟨_, _, rfl, hs, ha⟩
theorem Dp.intI {v : V} {i : Int} (h : Dp K H v (.int i)) : v = .int i := by cases h; rfl
/-- a value's type -/
def tyD : PyData → String
  | .none => "NoneType" | .bool _ => "bool" | .int _ => "int" | .str _ => "str" | .list _ => "list" | .tuple _ => "tuple" | .dict _ => "dict"
theorem Dp.ty {v : V} {d : PyData} (h : Dp K H v d) : TyX K H v (.type (tyD d)) := by
  cases h with
  | non => exact .base .non
  | bl b => exact .base (.bl b)
  | int i => exact .base (.int i)
  | str x => exact .base (.str x)
  | lst hs ha =>
    rcases hs with (h | ⟨o, h⟩) | ⟨o, its, n, h, c, _⟩
    · exact .base (.lst h)
    · exact .base (.frz h)
    · exact .kList h c
  | tup hs ha =>
    rcases hs with (h | ⟨o, h⟩) | ⟨o, its, n, h, c, _⟩
    · exact .base (.tup h)
    · exact .fTuple h
    · exact .kTuple h c
def isIntD : PyData → Bool
  | .int _ => true | .bool _ => true | _ => false
def isBoolD : PyData → Bool
  | .bool _ => true | _ => false
def isTupD : PyData → Bool
  | .tuple _ => true | _ => false
theorem kit_int (d : PyData) : PySem.W.kitOne K (.type (tyD d)) (.type "int") = some (isIntD d) := by
  have h : ∀ x : String × Bool, x ∈ [("NoneType", false), ("bool", true), ("int", true), ("str", false), ("list", false), ("tuple", false), ("dict", false)] → kitB x.1 "int" = some x.2 := by decide +kernel
  cases d <;> exact kit_ty (h (_, _) (by simp [tyD, isIntD]))
theorem kit_bool (d : PyData) : PySem.W.kitOne K (.type (tyD d)) (.type "bool") = some (isBoolD d) := by
  have h : ∀ x : String × Bool, x ∈ [("NoneType", false), ("bool", true), ("int", false), ("str", false), ("list", false), ("tuple", false), ("dict", false)] → kitB x.1 "bool" = some x.2 := by decide +kernel
  cases d <;> exact kit_ty (h (_, _) (by simp [tyD, isBoolD]))
theorem kit_tup (d : PyData) : PySem.W.kitOne K (.type (tyD d)) (.type "tuple") = some (isTupD d) := by
  have h : ∀ x : String × Bool, x ∈ [("NoneType", false), ("bool", false), ("int", false), ("str", false), ("list", false), ("tuple", true), ("dict", false)] → kitB x.1 "tuple" = some x.2 := by decide +kernel
  cases d <;> exact kit_ty (h (_, _) (by simp [tyD, isTupD]))
end
end L2
namespace LW
open PySem PySem.Spec PyProof.Rows L2
/-! ### a def that is called by its name -/
structure Fn (P : Program) (w : World) (K : PySem.W.Frag) (mg : Str → Option Value) (base : Heap) (CX : CXT) (k : Nat) (name : Str) (ps : List Str) (sp : Sp) : Prop where
  ex : ∃ f fd, FnOk P w K mg base CX k f fd ps sp ∧ mg name = some (.ref f) ∧ PySem.W.keepIn K (.ref f) = true ∧ Binds K fd ps []
theorem Fn.mono {P : Program} {w : World} {K : PySem.W.Frag} {mg : Str → Option Value} {base : Heap} {CX : CXT} {j k : Nat} {name : Str} {ps : List Str} {sp : Sp} (F : Fn P w K mg base CX j name ps sp) (h : j ≤ k) : Fn P w K mg base CX k name ps sp := by
  obtain ⟨f, fd, F, m, kk, b⟩ := F.ex
  exact ⟨f, fd, F.mono h, m, kk, b⟩
theorem pe_fn {X : Cx} {CX : CXT} {k : Nat} {x : Str} {ps : List Str} {sp : Sp} {E : XK} {p pos : Pos} {e : Expr} {es : List Expr} {t : TA} (F : Fn X.prog X.w X.K X.mg X.base CX k x ps sp) (hr : Room k X.A) (hg : Gl X x) (hx : Passes CX X E) (ht : PA X (e :: es) t)
    (hdb : (x == ("__debug__" : Str)) = false := by decide) (he : starEach (e :: es) X.env = (false, eval e X.env) :: starEach es X.env := by rfl) (hpl : (backTo pos (starEach es X.env)).any (·.1) = false := by rfl) :
    PE X (.Call (.Name x p) (e :: es) [] pos) (tCall sp [] E t) := by
  obtain ⟨f, fd, F, hm, hk, hb⟩ := F.ex
  exact pe_call F hr hg hm hk hb .nil hx ht hdb he hpl
end LW
namespace LW
open PySem PySem.Spec PyProof.Rows L2
/-! where the text's statements stand -/
def topS (i : Nat) : Stmt := PySem.Challenge.pw_leafward_k05_what_is_a_transformation.main.body.getD i (.Pass ⟨0, 0, 0, 0⟩)
abbrev s__wall : Stmt := topS 0
abbrev c_LeafwardError : Stmt := topS 2
abbrev c_BadDocument : Stmt := topS 3
abbrev c_BadSchema : Stmt := topS 4
abbrev c_BadTransformation : Stmt := topS 5
abbrev c_BadText : Stmt := topS 6
abbrev c_TooMuch : Stmt := topS 7
abbrev s_is_below : Stmt := topS 9
abbrev s_is_tuple_of : Stmt := topS 10
abbrev s_is_rising : Stmt := topS 11
abbrev s_is_set : Stmt := topS 12
abbrev s_check_document : Stmt := topS 17
abbrev s_is_document : Stmt := topS 18
abbrev s_is_tree : Stmt := topS 19
abbrev c_Choosing : Stmt := topS 21
abbrev s_Choosing___init__ : Stmt := inClass (topS 21) 0
abbrev s_Choosing_templates_for : Stmt := inClass (topS 21) 1
abbrev s_first_choice : Stmt := topS 22
abbrev c_Steps : Stmt := topS 24
abbrev s_Steps___init__ : Stmt := inClass (topS 24) 0
abbrev s_Steps_after : Stmt := inClass (topS 24) 1
abbrev s_Steps_row : Stmt := inClass (topS 24) 2
abbrev s_kind_of : Stmt := topS 25
abbrev s_bits_of : Stmt := topS 26
abbrev s_states_of : Stmt := topS 27
abbrev s_ends_of : Stmt := topS 28
abbrev s_rules_of : Stmt := topS 29
abbrev s_rules_by_label : Stmt := topS 30
abbrev s_row_of : Stmt := topS 31
abbrev c_Making : Stmt := topS 35
abbrev s_Making___init__ : Stmt := inClass (topS 35) 0
abbrev s_Making_number_of : Stmt := inClass (topS 35) 1
abbrev s_Making_source : Stmt := inClass (topS 35) 2
abbrev s_Making_measure_all : Stmt := inClass (topS 35) 3
abbrev s_Making_measure : Stmt := inClass (topS 35) 4
abbrev s_Making_measure_part : Stmt := inClass (topS 35) 5
abbrev s_Making_made : Stmt := inClass (topS 35) 6
abbrev s_Making_build : Stmt := inClass (topS 35) 7
abbrev s_is_beyond : Stmt := topS 36
abbrev c_Leasts : Stmt := topS 38
abbrev s_Leasts___init__ : Stmt := inClass (topS 38) 0
abbrev s_Leasts_choose : Stmt := inClass (topS 38) 1
abbrev s_Leasts_choose_first : Stmt := inClass (topS 38) 2
abbrev s_Leasts_has_any : Stmt := inClass (topS 38) 3
abbrev s_Leasts_least_of : Stmt := inClass (topS 38) 4
abbrev s_Leasts_document : Stmt := inClass (topS 38) 5
abbrev s_Leasts_build : Stmt := inClass (topS 38) 6
abbrev s_least_sizes : Stmt := topS 39
abbrev s_size_by : Stmt := topS 40
abbrev s_fitting_rules : Stmt := topS 41
abbrev s_check_schema : Stmt := topS 45
abbrev s_is_schema : Stmt := topS 46
abbrev s_is_state : Stmt := topS 47
abbrev s_is_state_schema : Stmt := topS 47
abbrev s_are_rules : Stmt := topS 49
abbrev s_is_rule : Stmt := topS 50
abbrev s_check_transformation : Stmt := topS 56
abbrev s_is_transformation : Stmt := topS 57
abbrev s_is_state_transformation : Stmt := topS 58
abbrev s_are_choices : Stmt := topS 60
abbrev s_are_templates : Stmt := topS 61
abbrev s_waiting_templates : Stmt := topS 62
abbrev s_is_part : Stmt := topS 63
abbrev s_turned : Stmt := topS 64
abbrev s_made : Stmt := topS 65
abbrev c_Closure : Stmt := topS 67
abbrev s_Closure___init__ : Stmt := inClass (topS 67) 0
abbrev s_Closure_number_of : Stmt := inClass (topS 67) 1
abbrev s_Closure_explore : Stmt := inClass (topS 67) 2
abbrev s_Closure_join_kinds : Stmt := inClass (topS 67) 3
abbrev s_Closure_least_document : Stmt := inClass (topS 67) 4
abbrev s_is_closed : Stmt := topS 68
abbrev c_Moves : Stmt := topS 70
abbrev s_Moves___init__ : Stmt := inClass (topS 70) 0
abbrev s_Moves_after : Stmt := inClass (topS 70) 1
abbrev s_Moves_of_tree : Stmt := inClass (topS 70) 2
abbrev s_Moves_allows : Stmt := inClass (topS 70) 3
abbrev s_Moves_row : Stmt := inClass (topS 70) 4
abbrev s_Moves_joined : Stmt := inClass (topS 70) 5
abbrev s_Moves_joint_of : Stmt := inClass (topS 70) 6
abbrev s_Moves_bits_of_pairs : Stmt := inClass (topS 70) 7
abbrev s_Moves_pairs_of : Stmt := inClass (topS 70) 8
abbrev c_Profiles : Stmt := topS 72
abbrev s_Profiles___init__ : Stmt := inClass (topS 72) 0
abbrev s_Profiles_after : Stmt := inClass (topS 72) 1
abbrev s_Profiles_moves_made : Stmt := inClass (topS 72) 2
abbrev s_Profiles_move_made : Stmt := inClass (topS 72) 3
abbrev s_Profiles_move_of_part : Stmt := inClass (topS 72) 4
abbrev s_Profiles_turns_right : Stmt := inClass (topS 72) 5
abbrev s_Profiles_is_good : Stmt := inClass (topS 72) 6
abbrev s_Profiles_told : Stmt := inClass (topS 72) 7
abbrev s_Profiles_kept : Stmt := inClass (topS 72) 8
abbrev s_schema_of : Stmt := topS 74
abbrev s_rules_into : Stmt := topS 75
abbrev s_classes_of : Stmt := topS 76
abbrev s_look_of : Stmt := topS 77
abbrev s_numbered : Stmt := topS 78
abbrev s_profile : Stmt := topS 84
abbrev s_check_all : Stmt := topS 85
abbrev s_first_profile : Stmt := topS 86
abbrev s_fits : Stmt := topS 87
abbrev s_accepts : Stmt := topS 88
abbrev s_are_profiles : Stmt := topS 89
abbrev s_is_like_profile : Stmt := topS 90
abbrev s_is_move : Stmt := topS 91
abbrev s_is_pair : Stmt := topS 92
abbrev s_shows_fitting : Stmt := topS 93
abbrev s_schema_before : Stmt := topS 94
abbrev s__law_box : Stmt := topS 96
abbrev s__law_take : Stmt := topS 97
abbrev s__law_pick : Stmt := topS 98
abbrev s__law_size : Stmt := topS 99
abbrev s__law_document : Stmt := topS 100
abbrev s__law_order : Stmt := topS 101
abbrev s__law_all : Stmt := topS 102
abbrev s__law_schema : Stmt := topS 103
abbrev s__law_behind : Stmt := topS 104
abbrev s__law_empty : Stmt := topS 105
abbrev s__law_set : Stmt := topS 106
abbrev s__law_grown : Stmt := topS 107
abbrev s__law_parts : Stmt := topS 108
abbrev s__law_template : Stmt := topS 109
abbrev s__law_choices : Stmt := topS 110
abbrev s__law_transformation : Stmt := topS 111
abbrev s__law_fill : Stmt := topS 112
abbrev s__law_made : Stmt := topS 113
abbrev s__law_class : Stmt := topS 114
abbrev s__law_refused : Stmt := topS 115
abbrev s__law_plain : Stmt := topS 116
abbrev s__law_bad_part : Stmt := topS 117
abbrev s__law_spoilt : Stmt := topS 118
abbrev s__law_bound : Stmt := topS 119
abbrev s_law : Stmt := topS 120
end LW
set_option maxHeartbeats 0
namespace LW
open PySem PySem.W PyProof.Rows HeadRun
/-! the head: one kernel run for each look -/
lay_quick PyProof.Rows.plainGoodE
noncomputable def HQ : Program := PySem.W.view PySem.Challenge.pw_leafward_k05_what_is_a_transformation [0, 2, 3, 4, 5, 6, 7, 9, 10, 11, 12, 14, 15, 16, 17, 18, 19, 21, 22, 24, 25, 26, 27, 28, 29, 30, 31, 33, 34, 35, 36, 38, 39, 40, 41, 43, 44, 45, 46, 48, 49, 50, 52, 53, 54, 55, 56, 57, 58, 59, 60, 61, 62, 63, 64, 65, 67, 68, 70, 72, 74, 75, 76, 77, 78, 80, 81, 82, 83, 84, 85, 86, 87, 88, 89, 90, 91, 92, 93, 94, 96, 97, 98, 99, 100, 101, 102, 103, 104, 105, 106, 107, 108, 109, 110, 111, 112, 113, 114, 115, 116, 117, 118, 119, 120]
noncomputable abbrev HL : List PySem.Str := ["is_state_schema", "is_state_transformation"]
noncomputable abbrev HM : List PySem.Str := importedModules PySem.Challenge.pw_leafward_k05_what_is_a_transformation.main.body
noncomputable abbrev HX : Shared → Bool := fun s => xlAt HQ [] s && recOk (RowW.records (OpenRow.toRowW (OpenLaw.row PySem.Challenge.rw_leafward_k05_what_is_a_transformation))) s
theorem og1 (q : Program) (l : List PySem.Str) : (openGood q l).1 = expectedOf q := rfl
theorem og2 (q : Program) (l : List PySem.Str) : (openGood q l).2.1 = bltViewBooted := rfl
theorem og3 (q : Program) (l : List PySem.Str) : (openGood q l).2.2.1 = true := rfl
theorem og4 (q : Program) (l : List PySem.Str) : (openGood q l).2.2.2.1 = true := rfl
theorem og5 (q : Program) (l : List PySem.Str) : (openGood q l).2.2.2.2.1 = pinGoodD (drecsOf q) := rfl
theorem og6 (q : Program) (l : List PySem.Str) : (openGood q l).2.2.2.2.2.1 = plainGoodE q (looseW q l) := rfl
theorem og7 (q : Program) (l : List PySem.Str) : (openGood q l).2.2.2.2.2.2.1 = plainGoodD q l := rfl
theorem og8 (q : Program) (l : List PySem.Str) : (openGood q l).2.2.2.2.2.2.2.1 = wideGood q := rfl
theorem og9 (q : Program) (l : List PySem.Str) : (openGood q l).2.2.2.2.2.2.2.2 = clsGoodW q l := rfl
structure Mark : Type where
  x : Nat
/-- take and drop under other names: the kernel compares equal heads' arguments first, that is whole lists -/
def tk {A : Type} : Nat → List A → List A
  | 0, _ => []
  | _ + 1, [] => []
  | n + 1, x :: l => x :: tk n l
def dpp {A : Type} : Nat → List A → List A
  | 0, l => l
  | _ + 1, [] => []
  | n + 1, _ :: l => dpp n l
theorem tk_eq {A : Type} : ∀ (n : Nat) (l : List A), tk n l = l.take n
  | 0, _ => by simp [tk]
  | _ + 1, [] => by simp [tk]
  | n + 1, x :: l => by simp [tk, tk_eq n l]
theorem dpp_eq {A : Type} : ∀ (n : Nat) (l : List A), dpp n l = l.drop n
  | 0, _ => by simp [dpp]
  | _ + 1, [] => by simp [dpp]
  | n + 1, x :: l => by simp [dpp, dpp_eq n l]
theorem mapTD {S A : Type} {o : Option S} {g : S → List A} {G : List A} (n : Nat) (a : o.map (fun s => (g s).take n) = some (tk n G)) (b : o.map (fun s => (g s).drop n) = some (dpp n G)) : o.map g = some G := by
  cases o with
  | none => cases a
  | some s =>
    have e1 : (g s).take n = G.take n := (Option.some.inj a).trans (tk_eq n G)
    have e2 : (g s).drop n = G.drop n := (Option.some.inj b).trans (dpp_eq n G)
    exact congrArg some (by rw [← List.take_append_drop n (g s), e1, e2, List.take_append_drop])
theorem seen_eq {x y : Seen} (e0 : x.defs = y.defs) (e3 : (x.ownsOk, x.names, x.globalsOk, x.builtinsOk, x.noLimit, x.gens) = (y.ownsOk, y.names, y.globalsOk, y.builtinsOk, y.noLimit, y.gens)) : x = y := by
  obtain ⟨d, c1, c2, c3, c4, c5, c6⟩ := x
  obtain ⟨d', c1', c2', c3', c4', c5', c6'⟩ := y
  simp only [Prod.mk.injEq] at e0 e3
  obtain ⟨h1, h2, h3, h4, h5, h6⟩ := e3
  subst e0 h1 h2 h3 h4 h5 h6
  rfl
theorem mapSeen {S : Type} {o : Option S} {g : S → Seen} {G : Seen} (n : Nat) (a : o.map (fun s => (g s).defs.take n) = some (tk n G.defs)) (b : o.map (fun s => (g s).defs.drop n) = some (dpp n G.defs))
    (c : o.map (fun s => ((g s).ownsOk, (g s).names, (g s).globalsOk, (g s).builtinsOk, (g s).noLimit, (g s).gens)) = some (G.ownsOk, G.names, G.globalsOk, G.builtinsOk, G.noLimit, G.gens)) : o.map g = some G := by
  cases o with
  | none => cases a
  | some s =>
    have e1 : (g s).defs.take n = G.defs.take n := (Option.some.inj a).trans (tk_eq n G.defs)
    have e2 : (g s).defs.drop n = G.defs.drop n := (Option.some.inj b).trans (dpp_eq n G.defs)
    have e0 : (g s).defs = G.defs := by rw [← List.take_append_drop n (g s).defs, e1, e2, List.take_append_drop]
    have e3 := Option.some.inj c
    exact congrArg some (seen_eq e0 e3)
theorem splitHead {S A1 A2 A3 A4 A5 A6 A7 A8 A9 C : Type} {o : Option S} {l : S → Bool} {g : S → A1 × A2 × A3 × A4 × A5 × A6 × A7 × A8 × A9} {G : A1 × A2 × A3 × A4 × A5 × A6 × A7 × A8 × A9} {f : S → C} {kk : C}
    (h1 : o.map l = some true)
    (a1 : o.map (fun s => (g s).1) = some G.1)
    (a2 : o.map (fun s => (g s).2.1) = some G.2.1)
    (a3 : o.map (fun s => (g s).2.2.1) = some G.2.2.1)
    (a4 : o.map (fun s => (g s).2.2.2.1) = some G.2.2.2.1)
    (a5 : o.map (fun s => (g s).2.2.2.2.1) = some G.2.2.2.2.1)
    (a6 : o.map (fun s => (g s).2.2.2.2.2.1) = some G.2.2.2.2.2.1)
    (a7 : o.map (fun s => (g s).2.2.2.2.2.2.1) = some G.2.2.2.2.2.2.1)
    (a8 : o.map (fun s => (g s).2.2.2.2.2.2.2.1) = some G.2.2.2.2.2.2.2.1)
    (a9 : o.map (fun s => (g s).2.2.2.2.2.2.2.2) = some G.2.2.2.2.2.2.2.2)
    (h3 : o.map f = some kk) : o.map (fun s => (l s, g s, f s)) = some (true, G, kk) := by
  cases o with
  | none => cases h1
  | some s =>
    have e2 : g s = G :=
      Prod.ext (Option.some.inj a1) (Prod.ext (Option.some.inj a2) (Prod.ext (Option.some.inj a3) (Prod.ext (Option.some.inj a4) (Prod.ext (Option.some.inj a5) (Prod.ext (Option.some.inj a6) (Prod.ext (Option.some.inj a7) (Prod.ext (Option.some.inj a8) (Option.some.inj a9))))))))
    exact congrArg some (Prod.ext (Option.some.inj h1) (Prod.ext e2 (Option.some.inj h3)))
end LW
set_option maxHeartbeats 0
namespace LW
open PySem PySem.W PyProof.Rows HeadRun
theorem c_h1 (w : World) (os : OsState) : (endF (stepQ (denQ tabQ) PySem.Challenge.pw_leafward_k05_what_is_a_transformation w) 13306 PySem.Challenge.pw_leafward_k05_what_is_a_transformation w os).map (fun s => looksF PySem.Challenge.pw_leafward_k05_what_is_a_transformation (boot_heap w.params) s.abs) = some (true) := by kernel_rfl
end LW
set_option maxHeartbeats 0
namespace LW
open PySem PySem.W PyProof.Rows HeadRun
theorem c_a1a (w : World) (os : OsState) : (endF (stepQ (denQ tabQ) PySem.Challenge.pw_leafward_k05_what_is_a_transformation w) 13306 PySem.Challenge.pw_leafward_k05_what_is_a_transformation w os).map (fun s => (seenQ HQ HL HM HX s.abs).1.defs.take 52) = some (tk 52 (expectedOf HQ).defs) := by kernel_rfl
end LW
set_option maxHeartbeats 0
namespace LW
open PySem PySem.W PyProof.Rows HeadRun
theorem c_a1b (w : World) (os : OsState) : (endF (stepQ (denQ tabQ) PySem.Challenge.pw_leafward_k05_what_is_a_transformation w) 13306 PySem.Challenge.pw_leafward_k05_what_is_a_transformation w os).map (fun s => (seenQ HQ HL HM HX s.abs).1.defs.drop 52) = some (dpp 52 (expectedOf HQ).defs) := by kernel_rfl
end LW
set_option maxHeartbeats 0
namespace LW
open PySem PySem.W PyProof.Rows HeadRun
theorem c_a1c (w : World) (os : OsState) : (endF (stepQ (denQ tabQ) PySem.Challenge.pw_leafward_k05_what_is_a_transformation w) 13306 PySem.Challenge.pw_leafward_k05_what_is_a_transformation w os).map (fun s => ((seenQ HQ HL HM HX s.abs).1.ownsOk, (seenQ HQ HL HM HX s.abs).1.names, (seenQ HQ HL HM HX s.abs).1.globalsOk, (seenQ HQ HL HM HX s.abs).1.builtinsOk, (seenQ HQ HL HM HX s.abs).1.noLimit, (seenQ HQ HL HM HX s.abs).1.gens)) = some (((expectedOf HQ).ownsOk, (expectedOf HQ).names, (expectedOf HQ).globalsOk, (expectedOf HQ).builtinsOk, (expectedOf HQ).noLimit, (expectedOf HQ).gens)) := by kernel_rfl
end LW
set_option maxHeartbeats 0
namespace LW
open PySem PySem.W PyProof.Rows HeadRun
theorem c_a2 (w : World) (os : OsState) : (endF (stepQ (denQ tabQ) PySem.Challenge.pw_leafward_k05_what_is_a_transformation w) 13306 PySem.Challenge.pw_leafward_k05_what_is_a_transformation w os).map (fun s => (seenQ HQ HL HM HX s.abs).2.1) = some (bltViewBooted) := by kernel_rfl
end LW
set_option maxHeartbeats 0
namespace LW
open PySem PySem.W PyProof.Rows HeadRun
theorem c_a3 (w : World) (os : OsState) : (endF (stepQ (denQ tabQ) PySem.Challenge.pw_leafward_k05_what_is_a_transformation w) 13306 PySem.Challenge.pw_leafward_k05_what_is_a_transformation w os).map (fun s => (seenQ HQ HL HM HX s.abs).2.2.1) = some (true) := by kernel_rfl
end LW
set_option maxHeartbeats 0
namespace LW
open PySem PySem.W PyProof.Rows HeadRun
theorem c_a4 (w : World) (os : OsState) : (endF (stepQ (denQ tabQ) PySem.Challenge.pw_leafward_k05_what_is_a_transformation w) 13306 PySem.Challenge.pw_leafward_k05_what_is_a_transformation w os).map (fun s => (seenQ HQ HL HM HX s.abs).2.2.2.1) = some (true) := by kernel_rfl
end LW
set_option maxHeartbeats 0
namespace LW
open PySem PySem.W PyProof.Rows HeadRun
theorem c_a5 (w : World) (os : OsState) : (endF (stepQ (denQ tabQ) PySem.Challenge.pw_leafward_k05_what_is_a_transformation w) 13306 PySem.Challenge.pw_leafward_k05_what_is_a_transformation w os).map (fun s => (seenQ HQ HL HM HX s.abs).2.2.2.2.1) = some (pinGoodD (drecsOf HQ)) := by kernel_rfl
end LW
set_option maxHeartbeats 0
namespace LW
open PySem PySem.W PyProof.Rows HeadRun
theorem c_a6a (w : World) (os : OsState) : (endF (stepQ (denQ tabQ) PySem.Challenge.pw_leafward_k05_what_is_a_transformation w) 13306 PySem.Challenge.pw_leafward_k05_what_is_a_transformation w os).map (fun s => (seenQ HQ HL HM HX s.abs).2.2.2.2.2.1.take 4) = some (tk 4 (PySem.W.Fast.tw11434641657110253636 HQ (PySem.W.Fast.tw821141287760084731 HQ HL))) := by kernel_rfl
end LW
set_option maxHeartbeats 0
namespace LW
open PySem PySem.W PyProof.Rows HeadRun
theorem c_a6b (w : World) (os : OsState) : (endF (stepQ (denQ tabQ) PySem.Challenge.pw_leafward_k05_what_is_a_transformation w) 13306 PySem.Challenge.pw_leafward_k05_what_is_a_transformation w os).map (fun s => (seenQ HQ HL HM HX s.abs).2.2.2.2.2.1.drop 4) = some (dpp 4 (PySem.W.Fast.tw11434641657110253636 HQ (PySem.W.Fast.tw821141287760084731 HQ HL))) := by kernel_rfl
end LW
set_option maxHeartbeats 0
namespace LW
open PySem PySem.W PyProof.Rows HeadRun
theorem c_a7 (w : World) (os : OsState) : (endF (stepQ (denQ tabQ) PySem.Challenge.pw_leafward_k05_what_is_a_transformation w) 13306 PySem.Challenge.pw_leafward_k05_what_is_a_transformation w os).map (fun s => (seenQ HQ HL HM HX s.abs).2.2.2.2.2.2.1) = some (plainGoodD HQ HL) := by kernel_rfl
end LW
set_option maxHeartbeats 0
namespace LW
open PySem PySem.W PyProof.Rows HeadRun
theorem c_a8 (w : World) (os : OsState) : (endF (stepQ (denQ tabQ) PySem.Challenge.pw_leafward_k05_what_is_a_transformation w) 13306 PySem.Challenge.pw_leafward_k05_what_is_a_transformation w os).map (fun s => (seenQ HQ HL HM HX s.abs).2.2.2.2.2.2.2.1) = some (wideGood HQ) := by kernel_rfl
end LW
set_option maxHeartbeats 0
namespace LW
open PySem PySem.W PyProof.Rows HeadRun
theorem c_a9 (w : World) (os : OsState) : (endF (stepQ (denQ tabQ) PySem.Challenge.pw_leafward_k05_what_is_a_transformation w) 13306 PySem.Challenge.pw_leafward_k05_what_is_a_transformation w os).map (fun s => (seenQ HQ HL HM HX s.abs).2.2.2.2.2.2.2.2) = some (clsGoodW HQ HL) := by kernel_rfl
end LW
set_option maxHeartbeats 0
namespace LW
open PySem PySem.W PyProof.Rows HeadRun
theorem k_eq {p q : Prop} (x : p) (h : p = q) : q := h ▸ x
theorem c_a6 (w : World) (os : OsState) : (endF (stepQ (denQ tabQ) PySem.Challenge.pw_leafward_k05_what_is_a_transformation w) 13306 PySem.Challenge.pw_leafward_k05_what_is_a_transformation w os).map (fun s => (seenQ HQ HL HM HX s.abs).2.2.2.2.2.1) = some (plainGoodE HQ (looseW HQ HL)) := by
  rw [PySem.W.Fast.te11434641657110253636, PySem.W.Fast.te821141287760084731]
  exact mapTD 4 (c_a6a w os) (c_a6b w os)
theorem d_a1 (w : World) (os : OsState) : (endF (stepQ (denQ tabQ) PySem.Challenge.pw_leafward_k05_what_is_a_transformation w) 13306 PySem.Challenge.pw_leafward_k05_what_is_a_transformation w os).map (fun s => (seenQ HQ HL HM HX s.abs).1) = some (openGood HQ HL).1 := Eq.trans (mapSeen 52 (c_a1a w os) (c_a1b w os) (c_a1c w os)) (congrArg some (og1 HQ HL).symm)
theorem d_a2 (w : World) (os : OsState) : (endF (stepQ (denQ tabQ) PySem.Challenge.pw_leafward_k05_what_is_a_transformation w) 13306 PySem.Challenge.pw_leafward_k05_what_is_a_transformation w os).map (fun s => (seenQ HQ HL HM HX s.abs).2.1) = some (openGood HQ HL).2.1 := Eq.trans (c_a2 w os) (congrArg some (og2 HQ HL).symm)
theorem d_a3 (w : World) (os : OsState) : (endF (stepQ (denQ tabQ) PySem.Challenge.pw_leafward_k05_what_is_a_transformation w) 13306 PySem.Challenge.pw_leafward_k05_what_is_a_transformation w os).map (fun s => (seenQ HQ HL HM HX s.abs).2.2.1) = some (openGood HQ HL).2.2.1 := Eq.trans (c_a3 w os) (congrArg some (og3 HQ HL).symm)
theorem d_a4 (w : World) (os : OsState) : (endF (stepQ (denQ tabQ) PySem.Challenge.pw_leafward_k05_what_is_a_transformation w) 13306 PySem.Challenge.pw_leafward_k05_what_is_a_transformation w os).map (fun s => (seenQ HQ HL HM HX s.abs).2.2.2.1) = some (openGood HQ HL).2.2.2.1 := Eq.trans (c_a4 w os) (congrArg some (og4 HQ HL).symm)
theorem d_a5 (w : World) (os : OsState) : (endF (stepQ (denQ tabQ) PySem.Challenge.pw_leafward_k05_what_is_a_transformation w) 13306 PySem.Challenge.pw_leafward_k05_what_is_a_transformation w os).map (fun s => (seenQ HQ HL HM HX s.abs).2.2.2.2.1) = some (openGood HQ HL).2.2.2.2.1 := Eq.trans (c_a5 w os) (congrArg some (og5 HQ HL).symm)
theorem d_a6 (w : World) (os : OsState) : (endF (stepQ (denQ tabQ) PySem.Challenge.pw_leafward_k05_what_is_a_transformation w) 13306 PySem.Challenge.pw_leafward_k05_what_is_a_transformation w os).map (fun s => (seenQ HQ HL HM HX s.abs).2.2.2.2.2.1) = some (openGood HQ HL).2.2.2.2.2.1 := Eq.trans (c_a6 w os) (congrArg some (og6 HQ HL).symm)
theorem d_a7 (w : World) (os : OsState) : (endF (stepQ (denQ tabQ) PySem.Challenge.pw_leafward_k05_what_is_a_transformation w) 13306 PySem.Challenge.pw_leafward_k05_what_is_a_transformation w os).map (fun s => (seenQ HQ HL HM HX s.abs).2.2.2.2.2.2.1) = some (openGood HQ HL).2.2.2.2.2.2.1 := Eq.trans (c_a7 w os) (congrArg some (og7 HQ HL).symm)
theorem d_a8 (w : World) (os : OsState) : (endF (stepQ (denQ tabQ) PySem.Challenge.pw_leafward_k05_what_is_a_transformation w) 13306 PySem.Challenge.pw_leafward_k05_what_is_a_transformation w os).map (fun s => (seenQ HQ HL HM HX s.abs).2.2.2.2.2.2.2.1) = some (openGood HQ HL).2.2.2.2.2.2.2.1 := Eq.trans (c_a8 w os) (congrArg some (og8 HQ HL).symm)
theorem d_a9 (w : World) (os : OsState) : (endF (stepQ (denQ tabQ) PySem.Challenge.pw_leafward_k05_what_is_a_transformation w) 13306 PySem.Challenge.pw_leafward_k05_what_is_a_transformation w os).map (fun s => (seenQ HQ HL HM HX s.abs).2.2.2.2.2.2.2.2) = some (openGood HQ HL).2.2.2.2.2.2.2.2 := Eq.trans (c_a9 w os) (congrArg some (og9 HQ HL).symm)
local macro_rules | `(tactic| kernel_rfl) => `(tactic| ((fail_if_success (have mm : LW.Mark := by assumption)); (with_reducible apply LW.splitHead); (have mm : LW.Mark := ⟨0⟩; exact LW.k_eq (LW.c_h1 (by assumption) (by assumption)) (by kernel_rfl)); (have mm : LW.Mark := ⟨0⟩; exact LW.k_eq (LW.d_a1 (by assumption) (by assumption)) (by kernel_rfl)); (have mm : LW.Mark := ⟨0⟩; exact LW.k_eq (LW.d_a2 (by assumption) (by assumption)) (by kernel_rfl)); (have mm : LW.Mark := ⟨0⟩; exact LW.k_eq (LW.d_a3 (by assumption) (by assumption)) (by kernel_rfl)); (have mm : LW.Mark := ⟨0⟩; exact LW.k_eq (LW.d_a4 (by assumption) (by assumption)) (by kernel_rfl)); (have mm : LW.Mark := ⟨0⟩; exact LW.k_eq (LW.d_a5 (by assumption) (by assumption)) (by kernel_rfl)); (have mm : LW.Mark := ⟨0⟩; exact LW.k_eq (LW.d_a6 (by assumption) (by assumption)) (by kernel_rfl)); (have mm : LW.Mark := ⟨0⟩; exact LW.k_eq (LW.d_a7 (by assumption) (by assumption)) (by kernel_rfl)); (have mm : LW.Mark := ⟨0⟩; exact LW.k_eq (LW.d_a8 (by assumption) (by assumption)) (by kernel_rfl)); (have mm : LW.Mark := ⟨0⟩; exact LW.k_eq (LW.d_a9 (by assumption) (by assumption)) (by kernel_rfl)); (have mm : LW.Mark := ⟨0⟩; kernel_rfl)))
local macro_rules | `(tactic| k_head) => `(tactic| k_headL)
open_top head for PySem.Challenge.rw_leafward_k05_what_is_a_transformation
end LW
set_option maxHeartbeats 1000000
namespace LW
open PySem PySem.Spec PyProof.Rows L2
/-! leafward.forms -/
def belowD (d : PyData) (n : Int) : Bool := match d with
  | .int i => decide (0 ≤ i) && decide (i < n)
  | _ => false
def tupOfD (d : PyData) (n : Int) : Bool := match d with
  | .tuple ds => decide ((ds.length : Int) = n)
  | _ => false
def spBelow (K : PySem.W.Frag) : Sp := fun vs H Q _ => ∃ (d : PyData) (n : Int) (v : V), vs = [v, .int n] ∧ Dp K H v d ∧ Q (.bl (belowD d n)) H
def spTupOf (K : PySem.W.Frag) : Sp := fun vs H Q _ => ∃ (d : PyData) (n : Int) (v : V), vs = [v, .int n] ∧ Dp K H v d ∧ Q (.bl (tupOfD d n)) H
section
variable {P : Program} {w : World} {K : PySem.W.Frag} {mg : Str → Option Value} {base : Heap} {f : Addr} {fd : FuncData}
theorem b_isinstance : bootBuiltins "isinstance" = some (.builtin "isinstance") := by decide +kernel
theorem b_int : bootBuiltins "int" = some (.type "int") := by decide +kernel
theorem b_bool : bootBuiltins "bool" = some (.type "bool") := by decide +kernel
theorem b_tuple : bootBuiltins "tuple" = some (.type "tuple") := by decide +kernel
theorem b_all : bootBuiltins "all" = some (.builtin "all") := by decide +kernel
theorem b_any : bootBuiltins "any" = some (.builtin "any") := by decide +kernel
theorem b_range : bootBuiltins "range" = some (.type "range") := by decide +kernel
theorem b_sum : bootBuiltins "sum" = some (.builtin "sum") := by decide +kernel
theorem b_min : bootBuiltins "min" = some (.builtin "min") := by decide +kernel
theorem b_abs : bootBuiltins "abs" = some (.builtin "abs") := by decide +kernel
end
end LW
set_option maxHeartbeats 1000000
namespace LW
open PySem PySem.Spec PyProof.Rows L2
/-- a def with a known code object -/
theorem okC {P : Program} {w : World} {K : PySem.W.Frag} {mg : Str → Option Value} {base : Heap} {x qual : Str} {st : Stmt} {f c : Addr} {fd : FuncData} {N ps : List Str} {k : Nat} {sp : Sp} (F : Fun K x qual st f fd) (hc : fd.code = .ref c) (S : FnScope N ps (defScope st)) (len : ∀ vs H Q E, sp vs H Q E → vs.length = ps.length)
    (hbody : ∀ (A : Around) (outer : List Env) (s : Shared) (H : Hp) (vs : List V) (Q : VK) (E : XK), Room k (A.deeper (envOfC qual (defScope st) s.heap.objs.size f (.ref c))) → sp vs H Q E →
      ∃ t, PSs (cxOf CX0 P w K mg base N qual (defScope st) f (.ref c) A outer s H E).nox (defBody st) t ∧ t { nx := fun _ H' => Q .non H', rt := Q } (start N vs) H) : FnOk P w K mg base CX0 (k + 1) f fd ps sp := by
  obtain ⟨oc, od, kV, doc, pm, an, cdv, ct, osl, rfl, lk, hcd⟩ := F.ex
  have e : cdv = .ref c := hc
  subst e
  refine fn_of lk hcd S len fun A outer s H vs Q E hr hsp => ?_
  obtain ⟨t, h, q⟩ := hbody A outer s H vs Q E hr hsp
  exact ⟨t, h.nox, q⟩
/-! ### what is a document -/
def treeD : PyData → Bool
  | .tuple [x, _] => belowD x 5
  | _ => false
mutual
def formD : PyData → Nat → Bool
  | .tuple ts, n => (ts.isEmpty || decide (n ≤ 30)) && formAll ts n
  | _, _ => false
def formT : PyData → Nat → Bool
  | .tuple [x, k], n => belowD x 5 && formD k (n + 1)
  | _, _ => false
def formAll : List PyData → Nat → Bool
  | [], _ => true
  | t :: ts, n => formT t n && formAll ts n
end
mutual
def szD : PyData → Nat
  | .tuple ts => szAll ts
  | _ => 0
def szT : PyData → Nat
  | .tuple [_, k] => 1 + szD k
  | _ => 1
def szAll : List PyData → Nat
  | [] => 0
  | t :: ts => szT t + szAll ts
end
mutual
def nodeD : PyData → Nat
  | .tuple ts => 1 + nodeAll ts
  | _ => 1
def nodeAll : List PyData → Nat
  | [] => 0
  | t :: ts => nodeD t + nodeAll ts
end
def docD (d : PyData) : Bool := formD d 1 && decide (szD d ≤ 300)
def kidD : PyData → PyData
  | .tuple [_, k] => k
  | _ => .none
theorem szAll_len : ∀ ts : List PyData, ts.length ≤ szAll ts
  | [] => Nat.le_refl _
  | t :: ts => by
    have h := szAll_len ts
    have h1 : 1 ≤ szT t := by
      unfold szT
      split <;> omega
    rw [szAll, List.length_cons]
    omega
theorem formT_tree {t : PyData} {n : Nat} (h : formT t n = true) : treeD t = true ∧ formD (kidD t) (n + 1) = true := by
  unfold formT at h
  split at h
  · simpa [treeD, kidD] using h
  · cases h
theorem treeD_shape {t : PyData} (h : treeD t = true) : ∃ i k, t = .tuple [.int i, k] := by
  unfold treeD at h
  split at h
  · rename_i x k
    cases x with
    | int i => exact ⟨i, k, rfl⟩
    | _ => cases h
  · cases h
theorem formT_of {t : PyData} {n : Nat} (h : treeD t = true) : formT t n = formD (kidD t) (n + 1) := by
  obtain ⟨i, k, rfl⟩ := treeD_shape h
  have h' : belowD (.int i) 5 = true := h
  simp only [formT, kidD, h', Bool.true_and]
theorem szT_of {t : PyData} (h : treeD t = true) : szT t = 1 + szD (kidD t) := by
  obtain ⟨i, k, rfl⟩ := treeD_shape h
  simp only [szT, kidD]
theorem nodeD_of {t : PyData} (h : treeD t = true) : nodeD (kidD t) + 1 < nodeD t := by
  obtain ⟨i, k, rfl⟩ := treeD_shape h
  simp only [nodeD, nodeAll, kidD]
  omega
/-- the pile of what waits -/
def pForm (ws : List (PyData × Nat)) : Bool := ws.all fun p => formD p.1 p.2
def pSz (ws : List (PyData × Nat)) : Nat := (ws.map fun p => szD p.1).sum
def pNode (ws : List (PyData × Nat)) : Nat := (ws.map fun p => nodeD p.1).sum
theorem kids_form : ∀ (ts : List PyData) (n : Nat), ts.all treeD = true → formAll ts n = pForm (ts.map fun t => (kidD t, n + 1))
  | [], _, _ => rfl
  | t :: ts, n, h => by
    have h' : treeD t = true ∧ ts.all treeD = true := by simpa using h
    rw [formAll, formT_of h'.1, kids_form ts n h'.2]
    rfl
theorem kids_sz : ∀ (ts : List PyData) (n : Nat), ts.all treeD = true → szAll ts = ts.length + pSz (ts.map fun t => (kidD t, n + 1))
  | [], _, _ => rfl
  | t :: ts, n, h => by
    have h' : treeD t = true ∧ ts.all treeD = true := by simpa using h
    have ih := kids_sz ts n h'.2
    have e : pSz ((t :: ts).map fun t => (kidD t, n + 1)) = szD (kidD t) + pSz (ts.map fun t => (kidD t, n + 1)) := by
      simp [pSz]
    rw [szAll, szT_of h'.1, ih, e, List.length_cons]
    omega
theorem kids_node : ∀ (ts : List PyData) (n : Nat), ts.all treeD = true → pNode (ts.map fun t => (kidD t, n + 1)) ≤ nodeAll ts
  | [], _, _ => Nat.le_refl _
  | t :: ts, n, h => by
    have h' : treeD t = true ∧ ts.all treeD = true := by simpa using h
    have ih := kids_node ts n h'.2
    have h1 := nodeD_of h'.1
    have e : pNode ((t :: ts).map fun t => (kidD t, n + 1)) = nodeD (kidD t) + pNode (ts.map fun t => (kidD t, n + 1)) := by
      simp [pNode]
    rw [e, nodeAll]
    omega
theorem formAll_trees : ∀ (ts : List PyData) (n : Nat), formAll ts n = true → ts.all treeD = true
  | [], _, _ => rfl
  | t :: ts, n, h => by
    rw [formAll] at h
    have h' : formT t n = true ∧ formAll ts n = true := by simpa using h
    have := formAll_trees ts n h'.2
    simp [(formT_tree h'.1).1, this]
def goalD (ws : List (PyData × Nat)) (many : Nat) : Bool := pForm ws && decide (many + pSz ws ≤ 300)
theorem goal_start (d : PyData) : goalD [(d, 1)] 0 = docD d := by
  simp [goalD, docD, pForm, pSz]
theorem goal_app (ws : List (PyData × Nat)) (d : PyData) (n many : Nat) : goalD (ws ++ [(d, n)]) many = (formD d n && pForm ws && decide (many + (szD d + pSz ws) ≤ 300)) := by
  have e1 : pForm (ws ++ [(d, n)]) = (pForm ws && formD d n) := by simp [pForm]
  have e2 : pSz (ws ++ [(d, n)]) = pSz ws + szD d := by simp [pSz]
  unfold goalD
  rw [e1, e2, Bool.and_comm (pForm ws), Nat.add_comm (pSz ws)]
/-- it is no tuple, or too deep -/
theorem goal_bad {ws : List (PyData × Nat)} {d : PyData} {n many : Nat} (h : formD d n = false) : goalD (ws ++ [(d, n)]) many = false := by
  rw [goal_app, h]; rfl
theorem goal_many {ws : List (PyData × Nat)} {ts : List PyData} {n many : Nat} (h : 300 < many + ts.length) : goalD (ws ++ [(.tuple ts, n)]) many = false := by
  rw [goal_app]
  have h1 := szAll_len ts
  have e : decide (many + (szD (.tuple ts) + pSz ws) ≤ 300) = false := decide_eq_false (by rw [szD]; omega)
  rw [e, Bool.and_false]
theorem goal_step {ws : List (PyData × Nat)} {ts : List PyData} {n many : Nat} (h : ts.all treeD = true) (hd : (ts.isEmpty || decide (n ≤ 30)) = true) :
    goalD (ws ++ [(.tuple ts, n)]) many = goalD (ws ++ ts.map fun t => (kidD t, n + 1)) (many + ts.length) := by
  rw [goal_app, formD, hd, Bool.true_and, szD, kids_form ts n h, kids_sz ts n h]
  unfold goalD
  have e1 : pForm (ws ++ ts.map fun t => (kidD t, n + 1)) = (pForm ws && pForm (ts.map fun t => (kidD t, n + 1))) := by simp [pForm]
  have e2 : pSz (ws ++ ts.map fun t => (kidD t, n + 1)) = pSz ws + pSz (ts.map fun t => (kidD t, n + 1)) := by simp [pSz]
  rw [e1, e2, Bool.and_comm (pForm ws)]
  congr 1
  exact decide_eq_decide.mpr (by omega)
theorem node_app (ws : List (PyData × Nat)) (d : PyData) (n : Nat) : pNode (ws ++ [(d, n)]) = pNode ws + nodeD d := by simp [pNode]
theorem node_step {ws : List (PyData × Nat)} {ts : List PyData} {n : Nat} (h : ts.all treeD = true) : pNode (ws ++ ts.map fun t => (kidD t, n + 1)) < pNode (ws ++ [(.tuple ts, n)]) := by
  have h1 := kids_node ts n h
  have e2 : pNode (ws ++ ts.map fun t => (kidD t, n + 1)) = pNode ws + pNode (ts.map fun t => (kidD t, n + 1)) := by simp [pNode]
  rw [node_app, e2, nodeD]
  omega
end LW
set_option maxHeartbeats 1000000
namespace LW
open PySem PySem.Spec PyProof.Rows L2
theorem paired_snoc {α β : Type} {F : α → β → Prop} {p : β} : ∀ {ws : List β} {xs : List α}, Paired F xs (ws ++ [p]) → ∃ xs0 x, xs = xs0 ++ [x] ∧ Paired F xs0 ws ∧ F x p
  | [], _, .cons h t => by cases t; exact ⟨[], _, rfl, .nil, h⟩
  | q :: ws, _, .cons h t => by
    obtain ⟨xs0, x, e, h1, h2⟩ := paired_snoc (ws := ws) t
    exact ⟨_ :: xs0, x, by rw [e]; rfl, .cons h h1, h2⟩
theorem paired_app {α β : Type} {F : α → β → Prop} : ∀ {xs : List α} {ws : List β} {ys : List α} {vs : List β}, Paired F xs ws → Paired F ys vs → Paired F (xs ++ ys) (ws ++ vs)
  | _, _, _, _, .nil, s => s
  | _, _, _, _, .cons h t, s => .cons h (paired_app t s)
theorem paired_imp {α β : Type} {F G : α → β → Prop} (h : ∀ x p, F x p → G x p) : ∀ {xs : List α} {ws : List β}, Paired F xs ws → Paired G xs ws
  | _, _, .nil => .nil
  | _, _, .cons a t => .cons (h _ _ a) (paired_imp h t)
/-- what waits: pairs of a document, as it stood at the entry, and a depth -/
def Wt (K : PySem.W.Frag) (H0 H : Hp) (x : V) (p : PyData × Nat) : Prop := ∃ t v, x = .ref t ∧ H t = some (.tup [v, .int p.2]) ∧ Dp K H0 v p.1
theorem Wt.gr {K : PySem.W.Frag} {H0 H H' : Hp} {m : List Addr} (g : Gr m H H') (hm : ∀ b ∈ m, ∃ ys, H b = some (.lst ys)) (x : V) (p : PyData × Nat) (h : Wt K H0 H x p) : Wt K H0 H' x p := by
  obtain ⟨t, v, e, ht, hd⟩ := h
  exact ⟨t, v, e, g.tup (fun z => by obtain ⟨ys, q⟩ := hm t z; rw [ht] at q; cases q) ht, hd⟩
def spTree (K : PySem.W.Frag) : Sp := fun vs H Q _ => ∃ (d : PyData) (v : V), vs = [v] ∧ Dp K H v d ∧ Q (.bl (treeD d)) H
def spIsDoc (K : PySem.W.Frag) (T : Addr) : Sp := fun vs H Q _ => ∃ (d : PyData) (v : V), vs = [v] ∧ Dp K H v d ∧ GxR.TabG H T ∧ ∀ H', Gr [] H H' → Q (.bl (docD d)) H'
section
variable {P : Program} {w : World} {K : PySem.W.Frag} {mg : Str → Option Value} {base : Heap} {f : Addr} {fd : FuncData}
abbrev nIsDoc : List Str := ["d", "many", "waiting", "trees", "depth", "tree", "_", "kids"]
theorem pe_gint {X : Cx} {x : Str} {n : Int} {t : Tok} {pos : Pos} (hm : X.mg x = some (.int n t)) (hg : Gl X x) (hd : (x == ("__debug__" : Str)) = false := by decide) : PE X (.Name x pos) (tC (.int n)) := pe_glob (v := .int n) hg hm ⟨t, rfl⟩ hd
theorem len2 : (2 : Nat) ≤ sizeLine := by decide
end
end LW
set_option maxHeartbeats 400000
namespace LW
open PySem PySem.Spec PyProof.Rows L2
theorem all_snoc {p : PyData → Bool} {ts : List PyData} {i : Nat} {t : PyData} (e : ts[i]? = some t) (h : (ts.take i).all p = true) (h2 : p t = true) : (ts.take (i + 1)).all p = true := by
  rw [List.take_add_one, e, List.all_append, h]
  simp [h2]
theorem all_not {p : PyData → Bool} {ts : List PyData} {i : Nat} {t : PyData} (e : ts[i]? = some t) (h : p t = false) : ts.all p = false := by
  rw [Bool.eq_false_iff]
  intro z
  have := List.all_eq_true.mp z t (List.mem_of_getElem? e)
  rw [h] at this; cases this
theorem dpAll_two {K : PySem.W.Frag} {H : Hp} {xs : List V} {d e : PyData} (h : DpAll K H xs [d, e]) : ∃ v u, xs = [v, u] ∧ Dp K H v d ∧ Dp K H u e := by
  cases h with
  | cons h1 h => cases h with
    | cons h2 h => cases h; exact ⟨_, _, rfl, h1, h2⟩
section
variable {P : Program} {w : World} {K : PySem.W.Frag} {mg : Str → Option Value} {base : Heap} {f : Addr} {fd : FuncData}
end
end LW
set_option maxHeartbeats 1000000
namespace LW
open PySem PySem.Spec PyProof.Rows L2
/-! ### < of data -/
def rLtD (K : PySem.W.Frag) : R2 := fun x y H Q => ∃ d e, Dp K H x d ∧ Dp K H y e ∧ PySem.W.alike d e = true ∧ d ≠ .none ∧ d.depth ≤ 64 ∧ Q (.bl (PySem.W.dataLt d e)) H
theorem op_ltD {X : Cx} (hu : X.A.units + 64 < cLine) : OpR X (compareOp .Lt) (rLtD X.K) := by
  intro pins s σ H x y v u Q I rx ry h
  obtain ⟨d, e, hd, he, ha, hn, hdep, q⟩ := h
  obtain ⟨as, r1⟩ := Dp.reads I d x v hd rx
  obtain ⟨bs, r2⟩ := Dp.reads I e y u he ry
  exact PySem.W.rcLt_alike d e X.A s v u as bs r1 r2 ha hn (by have : min d.depth e.depth ≤ d.depth := Nat.min_le_left _ _; omega) X.prog X.w X.xe (EP X pins σ Q) ⟨.bl _, H, I, rfl, q⟩
def intsD (ns : List Int) : PyData := .list (ns.map .int)
theorem alike_ints : ∀ ns ms : List Int, PySem.W.alikeAll (ns.map .int) (ms.map .int) = true
  | [], _ => by simp [PySem.W.alikeAll]
  | _ :: _, [] => by simp [PySem.W.alikeAll]
  | x :: ns, y :: ms => by simp [PySem.W.alikeAll, PySem.W.alike, alike_ints ns ms]
theorem lt_intsAll : ∀ ns ms : List Int, PyProof.Rows.lexLt itemOrd (PySem.W.keyToksAll (ns.map .int)) (PySem.W.keyToksAll (ms.map .int)) = HT.lexLt ns ms
  | [], [] => by decide
  | [], y :: ms => by
    rw [List.map_cons, PySem.W.toks_all_cons]
    show PyProof.Rows.lexLt itemOrd [Sum.inl 0] (Sum.inl 1 :: _) = true
    rw [show ([Sum.inl 0] : List (Int ⊕ List Nat)) = Sum.inl 0 :: [] from rfl, PySem.W.lex_atom (by intro z; cases z)]
    decide
  | x :: ns, [] => by
    rw [List.map_cons, PySem.W.toks_all_cons]
    show PyProof.Rows.lexLt itemOrd (Sum.inl 1 :: _) [Sum.inl 0] = false
    rw [show ([Sum.inl 0] : List (Int ⊕ List Nat)) = Sum.inl 0 :: [] from rfl, PySem.W.lex_atom (by intro z; cases z)]
    decide
  | x :: ns, y :: ms => by
    rw [List.map_cons, List.map_cons]
    by_cases e : x = y
    · subst e
      rw [PySem.W.dataLt_all_yes (by simp [PySem.W.alike]) (by simp [PyData.eqv]), lt_intsAll ns ms, HT.lexLt_cons, if_pos rfl]
    · rw [PySem.W.dataLt_all_no (by simp [PySem.W.alike]) (by simp [PyData.eqv, e]), PySem.W.dataLt_int, HT.lexLt_cons, if_neg e]
theorem dataLt_ints (ns ms : List Int) : PySem.W.dataLt (intsD ns) (intsD ms) = HT.lexLt ns ms := by
  unfold intsD
  rw [PySem.W.dataLt_list]
  exact lt_intsAll ns ms
theorem canLay_ints : ∀ ns : List Int, PyData.canLayAll0 (ns.map .int) = true
  | [] => rfl
  | x :: ns => by simp [PyData.canLayAll0, PyData.canLay0, canLay_ints ns]
theorem depth_ints : ∀ ns : List Int, PyData.depthAll (ns.map .int) = 0
  | [] => rfl
  | x :: ns => by simp [PyData.depthAll, PyData.depth, depth_ints ns]
theorem shaped_ints (ns : List Int) : SeqAt.shaped (intsD ns) = true := by
  unfold SeqAt.shaped intsD
  have h1 : PyData.canLay0 (.list (ns.map .int)) = true := by rw [PyData.canLay0]; exact canLay_ints ns
  have h2 : PyData.depth (.list (ns.map .int)) = 1 := by rw [PyData.depth, depth_ints]
  rw [h1, h2]
  rfl
theorem eqv_ints : ∀ ns ms : List Int, PyData.eqvAll (ns.map .int) (ms.map .int) = decide (ns = ms)
  | [], [] => by simp [PyData.eqvAll]
  | [], _ :: _ => by simp [PyData.eqvAll]
  | _ :: _, [] => by simp [PyData.eqvAll]
  | x :: ns, y :: ms => by
    rw [List.map_cons, List.map_cons, PyData.eqvAll, eqv_ints ns ms, PyData.eqv]
    by_cases e : x = y <;> by_cases e2 : ns = ms <;> simp [e, e2]
theorem eqv_intsD (ns ms : List Int) : PyData.eqv (intsD ns) (intsD ms) = decide (ns = ms) := by
  unfold intsD
  rw [PyData.eqv]
  exact eqv_ints ns ms
theorem dp_ints {K : PySem.W.Frag} {H : Hp} {a : Addr} {ns : List Int} (h : SqL K H a (ns.map V.int)) : Dp K H (.ref a) (intsD ns) := by
  refine .lst h ?_
  clear h
  induction ns with
  | nil => exact .nil
  | cons x ns ih => exact .cons (.int x) ih

/-! ### documents -/
inductive Doc where
  | nil
  | cons (a : Int) (k r : Doc)
  deriving DecidableEq
def Doc.ts : Doc → List PyData
  | .nil => []
  | .cons a k r => .tuple [.int a, .tuple k.ts] :: r.ts
def Doc.data (d : Doc) : PyData := .tuple d.ts
def Doc.size : Doc → Nat
  | .nil => 0
  | .cons _ k r => 1 + k.size + r.size
def Doc.dep : Doc → Nat
  | .nil => 0
  | .cons _ k r => max (1 + k.dep) r.dep
def Doc.lab : Doc → Bool
  | .nil => true
  | .cons a k r => decide (0 ≤ a ∧ a < 5) && k.lab && r.lab
/-- a document within the bounds -/
def Doc.ok (d : Doc) : Prop := d.lab = true ∧ d.size ≤ 300 ∧ d.dep ≤ 30
def Doc.beh : Doc → List Int
  | .nil => []
  | .cons a k r => a :: (k.size : Int) :: (k.beh ++ r.beh)
def Doc.ord (d : Doc) : List Int := (d.size : Int) :: d.beh
theorem Doc.beh_length : ∀ d : Doc, d.beh.length = 2 * d.size
  | .nil => rfl
  | .cons a k r => by
    simp only [Doc.beh, List.length_cons, List.length_append, Doc.beh_length k, Doc.beh_length r, Doc.size]
    omega
def Doc.app : Doc → Doc → Doc
  | .nil, e => e
  | .cons a k r, e => .cons a k (r.app e)
def Doc.len : Doc → Nat
  | .nil => 0
  | .cons _ _ r => r.len + 1
theorem Doc.ts_length : ∀ d : Doc, d.ts.length = d.len
  | .nil => rfl
  | .cons _ _ r => by simp [Doc.ts, Doc.len, Doc.ts_length r]
theorem Doc.len_size : ∀ d : Doc, d.len ≤ d.size
  | .nil => Nat.le_refl _
  | .cons _ _ r => by have := Doc.len_size r; simp only [Doc.len, Doc.size]; omega
def Doc.tk : Nat → Doc → Doc
  | 0, _ => .nil
  | _ + 1, .nil => .nil
  | n + 1, .cons a k r => .cons a k (r.tk n)
def Doc.at : Nat → Doc → Option (Int × Doc)
  | _, .nil => none
  | 0, .cons a k _ => some (a, k)
  | n + 1, .cons _ _ r => r.at n
theorem Doc.ts_get : ∀ (i : Nat) (d : Doc) (t : PyData), d.ts[i]? = some t → ∃ a k, d.at i = some (a, k) ∧ t = .tuple [.int a, k.data]
  | _, .nil, _, h => by simp [Doc.ts] at h
  | 0, .cons a k r, t, h => ⟨a, k, rfl, by simpa [Doc.ts, Doc.data] using h.symm⟩
  | i + 1, .cons a k r, t, h => by
    obtain ⟨b, l, h1, h2⟩ := Doc.ts_get i r t (by simpa [Doc.ts] using h)
    exact ⟨b, l, h1, h2⟩
theorem Doc.at_size : ∀ (i : Nat) (d : Doc) (a : Int) (k : Doc), d.at i = some (a, k) → k.size < d.size ∧ k.dep < d.dep
  | _, .nil, _, _, h => by simp [Doc.at] at h
  | 0, .cons b l r, a, k, h => by
    simp only [Doc.at, Option.some.injEq, Prod.mk.injEq] at h
    obtain ⟨rfl, rfl⟩ := h
    simp only [Doc.size, Doc.dep]
    omega
  | i + 1, .cons b l r, a, k, h => by
    have := Doc.at_size i r a k h
    simp only [Doc.size, Doc.dep]
    omega
theorem Doc.tk_succ : ∀ (i : Nat) (d : Doc) (a : Int) (k : Doc), d.at i = some (a, k) → (d.tk (i + 1)).size = (d.tk i).size + (1 + k.size) ∧ (d.tk (i + 1)).beh = (d.tk i).beh ++ a :: k.ord
  | _, .nil, _, _, h => by simp [Doc.at] at h
  | 0, .cons b l r, a, k, h => by
    simp only [Doc.at, Option.some.injEq, Prod.mk.injEq] at h
    obtain ⟨rfl, rfl⟩ := h
    simp only [Doc.tk, Doc.size, Doc.beh, Doc.ord]
    refine ⟨by omega, by simp⟩
  | i + 1, .cons b l r, a, k, h => by
    obtain ⟨h1, h2⟩ := Doc.tk_succ i r a k h
    have e1 : (Doc.cons b l r).tk (i + 1 + 1) = .cons b l (r.tk (i + 1)) := rfl
    have e2 : (Doc.cons b l r).tk (i + 1) = .cons b l (r.tk i) := rfl
    rw [e1, e2]
    simp only [Doc.size, Doc.beh, h1, h2]
    refine ⟨by omega, by simp⟩
theorem Doc.tk_len : ∀ (d : Doc), d.tk d.len = d
  | .nil => rfl
  | .cons a k r => by
    show Doc.cons a k (r.tk r.len) = _
    rw [Doc.tk_len r]
theorem Doc.tk_size : ∀ (i : Nat) (d : Doc), (d.tk i).size ≤ d.size
  | 0, d => Nat.zero_le _
  | _ + 1, .nil => Nat.le_refl _
  | i + 1, .cons a k r => by
    have := Doc.tk_size i r
    simp only [Doc.tk, Doc.size]
    omega
theorem form_doc : ∀ (d : Doc) (n : Nat), d.lab = true → n + d.dep ≤ 31 → (d = .nil ∨ n ≤ 30) ∧ formAll d.ts n = true
  | .nil, n, _, _ => ⟨.inl rfl, rfl⟩
  | .cons a k r, n, hl, hd => by
    simp only [Doc.lab, Bool.and_eq_true, decide_eq_true_eq] at hl
    obtain ⟨⟨⟨h0, h5⟩, hk⟩, hr⟩ := hl
    simp only [Doc.dep] at hd
    obtain ⟨k1, k2⟩ := form_doc k (n + 1) hk (by omega)
    obtain ⟨_, r2⟩ := form_doc r n hr (by omega)
    refine ⟨.inr (by omega), ?_⟩
    have e : formD (.tuple k.ts) (n + 1) = true := by
      rw [formD, k2, Bool.and_true]
      rcases k1 with rfl | h
      · rfl
      · rw [decide_eq_true h, Bool.or_true]
    rw [Doc.ts, formAll, r2, Bool.and_true, formT, e, Bool.and_true]
    simp [belowD, h0, h5]
theorem sz_doc : ∀ d : Doc, szAll d.ts = d.size
  | .nil => rfl
  | .cons a k r => by
    rw [Doc.ts, szAll, szT, szD, sz_doc k, sz_doc r, Doc.size]
theorem doc_ok {d : Doc} (h : d.ok) : docD d.data = true := by
  obtain ⟨h1, h2, h3⟩ := h
  obtain ⟨f1, f2⟩ := form_doc d 1 h1 (by omega)
  unfold docD Doc.data
  rw [formD, f2, szD, sz_doc, decide_eq_true h2]
  simp
end LW
set_option maxHeartbeats 1000000
namespace LW
open PySem PySem.Spec PyProof.Rows L2
def spOrd (K : PySem.W.Frag) (n : Nat) : Sp := fun vs H Q _ => ∃ (d : Doc) (v : V), vs = [v] ∧ Dp K H v d.data ∧ d.dep < n ∧ d.size ≤ 300 ∧ ∀ H' p, Gr [] H H' → H p = none → H' p = some (.lst (d.ord.map V.int)) → Q (.ref p) H'
/-- of a document within the bounds -/
def spCheckV (K : PySem.W.Frag) (T : Addr) : Sp := fun vs H Q _ => ∃ (d : Doc) (v : V), vs = [v] ∧ Dp K H v d.data ∧ d.ok ∧ GxR.TabG H T ∧ ∀ H', Gr [] H H' → Q .non H'
def spSizeV (K : PySem.W.Frag) (T : Addr) : Sp := fun vs H Q _ => ∃ (d : Doc) (v : V), vs = [v] ∧ Dp K H v d.data ∧ d.ok ∧ GxR.TabG H T ∧ ∀ H', Gr [] H H' → Q (.int d.size) H'
def cmpL (xs ys : List Int) : Int := if xs = ys then 0 else if HT.lexLt xs ys = true then -1 else 1
def spBeforeV (K : PySem.W.Frag) (T : Addr) : Sp := fun vs H Q _ => ∃ (d e : Doc) (v u : V), vs = [v, u] ∧ Dp K H v d.data ∧ Dp K H u e.data ∧ d.ok ∧ e.ok ∧ GxR.TabG H T ∧ ∀ H', Gr [] H H' → Q (.int (cmpL d.ord e.ord)) H'
section
variable {P : Program} {w : World} {K : PySem.W.Frag} {mg : Str → Option Value} {base : Heap} {f : Addr} {fd : FuncData}
theorem small_sz {n : Nat} (h : n ≤ 100000) : n ≤ sizeLine := Nat.le_trans h (by decide)
theorem ord_none {f : Addr} {fd : FuncData} : FnOk P w K mg base CX0 0 f fd ["d"] (spOrd K 0) := by
  have no : ∀ vs H Q E, ¬ spOrd K 0 vs H Q E := fun vs H Q E h => by
    obtain ⟨d, v, _, _, h, _⟩ := h
    exact absurd h (Nat.not_lt_zero _)
  exact ⟨fun vs H Q E h => absurd h (no vs H Q E), fun A outer s H args us vs Q E _ _ _ _ h => absurd h (no vs H Q E)⟩
end
end LW
set_option maxHeartbeats 2000000
namespace LW
open PySem PySem.Spec PyProof.Rows L2
/-! ### the law's box of cells -/
def bxL (b0 b1 b2 : Int) (cl : Addr) : HO := .lst [.int b0, .int b1, .int b2, .ref cl]
def BoxAt (H : Hp) (bx cl : Addr) : Prop := ∃ (ns : List Int) (b0 b1 b2 : Int), H bx = some (bxL b0 b1 b2 cl) ∧ H cl = some (.lst (ns.map V.int)) ∧ cl ≠ bx ∧ 0 ≤ b2
theorem BoxAt.lst {H : Hp} {bx cl : Addr} (h : BoxAt H bx cl) : ∀ b ∈ [bx], ∃ ys, H b = some (.lst ys) := fun b hb => by
  obtain ⟨ns, b0, b1, b2, h, _⟩ := h
  rw [List.mem_singleton.mp hb]
  exact ⟨_, h⟩
theorem BoxAt.gr {H H' : Hp} {bx cl : Addr} (h : BoxAt H bx cl) (g : Gr [] H H') : BoxAt H' bx cl := by
  obtain ⟨ns, b0, b1, b2, h1, h2, h3, h4⟩ := h
  exact ⟨ns, b0, b1, b2, g.lst (by simp) h1, g.lst (by simp) h2, h3, h4⟩
theorem BoxAt.ne {H : Hp} {bx cl p : Addr} (h : BoxAt H bx cl) (n : H p = none) : p ≠ bx ∧ p ≠ cl := by
  obtain ⟨ns, b0, b1, b2, h1, h2, _⟩ := h
  exact ⟨fun z => (by rw [z, h1] at n; cases n), fun z => (by rw [z, h2] at n; cases n)⟩
/-- another object is written -/
theorem BoxAt.put {H : Hp} {bx cl p : Addr} {o : HO} (h : BoxAt H bx cl) (h1 : p ≠ bx) (h2 : p ≠ cl) : BoxAt (upd H p o) bx cl := by
  obtain ⟨ns, b0, b1, b2, e1, e2, e3, e4⟩ := h
  exact ⟨ns, b0, b1, b2, by rw [upd_ne (Ne.symm h1)]; exact e1, by rw [upd_ne (Ne.symm h2)]; exact e2, e3, e4⟩
mutual
theorem pure_doc : ∀ d : Doc, pureAll d.ts = true
  | .nil => rfl
  | .cons a k r => by
    simp only [Doc.ts, pureAll, pure1, pure_doc k, pure_doc r, Bool.and_true]
end
theorem pure_data (d : Doc) : pure1 d.data = true := by unfold Doc.data; rw [pure1]; exact pure_doc d
theorem doc_grb {K : PySem.W.Frag} {H H' : Hp} {m : List Addr} {v : V} {d : Doc} (g : Gr m H H') (hm : ∀ b ∈ m, ∃ ys, H b = some (.lst ys)) (h : Dp K H v d.data) : Dp K H' v d.data := dp_grm g hm d.data v (pure_data d) h
theorem lt_pos {n : Int} (h : 0 < n) : 0 < n := h
def spTake : Sp := fun vs H Q _ => ∃ (bx cl : Addr) (m : Int), vs = [.ref bx, .int m] ∧ 0 < m ∧ m < 1073741824 ∧ BoxAt H bx cl ∧ ∀ t H', 0 ≤ t → t < m → Gr [bx] H H' → BoxAt H' bx cl → Q (.int t) H'
def spPick : Sp := fun vs H Q _ => ∃ (bx cl ml : Addr) (ls : List Int), vs = [.ref bx, .ref ml] ∧ H ml = some (.lst (ls.map V.int)) ∧ ml ≠ bx ∧ 0 < ls.length ∧ ls.length < 1073741824 ∧ BoxAt H bx cl ∧ ∀ t H', t ∈ ls → Gr [bx] H H' → BoxAt H' bx cl → Q (.int t) H'
def spSizeL (K : PySem.W.Frag) (n : Nat) : Sp := fun vs H Q _ => ∃ (d : Doc) (v : V), vs = [v] ∧ Dp K H v d.data ∧ d.dep < n ∧ d.size ≤ 300 ∧ ∀ H', Gr [] H H' → Q (.int d.size) H'
section
variable {P : Program} {w : World} {K : PySem.W.Frag} {mg : Str → Option Value} {base : Heap} {f : Addr} {fd : FuncData}
end
end LW
set_option maxHeartbeats 2000000
namespace LW
open PySem PySem.Spec PyProof.Rows L2
def Doc.szs : Nat → Doc → List Int
  | 0, _ => []
  | _ + 1, .nil => []
  | n + 1, .cons _ k r => (1 + (k.size : Int)) :: r.szs n
theorem Doc.szs_succ : ∀ (i : Nat) (d : Doc) (a : Int) (k : Doc), d.at i = some (a, k) → d.szs (i + 1) = d.szs i ++ [1 + (k.size : Int)]
  | _, .nil, _, _, h => by simp [Doc.at] at h
  | 0, .cons b l r, a, k, h => by
    simp only [Doc.at, Option.some.injEq, Prod.mk.injEq] at h
    obtain ⟨rfl, rfl⟩ := h
    rfl
  | i + 1, .cons b l r, a, k, h => by
    have h1 := Doc.szs_succ i r a k h
    show (1 + (l.size : Int)) :: r.szs (i + 1) = (1 + (l.size : Int)) :: r.szs i ++ _
    rw [h1]
    rfl
theorem Doc.szs_sum : ∀ d : Doc, (d.szs d.len).sum = d.size
  | .nil => rfl
  | .cons a k r => by
    show ((1 + (k.size : Int)) :: r.szs r.len).sum = _
    rw [List.sum_cons, Doc.szs_sum r]
    simp only [Doc.size]
    omega
theorem Doc.szs_len : ∀ (i : Nat) (d : Doc), i ≤ d.len → (d.szs i).length = i
  | 0, _, _ => rfl
  | _ + 1, .nil, h => by simp [Doc.len] at h
  | i + 1, .cons a k r, h => by
    show (r.szs i).length + 1 = i + 1
    rw [Doc.szs_len i r (by simp [Doc.len] at h; omega)]
section
variable {P : Program} {w : World} {K : PySem.W.Frag} {mg : Str → Option Value} {base : Heap} {f : Addr} {fd : FuncData}
theorem sizeL_none {f : Addr} {fd : FuncData} : FnOk P w K mg base CX0 0 f fd ["d"] (spSizeL K 0) := by
  have no : ∀ vs H Q E, ¬ spSizeL K 0 vs H Q E := fun vs H Q E h => by
    obtain ⟨d, v, _, _, h, _⟩ := h
    exact absurd h (Nat.not_lt_zero _)
  exact ⟨fun vs H Q E h => absurd h (no vs H Q E), fun A outer s H args us vs Q E _ _ _ _ h => absurd h (no vs H Q E)⟩
end
/-! ### slices and sums of tuples, as data -/
section
variable {K : PySem.W.Frag} {H : Hp}
theorem cat_data {v u : V} {ds es : List PyData} {Q : VK} (hv : Dp K H v (.tuple ds)) (hu : Dp K H u (.tuple es)) (hz : ds.length + es.length ≤ sizeLine) (h : ∀ H' x, Gr [] H H' → Dp K H' x (.tuple (ds ++ es)) → Q x H') : rCatA K v u H Q := by
  obtain ⟨a, xs, rfl, hs, ha⟩ := hv.tupI
  obtain ⟨b, ys, rfl, ht, hb⟩ := hu.tupI
  have l1 := ha.length
  have l2 := hb.length
  refine ⟨a, b, xs, ys, rfl, rfl, hs, ht, by omega, fun e => ?_, fun _ e => ?_, fun _ _ p np => ?_⟩
  · subst e
    have : ds = [] := List.eq_nil_of_length_eq_zero (by rw [← l1]; rfl)
    subst this
    exact h H _ (Gr.refl H) (.tup ht hb)
  · subst e
    have : es = [] := List.eq_nil_of_length_eq_zero (by rw [← l2]; rfl)
    subst this
    exact h H _ (Gr.refl H) (.tup hs (by simpa using ha))
  · exact h _ _ (Gr.new np) (.tup (SqT.of upd_same) ((ha.gr (Gr.new np)).append (hb.gr (Gr.new np))))
theorem cut_take {xs : List V} {k : Nat} : cutV xs none (some (k : Int)) = xs.take k := by
  unfold cutV
  rw [HT.sIx_none, HT.sIx_nat, List.drop_zero, Nat.sub_zero]
  by_cases h : k ≤ xs.length
  · rw [Nat.min_eq_left h]
  · rw [Nat.min_eq_right (by omega), List.take_length, List.take_of_length_le (by omega)]
theorem cut_drop {xs : List V} {k : Nat} : cutV xs (some (k : Int)) none = xs.drop k := by
  unfold cutV
  rw [HT.sIx_none, HT.sIx_nat]
  by_cases h : k ≤ xs.length
  · rw [Nat.min_eq_left h]
    exact List.take_of_length_le (by rw [List.length_drop]; exact Nat.le_refl _)
  · rw [Nat.min_eq_right (by omega), List.drop_length, List.drop_of_length_le (by omega)]
    simp
theorem take_data {v : V} {ds : List PyData} {k : Nat} {Q : VK} (hv : Dp K H v (.tuple ds)) (h : ∀ H' x, Gr [] H H' → Dp K H' x (.tuple (ds.take k)) → Q x H') : rSlA K v none (some (k : Int)) H Q := by
  obtain ⟨a, xs, rfl, hs, ha⟩ := hv.tupI
  have l1 := ha.length
  refine ⟨a, xs, rfl, hs, fun e => ?_, fun _ p np => ?_⟩
  · obtain ⟨_, e2⟩ := e
    rw [HT.sIx_nat] at e2
    refine h H _ (Gr.refl H) (.tup hs ?_)
    rw [List.take_of_length_le (by omega)]
    exact ha
  · refine h _ _ (Gr.new np) (.tup (SqT.of upd_same) ?_)
    rw [cut_take]
    exact (ha.gr (Gr.new np)).take k
theorem drop_data {v : V} {ds : List PyData} {k : Nat} {lo : Int} {Q : VK} (hlo : lo = (k : Int)) (hv : Dp K H v (.tuple ds)) (h : ∀ H' x, Gr [] H H' → Dp K H' x (.tuple (ds.drop k)) → Q x H') : rSlA K v (some lo) none H Q := by
  subst hlo
  obtain ⟨a, xs, rfl, hs, ha⟩ := hv.tupI
  have l1 := ha.length
  refine ⟨a, xs, rfl, hs, fun e => ?_, fun _ p np => ?_⟩
  · obtain ⟨e2, _⟩ := e
    rw [HT.sIx_nat] at e2
    refine h H _ (Gr.refl H) (.tup hs ?_)
    by_cases hk : k = 0
    · subst hk; exact ha
    · have : xs.length = 0 := by omega
      have e3 : xs = [] := List.eq_nil_of_length_eq_zero this
      subst e3
      have e4 : ds = [] := List.eq_nil_of_length_eq_zero (by rw [← l1]; rfl)
      subst e4
      simpa using ha
  · refine h _ _ (Gr.new np) (.tup (SqT.of upd_same) ?_)
    rw [cut_drop]
    exact (ha.gr (Gr.new np)).drop k
end
end LW
set_option maxHeartbeats 2000000
namespace LW
open PySem PySem.Spec PyProof.Rows L2
theorem Doc.app_ts : ∀ d e : Doc, (d.app e).ts = d.ts ++ e.ts
  | .nil, _ => rfl
  | .cons a k r, e => by simp [Doc.app, Doc.ts, Doc.app_ts r e]
theorem Doc.app_size : ∀ d e : Doc, (d.app e).size = d.size + e.size
  | .nil, _ => by simp [Doc.app, Doc.size]
  | .cons a k r, e => by simp only [Doc.app, Doc.size, Doc.app_size r e]; omega
theorem Doc.app_dep : ∀ d e : Doc, (d.app e).dep = max d.dep e.dep
  | .nil, _ => by simp [Doc.app, Doc.dep]
  | .cons a k r, e => by simp only [Doc.app, Doc.dep, Doc.app_dep r e]; omega
theorem Doc.app_lab : ∀ d e : Doc, (d.app e).lab = (d.lab && e.lab)
  | .nil, _ => by simp [Doc.app, Doc.lab]
  | .cons a k r, e => by simp only [Doc.app, Doc.lab, Doc.app_lab r e, Bool.and_assoc]
def spDocL (K : PySem.W.Frag) (n : Nat) : Sp := fun vs H Q _ => ∃ (bx cl ll : Addr) (ls : List Int) (most deep : Nat), vs = [.ref bx, .ref ll, .int most, .int deep] ∧ BoxAt H bx cl ∧ H ll = some (.lst (ls.map V.int)) ∧ ll ≠ bx ∧ 0 < ls.length ∧ ls.length < 1073741824 ∧
  (∀ x ∈ ls, 0 ≤ x ∧ x < 5) ∧ most ≤ 300 ∧ 1 ≤ deep ∧ deep < n ∧ deep ≤ 30 ∧ ∀ (d : Doc) (v : V) H', d.lab = true → d.size ≤ most → d.dep ≤ deep → Gr [bx] H H' → BoxAt H' bx cl → Dp K H' v d.data → Q v H'
section
variable {P : Program} {w : World} {K : PySem.W.Frag} {mg : Str → Option Value} {base : Heap} {f : Addr} {fd : FuncData}
theorem docL_none {k : Nat} {f : Addr} {fd : FuncData} : FnOk P w K mg base CX0 k f fd ["box", "labels", "most", "deep"] (spDocL K 0) := by
  have no : ∀ vs H Q E, ¬ spDocL K 0 vs H Q E := fun vs H Q E h => by
    obtain ⟨_, _, _, _, _, _, _, _, _, _, _, _, _, _, _, h, _⟩ := h
    exact absurd h (Nat.not_lt_zero _)
  exact ⟨fun vs H Q E h => absurd h (no vs H Q E), fun A outer s H args us vs Q E _ _ _ _ h => absurd h (no vs H Q E)⟩
end
end LW
set_option maxHeartbeats 2000000
namespace LW
open PySem PySem.Spec PyProof.Rows L2
/-! ### the order of documents -/
def sgn (a b : Int) : Int := if a < b then -1 else 1
def ordT : Doc → Doc → Int
  | .cons a k r, .cons b l s => if a ≠ b then sgn a b else if k.size ≠ l.size then sgn k.size l.size else if ordT k l ≠ 0 then ordT k l else ordT r s
  | _, _ => 0
def ordS (d e : Doc) : Int := if d.size ≠ e.size then sgn d.size e.size else ordT d e
theorem sgn_ne (a b : Int) : sgn a b ≠ 0 := by unfold sgn; split <;> decide
theorem cmpL_cons (x y : Int) (xs ys : List Int) : cmpL (x :: xs) (y :: ys) = if x ≠ y then sgn x y else cmpL xs ys := by
  unfold cmpL sgn
  by_cases h : x = y
  · subst h
    simp only [HT.lexLt_cons, if_true, ne_eq, not_true, if_false]
    by_cases e : xs = ys
    · subst e; simp
    · rw [if_neg (fun z => e (List.cons.inj z).2), if_neg e]
  · simp only [HT.lexLt_cons, if_neg h, ne_eq, h, not_false_iff, if_true]
    rw [if_neg (fun z => h (List.cons.inj z).1)]
    by_cases l : x < y <;> simp [l]
theorem ordT_ab {a b : Int} {k r l s : Doc} (h : a ≠ b) : ordT (.cons a k r) (.cons b l s) = sgn a b := by simp only [ordT]; rw [if_pos h]
theorem ordT_sz {a : Int} {k r l s : Doc} (h : k.size ≠ l.size) : ordT (.cons a k r) (.cons a l s) = sgn k.size l.size := by simp only [ordT]; rw [if_neg (show ¬ a ≠ a from fun z => z rfl), if_pos h]
theorem ordT_kid {a : Int} {k r l s : Doc} (h : k.size = l.size) (h2 : ordT k l ≠ 0) : ordT (.cons a k r) (.cons a l s) = ordT k l := by
  simp only [ordT]; rw [if_neg (show ¬ a ≠ a from fun z => z rfl), if_neg (show ¬ k.size ≠ l.size from fun z => z h), if_pos h2]
theorem ordT_next {a : Int} {k r l s : Doc} (h : k.size = l.size) (h2 : ordT k l = 0) : ordT (.cons a k r) (.cons a l s) = ordT r s := by
  simp only [ordT]; rw [if_neg (show ¬ a ≠ a from fun z => z rfl), if_neg (show ¬ k.size ≠ l.size from fun z => z h), if_neg (show ¬ ordT k l ≠ 0 from fun z => z h2)]
theorem cmp_beh : ∀ (d e : Doc), d.size = e.size → ∀ x y, cmpL (d.beh ++ x) (e.beh ++ y) = if ordT d e ≠ 0 then ordT d e else cmpL x y
  | .nil, .nil, _, x, y => by simp [Doc.beh, ordT]
  | .nil, .cons b l s, h, _, _ => by simp only [Doc.size] at h; omega
  | .cons a k r, .nil, h, _, _ => by simp only [Doc.size] at h; omega
  | .cons a k r, .cons b l s, h, x, y => by
    simp only [Doc.size] at h
    simp only [Doc.beh, List.cons_append, List.append_assoc, cmpL_cons]
    by_cases hab : a = b
    · subst hab
      rw [if_neg (show ¬ a ≠ a from fun z => z rfl)]
      by_cases hs : k.size = l.size
      · rw [if_neg (show ¬ ((k.size : Int) ≠ l.size) from fun z => z (by rw [hs]))]
        rw [cmp_beh k l hs, cmp_beh r s (by omega)]
        by_cases hk : ordT k l = 0
        · rw [if_neg (show ¬ ordT k l ≠ 0 from fun z => z hk), ordT_next hs hk]
        · rw [if_pos hk, ordT_kid hs hk, if_pos hk]
      · rw [if_pos (show ((k.size : Int) ≠ l.size) by omega), ordT_sz hs, if_pos (sgn_ne _ _)]
    · rw [if_pos hab, ordT_ab hab, if_pos (sgn_ne _ _)]
theorem cmp_ord (d e : Doc) : cmpL d.ord e.ord = ordS d e := by
  unfold Doc.ord ordS
  rw [cmpL_cons]
  by_cases h : d.size = e.size
  · rw [if_neg (show ¬ ((d.size : Int) ≠ e.size) by omega), if_neg (show ¬ d.size ≠ e.size from fun z => z h)]
    have := cmp_beh d e h [] []
    rw [List.append_nil, List.append_nil] at this
    rw [this]
    by_cases z : ordT d e = 0
    · rw [z]; simp [cmpL]
    · rw [if_pos z]
  · rw [if_pos (show ((d.size : Int) ≠ e.size) by omega), if_pos h]
theorem ordT_eq : ∀ (d e : Doc), d.size = e.size → ordT d e = 0 → d = e
  | .nil, .nil, _, _ => rfl
  | .nil, .cons b l s, h, _ => by simp only [Doc.size] at h; omega
  | .cons a k r, .nil, h, _ => by simp only [Doc.size] at h; omega
  | .cons a k r, .cons b l s, h, z => by
    simp only [Doc.size] at h
    unfold ordT at z
    by_cases hab : a = b
    · rw [if_neg (show ¬ a ≠ b from fun z => z hab)] at z
      by_cases hs : k.size = l.size
      · rw [if_neg (show ¬ k.size ≠ l.size from fun z => z hs)] at z
        by_cases hk : ordT k l = 0
        · rw [if_neg (show ¬ ordT k l ≠ 0 from fun z => z hk)] at z
          rw [hab, ordT_eq k l hs hk, ordT_eq r s (by omega) z]
        · rw [if_pos hk] at z
          exact absurd z hk
      · rw [if_pos hs] at z
        exact absurd z (sgn_ne _ _)
    · rw [if_pos hab] at z
      exact absurd z (sgn_ne _ _)
theorem ordT_refl : ∀ d : Doc, ordT d d = 0
  | .nil => rfl
  | .cons a k r => by
    unfold ordT
    simp [ordT_refl k, ordT_refl r]
theorem ordS_refl (d : Doc) : ordS d d = 0 := by simp [ordS, ordT_refl]
theorem ordS_eq {d e : Doc} (h : ordS d e = 0) : d = e := by
  unfold ordS at h
  by_cases hs : d.size = e.size
  · rw [if_neg (show ¬ d.size ≠ e.size from fun z => z hs)] at h
    exact ordT_eq d e hs h
  · rw [if_pos hs] at h
    exact absurd h (sgn_ne _ _)
theorem sgn_neg {a b : Int} (h : a ≠ b) : sgn b a = - sgn a b := by
  unfold sgn
  by_cases l : a < b
  · rw [if_pos l, if_neg (by omega)]; rfl
  · rw [if_neg l, if_pos (by omega)]
theorem ordT_neg : ∀ d e : Doc, ordT e d = - ordT d e
  | .nil, .nil => rfl
  | .nil, .cons b l s => rfl
  | .cons a k r, .nil => rfl
  | .cons a k r, .cons b l s => by
    unfold ordT
    by_cases hab : a = b
    · subst hab
      simp only [ne_eq, not_true, if_false]
      by_cases hs : k.size = l.size
      · simp only [hs, not_true, if_false]
        rw [ordT_neg k l, ordT_neg r s]
        by_cases hk : ordT k l = 0
        · simp [hk]
        · rw [if_pos (show ¬ - ordT k l = 0 by omega), if_pos hk]
      · have h2 : ¬ l.size = k.size := fun z => hs z.symm
        rw [if_pos hs, if_pos h2, sgn_neg (by omega)]
    · have h2 : ¬ b = a := fun z => hab z.symm
      simp only [ne_eq, hab, h2, not_false_iff, if_true]
      exact sgn_neg hab
theorem ordS_neg (d e : Doc) : ordS e d = - ordS d e := by
  unfold ordS
  by_cases hs : d.size = e.size
  · rw [if_neg (show ¬ d.size ≠ e.size from fun z => z hs), if_neg (show ¬ e.size ≠ d.size from fun z => z hs.symm), ordT_neg]
  · rw [if_pos hs, if_pos (show e.size ≠ d.size from fun z => hs z.symm), sgn_neg (by omega)]
/-- the rest of the loop from place i on -/
def Doc.dr : Nat → Doc → Doc
  | 0, d => d
  | _ + 1, .nil => .nil
  | n + 1, .cons _ _ r => r.dr n
theorem Doc.dr_at : ∀ (i : Nat) (d : Doc) (a : Int) (k : Doc), d.at i = some (a, k) → d.dr i = .cons a k (d.dr (i + 1))
  | _, .nil, _, _, h => by simp [Doc.at] at h
  | 0, .cons b l r, a, k, h => by
    simp only [Doc.at, Option.some.injEq, Prod.mk.injEq] at h
    obtain ⟨rfl, rfl⟩ := h
    cases r <;> rfl
  | i + 1, .cons b l r, a, k, h => Doc.dr_at i r a k h
theorem Doc.dr_end : ∀ (i : Nat) (d : Doc), d.len ≤ i → d.dr i = .nil
  | 0, .nil, _ => rfl
  | _ + 1, .nil, _ => rfl
  | 0, .cons _ _ r, h => by simp [Doc.len] at h
  | i + 1, .cons _ _ r, h => Doc.dr_end i r (by simp [Doc.len] at h; omega)
theorem Doc.at_of : ∀ (i : Nat) (d : Doc), i < d.len → ∃ a k, d.at i = some (a, k) ∧ d.ts[i]? = some (.tuple [.int a, k.data])
  | _, .nil, h => by simp [Doc.len] at h
  | 0, .cons a k r, _ => ⟨a, k, rfl, by simp [Doc.ts, Doc.data]⟩
  | i + 1, .cons a k r, h => by
    obtain ⟨b, l, h1, h2⟩ := Doc.at_of i r (by simp [Doc.len] at h; omega)
    exact ⟨b, l, h1, by simpa [Doc.ts] using h2⟩
theorem ordT_nil (d : Doc) : ordT d .nil = 0 := by cases d <;> rfl
def spOrdL (K : PySem.W.Frag) (n : Nat) : Sp := fun vs H Q _ => ∃ (d e : Doc) (v u : V), vs = [v, u] ∧ Dp K H v d.data ∧ Dp K H u e.data ∧ d.dep < n ∧ d.size ≤ 300 ∧ d.dep ≤ 30 ∧ e.size ≤ 300 ∧ e.dep ≤ 30 ∧ ∀ H', Gr [] H H' → Q (.int (ordS d e)) H'
section
variable {P : Program} {w : World} {K : PySem.W.Frag} {mg : Str → Option Value} {base : Heap} {f : Addr} {fd : FuncData}
abbrev nLawOrd : List Str := ["d", "e", "one", "two", "k", "found"]
theorem ordL_none {k : Nat} {f : Addr} {fd : FuncData} : FnOk P w K mg base CX0 k f fd ["d", "e"] (spOrdL K 0) := by
  have no : ∀ vs H Q E, ¬ spOrdL K 0 vs H Q E := fun vs H Q E h => by
    obtain ⟨_, _, _, _, _, _, _, h, _⟩ := h
    exact absurd h (Nat.not_lt_zero _)
  exact ⟨fun vs H Q E h => absurd h (no vs H Q E), fun A outer s H args us vs Q E _ _ _ _ h => absurd h (no vs H Q E)⟩
end
end LW
set_option maxHeartbeats 2000000
namespace LW
open PySem PySem.Spec PyProof.Rows L2
theorem Doc.ts_tk : ∀ (i : Nat) (d : Doc), (d.tk i).ts = d.ts.take i
  | 0, _ => rfl
  | _ + 1, .nil => rfl
  | i + 1, .cons a k r => by simp [Doc.tk, Doc.ts, Doc.ts_tk i r]
theorem Doc.ts_dr : ∀ (i : Nat) (d : Doc), (d.dr i).ts = d.ts.drop i
  | 0, _ => by cases ‹Doc› <;> rfl
  | _ + 1, .nil => rfl
  | i + 1, .cons a k r => by simp [Doc.dr, Doc.ts, Doc.ts_dr i r]
theorem Doc.split : ∀ (i : Nat) (d : Doc) (a : Int) (k : Doc), d.at i = some (a, k) → d = (d.tk i).app (.cons a k (d.dr (i + 1)))
  | _, .nil, _, _, h => by simp [Doc.at] at h
  | 0, .cons b l r, a, k, h => by
    simp only [Doc.at, Option.some.injEq, Prod.mk.injEq] at h
    obtain ⟨rfl, rfl⟩ := h
    cases r <;> rfl
  | i + 1, .cons b l r, a, k, h => by
    show Doc.cons b l r = .cons b l ((r.tk i).app (.cons a k (r.dr (i + 1))))
    rw [← Doc.split i r a k h]
/-- a tree in the place of another -/
theorem Doc.put_facts {i : Nat} {d : Doc} {a : Int} {k : Doc} (h : d.at i = some (a, k)) (a' : Int) (k' : Doc) :
    (((d.tk i).app (.cons a' k' .nil)).app (d.dr (i + 1))).ts = d.ts.take i ++ [.tuple [.int a', k'.data]] ++ d.ts.drop (i + 1) ∧
    (((d.tk i).app (.cons a' k' .nil)).app (d.dr (i + 1))).size + k.size = d.size + k'.size ∧
    (((d.tk i).app (.cons a' k' .nil)).app (d.dr (i + 1))).dep ≤ max d.dep (1 + k'.dep) ∧
    (d.lab = true → 0 ≤ a' → a' < 5 → k'.lab = true → (((d.tk i).app (.cons a' k' .nil)).app (d.dr (i + 1))).lab = true) := by
  have hs := Doc.split i d a k h
  have s1 := congrArg Doc.size hs
  have s2 := congrArg Doc.dep hs
  have s3 := congrArg Doc.lab hs
  simp only [Doc.app_size, Doc.size, Doc.app_dep, Doc.dep, Doc.app_lab, Doc.lab] at s1 s2 s3
  refine ⟨?_, ?_, ?_, fun hl h0 h5 hk => ?_⟩
  · rw [Doc.app_ts, Doc.app_ts, Doc.ts_tk, Doc.ts_dr]
    rfl
  · simp only [Doc.app_size, Doc.size]; omega
  · simp only [Doc.app_dep, Doc.dep]; omega
  · rw [hl] at s3
    have q := s3.symm
    simp only [Bool.and_eq_true] at q
    simp only [Doc.app_lab, Doc.lab, hk, q.1, q.2.2, Bool.and_true, Bool.true_and]
    exact decide_eq_true ⟨h0, h5⟩
theorem Doc.cut_facts {i : Nat} {d : Doc} {a : Int} {k : Doc} (h : d.at i = some (a, k)) :
    ((d.tk i).app (d.dr (i + 1))).ts = d.ts.take i ++ d.ts.drop (i + 1) ∧ ((d.tk i).app (d.dr (i + 1))).size ≤ d.size ∧ ((d.tk i).app (d.dr (i + 1))).dep ≤ d.dep ∧ (d.lab = true → ((d.tk i).app (d.dr (i + 1))).lab = true) := by
  have hs := Doc.split i d a k h
  have s1 := congrArg Doc.size hs
  have s2 := congrArg Doc.dep hs
  have s3 := congrArg Doc.lab hs
  simp only [Doc.app_size, Doc.size, Doc.app_dep, Doc.dep, Doc.app_lab, Doc.lab] at s1 s2 s3
  refine ⟨?_, ?_, ?_, fun hl => ?_⟩
  · rw [Doc.app_ts, Doc.ts_tk, Doc.ts_dr]
  · simp only [Doc.app_size]; omega
  · simp only [Doc.app_dep]; omega
  · rw [hl] at s3
    have q := s3.symm
    simp only [Bool.and_eq_true] at q
    simp only [Doc.app_lab, q.1, q.2.2, Bool.and_true]
theorem one_tree {K : PySem.W.Frag} {H : Hp} {tp up : Addr} {kv : V} {t : Int} {kd : PyData} (hk : Dp K H kv kd) (nt : H tp = none) (nu : (upd H tp (.tup [.int t, kv])) up = none) :
    Gr [] H (upd (upd H tp (.tup [.int t, kv])) up (.tup [.ref tp])) ∧ Dp K (upd (upd H tp (.tup [.int t, kv])) up (.tup [.ref tp])) (.ref up) (.tuple [.tuple [.int t, kd]]) := by
  have e2 : Gr [] H (upd H tp (.tup [.int t, kv])) := Gr.new nt
  have e3 : Gr [] (upd H tp (.tup [.int t, kv])) (upd (upd H tp (.tup [.int t, kv])) up (.tup [.ref tp])) := Gr.new nu
  refine ⟨e2.trans e3, .tup (SqT.of upd_same) (.cons (.tup (xs := [.int t, kv]) (SqT.of (e3.tup (by simp) upd_same)) (.cons (.int t) (.cons (hk.gr (e2.trans e3)) .nil))) .nil)⟩
def spNear (K : PySem.W.Frag) (n : Nat) : Sp := fun vs H Q _ => ∃ (bx cl : Addr) (d : Doc) (v : V), vs = [.ref bx, v] ∧ BoxAt H bx cl ∧ Dp K H v d.data ∧ d.lab = true ∧ d.size ≤ 100 ∧ d.dep < n ∧
  ∀ (e : Doc) (u : V) H', e.lab = true → e.size ≤ d.size + 1 → e.dep ≤ d.dep + 1 → Gr [bx] H H' → BoxAt H' bx cl → Dp K H' u e.data → Q u H'
section
variable {P : Program} {w : World} {K : PySem.W.Frag} {mg : Str → Option Value} {base : Heap} {f : Addr} {fd : FuncData}
theorem near_none {k : Nat} {f : Addr} {fd : FuncData} : FnOk P w K mg base CX0 k f fd ["box", "d"] (spNear K 0) := by
  have no : ∀ vs H Q E, ¬ spNear K 0 vs H Q E := fun vs H Q E h => by
    obtain ⟨_, _, _, _, _, _, _, _, _, h, _⟩ := h
    exact absurd h (Nat.not_lt_zero _)
  exact ⟨fun vs H Q E h => absurd h (no vs H Q E), fun A outer s H args us vs Q E _ _ _ _ h => absurd h (no vs H Q E)⟩
end
end LW
set_option maxHeartbeats 2000000
namespace LW
open PySem PySem.Spec PyProof.Rows L2
/-! ### all documents up to a size -/
def st3 (tbl : List (List Doc)) (many : Nat) (a : Int) (inner : Nat) (kids : Doc) : List Doc := (tbl.getD (many - 1 - inner) []).map fun rest => Doc.cons a kids rest
def st2 (tbl : List (List Doc)) (many : Nat) (a : Int) (inner : Nat) : List Doc := (tbl.getD inner []).flatMap (st3 tbl many a inner)
def st1 (tbl : List (List Doc)) (many : Nat) (a : Int) : List Doc := (List.range many).flatMap (st2 tbl many a)
def stepD (ls : List Int) (tbl : List (List Doc)) (many : Nat) : List Doc := ls.flatMap (st1 tbl many)
def tabD (ls : List Int) : Nat → List (List Doc)
  | 0 => [[.nil]]
  | n + 1 => tabD ls n ++ [stepD ls (tabD ls n) (n + 1)]
def allD (ls : List Int) (most : Nat) : List Doc := (tabD ls most).flatten
theorem tabD_len (ls : List Int) : ∀ n, (tabD ls n).length = n + 1
  | 0 => rfl
  | n + 1 => by simp [tabD, tabD_len ls n]
theorem flat_take {α β : Type} (f : α → List β) (l : List α) (i : Nat) (x : α) (h : l[i]? = some x) : (l.take (i + 1)).flatMap f = (l.take i).flatMap f ++ f x := by
  rw [List.take_add_one, h]
  simp
theorem flat_le {α β : Type} (f : α → List β) (l : List α) (i : Nat) (x : α) (h : l[i]? = some x) : ((l.take i).flatMap f).length + (f x).length ≤ (l.flatMap f).length := by
  have h2 : l.flatMap f = (l.take (i + 1)).flatMap f ++ (l.drop (i + 1)).flatMap f := by rw [← List.flatMap_append, List.take_append_drop]
  rw [h2, flat_take f l i x h, List.length_append, List.length_append]
  omega
theorem flat_tk_le {α β : Type} (f : α → List β) (l : List α) (i : Nat) : ((l.take i).flatMap f).length ≤ (l.flatMap f).length := by
  have h2 : l.flatMap f = (l.take i).flatMap f ++ (l.drop i).flatMap f := by rw [← List.flatMap_append, List.take_append_drop]
  rw [h2, List.length_append]
  omega
/-- a list of documents -/
abbrev DL (K : PySem.W.Frag) (H : Hp) (ys : List V) (ds : List Doc) : Prop := DpAll K H ys (ds.map Doc.data)
/-- a list of lists of documents -/
def RowAt (K : PySem.W.Frag) (H : Hp) (tb : Addr) (x : V) (ds : List Doc) : Prop := ∃ a ys, x = .ref a ∧ a ≠ tb ∧ H a = some (.lst ys) ∧ DL K H ys ds
theorem pure_docs : ∀ ds : List Doc, pureAll (ds.map Doc.data) = true
  | [] => rfl
  | d :: ds => by simp [pureAll, pure_data, pure_docs ds]
theorem RowAt.gr {K : PySem.W.Frag} {H H' : Hp} {tb : Addr} (g : Gr [tb] H H') (hm : ∀ b ∈ [tb], ∃ ys, H b = some (.lst ys)) (x : V) (ds : List Doc) (h : RowAt K H tb x ds) : RowAt K H' tb x ds := by
  obtain ⟨a, ys, e, n, h1, h2⟩ := h
  exact ⟨a, ys, e, n, g.lst (by simpa using n) h1, dpAll_grm g hm _ ys (pure_docs ds) h2⟩
theorem RowAt.gr0 {K : PySem.W.Frag} {H H' : Hp} {tb : Addr} (g : Gr [] H H') (x : V) (ds : List Doc) (h : RowAt K H tb x ds) : RowAt K H' tb x ds := by
  obtain ⟨a, ys, e, n, h1, h2⟩ := h
  exact ⟨a, ys, e, n, g.lst (by simp) h1, h2.gr g⟩
theorem paired_get {α β : Type} {F : α → β → Prop} : ∀ {xs : List α} {ws : List β} {i : Nat} {p : β}, Paired F xs ws → ws[i]? = some p → ∃ x, xs[i]? = some x ∧ F x p
  | _, _, _, _, .nil, h => by simp at h
  | _, _, 0, p, .cons h t, e => by simp at e; subst e; exact ⟨_, rfl, h⟩
  | _, _, i + 1, p, .cons h t, e => by
    obtain ⟨x, h1, h2⟩ := paired_get t (show _ = some p by simpa using e)
    exact ⟨x, by simpa using h1, h2⟩
theorem small4 {n : Nat} (h : n ≤ 100000) : n < sizeLine := Nat.lt_of_le_of_lt h (by decide)
theorem paired_rows {K : PySem.W.Frag} {H : Hp} {tb : Addr} {rows : List V} {tbl : List (List Doc)} {i : Nat} (h : Paired (RowAt K H tb) rows tbl) (hi : i < tbl.length) :
    ∃ a ys, rows[i]? = some (.ref a) ∧ a ≠ tb ∧ H a = some (.lst ys) ∧ DL K H ys (tbl.getD i []) := by
  obtain ⟨x, h1, a, ys, e, n, h2, h3⟩ := paired_get (p := tbl.getD i []) h (by rw [List.getD_eq_getElem?_getD, List.getElem?_eq_getElem hi]; rfl)
  exact ⟨a, ys, by rw [h1, e], n, h2, h3⟩
theorem DL.at {K : PySem.W.Frag} {H : Hp} {ys : List V} {ds : List Doc} (h : DL K H ys ds) {i : Nat} {y : V} (e : ys[i]? = some y) : ∃ d, ds[i]? = some d ∧ Dp K H y d.data := by
  obtain ⟨dd, h1, h2⟩ := h.get e
  rw [List.getElem?_map] at h1
  cases hd : ds[i]? with
  | none => rw [hd] at h1; cases h1
  | some d => rw [hd] at h1; cases h1; exact ⟨d, rfl, h2⟩
theorem DL.length {K : PySem.W.Frag} {H : Hp} {ys : List V} {ds : List Doc} (h : DL K H ys ds) : ys.length = ds.length := by
  have := DpAll.length h
  rwa [List.length_map] at this
theorem DL.app {K : PySem.W.Frag} {H : Hp} {ys zs : List V} {ds es : List Doc} (h : DL K H ys ds) (h2 : DL K H zs es) : DL K H (ys ++ zs) (ds ++ es) := by
  unfold DL
  rw [List.map_append]
  exact h.append h2
theorem getD_mem {tbl : List (List Doc)} {i : Nat} {d : Doc} (h : d ∈ tbl.getD i []) : d ∈ tbl.flatten := by
  rw [List.getD_eq_getElem?_getD] at h
  cases e : tbl[i]? with
  | none => rw [e] at h; cases h
  | some l => rw [e] at h; exact List.mem_flatten.mpr ⟨l, List.mem_of_getElem? e, h⟩
theorem atI_eq {xs : List V} {n : Nat} {v : V} {z : Int} (h : xs[n]? = some v) (e : z = (n : Int)) : atI xs z = some v := by
  subst e
  exact atI_nat h
theorem atI_nat0 {xs : List V} {j : Nat} {v : V} (h : xs[j]? = some v) : atI xs (0 + (j : Int)) = some v := by
  rw [Int.zero_add]
  exact atI_nat h
/-- found has grown to ds -/
def GrowB (K : PySem.W.Frag) (ll tb : Addr) (most i : Nat) (H' : Hp) (ds : List Doc) (σ : L2.St) (H2 : Hp) : Prop :=
  ∃ fa ys y5 y6 y7, σ = [some (.ref ll), some (.int most), some (.ref tb), some (.int (1 + i)), some (.ref fa), y5, y6, y7, none, none] ∧ Gr [] H' H2 ∧ H2 fa = some (.lst ys) ∧ fa ≠ tb ∧ DL K H2 ys ds
def GrowC (K : PySem.W.Frag) (ll tb : Addr) (most i : Nat) (a : Int) (H' : Hp) (ds : List Doc) (σ : L2.St) (H2 : Hp) : Prop :=
  ∃ fa ys y6 y7, σ = [some (.ref ll), some (.int most), some (.ref tb), some (.int (1 + i)), some (.ref fa), some (.int a), y6, y7, none, none] ∧ Gr [] H' H2 ∧ H2 fa = some (.lst ys) ∧ fa ≠ tb ∧ DL K H2 ys ds
def GrowD (K : PySem.W.Frag) (ll tb : Addr) (most i : Nat) (a : Int) (j : Nat) (H' : Hp) (ds : List Doc) (σ : L2.St) (H2 : Hp) : Prop :=
  ∃ fa ys y7, σ = [some (.ref ll), some (.int most), some (.ref tb), some (.int (1 + i)), some (.ref fa), some (.int a), some (.int (0 + j)), y7, none, none] ∧ Gr [] H' H2 ∧ H2 fa = some (.lst ys) ∧ fa ≠ tb ∧ DL K H2 ys ds
def spAll (K : PySem.W.Frag) : Sp := fun vs H Q _ => ∃ (ll : Addr) (ls : List Int) (most : Nat), vs = [.ref ll, .int most] ∧ H ll = some (.lst (ls.map V.int)) ∧ most ≤ 100 ∧ (∀ n ≤ most, ((tabD ls n).flatten).length ≤ 10000 ∧ ∀ d ∈ (tabD ls n).flatten, d.len ≤ 1000) ∧
  ∀ H' p ys, Gr [] H H' → H p = none → H' p = some (.lst ys) → DL K H' ys (allD ls most) → Q (.ref p) H'
section
variable {P : Program} {w : World} {K : PySem.W.Frag} {mg : Str → Option Value} {base : Heap} {f : Addr} {fd : FuncData}
abbrev nAll : List Str := ["labels", "most", "table", "many", "found", "label", "inner", "kids", "rest", "out"]
end
end LW
set_option maxHeartbeats 2000000
namespace LW
open PySem PySem.Spec PyProof.Rows L2
theorem doc_canLay : ∀ d : Doc, PyData.canLayAll0 d.ts = true
  | .nil => rfl
  | .cons a k r => by simp [Doc.ts, PyData.canLayAll0, PyData.canLay0, doc_canLay k, doc_canLay r]
theorem doc_depth : ∀ d : Doc, PyData.depthAll d.ts ≤ 2 * d.dep
  | .nil => Nat.le_refl _
  | .cons a k r => by
    have h1 := doc_depth k
    have h2 := doc_depth r
    simp only [Doc.ts, PyData.depthAll, PyData.depth, Doc.dep]
    omega
theorem doc_shaped {d : Doc} (h : d.dep ≤ 30) : SeqAt.shaped d.data = true := by
  have h1 := doc_depth d
  unfold SeqAt.shaped Doc.data
  rw [PyData.canLay0, doc_canLay, PyData.depth, Bool.true_and]
  exact decide_eq_true (by omega)
theorem doc_eqv : ∀ d e : Doc, PyData.eqvAll d.ts e.ts = decide (d = e)
  | .nil, .nil => by simp [Doc.ts, PyData.eqvAll]
  | .nil, .cons b l s => by simp [Doc.ts, PyData.eqvAll]
  | .cons a k r, .nil => by simp [Doc.ts, PyData.eqvAll]
  | .cons a k r, .cons b l s => by
    simp only [Doc.ts, PyData.eqvAll, PyData.eqv, doc_eqv k l, doc_eqv r s]
    by_cases h1 : a = b <;> by_cases h2 : k = l <;> by_cases h3 : r = s <;> simp [h1, h2, h3]
theorem doc_eqvD (d e : Doc) : PyData.eqv d.data e.data = decide (d = e) := by
  unfold Doc.data
  rw [PyData.eqv]
  exact doc_eqv d e
def spBox (K : PySem.W.Frag) : Sp := fun vs H Q _ => ∃ (a : Addr) (ns : List Int), vs = [.ref a] ∧ SqL K H a (ns.map V.int) ∧ ns.length ≤ 1000 ∧ ∀ bx cl H', Gr [] H H' → BoxAt H' bx cl → H bx = none → H cl = none → Q (.ref bx) H'
def spIsNum (K : PySem.W.Frag) : Sp := fun vs H Q _ => ∃ (d : PyData) (v : V), vs = [v] ∧ Dp K H v d ∧ Q (.bl (match d with | .int _ => true | _ => false)) H
section
variable {P : Program} {w : World} {K : PySem.W.Frag} {mg : Str → Option Value} {base : Heap} {f : Addr} {fd : FuncData}
end
end LW
set_option maxHeartbeats 2000000
namespace LW
open PySem PySem.Spec PyProof.Rows L2
/-! ### what is a schema -/
def ruleD (d : PyData) (n : Int) : Bool := match d with
  | .tuple [a, x, y] => belowD a 5 && (belowD x n && belowD y n)
  | _ => false
def risL : List PyData → Bool
  | [] => true
  | [_] => true
  | a :: b :: r => PySem.W.dataLt a b && risL (b :: r)
def rulesD (d : PyData) (n : Int) : Bool := match d with
  | .tuple rs => rs.all (ruleD · n) && risL rs
  | _ => false
def triple (d : PyData) : Prop := ∃ a x y : Int, d = .tuple [.int a, .int x, .int y]
theorem belowD_int {d : PyData} {n : Int} (h : belowD d n = true) : ∃ i : Int, d = .int i ∧ 0 ≤ i ∧ i < n := by
  unfold belowD at h
  split at h
  · rename_i i
    simp only [Bool.and_eq_true, decide_eq_true_eq] at h
    exact ⟨i, rfl, h.1, h.2⟩
  · cases h
theorem ruleD_inv {d : PyData} {n : Int} (h : ruleD d n = true) : ∃ a x y : Int, d = .tuple [.int a, .int x, .int y] ∧ 0 ≤ a ∧ a < 5 ∧ 0 ≤ x ∧ x < n ∧ 0 ≤ y ∧ y < n := by
  unfold ruleD at h
  split at h
  · simp only [Bool.and_eq_true] at h
    obtain ⟨a, rfl, a1, a2⟩ := belowD_int h.1
    obtain ⟨x, rfl, x1, x2⟩ := belowD_int h.2.1
    obtain ⟨y, rfl, y1, y2⟩ := belowD_int h.2.2
    exact ⟨a, x, y, rfl, a1, a2, x1, x2, y1, y2⟩
  · cases h
theorem triple_alike {d e : PyData} (h : triple d) (k : triple e) : PySem.W.alike d e = true ∧ d ≠ .none ∧ d.depth ≤ 64 := by
  obtain ⟨a, x, y, rfl⟩ := h
  obtain ⟨b, u, v, rfl⟩ := k
  refine ⟨by simp [PySem.W.alike, PySem.W.alikeAll], nofun, ?_⟩
  simp [PyData.depth, PyData.depthAll]
/-- the first n + 1 of them rise -/
theorem risL_snoc : ∀ {ds : List PyData} {i : Nat} {a b : PyData}, ds[i]? = some a → ds[i + 1]? = some b → risL (ds.take (i + 2)) = (risL (ds.take (i + 1)) && PySem.W.dataLt a b)
  | [], _, _, _, h, _ => by simp at h
  | [x], 0, _, _, _, h => by simp at h
  | [x], i + 1, _, _, h, _ => by simp at h
  | x :: y :: r, 0, a, b, h, k => by
    simp at h k
    subst h; subst k
    simp [risL]
  | x :: y :: r, i + 1, a, b, h, k => by
    have ih := risL_snoc (ds := y :: r) (i := i) (a := a) (b := b) (by simpa using h) (by simpa using k)
    simp only [List.take_succ_cons, risL] at ih ⊢
    rw [ih, Bool.and_assoc]
theorem risL_bad : ∀ {ds : List PyData} {i : Nat} {a b : PyData}, ds[i]? = some a → ds[i + 1]? = some b → PySem.W.dataLt a b = false → risL ds = false
  | [], _, _, _, h, _, _ => by simp at h
  | [x], 0, _, _, _, h, _ => by simp at h
  | [x], i + 1, _, _, h, _, _ => by simp at h
  | x :: y :: r, 0, a, b, h, k, z => by
    simp at h k
    subst h; subst k
    simp [risL, z]
  | x :: y :: r, i + 1, a, b, h, k, z => by
    have ih := risL_bad (ds := y :: r) (i := i) (a := a) (b := b) (by simpa using h) (by simpa using k) z
    simp [risL, ih]
def spRule (K : PySem.W.Frag) : Sp := fun vs H Q _ => ∃ (d : PyData) (n : Int) (v : V), vs = [v, .int n] ∧ Dp K H v d ∧ Q (.bl (ruleD d n)) H
def spRising (K : PySem.W.Frag) (T : Addr) : Sp := fun vs H Q _ => ∃ (ds : List PyData) (v : V), vs = [v] ∧ Dp K H v (.tuple ds) ∧ (∀ d ∈ ds, triple d) ∧ GxR.TabG H T ∧ ds.length < 2 ^ 61 ∧ ∀ H', Gr [] H H' → Q (.bl (risL ds)) H'
section
variable {P : Program} {w : World} {K : PySem.W.Frag} {mg : Str → Option Value} {base : Heap} {f : Addr} {fd : FuncData}
end
end LW
set_option maxHeartbeats 2000000
namespace LW
open PySem PySem.Spec PyProof.Rows L2
def stateD (d : PyData) (n : Int) : Bool := match d with
  | .tuple [e, r] => isBoolD e && rulesD r n
  | _ => false
def nRules (d : PyData) : Nat := match d with
  | .tuple [_, .tuple rs] => rs.length
  | _ => 0
def schemaD (d : PyData) : Bool := match d with
  | .tuple ss => decide (1 ≤ ss.length) && decide (ss.length ≤ 60) && ss.all (stateD · ss.length) && decide ((ss.map nRules).sum ≤ 2000)
  | _ => false
def fewR (d : PyData) : Prop := ∀ rs, d = .tuple rs → rs.length < 2 ^ 61
def fewS (d : PyData) : Prop := ∀ e r, d = .tuple [e, r] → fewR r
def fewSc (d : PyData) : Prop := ∀ ss, d = .tuple ss → ∀ s ∈ ss, fewS s
theorem rulesD_inv {d : PyData} {n : Int} (h : rulesD d n = true) : ∃ rs, d = .tuple rs ∧ rs.all (ruleD · n) = true ∧ risL rs = true := by
  unfold rulesD at h
  split at h
  · rw [Bool.and_eq_true] at h
    exact ⟨_, rfl, h.1, h.2⟩
  · cases h
theorem stateD_inv {d : PyData} {n : Int} (h : stateD d n = true) : ∃ (e : Bool) (rs : List PyData), d = .tuple [.bool e, .tuple rs] ∧ rs.all (ruleD · n) = true ∧ risL rs = true := by
  unfold stateD at h
  split at h
  · rename_i e r
    rw [Bool.and_eq_true] at h
    obtain ⟨rs, rfl, h1, h2⟩ := rulesD_inv h.2
    cases e with
    | bool b => exact ⟨b, rs, rfl, h1, h2⟩
    | _ => cases h.1
  · cases h
def spRules (K : PySem.W.Frag) (T1 T2 : Addr) : Sp := fun vs H Q _ => ∃ (d : PyData) (n : Int) (v : V), vs = [v, .int n] ∧ Dp K H v d ∧ fewR d ∧ GxR.TabG H T1 ∧ GxR.TabG H T2 ∧ ∀ H', Gr [] H H' → Q (.bl (rulesD d n)) H'
def spState (K : PySem.W.Frag) (T1 T2 : Addr) : Sp := fun vs H Q _ => ∃ (d : PyData) (n : Int) (v : V), vs = [v, .int n] ∧ Dp K H v d ∧ fewS d ∧ GxR.TabG H T1 ∧ GxR.TabG H T2 ∧ ∀ H', Gr [] H H' → Q (.bl (stateD d n)) H'
def spIsSchema (K : PySem.W.Frag) (T1 T2 T3 : Addr) : Sp := fun vs H Q _ => ∃ (d : PyData) (v : V), vs = [v] ∧ Dp K H v d ∧ fewSc d ∧ GxR.TabG H T1 ∧ GxR.TabG H T2 ∧ GxR.TabG H T3 ∧ ∀ H', Gr [] H H' → Q (.bl (schemaD d)) H'
section
variable {P : Program} {w : World} {K : PySem.W.Frag} {mg : Str → Option Value} {base : Heap} {f : Addr} {fd : FuncData}
end
end LW
set_option maxHeartbeats 2000000
namespace LW
open PySem PySem.Spec PyProof.Rows L2
def rLen (K : PySem.W.Frag) : List V → Hp → VK → Prop := fun xs H Q => ∃ p ys, xs = [V.ref p] ∧ (SqL K H p ys ∨ SqT K H p ys) ∧ Q (V.int ys.length) H
def spCheckS (K : PySem.W.Frag) (T1 T2 T3 : Addr) : Sp := fun vs H Q _ => ∃ (d : PyData) (v : V), vs = [v] ∧ Dp K H v d ∧ fewSc d ∧ schemaD d = true ∧ GxR.TabG H T1 ∧ GxR.TabG H T2 ∧ GxR.TabG H T3 ∧ ∀ H', Gr [] H H' → Q .non H'
section
variable {P : Program} {w : World} {K : PySem.W.Frag} {mg : Str → Option Value} {base : Heap} {f : Addr} {fd : FuncData}
end
end LW
/-! sets of small numbers as bits -/
namespace LB
open PySem
theorem band_nat (a b : Nat) : Builtin.bitAnd (a : Int) (b : Int) = ((a &&& b : Nat) : Int) := by
  unfold Builtin.bitAnd
  rw [decide_eq_true (Int.natCast_nonneg a), decide_eq_true (Int.natCast_nonneg b)]
  simp
theorem bnot_nat (a : Nat) : (Builtin.bitNot (Builtin.bitNot (a : Int))) = a := by
  unfold Builtin.bitNot
  omega
theorem bor_nat (a b : Nat) : Builtin.bitOr (a : Int) (b : Int) = ((a ||| b : Nat) : Int) := by
  unfold Builtin.bitOr Builtin.bitAnd
  have h1 : ∀ c : Nat, decide ((0 : Int) ≤ Builtin.bitNot (c : Int)) = false := fun c => decide_eq_false (by unfold Builtin.bitNot; omega)
  rw [h1, h1]
  simp only [bnot_nat, Int.toNat_natCast]
/-- the sum of 2 ^ q for the q below n that p tells -/
def mask (p : Nat → Bool) : Nat → Nat
  | 0 => 0
  | n + 1 => mask p n + if p n then 2 ^ n else 0
theorem mask_lt (p : Nat → Bool) : ∀ n, mask p n < 2 ^ n
  | 0 => by simp [mask]
  | n + 1 => by
    have := mask_lt p n
    have e : 2 ^ (n + 1) = 2 ^ n + 2 ^ n := by rw [Nat.pow_succ]; omega
    unfold mask
    split <;> omega
theorem mask_bit (p : Nat → Bool) : ∀ n q, (mask p n).testBit q = (decide (q < n) && p q)
  | 0, q => by simp [mask]
  | n + 1, q => by
    unfold mask
    have lt := mask_lt p n
    by_cases hp : p n = true
    · rw [if_pos hp, Nat.add_comm]
      rcases Nat.lt_trichotomy q n with h | h | h
      · rw [Nat.testBit_two_pow_add_gt h, mask_bit p n q, decide_eq_true h, decide_eq_true (by omega)]
      · subst h
        rw [Nat.testBit_two_pow_add_eq, Nat.testBit_lt_two_pow lt, hp, decide_eq_true (by omega)]
        rfl
      · rw [decide_eq_false (by omega)]
        refine Nat.testBit_lt_two_pow (Nat.lt_of_lt_of_le (m := 2 ^ (n + 1)) (by rw [Nat.pow_succ]; omega) (Nat.pow_le_pow_right (by decide) h))
    · rw [if_neg hp, Nat.add_zero, mask_bit p n q]
      by_cases h : q = n
      · subst h
        rw [Bool.not_eq_true] at hp
        rw [hp, Bool.and_false, Bool.and_false]
      · by_cases h2 : q < n
        · rw [decide_eq_true h2, decide_eq_true (by omega)]
        · rw [decide_eq_false h2, decide_eq_false (by omega)]
theorem and_ne {a b : Nat} : (a &&& b ≠ 0) ↔ ∃ i, a.testBit i = true ∧ b.testBit i = true := by
  constructor
  · intro h
    obtain ⟨i, hi⟩ := Nat.exists_testBit_of_ne_zero h
    rw [Nat.testBit_and, Bool.and_eq_true] at hi
    exact ⟨i, hi.1, hi.2⟩
  · rintro ⟨i, h1, h2⟩ z
    have : (a &&& b).testBit i = true := by rw [Nat.testBit_and, h1, h2]; rfl
    rw [z, Nat.zero_testBit] at this
    cases this
theorem pow_bit {n i : Nat} : (2 ^ n).testBit i = decide (i = n) := by
  rw [Nat.testBit_two_pow]
  by_cases h : n = i <;> simp [h, eq_comm]
/-- the members below n -/
def mems (b n : Nat) : List Nat := (List.range n).filter fun q => b.testBit q
theorem bit_div {b q : Nat} : ((b / 2 ^ q) % 2 = 1) ↔ b.testBit q = true := by
  rw [Nat.testBit_eq_decide_div_mod_eq]
  simp
theorem mems_grow {b n m : Nat} (h : b < 2 ^ n) (hm : n ≤ m) : mems b m = mems b n := by
  obtain ⟨k, rfl⟩ : ∃ k, m = n + k := ⟨m - n, by omega⟩
  clear hm
  induction k with
  | zero => rfl
  | succ k ih =>
    unfold mems at ih ⊢
    rw [← Nat.add_assoc, List.range_succ, List.filter_append, ih]
    have : b.testBit (n + k) = false := Nat.testBit_lt_two_pow (Nat.lt_of_lt_of_le h (Nat.pow_le_pow_right (by decide) (by omega)))
    simp [this]
end LB
set_option maxHeartbeats 2000000
namespace LW
open PySem PySem.Spec PyProof.Rows L2
/-! ### schemas, and the steps that they make -/
abbrev Rl := Nat × Nat × Nat
abbrev Sch := List (Bool × List Rl)
def rlD (r : Rl) : PyData := .tuple [.int r.1, .int r.2.1, .int r.2.2]
def stD (st : Bool × List Rl) : PyData := .tuple [.bool st.1, .tuple (st.2.map rlD)]
def schD (s : Sch) : PyData := .tuple (s.map stD)
structure SchOk (s : Sch) : Prop where
  pos : 1 ≤ s.length
  most : s.length ≤ 60
  rules : ∀ st ∈ s, ∀ r ∈ st.2, r.1 < 5 ∧ r.2.1 < s.length ∧ r.2.2 < s.length
  rise : ∀ st ∈ s, risL (st.2.map rlD) = true
  few : (s.map (·.2.length)).sum ≤ 2000
theorem SchOk.data {s : Sch} (h : SchOk s) : schemaD (schD s) = true := by
  show (decide (1 ≤ (s.map stD).length) && decide ((s.map stD).length ≤ 60) && (s.map stD).all (stateD · (s.map stD).length) && decide (((s.map stD).map nRules).sum ≤ 2000)) = true
  rw [List.length_map, decide_eq_true h.pos, decide_eq_true h.most]
  have e : ((s.map stD).map nRules) = s.map (·.2.length) := by
    rw [List.map_map]
    refine List.map_congr_left fun st _ => ?_
    show (st.2.map rlD).length = _
    rw [List.length_map]
  rw [e, decide_eq_true h.few]
  have a : (s.map stD).all (stateD · (s.length : Int)) = true := by
    rw [List.all_eq_true]
    intro d hd
    obtain ⟨st, hst, rfl⟩ := List.mem_map.mp hd
    show (true && ((st.2.map rlD).all (ruleD · s.length) && risL (st.2.map rlD))) = true
    rw [h.rise st hst, Bool.and_true, Bool.true_and, List.all_eq_true]
    intro r hr
    obtain ⟨r, hrr, rfl⟩ := List.mem_map.mp hr
    obtain ⟨h1, h2, h3⟩ := h.rules st hst r hrr
    show ((decide ((0 : Int) ≤ (r.1 : Int)) && decide ((r.1 : Int) < 5)) && ((decide ((0 : Int) ≤ (r.2.1 : Int)) && decide ((r.2.1 : Int) < s.length)) && (decide ((0 : Int) ≤ (r.2.2 : Int)) && decide ((r.2.2 : Int) < s.length)))) = true
    simp only [Bool.and_eq_true, decide_eq_true_eq]
    omega
  rw [a]
  rfl
theorem sum_mem {l : List Nat} {x : Nat} (h : x ∈ l) : x ≤ l.sum := by
  induction l with
  | nil => cases h
  | cons y l ih =>
    rw [List.sum_cons]
    rcases List.mem_cons.mp h with rfl | h
    · omega
    · have := ih h; omega
theorem SchOk.len {s : Sch} (h : SchOk s) {st : Bool × List Rl} (hs : st ∈ s) : st.2.length ≤ 2000 := Nat.le_trans (sum_mem (List.mem_map.mpr ⟨st, hs, rfl⟩)) h.few
theorem SchOk.fewSc {s : Sch} (h : SchOk s) : fewSc (schD s) := by
  intro ss hss d hd e r hdr rs hrs
  cases hss
  obtain ⟨st, hst, rfl⟩ := List.mem_map.mp hd
  cases hdr
  cases hrs
  rw [List.length_map]
  exact Nat.lt_of_le_of_lt (h.len hst) (by decide)
/-- all rules with their states -/
def rulesFrom : Nat → Sch → List (Nat × Rl)
  | _, [] => []
  | k, st :: r => st.2.map (fun x => (k, x)) ++ rulesFrom (k + 1) r
theorem rulesFrom_app : ∀ (s t : Sch) (k : Nat), rulesFrom k (s ++ t) = rulesFrom k s ++ rulesFrom (k + s.length) t
  | [], t, k => rfl
  | st :: s, t, k => by
    simp only [List.cons_append, rulesFrom, rulesFrom_app s t (k + 1), List.append_assoc, List.length_cons]
    rw [show k + 1 + s.length = k + (s.length + 1) by omega]
theorem rulesFrom_take {s : Sch} {i : Nat} {st : Bool × List Rl} (h : s[i]? = some st) : rulesFrom 0 (s.take (i + 1)) = rulesFrom 0 (s.take i) ++ st.2.map (fun x => (i, x)) := by
  have hi : i < s.length := (List.getElem?_eq_some_iff.mp h).1
  rw [List.take_add_one, h, Option.toList_some, rulesFrom_app, List.length_take, Nat.min_eq_left (by omega)]
  simp [rulesFrom]
theorem rulesFrom_len : ∀ (s : Sch) (k : Nat), (rulesFrom k s).length = (s.map (·.2.length)).sum
  | [], _ => rfl
  | st :: s, k => by simp [rulesFrom, rulesFrom_len s (k + 1)]
theorem rulesFrom_mem : ∀ {s : Sch} {k : Nat} {p : Nat × Rl}, p ∈ rulesFrom k s ↔ ∃ i st, s[i]? = some st ∧ p.1 = k + i ∧ p.2 ∈ st.2
  | [], k, p => by simp [rulesFrom]
  | st :: s, k, p => by
    simp only [rulesFrom, List.mem_append, List.mem_map, rulesFrom_mem (s := s) (k := k + 1)]
    constructor
    · rintro (⟨x, hx, rfl⟩ | ⟨i, t, h1, h2, h3⟩)
      · exact ⟨0, st, by simp, by simp, hx⟩
      · exact ⟨i + 1, t, by simpa using h1, by omega, h3⟩
    · rintro ⟨i, t, h1, h2, h3⟩
      cases i with
      | zero =>
        simp at h1
        subst h1
        exact .inl ⟨p.2, h3, by rw [← show p.1 = k by simpa using h2]⟩
      | succ i => exact .inr ⟨i, t, by simpa using h1, by omega, h3⟩
def ofLabel (a : Nat) (l : List (Nat × Rl)) : List Rl := l.filterMap fun p => if p.2.1 = a then some (p.1, p.2.2.1, p.2.2.2) else none
theorem ofLabel_mem {a : Nat} {l : List (Nat × Rl)} {t : Rl} : t ∈ ofLabel a l ↔ (t.1, a, t.2.1, t.2.2) ∈ l := by
  unfold ofLabel
  rw [List.mem_filterMap]
  constructor
  · rintro ⟨p, hp, e⟩
    split at e
    · rename_i h
      cases e
      subst h
      exact hp
    · cases e
  · intro h
    exact ⟨_, h, by simp⟩
/-- q's bits are joined with w -/
def putOr (q w : Nat) : List (Nat × Nat) → List (Nat × Nat)
  | [] => [(q, w)]
  | p :: r => if p.1 = q then (p.1, p.2 ||| w) :: r else p :: putOr q w r
def getB (q : Nat) : List (Nat × Nat) → Nat
  | [] => 0
  | p :: r => if p.1 = q then p.2 else getB q r
def hasB (q : Nat) (l : List (Nat × Nat)) : Prop := q ∈ l.map (·.1)
theorem getB_none {q : Nat} : ∀ {l : List (Nat × Nat)}, ¬ hasB q l → getB q l = 0
  | [], _ => rfl
  | p :: r, h => by
    unfold getB
    unfold hasB at h
    rw [List.map_cons, List.mem_cons, not_or] at h
    rw [if_neg (fun z => h.1 z.symm), getB_none h.2]
theorem getB_put {q w t : Nat} : ∀ {l : List (Nat × Nat)}, getB t (putOr q w l) = if t = q then getB t l ||| w else getB t l
  | [] => by
    unfold putOr getB
    by_cases h : q = t
    · subst h; simp [getB]
    · rw [if_neg h, if_neg (fun z => h z.symm)]
      rfl
  | p :: r => by
    unfold putOr
    by_cases h : p.1 = q
    · rw [if_pos h]
      unfold getB
      by_cases h2 : p.1 = t
      · rw [if_pos h2, if_pos h2, if_pos (by omega)]
      · rw [if_neg h2, if_neg h2, if_neg (by omega)]
    · rw [if_neg h]
      unfold getB
      by_cases h2 : p.1 = t
      · rw [if_pos h2, if_neg (by omega), if_pos h2]
      · rw [if_neg h2, getB_put (l := r), if_neg h2]
theorem keys_put {q w : Nat} : ∀ {l : List (Nat × Nat)}, (putOr q w l).map (·.1) = if q ∈ l.map (·.1) then l.map (·.1) else l.map (·.1) ++ [q]
  | [] => rfl
  | p :: r => by
    unfold putOr
    by_cases h : p.1 = q
    · rw [if_pos h, if_pos (by simp [h])]
      rfl
    · rw [if_neg h, List.map_cons, keys_put (l := r), List.map_cons]
      by_cases h2 : q ∈ r.map (·.1)
      · rw [if_pos h2, if_pos (List.mem_cons_of_mem _ h2)]
      · rw [if_neg h2, if_neg (by rw [List.mem_cons, not_or]; exact ⟨fun z => h z.symm, h2⟩)]
        rfl
/-- what a label and the states of the children let stand ahead of what follows -/
def rowOf (rs : List Rl) (inside : Nat) : List (Nat × Nat) := rs.foldl (fun acc t => if inside.testBit t.2.1 = true then putOr t.1 (2 ^ t.2.2) acc else acc) []
theorem rowOf_snoc (rs : List Rl) (t : Rl) (inside : Nat) : rowOf (rs ++ [t]) inside = if inside.testBit t.2.1 = true then putOr t.1 (2 ^ t.2.2) (rowOf rs inside) else rowOf rs inside := by
  unfold rowOf
  rw [List.foldl_append]
  rfl
def afterOf (row : List (Nat × Nat)) (rest : Nat) : Nat := row.foldl (fun acc p => if p.2 &&& rest ≠ 0 then acc ||| 2 ^ p.1 else acc) 0
theorem afterOf_snoc (row : List (Nat × Nat)) (p : Nat × Nat) (rest : Nat) : afterOf (row ++ [p]) rest = if p.2 &&& rest ≠ 0 then afterOf row rest ||| 2 ^ p.1 else afterOf row rest := by
  unfold afterOf
  rw [List.foldl_append]
  rfl
def emptyB (s : Sch) : Nat := LB.mask (fun q => (s.getD q (false, [])).1) s.length
def afterB (s : Sch) (a inside rest : Nat) : Nat := afterOf (rowOf (ofLabel a (rulesFrom 0 s)) inside) rest
def setB (s : Sch) : Doc → Nat
  | .nil => emptyB s
  | .cons a k r => afterB s a.toNat (setB s k) (setB s r)
/-! what they say -/
theorem rowOf_nodup (rs : List Rl) (inside : Nat) : ((rowOf rs inside).map (·.1)).Nodup := by
  have key : ∀ (rs : List Rl) (acc : List (Nat × Nat)), (acc.map (·.1)).Nodup → ((rs.foldl (fun acc t => if inside.testBit t.2.1 = true then putOr t.1 (2 ^ t.2.2) acc else acc) acc).map (·.1)).Nodup := by
    intro rs
    induction rs with
    | nil => exact fun _ h => h
    | cons t rs ih =>
      intro acc h
      refine ih _ ?_
      dsimp only
      split
      · rw [keys_put]
        split
        · exact h
        · rename_i hn
          rw [List.nodup_append]
          refine ⟨h, by simp, fun x hx y hy => ?_⟩
          rw [List.mem_singleton] at hy
          subst hy
          exact fun z => hn (by rw [← z]; exact hx)
      · exact h
  exact key rs [] (by simp)
theorem rowOf_bit (rs : List Rl) (inside q y : Nat) : (getB q (rowOf rs inside)).testBit y = true ↔ ∃ x, (q, x, y) ∈ rs ∧ inside.testBit x = true := by
  have key : ∀ (rs : List Rl) (acc : List (Nat × Nat)), (getB q (rs.foldl (fun acc t => if inside.testBit t.2.1 = true then putOr t.1 (2 ^ t.2.2) acc else acc) acc)).testBit y = true ↔ (getB q acc).testBit y = true ∨ ∃ x, (q, x, y) ∈ rs ∧ inside.testBit x = true := by
    intro rs
    induction rs with
    | nil => intro acc; simp
    | cons t rs ih =>
      intro acc
      rw [List.foldl_cons, ih]
      by_cases h : inside.testBit t.2.1 = true
      · rw [if_pos h, getB_put]
        by_cases hq : q = t.1
        · rw [if_pos hq, Nat.testBit_or, LB.pow_bit, Bool.or_eq_true, decide_eq_true_eq]
          constructor
          · rintro ((h1 | h1) | ⟨x, h1, h2⟩)
            · exact .inl h1
            · exact .inr ⟨t.2.1, List.mem_cons.mpr (.inl (by rw [hq, h1])), h⟩
            · exact .inr ⟨x, List.mem_cons_of_mem _ h1, h2⟩
          · rintro (h1 | ⟨x, h1, h2⟩)
            · exact .inl (.inl h1)
            · rcases List.mem_cons.mp h1 with h1 | h1
              · refine .inl (.inr ?_)
                rw [← h1]
              · exact .inr ⟨x, h1, h2⟩
        · rw [if_neg hq]
          constructor
          · rintro (h1 | ⟨x, h1, h2⟩)
            · exact .inl h1
            · exact .inr ⟨x, List.mem_cons_of_mem _ h1, h2⟩
          · rintro (h1 | ⟨x, h1, h2⟩)
            · exact .inl h1
            · rcases List.mem_cons.mp h1 with h1 | h1
              · exact absurd (by rw [← h1]) hq
              · exact .inr ⟨x, h1, h2⟩
      · rw [if_neg h]
        constructor
        · rintro (h1 | ⟨x, h1, h2⟩)
          · exact .inl h1
          · exact .inr ⟨x, List.mem_cons_of_mem _ h1, h2⟩
        · rintro (h1 | ⟨x, h1, h2⟩)
          · exact .inl h1
          · rcases List.mem_cons.mp h1 with h1 | h1
            · exact absurd (by rw [← h1]; exact h2) h
            · exact .inr ⟨x, h1, h2⟩
  unfold rowOf
  rw [key]
  simp [getB]
theorem getB_mem {q : Nat} : ∀ {l : List (Nat × Nat)} {p : Nat × Nat}, (l.map (·.1)).Nodup → p ∈ l → p.1 = q → getB q l = p.2
  | [], _, _, h, _ => by cases h
  | x :: r, p, nd, h, e => by
    rw [List.map_cons, List.nodup_cons] at nd
    unfold getB
    rcases List.mem_cons.mp h with rfl | h
    · rw [if_pos e]
    · rw [if_neg (fun z => nd.1 (by rw [z, ← e]; exact List.mem_map.mpr ⟨p, h, rfl⟩)), getB_mem nd.2 h e]
theorem getB_some {q : Nat} : ∀ {l : List (Nat × Nat)}, getB q l ≠ 0 → ∃ p ∈ l, p.1 = q ∧ p.2 = getB q l
  | [], h => absurd rfl h
  | x :: r, h => by
    unfold getB at h ⊢
    by_cases e : x.1 = q
    · rw [if_pos e] at h ⊢
      exact ⟨x, List.mem_cons_self .., e, rfl⟩
    · rw [if_neg e] at h ⊢
      obtain ⟨p, h1, h2⟩ := getB_some h
      exact ⟨p, List.mem_cons_of_mem _ h1, h2⟩
theorem afterOf_bit (row : List (Nat × Nat)) (rest q : Nat) : (afterOf row rest).testBit q = true ↔ ∃ p ∈ row, p.1 = q ∧ p.2 &&& rest ≠ 0 := by
  have key : ∀ (row : List (Nat × Nat)) (acc : Nat), (row.foldl (fun acc p => if p.2 &&& rest ≠ 0 then acc ||| 2 ^ p.1 else acc) acc).testBit q = true ↔ acc.testBit q = true ∨ ∃ p ∈ row, p.1 = q ∧ p.2 &&& rest ≠ 0 := by
    intro row
    induction row with
    | nil => intro acc; simp
    | cons p row ih =>
      intro acc
      rw [List.foldl_cons, ih]
      by_cases h : p.2 &&& rest ≠ 0
      · rw [if_pos h, Nat.testBit_or, LB.pow_bit, Bool.or_eq_true, decide_eq_true_eq]
        constructor
        · rintro ((h1 | h1) | ⟨x, h1, h2⟩)
          · exact .inl h1
          · exact .inr ⟨p, List.mem_cons_self .., h1.symm, h⟩
          · exact .inr ⟨x, List.mem_cons_of_mem _ h1, h2⟩
        · rintro (h1 | ⟨x, h1, h2⟩)
          · exact .inl (.inl h1)
          · rcases List.mem_cons.mp h1 with rfl | h1
            · exact .inl (.inr h2.1.symm)
            · exact .inr ⟨x, h1, h2⟩
      · rw [if_neg h]
        constructor
        · rintro (h1 | ⟨x, h1, h2⟩)
          · exact .inl h1
          · exact .inr ⟨x, List.mem_cons_of_mem _ h1, h2⟩
        · rintro (h1 | ⟨x, h1, h2⟩)
          · exact .inl h1
          · rcases List.mem_cons.mp h1 with rfl | h1
            · exact absurd h2.2 h
            · exact .inr ⟨x, h1, h2⟩
  unfold afterOf
  rw [key]
  simp
/-- the states that stand ahead: just those with a rule for it -/
theorem afterB_bit (s : Sch) (a inside rest q : Nat) : (afterB s a inside rest).testBit q = true ↔ ∃ st, s[q]? = some st ∧ ∃ r ∈ st.2, r.1 = a ∧ inside.testBit r.2.1 = true ∧ rest.testBit r.2.2 = true := by
  unfold afterB
  rw [afterOf_bit]
  have nd := rowOf_nodup (ofLabel a (rulesFrom 0 s)) inside
  constructor
  · rintro ⟨p, hp, rfl, h⟩
    obtain ⟨y, h1, h2⟩ := LB.and_ne.mp h
    rw [← getB_mem nd hp rfl, rowOf_bit] at h1
    obtain ⟨x, h3, h4⟩ := h1
    obtain ⟨i, st, e1, e2, e3⟩ := rulesFrom_mem.mp (ofLabel_mem.mp h3)
    have e2' : p.1 = 0 + i := e2
    exact ⟨st, by rw [show p.1 = i by omega]; exact e1, _, e3, rfl, h4, h2⟩
  · rintro ⟨st, e1, r, hr, rfl, h1, h2⟩
    have m : (q, r.2.1, r.2.2) ∈ ofLabel r.1 (rulesFrom 0 s) := ofLabel_mem.mpr (rulesFrom_mem.mpr ⟨q, st, e1, by simp, hr⟩)
    have hb := (rowOf_bit (ofLabel r.1 (rulesFrom 0 s)) inside q r.2.2).mpr ⟨r.2.1, m, h1⟩
    have hne : getB q (rowOf (ofLabel r.1 (rulesFrom 0 s)) inside) ≠ 0 := fun z => by rw [z, Nat.zero_testBit] at hb; cases hb
    obtain ⟨p, hp, e, e2⟩ := getB_some hne
    exact ⟨p, hp, e, LB.and_ne.mpr ⟨r.2.2, by rw [e2]; exact hb, h2⟩⟩
theorem emptyB_bit (s : Sch) (q : Nat) : (emptyB s).testBit q = true ↔ ∃ st, s[q]? = some st ∧ st.1 = true := by
  unfold emptyB
  rw [LB.mask_bit, Bool.and_eq_true, decide_eq_true_eq, List.getD_eq_getElem?_getD]
  constructor
  · rintro ⟨h1, h2⟩
    rw [List.getElem?_eq_getElem h1] at h2
    exact ⟨_, List.getElem?_eq_getElem h1, h2⟩
  · rintro ⟨st, h1, h2⟩
    exact ⟨(List.getElem?_eq_some_iff.mp h1).1, by rw [h1]; exact h2⟩
theorem bits_lt {b n : Nat} (h : ∀ q, b.testBit q = true → q < n) : b < 2 ^ n := by
  refine Nat.lt_pow_two_of_testBit b fun i hi => ?_
  cases e : b.testBit i with
  | false => rfl
  | true => exact absurd (h i e) (by omega)
theorem afterB_lt (s : Sch) (a inside rest : Nat) : afterB s a inside rest < 2 ^ s.length := bits_lt fun q h => by
  obtain ⟨st, h1, _⟩ := (afterB_bit s a inside rest q).mp h
  exact (List.getElem?_eq_some_iff.mp h1).1
theorem emptyB_lt (s : Sch) : emptyB s < 2 ^ s.length := LB.mask_lt _ _
theorem setB_lt (s : Sch) : ∀ d, setB s d < 2 ^ s.length
  | .nil => emptyB_lt s
  | .cons a k r => afterB_lt ..
end LW
set_option maxHeartbeats 2000000
namespace LW
open PySem PySem.Spec PyProof.Rows L2
def tTr (K : PySem.W.Frag) (ta : TE) : TT := fun σ H Q => ta σ H fun x H' => ∃ k, TruV K x H' k ∧ Q k H'
abbrev natV (n : Nat) : V := V.int (n : Int)
def spBits (K : PySem.W.Frag) : Sp := fun vs H Q _ => ∃ (l : Addr) (ns : List Nat), vs = [.ref l] ∧ SqL K H l (ns.map natV) ∧ ns.length ≤ 1000 ∧ (∀ n ∈ ns, n ≤ 1000) ∧ ∀ H', Gr [] H H' → Q (natV ((ns.map (2 ^ ·)).sum)) H'
def spStates : Sp := fun vs H Q _ => ∃ (b n : Nat), vs = [natV b] ∧ b < 2 ^ n ∧ n ≤ 1000 ∧ ∀ H' p, Gr [] H H' → H p = none → H' p = some (.tup ((LB.mems b n).map natV)) → Q (.ref p) H'
section
variable {P : Program} {w : World} {K : PySem.W.Frag} {mg : Str → Option Value} {base : Heap} {f : Addr} {fd : FuncData}
theorem shl_one (n : Nat) : (1 : Int) * 2 ^ ((n : Int)).toNat = ((2 ^ n : Nat) : Int) := by
  rw [Int.toNat_natCast, Int.one_mul]
  exact (Int.natCast_pow 2 n).symm
theorem sum_cast : ∀ l : List Nat, (l.map fun n : Nat => (n : Int)).sum = ((l.sum : Nat) : Int)
  | [] => rfl
  | x :: l => by rw [List.map_cons, List.sum_cons, List.sum_cons, sum_cast l]; omega
end
end LW
set_option maxHeartbeats 2000000
namespace EnT
open PySem PySem.Spec PyProof.Rows
open Sem (wp)
open AutoSeq1 (wpAny_loadPart')
/-! ### enumerate(a tuple) -/
abbrev itTup (t : Addr) : Obj := { cls := .type "tuple_iterator", data := .fields #[.ref t, .int 0 0] }
abbrev enObj (it : Addr) : Obj := { cls := .type "enumerate", data := .fields #[.none, .bool false, .ref it, rawInt 0, .none, .none] }
theorem meets_new (t : Addr) (its : Array Value) (m : Nat) (dc : Option Addr) (so : Array (Option Value)) :
    Meets (Builtin.«enumerate.__new__» ⟨[.type "enumerate", .ref t], []⟩) (fun _ R s => s.heap.get? t = some { cls := .type "tuple", dict := dc, data := .seq its m, slots := so } ∧
      R (.ok (.ret (.ref (s.heap.push (itTup t)).objs.size))) { s with heap := (s.heap.push (itTup t)).push (enObj s.heap.objs.size) }) :=
  .of_wp fun prog w A R s hh => by
    obtain ⟨hp, gg, dd, tk, osx⟩ := s
    obtain ⟨ht, hR⟩ := hh
    have subE := sub_enumerate
    have hTu : Heap.IsTuple (Shared.heap ⟨hp, gg, dd, tk, osx⟩) t its := ⟨_, ht, rfl, m, rfl⟩
    wp_walk using wpAny_loadPart' ht
    refine wpAny_stack_any fun stk => wpAny_pure ?_
    split
    · rename_i cl _ _ _ _ _
      cases (cl == Value.type "enumerate")
      · wp_walk using wpAny_loadPart' ht, wpAny_pyIter_tuple hTu
        exact ⟨_, rfl, hR⟩
      · wp_walk using wpAny_loadPart' ht, wpAny_pyIter_tuple hTu
        exact ⟨_, rfl, hR⟩
    · wp_walk using wpAny_loadPart' ht, wpAny_pyIter_tuple hTu
      exact ⟨_, rfl, hR⟩
section
variable {prog : Program} {w : World} {A : Around} {E : Value → Shared → Prop} {s : Shared}
theorem call_enumT {t : Addr} {its : Array Value} {Q : Value → Shared → Prop} (hL : s.heap.IsTuple t its)
    (hQ : ∀ h2, IsEnum h2 (s.heap.objs.size + 1) s.heap.objs.size 0 .none → h2.IsTupleIter s.heap.objs.size t 0 → (∀ b o, s.heap.get? b = some o → h2.get? b = some o) → Q (.ref (s.heap.objs.size + 1)) { s with heap := h2 }) :
    wpAny (model prog w) A (call (.type "enumerate") [.ref t]) Q E s := by
  obtain ⟨⟨cl, dc, dt, so⟩, ht, hcl, m, hdt⟩ := hL
  have e1 : cl = .type "tuple" := hcl
  have e2 : dt = .seq its m := hdt
  subst e1 e2
  refine callType_new F.called_enumerate (by decide) (F.typeCall_enumerate_1 _) (F.newCall_enumerate_1 _) (fun ob => F.args_object_init_2 ob _) F.entry_enumerate_new (meets_new t its m dc so) ⟨ht, ?_⟩
  have sz : (s.heap.push (itTup t)).objs.size = s.heap.objs.size + 1 := Heap.size_push ..
  show _ ∧ _
  rw [sz]
  have hen : IsEnum ((s.heap.push (itTup t)).push (enObj s.heap.objs.size)) (s.heap.objs.size + 1) s.heap.objs.size 0 .none := by
    have hg := Heap.get?_push_size (s.heap.push (itTup t)) (o := enObj s.heap.objs.size) rfl
    rwa [sz] at hg
  exact ⟨⟨_, hen, rfl⟩, hQ _ hen ⟨_, Heap.get?_push_of_some _ (Heap.get?_push_size _ rfl), rfl, rfl⟩ fun b o y => Heap.get?_push_of_some _ (Heap.get?_push_of_some _ y)⟩
end
open L2
/-- the tuple at a as it stands, each item in a new pair -/
def IteT (K : PySem.W.Frag) (a : Addr) : It :=
  ⟨fun i H => ∃ (ys : List V) (y : V), SqT K H a ys ∧ ys[i]? = some y, fun i H v H2 => ∃ T y, v = .ref T ∧ H T = none ∧ H2 = upd H T (.tup [.int (i : Nat), y]) ∧ ∀ ys, SqT K H a ys → ys[i]? = some y, fun i H => ∃ ys : List V, SqT K H a ys ∧ ys.length ≤ i⟩
theorem ended {prog : Program} {w : World} {A : Around} (hh : A.handled = none) (it t : Addr) (i : Nat) (its : Array Value) (no : its[i]? = none) :
    Draws prog w A it [it, t] i (fun _ _ => True) (fun j h => j = i ∧ h.IsTupleIter it t i ∧ h.IsTuple t its) where
  live := fun _ _ st => let ⟨_, ⟨o, ho, _⟩, _⟩ := st; ⟨o, ho⟩
  frame := fun _ _ _ st k => ⟨st.1, st.2.1.at fun o z => k it (by simp) o z, st.2.2.at fun o z => k t (by simp) o z⟩
  item := fun j s Q E lt st _ => absurd st.1 (Nat.ne_of_lt lt)
  done := fun s Q E st hE => wpAny_nextOf_tuple_end hh st.2.1 st.2.2 no hE
theorem turn_enumT {P : Program} {w : World} {K : PySem.W.Frag} {elts : List Expr} {kk : Nat} {tpos : Pos} (a e it : Addr) (ae : a ≠ e) (ai : a ≠ it) :
    Turn P w K (.Tuple elts kk tpos) (IteT K a) [e, it] e (fun i h => (∃ old, IsEnum h e it ((i : Nat) : Int) old) ∧ h.IsTupleIter it a i ∧ e ≠ it) where
  mem := by simp
  obj := fun i h st b hb => by
    obtain ⟨⟨old, en⟩, ⟨o, ho, c1, d1⟩, _⟩ := st
    rcases (show b = e ∨ b = it by simpa using hb) with rfl | rfl
    · exact ⟨_, en, fun v z => nomatch z⟩
    · exact ⟨o, ho, fun v z => by rw [d1] at z; cases z⟩
  keep := fun i h h2 st k => let ⟨⟨old, en⟩, hi, ne⟩ := st; ⟨⟨old, k e (by simp) _ en⟩, hi.at fun o z => k it (by simp) o z, ne⟩
  item := by
    intro X hP hw hK hc i pins s σ H E I hf st hgo
    subst hP hw hK
    obtain ⟨⟨old, en⟩, hit, ne⟩ := st
    obtain ⟨ys, y, hq, hy⟩ := hgo
    obtain ⟨its, rv, pt, _⟩ := I.tuple hq
    obtain ⟨u, hu, ru⟩ := rv.get hy
    have ltE : e < s.heap.objs.size := Heap.lt_size en
    have ltI : it < s.heap.objs.size := by obtain ⟨_, z, _⟩ := hit; exact Heap.lt_size z
    have pT : s.heap.IsTuple a its.toArray := pt
    have hsz : i < its.toArray.size := by
      have := (List.getElem?_eq_some_iff.mp hu).1
      simpa using this
    have fresh : ∀ b, b = e ∨ b = it → b < s.heap.objs.size := fun b z => by rcases z with rfl | rfl <;> assumption
    refine wpAny_pyNext_enum_itemD (Draws.tuple (A := X.A.in1) (I.ok.hd hc) it a ai its.toArray) en ⟨hit, pT⟩ hsz ne (by simp [ne, Ne.symm ae]) fun x h2 tk hx ho st2 hT hsz2 hk => ?_
    obtain rfl : x = u := by
      have : its[i]? = some x := by simpa using hx
      rw [hu] at this
      exact (Option.some.inj this).symm
    refine ⟨_, rfl, wpAny_letOwnedTupleGo_enum (s := { s with heap := h2, toks := tk + 1 }) ho fun h3 en3 sb => ?_⟩
    have hT3 : h3.get? s.heap.objs.size = some { cls := .type "tuple", data := .seq #[.int i tk, x] } := (sb.2 _ (Nat.ne_of_gt ltE)).trans hT
    have okN : ObjOk X.prog X.w (upd H s.heap.objs.size (.tup [.int (i : Nat), y])) h3 s.heap.objs.size (.tup [.int (i : Nat), y]) :=
      ⟨(by decide : 2 ≤ sizeLine), [.int i tk, x], .cons ⟨_, rfl⟩ (.cons ru .nil), ⟨_, hT3, rfl, _, rfl⟩⟩
    have I2 : Inv X pins σ (upd H s.heap.objs.size (.tup [.int (i : Nat), y])) { s with heap := h3, toks := tk + 1 } :=
      I.turnedNew (ch := [e, it]) (fun b ob nb z => (sb.2 b (fun q => nb (by simp [q]))).trans (hk b ob (fun q => nb (by simp [q])) (fun q => nb (by simp [q])) z)) hf (Nat.le_refl _) okN
    refine ⟨.ref s.heap.objs.size, _, I2, rfl, ⟨_, y, rfl, I.hok.fresh (Nat.le_refl _), rfl, fun zs hz => by rw [I.tuple_inj hz hq]; exact hy⟩, ⟨⟨x, ?_⟩, st2.1.at fun o q => (sb.2 it (Ne.symm ne)).trans q, ne⟩, fun b hb => ?_⟩
    · rw [show (((i + 1 : Nat) : Nat) : Int) = (i : Int) + 1 by omega]
      exact en3
    · have lb := fresh b (by simpa using hb)
      rw [upd_ne (Nat.ne_of_lt lb)]
      exact (hf b hb).1
  done := by
    intro X hP hw hK hc i pins s σ H E I hf st hgo
    subst hP hw hK
    obtain ⟨⟨old, en⟩, hit, ne⟩ := st
    obtain ⟨ys, hq, hy⟩ := hgo
    obtain ⟨its, rv, pt, _⟩ := I.tuple hq
    have pT : s.heap.IsTuple a its.toArray := pt
    obtain ⟨f0, f1, f2, f3, f4, f5⟩ := hf it (by simp)
    have no : its.toArray[i]? = none := by
      have := rv.length
      simp
      omega
    exact wpAny_pyNext_enum_endD (ended (A := X.A.in1) (I.ok.hd hc) it a i its.toArray no) en ⟨rfl, hit, pT⟩ fun h2 eb => ⟨rfl, I.turned (t' := s.toks) (fun b o nb z => eb b o nb z) f0 f1 f3 f4 f5⟩
  self := fun A i s Q E st h => let ⟨⟨_, en⟩, _⟩ := st; wpAny_pyIter_enum en h
/-- enumerate(e), e a tuple -/
def iEnT (K : PySem.W.Frag) (te : TE) : TI := fun σ H R => te σ H fun v H1 => ∃ a xs, v = .ref a ∧ SqT K H1 a xs ∧ R (IteT K a) H1
theorem pi_enumT {X : Cx} {e : Expr} {te : TE} {p pos tpos : Pos} {elts : List Expr} {kk : Nat} (hg : Gl X "enumerate") (hm : X.mg "enumerate" = none) (he : PE X e te) (hs : starEach [e] X.env = (false, eval e X.env) :: starEach [] X.env := by rfl) :
    PI X (.Tuple elts kk tpos) (.Call (.Name "enumerate" p) [e] [] pos) (iEnT X.K te) := by
  refine ⟨fun pins s σ H R I h => ?_⟩
  refine Call_ (ld_blt I hg hm boot_enumerate (PyProof.Rows.callWith_type1 (args_cons (thn (he.run pins s σ H _ I h) fun u s1 ⟨v, H1, I1, r1, q1⟩ => args_nil ?_) hs) hs rfl))
  obtain ⟨a, xs, rfl, hq, q⟩ := q1
  cases r1
  obtain ⟨its, rv, pt, hz⟩ := I1.tuple hq
  have pT : s1.heap.IsTuple a its.toArray := pt
  have la : a < s1.heap.objs.size := by obtain ⟨o, ho, _⟩ := pT; exact Heap.lt_size ho
  refine call_enumT pT fun h2 en hit hk => wpAny_pyIter_enum en ?_
  have I2 : Inv X pins σ H1 { s1 with heap := h2 } := I1.kept (t' := s1.toks) hk
  refine ⟨s1.heap.objs.size + 1, [s1.heap.objs.size + 1, s1.heap.objs.size], _, _, H1, rfl, I2, turn_enumT a (s1.heap.objs.size + 1) s1.heap.objs.size (Nat.ne_of_lt (Nat.lt_succ_of_lt la)) (Nat.ne_of_lt la), ⟨⟨.none, en⟩, hit, Nat.succ_ne_self _⟩, fun b hb => ?_, q⟩
  have ge : s1.heap.objs.size ≤ b := by
    rcases (show b = s1.heap.objs.size + 1 ∨ b = s1.heap.objs.size by simpa using hb) with rfl | rfl
    · exact Nat.le_add_right _ _
    · exact Nat.le_refl _
  exact I1.fpOk ge (I1.hok.fresh ge)
end EnT
/-! the turns over a tuple, over enumerate of a tuple: one form for loops, comprehensions, generators -/
namespace EnT
open PySem PySem.Spec PyProof.Rows L2
theorem turnsT {K : PySem.W.Frag} {a : Addr} {xs : List V} {H1 : Hp} {Qd : Hp → Prop} {Go : (Hp → Prop) → V → Hp → Prop} (Pv : Nat → Hp → Prop) (h0 : Pv 0 H1) (hl : ∀ i H, i ≤ xs.length → Pv i H → SqT K H a xs)
    (hs : ∀ i x H, xs[i]? = some x → Pv i H → Go (Pv (i + 1)) x H) (hd : ∀ H, Pv xs.length H → Qd H) :
    ∃ W : Nat → Nat → Hp → Prop, (∃ m, W 0 m H1) ∧ ∀ i m H, W i m H → ((Itt K a).stop i H ∧ Qd H) ∨ ((Itt K a).go i H ∧ ∃ Nx : Hp → Prop, (∀ H', Nx H' → ∃ m', m' < m ∧ W (i + 1) m' H') ∧ ∀ x H', (Itt K a).yld i H x H' → Go Nx x H') := by
  refine ⟨fun i m H => m = xs.length - i ∧ i ≤ xs.length ∧ Pv i H, ⟨_, rfl, Nat.zero_le _, h0⟩, ?_⟩
  rintro i m H ⟨rfl, le, p⟩
  have st := hl i H le p
  by_cases lt : i < xs.length
  · refine .inr ⟨⟨xs, xs[i], st, List.getElem?_eq_getElem lt⟩, Pv (i + 1), fun H' p' => ⟨xs.length - (i + 1), by omega, rfl, lt, p'⟩, fun x H' y => ?_⟩
    obtain ⟨rfl, y⟩ := y
    exact hs i x _ (y xs st) p
  · obtain rfl : i = xs.length := by omega
    exact .inl ⟨⟨xs, st, Nat.le_refl _⟩, hd H p⟩
theorem turnsE {K : PySem.W.Frag} {a : Addr} {xs : List V} {H1 : Hp} {Qd : Hp → Prop} {Go : (Hp → Prop) → V → Hp → Prop} (Pv : Nat → Hp → Prop) (h0 : Pv 0 H1) (hl : ∀ i H, i ≤ xs.length → Pv i H → SqT K H a xs)
    (hs : ∀ i x T H, xs[i]? = some x → Pv i H → H T = none → Go (Pv (i + 1)) (.ref T) (upd H T (.tup [.int (i : Nat), x]))) (hd : ∀ H, Pv xs.length H → Qd H) :
    ∃ W : Nat → Nat → Hp → Prop, (∃ m, W 0 m H1) ∧ ∀ i m H, W i m H → ((IteT K a).stop i H ∧ Qd H) ∨ ((IteT K a).go i H ∧ ∃ Nx : Hp → Prop, (∀ H', Nx H' → ∃ m', m' < m ∧ W (i + 1) m' H') ∧ ∀ x H', (IteT K a).yld i H x H' → Go Nx x H') := by
  refine ⟨fun i m H => m = xs.length - i ∧ i ≤ xs.length ∧ Pv i H, ⟨_, rfl, Nat.zero_le _, h0⟩, ?_⟩
  rintro i m H ⟨rfl, le, p⟩
  have st := hl i H le p
  by_cases lt : i < xs.length
  · refine .inr ⟨⟨xs, xs[i], st, List.getElem?_eq_getElem lt⟩, Pv (i + 1), fun H' p' => ⟨xs.length - (i + 1), by omega, rfl, lt, p'⟩, fun x H' y => ?_⟩
    obtain ⟨T, z, rfl, nT, rfl, y⟩ := y
    exact hs i z T H (y xs st) p nT
  · obtain rfl : i = xs.length := by omega
    exact .inl ⟨⟨xs, st, Nat.le_refl _⟩, hd H p⟩
theorem turnsL {K : PySem.W.Frag} {a : Addr} {xs : List V} {H1 : Hp} {Qd : Hp → Prop} {Go : (Hp → Prop) → V → Hp → Prop} (Pv : Nat → Hp → Prop) (h0 : Pv 0 H1) (hl : ∀ i H, i ≤ xs.length → Pv i H → SqL K H a xs)
    (hs : ∀ i x H, xs[i]? = some x → Pv i H → Go (Pv (i + 1)) x H) (hd : ∀ H, Pv xs.length H → Qd H) :
    ∃ W : Nat → Nat → Hp → Prop, (∃ m, W 0 m H1) ∧ ∀ i m H, W i m H → ((Itl K a).stop i H ∧ Qd H) ∨ ((Itl K a).go i H ∧ ∃ Nx : Hp → Prop, (∀ H', Nx H' → ∃ m', m' < m ∧ W (i + 1) m' H') ∧ ∀ x H', (Itl K a).yld i H x H' → Go Nx x H') := by
  refine ⟨fun i m H => m = xs.length - i ∧ i ≤ xs.length ∧ Pv i H, ⟨_, rfl, Nat.zero_le _, h0⟩, ?_⟩
  rintro i m H ⟨rfl, le, p⟩
  have st := hl i H le p
  by_cases lt : i < xs.length
  · refine .inr ⟨⟨xs, xs[i], st, List.getElem?_eq_getElem lt⟩, Pv (i + 1), fun H' p' => ⟨xs.length - (i + 1), by omega, rfl, lt, p'⟩, fun x H' y => ?_⟩
    obtain ⟨rfl, y⟩ := y
    exact hs i x _ (y xs st) p
  · obtain rfl : i = xs.length := by omega
    exact .inl ⟨⟨xs, st, Nat.le_refl _⟩, hd H p⟩
end EnT
set_option maxHeartbeats 2000000
namespace LW
open PySem PySem.Spec PyProof.Rows L2
def quadD (p : Nat × Rl) : PyData := .tuple [.int p.1, .int p.2.1, .int p.2.2.1, .int p.2.2.2]
theorem pure_quads : ∀ l : List (Nat × Rl), pureAll (l.map quadD) = true
  | [] => rfl
  | p :: l => by simp [pureAll, pure1, quadD, pure_quads l]
theorem dpAll_ints3 {K : PySem.W.Frag} {H : Hp} {xs : List V} {a b c : Int} (h : DpAll K H xs [.int a, .int b, .int c]) : xs = [.int a, .int b, .int c] := by
  cases h with
  | cons h1 h => cases h with
    | cons h2 h => cases h with
      | cons h3 h => cases h; cases h1; cases h2; cases h3; rfl
theorem dpAll_ints4 {K : PySem.W.Frag} {H : Hp} {xs : List V} {a b c d : Int} (h : DpAll K H xs [.int a, .int b, .int c, .int d]) : xs = [.int a, .int b, .int c, .int d] := by
  cases h with
  | cons h0 h => cases h0; rw [dpAll_ints3 h]
def spRulesOf (K : PySem.W.Frag) : Sp := fun vs H Q _ => ∃ (v : V) (s : Sch), vs = [v] ∧ Dp K H v (schD s) ∧ SchOk s ∧ ∀ H' p ys, Gr [] H H' → H p = none → H' p = some (.lst ys) → DpAll K H' ys ((rulesFrom 0 s).map quadD) → Q (.ref p) H'
theorem b_enumerate : bootBuiltins "enumerate" = some (.type "enumerate") := by decide +kernel
section
variable {P : Program} {w : World} {K : PySem.W.Frag} {mg : Str → Option Value} {base : Heap} {f : Addr} {fd : FuncData}
abbrev nRulesOf : List Str := ["schema", "state", "_", "rules", "rule"]
end
end LW
set_option maxHeartbeats 2000000
namespace LW
open PySem PySem.Spec PyProof.Rows L2
def bitD (t : Rl) : PyData := .tuple [.int (t.1 : Int), .int (t.2.1 : Int), .int (t.2.2 : Int)]
theorem pure_bitD : ∀ l : List Rl, pureAll (l.map bitD) = true
  | [] => rfl
  | p :: l => by simp [pureAll, pure1, bitD, pure_bitD l]
theorem ofLabel_snoc (a : Nat) (rs : List (Nat × Rl)) (p : Nat × Rl) : ofLabel a (rs ++ [p]) = ofLabel a rs ++ if p.2.1 = a then [(p.1, p.2.2.1, p.2.2.2)] else [] := by
  unfold ofLabel
  rw [List.filterMap_append]
  congr 1
  simp only [List.filterMap_cons, List.filterMap_nil]
  split <;> rename_i h
  · split at h <;> rename_i h2
    · cases h
    · rw [if_neg h2]
  · split at h <;> rename_i h2
    · cases h; rw [if_pos h2]
    · cases h
theorem ofLabel_len (a : Nat) (rs : List (Nat × Rl)) : (ofLabel a rs).length ≤ rs.length := List.length_filterMap_le ..
/-- five lists, of the rules of each label -/
structure RL (K : PySem.W.Frag) (H0 H : Hp) (D : Addr) (ls : List Addr) (rs : List (Nat × Rl)) : Prop where
  at_ : H D = some (.lst (ls.map V.ref))
  len : ls.length = 5
  nd : ls.Nodup
  out : D ∉ ls
  new : ∀ l ∈ ls, H0 l = none
  row : ∀ (a : Nat) (l : Addr), ls[a]? = some l → ∃ xs, H l = some (.lst xs) ∧ DpAll K H xs ((ofLabel a rs).map bitD)
theorem RL.gr {K : PySem.W.Frag} {H0 H H' : Hp} {D : Addr} {ls : List Addr} {rs : List (Nat × Rl)} (h : RL K H0 H D ls rs) (g : Gr [] H H') : RL K H0 H' D ls rs :=
  ⟨g.lst (by simp) h.at_, h.len, h.nd, h.out, h.new, fun a l e => let ⟨xs, h1, h2⟩ := h.row a l e; ⟨xs, g.lst (by simp) h1, h2.gr g⟩⟩
def spByLabel (K : PySem.W.Frag) : Sp := fun vs H Q _ => ∃ (v : V) (s : Sch), vs = [v] ∧ Dp K H v (schD s) ∧ SchOk s ∧ ∀ H' p ls, Gr [] H H' → H p = none → RL K H H' p ls (rulesFrom 0 s) → Q (.ref p) H'
section
variable {P : Program} {w : World} {K : PySem.W.Frag} {mg : Str → Option Value} {base : Heap} {f : Addr} {fd : FuncData}
abbrev nByLabel : List Str := ["schema", "found", "_", "state", "label", "inside", "behind"]
end
end LW
namespace LB
open PySem PySem.Spec PyProof.Rows L2
section
variable {X : Cx}
def rOrN : R2 := fun x y H Q => ∃ a b : Nat, x = .int (a : Int) ∧ y = .int (b : Int) ∧ Q (.int ((a ||| b : Nat) : Int)) H
theorem op_orN : OpR X (binaryOp .BitOr) rOrN := by
  intro pins s σ H x y v u Q I rx ry h
  obtain ⟨a, b, e1, e2, q⟩ := h
  exact op_or pins s σ H x y v u Q I rx ry ⟨a, b, e1, e2, by show Q (.int (Builtin.bitOr a b)) H; rw [bor_nat]; exact q⟩
def rAndN : R2 := fun x y H Q => ∃ a b : Nat, x = .int (a : Int) ∧ y = .int (b : Int) ∧ Q (.int ((a &&& b : Nat) : Int)) H
theorem op_andN : OpR X (binaryOp .BitAnd) rAndN := by
  intro pins s σ H x y v u Q I rx ry h
  obtain ⟨a, b, e1, e2, q⟩ := h
  exact op_and pins s σ H x y v u Q I rx ry ⟨a, b, e1, e2, by show Q (.int (Builtin.bitAnd a b)) H; rw [band_nat]; exact q⟩
end
end LB
set_option maxHeartbeats 2000000
namespace LW
open PySem PySem.Spec PyProof.Rows L2
theorem Gr.ofKeep {m : List Addr} {H H' : Hp} (k : ∀ b o, H b = some o → H' b = some o) : Gr m H H' :=
  ⟨fun b o _ h _ => k b o h, fun P ⟨ps, h, t⟩ => ⟨ps, k _ _ h, t⟩, fun p h => by
    cases e : H p with
    | none => rfl
    | some o => rw [k p o e] at h; cases h⟩
def rowK (l : List (Nat × Nat)) : List (Key × V) := l.map fun p => (Sum.inl ((p.1 : Nat) : Int), natV p.2)
theorem key_inj {a b : Nat} (h : (Sum.inl ((a : Nat) : Int) : Key) = Sum.inl ((b : Nat) : Int)) : a = b := by
  have h1 : ((a : Nat) : Int) = ((b : Nat) : Int) := Sum.inl.inj h
  exact Int.ofNat.inj h1
theorem valV_rowK (q : Nat) : ∀ l : List (Nat × Nat), valV (rowK l) (Sum.inl ((q : Nat) : Int)) = if q ∈ l.map (·.1) then some (natV (getB q l)) else none
  | [] => by simp [rowK, valV_nil]
  | p :: l => by
    have ih := valV_rowK q l
    show valV ((Sum.inl ((p.1 : Nat) : Int), natV p.2) :: rowK l) _ = _
    by_cases h : p.1 = q
    · rw [valV_pos (by rw [h]), if_pos (by simp [h])]
      unfold getB
      rw [if_pos h]
    · rw [valV_neg (fun z => h (key_inj z)), ih]
      unfold getB
      rw [if_neg h]
      by_cases h2 : q ∈ l.map (·.1)
      · rw [if_pos h2, if_pos (by rw [List.map_cons]; exact List.mem_cons_of_mem _ h2)]
        cases l <;> rfl
      · rw [if_neg h2, if_neg (by rw [List.map_cons, List.mem_cons, not_or]; exact ⟨fun z => h z.symm, h2⟩)]
theorem get_rowK (q : Nat) (l : List (Nat × Nat)) : (valV (rowK l) (Sum.inl ((q : Nat) : Int))).getD (.int 0) = natV (getB q l) := by
  rw [valV_rowK]
  split
  · rfl
  · rename_i h
    rw [getB_none h]
    rfl
theorem put_rowK {q w : Nat} : ∀ {l : List (Nat × Nat)}, (l.map (·.1)).Nodup → putK (rowK l) (Sum.inl ((q : Nat) : Int)) (natV (getB q l ||| w)) = rowK (putOr q w l)
  | [], _ => by
    unfold putK rowK
    simp [getB, putOr]
  | p :: l, nd => by
    rw [List.map_cons, List.nodup_cons] at nd
    have hd : rowK (p :: l) = (Sum.inl ((p.1 : Nat) : Int), natV p.2) :: rowK l := rfl
    by_cases h : p.1 = q
    · subst h
      have same : ∀ v : V, (rowK l).map (fun kv => if kv.1 = Sum.inl ((p.1 : Nat) : Int) then (kv.1, v) else kv) = rowK l := fun v => by
        unfold rowK
        rw [List.map_map]
        refine List.map_congr_left fun x hx => ?_
        show (if (Sum.inl ((x.1 : Nat) : Int) : Key) = _ then _ else _) = _
        rw [if_neg (fun z => nd.1 (List.mem_map.mpr ⟨x, hx, key_inj z⟩))]
      unfold putK
      rw [hd, if_pos (by simp), List.map_cons, same]
      unfold putOr getB
      rw [if_pos rfl, if_pos rfl, if_pos rfl]
      rfl
    · have ih := put_rowK (q := q) (w := w) nd.2
      have hg : getB q (p :: l) = getB q l := by unfold getB; rw [if_neg h]; cases l <;> rfl
      rw [hg, hd]
      have hk : ¬ ((Sum.inl ((p.1 : Nat) : Int) : Key) = Sum.inl ((q : Nat) : Int)) := fun z => h (key_inj z)
      unfold putOr
      rw [if_neg h]
      show _ = (Sum.inl ((p.1 : Nat) : Int), natV p.2) :: rowK (putOr q w l)
      rw [← ih]
      unfold putK
      rw [List.any_cons, decide_eq_false hk, Bool.false_or]
      split
      · rw [List.map_cons, if_neg hk]
      · rfl
theorem putOr_len (q w : Nat) : ∀ l : List (Nat × Nat), (putOr q w l).length ≤ l.length + 1
  | [] => Nat.le_refl _
  | p :: l => by
    unfold putOr
    split
    · simp
    · have := putOr_len q w l
      simp only [List.length_cons]
      omega
theorem rowOf_len (inside : Nat) (rs : List Rl) : (rowOf rs inside).length ≤ rs.length := by
  have key : ∀ (rs : List Rl) (acc : List (Nat × Nat)), (rs.foldl (fun acc t => if inside.testBit t.2.1 = true then putOr t.1 (2 ^ t.2.2) acc else acc) acc).length ≤ acc.length + rs.length := by
    intro rs
    induction rs with
    | nil => intro acc; simp
    | cons t rs ih =>
      intro acc
      rw [List.foldl_cons]
      refine Nat.le_trans (ih _) ?_
      have := putOr_len t.1 (2 ^ t.2.2) acc
      simp only [List.length_cons]
      split <;> omega
  have := key rs []
  rw [List.length_nil, Nat.zero_add] at this
  exact this
def entD (p : Nat × Nat) : PyData := .tuple [.int ((p.1 : Nat) : Int), .int (p.2 : Int)]
theorem pure_entD : ∀ l : List (Nat × Nat), pureAll (l.map entD) = true
  | [] => rfl
  | p :: l => by simp [pureAll, pure1, entD, pure_entD l]
theorem test_shr (x b : Nat) : (((b / 2 ^ x &&& 1 : Nat) : Int) != 0) = b.testBit x := by
  have e : b.testBit x = (b / 2 ^ x &&& 1 != 0) := by
    rw [Nat.testBit, Nat.shiftRight_eq_div_pow, Nat.and_comm]
  rw [e]
  cases h : (b / 2 ^ x &&& 1 != 0) with
  | true =>
    have : b / 2 ^ x &&& 1 ≠ 0 := by simpa using h
    simp only [bne_iff_ne, ne_eq]
    omega
  | false =>
    have : b / 2 ^ x &&& 1 = 0 := by simpa using h
    rw [this]
    rfl
theorem test_and (x b : Nat) : (Builtin.bitAnd ((2 ^ x : Nat) : Int) (b : Int) != 0) = b.testBit x := by
  rw [LB.band_nat]
  cases h : b.testBit x with
  | true =>
    have : 2 ^ x &&& b ≠ 0 := LB.and_ne.mpr ⟨x, by rw [LB.pow_bit]; simp, h⟩
    simp only [bne_iff_ne, ne_eq]
    omega
  | false =>
    have : ¬ (2 ^ x &&& b ≠ 0) := fun z => by
      obtain ⟨i, h1, h2⟩ := LB.and_ne.mp z
      rw [LB.pow_bit, decide_eq_true_eq] at h1
      rw [← h1, h2] at h
      cases h
    have : 2 ^ x &&& b = 0 := Decidable.not_not.mp this
    rw [this]
    rfl
def spRowOf (K : PySem.W.Frag) : Sp := fun vs H Q _ => ∃ (l : Addr) (xs : List V) (rs : List Rl) (inside : Nat), vs = [.ref l, natV inside] ∧ H l = some (.lst xs) ∧ DpAll K H xs (rs.map bitD) ∧ rs.length ≤ 2000 ∧
  ∀ H' p ys, Gr [] H H' → H p = none → H' p = some (.lst ys) → DpAll K H' ys ((rowOf rs inside).map entD) → Q (.ref p) H'
section
variable {P : Program} {w : World} {K : PySem.W.Frag} {mg : Str → Option Value} {base : Heap} {f : Addr} {fd : FuncData}
abbrev nRowOf : List Str := ["rules", "inside", "wanted", "state", "kids", "behind"]
theorem b_list : bootBuiltins "list" = some (.type "list") := by decide +kernel
end
end LW
namespace LW
open PySem PySem.Spec PyProof.Rows L2
/-! data stands where only dicts and instances are written -/
def hotO : HO → Bool
  | .dT _ => true
  | .dK _ => true
  | .ins .. => true
  | _ => false
def Apart (m : List Addr) (H : Hp) : Prop := ∀ b ∈ m, ∀ o, H b = some o → hotO o = true
theorem Apart.nil {H : Hp} : Apart [] H := fun _ h => by cases h
theorem Apart.not {m : List Addr} {H : Hp} (h : Apart m H) {a : Addr} {o : HO} (e : H a = some o) (n : hotO o = false) : a ∉ m := fun z => by
  have := h a z o e
  rw [n] at this
  cases this
theorem Gr.lstA {m : List Addr} {H H' : Hp} {a : Addr} {xs : List V} (g : Gr m H H') (h : Apart m H) (e : H a = some (.lst xs)) : H' a = some (.lst xs) := g.lst (h.not e rfl) e
theorem Gr.tupA {m : List Addr} {H H' : Hp} {a : Addr} {xs : List V} (g : Gr m H H') (h : Apart m H) (e : H a = some (.tup xs)) : H' a = some (.tup xs) := g.tup (h.not e rfl) e
theorem Gr.sqTA {m : List Addr} {H H' : Hp} {K : PySem.W.Frag} {a : Addr} {xs : List V} (g : Gr m H H') (h : Apart m H) (e : SqT K H a xs) : SqT K H' a xs := by
  rcases e with (e | ⟨o, e⟩) | e
  · exact .inl (.inl (g.tupA h e))
  · exact .inl (.inr ⟨o, g.keep _ _ (h.not e rfl) e fun _ z => by cases z⟩)
  · exact .inr e
theorem Gr.sqLA {m : List Addr} {H H' : Hp} {K : PySem.W.Frag} {a : Addr} {xs : List V} (g : Gr m H H') (h : Apart m H) (e : SqL K H a xs) : SqL K H' a xs := by
  rcases e with (e | ⟨o, e⟩) | e
  · exact .inl (.inl (g.lstA h e))
  · exact .inl (.inr ⟨o, g.keep _ _ (h.not e rfl) e fun _ z => by cases z⟩)
  · exact .inr e
mutual
theorem dp_gra {K : PySem.W.Frag} {H H' : Hp} {m : List Addr} (g : Gr m H H') (hm : Apart m H) : ∀ (d : PyData) (v : V), Dp K H v d → Dp K H' v d
  | .none, _, h => by cases h; exact .non
  | .bool b, _, h => by cases h; exact .bl b
  | .int i, _, h => by cases h; exact .int i
  | .str x, _, h => by cases h; exact .str x
  | .list ds, _, h => by
    cases h with
    | lst hs ha => exact .lst (g.sqLA hm hs) (dpAll_gra g hm ds _ ha)
  | .tuple ds, _, h => by
    cases h with
    | tup hs ha => exact .tup (g.sqTA hm hs) (dpAll_gra g hm ds _ ha)
  | .dict _, _, h => by cases h
theorem dpAll_gra {K : PySem.W.Frag} {H H' : Hp} {m : List Addr} (g : Gr m H H') (hm : Apart m H) : ∀ (ds : List PyData) (vs : List V), DpAll K H vs ds → DpAll K H' vs ds
  | [], _, h => by cases h; exact .nil
  | d :: ds, _, h => by
    cases h with
    | cons h1 h2 => exact .cons (dp_gra g hm d _ h1) (dpAll_gra g hm ds _ h2)
end
/-- a new object that was written since counts as new -/
theorem Gr.less {m m' : List Addr} {H H1 : Hp} (g : Gr (m ++ m') H H1) (h : ∀ b ∈ m', H b = none) : Gr m H H1 :=
  ⟨fun b v hb q n => g.keep b v (fun z => (List.mem_append.mp z).elim hb fun z => ne_of_none q (h b z) rfl) q n, g.tab, g.free⟩
end LW
set_option maxHeartbeats 2000000
namespace LW
open PySem PySem.Spec PyProof.Rows L2
/-! ### Steps -/
def fsS (s : Sch) (rl rw_ st : Addr) : List (Str × V) := [("empty", natV (emptyB s)), ("rules", .ref rl), ("rows", .ref rw_), ("steps", .ref st)]
structure StTxt (K : PySem.W.Frag) (mg : Str → Option Value) (C : Addr) : Prop where
  cl : Cls K C
  nE : NoAttr K C "empty"
  nR : NoAttr K C "rules"
  nW : NoAttr K C "rows"
  nS : NoAttr K C "steps"
  gC : mg "Steps" = some (.ref C)
theorem lkH {k : Str} {v : V} {r : List (Str × V)} : List.lookup k ((k, v) :: r) = some v := by
  have e : (k == k) = true := beq_self_eq_true k
  simp only [List.lookup, e]
theorem lkP {k g : Str} {v : V} {r : List (Str × V)} (h : (k == g) = false) : List.lookup k ((g, v) :: r) = List.lookup k r := by
  simp only [List.lookup, h]
theorem fs_empty {s : Sch} {rl rw_ st : Addr} : (fsS s rl rw_ st).lookup ("empty" : Str) = some (natV (emptyB s)) := lkH
theorem fs_rules {s : Sch} {rl rw_ st : Addr} : (fsS s rl rw_ st).lookup ("rules" : Str) = some (.ref rl) := (lkP (by decide +kernel)).trans lkH
theorem fs_rows {s : Sch} {rl rw_ st : Addr} : (fsS s rl rw_ st).lookup ("rows" : Str) = some (.ref rw_) := (lkP (by decide +kernel)).trans ((lkP (by decide +kernel)).trans lkH)
theorem fs_steps {s : Sch} {rl rw_ st : Addr} : (fsS s rl rw_ st).lookup ("steps" : Str) = some (.ref st) := (lkP (by decide +kernel)).trans ((lkP (by decide +kernel)).trans ((lkP (by decide +kernel)).trans lkH))
theorem fs_none {s : Sch} {rl rw_ st : Addr} {m : Str} (h1 : (m == ("empty" : Str)) = false) (h2 : (m == ("rules" : Str)) = false) (h3 : (m == ("rows" : Str)) = false) (h4 : (m == ("steps" : Str)) = false) : (fsS s rl rw_ st).lookup m = none :=
  (lkP h1).trans ((lkP h2).trans ((lkP h3).trans ((lkP h4).trans rfl)))
/-- a method under its name -/
structure Mt (P : Program) (w : World) (K : PySem.W.Frag) (mg : Str → Option Value) (base : Heap) (CX : CXT) (k : Nat) (C : Addr) (m : Str) (ps : List Str) (sp : Sp) : Prop where
  ex : ∃ f fd, FnOk P w K mg base CX k f fd ps sp ∧ Meth K C m f ∧ Binds K fd ps []
theorem Mt.mono {P : Program} {w : World} {K : PySem.W.Frag} {mg : Str → Option Value} {base : Heap} {CX : CXT} {j k : Nat} {C : Addr} {m : Str} {ps : List Str} {sp : Sp} (F : Mt P w K mg base CX j C m ps sp) (h : j ≤ k) : Mt P w K mg base CX k C m ps sp := by
  obtain ⟨f, fd, F, m, b⟩ := F.ex
  exact ⟨f, fd, F.mono h, m, b⟩
theorem pe_mt {X : Cx} {CX : CXT} {k : Nat} {C : Addr} {m : Str} {ps : List Str} {sp : Sp} {E : XK} {pos apos : Pos} {e o : Expr} {es : List Expr} {ta : TE} {t : TA} {pl : Sem Bool} (he : PE X o ta) (c : Cls X.K C) (F : Mt X.prog X.w X.K X.mg X.base CX k C m ps sp) (hr : Room k X.A) (hx : Passes CX X E) (ha : PA X (e :: es) t)
    (hst : starEach (e :: es) X.env = (false, eval e X.env) :: starEach es X.env := by rfl) (hpl : (backTo pos (starEach es X.env)).any (·.1) = false := by rfl)
    (ht : eval (.Call (.Attribute o m apos) (e :: es) [] pos) X.env = (do
      let ov ← eval o X.env
      standAt apos.atName
      let (f, first) ← holding [ov] (getMethod ov m pl)
      callWith pos f first (backTo pos (starEach (e :: es) X.env)) (backToKw pos (keywordEach [] X.env))) := by rfl) :
    PE X (.Call (.Attribute o m apos) (e :: es) [] pos) (tMeth C m sp [] E ta t) := by
  obtain ⟨f, fd, F, hm, hb⟩ := F.ex
  exact pe_meth he c hm F hr hb .nil hx ha hst hpl ht
abbrev key2 (a x : Nat) : List Key := [.inl (a : Int), .inl (x : Int)]
abbrev key3 (a x y : Nat) : List Key := [.inl (a : Int), .inl (x : Int), .inl (y : Int)]
structure StepsAt (K : PySem.W.Frag) (C : Addr) (H : Hp) (p rl rw_ st : Addr) (s : Sch) (n : Nat) : Prop where
  ins : ∃ dx, H p = some (.ins C dx (fsS s rl rw_ st))
  rules : ∃ H0 ls, RL K H0 H rl ls (rulesFrom 0 s)
  rows : ∃ kvs, H rw_ = some (.dT kvs) ∧ kvs.length ≤ n ∧ ∀ a x v, valV kvs (key2 a x) = some v → ∃ l xs, v = .ref l ∧ H l = some (.lst xs) ∧ DpAll K H xs ((rowOf (ofLabel a (rulesFrom 0 s)) x).map entD)
  steps : ∃ kvs, H st = some (.dT kvs) ∧ kvs.length ≤ n ∧ ∀ a x y v, valV kvs (key3 a x y) = some v → v = natV (afterB s a x y)
  ne : rw_ ≠ st
section
variable {K : PySem.W.Frag} {C p rl rw_ st : Addr} {H H' : Hp} {s : Sch} {n : Nat}
theorem RL.grA {H0 : Hp} {D : Addr} {ls : List Addr} {rs : List (Nat × Rl)} {m : List Addr} (h : RL K H0 H D ls rs) (g : Gr m H H') (hm : Apart m H) : RL K H0 H' D ls rs :=
  ⟨g.lstA hm h.at_, h.len, h.nd, h.out, h.new, fun a l e => let ⟨xs, h1, h2⟩ := h.row a l e; ⟨xs, g.lstA hm h1, dpAll_gra g hm _ _ h2⟩⟩
/-- other hot things are written -/
theorem StepsAt.gr {m : List Addr} (h : StepsAt K C H p rl rw_ st s n) (g : Gr m H H') (hm : Apart m H) (h1 : p ∉ m) (h2 : rw_ ∉ m) (h3 : st ∉ m) : StepsAt K C H' p rl rw_ st s n where
  ins := let ⟨dx, e⟩ := h.ins; ⟨dx, g.keep _ _ h1 e fun _ z => by cases z⟩
  rules := let ⟨H0, ls, e⟩ := h.rules; ⟨H0, ls, e.grA g hm⟩
  rows := by
    obtain ⟨kvs, e, l, f⟩ := h.rows
    refine ⟨kvs, g.keep _ _ h2 e (fun _ z => by cases z), l, fun a x v q => ?_⟩
    obtain ⟨l, xs, e1, e2, e3⟩ := f a x v q
    exact ⟨l, xs, e1, g.lstA hm e2, dpAll_gra g hm _ _ e3⟩
  steps := let ⟨kvs, e, l, f⟩ := h.steps; ⟨kvs, g.keep _ _ h3 e (fun _ z => by cases z), l, f⟩
  ne := h.ne
theorem StepsAt.gr0 (h : StepsAt K C H p rl rw_ st s n) (g : Gr [] H H') : StepsAt K C H' p rl rw_ st s n := h.gr g .nil (by simp) (by simp) (by simp)
theorem StepsAt.apart (h : StepsAt K C H p rl rw_ st s n) : Apart [rw_, st] H := fun b hb o e => by
  obtain ⟨kvs, e1, _⟩ := h.rows
  obtain ⟨kvs2, e2, _⟩ := h.steps
  rcases List.mem_cons.mp hb with rfl | hb
  · rw [e1] at e; cases e; rfl
  · rw [List.mem_singleton.mp hb, e2] at e; cases e; rfl
theorem StepsAt.mono {k : Nat} (h : StepsAt K C H p rl rw_ st s n) (le : n ≤ k) : StepsAt K C H p rl rw_ st s k :=
  ⟨h.ins, h.rules, let ⟨kvs, e, l, f⟩ := h.rows; ⟨kvs, e, Nat.le_trans l le, f⟩, let ⟨kvs, e, l, f⟩ := h.steps; ⟨kvs, e, Nat.le_trans l le, f⟩, h.ne⟩
end
theorem putK_len {kvs : List (List Key × V)} {k : List Key} {v : V} : (putK kvs k v).length ≤ kvs.length + 1 := by
  unfold putK
  split
  · rw [List.length_map]; omega
  · rw [List.length_append]; exact Nat.le_refl _
def spRow (K : PySem.W.Frag) (C : Addr) : Sp := fun vs H Q _ => ∃ (p rl rw_ st : Addr) (s : Sch) (n a x : Nat), vs = [.ref p, natV a, natV x] ∧ StepsAt K C H p rl rw_ st s n ∧ SchOk s ∧ n ≤ 90000 ∧ a < 5 ∧
  ∀ H' l xs, Gr [rw_] H H' → StepsAt K C H' p rl rw_ st s (n + 1) → H' l = some (.lst xs) → DpAll K H' xs ((rowOf (ofLabel a (rulesFrom 0 s)) x).map entD) → Q (.ref l) H'
section
variable {P : Program} {w : World} {K : PySem.W.Frag} {mg : Str → Option Value} {base : Heap} {f : Addr} {fd : FuncData} {C : Addr}
abbrev nRow : List Str := ["self", "label", "inside", "asked"]
end
end LW
set_option maxHeartbeats 2000000
namespace LW
open PySem PySem.Spec PyProof.Rows L2
def spAfter (K : PySem.W.Frag) (C : Addr) : Sp := fun vs H Q _ => ∃ (p rl rw_ st : Addr) (s : Sch) (n a x y : Nat), vs = [.ref p, natV a, natV x, natV y] ∧ StepsAt K C H p rl rw_ st s n ∧ SchOk s ∧ n ≤ 90000 ∧ a < 5 ∧
  ∀ H', Gr [rw_, st] H H' → StepsAt K C H' p rl rw_ st s (n + 1) → Q (natV (afterB s a x y)) H'
def spOfDoc (K : PySem.W.Frag) (C : Addr) (k : Nat) : Sp := fun vs H Q _ => ∃ (p rl rw_ st : Addr) (s : Sch) (n : Nat) (d : Doc) (v : V), vs = [.ref p, v] ∧ StepsAt K C H p rl rw_ st s n ∧ SchOk s ∧ Dp K H v d.data ∧ d.lab = true ∧ d.dep < k ∧ n + d.size ≤ 90000 ∧
  ∀ H', Gr [rw_, st] H H' → StepsAt K C H' p rl rw_ st s (n + d.size) → Q (natV (setB s d)) H'
theorem test_nat (n : Nat) : ((n : Int) != 0) = decide (n ≠ 0) := by
  by_cases h : n = 0
  · subst h; rfl
  · rw [decide_eq_true h]
    simp only [bne_iff_ne, ne_eq]
    omega
section
variable {P : Program} {w : World} {K : PySem.W.Frag} {mg : Str → Option Value} {base : Heap} {f : Addr} {fd : FuncData} {C : Addr}
abbrev nAfter : List Str := ["self", "label", "inside", "rest", "asked", "found", "state", "wanted"]
end
end LW
set_option maxHeartbeats 2000000
namespace LW
open PySem PySem.Spec PyProof.Rows L2
theorem Doc.lab_at : ∀ (i : Nat) (d : Doc) (a : Int) (k : Doc), d.at i = some (a, k) → d.lab = true → 0 ≤ a ∧ a < 5 ∧ k.lab = true
  | _, .nil, _, _, h, _ => by simp [Doc.at] at h
  | 0, .cons b l r, a, k, h, hl => by
    simp only [Doc.at, Option.some.injEq, Prod.mk.injEq] at h
    obtain ⟨rfl, rfl⟩ := h
    simp only [Doc.lab, Bool.and_eq_true, decide_eq_true_eq] at hl
    exact ⟨hl.1.1.1, hl.1.1.2, hl.1.2⟩
  | i + 1, .cons b l r, a, k, h, hl => by
    simp only [Doc.lab, Bool.and_eq_true] at hl
    exact Doc.lab_at i r a k h hl.2
theorem Doc.dr_size : ∀ (i : Nat) (d : Doc), (d.dr i).size ≤ d.size
  | 0, d => by cases d <;> exact Nat.le_refl _
  | _ + 1, .nil => Nat.le_refl _
  | i + 1, .cons a k r => by
    have := Doc.dr_size i r
    show (r.dr i).size ≤ 1 + k.size + r.size
    omega
theorem Doc.dr_zero (d : Doc) : d.dr 0 = d := by cases d <;> rfl
theorem mask_sum (p : Nat → Bool) : ∀ n, (((List.range n).filter p).map (2 ^ ·)).sum = LB.mask p n
  | 0 => rfl
  | n + 1 => by
    rw [List.range_succ, List.filter_append, List.map_append, List.sum_append, mask_sum p n]
    show _ = LB.mask p n + if p n then 2 ^ n else 0
    cases h : p n <;> simp [List.filter, h]
def spSteps (K : PySem.W.Frag) (C : Addr) : Sp := fun vs H Q _ => ∃ (p dx : Addr) (v : V) (s : Sch), vs = [.ref p, v] ∧ H p = some (.ins C dx []) ∧ Dp K H v (schD s) ∧ SchOk s ∧
  ∀ H' rl rw_ st, Gr [p] H H' → StepsAt K C H' p rl rw_ st s 0 → H rw_ = none → H st = none → Q .non H'
section
variable {P : Program} {w : World} {K : PySem.W.Frag} {mg : Str → Option Value} {base : Heap} {f : Addr} {fd : FuncData} {C : Addr}
theorem ofDoc_none {k : Nat} {f : Addr} {fd : FuncData} : FnOk P w K mg base CX0 k f fd ["self", "d"] (spOfDoc K C 0) := by
  have no : ∀ vs H Q E, ¬ spOfDoc K C 0 vs H Q E := fun vs H Q E h => by
    obtain ⟨_, _, _, _, _, _, _, _, _, _, _, _, _, h, _⟩ := h
    exact absurd h (Nat.not_lt_zero _)
  exact ⟨fun vs H Q E h => absurd h (no vs H Q E), fun A outer s H args us vs Q E _ _ _ _ h => absurd h (no vs H Q E)⟩
end
end LW
set_option maxHeartbeats 2000000
namespace LW
open PySem PySem.Spec PyProof.Rows L2
theorem putP {f g : Str} {v x : V} {r : List (Str × V)} (h : ¬ g = f) : putF f v ((g, x) :: r) = (g, x) :: putF f v r := if_neg h
theorem putF_len (f : Str) (v : V) : ∀ r : List (Str × V), (putF f v r).length ≤ r.length + 1
  | [] => Nat.le_refl _
  | (g, x) :: r => by
    have ih := putF_len f v r
    by_cases h : g = f
    · rw [show putF f v ((g, x) :: r) = (g, v) :: r from if_pos h]
      exact Nat.le_succ _
    · rw [putP h]
      simp only [List.length_cons]
      omega
theorem put_all {s : Sch} {rl rw_ st : Addr} : putF "steps" (.ref st) (putF "rows" (.ref rw_) (putF "rules" (.ref rl) (putF "empty" (natV (emptyB s)) []))) = fsS s rl rw_ st := by
  show putF "steps" (.ref st) (putF "rows" (.ref rw_) (putF "rules" (.ref rl) [("empty", natV (emptyB s))])) = _
  rw [putP (by decide +kernel)]
  show putF "steps" (.ref st) (putF "rows" (.ref rw_) [("empty", natV (emptyB s)), ("rules", .ref rl)]) = _
  rw [putP (by decide +kernel), putP (by decide +kernel)]
  show putF "steps" (.ref st) [("empty", natV (emptyB s)), ("rules", .ref rl), ("rows", .ref rw_)] = _
  rw [putP (by decide +kernel), putP (by decide +kernel), putP (by decide +kernel)]
  rfl
def endsP (s : Sch) (q : Nat) : Bool := (s.getD q (false, [])).1
section
variable {P : Program} {w : World} {K : PySem.W.Frag} {mg : Str → Option Value} {base : Heap} {f : Addr} {fd : FuncData} {C : Addr}
abbrev nInit : List Str := ["self", "schema", "state", "ends", "_"]
end
end LW
set_option maxHeartbeats 2000000
namespace LW
open PySem PySem.Spec PyProof.Rows L2
theorem flat_nats (ns : List Nat) : (ns.map natV).all flatV = true := by
  rw [List.all_eq_true]
  intro x hx
  obtain ⟨n, _, rfl⟩ := List.mem_map.mp hx
  rfl
theorem inV_nats (q : Nat) (ns : List Nat) : inV (natV q) (ns.map natV) = ns.contains q := by
  unfold inV
  induction ns with
  | nil => rfl
  | cons n ns ih =>
    rw [List.map_cons, List.any_cons, ih, List.contains_cons]
    congr 1
    show ((n : Int) == (q : Int)) = (q == n)
    by_cases h : n = q
    · subst h; simp
    · have h1 : ((n : Int) == (q : Int)) = false := by simp; omega
      have h2 : (q == n) = false := by simp; omega
      rw [h1, h2]
/-- a class by its name, with its __init__ -/
structure Kl (P : Program) (w : World) (K : PySem.W.Frag) (mg : Str → Option Value) (base : Heap) (CX : CXT) (k : Nat) (C : Addr) (name : Str) (ps : List Str) (sp : Sp) : Prop where
  ex : ∃ f fd, FnOk P w K mg base CX k f fd ps sp ∧ Mk K C f ∧ mg name = some (.ref C) ∧ Binds K fd ps []
theorem Kl.mono {P : Program} {w : World} {K : PySem.W.Frag} {mg : Str → Option Value} {base : Heap} {CX : CXT} {j k : Nat} {C : Addr} {name : Str} {ps : List Str} {sp : Sp} (F : Kl P w K mg base CX j C name ps sp) (h : j ≤ k) : Kl P w K mg base CX k C name ps sp := by
  obtain ⟨f, fd, F, m, g, b⟩ := F.ex
  exact ⟨f, fd, F.mono h, m, g, b⟩
theorem pe_kl {X : Cx} {CX : CXT} {k : Nat} {C : Addr} {x : Str} {ps : List Str} {sp : Sp} {E : XK} {p pos : Pos} {e : Expr} {es : List Expr} {t : TA} (F : Kl X.prog X.w X.K X.mg X.base CX k C x ps sp) (hr : Room (k + 1) X.A) (hg : Gl X x) (hx : Passes CX X E) (ha : PA X (e :: es) t)
    (hdb : (x == ("__debug__" : Str)) = false := by decide) (he : starEach (e :: es) X.env = (false, eval e X.env) :: starEach es X.env := by rfl) (hpl : (backTo pos (starEach es X.env)).any (·.1) = false := by rfl) :
    PE X (.Call (.Name x p) (e :: es) [] pos) (tMake C sp [] E t) := by
  obtain ⟨f, fd, F, m, g, b⟩ := F.ex
  exact pe_make m F hr hg g b .nil hx ha hdb he hpl
def spSetOf (K : PySem.W.Frag) (T T1 T2 T3 : Addr) : Sp := fun vs H Q _ => ∃ (sv dv : V) (s : Sch) (d : Doc), vs = [sv, dv] ∧ Dp K H sv (schD s) ∧ SchOk s ∧ Dp K H dv d.data ∧ d.ok ∧ GxR.TabG H T ∧ GxR.TabG H T1 ∧ GxR.TabG H T2 ∧ GxR.TabG H T3 ∧
  ∀ H' p, Gr [] H H' → H p = none → H' p = some (.tup ((LB.mems (setB s d) s.length).map natV)) → Q (.ref p) H'
def spAllows (K : PySem.W.Frag) (T T1 T2 T3 : Addr) : Sp := fun vs H Q _ => ∃ (sv dv : V) (s : Sch) (d : Doc), vs = [sv, dv] ∧ Dp K H sv (schD s) ∧ SchOk s ∧ Dp K H dv d.data ∧ d.ok ∧ GxR.TabG H T ∧ GxR.TabG H T1 ∧ GxR.TabG H T2 ∧ GxR.TabG H T3 ∧
  ∀ H', Gr [] H H' → Q (.bl ((setB s d).testBit 0)) H'
section
variable {P : Program} {w : World} {K : PySem.W.Frag} {mg : Str → Option Value} {base : Heap} {f : Addr} {fd : FuncData} {C : Addr}
end
end LW
set_option maxHeartbeats 2000000
namespace LW
open PySem PySem.Spec PyProof.Rows L2
/-! ### a schema by the law's cells -/
theorem b_sorted : bootBuiltins "sorted" = some (.builtin "sorted") := by decide +kernel
def rlI (r : Rl) : List Int := [r.1, r.2.1, r.2.2]
theorem code3 (a x y : Int) : TS.code 64 [a, x, y] = a * 4096 + x * 64 + y := by
  have e2 : (64 : Int) ^ 2 = 4096 := by decide
  have e1 : (64 : Int) ^ 1 = 64 := by decide
  have e0 : (64 : Int) ^ 0 = 1 := by decide
  show a * 64 ^ 2 + (x * 64 ^ 1 + (y * 64 ^ 0 + 0)) = _
  rw [e2, e1, e0, Int.mul_one, Int.add_zero]
  omega
def rlLt (r t : Rl) : Prop := r.1 < t.1 ∨ (r.1 = t.1 ∧ (r.2.1 < t.2.1 ∨ (r.2.1 = t.2.1 ∧ r.2.2 < t.2.2)))
theorem code_lt {r t : Rl} (h : TS.code 64 (rlI r) ≤ TS.code 64 (rlI t)) (ne : r ≠ t) (b1 : r.2.1 < 64) (b2 : r.2.2 < 64) (b3 : t.2.1 < 64) (b4 : t.2.2 < 64) : rlLt r t := by
  obtain ⟨a, x, y⟩ := r
  obtain ⟨b, u, v⟩ := t
  unfold rlI at h
  rw [code3, code3] at h
  unfold rlLt
  simp only [ne_eq, Prod.mk.injEq] at ne b1 b2 b3 b4 ⊢ h
  by_cases h1 : a = b
  · subst h1
    by_cases h2 : x = u
    · subst h2
      have : y ≠ v := fun z => ne ⟨rfl, rfl, z⟩
      omega
    · omega
  · omega
theorem dataLt_rl {r t : Rl} (h : rlLt r t) : PySem.W.dataLt (rlD r) (rlD t) = true := by
  unfold rlD
  rw [PySem.W.dataLt_tuple]
  have al : ∀ i j : Int, PySem.W.alike (.int i) (.int j) = true := fun i j => by simp [PySem.W.alike]
  rcases h with h | ⟨h1, h | ⟨h2, h3⟩⟩
  · rw [PySem.W.dataLt_all_no (al _ _) (by simp [PyData.eqv]; omega), PySem.W.dataLt_int]
    exact decide_eq_true (by omega)
  · rw [h1, PySem.W.dataLt_all_yes (al _ _) (by simp [PyData.eqv]), PySem.W.dataLt_all_no (al _ _) (by simp [PyData.eqv]; omega), PySem.W.dataLt_int]
    exact decide_eq_true (by omega)
  · rw [h1, PySem.W.dataLt_all_yes (al _ _) (by simp [PyData.eqv]), h2, PySem.W.dataLt_all_yes (al _ _) (by simp [PyData.eqv]), PySem.W.dataLt_all_no (al _ _) (by simp [PyData.eqv]; omega), PySem.W.dataLt_int]
    exact decide_eq_true (by omega)
theorem risL_of : ∀ {rs : List Rl}, rs.Pairwise rlLt → risL (rs.map rlD) = true
  | [], _ => rfl
  | [_], _ => rfl
  | a :: b :: r, h => by
    rw [List.pairwise_cons] at h
    have ih := risL_of h.2
    show (PySem.W.dataLt (rlD a) (rlD b) && risL ((b :: r).map rlD)) = true
    rw [ih, dataLt_rl (h.1 b (List.mem_cons_self ..))]
    rfl
theorem eqv_rl (r t : Rl) : PyData.eqv (rlD r) (rlD t) = decide (r = t) := by
  obtain ⟨a, x, y⟩ := r
  obtain ⟨b, u, v⟩ := t
  unfold rlD
  rw [PyData.eqv, PyData.eqvAll, PyData.eqvAll, PyData.eqvAll, PyData.eqvAll, PyData.eqv, PyData.eqv, PyData.eqv]
  by_cases h1 : a = b <;> by_cases h2 : x = u <;> by_cases h3 : y = v <;> simp [h1, h2, h3] <;> omega
theorem paired_perm {α β : Type} {F : α → β → Prop} {xs ys : List α} (h : ys.Perm xs) : ∀ {ws : List β}, Paired F xs ws → ∃ us, us.Perm ws ∧ Paired F ys us := by
  induction h with
  | nil => exact fun p => ⟨_, List.Perm.refl _, p⟩
  | cons x _ ih =>
    intro ws p
    cases p with
    | cons h1 h2 =>
      obtain ⟨us, e1, e2⟩ := ih h2
      exact ⟨_, e1.cons _, .cons h1 e2⟩
  | swap x y l =>
    intro ws p
    cases p with
    | cons h1 h2 => cases h2 with
      | cons h3 h4 => exact ⟨_, List.Perm.swap .., .cons h3 (.cons h1 h4)⟩
  | trans _ _ ih1 ih2 =>
    intro ws p
    obtain ⟨us, e1, e2⟩ := ih2 p
    obtain ⟨us', e3, e4⟩ := ih1 e2
    exact ⟨us', e3.trans e1, e4⟩
theorem paired_getR {α β : Type} {F : α → β → Prop} : ∀ {xs : List α} {ws : List β} {i : Nat} {p : β}, Paired F xs ws → ws[i]? = some p → ∃ x, xs[i]? = some x ∧ F x p
  | _, _, _, _, .nil, h => by simp at h
  | _, _, 0, p, .cons h t, e => by simp at e; subst e; exact ⟨_, rfl, h⟩
  | _, _, i + 1, p, .cons h t, e => by
    obtain ⟨x, h1, h2⟩ := paired_getR t (show _ = some p by simpa using e)
    exact ⟨x, by simpa using h1, h2⟩
theorem paired_pairwise {α β : Type} {F : α → β → Prop} {R : α → α → Prop} {S : β → β → Prop} (k : ∀ a b c d, F a c → F b d → R a b → S c d) : ∀ {xs : List α} {ws : List β}, Paired F xs ws → xs.Pairwise R → ws.Pairwise S
  | _, _, .nil, _ => .nil
  | _, _, .cons h t, p => by
    rw [List.pairwise_cons] at p ⊢
    refine ⟨fun d hd => ?_, paired_pairwise k t p.2⟩
    obtain ⟨i, hi⟩ := List.getElem?_of_mem hd
    obtain ⟨x, hx, hF⟩ := paired_getR t hi
    exact k _ _ _ _ h hF (p.1 x (List.mem_of_getElem? hx))
def FRl (K : PySem.W.Frag) (H : Hp) (x : V) (r : Rl) : Prop := Dp K H x (rlD r)
theorem dpAll_paired {K : PySem.W.Frag} {H : Hp} : ∀ {xs : List V} {rs : List Rl}, DpAll K H xs (rs.map rlD) → Paired (FRl K H) xs rs
  | _, [], h => by cases h; exact .nil
  | _, r :: rs, h => by
    cases h with
    | cons h1 h2 => exact .cons h1 (dpAll_paired h2)
theorem paired_dpAll {K : PySem.W.Frag} {H : Hp} : ∀ {xs : List V} {rs : List Rl}, Paired (FRl K H) xs rs → DpAll K H xs (rs.map rlD)
  | _, _, .nil => .nil
  | _, _, .cons h t => .cons h (paired_dpAll t)
theorem FRl.tup {K : PySem.W.Frag} {H : Hp} {x : V} {r : Rl} (h : FRl K H x r) : TupI K H x (rlI r) := by
  obtain ⟨t, xs, rfl, hs, ha⟩ := Dp.tupI h
  obtain rfl := dpAll_ints3 ha
  exact ⟨t, rfl, hs⟩
end LW
set_option maxHeartbeats 4000000
namespace LW
open PySem PySem.Spec PyProof.Rows L2
def goodR (ls : List Int) (m : Nat) (r : Rl) : Prop := (r.1 : Int) ∈ ls ∧ r.2.1 < m ∧ r.2.2 < m
def goodS (ls : List Int) (m k : Nat) (st : Bool × List Rl) : Prop := (∀ r ∈ st.2, goodR ls m r) ∧ st.2.Pairwise rlLt ∧ st.2.length ≤ k
def spSchemaL (K : PySem.W.Frag) : Sp := fun vs H Q _ => ∃ (bx cl ll : Addr) (ls : List Int) (most rules : Nat), vs = [.ref bx, .ref ll, .int most, .int rules] ∧ BoxAt H bx cl ∧ H ll = some (.lst (ls.map V.int)) ∧ ll ≠ bx ∧ 0 < ls.length ∧ ls.length < 1073741824 ∧ (∀ x ∈ ls, 0 ≤ x ∧ x < 5) ∧ 1 ≤ most ∧ most ≤ 60 ∧ rules ≤ 30 ∧
  ∀ (s : Sch) (v : V) H', SchOk s → s.length ≤ most → (∀ st ∈ s, goodS ls s.length rules st) → Gr [bx] H H' → BoxAt H' bx cl → Dp K H' v (schD s) → Q v H'
theorem sum_le {l : List Nat} {k : Nat} (h : ∀ x ∈ l, x ≤ k) : l.sum ≤ l.length * k := by
  induction l with
  | nil => simp
  | cons x l ih =>
    rw [List.sum_cons, List.length_cons, Nat.succ_mul]
    have h1 := h x (List.mem_cons_self ..)
    have h2 := ih fun y hy => h y (List.mem_cons_of_mem _ hy)
    omega
theorem good_ok {ls : List Int} {s : Sch} {k : Nat} (h : ∀ st ∈ s, goodS ls s.length k st) (hl : ∀ x ∈ ls, 0 ≤ x ∧ x < 5) (h1 : 1 ≤ s.length) (h2 : s.length ≤ 60) (h3 : k ≤ 30) : SchOk s := by
  refine ⟨h1, h2, fun st hst r hr => ?_, fun st hst => risL_of (h st hst).2.1, ?_⟩
  · obtain ⟨a, b, c⟩ := (h st hst).1 r hr
    have := hl _ a
    exact ⟨by omega, b, c⟩
  · refine Nat.le_trans (sum_le (k := 30) fun x hx => ?_) (by rw [List.length_map]; omega)
    obtain ⟨st, hst, rfl⟩ := List.mem_map.mp hx
    exact Nat.le_trans (h st hst).2.2 h3
theorem pure_rls : ∀ l : List Rl, pureAll (l.map rlD) = true
  | [] => rfl
  | p :: l => by simp [pureAll, pure1, rlD, pure_rls l]
theorem pure_sts : ∀ l : List (Bool × List Rl), pureAll (l.map stD) = true
  | [] => rfl
  | p :: l => by simp [pureAll, pure1, stD, pure_rls p.2, pure_sts l]
theorem any_rl (r : Rl) : ∀ rs : List Rl, ((rs.map rlD).any fun z => PyData.eqv z (rlD r)) = decide (r ∈ rs)
  | [] => rfl
  | t :: rs => by
    rw [List.map_cons, List.any_cons, any_rl r rs, eqv_rl]
    by_cases h : t = r
    · subst h; simp
    · rw [decide_eq_false h, Bool.false_or]
      by_cases h2 : r ∈ rs
      · rw [decide_eq_true h2, decide_eq_true (List.mem_cons_of_mem _ h2)]
      · rw [decide_eq_false h2, decide_eq_false (by rw [List.mem_cons, not_or]; exact ⟨fun z => h z.symm, h2⟩)]
theorem shaped_rl (r : Rl) : SeqAt.shaped (rlD r) = true := by
  unfold SeqAt.shaped rlD
  simp [PyData.canLay0, PyData.canLayAll0, PyData.depth, PyData.depthAll]
theorem shaped_rls (rs : List Rl) : SeqAt.shaped (.list (rs.map rlD)) = true := by
  have h1 : PyData.canLayAll0 (rs.map rlD) = true := by
    induction rs with
    | nil => rfl
    | cons r rs ih => simp [PyData.canLayAll0, PyData.canLay0, rlD, ih]
  have h2 : PyData.depthAll (rs.map rlD) ≤ 1 := by
    induction rs with
    | nil => simp [PyData.depthAll]
    | cons r rs ih =>
      have := ih (by simp [PyData.canLayAll0, rlD, PyData.canLay0] at h1; exact h1)
      simp only [List.map_cons, PyData.depthAll, rlD, PyData.depth] at this ⊢
      omega
  unfold SeqAt.shaped
  rw [PyData.canLay0, h1, PyData.depth, Bool.true_and]
  exact decide_eq_true (by omega)
section
variable {P : Program} {w : World} {K : PySem.W.Frag} {mg : Str → Option Value} {base : Heap} {f : Addr} {fd : FuncData}
abbrev nSchL : List Str := ["box", "labels", "most", "rules", "many", "states", "q", "found", "k", "rule"]
end
end LW
set_option maxHeartbeats 4000000
namespace LW
open PySem PySem.Spec PyProof.Rows L2
/-! ### the law's sets of states -/
def hitB (a : Nat) (ks rs : List Nat) (r : Rl) : Bool := decide (r.1 = a) && (ks.contains r.2.1 && rs.contains r.2.2)
def behP (s : Sch) (a : Nat) (ks rs : List Nat) (q : Nat) : Bool := (s.getD q (false, [])).2.any (hitB a ks rs)
def behL (s : Sch) (a : Nat) (ks rs : List Nat) : List Nat := (List.range s.length).filter (behP s a ks rs)
def spBehind (K : PySem.W.Frag) : Sp := fun vs H Q _ => ∃ (sv : V) (s : Sch) (a : Nat) (kp rp : Addr) (ks rs : List Nat), vs = [sv, natV a, .ref kp, .ref rp] ∧ Dp K H sv (schD s) ∧ SchOk s ∧ SqT K H kp (ks.map natV) ∧ SqT K H rp (rs.map natV) ∧
  ∀ H' p, Gr [] H H' → H p = none → H' p = some (.tup ((behL s a ks rs).map natV)) → Q (.ref p) H'
def spEmpty (K : PySem.W.Frag) : Sp := fun vs H Q _ => ∃ (sv : V) (s : Sch), vs = [sv] ∧ Dp K H sv (schD s) ∧ SchOk s ∧ ∀ H' p, Gr [] H H' → H p = none → H' p = some (.tup (((List.range s.length).filter (endsP s)).map natV)) → Q (.ref p) H'
/-- a state of a schema on the heap -/
theorem sch_at {K : PySem.W.Frag} {H : Hp} {vs : List V} {s : Sch} {i : Nat} {st : Bool × List Rl} (h : DpAll K H vs (s.map stD)) (e : s[i]? = some st) : ∃ tp rp rv, vs[i]? = some (.ref tp) ∧ SqT K H tp [.bl st.1, .ref rp] ∧ SqT K H rp rv ∧ DpAll K H rv (st.2.map rlD) := by
  obtain ⟨x, hx, hxd⟩ := h.at (i := i) (d := stD st) (by rw [List.getElem?_map, e]; rfl)
  obtain ⟨tp, xs', rfl, hst, hal⟩ := hxd.tupI
  obtain ⟨p1, p2, rfl, h1, h2⟩ := dpAll_two hal
  cases h1
  obtain ⟨rp, rv, rfl, hsr, hra⟩ := h2.tupI
  exact ⟨tp, rp, rv, hx, hst, hsr, hra⟩
theorem decide_nat (a b : Nat) : decide (V.int (a : Int) = V.int (b : Int)) = decide (a = b) := by
  by_cases h : a = b
  · subst h; rw [decide_eq_true rfl, decide_eq_true rfl]
  · rw [decide_eq_false h, decide_eq_false fun z => h (by have := V.int.inj z; omega)]
section
variable {P : Program} {w : World} {K : PySem.W.Frag} {mg : Str → Option Value} {base : Heap} {f : Addr} {fd : FuncData}
abbrev nBeh : List Str := ["s", "label", "kids", "rest", "out", "q", "a", "x", "y"]
end
end LW
set_option maxHeartbeats 4000000
namespace LW
open PySem PySem.Spec PyProof.Rows L2
theorem mems_contains {b n q : Nat} : (LB.mems b n).contains q = (decide (q < n) && b.testBit q) := by
  unfold LB.mems
  rw [Bool.eq_iff_iff]
  simp
theorem behL_mems {s : Sch} (hok : SchOk s) (a b1 b2 : Nat) : behL s a (LB.mems b1 s.length) (LB.mems b2 s.length) = LB.mems (afterB s a b1 b2) s.length := by
  unfold behL
  show _ = (List.range s.length).filter _
  refine List.filter_congr fun q hq => ?_
  have hq' := List.mem_range.mp hq
  rw [Bool.eq_iff_iff, afterB_bit]
  unfold behP
  rw [List.getD_eq_getElem?_getD, List.getElem?_eq_getElem hq']
  show (s[q].2.any _ = true) ↔ _
  rw [List.any_eq_true]
  constructor
  · rintro ⟨r, hr, h⟩
    unfold hitB at h
    rw [Bool.and_eq_true, Bool.and_eq_true, mems_contains, mems_contains, Bool.and_eq_true, Bool.and_eq_true, decide_eq_true_eq] at h
    exact ⟨_, rfl, r, hr, h.1, h.2.1.2, h.2.2.2⟩
  · rintro ⟨st, e, r, hr, h1, h2, h3⟩
    cases e
    obtain ⟨_, c2, c3⟩ := hok.rules _ (List.getElem_mem hq') r hr
    refine ⟨r, hr, ?_⟩
    unfold hitB
    rw [mems_contains, mems_contains, decide_eq_true h1, decide_eq_true c2, decide_eq_true c3, h2, h3]
    rfl
theorem empty_mems (s : Sch) : (List.range s.length).filter (endsP s) = LB.mems (emptyB s) s.length := by
  show _ = (List.range s.length).filter _
  refine List.filter_congr fun q hq => ?_
  have hq' := List.mem_range.mp hq
  unfold emptyB
  rw [LB.mask_bit, decide_eq_true hq', Bool.true_and]
  rfl
def spSetL (K : PySem.W.Frag) (k : Nat) : Sp := fun vs H Q _ => ∃ (sv dv : V) (s : Sch) (d : Doc), vs = [sv, dv] ∧ Dp K H sv (schD s) ∧ SchOk s ∧ Dp K H dv d.data ∧ d.lab = true ∧ d.dep < k ∧ d.size ≤ 1000 ∧
  ∀ H' p, Gr [] H H' → H' p = some (.tup ((LB.mems (setB s d) s.length).map natV)) → Q (.ref p) H'
section
variable {P : Program} {w : World} {K : PySem.W.Frag} {mg : Str → Option Value} {base : Heap} {f : Addr} {fd : FuncData}
theorem setL_none {k : Nat} {f : Addr} {fd : FuncData} : FnOk P w K mg base CX0 k f fd ["s", "d"] (spSetL K 0) := by
  have no : ∀ vs H Q E, ¬ spSetL K 0 vs H Q E := fun vs H Q E h => by
    obtain ⟨_, _, _, _, _, _, _, _, _, h, _⟩ := h
    exact absurd h (Nat.not_lt_zero _)
  exact ⟨fun vs H Q E h => absurd h (no vs H Q E), fun A outer s H args us vs Q E _ _ _ _ h => absurd h (no vs H Q E)⟩
end
end LW
set_option maxHeartbeats 4000000
namespace LW
open PySem PySem.Spec PyProof.Rows L2
def hitD (s : Sch) (a : Nat) (k r : Doc) (x : Rl) : Bool := decide (x.1 = a) && ((setB s k).testBit x.2.1 && (setB s r).testBit x.2.2)
theorem setB_cons {s : Sch} {q : Nat} {st : Bool × List Rl} (e : s[q]? = some st) (a : Nat) (k r : Doc) : (setB s (.cons (a : Int) k r)).testBit q = st.2.any (hitD s a k r) := by
  rw [Bool.eq_iff_iff]
  show ((afterB s ((a : Int)).toNat (setB s k) (setB s r)).testBit q = true) ↔ _
  rw [Int.toNat_natCast, afterB_bit, List.any_eq_true]
  constructor
  · rintro ⟨st', e', x, hx, h1, h2, h3⟩
    rw [e] at e'
    cases e'
    exact ⟨x, hx, by unfold hitD; rw [decide_eq_true h1, h2, h3]; rfl⟩
  · rintro ⟨x, hx, h⟩
    unfold hitD at h
    rw [Bool.and_eq_true, Bool.and_eq_true, decide_eq_true_eq] at h
    exact ⟨st, e, x, hx, h.1, h.2.1, h.2.2⟩
theorem setB_nil {s : Sch} {q : Nat} {st : Bool × List Rl} (e : s[q]? = some st) : (setB s .nil).testBit q = st.1 := by
  rw [Bool.eq_iff_iff]
  show ((emptyB s).testBit q = true) ↔ _
  rw [emptyB_bit]
  constructor
  · rintro ⟨st', e', h⟩
    rw [e] at e'
    cases e'
    exact h
  · exact fun h => ⟨st, e, h⟩
def spAllowsL (K : PySem.W.Frag) (k : Nat) : Sp := fun vs H Q _ => ∃ (sv dv : V) (s : Sch) (q : Nat) (d : Doc), vs = [sv, natV q, dv] ∧ Dp K H sv (schD s) ∧ SchOk s ∧ q < s.length ∧ Dp K H dv d.data ∧ d.lab = true ∧ d.size < k ∧
  ∀ H', Gr [] H H' → Q (.bl ((setB s d).testBit q)) H'
section
variable {P : Program} {w : World} {K : PySem.W.Frag} {mg : Str → Option Value} {base : Heap} {f : Addr} {fd : FuncData}
abbrev nAllL : List Str := ["s", "q", "d", "label", "inside", "after"]
theorem allL_none {k : Nat} {f : Addr} {fd : FuncData} : FnOk P w K mg base CX0 k f fd ["s", "q", "d"] (spAllowsL K 0) := by
  have no : ∀ vs H Q E, ¬ spAllowsL K 0 vs H Q E := fun vs H Q E h => by
    obtain ⟨_, _, _, _, _, _, _, _, _, _, _, h, _⟩ := h
    exact absurd h (Nat.not_lt_zero _)
  exact ⟨fun vs H Q E h => absurd h (no vs H Q E), fun A outer s H args us vs Q E _ _ _ _ h => absurd h (no vs H Q E)⟩
end
end LW
set_option maxHeartbeats 4000000
namespace LW
open PySem PySem.Spec PyProof.Rows L2
def spPickT (K : PySem.W.Frag) : Sp := fun vs H Q _ => ∃ (bx cl mp : Addr) (xs : List V), vs = [.ref bx, .ref mp] ∧ SqT K H mp xs ∧ 0 < xs.length ∧ xs.length < 1073741824 ∧ BoxAt H bx cl ∧ ∀ (t : V) (i : Nat) H', xs[i]? = some t → Gr [bx] H H' → BoxAt H' bx cl → Q t H'
/-- nothing, or a document that the state allows -/
def Grown (K : PySem.W.Frag) (s : Sch) (q left deep : Nat) (H : Hp) (v : V) : Prop := v = .non ∨ ∃ d : Doc, Dp K H v d.data ∧ d.lab = true ∧ d.size + 1 ≤ 2 ^ left ∧ d.dep ≤ deep ∧ (setB s d).testBit q = true
def spByRules (K : PySem.W.Frag) (k : Nat) : Sp := fun vs H Q _ => ∃ (bx cl : Addr) (sv : V) (s : Sch) (q left deep : Nat), vs = [.ref bx, sv, natV q, natV left, natV deep] ∧ BoxAt H bx cl ∧ Dp K H sv (schD s) ∧ SchOk s ∧ q < s.length ∧ left < k ∧ left ≤ 12 ∧ 1 ≤ deep ∧ deep ≤ 20 ∧
  ∀ (v : V) H', Grown K s q left deep H' v → Gr [bx] H H' → BoxAt H' bx cl → Q v H'
theorem pure_sch (s : Sch) : pure1 (schD s) = true := pure_sts s
section
variable {P : Program} {w : World} {K : PySem.W.Frag} {mg : Str → Option Value} {base : Heap} {f : Addr} {fd : FuncData}
abbrev nByR : List Str := ["box", "s", "q", "left", "deep", "ends", "rules", "label", "inside", "after", "kids", "rest"]
theorem byR_none {k : Nat} {f : Addr} {fd : FuncData} : FnOk P w K mg base CX0 k f fd ["box", "s", "q", "left", "deep"] (spByRules K 0) := by
  have no : ∀ vs H Q E, ¬ spByRules K 0 vs H Q E := fun vs H Q E h => by
    obtain ⟨_, _, _, _, _, _, _, _, _, _, _, _, h, _⟩ := h
    exact absurd h (Nat.not_lt_zero _)
  exact ⟨fun vs H Q E h => absurd h (no vs H Q E), fun A outer s H args us vs Q E _ _ _ _ h => absurd h (no vs H Q E)⟩
end
end LW
set_option maxHeartbeats 4000000
namespace LW
open PySem PySem.Spec PyProof.Rows L2
def rModN : R2 := fun x y H Q => ∃ a b : Nat, x = .int (a : Int) ∧ y = .int (b : Int) ∧ 0 < b ∧ Q (.int ((a % b : Nat) : Int)) H
theorem op_modN {X : Cx} : OpR X (binaryOp .Mod) rModN := by
  intro pins s σ H x y v u Q I rx ry h
  obtain ⟨a, b, e1, e2, hb, q⟩ := h
  exact op_mod pins s σ H x y v u Q I rx ry ⟨a, b, e1, e2, by omega, q⟩
/-! ### rings, rows and towers -/
def ringSt (p k : Nat) : Bool × List Rl := (decide (k = 0), [(1, 0, (k + 1) % p), (2, (k + 1) % p, 0)])
def ringS (p : Nat) : Sch := (List.range p).map (ringSt p)
def rowD : Nat → Doc
  | 0 => .nil
  | m + 1 => .cons 1 .nil (rowD m)
def towD : Nat → Doc
  | 0 => .nil
  | m + 1 => .cons 2 (towD m) .nil
theorem ringS_len (p : Nat) : (ringS p).length = p := by simp [ringS]
theorem ringS_at {p q : Nat} (h : q < p) : (ringS p)[q]? = some (ringSt p q) := by simp [ringS, h]
theorem ring_ok {p : Nat} (h1 : 2 ≤ p) (h2 : p ≤ 60) : SchOk (ringS p) := by
  refine ⟨by rw [ringS_len]; omega, by rw [ringS_len]; exact h2, fun st hst r hr => ?_, fun st hst => ?_, ?_⟩
  · obtain ⟨k, hk, rfl⟩ := List.mem_map.mp hst
    rw [ringS_len]
    have hm : (k + 1) % p < p := Nat.mod_lt _ (by omega)
    rcases List.mem_cons.mp hr with rfl | hr
    · exact ⟨(by decide : (1 : Nat) < 5), by show 0 < p; omega, hm⟩
    · rw [List.mem_singleton.mp hr]
      exact ⟨(by decide : (2 : Nat) < 5), hm, by show 0 < p; omega⟩
  · obtain ⟨k, hk, rfl⟩ := List.mem_map.mp hst
    refine risL_of ?_
    unfold ringSt
    rw [List.pairwise_cons]
    exact ⟨fun t ht => by rw [List.mem_singleton.mp ht]; exact .inl (by decide : (1 : Nat) < 2), List.pairwise_singleton _ _⟩
  · refine Nat.le_trans (sum_le (k := 2) fun x hx => ?_) (by rw [List.length_map, ringS_len]; omega)
    obtain ⟨st, hst, rfl⟩ := List.mem_map.mp hx
    obtain ⟨k, hk, rfl⟩ := List.mem_map.mp hst
    exact Nat.le_refl _
theorem mod_zero {p q : Nat} (h : q < p) : (q = 0) ↔ (q % p = 0) := by rw [Nat.mod_eq_of_lt h]
theorem row_bit {p : Nat} (h1 : 2 ≤ p) : ∀ (m q : Nat), q < p → (setB (ringS p) (rowD m)).testBit q = decide ((q + m) % p = 0)
  | 0, q, h => by
    rw [show rowD 0 = Doc.nil from rfl, setB_nil (ringS_at h)]
    show decide (q = 0) = decide ((q + 0) % p = 0)
    rw [Nat.add_zero, Nat.mod_eq_of_lt h]
  | m + 1, q, h => by
    rw [show rowD (m + 1) = Doc.cons ((1 : Nat) : Int) .nil (rowD m) from rfl, setB_cons (ringS_at h)]
    have hm : (q + 1) % p < p := Nat.mod_lt _ (by omega)
    have ih := row_bit h1 m _ hm
    have z : (setB (ringS p) .nil).testBit 0 = true := by rw [setB_nil (ringS_at (show 0 < p by omega))]; rfl
    show (hitD _ 1 _ _ (1, 0, (q + 1) % p) || (hitD _ 1 _ _ (2, (q + 1) % p, 0) || false)) = _
    have e1 : hitD (ringS p) 1 .nil (rowD m) (1, 0, (q + 1) % p) = decide ((q + (m + 1)) % p = 0) := by
      show (true && ((setB (ringS p) .nil).testBit 0 && (setB (ringS p) (rowD m)).testBit ((q + 1) % p))) = _
      rw [z, ih, Bool.true_and, Bool.true_and, Nat.mod_add_mod, show q + 1 + m = q + (m + 1) by omega]
    have e2 : hitD (ringS p) 1 .nil (rowD m) (2, (q + 1) % p, 0) = false := rfl
    rw [e1, e2]
    simp
theorem tow_bit {p : Nat} (h1 : 2 ≤ p) : ∀ (m q : Nat), q < p → (setB (ringS p) (towD m)).testBit q = decide ((q + m) % p = 0)
  | 0, q, h => by
    rw [show towD 0 = Doc.nil from rfl, setB_nil (ringS_at h)]
    show decide (q = 0) = decide ((q + 0) % p = 0)
    rw [Nat.add_zero, Nat.mod_eq_of_lt h]
  | m + 1, q, h => by
    rw [show towD (m + 1) = Doc.cons ((2 : Nat) : Int) (towD m) .nil from rfl, setB_cons (ringS_at h)]
    have hm : (q + 1) % p < p := Nat.mod_lt _ (by omega)
    have ih := tow_bit h1 m _ hm
    have z : (setB (ringS p) .nil).testBit 0 = true := by rw [setB_nil (ringS_at (show 0 < p by omega))]; rfl
    show (hitD _ 2 _ _ (1, 0, (q + 1) % p) || (hitD _ 2 _ _ (2, (q + 1) % p, 0) || false)) = _
    have e1 : hitD (ringS p) 2 (towD m) .nil (2, (q + 1) % p, 0) = decide ((q + (m + 1)) % p = 0) := by
      show (true && ((setB (ringS p) (towD m)).testBit ((q + 1) % p) && (setB (ringS p) .nil).testBit 0)) = _
      rw [z, ih, Bool.true_and, Bool.and_true, Nat.mod_add_mod, show q + 1 + m = q + (m + 1) by omega]
    have e2 : hitD (ringS p) 2 (towD m) .nil (1, 0, (q + 1) % p) = false := rfl
    rw [e1, e2]
    simp
def modL (p m n : Nat) : List Nat := (List.range n).filter fun q => decide ((q + m) % p = 0)
theorem row_mems {p : Nat} (h1 : 2 ≤ p) (m : Nat) : LB.mems (setB (ringS p) (rowD m)) (ringS p).length = modL p m p := by
  rw [ringS_len]
  exact List.filter_congr fun q hq => row_bit h1 m q (List.mem_range.mp hq)
theorem tow_mems {p : Nat} (h1 : 2 ≤ p) (m : Nat) : LB.mems (setB (ringS p) (towD m)) (ringS p).length = modL p m p := by
  rw [ringS_len]
  exact List.filter_congr fun q hq => tow_bit h1 m q (List.mem_range.mp hq)
theorem rowD_ok : ∀ m, (rowD m).lab = true ∧ (rowD m).size = m ∧ (rowD m).dep ≤ 1
  | 0 => ⟨rfl, rfl, Nat.zero_le _⟩
  | m + 1 => by
    obtain ⟨h1, h2, h3⟩ := rowD_ok m
    refine ⟨by simp [rowD, Doc.lab, h1], by simp only [rowD, Doc.size, h2]; omega, by simp only [rowD, Doc.dep]; omega⟩
theorem towD_ok : ∀ m, (towD m).lab = true ∧ (towD m).size = m ∧ (towD m).dep = m
  | 0 => ⟨rfl, rfl, rfl⟩
  | m + 1 => by
    obtain ⟨h1, h2, h3⟩ := towD_ok m
    refine ⟨by simp [towD, Doc.lab, h1], by simp only [towD, Doc.size, h2]; omega, by simp only [towD, Doc.dep, h3]; omega⟩
theorem row_dp {K : PySem.W.Frag} {H : Hp} {v : V} (h : Dp K H v (.tuple [.int 1, .tuple []])) : ∀ m, DpAll K H (List.replicate m v) (rowD m).ts
  | 0 => .nil
  | m + 1 => .cons h (row_dp h m)
def natsD (ns : List Nat) : PyData := .tuple (ns.map fun n : Nat => .int (n : Int))
theorem dp_nats {K : PySem.W.Frag} {H : Hp} {a : Addr} {ns : List Nat} (h : SqT K H a (ns.map natV)) : Dp K H (.ref a) (natsD ns) := by
  refine .tup h ?_
  clear h
  induction ns with
  | nil => exact .nil
  | cons n ns ih => exact .cons (.int _) ih
theorem shaped_nats (ns : List Nat) : SeqAt.shaped (natsD ns) = true := by
  have h1 : PyData.canLayAll0 (ns.map fun n : Nat => PyData.int (n : Int)) = true := by
    induction ns with
    | nil => rfl
    | cons n ns ih => simp [PyData.canLayAll0, PyData.canLay0, ih]
  have h2 : PyData.depthAll (ns.map fun n : Nat => PyData.int (n : Int)) = 0 := by
    clear h1
    induction ns with
    | nil => rfl
    | cons n ns ih => simp [PyData.depthAll, PyData.depth, ih]
  unfold SeqAt.shaped natsD
  rw [PyData.canLay0, h1, PyData.depth, h2]
  rfl
theorem eqv_nats : ∀ ns ms : List Nat, PyData.eqv (natsD ns) (natsD ms) = decide (ns = ms)
  | ns, ms => by
    unfold natsD
    rw [PyData.eqv]
    induction ns generalizing ms with
    | nil => cases ms <;> simp [PyData.eqvAll]
    | cons n ns ih =>
      cases ms with
      | nil => simp [PyData.eqvAll]
      | cons m ms =>
        rw [List.map_cons, List.map_cons, PyData.eqvAll, ih ms, PyData.eqv]
        by_cases h1 : n = m <;> by_cases h2 : ns = ms <;> simp [h1, h2] <;> omega
end LW
set_option maxHeartbeats 4000000
namespace LW
open PySem PySem.Spec PyProof.Rows L2
theorem flat_rep {α : Type} (x : α) : ∀ n : Nat, (List.replicate n [x]).flatten = List.replicate n x
  | 0 => rfl
  | n + 1 => by rw [List.replicate_succ, List.flatten_cons, flat_rep x n, List.replicate_succ]; rfl
structure Tb4 (H : Hp) (T T1 T2 T3 : Addr) : Prop where
  a : GxR.TabG H T
  b : GxR.TabG H T1
  c : GxR.TabG H T2
  d : GxR.TabG H T3
theorem Tb4.gr {H H' : Hp} {T T1 T2 T3 : Addr} {m : List Addr} (t : Tb4 H T T1 T2 T3) (g : Gr m H H') : Tb4 H' T T1 T2 T3 := ⟨g.tab _ t.a, g.tab _ t.b, g.tab _ t.c, g.tab _ t.d⟩
def spLarge (T T1 T2 T3 : Addr) : Sp := fun vs H Q _ => ∃ (bx cl : Addr), vs = [.ref bx] ∧ BoxAt H bx cl ∧ Tb4 H T T1 T2 T3 ∧ ∀ H', Gr [bx] H H' → BoxAt H' bx cl → Q (.bl true) H'
section
variable {P : Program} {w : World} {K : PySem.W.Frag} {mg : Str → Option Value} {base : Heap} {f : Addr} {fd : FuncData}
abbrev nLarge : List Str := ["box", "many", "deep", "period", "ring", "k", "tower", "row", "q"]
end
end LW
set_option maxHeartbeats 2000000
/-! repr of data, where nothing is being shown; a def whose promise is asked at one place -/
namespace LW
open PySem PySem.Spec PyProof.Rows L2
mutual
theorem dp_noDict {K : PySem.W.Frag} {H : Hp} : ∀ (d : PyData) (v : V), Dp K H v d → d.hasDict = false
  | .none, _, _ => rfl
  | .bool _, _, _ => rfl
  | .int _, _, _ => rfl
  | .str _, _, _ => rfl
  | .list ds, _, h => by
    cases h with
    | lst hs ha => exact dpAll_noDict ds _ ha
  | .tuple ds, _, h => by
    cases h with
    | tup hs ha => exact dpAll_noDict ds _ ha
  | .dict _, _, h => by cases h
theorem dpAll_noDict {K : PySem.W.Frag} {H : Hp} : ∀ (ds : List PyData) (vs : List V), DpAll K H vs ds → PyData.hasDictAll ds = false
  | [], _, _ => rfl
  | d :: ds, _, h => by
    cases h with
    | cons h1 h2 =>
      show (d.hasDict || PyData.hasDictAll ds) = false
      rw [dp_noDict d _ h1, dpAll_noDict ds _ h2]
      rfl
end
def rRepr (K : PySem.W.Frag) : List V → Hp → VK → Prop := fun xs H Q => ∃ (d : PyData) (v : V), xs = [v] ∧ Dp K H v d ∧ d.showable = true ∧ d.depth ≤ 64 ∧ d.shown.length ≤ sizeLine ∧ (∀ x, d ≠ .str x) ∧ Q (.str d.shown) H
theorem call_reprD {X : Cx} (hg : X.A.guards = some []) (hu : X.A.units + 66 < cLine) : CallR X (.builtin "repr") (rRepr X.K) := by
  intro pins s σ H xs us Q I r h
  obtain ⟨d, v, rfl, hd, hs, hdep, hsz, hns, q⟩ := h
  obtain ⟨u, rfl, ru⟩ := vals1 r
  have nd := dp_noDict d v hd
  obtain ⟨as, rd⟩ := Dp.reads I d v u hd ru
  have deep : ∀ a : Addr, u = .ref a → wpAny (model X.prog X.w) X.A (call (.builtin "repr") [u]) (EP X pins σ Q) X.xe s := fun a e => by
    subst e
    refine repr_of_reads' rd hs (fun z => by rw [nd] at z; cases z) hg (by omega) (fun b o e => e) (fun h' t tk hk => ?_) hsz
    exact ⟨.str d.shown, H, I.kept (t' := tk) hk, ⟨_, rfl⟩, q⟩
  cases hd with
  | non =>
    obtain rfl : u = .none := ru
    exact PySem.P.repr_of_none ⟨.str _, H, I.tok _, ⟨_, rfl⟩, q⟩
  | bl b =>
    obtain rfl : u = .bool b := ru
    exact PySem.P.repr_of_bool ⟨.str _, H, I.tok _, ⟨_, rfl⟩, q⟩
  | int i =>
    obtain ⟨t, rfl⟩ := ru
    exact PySem.P.repr_of_int (of_decide_eq_true hs) ⟨.str _, H, I.tok _, ⟨_, rfl⟩, q⟩
  | str x => exact absurd rfl (hns x)
  | lst h1 h2 => exact deep _ ru
  | tup h1 h2 => exact deep _ ru
end LW
set_option maxHeartbeats 2000000
namespace LW
open PySem PySem.Spec PyProof.Rows L2
/-- a def's promise where it is called from A -/
structure FnAt (P : Program) (w : World) (K : PySem.W.Frag) (mg : Str → Option Value) (base : Heap) (CX : CXT) (A : Around) (f : Addr) (fd : FuncData) (ps : List Str) (sp : Sp) : Prop where
  run : ∀ (out : List Env) (s : Shared) (H : Hp) (args : Args) (us : List Value) (vs : List V) (Q : VK) (E : XK), Env0 P w K mg base A out s H → BindsTo s fd args (ps.zip us) → Vals vs us → sp vs H Q E → codeAny (model P w) A (.call (.ref f) args) (CR CX out P w H s Q E) s
theorem fn_at {CX : CXT} {P : Program} {w : World} {K : PySem.W.Frag} {mg : Str → Option Value} {base : Heap} {k : Nat} {f : Addr} {nm ql : Str} {pms : Arguments} {bd : List Stmt} {sc : Scope} {dV kV doc pm cdv ct oc : Value} {an od : Option Addr} {osl : Array (Option Value)} {N ps : List Str} {sp : Sp} {A : Around} (hr : Room (k + 1) A)
    (lk : K.lookup f = some ⟨oc, od, .func (PySem.W.fnOf nm ql pms bd sc dV kV doc pm an cdv ct), osl⟩) (hc : PySem.W.codeIn K cdv ql = true) (S : FnScope N ps sc) (len : ∀ vs H Q E, sp vs H Q E → vs.length = ps.length)
    (hb : ∀ (out : List Env) (s : Shared) (H : Hp) (vs : List V) (Q : VK) (E : XK), sp vs H Q E → ∃ t, PSs (cxOf CX P w K mg base N ql sc f cdv A out s H E) bd t ∧ t { nx := fun _ H' => Q .non H', rt := Q } (start N vs) H) :
    FnAt P w K mg base CX A f (PySem.W.fnOf nm ql pms bd sc dV kV doc pm an cdv ct) ps sp := by
  refine ⟨fun out s H args us vs Q E e0 bt r hsp => ?_⟩
  have ln := len _ _ _ _ hsp
  have kX : K.In s.heap := e0.mod.kin.keeps fun b o e => (e0.bs b o e).1
  have noL : s.heap.NoLimit := e0.mod.nolimit.keeps fun b o e => (e0.bs b o e).1
  have kinds : ∀ y ∈ ps.zip us, sc.names.lookup y.1 = some .local ∨ (sc.names.lookup y.1 = some .cell ∧ ((cellsFrom (s.heap.objs.size + 1) sc.names []).lookup y.1).isSome = true) := fun ⟨n, v⟩ hy =>
    (S.par n (List.of_mem_zip hy).1).elim .inl fun z => .inr ⟨z, PySem.W.cellsFrom_some _ _ _ (.inl z)⟩
  refine codeAny_call_function hr.depth (kX _ _ lk) rfl S.co S.gen rfl (PySem.W.codeRec_of kX hc) (bt _ _ _ _ ?_)
  refine wpAny_newFunctionEnv_cells S.kind kinds fun env henv s1 y => ?_
  subst henv
  refine ⟨noL.keeps y.toInCall.keep, codeAny_func ?_⟩
  obtain ⟨t, pt, qt⟩ := hb out s H vs Q E hsp
  have inv0 : Inv (cxOf CX P w K mg base N ql sc f cdv A out s H E) [] (start N vs) H s1 := inv_start S hr.hd e0 ln r y
  refine wpAny_mono (pt.run [] s1 (start N vs) H _ inv0 qt) (fun fl s2 hs => ?_) fun e s2 hs => hs
  have done : ∀ {σ2 : L2.St} {H2 : Hp} {v : V} {u : Value}, Inv (cxOf CX P w K mg base N ql sc f cdv A out s H E) [] σ2 H2 s2 → RelV v u → Q v H2 → CE out P w H s Q u s2 := fun {σ2 H2 v u} J rv q => ⟨v, H2, J.os, J.bare, J.base, J.hok, rv, q⟩
  cases fl with
  | ret u => obtain ⟨v, σ2, H2, J, rv, q⟩ := hs; exact done J rv q
  | next => obtain ⟨σ2, H2, J, q⟩ := hs; exact done (v := V.non) (u := Value.none) J rfl q
  | brk => obtain ⟨_, _, _, q⟩ := hs; exact q.elim
  | cont => obtain ⟨_, _, _, q⟩ := hs; exact q.elim
theorem okAt {P : Program} {w : World} {K : PySem.W.Frag} {mg : Str → Option Value} {base : Heap} {x ql : Str} {st : Stmt} {f : Addr} {fd : FuncData} {N ps : List Str} {k : Nat} {sp : Sp} {A : Around} (hr : Room (k + 1) A) (F : Fun K x ql st f fd) (S : FnScope N ps (defScope st)) (len : ∀ vs H Q E, sp vs H Q E → vs.length = ps.length)
    (hb : ∀ (cdv : Value) (out : List Env) (s : Shared) (H : Hp) (vs : List V) (Q : VK) (E : XK), sp vs H Q E → ∃ t, PSs (cxOf CX0 P w K mg base N ql (defScope st) f cdv A out s H E).nox (defBody st) t ∧ t { nx := fun _ H' => Q .non H', rt := Q } (start N vs) H) :
    FnAt P w K mg base CX0 A f fd ps sp := by
  obtain ⟨oc, od, kV, doc, pm, an, cdv, ct, osl, rfl, lk, hcd⟩ := F.ex
  refine fn_at hr lk hcd S len fun out s H vs Q E hsp => ?_
  obtain ⟨t, h, q⟩ := hb cdv out s H vs Q E hsp
  exact ⟨t, h.nox, q⟩
end LW
set_option maxHeartbeats 2000000
namespace LW
open PySem PySem.Spec PyProof.Rows L2
/-! the end of a row whose law is promised at the caller's place alone -/
abbrev scriptO (vs : List Value) : Obj := { cls := .type "list", data := .seq vs.toArray }
/-- the tables, and the script where the top has not written it -/
def seenH (K : PySem.W.Frag) (Ts : List Addr) (a : Addr) (vs : List Value) (ns : List Int) : Hp := fun b => if b ∈ Ts then some (.tbl #[]) else if b = a ∧ K.lookup a = none then some (.frz (scriptO vs) (.lst (ns.map V.int))) else none
theorem law_caller {P : Program} {w : World} {K : PySem.W.Frag} {mg mb : Str → Option Value} {fa a : Addr} {cs : List (Addr × Addr)} {fd : FuncData} {x : Str} {sp : Sp} {s : Shared} {vs : List Value} {ns : List Int}
    (KX : K.In s.heap) (nG : s.heap.Ns mainGlobals mg) (nB : s.heap.Ns builtinsNs mb) (bb : ∀ x : Str, x ≠ "__name__" → mb x = bootBuiltins x) (lim : s.heap.NoLimit) (gens : s.gens = #[])
    (tabs : ∀ p ∈ cs, s.heap.get? p.2 = some { cls := .none, data := .fields #[] }) (outK : ∀ p ∈ cs, K.lookup p.2 = none) (codes : ∀ p ∈ cs, PySem.W.CodeHd s.heap p.1 p.2)
    (bmod : ∃ (bm : Addr) (ob : Obj), mg "__builtins__" = some (.ref bm) ∧ bm ≠ builtinsNs ∧ s.heap.get? bm = some ob ∧ ob.cls = .type "module" ∧ ob.dict = some builtinsNs ∧ ob.data = .plain)
    (hs : s.heap.get? a = some (scriptO vs)) (isI : IntsAre vs ns) (few : ns.length ≤ sizeLine)
    (F : ∀ base : Heap, K.In base → base.Ns mainGlobals mg → (∀ p ∈ cs, LamX.TabB base mg p.1 p.2) → FnAt P w K mg base CX0 callerA fa fd [x] sp) (bind : ∀ (s : Shared) (u : Value), BindsTo s fd ⟨[u], []⟩ [(x, u)])
    (good : ∀ H : Hp, (∀ p ∈ cs, H p.2 = some (.tbl #[])) → SqL K H a (ns.map V.int) → sp [.ref a] H (fun v _ => v = .bl true) fun _ _ _ => False) :
    codeAny (model P w) callerA (.call (.ref fa) ⟨[.ref a], []⟩) (fun r s' => r = .ok (.ret (.bool true)) ∧ OldK s.heap s'.heap ∧ s'.os = s.os ∧ AllBare s'.gens) s := by
  have rel := vals_ints isI
  have lenV := isI.length
  generalize hTs : cs.map (·.2) = Ts
  have inT : ∀ p ∈ cs, p.2 ∈ Ts := fun p hp => by rw [← hTs]; exact List.mem_map.mpr ⟨p, hp, rfl⟩
  have ofT : ∀ b ∈ Ts, ∃ p ∈ cs, p.2 = b := fun b hb => by rw [← hTs] at hb; obtain ⟨p, hp, e⟩ := List.mem_map.mp hb; exact ⟨p, hp, e⟩
  have objT : ∀ b ∈ Ts, s.heap.get? b = some { cls := .none, data := .fields #[] } := fun b hb => by
    obtain ⟨p, hp, rfl⟩ := ofT b hb
    exact tabs p hp
  have aT : a ∉ Ts := fun z => by
    have e := (objT a z).symm.trans hs
    have e2 := congrArg (fun o => (Option.map Obj.cls o)) e
    cases e2
  let H : Hp := seenH K Ts a vs ns
  have Hin : ∀ b, b ∈ Ts → H b = some (.tbl #[]) := fun b hb => if_pos hb
  have Hcase : ∀ b u, H b = some u → (b ∈ Ts ∧ u = .tbl #[]) ∨ (b = a ∧ K.lookup a = none ∧ u = .frz (scriptO vs) (.lst (ns.map V.int))) := fun b u e => by
    by_cases h1 : b ∈ Ts
    · rw [Hin b h1] at e
      cases e
      exact .inl ⟨h1, rfl⟩
    · have e' : (if b = a ∧ K.lookup a = none then some (HO.frz (scriptO vs) (.lst (ns.map V.int))) else none) = some u := (if_neg h1).symm.trans e
      by_cases h2 : b = a ∧ K.lookup a = none
      · rw [if_pos h2] at e'
        cases e'
        exact .inr ⟨h2.1, h2.2, rfl⟩
      · rw [if_neg h2] at e'
        cases e'
  have seq : SqL K H a (ns.map V.int) := by
    cases hk : K.lookup a with
    | none =>
      refine .inl (.inr ⟨scriptO vs, ?_⟩)
      exact (if_neg aT).trans (if_pos ⟨rfl, hk⟩)
    | some o =>
      have e := KX a o hk
      rw [hs] at e
      cases e
      exact .inr ⟨_, vs.toArray, _, hk, rfl, rfl, rfl, by rw [List.size_toArray, lenV]; exact few, by simpa using rel⟩
  have okH : HOk P w H s.heap := fun b u e => by
    rcases Hcase b u e with ⟨h1, rfl⟩ | ⟨rfl, _, rfl⟩
    · exact objT b h1
    · exact ⟨hs, by rw [List.length_map]; exact few, vs, _, rel, hs⟩
  -- what is neither a list nor an empty table is not tracked
  have free : ∀ {b : Addr} {o : Obj}, s.heap.get? b = some o → (∀ us n, o.data ≠ .seq us n) → o.data ≠ .fields #[] → H b = none := fun {b o} e n1 n2 => by
    cases q : H b with
    | none => rfl
    | some u =>
      rcases Hcase b u q with ⟨h1, _⟩ | ⟨rfl, _, _⟩
      · rw [objT b h1] at e; cases e; exact absurd rfl n2
      · rw [hs] at e; cases e; exact absurd rfl (n1 _ _)
  have freeD : ∀ {b : Addr} {o : Obj} {es : Array DictEntry} {k : Nat}, s.heap.get? b = some o → o.data = .dict es k → H b = none := fun {b o es k} e d => free e (fun us n z => by rw [d] at z; cases z) fun z => by rw [d] at z; cases z
  have toB : ∀ {b : Addr} {o : Obj}, s.heap.get? b = some o → H b = none → (hidT s.heap H).get? b = some o := fun e n => hidT_get e n
  have nsB : ∀ {b : Addr} {m : Str → Option Value}, s.heap.Ns b m → (hidT s.heap H).Ns b m := fun {b m} ⟨o, es, k, e, d, r⟩ => ⟨o, es, k, toB e (freeD e d), d, r⟩
  have inB : K.In (hidT s.heap H) := fun b o e => toB (KX b o e) (by
    cases q : H b with
    | none => rfl
    | some u =>
      rcases Hcase b u q with ⟨h1, _⟩ | ⟨rfl, h2, _⟩
      · obtain ⟨p, hp, rfl⟩ := ofT b h1
        rw [outK p hp] at e; cases e
      · rw [h2] at e; cases e)
  have modB : L2.Mod K mg (hidT s.heap H) := ⟨inB, nsB nG, ⟨mb, nsB nB, bb⟩, let ⟨mc, h1, h2⟩ := lim; ⟨mc, nsB h1, h2⟩⟩
  have tabB : ∀ p ∈ cs, LamX.TabB (hidT s.heap H) mg p.1 p.2 := fun p hp => by
    refine ⟨?_, ?_, fun z => ?_⟩
    · obtain ⟨o, us, c1, c2, c3, c4, c5, c6, c7, e, d1, d2, rest⟩ := codes p hp
      refine ⟨o, us, c1, c2, c3, c4, c5, c6, c7, toB e (free e (fun us' n z => by rw [d2] at z; cases z) fun z => ?_), d1, d2, rest⟩
      rw [d2] at z
      cases z
      have := rest.1
      simp at this
    · obtain ⟨bm, ob, b1, b2, b3, b4, b5, b6⟩ := bmod
      refine ⟨bm, ob, b1, b2, fun z => ?_, fun z => ?_, toB b3 (free b3 (fun us n z => by rw [b6] at z; cases z) fun z => by rw [b6] at z; cases z), b4, b5, b6⟩
      · obtain ⟨o, es, k, e, d, _⟩ := nG
        rw [z, e] at b3; cases b3
        rw [d] at b6; cases b6
      · rw [z, tabs p hp] at b3; cases b3
        cases b6
    · obtain ⟨o, es, k, e, d, _⟩ := nG
      rw [z, tabs p hp] at e; cases e
      cases d
  have e0 : Env0 P w K mg (hidT s.heap H) callerA [] s H := ⟨rfl, modB, fun b o e => of_hidT e, Nat.le_of_eq (hidT_size _ _), trivial, fun b hb => absurd (show b ∈ ([] : List Addr) from hb) (by simp), okH, .of_eq gens⟩
  have run := (F _ inB (nsB nG) tabB).run [] s H ⟨[.ref a], []⟩ [.ref a] [.ref a] _ _ e0 (bind s (.ref a)) (.cons rfl .nil) (good H (fun p hp => Hin _ (inT p hp)) seq)
  refine codeAny_mono run fun r s2 h => ?_
  cases r with
  | error e => exact False.elim h
  | ok fl =>
    cases fl with
    | next => exact False.elim h
    | brk => exact False.elim h
    | cont => exact False.elim h
    | ret u =>
      obtain ⟨v, H2, eos, bare, un, ok2, ru, qv⟩ := h
      obtain rfl : v = .bl true := qv
      obtain rfl : u = Value.bool true := ru
      have kept : ∀ b o, b ∉ Ts → s.heap.get? b = some o → s2.heap.get? b = some o := fun b o nb e => by
        cases q : H b with
        | none => exact un.keep b o e q (fun z => by cases z) (by simp)
        | some u =>
          rcases Hcase b u q with ⟨h1, _⟩ | ⟨rfl, _, rfl⟩
          · exact absurd h1 nb
          · obtain ⟨e1, _⟩ := okH b _ q
            obtain ⟨e2, _⟩ := ok2 b _ (un.frzs b _ _ q)
            rw [e] at e1; cases e1
            exact e2
      have grew : ∀ b ∈ Ts, ∃ more : Array Value, s2.heap.get? b = some { cls := .none, data := .fields more } := fun b hb => by
        obtain ⟨more, z⟩ := un.tbls b #[] (Hin b hb)
        exact ⟨_, ok2 b _ z⟩
      refine ⟨rfl, ⟨fun b o e => ?_, fun b o e => ?_⟩, eos, bare⟩
      · by_cases hb : b ∈ Ts
        · obtain ⟨more, hm⟩ := grew b hb
          obtain ⟨p, hp, rfl⟩ := ofT b hb
          rw [tabs p hp] at e
          cases e
          exact .inr (.inl ⟨((codes p hp).tab (tabs p hp)).isCodeTable, rfl, #[], more, rfl, by rw [Array.empty_append]; exact hm⟩)
        · exact .inl (kept b o hb e)
      · by_cases hb : b ∈ Ts
        · obtain ⟨more, hm⟩ := grew b hb
          exact ⟨_, hm⟩
        · exact ⟨o, kept b o hb e⟩
/-- what is known of the law at the head's heap h -/
def LawHere (l : PySem.W.OpenLaw) (w : World) (K : PySem.W.Frag) (n : Nat) (x : Str) (mg : Str → Option Value) (fa : Addr) (h : Heap) : Prop :=
  ∃ (fd : FuncData) (cs : List (Addr × Addr)) (sp : Sp), (∀ p ∈ cs, h.get? p.2 = some { cls := .none, data := .fields #[] }) ∧ (∀ p ∈ cs, K.lookup p.2 = none) ∧ (∀ p ∈ cs, PySem.W.CodeHd h p.1 p.2) ∧ (∀ (s : Shared) (u : Value), BindsTo s fd ⟨[u], []⟩ [(x, u)]) ∧
    (∀ (H : Hp) (a : Addr) (ns : List Int), ns.length ≤ n → (∀ p ∈ cs, H p.2 = some (.tbl #[])) → SqL K H a (ns.map V.int) → sp [.ref a] H (fun v _ => v = .bl true) fun _ _ _ => False) ∧
    ∀ base : Heap, K.In base → base.Ns mainGlobals mg → (∀ p ∈ cs, LamX.TabB base mg p.1 p.2) → FnAt l.prog w K mg base CX0 callerA fa fd [x] sp
theorem walk_here {l : PySem.W.OpenLaw} {n : Nat} {q : Program} {loose : List Str} {XP : (Str → Option Value) → Heap → Prop} {YP : World → Heap → Prop} {d : DefRec} {K : Params → PySem.W.Frag} {x : Str} (hn : l.most = some n) (hn2 : n ≤ sizeLine) (nodef : d.params.defaults = []) (hY : ∀ (w : World) (h : Heap), YP w h → (K w.params).In h)
    (F : ∀ (w : World) (lo : List Str) (mean : ExcName → Option Value) (mg mb : Str → Option Value) (fa : Addr) (h : Heap), YP w h → (K w.params).In h → PyProof.Rows.Top q lo mean mg mb h → mg d.name = some (.ref fa) → LawHere l w (K w.params) n x mg fa h) :
    PySem.W.WalkO q loose XP YP l.row.toRowW d [] (fun f vs => PySem.call f vs) := by
  refine Att.attach_callB hn nodef fun w s₀ s mg mb fa o pm cd doc a vs ns G Y _ _ _ named script isI few _ gens => ?_
  have KX := hY w _ Y
  obtain ⟨fd, cs, sp, h1, h2, h3, h4, h5, h6⟩ := F w _ _ mg mb fa _ Y KX G.T named
  exact law_caller KX G.T.g G.T.b G.T.builtins G.T.nolimit gens h1 h2 h3 G.T.bmain script isI (Nat.le_trans few hn2) h6 h4 fun H hH hS => h5 H a ns few hH hS
end LW
set_option maxHeartbeats 4000000
namespace LW
open PySem PySem.Spec PyProof.Rows L2
theorem short_nat {n : Nat} (h : n < 1000) : (PyData.int (n : Int)).leavesShort 8 = true := by
  show decide ((PyData.shown (.int (n : Int))).length ≤ 8) = true
  refine decide_eq_true ?_
  rw [PyData.shown_int]
  exact Nat.le_trans (toString_length_le (k := 3) (by omega) (by decide) (by omega)) (by decide)
theorem nats_show {ns : List Nat} (h : ∀ n ∈ ns, n < 1000) (hl : ns.length ≤ 1000) : (natsD ns).showable = true ∧ (natsD ns).depth ≤ 64 ∧ (natsD ns).shown.length ≤ sizeLine ∧ ∀ x, natsD ns ≠ .str x := by
  have h1 : PyData.showableAll (ns.map fun n : Nat => PyData.int (n : Int)) = true := by
    clear hl
    induction ns with
    | nil => rfl
    | cons n ns ih =>
      have hn := h n (List.mem_cons_self ..)
      show (decide (((n : Int)).natAbs.log2 < 1920) && _) = true
      rw [ih fun m hm => h m (List.mem_cons_of_mem _ hm), Bool.and_true]
      exact decide_eq_true (Nat.lt_of_le_of_lt (Nat.log2_le_self n) (by omega))
  have h2 : PyData.leavesShortAll 8 (ns.map fun n : Nat => PyData.int (n : Int)) = true := by
    clear hl h1
    induction ns with
    | nil => rfl
    | cons n ns ih =>
      show (PyData.leavesShort 8 (.int (n : Int)) && _) = true
      rw [short_nat (h n (List.mem_cons_self ..)), ih fun m hm => h m (List.mem_cons_of_mem _ hm)]
      rfl
  have h3 : PyData.depthAll (ns.map fun n : Nat => PyData.int (n : Int)) = 0 := by
    clear h hl h1 h2
    induction ns with
    | nil => rfl
    | cons n ns ih => simp [PyData.depthAll, PyData.depth, ih]
  have h4 : PyData.bulkAll (ns.map fun n : Nat => PyData.int (n : Int)) = ns.length := by
    clear h hl h1 h2 h3
    induction ns with
    | nil => rfl
    | cons n ns ih => simp only [List.map_cons, PyData.bulkAll, PyData.bulk, ih, List.length_cons]; omega
  refine ⟨h1, ?_, ?_, fun x z => by cases z⟩
  · unfold natsD
    rw [PyData.depth, h3]
    decide
  · refine PyData.shown_fits_bulk (B := 8) (by decide) (by decide) h2 ?_
    show PyData.bulkAll _ ≤ _
    rw [h4]
    omega
theorem bool_show (b : Bool) : (PyData.bool b).showable = true ∧ (PyData.bool b).depth ≤ 64 ∧ (PyData.bool b).shown.length ≤ sizeLine ∧ ∀ x, PyData.bool b ≠ .str x := by
  refine ⟨rfl, Nat.zero_le _, ?_, fun x z => by cases z⟩
  refine Nat.le_trans (m := 5) ?_ (by decide)
  cases b <;> decide
theorem mems_lt {b n : Nat} : ∀ q ∈ LB.mems b n, q < n := fun q h => List.mem_range.mp (List.mem_filter.mp h).1
theorem mems_len (b n : Nat) : (LB.mems b n).length ≤ n := Nat.le_trans (List.length_filter_le _ _) (by simp)
theorem mems_show (b : Nat) {n : Nat} (h : n ≤ 60) : (natsD (LB.mems b n)).showable = true ∧ (natsD (LB.mems b n)).depth ≤ 64 ∧ (natsD (LB.mems b n)).shown.length ≤ sizeLine ∧ ∀ x, natsD (LB.mems b n) ≠ .str x :=
  nats_show (fun q hq => by have := mems_lt q hq; omega) (by have := mems_len b n; omega)
theorem in_mems {b n q : Nat} (h : q < n) : inV (V.int (q : Int)) ((LB.mems b n).map natV) = b.testBit q := by
  have := inV_nats q (LB.mems b n)
  rw [mems_contains, decide_eq_true h, Bool.true_and] at this
  exact this
theorem b_repr : bootBuiltins "repr" = some (.builtin "repr") := by decide +kernel
def spLaw6 (K : PySem.W.Frag) (T T1 T2 T3 : Addr) : Sp := fun vs H Q _ => ∃ (a : Addr) (ns : List Int), vs = [.ref a] ∧ SqL K H a (ns.map V.int) ∧ ns.length ≤ 63 ∧ Tb4 H T T1 T2 T3 ∧ ∀ H', Q (.bl true) H'
section
variable {P : Program} {w : World} {K : PySem.W.Frag} {mg : Str → Option Value} {base : Heap} {f : Addr} {fd : FuncData}
abbrev nLaw6 : List Str := ["script", "box", "labels", "s", "d", "due", "told", "small", "q", "grown"]
end
end LW

set_option maxHeartbeats 4000000
namespace LW
open PySem PySem.Spec PyProof.Rows L2
section
variable {P : Program} {w : World} {K : PySem.W.Frag} {mg : Str → Option Value} {base : Heap} {f : Addr} {fd : FuncData}
theorem sc_is_below : FnScope ["worth", "limit"] ["worth", "limit"] (defScope s_is_below) := ⟨rfl, rfl, rfl, by decide +kernel, rfl, by decide +kernel, by decide +kernel⟩
theorem ok_is_below {k : Nat} (F : Fun K "is_below" "is_below" s_is_below f fd) (mi : mg "isinstance" = none) (mt : mg "int" = none) (mb : mg "bool" = none) : FnOk P w K mg base CX0 (k + 1) f fd ["worth", "limit"] (spBelow K) := by
  refine F.ok sc_is_below (fun vs H Q E h => ?_) (fun cdv A outer s H vs Q E hr h => ?_)
  · obtain ⟨d, n, v, rfl, _⟩ := h; rfl
  obtain ⟨d, n, v, rfl, hd, q⟩ := h
  refine ⟨_, pss_one (ps_ret (pe_and (pe_callB call_isi (by rfl) mi b_isinstance (pa_cons (pv 0) (pa_cons (pe_bltn (v := .ty "int") (by rfl) mt b_int rfl) pa_nil)))
    (pe_and (pe_not (pe_callB call_isi (by rfl) mi b_isinstance (pa_cons (pv 0) (pa_cons (pe_bltn (v := .ty "bool") (by rfl) mb b_bool rfl) pa_nil))))
    (pe_one (pe_chain op_le op_lt pe_int (pv 0) (pv 1)))))), ?_⟩
  refine ⟨_, rfl, _, _, _, _, _, rfl, .ty "int", hd.ty, kit_int d, _, rfl, ?_⟩
  cases d with
  | int i =>
    cases hd
    refine iteT ⟨_, rfl, _, _, _, _, _, rfl, .ty "bool", L2.Dp.ty (.int i), kit_bool (.int i), _, rfl, _, rfl, iteT ?_⟩
    refine ⟨_, rfl, _, _, rfl, rfl, _, rfl, ?_⟩
    by_cases h0 : (0 : Int) ≤ i
    · rw [decide_eq_true h0]
      refine iteT ⟨_, rfl, _, _, rfl, rfl, ?_⟩
      have e : belowD (.int i) n = decide (i < n) := by show (decide (0 ≤ i) && decide (i < n)) = _; rw [decide_eq_true h0]; rfl
      rw [e] at q
      exact q
    · rw [decide_eq_false h0]
      refine iteF ?_
      have e : belowD (.int i) n = false := by show (decide (0 ≤ i) && decide (i < n)) = _; rw [decide_eq_false h0]; rfl
      rw [e] at q
      exact q
  | bool b =>
    cases hd
    exact iteT ⟨_, rfl, _, _, _, _, _, rfl, .ty "bool", L2.Dp.ty (.bl b), kit_bool (.bool b), _, rfl, _, rfl, iteF q⟩
  | none => exact iteF q
  | str x => exact iteF q
  | list xs => exact iteF q
  | tuple xs => exact iteF q
  | dict xs => exact iteF q
end
end LW
set_option maxHeartbeats 4000000
namespace LW
open PySem PySem.Spec PyProof.Rows L2
section
variable {P : Program} {w : World} {K : PySem.W.Frag} {mg : Str → Option Value} {base : Heap} {f : Addr} {fd : FuncData}
theorem sc_is_tuple_of : FnScope ["worth", "many"] ["worth", "many"] (defScope s_is_tuple_of) := ⟨rfl, rfl, rfl, by decide +kernel, rfl, by decide +kernel, by decide +kernel⟩
theorem ok_is_tuple_of {k : Nat} (F : Fun K "is_tuple_of" "is_tuple_of" s_is_tuple_of f fd) (mi : mg "isinstance" = none) (mt : mg "tuple" = none) (ml : mg "len" = none) : FnOk P w K mg base CX0 (k + 1) f fd ["worth", "many"] (spTupOf K) := by
  refine F.ok sc_is_tuple_of (fun vs H Q E h => ?_) (fun cdv A outer s H vs Q E hr h => ?_)
  · obtain ⟨d, n, v, rfl, _⟩ := h; rfl
  obtain ⟨d, n, v, rfl, hd, q⟩ := h
  refine ⟨_, pss_one (ps_ret (pe_and (pe_callB call_isi (by rfl) mi b_isinstance (pa_cons (pv 0) (pa_cons (pe_bltn (v := .ty "tuple") (by rfl) mt b_tuple rfl) pa_nil)))
    (pe_one (pe_cmpR op_eq (pe_callB call_len_seq (by rfl) ml PySem.boot_len (pa_cons (pv 0) pa_nil)) (pv 1) (nomark _))))), ?_⟩
  refine ⟨_, rfl, _, _, _, _, _, rfl, .ty "tuple", hd.ty, kit_tup d, _, rfl, ?_⟩
  cases d with
  | tuple ds =>
    obtain ⟨a, xs, rfl, hs, ha⟩ := hd.tupI
    refine iteT ⟨_, rfl, a, xs, rfl, .inr hs, _, rfl, rfl, ?_⟩
    have e : decide (V.int ((xs.length : Nat) : Int) = V.int n) = tupOfD (.tuple ds) n := by
      show _ = decide ((ds.length : Int) = n)
      rw [ha.length]
      by_cases h : (ds.length : Int) = n
      · rw [h, decide_eq_true rfl, decide_eq_true rfl]
      · rw [decide_eq_false h, decide_eq_false fun z => h (V.int.inj z)]
    rw [e]
    exact q
  | none => exact iteF q
  | bool b => exact iteF q
  | int i => exact iteF q
  | str x => exact iteF q
  | list xs => exact iteF q
  | dict xs => exact iteF q
end
end LW
set_option maxHeartbeats 4000000
namespace LW
open PySem PySem.Spec PyProof.Rows L2
section
variable {P : Program} {w : World} {K : PySem.W.Frag} {mg : Str → Option Value} {base : Heap} {f : Addr} {fd : FuncData}
theorem sc_is_tree : FnScope ["tree"] ["tree"] (defScope s_is_tree) := ⟨rfl, rfl, rfl, by decide +kernel, rfl, by decide +kernel, by decide +kernel⟩
theorem ok_is_tree {tL : Tok} (F : Fun K "is_tree" "is_tree" s_is_tree f fd) (f1 : Fn P w K mg base CX0 1 "is_tuple_of" ["worth", "many"] (spTupOf K)) (f2 : Fn P w K mg base CX0 1 "is_below" ["worth", "limit"] (spBelow K)) (mL : mg "LABELS" = some (.int 5 tL)) :
    FnOk P w K mg base CX0 2 f fd ["tree"] (spTree K) := by
  refine F.ok sc_is_tree (fun vs H Q E h => ?_) (fun cdv A outer s H vs Q E hr h => ?_)
  · obtain ⟨d, v, rfl, _⟩ := h; rfl
  obtain ⟨d, v, rfl, hd, q⟩ := h
  refine ⟨_, pss_one (ps_ret (pe_and (pe_fn f1 hr rfl pass0 (pa_cons (pv 0) (pa_cons pe_int pa_nil)))
    (pe_one (pe_fn f2 hr rfl pass0 (pa_cons (pe_ix ix_tup (pv 0) pe_int (fun _ _ => rfl)) (pa_cons (pe_gint mL rfl) pa_nil)))))), ?_⟩
  refine ⟨_, rfl, d, 2, v, rfl, hd, _, rfl, ?_⟩
  by_cases h2 : tupOfD d 2 = true
  · rw [h2]
    cases d with
    | tuple ds =>
      have e : (ds.length : Int) = 2 := of_decide_eq_true h2
      match ds, e with
      | [x, k], _ =>
        obtain ⟨a, xs, rfl, hs, ha⟩ := hd.tupI
        cases ha with
        | cons hx ha =>
          refine iteT ⟨_, rfl, a, _, 0, _, rfl, rfl, hs, atI_nat (j := 0) rfl, x, 5, _, rfl, hx, ?_⟩
          exact q
    | _ => cases h2
  · have e : tupOfD d 2 = false := by simpa using h2
    rw [e]
    refine iteF ?_
    have e2 : treeD d = false := by
      unfold treeD
      split
      · rename_i x k
        exact absurd (show tupOfD (.tuple [x, k]) 2 = true from (by simp [tupOfD])) h2
      · rfl
    rw [e2] at q
    exact q
end
end LW
set_option maxHeartbeats 4000000
namespace LW
open PySem PySem.Spec PyProof.Rows L2
section
variable {P : Program} {w : World} {K : PySem.W.Frag} {mg : Str → Option Value} {base : Heap} {f : Addr} {fd : FuncData}
theorem sc_is_document : FnScope nIsDoc ["d"] (defScope s_is_document) := ⟨rfl, rfl, rfl, by decide +kernel, rfl, by decide +kernel, by decide +kernel⟩
theorem ok_is_document {t1 t2 : Tok} {c T : Addr} (F : Fun K "is_document" "is_document" s_is_document f fd) (hc : fd.code = .ref c) (TB : GxR.TabB base mg c T) (ft : Fn P w K mg base CX0 2 "is_tree" ["tree"] (spTree K))
    (mi : mg "isinstance" = none) (mt : mg "tuple" = none) (ml : mg "len" = none) (ma : mg "all" = none) (mN : mg "MOST_NESTED" = some (.int 30 t1)) (mM : mg "MOST_TREES" = some (.int 300 t2)) :
    FnOk P w K mg base CX0 6 f fd ["d"] (spIsDoc K T) := by
  refine okC F hc sc_is_document (fun vs H Q E h => ?_) (fun A outer s H vs Q E hr h => ?_)
  · obtain ⟨d, v, rfl, _⟩ := h; rfl
  obtain ⟨d, v, rfl, hd, hT, q⟩ := h
  have nd := sc_is_document.nd
  refine ⟨_, pss_cons (ps_set (i := 1) nd rfl (.inl rfl) pe_int)
    (pss_cons (ps_set (i := 2) nd rfl (.inl rfl) (pe_lst (pa_cons (pe_tup (pa_cons (pv 0) (pa_cons pe_int pa_nil))) pa_nil)))
    (pss_cons (ps_while PassesOwn.never (pt_truth (pv 2) (by intro _; rfl))
      (pss_cons (ps_asg (pe_bm0 PySem.F.plainAttrs_list PySem.F.slot_list_pop PySem.F.type_list_pop mt_pop (pv 2)) (pg_tup rfl (pgs_cons (pg_name (i := 3) nd rfl (.inl rfl)) (pgs_cons (pg_name (i := 4) nd rfl (.inr rfl)) pgs_nil))))
      (pss_cons (ps_if (PW.pt (pw_or (pt_not (pt_val (pe_callB call_isi (by rfl) mi b_isinstance (pa_cons (pv 3) (pa_cons (pe_bltn (v := .ty "tuple") (by rfl) mt b_tuple rfl) pa_nil)))))
          (pw_or1 (PW.pt (pw_and (pt_truth (pv 3) (by intro _; rfl)) (pw_and1 (pt_cmpR op_gt (pv 4) (pe_gint mN rfl) (nomark _))))))))
        (pss_one (ps_ret pe_bl)) pss_nil)
      (pss_cons (ps_aug (i := 1) nd rfl (.inl rfl) (pe_callB call_len_seq (by rfl) ml PySem.boot_len (pa_cons (pv 3) pa_nil)) ip_add)
      (pss_cons (ps_if (PW.pt (pw_or (pt_cmpR op_gt (pv 1) (pe_gint mM rfl) (nomark _))
          (pw_or1 (pt_not (pt_val (pe_allG (own := [("tree", 5)]) (gT := gName 5) (k := 2) hr rfl ma b_all TB rfl (gsc_by (N := nIsDoc) (sc := defScope s_is_document) (by decide +kernel) (by decide +kernel)) nd (pi_tup (pv 3)) (fun A s H C cl code fp pn => pg_name (i := 5) nd rfl (.inl rfl))
            (fun A s H C cl code fp pn hrA => pe_fn ft hrA rfl pass0 (pa_cons (pv 5) pa_nil))))))))
        (pss_one (ps_ret pe_bl)) pss_nil)
      (pss_one (ps_expr (pe_bm PySem.F.plainAttrs_list PySem.F.slot_list_extend PySem.F.type_list_extend mt_extend (pv 2)
        (pa_cons (pe_lc (own := [("_", 6), ("kids", 7)]) (g := gTup K 2 (gCons (gName 6) (gCons (gName 7) gNil))) (tt := tYes) rfl nd (pi_tup (pv 3)) (blkOk_by (N := nIsDoc) (sc := defScope s_is_document) (own := [("_", 6), ("kids", 7)]) (by decide +kernel))
          (fun s H C cl fp => pg_tup rfl (pgs_cons (pg_name (i := 6) nd rfl (.inl rfl)) (pgs_cons (pg_name (i := 7) nd rfl (.inl rfl)) pgs_nil))) (fun s H C cl fp => pts_nil)
          (fun s H C cl fp => pe_tup (pa_cons (pv 7) (pa_cons (pe_op op_add (pv 4) pe_int) pa_nil)))) pa_nil)))))))))
    (pss_one (ps_ret pe_bl)))), ?_⟩
  refine ⟨_, rfl, len2, fun t0 n0 => ⟨(by decide : (1 : Nat) ≤ sizeLine), fun wl nw => ?_⟩⟩
  have hw0 : H wl = none := upd_none' nw
  have gs : Gr [] H (upd (upd H t0 (.tup [v, .int 1])) wl (.lst [.ref t0])) := (Gr.new n0).put0 hw0
  refine ⟨fun m σ H1 => ∃ (many : Nat) (ws : List (PyData × Nat)) (xs : List V) (y3 y4 y5 y6 y7 : Option V), m = pNode ws ∧ σ = [some v, some (.int many), some (.ref wl), y3, y4, y5, y6, y7] ∧ H1 wl = some (.lst xs) ∧
    Paired (Wt K H H1) xs ws ∧ Gr [] H H1 ∧ many ≤ 300 ∧ ws.length ≤ many + 1 ∧ goalD ws many = docD d, ⟨_, 0, [(d, 1)], [.ref t0], none, none, none, none, none, rfl, rfl, upd_same, .cons ⟨t0, v, rfl, ?_, hd⟩ .nil, gs, by omega, by simp, goal_start d⟩, ?_⟩
  · have ne : t0 ≠ wl := fun z => by rw [← z, upd_same] at nw; cases nw
    rw [upd_ne ne, upd_same]
    rfl
  rintro m σ H1 ⟨many, ws, xs, y3, y4, y5, y6, y7, rfl, rfl, hwl, hp, g1, hm, hl, hgoal⟩
  refine ⟨_, rfl, _, .inl ⟨xs, SqL.of hwl, rfl⟩, ?_⟩
  rcases ws.eq_nil_or_concat with rfl | ⟨ws, ⟨d0, n⟩, rfl⟩
  · cases hp
    refine iteF ?_
    -- return True
    have e : docD d = true := by rw [← hgoal]; simp [goalD, pForm, pSz, hm]
    rw [e] at q
    exact q H1 g1
  rw [List.concat_eq_append] at hp hl hgoal ⊢
  obtain ⟨xs, x, rfl, hp0, tp, v0, rfl, htp, hd0⟩ := paired_snoc hp
  have hne : (!(xs ++ [V.ref tp]).isEmpty) = true := by simp
  rw [hne]
  refine iteT ⟨fun σ' H' => ∃ m', m' < pNode (ws ++ [(d0, n)]) ∧ (∃ (many : Nat) (ws : List (PyData × Nat)) (xs : List V) (y3 y4 y5 y6 y7 : Option V), m' = pNode ws ∧ σ' = [some v, some (.int many), some (.ref wl), y3, y4, y5, y6, y7] ∧ H' wl = some (.lst xs) ∧
    Paired (Wt K H H') xs ws ∧ Gr [] H H' ∧ many ≤ 300 ∧ ws.length ≤ many + 1 ∧ goalD ws many = docD d), fun σ' H' z => z, ?_⟩
  -- trees, depth = waiting.pop()
  have hlast : (xs ++ [V.ref tp])[(xs ++ [V.ref tp]).length - 1]? = some (.ref tp) := by simp
  have hne2 : tp ≠ wl := fun z => by rw [z, hwl] at htp; cases htp
  have hdl : (xs ++ [V.ref tp]).dropLast = xs := by simp
  refine ⟨_, rfl, .inl ⟨rfl, _, SqL.of hwl⟩, wl, _, .ref tp, rfl, rfl, hwl, hlast, ?_⟩
  rw [hdl]
  generalize hH2 : upd H1 wl (.lst xs) = H2
  have hwl2 : H2 wl = some (.lst xs) := by rw [← hH2]; exact upd_same
  have g2 : Gr [] H H2 := by rw [← hH2]; exact g1.put0 hw0
  have hp2 : Paired (Wt K H H2) xs ws := paired_imp (Wt.gr (m := [wl]) (by rw [← hH2]; exact Gr.put hwl (fun _ z => by cases z) (by simp)) (fun b hb => by rw [List.mem_singleton.mp hb]; exact ⟨_, hwl⟩)) hp0
  have htp2 : H2 tp = some (.tup [v0, .int n]) := by rw [← hH2, upd_ne hne2]; exact htp
  refine ⟨tp, _, rfl, SqT.of htp2, rfl, v0, [.int n], rfl, .int n, [], rfl, rfl, ?_⟩
  -- if not isinstance(trees, tuple) or (trees and depth > MOST_NESTED)
  have hd2 := hd0.gr g2
  refine ⟨_, rfl, _, _, _, _, _, rfl, .ty "tuple", hd2.ty, kit_tup d0, _, rfl, ?_⟩
  have bad : formD d0 n = false → Q (.bl false) H2 := fun z => by
    have e : docD d = false := by rw [← hgoal]; exact goal_bad z
    rw [e] at q
    exact q H2 g2
  cases d0 with
  | none => exact iteT (iteT (bad (by simp [formD])))
  | bool b => exact iteT (iteT (bad (by simp [formD])))
  | int i => exact iteT (iteT (bad (by simp [formD])))
  | str x => exact iteT (iteT (bad (by simp [formD])))
  | list ds => exact iteT (iteT (bad (by simp [formD])))
  | dict ds => exact iteT (iteT (bad (by simp [formD])))
  | tuple ts =>
    obtain ⟨a, vs, rfl, hs0, ha⟩ := hd0.tupI
    have hs := g2.sqT hs0
    refine iteF ⟨_, rfl, _, .inr (.inl ⟨vs, hs, rfl⟩), ?_⟩
    have hvl := ha.length
    have hemp : vs.isEmpty = ts.isEmpty := by cases vs <;> cases ts <;> first | rfl | (simp at hvl)
    have key : ∀ (R : Bool → Hp → Prop), ((ts.isEmpty || decide (n ≤ 30)) = true → R false H2) → ((ts.isEmpty || decide (n ≤ 30)) = false → R true H2) →
        (if (!vs.isEmpty) = true then (tTest (tOp (rI0 fun i j => .bl (decide (j < i))) (tVar 4) (tC (.int 30)))) [some v, some (.int many), some (.ref wl), some (.ref a), some (.int n), y5, y6, y7] H2 R else R false H2) := by
      intro R h1 h2
      rw [hemp]
      cases hte : ts.isEmpty with
      | true => exact iteF (h1 (by rw [hte]; rfl))
      | false =>
        refine iteT ⟨_, rfl, _, _, rfl, rfl, _, rfl, ?_⟩
        by_cases h30 : n ≤ 30
        · rw [decide_eq_false (show ¬ ((30 : Int) < (n : Int)) by omega)]
          exact h1 (by rw [decide_eq_true h30, Bool.or_true])
        · rw [decide_eq_true (show ((30 : Int) < (n : Int)) by omega)]
          exact h2 (by rw [hte, decide_eq_false h30]; rfl)
    refine key _ (fun hdeep => iteF ?_) (fun hdeep => iteT (bad (by rw [formD, hdeep]; rfl)))
    -- many += len(trees)
    refine ⟨_, rfl, _, rfl, a, vs, rfl, .inr hs, _, _, rfl, rfl, ?_⟩
    -- if many > MOST_TREES or not all(..)
    refine ⟨_, rfl, _, _, rfl, rfl, _, rfl, ?_⟩
    have hmany : (many : Int) + ((vs.length : Nat) : Int) = ((many + ts.length : Nat) : Int) := by rw [hvl]; omega
    by_cases h300 : 300 < many + ts.length
    · rw [decide_eq_true (show ((300 : Int) < (many : Int) + ((vs.length : Nat) : Int)) by rw [hmany]; omega)]
      refine iteT (iteT ?_)
      have e : docD d = false := by rw [← hgoal]; exact goal_many h300
      rw [e] at q
      exact q H2 g2
    rw [decide_eq_false (show ¬ ((300 : Int) < (many : Int) + ((vs.length : Nat) : Int)) by rw [hmany]; omega)]
    refine iteF ?_
    have hT2 : GxR.TabG H2 T := g2.tab T hT
    refine ⟨_, rfl, a, rfl, ⟨vs, hs⟩, hT2, fun H3 hT3 => gw_tup (xs := vs) (fun i H' => H' = H3 ∧ (ts.take i).all treeD = true) ⟨rfl, rfl⟩ (fun i H' _ hP => ?_) (fun i x H' hx hP => ?_) (fun H' hP => ?_)⟩
    · rw [hP.1]; exact (Tabbed.gr hT2 hT3).sqT hs
    · obtain ⟨rfl, hall⟩ := hP
      obtain ⟨dt, hdt, hxd⟩ := ha.get hx
      refine ⟨rfl, _, rfl, dt, x, rfl, hxd.gr (g2.trans (Tabbed.gr hT2 hT3)), _, rfl, ?_⟩
      cases htd : treeD dt with
      | true => exact iteT ⟨rfl, all_snoc hdt hall htd⟩
      | false =>
        refine iteF ⟨_, rfl, iteT ?_⟩
        have hbad : formAll ts n = false := by
          rw [Bool.eq_false_iff]
          intro z
          have := formAll_trees ts n z
          rw [all_not hdt htd] at this
          cases this
        have e : docD d = false := by rw [← hgoal]; exact goal_bad (by rw [formD, hbad, Bool.and_false])
        rw [e] at q
        exact q H' (g2.trans (Tabbed.gr hT2 hT3))
    · obtain ⟨rfl, hall⟩ := hP
      have hall : ts.all treeD = true := by rw [hvl, List.take_length] at hall; exact hall
      refine ⟨_, rfl, iteF ?_⟩
      have g3 : Gr [] H H' := g2.trans (Tabbed.gr hT2 hT3)
      have g23 : Gr [] H2 H' := Tabbed.gr hT2 hT3
      have hwl3 : H' wl = some (.lst xs) := g23.lst (by simp) hwl2
      have hs3 := g23.sqT hs
      -- waiting.extend([(kids, depth + 1) for _, kids in trees])
      refine ⟨_, rfl, .inl ⟨rfl, _, SqL.of hwl3⟩, ?_⟩
      refine ⟨_, rfl, a, rfl, ⟨vs, hs3⟩, fun D hD => lc_tup (xs := vs) (fun i H4 => Gr [] H' H4 ∧ ∃ zs, H4 D = some (.lst zs) ∧ zs.length = i ∧ Paired (Wt K H H4) zs ((ts.take i).map fun t => (kidD t, n + 1))) ?_ (fun i H4 _ hP => hP.1.sqT hs3) (fun i x H4 hx hP => ?_) (fun H4 hP => ?_)⟩
      · exact ⟨Gr.new hD, [], upd_same, rfl, .nil⟩
      · obtain ⟨g4, zs, hzD, hzl, hzp⟩ := hP
        obtain ⟨dt, hdt, hxd⟩ := ha.get hx
        have htd : treeD dt = true := List.all_eq_true.mp hall dt (List.mem_of_getElem? hdt)
        obtain ⟨i0, k0, rfl⟩ := treeD_shape htd
        obtain ⟨at', xs', rfl, hst, hat⟩ := hxd.tupI
        have hst4 := (g3.trans g4).sqT hst
        obtain ⟨v1, v2, rfl, h1, h2⟩ := dpAll_two hat
        · refine ⟨at', _, rfl, hst4, rfl, v1, [v2], rfl, v2, [], rfl, rfl, rfl, ?_⟩
          refine ⟨_, rfl, _, rfl, _, _, rfl, rfl, len2, fun p np => ⟨zs, ?_, ?_, ?_⟩⟩
          · rw [upd_ne (ne_of_none hzD np)]; exact hzD
          · have hi : i < vs.length := (List.getElem?_eq_some_iff.mp hx).1
            have h9 : ts.length ≤ 300 := by omega
            exact small1000 (by omega)
          · have gp : Gr [] H' (upd H4 p (.tup [v2, .int (↑n + 1)])) := g4.trans (Gr.new np)
            have nD : p ≠ D := fun z => by rw [z, hzD] at np; cases np
            refine ⟨gp.put0 hD, _, upd_same, by simp [hzl], ?_⟩
            rw [List.take_add_one, hdt, List.map_append]
            have st : ∀ x p', Wt K H H4 x p' → Wt K H (upd (upd H4 p (.tup [v2, .int (↑n + 1)])) D (.lst (zs ++ [.ref p]))) x p' := fun x p' hz =>
              Wt.gr (m := [D]) (Gr.put (u := .lst zs) (by rw [upd_ne (ne_of_none hzD np)]; exact hzD) (fun _ z => by cases z) (by simp)) (fun b hb => by rw [List.mem_singleton.mp hb]; exact ⟨zs, by rw [upd_ne (ne_of_none hzD np)]; exact hzD⟩) x p' (Wt.gr (m := []) (Gr.new np) (fun b hb => by cases hb) x p' hz)
            refine paired_app (paired_imp st hzp) (.cons ⟨p, v2, rfl, ?_, ?_⟩ .nil)
            · rw [upd_ne nD, upd_same]; rfl
            · exact h2
      · obtain ⟨g4, zs, hzD, hzl, hzp⟩ := hP
        have hwl4 : H4 wl = some (.lst xs) := g4.lst (by simp) hwl3
        have hnwD : wl ≠ D := fun z => by rw [← z, hwl3] at hD; cases hD
        rw [show vs.length = ts.length from hvl, List.take_length] at hzp
        have hxl : xs.length = ws.length := Paired.length hp2
        have hwsl : ws.length ≤ many := by simp at hl; exact hl
        refine ⟨wl, D, xs, zs, rfl, rfl, hwl4, hzD, Nat.le_of_lt (small1000 (by omega)), ?_⟩
        refine ⟨_, node_step (n := n) hall, many + ts.length, ws ++ ts.map (fun t => (kidD t, n + 1)), xs ++ zs, some (.ref a), some (.int n), y5, y6, y7, rfl, by show [some v, some (V.int ((many : Int) + ((vs.length : Nat) : Int))), some (.ref wl), some (.ref a), some (.int n), y5, y6, y7] = _; rw [hmany], upd_same, ?_, (g3.trans g4).put0 hw0, by omega, by simp; omega, by rw [← hgoal]; exact (goal_step hall hdeep).symm⟩
        have gw : Gr [wl] H4 (upd H4 wl (.lst (xs ++ zs))) := Gr.put hwl4 (fun _ z => by cases z) (by simp)
        have hm1 : ∀ b ∈ [wl], ∃ ys, H4 b = some (.lst ys) := fun b hb => by rw [List.mem_singleton.mp hb]; exact ⟨_, hwl4⟩
        refine paired_app (paired_imp (Wt.gr gw hm1) (paired_imp (Wt.gr (m := []) (g23.trans g4) (fun b hb => by cases hb)) hp2)) (paired_imp (Wt.gr gw hm1) hzp)
end
end LW
set_option maxHeartbeats 2000000
namespace LW
open PySem PySem.Spec PyProof.Rows L2
/-! Steps whose rules are plain numbers -/
def smallR (rs : List Rl) : Prop := ∀ r ∈ rs, r.1 < 1000 ∧ r.2.1 < 1000 ∧ r.2.2 < 1000
def spRowOfB (K : PySem.W.Frag) : Sp := fun vs H Q E => (∃ (l : Addr) (xs : List V) (rs : List Rl) (inside : Nat), vs = [.ref l, natV inside] ∧ H l = some (.lst xs) ∧ DpAll K H xs (rs.map bitD) ∧ rs.length ≤ 2000 ∧ smallR rs ∧
  ∀ H' p ys, Gr [] H H' → H p = none → H' p = some (.lst ys) → DpAll K H' ys ((rowOf rs inside).map entD) → Q (.ref p) H')
theorem label_small {s : Sch} (h : SchOk s) (a : Nat) : smallR (ofLabel a (rulesFrom 0 s)) := fun r hr => by
  obtain ⟨i, st, e1, e2, e3⟩ := rulesFrom_mem.mp (ofLabel_mem.mp hr)
  obtain ⟨b1, b2, b3⟩ := h.rules st (List.mem_of_getElem? e1) _ e3
  have hi := (List.getElem?_eq_some_iff.mp e1).1
  have hm := h.most
  simp only at e2 b2 b3
  omega
theorem putOr_fst {q w : Nat} : ∀ {l : List (Nat × Nat)} {p : Nat × Nat}, p ∈ putOr q w l → p.1 = q ∨ ∃ p' ∈ l, p'.1 = p.1
  | [], p, h => by rw [List.mem_singleton.mp h]; exact .inl rfl
  | x :: l, p, h => by
    unfold putOr at h
    split at h
    · rcases List.mem_cons.mp h with rfl | h
      · exact .inr ⟨x, List.mem_cons_self .., rfl⟩
      · exact .inr ⟨p, List.mem_cons_of_mem _ h, rfl⟩
    · rcases List.mem_cons.mp h with rfl | h
      · exact .inr ⟨p, List.mem_cons_self .., rfl⟩
      · rcases putOr_fst h with h | ⟨p', h, e⟩
        · exact .inl h
        · exact .inr ⟨p', List.mem_cons_of_mem _ h, e⟩
theorem rowOf_fst {rs : List Rl} {x : Nat} {p : Nat × Nat} (h : p ∈ rowOf rs x) : ∃ r ∈ rs, r.1 = p.1 := by
  have key : ∀ (rs : List Rl) (acc : List (Nat × Nat)), p ∈ rs.foldl (fun acc t => if x.testBit t.2.1 = true then putOr t.1 (2 ^ t.2.2) acc else acc) acc → (∃ r ∈ rs, r.1 = p.1) ∨ ∃ p' ∈ acc, p'.1 = p.1 := by
    intro rs
    induction rs with
    | nil => exact fun acc h => .inr ⟨p, h, rfl⟩
    | cons t rs ih =>
      intro acc h
      rw [List.foldl_cons] at h
      rcases ih _ h with ⟨r, hr, e⟩ | ⟨p', hp', e⟩
      · exact .inl ⟨r, List.mem_cons_of_mem _ hr, e⟩
      · split at hp'
        · rcases putOr_fst hp' with e2 | ⟨p2, h2, e2⟩
          · exact .inl ⟨t, List.mem_cons_self .., e2.symm.trans e⟩
          · exact .inr ⟨p2, h2, e2.trans e⟩
        · exact .inr ⟨p', hp', e⟩
  rcases key rs [] h with h | ⟨_, h, _⟩
  · exact h
  · cases h
def spEnds (K : PySem.W.Frag) : Sp := fun vs H Q _ => ∃ (v : V) (s : Sch), vs = [v] ∧ Dp K H v (schD s) ∧ SchOk s ∧ ∀ H', Gr [] H H' → Q (natV (emptyB s)) H'
end LW
set_option maxHeartbeats 2000000
/-! sorted(..) of a list of triples of whole numbers from 0, of any length -/
namespace SrtO
open PySem PySem.Spec PyProof.Rows
abbrev I3 := Int × Int × Int
def lex3 (p q : I3) : Bool := if p.1 = q.1 then lexB p.2 q.2 else decide (p.1 < q.1)
theorem lex3_iff {p q : I3} : lex3 p q = true ↔ p.1 < q.1 ∨ (p.1 = q.1 ∧ (p.2.1 < q.2.1 ∨ (p.2.1 = q.2.1 ∧ p.2.2 < q.2.2))) := by
  unfold lex3
  by_cases e : p.1 = q.1
  · rw [if_pos e, lexB_iff]; omega
  · rw [if_neg e, decide_eq_true_eq]; omega
theorem lex3_no {p q : I3} : lex3 p q = false ↔ ¬ (p.1 < q.1 ∨ (p.1 = q.1 ∧ (p.2.1 < q.2.1 ∨ (p.2.1 = q.2.1 ∧ p.2.2 < q.2.2)))) := by
  rw [← lex3_iff]; cases lex3 p q <;> simp
theorem swo3 (k : Value → I3) : Swo fun v u => lex3 (k v) (k u) := by
  refine ⟨fun x y h => ?_, fun x y z h1 h2 => ?_⟩
  · have a := lex3_iff.mp h
    refine lex3_no.mpr ?_
    omega
  · have a := lex3_no.mp h1
    have b := lex3_no.mp h2
    refine lex3_no.mpr ?_
    omega
def IsTrip (h : Heap) (v : Value) (k : I3) : Prop := ∃ (a : Addr) (o : Obj) (t u w : Tok) (n : Nat), v = .ref a ∧ h.get? a = some o ∧ o.cls = .type "tuple" ∧ o.data = .seq #[.int k.1 t, .int k.2.1 u, .int k.2.2 w] n
theorem IsTrip.keeps {h h' : Heap} {v : Value} {k : I3} (x : IsTrip h v k) (kp : ∀ b o, h.get? b = some o → o.cls = .type "tuple" → h'.get? b = some o) : IsTrip h' v k := by
  obtain ⟨a, o, t, u, w, n, e, ho, hc, hd⟩ := x
  exact ⟨a, o, t, u, w, n, e, kp _ _ ho hc, hc, hd⟩
section
variable {prog : Program} {w : World} {A : Around} {E : Value → Shared → Prop} {s : Shared}
theorem trip_cmp {vs : List Value} {k : Value → I3} (hp : ∀ v ∈ vs, IsTrip s.heap v (k v)) : Cmp prog w A s (tuples' true) (fun p => p.1 ∈ vs) (lt2 fun v u => lex3 (k v) (k u)) := by
  intro p q hm hm'
  have h1 := hp _ hm
  have h2 := hp _ hm'
  show wpAny (model prog w) A (keyLt' (tuples' true) p.1 q.1) (fun r s' => s' = s ∧ r = lex3 (k p.1) (k q.1)) (fun _ _ => False) s
  generalize k p.1 = K1 at h1 ⊢
  generalize k q.1 = K2 at h2 ⊢
  obtain ⟨x, y, z⟩ := K1
  obtain ⟨x', y', z'⟩ := K2
  obtain ⟨a, o, t, u, v, n, e, ho, hc, hd⟩ := h1
  obtain ⟨a', o', t', u', v', n', e', ho', hc', hd'⟩ := h2
  rw [e, e']
  refine PySem.W.kat_lt ho hd ho' hd' ?_
  show PySem.W.KatLex prog w A true (decide (3 < 3)) _ [(.int x t, .int x' t'), (.int y u, .int y' u'), (.int z v, .int z' v')] 0 s
  refine PySem.W.kat_cons (SeqAt.EqAt.int_int x t x' t' prog w _ _ ?_)
  refine PySem.W.kat_go (fun e1 => ?_) (fun e1 => ?_)
  · have ex : x = x' := by simpa using e1
    refine PySem.W.kat_yes (PySem.W.kat_cons (SeqAt.EqAt.int_int y u y' u' prog w _ _ ?_))
    refine PySem.W.kat_go (fun e2 => ?_) (fun e2 => ?_)
    · have ey : y = y' := by simpa using e2
      refine PySem.W.kat_yes (PySem.W.kat_cons (SeqAt.EqAt.int_int z v z' v' prog w _ _ ?_))
      refine PySem.W.kat_go (fun e3 => ?_) (fun e3 => ?_)
      · have ez : z = z' := by simpa using e3
        refine PySem.W.kat_yes (PySem.W.kat_nil ⟨rfl, (lex3_no.mpr ?_).symm⟩)
        dsimp only
        omega
      · refine PySem.W.kat_no (PySem.W.kat_one _ _ (PyProof.Rows.lt_int ?_))
        refine (show s = s ∧ decide (z < z') = lex3 (x, y, z) (x', y', z') from ⟨rfl, ?_⟩)
        rw [Bool.eq_iff_iff, lex3_iff, decide_eq_true_eq]
        dsimp only
        omega
    · have ey : ¬ y = y' := by simpa using e2
      refine PySem.W.kat_no (PySem.W.kat_one _ _ (PyProof.Rows.lt_int ?_))
      refine (show s = s ∧ decide (y < y') = lex3 (x, y, z) (x', y', z') from ⟨rfl, ?_⟩)
      rw [Bool.eq_iff_iff, lex3_iff, decide_eq_true_eq]
      dsimp only
      omega
  · have ex : ¬ x = x' := by simpa using e1
    refine PySem.W.kat_no (oneLt_int ⟨rfl, ?_⟩)
    rw [Bool.eq_iff_iff, lex3_iff, decide_eq_true_eq]
    dsimp only
    omega
theorem trip_firsts {h : Heap} : ∀ vs : List Value, (∀ v ∈ vs, ∃ k, IsTrip h v k) → ∃ fs : List Value, PySem.W.KatTups h vs fs ∧ fs.length = vs.length ∧ ∀ f ∈ fs, ∃ x t, f = .int x t
  | [], _ => ⟨[], .nil, rfl, by simp⟩
  | v :: vs, hh => by
    obtain ⟨fs, k, hl, hi⟩ := trip_firsts vs fun u hu => hh u (List.mem_cons_of_mem _ hu)
    obtain ⟨⟨x, y, z⟩, a, o, t, u, w, n, rfl, ho, hc, hd⟩ := hh v (List.mem_cons_self ..)
    refine ⟨.int x t :: fs, .cons ho hc hd rfl k, by rw [List.length_cons, List.length_cons, hl], fun f hf => ?_⟩
    rcases List.mem_cons.mp hf with rfl | hf
    · exact ⟨x, t, rfl⟩
    · exact hi f hf
/-- the items of a tuple, gathered into a list -/
theorem gather_tuple {l : Addr} {vs : List Value} {Q : List Value → Shared → Prop} (hl : s.heap.IsTuple l vs.toArray) (hz : vs.length ≤ sizeLine) (h : Q vs { s with heap := (s.heap.push (seqObj "list" #[] 0)).update s.heap.objs.size (Obj.mapSeq (· ++ vs.toArray)) }) :
    wpAny (model prog w) A (collect (.ref l)) Q E s := by
  obtain ⟨o, ho, hc, n, hd⟩ := id hl
  unfold collect
  refine wpAny_bind (wpAny_runValue (codeAny_builtin entry_proto_collect' ?_))
  show wpAny _ _ (newList [] >>= fun l' => again (.builtin "list.__iadd__" ⟨[l', .ref l], []⟩)) _ _ s
  refine wpAny_bind (wpAny_newList (wpAny_pure ⟨Code.quiet_builtin _ (by decide +kernel), codeAny_builtin entry_list_iadd' ?_⟩))
  show wpAny _ _ (Builtin.List.listExtendWith (.ref s.heap.objs.size) (.ref l) (.ref s.heap.objs.size)) _ _ { s with heap := s.heap.push (seqObj "list" #[] 0) }
  have hL := Heap.get?_push_size s.heap (o := seqObj "list" #[] 0) rfl
  have hT : (s.heap.push (seqObj "list" #[] 0)).get? l = some o := Heap.get?_push_of_some _ ho
  unfold Builtin.List.listExtendWith
  refine wpAny_bind (wpAny_typeOf (T := "tuple") ⟨o, hT, hc⟩ ?_)
  have two : (Value.type "tuple" == Value.type "tuple") = true := rfl
  rw [if_pos (by rw [two]; simp)]
  refine wpAny_bind (listItems_at hT hd (wpAny_bind (listItems_at (xs := #[]) (n := 0) hL rfl ?_)))
  rw [if_neg (by simp)]
  refine wpAny_bind (listUpdate_at (xs := #[]) (n := 0) hL rfl ?_ (Nat.zero_le _) (by show (#[] ++ vs.toArray).size ≤ sizeLine + 1; simp only [Array.size_append, List.size_toArray, List.length_nil]; omega))
  refine wpAny_pure ?_
  show wpAny (model prog w) A (load s.heap.objs.size >>= fun o => match o.data with
    | .seq xs _ => pure xs.toList
    | _ => unsupported "internal:collect") Q E { s with heap := (s.heap.push (seqObj "list" #[] 0)).update s.heap.objs.size (Obj.mapSeq (· ++ vs.toArray)) }
  refine wpAny_bind (wpAny_load (get?_update_seq hL _) ?_)
  show wpAny _ _ (pure ((#[] : Array Value) ++ vs.toArray).toList) Q E _
  have e : ((#[] : Array Value) ++ vs.toArray).toList = vs := by simp
  rw [e]
  exact wpAny_pure h
theorem trips_sortable {vs : List Value} {k : Value → I3} (h2 : 2 ≤ vs.length) (hp : ∀ v ∈ vs, IsTrip s.heap v (k v)) {h₁ : Heap} {a : Addr} (ha : h₁.get? a = some (seqObj "list" vs.toArray 0)) (kk : ∀ b o, s.heap.get? b = some o → b ≠ a ∧ h₁.get? b = some o) :
    SortableO prog w A { s with heap := h₁ } a vs fun v u => lex3 (k v) (k u) := by
  intro h' keep
  have hp' : ∀ v ∈ vs, IsTrip h' v (k v) := fun v hm => (hp v hm).keeps fun b o e c => keep b o (kk b o e).1 (kk b o e).2
  obtain ⟨fs, f1, f2, f3⟩ := trip_firsts vs fun v hm => ⟨_, hp' v hm⟩
  refine ⟨tuples' true, fun Q E hq => ?_, trip_cmp (s := { s with heap := h' }) hp'⟩
  refine PySem.W.kat_kind (T := .type "int") f1 (by omega) (fun f hm => ?_) (by rfl) ?_
  · obtain ⟨x, t, rfl⟩ := f3 f hm
    exact PySem.W.Looks.now
  · have e : (Value.type "int" != Value.type "tuple") = true := by first | decide +kernel | rfl | decide
    rw [e]
    exact hq
theorem sorted_trips {l : Addr} {vs : List Value} {k : Value → I3} {Q : Value → Shared → Prop} (hl : s.heap.IsList l vs.toArray) (hz : vs.length ≤ sizeLine) (hp : ∀ v ∈ vs, IsTrip s.heap v (k v))
    (h : ∀ (h' : Heap) (d : Addr) (out : List Value), Srtd (fun v u => lex3 (k v) (k u)) out → out.Perm vs → (∀ b o, s.heap.get? b = some o → h'.get? b = some o) → s.heap.objs.size ≤ d → (∃ n, h'.get? d = some (seqObj "list" out.toArray n)) → Q (.ref d) { s with heap := h' }) :
    wpAny (model prog w) A (call (.builtin "sorted") [.ref l]) Q E s :=
  sorted_ord (swo3 k) hl hz (fun h2 h₁ a ha kk => trips_sortable h2 hp ha kk) fun out hs hb => h _ _ out hs hb.perm (fun b o e => sortedAll_old e) (Nat.le_succ _) (sortedAll_at s.heap vs out.toArray)
/-- of a tuple -/
theorem sorted_tripsT {l : Addr} {vs : List Value} {k : Value → I3} {Q : Value → Shared → Prop} (hl : s.heap.IsTuple l vs.toArray) (hz : vs.length ≤ sizeLine) (hp : ∀ v ∈ vs, IsTrip s.heap v (k v))
    (h : ∀ (h' : Heap) (d : Addr) (out : List Value), Srtd (fun v u => lex3 (k v) (k u)) out → out.Perm vs → (∀ b o, s.heap.get? b = some o → h'.get? b = some o) → s.heap.objs.size ≤ d → (∃ n, h'.get? d = some (seqObj "list" out.toArray n)) → Q (.ref d) { s with heap := h' }) :
    wpAny (model prog w) A (call (.builtin "sorted") [.ref l]) Q E s := by
  refine Calls.call_function_entry kind_sorted plain_sorted entry_sorted (args_sorted1 _) ?_
  unfold Builtin.«sorted»
  generalize hg : (s.heap.push (seqObj "list" #[] 0)).update s.heap.objs.size (Obj.mapSeq (· ++ vs.toArray)) = g1
  have zg : g1.objs.size = s.heap.objs.size + 1 := by rw [← hg, Heap.size_update, size_push']
  refine wpAny_bind (m := checkCount "sorted" 1 1 _) (wpAny_pure (wpAny_bind (gather_tuple hl hz (wpAny_bind (wpAny_newList ?_ hz)))))
  show wpAny _ _ _ _ _ { s with heap := ((s.heap.push (seqObj "list" #[] 0)).update s.heap.objs.size (Obj.mapSeq (· ++ vs.toArray))).push (seqObj "list" vs.toArray 0) }
  rw [hg, zg]
  have hN : (g1.push (seqObj "list" vs.toArray 0)).get? (s.heap.objs.size + 1) = some (seqObj "list" vs.toArray 0) := zg ▸ Heap.get?_push_size g1 (o := seqObj "list" vs.toArray 0) rfl
  have kp : ∀ b o, s.heap.get? b = some o → b ≠ s.heap.objs.size + 1 ∧ (g1.push (seqObj "list" vs.toArray 0)).get? b = some o := fun b o e => by
    have lt : b < s.heap.objs.size := Heap.lt_size e
    exact ⟨Nat.ne_of_lt (Nat.lt_succ_of_lt lt), Heap.get?_push_of_some _ (by rw [← hg, Heap.get?_update_ne _ _ _ _ (Nat.ne_of_lt lt)]; exact Heap.get?_push_of_some _ e)⟩
  refine wpAny_bind (wpAny_holding (wpAny_call_entry slot_list_sort ⟨_, hN, rfl⟩ entry_list_sort (list_sort_ord (swo3 k) hN hz (fun h2 => trips_sortable h2 hp hN kp) fun out hs hb => ⟨_, rfl, wpAny_pure ⟨_, rfl, ?_⟩⟩) (args_list_sort _)))
  have r := h (sortedAll s.heap vs out.toArray) _ out hs hb.perm (fun b o e => sortedAll_old e) (Nat.le_succ _) (sortedAll_at s.heap vs out.toArray)
  unfold sortedAll at r
  rw [hg] at r
  exact r
end
end SrtO
namespace LW
open PySem PySem.Spec PyProof.Rows L2
def rlK (r : Rl) : SrtO.I3 := ((r.1 : Int), (r.2.1 : Int), (r.2.2 : Int))
/-- sorted(xs), xs a list of rules -/
def rSortR (K : PySem.W.Frag) : List V → Hp → VK → Prop := fun vs H Q => ∃ (a : Addr) (xs : List V) (rs : List Rl), vs = [V.ref a] ∧ (SqL K H a xs ∨ SqT K H a xs) ∧ DpAll K H xs (rs.map rlD) ∧
  ∀ (us : List Rl) (ys : List V) (p : Addr), us.Perm rs → us.Pairwise (fun r t => ¬ rlLt t r) → DpAll K H ys (us.map rlD) → H p = none → Q (.ref p) (upd H p (.lst ys))
theorem rl_split {K : PySem.W.Frag} {H : Hp} : ∀ {xs : List V} {rs : List Rl}, DpAll K H xs (rs.map rlD) → ∀ (i : Nat) (r : Rl), rs[i]? = some r → ∃ t : Addr, xs[i]? = some (.ref t) ∧ SqT K H t [.int r.1, .int r.2.1, .int r.2.2]
  | _, [], _, i, r, e => by simp at e
  | _, r0 :: rs, h, i, r, e => by
    cases h with
    | cons h1 h2 =>
      cases i with
      | zero =>
        simp at e
        subst e
        obtain ⟨t, zs, rfl, hs, ha⟩ := Dp.tupI h1
        obtain rfl := dpAll_ints3 ha
        exact ⟨t, by simp, hs⟩
      | succ i =>
        obtain ⟨t, e1, e2⟩ := rl_split h2 i r (by simpa using e)
        exact ⟨t, by simpa using e1, e2⟩
def keyH (h : Heap) : Value → SrtO.I3
  | .ref a => match h.get? a with
    | some ⟨_, _, .seq arr _, _⟩ => match arr.toList with
      | [.int x _, .int y _, .int z _] => (x, y, z)
      | _ => (0, 0, 0)
    | _ => (0, 0, 0)
  | _ => (0, 0, 0)
theorem keyH_of {h : Heap} {v : Value} {k : SrtO.I3} (x : SrtO.IsTrip h v k) : keyH h v = k := by
  obtain ⟨a, ⟨oc, od, dt, sl⟩, t, u, w, n, rfl, ho, hc, hd⟩ := x
  cases (show dt = _ from hd)
  unfold keyH
  simp only [ho]
def rlOf (k : SrtO.I3) : Rl := (k.1.toNat, k.2.1.toNat, k.2.2.toNat)
theorem rlOf_rlK (r : Rl) : rlOf (rlK r) = r := by
  obtain ⟨a, b, c⟩ := r
  simp [rlOf, rlK]
section
variable {X : Cx}
theorem trip_raw {pins : List (Addr × Obj)} {σ : L2.St} {H : Hp} {s : Shared} (I : Inv X pins σ H s) {t : Addr} {r : Rl} (h : SqT X.K H t [.int r.1, .int r.2.1, .int r.2.2]) : SrtO.IsTrip s.heap (.ref t) (rlK r) := by
  obtain ⟨its, rv, pt, _⟩ := I.tuple h
  obtain ⟨o, ho, hc, n, hd⟩ := pt
  cases rv with
  | cons r1 rv => cases rv with
    | cons r2 rv => cases rv with
      | cons r3 rv =>
        cases rv
        obtain ⟨t1, rfl⟩ := r1
        obtain ⟨t2, rfl⟩ := r2
        obtain ⟨t3, rfl⟩ := r3
        exact ⟨t, o, t1, t2, t3, n, rfl, ho, hc, hd⟩
theorem cr_sortR : CallR X (.builtin "sorted") (rSortR X.K) := by
  intro pins s σ H vs us Q I r h
  obtain ⟨a, xs, rs, rfl, hs, hd, q⟩ := h
  obtain ⟨its, rv, hl, hz⟩ : ∃ its, Vals xs its ∧ (s.heap.IsList a its.toArray ∨ s.heap.IsTuple a its.toArray) ∧ xs.length ≤ sizeLine := by
    rcases hs with hs | hs
    · obtain ⟨its, rv, hl, hz⟩ := I.list hs
      exact ⟨its, rv, .inl hl.isList, hz⟩
    · obtain ⟨its, rv, hl, hz⟩ := I.tuple hs
      exact ⟨its, rv, .inr hl, hz⟩
  obtain ⟨u, rfl, ru⟩ := vals1 r
  obtain rfl : u = Value.ref a := ru
  have lx := hd.length
  rw [List.length_map] at lx
  have lv := rv.length
  -- each item
  have each : ∀ (i : Nat) (v : Value), its[i]? = some v → ∃ (r : Rl) (t : Addr), rs[i]? = some r ∧ v = .ref t ∧ xs[i]? = some (.ref t) ∧ SqT X.K H t [.int r.1, .int r.2.1, .int r.2.2] ∧ SrtO.IsTrip s.heap v (rlK r) := fun i v hv => by
    have hi : i < rs.length := by have := (List.getElem?_eq_some_iff.mp hv).1; omega
    obtain ⟨t, e1, e2⟩ := rl_split hd i rs[i] (List.getElem?_eq_getElem hi)
    obtain ⟨v', e3, e4⟩ := rv.get e1
    rw [hv] at e3
    cases e3
    cases (show v = .ref t from e4)
    exact ⟨rs[i], t, List.getElem?_eq_getElem hi, rfl, e1, e2, trip_raw I e2⟩
  have eachM : ∀ v ∈ its, ∃ (r : Rl) (t : Addr), v = .ref t ∧ SqT X.K H t [.int r.1, .int r.2.1, .int r.2.2] ∧ SrtO.IsTrip s.heap v (rlK r) := fun v hv => by
    obtain ⟨i, hi⟩ := List.getElem?_of_mem hv
    obtain ⟨r, t, _, e, _, e2, e3⟩ := each i v hi
    exact ⟨r, t, e, e2, e3⟩
  have mapped : its.map (fun v => rlOf (keyH s.heap v)) = rs := by
    refine List.ext_getElem? fun i => ?_
    rw [List.getElem?_map]
    cases hv : its[i]? with
    | none =>
      rw [List.getElem?_eq_none (by have := List.getElem?_eq_none_iff.mp hv; omega)]
      rfl
    | some v =>
      obtain ⟨r, t, e1, _, _, _, e3⟩ := each i v hv
      rw [e1, Option.map_some, keyH_of e3, rlOf_rlK]
  have trips : ∀ v ∈ its, SrtO.IsTrip s.heap v (keyH s.heap v) := fun v hv => by
    obtain ⟨r, t, _, _, e3⟩ := eachM v hv
    rw [keyH_of e3]
    exact e3
  have fin : ∀ (h' : Heap) (d : Addr) (out : List Value), SrtO.Srtd (fun v u => SrtO.lex3 (keyH s.heap v) (keyH s.heap u)) out → out.Perm its → (∀ b o, s.heap.get? b = some o → h'.get? b = some o) → s.heap.objs.size ≤ d → (∃ n, h'.get? d = some (seqObj "list" out.toArray n)) → EP X pins σ Q (.ref d) { s with heap := h' } := by
    intro h' d out h1 h2 kp hd' hn
    have outM : ∀ v ∈ out, ∃ (r : Rl) (t : Addr), v = .ref t ∧ SqT X.K H t [.int r.1, .int r.2.1, .int r.2.2] ∧ SrtO.IsTrip s.heap v (rlK r) := fun v hv => eachM v (h2.mem_iff.mp hv)
    obtain ⟨n, hn⟩ := hn
    have key : ∀ l : List Value, (∀ v ∈ l, ∃ (r : Rl) (t : Addr), v = .ref t ∧ SqT X.K H t [.int r.1, .int r.2.1, .int r.2.2] ∧ SrtO.IsTrip s.heap v (rlK r)) → DpAll X.K H (l.map bkV) ((l.map fun v => rlOf (keyH s.heap v)).map rlD) ∧ Vals (l.map bkV) l := fun l => by
      induction l with
      | nil => exact fun _ => ⟨.nil, .nil⟩
      | cons v l ih =>
        intro hh
        obtain ⟨i1, i2⟩ := ih fun x hx => hh x (List.mem_cons_of_mem _ hx)
        obtain ⟨r, t, rfl, e2, e3⟩ := hh v (List.mem_cons_self ..)
        refine ⟨.cons ?_ i1, .cons rfl i2⟩
        show Dp X.K H (.ref t) (rlD (rlOf (keyH s.heap (.ref t))))
        rw [keyH_of e3, rlOf_rlK]
        exact .tup e2 (.cons (.int _) (.cons (.int _) (.cons (.int _) .nil)))
    obtain ⟨k1, k2⟩ := key out outM
    have lo : out.length = its.length := h2.length_eq
    refine ⟨.ref d, upd H d (.lst (out.map bkV)), I.laid (t' := s.toks) kp hd' ⟨?_, out, n, k2, hn⟩, rfl, q (out.map fun v => rlOf (keyH s.heap v)) _ d ?_ ?_ k1 (I.hok.fresh hd')⟩
    · rw [List.length_map, lo, ← lv]; exact hz
    · rw [← mapped]; exact h2.map _
    · rw [List.pairwise_map]
      refine List.Pairwise.imp_of_mem (fun {v u} hv hu hlt => ?_) h1
      obtain ⟨r1, t1, _, _, f1⟩ := outM v hv
      obtain ⟨r2, t2, _, _, f2⟩ := outM u hu
      have z : SrtO.lex3 (keyH s.heap u) (keyH s.heap v) = false := hlt
      rw [keyH_of f1, keyH_of f2] at z ⊢
      rw [rlOf_rlK, rlOf_rlK]
      have z2 := SrtO.lex3_no.mp z
      unfold rlLt
      unfold rlK at z2
      dsimp only at z2
      omega
  rcases hl with hl | hl
  · exact SrtO.sorted_trips (k := keyH s.heap) hl (by rw [← lv]; exact hz) trips fin
  · exact SrtO.sorted_tripsT (k := keyH s.heap) hl (by rw [← lv]; exact hz) trips fin
end
end LW
set_option maxHeartbeats 2000000
/-! own exceptions made without arguments: what is told of one in the air is its class, that it has neither dict nor context, and where its empty tuple of arguments lies. -/
namespace XA
open PySem PySem.Spec PyProof.Rows L2
/-- the place of the arguments stands where the layer has the place of the dict -/
def Zt (c : Value) (d : Option Addr) (o : Obj) : Prop := (o.cls = c ∧ o.dict = none) ∧ PXN.CtxN o ∧ ∃ t, d = some t ∧ ∀ vs : Array Value, o.data = .fields vs → vs[0]? = some (.ref t)
theorem zt_steady {c : Value} {d : Option Addr} : PXN.Steady1 (Zt c d) := by
  rintro o v ⟨⟨h1, h2⟩, h3, t, h4, h5⟩
  refine ⟨⟨PXN.steady_cls o v h1, PXN.steady_dict o v h2⟩, PXN.steady_ctx o v h3, t, h4, fun vs e => ?_⟩
  obtain ⟨oc, od, dt, sl⟩ := o
  cases dt with
  | fields w0 =>
    obtain rfl : w0.setIfInBounds 1 v = vs := Data.fields.inj e
    have q := h5 w0 rfl
    rw [← q]
    first
    | exact Array.getElem?_setIfInBounds_ne (by decide)
    | simp [Array.getElem?_setIfInBounds]
  | _ => cases e
/-- in the air of X -/
def Air (X : Cx) (W : WX) (u : Value) (z : Shared) : Prop := ∃ (a : Addr) (G : Heap) (y : Shared) (ps : List (Addr × Obj)) (τ : L2.St) (J : Hp) (c : Value) (d : Option Addr),
  u = .ref a ∧ Inv X ps τ J y ∧ ((∀ b o, y.heap.get? b = some o → b ∉ frs X.stack → G.get? b = some o) ∧ y.heap.UpToSlots z.heap) ∧ Sky G X.stack a (Zt c d) X.env.locals z.heap ∧ (J a = none ∧ z.os = y.os ∧ AllBare z.gens) ∧ W c d τ J
def Tk (X : Cx) (W : WX) : Prop := ∀ u z, Air X W u z → X.xe u z
/-- behind a call -/
def CXA (P : Program) (w : World) (outer : List Env) (H : Hp) (s : Shared) (E : XK) (u : Value) (z : Shared) : Prop := ∃ (a : Addr) (G : Heap) (J : Hp) (c : Value) (d : Option Addr),
  u = .ref a ∧ HandSPX.FlyingZ G outer a (Zt c d) z.heap ∧ (HOk P w J G ∧ UB (frs outer) H J s.heap G z.heap) ∧ (J a = none ∧ z.os = s.os ∧ AllBare z.gens) ∧ E c d J
section
variable {X : Cx} {ps : List (Addr × Obj)} {τ : L2.St} {H : Hp} {y s z : Shared} {W : WX} {E : XK}
theorem air_call (I : Inv X ps τ H s) (hW : ∀ c d J, E c d J → W c d τ J) {u : Value} (h : CXA X.prog X.w X.stack H s E u z) : Air X W u z := by
  obtain ⟨a, G, J, c, d, eu, fl, ⟨hok, ub⟩, m, hE⟩ := h
  obtain ⟨D, d1, d2⟩ := restrict z.heap (fun b => (G.get? b).isSome || decide (b ∈ frs X.stack))
  have yes1 : ∀ b o, G.get? b = some o → D.get? b = some o := fun b o e => (d1 b (by simp [e])).trans (fl.1 b o e)
  have yes2 : ∀ b, b ∈ frs X.stack → D.get? b = z.heap.get? b := fun b e => d1 b (by simp [e])
  have back : ∀ b o, D.get? b = some o → z.heap.get? b = some o ∧ ((G.get? b).isSome = true ∨ b ∈ frs X.stack) := fun b o e => by
    cases q : ((G.get? b).isSome || decide (b ∈ frs X.stack)) with
    | true => exact ⟨(d1 b q).symm.trans e, by simpa [Bool.or_eq_true] using q⟩
    | false => exact nomatch (d2 b q).symm.trans e
  have sl : ∀ b o, s.heap.get? b = some o → b ∈ frs X.stack → ∃ x, D.get? b = some { o with slots := x } := fun b o e hb => let ⟨x, q⟩ := ub.slot b o e hb; ⟨x, (yes2 b hb).trans q⟩
  have un : Un (frs X.stack) [] H J s.heap D := {
    keep := fun b o e n hb _ => yes1 b o (ub.keep b o e n hb), slot := fun b o e _ hb _ => sl b o e hb, free := fun b o e n _ => ub.free b o e n,
    there := fun b o e _ => if hb : b ∈ frs X.stack then (let ⟨x, q⟩ := sl b o e hb; ⟨_, q⟩) else (let ⟨o', q⟩ := ub.there b o e hb; ⟨o', yes1 b o' q⟩), tups := ub.tups, frzs := ub.frzs, tbls := ub.tbls }
  have K := I.call (g' := z.gens) (t' := z.toks) (d' := z.drawn) un (hok.kept yes1) m.2.2 (fun _ q => nomatch q)
  refine ⟨a, G, _, ps, τ, J, c, d, eu, K, ⟨fun b o e hb => ?_, Heap.UpToSlots.of_keeps fun b o e => (back b o e).1⟩, .inr (.inl fl), m, hW _ _ _ hE⟩
  rcases back b o e with ⟨e', q | q⟩
  · obtain ⟨o', q⟩ := Option.isSome_iff_exists.mp q
    exact q.trans ((fl.1 b o' q).symm.trans e')
  · exact absurd q hb
theorem air_new {a : Addr} {oe : Obj} {vs : Array Value} {c : Value} {d : Option Addr} (I : Inv X ps τ H y) (k : ∀ b o, y.heap.get? b = some o → z.heap.get? b = some o) (nw : y.heap.get? a = none) (he : z.heap.get? a = some oe) (hz : Zt c d oe) (hd : oe.data = .fields vs ∧ vs[1]? = some .none)
    (m : H a = none ∧ z.os = y.os ∧ AllBare z.gens) (w : W c d τ H) : Air X W (.ref a) z := by
  have hid : ∀ b o, (PySem.W.hideAll y.heap (frs X.stack)).get? b = some o → y.heap.get? b = some o := fun b o e => PySem.W.of_hideAll _ e
  have none' : (PySem.W.hideAll y.heap (frs X.stack)).get? a = none := by
    cases q : (PySem.W.hideAll y.heap (frs X.stack)).get? a with
    | none => rfl
    | some o => exact nomatch nw.symm.trans (hid a o q)
  have ff : z.heap.FunFrames (PySem.W.hideAll y.heap (frs X.stack)) X.stack := Heap.FunFrames.of_keeps (fun b o e _ => ⟨o, k b o e, rfl⟩) (funFrames_none I.stack fun b hb => PySem.W.hideAll_none _ hb)
  exact ⟨a, _, y, ps, τ, H, c, d, rfl, I, ⟨fun b o e hb => PySem.W.hideAll_get _ e hb, Heap.UpToSlots.of_keeps k⟩, .inl ⟨fun b o e => k b o (hid b o e), none', ff, oe, vs, he, hz, hd.1, hd.2⟩, m, w⟩
theorem air_leave (hs : X.stack = X.env :: X.outer) (hf : X.env.frame = some X.env.locals) (hex : X.ex = []) {F : Value → Shared → Prop} (hW : ∀ c d τ H, W c d τ H → E c d H) {u : Value} (h : Air X W u z) :
    wpAny (model X.prog X.w) X.A (leaving X.env u) (fun _ z' => CXA X.prog X.w X.outer X.H_0 X.s_0 E u z') F z := by
  obtain ⟨a, G, y, ps, τ, J, c, d, rfl, I, ⟨nb, up⟩, sky, ⟨na, os, ag⟩, w⟩ := h
  have fr : X.A.frames = some (X.env :: X.outer) := hs ▸ I.ok.frames
  have out : ∀ b o, X.s_0.heap.get? b = some o → b ∉ X.fs → b ∉ frs X.stack := fun b o e hb hm => (List.mem_cons.mp (I.stkSub b hm)).elim (fun q => Nat.lt_irrefl _ (Nat.lt_of_lt_of_le (q ▸ Heap.lt_size e) I.ok.above)) hb
  have nex : ∀ b, b ∉ X.ex := fun b hb => by rw [hex] at hb; cases hb
  have grd := I.inGround nb
  have fin : ∀ h', HandSPX.FlyingZ G X.outer a (Zt c d) h' → z.heap.UpToSlots h' → CXA X.prog X.w X.outer X.H_0 X.s_0 E (.ref a) { z with heap := h' } := fun h' fl up2 => by
    refine ⟨a, G, J, c, d, rfl, fl, ⟨grd, { keep := fun b o e n hb => nb b o (I.base.keep b o e n hb (nex b)) (out b o e hb), slot := fun b o e hb => ?_, free := fun b o e n => I.base.free b o e n (nex b), there := fun b o e hb => ?_, tups := I.base.tups, frzs := I.base.frzs, tbls := I.base.tbls }⟩, ⟨na, os.trans I.os, ag⟩, hW _ _ _ _ w⟩
    · obtain ⟨_, o0, e0, nf⟩ := I.ok.funs.mem hb
      obtain rfl : o = o0 := Option.some.inj (e.symm.trans e0)
      obtain ⟨x1, q1⟩ := I.base.slot b o e (I.ok.frf b hb) hb (nex b)
      obtain ⟨x2, q2⟩ := up b _ q1 nf
      obtain ⟨x3, q3⟩ := up2 b _ q2 nf
      exact ⟨x3, q3⟩
    · obtain ⟨o', q⟩ := I.base.there b o e (nex b)
      exact ⟨o', nb b o' q (out b o e hb)⟩
  rw [hs] at sky
  rcases sky with ⟨k1, k2, k3, oe, vs, k4, k5, k6, k7⟩ | k | k
  · exact PXN.leaving_firstZ zt_steady fr k3 hf k4 k1 k2 k6 k7 k5 fin
  · exact PXN.leaves_onZ zt_steady fr hf k fin
  · exact HandSPX.leaves_heldZ hf k fin
theorem tk_of (hs : X.stack = X.env :: X.outer) (hf : X.env.frame = some X.env.locals) (hex : X.ex = []) {F : Value → Shared → Prop} (hx : X.xe = fun e z => wpAny (model X.prog X.w) X.A (leaving X.env e) (fun _ z' => CXA X.prog X.w X.outer X.H_0 X.s_0 E e z') F z) : Tk X (fun c d _ H => E c d H) :=
  fun u z h => hx ▸ air_leave (W := fun c d _ H => E c d H) (E := E) hs hf hex (fun _ _ _ _ q => q) h
/-- what a callee may let out is taken -/
theorem pass_in (tk : Tk X W) (hW : ∀ c d τ H, E c d H → W c d τ H) : Passes (CXA X.prog X.w) X E := fun _ τ _ _ e z I h => tk e z (air_call I (fun c d J q => hW c d τ J q) h)
theorem pass_at (tk : Tk X W) (τ : L2.St) : PassesAt (CXA X.prog X.w) X τ (WE W τ) := fun _ _ _ e z I h => tk e z (air_call I (fun _ _ _ q => q) h)
theorem land {M : Model} {A : Around} {F : Value → Shared → Prop} {env : Env} {outer : List Env} {L a : Addr} {Z : Obj → Prop} {G : Heap} {Q : Unit → Shared → Prop} (hZ : PXN.Steady1 Z) (fr : A.frames = some (env :: outer)) (hf : env.frame = some L) (h : Sky G (env :: outer) a Z L s.heap)
    (hQ : ∀ h', HandSPX.FlyingZ G (env :: outer) a Z h' → s.heap.UpToSlots h' → Q () { s with heap := h' }) : wpAny M A (noteFrame (.ref a) env) (fun _ s' => wpAny M A (setFlight (.ref a) none) Q F s') F s := by
  have on : ∀ h1, HandSPX.HeldZ G (env :: outer) a Z L h1 → s.heap.UpToSlots h1 → wpAny M A (setFlight (.ref a) none) Q F { s with heap := h1 } := fun h1 q up => HandSPX.landsZ q fun h' fl up2 => hQ h' fl (up.trans up2)
  rcases h with ⟨k1, k2, k3, oe, vs, k4, k5, k6, k7⟩ | k | k
  · exact PXN.look_newZ hZ fr k3 hf k4 k1 k2 k6 k7 k5 on
  · exact PXN.looks_onZ hZ fr hf k on
  · exact HandSPX.againZ hf k.2.2.2 (on _ k (Heap.UpToSlots.refl _))
end
/-- raise C(), C an own class without own __init__: behind it the empty tuple of its arguments is tracked -/
theorem ps_raise0 {X : Cx} {W : WX} {C : Addr} {bmB : List Value} {B newId initId : String} {x : Str} {p pos pos' : Pos} (hc : X.calm = true) (tk : Tk X W) (F : ExcBaseFacts B newId initId bmB) (q : PySem.W.excIn X.K C bmB newId = true) (gC : X.mg x = some (.ref C)) (kC : PySem.W.keepIn X.K (.ref C) = true)
    (r : Raises X (.ref C)) (hg : Gl X x) (hdb : (x == ("__debug__" : Str)) = false := by decide) : PS X (.Raise (some (.Call (.Name x p) [] [] pos)) none pos') (fun _ σ H => ∀ t, H t = none → W (.ref C) (some t) σ (upd H t (.tup []))) := by
  refine ⟨fun pins s σ H D I h => ?_⟩
  show wpAny _ _ (do standAt pos'; raiseStmt X.env (some (do let v ← eval (.Call (.Name x p) [] [] pos) X.env; standAt pos'; pure v)) none) _ _ _
  refine wpAny_bind (wpAny_standAt (raise_made (I.ok.hd hc) (wpAny_bind (wpAny_mono (Q := fun u z => ∃ e, u = Value.ref e ∧ Heap.MadeExcOf s.heap z.heap e (.ref C) [] ∧ z.os = s.os ∧ z.gens = s.gens) ?_ (fun u z hu => wpAny_bind (wpAny_standAt (wpAny_pure ?_))) fun _ _ q => q))))
  · refine wpAny_Call_Name_kw (ld_glob I hg gC ?_ hdb)
    refine PySem.W.callWith_K0 I.kIn kC ?_
    show wpAny _ _ (call (.ref C) []) _ _ _
    obtain ⟨bm, N, nm, qn, bs, hdct, sn, sub, ab, col, dd, k0, k1, k2, k3, k5, mN, hC, hN, hni, T⟩ := exc_obj I.kIn q
    obtain ⟨hp, gg, dr, tk0, osx⟩ := s
    exact wpAny_call_exc_subT F T hC hN hni (fun h' e hm => ⟨e, rfl, hm, rfl, rfl⟩) (Nat.zero_le _)
  · obtain ⟨e, rfl, hm, hos, hgs⟩ := hu
    obtain ⟨t, he, nt, ht⟩ := hm.there
    have net : t ≠ e := fun w => by rw [w, he] at ht; cases ht
    have nH : H t = none := I.hok.gone nt
    have nE : H e = none := I.hok.gone hm.new
    -- the state without the exception: its arguments stand in it
    have k1 : ∀ b o, s.heap.get? b = some o → (PySem.W.hideAll z.heap [e]).get? b = some o := fun b o g => PySem.W.hideAll_get _ (hm.keeps b o g) (fun w => by rw [List.mem_singleton.mp w, hm.new] at g; cases g)
    have k2 : (PySem.W.hideAll z.heap [e]).get? t = some { cls := .type "tuple", data := .seq #[] } := PySem.W.hideAll_get _ ht (fun w => net (List.mem_singleton.mp w))
    have hokN : HOk X.prog X.w (upd H t (.tup [])) (PySem.W.hideAll z.heap [e]) := fun b o g => by
      by_cases hb : b = t
      · subst hb
        rw [upd_same] at g
        cases g
        exact ⟨Nat.zero_le _, [], .nil, ⟨_, k2, rfl, _, rfl⟩⟩
      · rw [upd_ne hb] at g
        exact (I.hok b o g).stay (fun c v _ w => k1 c v w) (fun c w => by rw [upd_ne (ne_of_none w nH)]; exact w) fun c xs w => by rw [upd_ne (ne_of_none w nH)]; exact w
    have ne1 : ∀ b o, s.heap.get? b = some o → b ≠ t := fun b o g w => by rw [w, nt] at g; cases g
    have ne2 : ∀ b u, H b = some u → (upd H t (.tup [])) b = some u := fun b u g => by rw [upd_ne (ne_of_none g nH)]; exact g
    have un : Un X.fs [] H (upd H t (.tup [])) s.heap (PySem.W.hideAll z.heap [e]) := ⟨fun b o g _ _ _ => k1 b o g, fun b o g _ _ _ => ⟨o.slots, k1 b o g⟩, fun b o g n _ => (upd_ne (ne1 b o g)).trans n, fun b o g _ => ⟨o, k1 b o g⟩, fun b xs g => ne2 b _ g, fun b o u g => ne2 b _ g, fun b ps g => ⟨#[], by rw [ne2 b _ g]; simp⟩⟩
    have J : Inv X pins σ (upd H t (.tup [])) { s with heap := PySem.W.hideAll z.heap [e] } := I.un (t' := s.toks) un hokN
    obtain ⟨r1, r2⟩ := r (model X.prog X.w) z.heap (I.kIn.keeps hm.keeps)
    refine ⟨e, _, _, .ref C, rfl, he, rfl, rfl, rfl, r1, r2, tk _ _ (air_new J (fun b o g => PySem.W.of_hideAll _ g) (PySem.W.hideAll_none _ (List.mem_singleton.mpr rfl)) he ⟨⟨rfl, rfl⟩, fun vs w => by cases w; rfl, t, rfl, fun vs w => by cases w; rfl⟩ ⟨rfl, rfl⟩ ⟨?_, hos, ?_⟩ (h t nH))⟩
    · rw [upd_ne net.symm]; exact nE
    · rw [hgs]; exact I.bare
end XA
set_option maxHeartbeats 2000000
/-! try: body, except C as n: suite, where whatever the body lets out is a C; calls of defs in the suite, which are told of the exception in hand -/
namespace XA
open PySem PySem.Spec PyProof.Rows L2
/-- the wish of the clause -/
def wC (K : PySem.W.Frag) (c : Value) (i : Nat) (ts : Addr → Value → Option Addr → TS) (D : Ends) : WX := fun cls d τ J => PySem.W.exmOne K cls c = some true ∧
  ∀ a, J a = none → ts a cls d { nx := fun τ' J' => D.nx (τ'.set i none) J', rt := D.rt, bk := fun τ' J' => D.bk (τ'.set i none) J', ct := fun τ' J' => D.ct (τ'.set i none) J' } (τ.set i (some (.ref a))) J
section
variable {X : Cx} {x n : Str} {c : Value} {i : Nat} {body suite : List Stmt} {b₀ : Stmt} {np pos pos' : Pos} {tb : WX → TS} {ts : Addr → Value → Option Addr → TS}
theorem ps_tryA (hs : X.stack = X.env :: X.outer) (hf : X.env.frame = some X.env.locals) (nd : X.N.Nodup) (hi : X.N[i]? = some n) (hl : X.env.kindOf n = some .local) (hc : Names X x c)
    (hb : ∀ (W : WX) (pn : List (Addr × Obj)) (xe : Value → Shared → Prop), Tk (X.tr pn xe) W → PassesOwn (model X.prog X.w) X.A X.env xe → PSs (X.tr pn xe) body (tb W))
    (hsu : ∀ (a : Addr) (oe : Obj) (cls : Value) (d : Option Addr) (pn : List (Addr × Obj)), Zt cls d oe → (∃ vs, oe.data = .fields vs) → PSs (X.suite a ((a, oe) :: pn)) (b₀ :: suite) (ts a cls d)) :
    PS X (.Try body [.ExceptHandler (some (.Name x np)) (some n) (b₀ :: suite) pos'] [] [] pos) (fun D σ H => tb (wC X.K c i ts D) D σ H) := by
  refine ⟨fun pins s σ H D I h => wpAny_Try_except (wpAny_mono ((hb (wC X.K c i ts D) (X.pn ++ pins) (fun e z => wpAny (model X.prog X.w) X.A (noteFrame e X.env) (fun _ z2 => wpAny (model X.prog X.w) X.A (setFlight e none) (fun _ z3 =>
    wpAny (model X.prog X.w) X.A (handleBy e X.env [.ExceptHandler (some (.Name x np)) (some n) (b₀ :: suite) pos']) (SP X pins D) X.xe z3) X.xe z2) X.xe z) (fun u z air => ?_) PassesOwn.looking).run [] s σ H D (I.toTry _) h) (fun f z hz => ?_) (fun _ _ q => q))⟩
  · obtain ⟨a, G, y, ps, τ, J, cls, d, rfl, J0, ⟨nb, up⟩, sky, ⟨na, os, ag⟩, hm, hgo⟩ := air
    have J1 : Inv X pins τ J y := J0.ofTry I.ok
    have fr : X.A.frames = some (X.env :: X.outer) := hs ▸ I.ok.frames
    have sky' : Sky G (X.env :: X.outer) a (Zt cls d) X.env.locals z.heap := hs ▸ sky
    show wpAny (model X.prog X.w) X.A (noteFrame (.ref a) X.env) _ _ _
    refine land zt_steady fr hf sky' (fun h3 fl up3 => ?_)
    have J3 : Inv X pins τ J { z with heap := h3 } := J1.landed nb fl.1 (up.trans up3) os ag
    obtain ⟨oe3, vs3, he3, hz3, hd3⟩ := fl.there
    have far : a ∉ frs (X.env :: X.outer) := fun q => by
      obtain ⟨_, o', e', nf⟩ := fl.2.2.1.mem q
      obtain rfl : oe3 = o' := Option.some.inj (he3.symm.trans e')
      exact nf _ hd3
    have nL : a ≠ X.env.locals := fun q => far (List.mem_filterMap.mpr ⟨X.env, .head _, hf.trans (congrArg some q.symm)⟩)
    have nF : a ∉ X.fs := fun q => by
      obtain ⟨e, m, g⟩ := List.mem_filterMap.mp q
      exact far (List.mem_filterMap.mpr ⟨e, .tail _ m, g⟩)
    have S3 := J3.suite he3 hd3 na nL nF
    refine wpAny_handleBy_cons (codeAny_handlers_test ?_) (fun q => nomatch q)
    have look : PySem.W.Looks (model X.prog X.w) h3 (typeOf (.ref a)) cls := fun A Q E s k q => wpAny_typeOf_ref (k _ _ he3) (hz3.1.1.symm ▸ q)
    have test : ∀ {Q : Value → Shared → Prop} {E : Value → Shared → Prop}, Q c { z with heap := h3 } → wpAny (model X.prog X.w) (X.A.mark (some (.ref a))) (eval (.Name x np) X.env) Q E { z with heap := h3 } := fun {Q E} q => by
      obtain ⟨g1, g2, g3 | ⟨g3, g4, g5⟩⟩ := hc
      · exact ld_glob (X := X.suite a ((a, oe3) :: (X.pn ++ pins))) S3 g1 g3 q g2
      · exact ld_blt (X := X.suite a ((a, oe3) :: (X.pn ++ pins))) S3 g1 g3 g4 q g5 g2
    refine test ((PySem.W.exm_one (M := model X.prog X.w) J3.kIn look hm).here ?_)
    refine codeAny_handlers_suite_as (HandSPX.lands_againZ fl fun h4 fl4 up4 => ?_)
    have J4 : Inv X pins τ J { z with heap := h4 } := J1.landed nb fl4.1 ((up.trans up3).trans up4) os ag
    obtain ⟨oe4, vs4, he4, hz4, hd4⟩ := fl4.there
    refine store_ok (X := X.suite a ((a, oe4) :: (X.pn ++ pins))) (v := .ref a) (J4.suite he4 hd4 na nL nF) nd hi (.inl hl) rfl (fun s5 S5 => ?_) (.inr hl)
    refine wpAny_mono ((hsu a oe4 cls d (X.pn ++ pins) hz4 ⟨_, hd4⟩).run [] s5 _ J _ S5 (hgo a na)) (fun f s6 q => ?_) (fun _ _ q => q.elim)
    have fin : ∀ {τ6 : L2.St} {J6 : Hp} {Q : Shared → Prop}, Inv (X.suite a ((a, oe4) :: (X.pn ++ pins))) [] τ6 J6 s6 → (∀ s7, Inv X pins (τ6.set i none) J6 s7 → Q s7) → wpAny (model X.prog X.w) X.A (do bindName X.env n .none; unbindBehindTheSuite X.env n pos') (fun _ s7 => Q s7) X.xe s6 :=
      fun S6 hq => gone_ok (S6.unsuite I.ok) nd hi hl hq
    cases f with
    | ret u => exact let ⟨v, τ6, J6, S6, r, w⟩ := q; fin S6 fun s7 J7 => ⟨v, _, J6, J7, r, w⟩
    | next => exact let ⟨τ6, J6, S6, w⟩ := q; fin S6 fun s7 J7 => ⟨_, J6, J7, w⟩
    | brk => exact let ⟨τ6, J6, S6, w⟩ := q; fin S6 fun s7 J7 => ⟨_, J6, J7, w⟩
    | cont => exact let ⟨τ6, J6, S6, w⟩ := q; fin S6 fun s7 J7 => ⟨_, J6, J7, w⟩
  · cases f with
    | ret u => exact let ⟨v, τ, J, Y, r, q⟩ := hz; ⟨v, τ, J, Y.ofTry I.ok, r, q⟩
    | next => exact let ⟨τ, J, Y, q⟩ := hz; wpAny_execs_nil ⟨τ, J, Y.ofTry I.ok, q⟩
    | brk => exact let ⟨τ, J, Y, q⟩ := hz; ⟨τ, J, Y.ofTry I.ok, q⟩
    | cont => exact let ⟨τ, J, Y, q⟩ := hz; ⟨τ, J, Y.ofTry I.ok, q⟩
end
/-! ### defs that are called in the suite -/
/-- the exception in hand -/
structure Hand (X : Cx) (a : Addr) (cls : Value) (d : Option Addr) : Prop where
  at_ : X.A.handled = some (.ref a)
  pin : ∃ oe, (a, oe) ∈ X.pn ∧ Zt cls d oe ∧ ∃ vs, oe.data = .fields vs
/-- a promise that is told of it -/
abbrev SpE := Addr → Value → Option Addr → Sp
structure FnE (P : Program) (w : World) (K : PySem.W.Frag) (mg : Str → Option Value) (base : Heap) (k : Nat) (f : Addr) (fd : FuncData) (ps : List Str) (sp : SpE) : Prop where
  len : ∀ a cls d vs H Q E, sp a cls d vs H Q E → vs.length = ps.length
  run : ∀ (A : Around) (outer : List Env) (s : Shared) (H : Hp) (args : Args) (us : List Value) (vs : List V) (Q : VK) (E : XK) (a : Addr) (oe : Obj) (cls : Value) (d : Option Addr), L2H.RoomH k A → A.handled = some (.ref a) → (Zt cls d oe ∧ ∃ ws, oe.data = .fields ws) → L2H.PinOk outer H s (a, oe) →
    Env0 P w K mg base A outer s H → BindsTo s fd args (ps.zip us) → Vals vs us → sp a cls d vs H Q E → codeAny (model P w) A (.call (.ref f) args) (CR CX0 outer P w H s Q E) s
theorem fnE_of {P : Program} {w : World} {K : PySem.W.Frag} {mg : Str → Option Value} {base : Heap} {k : Nat} {x qual : Str} {st : Stmt} {f : Addr} {fd : FuncData} {N ps : List Str} {sp : SpE} (F : Fun K x qual st f fd) (S : FnScope N ps (defScope st)) (len : ∀ a cls d vs H Q E, sp a cls d vs H Q E → vs.length = ps.length)
    (hbody : ∀ (cdv : Value) (A : Around) (outer : List Env) (s : Shared) (H : Hp) (vs : List V) (Q : VK) (E : XK) (a : Addr) (oe : Obj) (cls : Value) (d : Option Addr), Hand (L2H.cxH CX0 P w K mg base N qual (defScope st) f cdv A outer s H E (a, oe)) a cls d → L2H.RoomH k (A.deeper (envOfC qual (defScope st) s.heap.objs.size f cdv)) → sp a cls d vs H Q E →
      ∃ t, PSs (L2H.cxH CX0 P w K mg base N qual (defScope st) f cdv A outer s H E (a, oe)) (defBody st) t ∧ t { nx := fun _ H' => Q .non H', rt := Q } (L2.start N vs) H) : FnE P w K mg base (k + 1) f fd ps sp := by
  obtain ⟨oc, od, kV, doc, pm, an, cdv, ct, osl, rfl, lk, hcd⟩ := F.ex
  refine ⟨len, fun A outer s H args us vs Q E a oe cls d hr hh hz hpin e0 hb r hsp => ?_⟩
  have kin : K.In s.heap := e0.mod.kin.keeps fun b o e => (e0.bs b o e).1
  have hkind : ∀ y ∈ ps.zip us, (defScope st).names.lookup y.1 = some .local ∨ ((defScope st).names.lookup y.1 = some .cell ∧ ((cellsFrom (s.heap.objs.size + 1) (defScope st).names []).lookup y.1).isSome = true) := fun y hy =>
    (S.par y.1 (List.of_mem_zip hy).1).imp id fun q => ⟨q, PySem.W.cellsFrom_some _ _ _ (.inl q)⟩
  refine codeAny_call_function hr.depth (kin _ _ lk) rfl S.co S.gen rfl (PySem.W.codeRec_of kin hcd) (hb _ _ _ _ (wpAny_newFunctionEnv_cells S.kind hkind fun env he s1 y => ?_))
  subst he
  refine ⟨(e0.mod.nolimit.keeps fun b o e => (e0.bs b o e).1).keeps y.toInCall.keep, codeAny_func ?_⟩
  obtain ⟨t, ht, q⟩ := hbody cdv A outer s H vs Q E a oe cls d ⟨hh, oe, List.mem_singleton.mpr rfl, hz⟩ (hr.deeper _) hsp
  have I := L2H.inv_startH (CX := CX0) (E := E) S hpin e0 (len _ _ _ _ _ _ _ hsp) r y
  refine wpAny_mono (ht.run [] s1 (L2.start N vs) H _ I q) (fun fl z hs => ?_) (fun e z hs => hs)
  cases fl with
  | ret u => exact let ⟨v, τ, J, Y, rv, q⟩ := hs; ⟨v, J, Y.os, Y.bare, Y.base, Y.hok, rv, q⟩
  | next => exact let ⟨τ, J, Y, q⟩ := hs; ⟨.non, J, Y.os, Y.bare, Y.base, Y.hok, rfl, q⟩
  | brk => exact let ⟨_, _, _, q⟩ := hs; q.elim
  | cont => exact let ⟨_, _, _, q⟩ := hs; q.elim
section
variable {X : Cx} {k : Nat} {f a : Addr} {cls : Value} {d : Option Addr} {fd : FuncData} {ps : List Str} {sp : SpE} {x : Str} {q pos : Pos} {e : Expr} {es : List Expr} {t : TA}
/-- f(e, ..) within the suite -/
theorem pe_fnE (F : FnE X.prog X.w X.K X.mg X.base k f fd ps sp) (hr : L2H.RoomH k X.A) (hh : Hand X a cls d) (hg : Gl X x) (hm : X.mg x = some (.ref f)) (hk : PySem.W.keepIn X.K (.ref f) = true) (hb : Binds X.K fd ps []) (ha : PA X (e :: es) t)
    (hdb : (x == ("__debug__" : Str)) = false := by decide) (he : starEach (e :: es) X.env = (false, eval e X.env) :: starEach es X.env := by rfl) (hpl : (backTo pos (starEach es X.env)).any (·.1) = false := by rfl) :
    PE X (.Call (.Name x q) (e :: es) [] pos) (fun σ H Q => t σ H fun vs H1 => sp a cls d vs H1 Q (fun _ _ _ => False)) := by
  refine ⟨fun pins s σ H Q I h => wpAny_Call_Name_kw (ld_glob I hg hm ?_ hdb)⟩
  refine PySem.W.callWith_K (h₀ := X.base) I.ok.mod.kin hk (thn (ha.run pos pins s σ H _ I h) fun us s1 ⟨vs, H1, I1, r, w⟩ => ⟨I1.kIn, ?_⟩) he hpl
  obtain ⟨oe, hp, hz⟩ := hh.pin
  have P1 := I1.pin (a, oe) (List.mem_append_left _ hp)
  have b := hb s1 us I1.kIn (by rw [List.append_nil, ← r.length]; exact F.len _ _ _ _ _ _ _ w)
  rw [List.append_nil] at b
  refine wpAny_call (codeAny_mono (F.run X.A X.stack s1 H1 ⟨us, []⟩ us vs Q _ a oe cls d hr hh.at_ hz ⟨P1.1, P1.2.1, fun m => (List.mem_cons.mp (I1.stkSub a m)).elim P1.2.2.1 P1.2.2.2.1, P1.2.2.2.2⟩ I1.env0 b r w) fun r s' hq => ?_)
  cases r with
  | error e => exact hq.elim
  | ok fl => cases fl with
    | ret u => exact I1.after hq
    | next => exact hq.elim
    | brk => exact hq.elim
    | cont => exact hq.elim
end
/-! ### what is asked of it there -/
section
variable {X : Cx} {a D : Addr} {d : Option Addr}
theorem call_isX (C : L2.ExcC X.K D) (hh : Hand X a (.ref D) d) : CallR X (.builtin "isinstance") (rIsE X.K D a) := by
  intro pins s σ H xs us Q I r h
  obtain ⟨c, cv, b, rfl, hcv, e, q⟩ := h
  obtain ⟨oe, hp, ⟨⟨h1, h2⟩, _⟩, vs, hv⟩ := hh.pin
  cases r with
  | cons rx rr => cases rr with
    | cons rt rr =>
      cases rr
      cases rx
      obtain rfl := hcv _ rt
      have hget := (I.pin (a, oe) (List.mem_append_left _ hp)).1
      have J : PySem.W.InstAt s.heap a oe D none := by
        obtain ⟨oc, od, oda, osl⟩ := oe
        dsimp only at h1 h2 hv
        subst h1 h2 hv
        exact ⟨hget, rfl, rfl, trivial⟩
      exact PySem.W.kia_one (PySem.W.handS_kitx_exc C.hg C.hk C.hs C.hd C.ha C.hn C.ht C.hm) I.kIn J e (fun z => nomatch z) fun tk => ⟨.bl b, H, I.kept (t' := tk) fun _ _ z => z, rfl, q⟩
theorem call_strX (hu : X.A.units + 2 < cLine) (hs : PySem.W.findIn X.K (.ref D) "__str__" = some (some (.builtin "BaseException.__str__"))) (hB : PySem.W.subIn X.K (.ref D) (.type "BaseException") = some true) (hh : Hand X a (.ref D) d) :
    CallR X (.type "str") (fun xs H Q => xs = [.ref a] ∧ (∃ t, d = some t ∧ H t = some (.tup [])) ∧ Q (.str Str.empty) H) := by
  intro pins s σ H xs us Q I r h
  obtain ⟨rfl, ⟨t, rfl, ht⟩, q⟩ := h
  obtain ⟨oe, hp, ⟨⟨h1, h2⟩, _, t', e, h3⟩, vs, hv⟩ := hh.pin
  cases e
  cases r with
  | cons rx rr =>
    cases rr
    cases rx
    have hget := (I.pin (a, oe) (List.mem_append_left _ hp)).1
    obtain ⟨_, its, rv, o, ho, hc, m, hdt⟩ := I.hok t _ ht
    cases rv
    exact PySem.P.str_of_C_none hu ⟨I.kIn, oe, vs, hget, h1, hv, h3 vs hv⟩ ⟨o, m, ho, hc, hdt⟩ hs hB ⟨.str Str.empty, H, I.tok _, ⟨_, rfl⟩, q⟩
/-- l.count(x) by == of data -/
def rCountD (K : PySem.W.Frag) : V → List V → Hp → VK → Prop := fun x xs H Q => ∃ (a : Addr) (y : V) (d : PyData) (ds : List PyData), x = V.ref a ∧ xs = [y] ∧ Dp K H (V.ref a) (.list ds) ∧ Dp K H y d ∧ SeqAt.shaped (.list ds) = true ∧ SeqAt.shaped d = true ∧ Q (.int ((ds.countP fun z => PyData.eqv z d : Nat) : Int)) H
theorem mt_countD (hu : X.A.units + 65 < cLine) : MtR X "list.count" (rCountD X.K) := by
  intro pins s σ H x xs v us Q I rx rxs h
  obtain ⟨a, y, dd, ds, rfl, rfl, hl, hy, sl, sd, q⟩ := h
  cases rx
  obtain ⟨uy, rfl, ry⟩ := rxs.one
  obtain ⟨bs, r1⟩ := Dp.reads I dd y uy hy ry
  have lay : PyData.canLayAll0 ds = true := SeqAt.canLay_of_shaped sl
  cases hl with
  | lst hs ha =>
    obtain ⟨its, rv, ⟨⟨cls, dx, data, sls⟩, n, ho, hc, hdn, hdt⟩, hlen⟩ := I.list hs
    simp only at hc hdt
    subst hc hdt
    obtain ⟨as, h4⟩ := Dp.readsAll I ds _ its ha rv
    have hmap : its.map (SeqAt.readOf s.heap) = ds := SeqAt.readsAll_map ds its as lay h4
    refine call_meets PySem.F.slot_list_count ⟨_, ho, rfl⟩ PySem.F.entry_list_count (PySem.F.args_list_count_2 _ _) (SeqAt.list_countAt a its.toArray n dx sls uy (fun u => PyData.eqv (SeqAt.readOf s.heap u) dd))
      ⟨ho, SeqAt.items_eqAt (vs := its.toArray) (show ReadsAll s.heap its.toArray.toList ds as from h4) r1 lay (SeqAt.canLay_of_shaped sd) (room_in_shaped sd hu), ?_⟩
    refine ⟨.int ((ds.countP fun z => PyData.eqv z dd : Nat) : Int), H, I.tok _, ⟨s.toks, ?_⟩, q⟩
    have e : ds.countP (fun z => PyData.eqv z dd) = its.toArray.toList.countP (fun u => PyData.eqv (SeqAt.readOf s.heap u) dd) := by rw [← hmap, List.countP_map]; rfl
    show Value.int _ _ = Value.int _ _
    rw [e]
end
end XA
set_option maxHeartbeats 2000000
namespace L2
open PySem PySem.Spec PyProof.Rows
/-- as Fun.ok, for a def that may raise an own exception without arguments -/
theorem Fun.okA {P : Program} {w : World} {K : PySem.W.Frag} {mg : Str → Option Value} {base : Heap} {x qual : Str} {st : Stmt} {f : Addr} {fd : FuncData} {N ps : List Str} {k : Nat} {sp : Sp} (F : Fun K x qual st f fd) (S : FnScope N ps (defScope st)) (len : ∀ vs H Q E, sp vs H Q E → vs.length = ps.length)
    (hbody : ∀ (cdv : Value) (A : Around) (outer : List Env) (s : Shared) (H : Hp) (vs : List V) (Q : VK) (E : XK), Room k (A.deeper (envOfC qual (defScope st) s.heap.objs.size f cdv)) → XA.Tk (cxOf (XA.CXA P w) P w K mg base N qual (defScope st) f cdv A outer s H E) (fun c d _ J => E c d J) → sp vs H Q E →
      ∃ t, PSs (cxOf (XA.CXA P w) P w K mg base N qual (defScope st) f cdv A outer s H E) (defBody st) t ∧ t { nx := fun _ H' => Q .non H', rt := Q } (L2.start N vs) H) : FnOk P w K mg base (XA.CXA P w) (k + 1) f fd ps sp := by
  obtain ⟨oc, od, kV, doc, pm, an, cdv, ct, osl, rfl, lk, hcd⟩ := F.ex
  exact fn_of lk hcd S len fun A outer s H vs Q E hr hsp => hbody cdv A outer s H vs Q E hr (XA.tk_of rfl rfl rfl rfl) hsp
end L2
namespace LW
open PySem PySem.Spec PyProof.Rows L2
/-- an own exception's class -/
structure XC (K : PySem.W.Frag) (mg : Str → Option Value) (x : Str) (C : Addr) : Prop where
  g : mg x = some (.ref C)
  q : PySem.W.excIn K C [.type "ValueError", .type "Exception", .type "BaseException", .type "object"] "ValueError.__new__" = true
  k : PySem.W.keepIn K (.ref C) = true
  b : PySem.W.subIn K (.ref C) (.type "BaseException") = some true
  t : PySem.W.typeIn K (.ref C) = some (.type "type")
/-- the exception C, made just now -/
def XE0 (E : XK) (C : Addr) (H : Hp) : Prop := ∀ H' t, Gr [] H H' → H' t = some (.tup []) → E (.ref C) (some t) H'
theorem XE0.gr {E : XK} {C : Addr} {H H' : Hp} (h : XE0 E C H) (g : Gr [] H H') : XE0 E C H' := fun H2 t g2 e => h H2 t (g.trans g2) e
theorem XE0.now {E : XK} {C : Addr} {H : Hp} (h : XE0 E C H) : ∀ t, H t = none → E (.ref C) (some t) (upd H t (.tup [])) := fun t n => h _ t (Gr.new n) upd_same
section
variable {X : Cx} {W : WX} {C : Addr}
theorem ps_raiseC {x : Str} {p pos pos' : Pos} (B : XC X.K X.mg x C) (hc : X.calm = true) (tk : XA.Tk X W) (hg : Gl X x) (hdb : (x == ("__debug__" : Str)) = false := by decide) : PS X (.Raise (some (.Call (.Name x p) [] [] pos)) none pos') (fun _ σ H => ∀ t, H t = none → W (.ref C) (some t) σ (upd H t (.tup []))) :=
  XA.ps_raise0 hc tk PySem.F.excBase_ValueError B.q B.g B.k (raises_own B.b B.t) hg hdb
end
def spCheckSX (K : PySem.W.Frag) (T1 T2 T3 CB : Addr) : Sp := fun vs H Q E => ∃ (d : PyData) (v : V), vs = [v] ∧ Dp K H v d ∧ fewSc d ∧ GxR.TabG H T1 ∧ GxR.TabG H T2 ∧ GxR.TabG H T3 ∧ (schemaD d = true → ∀ H', Gr [] H H' → Q .non H') ∧ (schemaD d = false → XE0 E CB H)
end LW
set_option maxHeartbeats 2000000
namespace LW
open PySem PySem.Spec PyProof.Rows L2
/-! readings by data -/
def rTupOf (K : PySem.W.Frag) : List V → Hp → VK → Prop := fun xs H Q => ∃ p ys, xs = [.ref p] ∧ ((SqL K H p ys ∧ ∀ l, H l = none → Q (.ref l) (upd H l (.tup ys))) ∨ (SqT K H p ys ∧ Q (.ref p) H))
section
variable {K : PySem.W.Frag} {H : Hp}
/-- t[i] of data -/
theorem ixD {v : V} {ds : List PyData} {i : Nat} {d : PyData} {z : Int} {Q : VK} (h : Dp K H v (.tuple ds)) (e : ds[i]? = some d) (ez : z = (i : Int)) (q : ∀ x, Dp K H x d → Q x H) : ∃ p items k x, v = V.ref p ∧ V.int z = V.int k ∧ SqT K H p items ∧ atI items k = some x ∧ Q x H := by
  obtain ⟨a, xs, rfl, hs, ha⟩ := h.tupI
  obtain ⟨x, hx, hd⟩ := ha.at e
  exact ⟨a, xs, z, x, rfl, rfl, hs, atI_eq hx ez, q x hd⟩
/-- len(t) of data -/
theorem lenD {v : V} {ds : List PyData} {Q : VK} (h : Dp K H v (.tuple ds)) (q : Q (.int ds.length) H) : ∃ p ys, [v] = [V.ref p] ∧ (SqL K H p ys ∨ SqT K H p ys) ∧ Q (V.int ys.length) H := by
  obtain ⟨a, xs, rfl, hs, ha⟩ := h.tupI
  exact ⟨a, xs, rfl, .inr hs, by rw [ha.length]; exact q⟩
/-- tuple(l), l a list of data -/
theorem tupD {a : Addr} {xs : List V} {ds : List PyData} {Q : VK} (h : H a = some (.lst xs)) (hd : DpAll K H xs ds) (q : ∀ H' x, Gr [] H H' → Dp K H' x (.tuple ds) → Q x H') : rTupOf K [.ref a] H Q :=
  ⟨a, xs, rfl, .inl ⟨SqL.of h, fun l nl => q _ _ (Gr.new nl) (.tup (SqT.of upd_same) (hd.gr (Gr.new nl)))⟩⟩
/-- (x, y) -/
theorem mk2 {x y : V} {d e : PyData} (h1 : Dp K H x d) (h2 : Dp K H y e) {p : Addr} (n : H p = none) : Dp K (upd H p (.tup [x, y])) (.ref p) (.tuple [d, e]) := .tup (SqT.of upd_same) (.cons (h1.gr (Gr.new n)) (.cons (h2.gr (Gr.new n)) .nil))
theorem mk1 {x : V} {d : PyData} (h1 : Dp K H x d) {p : Addr} (n : H p = none) : Dp K (upd H p (.tup [x])) (.ref p) (.tuple [d]) := .tup (SqT.of upd_same) (.cons (h1.gr (Gr.new n)) .nil)
theorem mk3 {x y z : V} {d e f : PyData} (h1 : Dp K H x d) (h2 : Dp K H y e) (h3 : Dp K H z f) {p : Addr} (n : H p = none) : Dp K (upd H p (.tup [x, y, z])) (.ref p) (.tuple [d, e, f]) := .tup (SqT.of upd_same) (.cons (h1.gr (Gr.new n)) (.cons (h2.gr (Gr.new n)) (.cons (h3.gr (Gr.new n)) .nil)))
theorem dp_two {v : V} {d e : PyData} (h : Dp K H v (.tuple [d, e])) : ∃ a x y, v = .ref a ∧ SqT K H a [x, y] ∧ Dp K H x d ∧ Dp K H y e := by
  obtain ⟨a, xs, rfl, hs, ha⟩ := h.tupI
  obtain ⟨x, y, rfl, h1, h2⟩ := dpAll_two ha
  exact ⟨a, x, y, rfl, hs, h1, h2⟩
theorem dp_three {v : V} {d e f : PyData} (h : Dp K H v (.tuple [d, e, f])) : ∃ a x y z, v = .ref a ∧ SqT K H a [x, y, z] ∧ Dp K H x d ∧ Dp K H y e ∧ Dp K H z f := by
  obtain ⟨a, xs, rfl, hs, ha⟩ := h.tupI
  cases ha with
  | cons h1 ha =>
    obtain ⟨y, z, rfl, h2, h3⟩ := dpAll_two ha
    exact ⟨a, _, y, z, rfl, hs, h1, h2, h3⟩
theorem dp_rule {v : V} {r : Rl} (h : Dp K H v (rlD r)) : ∃ a, v = .ref a ∧ SqT K H a [.int r.1, .int r.2.1, .int r.2.2] := by
  obtain ⟨a, xs, rfl, hs, ha⟩ := Dp.tupI h
  obtain rfl := dpAll_ints3 ha
  exact ⟨a, rfl, hs⟩
/-- a list of data grows -/
structure LsD (K : PySem.W.Frag) (H0 H : Hp) (D : Addr) (ds : List PyData) : Prop where
  new : H0 D = none
  gr : Gr [] H0 H
  ex : ∃ xs, H D = some (.lst xs) ∧ DpAll K H xs ds
theorem LsD.start {D : Addr} (n : H D = none) : LsD K H (upd H D (.lst [])) D [] := ⟨n, Gr.new n, [], upd_same, .nil⟩
theorem LsD.step {H0 H' : Hp} {D : Addr} {ds : List PyData} (h : LsD K H0 H D ds) (g : Gr [] H H') : LsD K H0 H' D ds := by
  obtain ⟨xs, h1, h2⟩ := h.ex
  exact ⟨h.new, h.gr.trans g, xs, g.lst (by simp) h1, h2.gr g⟩
theorem LsD.put {H0 : Hp} {D : Addr} {ds : List PyData} {x : V} {d : PyData} {xs : List V} (h : LsD K H0 H D ds) (hp : pureAll ds = true) (hd : Dp K H x d) (hp1 : pure1 d = true) (e : H D = some (.lst xs)) : LsD K H0 (upd H D (.lst (xs ++ [x]))) D (ds ++ [d]) := by
  obtain ⟨ys, h1, h2⟩ := h.ex
  rw [e] at h1
  cases h1
  have gw : Gr [D] H (upd H D (.lst (xs ++ [x]))) := Gr.put e (fun _ z => by cases z) (by simp)
  have wl : ∀ b ∈ [D], ∃ ys, H b = some (.lst ys) := fun b hb => by rw [List.mem_singleton.mp hb]; exact ⟨_, e⟩
  exact ⟨h.new, h.gr.put0 h.new, xs ++ [x], upd_same, (dpAll_grm gw wl _ _ hp h2).append (.cons (dp_grm gw wl d _ hp1 hd) .nil)⟩
end
theorem pureAll_app : ∀ (a b : List PyData), pureAll (a ++ b) = (pureAll a && pureAll b)
  | [], b => rfl
  | x :: a, b => by rw [List.cons_append, pureAll, pureAll, pureAll_app a b, Bool.and_assoc]
theorem pureAll_iff {ds : List PyData} : pureAll ds = true ↔ ∀ d ∈ ds, pure1 d = true := by
  induction ds with
  | nil => simp [pureAll]
  | cons x ds ih => simp [pureAll, ih]
/-- a comprehension of one for over a tuple of data: each item's element is data -/
theorem lcD {X : Cx} {K : PySem.W.Frag} {H : Hp} : True := trivial
/-! ### schemas moved -/
def mvR (k : Nat) (r : Rl) : Rl := (r.1, r.2.1 + k, r.2.2 + k)
def mvSt (k : Nat) (st : Bool × List Rl) : Bool × List Rl := (st.1, st.2.map (mvR k))
def mvS (k : Nat) (s : Sch) : Sch := s.map (mvSt k)
def spMoved (K : PySem.W.Frag) : Sp := fun vs H Q _ => ∃ (sv : V) (s : Sch) (k : Nat), vs = [sv, natV k] ∧ Dp K H sv (schD s) ∧ SchOk s ∧ ∀ H' x, Gr [] H H' → Dp K H' x (schD (mvS k s)) → Q x H'
end LW
set_option maxHeartbeats 2000000
namespace LW
open PySem PySem.Spec PyProof.Rows L2
/-! the sum of schemas -/
def st0 (s : Sch) : Bool × List Rl := s.getD 0 (false, [])
theorem st0_at {s : Sch} (h : SchOk s) : s[0]? = some (st0 s) := by
  have := h.pos
  unfold st0
  rw [List.getD_eq_getElem?_getD, List.getElem?_eq_getElem (by omega)]
  rfl
def sumRs (s t : Sch) : List Rl := (st0 s).2.map (mvR 1) ++ (st0 t).2.map (mvR (1 + s.length))
def sumS (s t : Sch) (us : List Rl) : Sch := ((st0 s).1 || (st0 t).1, us) :: (mvS 1 s ++ mvS (1 + s.length) t)
def spAdded (K : PySem.W.Frag) (T1 T2 T3 CB CT : Addr) : Sp := fun vs H Q E => ∃ (v1 v2 : V) (d1 d2 : PyData), vs = [v1, v2] ∧ Dp K H v1 d1 ∧ Dp K H v2 d2 ∧ fewSc d1 ∧ fewSc d2 ∧ GxR.TabG H T1 ∧ GxR.TabG H T2 ∧ GxR.TabG H T3 ∧
  ((schemaD d1 = false ∧ XE0 E CB H) ∨ ∃ s, d1 = schD s ∧ SchOk s ∧ ((schemaD d2 = false ∧ XE0 E CB H) ∨ ∃ t, d2 = schD t ∧ SchOk t ∧ ∀ us, us.Perm (sumRs s t) → us.Pairwise (fun r t => ¬ rlLt t r) →
    (schemaD (schD (sumS s t us)) = true → ∀ H' x, Gr [] H H' → Dp K H' x (schD (sumS s t us)) → Q x H') ∧ (schemaD (schD (sumS s t us)) = false → XE0 E CT H)))
theorem fewSc_schD {s : Sch} (h : ∀ st ∈ s, st.2.length < 2 ^ 61) : fewSc (schD s) := by
  intro ss hss d hd e r hdr rs hrs
  cases hss
  obtain ⟨st, hst, rfl⟩ := List.mem_map.mp hd
  cases hdr
  cases hrs
  rw [List.length_map]
  exact h st hst
theorem schD_pure (s : Sch) : pure1 (schD s) = true := pure_sch s
theorem mvS_len (k : Nat) (s : Sch) : (mvS k s).length = s.length := by unfold mvS; rw [List.length_map]
theorem mvS_at {k : Nat} {s : Sch} {i : Nat} {st : Bool × List Rl} (h : s[i]? = some st) : (mvS k s)[i]? = some (mvSt k st) := by unfold mvS; rw [List.getElem?_map, h]; rfl
theorem sch_get {s : Sch} {i : Nat} {st : Bool × List Rl} (h : s[i]? = some st) : (s.map stD)[i]? = some (stD st) := by rw [List.getElem?_map, h]; rfl
/-- t[i] where t is a tuple of data, by its state -/
theorem stD_get0 (st : Bool × List Rl) : ([PyData.bool st.1, .tuple (st.2.map rlD)] : List PyData)[0]? = some (.bool st.1) := rfl
theorem stD_get1 (st : Bool × List Rl) : ([PyData.bool st.1, .tuple (st.2.map rlD)] : List PyData)[1]? = some (.tuple (st.2.map rlD)) := rfl
end LW
set_option maxHeartbeats 4000000
namespace LW
open PySem PySem.Spec PyProof.Rows L2
/-- r >= t of rules -/
def rGeR (K : PySem.W.Frag) : R2 := fun x y H Q => ∃ (a b : Addr) (r t : Rl), x = .ref a ∧ y = .ref b ∧ SqT K H a [.int r.1, .int r.2.1, .int r.2.2] ∧ SqT K H b [.int t.1, .int t.2.1, .int t.2.2] ∧ Q (.bl (!SrtO.lex3 (rlK r) (rlK t))) H
theorem op_geR {X : Cx} (hu : X.A.units < cLine) : OpR X (compareOp .GtE) (rGeR X.K) := by
  intro pins s σ H x y v u Q I rx ry h
  obtain ⟨a, b, r, t, rfl, rfl, ha, hb, q⟩ := h
  cases rx
  cases ry
  obtain ⟨a1, o1, t1, u1, w1, n1, e1, ho1, hc1, hd1⟩ := trip_raw I ha
  obtain ⟨a2, o2, t2, u2, w2, n2, e2, ho2, hc2, hd2⟩ := trip_raw I hb
  cases e1
  cases e2
  generalize hk1 : rlK r = k1 at *
  generalize hk2 : rlK t = k2 at *
  obtain ⟨x1, y1, z1⟩ := k1
  obtain ⟨x2, y2, z2⟩ := k2
  dsimp only at hd1 hd2
  have R := Ob.RcOp.tuples_ge (A := X.A) (s := s) (e := fun j => match j with | 0 => x1 == x2 | 1 => y1 == y2 | _ => z1 == z2) (r := fun j => match j with | 0 => decide (x2 ≤ x1) | 1 => decide (y2 ≤ y1) | _ => decide (z2 ≤ z1)) ⟨o1, ho1, hc1, _, hd1⟩ ⟨o2, ho2, hc2, _, hd2⟩ hu
    (fun j h1 h2 => by
      match j, h1, h2 with
      | 0, _, _ => exact SeqAt.EqAt.int_int _ _ _ _
      | 1, _, _ => exact SeqAt.EqAt.int_int _ _ _ _
      | 2, _, _ => exact SeqAt.EqAt.int_int _ _ _ _
      | j + 3, h, _ => exact absurd h (by simp))
    (fun j h1 h2 _ => by
      match j, h1, h2 with
      | 0, _, _ => exact Ob.RcOp.ge_int _ _ _ _
      | 1, _, _ => exact Ob.RcOp.ge_int _ _ _ _
      | 2, _, _ => exact Ob.RcOp.ge_int _ _ _ _
      | j + 3, h, _ => exact absurd h (by simp))
  have e : Ob.lexAt (fun j => match j with | 0 => x1 == x2 | 1 => y1 == y2 | _ => z1 == z2) (fun j => match j with | 0 => decide (x2 ≤ x1) | 1 => decide (y2 ≤ y1) | _ => decide (z2 ≤ z1)) true 0 3 = !SrtO.lex3 (x1, y1, z1) (x2, y2, z2) := by
    rw [Ob.lexAt_succ, Ob.lexAt_succ, Ob.lexAt_succ, Ob.lexAt_zero, Bool.eq_iff_iff, Bool.not_eq_true', SrtO.lex3_no]
    show ((if (x1 == x2) = true then (if (y1 == y2) = true then (if (z1 == z2) = true then true else decide (z2 ≤ z1)) else decide (y2 ≤ y1)) else decide (x2 ≤ x1)) = true ↔ ¬ (x1 < x2 ∨ x1 = x2 ∧ (y1 < y2 ∨ y1 = y2 ∧ z1 < z2)))
    by_cases c1 : x1 = x2
    · rw [if_pos (beq_iff_eq.mpr c1)]
      by_cases c2 : y1 = y2
      · rw [if_pos (beq_iff_eq.mpr c2)]
        by_cases c3 : z1 = z2
        · rw [if_pos (beq_iff_eq.mpr c3)]
          simp only [true_iff]
          omega
        · rw [if_neg (fun z => c3 (beq_iff_eq.mp z)), decide_eq_true_eq]
          omega
      · rw [if_neg (fun z => c2 (beq_iff_eq.mp z)), decide_eq_true_eq]
        omega
    · rw [if_neg (fun z => c1 (beq_iff_eq.mp z)), decide_eq_true_eq]
      omega
  have z : wpAny (model X.prog X.w) X.A (compareOp .GtE (.ref a) (.ref b)) (EP X pins σ Q) X.xe s := R X.prog X.w X.xe (EP X pins σ Q) ⟨.bl (!SrtO.lex3 (x1, y1, z1) (x2, y2, z2)), H, I, by
    show Value.bool _ = Value.bool _
    rw [← e]
    rfl, q⟩
  exact z
/-- t * 0 and t * 1 -/
theorem mul_zero (l : Addr) (items : Array Value) (n : Nat) (dd : Option Addr) (sl : Array (Option Value)) (u : Tok) (hi : items.isEmpty = false) :
    Meets (Builtin.«tuple.__mul__» ⟨[.ref l, .int 0 u], []⟩) (fun _ R s => s.heap.get? l = some { cls := .type "tuple", dict := dd, data := .seq items n, slots := sl } ∧ R (.ok (.ret (Value.ref s.heap.objs.size))) { s with heap := s.heap.push { cls := Value.type "tuple", data := Data.seq #[] }, toks := s.toks }) :=
  .of_wp fun prog w A R s h => by
    obtain ⟨hp, g, d, tk, os⟩ := s
    obtain ⟨hl, h⟩ := h
    have f1 := AutoSeq1.idx_int
    have c1 : (items.isEmpty || (0 : Int) == 1) = false := by rw [hi]; rfl
    have c2 : (decide ((0 : Int) ≤ 0) || items.isEmpty) = true := by simp
    wp_walk using wpAny_loadPart' hl
    repeat (first
      | (refine wpAny_ite_false (decide_eq_false (by rw [c1]; exact Bool.false_ne_true)) ?_; wp_walk using wpAny_loadPart' hl)
      | (refine wpAny_ite_true (decide_eq_true c2) ?_; wp_walk using wpAny_loadPart' hl))
    exact ⟨_, rfl, h⟩
theorem mul_one (l : Addr) (items : Array Value) (n : Nat) (dd : Option Addr) (sl : Array (Option Value)) (u : Tok) :
    Meets (Builtin.«tuple.__mul__» ⟨[.ref l, .int 1 u], []⟩) (fun _ R s => s.heap.get? l = some { cls := .type "tuple", dict := dd, data := .seq items n, slots := sl } ∧ R (.ok (.ret (Value.ref l))) s) :=
  .of_wp fun prog w A R s h => by
    obtain ⟨hp, g, d, tk, os⟩ := s
    obtain ⟨hl, h⟩ := h
    have f1 := AutoSeq1.idx_int
    have c1 : (items.isEmpty || (1 : Int) == 1) = true := by simp
    wp_walk using wpAny_loadPart' hl
    repeat (first
      | (refine wpAny_ite_true (decide_eq_true c1) ?_; wp_walk using wpAny_loadPart' hl))
    first
      | exact ⟨_, rfl, h⟩
      | exact h
/-- t * k -/
def rRepA (K : PySem.W.Frag) : R2 := fun x y H Q => ∃ (l : Addr) (k : Nat) (xs : List V), x = .ref l ∧ y = .int (k : Int) ∧ SqT K H l xs ∧ xs ≠ [] ∧ k ≤ 1000 ∧ xs.length ≤ 1000 ∧ (k = 1 → Q (.ref l) H) ∧ (k ≠ 1 → ∀ p, H p = none → Q (.ref p) (upd H p (.tup (List.replicate k xs).flatten)))
theorem op_repA {X : Cx} : OpR X (binaryOp .Mult) (rRepA X.K) := by
  intro pins s σ H x y v u Q I rx ry h
  obtain ⟨l, k, xs, rfl, rfl, hT, hne, hk, hz, q1, q2⟩ := h
  by_cases k2 : 2 ≤ k
  · exact op_repT pins s σ H _ _ v u Q I rx ry ⟨l, k, xs, rfl, rfl, hT, hne, by omega, by omega, hz, q2 (by omega)⟩
  cases rx
  obtain ⟨t, rfl⟩ := ry
  obtain ⟨its, r, ⟨⟨cls, dd, data, sl⟩, ho, hc, n, hd⟩, hs⟩ := I.tuple hT
  simp only at hc hd
  subst hc hd
  have hle : its.length = xs.length := r.length.symm
  have hi : its.toArray.isEmpty = false := by
    cases its with
    | nil => exact absurd (List.eq_nil_of_length_eq_zero hle.symm) hne
    | cons a b => rfl
  refine wpAny_binaryOp_repeat_ref (T := "tuple") (U := "int") (by decide) ⟨_, ho, rfl⟩ (fun s' => typeIs_int s' _ t) noFill_tuple_mul F.fills_int_mul F.slot_int_rmul repeat_tuple F.slot_int_index.lookup
    (call_meets F.slot_int_rmul (typeIs_int s _ t) F.entry_int_rmul (F.args_int_rmul_2 _ _) (int_rmul_tuple _ t l its.toArray n dd sl) ⟨ho, rfl, ⟨_, ho, rfl⟩, ?_⟩)
  rcases Nat.lt_or_ge k 1 with h0 | h1
  · obtain rfl : k = 0 := by omega
    refine call_meets PySem.F.slot_tuple_mul ⟨_, ho, rfl⟩ PySem.F.entry_tuple_mul (PySem.F.args_tuple_mul_2 _ _) (mul_zero l its.toArray n dd sl t hi) ⟨ho, ?_⟩
    refine ⟨.ref s.heap.objs.size, _, I.laid (t' := s.toks) (o := .tup []) (fun b ob q => Heap.get?_push_of_some _ q) (Nat.le_refl _) ?_, rfl, q2 (by decide) _ (I.hok.fresh (Nat.le_refl _))⟩
    exact ⟨Nat.zero_le _, [], .nil, IsTup.new _ _⟩
  · obtain rfl : k = 1 := by omega
    exact call_meets PySem.F.slot_tuple_mul ⟨_, ho, rfl⟩ PySem.F.entry_tuple_mul (PySem.F.args_tuple_mul_2 _ _) (mul_one l its.toArray n dd sl t) ⟨ho, ⟨.ref l, H, I, rfl, q1 rfl⟩⟩
end LW
set_option maxHeartbeats 4000000
namespace LW
open PySem PySem.Spec PyProof.Rows L2
/-! what the helpers of the later laws promise -/
def spLabel : Sp := fun vs H Q _ => ∃ (bx cl : Addr), vs = [.ref bx] ∧ BoxAt H bx cl ∧ ∀ (a : Nat) H', a < 5 → Gr [bx] H H' → BoxAt H' bx cl → Q (natV a) H'
def spDocB (K : PySem.W.Frag) (n : Nat) : Sp := fun vs H Q _ => ∃ (bx cl : Addr) (m : Nat), vs = [.ref bx, natV m] ∧ BoxAt H bx cl ∧ m < n ∧ m ≤ 1000 ∧ ∀ (d : Doc) (v : V) H', d.lab = true → d.size = m → d.dep ≤ m → Gr [bx] H H' → BoxAt H' bx cl → Dp K H' v d.data → Q v H'
abbrev fiveL : List Int := [0, 1, 2, 3, 4]
def spSchB (K : PySem.W.Frag) : Sp := fun vs H Q _ => ∃ (bx cl : Addr) (most : Nat), vs = [.ref bx, natV most] ∧ BoxAt H bx cl ∧ 1 ≤ most ∧ most ≤ 60 ∧
  ∀ (s : Sch) (v : V) H', SchOk s → s.length ≤ most → (∀ st ∈ s, goodS fiveL s.length 4 st) → Gr [bx] H H' → BoxAt H' bx cl → Dp K H' v (schD s) → Q v H'
/-- lists of documents, each of some size -/
def DLs (K : PySem.W.Frag) (H : Hp) (xs : List V) (ds : List Doc) : Prop := DpAll K H xs (ds.map Doc.data)
theorem pure_docsB : ∀ ds : List Doc, pureAll (ds.map Doc.data) = true
  | [] => rfl
  | d :: ds => by rw [List.map_cons, pureAll, pure_docsB ds, pure_data d]; rfl
def docN (m : Nat) (d : Doc) : Prop := d.lab = true ∧ d.size = m ∧ d.dep ≤ m
theorem flatMap_congr' {α β : Type} {f g : α → List β} : ∀ {l : List α}, (∀ x ∈ l, f x = g x) → l.flatMap f = l.flatMap g
  | [], _ => rfl
  | x :: l, h => by rw [List.flatMap_cons, List.flatMap_cons, h x (List.mem_cons_self ..), flatMap_congr' fun y hy => h y (List.mem_cons_of_mem _ hy)]
def rowB (ls : List Int) (tbl : List (List Doc)) : Nat → List Doc
  | 0 => [.nil]
  | n + 1 => stepD ls tbl (n + 1)
def spOfSize (K : PySem.W.Frag) : Sp := fun vs H Q _ => ∃ (ll kl : Addr) (ls : List Int) (n : Nat) (rows : List V) (tbl : List (List Doc)), vs = [.ref ll, .ref kl, natV n] ∧ H ll = some (.lst (ls.map V.int)) ∧ H kl = some (.lst rows) ∧ Paired (RowAt K H kl) rows tbl ∧ tbl.length = n ∧ n ≤ 100 ∧
  (rowB ls tbl n).length ≤ 10000 ∧ (∀ d ∈ tbl.flatten, d.len ≤ 1000) ∧ ∀ H' p ys, Gr [] H H' → H p = none → H' p = some (.lst ys) → DL K H' ys (rowB ls tbl n) → Q (.ref p) H'
def GrB (K : PySem.W.Frag) (ll kl : Addr) (n : Nat) (H' : Hp) (ds : List Doc) (σ : L2.St) (H2 : Hp) : Prop :=
  ∃ fa ys y4 y5 y6, σ = [some (.ref ll), some (.ref kl), some (natV n), some (.ref fa), y4, y5, y6, none] ∧ Gr [] H' H2 ∧ H' fa = none ∧ H2 fa = some (.lst ys) ∧ DL K H2 ys ds
def GrC (K : PySem.W.Frag) (ll kl : Addr) (n : Nat) (a : Int) (H' : Hp) (ds : List Doc) (σ : L2.St) (H2 : Hp) : Prop :=
  ∃ fa ys y5 y6, σ = [some (.ref ll), some (.ref kl), some (natV n), some (.ref fa), some (.int a), y5, y6, none] ∧ Gr [] H' H2 ∧ H' fa = none ∧ H2 fa = some (.lst ys) ∧ DL K H2 ys ds
def GrD (K : PySem.W.Frag) (ll kl : Addr) (n : Nat) (a : Int) (j : Nat) (H' : Hp) (ds : List Doc) (σ : L2.St) (H2 : Hp) : Prop :=
  ∃ fa ys y6, σ = [some (.ref ll), some (.ref kl), some (natV n), some (.ref fa), some (.int a), some (.int (0 + j)), y6, none] ∧ Gr [] H' H2 ∧ H' fa = none ∧ H2 fa = some (.lst ys) ∧ DL K H2 ys ds
theorem tabD_get (ls : List Int) : ∀ (n i : Nat), i ≤ n → (tabD ls n)[i]? = some (rowB ls (tabD ls n) i) ∧ (∀ d ∈ rowB ls (tabD ls n) i, (∀ x ∈ ls, 0 ≤ x ∧ x < 5) → docN i d)
  | 0, 0, _ => ⟨rfl, fun d hd _ => by rw [List.mem_singleton.mp hd]; exact ⟨rfl, rfl, Nat.le_refl _⟩⟩
  | n + 1, i, h => by
    have ih := fun k hk => tabD_get ls n k hk
    have tl := tabD_len ls n
    have look : ∀ k ≤ n, (tabD ls (n + 1)).getD k [] = (tabD ls n).getD k [] := fun k hk => by
      rw [tabD, List.getD_eq_getElem?_getD, List.getElem?_append_left (by omega), ← List.getD_eq_getElem?_getD]
    -- a row looks at earlier ones alone
    have same : ∀ k, k ≤ n + 1 → rowB ls (tabD ls (n + 1)) k = rowB ls (tabD ls n) k := fun k hk => by
      cases k with
      | zero => rfl
      | succ k =>
        show ls.flatMap _ = ls.flatMap _
        refine congrArg (fun f => List.flatMap f ls) (funext fun a => ?_)
        unfold st1
        refine flatMap_congr' fun j hj => ?_
        have hj' := List.mem_range.mp hj
        unfold st2
        rw [look j (by omega)]
        refine congrArg (fun f => List.flatMap f _) (funext fun kd => ?_)
        unfold st3
        rw [look (k + 1 - 1 - j) (by omega)]
    have goodRow : ∀ k, k ≤ n + 1 → ∀ d ∈ rowB ls (tabD ls (n + 1)) k, (∀ x ∈ ls, 0 ≤ x ∧ x < 5) → docN k d := fun k hk d hd hls => by
      rw [same k hk] at hd
      rcases Nat.lt_or_ge n k with hlt | hge
      · obtain rfl : k = n + 1 := by omega
        obtain ⟨a, ha, hd⟩ := List.mem_flatMap.mp hd
        obtain ⟨j, hj, hd⟩ := List.mem_flatMap.mp hd
        have hj' := List.mem_range.mp hj
        obtain ⟨kd, hkd, hd⟩ := List.mem_flatMap.mp hd
        obtain ⟨rd, hrd, rfl⟩ := List.mem_map.mp hd
        have e1 := (ih j (by omega)).1
        have e2 := (ih (n + 1 - 1 - j) (by omega)).1
        rw [List.getD_eq_getElem?_getD, e1] at hkd
        rw [List.getD_eq_getElem?_getD, e2] at hrd
        obtain ⟨p1, p2, p3⟩ := (ih j (by omega)).2 kd hkd hls
        obtain ⟨q1, q2, q3⟩ := (ih (n + 1 - 1 - j) (by omega)).2 rd hrd hls
        have hx := hls a ha
        refine ⟨?_, ?_, ?_⟩
        · simp only [Doc.lab, p1, q1, Bool.and_true]
          exact decide_eq_true hx
        · simp only [Doc.size]; omega
        · simp only [Doc.dep]; omega
      · exact (ih k hge).2 d hd hls
    refine ⟨?_, goodRow i h⟩
    rw [same i h]
    rcases Nat.lt_or_ge n i with hlt | hge
    · obtain rfl : i = n + 1 := by omega
      rw [tabD, List.getElem?_append_right (by omega), tl, Nat.sub_self]
      rfl
    · rw [tabD, List.getElem?_append_left (by omega)]
      exact (ih i hge).1
def spDocsB (K : PySem.W.Frag) : Sp := fun vs H Q _ => ∃ (bx cl : Addr) (m : Nat), vs = [.ref bx, natV m] ∧ BoxAt H bx cl ∧ m ≤ 3 ∧
  ∀ H' p xs ds, Gr [bx] H H' → BoxAt H' bx cl → H p = none → H' p = some (.lst xs) → DLs K H' xs ds → ds.length ≤ 1000 → (∀ d ∈ ds, d.lab = true ∧ d.size ≤ 8 ∧ d.dep ≤ 8) → 0 < ds.length → Q (.ref p) H'
theorem Doc.cons_data {K : PySem.W.Frag} {H : Hp} {x : V} {a : Nat} {k r : Doc} (h : Dp K H x (.tuple ([.tuple [.int a, k.data]] ++ r.ts))) : Dp K H x (Doc.cons a k r).data := h
def spAllowsB (K : PySem.W.Frag) (k : Nat) : Sp := fun vs H Q _ => ∃ (sv dv : V) (s : Sch) (d : Doc), vs = [sv, dv] ∧ Dp K H sv (schD s) ∧ SchOk s ∧ Dp K H dv d.data ∧ d.lab = true ∧ d.dep < k ∧ d.size ≤ 1000 ∧ ∀ H', Gr [] H H' → Q (.bl ((setB s d).testBit 0)) H'
end LW
set_option maxHeartbeats 4000000
namespace LW
open PySem PySem.Spec PyProof.Rows L2
def tbls (ls : List Int) : Nat → List (List Doc)
  | 0 => []
  | i + 1 => tabD ls i
theorem tbls_len (ls : List Int) : ∀ i, (tbls ls i).length = i
  | 0 => rfl
  | i + 1 => tabD_len ls i
theorem tbls_succ (ls : List Int) : ∀ i, tbls ls (i + 1) = tbls ls i ++ [rowB ls (tbls ls i) i]
  | 0 => rfl
  | i + 1 => rfl
theorem two_of {ls : List Int} (h : ls.length = 2) : ∃ x y, ls = [x, y] := by
  match ls, h with
  | [x, y], _ => exact ⟨x, y, rfl⟩
theorem tbls_at (ls : List Int) : ∀ k j, j < k → (tbls ls k)[j]? = some (rowB ls (tbls ls j) j)
  | 0, j, h => absurd h (Nat.not_lt_zero _)
  | k + 1, j, h => by
    rw [tbls_succ]
    rcases Nat.lt_or_ge j k with hlt | hge
    · rw [List.getElem?_append_left (by rw [tbls_len]; exact hlt)]
      exact tbls_at ls k j hlt
    · obtain rfl : j = k := by omega
      rw [List.getElem?_append_right (by rw [tbls_len]; exact Nat.le_refl _), tbls_len, Nat.sub_self]
      rfl
def rowL (ls : List Int) (i : Nat) : Nat := (rowB ls (tbls ls i) i).length
theorem rowL_succ {ls : List Int} (h : ls.length = 2) (n : Nat) : rowL ls (n + 1) = 2 * ((List.range (n + 1)).map fun j => rowL ls j * rowL ls (n - j)).sum := by
  have at_ : ∀ j, j < n + 1 → ((tbls ls (n + 1)).getD j []).length = rowL ls j := fun j hj => by
    rw [List.getD_eq_getElem?_getD, tbls_at ls _ _ hj]
    rfl
  have one : ∀ a : Int, (st1 (tbls ls (n + 1)) (n + 1) a).length = ((List.range (n + 1)).map fun j => rowL ls j * rowL ls (n - j)).sum := fun a => by
    unfold st1
    rw [List.length_flatMap]
    refine congrArg List.sum (List.map_congr_left fun j hj => ?_)
    have hj' := List.mem_range.mp hj
    unfold st2
    rw [List.length_flatMap]
    have e : (List.map (fun x => (st3 (tbls ls (n + 1)) (n + 1) a j x).length) ((tbls ls (n + 1)).getD j [])) = List.replicate ((tbls ls (n + 1)).getD j []).length (rowL ls (n - j)) := by
      rw [List.eq_replicate_iff]
      refine ⟨by rw [List.length_map], fun x hx => ?_⟩
      obtain ⟨k, _, rfl⟩ := List.mem_map.mp hx
      unfold st3
      rw [List.length_map, at_ _ (by omega), show n + 1 - 1 - j = n - j by omega]
    rw [e, List.sum_replicate_nat, at_ j hj']
  show (stepD ls (tbls ls (n + 1)) (n + 1)).length = _
  obtain ⟨x, y, rfl⟩ := two_of h
  unfold stepD
  rw [List.flatMap_cons, List.flatMap_cons, List.flatMap_nil, List.length_append, List.length_append, one, one]
  simp only [List.length_nil]
  omega
theorem row_count {ls : List Int} (h : ls.length = 2) : ∀ i ≤ 3, (rowB ls (tbls ls i) i).length ≤ 40 := by
  have l0 : rowL ls 0 = 1 := rfl
  have l1 : rowL ls 1 = 2 := by rw [rowL_succ h 0]; simp [List.range_succ, l0]
  have l2 : rowL ls 2 = 8 := by rw [rowL_succ h 1]; simp [List.range_succ, l0, l1]
  have l3 : rowL ls 3 = 40 := by rw [rowL_succ h 2]; simp [List.range_succ, l0, l1, l2]
  intro i hi
  show rowL ls i ≤ 40
  match i, hi with
  | 0, _ => omega
  | 1, _ => omega
  | 2, _ => omega
  | 3, _ => omega
theorem tbl_count {ls : List Int} (h : ls.length = 2) : ∀ i ≤ 4, ((tbls ls i).flatten).length ≤ 40 * i := by
  intro i hi
  induction i with
  | zero => exact Nat.le_refl _
  | succ i ih =>
    rw [tbls_succ, List.flatten_append, List.length_append]
    have h1 := ih (by omega)
    have h2 := row_count h i (by omega)
    simp only [List.flatten_cons, List.flatten_nil, List.append_nil]
    omega
theorem tbls_docs {ls : List Int} (hl : ∀ x ∈ ls, 0 ≤ x ∧ x < 5) {i : Nat} {d : Doc} (h : d ∈ (tbls ls i).flatten) : ∃ k, k < i ∧ docN k d := by
  cases i with
  | zero => exact absurd h (by simp [tbls])
  | succ n =>
    obtain ⟨row, hr, hd⟩ := List.mem_flatten.mp h
    obtain ⟨k, hk⟩ := List.getElem?_of_mem hr
    have hlt : k < (tabD ls n).length := (List.getElem?_eq_some_iff.mp hk).1
    rw [tabD_len] at hlt
    obtain ⟨e, p⟩ := tabD_get ls n k (by omega)
    rw [show tbls ls (n + 1) = tabD ls n from rfl, e] at hk
    cases hk
    exact ⟨k, hlt, p d hd hl⟩
end LW
set_option maxHeartbeats 4000000
namespace LW
open PySem PySem.Spec PyProof.Rows L2
theorem dataLt_rl' {r t : Rl} (h : PySem.W.dataLt (rlD r) (rlD t) = true) : rlLt r t := by
  unfold rlD at h
  rw [PySem.W.dataLt_tuple] at h
  have al : ∀ i j : Int, PySem.W.alike (.int i) (.int j) = true := fun i j => by simp [PySem.W.alike]
  unfold rlLt
  by_cases h1 : r.1 = t.1
  · rw [h1, PySem.W.dataLt_all_yes (al _ _) (by simp [PyData.eqv])] at h
    by_cases h2 : r.2.1 = t.2.1
    · rw [h2, PySem.W.dataLt_all_yes (al _ _) (by simp [PyData.eqv])] at h
      by_cases h3 : r.2.2 = t.2.2
      · rw [h3, PySem.W.dataLt_all_yes (al _ _) (by simp [PyData.eqv])] at h
        exact absurd h (by unfold PySem.W.keyToksAll; decide)
      · rw [PySem.W.dataLt_all_no (al _ _) (by simp [PyData.eqv]; omega), PySem.W.dataLt_int] at h
        have := of_decide_eq_true h
        omega
    · rw [PySem.W.dataLt_all_no (al _ _) (by simp [PyData.eqv]; omega), PySem.W.dataLt_int] at h
      have := of_decide_eq_true h
      omega
  · rw [PySem.W.dataLt_all_no (al _ _) (by simp [PyData.eqv]; omega), PySem.W.dataLt_int] at h
    have := of_decide_eq_true h
    omega
theorem rlLt_lex {r t : Rl} : SrtO.lex3 (rlK r) (rlK t) = true ↔ rlLt r t := by
  rw [SrtO.lex3_iff]
  unfold rlLt rlK
  simp only
  omega
theorem rlLt_trans {a b c : Rl} (h : rlLt a b) (k : rlLt b c) : rlLt a c := by
  unfold rlLt at *
  omega
theorem rlLt_irr {a : Rl} (h : rlLt a a) : False := by
  unfold rlLt at h
  omega
theorem rlLt_tri {a b : Rl} (h : ¬ rlLt a b) (n : a ≠ b) : rlLt b a := by
  obtain ⟨x, y, z⟩ := a
  obtain ⟨u, v, w⟩ := b
  unfold rlLt at *
  simp only [ne_eq, Prod.mk.injEq] at *
  omega
theorem risL_pw : ∀ {rs : List Rl}, risL (rs.map rlD) = true → rs.Pairwise rlLt
  | [], _ => .nil
  | [a], _ => List.pairwise_singleton _ a
  | a :: b :: r, h => by
    have h : (PySem.W.dataLt (rlD a) (rlD b) && risL ((b :: r).map rlD)) = true := h
    rw [Bool.and_eq_true] at h
    have ih := risL_pw h.2
    have ab := dataLt_rl' h.1
    refine List.pairwise_cons.mpr ⟨fun x hx => ?_, ih⟩
    rcases List.mem_cons.mp hx with rfl | hx
    · exact ab
    · exact rlLt_trans ab ((List.pairwise_cons.mp ih).1 x hx)
theorem SchOk.pw {s : Sch} (h : SchOk s) {st : Bool × List Rl} (hs : st ∈ s) : st.2.Pairwise rlLt := risL_pw (h.rise st hs)
theorem pw_at {rs : List Rl} (h : rs.Pairwise rlLt) {i j : Nat} {r t : Rl} (hi : rs[i]? = some r) (hj : rs[j]? = some t) (lt : i < j) : rlLt r t := by
  obtain ⟨h1, rfl⟩ := List.getElem?_eq_some_iff.mp hi
  obtain ⟨h2, rfl⟩ := List.getElem?_eq_some_iff.mp hj
  exact List.pairwise_iff_getElem.mp h i j h1 h2 lt
theorem sch_ok_of {s : Sch} (h : schemaD (schD s) = true) : SchOk s := by
  have h : (decide (1 ≤ (s.map stD).length) && decide ((s.map stD).length ≤ 60) && (s.map stD).all (stateD · (s.map stD).length) && decide (((s.map stD).map nRules).sum ≤ 2000)) = true := h
  rw [Bool.and_eq_true, Bool.and_eq_true, Bool.and_eq_true, List.length_map] at h
  obtain ⟨⟨⟨h1, h2⟩, h3⟩, h4⟩ := h
  have each : ∀ st ∈ s, (st.2.map rlD).all (ruleD · (s.length : Int)) = true ∧ risL (st.2.map rlD) = true := fun st hst => by
    have := List.all_eq_true.mp h3 _ (List.mem_map.mpr ⟨st, hst, rfl⟩)
    have z : (true && ((st.2.map rlD).all (ruleD · (s.length : Int)) && risL (st.2.map rlD))) = true := this
    rw [Bool.true_and, Bool.and_eq_true] at z
    exact z
  refine ⟨of_decide_eq_true h1, of_decide_eq_true h2, fun st hst r hr => ?_, fun st hst => (each st hst).2, ?_⟩
  · have := List.all_eq_true.mp (each st hst).1 _ (List.mem_map.mpr ⟨r, hr, rfl⟩)
    have z : ((decide ((0 : Int) ≤ (r.1 : Int)) && decide ((r.1 : Int) < 5)) && ((decide ((0 : Int) ≤ (r.2.1 : Int)) && decide ((r.2.1 : Int) < s.length)) && (decide ((0 : Int) ≤ (r.2.2 : Int)) && decide ((r.2.2 : Int) < s.length)))) = true := this
    simp only [Bool.and_eq_true, decide_eq_true_eq] at z
    omega
  · have e : ((s.map stD).map nRules) = s.map (·.2.length) := by
      rw [List.map_map]
      refine List.map_congr_left fun st _ => ?_
      show (st.2.map rlD).length = _
      rw [List.length_map]
    rw [← e]
    exact of_decide_eq_true h4
def nRl (s : Sch) : Nat := (s.map (·.2.length)).sum
theorem pure1_st (st : Bool × List Rl) : pure1 (stD st) = true := pureAll_iff.mp (pure_sts [st]) _ (List.mem_singleton.mpr rfl)
theorem iteFd {b : Bool} {A B : Prop} (h : b = false) (x : B) : if b = true then A else B := by rw [h]; exact iteF x
theorem iteTd {b : Bool} {A B : Prop} (h : b = true) (x : A) : if b = true then A else B := by rw [h]; exact iteT x
theorem nRl_take {s : Sch} {i : Nat} {st : Bool × List Rl} (e : s[i]? = some st) : nRl (s.take (i + 1)) = nRl (s.take i) + st.2.length := by
  unfold nRl
  rw [List.take_add_one, e, List.map_append, List.sum_append]
  simp
/-- what the law's own checks promise -/
def spNumI : Sp := fun vs H Q _ => ∃ x lo hi : Int, vs = [.int x, .int lo, .int hi] ∧ Q (.bl (decide (lo ≤ x) && decide (x ≤ hi))) H
def spLSch (K : PySem.W.Frag) : Sp := fun vs H Q _ => ∃ (sv : V) (s : Sch), vs = [sv] ∧ Dp K H sv (schD s) ∧ SchOk s ∧ ∀ H', Gr [] H H' → Q (.bl true) H'
def mayRef (s t : Sch) : Bool := decide (60 < s.length + t.length + 1) || decide (2000 < 2 * (nRl s + nRl t))
def spMayRef (K : PySem.W.Frag) : Sp := fun vs H Q _ => ∃ (sv tv : V) (s t : Sch), vs = [sv, tv] ∧ Dp K H sv (schD s) ∧ Dp K H tv (schD t) ∧ SchOk s ∧ SchOk t ∧ ∀ H', Gr [] H H' → Q (.bl (mayRef s t)) H'
def chainS (m a : Nat) : Sch := (List.range (m - 1)).map (fun k => (false, [(a, m - 1, k + 1)])) ++ [(true, [])]
def wideS (m a : Nat) : Sch := (false, (List.range m).flatMap fun x => (List.range m).map fun y => (a, x, y)) :: List.replicate (m - 1) (true, [])
def spChain (K : PySem.W.Frag) : Sp := fun vs H Q _ => ∃ m a : Nat, vs = [natV m, natV a] ∧ 2 ≤ m ∧ m ≤ 60 ∧ ∀ H' x, Gr [] H H' → Dp K H' x (schD (chainS m a)) → Q x H'
def spWide (K : PySem.W.Frag) : Sp := fun vs H Q _ => ∃ m a : Nat, vs = [natV m, natV a] ∧ 2 ≤ m ∧ m ≤ 44 ∧ ∀ H' x, Gr [] H H' → Dp K H' x (schD (wideS m a)) → Q x H'
end LW
set_option maxHeartbeats 4000000
namespace LW
open PySem PySem.Spec PyProof.Rows L2
/-- what is known of an own exception's class C, the i-th of five -/
structure ClsF (K : PySem.W.Frag) (D0 D1 D2 D3 D4 C : Addr) (i : Nat) : Prop where
  lt : i < 5
  e : L2.ExcC K C
  s : PySem.W.findIn K (.ref C) "__str__" = some (some (.builtin "BaseException.__str__"))
  k0 : PySem.W.kitOne K (.ref C) (.ref D0) = some (decide (i = 0))
  k1 : PySem.W.kitOne K (.ref C) (.ref D1) = some (decide (i = 1))
  k2 : PySem.W.kitOne K (.ref C) (.ref D2) = some (decide (i = 2))
  k3 : PySem.W.kitOne K (.ref C) (.ref D3) = some (decide (i = 3))
  k4 : PySem.W.kitOne K (.ref C) (.ref D4) = some (decide (i = 4))
  v : PySem.W.kitOne K (.ref C) (.type "ValueError") = some true
def clsN (i : Nat) : Str := (["document", "schema", "transformation", "text", "much"] : List Str).getD i ""
def refD (n : Str) : PyData := .tuple [.str "refused", .str n]
def spClass (K : PySem.W.Frag) (D0 D1 D2 D3 D4 : Addr) : XA.SpE := fun a cls d vs H Q _ => ∃ (C : Addr) (i : Nat), vs = [.ref a] ∧ cls = .ref C ∧ ClsF K D0 D1 D2 D3 D4 C i ∧ (∃ t, d = some t ∧ H t = some (.tup [])) ∧ ∀ H' x, Gr [] H H' → Dp K H' x (refD (clsN i)) → Q x H'
def kindsD (i : Nat) : List PyData := [.bool (decide (i = 0)), .bool (decide (i = 1)), .bool (decide (i = 2)), .bool (decide (i = 3)), .bool (decide (i = 4))]
theorem kinds_count {i : Nat} (h : i < 5) : (kindsD i).countP (fun z => PyData.eqv z (.bool true)) = 1 := by
  have : i = 0 ∨ i = 1 ∨ i = 2 ∨ i = 3 ∨ i = 4 := by omega
  rcases this with rfl | rfl | rfl | rfl | rfl <;> rfl
theorem b_str : bootBuiltins "str" = some (.type "str") := by decide +kernel
theorem b_ValueError : bootBuiltins "ValueError" = some (.type "ValueError") := by decide +kernel
/-- an answer of the law's telling def -/
def Told (K : PySem.W.Frag) (Q : VK) (H : Hp) (d : PyData) : Prop := ∀ H' x, Gr [] H H' → Dp K H' x d → Q x H'
theorem Told.gr {K : PySem.W.Frag} {Q : VK} {H H1 : Hp} {d : PyData} (h : Told K Q H d) (g : Gr [] H H1) : Told K Q H1 d := fun H' x g' hx => h H' x (g.trans g') hx
def spTold12 (K : PySem.W.Frag) (T1 T2 T3 : Addr) : Sp := fun vs H Q _ => ∃ (v1 v2 : V) (d1 d2 : PyData), vs = [v1, v2] ∧ Dp K H v1 d1 ∧ Dp K H v2 d2 ∧ fewSc d1 ∧ fewSc d2 ∧ GxR.TabG H T1 ∧ GxR.TabG H T2 ∧ GxR.TabG H T3 ∧
  ((schemaD d1 = false ∧ Told K Q H (refD "schema")) ∨ ∃ s, d1 = schD s ∧ SchOk s ∧ ((schemaD d2 = false ∧ Told K Q H (refD "schema")) ∨ ∃ t, d2 = schD t ∧ SchOk t ∧ ∀ us, us.Perm (sumRs s t) → us.Pairwise (fun r t => ¬ rlLt t r) →
    (schemaD (schD (sumS s t us)) = true → Told K Q H (schD (sumS s t us))) ∧ (schemaD (schD (sumS s t us)) = false → Told K Q H (refD "much"))))
end LW
set_option maxHeartbeats 2000000
namespace LW
open PySem PySem.Spec PyProof.Rows L2
/-! what the doors of the program promise where they may refuse -/
def spCheckDX (K : PySem.W.Frag) (T CD : Addr) : Sp := fun vs H Q E => ∃ (d : PyData) (v : V), vs = [v] ∧ Dp K H v d ∧ GxR.TabG H T ∧ (docD d = true → ∀ H', Gr [] H H' → Q .non H') ∧ (docD d = false → XE0 E CD H)
def spSetOfX (K : PySem.W.Frag) (T T1 T2 T3 CD CB : Addr) : Sp := fun vs H Q E => ∃ (v1 v2 : V) (d1 d2 : PyData), vs = [v1, v2] ∧ Dp K H v1 d1 ∧ Dp K H v2 d2 ∧ fewSc d1 ∧ GxR.TabG H T ∧ GxR.TabG H T1 ∧ GxR.TabG H T2 ∧ GxR.TabG H T3 ∧
  ((schemaD d1 = false ∧ XE0 E CB H) ∨ ∃ s, d1 = schD s ∧ SchOk s ∧ ((docD d2 = false ∧ XE0 E CD H) ∨ ∃ d : Doc, d2 = d.data ∧ d.ok ∧ ∀ H' p, Gr [] H H' → H p = none → H' p = some (.tup ((LB.mems (setB s d) s.length).map natV)) → Q (.ref p) H'))
def spAllowsX (K : PySem.W.Frag) (T T1 T2 T3 CD CB : Addr) : Sp := fun vs H Q E => ∃ (v1 v2 : V) (d1 d2 : PyData), vs = [v1, v2] ∧ Dp K H v1 d1 ∧ Dp K H v2 d2 ∧ fewSc d1 ∧ GxR.TabG H T ∧ GxR.TabG H T1 ∧ GxR.TabG H T2 ∧ GxR.TabG H T3 ∧
  ((schemaD d1 = false ∧ XE0 E CB H) ∨ ∃ s, d1 = schD s ∧ SchOk s ∧ ((docD d2 = false ∧ XE0 E CD H) ∨ ∃ d : Doc, d2 = d.data ∧ d.ok ∧ ∀ H', Gr [] H H' → Q (.bl ((setB s d).testBit 0)) H'))
def spSizeX (K : PySem.W.Frag) (T CD : Addr) : Sp := fun vs H Q E => ∃ (d : PyData) (v : V), vs = [v] ∧ Dp K H v d ∧ GxR.TabG H T ∧ ((docD d = false ∧ XE0 E CD H) ∨ ∃ e : Doc, d = e.data ∧ e.ok ∧ ∀ H', Gr [] H H' → Q (.int e.size) H')
def spBeforeX (K : PySem.W.Frag) (T CD : Addr) : Sp := fun vs H Q E => ∃ (d1 d2 : PyData) (v u : V), vs = [v, u] ∧ Dp K H v d1 ∧ Dp K H u d2 ∧ GxR.TabG H T ∧
  ((docD d1 = false ∧ XE0 E CD H) ∨ ∃ d : Doc, d1 = d.data ∧ d.ok ∧ ((docD d2 = false ∧ XE0 E CD H) ∨ ∃ e : Doc, d2 = e.data ∧ e.ok ∧ ∀ H', Gr [] H H' → Q (.int (cmpL d.ord e.ord)) H'))
/-- _law_class that answers with the name alone -/
def spClassT (K : PySem.W.Frag) (D0 D1 D2 D3 D4 : Addr) : XA.SpE := fun a cls d vs H Q _ => ∃ (C : Addr) (i : Nat), vs = [.ref a] ∧ cls = .ref C ∧ ClsF K D0 D1 D2 D3 D4 C i ∧ ∀ H', Gr [] H H' → Q (.str (clsN i)) H'
end LW
set_option maxHeartbeats 4000000
namespace LW
open PySem PySem.Spec PyProof.Rows L2
section
variable {P : Program} {w : World} {K : PySem.W.Frag} {mg : Str → Option Value} {base : Heap} {f : Addr} {fd : FuncData}
theorem sc_check_documentX : FnScope ["d"] ["d"] (defScope s_check_document) := ⟨rfl, rfl, rfl, by decide +kernel, rfl, by decide +kernel, by decide +kernel⟩
theorem ok_checkDX {T CD : Addr} (F : Fun K "check_document" "check_document" s_check_document f fd) (f1 : Fn P w K mg base CX0 6 "is_document" ["d"] (spIsDoc K T)) (B : XC K mg "BadDocument" CD) : FnOk P w K mg base (XA.CXA P w) 7 f fd ["d"] (spCheckDX K T CD) := by
  refine F.okA sc_check_documentX (fun vs H Q E h => ?_) (fun cdv A outer s H vs Q E hr tk h => ?_)
  · obtain ⟨d, v, rfl, _⟩ := h; rfl
  obtain ⟨d, v, rfl, hd, hT, qy, qn⟩ := h
  refine ⟨_, pss_one (ps_if (pt_not (pt_val (pe_fn f1 hr rfl pass0 (pa_cons (pv 0) pa_nil)))) (pss_one (ps_raiseC B rfl tk rfl)) pss_nil), ?_⟩
  refine ⟨_, rfl, d, v, rfl, hd, hT, fun H' g => ⟨_, rfl, ?_⟩⟩
  cases e : docD d with
  | true => exact iteF (qy e H' g)
  | false => exact iteT ((qn e).gr g).now
end
end LW
set_option maxHeartbeats 4000000
namespace LW
open PySem PySem.Spec PyProof.Rows L2
section
variable {P : Program} {w : World} {K : PySem.W.Frag} {mg : Str → Option Value} {base : Heap} {f : Addr} {fd : FuncData}
theorem sc_is_rule : FnScope ["rule", "many"] ["rule", "many"] (defScope s_is_rule) := ⟨rfl, rfl, rfl, by decide +kernel, rfl, by decide +kernel, by decide +kernel⟩
theorem ok_is_rule {tL : Tok} (F : Fun K "is_rule" "is_rule" s_is_rule f fd) (f1 : Fn P w K mg base CX0 1 "is_tuple_of" ["worth", "many"] (spTupOf K)) (f2 : Fn P w K mg base CX0 1 "is_below" ["worth", "limit"] (spBelow K)) (mL : mg "LABELS" = some (.int 5 tL)) :
    FnOk P w K mg base CX0 2 f fd ["rule", "many"] (spRule K) := by
  refine F.ok sc_is_rule (fun vs H Q E h => ?_) (fun cdv A outer s H vs Q E hr h => ?_)
  · obtain ⟨d, n, v, rfl, _⟩ := h; rfl
  obtain ⟨d, n, v, rfl, hd, q⟩ := h
  refine ⟨_, pss_one (ps_ret (pe_and (pe_fn f1 hr rfl pass0 (pa_cons (pv 0) (pa_cons pe_int pa_nil)))
    (pe_and (pe_fn f2 hr rfl pass0 (pa_cons (pe_ix ix_tup (pv 0) pe_int (fun _ _ => rfl)) (pa_cons (pe_gint mL rfl) pa_nil)))
    (pe_and (pe_fn f2 hr rfl pass0 (pa_cons (pe_ix ix_tup (pv 0) pe_int (fun _ _ => rfl)) (pa_cons (pv 1) pa_nil)))
    (pe_one (pe_fn f2 hr rfl pass0 (pa_cons (pe_ix ix_tup (pv 0) pe_int (fun _ _ => rfl)) (pa_cons (pv 1) pa_nil)))))))), ?_⟩
  refine ⟨_, rfl, d, 3, v, rfl, hd, _, rfl, ?_⟩
  by_cases h2 : tupOfD d 3 = true
  · rw [h2]
    cases d with
    | tuple ds =>
      have e : (ds.length : Int) = 3 := of_decide_eq_true h2
      match ds, e with
      | [x, y, z], _ =>
        obtain ⟨a, xs, rfl, hs, ha⟩ := hd.tupI
        obtain ⟨v0, hv0, h0⟩ := ha.at (i := 0) rfl
        obtain ⟨v1, hv1, h1⟩ := ha.at (i := 1) rfl
        obtain ⟨v2, hv2, h2⟩ := ha.at (i := 2) rfl
        have q' : Q (.bl (belowD x 5 && (belowD y n && belowD z n))) H := q
        refine iteT ⟨_, rfl, a, _, 0, _, rfl, rfl, hs, atI_nat (j := 0) hv0, x, 5, _, rfl, h0, _, rfl, ?_⟩
        cases e0 : belowD x 5 with
        | false => rw [e0] at q'; exact iteF q'
        | true =>
          rw [e0] at q'
          refine iteT ⟨_, rfl, a, _, 1, _, rfl, rfl, hs, atI_nat (j := 1) hv1, _, rfl, y, n, _, rfl, h1, _, rfl, ?_⟩
          cases e1 : belowD y n with
          | false => rw [e1] at q'; exact iteF q'
          | true =>
            rw [e1] at q'
            exact iteT ⟨_, rfl, a, _, 2, _, rfl, rfl, hs, atI_nat (j := 2) hv2, _, rfl, z, n, _, rfl, h2, q'⟩
    | _ => cases h2
  · have e : tupOfD d 3 = false := by simpa using h2
    rw [e]
    refine iteF ?_
    have e2 : ruleD d n = false := by
      unfold ruleD
      split
      · rename_i x k l
        exact absurd (show tupOfD (.tuple [x, k, l]) 3 = true from (by simp [tupOfD])) h2
      · rfl
    rw [e2] at q
    exact q
end
end LW
set_option maxHeartbeats 4000000
namespace LW
open PySem PySem.Spec PyProof.Rows L2
section
variable {P : Program} {w : World} {K : PySem.W.Frag} {mg : Str → Option Value} {base : Heap} {f : Addr} {fd : FuncData}
theorem sc_is_rising : FnScope ["row", "at"] ["row"] (defScope s_is_rising) := ⟨rfl, rfl, rfl, by decide +kernel, rfl, by decide +kernel, by decide +kernel⟩
theorem ok_is_rising {c T : Addr} (F : Fun K "is_rising" "is_rising" s_is_rising f fd) (hc : fd.code = .ref c) (TB : GxR.TabB base mg c T) (ml : mg "len" = none) (ma : mg "all" = none) (mr : mg "range" = none) :
    FnOk P w K mg base CX0 4 f fd ["row"] (spRising K T) := by
  refine okC F hc sc_is_rising (fun vs H Q E h => ?_) (fun A outer s H vs Q E hr h => ?_)
  · obtain ⟨_, v, rfl, _⟩ := h; rfl
  obtain ⟨ds, v, rfl, hd, htr, hT, hz, q⟩ := h
  have nd := sc_is_rising.nd
  refine ⟨_, pss_one (ps_ret (pe_allG (own := [("at", 1)]) (gT := gName 1) (k := 0) hr rfl ma b_all TB rfl (gsc_by (N := ["row", "at"]) (sc := defScope s_is_rising) (by decide +kernel) (by decide +kernel)) nd
    (pi_range2 rfl mr (pa_cons pe_int (pa_cons (pe_callB call_len_seq (by rfl) ml PySem.boot_len (pa_cons (pv 0) pa_nil)) pa_nil)))
    (fun A s H C cl code fp pn => pg_name (i := 1) nd rfl (.inl rfl))
    (fun A s H C cl code fp pn hrA => pe_cmpR (r := rLtD K) (op_ltD hrA.units) (pe_ix (r := rIxT K) ix_tup (pv 0) (pe_op op_sub (pv 1) pe_int) (fun _ _ => rfl)) (pe_ix (r := rIxT K) ix_tup (pv 0) (pv 1) (fun _ _ => rfl)) (nomark _)))), ?_⟩
  obtain ⟨a, vs, rfl, hs, ha⟩ := hd.tupI
  have hvl := ha.length
  refine ⟨_, rfl, a, vs, rfl, .inr hs, _, _, rfl, ⟨by decide, by decide, by omega, by omega⟩, hT, fun H3 hT3 => ?_⟩
  have g3 := Tabbed.gr hT hT3
  refine gw_range (n := ((vs.length : Int) - 1).toNat) (fun i H' => H' = H3 ∧ risL (ds.take (i + 1)) = true) ⟨rfl, ?_⟩ (fun i H' hi hP => ?_) (fun H' hP => ?_)
  · cases ds <;> rfl
  · obtain ⟨rfl, hris⟩ := hP
    have h0 : i < ds.length := by omega
    have h1 : i + 1 < ds.length := by omega
    obtain ⟨v0, hv0, hd0⟩ := ha.at (List.getElem?_eq_getElem h0)
    obtain ⟨v1, hv1, hd1⟩ := ha.at (List.getElem?_eq_getElem h1)
    obtain ⟨al, nn, dp⟩ := triple_alike (htr _ (List.getElem_mem h0)) (htr _ (List.getElem_mem h1))
    refine ⟨rfl, _, rfl, _, rfl, _, _, rfl, rfl, a, vs, _, v0, rfl, rfl, g3.sqT hs, atI_eq hv0 (by omega), _, rfl, _, rfl, a, vs, _, v1, rfl, rfl, g3.sqT hs, atI_eq hv1 (by omega), _, _, hd0.gr g3, hd1.gr g3, al, nn, dp, _, rfl, ?_⟩
    cases hlt : PySem.W.dataLt ds[i] ds[i + 1] with
    | true =>
      refine iteT ⟨rfl, ?_⟩
      rw [risL_snoc (List.getElem?_eq_getElem h0) (List.getElem?_eq_getElem h1), hris, hlt]
      rfl
    | false =>
      have q' := q H' g3
      rw [risL_bad (List.getElem?_eq_getElem h0) (List.getElem?_eq_getElem h1) hlt] at q'
      exact iteF q'
  · obtain ⟨rfl, hris⟩ := hP
    have q' := q H' g3
    have e : ds.take (((vs.length : Int) - 1).toNat + 1) = ds := List.take_of_length_le (by omega)
    rw [e] at hris
    rw [hris] at q'
    exact q'
end
end LW
set_option maxHeartbeats 4000000
namespace LW
open PySem PySem.Spec PyProof.Rows L2
section
variable {P : Program} {w : World} {K : PySem.W.Frag} {mg : Str → Option Value} {base : Heap} {f : Addr} {fd : FuncData}
theorem sc_are_rules : FnScope ["rules", "many", "rule"] ["rules", "many"] (defScope s_are_rules) := ⟨rfl, rfl, rfl, by decide +kernel, rfl, by decide +kernel, by decide +kernel⟩
theorem ok_are_rules {c T1 T2 : Addr} (F : Fun K "are_rules" "are_rules" s_are_rules f fd) (hc : fd.code = .ref c) (TB : GxR.TabB base mg c T1) (f1 : Fn P w K mg base CX0 2 "is_rule" ["rule", "many"] (spRule K)) (f2 : Fn P w K mg base CX0 4 "is_rising" ["row"] (spRising K T2))
    (mi : mg "isinstance" = none) (mt : mg "tuple" = none) (ma : mg "all" = none) : FnOk P w K mg base CX0 6 f fd ["rules", "many"] (spRules K T1 T2) := by
  refine okC F hc sc_are_rules (fun vs H Q E h => ?_) (fun A outer s H vs Q E hr h => ?_)
  · obtain ⟨_, _, v, rfl, _⟩ := h; rfl
  obtain ⟨d, n, v, rfl, hd, hfew, hT, hT2, q⟩ := h
  have nd := sc_are_rules.nd
  refine ⟨_, pss_one (ps_ret (pe_and (pe_callB call_isi (by rfl) mi b_isinstance (pa_cons (pv 0) (pa_cons (pe_bltn (v := .ty "tuple") (by rfl) mt b_tuple rfl) pa_nil)))
    (pe_and (pe_allG (own := [("rule", 2)]) (gT := gName 2) (k := 2) hr rfl ma b_all TB rfl (gsc_by (N := ["rules", "many", "rule"]) (sc := defScope s_are_rules) (by decide +kernel) (by decide +kernel)) nd
      (pi_tup (pv 0)) (fun A s H C cl code fp pn => pg_name (i := 2) nd rfl (.inl rfl))
      (fun A s H C cl code fp pn hrA => pe_fn f1 hrA rfl pass0 (pa_cons (pv 2) (pa_cons (pv 1) pa_nil))))
    (pe_one (pe_fn f2 (hr.mono (by omega)) rfl pass0 (pa_cons (pv 0) pa_nil)))))), ?_⟩
  refine ⟨_, rfl, _, _, _, _, _, rfl, .ty "tuple", hd.ty, kit_tup d, _, rfl, ?_⟩
  have q0 := q H (Gr.refl H)
  cases d with
  | none => exact iteF q0
  | bool b => exact iteF q0
  | int i => exact iteF q0
  | str x => exact iteF q0
  | list ds => exact iteF q0
  | dict ds => exact iteF q0
  | tuple rs =>
    obtain ⟨a, vs, rfl, hs, ha⟩ := hd.tupI
    have hvl := ha.length
    refine iteT ⟨_, rfl, a, rfl, ⟨vs, hs⟩, hT, fun H3 hT3 => ?_⟩
    have g3 := Tabbed.gr hT hT3
    refine gw_tup (xs := vs) (fun i H' => H' = H3 ∧ (rs.take i).all (ruleD · n) = true) ⟨rfl, rfl⟩ (fun i H' _ hP => ?_) (fun i x H' hx hP => ?_) (fun H' hP => ?_)
    · rw [hP.1]; exact g3.sqT hs
    · obtain ⟨rfl, hall⟩ := hP
      obtain ⟨dt, hdt, hxd⟩ := ha.get hx
      refine ⟨rfl, _, rfl, _, rfl, dt, n, x, rfl, hxd.gr g3, _, rfl, ?_⟩
      cases htd : ruleD dt n with
      | true => exact iteT ⟨rfl, all_snoc hdt hall htd⟩
      | false =>
        have q' := q H' g3
        have e : rulesD (.tuple rs) n = false := by
          show (rs.all (ruleD · n) && risL rs) = false
          rw [all_not (p := (ruleD · n)) hdt htd]
          rfl
        rw [e] at q'
        exact iteF ⟨_, rfl, iteF q'⟩
    · obtain ⟨rfl, hall⟩ := hP
      rw [List.take_of_length_le (by omega)] at hall
      refine ⟨_, rfl, iteT ⟨_, rfl, rs, _, rfl, hd.gr g3, fun d hdm => ?_, g3.tab _ hT2, hfew _ rfl, fun H4 g4 => ?_⟩⟩
      · obtain ⟨a, x, y, e, _⟩ := ruleD_inv (List.all_eq_true.mp hall d hdm)
        exact ⟨a, x, y, e⟩
      · have q' := q H4 (g3.trans g4)
        have e : rulesD (.tuple rs) n = risL rs := by
          show (rs.all (ruleD · n) && risL rs) = _
          rw [hall]
          rfl
        rw [e] at q'
        exact q'
end
end LW
set_option maxHeartbeats 4000000
namespace LW
open PySem PySem.Spec PyProof.Rows L2
section
variable {P : Program} {w : World} {K : PySem.W.Frag} {mg : Str → Option Value} {base : Heap} {f : Addr} {fd : FuncData}
theorem sc_is_state : FnScope ["state", "many"] ["state", "many"] (defScope s_is_state) := ⟨rfl, rfl, rfl, by decide +kernel, rfl, by decide +kernel, by decide +kernel⟩
theorem ok_is_state {T1 T2 : Addr} (F : Fun K "is_state" "is_state" s_is_state f fd) (f1 : Fn P w K mg base CX0 6 "is_tuple_of" ["worth", "many"] (spTupOf K)) (f2 : Fn P w K mg base CX0 6 "are_rules" ["rules", "many"] (spRules K T1 T2))
    (mi : mg "isinstance" = none) (mb : mg "bool" = none) : FnOk P w K mg base CX0 7 f fd ["state", "many"] (spState K T1 T2) := by
  refine F.ok sc_is_state (fun vs H Q E h => ?_) (fun cdv A outer s H vs Q E hr h => ?_)
  · obtain ⟨_, _, v, rfl, _⟩ := h; rfl
  obtain ⟨d, n, v, rfl, hd, hfew, hT, hT2, q⟩ := h
  refine ⟨_, pss_one (ps_ret (pe_and (pe_fn f1 hr rfl pass0 (pa_cons (pv 0) (pa_cons pe_int pa_nil)))
    (pe_and (pe_callB call_isi (by rfl) mi b_isinstance (pa_cons (pe_ix ix_tup (pv 0) pe_int (fun _ _ => rfl)) (pa_cons (pe_bltn (v := .ty "bool") (by rfl) mb b_bool rfl) pa_nil)))
    (pe_one (pe_fn f2 hr rfl pass0 (pa_cons (pe_ix ix_tup (pv 0) pe_int (fun _ _ => rfl)) (pa_cons (pv 1) pa_nil))))))), ?_⟩
  refine ⟨_, rfl, d, 2, v, rfl, hd, _, rfl, ?_⟩
  by_cases h2 : tupOfD d 2 = true
  · rw [h2]
    cases d with
    | tuple ds =>
      have e : (ds.length : Int) = 2 := of_decide_eq_true h2
      match ds, e with
      | [x, y], _ =>
        obtain ⟨a, xs, rfl, hs, ha⟩ := hd.tupI
        obtain ⟨v0, hv0, h0⟩ := ha.at (i := 0) rfl
        obtain ⟨v1, hv1, h1⟩ := ha.at (i := 1) rfl
        have q' : ∀ H', Gr [] H H' → Q (.bl (isBoolD x && rulesD y n)) H' := q
        refine iteT ⟨_, rfl, a, _, 0, _, rfl, rfl, hs, atI_nat (j := 0) hv0, _, _, _, _, _, rfl, .ty "bool", h0.ty, kit_bool x, _, rfl, ?_⟩
        cases e0 : isBoolD x with
        | false =>
          rw [e0] at q'
          exact iteF (q' H (Gr.refl H))
        | true =>
          rw [e0] at q'
          exact iteT ⟨_, rfl, a, _, 1, _, rfl, rfl, hs, atI_nat (j := 1) hv1, _, rfl, y, n, _, rfl, h1, hfew _ _ rfl, hT, hT2, q'⟩
    | _ => cases h2
  · have e : tupOfD d 2 = false := by simpa using h2
    rw [e]
    refine iteF ?_
    have e2 : stateD d n = false := by
      unfold stateD
      split
      · rename_i x k
        exact absurd (show tupOfD (.tuple [x, k]) 2 = true from (by simp [tupOfD])) h2
      · rfl
    have q' := q H (Gr.refl H)
    rw [e2] at q'
    exact q'
end
end LW
set_option maxHeartbeats 4000000
namespace LW
open PySem PySem.Spec PyProof.Rows L2
section
variable {P : Program} {w : World} {K : PySem.W.Frag} {mg : Str → Option Value} {base : Heap} {f : Addr} {fd : FuncData}
theorem sc_is_schema : FnScope ["s", "state", "_", "rules"] ["s"] (defScope s_is_schema) := ⟨rfl, rfl, rfl, by decide +kernel, rfl, by decide +kernel, by decide +kernel⟩
theorem ok_is_schema {c T1 T2 T3 : Addr} {t1 t2 : Tok} (F : Fun K "is_schema" "is_schema" s_is_schema f fd) (hc : fd.code = .ref c) (TB : GxR.TabB base mg c T3) (f1 : Fn P w K mg base CX0 7 "is_state_schema" ["state", "many"] (spState K T1 T2))
    (mi : mg "isinstance" = none) (mt : mg "tuple" = none) (ma : mg "all" = none) (ml : mg "len" = none) (ms : mg "sum" = none) (mS : mg "MOST_STATES_schema" = some (.int 60 t1)) (mR : mg "MOST_RULES" = some (.int 2000 t2)) :
    FnOk P w K mg base CX0 11 f fd ["s"] (spIsSchema K T1 T2 T3) := by
  refine okC F hc sc_is_schema (fun vs H Q E h => ?_) (fun A outer s H vs Q E hr h => ?_)
  · obtain ⟨_, v, rfl, _⟩ := h; rfl
  obtain ⟨d, v, rfl, hd, hfew, hT1, hT2, hT3, q⟩ := h
  have nd := sc_is_schema.nd
  refine ⟨_, pss_cons (ps_if (PW.pt (pw_or (pt_not (pt_val (pe_callB call_isi (by rfl) mi b_isinstance (pa_cons (pv 0) (pa_cons (pe_bltn (v := .ty "tuple") (by rfl) mt b_tuple rfl) pa_nil)))))
        (pw_or1 (pt_not (pt_chain op_le op_le pe_int (pe_callB call_len_seq (by rfl) ml PySem.boot_len (pa_cons (pv 0) pa_nil)) (pe_gint mS rfl)))))) (pss_one (ps_ret pe_bl)) pss_nil)
    (pss_cons (ps_if (pt_not (pt_val (pe_allG (own := [("state", 1)]) (gT := gName 1) (k := 7) hr rfl ma b_all TB rfl (gsc_by (N := ["s", "state", "_", "rules"]) (sc := defScope s_is_schema) (by decide +kernel) (by decide +kernel)) nd
      (pi_tup (pv 0)) (fun A s H C cl code fp pn => pg_name (i := 1) nd rfl (.inl rfl))
      (fun A s H C cl code fp pn hrA => pe_fn f1 hrA rfl pass0 (pa_cons (pv 1) (pa_cons (pe_callB (r := rLen K) call_len_seq (by rfl) ml PySem.boot_len (pa_cons (pv 0) pa_nil)) pa_nil)))))) (pss_one (ps_ret pe_bl)) pss_nil)
    (pss_one (ps_ret (pe_cmpR op_le (pe_callB (cr_sum rfl) (by rfl) ms b_sum (pa_cons
      (pe_lc (own := [("_", 2), ("rules", 3)]) (g := gTup K 2 (gCons (gName 2) (gCons (gName 3) gNil))) (tt := tYes) rfl nd (pi_tup (pv 0)) (blkOk_by (N := ["s", "state", "_", "rules"]) (sc := defScope s_is_schema) (own := [("_", 2), ("rules", 3)]) (by decide +kernel))
          (fun s H C cl fp => pg_tup rfl (pgs_cons (pg_name (i := 2) nd rfl (.inl rfl)) (pgs_cons (pg_name (i := 3) nd rfl (.inl rfl)) pgs_nil))) (fun s H C cl fp => pts_nil)
          (fun s H C cl fp => pe_callB (r := rLen K) call_len_seq (by rfl) ml PySem.boot_len (pa_cons (pv 3) pa_nil))) pa_nil)) (pe_gint mR rfl) (nomark _))))), ?_⟩
  refine ⟨_, rfl, _, _, _, _, _, rfl, .ty "tuple", hd.ty, kit_tup d, _, rfl, ?_⟩
  have q0 := q H (Gr.refl H)
  cases d with
  | none => exact iteT (iteT q0)
  | bool b => exact iteT (iteT q0)
  | int i => exact iteT (iteT q0)
  | str x => exact iteT (iteT q0)
  | list ds => exact iteT (iteT q0)
  | dict ds => exact iteT (iteT q0)
  | tuple ss =>
    obtain ⟨a, vs, rfl, hs, ha⟩ := hd.tupI
    have hvl := ha.length
    have hdef : schemaD (.tuple ss) = (decide (1 ≤ ss.length) && decide (ss.length ≤ 60) && ss.all (stateD · ss.length) && decide ((ss.map nRules).sum ≤ 2000)) := rfl
    refine iteF ?_
    refine ⟨_, rfl, a, vs, rfl, .inr hs, _, _, rfl, rfl, _, rfl, ?_⟩
    have badQ : schemaD (.tuple ss) = false → ∀ H', Gr [] H H' → Q (.bl false) H' := fun z H' g => by
      have := q H' g
      rwa [z] at this
    by_cases c1 : 1 ≤ ss.length
    case neg =>
      rw [decide_eq_false (show ¬ ((1 : Int) ≤ (vs.length : Nat)) by omega)]
      exact iteF ⟨_, rfl, iteT (badQ (by rw [hdef, decide_eq_false c1]; rfl) H (Gr.refl H))⟩
    rw [decide_eq_true (show ((1 : Int) ≤ (vs.length : Nat)) by omega)]
    refine iteT ⟨_, _, rfl, rfl, _, rfl, ?_⟩
    by_cases c2 : ss.length ≤ 60
    case neg =>
      rw [decide_eq_false (show ¬ (((vs.length : Nat) : Int) ≤ 60) by omega)]
      exact iteT (badQ (by rw [hdef, decide_eq_false c2, Bool.and_false]; rfl) H (Gr.refl H))
    rw [decide_eq_true (show (((vs.length : Nat) : Int) ≤ 60) by omega)]
    refine iteF ?_
    -- all(is_state(state, len(s)) for state in s)
    refine ⟨_, rfl, a, rfl, ⟨vs, hs⟩, hT3, fun H3 hTb => ?_⟩
    have g3 := Tabbed.gr hT3 hTb
    refine gw_tup (xs := vs) (fun i H' => Gr [] H H' ∧ (ss.take i).all (stateD · ss.length) = true) ⟨g3, rfl⟩ (fun i H' _ hP => ?_) (fun i x H' hx hP => ?_) (fun H' hP => ?_)
    · exact hP.1.sqT hs
    · obtain ⟨g, hall⟩ := hP
      obtain ⟨dt, hdt, hxd⟩ := ha.get hx
      refine ⟨rfl, _, rfl, _, rfl, a, vs, rfl, .inr (g.sqT hs), dt, _, x, rfl, hxd.gr g, hfew ss rfl dt (List.mem_of_getElem? hdt), g.tab _ hT1, g.tab _ hT2, fun H4 g4 => ⟨_, rfl, ?_⟩⟩
      rw [hvl]
      cases htd : stateD dt ss.length with
      | true => exact iteT ⟨g.trans g4, all_snoc hdt hall htd⟩
      | false =>
        refine iteF ⟨_, rfl, iteT (badQ ?_ H4 (g.trans g4))⟩
        rw [hdef, all_not (p := (stateD · ss.length)) hdt htd, Bool.and_false]
        rfl
    · obtain ⟨g, hall⟩ := hP
      rw [List.take_of_length_le (by omega)] at hall
      refine ⟨_, rfl, iteF ?_⟩
      -- sum([len(rules) for _, rules in s]) <= MOST_RULES
      refine ⟨_, rfl, a, rfl, ⟨vs, g.sqT hs⟩, fun D nD => lc_tup (xs := vs) (fun i H4 => Gr [] H' H4 ∧ H4 D = some (.lst (((ss.take i).map fun d => (nRules d : Int)).map V.int))) ⟨Gr.new nD, upd_same⟩ (fun i H4 _ hP => hP.1.sqT (g.sqT hs)) (fun i x H4 hx hP => ?_) (fun H4 hP => ?_)⟩
      · obtain ⟨g4, hDl⟩ := hP
        obtain ⟨dt, hdt, hxd⟩ := ha.get hx
        obtain ⟨e, rs, rfl, r1, r2⟩ := stateD_inv (List.all_eq_true.mp hall dt (List.mem_of_getElem? hdt))
        obtain ⟨tp, xs', rfl, hst, hal⟩ := hxd.tupI
        obtain ⟨p1, p2, rfl, h1, h2⟩ := dpAll_two hal
        obtain ⟨rp, rv, rfl, hsr, hra⟩ := h2.tupI
        have hi : i < ss.length := (List.getElem?_eq_some_iff.mp hdt).1
        have gg := g.trans g4
        refine ⟨tp, _, rfl, gg.sqT hst, rfl, p1, [.ref rp], rfl, .ref rp, [], rfl, rfl, rfl, _, rfl, rp, rv, rfl, .inr (gg.sqT hsr), _, hDl, ?_, g4.put0 nD, ?_⟩
        · rw [List.length_map, List.length_map, List.length_take]
          exact Nat.lt_of_le_of_lt (show _ ≤ 100 by omega) (by decide)
        · rw [upd_same, List.take_add_one, hdt, Option.toList_some, List.map_append, List.map_append, hra.length]
          rfl
      · obtain ⟨g4, hDl⟩ := hP
        rw [hvl, List.take_length] at hDl
        refine ⟨D, _, rfl, SqL.of hDl, _, _, rfl, rfl, ?_⟩
        have q' := q H4 (g.trans g4)
        have e : schemaD (.tuple ss) = decide (((ss.map fun d => (nRules d : Int)).sum) ≤ 2000) := by
          rw [hdef, decide_eq_true c1, decide_eq_true c2, hall]
          have cast : ∀ l : List PyData, (l.map fun d => (nRules d : Int)).sum = (((l.map nRules).sum : Nat) : Int) := fun l => by
            induction l with
            | nil => rfl
            | cons x l ih => rw [List.map_cons, List.map_cons, List.sum_cons, List.sum_cons, ih]; omega
          rw [cast]
          by_cases h : (ss.map nRules).sum ≤ 2000
          · rw [decide_eq_true h, decide_eq_true (by omega)]; rfl
          · rw [decide_eq_false h, decide_eq_false (by omega)]; rfl
        rw [e] at q'
        exact q'
end
end LW
set_option maxHeartbeats 4000000
namespace LW
open PySem PySem.Spec PyProof.Rows L2
section
variable {P : Program} {w : World} {K : PySem.W.Frag} {mg : Str → Option Value} {base : Heap} {f : Addr} {fd : FuncData}
theorem sc_check_schemaX : FnScope ["s"] ["s"] (defScope s_check_schema) := ⟨rfl, rfl, rfl, by decide +kernel, rfl, by decide +kernel, by decide +kernel⟩
theorem ok_checkSX {T1 T2 T3 CB : Addr} (F : Fun K "check_schema" "check_schema" s_check_schema f fd) (f1 : Fn P w K mg base CX0 11 "is_schema" ["s"] (spIsSchema K T1 T2 T3)) (B : XC K mg "BadSchema" CB) : FnOk P w K mg base (XA.CXA P w) 12 f fd ["s"] (spCheckSX K T1 T2 T3 CB) := by
  refine F.okA sc_check_schemaX (fun vs H Q E h => ?_) (fun cdv A outer s H vs Q E hr tk h => ?_)
  · obtain ⟨d, v, rfl, _⟩ := h; rfl
  obtain ⟨d, v, rfl, hd, hf, hT1, hT2, hT3, qy, qn⟩ := h
  refine ⟨_, pss_one (ps_if (pt_not (pt_val (pe_fn f1 hr rfl pass0 (pa_cons (pv 0) pa_nil)))) (pss_one (ps_raiseC B rfl tk rfl)) pss_nil), ?_⟩
  refine ⟨_, rfl, d, v, rfl, hd, hf, hT1, hT2, hT3, fun H' g => ⟨_, rfl, ?_⟩⟩
  cases e : schemaD d with
  | true => exact iteF (qy e H' g)
  | false => exact iteT ((qn e).gr g).now
end
end LW
set_option maxHeartbeats 2000000
namespace LW
open PySem PySem.Spec PyProof.Rows L2
/-! moves as numbers: bit q * n + r stands for the pair (q, r) -/
abbrev Rel := Nat → Nat → Bool
def bitP (n x : Nat) : Rel := fun q r => decide (q < n) && decide (r < n) && x.testBit (q * n + r)
def numP (n : Nat) (P : Rel) : Nat := LB.mask (fun i => P (i / n) (i % n)) (n * n)
theorem qr_div {n q r : Nat} (hr : r < n) : (q * n + r) / n = q ∧ (q * n + r) % n = r := by
  have hn : 0 < n := by omega
  constructor
  · rw [Nat.mul_comm, Nat.mul_add_div hn, Nat.div_eq_of_lt hr, Nat.add_zero]
  · rw [Nat.mul_comm, Nat.mul_add_mod, Nat.mod_eq_of_lt hr]
theorem qr_lt {n q r : Nat} (hq : q < n) (hr : r < n) : q * n + r < n * n := by
  have : (q + 1) * n ≤ n * n := Nat.mul_le_mul_right n hq
  rw [Nat.add_mul, Nat.one_mul] at this
  omega
theorem numP_bit {n q r : Nat} (P : Rel) (hq : q < n) (hr : r < n) : (numP n P).testBit (q * n + r) = P q r := by
  unfold numP
  rw [LB.mask_bit, decide_eq_true (qr_lt hq hr), (qr_div hr).1, (qr_div hr).2, Bool.true_and]
theorem numP_lt (n : Nat) (P : Rel) : numP n P < 2 ^ (n * n) := LB.mask_lt _ _
theorem numP_hi {n q r : Nat} (P : Rel) (hq : n ≤ q) : (numP n P).testBit (q * n + r) = false := by
  unfold numP
  rw [LB.mask_bit, decide_eq_false, Bool.false_and]
  have := Nat.mul_le_mul_right n hq
  omega
/-- a number is that of the relation which its bits tell -/
theorem num_ext {n x : Nat} (hn : 0 < n) {P : Rel} (h : ∀ q r, r < n → x.testBit (q * n + r) = (decide (q < n) && P q r)) : x = numP n P := by
  refine Nat.eq_of_testBit_eq fun i => ?_
  have hr : i % n < n := Nat.mod_lt _ hn
  have e : i = i / n * n + i % n := by rw [Nat.mul_comm]; exact (Nat.div_add_mod i n).symm
  rw [e, h _ _ hr]
  by_cases hq : i / n < n
  · rw [numP_bit P hq hr, decide_eq_true hq, Bool.true_and]
  · rw [numP_hi P (by omega), decide_eq_false hq, Bool.false_and]
theorem bitP_num {n : Nat} {P : Rel} (hP : ∀ q r, P q r = true → q < n ∧ r < n) : bitP n (numP n P) = P := by
  funext q r
  unfold bitP
  by_cases h : q < n ∧ r < n
  · rw [numP_bit P h.1 h.2, decide_eq_true h.1, decide_eq_true h.2]; rfl
  · have : P q r = false := by
      cases e : P q r with
      | false => rfl
      | true => exact absurd (hP q r e) h
    rw [this]
    by_cases h1 : q < n
    · rw [decide_eq_false (fun z => h ⟨h1, z⟩)]; simp
    · rw [decide_eq_false h1]; rfl
theorem bitP_lt {n x q r : Nat} (h : bitP n x q r = true) : q < n ∧ r < n := by
  unfold bitP at h
  simp only [Bool.and_eq_true, decide_eq_true_eq] at h
  exact h.1
/-! joining -/
def joinP (n : Nat) (A B : Rel) : Rel := fun q r => (List.range n).any fun z => A q z && B z r
theorem joinP_iff {n : Nat} {A B : Rel} {q r : Nat} : joinP n A B q r = true ↔ ∃ z, z < n ∧ A q z = true ∧ B z r = true := by
  unfold joinP
  simp [List.any_eq_true, and_assoc]
def idP (n : Nat) : Rel := fun q r => decide (q = r) && decide (q < n)
theorem idP_iff {n q r : Nat} : idP n q r = true ↔ q = r ∧ q < n := by unfold idP; simp
theorem rel_ext {A B : Rel} (h : ∀ q r, A q r = true ↔ B q r = true) : A = B := by
  funext q r
  have := h q r
  cases e : A q r <;> cases f : B q r <;> simp_all
theorem join_assoc (n : Nat) (A B C : Rel) : joinP n (joinP n A B) C = joinP n A (joinP n B C) := rel_ext fun q r => by
  simp only [joinP_iff]
  constructor
  · rintro ⟨z, hz, ⟨y, hy, h1, h2⟩, h3⟩
    exact ⟨y, hy, h1, z, hz, h2, h3⟩
  · rintro ⟨y, hy, h1, z, hz, h2, h3⟩
    exact ⟨z, hz, ⟨y, hy, h1, h2⟩, h3⟩
theorem join_idL {n : Nat} {A : Rel} (h : ∀ q r, A q r = true → q < n ∧ r < n) : joinP n (idP n) A = A := rel_ext fun q r => by
  rw [joinP_iff]
  constructor
  · rintro ⟨z, hz, h1, h2⟩
    rw [(idP_iff.mp h1).1]; exact h2
  · intro h1
    have := h q r h1
    exact ⟨q, this.1, idP_iff.mpr ⟨rfl, this.1⟩, h1⟩
theorem join_idR {n : Nat} {A : Rel} (h : ∀ q r, A q r = true → q < n ∧ r < n) : joinP n A (idP n) = A := rel_ext fun q r => by
  rw [joinP_iff]
  constructor
  · rintro ⟨z, hz, h1, h2⟩
    rw [← (idP_iff.mp h2).1]; exact h1
  · intro h1
    have := h q r h1
    exact ⟨r, this.2, h1, idP_iff.mpr ⟨rfl, this.2⟩⟩
def joinN (n x y : Nat) : Nat := numP n (joinP n (bitP n x) (bitP n y))
/-! a row times a column -/
theorem prod_bit {n : Nat} (hn : 0 < n) {R : Nat} (hR : R < 2 ^ n) : ∀ (q C : Nat), (∀ i, C.testBit i = true → i % n = 0) → ∀ r, r < n → (C * R).testBit (q * n + r) = (C.testBit (q * n) && R.testBit r) := by
  intro q
  induction q with
  | zero =>
    intro C hC r hr
    have eC : C = 2 ^ n * (C / 2 ^ n) + C % 2 ^ n := (Nat.div_add_mod C (2 ^ n)).symm
    have c0 : C % 2 ^ n = if C.testBit 0 then 1 else 0 := by
      refine Nat.eq_of_testBit_eq fun i => ?_
      rw [Nat.testBit_mod_two_pow]
      by_cases hi : i = 0
      · subst hi
        rw [decide_eq_true hn, Bool.true_and]
        cases h : C.testBit 0 <;> simp
      · have z : (decide (i < n) && C.testBit i) = false := by
          cases h : C.testBit i with
          | false => simp
          | true =>
            have := hC i h
            by_cases hin : i < n
            · rw [Nat.mod_eq_of_lt hin] at this; exact absurd this hi
            · simp [hin]
        rw [z]
        cases h : C.testBit 0
        · simp
        · rw [if_pos rfl]
          have : (1 : Nat).testBit i = decide (i = 0) := by have := LB.pow_bit (n := 0) (i := i); simpa using this
          rw [this, decide_eq_false hi]
    have lt : C % 2 ^ n * R < 2 ^ n := by
      rw [c0]; split
      · omega
      · have := Nat.two_pow_pos n; omega
    have e : C * R = 2 ^ n * (C / 2 ^ n * R) + C % 2 ^ n * R := by
      conv => lhs; rw [eC]
      rw [Nat.add_mul, Nat.mul_assoc]
    rw [e, Nat.testBit_two_pow_mul_add _ lt, Nat.zero_mul, Nat.zero_add, if_pos hr, c0]
    cases C.testBit 0 <;> simp
  | succ q ih =>
    intro C hC r hr
    have eC : C = 2 ^ n * (C / 2 ^ n) + C % 2 ^ n := (Nat.div_add_mod C (2 ^ n)).symm
    have c0 : C % 2 ^ n ≤ 1 := by
      have : C % 2 ^ n = if C.testBit 0 then 1 else 0 := by
        refine Nat.eq_of_testBit_eq fun i => ?_
        rw [Nat.testBit_mod_two_pow]
        by_cases hi : i = 0
        · subst hi
          rw [decide_eq_true hn, Bool.true_and]
          cases h : C.testBit 0 <;> simp
        · have z : (decide (i < n) && C.testBit i) = false := by
            cases h : C.testBit i with
            | false => simp
            | true =>
              have := hC i h
              by_cases hin : i < n
              · rw [Nat.mod_eq_of_lt hin] at this; exact absurd this hi
              · simp [hin]
          rw [z]
          cases h : C.testBit 0
          · simp
          · rw [if_pos rfl]
            have : (1 : Nat).testBit i = decide (i = 0) := by have := LB.pow_bit (n := 0) (i := i); simpa using this
            rw [this, decide_eq_false hi]
      rw [this]; split <;> omega
    have lt : C % 2 ^ n * R < 2 ^ n := Nat.lt_of_le_of_lt (Nat.mul_le_mul_right R c0) (by omega)
    have e : C * R = 2 ^ n * (C / 2 ^ n * R) + C % 2 ^ n * R := by
      conv => lhs; rw [eC]
      rw [Nat.add_mul, Nat.mul_assoc]
    have ei : (q + 1) * n + r = q * n + r + n := by rw [Nat.add_mul, Nat.one_mul]; omega
    rw [e, Nat.testBit_two_pow_mul_add _ lt, ei, if_neg (by omega), Nat.add_sub_cancel, ih (C / 2 ^ n) (fun i hi => ?_) r hr, Nat.testBit_div_two_pow]
    · rw [Nat.add_mul, Nat.one_mul]
    · rw [Nat.testBit_div_two_pow] at hi
      have := hC _ hi
      rw [Nat.add_mod_right] at this
      exact this
/-- the first column of all rows -/
def colB (n : Nat) : Nat := ((List.range n).map fun q => 2 ^ (q * n)).sum
end LW
set_option maxHeartbeats 2000000
namespace LW
open PySem PySem.Spec PyProof.Rows L2
/-! sums of different powers of two -/
theorem mask_congr {p p' : Nat → Bool} : ∀ {n : Nat}, (∀ q, q < n → p q = p' q) → LB.mask p n = LB.mask p' n
  | 0, _ => rfl
  | n + 1, h => by
    unfold LB.mask
    rw [mask_congr (n := n) fun q hq => h q (by omega), h n (by omega)]
theorem sum_pows : ∀ (N : Nat) (l : List Nat), l.Nodup → (∀ i ∈ l, i < N) → (l.map (2 ^ ·)).sum = LB.mask (fun q => decide (q ∈ l)) N
  | 0, l, _, hb => by
    have : l = [] := List.eq_nil_iff_forall_not_mem.mpr fun i hi => absurd (hb i hi) (Nat.not_lt_zero _)
    subst this; rfl
  | N + 1, l, nd, hb => by
    unfold LB.mask
    by_cases hN : N ∈ l
    · rw [if_pos (decide_eq_true hN)]
      have pm := List.perm_cons_erase hN
      have s1 : (l.map (2 ^ ·)).sum = 2 ^ N + ((l.erase N).map (2 ^ ·)).sum := by
        rw [(pm.map (2 ^ ·)).sum_nat, List.map_cons, List.sum_cons]
      have nde := nd.erase N
      rw [s1, sum_pows N (l.erase N) nde fun i hi => ?_, Nat.add_comm]
      · congr 1
        refine mask_congr fun q hq => ?_
        rw [decide_eq_decide, nd.mem_erase_iff]
        exact ⟨fun h => h.2, fun h => ⟨by omega, h⟩⟩
      · rw [nd.mem_erase_iff] at hi
        have := hb i hi.2
        omega
    · rw [if_neg (by simpa using hN), Nat.add_zero, sum_pows N l nd fun i hi => ?_]
      have := hb i hi
      have : i ≠ N := fun z => hN (z ▸ hi)
      omega
theorem nodup_map_of {α β : Type} {f : α → β} {l : List α} (h : l.Nodup) (inj : ∀ a ∈ l, ∀ b ∈ l, f a = f b → a = b) : (l.map f).Nodup := by
  unfold List.Nodup at h ⊢
  rw [List.pairwise_map]
  refine List.Pairwise.imp_of_mem (fun {a b} ha hb ne e => ne (inj a ha b hb e)) h
abbrev Pr := Nat × Nat
def prsIx (n : Nat) (ps : List Pr) : List Nat := ps.map fun p => p.1 * n + p.2
/-- the number of a set of pairs -/
theorem prs_sum {n : Nat} (hn : 0 < n) {ps : List Pr} (nd : ps.Nodup) (hb : ∀ p ∈ ps, p.1 < n ∧ p.2 < n) : ((prsIx n ps).map (2 ^ ·)).sum = numP n fun q r => decide ((q, r) ∈ ps) := by
  have inj : ∀ a ∈ ps, ∀ b ∈ ps, a.1 * n + a.2 = b.1 * n + b.2 → a = b := fun a ha b hb' e => by
    have h1 := qr_div (q := a.1) (hb a ha).2
    have h2 := qr_div (q := b.1) (hb b hb').2
    rw [e] at h1
    have e1 : a.1 = b.1 := h1.1.symm.trans h2.1
    have e2 : a.2 = b.2 := h1.2.symm.trans h2.2
    exact Prod.ext e1 e2
  have hix : ∀ i ∈ prsIx n ps, i < n * n := fun i hi => by
    obtain ⟨p, hp, rfl⟩ := List.mem_map.mp hi
    exact qr_lt (hb p hp).1 (hb p hp).2
  have ndx : (prsIx n ps).Nodup := nodup_map_of nd inj
  rw [sum_pows (n * n) _ ndx hix]
  refine mask_congr fun i hi => ?_
  have hr : i % n < n := Nat.mod_lt _ hn
  rw [decide_eq_decide]
  constructor
  · intro h
    obtain ⟨p, hp, e⟩ := List.mem_map.mp h
    have := qr_div (q := p.1) (hb p hp).2
    rw [e] at this
    rw [this.1, this.2]
    exact hp
  · intro h
    refine List.mem_map.mpr ⟨_, h, ?_⟩
    show i / n * n + i % n = i
    rw [Nat.mul_comm]; exact Nat.div_add_mod i n
/-! columns and rows -/
theorem colB_sum {n : Nat} (hn : 0 < n) : colB n = LB.mask (fun i => decide (i ∈ (List.range n).map fun q => q * n)) (n * n) := by
  unfold colB
  have e : ((List.range n).map fun q => 2 ^ (q * n)) = ((List.range n).map fun q => q * n).map (2 ^ ·) := by rw [List.map_map]; rfl
  rw [e, sum_pows (n * n) _ (nodup_map_of List.nodup_range fun a _ b _ e => Nat.eq_of_mul_eq_mul_right hn e)]
  intro i hi
  obtain ⟨q, hq, rfl⟩ := List.mem_map.mp hi
  have := qr_lt (List.mem_range.mp hq) hn
  omega
theorem colB_bit {n : Nat} (hn : 0 < n) {i : Nat} : (colB n).testBit i = decide (i % n = 0 ∧ i / n < n) := by
  rw [colB_sum hn, LB.mask_bit]
  by_cases h : i % n = 0 ∧ i / n < n
  · have e : i = i / n * n := by have := Nat.div_add_mod i n; rw [Nat.mul_comm]; omega
    have m : i ∈ (List.range n).map fun q => q * n := List.mem_map.mpr ⟨i / n, List.mem_range.mpr h.2, e.symm⟩
    have lt : i < n * n := by have := qr_lt h.2 hn; omega
    rw [decide_eq_true h, decide_eq_true m, decide_eq_true lt]; rfl
  · rw [decide_eq_false h]
    cases hm : decide (i ∈ (List.range n).map fun q => q * n) with
    | false => simp
    | true =>
      obtain ⟨q, hq, rfl⟩ := List.mem_map.mp (of_decide_eq_true hm)
      exact absurd ⟨Nat.mul_mod_left q n, by rw [Nat.mul_div_cancel _ hn]; exact List.mem_range.mp hq⟩ h
def colN (n x z : Nat) : Nat := x / 2 ^ z &&& colB n
def rowN (n y z : Nat) : Nat := y / 2 ^ (z * n) &&& (2 ^ n - 1)
theorem rowN_bit {n y z r : Nat} : (rowN n y z).testBit r = (decide (r < n) && y.testBit (z * n + r)) := by
  unfold rowN
  rw [Nat.testBit_and, Nat.testBit_div_two_pow, Nat.testBit_two_pow_sub_one, Bool.and_comm, Nat.add_comm r]
theorem rowN_lt (n y z : Nat) : rowN n y z < 2 ^ n := by
  unfold rowN
  exact Nat.lt_of_le_of_lt Nat.and_le_right (by have := Nat.two_pow_pos n; omega)
theorem colN_bit {n x z i : Nat} (hn : 0 < n) : (colN n x z).testBit i = (x.testBit (i + z) && decide (i % n = 0 ∧ i / n < n)) := by
  unfold colN
  rw [Nat.testBit_and, Nat.testBit_div_two_pow, colB_bit hn]
theorem colN_lt {n x z : Nat} (hn : 0 < n) : colN n x z < 2 ^ ((n - 1) * n + 1) := by
  refine Nat.lt_pow_two_of_testBit _ fun i hi => ?_
  rw [colN_bit hn]
  have : ¬ (i % n = 0 ∧ i / n < n) := fun ⟨h1, h2⟩ => by
    have e := Nat.div_add_mod i n
    rw [h1, Nat.add_zero, Nat.mul_comm] at e
    have : i / n * n ≤ (n - 1) * n := Nat.mul_le_mul_right n (by omega)
    omega
  rw [decide_eq_false this, Bool.and_false]
def jointF (n x y i : Nat) : Nat := (List.range i).foldl (fun acc z => acc ||| colN n x z * rowN n y z) 0
theorem jointF_succ (n x y i : Nat) : jointF n x y (i + 1) = jointF n x y i ||| colN n x i * rowN n y i := by
  unfold jointF
  rw [List.range_succ, List.foldl_append]
  rfl
theorem jointF_bit {n x y : Nat} (hn : 0 < n) {q r : Nat} (hr : r < n) : ∀ i, (jointF n x y i).testBit (q * n + r) = (decide (q < n) && (List.range i).any fun z => x.testBit (q * n + z) && y.testBit (z * n + r))
  | 0 => by simp [jointF]
  | i + 1 => by
    rw [jointF_succ, Nat.testBit_or, jointF_bit hn hr i, prod_bit hn (rowN_lt n y i) q (colN n x i) (fun j hj => ?_) r hr, colN_bit hn, rowN_bit, List.range_succ, List.any_append]
    · have e1 : q * n % n = 0 := Nat.mul_mod_left q n
      have e2 : q * n / n = q := Nat.mul_div_cancel _ hn
      rw [e1, e2, decide_eq_true hr]
      by_cases hq : q < n
      · simp [hq]
      · simp [hq]
    · rw [colN_bit hn, Bool.and_eq_true, decide_eq_true_eq] at hj
      exact hj.2.1
theorem joint_eq {n x y : Nat} (hn : 0 < n) : jointF n x y n = joinN n x y := by
  refine num_ext hn fun q r hr => ?_
  rw [jointF_bit hn hr]
  by_cases hq : q < n
  · rw [decide_eq_true hq, Bool.true_and, Bool.true_and, Bool.eq_iff_iff, joinP_iff]
    simp only [List.any_eq_true, List.mem_range, Bool.and_eq_true]
    unfold bitP
    constructor
    · rintro ⟨z, hz, h1, h2⟩
      exact ⟨z, hz, by simp [hq, hz, h1], by simp [hz, hr, h2]⟩
    · rintro ⟨z, hz, h1, h2⟩
      simp only [Bool.and_eq_true] at h1 h2
      exact ⟨z, hz, h1.2, h2.2⟩
  · rw [decide_eq_false hq]; rfl
/-! all pairs of a relation, in order -/
def prs (n : Nat) (P : Rel) : List Pr := (List.range n).flatMap fun q => ((List.range n).filter (P q)).map fun r => (q, r)
theorem prs_mem {n : Nat} {P : Rel} {p : Pr} : p ∈ prs n P ↔ p.1 < n ∧ p.2 < n ∧ P p.1 p.2 = true := by
  unfold prs
  simp only [List.mem_flatMap, List.mem_range, List.mem_map, List.mem_filter]
  constructor
  · rintro ⟨q, hq, r, ⟨hr, h⟩, rfl⟩; exact ⟨hq, hr, h⟩
  · rintro ⟨h1, h2, h3⟩; exact ⟨p.1, h1, p.2, ⟨h2, h3⟩, rfl⟩
def prLt (p u : Pr) : Prop := p.1 < u.1 ∨ (p.1 = u.1 ∧ p.2 < u.2)
theorem range_rise (n : Nat) : (List.range n).Pairwise (· < ·) := List.pairwise_lt_range
theorem prs_rise (n : Nat) (P : Rel) : (prs n P).Pairwise prLt := by
  unfold prs
  rw [List.pairwise_flatMap]
  refine ⟨fun q _ => ?_, (range_rise n).imp fun {a b} h x hx y hy => ?_⟩
  · rw [List.pairwise_map]
    exact ((range_rise n).filter _).imp fun {a b} h => .inr ⟨rfl, h⟩
  · obtain ⟨r, _, rfl⟩ := List.mem_map.mp hx
    obtain ⟨r', _, rfl⟩ := List.mem_map.mp hy
    exact .inl h
theorem prLt_asym {p u : Pr} (h : prLt p u) (h' : prLt u p) : False := by
  unfold prLt at h h'; omega
theorem prLt_irr {p : Pr} (h : prLt p p) : False := prLt_asym h h
/-- rising lists of the same pairs are the same -/
theorem rise_ext : ∀ {l m : List Pr}, l.Pairwise prLt → m.Pairwise prLt → (∀ p, p ∈ l ↔ p ∈ m) → l = m
  | [], [], _, _, _ => rfl
  | [], y :: m, _, _, h => by have := (h y).mpr (List.mem_cons_self ..); cases this
  | x :: l, [], _, _, h => by have := (h x).mp (List.mem_cons_self ..); cases this
  | x :: l, y :: m, hl, hm, h => by
    rw [List.pairwise_cons] at hl hm
    have e : x = y := by
      rcases List.mem_cons.mp ((h x).mp (List.mem_cons_self ..)) with e | hx
      · exact e
      rcases List.mem_cons.mp ((h y).mpr (List.mem_cons_self ..)) with e | hy
      · exact e.symm
      exact absurd (hm.1 x hx) (fun z => prLt_asym z (hl.1 y hy))
    subst e
    rw [rise_ext hl.2 hm.2 fun p => ?_]
    constructor
    · intro hp
      rcases List.mem_cons.mp ((h p).mp (List.mem_cons_of_mem _ hp)) with e | hp'
      · subst e; exact absurd (hl.1 p hp) prLt_irr
      · exact hp'
    · intro hp
      rcases List.mem_cons.mp ((h p).mpr (List.mem_cons_of_mem _ hp)) with e | hp'
      · subst e; exact absurd (hm.1 p hp) prLt_irr
      · exact hp'
theorem rise_prs {n : Nat} {P : Rel} {l : List Pr} (hl : l.Pairwise prLt) (h : ∀ p : Pr, p ∈ l ↔ p.1 < n ∧ p.2 < n ∧ P p.1 p.2 = true) : l = prs n P :=
  rise_ext hl (prs_rise n P) fun p => (h p).trans prs_mem.symm
theorem rise_nodup {l : List Pr} (h : l.Pairwise prLt) : l.Nodup := by
  unfold List.Nodup
  exact h.imp fun {a b} z e => by subst e; exact prLt_irr z
theorem prs_nodup (n : Nat) (P : Rel) : (prs n P).Nodup := rise_nodup (prs_rise n P)
theorem prs_num {n : Nat} (hn : 0 < n) (P : Rel) : ((prsIx n (prs n P)).map (2 ^ ·)).sum = numP n P := by
  rw [prs_sum hn (prs_nodup n P) fun p hp => ⟨(prs_mem.mp hp).1, (prs_mem.mp hp).2.1⟩]
  unfold numP
  refine mask_congr fun i hi => ?_
  have hr : i % n < n := Nat.mod_lt _ hn
  have hq : i / n < n := Nat.div_lt_of_lt_mul hi
  rw [Bool.eq_iff_iff, decide_eq_true_eq, prs_mem]
  exact ⟨fun h => h.2.2, fun h => ⟨hq, hr, h⟩⟩
theorem prs_len (n : Nat) (P : Rel) : (prs n P).length ≤ n * n := by
  unfold prs
  rw [List.length_flatMap]
  have : ∀ (l : List Nat), (l.map fun q => (((List.range n).filter (P q)).map fun r => (q, r)).length).sum ≤ l.length * n := fun l => by
    induction l with
    | nil => simp
    | cons a l ih =>
      rw [List.map_cons, List.sum_cons, List.length_cons, Nat.add_mul, Nat.one_mul, List.length_map]
      have := List.length_filter_le (P a) (List.range n)
      rw [List.length_range] at this
      omega
  have := this (List.range n)
  rw [List.length_range] at this
  exact this
/-! trees and documents under a schema -/
def allowN (t : Sch) (st x : Nat) : Bool := decide (rowN t.length x st &&& emptyB t ≠ 0)
def tpairs (t : Sch) (a x : Nat) : List Pr := ((ofLabel a (rulesFrom 0 t)).filter fun p => allowN t p.2.1 x).map fun p => (p.1, p.2.2)
def treeN (t : Sch) (a x : Nat) : Nat := numP t.length fun q r => decide ((q, r) ∈ tpairs t a x)
def idN (n : Nat) : Nat := numP n (idP n)
def mvN (t : Sch) : Doc → Nat
  | .nil => idN t.length
  | .cons a k r => joinN t.length (treeN t a.toNat (mvN t k)) (mvN t r)
theorem allowN_iff {t : Sch} {st x : Nat} : allowN t st x = true ↔ ∃ r s, r < t.length ∧ x.testBit (st * t.length + r) = true ∧ t[r]? = some s ∧ s.1 = true := by
  unfold allowN
  rw [decide_eq_true_eq, LB.and_ne]
  constructor
  · rintro ⟨r, h1, h2⟩
    rw [rowN_bit, Bool.and_eq_true, decide_eq_true_eq] at h1
    obtain ⟨s, e1, e2⟩ := (emptyB_bit t r).mp h2
    exact ⟨r, s, h1.1, h1.2, e1, e2⟩
  · rintro ⟨r, s, h1, h2, e1, e2⟩
    exact ⟨r, by rw [rowN_bit, decide_eq_true h1, h2]; rfl, (emptyB_bit t r).mpr ⟨s, e1, e2⟩⟩
theorem tpairs_mem {t : Sch} (h : SchOk t) {a x : Nat} {p : Pr} : p ∈ tpairs t a x ↔ ∃ st, t[p.1]? = some st ∧ ∃ ρ ∈ st.2, ρ.1 = a ∧ ρ.2.2 = p.2 ∧ allowN t ρ.2.1 x = true := by
  unfold tpairs
  simp only [List.mem_map, List.mem_filter, ofLabel_mem, rulesFrom_mem]
  constructor
  · rintro ⟨u, ⟨⟨i, st, e1, e2, e3⟩, hu⟩, rfl⟩
    have : u.1 = i := by omega
    exact ⟨st, by rw [this]; exact e1, _, e3, rfl, rfl, hu⟩
  · rintro ⟨st, e1, ρ, hρ, rfl, e3, e4⟩
    refine ⟨(p.1, ρ.2.1, ρ.2.2), ⟨⟨p.1, st, e1, ?_, hρ⟩, e4⟩, ?_⟩
    · show p.1 = 0 + p.1; omega
    · show (p.1, ρ.2.2) = p; rw [e3]
theorem tpairs_lt {t : Sch} (h : SchOk t) {a x : Nat} {p : Pr} (hp : p ∈ tpairs t a x) : p.1 < t.length ∧ p.2 < t.length := by
  obtain ⟨st, e1, ρ, hρ, _, e3, _⟩ := (tpairs_mem h).mp hp
  have := (h.rules st (List.mem_of_getElem? e1) ρ hρ).2.2
  exact ⟨(List.getElem?_eq_some_iff.mp e1).1, by omega⟩
theorem mvN_lt (t : Sch) : ∀ d, mvN t d < 2 ^ (t.length * t.length)
  | .nil => numP_lt _ _
  | .cons _ _ _ => numP_lt _ _
/-- the relation of a document -/
def mvP (t : Sch) (d : Doc) : Rel := bitP t.length (mvN t d)
theorem idP_lt {n q r : Nat} (h : idP n q r = true) : q < n ∧ r < n := by
  obtain ⟨rfl, h1⟩ := idP_iff.mp h; exact ⟨h1, h1⟩
theorem joinP_lt {n : Nat} {A B : Rel} (hA : ∀ q r, A q r = true → q < n ∧ r < n) (hB : ∀ q r, B q r = true → q < n ∧ r < n) {q r : Nat} (h : joinP n A B q r = true) : q < n ∧ r < n := by
  obtain ⟨z, _, h1, h2⟩ := joinP_iff.mp h
  exact ⟨(hA _ _ h1).1, (hB _ _ h2).2⟩
theorem mvP_nil (t : Sch) : mvP t .nil = idP t.length := bitP_num fun q r h => idP_lt h
theorem mvP_cons (t : Sch) (a : Int) (k r : Doc) : mvP t (.cons a k r) = joinP t.length (bitP t.length (treeN t a.toNat (mvN t k))) (mvP t r) :=
  bitP_num fun q r h => joinP_lt (fun _ _ => bitP_lt) (fun _ _ => bitP_lt) h
/-- the trees of d, followed by those of e -/
theorem mvP_app (t : Sch) : ∀ d e : Doc, mvP t (d.app e) = joinP t.length (mvP t d) (mvP t e)
  | .nil, e => by
    show mvP t e = _
    rw [mvP_nil]
    exact (join_idL (A := mvP t e) fun q r h => bitP_lt h).symm
  | .cons a k r, e => by
    show mvP t (.cons a k (r.app e)) = _
    rw [mvP_cons, mvP_app t r e, mvP_cons, join_assoc]
theorem tree_bit {t : Sch} (h : SchOk t) (a x : Nat) : bitP t.length (treeN t a x) = fun q r => decide ((q, r) ∈ tpairs t a x) :=
  bitP_num fun q r e => tpairs_lt h (of_decide_eq_true e)
/-- the states that allow a document -/
theorem mvP_allows {t : Sch} (h : SchOk t) : ∀ (d : Doc), d.lab = true → ∀ q, (setB t d).testBit q = true ↔ ∃ r s, mvP t d q r = true ∧ t[r]? = some s ∧ s.1 = true
  | .nil, _, q => by
    show (emptyB t).testBit q = true ↔ _
    rw [emptyB_bit]
    constructor
    · rintro ⟨s, e1, e2⟩
      exact ⟨q, s, by rw [mvP_nil]; exact idP_iff.mpr ⟨rfl, (List.getElem?_eq_some_iff.mp e1).1⟩, e1, e2⟩
    · rintro ⟨r, s, e1, e2, e3⟩
      rw [mvP_nil] at e1
      obtain ⟨rfl, _⟩ := idP_iff.mp e1
      exact ⟨s, e2, e3⟩
  | .cons a k r, hl, q => by
    simp only [Doc.lab, Bool.and_eq_true, decide_eq_true_eq] at hl
    have ik := mvP_allows h k hl.1.2
    have ir := mvP_allows h r hl.2
    show (afterB t a.toNat (setB t k) (setB t r)).testBit q = true ↔ _
    rw [afterB_bit]
    have al : ∀ x, allowN t x (mvN t k) = true ↔ x < t.length ∧ (setB t k).testBit x = true ∨ (t.length ≤ x ∧ allowN t x (mvN t k) = true) := fun x => by
      by_cases hx : x < t.length
      · rw [allowN_iff, ik x]
        constructor
        · rintro ⟨r', s, h1, h2, h3, h4⟩
          exact .inl ⟨hx, r', s, by unfold mvP bitP; simp [hx, h1, h2], h3, h4⟩
        · rintro (⟨_, r', s, h1, h3, h4⟩ | ⟨h, _⟩)
          · unfold mvP bitP at h1
            simp only [Bool.and_eq_true, decide_eq_true_eq] at h1
            exact ⟨r', s, h1.1.2, h1.2, h3, h4⟩
          · omega
      · constructor
        · intro z; exact .inr ⟨by omega, z⟩
        · rintro (⟨z, _⟩ | ⟨_, z⟩)
          · omega
          · exact z
    constructor
    · rintro ⟨st, e1, ρ, hρ, ea, hx, hy⟩
      obtain ⟨z, s, h1, h2, h3⟩ := (ir _).mp hy
      have hb := h.rules st (List.mem_of_getElem? e1) ρ hρ
      refine ⟨z, s, ?_, h2, h3⟩
      rw [mvP_cons, joinP_iff]
      refine ⟨ρ.2.2, hb.2.2, ?_, h1⟩
      rw [tree_bit h, decide_eq_true_eq, tpairs_mem h]
      exact ⟨st, e1, ρ, hρ, ea, rfl, (al _).mpr (.inl ⟨hb.2.1, hx⟩)⟩
    · rintro ⟨z, s, h1, h2, h3⟩
      rw [mvP_cons, joinP_iff] at h1
      obtain ⟨y, hy, h4, h5⟩ := h1
      rw [tree_bit h, decide_eq_true_eq, tpairs_mem h] at h4
      obtain ⟨st, e1, ρ, hρ, ea, ey, hx⟩ := h4
      have hb := h.rules st (List.mem_of_getElem? e1) ρ hρ
      simp only at ey e1
      rcases (al _).mp hx with ⟨_, hx⟩ | ⟨hx, _⟩
      · exact ⟨st, e1, ρ, hρ, ea, hx, (ir _).mpr ⟨z, s, by rw [ey]; exact h5, h2, h3⟩⟩
      · omega
end LW
set_option maxHeartbeats 1000000
/-! dict comprehensions whose keys are tuples of numbers or texts -/
namespace LW
open PySem PySem.Spec PyProof.Rows L2
section
variable {X : Cx}
theorem thenF {P : Program} {w : World} {A : Around} {α : Type} {p : Sem α} {R : α → Shared → Prop} {T : α → Shared → Prop} {E F : Value → Shared → Prop} {s : Shared} (h : wpAny (model P w) A p R (fun _ _ => False) s) (k : ∀ a s', R a s' → T a s') : wpAny (model P w) A p T F s := wpAny_mono h k fun _ _ z => z.elim
theorem tupSet {pn : List (Addr × Obj)} {τ : L2.St} {G : Hp} {sh : Shared} {Er : Value → Shared → Prop} {D tp : Addr} {kvs : List (List Key × V)} {kk : List Key} {z : V} {r : Value} {T : Unit → Shared → Prop} (hu : X.A.units < cLine) (I : Inv X pn τ G sh)
    (eD : G D = some (.dT kvs)) (et : G tp = some (.tup (kk.map kV))) (few : kvs.length < sizeLine) (rz : RelV z r) (go : ∀ sh', Inv X pn τ (upd G D (.dT (putK kvs kk z))) sh' → T () sh') : wpAny (model X.prog X.w) X.A (dictSet D (.ref tp) r) T Er sh := by
  obtain ⟨_, sysD, xs, rel, dd⟩ := dt_of I.hok eD
  have few' : xs.length ≤ sizeLine := by rw [← Paired.length rel]; omega
  have more : (putK kvs kk z).length ≤ sizeLine := by have := length_putK kvs kk z; omega
  refine wpAny_dictSet_heap (hsz := few') (show (tupleKind (mixKind X.prog X.w)).room X.A from hu) (key_of I.hok et) dd fun h2 dd2 same => go _ ?_
  obtain ⟨q, es, ep, hq, e2, e3, e4, _, e5⟩ := dd2
  refine d_write I (by rw [eD]; exact True.intro) same ⟨q, hq⟩ ⟨more, sysD, _, (rel.put kk et rz).keeps fun c ys ec => ?_, q, es, ep, hq, e2, e3, e4, e5⟩
  have ne : c ≠ D := ne_of ec eD (fun z => nomatch z)
  rw [upd_ne ne]; exact ec
def tDcT (wi : TI) (g : TG) (tt : TT) (tk tv : TE) (vs : List Nat) : TE := fun τ G Q => wi τ G fun J G1 => ∀ D, G1 D = none → ∃ W : Nat → Nat → Hp → Prop,
  (∃ m, W 0 m (upd G1 D (.dT []))) ∧ ∀ i m G', W i m G' → (J.stop i G' ∧ Q (.ref D) G') ∨
    (J.go i G' ∧ ∃ Nx : Hp → Prop, (∀ G2, Nx G2 → ∃ m', m' < m ∧ W (i + 1) m' G2) ∧ ∀ x G2, J.yld i G' x G2 → g x (wipe τ vs) G2 fun τ2 G3 => wipe τ2 vs = wipe τ vs ∧ tt τ2 G3 fun b G4 =>
      if b = true then tk τ2 G4 fun y G5 => tv τ2 G5 fun z G6 => ∃ kvs kk tp, y = .ref tp ∧ G6 tp = some (.tup (List.map kV kk)) ∧ G6 D = some (.dT kvs) ∧ kvs.length < sizeLine ∧ Nx (upd G6 D (.dT (putK kvs kk z))) else Nx G4)
theorem dcT_core {pn : List (Addr × Obj)} {sh : Shared} {τ : L2.St} {G : Hp} {Q : VK} {kx vx tg it0 : Expr} {ifs : List Expr} {sc : Scope} {own : List (Str × Nat)} {pos pos' : Pos} {wi : TI} {g : TG} {tt : TT} {tk tv : TE} {use : Option (Value → Sem Unit)} {Qf : Value → Shared → Prop}
    (hu : X.A.units < cLine) (calm : X.calm = true) (hN : X.N.Nodup) (I : Inv X pn τ G sh) (hi : PI X tg it0 wi) (bo : BlkOk X.N X.env.scope sc own)
    (rg : ∀ (sh : Shared) (G : Hp) (C : Addr) (cl : List (Str × Addr)) (fp : List Addr), PG (X.blk sh G sc (compEnvC sc cl C X.env) fp) tg g)
    (rt : ∀ (sh : Shared) (G : Hp) (C : Addr) (cl : List (Str × Addr)) (fp : List Addr), PTs (X.blk sh G sc (compEnvC sc cl C X.env) fp) ifs tt)
    (rk : ∀ (sh : Shared) (G : Hp) (C : Addr) (cl : List (Str × Addr)) (fp : List Addr), PE (X.blk sh G sc (compEnvC sc cl C X.env) fp) kx tk)
    (rv : ∀ (sh : Shared) (G : Hp) (C : Addr) (cl : List (Str × Addr)) (fp : List Addr), PE (X.blk sh G sc (compEnvC sc cl C X.env) fp) vx tv) (nofold : ∀ x, foldedSetIterable it0 X.env x = pure x)
    (h : tDcT wi g tt tk tv (own.map (·.2)) τ G Q)
    (fine : ∀ D C sh' m G', Inv X pn τ G' sh' → Q (.ref D) G' → sh'.heap.Ns C m → FpOk X pn G' C → compPost (model X.prog X.w) X.A X.xe use Qf (.ref D) C (.ok .next) sh') :
    wpAny (model X.prog X.w) X.A (comprehension (.DictComp kx vx [⟨tg, it0, ifs, 0⟩] sc pos) sc X.env pos' newDict false (eval it0 X.env) use) Qf X.xe sh := by
  have cells : ∀ y ∈ sc.names, y.2 = .free → ∃ c, X.env.cells.lookup y.1 = some c := fun y hy e =>
    (bo.free y hy e).elim (fun k => I.ok.has _ (.inl k)) (fun k => I.ok.has _ (.inr k))
  refine wpAny_comprehension_free (use := use) rfl nofold (closure_ok cells) bo.kind (fun y hy e => by rw [bo.uniq y hy, e]) (thn (hi.run pn sh τ G _ I h) fun xv sh1 hx => thn hx fun itv sh2 h2 => ?_)
  obtain ⟨ia, fp, tn, J, G2, e, I2, T, st2, f2, q⟩ := h2
  subst e
  refine wpAny_newObj_type (newEnv_comp ?_)
  generalize zD : sh2.heap.objs.size = D
  have freeD : G2 D = none := I2.hok.fresh (Nat.le_of_eq zD)
  obtain ⟨W, ⟨m0, w0⟩, turn⟩ := q D freeD
  generalize zs3 : ({ sh2 with heap := sh2.heap.push { cls := .type "dict", data := .dict #[] } } : Shared) = sh3
  have I3 : Inv X pn τ (upd G2 D (.dT [])) sh3 := by
    rw [← zs3]
    refine I2.laid (t' := sh2.toks) (fun b o e => Heap.get?_push_of_some _ e) (Nat.le_of_eq zD) ?_
    rw [← zD]; exact dt_empty sh2.heap I2.big
  have hp3 : sh3.heap = sh2.heap.push { cls := .type "dict", data := .dict #[] } := by rw [← zs3]
  have sz : ∀ b ∈ fp, b < sh2.heap.objs.size := fun b hb => let ⟨_, e, _⟩ := T.obj _ _ st2 b hb; Heap.lt_size e
  have f3 : ∀ b ∈ fp, FpOk X pn (upd G2 D (.dT [])) b ∧ b < sh3.heap.objs.size := fun b hb => by
    have lt := sz b hb
    have nb : b ≠ D := by rw [← zD]; exact Nat.ne_of_lt lt
    exact ⟨⟨by rw [upd_ne nb]; exact (f2 b hb).1, (f2 b hb).2⟩, by rw [hp3, Heap.size_push]; exact Nat.lt_succ_of_lt lt⟩
  have st3 : tn 0 sh3.heap := T.keep _ _ _ st2 fun b _ o e => by rw [hp3]; exact Heap.get?_push_of_some _ e
  have I4 := block_start I3 bo hN f3
  have pg := rg sh3 (upd G2 D (.dT [])) sh3.heap.objs.size (cellsFrom (sh3.heap.objs.size + 1) sc.names (cloFrom X.env.cells sc.names [])) fp
  have pt := rt sh3 (upd G2 D (.dT [])) sh3.heap.objs.size (cellsFrom (sh3.heap.objs.size + 1) sc.names (cloFrom X.env.cells sc.names [])) fp
  have pk := rk sh3 (upd G2 D (.dT [])) sh3.heap.objs.size (cellsFrom (sh3.heap.objs.size + 1) sc.names (cloFrom X.env.cells sc.names [])) fp
  have pv' := rv sh3 (upd G2 D (.dT [])) sh3.heap.objs.size (cellsFrom (sh3.heap.objs.size + 1) sc.names (cloFrom X.env.cells sc.names [])) fp
  show codeAny _ _ (.compStart (.DictComp kx vx [⟨tg, it0, ifs, 0⟩] sc pos) 0 (.ref ia) (.ref D) (compEnvC sc (cellsFrom (sh3.heap.objs.size + 1) sc.names (cloFrom X.env.cells sc.names [])) sh3.heap.objs.size X.env)) (compPost (model X.prog X.w) X.A X.xe use Qf (.ref D) sh3.heap.objs.size) { sh3 with heap := pushCells (sh3.heap.push { cls := .type "dict", data := .dict #[] }) sc.names }
  have nofp : ∀ b ∈ fp, (upd G2 D (.dT [])) b = none := fun b hb => (f3 b hb).1.1
  generalize zce : compEnvC sc (cellsFrom (sh3.heap.objs.size + 1) sc.names (cloFrom X.env.cells sc.names [])) sh3.heap.objs.size X.env = ce at I4 pg pt pk pv' ⊢
  have cLoc : ce.locals = sh3.heap.objs.size := by subst zce; rfl
  generalize zG3 : upd G2 D (.dT []) = G3 at I3 I4 pg pt pk pv' w0 nofp f3
  generalize zs4 : ({ sh3 with heap := pushCells (sh3.heap.push { cls := .type "dict", data := .dict #[] }) sc.names } : Shared) = sh4 at I4 ⊢
  have st4 : tn 0 sh4.heap := T.keep _ _ _ st3 fun b _ o e => by rw [← zs4]; exact pushCells_keeps _ _ _ _ (Heap.get?_push_of_some _ e)
  have still : ∀ {τ' : L2.St} {G' : Hp} {sh' : Shared}, Inv (X.blk sh3 G3 sc ce fp) [] τ' G' sh' → (∀ b ∈ fp, G' b = none) → ∀ b ∈ fp, FpOk (X.blk sh3 G3 sc ce fp) [] G' b := fun {τ' G' sh'} I' hn b hb =>
    ⟨hn b hb, (I'.ok.exf b hb).1, I'.ok.exfs b hb, .inl hb, fun x c e => (I'.ok.exf b hb).2 x c e, fun p hp => absurd (show p ∈ ([] : List (Addr × Obj)) ++ [] from hp) (by simp)⟩
  refine codeAny_compStart_dict ?L (T.self X.A 0 _ _ _ st4 ?L)
  refine compLoop_anyD (fun n sh' => ∃ i G', Inv (X.blk sh3 G3 sc ce fp) [] (wipe τ (own.map (·.2))) G' sh' ∧ tn i sh'.heap ∧ (∀ b ∈ fp, G' b = none) ∧ W i n G') ?_ m0 ⟨0, G3, I4, st4, nofp, w0⟩
  rintro n sh5 ⟨i, G5, I5, st5, n5, w5⟩
  rcases turn i n G5 w5 with ⟨stop, qq⟩ | ⟨go, Nx, hNx, step⟩
  · refine thnF (T.done (X.blk sh3 G3 sc ce fp) rfl rfl rfl calm i [] sh5 _ G5 (fun _ _ => False) I5 (still I5 n5) st5 stop) fun r sh6 ⟨hr, I6⟩ => ?_
    subst hr
    have I7 : Inv X pn τ G5 sh6 := I3.call' (ch := fp) I6.os I6.base I6.hok I6.bare fun b hb => let z := (f3 b hb).1.2; ⟨z.2.2.1, z.1, z.2.2.2.1, z.2.2.2.2⟩
    have fC : G5 ce.locals = none := I6.free
    obtain ⟨m, hn, _⟩ := I6.loc
    have hn : sh6.heap.Ns ce.locals m := hn
    rw [cLoc] at hn fC
    exact fine D sh3.heap.objs.size sh6 m G5 I7 qq hn (I3.fpOk (Nat.le_refl _) fC)
  · refine thnF (T.item (X.blk sh3 G3 sc ce fp) rfl rfl rfl calm i [] sh5 _ G5 (fun _ _ => False) I5 (still I5 n5) st5 go) fun r sh6 ⟨u, hr, h6⟩ => ?_
    subst hr
    refine thnF h6 fun _ sh7 ⟨x, G7, I7, r7, y7, st7, n7⟩ => ?_
    have I7' := I7.pinned (still I7 n7) (T.obj _ _ st7)
    refine thnF (pg.run _ sh7 _ G7 x u _ I7' r7 (step x G7 y7)) fun _ sh8 ⟨τ8, G8, I8, same8, q8⟩ => ?_
    refine thnF (pt.run _ sh8 τ8 G8 _ I8 q8) fun b sh9 ⟨G9, I9, q9⟩ => ?_
    have fin : ∀ {sh' : Shared} {G' : Hp}, Inv (X.blk sh3 G3 sc ce fp) ([] ++ pinsAt fp sh7.heap) τ8 G' sh' → Nx G' → ∃ m, m < n ∧ ∃ i G', Inv (X.blk sh3 G3 sc ce fp) [] (wipe τ (own.map (·.2))) G' sh' ∧ tn i sh'.heap ∧ (∀ b ∈ fp, G' b = none) ∧ W i m G' := fun {sh' G'} I' nx => by
      obtain ⟨m', less, w'⟩ := hNx G' nx
      have kept : ∀ b ∈ fp, ∀ o, sh7.heap.get? b = some o → sh'.heap.get? b = some o ∧ G' b = none := fun b hb o e => by
        have z := I'.pin (b, o) (List.mem_append_right _ (List.mem_append_right _ (mem_pinsAt hb e)))
        exact ⟨z.1, z.2.1⟩
      have len8 : (wipe τ (own.map (·.2))).length = τ8.length := by rw [← same8, wipe_length]
      refine ⟨m', less, i + 1, G', (I'.unpinned (pins := [])).weak len8 (fun j v e => ?_), T.keep _ _ _ st7 fun b hb o e => (kept b hb o e).1, fun b hb => ?_, w'⟩
      · rw [← same8] at e; exact (wipe_some e).1
      · obtain ⟨o, e, _⟩ := T.obj _ _ st7 b hb
        exact (kept b hb o e).2
    cases b with
    | false => exact fin I9 q9
    | true =>
      refine thnF (pk.run _ sh9 τ8 G9 _ I9 q9) fun z sh10 ⟨yk, G10, I10, r10, q10⟩ => ?_
      refine thnF (pv'.run _ sh10 τ8 G10 _ I10 q10) fun z2 sh11 ⟨yv, G11, I11, r11, kvs, kk, tp, ek, et, eD, few, nx⟩ => ?_
      subst ek
      obtain rfl : z = Value.ref tp := r10
      exact tupSet (X := X.blk sh3 G3 sc ce fp) hu I11 eD et few r11 fun sh12 I12 => fin I12 nx
theorem pe_dcT {kx vx tg it0 : Expr} {ifs : List Expr} {sc : Scope} {own : List (Str × Nat)} {pos : Pos} {wi : TI} {g : TG} {tt : TT} {tk tv : TE} (hu : X.A.units < cLine) (calm : X.calm = true) (hN : X.N.Nodup) (hi : PI X tg it0 wi) (bo : BlkOk X.N X.env.scope sc own)
    (rg : ∀ (sh : Shared) (G : Hp) (C : Addr) (cl : List (Str × Addr)) (fp : List Addr), PG (X.blk sh G sc (compEnvC sc cl C X.env) fp) tg g)
    (rt : ∀ (sh : Shared) (G : Hp) (C : Addr) (cl : List (Str × Addr)) (fp : List Addr), PTs (X.blk sh G sc (compEnvC sc cl C X.env) fp) ifs tt)
    (rk : ∀ (sh : Shared) (G : Hp) (C : Addr) (cl : List (Str × Addr)) (fp : List Addr), PE (X.blk sh G sc (compEnvC sc cl C X.env) fp) kx tk)
    (rv : ∀ (sh : Shared) (G : Hp) (C : Addr) (cl : List (Str × Addr)) (fp : List Addr), PE (X.blk sh G sc (compEnvC sc cl C X.env) fp) vx tv) (nofold : ∀ x, foldedSetIterable it0 X.env x = pure x := by intro _; rfl) :
    PE X (.DictComp kx vx [⟨tg, it0, ifs, 0⟩] sc pos) (tDcT wi g tt tk tv (own.map (·.2))) := by
  refine ⟨fun pn sh τ G Q I h => ?_⟩
  rw [arm_eval_DictComp]
  exact dcT_core hu calm hN I hi bo rg rt rk rv nofold h fun D C sh' m G' I' q hn ⟨f0, f1, f2, f3, f4, f5⟩ => ⟨m, hn, fun h2 sb => ⟨.ref D, G', I'.turned (t' := sh'.toks) (fun b o hb e => (sb.2 b hb).trans e) f0 f1 f3 f4 f5, rfl, q⟩⟩
/-- y = {..}, y a local name -/
theorem ps_setDcT {j : Nat} {y : Str} {py : Pos} {kx vx tg it0 : Expr} {ifs : List Expr} {sc : Scope} {own : List (Str × Nat)} {pos spos : Pos} {wi : TI} {g : TG} {tt : TT} {tk tv : TE} (hu : X.A.units < cLine) (calm : X.calm = true) (hN : X.N.Nodup) (nj : X.N[j]? = some y) (loc : X.env.scope.names.lookup y = some .local)
    (sw : swapsWith (.DictComp kx vx [⟨tg, it0, ifs, 0⟩] sc pos) (some (.Name y py)) spos.line X.env = pure true) (hi : PI X tg it0 wi) (bo : BlkOk X.N X.env.scope sc own)
    (rg : ∀ (sh : Shared) (G : Hp) (C : Addr) (cl : List (Str × Addr)) (fp : List Addr), PG (X.blk sh G sc (compEnvC sc cl C X.env) fp) tg g)
    (rt : ∀ (sh : Shared) (G : Hp) (C : Addr) (cl : List (Str × Addr)) (fp : List Addr), PTs (X.blk sh G sc (compEnvC sc cl C X.env) fp) ifs tt)
    (rk : ∀ (sh : Shared) (G : Hp) (C : Addr) (cl : List (Str × Addr)) (fp : List Addr), PE (X.blk sh G sc (compEnvC sc cl C X.env) fp) kx tk)
    (rv : ∀ (sh : Shared) (G : Hp) (C : Addr) (cl : List (Str × Addr)) (fp : List Addr), PE (X.blk sh G sc (compEnvC sc cl C X.env) fp) vx tv) (nofold : ∀ x, foldedSetIterable it0 X.env x = pure x := by intro _; rfl) :
    PS X (.Assign [.Name y py] (.DictComp kx vx [⟨tg, it0, ifs, 0⟩] sc pos) spos) (tAsg (tDcT wi g tt tk tv (own.map (·.2))) (gName j)) := by
  refine ⟨fun pn sh τ G D I h => ?_⟩
  rw [exec_Assign_Name_used _ _ _ _ sw]
  refine wpAny_bind (wpAny_standAt (wpAny_bind ?_))
  show wpAny _ X.A (do let _ ← comprehension (.DictComp kx vx [⟨tg, it0, ifs, 0⟩] sc pos) sc X.env (firstIterPos [⟨tg, it0, ifs, 0⟩] pos) newDict false (eval it0 X.env) (some (assign (.Name y py) X.env))) _ _ sh
  have h1 : tDcT wi g tt tk tv (own.map (·.2)) τ G (fun x G1 => gName j x τ G1 D.nx) := h
  refine wpAny_bind (thn (dcT_core (Qf := fun _ sh' => SP X pn D .next sh') hu calm hN I hi bo rg rt rk rv nofold h1 fun L C sh' m G' I' q hn fo => ?_) fun _ sh' hq => wpAny_pure (wpAny_pure hq))
  show wpAny _ _ (assign (.Name y py) X.env (.ref L)) _ _ _
  refine wpAny_assign_Name (store_ok2 (v := V.ref L) I' hN nj (.inl loc) rfl (fun sh2 I2 ⟨a, sb, ha⟩ => ?_) (.inr loc))
  have z1 := fo.2.1
  have z4 := fo.2.2.2.2.1
  have apartC : C ≠ a := ha.elim (fun z => by rw [z]; exact z1) (fun z e => z4 y a z e.symm)
  exact ⟨m, hn.sameBut sb apartC, fun h3 sb3 => ⟨_, G', I2.turned (t' := sh2.toks) (fun b o hb e => (sb3.2 b hb).trans e) fo.1 z1 fo.2.2.2.1 z4 fo.2.2.2.2.2, q⟩⟩
theorem sw_trueD {kx vx : Expr} {gs : List Comprehension} {sc : Scope} {pos py : Pos} {y : Str} {l : Nat} {en : Env} (hk : en.scope.kind = .function) (loc : en.scope.names.lookup y = some .local) (row : (py.line == pos.line) = true)
    (out : (sc.names.any fun (n, k) => n == y && (k == .local || k == .cell)) = false) : swapsWith (.DictComp kx vx gs sc pos) (some (.Name y py)) l en = pure true := by
  have k1 : en.kindOf y = some .local := loc
  have k2 : en.blockKind = .function := by unfold Env.blockKind; rw [hk]; rfl
  unfold swapsWith
  simp only [k2, k1, out, Expr.pos, row]
  rfl
end
/-- what stands while a dict is locked -/
theorem Gr.lock {H H' : Hp} {d : Addr} {od : Obj} {kvs : List (List Key × V)} (e : H d = some (.dT kvs)) (g : Gr [] (upd H d (.frz od (.dT kvs))) H') : Gr [] H (upd H' d (.dT kvs)) := by
  refine ⟨fun b o hb q n => ?_, fun P t => ?_, fun p q => ?_⟩
  · by_cases h : b = d
    · subst h; rw [upd_same, ← q, e]
    · rw [upd_ne h]; exact g.keep b o (by simp) (by rw [upd_ne h]; exact q) n
  · obtain ⟨ps, q, t'⟩ := t
    have nd : P ≠ d := fun z => by rw [z, e] at q; cases q
    obtain ⟨ps', q', t2⟩ := g.tab P ⟨ps, by rw [upd_ne nd]; exact q, t'⟩
    exact ⟨ps', by rw [upd_ne nd]; exact q', t2⟩
  · have nd : p ≠ d := fun z => by rw [z, upd_same] at q; cases q
    rw [upd_ne nd] at q
    have := g.free p q
    rw [upd_ne nd] at this
    exact this
end LW
set_option maxHeartbeats 4000000
namespace LW
open PySem PySem.Spec PyProof.Rows L2
theorem st_norm {α : Sort _} {t : L2.St → Hp → α → Prop} {σ σ' : L2.St} {H : Hp} {Q : α} (e : σ = σ') (h : t σ' H Q) : t σ H Q := by rw [e]; exact h
theorem st_normS {t : TS} {D : Ends} {σ σ' : L2.St} {H : Hp} (e : σ = σ') (h : t D σ' H) : t D σ H := by rw [e]; exact h
/-! expressions that make data: wherever the heap has grown to from H0 -/
section
variable {K : PySem.W.Frag} {σ : L2.St} {H0 : Hp}
def DX (K : PySem.W.Frag) (σ : L2.St) (H0 : Hp) (t : TE) (d : PyData) : Prop := ∀ (H1 : Hp) (Q : VK), Gr [] H0 H1 → (∀ H2 x, Gr [] H1 H2 → Dp K H2 x d → Q x H2) → t σ H1 Q
def DXs (K : PySem.W.Frag) (σ : L2.St) (H0 : Hp) (t : TA) (ds : List PyData) : Prop := ∀ (H1 : Hp) (Q : List V → Hp → Prop), Gr [] H0 H1 → (∀ H2 xs, Gr [] H1 H2 → DpAll K H2 xs ds → Q xs H2) → t σ H1 Q
def NX (K : PySem.W.Frag) (σ : L2.St) (H0 : Hp) (t : TE) (i : Int) : Prop := ∀ (H1 : Hp) (Q : VK), Gr [] H0 H1 → Q (.int i) H1 → t σ H1 Q
theorem DX.go {t : TE} {d : PyData} (h : DX K σ H0 t d) {H1 : Hp} {Q : VK} (g : Gr [] H0 H1) (k : ∀ H2 x, Gr [] H1 H2 → Dp K H2 x d → Q x H2) : t σ H1 Q := h H1 Q g k
theorem DX.gr {t : TE} {d : PyData} {H1 : Hp} (h : DX K σ H0 t d) (g : Gr [] H0 H1) : DX K σ H1 t d := fun H2 Q g2 k => h H2 Q (g.trans g2) k
theorem DX.int {i : Int} : DX K σ H0 (tC (.int i)) (.int i) := fun H1 Q g k => k H1 _ (Gr.refl _) (.int _)
theorem DX.bl {b : Bool} : DX K σ H0 (tC (.bl b)) (.bool b) := fun H1 Q g k => k H1 _ (Gr.refl _) (.bl _)
theorem DX.non : DX K σ H0 (tC .non) .none := fun H1 Q g k => k H1 _ (Gr.refl _) .non
theorem DX.str {x : Str} : DX K σ H0 (tC (.str x)) (.str x) := fun H1 Q g k => k H1 _ (Gr.refl _) (.str _)
theorem DX.nx {t : TE} {i : Int} (h : NX K σ H0 t i) : DX K σ H0 t (.int i) := fun H1 Q g k => h H1 Q g (k H1 _ (Gr.refl _) (.int _))
theorem DX.var {i : Nat} {v : V} {d : PyData} (hd : Dp K H0 v d) (e : σ[i]? = some (some v)) : DX K σ H0 (tVar i) d := fun H1 Q g k => ⟨v, e, k H1 v (Gr.refl _) (hd.gr g)⟩
theorem DXs.nil : DXs K σ H0 tNil [] := fun H1 Q g k => k H1 [] (Gr.refl _) .nil
theorem DXs.cons {t : TE} {ts : TA} {d : PyData} {ds : List PyData} (h : DX K σ H0 t d) (hs : DXs K σ H0 ts ds) : DXs K σ H0 (tCons t ts) (d :: ds) := fun H1 Q g k =>
  h H1 _ g fun H2 x g2 hx => hs H2 _ (g.trans g2) fun H3 xs g3 hxs => k H3 _ (g2.trans g3) (.cons (hx.gr g3) hxs)
theorem DX.tup {t : TA} {ds : List PyData} (h : DXs K σ H0 t ds) (hl : ds.length ≤ 1000) : DX K σ H0 (tTup t) (.tuple ds) := fun H1 Q g k =>
  h H1 _ g fun H2 xs g2 hxs => ⟨by rw [hxs.length]; exact Nat.le_of_lt (small4 (by omega)), fun p np => k _ _ (g2.trans (Gr.new np)) (.tup (SqT.of upd_same) (hxs.gr (Gr.new np)))⟩
theorem DX.cat {a b : TE} {ds es : List PyData} (ha : DX K σ H0 a (.tuple ds)) (hb : DX K σ H0 b (.tuple es)) (hl : ds.length + es.length ≤ 4000) : DX K σ H0 (tOp (rCatA K) a b) (.tuple (ds ++ es)) := fun H1 Q g k =>
  ha H1 _ g fun H2 x g2 hx => hb H2 _ (g.trans g2) fun H3 y g3 hy => cat_data (hx.gr g3) hy (Nat.le_of_lt (small4 (by omega))) fun H4 z g4 hz => k H4 z (g2.trans (g3.trans g4)) hz
theorem DX.take {a b : TE} {ds : List PyData} {n : Nat} (ha : DX K σ H0 a (.tuple ds)) (hb : NX K σ H0 b (n : Int)) : DX K σ H0 (tSl (rSlA K) a tNoPart (tPart b)) (.tuple (ds.take n)) := fun H1 Q g k =>
  ha H1 _ g fun H2 x g2 hx => hb H2 _ (g.trans g2) ⟨_, rfl, take_data hx fun H3 y g3 hy => k H3 y (g2.trans g3) hy⟩
theorem DX.drop {a b : TE} {ds : List PyData} {n : Nat} {z : Int} (ha : DX K σ H0 a (.tuple ds)) (hb : NX K σ H0 b z) (e : z = (n : Int)) : DX K σ H0 (tSl (rSlA K) a (tPart b) tNoPart) (.tuple (ds.drop n)) := fun H1 Q g k =>
  ha H1 _ g fun H2 x g2 hx => hb H2 _ (g.trans g2) ⟨_, rfl, drop_data e hx fun H3 y g3 hy => k H3 y (g2.trans g3) hy⟩
theorem DX.ix {a b : TE} {ds : List PyData} {n : Nat} {z : Int} {d : PyData} (ha : DX K σ H0 a (.tuple ds)) (hb : NX K σ H0 b z) (e : z = (n : Int)) (hd : ds[n]? = some d) : DX K σ H0 (tOp (rIxT K) a b) d := fun H1 Q g k =>
  ha H1 _ g fun H2 x g2 hx => hb H2 _ (g.trans g2) (by
    obtain ⟨p, xs, rfl, hs, hxs⟩ := hx.tupI
    obtain ⟨y, hy, hyd⟩ := hxs.at hd
    exact ⟨p, xs, z, y, rfl, rfl, hs, atI_eq hy e, k _ _ g2 hyd⟩)
theorem dpAll_rep {H : Hp} {x : V} {d : PyData} (h : Dp K H x d) : ∀ n : Nat, DpAll K H (List.replicate n x) (List.replicate n d)
  | 0 => .nil
  | n + 1 => .cons h (dpAll_rep h n)
/-- (x,) * k, k at least two -/
theorem DX.rep1 {a : TA} {d : PyData} {k : Nat} (ha : DXs K σ H0 a [d]) (h2 : 2 ≤ k) (hk : k ≤ 1000) : DX K σ H0 (tOp (rRepA K) (tTup a) (tC (.int (k : Int)))) (.tuple (List.replicate k d)) := fun H1 Q g kk =>
  ha H1 _ g fun H2 xs g2 hxs => by
    match xs, hxs with
    | [x], .cons hx .nil =>
    refine ⟨(by show (1 : Nat) ≤ sizeLine; decide), fun p np => ⟨p, k, [x], rfl, rfl, SqT.of upd_same, by simp, hk, by simp, fun z => by omega, fun _ p2 np2 => ?_⟩⟩
    have e : (List.replicate k [x]).flatten = List.replicate k x := by
      have : ∀ n : Nat, (List.replicate n [x]).flatten = List.replicate n x := fun n => by
        induction n with
        | zero => rfl
        | succ n ih => rw [List.replicate_succ, List.replicate_succ, List.flatten_cons, ih]; rfl
      exact this k
    rw [e]
    have gg := (Gr.new (m := []) (o := .tup [x]) np).trans (Gr.new (o := .tup (List.replicate k x)) np2)
    exact kk _ _ (g2.trans gg) (.tup (SqT.of upd_same) (dpAll_rep (hx.gr gg) k))
theorem NX.c {i : Int} : NX K σ H0 (tC (.int i)) i := fun H1 Q g k => k
theorem NX.var {i : Nat} {n : Int} (e : σ[i]? = some (some (.int n))) : NX K σ H0 (tVar i) n := fun H1 Q g k => ⟨_, e, k⟩
theorem NX.op {f : Int → Int → Int} {a b : TE} {i j : Int} (ha : NX K σ H0 a i) (hb : NX K σ H0 b j) : NX K σ H0 (tOp (rI0 fun i j => .int (f i j)) a b) (f i j) := fun H1 Q g k => ha H1 _ g (hb H1 _ g ⟨_, _, rfl, rfl, k⟩)
theorem NX.neg {a : TE} {i : Int} (ha : NX K σ H0 a i) : NX K σ H0 (tUn (rU fun i => .int (-i)) a) (-i) := fun H1 Q g k => ha H1 _ g ⟨_, rfl, k⟩
theorem NX.len {a : TE} {ds : List PyData} (ha : ∀ (H1 : Hp) (Q : VK), Gr [] H0 H1 → (∀ x, Dp K H1 x (.tuple ds) → Q x H1) → a σ H1 Q) : NX K σ H0 (tCB (rLen K) (tCons a tNil)) (ds.length : Int) := fun H1 Q g k => ha H1 _ g fun x hx => by
  obtain ⟨p, xs, rfl, hs, hxs⟩ := hx.tupI
  exact ⟨p, xs, rfl, .inr hs, by rw [hxs.length]; exact k⟩
theorem NX.lenV {i : Nat} {v : V} {ds : List PyData} (hd : Dp K H0 v (.tuple ds)) (e : σ[i]? = some (some v)) : NX K σ H0 (tCB (rLen K) (tCons (tVar i) tNil)) (ds.length : Int) := NX.len fun H1 Q g k => ⟨v, e, k v (hd.gr g)⟩
/-- [..] of data -/
theorem lst_data {a : TA} {ds : List PyData} (h : DXs K σ H0 a ds) {H1 : Hp} (g : Gr [] H0 H1) (hl : ds.length ≤ 1000) {Q : VK} (k : ∀ H2 p, LsD K H1 H2 p ds → Q (.ref p) H2) : tLst a σ H1 Q :=
  h H1 _ g fun H2 xs g2 hxs => ⟨by rw [hxs.length]; exact Nat.le_of_lt (small4 (by omega)), fun p np => k _ _ ⟨g2.free p np, g2.trans (Gr.new np), xs, upd_same, hxs.gr (Gr.new np)⟩⟩
theorem set_lst {a : TA} {ds : List PyData} {i : Nat} {rest : TS} {D : Ends} (h : DXs K σ H0 a ds) (hl : ds.length ≤ 1000) (k : ∀ H2 p, LsD K H0 H2 p ds → rest D (σ.set i (some (.ref p))) H2) : tSeq (tAsg (tLst a) (gName i)) rest D σ H0 := by
  show tLst a σ H0 (fun x H1 => rest D (σ.set i (some x)) H1)
  exact lst_data h (Gr.refl _) hl fun H2 p hp => k H2 p hp
theorem set_x {t : TE} {d : PyData} {i : Nat} {rest : TS} {D : Ends} (h : DX K σ H0 t d) (k : ∀ H2 x, Gr [] H0 H2 → Dp K H2 x d → rest D (σ.set i (some x)) H2) : tSeq (tAsg t (gName i)) rest D σ H0 := by
  show t σ H0 (fun x H1 => rest D (σ.set i (some x)) H1)
  exact h H0 _ (Gr.refl _) fun H2 x g hx => k H2 x g hx
/-- l.append(x) of data -/
theorem app_data {i : Nat} {a : TE} {ds : List PyData} {d : PyData} {p : Addr} {H : Hp} {Q : VK} (hL : LsD K H0 H p ds) (e : σ[i]? = some (some (.ref p))) (ha : DX K σ H a d) (hp : pureAll ds = true) (hd : pure1 d = true) (hl : ds.length ≤ 1000)
    (k : ∀ H2, LsD K H0 H2 p (ds ++ [d]) → Q .non H2) : tBM K "list" rAppend (tVar i) (tCons a tNil) σ H Q := by
  obtain ⟨xs, h1, h2⟩ := hL.ex
  refine ⟨_, e, .inl ⟨rfl, xs, SqL.of h1⟩, ha H _ (Gr.refl _) fun H2 x g2 hx => ?_⟩
  have h1' := g2.lst (by simp) h1
  refine ⟨p, xs, x, rfl, rfl, h1', by rw [h2.length]; exact small4 (by omega), k _ ?_⟩
  exact (hL.step g2).put hp hx hd h1'
theorem drop_app {i : Nat} {a : TE} {ds : List PyData} {d : PyData} {p : Addr} {H : Hp} {D : Ends} (hL : LsD K H0 H p ds) (e : σ[i]? = some (some (.ref p))) (ha : DX K σ H a d) (hp : pureAll ds = true) (hd : pure1 d = true) (hl : ds.length ≤ 1000)
    (k : ∀ H2, LsD K H0 H2 p (ds ++ [d]) → D.nx σ H2) : tDrop (tBM K "list" rAppend (tVar i) (tCons a tNil)) D σ H := app_data hL e ha hp hd hl k
end
end LW
set_option maxHeartbeats 4000000
namespace LW
open PySem PySem.Spec PyProof.Rows L2
/-! what is no schema -/
def badSt (n : Nat) (d : PyData) : Prop := stateD d n = false ∧ fewS d ∧ pure1 d = true
def badSc (d : PyData) : Prop := schemaD d = false ∧ fewSc d ∧ pure1 d = true
def spPickD (K : PySem.W.Frag) : Sp := fun vs H Q _ => ∃ (bx cl l : Addr) (xs : List V) (ds : List PyData), vs = [.ref bx, .ref l] ∧ BoxAt H bx cl ∧ l ≠ bx ∧ H l = some (.lst xs) ∧ DpAll K H xs ds ∧ pureAll ds = true ∧ 0 < ds.length ∧ ds.length ≤ 1000 ∧ ∀ d x H', d ∈ ds → Dp K H' x d → Gr [bx] H H' → BoxAt H' bx cl → Q x H'
def spBadSch (K : PySem.W.Frag) : Sp := fun vs H Q _ => ∃ (bx cl : Addr) (sv : V) (s : Sch), vs = [.ref bx, sv] ∧ BoxAt H bx cl ∧ Dp K H sv (schD s) ∧ SchOk s ∧ ∀ d x H', badSc d → Gr [bx] H H' → BoxAt H' bx cl → Dp K H' x d → Q x H'
theorem pure1_tup {ds : List PyData} : pure1 (.tuple ds) = pureAll ds := by simp [pure1]
theorem pure_two {e r : PyData} (he : pure1 e = true) (hr : pure1 r = true) : pure1 (.tuple [e, r]) = true := by rw [pure1_tup, pureAll, pureAll, he, hr]; rfl
theorem fewS_two {e r : PyData} (h : fewR r) : fewS (.tuple [e, r]) := fun e' r' z => by cases z; exact h
theorem fewS_no {d : PyData} (h : ∀ e r, d ≠ .tuple [e, r]) : fewS d := fun e r z => absurd z (h e r)
theorem fewR_tup {rs : List PyData} (h : rs.length ≤ 100000) : fewR (.tuple rs) := fun rs' z => by cases z; exact Nat.lt_of_le_of_lt h (by decide)
theorem fewR_no {d : PyData} (h : ∀ rs, d ≠ .tuple rs) : fewR d := fun rs z => absurd z (h rs)
theorem pure_rls' (rs : List Rl) : pureAll (rs.map rlD) = true := pureAll_iff.mpr fun d hd => by obtain ⟨_, _, rfl⟩ := List.mem_map.mp hd; rfl
/-- the state's first is no bool -/
theorem badSt_e {n : Nat} {e : PyData} {rs : List Rl} (h : isBoolD e = false) (hp : pure1 e = true) (hl : rs.length ≤ 2000) : badSt n (.tuple [e, .tuple (rs.map rlD)]) :=
  ⟨by show (isBoolD e && _) = false; rw [h]; rfl, fewS_two (fewR_tup (by rw [List.length_map]; omega)), pure_two hp (by rw [pure1_tup]; exact pure_rls' rs)⟩
/-- the rules are none -/
theorem badSt_r {n : Nat} {e r : PyData} (h : rulesD r n = false) (he : pure1 e = true) (hr : pure1 r = true) (hf : fewR r) : badSt n (.tuple [e, r]) :=
  ⟨by show (isBoolD e && rulesD r n) = false; rw [h, Bool.and_false], fewS_two hf, pure_two he hr⟩
theorem rulesD_in {rs : List PyData} {x : PyData} {n : Int} (hx : x ∈ rs) (h : ruleD x n = false) : rulesD (.tuple rs) n = false := by
  show (rs.all (ruleD · n) && risL rs) = false
  have : rs.all (ruleD · n) = false := by
    rw [List.all_eq_false]
    exact ⟨x, hx, by rw [h]; exact Bool.false_ne_true⟩
  rw [this]; rfl
theorem rulesD_ris {rs : List Rl} {n : Int} (h : ¬ rs.Pairwise rlLt) : rulesD (.tuple (rs.map rlD)) n = false := by
  show ((rs.map rlD).all (ruleD · n) && risL (rs.map rlD)) = false
  cases z : risL (rs.map rlD) with
  | false => rw [Bool.and_false]
  | true => exact absurd (risL_pw z) h
/-- a bad rule put in -/
theorem badSt_put {n : Nat} {e x : PyData} {rs : List Rl} {k : Nat} (h : ruleD x n = false) (hx : pure1 x = true) (he : pure1 e = true) (hl : rs.length ≤ 2000) :
    badSt n (.tuple [e, .tuple ((rs.map rlD).take k ++ [x] ++ (rs.map rlD).drop k)]) := by
  refine badSt_r (rulesD_in (x := x) (by simp) h) he ?_ (fewR_tup ?_)
  · rw [pure1_tup, pureAll_app, pureAll_app]
    rw [← List.map_take, ← List.map_drop, pure_rls', pure_rls', pureAll, hx]
    rfl
  · simp only [List.length_append, List.length_take, List.length_drop, List.length_map, List.length_cons, List.length_nil]
    omega
/-- rules that don't rise -/
theorem badSt_ris {n : Nat} {e : PyData} {rs : List Rl} (h : ¬ rs.Pairwise rlLt) (he : pure1 e = true) (hl : rs.length ≤ 5000) : badSt n (.tuple [e, .tuple (rs.map rlD)]) :=
  badSt_r (rulesD_ris h) he (by rw [pure1_tup]; exact pure_rls' rs) (fewR_tup (by rw [List.length_map]; omega))
theorem twice_not {rs : List Rl} {k : Nat} (h0 : 0 < k) (hk : k ≤ rs.length) : ¬ (rs.take k ++ rs.drop (k - 1)).Pairwise rlLt := fun h => by
  obtain ⟨_, _, h3⟩ := List.pairwise_append.mp h
  have e : rs[k - 1]? = some rs[k - 1] := List.getElem?_eq_getElem (by omega)
  have m1 : rs[k - 1] ∈ rs.take k := List.mem_of_getElem? (i := k - 1) (by rw [List.getElem?_take, if_pos (by omega)]; exact e)
  have m2 : rs[k - 1] ∈ rs.drop (k - 1) := List.mem_of_getElem? (i := 0) (by rw [List.getElem?_drop]; exact e)
  exact rlLt_irr (h3 _ m1 _ m2)
theorem swap_not {rs : List Rl} {k : Nat} {a b : Rl} (h : rs.Pairwise rlLt) (h0 : 0 < k) (ha : rs[k]? = some a) (hb : rs[k - 1]? = some b) : ¬ (rs.take (k - 1) ++ [a, b] ++ rs.drop (k + 1)).Pairwise rlLt := fun z => by
  obtain ⟨z1, _, _⟩ := List.pairwise_append.mp z
  obtain ⟨_, z2, _⟩ := List.pairwise_append.mp z1
  have l1 : rlLt a b := (List.pairwise_cons.mp z2).1 b (List.mem_singleton.mpr rfl)
  have l2 : rlLt b a := pw_at h hb ha (by omega)
  exact rlLt_irr (rlLt_trans l1 l2)
/-- what odd things are no numbers below -/
def oddL : List PyData := [.bool true, .bool false, .none, .str "0", .tuple [], .int (-1), .int 99]
theorem odd_no {d : PyData} (h : d ∈ oddL) {n : Int} (hn : n ≤ 60) : belowD d n = false := by
  simp only [oddL, List.mem_cons, List.not_mem_nil, or_false] at h
  rcases h with rfl | rfl | rfl | rfl | rfl | rfl | rfl <;> first | rfl | (simp only [belowD, Bool.and_eq_false_iff, decide_eq_false_iff_not]; omega)
theorem odd_pure {d : PyData} (h : d ∈ oddL) : pure1 d = true := by
  simp only [oddL, List.mem_cons, List.not_mem_nil, or_false] at h
  rcases h with rfl | rfl | rfl | rfl | rfl | rfl | rfl <;> rfl
abbrev zeros : List PyData := [.int 0, .int 0, .int 0]
theorem odd_rule {d : PyData} (h : d ∈ oddL) {p : Nat} (hp : p < 3) {n : Int} (hn : n ≤ 60) : ruleD (.tuple (zeros.take p ++ [d] ++ zeros.drop (p + 1))) n = false := by
  have z : ∀ m : Int, m ≤ 60 → belowD d m = false := fun m hm => odd_no h hm
  match p, hp with
  | 0, _ =>
    have e : ruleD (.tuple (zeros.take 0 ++ [d] ++ zeros.drop (0 + 1))) n = (belowD d 5 && (belowD (.int 0) n && belowD (.int 0) n)) := rfl
    rw [e, z 5 (by decide)]; rfl
  | 1, _ =>
    have e : ruleD (.tuple (zeros.take 1 ++ [d] ++ zeros.drop (1 + 1))) n = (belowD (.int 0) 5 && (belowD d n && belowD (.int 0) n)) := rfl
    rw [e, z n hn]; simp
  | 2, _ =>
    have e : ruleD (.tuple (zeros.take 2 ++ [d] ++ zeros.drop (2 + 1))) n = (belowD (.int 0) 5 && (belowD (.int 0) n && belowD d n)) := rfl
    rw [e, z n hn]; simp
/-- a schema with a bad state -/
theorem badSc_rep {s : Sch} (hok : SchOk s) {i : Nat} (hi : i < s.length) {one : PyData} (h : badSt s.length one) : badSc (.tuple ((s.map stD).take i ++ [one] ++ (s.map stD).drop (i + 1))) := by
  have hl : ((s.map stD).take i ++ [one] ++ (s.map stD).drop (i + 1)).length = s.length := by
    simp only [List.length_append, List.length_take, List.length_drop, List.length_map, List.length_cons, List.length_nil]
    omega
  have hm : one ∈ (s.map stD).take i ++ [one] ++ (s.map stD).drop (i + 1) := by simp
  have hsub : ∀ d ∈ (s.map stD).take i ++ [one] ++ (s.map stD).drop (i + 1), d = one ∨ d ∈ s.map stD := fun d hd => by
    rcases List.mem_append.mp hd with hd | hd
    · rcases List.mem_append.mp hd with hd | hd
      · exact .inr (List.mem_of_mem_take hd)
      · exact .inl (List.mem_singleton.mp hd)
    · exact .inr (List.mem_of_mem_drop hd)
  generalize ((s.map stD).take i ++ [one] ++ (s.map stD).drop (i + 1)) = rep at hl hm hsub
  refine ⟨?_, fun ss z d hd => ?_, ?_⟩
  · show (decide (1 ≤ rep.length) && decide (rep.length ≤ 60) && rep.all (stateD · rep.length) && decide ((rep.map nRules).sum ≤ 2000)) = false
    have : rep.all (stateD · (rep.length : Int)) = false := by
      rw [List.all_eq_false]
      exact ⟨one, hm, by rw [hl, h.1]; exact Bool.false_ne_true⟩
    rw [this]
    simp
  · cases z
    rcases hsub d hd with rfl | hd
    · exact h.2.1
    · exact hok.fewSc _ rfl d hd
  · rw [pure1_tup]
    exact pureAll_iff.mpr fun d hd => by
      rcases hsub d hd with rfl | hd
      · exact h.2.2
      · exact pureAll_iff.mp (pure_sts s) d hd
theorem badSc_no {d : PyData} (h : ∀ ss, d ≠ .tuple ss) (hp : pure1 d = true) : badSc d := ⟨by cases d <;> first | rfl | exact absurd rfl (h _), fun ss z => absurd z (h ss), hp⟩
theorem badSc_nil : badSc (.tuple []) := ⟨rfl, (fun ss z d hd => by cases z; cases hd), rfl⟩
theorem badSc_61 {s : Sch} (hok : SchOk s) {st : Bool × List Rl} (hs : st ∈ s) : badSc (.tuple (List.replicate 61 (stD st))) := by
  refine ⟨?_, fun ss z d hd => ?_, ?_⟩
  · have e : schemaD (.tuple (List.replicate 61 (stD st))) = (decide (1 ≤ (List.replicate 61 (stD st)).length) && decide ((List.replicate 61 (stD st)).length ≤ 60) && (List.replicate 61 (stD st)).all (stateD · (List.replicate 61 (stD st)).length) && decide (((List.replicate 61 (stD st)).map nRules).sum ≤ 2000)) := rfl
    rw [e, List.length_replicate]
    simp
  · cases z
    rw [List.eq_of_mem_replicate hd]
    exact hok.fewSc _ rfl _ (List.mem_map.mpr ⟨st, hs, rfl⟩)
  · rw [pure1_tup]
    exact pureAll_iff.mpr fun d hd => by rw [List.eq_of_mem_replicate hd]; exact pure1_st st
theorem badSc_in (s : Sch) : badSc (.tuple [schD s]) := by
  have hst : stateD (schD s) (1 : Int) = false := by
    match s with
    | [] => rfl
    | [a] => rfl
    | [a, b] => rfl
    | a :: b :: c :: r => rfl
  refine ⟨?_, fun ss z d hd => ?_, ?_⟩
  · have e : schemaD (.tuple [schD s]) = (decide (1 ≤ [schD s].length) && decide ([schD s].length ≤ 60) && [schD s].all (stateD · (1 : Int)) && decide (([schD s].map nRules).sum ≤ 2000)) := rfl
    rw [e, List.all_cons, hst]
    simp
  · cases z
    rw [List.mem_singleton.mp hd]
    intro e r z rs zr
    match s, z with
    | [a, b], z => cases z; cases zr; show 2 < _; decide
  · rw [pure1_tup, pureAll, schD_pure]; rfl
theorem badSt_pure {n : Nat} {ds : List PyData} (h : ∀ d ∈ ds, badSt n d) : pureAll ds = true := pureAll_iff.mpr fun d hd => (h d hd).2.2
theorem badSc_pure {ds : List PyData} (h : ∀ d ∈ ds, badSc d) : pureAll ds = true := pureAll_iff.mpr fun d hd => (h d hd).2.2
/-- the bad states of the law -/
def stsL (e rule : PyData) (R : List PyData) (k n : Nat) : List PyData :=
  [.tuple [.int 1, .tuple R], .tuple [.int 0, .tuple R], .tuple [.none, .tuple R], .tuple [e], .tuple [e, .tuple R, .int 0], .tuple [e, .none], .tuple [e, .str "a"],
   .tuple [e, .tuple (R.take k ++ [rule] ++ R.drop k)],
   .tuple [e, .tuple (R.take k ++ [.tuple [.int 5, .int 0, .int 0]] ++ R.drop k)],
   .tuple [e, .tuple (R.take k ++ [.tuple [.int 0, .int n, .int 0]] ++ R.drop k)],
   .tuple [e, .tuple (R.take k ++ [.tuple [.int 0, .int 0, .int n]] ++ R.drop k)],
   .tuple [e, .tuple (R.take k ++ [.tuple [.int 0, .int 0]] ++ R.drop k)],
   .tuple [e, .tuple (R.take k ++ [.int 0] ++ R.drop k)],
   .tuple [e, .tuple (R.take k ++ [.tuple [.int 0, .int 0, .int 0, .int 0]] ++ R.drop k)],
   .tuple [e, .tuple [.tuple [.int 0, .int 0, .int 0], .tuple [.int 0, .int 0, .int 0]]],
   .tuple [e, .tuple [.tuple [.int 1, .int 0, .int 0], .tuple [.int 0, .int 0, .int 0]]],
   .tuple [], .none, .int 0]
theorem pure_tup3 {a b c : PyData} (h1 : pure1 a = true) (h2 : pure1 b = true) (h3 : pure1 c = true) : pure1 (.tuple [a, b, c]) = true := by rw [pure1_tup, pureAll, pureAll, pureAll, h1, h2, h3]; rfl
theorem stsL_bad {b : Bool} {rs : List Rl} {rule : PyData} {k n : Nat} (hr : ruleD rule n = false) (hp : pure1 rule = true) (hl : rs.length ≤ 2000) : ∀ d ∈ stsL (.bool b) rule (rs.map rlD) k n, badSt n d := by
  have pR : pure1 (.tuple (rs.map rlD)) = true := by rw [pure1_tup]; exact pure_rls' rs
  intro d hd
  simp only [stsL, List.mem_cons, List.not_mem_nil, or_false] at hd
  rcases hd with rfl | rfl | rfl | rfl | rfl | rfl | rfl | rfl | rfl | rfl | rfl | rfl | rfl | rfl | rfl | rfl | rfl | rfl | rfl
  · exact badSt_e rfl rfl hl
  · exact badSt_e rfl rfl hl
  · exact badSt_e rfl rfl hl
  · exact ⟨rfl, fewS_no (fun _ _ z => by cases z), rfl⟩
  · exact ⟨rfl, fewS_no (fun _ _ z => by cases z), pure_tup3 rfl pR rfl⟩
  · exact badSt_r rfl rfl rfl (fewR_no fun _ z => by cases z)
  · exact badSt_r rfl rfl rfl (fewR_no fun _ z => by cases z)
  · exact badSt_put hr hp rfl hl
  · exact badSt_put rfl rfl rfl hl
  · refine badSt_put ?_ rfl rfl hl
    have e : ruleD (.tuple [.int 0, .int n, .int 0]) n = (belowD (.int 0) 5 && ((decide ((0 : Int) ≤ (n : Int)) && decide ((n : Int) < (n : Int))) && belowD (.int 0) n)) := rfl
    rw [e, decide_eq_false (Int.lt_irrefl _)]; simp
  · refine badSt_put ?_ rfl rfl hl
    have e : ruleD (.tuple [.int 0, .int 0, .int n]) n = (belowD (.int 0) 5 && (belowD (.int 0) n && (decide ((0 : Int) ≤ (n : Int)) && decide ((n : Int) < (n : Int))))) := rfl
    rw [e, decide_eq_false (Int.lt_irrefl _)]; simp
  · exact badSt_put rfl rfl rfl hl
  · exact badSt_put rfl rfl rfl hl
  · exact badSt_put rfl rfl rfl hl
  · exact badSt_ris (rs := [(0, 0, 0), (0, 0, 0)]) (fun z => rlLt_irr ((List.pairwise_cons.mp z).1 _ (List.mem_singleton.mpr rfl))) rfl (by decide)
  · exact badSt_ris (rs := [(1, 0, 0), (0, 0, 0)]) (fun z => by have := (List.pairwise_cons.mp z).1 _ (List.mem_singleton.mpr rfl); unfold rlLt at this; simp at this) rfl (by decide)
  · exact ⟨rfl, fewS_no (fun _ _ z => by cases z), rfl⟩
  · exact ⟨rfl, fewS_no (fun _ _ z => by cases z), rfl⟩
  · exact ⟨rfl, fewS_no (fun _ _ z => by cases z), rfl⟩
end LW
set_option maxHeartbeats 4000000
namespace LW
open PySem PySem.Spec PyProof.Rows L2
/-! a schema put into another one, moved by k -/
def Sits (s U : Sch) (k : Nat) : Prop := ∀ i st, s[i]? = some st → U[i + k]? = some (mvSt k st)
theorem any_congr' {α : Type} {f g : α → Bool} : ∀ {l : List α}, (∀ x ∈ l, f x = g x) → l.any f = l.any g
  | [], _ => rfl
  | x :: l, h => by rw [List.any_cons, List.any_cons, h x (List.mem_cons_self ..), any_congr' fun y hy => h y (List.mem_cons_of_mem _ hy)]
theorem lab_cons {x : Int} {k r : Doc} (h : (Doc.cons x k r).lab = true) : (∃ a : Nat, x = (a : Int) ∧ a < 5) ∧ k.lab = true ∧ r.lab = true := by
  simp only [Doc.lab, Bool.and_eq_true, decide_eq_true_eq] at h
  exact ⟨⟨x.toNat, by omega, by omega⟩, h.1.2, h.2⟩
theorem sits_bit {s U : Sch} {k : Nat} (hr : ∀ st ∈ s, ∀ r ∈ st.2, r.1 < 5 ∧ r.2.1 < s.length ∧ r.2.2 < s.length) (h : Sits s U k) : ∀ (d : Doc), d.lab = true → ∀ i, i < s.length → (setB U d).testBit (i + k) = (setB s d).testBit i
  | .nil, _, i, hi => by
    have e := List.getElem?_eq_getElem hi
    rw [setB_nil (h i _ e), setB_nil e]
    rfl
  | .cons x kd rd, hl, i, hi => by
    obtain ⟨⟨a, rfl, _⟩, hk, hrd⟩ := lab_cons hl
    have e := List.getElem?_eq_getElem hi
    rw [setB_cons (h i _ e), setB_cons e]
    show ((s[i]).2.map (mvR k)).any _ = _
    rw [List.any_map]
    refine any_congr' fun r hrm => ?_
    obtain ⟨_, b2, b3⟩ := hr _ (List.mem_of_getElem? e) r hrm
    show (decide (r.1 = a) && ((setB U kd).testBit (r.2.1 + k) && (setB U rd).testBit (r.2.2 + k))) = (decide (r.1 = a) && ((setB s kd).testBit r.2.1 && (setB s rd).testBit r.2.2))
    rw [sits_bit hr h kd hk _ b2, sits_bit hr h rd hrd _ b3]
theorem sum_left (s t : Sch) (us : List Rl) : Sits s (sumS s t us) 1 := fun i st e => by
  have hi := (List.getElem?_eq_some_iff.mp e).1
  unfold sumS
  rw [List.getElem?_cons_succ, List.getElem?_append_left (by rw [mvS_len]; exact hi)]
  exact mvS_at e
theorem sum_right (s t : Sch) (us : List Rl) : Sits t (sumS s t us) (1 + s.length) := fun i st e => by
  unfold sumS
  rw [show i + (1 + s.length) = (i + s.length) + 1 by omega, List.getElem?_cons_succ, List.getElem?_append_right (by rw [mvS_len]; omega), mvS_len, Nat.add_sub_cancel]
  exact mvS_at e
theorem sum_bit {s t : Sch} {us : List Rl} (h1 : SchOk s) (h2 : SchOk t) (hp : us.Perm (sumRs s t)) (d : Doc) (hl : d.lab = true) : (setB (sumS s t us) d).testBit 0 = ((setB s d).testBit 0 || (setB t d).testBit 0) := by
  have e0 : (sumS s t us)[0]? = some ((st0 s).1 || (st0 t).1, us) := rfl
  cases d with
  | nil => rw [setB_nil e0, setB_nil (st0_at h1), setB_nil (st0_at h2)]
  | cons x kd rd =>
    obtain ⟨⟨a, rfl, _⟩, hk, hrd⟩ := lab_cons hl
    rw [setB_cons e0, setB_cons (st0_at h1), setB_cons (st0_at h2)]
    have ep : us.any (hitD (sumS s t us) a kd rd) = (sumRs s t).any (hitD (sumS s t us) a kd rd) := by
      rw [Bool.eq_iff_iff, List.any_eq_true, List.any_eq_true]
      exact ⟨fun ⟨x, hx, z⟩ => ⟨x, hp.mem_iff.mp hx, z⟩, fun ⟨x, hx, z⟩ => ⟨x, hp.mem_iff.mpr hx, z⟩⟩
    show us.any _ = _
    rw [ep]
    unfold sumRs
    rw [List.any_append, List.any_map, List.any_map]
    congr 1
    · refine any_congr' fun r hrm => ?_
      obtain ⟨_, b2, b3⟩ := h1.rules _ (List.mem_of_getElem? (st0_at h1)) r hrm
      show (decide (r.1 = a) && ((setB _ kd).testBit (r.2.1 + 1) && (setB _ rd).testBit (r.2.2 + 1))) = (decide (r.1 = a) && ((setB s kd).testBit r.2.1 && (setB s rd).testBit r.2.2))
      rw [sits_bit h1.rules (sum_left s t us) kd hk _ b2, sits_bit h1.rules (sum_left s t us) rd hrd _ b3]
    · refine any_congr' fun r hrm => ?_
      obtain ⟨_, b2, b3⟩ := h2.rules _ (List.mem_of_getElem? (st0_at h2)) r hrm
      show (decide (r.1 = a) && ((setB _ kd).testBit (r.2.1 + (1 + s.length)) && (setB _ rd).testBit (r.2.2 + (1 + s.length)))) = (decide (r.1 = a) && ((setB t kd).testBit r.2.1 && (setB t rd).testBit r.2.2))
      rw [sits_bit h2.rules (sum_right s t us) kd hk _ b2, sits_bit h2.rules (sum_right s t us) rd hrd _ b3]
theorem rlLt_mv {k : Nat} {a b : Rl} (h : rlLt a b) : rlLt (mvR k a) (mvR k b) := by
  unfold rlLt mvR at *
  simp only
  omega
theorem mv_pw {k : Nat} {rs : List Rl} (h : rs.Pairwise rlLt) : (rs.map (mvR k)).Pairwise rlLt := List.pairwise_map.mpr (h.imp fun z => rlLt_mv z)
theorem pw_nodup {rs : List Rl} (h : rs.Pairwise rlLt) : rs.Nodup := h.imp fun {a b} z e => by subst e; exact rlLt_irr z
theorem nodup_pw {us : List Rl} (h : us.Pairwise fun r t => ¬ rlLt t r) (hn : us.Nodup) : us.Pairwise rlLt := by
  refine (h.and hn).imp fun {a b} ⟨z1, z2⟩ => ?_
  exact rlLt_tri z1 (fun e => z2 e.symm)
theorem sumRs_nodup {s t : Sch} (h1 : SchOk s) (h2 : SchOk t) : (sumRs s t).Nodup := by
  unfold sumRs
  refine List.nodup_append.mpr ⟨pw_nodup (mv_pw (h1.pw (List.mem_of_getElem? (st0_at h1)))), pw_nodup (mv_pw (h2.pw (List.mem_of_getElem? (st0_at h2)))), fun a ha b hb => ?_⟩
  obtain ⟨r, hr, rfl⟩ := List.mem_map.mp ha
  obtain ⟨u, hu, rfl⟩ := List.mem_map.mp hb
  obtain ⟨_, b2, _⟩ := h1.rules _ (List.mem_of_getElem? (st0_at h1)) r hr
  intro e
  have := congrArg (fun x : Rl => x.2.1) e
  simp only [mvR] at this
  omega
theorem nRl_mv (k : Nat) (s : Sch) : nRl (mvS k s) = nRl s := by
  unfold nRl mvS
  rw [List.map_map]
  congr 1
  refine List.map_congr_left fun st _ => ?_
  show (st.2.map (mvR k)).length = _
  rw [List.length_map]
/-- a refused sum may be refused -/
theorem sum_may {s t : Sch} {us : List Rl} (h1 : SchOk s) (h2 : SchOk t) (hp : us.Perm (sumRs s t)) (hw : us.Pairwise fun r t => ¬ rlLt t r) (hno : schemaD (schD (sumS s t us)) = false) : mayRef s t = true := by
  cases hm : mayRef s t with
  | true => rfl
  | false =>
  exfalso
  unfold mayRef at hm
  rw [Bool.or_eq_false_iff, decide_eq_false_iff_not, decide_eq_false_iff_not] at hm
  have hlen : (sumS s t us).length = s.length + t.length + 1 := by unfold sumS; rw [List.length_cons, List.length_append, mvS_len, mvS_len]
  have lus := hp.length_eq
  have lsum : (sumRs s t).length = (st0 s).2.length + (st0 t).2.length := by unfold sumRs; rw [List.length_append, List.length_map, List.length_map]
  have m1 : (st0 s).2.length ≤ nRl s := sum_mem (List.mem_map.mpr ⟨_, List.mem_of_getElem? (st0_at h1), rfl⟩)
  have m2 : (st0 t).2.length ≤ nRl t := sum_mem (List.mem_map.mpr ⟨_, List.mem_of_getElem? (st0_at h2), rfl⟩)
  have hn : nRl (sumS s t us) = us.length + (nRl s + nRl t) := by
    have e1 := nRl_mv 1 s
    have e2 := nRl_mv (1 + s.length) t
    unfold nRl at *
    unfold sumS
    rw [List.map_cons, List.sum_cons, List.map_append, List.sum_append, e1, e2]
  have ok : SchOk (sumS s t us) := by
    refine ⟨by omega, by omega, fun st hst r hr => ?_, fun st hst => risL_of ?_, ?_⟩
    · rw [hlen]
      have mv : ∀ (k : Nat) (u : Sch), SchOk u → k + u.length ≤ s.length + t.length + 1 → st ∈ mvS k u → r.1 < 5 ∧ r.2.1 < s.length + t.length + 1 ∧ r.2.2 < s.length + t.length + 1 := fun k u hu hk hm => by
        obtain ⟨v, hv, rfl⟩ := List.mem_map.mp hm
        obtain ⟨x, hx, rfl⟩ := List.mem_map.mp hr
        obtain ⟨b1, b2, b3⟩ := hu.rules v hv x hx
        exact ⟨b1, by show x.2.1 + k < _; omega, by show x.2.2 + k < _; omega⟩
      unfold sumS at hst
      rcases List.mem_cons.mp hst with rfl | hst
      · have hr := hp.mem_iff.mp hr
        unfold sumRs at hr
        rcases List.mem_append.mp hr with hr | hr
        · obtain ⟨x, hx, rfl⟩ := List.mem_map.mp hr
          obtain ⟨b1, b2, b3⟩ := h1.rules _ (List.mem_of_getElem? (st0_at h1)) x hx
          exact ⟨b1, by show x.2.1 + 1 < _; omega, by show x.2.2 + 1 < _; omega⟩
        · obtain ⟨x, hx, rfl⟩ := List.mem_map.mp hr
          obtain ⟨b1, b2, b3⟩ := h2.rules _ (List.mem_of_getElem? (st0_at h2)) x hx
          exact ⟨b1, by show x.2.1 + (1 + s.length) < _; omega, by show x.2.2 + (1 + s.length) < _; omega⟩
      · rcases List.mem_append.mp hst with hst | hst
        · exact mv 1 s h1 (by omega) hst
        · exact mv (1 + s.length) t h2 (by omega) hst
    · unfold sumS at hst
      rcases List.mem_cons.mp hst with rfl | hst
      · exact nodup_pw hw (hp.nodup_iff.mpr (sumRs_nodup h1 h2))
      · rcases List.mem_append.mp hst with hst | hst
        · obtain ⟨v, hv, rfl⟩ := List.mem_map.mp hst
          exact mv_pw (h1.pw hv)
        · obtain ⟨v, hv, rfl⟩ := List.mem_map.mp hst
          exact mv_pw (h2.pw hv)
    · show nRl (sumS s t us) ≤ 2000
      omega
  rw [ok.data] at hno
  cases hno
/-! the big schemas -/
theorem chain_ok {m a : Nat} (h2 : 2 ≤ m) (h60 : m ≤ 60) (ha : a < 5) : SchOk (chainS m a) := by
  have hl : (chainS m a).length = m := by unfold chainS; rw [List.length_append, List.length_map, List.length_range]; simp; omega
  refine ⟨by omega, by omega, fun st hst r hr => ?_, fun st hst => risL_of ?_, ?_⟩
  · rw [hl]
    unfold chainS at hst
    rcases List.mem_append.mp hst with hst | hst
    · obtain ⟨k, hk, rfl⟩ := List.mem_map.mp hst
      have := List.mem_range.mp hk
      rw [List.mem_singleton.mp hr]
      exact ⟨ha, by show m - 1 < m; omega, by show k + 1 < m; omega⟩
    · rw [List.mem_singleton.mp hst] at hr
      cases hr
  · unfold chainS at hst
    rcases List.mem_append.mp hst with hst | hst
    · obtain ⟨k, hk, rfl⟩ := List.mem_map.mp hst
      exact List.pairwise_singleton _ _
    · rw [List.mem_singleton.mp hst]
      exact .nil
  · unfold chainS
    rw [List.map_append, List.sum_append, List.map_map]
    have : ∀ l : List Nat, (l.map ((·.2.length) ∘ fun k => ((false, [(a, m - 1, k + 1)]) : Bool × List Rl))).sum = l.length := fun l => by
      induction l with
      | nil => rfl
      | cons x l ih => rw [List.map_cons, List.sum_cons, ih]; show 1 + l.length = l.length + 1; omega
    rw [this, List.length_range]
    simp
    omega
theorem wide_ok {m a : Nat} (h2 : 2 ≤ m) (h44 : m ≤ 44) (ha : a < 5) : SchOk (wideS m a) := by
  have hl : (wideS m a).length = m := by unfold wideS; rw [List.length_cons, List.length_replicate]; omega
  refine ⟨by omega, by omega, fun st hst r hr => ?_, fun st hst => risL_of ?_, ?_⟩
  · rw [hl]
    unfold wideS at hst
    rcases List.mem_cons.mp hst with rfl | hst
    · obtain ⟨x, hx, hr⟩ := List.mem_flatMap.mp hr
      obtain ⟨y, hy, rfl⟩ := List.mem_map.mp hr
      exact ⟨ha, List.mem_range.mp hx, List.mem_range.mp hy⟩
    · rw [List.eq_of_mem_replicate hst] at hr
      cases hr
  · unfold wideS at hst
    rcases List.mem_cons.mp hst with rfl | hst
    · rw [List.pairwise_flatMap]
      refine ⟨fun x _ => List.pairwise_map.mpr (List.pairwise_lt_range.imp fun {y z} h => ?_), List.pairwise_lt_range.imp fun {x y} h u hu v hv => ?_⟩
      · exact Or.inr ⟨rfl, Or.inr ⟨rfl, h⟩⟩
      · obtain ⟨_, _, rfl⟩ := List.mem_map.mp hu
        obtain ⟨_, _, rfl⟩ := List.mem_map.mp hv
        exact Or.inr ⟨rfl, Or.inl h⟩
    · rw [List.eq_of_mem_replicate hst]
      exact .nil
  · unfold wideS
    rw [List.map_cons, List.sum_cons, List.map_replicate]
    show ((List.range m).flatMap fun x => (List.range m).map fun y => (a, x, y)).length + (List.replicate (m - 1) 0).sum ≤ 2000
    have e : ((List.range m).flatMap fun x => (List.range m).map fun y => (a, x, y)).length = m * m := by
      rw [List.length_flatMap]
      have : ∀ l : List Nat, (l.map fun x => ((List.range m).map fun y => (a, x, y)).length).sum = l.length * m := fun l => by
        induction l with
        | nil => simp
        | cons x l ih => rw [List.map_cons, List.sum_cons, ih, List.length_map, List.length_range, List.length_cons, Nat.succ_mul]; omega
      rw [this, List.length_range]
    rw [e, List.sum_replicate_nat, Nat.mul_zero]
    have := Nat.mul_le_mul h44 h44
    omega
end LW
set_option maxHeartbeats 4000000
namespace LW
open PySem PySem.Spec PyProof.Rows L2
section
variable {K : PySem.W.Frag} {σ : L2.St} {H0 : Hp}
theorem flat_rep1 (x : V) : ∀ n : Nat, (List.replicate n [x]).flatten = List.replicate n x
  | 0 => rfl
  | n + 1 => by rw [List.replicate_succ, List.replicate_succ, List.flatten_cons, flat_rep1 x n]; rfl
/-- (x,) * k -/
theorem DX.rep {a : TA} {b : TE} {d : PyData} {k : Nat} {z : Int} (ha : DXs K σ H0 a [d]) (hb : NX K σ H0 b z) (ez : z = (k : Int)) (hk : k ≤ 1000) : DX K σ H0 (tOp (rRepA K) (tTup a) b) (.tuple (List.replicate k d)) := fun H1 Q g kk =>
  ha H1 _ g fun H2 xs g2 hxs => by
    match xs, hxs with
    | [x], .cons hx .nil =>
    refine ⟨(by show (1 : Nat) ≤ sizeLine; decide), fun p np => ?_⟩
    have gp := Gr.new (m := []) (o := .tup [x]) np
    refine hb _ _ (g.trans (g2.trans gp)) ?_
    subst ez
    refine ⟨p, k, [x], rfl, rfl, SqT.of upd_same, by simp, hk, by simp, fun z => ?_, fun _ p2 np2 => ?_⟩
    · subst z
      exact kk _ _ (g2.trans gp) (.tup (SqT.of upd_same) (.cons (hx.gr gp) .nil))
    · rw [flat_rep1]
      have gg := gp.trans (Gr.new (o := .tup (List.replicate k x)) np2)
      exact kk _ _ (g2.trans gg) (.tup (SqT.of upd_same) (dpAll_rep (hx.gr gg) k))
theorem LsD.gr0 {H H1 : Hp} {p : Addr} {ds : List PyData} (g : Gr [] H0 H) (h : LsD K H H1 p ds) : LsD K H0 H1 p ds := ⟨g.free _ h.new, g.trans h.gr, h.ex⟩
/-- l + [..] of data -/
theorem rcat_lsd {a : TA} {ds es : List PyData} {p : Addr} {H : Hp} {Q : VK} (hL : LsD K H0 H p ds) (h : DXs K σ H a es) (hl : ds.length + es.length ≤ 1000) (k : ∀ H2 q, LsD K H0 H2 q (ds ++ es) → Q (.ref q) H2) : tLst a σ H (fun y H2 => rCat (.ref p) y H2 Q) := by
  obtain ⟨xs, h1, h2⟩ := hL.ex
  refine lst_data h (Gr.refl _) (by omega) fun H2 q hq => ?_
  obtain ⟨ys, h3, h4⟩ := hq.ex
  have h1' := hq.gr.lst (by simp) h1
  have l2 := h2.length
  have l4 := h4.length
  refine ⟨p, q, xs, ys, rfl, rfl, h1', h3, Nat.le_of_lt (small4 (by omega)), fun r nr => k _ r ?_⟩
  have g3 := Gr.new (m := []) (o := .lst (xs ++ ys)) nr
  exact ⟨(hL.gr.trans hq.gr).free _ nr, hL.gr.trans (hq.gr.trans g3), xs ++ ys, upd_same, ((h2.gr hq.gr).gr g3).append (h4.gr g3)⟩
end
/-! documents that are a row of like trees -/
def rowA (a : Nat) : Nat → Doc
  | 0 => .nil
  | n + 1 => .cons a .nil (rowA a n)
theorem rowA_ts (a : Nat) : ∀ n, (rowA a n).ts = List.replicate n (.tuple [.int a, .tuple []])
  | 0 => rfl
  | n + 1 => by
    rw [List.replicate_succ, ← rowA_ts a n]
    rfl
theorem rowA_data (a n : Nat) : (rowA a n).data = .tuple (List.replicate n (.tuple [.int a, .tuple []])) := by
  rw [← rowA_ts]
  cases n <;> rfl
theorem rowA_ok {a : Nat} (ha : a < 5) : ∀ n, (rowA a n).lab = true ∧ (rowA a n).size = n ∧ (rowA a n).dep ≤ 2
  | 0 => ⟨rfl, rfl, by simp [rowA, Doc.dep]⟩
  | n + 1 => by
    obtain ⟨h1, h2, h3⟩ := rowA_ok ha n
    refine ⟨?_, ?_, ?_⟩
    · simp only [rowA, Doc.lab, h1, Bool.and_true]
      exact decide_eq_true (by omega)
    · simp only [rowA, Doc.size, h2]; omega
    · simp only [rowA, Doc.dep]; omega
/-- documents of the law -/
def docG (d : PyData) : Prop := ∃ e : Doc, d = e.data ∧ e.lab = true ∧ e.size ≤ 100 ∧ e.dep ≤ 8
theorem docG_row {a n : Nat} (ha : a < 5) (hn : n ≤ 100) : docG (.tuple (List.replicate n (.tuple [.int a, .tuple []]))) := by
  obtain ⟨h1, h2, h3⟩ := rowA_ok ha n
  exact ⟨rowA a n, (rowA_data a n).symm, h1, by omega, by omega⟩
def spNear12 (K : PySem.W.Frag) (T1 T2 T3 : Addr) : Sp := fun vs H Q _ => ∃ (bx cl : Addr), vs = [.ref bx] ∧ BoxAt H bx cl ∧ GxR.TabG H T1 ∧ GxR.TabG H T2 ∧ GxR.TabG H T3 ∧ ∀ H', Gr [bx] H H' → BoxAt H' bx cl → Q (.bl true) H'
theorem eqv_ref {s : Sch} (h : 1 ≤ s.length) (n : Str) : PyData.eqv (schD s) (refD n) = false := by
  match s, h with
  | st :: r, _ =>
    show PyData.eqv (.tuple (stD st :: r.map stD)) (.tuple [.str "refused", .str n]) = false
    simp [PyData.eqv, PyData.eqvAll, stD]
theorem eqv_same (n : Str) : PyData.eqv (refD n) (refD n) = true := by
  show PyData.eqv (.tuple [.str "refused", .str n]) (.tuple [.str "refused", .str n]) = true
  simp [PyData.eqv, PyData.eqvAll]
end LW
set_option maxHeartbeats 4000000
namespace LW
open PySem PySem.Spec PyProof.Rows L2
/-! schemas are shown, laid and not deep -/
theorem showableAll_iff {ds : List PyData} : PyData.showableAll ds = true ↔ ∀ d ∈ ds, d.showable = true := by
  induction ds with
  | nil => simp [PyData.showableAll]
  | cons x ds ih => simp [PyData.showableAll, ih]
theorem leavesAll_iff {B : Nat} {ds : List PyData} : PyData.leavesShortAll B ds = true ↔ ∀ d ∈ ds, d.leavesShort B = true := by
  induction ds with
  | nil => simp [PyData.leavesShortAll]
  | cons x ds ih => simp [PyData.leavesShortAll, ih]
theorem canAll_iff {ds : List PyData} : PyData.canLayAll0 ds = true ↔ ∀ d ∈ ds, d.canLay0 = true := by
  induction ds with
  | nil => simp [PyData.canLayAll0]
  | cons x ds ih => simp [PyData.canLayAll0, ih]
theorem depthAll_le {ds : List PyData} {k : Nat} (h : ∀ d ∈ ds, d.depth ≤ k) : PyData.depthAll ds ≤ k := by
  induction ds with
  | nil => simp [PyData.depthAll]
  | cons x ds ih =>
    have h1 := h x (List.mem_cons_self ..)
    have h2 := ih fun d hd => h d (List.mem_cons_of_mem _ hd)
    simp only [PyData.depthAll]
    omega
theorem depth_tup_le {ds : List PyData} {k : Nat} (h : ∀ d ∈ ds, d.depth ≤ k) : (PyData.tuple ds).depth ≤ k + 1 := by
  have := depthAll_le h
  simp only [PyData.depth]
  omega
theorem show_nat {n : Nat} (h : n < 1000) : (PyData.int (n : Int)).showable = true := by
  show (decide (((n : Int)).natAbs.log2 < 1920)) = true
  exact decide_eq_true (Nat.lt_of_le_of_lt (Nat.log2_le_self n) (by omega))
/-- what is asked of data that is shown and compared -/
structure Fine (d : PyData) (k b : Nat) : Prop where
  sh : d.showable = true
  lv : d.leavesShort 8 = true
  cl : d.canLay0 = true
  dp : d.depth ≤ k
  bk : d.bulk ≤ b
theorem Fine.nat {n : Nat} (h : n < 1000) : Fine (.int (n : Int)) 0 0 := ⟨show_nat h, short_nat h, rfl, Nat.le_refl _, Nat.le_refl _⟩
theorem Fine.bool (b : Bool) : Fine (.bool b) 0 0 := ⟨rfl, by cases b <;> rfl, rfl, Nat.le_refl _, Nat.le_refl _⟩
theorem Fine.mono {d : PyData} {k k' b b' : Nat} (h : Fine d k b) (h1 : k ≤ k') (h2 : b ≤ b') : Fine d k' b' := ⟨h.sh, h.lv, h.cl, by have := h.dp; omega, by have := h.bk; omega⟩
theorem bulkAll_le {ds : List PyData} {b : Nat} (h : ∀ d ∈ ds, d.bulk ≤ b) : PyData.bulkAll ds ≤ (b + 1) * ds.length := by
  induction ds with
  | nil => simp [PyData.bulkAll]
  | cons x ds ih =>
    have h1 := h x (List.mem_cons_self ..)
    have h2 := ih fun d hd => h d (List.mem_cons_of_mem _ hd)
    simp only [PyData.bulkAll, List.length_cons, Nat.mul_succ]
    omega
theorem Fine.tup {ds : List PyData} {k b n : Nat} (h : ∀ d ∈ ds, Fine d k b) (hn : ds.length ≤ n) : Fine (.tuple ds) (k + 1) ((b + 1) * n) := by
  refine ⟨?_, ?_, ?_, depth_tup_le fun d hd => (h d hd).dp, ?_⟩
  · simp only [PyData.showable]
    exact showableAll_iff.mpr fun d hd => (h d hd).sh
  · simp only [PyData.leavesShort]
    exact leavesAll_iff.mpr fun d hd => (h d hd).lv
  · simp only [PyData.canLay0]
    exact canAll_iff.mpr fun d hd => (h d hd).cl
  · simp only [PyData.bulk]
    exact Nat.le_trans (bulkAll_le fun d hd => (h d hd).bk) (Nat.mul_le_mul_left _ hn)
theorem Fine.shaped {d : PyData} {k b : Nat} (h : Fine d k b) (hk : k ≤ 64) : SeqAt.shaped d = true := by
  unfold SeqAt.shaped
  rw [h.cl, decide_eq_true (by have := h.dp; omega)]
  rfl
theorem Fine.show {d : PyData} {k b : Nat} (h : Fine d k b) (hk : k ≤ 64) (hb : b ≤ 2 ^ 20) : d.showable = true ∧ d.depth ≤ 64 ∧ d.shown.length ≤ sizeLine :=
  ⟨h.sh, by have := h.dp; omega, PyData.shown_fits_bulk (B := 8) (by decide) (by decide) h.lv (Nat.le_trans h.bk hb)⟩
theorem fine_rl {r : Rl} (h : r.1 < 1000 ∧ r.2.1 < 1000 ∧ r.2.2 < 1000) : Fine (rlD r) 1 3 := by
  have := Fine.tup (ds := [.int (r.1 : Int), .int (r.2.1 : Int), .int (r.2.2 : Int)]) (k := 0) (b := 0) (n := 3) (fun d hd => by
    simp only [List.mem_cons, List.not_mem_nil, or_false] at hd
    rcases hd with rfl | rfl | rfl
    · exact Fine.nat h.1
    · exact Fine.nat h.2.1
    · exact Fine.nat h.2.2) (by simp)
  exact this
/-- a schema whose states have at most m rules each -/
theorem fine_sch {s : Sch} {m n : Nat} (hok : SchOk s) (hm : ∀ st ∈ s, st.2.length ≤ m) (hn : s.length ≤ n) : Fine (schD s) 4 ((((4 * m) + 1) * 2 + 1) * n) := by
  refine Fine.tup (k := 3) (b := (4 * m + 1) * 2) (fun d hd => ?_) (by rw [List.length_map]; exact hn)
  obtain ⟨st, hst, rfl⟩ := List.mem_map.mp hd
  refine Fine.tup (k := 2) (b := 4 * m) (fun d hd => ?_) (by simp)
  simp only [List.mem_cons, List.not_mem_nil, or_false] at hd
  rcases hd with rfl | rfl
  · exact (Fine.bool st.1).mono (by omega) (by omega)
  · refine Fine.tup (k := 1) (b := 3) (fun d hd => ?_) (by rw [List.length_map]; exact hm st hst)
    obtain ⟨r, hr, rfl⟩ := List.mem_map.mp hd
    obtain ⟨b1, b2, b3⟩ := hok.rules st hst r hr
    have := hok.most
    exact fine_rl ⟨by omega, by omega, by omega⟩
theorem shaped_sch {s : Sch} (hok : SchOk s) : SeqAt.shaped (schD s) = true := (fine_sch (m := 2000) (n := 60) hok (fun st hst => hok.len hst) hok.most).shaped (by decide)
theorem shaped_schema : SeqAt.shaped (refD "schema") = true := by
  unfold SeqAt.shaped refD
  simp [PyData.canLay0, PyData.canLayAll0, PyData.depth, PyData.depthAll, PyData.strOk]
  decide
theorem shaped_much : SeqAt.shaped (refD "much") = true := by
  unfold SeqAt.shaped refD
  simp [PyData.canLay0, PyData.canLayAll0, PyData.depth, PyData.depthAll, PyData.strOk]
  decide
theorem eqv_much_schema : PyData.eqv (refD "schema") (refD "much") = false := by
  show PyData.eqv (.tuple [.str "refused", .str "schema"]) (.tuple [.str "refused", .str "much"]) = false
  simp [PyData.eqv, PyData.eqvAll]
  decide
theorem docG_pure {ds : List PyData} (h : ∀ d ∈ ds, docG d) : pureAll ds = true := pureAll_iff.mpr fun d hd => by
  obtain ⟨e, rfl, _⟩ := h d hd
  exact pure_data e
abbrev treeA (a : Int) : PyData := .tuple [.int a, .tuple []]
end LW
set_option maxHeartbeats 4000000
namespace LW
open PySem PySem.Spec PyProof.Rows L2
theorem asg_x {K : PySem.W.Frag} {σ : L2.St} {H0 : Hp} {t : TE} {d : PyData} {i : Nat} {D : Ends} (h : DX K σ H0 t d) (k : ∀ H2 x, Gr [] H0 H2 → Dp K H2 x d → D.nx (σ.set i (some x)) H2) : tAsg t (gName i) D σ H0 := by
  show t σ H0 (fun x H1 => D.nx (σ.set i (some x)) H1)
  exact h H0 _ (Gr.refl _) fun H2 x g hx => k H2 x g hx
/-! what is no document -/
def deepD : Nat → PyData
  | 0 => .tuple []
  | n + 1 => .tuple [.tuple [.int 0, deepD n]]
def badDoc (d : PyData) : Prop := docD d = false ∧ pure1 d = true
def badTr (t : PyData) : Prop := formT t 1 = false ∧ pure1 t = true
theorem formAll_mem {n : Nat} : ∀ {ts : List PyData}, formAll ts n = true → ∀ t ∈ ts, formT t n = true
  | [], _, t, h => by cases h
  | x :: ts, h, t, ht => by
    rw [formAll, Bool.and_eq_true] at h
    rcases List.mem_cons.mp ht with rfl | ht
    · exact h.1
    · exact formAll_mem h.2 t ht
theorem badDoc_put {ts : List PyData} {t : PyData} {k : Nat} (h : badTr t) (hp : pureAll ts = true) : badDoc (.tuple (ts.take k ++ [t] ++ ts.drop k)) := by
  refine ⟨?_, ?_⟩
  · cases z : docD (.tuple (ts.take k ++ [t] ++ ts.drop k)) with
    | false => rfl
    | true =>
      exfalso
      unfold docD at z
      rw [Bool.and_eq_true, formD, Bool.and_eq_true] at z
      have := formAll_mem z.1.2 t (by simp)
      rw [h.1] at this
      cases this
  · rw [pure1_tup]
    refine pureAll_iff.mpr fun d hd => ?_
    rcases List.mem_append.mp hd with hd | hd
    · rcases List.mem_append.mp hd with hd | hd
      · exact pureAll_iff.mp hp d (List.mem_of_mem_take hd)
      · rw [List.mem_singleton.mp hd]; exact h.2
    · exact pureAll_iff.mp hp d (List.mem_of_mem_drop hd)
abbrev oddLb : List PyData := [.int 5, .int (-1), .bool true, .bool false, .none, .str "0", .tuple []]
theorem oddLb_bad {d : PyData} (h : d ∈ oddLb) : badTr (.tuple [d, .tuple []]) := by
  simp only [List.mem_cons, List.not_mem_nil, or_false] at h
  rcases h with rfl | rfl | rfl | rfl | rfl | rfl | rfl <;> exact ⟨by decide +kernel, rfl⟩
theorem oddLb_pure {d : PyData} (h : d ∈ oddLb) : pure1 d = true := by
  simp only [List.mem_cons, List.not_mem_nil, or_false] at h
  rcases h with rfl | rfl | rfl | rfl | rfl | rfl | rfl <;> rfl
abbrev leafD (a : Int) : PyData := .tuple [.int a, .tuple []]
def treesL (odd : PyData) : List PyData := [.tuple [odd, .tuple []], .tuple [.int 0], .tuple [.int 0, .tuple [], .tuple []], .tuple [.int 0, .int 0], .tuple [.int 0, .none], .tuple [.int 0, .str "1"], .tuple [.int 0, .tuple [.tuple [.int 1, .tuple [leafD 7]]]], .tuple [], .int 0, .none, .str "0", .tuple [.int 0, deepD 31]]
theorem treesL_bad {odd : PyData} (h : odd ∈ oddLb) : ∀ t ∈ treesL odd, badTr t := by
  intro t ht
  simp only [treesL, List.mem_cons, List.not_mem_nil, or_false] at ht
  rcases ht with rfl | rfl | rfl | rfl | rfl | rfl | rfl | rfl | rfl | rfl | rfl | rfl
  · exact oddLb_bad h
  all_goals exact ⟨by decide +kernel, by decide +kernel⟩
def badL : List PyData := [.tuple [.int 0, .tuple []], .none, .int 0, .str "0", .tuple (List.replicate 301 (leafD 0)), deepD 31, .tuple ([.tuple [.int 0, deepD 30]] ++ [leafD 0]), .tuple ([leafD 0] ++ [.tuple [.int 0, deepD 30]]),
  .tuple (List.replicate 3 (.tuple [.int 0, .tuple (List.replicate 10 (.tuple [.int 1, .tuple (List.replicate 10 (leafD 2))]))]))]
theorem badL_bad : ∀ d ∈ badL, badDoc d := by
  intro d hd
  simp only [badL, List.mem_cons, List.not_mem_nil, or_false] at hd
  rcases hd with rfl | rfl | rfl | rfl | rfl | rfl | rfl | rfl | rfl
  all_goals exact ⟨by decide +kernel, by decide +kernel⟩
def spBadDoc (K : PySem.W.Frag) : Sp := fun vs H Q _ => ∃ (bx cl : Addr) (dv : V) (d : Doc), vs = [.ref bx, dv] ∧ BoxAt H bx cl ∧ Dp K H dv d.data ∧ d.len ≤ 900 ∧ ∀ dd x H', badDoc dd → Gr [bx] H H' → BoxAt H' bx cl → Dp K H' x dd → Q x H'
end LW
set_option maxHeartbeats 4000000
namespace LW
open PySem PySem.Spec PyProof.Rows L2
/-! documents that are spoilt somewhere -/
def noForm (d : PyData) : Prop := (∀ n, formD d n = false) ∧ pure1 d = true
def noTree (t : PyData) : Prop := (∀ n, formT t n = false) ∧ pure1 t = true
theorem noForm.doc {d : PyData} (h : noForm d) : docD d = false := by unfold docD; rw [h.1]; rfl
theorem noForm_put {xs ys : List PyData} {t : PyData} (h : noTree t) (h1 : pureAll xs = true) (h2 : pureAll ys = true) : noForm (.tuple (xs ++ [t] ++ ys)) := by
  refine ⟨fun n => ?_, ?_⟩
  · cases z : formD (.tuple (xs ++ [t] ++ ys)) n with
    | false => rfl
    | true =>
      exfalso
      rw [formD, Bool.and_eq_true] at z
      have := formAll_mem z.2 t (by simp)
      rw [h.1] at this
      cases this
  · rw [pure1_tup, pureAll_app, pureAll_app, h1, h2, pureAll, h.2]
    rfl
theorem noTree_kid {a : Int} {k : PyData} (h : noForm k) : noTree (.tuple [.int a, k]) := by
  refine ⟨fun n => ?_, ?_⟩
  · rw [formT, h.1, Bool.and_false]
  · rw [pure1_tup, pureAll, pureAll, h.2]; rfl
def spoiltL : List PyData := [leafD 5, leafD (-1), .tuple [.bool true, .tuple []], .tuple [.bool false, .tuple []], .tuple [.none, .tuple []], .tuple [.str "0", .tuple []], .tuple [.int 0, .none], .tuple [.int 0, .int 0], .tuple [.int 0, .str ""], .tuple [.int 0], .tuple [.int 0, .tuple [], .tuple []], .tuple [], .none, .int 0, .str "", .str "0",
  .tuple [.tuple [], .int 0], .tuple [.int 0, .tuple [.int 0]], .tuple [.int 0, .tuple [.tuple []]], .tuple [.int 0, .tuple [.tuple [leafD 0]]]]
theorem spoiltL_bad : ∀ t ∈ spoiltL, noTree t := by
  intro t ht
  simp only [spoiltL, List.mem_cons, List.not_mem_nil, or_false] at ht
  rcases ht with rfl | rfl | rfl | rfl | rfl | rfl | rfl | rfl | rfl | rfl | rfl | rfl | rfl | rfl | rfl | rfl | rfl | rfl | rfl | rfl
  all_goals exact ⟨fun n => by simp [formT, formD, formAll, belowD], by decide +kernel⟩
def plainL : List PyData := [.none, .int 0, .str "", .str "0", .bool true, .int (-1)]
theorem plainL_bad : ∀ t ∈ plainL, noForm t := by
  intro t ht
  simp only [plainL, List.mem_cons, List.not_mem_nil, or_false] at ht
  rcases ht with rfl | rfl | rfl | rfl | rfl | rfl
  all_goals exact ⟨fun n => by simp [formD], rfl⟩
def spSpoilt (K : PySem.W.Frag) (k : Nat) : Sp := fun vs H Q _ => ∃ (bx cl : Addr) (dv : V) (d : Doc), vs = [.ref bx, dv] ∧ BoxAt H bx cl ∧ Dp K H dv d.data ∧ d.dep < k ∧ d.size ≤ 300 ∧ ∀ dd x H', noForm dd → Gr [bx] H H' → BoxAt H' bx cl → Dp K H' x dd → Q x H'
end LW
set_option maxHeartbeats 2000000
namespace LW
open PySem PySem.Spec PyProof.Rows L2
/-! ### Moves, the class -/
def fsM (t : Sch) (rl tr jn : Addr) : List (Str × V) := [("many", natV t.length), ("ends", natV (emptyB t)), ("rules", .ref rl), ("full_row", .int (2 ^ t.length - 1)), ("full_column", natV (colB t.length)), ("empty", natV (idN t.length)), ("trees", .ref tr), ("joints", .ref jn)]
structure MvTxt (K : PySem.W.Frag) (mg : Str → Option Value) (C : Addr) : Prop where
  cl : Cls K C
  n0 : NoAttr K C "many"
  n1 : NoAttr K C "ends"
  n2 : NoAttr K C "rules"
  n3 : NoAttr K C "full_row"
  n4 : NoAttr K C "full_column"
  n5 : NoAttr K C "empty"
  n6 : NoAttr K C "trees"
  n7 : NoAttr K C "joints"
  gC : mg "Moves" = some (.ref C)
section
variable {t : Sch} {rl tr jn : Addr}
theorem fm0 : (fsM t rl tr jn).lookup ("many" : Str) = some (natV t.length) := lkH
theorem fm1 : (fsM t rl tr jn).lookup ("ends" : Str) = some (natV (emptyB t)) := (lkP (by decide +kernel)).trans lkH
theorem fm2 : (fsM t rl tr jn).lookup ("rules" : Str) = some (.ref rl) := (lkP (by decide +kernel)).trans ((lkP (by decide +kernel)).trans lkH)
theorem fm3 : (fsM t rl tr jn).lookup ("full_row" : Str) = some (.int (2 ^ t.length - 1)) := (lkP (by decide +kernel)).trans ((lkP (by decide +kernel)).trans ((lkP (by decide +kernel)).trans lkH))
theorem fm4 : (fsM t rl tr jn).lookup ("full_column" : Str) = some (natV (colB t.length)) := (lkP (by decide +kernel)).trans ((lkP (by decide +kernel)).trans ((lkP (by decide +kernel)).trans ((lkP (by decide +kernel)).trans lkH)))
theorem fm5 : (fsM t rl tr jn).lookup ("empty" : Str) = some (natV (idN t.length)) := (lkP (by decide +kernel)).trans ((lkP (by decide +kernel)).trans ((lkP (by decide +kernel)).trans ((lkP (by decide +kernel)).trans ((lkP (by decide +kernel)).trans lkH))))
theorem fm6 : (fsM t rl tr jn).lookup ("trees" : Str) = some (.ref tr) := (lkP (by decide +kernel)).trans ((lkP (by decide +kernel)).trans ((lkP (by decide +kernel)).trans ((lkP (by decide +kernel)).trans ((lkP (by decide +kernel)).trans ((lkP (by decide +kernel)).trans lkH)))))
theorem fm7 : (fsM t rl tr jn).lookup ("joints" : Str) = some (.ref jn) := (lkP (by decide +kernel)).trans ((lkP (by decide +kernel)).trans ((lkP (by decide +kernel)).trans ((lkP (by decide +kernel)).trans ((lkP (by decide +kernel)).trans ((lkP (by decide +kernel)).trans ((lkP (by decide +kernel)).trans lkH))))))
theorem fm_none {m : Str} (h0 : (m == ("many" : Str)) = false) (h1 : (m == ("ends" : Str)) = false) (h2 : (m == ("rules" : Str)) = false) (h3 : (m == ("full_row" : Str)) = false) (h4 : (m == ("full_column" : Str)) = false) (h5 : (m == ("empty" : Str)) = false) (h6 : (m == ("trees" : Str)) = false) (h7 : (m == ("joints" : Str)) = false) : (fsM t rl tr jn).lookup m = none :=
  (lkP h0).trans ((lkP h1).trans ((lkP h2).trans ((lkP h3).trans ((lkP h4).trans ((lkP h5).trans ((lkP h6).trans ((lkP h7).trans rfl)))))))
end
structure MovesAt (K : PySem.W.Frag) (C : Addr) (H : Hp) (p rl tr jn : Addr) (t : Sch) (n : Nat) : Prop where
  ins : ∃ dx, H p = some (.ins C dx (fsM t rl tr jn))
  rules : ∃ H0 ls, RL K H0 H rl ls (rulesFrom 0 t)
  trees : ∃ kvs, H tr = some (.dT kvs) ∧ kvs.length ≤ n ∧ ∀ a x v, valV kvs (key2 a x) = some v → v = natV (treeN t a x)
  joints : ∃ kvs, H jn = some (.dT kvs) ∧ kvs.length ≤ n ∧ ∀ x y v, valV kvs (key2 x y) = some v → v = natV (joinN t.length x y)
  ne : tr ≠ jn
section
variable {K : PySem.W.Frag} {C p rl tr jn : Addr} {H H' : Hp} {t : Sch} {n : Nat}
theorem MovesAt.gr {m : List Addr} (h : MovesAt K C H p rl tr jn t n) (g : Gr m H H') (hm : Apart m H) (h1 : p ∉ m) (h2 : tr ∉ m) (h3 : jn ∉ m) : MovesAt K C H' p rl tr jn t n where
  ins := let ⟨dx, e⟩ := h.ins; ⟨dx, g.keep _ _ h1 e fun _ z => by cases z⟩
  rules := let ⟨H0, ls, e⟩ := h.rules; ⟨H0, ls, e.grA g hm⟩
  trees := let ⟨kvs, e, l, f⟩ := h.trees; ⟨kvs, g.keep _ _ h2 e (fun _ z => by cases z), l, f⟩
  joints := let ⟨kvs, e, l, f⟩ := h.joints; ⟨kvs, g.keep _ _ h3 e (fun _ z => by cases z), l, f⟩
  ne := h.ne
theorem MovesAt.gr0 (h : MovesAt K C H p rl tr jn t n) (g : Gr [] H H') : MovesAt K C H' p rl tr jn t n := h.gr g .nil (by simp) (by simp) (by simp)
theorem MovesAt.apart (h : MovesAt K C H p rl tr jn t n) : Apart [tr, jn] H := fun b hb o e => by
  obtain ⟨kvs, e1, _⟩ := h.trees
  obtain ⟨kvs2, e2, _⟩ := h.joints
  rcases List.mem_cons.mp hb with rfl | hb
  · rw [e1] at e; cases e; rfl
  · rw [List.mem_singleton.mp hb, e2] at e; cases e; rfl
theorem MovesAt.mono {k : Nat} (h : MovesAt K C H p rl tr jn t n) (le : n ≤ k) : MovesAt K C H p rl tr jn t k :=
  ⟨h.ins, h.rules, let ⟨kvs, e, l, f⟩ := h.trees; ⟨kvs, e, Nat.le_trans l le, f⟩, let ⟨kvs, e, l, f⟩ := h.joints; ⟨kvs, e, Nat.le_trans l le, f⟩, h.ne⟩
theorem key2_inj {a x b y : Nat} (h : key2 a x = key2 b y) : a = b ∧ x = y :=
  ⟨Int.ofNat.inj (Sum.inl.inj (List.cons.inj h).1), Int.ofNat.inj (Sum.inl.inj (List.cons.inj (List.cons.inj h).2).1)⟩
/-- a tree's move is kept -/
theorem MovesAt.putT {a x : Nat} {kvs : List (List Key × V)} (h : MovesAt K C H p rl tr jn t n) (e : H tr = some (.dT kvs)) : MovesAt K C (upd H tr (.dT (putK kvs (key2 a x) (natV (treeN t a x))))) p rl tr jn t (n + 1) := by
  have gw : Gr [tr] H (upd H tr (.dT (putK kvs (key2 a x) (natV (treeN t a x))))) := Gr.put e (fun _ z => by cases z) (by simp)
  have aw : Apart [tr] H := fun b hb o e' => by rw [List.mem_singleton.mp hb, e] at e'; cases e'; rfl
  obtain ⟨dx, hp⟩ := h.ins
  have ptr : p ≠ tr := fun z => by rw [z, e] at hp; cases hp
  obtain ⟨kv1, e1, l1, f1⟩ := h.trees
  rw [e] at e1; cases e1
  obtain ⟨kv2, e2, l2, f2⟩ := h.joints
  obtain ⟨H0, ls, hR⟩ := h.rules
  refine ⟨⟨dx, by rw [upd_ne ptr]; exact hp⟩, ⟨H0, ls, hR.grA gw aw⟩, ⟨_, upd_same, Nat.le_trans putK_len (by omega), fun a' x' v e => ?_⟩, ⟨kv2, by rw [upd_ne h.ne.symm]; exact e2, by omega, f2⟩, h.ne⟩
  rw [valV_put] at e
  by_cases hk : key2 a' x' = key2 a x
  · rw [if_pos hk] at e
    obtain ⟨rfl, rfl⟩ := key2_inj hk
    cases e; rfl
  · rw [if_neg hk] at e
    exact f1 a' x' v e
theorem MovesAt.putJ {x y : Nat} {kvs : List (List Key × V)} (h : MovesAt K C H p rl tr jn t n) (e : H jn = some (.dT kvs)) : MovesAt K C (upd H jn (.dT (putK kvs (key2 x y) (natV (joinN t.length x y))))) p rl tr jn t (n + 1) := by
  have gw : Gr [jn] H (upd H jn (.dT (putK kvs (key2 x y) (natV (joinN t.length x y))))) := Gr.put e (fun _ z => by cases z) (by simp)
  have aw : Apart [jn] H := fun b hb o e' => by rw [List.mem_singleton.mp hb, e] at e'; cases e'; rfl
  obtain ⟨dx, hp⟩ := h.ins
  have ptr : p ≠ jn := fun z => by rw [z, e] at hp; cases hp
  obtain ⟨kv1, e1, l1, f1⟩ := h.trees
  obtain ⟨kv2, e2, l2, f2⟩ := h.joints
  rw [e] at e2; cases e2
  obtain ⟨H0, ls, hR⟩ := h.rules
  refine ⟨⟨dx, by rw [upd_ne ptr]; exact hp⟩, ⟨H0, ls, hR.grA gw aw⟩, ⟨kv1, by rw [upd_ne h.ne]; exact e1, by omega, f1⟩, ⟨_, upd_same, Nat.le_trans putK_len (by omega), fun a' x' v e => ?_⟩, h.ne⟩
  rw [valV_put] at e
  by_cases hk : key2 a' x' = key2 x y
  · rw [if_pos hk] at e
    obtain ⟨rfl, rfl⟩ := key2_inj hk
    cases e; rfl
  · rw [if_neg hk] at e
    exact f2 a' x' v e
end
abbrev litM (t : Sch) : Prop := SchOk t ∧ t.length ≤ 31
def spMRow (K : PySem.W.Frag) (C : Addr) : Sp := fun vs H Q _ => ∃ (p rl tr jn dx : Addr) (t : Sch) (x z : Nat), vs = [.ref p, natV x, natV z] ∧ H p = some (.ins C dx (fsM t rl tr jn)) ∧ litM t ∧ Q (natV (rowN t.length x z)) H
def spMAllows (K : PySem.W.Frag) (C : Addr) : Sp := fun vs H Q _ => ∃ (p rl tr jn dx : Addr) (t : Sch) (z x : Nat), vs = [.ref p, natV z, natV x] ∧ H p = some (.ins C dx (fsM t rl tr jn)) ∧ litM t ∧ Q (.bl (allowN t z x)) H
def spMJoint (K : PySem.W.Frag) (C : Addr) : Sp := fun vs H Q _ => ∃ (p rl tr jn dx : Addr) (t : Sch) (x y : Nat), vs = [.ref p, natV x, natV y] ∧ H p = some (.ins C dx (fsM t rl tr jn)) ∧ litM t ∧ Q (natV (joinN t.length x y)) H
def spMJoined (K : PySem.W.Frag) (C : Addr) : Sp := fun vs H Q _ => ∃ (p rl tr jn : Addr) (t : Sch) (n x y : Nat), vs = [.ref p, natV x, natV y] ∧ MovesAt K C H p rl tr jn t n ∧ litM t ∧ n ≤ 90000 ∧ ∀ H', Gr [jn] H H' → MovesAt K C H' p rl tr jn t (n + 1) → Q (natV (joinN t.length x y)) H'
def spMTree (K : PySem.W.Frag) (C : Addr) : Sp := fun vs H Q _ => ∃ (p rl tr jn : Addr) (t : Sch) (n a x : Nat), vs = [.ref p, natV a, natV x] ∧ MovesAt K C H p rl tr jn t n ∧ litM t ∧ n ≤ 90000 ∧ a < 5 ∧ ∀ H', Gr [tr] H H' → MovesAt K C H' p rl tr jn t (n + 1) → Q (natV (treeN t a x)) H'
def spMAfter (K : PySem.W.Frag) (C : Addr) : Sp := fun vs H Q _ => ∃ (p rl tr jn : Addr) (t : Sch) (n a x y : Nat), vs = [.ref p, natV a, natV x, natV y] ∧ MovesAt K C H p rl tr jn t n ∧ litM t ∧ n + 2 ≤ 90000 ∧ a < 5 ∧ ∀ H', Gr [tr, jn] H H' → MovesAt K C H' p rl tr jn t (n + 2) → Q (natV (joinN t.length (treeN t a x) y)) H'
def spMDoc (K : PySem.W.Frag) (C : Addr) (k : Nat) : Sp := fun vs H Q _ => ∃ (p rl tr jn : Addr) (t : Sch) (n : Nat) (d : Doc) (v : V), vs = [.ref p, v] ∧ MovesAt K C H p rl tr jn t n ∧ litM t ∧ Dp K H v d.data ∧ d.lab = true ∧ d.dep < k ∧ n + 2 * d.size ≤ 90000 ∧
  ∀ H', Gr [tr, jn] H H' → MovesAt K C H' p rl tr jn t (n + 2 * d.size) → Q (natV (mvN t d)) H'
def spMoves (K : PySem.W.Frag) (C : Addr) : Sp := fun vs H Q _ => ∃ (p dx : Addr) (v : V) (t : Sch), vs = [.ref p, v] ∧ H p = some (.ins C dx []) ∧ Dp K H v (schD t) ∧ litM t ∧
  ∀ H' rl tr jn, Gr [p] H H' → MovesAt K C H' p rl tr jn t 0 → H tr = none → H jn = none → Q .non H'
/-- the pairs as a list, as a dict's keys; the instance knows its many at least -/
def keyP (p : Pr) : List Key := key2 p.1 p.2
def fewM (H : Hp) (C p : Addr) (n : Nat) : Prop := ∃ dx fs, H p = some (.ins C dx fs) ∧ fs.lookup ("many" : Str) = some (natV n)
def okPrs (n : Nat) (ps : List Pr) : Prop := 0 < n ∧ n ≤ 31 ∧ ps.Nodup ∧ ∀ p ∈ ps, p.1 < n ∧ p.2 < n
def spBopL (K : PySem.W.Frag) (C : Addr) : Sp := fun vs H Q _ => ∃ (p l : Addr) (xs : List V) (n : Nat) (ps : List Pr), vs = [.ref p, .ref l] ∧ fewM H C p n ∧ SqL K H l xs ∧ DpAll K H xs (ps.map entD) ∧ okPrs n ps ∧ ∀ H', Gr [] H H' → Q (natV (numP n fun q r => decide ((q, r) ∈ ps))) H'
def spBopT (K : PySem.W.Frag) (C : Addr) : Sp := fun vs H Q _ => ∃ (p : Addr) (v : V) (n : Nat) (ps : List Pr), vs = [.ref p, v] ∧ fewM H C p n ∧ Dp K H v (.tuple (ps.map entD)) ∧ okPrs n ps ∧ ∀ H', Gr [] H H' → Q (natV (numP n fun q r => decide ((q, r) ∈ ps))) H'
def spBopD (K : PySem.W.Frag) (C : Addr) : Sp := fun vs H Q _ => ∃ (p d : Addr) (kvs : List (List Key × V)) (n : Nat) (ps : List Pr), vs = [.ref p, .ref d] ∧ fewM H C p n ∧ H d = some (.dT kvs) ∧ kvs.map (·.1) = ps.map keyP ∧ okPrs n ps ∧ ∀ H', Gr [] H H' → Q (natV (numP n fun q r => decide ((q, r) ∈ ps))) H'
def spPairsOf (K : PySem.W.Frag) (C : Addr) : Sp := fun vs H Q _ => ∃ (p rl tr jn dx : Addr) (t : Sch) (x : Nat), vs = [.ref p, natV x] ∧ H p = some (.ins C dx (fsM t rl tr jn)) ∧ litM t ∧ ∀ H' v, Gr [] H H' → Dp K H' v (.tuple ((prs t.length (bitP t.length x)).map entD)) → Q v H'
theorem okPrs_len {n : Nat} {ps : List Pr} (h : okPrs n ps) : ps.length ≤ n * n := by
  obtain ⟨h0, _, nd, hb⟩ := h
  have nd2 : (prsIx n ps).Nodup := nodup_map_of nd fun a ha b hb' e => by
    have h1 := qr_div (q := a.1) (hb a ha).2
    have h2 := qr_div (q := b.1) (hb b hb').2
    rw [e] at h1
    exact Prod.ext (h1.1.symm.trans h2.1) (h1.2.symm.trans h2.2)
  have e : ps.length = (prsIx n ps).length := by unfold prsIx; rw [List.length_map]
  rw [e]
  have key : ∀ (N : Nat) (l : List Nat), l.Nodup → (∀ i ∈ l, i < N) → l.length ≤ N := fun N => by
    induction N with
    | zero => intro l _ hb; cases l with
      | nil => simp
      | cons a l => exact absurd (hb a (List.mem_cons_self ..)) (Nat.not_lt_zero _)
    | succ N ih =>
      intro l nd hb
      have h1 := ih (l.erase N) (nd.erase N) fun i hi => by
        rw [nd.mem_erase_iff] at hi
        have := hb i hi.2
        omega
      have h2 := List.length_erase (a := N) (l := l)
      split at h2 <;> omega
  exact key _ _ nd2 fun i hi => by
    obtain ⟨p, hp, rfl⟩ := List.mem_map.mp hi
    exact qr_lt (hb p hp).1 (hb p hp).2
end LW
namespace LW
open PySem PySem.Spec PyProof.Rows L2
def prsTo (n : Nat) (P : Rel) (i : Nat) : List Pr := (List.range i).flatMap fun q => ((List.range n).filter (P q)).map fun r => (q, r)
theorem prsTo_succ (n : Nat) (P : Rel) (i : Nat) : prsTo n P (i + 1) = prsTo n P i ++ ((List.range n).filter (P i)).map fun r => (i, r) := by
  unfold prsTo; rw [List.range_succ, List.flatMap_append]; simp
theorem prsTo_len (n : Nat) (P : Rel) : ∀ i, (prsTo n P i).length ≤ i * n
  | 0 => by simp [prsTo]
  | i + 1 => by
    have h := prsTo_len n P i
    have h2 := List.length_filter_le (P i) (List.range n)
    rw [List.length_range] at h2
    rw [prsTo_succ, List.length_append, List.length_map, Nat.add_mul, Nat.one_mul]
    omega
theorem entD_pure : ∀ l : List Pr, pureAll (l.map entD) = true := pure_entD
theorem mems_row {n x q : Nat} (hq : q < n) : LB.mems (rowN n x q) n = (List.range n).filter (bitP n x q) := by
  unfold LB.mems
  refine List.filter_congr fun r hr => ?_
  have := List.mem_range.mp hr
  rw [rowN_bit]
  unfold bitP
  simp [hq, this]
/-- move(t, d) -/
def spMoveX (K : PySem.W.Frag) (T T1 T2 T3 CD CB : Addr) : Sp := fun vs H Q E => ∃ (v1 v2 : V) (d1 d2 : PyData), vs = [v1, v2] ∧ Dp K H v1 d1 ∧ Dp K H v2 d2 ∧ fewSc d1 ∧ GxR.TabG H T ∧ GxR.TabG H T1 ∧ GxR.TabG H T2 ∧ GxR.TabG H T3 ∧
  ((schemaD d1 = false ∧ XE0 E CB H) ∨ ∃ t, d1 = schD t ∧ litM t ∧ ((docD d2 = false ∧ XE0 E CD H) ∨ ∃ d : Doc, d2 = d.data ∧ d.ok ∧ ∀ H' x, Gr [] H H' → Dp K H' x (.tuple ((prs t.length (mvP t d)).map entD)) → Q x H'))
end LW
set_option maxHeartbeats 2000000
/-! sorted() of a list of pairs of states -/
namespace LW
open PySem PySem.Spec PyProof.Rows L2
def prK (p : Pr) : Int × Int := ((p.1 : Int), (p.2 : Int))
theorem lexB_prLt {p u : Pr} : SrtO.lexB (prK p) (prK u) = true ↔ prLt p u := by
  rw [SrtO.lexB_iff]; unfold prK prLt; simp only; omega
def rSortE (K : PySem.W.Frag) : List V → Hp → VK → Prop := fun vs H Q => ∃ (a : Addr) (xs : List V) (ps : List Pr), vs = [V.ref a] ∧ SqL K H a xs ∧ DpAll K H xs (ps.map entD) ∧
  ∀ (us : List Pr) (ys : List V) (p : Addr), us.Perm ps → us.Pairwise (fun r t => ¬ prLt t r) → DpAll K H ys (us.map entD) → H p = none → Q (.ref p) (upd H p (.lst ys))
theorem pr_split {K : PySem.W.Frag} {H : Hp} : ∀ {xs : List V} {ps : List Pr}, DpAll K H xs (ps.map entD) → ∀ (i : Nat) (r : Pr), ps[i]? = some r → ∃ t : Addr, xs[i]? = some (.ref t) ∧ SqT K H t [.int r.1, .int r.2]
  | _, [], _, i, r, e => by simp at e
  | _, r0 :: rs, h, i, r, e => by
    cases h with
    | cons h1 h2 =>
      cases i with
      | zero =>
        simp at e
        subst e
        obtain ⟨t, x, y, rfl, hs, d1, d2⟩ := dp_two h1
        cases d1; cases d2
        exact ⟨t, by simp, hs⟩
      | succ i =>
        obtain ⟨t, e1, e2⟩ := pr_split h2 i r (by simpa using e)
        exact ⟨t, by simpa using e1, e2⟩
def keyE (h : Heap) : Value → Int × Int
  | .ref a => match h.get? a with
    | some ⟨_, _, .seq arr _, _⟩ => match arr.toList with
      | [.int x _, .int y _] => (x, y)
      | _ => (0, 0)
    | _ => (0, 0)
  | _ => (0, 0)
theorem keyE_of {h : Heap} {v : Value} {i j : Int} (x : Srt.IsPair h v i j) : keyE h v = (i, j) := by
  obtain ⟨a, ⟨oc, od, dt, sl⟩, t, u, n, rfl, ho, hc, hd⟩ := x
  cases (show dt = _ from hd)
  unfold keyE
  simp only [ho]
def prOf (k : Int × Int) : Pr := (k.1.toNat, k.2.toNat)
theorem prOf_prK (r : Pr) : prOf (prK r) = r := by
  obtain ⟨a, b⟩ := r
  simp [prOf, prK]
section
variable {X : Cx}
theorem pair_raw {pins : List (Addr × Obj)} {σ : L2.St} {H : Hp} {s : Shared} (I : Inv X pins σ H s) {t : Addr} {r : Pr} (h : SqT X.K H t [.int r.1, .int r.2]) : Srt.IsPair s.heap (.ref t) (prK r).1 (prK r).2 := by
  obtain ⟨its, rv, pt, _⟩ := I.tuple h
  obtain ⟨o, ho, hc, n, hd⟩ := pt
  cases rv with
  | cons r1 rv => cases rv with
    | cons r2 rv =>
      cases rv
      obtain ⟨t1, rfl⟩ := r1
      obtain ⟨t2, rfl⟩ := r2
      exact ⟨t, o, t1, t2, n, rfl, ho, hc, hd⟩
theorem cr_sortE : CallR X (.builtin "sorted") (rSortE X.K) := by
  intro pins s σ H vs us Q I r h
  obtain ⟨a, xs, rs, rfl, hs, hd, q⟩ := h
  obtain ⟨its, rv, hl, hz⟩ := I.list hs
  obtain ⟨u, rfl, ru⟩ := vals1 r
  obtain rfl : u = Value.ref a := ru
  have lx := hd.length
  rw [List.length_map] at lx
  have lv := rv.length
  have each : ∀ (i : Nat) (v : Value), its[i]? = some v → ∃ (r : Pr) (t : Addr), rs[i]? = some r ∧ v = .ref t ∧ xs[i]? = some (.ref t) ∧ SqT X.K H t [.int r.1, .int r.2] ∧ Srt.IsPair s.heap v (prK r).1 (prK r).2 := fun i v hv => by
    have hi : i < rs.length := by have := (List.getElem?_eq_some_iff.mp hv).1; omega
    obtain ⟨t, e1, e2⟩ := pr_split hd i rs[i] (List.getElem?_eq_getElem hi)
    obtain ⟨v', e3, e4⟩ := rv.get e1
    rw [hv] at e3
    cases e3
    cases (show v = .ref t from e4)
    exact ⟨rs[i], t, List.getElem?_eq_getElem hi, rfl, e1, e2, pair_raw I e2⟩
  have eachM : ∀ v ∈ its, ∃ (r : Pr) (t : Addr), v = .ref t ∧ SqT X.K H t [.int r.1, .int r.2] ∧ Srt.IsPair s.heap v (prK r).1 (prK r).2 := fun v hv => by
    obtain ⟨i, hi⟩ := List.getElem?_of_mem hv
    obtain ⟨r, t, _, e, _, e2, e3⟩ := each i v hi
    exact ⟨r, t, e, e2, e3⟩
  have mapped : its.map (fun v => prOf (keyE s.heap v)) = rs := by
    refine List.ext_getElem? fun i => ?_
    rw [List.getElem?_map]
    cases hv : its[i]? with
    | none =>
      rw [List.getElem?_eq_none (by have := List.getElem?_eq_none_iff.mp hv; omega)]
      rfl
    | some v =>
      obtain ⟨r, t, e1, _, _, _, e3⟩ := each i v hv
      rw [e1, Option.map_some, keyE_of e3]
      exact congrArg some (prOf_prK r)
  have trips : ∀ v ∈ its, Srt.IsPair s.heap v (keyE s.heap v).1 (keyE s.heap v).2 := fun v hv => by
    obtain ⟨r, t, _, _, e3⟩ := eachM v hv
    rw [keyE_of e3]
    exact e3
  refine SrtO.sorted_pairsO (k := keyE s.heap) hl.isList (by rw [← lv]; exact hz) trips fun h' d out h1 h2 kp hd' hn => ?_
  have hperm := h2.perm
  have outM : ∀ v ∈ out, ∃ (r : Pr) (t : Addr), v = .ref t ∧ SqT X.K H t [.int r.1, .int r.2] ∧ Srt.IsPair s.heap v (prK r).1 (prK r).2 := fun v hv => eachM v (hperm.mem_iff.mp hv)
  obtain ⟨n, hn⟩ := hn
  have key : ∀ l : List Value, (∀ v ∈ l, ∃ (r : Pr) (t : Addr), v = .ref t ∧ SqT X.K H t [.int r.1, .int r.2] ∧ Srt.IsPair s.heap v (prK r).1 (prK r).2) → DpAll X.K H (l.map bkV) ((l.map fun v => prOf (keyE s.heap v)).map entD) ∧ Vals (l.map bkV) l := fun l => by
    induction l with
    | nil => exact fun _ => ⟨.nil, .nil⟩
    | cons v l ih =>
      intro hh
      obtain ⟨i1, i2⟩ := ih fun x hx => hh x (List.mem_cons_of_mem _ hx)
      obtain ⟨r, t, rfl, e2, e3⟩ := hh v (List.mem_cons_self ..)
      refine ⟨.cons ?_ i1, .cons rfl i2⟩
      show Dp X.K H (.ref t) (entD (prOf (keyE s.heap (.ref t))))
      rw [keyE_of e3, show prOf ((prK r).1, (prK r).2) = r from prOf_prK r]
      exact .tup e2 (.cons (.int _) (.cons (.int _) .nil))
  obtain ⟨k1, k2⟩ := key out outM
  have lo : out.length = its.length := hperm.length_eq
  refine ⟨.ref d, upd H d (.lst (out.map bkV)), I.laid (t' := s.toks) kp hd' ⟨?_, out, n, k2, hn⟩, rfl, q (out.map fun v => prOf (keyE s.heap v)) _ d ?_ ?_ k1 (I.hok.fresh hd')⟩
  · rw [List.length_map, lo, ← lv]; exact hz
  · rw [← mapped]; exact hperm.map _
  · rw [List.pairwise_map]
    refine List.Pairwise.imp_of_mem (fun {v u} hv hu hlt => ?_) h1
    obtain ⟨r1, t1, _, _, f1⟩ := outM v hv
    obtain ⟨r2, t2, _, _, f2⟩ := outM u hu
    have z : SrtO.lexB (keyE s.heap u) (keyE s.heap v) = false := hlt
    rw [keyE_of f1, keyE_of f2] at z ⊢
    rw [show prOf ((prK r1).1, (prK r1).2) = r1 from prOf_prK r1, show prOf ((prK r2).1, (prK r2).2) = r2 from prOf_prK r2]
    intro hlt2
    rw [show SrtO.lexB ((prK r2).1, (prK r2).2) ((prK r1).1, (prK r1).2) = true from lexB_prLt.mpr hlt2] at z
    cases z
end
/-- sorted without twins: rising -/
theorem sorted_rise {us : List Pr} (nd : us.Nodup) (h : us.Pairwise fun r t => ¬ prLt t r) : us.Pairwise prLt := by
  refine (List.Pairwise.and h (show us.Pairwise (· ≠ ·) from nd)).imp fun {r t} z => ?_
  obtain ⟨z1, z2⟩ := z
  obtain ⟨a, b⟩ := r
  obtain ⟨c, d⟩ := t
  unfold prLt at *
  simp only [ne_eq, Prod.mk.injEq] at z1 z2 ⊢
  omega
end LW
set_option maxHeartbeats 4000000
namespace LW
open PySem PySem.Spec PyProof.Rows L2
/-- turns over whatever is walked -/
theorem turnsW {J : It} {n : Nat} {G : Hp → Prop} {Y : Nat → Hp → V → Hp → Prop} {H1 : Hp} {Qd : Hp → Prop} {Go : (Hp → Prop) → V → Hp → Prop} (wk : Walk J n G Y) (Pv : Nat → Hp → Prop) (h0 : Pv 0 H1) (hG : ∀ i H, i ≤ n → Pv i H → G H)
    (hs : ∀ i x H H', i < n → Pv i H → Y i H x H' → Go (Pv (i + 1)) x H') (hd : ∀ H, Pv n H → Qd H) :
    ∃ W : Nat → Nat → Hp → Prop, (∃ m, W 0 m H1) ∧ ∀ i m H, W i m H → (J.stop i H ∧ Qd H) ∨ (J.go i H ∧ ∃ Nx : Hp → Prop, (∀ H', Nx H' → ∃ m', m' < m ∧ W (i + 1) m' H') ∧ ∀ x H', J.yld i H x H' → Go Nx x H') := by
  refine ⟨fun i m H => m = n - i ∧ i ≤ n ∧ Pv i H, ⟨_, rfl, Nat.zero_le _, h0⟩, ?_⟩
  rintro i m H ⟨rfl, le, p⟩
  have g := hG i H le p
  by_cases lt : i < n
  · exact .inr ⟨wk.goes i H lt g, Pv (i + 1), fun H' p' => ⟨n - (i + 1), by omega, rfl, lt, p'⟩, fun x H' y => hs i x H H' lt p (wk.yields i H x H' lt g y)⟩
  · obtain rfl : i = n := by omega
    exact .inl ⟨wk.stops H g, hd H p⟩
theorem st_app {p : L2.St → Hp → Prop} {σ σ' : L2.St} {H : Hp} (e : σ = σ') (h : p σ' H) : p σ H := by rw [e]; exact h
/-! meets of schemas -/
def allR (s : Sch) : List Rl := s.flatMap (·.2)
def cnt (s : Sch) (a : Nat) : Nat := (allR s).countP fun r => decide (r.1 = a)
def metN (s t : Sch) : Nat := ((List.range 5).map fun a => cnt s a * cnt t a).sum
def metRs (rs ts : List Rl) (m : Nat) : List Rl := rs.flatMap fun r => (ts.filter fun u => decide (r.1 = u.1)).map fun u => (r.1, r.2.1 * m + u.2.1, r.2.2 * m + u.2.2)
def pairsN (rs ts : List Rl) : Nat := (rs.map fun r => ts.countP fun u => decide (u.1 = r.1)).sum
theorem rulesFrom_snd : ∀ (s : Sch) (k : Nat), (rulesFrom k s).map (·.2) = allR s
  | [], _ => rfl
  | st :: s, k => by
    rw [rulesFrom, List.map_append, rulesFrom_snd s (k + 1), List.map_map]
    unfold allR
    rw [List.flatMap_cons]
    congr 1
    exact List.map_id' _ |>.symm ▸ (by simp)
theorem allR_len (s : Sch) : (allR s).length = nRl s := by
  unfold allR nRl
  rw [List.length_flatMap]
theorem metRs_len (rs ts : List Rl) (m : Nat) : (metRs rs ts m).length = pairsN rs ts := by
  unfold metRs pairsN
  rw [List.length_flatMap]
  refine congrArg List.sum (List.map_congr_left fun r _ => ?_)
  rw [List.length_map, ← List.countP_eq_length_filter]
  refine List.countP_congr fun u _ => ?_
  simp [eq_comm]
theorem pairs_app (a b ts : List Rl) : pairsN (a ++ b) ts = pairsN a ts + pairsN b ts := by unfold pairsN; rw [List.map_append, List.sum_append]
theorem sum_zero {α : Type} : ∀ l : List α, (l.map fun _ => (0 : Nat)).sum = 0
  | [] => rfl
  | x :: l => by rw [List.map_cons, List.sum_cons, sum_zero l]
theorem pairs_right (rs : List Rl) : ∀ t : Sch, ((t.map fun tt => pairsN rs tt.2).sum) = pairsN rs (allR t)
  | [] => by
    unfold allR pairsN
    simp only [List.map_nil, List.sum_nil, List.flatMap_nil, List.countP_nil]
    exact (sum_zero rs).symm
  | tt :: t => by
    rw [List.map_cons, List.sum_cons, pairs_right rs t]
    unfold allR
    rw [List.flatMap_cons]
    generalize t.flatMap (·.2) = b
    unfold pairsN
    induction rs with
    | nil => rfl
    | cons r rs ih => simp only [List.map_cons, List.sum_cons, List.countP_append] at ih ⊢; omega
theorem pairs_all (t : Sch) : ∀ s : Sch, ((s.flatMap fun st => t.map fun tt => pairsN st.2 tt.2).sum) = pairsN (allR s) (allR t)
  | [] => rfl
  | st :: s => by
    rw [List.flatMap_cons, List.sum_append, pairs_all t s, pairs_right]
    show _ = pairsN (st.2 ++ allR s) (allR t)
    rw [pairs_app]
theorem pairs_cnt (ts : List Rl) : ∀ rs : List Rl, (∀ r ∈ rs, r.1 < 5) → pairsN rs ts = ((List.range 5).map fun a => (rs.countP fun r => decide (r.1 = a)) * (ts.countP fun r => decide (r.1 = a))).sum
  | [], _ => by
    simp only [pairsN, List.map_nil, List.sum_nil, List.countP_nil, Nat.zero_mul]
    exact (sum_zero _).symm
  | r :: rs, h => by
    have ih := pairs_cnt ts rs fun x hx => h x (List.mem_cons_of_mem _ hx)
    have h0 := h r (List.mem_cons_self ..)
    show (ts.countP fun u => decide (u.1 = r.1)) + pairsN rs ts = _
    rw [ih]
    have h5 : List.range 5 = [0, 1, 2, 3, 4] := rfl
    rw [h5]
    have : r.1 = 0 ∨ r.1 = 1 ∨ r.1 = 2 ∨ r.1 = 3 ∨ r.1 = 4 := by omega
    rcases this with e | e | e | e | e <;> simp [e, List.countP_cons, Nat.add_mul] <;> omega
theorem metN_pairs {s t : Sch} (h : SchOk s) : metN s t = pairsN (allR s) (allR t) := by
  rw [pairs_cnt]
  · rfl
  · intro r hr
    obtain ⟨st, hst, hr⟩ := List.mem_flatMap.mp hr
    exact (h.rules st hst r hr).1
theorem pairs_le (ts : List Rl) : ∀ rs : List Rl, pairsN rs ts ≤ rs.length * ts.length
  | [] => by simp [pairsN]
  | r :: rs => by
    have := pairs_le ts rs
    have h2 : ts.countP (fun u => decide (u.1 = r.1)) ≤ ts.length := List.countP_le_length
    show (ts.countP fun u => decide (u.1 = r.1)) + pairsN rs ts ≤ _
    rw [List.length_cons, Nat.succ_mul]
    omega
def MetOk (s t V : Sch) : Prop := ∀ k u, V[k]? = some u → ∃ st tt, s[k / t.length]? = some st ∧ t[k % t.length]? = some tt ∧ u.1 = (st.1 && tt.1) ∧ u.2.Perm (metRs st.2 tt.2 t.length) ∧ u.2.Pairwise fun r t => ¬ rlLt t r
def lenM (t : Sch) (st : Bool × List Rl) (tt : Bool × List Rl) : Nat := pairsN st.2 tt.2
theorem div_at {n i j : Nat} (h : j < n) : (i * n + j) / n = i ∧ (i * n + j) % n = j := by
  have hn : 0 < n := by omega
  constructor
  · rw [Nat.mul_comm, Nat.mul_add_div hn, Nat.div_eq_of_lt h, Nat.add_zero]
  · rw [Nat.mul_comm, Nat.mul_add_mod, Nat.mod_eq_of_lt h]
theorem MetOk.snoc {s t V : Sch} {i j : Nat} {st tt : Bool × List Rl} {us : List Rl} (h : MetOk s t V) (hl : V.length = i * t.length + j) (e1 : s[i]? = some st) (e2 : t[j]? = some tt) (hp : us.Perm (metRs st.2 tt.2 t.length)) (hw : us.Pairwise fun r t => ¬ rlLt t r) : MetOk s t (V ++ [((st.1 && tt.1), us)]) := fun k u hu => by
  have hj := (List.getElem?_eq_some_iff.mp e2).1
  rcases Nat.lt_or_ge k V.length with hlt | hge
  · rw [List.getElem?_append_left hlt] at hu
    exact h k u hu
  · rw [List.getElem?_append_right hge] at hu
    have hk : k - V.length = 0 := by
      have := (List.getElem?_eq_some_iff.mp hu).1
      simp at this
      omega
    rw [hk] at hu
    cases hu
    obtain ⟨d1, d2⟩ := div_at (n := t.length) (i := i) hj
    have : k = i * t.length + j := by omega
    rw [this, d1, d2]
    exact ⟨st, tt, e1, e2, rfl, hp, hw⟩
theorem metRs_mem {rs ts : List Rl} {m : Nat} {x : Rl} : x ∈ metRs rs ts m ↔ ∃ r ∈ rs, ∃ u ∈ ts, r.1 = u.1 ∧ x = (r.1, r.2.1 * m + u.2.1, r.2.2 * m + u.2.2) := by
  unfold metRs
  rw [List.mem_flatMap]
  constructor
  · rintro ⟨r, hr, hx⟩
    obtain ⟨u, hu, rfl⟩ := List.mem_map.mp hx
    rw [List.mem_filter, decide_eq_true_eq] at hu
    exact ⟨r, hr, u, hu.1, hu.2, rfl⟩
  · rintro ⟨r, hr, u, hu, e, rfl⟩
    exact ⟨r, hr, List.mem_map.mpr ⟨u, List.mem_filter.mpr ⟨hu, decide_eq_true e⟩, rfl⟩⟩
theorem met_inj {m x v x' v' : Nat} (h1 : v < m) (h2 : v' < m) (e : x * m + v = x' * m + v') : x = x' ∧ v = v' := by
  obtain ⟨a1, a2⟩ := div_at (n := m) (i := x) h1
  obtain ⟨b1, b2⟩ := div_at (n := m) (i := x') h2
  rw [e] at a1 a2
  exact ⟨a1.symm.trans b1, a2.symm.trans b2⟩
theorem metRs_nodup {rs ts : List Rl} {m : Nat} (hr : rs.Nodup) (ht : ts.Nodup) (hm : ∀ u ∈ ts, u.2.1 < m ∧ u.2.2 < m) : (metRs rs ts m).Nodup := by
  unfold metRs List.Nodup
  rw [List.pairwise_flatMap]
  constructor
  · intro r _
    rw [List.pairwise_map]
    refine List.Pairwise.imp_of_mem (R := (· ≠ ·)) (fun {a b} ha hb n e => ?_) (ht.filter _)
    rw [List.mem_filter, decide_eq_true_eq] at ha hb
    simp only [Prod.mk.injEq] at e
    obtain ⟨b1, b2⟩ := hm a ha.1
    obtain ⟨c1, c2⟩ := hm b hb.1
    exact n (Prod.ext (ha.2.symm.trans hb.2) (Prod.ext (by omega) (by omega)))
  · refine hr.imp fun {r r'} n u hu v hv e => ?_
    obtain ⟨a, ha, rfl⟩ := List.mem_map.mp hu
    obtain ⟨b, hb, e'⟩ := List.mem_map.mp hv
    subst e'
    rw [List.mem_filter, decide_eq_true_eq] at ha hb
    simp only [Prod.mk.injEq] at e
    obtain ⟨b1, b2⟩ := hm a ha.1
    obtain ⟨c1, c2⟩ := hm b hb.1
    exact n (Prod.ext e.1 (Prod.ext (met_inj b1 c1 e.2.1).1 (met_inj b2 c2 e.2.2).1))
theorem pair_lt {x v a n : Nat} (h1 : x < a) (h2 : v < n) : x * n + v < a * n := by
  have := Nat.mul_le_mul_right n (show x + 1 ≤ a from h1)
  rw [Nat.succ_mul] at this
  omega
theorem met_ok {s t V : Sch} (h1 : SchOk s) (h2 : SchOk t) (hm : MetOk s t V) (hl : V.length = s.length * t.length) (hN : V.map (·.2.length) = s.flatMap fun st => t.map fun tt => pairsN st.2 tt.2) (h60 : s.length * t.length ≤ 60) (h2000 : metN s t ≤ 2000) : SchOk V := by
  have p1 := h1.pos
  have p2 := h2.pos
  have each : ∀ u ∈ V, ∃ st ∈ s, ∃ tt ∈ t, u.2.Perm (metRs st.2 tt.2 t.length) ∧ u.2.Pairwise fun r t => ¬ rlLt t r := fun u hu => by
    obtain ⟨k, hk⟩ := List.getElem?_of_mem hu
    obtain ⟨st, tt, e1, e2, _, hp, hw⟩ := hm k u hk
    exact ⟨st, List.mem_of_getElem? e1, tt, List.mem_of_getElem? e2, hp, hw⟩
  refine ⟨?_, by omega, fun u hu r hr => ?_, fun u hu => risL_of ?_, ?_⟩
  · rw [hl]
    exact Nat.mul_pos p1 p2
  · obtain ⟨st, hst, tt, htt, hp, _⟩ := each u hu
    obtain ⟨x, hx, y, hy, e, rfl⟩ := metRs_mem.mp (hp.mem_iff.mp hr)
    obtain ⟨a1, a2, a3⟩ := h1.rules st hst x hx
    obtain ⟨b1, b2, b3⟩ := h2.rules tt htt y hy
    rw [hl]
    exact ⟨a1, pair_lt a2 b2, pair_lt a3 b3⟩
  · obtain ⟨st, hst, tt, htt, hp, hw⟩ := each u hu
    exact nodup_pw hw (hp.nodup_iff.mpr (metRs_nodup (pw_nodup (h1.pw hst)) (pw_nodup (h2.pw htt)) fun y hy => (h2.rules tt htt y hy).2))
  · rw [hN, pairs_all, ← metN_pairs h1]
    exact h2000
theorem met_bit {s t V : Sch} (h1 : SchOk s) (h2 : SchOk t) (hm : MetOk s t V) (hl : V.length = s.length * t.length) : ∀ (d : Doc), d.lab = true → ∀ k, k < V.length → (setB V d).testBit k = ((setB s d).testBit (k / t.length) && (setB t d).testBit (k % t.length))
  | .nil, _, k, hk => by
    have e := List.getElem?_eq_getElem hk
    obtain ⟨st, tt, e1, e2, eu, _⟩ := hm k _ e
    rw [setB_nil e, setB_nil e1, setB_nil e2, eu]
  | .cons x kd rd, hlab, k, hk => by
    obtain ⟨⟨a, rfl, _⟩, hkd, hrd⟩ := lab_cons hlab
    have e := List.getElem?_eq_getElem hk
    obtain ⟨st, tt, e1, e2, _, hp, _⟩ := hm k _ e
    rw [setB_cons e, setB_cons e1, setB_cons e2, Bool.eq_iff_iff, Bool.and_eq_true, List.any_eq_true, List.any_eq_true, List.any_eq_true]
    have m1 := List.mem_of_getElem? e1
    have m2 := List.mem_of_getElem? e2
    have hn : 0 < t.length := h2.pos
    constructor
    · rintro ⟨y, hy, hh⟩
      obtain ⟨r, hr, u, hu, el, rfl⟩ := metRs_mem.mp (hp.mem_iff.mp hy)
      obtain ⟨a1, a2, a3⟩ := h1.rules st m1 r hr
      obtain ⟨b1, b2, b3⟩ := h2.rules tt m2 u hu
      simp only [hitD, Bool.and_eq_true, decide_eq_true_eq] at hh ⊢
      obtain ⟨h3, h4, h5⟩ := hh
      rw [met_bit h1 h2 hm hl kd hkd _ (by rw [hl]; exact pair_lt a2 b2), (div_at b2).1, (div_at b2).2, Bool.and_eq_true] at h4
      rw [met_bit h1 h2 hm hl rd hrd _ (by rw [hl]; exact pair_lt a3 b3), (div_at b3).1, (div_at b3).2, Bool.and_eq_true] at h5
      exact ⟨⟨r, hr, h3, h4.1, h5.1⟩, ⟨u, hu, el.symm.trans h3, h4.2, h5.2⟩⟩
    · rintro ⟨⟨r, hr, hh1⟩, ⟨u, hu, hh2⟩⟩
      obtain ⟨a1, a2, a3⟩ := h1.rules st m1 r hr
      obtain ⟨b1, b2, b3⟩ := h2.rules tt m2 u hu
      simp only [hitD, Bool.and_eq_true, decide_eq_true_eq] at hh1 hh2 ⊢
      obtain ⟨h3, h4, h5⟩ := hh1
      obtain ⟨h6, h7, h8⟩ := hh2
      refine ⟨_, hp.mem_iff.mpr (metRs_mem.mpr ⟨r, hr, u, hu, h3.trans h6.symm, rfl⟩), h3, ?_, ?_⟩
      · rw [met_bit h1 h2 hm hl kd hkd _ (by rw [hl]; exact pair_lt a2 b2), (div_at b2).1, (div_at b2).2, h4, h7]
        rfl
      · rw [met_bit h1 h2 hm hl rd hrd _ (by rw [hl]; exact pair_lt a3 b3), (div_at b3).1, (div_at b3).2, h5, h8]
        rfl
theorem met_bit0 {s t V : Sch} (h1 : SchOk s) (h2 : SchOk t) (hm : MetOk s t V) (hl : V.length = s.length * t.length) (d : Doc) (hd : d.lab = true) : (setB V d).testBit 0 = ((setB s d).testBit 0 && (setB t d).testBit 0) := by
  have := met_bit h1 h2 hm hl d hd 0 (by rw [hl]; exact Nat.mul_pos h1.pos h2.pos)
  rwa [Nat.zero_div, Nat.zero_mod] at this
def mayRef13 (s t : Sch) : Bool := decide (60 < s.length * t.length) || decide (2000 < nRl s * nRl t)
theorem met_may {s t : Sch} (h1 : SchOk s) (h : 60 < s.length * t.length ∨ 2000 < metN s t) : mayRef13 s t = true := by
  unfold mayRef13
  rw [Bool.or_eq_true, decide_eq_true_eq, decide_eq_true_eq]
  refine h.imp id fun h => ?_
  rw [metN_pairs h1] at h
  have := pairs_le (allR t) (allR s)
  rw [allR_len, allR_len] at this
  omega
theorem depth_list_le {ds : List PyData} {k : Nat} (h : ∀ d ∈ ds, d.depth ≤ k) : (PyData.list ds).depth ≤ k + 1 := by
  have := depthAll_le h
  simp only [PyData.depth]
  omega
theorem eqv_nat (a b : Nat) : PyData.eqv (.int (a : Int)) (.int (b : Int)) = decide (a = b) := by
  simp only [PyData.eqv]
  rw [Bool.eq_iff_iff]
  simp
  omega
theorem shaped_intL {ds : List PyData} (h : ∀ d ∈ ds, ∃ i : Int, d = .int i) : SeqAt.shaped (.list ds) = true := by
  unfold SeqAt.shaped
  have h1 : PyData.canLayAll0 ds = true := canAll_iff.mpr fun d hd => by obtain ⟨_, rfl⟩ := h d hd; rfl
  have h2 := depth_list_le (k := 0) (ds := ds) fun d hd => by obtain ⟨_, rfl⟩ := h d hd; exact Nat.le_refl _
  rw [decide_eq_true (show (PyData.list ds).depth ≤ 64 by omega)]
  simp only [PyData.canLay0, h1]
  rfl
theorem pairs_one_le {s t : Sch} (h1 : SchOk s) {st tt : Bool × List Rl} (hs : st ∈ s) (ht : tt ∈ t) : pairsN st.2 tt.2 ≤ metN s t := by
  rw [metN_pairs h1, ← pairs_all]
  exact sum_mem (List.mem_flatMap.mpr ⟨st, hs, List.mem_map.mpr ⟨tt, ht, rfl⟩⟩)
/-! promises -/
def spByLab (K : PySem.W.Frag) : Sp := fun vs H Q _ => ∃ (sv : V) (s : Sch), vs = [sv] ∧ Dp K H sv (schD s) ∧ SchOk s ∧ ∀ H' p, Gr [] H H' → H p = none → H' p = some (.lst (((List.range 5).map (cnt s)).map natV)) → Q (.ref p) H'
def spManyMet (K : PySem.W.Frag) : Sp := fun vs H Q _ => ∃ (sv tv : V) (s t : Sch), vs = [sv, tv] ∧ Dp K H sv (schD s) ∧ Dp K H tv (schD t) ∧ SchOk s ∧ SchOk t ∧ ∀ H', Gr [] H H' → Q (natV (metN s t)) H'
def spMetRules (K : PySem.W.Frag) : Sp := fun vs H Q _ => ∃ (v1 v2 : V) (rs ts : List Rl) (m : Nat), vs = [v1, v2, natV m] ∧ Dp K H v1 (.tuple (rs.map rlD)) ∧ Dp K H v2 (.tuple (ts.map rlD)) ∧ m ≤ 60 ∧ (metRs rs ts m).length ≤ 2000 ∧ rs.length ≤ 2000 ∧ ts.length ≤ 2000 ∧
  ∀ (us : List Rl) H' x, us.Perm (metRs rs ts m) → us.Pairwise (fun r t => ¬ rlLt t r) → Gr [] H H' → Dp K H' x (.tuple (us.map rlD)) → Q x H'
/-- a meet -/
structure Met (s t V : Sch) : Prop where
  ok : MetOk s t V
  len : V.length = s.length * t.length
  nr : V.map (·.2.length) = s.flatMap fun st => t.map fun tt => pairsN st.2 tt.2
def spMeet (K : PySem.W.Frag) (T1 T2 T3 CB CT : Addr) : Sp := fun vs H Q E => ∃ (v1 v2 : V) (d1 d2 : PyData), vs = [v1, v2] ∧ Dp K H v1 d1 ∧ Dp K H v2 d2 ∧ fewSc d1 ∧ fewSc d2 ∧ GxR.TabG H T1 ∧ GxR.TabG H T2 ∧ GxR.TabG H T3 ∧
  ((schemaD d1 = false ∧ XE0 E CB H) ∨ ∃ s, d1 = schD s ∧ SchOk s ∧ ((schemaD d2 = false ∧ XE0 E CB H) ∨ ∃ t, d2 = schD t ∧ SchOk t ∧
    ((60 < s.length * t.length ∨ 2000 < metN s t) → XE0 E CT H) ∧ (s.length * t.length ≤ 60 → metN s t ≤ 2000 → ∀ V H' x, Met s t V → Gr [] H H' → Dp K H' x (schD V) → Q x H')))
def spTold13 (K : PySem.W.Frag) (T1 T2 T3 : Addr) : Sp := fun vs H Q _ => ∃ (v1 v2 : V) (d1 d2 : PyData), vs = [v1, v2] ∧ Dp K H v1 d1 ∧ Dp K H v2 d2 ∧ fewSc d1 ∧ fewSc d2 ∧ GxR.TabG H T1 ∧ GxR.TabG H T2 ∧ GxR.TabG H T3 ∧
  ((schemaD d1 = false ∧ Told K Q H (refD "schema")) ∨ ∃ s, d1 = schD s ∧ SchOk s ∧ ((schemaD d2 = false ∧ Told K Q H (refD "schema")) ∨ ∃ t, d2 = schD t ∧ SchOk t ∧
    ((60 < s.length * t.length ∨ 2000 < metN s t) → Told K Q H (refD "much")) ∧ (s.length * t.length ≤ 60 → metN s t ≤ 2000 → ∀ V, Met s t V → Told K Q H (schD V))))
def spMayRef13 (K : PySem.W.Frag) : Sp := fun vs H Q _ => ∃ (sv tv : V) (s t : Sch), vs = [sv, tv] ∧ Dp K H sv (schD s) ∧ Dp K H tv (schD t) ∧ SchOk s ∧ SchOk t ∧ ∀ H', Gr [] H H' → Q (.bl (mayRef13 s t)) H'
end LW
set_option maxHeartbeats 2000000
namespace LW
open PySem PySem.Spec PyProof.Rows L2
/-! ### the law's own moves -/
def prsD (n : Nat) (P : Rel) : PyData := .tuple ((prs n P).map entD)
theorem dp_pr {K : PySem.W.Frag} {H : Hp} {v : V} {p : Pr} (h : Dp K H v (entD p)) : ∃ a, v = .ref a ∧ SqT K H a [natV p.1, natV p.2] := by
  obtain ⟨a, x, y, rfl, hs, h1, h2⟩ := dp_two h
  cases h1; cases h2
  exact ⟨a, rfl, hs⟩
def addPr (l : List Pr) (p : Pr) : List Pr := if p ∈ l then l else l ++ [p]
theorem addPr_nodup {ps : List Pr} {p : Pr} (h : ps.Nodup) : (addPr ps p).Nodup := by
  unfold addPr
  split
  · exact h
  · rename_i hn
    rw [List.nodup_append]
    exact ⟨h, by simp, fun a ha b hb e => by rw [List.mem_singleton.mp hb] at e; subst e; exact hn ha⟩
theorem addPr_mem {ps : List Pr} {p u : Pr} : u ∈ addPr ps p ↔ u ∈ ps ∨ u = p := by
  unfold addPr
  split
  · rename_i hm
    exact ⟨.inl, fun h => h.elim id fun e => by rw [e]; exact hm⟩
  · rw [List.mem_append, List.mem_singleton]
/-- a list of pairs to which those that a test lets are added -/
def addAll {α : Type} (ok : α → Bool) (pr : α → Pr) (xs : List α) (acc : List Pr) : List Pr := xs.foldl (fun acc x => if ok x = true then addPr acc (pr x) else acc) acc
theorem addAll_snoc {α : Type} (ok : α → Bool) (pr : α → Pr) (xs : List α) (x : α) (acc : List Pr) : addAll ok pr (xs ++ [x]) acc = if ok x = true then addPr (addAll ok pr xs acc) (pr x) else addAll ok pr xs acc := by
  unfold addAll; rw [List.foldl_append]; rfl
theorem addAll_take {α : Type} (ok : α → Bool) (pr : α → Pr) {xs : List α} {i : Nat} {x : α} (e : xs[i]? = some x) (acc : List Pr) : addAll ok pr (xs.take (i + 1)) acc = if ok x = true then addPr (addAll ok pr (xs.take i) acc) (pr x) else addAll ok pr (xs.take i) acc := by
  rw [List.take_add_one, e]; exact addAll_snoc ..
theorem addAll_ok {α : Type} (ok : α → Bool) (pr : α → Pr) : ∀ (xs : List α) (acc : List Pr), acc.Nodup → (addAll ok pr xs acc).Nodup ∧ ∀ u, u ∈ addAll ok pr xs acc ↔ u ∈ acc ∨ ∃ x ∈ xs, ok x = true ∧ u = pr x
  | [], acc, h => ⟨h, fun u => by simp [addAll]⟩
  | x :: xs, acc, h => by
    have e : addAll ok pr (x :: xs) acc = addAll ok pr xs (if ok x = true then addPr acc (pr x) else acc) := rfl
    rw [e]
    by_cases hx : ok x = true
    · rw [if_pos hx]
      obtain ⟨h1, h2⟩ := addAll_ok ok pr xs _ (addPr_nodup (p := pr x) h)
      refine ⟨h1, fun u => ?_⟩
      rw [h2, addPr_mem]
      constructor
      · rintro ((h | rfl) | ⟨y, hy, h⟩)
        · exact .inl h
        · exact .inr ⟨x, List.mem_cons_self .., hx, rfl⟩
        · exact .inr ⟨y, List.mem_cons_of_mem _ hy, h⟩
      · rintro (h | ⟨y, hy, h, rfl⟩)
        · exact .inl (.inl h)
        · rcases List.mem_cons.mp hy with rfl | hy
          · exact .inl (.inr rfl)
          · exact .inr ⟨y, hy, h, rfl⟩
    · rw [if_neg hx]
      obtain ⟨h1, h2⟩ := addAll_ok ok pr xs _ h
      refine ⟨h1, fun u => ?_⟩
      rw [h2]
      constructor
      · rintro (h | ⟨y, hy, h⟩)
        · exact .inl h
        · exact .inr ⟨y, List.mem_cons_of_mem _ hy, h⟩
      · rintro (h | ⟨y, hy, h, rfl⟩)
        · exact .inl h
        · rcases List.mem_cons.mp hy with rfl | hy
          · exact absurd h hx
          · exact .inr ⟨y, hy, h, rfl⟩
/-- joining -/
def joinL (bs : List Pr) (as : List Pr) (acc : List Pr) : List Pr := as.foldl (fun acc a => addAll (fun b : Pr => decide (b.1 = a.2)) (fun b => (a.1, b.2)) bs acc) acc
theorem joinL_take {bs as : List Pr} {i : Nat} {a : Pr} (e : as[i]? = some a) (acc : List Pr) : joinL bs (as.take (i + 1)) acc = addAll (fun b : Pr => decide (b.1 = a.2)) (fun b => (a.1, b.2)) bs (joinL bs (as.take i) acc) := by
  rw [List.take_add_one, e]; unfold joinL; rw [Option.toList_some, List.foldl_append]; rfl
theorem joinL_ok (bs : List Pr) : ∀ (as acc : List Pr), acc.Nodup → (joinL bs as acc).Nodup ∧ ∀ u, u ∈ joinL bs as acc ↔ u ∈ acc ∨ ∃ a ∈ as, ∃ b ∈ bs, b.1 = a.2 ∧ u = (a.1, b.2)
  | [], acc, h => ⟨h, fun u => by simp [joinL]⟩
  | a :: as, acc, h => by
    have e : joinL bs (a :: as) acc = joinL bs as (addAll (fun b : Pr => decide (b.1 = a.2)) (fun b => (a.1, b.2)) bs acc) := rfl
    obtain ⟨k1, k2⟩ := addAll_ok (fun b : Pr => decide (b.1 = a.2)) (fun b => (a.1, b.2)) bs acc h
    obtain ⟨h1, h2⟩ := joinL_ok bs as _ k1
    rw [e]
    refine ⟨h1, fun u => ?_⟩
    rw [h2, k2]
    constructor
    · rintro ((h | ⟨b, hb, h, rfl⟩) | ⟨a', ha, h⟩)
      · exact .inl h
      · exact .inr ⟨a, List.mem_cons_self .., b, hb, of_decide_eq_true h, rfl⟩
      · exact .inr ⟨a', List.mem_cons_of_mem _ ha, h⟩
    · rintro (h | ⟨a', ha, b, hb, h, rfl⟩)
      · exact .inl (.inl h)
      · rcases List.mem_cons.mp ha with rfl | ha
        · exact .inl (.inr ⟨b, hb, decide_eq_true h, rfl⟩)
        · exact .inr ⟨a', ha, b, hb, h, rfl⟩
theorem joinL_prs {n : Nat} {A B : Rel} {us : List Pr} (hp : us.Perm (joinL (prs n B) (prs n A) [])) (hw : us.Pairwise fun r t => ¬ prLt t r) : us = prs n (joinP n A B) := by
  obtain ⟨h1, h2⟩ := joinL_ok (prs n B) (prs n A) [] List.nodup_nil
  refine rise_prs (sorted_rise (hp.nodup_iff.mpr h1) hw) fun p => ?_
  rw [hp.mem_iff, h2]
  constructor
  · rintro (h | ⟨a, ha, b, hb, e, rfl⟩)
    · cases h
    · obtain ⟨a1, a2, a3⟩ := prs_mem.mp ha
      obtain ⟨b1, b2, b3⟩ := prs_mem.mp hb
      exact ⟨a1, b2, joinP_iff.mpr ⟨a.2, a2, a3, by rw [← e]; exact b3⟩⟩
  · rintro ⟨p1, p2, h⟩
    obtain ⟨z, hz, ha, hb⟩ := joinP_iff.mp h
    exact .inr ⟨(p.1, z), prs_mem.mpr ⟨p1, hz, ha⟩, (z, p.2), prs_mem.mpr ⟨hz, p2, hb⟩, rfl, rfl⟩
theorem joinL_small {n : Nat} {A B : Rel} (h0 : 0 < n) (h31 : n ≤ 31) (i : Nat) : okPrs n (joinL (prs n B) ((prs n A).take i) []) := by
  obtain ⟨h1, h2⟩ := joinL_ok (prs n B) ((prs n A).take i) [] List.nodup_nil
  refine ⟨h0, h31, h1, fun p hp => ?_⟩
  rcases (h2 p).mp hp with h | ⟨a, ha, b, hb, e, rfl⟩
  · cases h
  · exact ⟨(prs_mem.mp (List.mem_of_mem_take ha)).1, (prs_mem.mp hb).2.1⟩
theorem addAll_small {α : Type} {ok : α → Bool} {pr : α → Pr} {xs : List α} {acc : List Pr} {n : Nat} (h : okPrs n acc) (hx : ∀ x ∈ xs, ok x = true → (pr x).1 < n ∧ (pr x).2 < n) (j : Nat) : okPrs n (addAll ok pr (xs.take j) acc) := by
  obtain ⟨h1, h2⟩ := addAll_ok ok pr (xs.take j) acc h.2.2.1
  refine ⟨h.1, h.2.1, h1, fun p hp => ?_⟩
  rcases (h2 p).mp hp with h' | ⟨x, hx', e, rfl⟩
  · exact h.2.2.2 p h'
  · exact hx x (List.mem_of_mem_take hx') e
theorem okPrs_nil {n : Nat} (h0 : 0 < n) (h : n ≤ 31) : okPrs n [] := ⟨h0, h, List.nodup_nil, fun p h => by cases h⟩
theorem okPrs_few {n : Nat} {ps : List Pr} (h : okPrs n ps) : ps.length ≤ 961 := by
  have h1 := okPrs_len h
  have h2 : n * n ≤ 31 * 31 := Nat.mul_le_mul h.2.1 h.2.1
  omega
/-! one tree -/
def treeL (al : Nat → Bool) (a : Nat) (t : Sch) (m : Nat) : List Pr := (List.range m).foldl (fun acc q => addAll (fun r : Rl => decide (r.1 = a) && al r.2.1) (fun r => (q, r.2.2)) ((t.getD q (false, [])).2) acc) []
theorem treeL_succ (al : Nat → Bool) (a : Nat) (t : Sch) (m : Nat) {st : Bool × List Rl} (e : t[m]? = some st) : treeL al a t (m + 1) = addAll (fun r : Rl => decide (r.1 = a) && al r.2.1) (fun r => (m, r.2.2)) st.2 (treeL al a t m) := by
  unfold treeL
  rw [List.range_succ, List.foldl_append]
  show addAll _ _ ((t.getD m (false, [])).2) _ = _
  rw [List.getD_eq_getElem?_getD, e]; rfl
theorem treeL_ok (al : Nat → Bool) (a : Nat) (t : Sch) : ∀ m, m ≤ t.length → (treeL al a t m).Nodup ∧ ∀ u, u ∈ treeL al a t m ↔ u.1 < m ∧ ∃ st, t[u.1]? = some st ∧ ∃ r ∈ st.2, r.1 = a ∧ r.2.2 = u.2 ∧ al r.2.1 = true
  | 0, _ => ⟨List.nodup_nil, fun u => by simp [treeL]⟩
  | m + 1, hm => by
    obtain ⟨h1, h2⟩ := treeL_ok al a t m (by omega)
    have e : t[m]? = some t[m] := List.getElem?_eq_getElem (by omega)
    rw [treeL_succ al a t m e]
    obtain ⟨k1, k2⟩ := addAll_ok (fun r : Rl => decide (r.1 = a) && al r.2.1) (fun r => (m, r.2.2)) (t[m]).2 _ h1
    refine ⟨k1, fun u => ?_⟩
    rw [k2, h2]
    constructor
    · rintro (⟨h, st, e1, r, hr, h3⟩ | ⟨r, hr, h, rfl⟩)
      · exact ⟨by omega, st, e1, r, hr, h3⟩
      · rw [Bool.and_eq_true, decide_eq_true_eq] at h
        exact ⟨by show m < m + 1; omega, t[m], e, r, hr, h.1, rfl, h.2⟩
    · rintro ⟨h, st, e1, r, hr, h3, h4, h5⟩
      by_cases hu : u.1 = m
      · right
        rw [hu, e] at e1
        cases e1
        refine ⟨r, hr, by rw [Bool.and_eq_true, decide_eq_true_eq]; exact ⟨h3, h5⟩, ?_⟩
        rw [← hu, h4]
      · exact .inl ⟨by omega, st, e1, r, hr, h3, h4, h5⟩
theorem treeL_small {t : Sch} (h : SchOk t) (h31 : t.length ≤ 31) (al : Nat → Bool) (a : Nat) {m : Nat} (hm : m ≤ t.length) : okPrs t.length (treeL al a t m) := by
  obtain ⟨h1, h2⟩ := treeL_ok al a t m hm
  refine ⟨h.pos, h31, h1, fun p hp => ?_⟩
  obtain ⟨e1, st, e2, r, hr, e3, e4, e5⟩ := (h2 p).mp hp
  refine ⟨by omega, ?_⟩
  rw [← e4]
  exact (h.rules st (List.mem_of_getElem? e2) r hr).2.2
theorem treeL_prs {t : Sch} (h : SchOk t) {al : Nat → Bool} {a X : Nat} (hal : ∀ x, x < t.length → al x = allowN t x X) {us : List Pr} (hp : us.Perm (treeL al a t t.length)) (hw : us.Pairwise fun r t => ¬ prLt t r) : us = prs t.length (bitP t.length (treeN t a X)) := by
  obtain ⟨h1, h2⟩ := treeL_ok al a t t.length (Nat.le_refl _)
  refine rise_prs (sorted_rise (hp.nodup_iff.mpr h1) hw) fun p => ?_
  rw [hp.mem_iff, h2, tree_bit h, decide_eq_true_eq, tpairs_mem h]
  constructor
  · rintro ⟨e1, st, e2, r, hr, e3, e4, e5⟩
    have hb := h.rules st (List.mem_of_getElem? e2) r hr
    exact ⟨e1, by rw [← e4]; exact hb.2.2, st, e2, r, hr, e3, e4, by rw [← hal _ hb.2.1]; exact e5⟩
  · rintro ⟨e1, _, st, e2, r, hr, e3, e4, e5⟩
    have hb := h.rules st (List.mem_of_getElem? e2) r hr
    exact ⟨e1, st, e2, r, hr, e3, e4, by rw [hal _ hb.2.1]; exact e5⟩
/-- the first ones of the pairs whose second one ends -/
def goodL (t : Sch) (ps : List Pr) : List Nat := (ps.filter fun p => (t.getD p.2 (false, [])).1).map (·.1)
theorem goodL_al {t : Sch} {X x : Nat} (hx : x < t.length) : (goodL t (prs t.length (bitP t.length X))).contains x = allowN t x X := by
  rw [Bool.eq_iff_iff, List.contains_iff_mem, allowN_iff]
  unfold goodL
  rw [List.mem_map]
  constructor
  · rintro ⟨p, hp, rfl⟩
    obtain ⟨hp, he⟩ := List.mem_filter.mp hp
    obtain ⟨p1, p2, p3⟩ := prs_mem.mp hp
    have e : t[p.2]? = some t[p.2] := List.getElem?_eq_getElem p2
    rw [List.getD_eq_getElem?_getD, e] at he
    unfold bitP at p3
    rw [Bool.and_eq_true, Bool.and_eq_true] at p3
    exact ⟨p.2, t[p.2], p2, p3.2, e, he⟩
  · rintro ⟨r, s, hr, hb, e, hs⟩
    refine ⟨(x, r), List.mem_filter.mpr ⟨prs_mem.mpr ⟨hx, hr, ?_⟩, ?_⟩, rfl⟩
    · unfold bitP; simp [hx, hr, hb]
    · show ((t.getD r (false, [])).1) = true
      rw [List.getD_eq_getElem?_getD, e]; exact hs
theorem prs_id (n : Nat) : prs n (idP n) = (List.range n).map fun q => (q, q) := by
  symm
  refine rise_prs ?_ fun p => ?_
  · rw [List.pairwise_map]
    exact (range_rise n).imp fun h => .inl h
  · rw [List.mem_map]
    constructor
    · rintro ⟨q, hq, rfl⟩
      have := List.mem_range.mp hq
      exact ⟨this, this, idP_iff.mpr ⟨rfl, this⟩⟩
    · rintro ⟨h1, _, h⟩
      obtain ⟨e, _⟩ := idP_iff.mp h
      exact ⟨p.1, List.mem_range.mpr h1, Prod.ext rfl e⟩
theorem Doc.tk_zero (d : Doc) : d.tk 0 = .nil := by cases d <;> rfl
theorem Doc.tk_snoc : ∀ (i : Nat) (d : Doc) (a : Int) (k : Doc), d.at i = some (a, k) → d.tk (i + 1) = (d.tk i).app (.cons a k .nil)
  | _, .nil, _, _, h => by simp [Doc.at] at h
  | 0, .cons b l r, a, k, h => by
    simp only [Doc.at, Option.some.injEq, Prod.mk.injEq] at h
    obtain ⟨rfl, rfl⟩ := h
    show Doc.cons _ _ (r.tk 0) = _
    rw [Doc.tk_zero]; rfl
  | i + 1, .cons b l r, a, k, h => by
    have h1 := Doc.tk_snoc i r a k h
    have e1 : (Doc.cons b l r).tk (i + 1 + 1) = .cons b l (r.tk (i + 1)) := rfl
    have e2 : (Doc.cons b l r).tk (i + 1) = .cons b l (r.tk i) := rfl
    rw [e1, e2, h1]; rfl
/-! the law's words -/
def spLStay (K : PySem.W.Frag) : Sp := fun vs H Q _ => ∃ (v : V) (t : Sch), vs = [v] ∧ Dp K H v (schD t) ∧ litM t ∧ ∀ H' x, Gr [] H H' → Dp K H' x (prsD t.length (idP t.length)) → Q x H'
def spLJoin (K : PySem.W.Frag) : Sp := fun vs H Q _ => ∃ (v1 v2 : V) (n : Nat) (A B : Rel), vs = [v1, v2] ∧ Dp K H v1 (prsD n A) ∧ Dp K H v2 (prsD n B) ∧ 0 < n ∧ n ≤ 31 ∧ ∀ H' x, Gr [] H H' → Dp K H' x (prsD n (joinP n A B)) → Q x H'
def spLTreeM (K : PySem.W.Frag) : Sp := fun vs H Q _ => ∃ (v1 v2 : V) (t : Sch) (a X : Nat), vs = [v1, natV a, v2] ∧ Dp K H v1 (schD t) ∧ litM t ∧ Dp K H v2 (prsD t.length (bitP t.length X)) ∧ ∀ H' x, Gr [] H H' → Dp K H' x (prsD t.length (bitP t.length (treeN t a X))) → Q x H'
def spLMove (K : PySem.W.Frag) (k : Nat) : Sp := fun vs H Q _ => ∃ (v1 v2 : V) (t : Sch) (d : Doc), vs = [v1, v2] ∧ Dp K H v1 (schD t) ∧ litM t ∧ Dp K H v2 d.data ∧ d.lab = true ∧ d.dep < k ∧ ∀ H' x, Gr [] H H' → Dp K H' x (prsD t.length (mvP t d)) → Q x H'
/-- telling -/
def spTold18 (K : PySem.W.Frag) (T T1 T2 T3 : Addr) : Sp := fun vs H Q _ => ∃ (v1 v2 : V) (d1 d2 : PyData), vs = [v1, v2] ∧ Dp K H v1 d1 ∧ Dp K H v2 d2 ∧ fewSc d1 ∧ GxR.TabG H T ∧ GxR.TabG H T1 ∧ GxR.TabG H T2 ∧ GxR.TabG H T3 ∧
  ((schemaD d1 = false ∧ Told K Q H (refD "schema")) ∨ ∃ t, d1 = schD t ∧ litM t ∧ ((docD d2 = false ∧ Told K Q H (refD "document")) ∨ ∃ d : Doc, d2 = d.data ∧ d.ok ∧ Told K Q H (prsD t.length (mvP t d))))
theorem pure_prsD (n : Nat) (P : Rel) : pure1 (prsD n P) = true := pure_entD _
theorem eqv_ent (p u : Pr) : PyData.eqv (entD p) (entD u) = decide (p = u) := by
  obtain ⟨a, b⟩ := p
  obtain ⟨c, d⟩ := u
  have e : PyData.eqv (entD (a, b)) (entD (c, d)) = (PyData.eqv (.int (a : Int)) (.int (c : Int)) && (PyData.eqv (.int (b : Int)) (.int (d : Int)) && true)) := rfl
  rw [e, eqv_nat, eqv_nat, Bool.and_true, Bool.eq_iff_iff]
  simp
theorem any_ent (r : Pr) : ∀ rs : List Pr, ((rs.map entD).any fun z => PyData.eqv z (entD r)) = decide (r ∈ rs)
  | [] => rfl
  | t :: rs => by
    rw [List.map_cons, List.any_cons, any_ent r rs, eqv_ent]
    by_cases h : t = r
    · subst h; simp
    · rw [decide_eq_false h, Bool.false_or]
      by_cases h2 : r ∈ rs
      · rw [decide_eq_true h2, decide_eq_true (List.mem_cons_of_mem _ h2)]
      · rw [decide_eq_false h2, decide_eq_false (by rw [List.mem_cons, not_or]; exact ⟨fun z => h z.symm, h2⟩)]
theorem shaped_ent (r : Pr) : SeqAt.shaped (entD r) = true := by
  unfold SeqAt.shaped entD
  simp [PyData.canLay0, PyData.canLayAll0, PyData.depth, PyData.depthAll]
theorem lay_ents : ∀ rs : List Pr, PyData.canLayAll0 (rs.map entD) = true
  | [] => rfl
  | r :: rs => by simp [PyData.canLayAll0, PyData.canLay0, entD, lay_ents rs]
theorem depth_ents : ∀ rs : List Pr, PyData.depthAll (rs.map entD) ≤ 1
  | [] => by simp [PyData.depthAll]
  | r :: rs => by
    have := depth_ents rs
    simp only [List.map_cons, PyData.depthAll, entD, PyData.depth] at this ⊢
    omega
theorem shaped_ents (rs : List Pr) : SeqAt.shaped (.list (rs.map entD)) = true := by
  have := depth_ents rs
  unfold SeqAt.shaped
  rw [PyData.canLay0, lay_ents, PyData.depth, Bool.true_and]
  exact decide_eq_true (by omega)
theorem shaped_prsD (n : Nat) (P : Rel) : SeqAt.shaped (prsD n P) = true := by
  have := depth_ents (prs n P)
  unfold SeqAt.shaped prsD
  rw [PyData.canLay0, lay_ents, PyData.depth, Bool.true_and]
  exact decide_eq_true (by omega)
end LW
set_option maxHeartbeats 2000000
namespace LW
open PySem PySem.Spec PyProof.Rows L2
mutual
theorem eqv_pure : ∀ d : PyData, pure1 d = true → PyData.eqv d d = true
  | .none, _ => by simp [PyData.eqv]
  | .bool b, _ => by simp [PyData.eqv]
  | .int i, _ => by simp [PyData.eqv]
  | .str x, _ => by simp [PyData.eqv]
  | .list ds, h => by simp [pure1] at h
  | .tuple ds, h => by
    have h' : pureAll ds = true := h
    simp only [PyData.eqv]
    exact eqvAll_pure ds h'
  | .dict _, h => by simp [pure1] at h
theorem eqvAll_pure : ∀ ds : List PyData, pureAll ds = true → PyData.eqvAll ds ds = true
  | [], _ => by simp [PyData.eqvAll]
  | d :: ds, h => by
    simp only [pureAll, Bool.and_eq_true] at h
    simp [PyData.eqvAll, eqv_pure d h.1, eqvAll_pure ds h.2]
end
def natsL (ns : List Nat) : List PyData := ns.map fun n : Nat => .int (n : Int)
theorem dpNats {K : PySem.W.Frag} {H : Hp} : ∀ ns : List Nat, DpAll K H (ns.map natV) (natsL ns)
  | [] => .nil
  | _ :: ns => .cons (.int _) (dpNats ns)
theorem pure_nats : ∀ ns : List Nat, pureAll (natsL ns) = true
  | [] => rfl
  | _ :: ns => pure_nats ns
theorem fine_nats {ns : List Nat} {m : Nat} (h : ∀ n ∈ ns, n < 1000) (hl : ns.length ≤ m) : Fine (.tuple (natsL ns)) 1 m := by
  have := Fine.tup (ds := natsL ns) (k := 0) (b := 0) (n := m) (fun d hd => by
    obtain ⟨n, hn, rfl⟩ := List.mem_map.mp hd
    exact Fine.nat (h n hn)) (by unfold natsL; rw [List.length_map]; exact hl)
  exact this.mono (by omega) (by omega)
theorem fine_ent {p : Pr} (h : p.1 < 1000 ∧ p.2 < 1000) : Fine (entD p) 1 2 := by
  have := Fine.tup (ds := [.int (p.1 : Int), .int (p.2 : Int)]) (k := 0) (b := 0) (n := 2) (fun d hd => by
    simp only [List.mem_cons, List.not_mem_nil, or_false] at hd
    rcases hd with rfl | rfl
    · exact Fine.nat h.1
    · exact Fine.nat h.2) (by simp)
  exact this.mono (by omega) (by omega)
theorem fine_prsD {n : Nat} (P : Rel) (h : n ≤ 31) : Fine (prsD n P) 2 2883 := by
  have hl := prs_len n P
  have h2 : n * n ≤ 31 * 31 := Nat.mul_le_mul h h
  have := Fine.tup (ds := (prs n P).map entD) (k := 1) (b := 2) (n := 961) (fun d hd => by
    obtain ⟨p, hp, rfl⟩ := List.mem_map.mp hd
    have := prs_mem.mp hp
    exact fine_ent ⟨by omega, by omega⟩) (by rw [List.length_map]; omega)
  exact this
theorem shaped_document : SeqAt.shaped (refD "document") = true := by
  unfold SeqAt.shaped refD
  simp [PyData.canLay0, PyData.canLayAll0, PyData.depth, PyData.depthAll, PyData.strOk]
  decide
def hitM (t : Sch) (q : Nat) (p : Pr) : Bool := decide (p.1 = q) && (t.getD p.2 (false, [])).1
theorem hit_empty {t : Sch} (h : SchOk t) {d : Doc} (hd : d.lab = true) {q : Nat} : ((prs t.length (mvP t d)).filter (hitM t q)).isEmpty = !(setB t d).testBit q := by
  rw [Bool.eq_iff_iff, Bool.not_eq_true', List.isEmpty_iff, List.filter_eq_nil_iff, Bool.eq_false_iff, ne_eq, mvP_allows h d hd q]
  constructor
  · rintro z ⟨r, s, hm, e, hs⟩
    have hb := bitP_lt (n := t.length) (x := mvN t d) hm
    refine z (q, r) (prs_mem.mpr ⟨hb.1, hb.2, hm⟩) ?_
    unfold hitM
    show (decide (q = q) && (t.getD r (false, [])).1) = true
    rw [List.getD_eq_getElem?_getD, e, decide_eq_true rfl]; exact hs
  · intro z p hp hh
    obtain ⟨p1, p2, p3⟩ := prs_mem.mp hp
    unfold hitM at hh
    rw [Bool.and_eq_true, decide_eq_true_eq] at hh
    have e : t[p.2]? = some t[p.2] := List.getElem?_eq_getElem p2
    have hs := hh.2
    rw [List.getD_eq_getElem?_getD, e] at hs
    exact z ⟨p.2, t[p.2], by rw [← hh.1]; exact p3, e, hs⟩
/-- what the law keeps of a document -/
def foundD (t : Sch) (e : Doc) : PyData := .tuple [e.data, prsD t.length (mvP t e)]
theorem pure_foundD (t : Sch) (e : Doc) : pure1 (foundD t e) = true := by
  show pureAll [e.data, prsD t.length (mvP t e)] = true
  rw [pureAll, pureAll, pure_data e, pure_prsD]; rfl
theorem pure_founds (t : Sch) (es : List Doc) : pureAll (es.map (foundD t)) = true := pureAll_iff.mpr fun d hd => by
  obtain ⟨e, _, rfl⟩ := List.mem_map.mp hd
  exact pure_foundD t e
/-- a list that is older than the box's writing grows -/
theorem lst_put {K : PySem.W.Frag} {H : Hp} {fl : Addr} {zs : List V} {ds : List PyData} {x : V} {d : PyData} (hD : H fl = some (.lst zs)) (hz : DpAll K H zs ds) (hp : pureAll ds = true) (hx : Dp K H x d) (hd : pure1 d = true) :
    Gr [fl] H (upd H fl (.lst (zs ++ [x]))) ∧ (∀ b ∈ [fl], ∃ ys, H b = some (.lst ys)) ∧ DpAll K (upd H fl (.lst (zs ++ [x]))) (zs ++ [x]) (ds ++ [d]) := by
  have gw : Gr [fl] H (upd H fl (.lst (zs ++ [x]))) := Gr.put hD (fun _ z => by cases z) (by simp)
  have wl : ∀ b ∈ [fl], ∃ ys, H b = some (.lst ys) := fun b hb => by rw [List.mem_singleton.mp hb]; exact ⟨_, hD⟩
  exact ⟨gw, wl, DpAll.append (dpAll_grm gw wl _ _ hp hz) (.cons (dp_grm gw wl _ _ hd hx) .nil)⟩
/-- the scope of a comprehension -/
def lcScope : Expr → Scope
  | .ListComp _ _ sc _ => sc
  | .GeneratorExp _ _ sc _ => sc
  | _ => defScope (.Pass ⟨0, 0, 0, 0⟩)
def noE : Expr := .ListComp (.Name "" ⟨0, 0, 0, 0⟩) [] { kind := .function, names := [], isGenerator := false, isCoroutine := false } ⟨0, 0, 0, 0⟩
def noS : Stmt := .Pass ⟨0, 0, 0, 0⟩
def inBody : Stmt → Nat → Stmt
  | .FunctionDef _ _ b _ _ _ _ _ _ _, i => b.getD i noS
  | .For _ _ b _ _, i => b.getD i noS
  | .If _ b _ _, i => b.getD i noS
  | .While _ b _ _, i => b.getD i noS
  | _, _ => noS
def ifTest : Stmt → Expr
  | .If t _ _ _ => t
  | .Return (some e) _ => e
  | .Assign _ e _ => e
  | _ => noE
def cmpRight : Expr → Expr
  | .Compare _ _ cs _ => cs.getD 0 noE
  | _ => noE
def cmpLeft : Expr → Expr
  | .Compare l _ _ _ => l
  | _ => noE
def argE : Expr → Nat → Expr
  | .Call _ as _ _, i => as.getD i noE
  | _, _ => noE
end LW
set_option maxHeartbeats 2000000
namespace LW
open PySem PySem.Spec PyProof.Rows L2
/-! ### what is a transformation, for any data -/
def isStr (d : PyData) (x : Str) : Bool := match d with
  | .str y => decide (y = x)
  | _ => false
theorem beq_dec (x y : Str) : (x == y) = decide (x = y) := by
  rw [Bool.eq_iff_iff, beq_iff_eq, decide_eq_true_eq]
theorem eqv_str (d : PyData) (x : Str) : PyData.eqv d (.str x) = isStr d x := by
  cases d with
  | str y => simp only [PyData.eqv, isStr]; exact beq_dec y x
  | _ => simp [PyData.eqv, isStr]
mutual
def tmF : PyData → Nat → Bool → Nat → Bool
  | .tuple ps, n, mf, lv => decide (lv ≤ 10) && tmAll ps n mf lv
  | _, _, _, _ => false
def tmP : PyData → Nat → Bool → Nat → Bool
  | .tuple [w, b, t], n, mf, lv => (isStr w "node" && belowD b 5) && tmF t n mf (lv + 1)
  | .tuple [w, q], n, mf, _ => mf && ((isStr w "in" || isStr w "next") && belowD q n)
  | _, _, _, _ => false
def tmAll : List PyData → Nat → Bool → Nat → Bool
  | [], _, _, _ => true
  | p :: ps, n, mf, lv => tmP p n mf lv && tmAll ps n mf lv
end
mutual
def tmSz : PyData → Nat
  | .tuple ps => tmSzA ps
  | _ => 0
def tmSzP : PyData → Nat
  | .tuple [_, _, t] => 1 + tmSz t
  | _ => 1
def tmSzA : List PyData → Nat
  | [] => 0
  | p :: ps => tmSzP p + tmSzA ps
end
mutual
def tmNd : PyData → Nat
  | .tuple ps => 1 + tmNdA ps
  | _ => 1
def tmNdP : PyData → Nat
  | .tuple [_, _, t] => 1 + tmNd t
  | _ => 1
def tmNdA : List PyData → Nat
  | [] => 0
  | p :: ps => tmNdP p + tmNdA ps
end
def partD (p : PyData) (n : Nat) (mf : Bool) : Bool := match p with
  | .tuple [w, b, _] => isStr w "node" && belowD b 5
  | .tuple [w, q] => mf && ((isStr w "in" || isStr w "next") && belowD q n)
  | _ => false
def tmKid : PyData → Option PyData
  | .tuple [_, _, t] => some t
  | _ => none
/-- the first of a part is "node" -/
def isNode : PyData → Bool
  | .tuple [_, _, _] => true
  | _ => false
theorem partD_shape {p : PyData} {n : Nat} {mf : Bool} (h : partD p n mf = true) : (∃ (b : Int) (t : PyData), p = .tuple [.str "node", .int b, t] ∧ 0 ≤ b ∧ b < 5) ∨ (mf = true ∧ ∃ (w : Str) (q : Int), p = .tuple [.str w, .int q] ∧ (w = "in" ∨ w = "next") ∧ 0 ≤ q ∧ q < n) := by
  unfold partD at h
  split at h
  · rename_i w b t
    rw [Bool.and_eq_true] at h
    obtain ⟨i, rfl, h0, h5⟩ := belowD_int h.2
    left
    cases w with
    | str y => have e := of_decide_eq_true h.1; subst e; exact ⟨i, t, rfl, h0, h5⟩
    | _ => exact absurd h.1 (by simp [isStr])
  · rename_i w q
    rw [Bool.and_eq_true, Bool.and_eq_true, Bool.or_eq_true] at h
    obtain ⟨i, rfl, h0, h5⟩ := belowD_int h.2.2
    right
    refine ⟨h.1, ?_⟩
    cases w with
    | str y =>
      refine ⟨y, i, rfl, ?_, h0, h5⟩
      rcases h.2.1 with z | z
      · exact .inl (of_decide_eq_true z)
      · exact .inr (of_decide_eq_true z)
    | _ => exact absurd h.2.1 (by simp [isStr])
  · cases h
theorem tmP_of {p : PyData} {n : Nat} {mf : Bool} {lv : Nat} : tmP p n mf lv = (partD p n mf && (match tmKid p with | some t => tmF t n mf (lv + 1) | none => true)) := by
  match p with
  | .tuple [w, b, t] => simp only [tmP, partD, tmKid]
  | .tuple [w, q] => simp only [tmP, partD, tmKid, Bool.and_true]
  | .tuple [] => simp [tmP, partD]
  | .tuple [_] => simp [tmP, partD]
  | .tuple (_ :: _ :: _ :: _ :: _) => simp [tmP, partD]
  | .none => simp [tmP, partD]
  | .bool _ => simp [tmP, partD]
  | .int _ => simp [tmP, partD]
  | .str _ => simp [tmP, partD]
  | .list _ => simp [tmP, partD]
  | .dict _ => simp [tmP, partD]
theorem tmSzP_of (p : PyData) : tmSzP p = 1 + (match tmKid p with | some t => tmSz t | none => 0) := by
  match p with
  | .tuple [w, b, t] => simp only [tmSzP, tmKid]
  | .tuple [w, q] => simp [tmSzP, tmKid]
  | .tuple [] => simp [tmSzP, tmKid]
  | .tuple [_] => simp [tmSzP, tmKid]
  | .tuple (_ :: _ :: _ :: _ :: _) => simp [tmSzP, tmKid]
  | .none => simp [tmSzP, tmKid]
  | .bool _ => simp [tmSzP, tmKid]
  | .int _ => simp [tmSzP, tmKid]
  | .str _ => simp [tmSzP, tmKid]
  | .list _ => simp [tmSzP, tmKid]
  | .dict _ => simp [tmSzP, tmKid]
theorem tmNdP_of (p : PyData) : tmNdP p = 1 + (match tmKid p with | some t => tmNd t | none => 0) := by
  match p with
  | .tuple [w, b, t] => simp only [tmNdP, tmKid]
  | .tuple [w, q] => simp [tmNdP, tmKid]
  | .tuple [] => simp [tmNdP, tmKid]
  | .tuple [_] => simp [tmNdP, tmKid]
  | .tuple (_ :: _ :: _ :: _ :: _) => simp [tmNdP, tmKid]
  | .none => simp [tmNdP, tmKid]
  | .bool _ => simp [tmNdP, tmKid]
  | .int _ => simp [tmNdP, tmKid]
  | .str _ => simp [tmNdP, tmKid]
  | .list _ => simp [tmNdP, tmKid]
  | .dict _ => simp [tmNdP, tmKid]
theorem tmSzA_len : ∀ ps : List PyData, ps.length ≤ tmSzA ps
  | [] => Nat.le_refl _
  | p :: ps => by
    have h := tmSzA_len ps
    have h1 := tmSzP_of p
    rw [tmSzA, List.length_cons]
    omega
/-! the pile -/
abbrev Wait := PyData × Nat × Bool
def wForm (n : Nat) (ws : List Wait) : Bool := ws.all fun p => tmF p.1 n p.2.2 p.2.1
def wSz (ws : List Wait) : Nat := (ws.map fun p => tmSz p.1).sum
def wNd (ws : List Wait) : Nat := (ws.map fun p => tmNd p.1).sum
def kidsW (ps : List PyData) (lv : Nat) (mf : Bool) : List Wait := (ps.filterMap tmKid).map fun t => (t, lv + 1, mf)
theorem kidsW_cons (p : PyData) (ps : List PyData) (lv : Nat) (mf : Bool) : kidsW (p :: ps) lv mf = (match tmKid p with | some t => [(t, lv + 1, mf)] | none => []) ++ kidsW ps lv mf := by
  unfold kidsW
  cases h : tmKid p with
  | none => simp [List.filterMap_cons, h]
  | some t => simp [List.filterMap_cons, h]
theorem tmAll_of (n : Nat) (mf : Bool) (lv : Nat) : ∀ ps : List PyData, tmAll ps n mf lv = (ps.all (partD · n mf) && wForm n (kidsW ps lv mf))
  | [] => rfl
  | p :: ps => by
    rw [tmAll, tmP_of, tmAll_of n mf lv ps, kidsW_cons, List.all_cons]
    unfold wForm
    rw [List.all_append]
    cases h : tmKid p with
    | none => simp [Bool.and_assoc]
    | some t => simp only [List.all_cons, List.all_nil, Bool.and_true]; ac_rfl
theorem tmSzA_of (lv : Nat) (mf : Bool) : ∀ ps : List PyData, tmSzA ps = ps.length + wSz (kidsW ps lv mf)
  | [] => rfl
  | p :: ps => by
    rw [tmSzA, tmSzP_of, tmSzA_of lv mf ps, kidsW_cons, List.length_cons]
    unfold wSz
    rw [List.map_append, List.sum_append]
    cases h : tmKid p with
    | none => simp; omega
    | some t => simp; omega
theorem tmNdA_of (lv : Nat) (mf : Bool) : ∀ ps : List PyData, wNd (kidsW ps lv mf) ≤ tmNdA ps
  | [] => Nat.le_refl _
  | p :: ps => by
    have ih := tmNdA_of lv mf ps
    rw [tmNdA, tmNdP_of, kidsW_cons]
    unfold wNd at ih ⊢
    rw [List.map_append, List.sum_append]
    cases h : tmKid p with
    | none => simp; omega
    | some t => simp; omega
def goalT (n : Nat) (ws : List Wait) (many : Nat) : Bool := wForm n ws && decide (many + wSz ws ≤ 300)
theorem goalT_app (n : Nat) (ws : List Wait) (d : PyData) (lv : Nat) (mf : Bool) (many : Nat) : goalT n (ws ++ [(d, lv, mf)]) many = (tmF d n mf lv && wForm n ws && decide (many + (tmSz d + wSz ws) ≤ 300)) := by
  have e1 : wForm n (ws ++ [(d, lv, mf)]) = (wForm n ws && tmF d n mf lv) := by simp [wForm]
  have e2 : wSz (ws ++ [(d, lv, mf)]) = wSz ws + tmSz d := by simp [wSz]
  unfold goalT
  rw [e1, e2, Bool.and_comm (wForm n ws), Nat.add_comm (wSz ws)]
theorem goalT_bad {n : Nat} {ws : List Wait} {d : PyData} {lv many : Nat} {mf : Bool} (h : tmF d n mf lv = false) : goalT n (ws ++ [(d, lv, mf)]) many = false := by
  rw [goalT_app, h]; rfl
theorem goalT_many {n : Nat} {ws : List Wait} {ps : List PyData} {lv many : Nat} {mf : Bool} (h : 300 < many + ps.length) : goalT n (ws ++ [(.tuple ps, lv, mf)]) many = false := by
  rw [goalT_app]
  have h1 := tmSzA_len ps
  have e : decide (many + (tmSz (.tuple ps) + wSz ws) ≤ 300) = false := decide_eq_false (by rw [tmSz]; omega)
  rw [e, Bool.and_false]
theorem goalT_step {n : Nat} {ws : List Wait} {ps : List PyData} {lv many : Nat} {mf : Bool} (h : ps.all (partD · n mf) = true) (hd : lv ≤ 10) : goalT n (ws ++ [(.tuple ps, lv, mf)]) many = goalT n (ws ++ kidsW ps lv mf) (many + ps.length) := by
  rw [goalT_app, tmF, decide_eq_true hd, Bool.true_and, tmSz, tmAll_of, h, Bool.true_and, tmSzA_of lv mf ps]
  unfold goalT
  have e1 : wForm n (ws ++ kidsW ps lv mf) = (wForm n ws && wForm n (kidsW ps lv mf)) := by simp [wForm]
  have e2 : wSz (ws ++ kidsW ps lv mf) = wSz ws + wSz (kidsW ps lv mf) := by simp [wSz]
  rw [e1, e2, Bool.and_comm (wForm n ws)]
  congr 1
  exact decide_eq_decide.mpr (by omega)
theorem wNd_step {ws : List Wait} {ps : List PyData} {lv : Nat} {mf : Bool} : wNd (ws ++ kidsW ps lv mf) < wNd (ws ++ [(.tuple ps, lv, mf)]) := by
  have h1 := tmNdA_of lv mf ps
  have e1 : wNd (ws ++ kidsW ps lv mf) = wNd ws + wNd (kidsW ps lv mf) := by simp [wNd]
  have e2 : wNd (ws ++ [(.tuple ps, lv, mf)]) = wNd ws + tmNd (.tuple ps) := by simp [wNd]
  rw [e1, e2, tmNd]
  omega
/-! shaped data within shaped data -/
theorem lay_mem {ds : List PyData} (h : PyData.canLayAll0 ds = true) : ∀ d ∈ ds, d.canLay0 = true := canAll_iff.mp h
theorem depth_mem : ∀ {ds : List PyData} {d : PyData}, d ∈ ds → d.depth ≤ PyData.depthAll ds
  | x :: ds, d, h => by
    rcases List.mem_cons.mp h with rfl | h
    · simp only [PyData.depthAll]; omega
    · have := depth_mem (ds := ds) h
      simp only [PyData.depthAll]; omega
theorem shaped_mem {ds : List PyData} {d : PyData} (h : SeqAt.shaped (.tuple ds) = true) (m : d ∈ ds) : SeqAt.shaped d = true := by
  have h1 := SeqAt.canLay_of_shaped h
  have h2 := SeqAt.depth_of_shaped h
  have h3 := depth_mem m
  have h4 : d.canLay0 = true := lay_mem (by simpa [PyData.canLay0] using h1) d m
  simp only [PyData.depth] at h2
  unfold SeqAt.shaped
  rw [h4, decide_eq_true (by omega)]; rfl
/-! the states -/
abbrev Ch := PyData × PyData
abbrev St0 := PyData × List (List Ch)
def chD (c : Ch) : PyData := .tuple [c.1, c.2]
def rowCD (r : List Ch) : PyData := .tuple (r.map chD)
def st0D (s : St0) : PyData := .tuple [s.1, .tuple (s.2.map rowCD)]
def choicesD (d : PyData) (looks : Nat) : Bool := match d with
  | .tuple cs => !cs.isEmpty && cs.all (tupOfD · 2) && (match cs.getLast? with | some (.tuple [l, _]) => PyData.eqv l (.int (-1)) | _ => false) && cs.dropLast.all (fun c => match c with | .tuple [l, _] => belowD l looks | _ => false)
  | _ => false
def stateTD (d : PyData) (looks : Nat) : Bool := match d with
  | .tuple [_, .tuple cs] => decide (cs.length = 5) && cs.all (choicesD · looks)
  | _ => false
theorem tupOf2 {d : PyData} (h : tupOfD d 2 = true) : ∃ a b, d = .tuple [a, b] := by
  unfold tupOfD at h
  split at h
  · rename_i ds
    have h' := of_decide_eq_true h
    match ds, h' with
    | [a, b], _ => exact ⟨a, b, rfl⟩
    | [], h' => simp at h'
    | [_], h' => simp at h'
    | _ :: _ :: _ :: _, h' => simp at h'; omega
  · cases h
theorem pairs_of_all : ∀ {cs : List PyData}, cs.all (tupOfD · 2) = true → ∃ r : List Ch, cs = r.map chD
  | [], _ => ⟨[], rfl⟩
  | c :: cs, h => by
    rw [List.all_cons, Bool.and_eq_true] at h
    obtain ⟨a, b, rfl⟩ := tupOf2 h.1
    obtain ⟨r, rfl⟩ := pairs_of_all h.2
    exact ⟨(a, b) :: r, rfl⟩
theorem choices_shape {d : PyData} {looks : Nat} (h : choicesD d looks = true) : ∃ r : List Ch, d = rowCD r ∧ r ≠ [] := by
  unfold choicesD at h
  split at h
  · rename_i cs
    simp only [Bool.and_eq_true, Bool.not_eq_true'] at h
    obtain ⟨r, rfl⟩ := pairs_of_all h.1.1.2
    refine ⟨r, rfl, fun e => ?_⟩
    rw [e] at h
    simp at h
  · cases h
theorem rows_of_all {looks : Nat} : ∀ {cs : List PyData}, cs.all (choicesD · looks) = true → ∃ rs : List (List Ch), cs = rs.map rowCD ∧ ∀ r ∈ rs, choicesD (rowCD r) looks = true
  | [], _ => ⟨[], rfl, by simp⟩
  | c :: cs, h => by
    rw [List.all_cons, Bool.and_eq_true] at h
    obtain ⟨r, rfl, _⟩ := choices_shape h.1
    obtain ⟨rs, rfl, hrs⟩ := rows_of_all h.2
    exact ⟨r :: rs, rfl, fun x hx => by rcases List.mem_cons.mp hx with rfl | hx; exact h.1; exact hrs x hx⟩
theorem stateTD_shape {d : PyData} {looks : Nat} (h : stateTD d looks = true) : ∃ s : St0, d = st0D s ∧ s.2.length = 5 ∧ ∀ r ∈ s.2, choicesD (rowCD r) looks = true := by
  unfold stateTD at h
  split at h
  · rename_i e cs
    rw [Bool.and_eq_true, decide_eq_true_eq] at h
    obtain ⟨rs, rfl, hrs⟩ := rows_of_all h.2
    exact ⟨(e, rs), rfl, by simpa using h.1, hrs⟩
  · cases h
theorem states_of_all {looks : Nat} : ∀ {ds : List PyData}, ds.all (stateTD · looks) = true → ∃ ss : List St0, ds = ss.map st0D ∧ ∀ s ∈ ss, s.2.length = 5 ∧ ∀ r ∈ s.2, choicesD (rowCD r) looks = true
  | [], _ => ⟨[], rfl, by simp⟩
  | c :: cs, h => by
    rw [List.all_cons, Bool.and_eq_true] at h
    obtain ⟨r, rfl, h1, h2⟩ := stateTD_shape h.1
    obtain ⟨rs, rfl, hrs⟩ := states_of_all h.2
    exact ⟨r :: rs, rfl, fun x hx => by rcases List.mem_cons.mp hx with rfl | hx; exact ⟨h1, h2⟩; exact hrs x hx⟩
def waits (ss : List St0) : List Wait := ss.map (fun s => (s.1, 1, false)) ++ ss.flatMap fun s => s.2.flatten.map fun c => (c.2, 1, true)
/-- the waiting templates of data that is a tuple of states -/
def st0Of : PyData → St0
  | .tuple [e, .tuple cs] => (e, cs.map fun c => match c with | .tuple r => r.map (fun x => match x with | .tuple [a, b] => (a, b) | y => (y, y)) | _ => [])
  | d => (d, [])
theorem st0Of_st0D (s : St0) : st0Of (st0D s) = s := by
  obtain ⟨e, rs⟩ := s
  unfold st0D st0Of
  simp only [Prod.mk.injEq, true_and]
  rw [List.map_map]
  have : ∀ r : List Ch, ((fun c => match c with | .tuple r => r.map (fun x => match x with | .tuple [a, b] => (a, b) | y => (y, y)) | _ => []) ∘ rowCD) r = r := fun r => by
    simp only [Function.comp, rowCD, List.map_map]
    have e2 : ((fun x => match x with | PyData.tuple [a, b] => (a, b) | y => (y, y)) ∘ chD) = id := by funext c; rfl
    rw [e2, List.map_id]
  rw [show ((fun c => match c with | .tuple r => r.map (fun x => match x with | .tuple [a, b] => (a, b) | y => (y, y)) | _ => []) ∘ rowCD) = id from funext this, List.map_id]
def transD (d : PyData) : Bool := match d with
  | .tuple [.tuple lk, .tuple ss] => schemaD (.tuple lk) && decide (lk.length ≤ 8) && decide (1 ≤ ss.length) && decide (ss.length ≤ 12) && ss.all (stateTD · lk.length) && goalT ss.length (waits (ss.map st0Of)) 0
  | _ => false
/-- rows of choices are not too long -/
def fewCh (d : PyData) : Prop := ∀ lk ss, d = .tuple [lk, .tuple ss] → ∀ st ∈ ss, ∀ e cs, st = .tuple [e, .tuple cs] → ∀ c ∈ cs, ∀ r, c = .tuple r → r.length ≤ 400
structure TrPre (d : PyData) : Prop where
  sh : SeqAt.shaped d = true
  few : fewCh d
  sc : ∀ lk ss, d = .tuple [lk, ss] → fewSc lk
def spIsPart (K : PySem.W.Frag) : Sp := fun vs H Q _ => ∃ (p : PyData) (v : V) (n : Nat) (mf : Bool), vs = [v, natV n, .bl mf] ∧ Dp K H v p ∧ SeqAt.shaped p = true ∧ ∀ H', Gr [] H H' → Q (.bl (partD p n mf)) H'
def Wt3 (K : PySem.W.Frag) (H0 H : Hp) (x : V) (p : Wait) : Prop := ∃ tp v, x = .ref tp ∧ H tp = some (.tup [v, natV p.2.1, .bl p.2.2]) ∧ Dp K H0 v p.1
theorem Wt3.gr {K : PySem.W.Frag} {H0 H H' : Hp} {m : List Addr} (g : Gr m H H') (hm : ∀ b ∈ m, ∃ ys, H b = some (.lst ys)) (x : V) (p : Wait) (h : Wt3 K H0 H x p) : Wt3 K H0 H' x p := by
  obtain ⟨tp, v, e, h1, h2⟩ := h
  exact ⟨tp, v, e, g.tup (fun z => by obtain ⟨ys, q⟩ := hm tp z; rw [h1] at q; cases q) h1, h2⟩
def spWaiting (K : PySem.W.Frag) : Sp := fun vs H Q _ => ∃ (v : V) (ss : List St0), vs = [v] ∧ Dp K H v (.tuple (ss.map st0D)) ∧ ss.length ≤ 12 ∧ (∀ s ∈ ss, s.2.length = 5 ∧ ∀ r ∈ s.2, r.length ≤ 400) ∧
  ∀ H' p xs, Gr [] H H' → H p = none → H' p = some (.lst xs) → Paired (Wt3 K H H') xs (waits ss) → Q (.ref p) H'
def spAreTm (K : PySem.W.Frag) (T : Addr) : Sp := fun vs H Q _ => ∃ (v : V) (ss : List St0), vs = [v] ∧ Dp K H v (.tuple (ss.map st0D)) ∧ ss.length ≤ 12 ∧ (∀ s ∈ ss, s.2.length = 5 ∧ ∀ r ∈ s.2, r.length ≤ 400) ∧ SeqAt.shaped (.tuple (ss.map st0D)) = true ∧ GxR.TabG H T ∧
  ∀ H', Gr [] H H' → Q (.bl (goalT ss.length (waits ss) 0)) H'
def spChoices (K : PySem.W.Frag) (T : Addr) : Sp := fun vs H Q _ => ∃ (v : V) (d : PyData) (n : Nat), vs = [v, natV n] ∧ Dp K H v d ∧ SeqAt.shaped d = true ∧ GxR.TabG H T ∧ ∀ H', Gr [] H H' → Q (.bl (choicesD d n)) H'
def spStateT (K : PySem.W.Frag) (T T' : Addr) : Sp := fun vs H Q _ => ∃ (v : V) (d : PyData) (n : Nat), vs = [v, natV n] ∧ Dp K H v d ∧ SeqAt.shaped d = true ∧ GxR.TabG H T ∧ GxR.TabG H T' ∧ ∀ H', Gr [] H H' → Q (.bl (stateTD d n)) H'
theorem waits_len {ss : List St0} (h12 : ss.length ≤ 12) (h : ∀ s ∈ ss, s.2.length = 5 ∧ ∀ r ∈ s.2, r.length ≤ 400) : (waits ss).length ≤ 24012 := by
  unfold waits
  rw [List.length_append, List.length_map]
  have h1 : (ss.flatMap fun s => s.2.flatten.map fun c => ((c.2, 1, true) : Wait)).length ≤ ss.length * 2000 := by
    clear h12
    induction ss with
    | nil => simp
    | cons s ss ih =>
      have i1 := ih fun x hx => h x (List.mem_cons_of_mem _ hx)
      obtain ⟨h5, hr⟩ := h s (List.mem_cons_self ..)
      have h2 : s.2.flatten.length ≤ 2000 := by
        rw [List.length_flatten]
        have := sum_le (l := s.2.map List.length) (k := 400) fun x hx => by obtain ⟨r, hr', rfl⟩ := List.mem_map.mp hx; exact hr r hr'
        rw [List.length_map, h5] at this
        omega
      rw [List.flatMap_cons, List.length_append, List.length_map, List.length_cons]
      omega
  omega
/-! x in a tuple, the items data of any depth -/
def rInDT (K : PySem.W.Frag) : R2 := fun x y H Q => ∃ d ds, Dp K H x d ∧ Dp K H y (.tuple ds) ∧ SeqAt.shaped d = true ∧ SeqAt.shaped (.tuple ds) = true ∧ Q (.bl (ds.any fun z => PyData.eqv z d)) H
theorem op_inDT {X : Cx} (hu : X.A.units + 65 < cLine) : OpR X (compareOp .In) (rInDT X.K) := by
  intro pins s σ H x y v u Q I rx ry h
  obtain ⟨d, ds, hd, he, sd, se, q⟩ := h
  obtain ⟨as, r1⟩ := Dp.reads I d x v hd rx
  obtain ⟨bs, r2⟩ := Dp.reads I (.tuple ds) y u he ry
  exact SeqAt.in_tuple_reads r2 r1 (SeqAt.canLay_of_shaped se) (SeqAt.canLay_of_shaped sd) (room_in_shaped sd hu) ⟨.bl _, H, I, rfl, q⟩
theorem any_words (d : PyData) : (([PyData.str "in", .str "next"] : List PyData).any fun z => PyData.eqv z d) = (isStr d "in" || isStr d "next") := by
  cases d with
  | str y =>
    simp only [List.any_cons, List.any_nil, PyData.eqv, isStr, Bool.or_false, beq_dec]
    rw [show decide (("in" : Str) = y) = decide (y = "in") from decide_eq_decide.mpr eq_comm, show decide (("next" : Str) = y) = decide (y = "next") from decide_eq_decide.mpr eq_comm]
  | _ => simp [PyData.eqv, isStr]
theorem shaped_words : SeqAt.shaped (.tuple [.str "in", .str "next"]) = true := by
  unfold SeqAt.shaped
  simp [PyData.canLay0, PyData.canLayAll0, PyData.depth, PyData.depthAll, PyData.strOk]
  decide
theorem shaped_node : SeqAt.shaped (.str "node") = true := by
  unfold SeqAt.shaped
  simp [PyData.canLay0, PyData.depth, PyData.strOk]
  decide
/-- xs[:-1] of what is not empty -/
theorem cut_init (xs : List V) (h : 0 < xs.length) : cutV xs none (some (-1)) = xs.take (xs.length - 1) := by
  unfold cutV
  have e1 : HT.sIx xs.length 0 none = 0 := rfl
  have e2 : HT.sIx xs.length xs.length (some (-1)) = xs.length - 1 := by
    show (if (-1 : Int) < 0 then ((-1 : Int) + (xs.length : Int)).toNat else min (-1 : Int).toNat xs.length) = _
    rw [if_pos (by decide)]; omega
  rw [e1, e2]; rfl
theorem init_data {K : PySem.W.Frag} {H : Hp} {v : V} {ds : List PyData} {Q : VK} (hv : Dp K H v (.tuple ds)) (hl : 0 < ds.length) (h : ∀ H' x, Gr [] H H' → Dp K H' x (.tuple (ds.take (ds.length - 1))) → Q x H') : rSlA K v none (some (-1)) H Q := by
  obtain ⟨a, xs, rfl, hs, ha⟩ := hv.tupI
  have l1 := ha.length
  refine ⟨a, xs, rfl, hs, fun e => ?_, fun _ p np => ?_⟩
  · obtain ⟨_, e2⟩ := e
    exfalso
    have e3 : HT.sIx xs.length xs.length (some (-1)) = xs.length - 1 := by
      show (if (-1 : Int) < 0 then ((-1 : Int) + (xs.length : Int)).toNat else min (-1 : Int).toNat xs.length) = _
      rw [if_pos (by decide)]; omega
    rw [e3] at e2
    omega
  · refine h _ _ (Gr.new np) (.tup (SqT.of upd_same) ?_)
    rw [cut_init xs (by omega), l1]
    exact (ha.gr (Gr.new np)).take _
theorem atI_end {xs : List V} {v : V} {n : Nat} (hn : xs.length = n) (h : xs[n - 1]? = some v) : atI xs (-1) = some v := by
  have hp : 0 < n := by
    have := (List.getElem?_eq_some_iff.mp h).1
    omega
  have e : xs = xs.take (n - 1) ++ [v] := by
    have e2 : xs.take (n - 1 + 1) = xs.take (n - 1) ++ [v] := by rw [List.take_add_one, h]; rfl
    rw [← e2, List.take_of_length_le (by omega)]
  rw [e]
  exact atI_last _ _
theorem shaped_int (i : Int) : SeqAt.shaped (.int i) = true := by
  unfold SeqAt.shaped
  simp [PyData.canLay0, PyData.depth]
def spIsTrans (K : PySem.W.Frag) (T1 T2 T3 T4 T5 T6 T7 : Addr) : Sp := fun vs H Q _ => ∃ (v : V) (d : PyData), vs = [v] ∧ Dp K H v d ∧ TrPre d ∧ Tbs [T1, T2, T3, T4, T5, T6, T7] H ∧ ∀ H', Gr [] H H' → Q (.bl (transD d)) H'
def spCheckT (K : PySem.W.Frag) (T1 T2 T3 T4 T5 T6 T7 CT : Addr) : Sp := fun vs H Q E => ∃ (d : PyData) (v : V), vs = [v] ∧ Dp K H v d ∧ TrPre d ∧ Tbs [T1, T2, T3, T4, T5, T6, T7] H ∧ (transD d = true → ∀ H', Gr [] H H' → Q .non H') ∧ (transD d = false → XE0 E CT H)
end LW
set_option maxHeartbeats 4000000
namespace LW
open PySem PySem.Spec PyProof.Rows L2
section
variable {P : Program} {w : World} {K : PySem.W.Frag} {mg : Str → Option Value} {base : Heap} {f : Addr} {fd : FuncData}
abbrev n_is_part : List Str := ["part", "states", "may_follow"]
theorem sc_is_part : FnScope n_is_part ["part", "states", "may_follow"] (defScope s_is_part) := ⟨rfl, rfl, rfl, by decide +kernel, rfl, by decide +kernel, by decide +kernel⟩
theorem partD_none {p : PyData} {n : Nat} {mf : Bool} (h3 : tupOfD p 3 = false) (h2 : tupOfD p 2 = false) : partD p n mf = false := by
  unfold partD
  split
  · exact absurd h3 (by simp [tupOfD])
  · exact absurd h2 (by simp [tupOfD])
  · rfl
theorem tupOf3 {d : PyData} (h : tupOfD d 3 = true) : ∃ a b c, d = .tuple [a, b, c] := by
  unfold tupOfD at h
  split at h
  · rename_i ds
    have h' := of_decide_eq_true h
    match ds, h' with
    | [a, b, c], _ => exact ⟨a, b, c, rfl⟩
    | [], h' => simp at h'
    | [_], h' => simp at h'
    | [_, _], h' => simp at h'
    | _ :: _ :: _ :: _ :: _, h' => simp at h'; omega
  · cases h
theorem ok_is_part {tL : Tok} (F : Fun K "is_part" "is_part" s_is_part f fd) (f_is_tuple_of : Fn P w K mg base CX0 1 "is_tuple_of" ["worth", "many"] (spTupOf K)) (f_is_below : Fn P w K mg base CX0 1 "is_below" ["worth", "limit"] (spBelow K)) (i_LABELS : mg "LABELS" = some (.int 5 tL)) :
    FnOk P w K mg base CX0 2 f fd ["part", "states", "may_follow"] (spIsPart K) := by
  refine F.ok sc_is_part (fun vs H Q E h => ?_) (fun cdv A outer s H vs Q E hr h => ?_)
  · obtain ⟨_, _, _, _, rfl, _⟩ := h; rfl
  obtain ⟨p, v, n, mf, rfl, hd, hsh, q⟩ := h
  have nd := sc_is_part.nd
  have hu65 : (A.deeper (envOfC "is_part" (defScope s_is_part) s.heap.objs.size f cdv)).units + 65 < cLine := by have := hr.un; omega
  refine ⟨_, pss_cons (ps_if (pt_val (pe_fn f_is_tuple_of hr rfl pass0 (pa_cons (pv 0) (pa_cons pe_int pa_nil))))
      (pss_one (ps_ret (pe_and (pe_cmpR (op_eqD hr.units) (pe_ix ix_tup (pv 0) pe_int (fun _ _ => rfl)) pe_str (nomark _)) (pe_one (pe_fn f_is_below hr rfl pass0 (pa_cons (pe_ix ix_tup (pv 0) pe_int (fun _ _ => rfl)) (pa_cons (pe_gint i_LABELS rfl) pa_nil)))))))
      pss_nil)
    (pss_one (ps_ret (pe_and (pv 2) (pe_and (pe_fn f_is_tuple_of hr rfl pass0 (pa_cons (pv 0) (pa_cons pe_int pa_nil))) (pe_and (pe_cmpR (op_inDT hu65) (pe_ix ix_tup (pv 0) pe_int (fun _ _ => rfl)) (pe_tup (pa_cons pe_str (pa_cons pe_str pa_nil))) rfl) (pe_one (pe_fn f_is_below hr rfl pass0 (pa_cons (pe_ix ix_tup (pv 0) pe_int (fun _ _ => rfl)) (pa_cons (pv 1) pa_nil))))))))), ?_⟩
  refine ⟨_, rfl, p, 3, v, rfl, hd, _, rfl, ?_⟩
  cases h3 : tupOfD p 3 with
  | true =>
    obtain ⟨x, b, t, rfl⟩ := tupOf3 h3
    have q' : ∀ H', Gr [] H H' → Q (.bl (isStr x "node" && belowD b 5)) H' := q
    obtain ⟨va, xs, rfl, hs, ha⟩ := hd.tupI
    obtain ⟨v0, hv0, h0⟩ := ha.at (i := 0) rfl
    obtain ⟨v1, hv1, h1⟩ := ha.at (i := 1) rfl
    refine iteT ⟨_, rfl, va, _, 0, _, rfl, rfl, hs, atI_nat (j := 0) hv0, ?_⟩
    refine ⟨x, .str "node", h0, .str _, shaped_mem hsh (by simp), shaped_node, _, rfl, ?_⟩
    rw [eqv_str]
    cases hx : isStr x "node" with
    | false => rw [hx] at q'; exact iteF (q' H (Gr.refl _))
    | true =>
      rw [hx] at q'
      exact iteT ⟨_, rfl, va, _, 1, _, rfl, rfl, hs, atI_nat (j := 1) hv1, b, 5, v1, rfl, h1, q' H (Gr.refl _)⟩
  | false =>
    refine iteF ⟨_, rfl, mf, rfl, ?_⟩
    cases mf with
    | false =>
      refine iteF ?_
      have e : partD p n false = false := by
        unfold partD
        split
        · exact absurd h3 (by simp [tupOfD])
        · rfl
        · rfl
      rw [← e]
      exact q H (Gr.refl _)
    | true =>
    refine iteT ⟨_, rfl, p, 2, v, rfl, hd, _, rfl, ?_⟩
    cases h2 : tupOfD p 2 with
    | false =>
      refine iteF ?_
      have q1 := q H (Gr.refl _)
      rw [partD_none h3 h2] at q1
      exact q1
    | true =>
    obtain ⟨x, b, rfl⟩ := tupOf2 h2
    have q' : ∀ H', Gr [] H H' → Q (.bl ((isStr x "in" || isStr x "next") && belowD b n)) H' := q
    obtain ⟨va, xs, rfl, hs, ha⟩ := hd.tupI
    obtain ⟨v0, hv0, h0⟩ := ha.at (i := 0) rfl
    obtain ⟨v1, hv1, h1⟩ := ha.at (i := 1) rfl
    refine iteT ⟨_, rfl, va, _, 0, _, rfl, rfl, hs, atI_nat (j := 0) hv0, ?_⟩
    refine ⟨len2, fun tp ntp => ?_⟩
    have gt := Gr.new (m := []) (o := .tup [.str "in", .str "next"]) ntp
    refine ⟨x, [.str "in", .str "next"], h0.gr gt, mk2 (.str _) (.str _) ntp, shaped_mem hsh (by simp), shaped_words, _, rfl, ?_⟩
    rw [any_words]
    cases hx : isStr x "in" || isStr x "next" with
    | false => rw [hx] at q'; exact iteF (q' _ gt)
    | true =>
      rw [hx] at q'
      exact iteT ⟨_, rfl, va, _, 1, _, rfl, rfl, gt.sqT hs, atI_nat (j := 1) hv1, _, rfl, b, n, v1, rfl, h1.gr gt, q' _ gt⟩
end
end LW
set_option maxHeartbeats 4000000
namespace LW
open PySem PySem.Spec PyProof.Rows L2
section
variable {P : Program} {w : World} {K : PySem.W.Frag} {mg : Str → Option Value} {base : Heap} {f : Addr} {fd : FuncData}
abbrev n_waiting_templates : List Str := ["states", "found", "end", "_", "labels", "choices", "template"]
theorem sc_waiting_templates : FnScope n_waiting_templates ["states"] (defScope s_waiting_templates) := ⟨rfl, rfl, rfl, by decide +kernel, rfl, by decide +kernel, by decide +kernel⟩
/-- a pile that grows: new since H0 -/
structure Pile (K : PySem.W.Frag) (H0 H : Hp) (D : Addr) (ws : List Wait) : Prop where
  new : H0 D = none
  gr : Gr [] H0 H
  ex : ∃ xs, H D = some (.lst xs) ∧ Paired (Wt3 K H0 H) xs ws
theorem Pile.step {H0 H H' : Hp} {D : Addr} {ws : List Wait} (h : Pile K H0 H D ws) (g : Gr [] H H') : Pile K H0 H' D ws := by
  obtain ⟨xs, e, hp⟩ := h.ex
  exact ⟨h.new, h.gr.trans g, xs, g.lst (by simp) e, paired_imp (Wt3.gr (m := []) g (fun b hb => by cases hb)) hp⟩
theorem Pile.put {H0 H : Hp} {D tp : Addr} {ws : List Wait} {v : V} {d : PyData} {lv : Nat} {mf : Bool} (h : Pile K H0 H D ws) (n : H tp = none) (hd : Dp K H0 v d) : (upd H tp (.tup [v, natV lv, .bl mf])) D = H D ∧
    ∀ xs, H D = some (.lst xs) → Pile K H0 (upd (upd H tp (.tup [v, natV lv, .bl mf])) D (.lst (xs ++ [.ref tp]))) D (ws ++ [(d, lv, mf)]) := by
  obtain ⟨xs, e, hp⟩ := h.ex
  have ne : tp ≠ D := fun z => by rw [z, e] at n; cases n
  refine ⟨upd_ne ne.symm, fun xs' e' => ?_⟩
  rw [e] at e'
  cases e'
  have g1 : Gr [] H (upd H tp (.tup [v, natV lv, .bl mf])) := Gr.new n
  have e1 : (upd H tp (.tup [v, natV lv, .bl mf])) D = some (.lst xs) := by rw [upd_ne ne.symm]; exact e
  have g2 : Gr [D] (upd H tp (.tup [v, natV lv, .bl mf])) (upd (upd H tp (.tup [v, natV lv, .bl mf])) D (.lst (xs ++ [.ref tp]))) := Gr.put e1 (fun _ z => by cases z) (by simp)
  have hm : ∀ b ∈ [D], ∃ ys, (upd H tp (.tup [v, natV lv, .bl mf])) b = some (.lst ys) := fun b hb => by rw [List.mem_singleton.mp hb]; exact ⟨_, e1⟩
  refine ⟨h.new, (h.gr.trans g1).put0 h.new, _, upd_same, paired_app (paired_imp (Wt3.gr g2 hm) (paired_imp (Wt3.gr (m := []) g1 (fun b hb => by cases hb)) hp)) (.cons ⟨tp, v, rfl, ?_, hd⟩ .nil)⟩
  rw [upd_ne ne, upd_same]
theorem ok_waiting (F : Fun K "waiting_templates" "waiting_templates" s_waiting_templates f fd) : FnOk P w K mg base CX0 1 f fd ["states"] (spWaiting K) := by
  refine F.ok sc_waiting_templates (fun vs H Q E h => ?_) (fun cdv A outer s H vs Q E hr h => ?_)
  · obtain ⟨_, _, rfl, _⟩ := h; rfl
  obtain ⟨v, ss, rfl, hd, h12, hrows, q⟩ := h
  have nd := sc_waiting_templates.nd
  refine ⟨_, pss_cons (ps_setLc (i := 1) (own := [("end", 2), ("_", 3)]) (g := gTup K 2 (gCons (gName 2) (gCons (gName 3) gNil))) (tt := tYes) rfl nd rfl rfl (sw_true rfl rfl rfl (by decide +kernel)) (pi_tup (pv 0)) (blkOk_by (N := n_waiting_templates) (sc := defScope s_waiting_templates) (own := [("end", 2), ("_", 3)]) (by decide +kernel)) (fun s H C cl fp => pg_tup rfl (pgs_cons (pg_name (i := 2) nd rfl (.inl rfl)) (pgs_cons (pg_name (i := 3) nd rfl (.inl rfl)) pgs_nil))) (fun s H C cl fp => pts_nil) (fun s H C cl fp => pe_tup (pa_cons (pv 2) (pa_cons pe_int (pa_cons pe_bl pa_nil)))))
    (pss_cons (ps_for PassesOwn.never rfl (pi_tup (pv 0)) (pg_tup rfl (pgs_cons (pg_name (i := 3) nd rfl (.inl rfl)) (pgs_cons (pg_name (i := 4) nd rfl (.inl rfl)) pgs_nil)))
      (pss_one (ps_expr (pe_bm PySem.F.plainAttrs_list PySem.F.slot_list_extend PySem.F.type_list_extend mt_extend (pv 1) (pa_cons (pe_lc2 (own := [("choices", 5), ("_", 3), ("template", 6)]) (vs1 := [3, 6]) (g := gName 5) (tt := tYes) (wi1 := iTup K (tVar 5)) (g1 := gTup K 2 (gCons (gName 3) (gCons (gName 6) gNil))) (tt1 := tYes) rfl nd (pi_tup (pv 4)) (blkOk_by (N := n_waiting_templates) (sc := defScope s_waiting_templates) (own := [("choices", 5), ("_", 3), ("template", 6)]) (by decide +kernel)) (by decide) (fun s H C cl fp => pg_name (i := 5) nd rfl (.inl rfl)) (fun s H C cl fp => pts_nil) (fun s H C cl fp => pi_tup (pv 5)) (fun s H C cl fp => pg_tup rfl (pgs_cons (pg_name (i := 3) nd rfl (.inl rfl)) (pgs_cons (pg_name (i := 6) nd rfl (.inl rfl)) pgs_nil))) (fun s H C cl fp => pts_nil) (fun s H C cl fp => pe_tup (pa_cons (pv 6) (pa_cons pe_int (pa_cons pe_bl pa_nil))))) pa_nil)))))
    (pss_one (ps_ret (pv 1)))), ?_⟩
  obtain ⟨a, vs, rfl, hs, hal⟩ := hd.tupI
  have hvl := hal.length
  rw [List.length_map] at hvl
  have stAt : ∀ {H' : Hp} {i : Nat} {x : V}, Gr [] H H' → vs[i]? = some x → ∃ st, ss[i]? = some st ∧ ∃ sp e rp rv, x = .ref sp ∧ SqT K H' sp [e, .ref rp] ∧ Dp K H e st.1 ∧ SqT K H' rp rv ∧ DpAll K H rv (st.2.map rowCD) := fun {H' i x} g hx => by
    obtain ⟨dd, hdd, hxd⟩ := hal.get hx
    rw [List.getElem?_map] at hdd
    cases es : ss[i]? with
    | none => rw [es] at hdd; cases hdd
    | some st =>
    rw [es] at hdd
    cases hdd
    obtain ⟨sp, e, r, rfl, hsq, h1, h2⟩ := dp_two hxd
    obtain ⟨rp, rv, rfl, hr1, hr2⟩ := h2.tupI
    exact ⟨st, rfl, sp, e, rp, rv, rfl, g.sqT hsq, h1, g.sqT hr1, hr2⟩
  refine ⟨_, rfl, a, rfl, ⟨vs, hs⟩, fun D nD => lc_tup (xs := vs) (fun i H4 => Pile K H H4 D ((ss.take i).map fun s => (s.1, 1, false))) ⟨nD, Gr.new nD, [], upd_same, .nil⟩ (fun i H4 _ hP => hP.gr.sqT hs) (fun i x H4 hx hP => ?_) (fun H4 hP => ?_)⟩
  · obtain ⟨st, es, sp, e, rp, rv, rfl, hsq, h1, _, _⟩ := stAt hP.gr hx
    refine ⟨sp, _, rfl, hsq, rfl, e, _, rfl, .ref rp, _, rfl, rfl, rfl, _, rfl, (by show (3 : Nat) ≤ sizeLine; decide), fun tp ntp => ?_⟩
    obtain ⟨e1, hp⟩ := hP.put (lv := 1) (mf := false) ntp h1
    obtain ⟨xs, hD, hxs⟩ := hP.ex
    have lxs := Paired.length hxs
    rw [List.length_map, List.length_take] at lxs
    refine ⟨xs, e1.trans hD, small4 (by omega), ?_⟩
    rw [List.take_add_one, es, Option.toList_some, List.map_append]
    exact hp xs hD
  rw [hvl, List.take_length] at hP
  refine ⟨_, rfl, a, rfl, ⟨vs, hP.gr.sqT hs⟩, for_tup (xs := vs) (fun i σ H' => ∃ y3 y4, σ = [some (.ref a), some (.ref D), none, y3, y4, none, none] ∧ Pile K H H' D (ss.map (fun s => (s.1, 1, false)) ++ (ss.take i).flatMap fun s => s.2.flatten.map fun c => (c.2, 1, true)))
    ⟨_, _, rfl, by simpa using hP⟩ (fun i σ H' _ hP => ?_) (fun i x σ H' hx hP => ?_) (fun σ H' hP => ?_)⟩
  · obtain ⟨_, _, _, h⟩ := hP
    exact h.gr.sqT hs
  · obtain ⟨y3, y4, rfl, hP⟩ := hP
    obtain ⟨st, es, sp, e, rp, rv, rfl, hsq, _, hrp, hrv⟩ := stAt hP.gr hx
    obtain ⟨h5, hr400⟩ := hrows st (List.mem_of_getElem? es)
    have lrv := hrv.length
    rw [List.length_map] at lrv
    have fl : st.2.flatten.length ≤ 2000 := by
      rw [List.length_flatten]
      have := sum_le (l := st.2.map List.length) (k := 400) fun x hx => by obtain ⟨r, hr', rfl⟩ := List.mem_map.mp hx; exact hr400 r hr'
      rw [List.length_map, h5] at this
      omega
    obtain ⟨zs, hDz, hzs⟩ := hP.ex
    refine ⟨sp, _, rfl, hsq, rfl, e, _, rfl, .ref rp, _, rfl, rfl, ?_⟩
    refine ⟨_, rfl, .inl ⟨rfl, _, SqL.of hDz⟩, ?_⟩
    refine ⟨_, rfl, rp, rfl, ⟨rv, hrp⟩, fun D2 nD2 => ?_⟩
    have nD2H : H D2 = none := hP.gr.free _ nD2
    have P0 : Pile K H (upd H' D2 (.lst [])) D2 [] := ⟨nD2H, hP.gr.trans (Gr.new nD2), [], upd_same, .nil⟩
    refine turnsW (walk_tup (xs := rv)) (fun j H5 => Pile K H H5 D2 ((st.2.take j).flatten.map fun c => (c.2, 1, true)) ∧ Gr [] H' H5 ∧ H5 D = some (.lst zs)) ⟨P0, Gr.new nD2, (Gr.new (m := []) nD2).lst (by simp) hDz⟩ (fun j H5 _ hP5 => hP5.2.1.sqT hrp) (fun j y H5 H5' hj hP5 hY => ?_) (fun H5 hP5 => ?_)
    · obtain ⟨hP5, g5, hD5⟩ := hP5
      obtain ⟨rfl, hy⟩ := hY
      obtain ⟨dd, hdd, hyd⟩ := hrv.get hy
      rw [List.getElem?_map] at hdd
      cases er : st.2[j]? with
      | none => rw [er] at hdd; cases hdd
      | some row =>
      rw [er] at hdd
      cases hdd
      obtain ⟨ya, cv, rfl, hsy, hcv⟩ := hyd.tupI
      have lcv := hcv.length
      rw [List.length_map] at lcv
      refine ⟨rfl, ?_⟩
      refine ⟨_, rfl, ya, rfl, ⟨cv, hP5.gr.sqT hsy⟩, ?_⟩
      refine turnsW (walk_tup (xs := cv)) (fun k H6 => Pile K H H6 D2 (((st.2.take j).flatten ++ row.take k).map fun c => (c.2, 1, true)) ∧ Gr [] H' H6 ∧ H6 D = some (.lst zs)) ⟨by simpa using hP5, g5, hD5⟩ (fun k H6 _ hP6 => hP6.1.gr.sqT hsy) (fun k z H6 H6' hk hP6 hZ => ?_) (fun H6 hP6 => ?_)
      · obtain ⟨hP6, g6, hD6⟩ := hP6
        obtain ⟨rfl, hz⟩ := hZ
        obtain ⟨dd, hdd, hzd⟩ := hcv.get hz
        rw [List.getElem?_map] at hdd
        cases ec : row[k]? with
        | none => rw [ec] at hdd; cases hdd
        | some ch =>
        rw [ec] at hdd
        cases hdd
        obtain ⟨za, l, t, rfl, hsz, hl, ht⟩ := dp_two hzd
        refine ⟨za, _, rfl, hP6.gr.sqT hsz, rfl, l, _, rfl, t, _, rfl, rfl, rfl, ?_⟩
        refine ⟨_, rfl, (by show (3 : Nat) ≤ sizeLine; decide), fun tp ntp => ?_⟩
        obtain ⟨e1, hp⟩ := hP6.put (lv := 1) (mf := true) ntp ht
        obtain ⟨ws, hDw, hws⟩ := hP6.ex
        have lws := Paired.length hws
        have lt1 : ((st.2.take j).flatten ++ row.take k).length ≤ 2400 := by
          have h1 : (st.2.take j).flatten.length ≤ st.2.flatten.length := by
            conv => rhs; rw [← List.take_append_drop j st.2, List.flatten_append, List.length_append]
            omega
          have h2 := hr400 row (List.mem_of_getElem? er)
          rw [List.length_append, List.length_take]
          omega
        rw [List.length_map] at lws
        refine ⟨ws, e1.trans hDw, small4 (by omega), ?_, ?_, ?_⟩
        · rw [List.take_add_one, ec, Option.toList_some, ← List.append_assoc, List.map_append]
          exact hp ws hDw
        · exact (g6.trans (Gr.new ntp)).put0 nD2
        · have ne : D ≠ D2 := fun z => by rw [← z, hDz] at nD2; cases nD2
          rw [upd_ne ne]
          exact (Gr.new (m := []) ntp).lst (by simp) hD6
      · obtain ⟨hP6, g6, hD6⟩ := hP6
        rw [lcv, List.take_length] at hP6
        refine ⟨?_, g6, hD6⟩
        rw [List.take_add_one, er, Option.toList_some, List.flatten_append]
        simpa using hP6
    · obtain ⟨hP5, g5, hD5⟩ := hP5
      rw [lrv, List.take_length] at hP5
      obtain ⟨ws, hDw, hws⟩ := hP5.ex
      have lws := Paired.length hws
      have lzs := Paired.length hzs
      have lw0 : (ss.map (fun s : St0 => ((s.1, 1, false) : Wait)) ++ (ss.take i).flatMap fun s : St0 => s.2.flatten.map fun c => ((c.2, 1, true) : Wait)).length ≤ 24012 := by
        refine Nat.le_trans ?_ (waits_len h12 hrows)
        unfold waits
        rw [List.length_append, List.length_append]
        have : ((ss.take i).flatMap fun s => s.2.flatten.map fun c => ((c.2, 1, true) : Wait)).length ≤ (ss.flatMap fun s => s.2.flatten.map fun c => ((c.2, 1, true) : Wait)).length := by
          conv => rhs; rw [← List.take_append_drop i ss, List.flatMap_append, List.length_append]
          omega
        omega
      rw [List.length_map] at lws
      refine ⟨D, D2, zs, ws, rfl, rfl, hD5, hDw, Nat.le_of_lt (small4 (by omega)), ?_⟩
      refine ⟨_, _, rfl, hP.new, (hP.gr.trans g5).put0 hP.new, _, upd_same, ?_⟩
      have gw : Gr [D] H5 (upd H5 D (.lst (zs ++ ws))) := Gr.put hD5 (fun _ z => by cases z) (by simp)
      have hm : ∀ b ∈ [D], ∃ ys, H5 b = some (.lst ys) := fun b hb => by rw [List.mem_singleton.mp hb]; exact ⟨_, hD5⟩
      have e9 : (ss.take (i + 1)).flatMap (fun s : St0 => s.2.flatten.map fun c => ((c.2, 1, true) : Wait)) = ((ss.take i).flatMap fun s => s.2.flatten.map fun c => (c.2, 1, true)) ++ st.2.flatten.map fun c => (c.2, 1, true) := by
        rw [List.take_add_one, es, Option.toList_some, List.flatMap_append]; simp
      rw [e9, ← List.append_assoc]
      exact paired_app (paired_imp (Wt3.gr gw hm) (paired_imp (Wt3.gr (m := []) g5 (fun b hb => by cases hb)) hzs)) (paired_imp (Wt3.gr gw hm) hws)
  · obtain ⟨y3, y4, rfl, hP⟩ := hP
    rw [hvl, List.take_length] at hP
    obtain ⟨xs, hD, hxs⟩ := hP.ex
    exact ⟨_, rfl, q H' D xs hP.gr hP.new hD hxs⟩
end
end LW
set_option maxHeartbeats 4000000
namespace LW
open PySem PySem.Spec PyProof.Rows L2
section
variable {P : Program} {w : World} {K : PySem.W.Frag} {mg : Str → Option Value} {base : Heap} {f : Addr} {fd : FuncData}
abbrev n_are_choices : List Str := ["choices", "looks", "choice", "look", "_"]
theorem sc_are_choices : FnScope n_are_choices ["choices", "looks"] (defScope s_are_choices) := ⟨rfl, rfl, rfl, by decide +kernel, rfl, by decide +kernel, by decide +kernel⟩
theorem choices_nopair {cs : List PyData} {n : Nat} (h : cs.all (tupOfD · 2) = false) : choicesD (.tuple cs) n = false := by
  show (!cs.isEmpty && cs.all (tupOfD · 2) && _ && _) = false
  rw [h, Bool.and_false, Bool.false_and, Bool.false_and]
theorem row_last {r : List Ch} {c : Ch} (e : r.getLast? = some c) (n : Nat) : choicesD (rowCD r) n = (PyData.eqv c.1 (.int (-1)) && (r.dropLast.map (·.1)).all (belowD · n)) := by
  have hne : r ≠ [] := fun z => by rw [z] at e; cases e
  have e1 : (r.map chD).getLast? = some (chD c) := by rw [List.getLast?_map, e]; rfl
  have e2 : (r.map chD).all (tupOfD · 2) = true := by
    rw [List.all_eq_true]
    intro d hd
    obtain ⟨x, _, rfl⟩ := List.mem_map.mp hd
    rfl
  have e3 : (r.map chD).isEmpty = false := by cases r with
    | nil => exact absurd rfl hne
    | cons => rfl
  show (!(r.map chD).isEmpty && (r.map chD).all (tupOfD · 2) && _ && (r.map chD).dropLast.all _) = _
  rw [e1, e2, e3]
  show (true && true && PyData.eqv c.1 (.int (-1)) && _) = _
  rw [Bool.true_and, Bool.true_and]
  congr 1
  rw [← List.map_dropLast, List.all_map, List.all_map]
  rfl
theorem all_notE {α : Type} {p : α → Bool} {xs : List α} {i : Nat} {x : α} (e : xs[i]? = some x) (h : p x = false) : xs.all p = false := by
  rw [Bool.eq_false_iff]
  intro z
  have := List.all_eq_true.mp z x (List.mem_of_getElem? e)
  rw [h] at this; cases this
theorem all_snocE {α : Type} {p : α → Bool} {ts : List α} {i : Nat} {t : α} (e : ts[i]? = some t) (h : (ts.take i).all p = true) (h2 : p t = true) : (ts.take (i + 1)).all p = true := by
  rw [List.take_add_one, e, List.all_append, h]
  simp [h2]
theorem ok_are_choices {c T : Addr} (F : Fun K "are_choices" "are_choices" s_are_choices f fd) (hc : fd.code = .ref c) (TB : GxR.TabB base mg c T) (f_is_tuple_of : Fn P w K mg base CX0 1 "is_tuple_of" ["worth", "many"] (spTupOf K)) (f_is_below : Fn P w K mg base CX0 1 "is_below" ["worth", "limit"] (spBelow K))
    (m_isinstance : mg "isinstance" = none) (m_tuple : mg "tuple" = none) (m_all : mg "all" = none) : FnOk P w K mg base CX0 5 f fd ["choices", "looks"] (spChoices K T) := by
  refine okC F hc sc_are_choices (fun vs H Q E h => ?_) (fun A outer s H vs Q E hr h => ?_)
  · obtain ⟨_, _, _, rfl, _⟩ := h; rfl
  obtain ⟨v, d, n, rfl, hd, hsh, hT, q⟩ := h
  have nd := sc_are_choices.nd
  refine ⟨_, pss_cons (ps_if (PW.pt (pw_or (pt_not (pt_val (pe_callB call_isi (by rfl) m_isinstance b_isinstance (pa_cons (pv 0) (pa_cons (pe_bltn (v := .ty "tuple") (by rfl) m_tuple b_tuple rfl) pa_nil))))) (pw_or (pt_not (pt_truth (pv 0) (by intro _; rfl))) (pw_or1 (pt_not (pt_val (pe_allG (own := [("choice", 2)]) (gT := gName 2) (k := 1) hr rfl m_all b_all TB rfl (gsc_by (N := n_are_choices) (sc := defScope s_are_choices) (by decide +kernel) (by decide +kernel)) nd (pi_tup (pv 0)) (fun A s H C cl code fp pn => pg_name (i := 2) nd rfl (.inl rfl)) (fun A s H C cl code fp pn hrA => pe_fn f_is_tuple_of hrA rfl pass0 (pa_cons (pv 2) (pa_cons pe_int pa_nil))))))))))
      (pss_one (ps_ret pe_bl))
      pss_nil)
    (pss_one (ps_ret (pe_and (pe_cmpR (op_eqD hr.units) (pe_ix ix_tup (pe_ix ix_tup (pv 0) (pe_un un_neg pe_int) (fun _ _ => rfl)) pe_int (fun _ _ => rfl)) (pe_un un_neg pe_int) (nomark _)) (pe_one (pe_allG (own := [("look", 3), ("_", 4)]) (gT := gTup K 2 (gCons (gName 3) (gCons (gName 4) gNil))) (k := 1) hr rfl m_all b_all TB rfl (gsc_by (N := n_are_choices) (sc := defScope s_are_choices) (by decide +kernel) (by decide +kernel)) nd (pi_tup (pe_slice sl_tupA (pv 0) po_none (po_some (pe_un un_neg pe_int)))) (fun A s H C cl code fp pn => pg_tup rfl (pgs_cons (pg_name (i := 3) nd rfl (.inl rfl)) (pgs_cons (pg_name (i := 4) nd rfl (.inl rfl)) pgs_nil))) (fun A s H C cl code fp pn hrA => pe_fn f_is_below hrA rfl pass0 (pa_cons (pv 3) (pa_cons (pv 1) pa_nil)))))))), ?_⟩
  refine ⟨_, rfl, _, _, _, _, _, rfl, .ty "tuple", hd.ty, kit_tup d, _, rfl, ?_⟩
  have q0 := q H (Gr.refl H)
  cases d with
  | none => exact iteT (iteT q0)
  | bool b => exact iteT (iteT q0)
  | int i => exact iteT (iteT q0)
  | str x => exact iteT (iteT q0)
  | list ds => exact iteT (iteT q0)
  | dict ds => exact iteT (iteT q0)
  | tuple cs =>
  obtain ⟨a, vs, rfl, hs, ha⟩ := hd.tupI
  have hvl := ha.length
  have hemp : vs.isEmpty = cs.isEmpty := by cases vs <;> cases cs <;> first | rfl | (simp at hvl)
  refine iteF ⟨_, rfl, _, .inr (.inl ⟨vs, hs, rfl⟩), ?_⟩
  rw [hemp]
  cases he : cs.isEmpty with
  | true =>
    have e : cs = [] := List.isEmpty_iff.mp he
    subst e
    exact iteT (iteT q0)
  | false =>
  refine iteF ?_
  refine ⟨_, rfl, a, rfl, ⟨vs, hs⟩, hT, fun H3 hT3 => ?_⟩
  have g3 := Tabbed.gr hT hT3
  refine gw_tup (xs := vs) (fun i H' => H' = H3 ∧ (cs.take i).all (tupOfD · 2) = true) ⟨rfl, rfl⟩ (fun i H' _ hP => ?_) (fun i x H' hx hP => ?_) (fun H' hP => ?_)
  · rw [hP.1]; exact g3.sqT hs
  · obtain ⟨rfl, hall⟩ := hP
    obtain ⟨dt, hdt, hxd⟩ := ha.get hx
    refine ⟨rfl, _, rfl, dt, 2, x, rfl, hxd.gr g3, _, rfl, ?_⟩
    cases htd : tupOfD dt 2 with
    | true => exact iteT ⟨rfl, all_snocE hdt hall htd⟩
    | false =>
      refine iteF ⟨_, rfl, iteT ?_⟩
      have q1 := q H' g3
      rw [choices_nopair (all_notE (p := (tupOfD · 2)) hdt htd)] at q1
      exact q1
  obtain ⟨rfl, hall⟩ := hP
  rw [hvl, List.take_length] at hall
  refine ⟨_, rfl, iteF ?_⟩
  obtain ⟨r, rfl⟩ := pairs_of_all hall
  rw [List.length_map] at hvl
  have hrne : r ≠ [] := fun z => by rw [z] at he; cases he
  obtain ⟨c, hc⟩ : ∃ c, r.getLast? = some c := by
    cases hl : r.getLast? with
    | none => exact absurd (List.getLast?_eq_none_iff.mp hl) hrne
    | some c => exact ⟨c, rfl⟩
  have q' : ∀ H'', Gr [] H H'' → Q (.bl (PyData.eqv c.1 (.int (-1)) && (r.dropLast.map (·.1)).all (belowD · n))) H'' := fun H'' g => by
    have := q H'' g
    rw [show (PyData.tuple (r.map chD)) = rowCD r from rfl, row_last hc] at this
    exact this
  have hrl : 0 < r.length := List.length_pos_iff.mpr hrne
  have hlast : r[r.length - 1]? = some c := by rw [← List.getLast?_eq_getElem?]; exact hc
  have hsq := g3.sqT hs
  have ha3 := ha.gr g3
  obtain ⟨lv, hlv, hld⟩ := ha3.at (i := r.length - 1) (d := chD c) (by rw [List.getElem?_map, hlast]; rfl)
  obtain ⟨la, l1, l2, rfl, hsl, hl1, hl2⟩ := dp_two hld
  have hcm : c ∈ r := List.mem_of_getElem? hlast
  have hshc : SeqAt.shaped c.1 = true := shaped_mem (ds := [c.1, c.2]) (shaped_mem hsh (List.mem_map.mpr ⟨c, hcm, rfl⟩)) (by simp)
  have hat : atI vs (-1) = some (.ref la) := atI_end (n := r.length) (by omega) hlv
  refine ⟨_, rfl, _, rfl, a, vs, -1, .ref la, rfl, rfl, hsq, hat, la, _, 0, l1, rfl, rfl, hsl, atI_nat (j := 0) rfl, ?_⟩
  refine ⟨_, rfl, c.1, .int (-1), hl1, .int _, hshc, shaped_int _, _, rfl, ?_⟩
  cases hq : PyData.eqv c.1 (.int (-1)) with
  | false => rw [hq] at q'; exact iteF (q' _ g3)
  | true =>
  rw [hq] at q'
  have hdd : Dp K H' (.ref a) (.tuple (r.map chD)) := .tup hsq ha3
  refine iteT ⟨_, rfl, _, rfl, -1, rfl, ?_⟩
  refine init_data hdd (by rw [List.length_map]; exact hrl) fun H5 x5 g5 hx5 => ?_
  rw [List.length_map, ← List.map_take, ← List.dropLast_eq_take] at hx5
  obtain ⟨b, us, rfl, hsb, hus⟩ := hx5.tupI
  have lus := hus.length
  rw [List.length_map] at lus
  have g15 := g3.trans g5
  refine ⟨b, rfl, ⟨us, hsb⟩, g15.tab _ hT, fun H6 hT6 => ?_⟩
  have g6 := Tabbed.gr (g15.tab _ hT) hT6
  refine gw_tup (xs := us) (fun i H' => H' = H6 ∧ ((r.dropLast.take i).map (·.1)).all (belowD · n) = true) ⟨rfl, rfl⟩ (fun i H' _ hP => ?_) (fun i x H' hx hP => ?_) (fun H' hP => ?_)
  · rw [hP.1]; exact g6.sqT hsb
  · obtain ⟨rfl, hall⟩ := hP
    obtain ⟨dt, hdt, hxd⟩ := hus.get hx
    rw [List.getElem?_map] at hdt
    cases ec : r.dropLast[i]? with
    | none => rw [ec] at hdt; cases hdt
    | some ch =>
    rw [ec] at hdt
    cases hdt
    obtain ⟨ca, y1, y2, rfl, hsc, hy1, hy2⟩ := dp_two hxd
    refine ⟨ca, _, rfl, g6.sqT hsc, rfl, y1, _, rfl, y2, _, rfl, rfl, rfl, ?_⟩
    refine ⟨_, rfl, _, rfl, ch.1, n, y1, rfl, hy1.gr g6, _, rfl, ?_⟩
    cases hb : belowD ch.1 n with
    | true =>
      refine iteT ⟨rfl, ?_⟩
      rw [List.take_add_one, ec, Option.toList_some, List.map_append, List.all_append, hall]
      simp [hb]
    | false =>
      refine iteF ?_
      have e : (r.dropLast.map (·.1)).all (belowD · n) = false := all_notE (x := ch.1) (i := i) (by rw [List.getElem?_map, ec]; rfl) hb
      rw [e] at q'
      exact q' _ (g15.trans g6)
  · obtain ⟨rfl, hall⟩ := hP
    rw [lus, List.take_length] at hall
    rw [hall] at q'
    exact q' _ (g15.trans g6)
end
end LW
set_option maxHeartbeats 4000000
namespace LW
open PySem PySem.Spec PyProof.Rows L2
section
variable {P : Program} {w : World} {K : PySem.W.Frag} {mg : Str → Option Value} {base : Heap} {f : Addr} {fd : FuncData}
abbrev n_is_state_T : List Str := ["state", "looks", "choices"]
theorem sc_is_state_T : FnScope n_is_state_T ["state", "looks"] (defScope s_is_state_transformation) := ⟨rfl, rfl, rfl, by decide +kernel, rfl, by decide +kernel, by decide +kernel⟩
theorem tupOf_len {d : PyData} {n : Nat} (h : tupOfD d n = true) : ∃ ds, d = .tuple ds ∧ ds.length = n := by
  unfold tupOfD at h
  split at h
  · rename_i ds
    have := of_decide_eq_true h
    exact ⟨ds, rfl, by omega⟩
  · cases h
theorem ok_is_state_T {c T T' : Addr} {tL : Tok} (F : Fun K "is_state" "is_state" s_is_state_transformation f fd) (hc : fd.code = .ref c) (TB : GxR.TabB base mg c T') (f_is_tuple_of : Fn P w K mg base CX0 6 "is_tuple_of" ["worth", "many"] (spTupOf K)) (f_are_choices : Fn P w K mg base CX0 5 "are_choices" ["choices", "looks"] (spChoices K T))
    (m_all : mg "all" = none) (i_LABELS : mg "LABELS" = some (.int 5 tL)) : FnOk P w K mg base CX0 9 f fd ["state", "looks"] (spStateT K T T') := by
  refine okC F hc sc_is_state_T (fun vs H Q E h => ?_) (fun A outer s H vs Q E hr h => ?_)
  · obtain ⟨_, _, _, rfl, _⟩ := h; rfl
  obtain ⟨v, d, n, rfl, hd, hsh, hT, hT', q⟩ := h
  have nd := sc_is_state_T.nd
  have hr6 := hr.mono (show 6 ≤ 8 by omega)
  refine ⟨_, pss_cons (ps_if (PW.pt (pw_or (pt_not (pt_val (pe_fn f_is_tuple_of hr6 rfl pass0 (pa_cons (pv 0) (pa_cons pe_int pa_nil))))) (pw_or1 (pt_not (pt_val (pe_fn f_is_tuple_of hr6 rfl pass0 (pa_cons (pe_ix ix_tup (pv 0) pe_int (fun _ _ => rfl)) (pa_cons (pe_gint i_LABELS rfl) pa_nil))))))))
      (pss_one (ps_ret pe_bl))
      pss_nil)
    (pss_one (ps_ret (pe_allG (own := [("choices", 2)]) (gT := gName 2) (k := 5) hr rfl m_all b_all TB rfl (gsc_by (N := n_is_state_T) (sc := defScope s_is_state_transformation) (by decide +kernel) (by decide +kernel)) nd (pi_tup (pe_ix ix_tup (pv 0) pe_int (fun _ _ => rfl))) (fun A s H C cl code fp pn => pg_name (i := 2) nd rfl (.inl rfl)) (fun A s H C cl code fp pn hrA => pe_fn f_are_choices hrA rfl pass0 (pa_cons (pv 2) (pa_cons (pv 1) pa_nil)))))), ?_⟩
  refine ⟨_, rfl, d, 2, v, rfl, hd, _, rfl, ?_⟩
  cases h2 : tupOfD d 2 with
  | false =>
    refine iteT (iteT ?_)
    have q1 := q H (Gr.refl _)
    have e : stateTD d n = false := by
      unfold stateTD
      split
      · exact absurd h2 (by simp [tupOfD])
      · rfl
    rw [e] at q1
    exact q1
  | true =>
  obtain ⟨e0, e1, rfl⟩ := tupOf2 h2
  obtain ⟨a, x0, x1, rfl, hs, h0, h1⟩ := dp_two hd
  refine iteF ⟨_, rfl, a, _, 1, _, rfl, rfl, hs, atI_nat (j := 1) rfl, e1, 5, x1, rfl, h1, _, rfl, ?_⟩
  cases h5 : tupOfD e1 5 with
  | false =>
    refine iteT ?_
    have q1 := q H (Gr.refl _)
    have e : stateTD (.tuple [e0, e1]) n = false := by
      unfold stateTD
      split
      · rename_i x cs hx
        injection hx with hx
        injection hx with hx1 hx2
        injection hx2 with hx2
        subst hx2
        have : ¬ cs.length = 5 := fun z => by
          have : tupOfD (.tuple cs) 5 = true := by simp [tupOfD, z]
          rw [this] at h5; cases h5
        rw [decide_eq_false this]; rfl
      · rfl
    rw [e] at q1
    exact q1
  | true =>
  obtain ⟨cs, rfl, h5'⟩ := tupOf_len (n := 5) h5
  obtain ⟨b, us, rfl, hsb, hus⟩ := h1.tupI
  have lus := hus.length
  have q' : ∀ H', Gr [] H H' → Q (.bl (cs.all (choicesD · n))) H' := fun H' g => by
    have := q H' g
    rw [show stateTD (.tuple [e0, .tuple cs]) n = (decide (cs.length = 5) && cs.all (choicesD · n)) from rfl, decide_eq_true h5', Bool.true_and] at this
    exact this
  refine iteF ⟨_, rfl, a, _, 1, _, rfl, rfl, hs, atI_nat (j := 1) rfl, b, rfl, ⟨us, hsb⟩, hT', fun H3 hT3 => ?_⟩
  have g3 := Tabbed.gr hT' hT3
  refine gw_tup (xs := us) (fun i H' => Gr [] H H' ∧ (cs.take i).all (choicesD · n) = true) ⟨g3, rfl⟩ (fun i H' _ hP => ?_) (fun i x H' hx hP => ?_) (fun H' hP => ?_)
  · exact hP.1.sqT hsb
  · obtain ⟨g, hall⟩ := hP
    obtain ⟨dt, hdt, hxd⟩ := hus.get hx
    have hst : SeqAt.shaped dt = true := shaped_mem (shaped_mem hsh (by simp)) (List.mem_of_getElem? hdt)
    refine ⟨rfl, _, rfl, _, rfl, x, dt, n, rfl, hxd.gr g, hst, g.tab _ hT, fun H5 g5 => ⟨_, rfl, ?_⟩⟩
    cases htd : choicesD dt n with
    | true => exact iteT ⟨g.trans g5, all_snocE hdt hall htd⟩
    | false =>
      refine iteF ?_
      rw [all_notE (p := (choicesD · n)) hdt htd] at q'
      exact q' _ (g.trans g5)
  · obtain ⟨g, hall⟩ := hP
    rw [lus, List.take_length] at hall
    rw [hall] at q'
    exact q' _ g
end
end LW
set_option maxHeartbeats 4000000
namespace LW
open PySem PySem.Spec PyProof.Rows L2
section
variable {P : Program} {w : World} {K : PySem.W.Frag} {mg : Str → Option Value} {base : Heap} {f : Addr} {fd : FuncData}
abbrev n_are_templates : List Str := ["states", "many", "waiting", "template", "level", "may_follow", "part"]
theorem sc_are_templates : FnScope n_are_templates ["states"] (defScope s_are_templates) := ⟨rfl, rfl, rfl, by decide +kernel, rfl, by decide +kernel, by decide +kernel⟩
theorem snoc_word {α β : Type} {R : α → β → Prop} {ys : List β} {z : β} : ∀ {xs : List α}, Paired R xs (ys ++ [z]) → ∃ xs' x, xs = xs' ++ [x] ∧ Paired R xs' ys ∧ R x z := fun {xs} h => by
  induction ys generalizing xs with
  | nil =>
    cases h with
    | cons r t => cases t; exact ⟨[], _, rfl, .nil, r⟩
  | cons y ys ih =>
    cases h with
    | cons r t =>
      obtain ⟨xs', x, rfl, h1, h2⟩ := ih t
      exact ⟨_ :: xs', x, rfl, .cons r h1, h2⟩
theorem ok_are_templates {c T : Addr} {t1 t2 : Tok} (F : Fun K "are_templates" "are_templates" s_are_templates f fd) (hc : fd.code = .ref c) (TB : GxR.TabB base mg c T) (f_waiting_templates : Fn P w K mg base CX0 5 "waiting_templates" ["states"] (spWaiting K)) (f_is_part : Fn P w K mg base CX0 2 "is_part" ["part", "states", "may_follow"] (spIsPart K))
    (m_isinstance : mg "isinstance" = none) (m_tuple : mg "tuple" = none) (m_len : mg "len" = none) (m_all : mg "all" = none) (i_MOST_LEVELS : mg "MOST_LEVELS" = some (.int 10 t1)) (i_MOST_PARTS : mg "MOST_PARTS" = some (.int 300 t2)) : FnOk P w K mg base CX0 6 f fd ["states"] (spAreTm K T) := by
  refine okC F hc sc_are_templates (fun vs H Q E h => ?_) (fun A outer s H vs Q E hr h => ?_)
  · obtain ⟨_, _, rfl, _⟩ := h; rfl
  obtain ⟨v, ss, rfl, hd, h12, hrows, hsh, hT, q⟩ := h
  have nd := sc_are_templates.nd
  refine ⟨_, pss_cons (ps_set (i := 1) nd rfl (.inl rfl) pe_int)
    (pss_cons (ps_set (i := 2) nd rfl (.inl rfl) (pe_fn f_waiting_templates hr rfl pass0 (pa_cons (pv 0) pa_nil)))
    (pss_cons (ps_while PassesOwn.never (pt_truth (pv 2) (by intro _; rfl))
      (pss_cons (ps_asg (pe_bm0 PySem.F.plainAttrs_list PySem.F.slot_list_pop PySem.F.type_list_pop mt_pop (pv 2)) (pg_tup rfl (pgs_cons (pg_name (i := 3) nd rfl (.inl rfl)) (pgs_cons (pg_name (i := 4) nd rfl (.inr rfl)) (pgs_cons (pg_name (i := 5) nd rfl (.inr rfl)) pgs_nil)))))
      (pss_cons (ps_if (PW.pt (pw_or (pt_not (pt_val (pe_callB call_isi (by rfl) m_isinstance b_isinstance (pa_cons (pv 3) (pa_cons (pe_bltn (v := .ty "tuple") (by rfl) m_tuple b_tuple rfl) pa_nil))))) (pw_or1 (pt_cmpR op_gt (pv 4) (pe_gint i_MOST_LEVELS rfl) (nomark _)))))
        (pss_one (ps_ret pe_bl))
        pss_nil)
      (pss_cons (ps_aug (i := 1) nd rfl (.inl rfl) (pe_callB call_len_seq (by rfl) m_len PySem.boot_len (pa_cons (pv 3) pa_nil)) ip_add)
      (pss_cons (ps_if (PW.pt (pw_or (pt_cmpR op_gt (pv 1) (pe_gint i_MOST_PARTS rfl) (nomark _)) (pw_or1 (pt_not (pt_val (pe_allG (own := [("part", 6)]) (gT := gName 6) (k := 2) (hr.mono (by omega)) rfl m_all b_all TB rfl (gsc_by (N := n_are_templates) (sc := defScope s_are_templates) (by decide +kernel) (by decide +kernel)) nd (pi_tup (pv 3)) (fun A s H C cl code fp pn => pg_name (i := 6) nd rfl (.inl rfl)) (fun A s H C cl code fp pn hrA => pe_fn f_is_part hrA rfl pass0 (pa_cons (pv 6) (pa_cons (pe_callB (r := rLen K) call_len_seq (by rfl) m_len PySem.boot_len (pa_cons (pv 0) pa_nil)) (pa_cons (pv 5) pa_nil))))))))))
        (pss_one (ps_ret pe_bl))
        pss_nil)
      (pss_one (ps_expr (pe_bm PySem.F.plainAttrs_list PySem.F.slot_list_extend PySem.F.type_list_extend mt_extend (pv 2) (pa_cons (pe_lc (own := [("part", 6)]) (g := gName 6) (tt := tTest (tOp rEq (tOp (rIxT K) (tVar 6) (tC (.int 0))) (tC (.str "node")))) (te := tTup (tCons (tOp (rIxT K) (tVar 6) (tC (.int 2))) (tCons (tOp (rI0 fun i j => .int (i + j)) (tVar 4) (tC (.int 1))) (tCons (tVar 5) tNil)))) rfl nd (pi_tup (pv 3)) (blkOk_by (N := n_are_templates) (sc := defScope s_are_templates) (own := [("part", 6)]) (by decide +kernel)) (fun s H C cl fp => pg_name (i := 6) nd rfl (.inl rfl)) (fun s H C cl fp => pts_one (pt_cmpR op_eq (pe_ix (r := rIxT K) ix_tup (pv 6) pe_int (fun _ _ => rfl)) pe_str (nomark _))) (fun s H C cl fp => pe_tup (pa_cons (pe_ix (r := rIxT K) ix_tup (pv 6) pe_int (fun _ _ => rfl)) (pa_cons (pe_op op_add (pv 4) pe_int) (pa_cons (pv 5) pa_nil))))) pa_nil)))))))))
    (pss_one (ps_ret pe_bl)))), ?_⟩
  obtain ⟨sa, svs, rfl, hss, hsal⟩ := hd.tupI
  have lsv := hsal.length
  rw [List.length_map] at lsv
  refine ⟨_, rfl, .ref sa, ss, rfl, hd, h12, hrows, fun H1 wl xs0 g1 nw hwl0 hp0 => ?_⟩
  have lw := waits_len h12 hrows
  have shw : ∀ p ∈ waits ss, SeqAt.shaped p.1 = true := fun p hp => by
    unfold waits at hp
    rcases List.mem_append.mp hp with hp | hp
    · obtain ⟨st, hst, rfl⟩ := List.mem_map.mp hp
      exact shaped_mem (ds := [st.1, .tuple (st.2.map rowCD)]) (shaped_mem hsh (List.mem_map.mpr ⟨st, hst, rfl⟩)) (by simp)
    · obtain ⟨st, hst, hp⟩ := List.mem_flatMap.mp hp
      obtain ⟨ch, hch, rfl⟩ := List.mem_map.mp hp
      obtain ⟨row, hrow, hch⟩ := List.mem_flatten.mp hch
      have h1 := shaped_mem (ds := [st.1, .tuple (st.2.map rowCD)]) (d := .tuple (st.2.map rowCD)) (shaped_mem hsh (List.mem_map.mpr ⟨st, hst, rfl⟩)) (by simp)
      have h2 : SeqAt.shaped (rowCD row) = true := shaped_mem h1 (List.mem_map.mpr ⟨row, hrow, rfl⟩)
      have h3 : SeqAt.shaped (chD ch) = true := shaped_mem h2 (List.mem_map.mpr ⟨ch, hch, rfl⟩)
      exact shaped_mem (ds := [ch.1, ch.2]) h3 (by simp)
  generalize hn : ss.length = n at q h12 lsv
  generalize hW0 : waits ss = W0 at hp0 q lw shw
  refine ⟨fun m σ H2 => ∃ (many : Nat) (ws : List Wait) (xs : List V) (y3 y4 y5 : Option V), m = wNd ws ∧ σ = [some (.ref sa), some (.int many), some (.ref wl), y3, y4, y5, none] ∧ H2 wl = some (.lst xs) ∧
    Paired (Wt3 K H H2) xs ws ∧ Gr [] H H2 ∧ many ≤ 300 ∧ ws.length ≤ many + 24012 ∧ (∀ p ∈ ws, SeqAt.shaped p.1 = true) ∧ goalT n ws many = goalT n W0 0, ⟨_, 0, W0, xs0, none, none, none, rfl, rfl, hwl0, hp0, g1, by omega, by omega, shw, rfl⟩, ?_⟩
  rintro m σ H2 ⟨many, ws, xs, y3, y4, y5, rfl, rfl, hwl, hp, g2, hm, hl, hshw, hgoal⟩
  refine ⟨_, rfl, _, .inl ⟨xs, SqL.of hwl, rfl⟩, ?_⟩
  rcases ws.eq_nil_or_concat with rfl | ⟨ws, ⟨d0, lv, mf⟩, rfl⟩
  · cases hp
    refine iteF ?_
    have e : goalT n W0 0 = true := by rw [← hgoal]; simp [goalT, wForm, wSz, hm]
    rw [e] at q
    exact q H2 g2
  rw [List.concat_eq_append] at hp hl hgoal hshw ⊢
  obtain ⟨xs, x, rfl, hp0', tp, v0, rfl, htp, hd0⟩ := snoc_word hp
  have hne : (!(xs ++ [V.ref tp]).isEmpty) = true := by simp
  rw [hne]
  refine iteT ⟨fun σ' H' => ∃ m', m' < wNd (ws ++ [(d0, lv, mf)]) ∧ (∃ (many : Nat) (ws : List Wait) (xs : List V) (y3 y4 y5 : Option V), m' = wNd ws ∧ σ' = [some (.ref sa), some (.int many), some (.ref wl), y3, y4, y5, none] ∧ H' wl = some (.lst xs) ∧
    Paired (Wt3 K H H') xs ws ∧ Gr [] H H' ∧ many ≤ 300 ∧ ws.length ≤ many + 24012 ∧ (∀ p ∈ ws, SeqAt.shaped p.1 = true) ∧ goalT n ws many = goalT n W0 0), fun σ' H' z => z, ?_⟩
  have hlast : (xs ++ [V.ref tp])[(xs ++ [V.ref tp]).length - 1]? = some (.ref tp) := by simp
  have hne2 : tp ≠ wl := fun z => by rw [z, hwl] at htp; cases htp
  have hdl : (xs ++ [V.ref tp]).dropLast = xs := by simp
  refine ⟨_, rfl, .inl ⟨rfl, _, SqL.of hwl⟩, wl, _, .ref tp, rfl, rfl, hwl, hlast, ?_⟩
  rw [hdl]
  have hw0 : H wl = none := nw
  generalize hH3 : upd H2 wl (.lst xs) = H3
  have hwl3 : H3 wl = some (.lst xs) := by rw [← hH3]; exact upd_same
  have g3 : Gr [] H H3 := by rw [← hH3]; exact g2.put0 hw0
  have hp3 : Paired (Wt3 K H H3) xs ws := paired_imp (Wt3.gr (m := [wl]) (by rw [← hH3]; exact Gr.put hwl (fun _ z => by cases z) (by simp)) (fun b hb => by rw [List.mem_singleton.mp hb]; exact ⟨_, hwl⟩)) hp0'
  have htp3 : H3 tp = some (.tup [v0, natV lv, .bl mf]) := by rw [← hH3, upd_ne hne2]; exact htp
  refine ⟨tp, _, rfl, SqT.of htp3, rfl, v0, _, rfl, natV lv, _, rfl, .bl mf, _, rfl, rfl, ?_⟩
  have hd3 := hd0.gr g3
  refine ⟨_, rfl, _, _, _, _, _, rfl, .ty "tuple", hd3.ty, kit_tup d0, _, rfl, ?_⟩
  have bad : tmF d0 n mf lv = false → Q (.bl false) H3 := fun z => by
    have e : goalT n W0 0 = false := by rw [← hgoal]; exact goalT_bad z
    rw [e] at q
    exact q H3 g3
  cases d0 with
  | none => exact iteT (iteT (bad (by simp [tmF])))
  | bool b => exact iteT (iteT (bad (by simp [tmF])))
  | int i => exact iteT (iteT (bad (by simp [tmF])))
  | str x => exact iteT (iteT (bad (by simp [tmF])))
  | list ds => exact iteT (iteT (bad (by simp [tmF])))
  | dict ds => exact iteT (iteT (bad (by simp [tmF])))
  | tuple ps =>
  obtain ⟨a, vs, rfl, hs0, ha⟩ := hd0.tupI
  have hs := g3.sqT hs0
  have hvl := ha.length
  refine iteF ⟨_, rfl, _, _, rfl, rfl, _, rfl, ?_⟩
  by_cases h10 : lv ≤ 10
  case neg =>
    rw [decide_eq_true (show ((10 : Int) < (lv : Int)) by omega)]
    exact iteT (bad (by rw [tmF, decide_eq_false h10]; rfl))
  rw [decide_eq_false (show ¬ ((10 : Int) < (lv : Int)) by omega)]
  refine iteF ?_
  refine ⟨_, rfl, _, rfl, a, vs, rfl, .inr hs, _, _, rfl, rfl, ?_⟩
  refine ⟨_, rfl, _, _, rfl, rfl, _, rfl, ?_⟩
  have hmany : (many : Int) + ((vs.length : Nat) : Int) = ((many + ps.length : Nat) : Int) := by rw [hvl]; omega
  by_cases h300 : 300 < many + ps.length
  · rw [decide_eq_true (show ((300 : Int) < (many : Int) + ((vs.length : Nat) : Int)) by rw [hmany]; omega)]
    refine iteT (iteT ?_)
    have e : goalT n W0 0 = false := by rw [← hgoal]; exact goalT_many h300
    rw [e] at q
    exact q H3 g3
  rw [decide_eq_false (show ¬ ((300 : Int) < (many : Int) + ((vs.length : Nat) : Int)) by rw [hmany]; omega)]
  refine iteF ?_
  have hT3 : GxR.TabG H3 T := g3.tab T hT
  have hshp : ∀ p ∈ ps, SeqAt.shaped p = true := fun p hpm => shaped_mem (hshw (.tuple ps, lv, mf) (by simp)) hpm
  refine ⟨_, rfl, a, rfl, ⟨vs, hs⟩, hT3, fun H4 hT4 => gw_tup (xs := vs) (fun i H' => Gr [] H3 H' ∧ (ps.take i).all (partD · n mf) = true) ⟨Tabbed.gr hT3 hT4, rfl⟩ (fun i H' _ hP => hP.1.sqT hs) (fun i x H' hx hP => ?_) (fun H' hP => ?_)⟩
  · obtain ⟨g, hall⟩ := hP
    obtain ⟨dt, hdt, hxd⟩ := ha.get hx
    have gg := g3.trans g
    refine ⟨rfl, _, rfl, _, rfl, sa, svs, rfl, .inr (gg.sqT hss), _, rfl, ?_⟩
    refine ⟨dt, x, n, mf, (by show [x, V.int (svs.length : Nat), V.bl mf] = _; rw [lsv]), hxd.gr gg, hshp dt (List.mem_of_getElem? hdt), fun H5 g5 => ⟨_, rfl, ?_⟩⟩
    cases htd : partD dt n mf with
    | true => exact iteT ⟨g.trans g5, all_snocE (p := fun z => partD z n mf) hdt hall htd⟩
    | false =>
      refine iteF ⟨_, rfl, iteT ?_⟩
      have hbad : tmAll ps n mf lv = false := by
        rw [tmAll_of, all_notE (p := (partD · n mf)) hdt htd]; rfl
      have e : goalT n W0 0 = false := by rw [← hgoal]; exact goalT_bad (by rw [tmF, hbad, Bool.and_false])
      rw [e] at q
      exact q H5 (gg.trans g5)
  obtain ⟨g34, hall⟩ := hP
  rw [hvl, List.take_length] at hall
  refine ⟨_, rfl, iteF ?_⟩
  have g4 : Gr [] H H' := g3.trans g34
  have hwl4 : H' wl = some (.lst xs) := g34.lst (by simp) hwl3
  have hs4 := g34.sqT hs
  refine ⟨_, rfl, .inl ⟨rfl, _, SqL.of hwl4⟩, ?_⟩
  refine ⟨_, rfl, a, rfl, ⟨vs, hs4⟩, fun D nD => ?_⟩
  have P0 : Pile K H (upd H' D (.lst [])) D [] := ⟨g4.free _ nD, g4.trans (Gr.new nD), [], upd_same, .nil⟩
  refine lc_tup (xs := vs) (fun i H5 => Pile K H H5 D (kidsW (ps.take i) lv mf) ∧ Gr [] H' H5) ⟨P0, Gr.new nD⟩ (fun i H5 _ hP => hP.2.sqT hs4) (fun i x H5 hx hP => ?_) (fun H5 hP => ?_)
  · obtain ⟨hP, g5⟩ := hP
    obtain ⟨dt, hdt, hxd⟩ := ha.get hx
    have hpd : partD dt n mf = true := List.all_eq_true.mp hall dt (List.mem_of_getElem? hdt)
    have hi : i < ps.length := (List.getElem?_eq_some_iff.mp hdt).1
    obtain ⟨zs, hDz, hzs⟩ := hP.ex
    have lzs := Paired.length hzs
    have lk : (kidsW (ps.take i) lv mf).length ≤ 300 := by
      unfold kidsW
      rw [List.length_map]
      have := List.length_filterMap_le tmKid (ps.take i)
      rw [List.length_take] at this
      omega
    rcases partD_shape hpd with ⟨b, t, rfl, _, _⟩ | ⟨_, w, z, rfl, hw, _, _⟩
    · obtain ⟨xa, u0, u1, u2, rfl, hsx, k0, k1, k2⟩ := dp_three hxd
      cases k0; cases k1
      have hsx5 := (g4.trans g5).sqT hsx
      refine ⟨rfl, _, rfl, xa, _, 0, _, rfl, rfl, hsx5, atI_nat (j := 0) rfl, rfl, _, rfl, iteTd (by simp) ?_⟩
      refine ⟨_, rfl, xa, _, 2, _, rfl, rfl, hsx5, atI_nat (j := 2) rfl, _, rfl, _, _, rfl, rfl, _, rfl, (by show (3 : Nat) ≤ sizeLine; decide), fun kp nkp => ?_⟩
      have el : V.int ((lv : Int) + 1) = natV (lv + 1) := by show V.int _ = V.int _; congr 1
      have ez : (fun i j : Int => V.int (i + j)) (lv : Int) 1 = natV (lv + 1) := el
      obtain ⟨e1, hput⟩ := hP.put (lv := lv + 1) (mf := mf) nkp k2
      refine ⟨zs, ?_, small4 (by omega), ?_, ?_⟩
      · rw [ez]; exact e1.trans hDz
      · rw [ez]
        have e9 : kidsW (ps.take (i + 1)) lv mf = kidsW (ps.take i) lv mf ++ [(t, lv + 1, mf)] := by
          unfold kidsW
          rw [List.take_add_one, hdt, Option.toList_some, List.filterMap_append, List.map_append]; rfl
        rw [e9]
        exact hput zs hDz
      · exact (g5.trans (Gr.new nkp)).put0 nD
    · obtain ⟨xa, u0, u1, rfl, hsx, k0, k1⟩ := dp_two hxd
      cases k0; cases k1
      have hsx5 := (g4.trans g5).sqT hsx
      refine ⟨rfl, _, rfl, xa, _, 0, _, rfl, rfl, hsx5, atI_nat (j := 0) rfl, rfl, _, rfl, iteFd ?_ ⟨?_, g5⟩⟩
      · rcases hw with rfl | rfl
        · decide
        · decide
      · have e9 : kidsW (ps.take (i + 1)) lv mf = kidsW (ps.take i) lv mf := by
          unfold kidsW
          rw [List.take_add_one, hdt, Option.toList_some, List.filterMap_append, List.map_append]
          simp [tmKid]
        rw [e9]
        exact hP
  · obtain ⟨hP, g5⟩ := hP
    rw [hvl, List.take_length] at hP
    obtain ⟨zs, hDz, hzs⟩ := hP.ex
    have lzs := Paired.length hzs
    have lk : (kidsW ps lv mf).length ≤ ps.length := by
      unfold kidsW
      rw [List.length_map]
      exact List.length_filterMap_le tmKid ps
    have hwl5 : H5 wl = some (.lst xs) := g5.lst (by simp) hwl4
    have hxl : xs.length = ws.length := Paired.length hp3
    have hwsl : ws.length + 1 ≤ many + 24012 := by simpa using hl
    refine ⟨wl, D, xs, zs, rfl, rfl, hwl5, hDz, Nat.le_of_lt (small4 (by omega)), ?_⟩
    refine ⟨_, wNd_step, many + ps.length, ws ++ kidsW ps lv mf, xs ++ zs, some (.ref a), some (natV lv), some (.bl mf), rfl, by show [some (.ref sa), some (V.int ((many : Int) + ((vs.length : Nat) : Int))), some (.ref wl), some (.ref a), some (natV lv), some (.bl mf), none] = _; rw [hmany], upd_same, ?_, (g4.trans g5).put0 hw0, by omega, by rw [List.length_append]; omega, ?_, by rw [← hgoal]; exact (goalT_step hall h10).symm⟩
    · have gw : Gr [wl] H5 (upd H5 wl (.lst (xs ++ zs))) := Gr.put hwl5 (fun _ z => by cases z) (by simp)
      have hm1 : ∀ b ∈ [wl], ∃ ys, H5 b = some (.lst ys) := fun b hb => by rw [List.mem_singleton.mp hb]; exact ⟨_, hwl5⟩
      exact paired_app (paired_imp (Wt3.gr gw hm1) (paired_imp (Wt3.gr (m := []) (g34.trans g5) (fun b hb => by cases hb)) hp3)) (paired_imp (Wt3.gr gw hm1) hzs)
    · intro p hpm
      rcases List.mem_append.mp hpm with hpm | hpm
      · exact hshw p (by simp [hpm])
      · unfold kidsW at hpm
        obtain ⟨t, ht, rfl⟩ := List.mem_map.mp hpm
        obtain ⟨pp, hpp, hk⟩ := List.mem_filterMap.mp ht
        have h1 := hshp pp hpp
        unfold tmKid at hk
        split at hk
        · cases hk
          exact shaped_mem h1 (by simp)
        · cases hk
end
end LW
set_option maxHeartbeats 4000000
namespace LW
open PySem PySem.Spec PyProof.Rows L2
section
variable {P : Program} {w : World} {K : PySem.W.Frag} {mg : Str → Option Value} {base : Heap} {f : Addr} {fd : FuncData}
abbrev n_is_transformation : List Str := ["m", "looks", "states", "state"]
theorem sc_is_transformation : FnScope n_is_transformation ["m"] (defScope s_is_transformation) := ⟨rfl, rfl, rfl, by decide +kernel, rfl, by decide +kernel, by decide +kernel⟩
theorem ok_is_trans {c T1 T2 T3 T4 T5 T6 T7 : Addr} {t1 t2 : Tok} (F : Fun K "is_transformation" "is_transformation" s_is_transformation f fd) (hc : fd.code = .ref c) (TB : GxR.TabB base mg c T6) (f_is_tuple_of : Fn P w K mg base CX0 12 "is_tuple_of" ["worth", "many"] (spTupOf K)) (f_is_schema : Fn P w K mg base CX0 12 "is_schema" ["s"] (spIsSchema K T1 T2 T3))
    (f_is_state : Fn P w K mg base CX0 9 "is_state_transformation" ["state", "looks"] (spStateT K T4 T5)) (f_are_templates : Fn P w K mg base CX0 12 "are_templates" ["states"] (spAreTm K T7))
    (m_isinstance : mg "isinstance" = none) (m_tuple : mg "tuple" = none) (m_len : mg "len" = none) (m_all : mg "all" = none) (i_MOST_LOOKS : mg "MOST_LOOKS" = some (.int 8 t1)) (i_MOST_STATES : mg "MOST_STATES_transformation" = some (.int 12 t2)) :
    FnOk P w K mg base CX0 13 f fd ["m"] (spIsTrans K T1 T2 T3 T4 T5 T6 T7) := by
  refine okC F hc sc_is_transformation (fun vs H Q E h => ?_) (fun A outer s H vs Q E hr h => ?_)
  · obtain ⟨_, _, rfl, _⟩ := h; rfl
  obtain ⟨v, d, rfl, hd, hpre, hTs, q⟩ := h
  have nd := sc_is_transformation.nd
  have hr9 := hr.mono (show 9 ≤ 12 by omega)
  have tb : ∀ {H' : Hp} {T : Addr}, Gr [] H H' → T ∈ [T1, T2, T3, T4, T5, T6, T7] → GxR.TabG H' T := fun g m => g.tab _ (hTs _ m)
  refine ⟨_, pss_cons (ps_if (pt_not (pt_val (pe_fn f_is_tuple_of hr rfl pass0 (pa_cons (pv 0) (pa_cons pe_int pa_nil)))))
      (pss_one (ps_ret pe_bl))
      pss_nil)
    (pss_cons (ps_asg (pv 0) (pg_tup rfl (pgs_cons (pg_name (i := 1) nd rfl (.inr rfl)) (pgs_cons (pg_name (i := 2) nd rfl (.inl rfl)) pgs_nil))))
    (pss_cons (ps_if (PW.pt (pw_or (pt_not (pt_val (pe_fn f_is_schema hr rfl pass0 (pa_cons (pv 1) pa_nil)))) (pw_or1 (pt_cmpR op_gt (pe_callB call_len_seq (by rfl) m_len PySem.boot_len (pa_cons (pv 1) pa_nil)) (pe_gint i_MOST_LOOKS rfl) (nomark _)))))
      (pss_one (ps_ret pe_bl))
      pss_nil)
    (pss_cons (ps_if (PW.pt (pw_or (pt_not (pt_val (pe_callB call_isi (by rfl) m_isinstance b_isinstance (pa_cons (pv 2) (pa_cons (pe_bltn (v := .ty "tuple") (by rfl) m_tuple b_tuple rfl) pa_nil))))) (pw_or1 (pt_not (pt_chain op_le op_le pe_int (pe_callB call_len_seq (by rfl) m_len PySem.boot_len (pa_cons (pv 2) pa_nil)) (pe_gint i_MOST_STATES rfl))))))
      (pss_one (ps_ret pe_bl))
      pss_nil)
    (pss_one (ps_ret (pe_and (pe_allG (own := [("state", 3)]) (gT := gName 3) (k := 9) hr rfl m_all b_all TB rfl (gsc_by (N := n_is_transformation) (sc := defScope s_is_transformation) (by decide +kernel) (by decide +kernel)) nd (pi_tup (pv 2)) (fun A s H C cl code fp pn => pg_name (i := 3) nd rfl (.inl rfl)) (fun A s H C cl code fp pn hrA => pe_fn f_is_state hrA rfl pass0 (pa_cons (pv 3) (pa_cons (pe_callB (r := rLen K) call_len_seq (by rfl) m_len PySem.boot_len (pa_cons (pv 1) pa_nil)) pa_nil)))) (pe_one (pe_fn f_are_templates hr rfl pass0 (pa_cons (pv 2) pa_nil))))))))), ?_⟩
  refine ⟨_, rfl, d, 2, v, rfl, hd, _, rfl, ?_⟩
  cases h2 : tupOfD d 2 with
  | false =>
    have q1 := q H (Gr.refl _)
    have e : transD d = false := by
      unfold transD
      split
      · exact absurd h2 (by simp [tupOfD])
      · rfl
    rw [e] at q1
    exact iteT q1
  | true =>
  obtain ⟨lk, st, rfl⟩ := tupOf2 h2
  obtain ⟨a, x0, x1, rfl, hs, h0, h1⟩ := dp_two hd
  refine iteF ⟨_, rfl, a, _, rfl, hs, rfl, x0, _, rfl, x1, _, rfl, rfl, ?_⟩
  refine ⟨_, rfl, lk, x0, rfl, h0, hpre.sc lk st rfl, tb (Gr.refl _) (by simp), tb (Gr.refl _) (by simp), tb (Gr.refl _) (by simp), fun H1 g1 => ⟨_, rfl, ?_⟩⟩
  cases hsc : schemaD lk with
  | false =>
    have q1 := q H1 g1
    have e : transD (.tuple [lk, st]) = false := by
      cases lk with
      | tuple l => cases st with
        | tuple s => show (schemaD (.tuple l) && _ && _ && _ && _ && _) = false; rw [hsc]; rfl
        | _ => rfl
      | _ => rfl
    rw [e] at q1
    exact iteT (iteT q1)
  | true =>
  cases lk with
  | tuple l =>
    obtain ⟨la, ls, rfl, hls, hll⟩ := (h0.gr g1).tupI
    have lls := hll.length
    refine iteF ⟨_, rfl, la, ls, rfl, .inr hls, _, _, rfl, rfl, _, rfl, ?_⟩
    by_cases h8 : l.length ≤ 8
    case neg =>
      rw [decide_eq_true (show ((8 : Int) < ((ls.length : Nat) : Int)) by omega)]
      have q1 := q H1 g1
      have e : transD (.tuple [.tuple l, st]) = false := by
        cases st with
        | tuple s => show (schemaD (.tuple l) && decide (l.length ≤ 8) && _ && _ && _ && _) = false; rw [decide_eq_false h8, Bool.and_false]; rfl
        | _ => rfl
      rw [e] at q1
      exact iteT q1
    rw [decide_eq_false (show ¬ ((8 : Int) < ((ls.length : Nat) : Int)) by omega)]
    refine iteF ?_
    have h1' := h1.gr g1
    refine ⟨_, rfl, _, _, _, _, _, rfl, .ty "tuple", h1'.ty, kit_tup st, _, rfl, ?_⟩
    have q1 := q H1 g1
    cases st with
    | none => exact iteT (iteT q1)
    | bool b => exact iteT (iteT q1)
    | int i => exact iteT (iteT q1)
    | str x => exact iteT (iteT q1)
    | list ds => exact iteT (iteT q1)
    | dict ds => exact iteT (iteT q1)
    | tuple ss =>
    obtain ⟨b, us, rfl, hsb, hus⟩ := h1'.tupI
    have lus := hus.length
    have q' : ∀ H', Gr [] H H' → Q (.bl (decide (1 ≤ ss.length) && decide (ss.length ≤ 12) && ss.all (stateTD · l.length) && goalT ss.length (waits (ss.map st0Of)) 0)) H' := fun H' g => by
      have := q H' g
      rw [show transD (.tuple [.tuple l, .tuple ss]) = (schemaD (.tuple l) && decide (l.length ≤ 8) && decide (1 ≤ ss.length) && decide (ss.length ≤ 12) && ss.all (stateTD · l.length) && goalT ss.length (waits (ss.map st0Of)) 0) from rfl, hsc, decide_eq_true h8, Bool.true_and, Bool.true_and] at this
      exact this
    clear q q1
    refine iteF ⟨_, rfl, b, us, rfl, .inr hsb, _, _, rfl, rfl, _, rfl, ?_⟩
    by_cases c1 : 1 ≤ ss.length
    case neg =>
      rw [decide_eq_false (show ¬ ((1 : Int) ≤ (us.length : Nat)) by omega)]
      rw [decide_eq_false c1] at q'
      exact iteF ⟨_, rfl, iteT (q' H1 g1)⟩
    rw [decide_eq_true (show ((1 : Int) ≤ (us.length : Nat)) by omega)]
    refine iteT ⟨_, _, rfl, rfl, _, rfl, ?_⟩
    by_cases c2 : ss.length ≤ 12
    case neg =>
      rw [decide_eq_false (show ¬ (((us.length : Nat) : Int) ≤ 12) by omega)]
      rw [decide_eq_false c2, Bool.and_false] at q'
      exact iteT (q' H1 g1)
    rw [decide_eq_true (show (((us.length : Nat) : Int) ≤ 12) by omega)]
    rw [decide_eq_true c1, decide_eq_true c2, Bool.true_and, Bool.true_and] at q'
    refine iteF ?_
    have hT6 : GxR.TabG H1 T6 := tb g1 (by simp)
    refine ⟨_, rfl, b, rfl, ⟨us, hsb⟩, hT6, fun H3 hT3 => ?_⟩
    have g13 := Tabbed.gr hT6 hT3
    have hsh2 : SeqAt.shaped (.tuple ss) = true := shaped_mem hpre.sh (by simp)
    refine gw_tup (xs := us) (fun i H' => Gr [] H1 H' ∧ (ss.take i).all (stateTD · l.length) = true) ⟨g13, rfl⟩ (fun i H' _ hP => hP.1.sqT hsb) (fun i x H' hx hP => ?_) (fun H' hP => ?_)
    · obtain ⟨g, hall⟩ := hP
      obtain ⟨dt, hdt, hxd⟩ := hus.get hx
      have gg := g1.trans g
      refine ⟨rfl, _, rfl, _, rfl, la, ls, rfl, .inr (g.sqT hls), ?_⟩
      refine ⟨x, dt, l.length, (by show [x, V.int (ls.length : Nat)] = _; rw [lls]), hxd.gr g, shaped_mem hsh2 (List.mem_of_getElem? hdt), tb gg (by simp), tb gg (by simp), fun H5 g5 => ⟨_, rfl, ?_⟩⟩
      cases htd : stateTD dt l.length with
      | true => exact iteT ⟨g.trans g5, all_snocE hdt hall htd⟩
      | false =>
        refine iteF ⟨_, rfl, iteF ?_⟩
        rw [all_notE (p := (stateTD · l.length)) hdt htd] at q'
        exact q' H5 (gg.trans g5)
    · obtain ⟨g, hall⟩ := hP
      rw [lus, List.take_length] at hall
      rw [hall] at q'
      refine ⟨_, rfl, iteT ?_⟩
      obtain ⟨sts, rfl, hsts⟩ := states_of_all hall
      have em : (sts.map st0D).map st0Of = sts := by
        rw [List.map_map]
        have : (st0Of ∘ st0D) = id := funext st0Of_st0D
        rw [this, List.map_id]
      rw [em, List.length_map] at q'
      refine ⟨_, rfl, .ref b, sts, rfl, .tup (g.sqT hsb) (hus.gr g), by simpa using c2, fun s hs => ⟨(hsts s hs).1, fun r hr => ?_⟩, hsh2, tb (g1.trans g) (by simp), fun H5 g5 => q' H5 ((g1.trans g).trans g5)⟩
      have := hpre.few _ _ rfl (st0D s) (List.mem_map.mpr ⟨s, hs, rfl⟩) s.1 (s.2.map rowCD) rfl (rowCD r) (List.mem_map.mpr ⟨r, hr, rfl⟩) (r.map chD) rfl
      simpa using this
  | _ => cases hsc
end
end LW
set_option maxHeartbeats 4000000
namespace LW
open PySem PySem.Spec PyProof.Rows L2
section
variable {P : Program} {w : World} {K : PySem.W.Frag} {mg : Str → Option Value} {base : Heap} {f : Addr} {fd : FuncData}
theorem sc_check_transformationX : FnScope ["m"] ["m"] (defScope s_check_transformation) := ⟨rfl, rfl, rfl, by decide +kernel, rfl, by decide +kernel, by decide +kernel⟩
theorem ok_checkTX {T1 T2 T3 T4 T5 T6 T7 CT : Addr} (F : Fun K "check_transformation" "check_transformation" s_check_transformation f fd) (f1 : Fn P w K mg base CX0 13 "is_transformation" ["m"] (spIsTrans K T1 T2 T3 T4 T5 T6 T7)) (B : XC K mg "BadTransformation" CT) : FnOk P w K mg base (XA.CXA P w) 14 f fd ["m"] (spCheckT K T1 T2 T3 T4 T5 T6 T7 CT) := by
  refine F.okA sc_check_transformationX (fun vs H Q E h => ?_) (fun cdv A outer s H vs Q E hr tk h => ?_)
  · obtain ⟨d, v, rfl, _⟩ := h; rfl
  obtain ⟨d, v, rfl, hd, hf, hT, qy, qn⟩ := h
  refine ⟨_, pss_one (ps_if (pt_not (pt_val (pe_fn f1 hr rfl pass0 (pa_cons (pv 0) pa_nil)))) (pss_one (ps_raiseC B rfl tk rfl)) pss_nil), ?_⟩
  refine ⟨_, rfl, v, d, rfl, hd, hf, hT, fun H' g => ⟨_, rfl, ?_⟩⟩
  cases e : transD d with
  | true => exact iteF (qy e H' g)
  | false => exact iteT ((qn e).gr g).now
end
end LW
set_option maxHeartbeats 2000000
namespace LW
open PySem PySem.Spec PyProof.Rows L2
/-! ### doors that refuse -/
theorem pss_no {X : Cx} {st : List Stmt} : PSs X st (fun _ _ _ => False) := ⟨fun _ _ _ _ _ _ h => h.elim⟩
theorem Fn.weak {P : Program} {w : World} {K : PySem.W.Frag} {mg : Str → Option Value} {base : Heap} {CX : CXT} {k : Nat} {x : Str} {ps : List Str} {sp sp' : Sp} (F : Fn P w K mg base CX k x ps sp) (h : ∀ vs H Q E, sp' vs H Q E → sp vs H Q E) : Fn P w K mg base CX k x ps sp' := by
  obtain ⟨f, fd, ok, m, kk, b⟩ := F.ex
  exact ⟨f, fd, ⟨fun vs H Q E z => ok.1 vs H Q E (h vs H Q E z), fun A outer s H args us vs Q E a1 a2 a3 a4 z => ok.2 A outer s H args us vs Q E a1 a2 a3 a4 (h vs H Q E z)⟩, m, kk, b⟩
inductive Ki where
  | S | T | D | o
def preK : Ki → PyData → Prop
  | .S, d => fewSc d
  | .T, d => TrPre d
  | _, _ => True
def verK : Ki → PyData → Option Nat
  | .S, d => if schemaD d then none else some 1
  | .T, d => if transD d then none else some 2
  | .D, d => if docD d then none else some 0
  | .o, _ => none
def verd : List Ki → List PyData → Option Nat
  | k :: ks, d :: ds => match verK k d with
    | some i => some i
    | none => verd ks ds
  | _, _ => none
def preds : List Ki → List PyData → Prop
  | k :: ks, d :: ds => preK k d ∧ preds ks ds
  | _, _ => True
def dA (D0 D1 D2 : Addr) : Nat → Addr
  | 0 => D0
  | 1 => D1
  | _ => D2
/-- it checks: None, or an exception of the right class -/
def spChk (K : PySem.W.Frag) (Ts : List Addr) (D0 D1 D2 : Addr) (ks : List Ki) : Sp := fun vs H Q E => ∃ ds, ds.length = ks.length ∧ DpAll K H vs ds ∧ preds ks ds ∧ Tbs Ts H ∧ (verd ks ds = none → ∀ H', Gr [] H H' → Q .non H') ∧ (∀ i, verd ks ds = some i → XE0 E (dA D0 D1 D2 i) H)
/-- it refuses -/
def spDoor (K : PySem.W.Frag) (Ts : List Addr) (D0 D1 D2 : Addr) (ks : List Ki) : Sp := fun vs H _ E => ∃ ds i, ds.length = ks.length ∧ DpAll K H vs ds ∧ preds ks ds ∧ Tbs Ts H ∧ verd ks ds = some i ∧ XE0 E (dA D0 D1 D2 i) H
theorem verd_bad {k : Ki} {ks : List Ki} {d : PyData} {ds : List PyData} {i : Nat} (h : verK k d = some i) : verd (k :: ks) (d :: ds) = some i := by
  simp only [verd, h]
theorem verd_ok {k : Ki} {ks : List Ki} {d : PyData} {ds : List PyData} (h : verK k d = none) : verd (k :: ks) (d :: ds) = verd ks ds := by
  simp only [verd, h]
theorem chk_S {K : PySem.W.Frag} {Ts : List Addr} {T1 T2 T3 D0 D1 D2 : Addr} (m1 : T1 ∈ Ts) (m2 : T2 ∈ Ts) (m3 : T3 ∈ Ts) (vs : List V) (H : Hp) (Q : VK) (E : XK) (h : spChk K Ts D0 D1 D2 [.S] vs H Q E) : spCheckSX K T1 T2 T3 D1 vs H Q E := by
  obtain ⟨ds, hl, hd, hp, hT, qy, qn⟩ := h
  match ds, hl with
  | [d], _ =>
    cases hd with
    | cons h1 h2 =>
      cases h2
      refine ⟨d, _, rfl, h1, hp.1, hT _ m1, hT _ m2, hT _ m3, fun e => qy ?_, fun e => qn 1 ?_⟩
      · simp [verd, verK, e]
      · simp [verd, verK, e]
theorem chk_D {K : PySem.W.Frag} {Ts : List Addr} {T D0 D1 D2 : Addr} (m1 : T ∈ Ts) (vs : List V) (H : Hp) (Q : VK) (E : XK) (h : spChk K Ts D0 D1 D2 [.D] vs H Q E) : spCheckDX K T D0 vs H Q E := by
  obtain ⟨ds, hl, hd, hp, hT, qy, qn⟩ := h
  match ds, hl with
  | [d], _ =>
    cases hd with
    | cons h1 h2 =>
      cases h2
      refine ⟨d, _, rfl, h1, hT _ m1, fun e => qy ?_, fun e => qn 0 ?_⟩
      · simp [verd, verK, e]
      · simp [verd, verK, e]
theorem chk_T {K : PySem.W.Frag} {Ts : List Addr} {T1 T2 T3 T4 T5 T6 T7 D0 D1 D2 : Addr} (m : ∀ T ∈ [T1, T2, T3, T4, T5, T6, T7], T ∈ Ts) (vs : List V) (H : Hp) (Q : VK) (E : XK) (h : spChk K Ts D0 D1 D2 [.T] vs H Q E) : spCheckT K T1 T2 T3 T4 T5 T6 T7 D2 vs H Q E := by
  obtain ⟨ds, hl, hd, hp, hT, qy, qn⟩ := h
  match ds, hl with
  | [d], _ =>
    cases hd with
    | cons h1 h2 =>
      cases h2
      refine ⟨d, _, rfl, h1, hp.1, fun T mT => hT _ (m T mT), fun e => qy ?_, fun e => qn 2 ?_⟩
      · simp [verd, verK, e]
      · simp [verd, verK, e]
/-- one check of several: the values checked are an arc of the values handed in -/
theorem chk_one {K : PySem.W.Frag} {Ts : List Addr} {D0 D1 D2 : Addr} {k : Ki} {v : V} {d : PyData} {H : Hp} {Q : VK} {E : XK} (h : Dp K H v d) (hp : preK k d) (hT : Tbs Ts H) (qy : verK k d = none → ∀ H', Gr [] H H' → Q .non H') (qn : ∀ i, verK k d = some i → XE0 E (dA D0 D1 D2 i) H) : spChk K Ts D0 D1 D2 [k] [v] H Q E := by
  refine ⟨[d], rfl, .cons h .nil, ⟨hp, trivial⟩, hT, fun e => qy ?_, fun i e => qn i ?_⟩
  · cases hv : verK k d with
    | none => rfl
    | some i => rw [verd_bad hv] at e; cases e
  · cases hv : verK k d with
    | none => rw [verd_ok hv] at e; cases e
    | some j => rw [verd_bad hv] at e; exact e
theorem verd_len {ks : List Ki} {ds : List PyData} {i : Nat} (h : verd ks ds = some i) : i < 3 := by
  induction ks generalizing ds with
  | nil => cases h
  | cons k ks ih =>
    cases ds with
    | nil => cases h
    | cons d ds =>
      cases hv : verK k d with
      | none => rw [verd_ok hv] at h; exact ih h
      | some j =>
        rw [verd_bad hv] at h
        cases h
        cases k <;> simp only [verK] at hv <;> (try split at hv) <;> cases hv <;> decide
theorem verd_app {ks ks' : List Ki} {ds ds' : List PyData} (hl : ds.length = ks.length) : verd (ks ++ ks') (ds ++ ds') = match verd ks ds with
    | some i => some i
    | none => verd ks' ds' := by
  induction ks generalizing ds with
  | nil =>
    cases ds with
    | nil => rfl
    | cons d ds => simp at hl
  | cons k ks ih =>
    cases ds with
    | nil => simp at hl
    | cons d ds =>
      have ih' := ih (ds := ds) (by simpa using hl)
      show verd (k :: (ks ++ ks')) (d :: (ds ++ ds')) = _
      cases hv : verK k d with
      | none => rw [verd_ok hv, verd_ok hv, ih']
      | some i => rw [verd_bad hv, verd_bad hv]
theorem dpAll_cons {K : PySem.W.Frag} {H : Hp} {vs : List V} {d : PyData} {ds : List PyData} (h : DpAll K H vs (d :: ds)) : ∃ v us, vs = v :: us ∧ Dp K H v d ∧ DpAll K H us ds := by
  cases h with
  | cons h1 h2 => exact ⟨_, _, rfl, h1, h2⟩
theorem len_1 {α : Type} {l : List α} (h : l.length = 1) : ∃ a, l = [a] := by
  match l, h with | [a], _ => exact ⟨a, rfl⟩
theorem len_2 {α : Type} {l : List α} (h : l.length = 2) : ∃ a b, l = [a, b] := by
  match l, h with | [a, b], _ => exact ⟨a, b, rfl⟩
theorem len_3 {α : Type} {l : List α} (h : l.length = 3) : ∃ a b c, l = [a, b, c] := by
  match l, h with | [a, b, c], _ => exact ⟨a, b, c, rfl⟩
theorem len_4 {α : Type} {l : List α} (h : l.length = 4) : ∃ a b c d, l = [a, b, c, d] := by
  match l, h with | [a, b, c, d], _ => exact ⟨a, b, c, d, rfl⟩
theorem len_6 {α : Type} {l : List α} (h : l.length = 6) : ∃ a b c d e f, l = [a, b, c, d, e, f] := by
  match l, h with | [a, b, c, d, e, f], _ => exact ⟨a, b, c, d, e, f, rfl⟩
theorem door_S {K : PySem.W.Frag} {Ts : List Addr} {D0 D1 D2 : Addr} {t : TA} {E : L2.St → XK} {σ : L2.St} {H : Hp} {Q : VK} {ks : List Ki} {ds : List PyData} {i : Nat} (h : DXs K σ H t ds) (hl : ds.length = ks.length) (hp : preds ks ds) (hT : Tbs Ts H) (hv : verd ks ds = some i) (hx : XE0 (E σ) (dA D0 D1 D2 i) H) : tCallS (spDoor K Ts D0 D1 D2 ks) E t σ H Q :=
  h H _ (Gr.refl _) fun H2 xs g hxs => ⟨ds, i, hl, hxs, hp, hT.gr g, hv, hx.gr g⟩
theorem chk_S' {K : PySem.W.Frag} {Ts : List Addr} {D0 D1 D2 : Addr} {t : TA} {E : L2.St → XK} {σ : L2.St} {H : Hp} {Q : VK} {ks : List Ki} {ds : List PyData} (h : DXs K σ H t ds) (hl : ds.length = ks.length) (hp : preds ks ds) (hT : Tbs Ts H) (qy : verd ks ds = none → ∀ H', Gr [] H H' → Q .non H') (qn : ∀ i, verd ks ds = some i → XE0 (E σ) (dA D0 D1 D2 i) H) : tCallS (spChk K Ts D0 D1 D2 ks) E t σ H Q :=
  h H _ (Gr.refl _) fun H2 xs g hxs => ⟨ds, hl, hxs, hp, hT.gr g, fun e H' g' => qy e H' (g.trans g'), fun i e => (qn i e).gr g⟩
def doc9 (a : Int) : PyData := .tuple [.tuple [.int a, .tuple []]]
theorem DX.doc9 {K : PySem.W.Frag} {σ : L2.St} {H0 : Hp} {a : Int} : DX K σ H0 (tTup (tCons (tTup (tCons (tC (.int a)) (tCons (tTup tNil) tNil))) tNil)) (LW.doc9 a) := .tup (.cons (.tup (.cons .int (.cons (.tup .nil (by simp)) .nil)) (by simp)) .nil) (by simp)
theorem doc9_noS (a : Int) : schemaD (LW.doc9 a) = false := by
  simp [LW.doc9, schemaD, stateD, isBoolD]
theorem doc9_noD : docD (LW.doc9 9) = false := by decide +kernel
theorem doc9_few (a : Int) : fewSc (LW.doc9 a) := fun ss z d hd => by
  cases z
  rw [List.mem_singleton.mp hd]
  exact fewS_two (fewR_tup (by simp))
end LW
set_option maxHeartbeats 4000000
namespace LW
open PySem PySem.Spec PyProof.Rows L2
section
variable {P : Program} {w : World} {K : PySem.W.Frag} {mg : Str → Option Value} {base : Heap} {f : Addr} {fd : FuncData}
theorem sc_check_all : FnScope ["s", "m", "t"] ["s", "m", "t"] (defScope s_check_all) := ⟨rfl, rfl, rfl, by decide +kernel, rfl, by decide +kernel, by decide +kernel⟩
theorem ok_check_all {Ts : List Addr} {D0 D1 D2 : Addr} (F : Fun K "check_all" "check_all" s_check_all f fd) (f_check_schema : Fn P w K mg base (XA.CXA P w) 38 "check_schema" ["s"] (spChk K Ts D0 D1 D2 [.S])) (f_check_transformation : Fn P w K mg base (XA.CXA P w) 38 "check_transformation" ["m"] (spChk K Ts D0 D1 D2 [.T])) :
    FnOk P w K mg base (XA.CXA P w) 39 f fd ["s", "m", "t"] (spChk K Ts D0 D1 D2 [.S, .T, .S]) := by
  refine F.okA sc_check_all (fun vs H Q E h => ?_) (fun cdv A outer s0 H vs Q E hr tk h => ?_)
  · obtain ⟨ds, hl, hd, _⟩ := h; rw [hd.length, hl]; rfl
  obtain ⟨ds, hl, hd, hp, hT, qy, qn⟩ := h
  obtain ⟨d0, d1, d2, rfl⟩ := len_3 hl
  obtain ⟨v0, vs0, rfl, h0, hd0⟩ := dpAll_cons hd
  obtain ⟨v1, vs1, rfl, h1, hd1⟩ := dpAll_cons hd0
  obtain ⟨v2, vs2, rfl, h2, hd2⟩ := dpAll_cons hd1
  cases hd2
  obtain ⟨p0, p1, p2, _⟩ := hp
  refine ⟨_, pss_cons (ps_expr (pe_fn f_check_schema hr rfl (XA.pass_in tk fun _ _ _ _ h => h) (pa_cons (pv 0) pa_nil))) (pss_cons (ps_expr (pe_fn f_check_transformation hr rfl (XA.pass_in tk fun _ _ _ _ h => h) (pa_cons (pv 1) pa_nil))) (pss_one (ps_expr (pe_fn f_check_schema hr rfl (XA.pass_in tk fun _ _ _ _ h => h) (pa_cons (pv 2) pa_nil))))), ?_⟩
  have hv0 := verd_app (ks := [.S]) (ks' := [.T, .S]) (ds := [d0]) (ds' := [d1, d2]) rfl
  have hv1 := verd_app (ks := [.T]) (ks' := [.S]) (ds := [d1]) (ds' := [d2]) rfl
  refine ⟨_, rfl, [d0], rfl, .cons h0 .nil, ⟨p0, trivial⟩, hT, fun e1 H1 g1 => ?_, fun i1 e1 => ?_⟩
  case refine_2 => rw [e1] at hv0; exact qn i1 hv0
  rw [e1] at hv0
  refine ⟨_, rfl, [d1], rfl, .cons (h1.gr g1) .nil, ⟨p1, trivial⟩, hT.gr g1, fun e2 H2 g2 => ?_, fun i2 e2 => ?_⟩
  case refine_2 => rw [e2] at hv1; exact (qn i2 (hv0.trans hv1)).gr g1
  rw [e2] at hv1
  refine ⟨_, rfl, [d2], rfl, .cons (h2.gr (g1.trans g2)) .nil, ⟨p2, trivial⟩, hT.gr (g1.trans g2), fun e3 H3 g3 => ?_, fun i3 e3 => ?_⟩
  · exact qy (hv0.trans (hv1.trans e3)) H3 (g1.trans (g2.trans g3))
  · exact (qn i3 (hv0.trans (hv1.trans e3))).gr (g1.trans g2)
end
end LW
set_option maxHeartbeats 4000000
namespace LW
open PySem PySem.Spec PyProof.Rows L2
section
variable {P : Program} {w : World} {K : PySem.W.Frag} {mg : Str → Option Value} {base : Heap} {f : Addr} {fd : FuncData}
theorem sc_turned_door : FnScope ["m", "d"] ["m", "d"] (defScope s_turned) := ⟨rfl, rfl, rfl, by decide +kernel, rfl, by decide +kernel, by decide +kernel⟩
theorem ok_turned_door {Ts : List Addr} {D0 D1 D2 : Addr} (F : Fun K "turned" "turned" s_turned f fd) (f_check_document : Fn P w K mg base (XA.CXA P w) 40 "check_document" ["d"] (spChk K Ts D0 D1 D2 [.D])) (f_check_transformation : Fn P w K mg base (XA.CXA P w) 40 "check_transformation" ["m"] (spChk K Ts D0 D1 D2 [.T])) :
    FnOk P w K mg base (XA.CXA P w) 41 f fd ["m", "d"] (spDoor K Ts D0 D1 D2 [.T, .D]) := by
  refine F.okA sc_turned_door (fun vs H Q E h => ?_) (fun cdv A outer s0 H vs Q E hr tk h => ?_)
  · obtain ⟨ds, i, hl, hd, _⟩ := h; rw [hd.length, hl]; rfl
  obtain ⟨ds, i, hl, hd, hp, hT, hv, x⟩ := h
  obtain ⟨d0, d1, rfl⟩ := len_2 hl
  obtain ⟨v0, vs0, rfl, h0, hd0⟩ := dpAll_cons hd
  obtain ⟨v1, vs1, rfl, h1, hd1⟩ := dpAll_cons hd0
  cases hd1
  obtain ⟨p0, p1, _⟩ := hp
  refine ⟨_, pss_cons (ps_expr (pe_fn f_check_transformation hr rfl (XA.pass_in tk fun _ _ _ _ h => h) (pa_cons (pv 0) pa_nil))) (pss_cons (ps_expr (pe_fn f_check_document hr rfl (XA.pass_in tk fun _ _ _ _ h => h) (pa_cons (pv 1) pa_nil))) (pss_no)), ?_⟩
  have hv2 := hv.symm.trans (verd_app (ks := [.T]) (ks' := [.D]) (ds := [d0]) (ds' := [d1]) rfl)
  refine ⟨_, rfl, [d0], rfl, .cons (h0.gr (Gr.refl H)) (.nil), ⟨p0, trivial⟩, hT.gr (m := []) (Gr.refl H), fun e1 H1 g1 => ?_, fun i1 e1 => ?_⟩
  case refine_2 => rw [e1] at hv2; cases hv2; exact x.gr (Gr.refl H)
  rw [e1] at hv2
  have hv := hv2.symm
  have hv2 := hv.symm.trans (verd_app (ks := [.D]) (ks' := []) (ds := [d1]) (ds' := []) rfl)
  refine ⟨_, rfl, [d1], rfl, .cons (h1.gr g1) (.nil), ⟨p1, trivial⟩, hT.gr (m := []) g1, fun e2 H2 g2 => ?_, fun i2 e2 => ?_⟩
  case refine_2 => rw [e2] at hv2; cases hv2; exact x.gr g1
  rw [e2] at hv2
  have hv := hv2.symm
  exact absurd hv (by simp [verd])
end
end LW
set_option maxHeartbeats 4000000
namespace LW
open PySem PySem.Spec PyProof.Rows L2
section
variable {P : Program} {w : World} {K : PySem.W.Frag} {mg : Str → Option Value} {base : Heap} {f : Addr} {fd : FuncData}
theorem sc_fits_door : FnScope ["s", "m", "t", "profiles", "closure", "bad", "number", "kind"] ["s", "m", "t"] (defScope s_fits) := ⟨rfl, rfl, rfl, by decide +kernel, rfl, by decide +kernel, by decide +kernel⟩
theorem ok_fits_door {Ts : List Addr} {D0 D1 D2 : Addr} (F : Fun K "fits" "fits" s_fits f fd) (f_check_all : Fn P w K mg base (XA.CXA P w) 40 "check_all" ["s", "m", "t"] (spChk K Ts D0 D1 D2 [.S, .T, .S])) :
    FnOk P w K mg base (XA.CXA P w) 41 f fd ["s", "m", "t"] (spDoor K Ts D0 D1 D2 [.S, .T, .S]) := by
  refine F.okA sc_fits_door (fun vs H Q E h => ?_) (fun cdv A outer s0 H vs Q E hr tk h => ?_)
  · obtain ⟨ds, i, hl, hd, _⟩ := h; rw [hd.length, hl]; rfl
  obtain ⟨ds, i, hl, hd, hp, hT, hv, x⟩ := h
  obtain ⟨d0, d1, d2, rfl⟩ := len_3 hl
  obtain ⟨v0, vs0, rfl, h0, hd0⟩ := dpAll_cons hd
  obtain ⟨v1, vs1, rfl, h1, hd1⟩ := dpAll_cons hd0
  obtain ⟨v2, vs2, rfl, h2, hd2⟩ := dpAll_cons hd1
  cases hd2
  obtain ⟨p0, p1, p2, _⟩ := hp
  refine ⟨_, pss_cons (ps_expr (pe_fn f_check_all hr rfl (XA.pass_in tk fun _ _ _ _ h => h) (pa_cons (pv 0) (pa_cons (pv 1) (pa_cons (pv 2) pa_nil))))) (pss_no), ?_⟩
  have hv2 := hv.symm.trans (verd_app (ks := [.S, .T, .S]) (ks' := []) (ds := [d0, d1, d2]) (ds' := []) rfl)
  refine ⟨_, rfl, _, rfl, _, rfl, [d0, d1, d2], rfl, .cons (h0.gr (Gr.refl H)) (.cons (h1.gr (Gr.refl H)) (.cons (h2.gr (Gr.refl H)) (.nil))), ⟨p0, p1, p2, trivial⟩, hT.gr (m := []) (Gr.refl H), fun e1 H1 g1 => ?_, fun i1 e1 => ?_⟩
  case refine_2 => rw [e1] at hv2; cases hv2; exact x.gr (Gr.refl H)
  rw [e1] at hv2
  have hv := hv2.symm
  exact absurd hv (by simp [verd])
end
end LW
set_option maxHeartbeats 4000000
namespace LW
open PySem PySem.Spec PyProof.Rows L2
section
variable {P : Program} {w : World} {K : PySem.W.Frag} {mg : Str → Option Value} {base : Heap} {f : Addr} {fd : FuncData}
theorem sc_schema_before_door : FnScope ["m", "t", "profiles", "closure", "number", "kind"] ["m", "t"] (defScope s_schema_before) := ⟨rfl, rfl, rfl, by decide +kernel, rfl, by decide +kernel, by decide +kernel⟩
theorem ok_schema_before_door {Ts : List Addr} {D0 D1 D2 : Addr} (F : Fun K "schema_before" "schema_before" s_schema_before f fd) (f_check_schema : Fn P w K mg base (XA.CXA P w) 40 "check_schema" ["s"] (spChk K Ts D0 D1 D2 [.S])) (f_check_transformation : Fn P w K mg base (XA.CXA P w) 40 "check_transformation" ["m"] (spChk K Ts D0 D1 D2 [.T])) :
    FnOk P w K mg base (XA.CXA P w) 41 f fd ["m", "t"] (spDoor K Ts D0 D1 D2 [.T, .S]) := by
  refine F.okA sc_schema_before_door (fun vs H Q E h => ?_) (fun cdv A outer s0 H vs Q E hr tk h => ?_)
  · obtain ⟨ds, i, hl, hd, _⟩ := h; rw [hd.length, hl]; rfl
  obtain ⟨ds, i, hl, hd, hp, hT, hv, x⟩ := h
  obtain ⟨d0, d1, rfl⟩ := len_2 hl
  obtain ⟨v0, vs0, rfl, h0, hd0⟩ := dpAll_cons hd
  obtain ⟨v1, vs1, rfl, h1, hd1⟩ := dpAll_cons hd0
  cases hd1
  obtain ⟨p0, p1, _⟩ := hp
  refine ⟨_, pss_cons (ps_expr (pe_fn f_check_transformation hr rfl (XA.pass_in tk fun _ _ _ _ h => h) (pa_cons (pv 0) pa_nil))) (pss_cons (ps_expr (pe_fn f_check_schema hr rfl (XA.pass_in tk fun _ _ _ _ h => h) (pa_cons (pv 1) pa_nil))) (pss_no)), ?_⟩
  have hv2 := hv.symm.trans (verd_app (ks := [.T]) (ks' := [.S]) (ds := [d0]) (ds' := [d1]) rfl)
  refine ⟨_, rfl, [d0], rfl, .cons (h0.gr (Gr.refl H)) (.nil), ⟨p0, trivial⟩, hT.gr (m := []) (Gr.refl H), fun e1 H1 g1 => ?_, fun i1 e1 => ?_⟩
  case refine_2 => rw [e1] at hv2; cases hv2; exact x.gr (Gr.refl H)
  rw [e1] at hv2
  have hv := hv2.symm
  have hv2 := hv.symm.trans (verd_app (ks := [.S]) (ks' := []) (ds := [d1]) (ds' := []) rfl)
  refine ⟨_, rfl, [d1], rfl, .cons (h1.gr g1) (.nil), ⟨p1, trivial⟩, hT.gr (m := []) g1, fun e2 H2 g2 => ?_, fun i2 e2 => ?_⟩
  case refine_2 => rw [e2] at hv2; cases hv2; exact x.gr g1
  rw [e2] at hv2
  have hv := hv2.symm
  exact absurd hv (by simp [verd])
end
end LW
set_option maxHeartbeats 4000000
namespace LW
open PySem PySem.Spec PyProof.Rows L2
section
variable {P : Program} {w : World} {K : PySem.W.Frag} {mg : Str → Option Value} {base : Heap} {f : Addr} {fd : FuncData}
theorem sc_accepts_door : FnScope ["s", "m", "t", "paper", "word", "told", "profiles"] ["s", "m", "t", "paper"] (defScope s_accepts) := ⟨rfl, rfl, rfl, by decide +kernel, rfl, by decide +kernel, by decide +kernel⟩
theorem ok_accepts_door {Ts : List Addr} {D0 D1 D2 : Addr} (F : Fun K "accepts" "accepts" s_accepts f fd) (f_check_all : Fn P w K mg base (XA.CXA P w) 40 "check_all" ["s", "m", "t"] (spChk K Ts D0 D1 D2 [.S, .T, .S])) :
    FnOk P w K mg base (XA.CXA P w) 41 f fd ["s", "m", "t", "paper"] (spDoor K Ts D0 D1 D2 [.S, .T, .S, .o]) := by
  refine F.okA sc_accepts_door (fun vs H Q E h => ?_) (fun cdv A outer s0 H vs Q E hr tk h => ?_)
  · obtain ⟨ds, i, hl, hd, _⟩ := h; rw [hd.length, hl]; rfl
  obtain ⟨ds, i, hl, hd, hp, hT, hv, x⟩ := h
  obtain ⟨d0, d1, d2, d3, rfl⟩ := len_4 hl
  obtain ⟨v0, vs0, rfl, h0, hd0⟩ := dpAll_cons hd
  obtain ⟨v1, vs1, rfl, h1, hd1⟩ := dpAll_cons hd0
  obtain ⟨v2, vs2, rfl, h2, hd2⟩ := dpAll_cons hd1
  obtain ⟨v3, vs3, rfl, h3, hd3⟩ := dpAll_cons hd2
  cases hd3
  obtain ⟨p0, p1, p2, p3, _⟩ := hp
  refine ⟨_, pss_cons (ps_expr (pe_fn f_check_all hr rfl (XA.pass_in tk fun _ _ _ _ h => h) (pa_cons (pv 0) (pa_cons (pv 1) (pa_cons (pv 2) pa_nil))))) (pss_no), ?_⟩
  have hv2 := hv.symm.trans (verd_app (ks := [.S, .T, .S]) (ks' := [.o]) (ds := [d0, d1, d2]) (ds' := [d3]) rfl)
  refine ⟨_, rfl, _, rfl, _, rfl, [d0, d1, d2], rfl, .cons (h0.gr (Gr.refl H)) (.cons (h1.gr (Gr.refl H)) (.cons (h2.gr (Gr.refl H)) (.nil))), ⟨p0, p1, p2, trivial⟩, hT.gr (m := []) (Gr.refl H), fun e1 H1 g1 => ?_, fun i1 e1 => ?_⟩
  case refine_2 => rw [e1] at hv2; cases hv2; exact x.gr (Gr.refl H)
  rw [e1] at hv2
  have hv := hv2.symm
  rw [verd_ok (k := .o) rfl] at hv
  exact absurd hv (by simp [verd])
end
end LW
set_option maxHeartbeats 4000000
namespace LW
open PySem PySem.Spec PyProof.Rows L2
section
variable {P : Program} {w : World} {K : PySem.W.Frag} {mg : Str → Option Value} {base : Heap} {f : Addr} {fd : FuncData}
theorem sc_made_door : FnScope ["m", "state", "d"] ["m", "state", "d"] (defScope s_made) := ⟨rfl, rfl, rfl, by decide +kernel, rfl, by decide +kernel, by decide +kernel⟩
theorem ok_made_door {Ts : List Addr} {D0 D1 D2 : Addr} (F : Fun K "made" "made" s_made f fd) (f_check_document : Fn P w K mg base (XA.CXA P w) 40 "check_document" ["d"] (spChk K Ts D0 D1 D2 [.D])) (f_check_transformation : Fn P w K mg base (XA.CXA P w) 40 "check_transformation" ["m"] (spChk K Ts D0 D1 D2 [.T])) :
    FnOk P w K mg base (XA.CXA P w) 41 f fd ["m", "state", "d"] (spDoor K Ts D0 D1 D2 [.T, .o, .D]) := by
  refine F.okA sc_made_door (fun vs H Q E h => ?_) (fun cdv A outer s0 H vs Q E hr tk h => ?_)
  · obtain ⟨ds, i, hl, hd, _⟩ := h; rw [hd.length, hl]; rfl
  obtain ⟨ds, i, hl, hd, hp, hT, hv, x⟩ := h
  obtain ⟨d0, d1, d2, rfl⟩ := len_3 hl
  obtain ⟨v0, vs0, rfl, h0, hd0⟩ := dpAll_cons hd
  obtain ⟨v1, vs1, rfl, h1, hd1⟩ := dpAll_cons hd0
  obtain ⟨v2, vs2, rfl, h2, hd2⟩ := dpAll_cons hd1
  cases hd2
  obtain ⟨p0, p1, p2, _⟩ := hp
  refine ⟨_, pss_cons (ps_expr (pe_fn f_check_transformation hr rfl (XA.pass_in tk fun _ _ _ _ h => h) (pa_cons (pv 0) pa_nil))) (pss_cons (ps_expr (pe_fn f_check_document hr rfl (XA.pass_in tk fun _ _ _ _ h => h) (pa_cons (pv 2) pa_nil))) (pss_no)), ?_⟩
  have hv2 := hv.symm.trans (verd_app (ks := [.T]) (ks' := [.o, .D]) (ds := [d0]) (ds' := [d1, d2]) rfl)
  refine ⟨_, rfl, [d0], rfl, .cons (h0.gr (Gr.refl H)) (.nil), ⟨p0, trivial⟩, hT.gr (m := []) (Gr.refl H), fun e1 H1 g1 => ?_, fun i1 e1 => ?_⟩
  case refine_2 => rw [e1] at hv2; cases hv2; exact x.gr (Gr.refl H)
  rw [e1] at hv2
  have hv := hv2.symm
  rw [verd_ok (k := .o) rfl] at hv
  have hv2 := hv.symm.trans (verd_app (ks := [.D]) (ks' := []) (ds := [d2]) (ds' := []) rfl)
  refine ⟨_, rfl, [d2], rfl, .cons (h2.gr g1) (.nil), ⟨p2, trivial⟩, hT.gr (m := []) g1, fun e2 H2 g2 => ?_, fun i2 e2 => ?_⟩
  case refine_2 => rw [e2] at hv2; cases hv2; exact x.gr g1
  rw [e2] at hv2
  have hv := hv2.symm
  exact absurd hv (by simp [verd])
end
end LW
set_option maxHeartbeats 4000000
namespace LW
open PySem PySem.Spec PyProof.Rows L2
section
variable {P : Program} {w : World} {K : PySem.W.Frag} {mg : Str → Option Value} {base : Heap} {f : Addr} {fd : FuncData}
theorem sc_first_profile_door : FnScope ["s", "m", "t", "profiles"] ["s", "m", "t"] (defScope s_first_profile) := ⟨rfl, rfl, rfl, by decide +kernel, rfl, by decide +kernel, by decide +kernel⟩
theorem ok_first_profile_door {Ts : List Addr} {D0 D1 D2 : Addr} (F : Fun K "first_profile" "first_profile" s_first_profile f fd) (f_check_all : Fn P w K mg base (XA.CXA P w) 40 "check_all" ["s", "m", "t"] (spChk K Ts D0 D1 D2 [.S, .T, .S])) :
    FnOk P w K mg base (XA.CXA P w) 41 f fd ["s", "m", "t"] (spDoor K Ts D0 D1 D2 [.S, .T, .S]) := by
  refine F.okA sc_first_profile_door (fun vs H Q E h => ?_) (fun cdv A outer s0 H vs Q E hr tk h => ?_)
  · obtain ⟨ds, i, hl, hd, _⟩ := h; rw [hd.length, hl]; rfl
  obtain ⟨ds, i, hl, hd, hp, hT, hv, x⟩ := h
  obtain ⟨d0, d1, d2, rfl⟩ := len_3 hl
  obtain ⟨v0, vs0, rfl, h0, hd0⟩ := dpAll_cons hd
  obtain ⟨v1, vs1, rfl, h1, hd1⟩ := dpAll_cons hd0
  obtain ⟨v2, vs2, rfl, h2, hd2⟩ := dpAll_cons hd1
  cases hd2
  obtain ⟨p0, p1, p2, _⟩ := hp
  refine ⟨_, pss_cons (ps_expr (pe_fn f_check_all hr rfl (XA.pass_in tk fun _ _ _ _ h => h) (pa_cons (pv 0) (pa_cons (pv 1) (pa_cons (pv 2) pa_nil))))) (pss_no), ?_⟩
  have hv2 := hv.symm.trans (verd_app (ks := [.S, .T, .S]) (ks' := []) (ds := [d0, d1, d2]) (ds' := []) rfl)
  refine ⟨_, rfl, _, rfl, _, rfl, [d0, d1, d2], rfl, .cons (h0.gr (Gr.refl H)) (.cons (h1.gr (Gr.refl H)) (.cons (h2.gr (Gr.refl H)) (.nil))), ⟨p0, p1, p2, trivial⟩, hT.gr (m := []) (Gr.refl H), fun e1 H1 g1 => ?_, fun i1 e1 => ?_⟩
  case refine_2 => rw [e1] at hv2; cases hv2; exact x.gr (Gr.refl H)
  rw [e1] at hv2
  have hv := hv2.symm
  exact absurd hv (by simp [verd])
end
end LW
set_option maxHeartbeats 4000000
namespace LW
open PySem PySem.Spec PyProof.Rows L2
section
variable {P : Program} {w : World} {K : PySem.W.Frag} {mg : Str → Option Value} {base : Heap} {f : Addr} {fd : FuncData}
theorem sc_profile_door : FnScope ["s", "m", "t", "d", "profiles"] ["s", "m", "t", "d"] (defScope s_profile) := ⟨rfl, rfl, rfl, by decide +kernel, rfl, by decide +kernel, by decide +kernel⟩
theorem ok_profile_door {Ts : List Addr} {D0 D1 D2 : Addr} (F : Fun K "profile" "profile" s_profile f fd) (f_check_all : Fn P w K mg base (XA.CXA P w) 40 "check_all" ["s", "m", "t"] (spChk K Ts D0 D1 D2 [.S, .T, .S])) (f_check_document : Fn P w K mg base (XA.CXA P w) 40 "check_document" ["d"] (spChk K Ts D0 D1 D2 [.D])) :
    FnOk P w K mg base (XA.CXA P w) 41 f fd ["s", "m", "t", "d"] (spDoor K Ts D0 D1 D2 [.S, .T, .S, .D]) := by
  refine F.okA sc_profile_door (fun vs H Q E h => ?_) (fun cdv A outer s0 H vs Q E hr tk h => ?_)
  · obtain ⟨ds, i, hl, hd, _⟩ := h; rw [hd.length, hl]; rfl
  obtain ⟨ds, i, hl, hd, hp, hT, hv, x⟩ := h
  obtain ⟨d0, d1, d2, d3, rfl⟩ := len_4 hl
  obtain ⟨v0, vs0, rfl, h0, hd0⟩ := dpAll_cons hd
  obtain ⟨v1, vs1, rfl, h1, hd1⟩ := dpAll_cons hd0
  obtain ⟨v2, vs2, rfl, h2, hd2⟩ := dpAll_cons hd1
  obtain ⟨v3, vs3, rfl, h3, hd3⟩ := dpAll_cons hd2
  cases hd3
  obtain ⟨p0, p1, p2, p3, _⟩ := hp
  refine ⟨_, pss_cons (ps_expr (pe_fn f_check_all hr rfl (XA.pass_in tk fun _ _ _ _ h => h) (pa_cons (pv 0) (pa_cons (pv 1) (pa_cons (pv 2) pa_nil))))) (pss_cons (ps_expr (pe_fn f_check_document hr rfl (XA.pass_in tk fun _ _ _ _ h => h) (pa_cons (pv 3) pa_nil))) (pss_no)), ?_⟩
  have hv2 := hv.symm.trans (verd_app (ks := [.S, .T, .S]) (ks' := [.D]) (ds := [d0, d1, d2]) (ds' := [d3]) rfl)
  refine ⟨_, rfl, _, rfl, _, rfl, [d0, d1, d2], rfl, .cons (h0.gr (Gr.refl H)) (.cons (h1.gr (Gr.refl H)) (.cons (h2.gr (Gr.refl H)) (.nil))), ⟨p0, p1, p2, trivial⟩, hT.gr (m := []) (Gr.refl H), fun e1 H1 g1 => ?_, fun i1 e1 => ?_⟩
  case refine_2 => rw [e1] at hv2; cases hv2; exact x.gr (Gr.refl H)
  rw [e1] at hv2
  have hv := hv2.symm
  have hv2 := hv.symm.trans (verd_app (ks := [.D]) (ks' := []) (ds := [d3]) (ds' := []) rfl)
  refine ⟨_, rfl, [d3], rfl, .cons (h3.gr g1) (.nil), ⟨p3, trivial⟩, hT.gr (m := []) g1, fun e2 H2 g2 => ?_, fun i2 e2 => ?_⟩
  case refine_2 => rw [e2] at hv2; cases hv2; exact x.gr g1
  rw [e2] at hv2
  have hv := hv2.symm
  exact absurd hv (by simp [verd])
end
end LW
set_option maxHeartbeats 4000000
namespace LW
open PySem PySem.Spec PyProof.Rows L2
section
variable {P : Program} {w : World} {K : PySem.W.Frag} {mg : Str → Option Value} {base : Heap} {f : Addr} {fd : FuncData}
theorem sc_law_box : FnScope ["script", "x"] ["script"] (defScope s__law_box) := ⟨rfl, rfl, rfl, by decide +kernel, rfl, by decide +kernel, by decide +kernel⟩
theorem ok_box (F : Fun K "_law_box" "_law_box" s__law_box f fd) (mi : mg "int" = none) (ma : mg "abs" = none) : FnOk P w K mg base CX0 1 f fd ["script"] (spBox K) := by
  refine F.ok sc_law_box (fun vs H Q E h => ?_) (fun cdv A outer s H vs Q E hr h => ?_)
  · obtain ⟨_, _, rfl, _⟩ := h; rfl
  obtain ⟨a, ns, rfl, hS, hl, q⟩ := h
  have nd := sc_law_box.nd
  refine ⟨_, pss_one (ps_ret (pe_lst (pa_cons pe_int (pa_cons pe_int (pa_cons pe_int (pa_cons
    (pe_lc (own := [("x", 1)]) (g := gName 1) (tt := tYes) rfl nd (pi_list (pv 0)) (blkOk_by (N := ["script", "x"]) (sc := defScope s__law_box) (own := [("x", 1)]) (by decide +kernel))
      (fun s H C cl fp => pg_name (i := 1) nd rfl (.inl rfl)) (fun s H C cl fp => pts_nil)
      (fun s H C cl fp => pe_callB call_abs (by rfl) ma b_abs (pa_cons (pe_callTy call_int1 (by rfl) mi b_int (pa_cons (pv 1) pa_nil)) pa_nil))) pa_nil)))))), ?_⟩
  refine ⟨_, rfl, a, rfl, ⟨_, hS⟩, fun D nD => lc_list (xs := ns.map V.int) (fun n H5 => Gr [] H H5 ∧ ∃ us : List Int, H5 D = some (.lst (us.map V.int)) ∧ us.length = n) ⟨Gr.new nD, [], upd_same, rfl⟩ (fun n H5 _ hP => hP.1.sqL hS) (fun n z H5 hz hP => ?_) (fun H5 hP => ?_)⟩
  · obtain ⟨g, us, hD, hu⟩ := hP
    obtain ⟨i, hi, rfl⟩ : ∃ i, ns[n]? = some i ∧ z = .int i := by
      rw [List.getElem?_map] at hz
      cases e : ns[n]? with
      | none => rw [e] at hz; cases hz
      | some a => rw [e] at hz; cases hz; exact ⟨_, rfl, rfl⟩
    have hn : n < ns.length := (List.getElem?_eq_some_iff.mp hi).1
    refine ⟨rfl, _, rfl, .inl ⟨_, rfl, _, rfl, _, hD, small4 (by rw [List.length_map]; omega), g.put0 nD, us ++ [if i < 0 then -i else i], ?_, by rw [List.length_append, hu]; rfl⟩⟩
    rw [upd_same, List.map_append]
    rfl
  · obtain ⟨g, us, hD, hu⟩ := hP
    refine ⟨(by decide : (4 : Nat) ≤ sizeLine), fun bx nb => ?_⟩
    have gb : Gr [] H5 (upd H5 bx (.lst [.int 0, .int 0, .int 0, .ref D])) := Gr.new nb
    refine q bx D _ (g.trans gb) ⟨us, 0, 0, 0, upd_same, gb.lst (by simp) hD, fun e => ?_, Int.le_refl 0⟩ (g.free _ nb) nD
    rw [e, nb] at hD
    cases hD
end
end LW
set_option maxHeartbeats 4000000
namespace LW
open PySem PySem.Spec PyProof.Rows L2
section
variable {P : Program} {w : World} {K : PySem.W.Frag} {mg : Str → Option Value} {base : Heap} {f : Addr} {fd : FuncData}
theorem sc_law_take : FnScope ["box", "m", "at", "cell", "told"] ["box", "m"] (defScope s__law_take) := ⟨rfl, rfl, rfl, by decide +kernel, rfl, by decide +kernel, by decide +kernel⟩
theorem ok_take (F : Fun K "_law_take" "_law_take" s__law_take f fd) (ml : mg "len" = none) (mi : mg "int" = none) : FnOk P w K mg base CX0 1 f fd ["box", "m"] spTake := by
  refine F.ok sc_law_take (fun vs H Q E h => ?_) (fun cdv A outer s H vs Q E hr h => ?_)
  · obtain ⟨bx, cl, m, rfl, _⟩ := h; rfl
  obtain ⟨bx, cl, m, rfl, hm, hm2, hB, q⟩ := h
  have nd := sc_law_take.nd
  refine ⟨_, Evl.pss_cut (ps_if (pt_cmpR op_eq (pe_ix ix_list (pv 0) pe_int (fun _ _ => rfl)) pe_int (nomark _))
      (pss_cons (ps_set (i := 2) nd rfl (.inl rfl) (pe_ix ix_list (pv 0) pe_int (fun _ _ => rfl)))
      (pss_cons (ps_set (i := 3) nd rfl (.inl rfl) pe_int)
      (Evl.pss_cut (ps_if (pt_cmpR op_lt (pv 2) (pe_callB call_len_seq (by rfl) ml PySem.boot_len (pa_cons (pe_ix ix_list (pv 0) pe_int (fun _ _ => rfl)) pa_nil)) (nomark _))
        (pss_cons (ps_set (i := 3) nd rfl (.inl rfl) (pe_ix ix_list (pe_ix ix_list (pv 0) pe_int (fun _ _ => rfl)) (pv 2) (fun _ _ => rfl)))
        (pss_one (ps_asg (pe_ifExp (pt_cmpR op_ge (pv 3) (pe_op op_pow pe_int pe_int) (nomark _)) pe_int (pe_un un_neg pe_int)) (pg_sub (pv 0) pe_int set_list)))) pss_nil)
      (pss_cons (ps_asg (pe_op op_add (pv 2) pe_int) (pg_sub (pv 0) pe_int set_list))
      (pss_cons (ps_asg (pv 3) (pg_sub (pv 0) pe_int set_list))
      (pss_one (ps_if (pt_cmpR op_eq (pe_ix ix_list (pv 0) pe_int (fun _ _ => rfl)) pe_int (nomark _)) (pss_one (ps_ret pe_int)) pss_nil))))))) pss_nil)
    (pss_cons (ps_if (pt_cmpR op_gt (pe_ix ix_list (pv 0) pe_int (fun _ _ => rfl)) pe_int (nomark _))
      (pss_cons (ps_set (i := 4) nd rfl (.inl rfl) (pe_op op_mod (pe_callTy call_int1 (by rfl) mi b_int (pa_cons (pe_ix ix_list (pv 0) pe_int (fun _ _ => rfl)) pa_nil)) (pv 1)))
      (pss_cons (ps_asg (pe_op op_fdiv (pe_ix ix_list (pv 0) pe_int (fun _ _ => rfl)) (pv 1)) (pg_sub (pv 0) pe_int set_list))
      (pss_cons (ps_asg (pe_ifExp (pt_cmpR op_gt (pe_ix ix_list (pv 0) pe_int (fun _ _ => rfl)) pe_int (nomark _)) (pe_op op_sub (pe_ix ix_list (pv 0) pe_int (fun _ _ => rfl)) pe_int) pe_int) (pg_sub (pv 0) pe_int set_list))
      (pss_one (ps_ret (pv 4)))))) pss_nil)
    (pss_cons (ps_asg (pe_op op_add (pe_ix ix_list (pv 0) pe_int (fun _ _ => rfl)) pe_int) (pg_sub (pv 0) pe_int set_list))
    (pss_cons (ps_asg (pe_op op_mod (pe_callTy call_int1 (by rfl) mi b_int (pa_cons (pe_op op_add (pe_op op_mul (pe_ix ix_list (pv 0) pe_int (fun _ _ => rfl)) pe_int) (pe_op op_mul pe_int (pe_op op_add (pe_ix ix_list (pv 0) pe_int (fun _ _ => rfl)) pe_int))) pa_nil)) pe_int) (pg_sub (pv 0) pe_int set_list))
    (pss_one (ps_ret (pe_op op_mod (pe_op op_mod (pe_callTy call_int1 (by rfl) mi b_int (pa_cons (pe_op op_add (pe_op op_fdiv (pe_ix ix_list (pv 0) pe_int (fun _ _ => rfl)) pe_int) (pe_ix ix_list (pv 0) pe_int (fun _ _ => rfl))) pa_nil)) pe_int) (pv 1))))))), ?_⟩
  obtain ⟨ns, b0, b1, b2, hb, hc, hne, h2⟩ := hB
  have hbx : ∀ {b0 b1 b2 : Int}, (upd H bx (bxL b0 b1 b2 cl)) bx = some (.lst [.int b0, .int b1, .int b2, .ref cl]) := upd_same
  have hcl : ∀ {b0 b1 b2 : Int}, (upd H bx (bxL b0 b1 b2 cl)) cl = some (.lst (ns.map V.int)) := by intro _ _ _; rw [upd_ne hne]; exact hc
  have fin : ∀ {b0 b1 b2 t : Int}, 0 ≤ b2 → 0 ≤ t → t < m → Q (.int t) (upd H bx (bxL b0 b1 b2 cl)) := fun {b0 b1 b2 t} h2 h3 h4 => q t _ h3 h4 (Gr.put hb (fun _ z => by cases z) (by simp)) ⟨ns, b0, b1, b2, upd_same, hcl, hne, h2⟩
  have start : H = upd H bx (bxL b0 b1 b2 cl) := by
    funext b
    unfold upd
    split
    · rename_i e; rw [e]; exact hb
    · rfl
  rw [start]
  refine ⟨fun σ' H' => ∃ y2 y3 y4 b0 b1 b2, σ' = [some (.ref bx), some (.int m), y2, y3, y4] ∧ H' = upd H bx (bxL b0 b1 b2 cl) ∧ 0 ≤ b2, ?_, ?_⟩
  · refine ⟨_, rfl, bx, _, 1, _, rfl, rfl, SqL.of hbx, atI_nat (j := 1) rfl, rfl, _, rfl, ?_⟩
    refine ite2 (fun c => ?_) (fun c => ⟨none, none, none, b0, b1, b2, rfl, rfl, h2⟩)
    refine ⟨_, rfl, bx, _, 2, _, rfl, rfl, SqL.of hbx, atI_nat (j := 2) rfl, ?_⟩
    refine ⟨fun σ' H' => ∃ c3 b1, σ' = [some (.ref bx), some (.int m), some (.int b2), some (.int c3), none] ∧ H' = upd H bx (bxL b0 b1 b2 cl), ?_, ?_⟩
    · refine ⟨_, rfl, _, rfl, bx, _, 3, _, rfl, rfl, SqL.of hbx, atI_nat (j := 3) rfl, cl, _, rfl, .inl (SqL.of hcl), _, _, rfl, rfl, _, rfl, ?_⟩
      refine ite2 (fun c => ?_) (fun c => ⟨0, b1, rfl, rfl⟩)
      have hlt : b2.toNat < ns.length := by
        have := of_decide_eq_true c
        rw [List.length_map] at this
        omega
      have e2 : b2 = ((b2.toNat : Nat) : Int) := by omega
      refine ⟨_, rfl, bx, _, 3, _, rfl, rfl, SqL.of hbx, atI_nat (j := 3) rfl, _, rfl, cl, _, b2, .int ns[b2.toNat], rfl, rfl, SqL.of hcl, ?_, ?_⟩
      · have := atI_nat (xs := ns.map V.int) (j := b2.toNat) (v := .int ns[b2.toNat]) (by simp [hlt])
        rw [← e2] at this
        exact this
      refine ⟨_, rfl, _, _, rfl, rfl, ⟨by decide, by decide, by decide⟩, _, _, rfl, rfl, _, rfl, ?_⟩
      refine ite2 (fun c => ?_) (fun c => ?_)
      · refine ⟨_, rfl, bx, _, 1, 1, rfl, rfl, hbx, rfl, ns[b2.toNat], 60, rfl, ?_⟩
        rw [upd_upd]; rfl
      · refine ⟨_, rfl, _, rfl, bx, _, 1, 1, rfl, rfl, hbx, rfl, ns[b2.toNat], -9, rfl, ?_⟩
        rw [upd_upd]; rfl
    · rintro σ' H' ⟨c3, b1, rfl, rfl⟩
      refine ⟨_, rfl, _, _, rfl, rfl, _, rfl, bx, _, 2, 2, rfl, rfl, hbx, rfl, ?_⟩
      rw [upd_upd]
      refine ⟨_, rfl, _, rfl, bx, _, 0, 0, rfl, rfl, upd_same, rfl, ?_⟩
      rw [upd_upd]
      refine ⟨_, rfl, bx, _, 1, _, rfl, rfl, SqL.of upd_same, atI_nat (j := 1) rfl, rfl, _, rfl, ?_⟩
      refine ite2 (fun c => ?_) (fun c => ⟨_, _, _, c3, b1, b2 + 1, rfl, rfl, by omega⟩)
      exact fin (by omega) (Int.le_refl 0) hm
  · rintro σ' H' ⟨y2, y3, y4, b0, b1, b2, rfl, rfl, h2⟩
    refine ⟨_, rfl, bx, _, 1, _, rfl, rfl, SqL.of hbx, atI_nat (j := 1) rfl, _, _, rfl, rfl, _, rfl, ?_⟩
    refine ite2 (fun c => ?_) (fun c => ?_)
    · refine ⟨_, rfl, bx, _, 0, _, rfl, rfl, SqL.of hbx, atI_nat (j := 0) rfl, .inl ⟨_, rfl, ?_⟩⟩
      refine ⟨_, rfl, _, _, rfl, rfl, hm, ?_⟩
      refine ⟨_, rfl, bx, _, 0, _, rfl, rfl, SqL.of hbx, atI_nat (j := 0) rfl, _, rfl, _, _, rfl, rfl, ⟨hm, hm2⟩, _, rfl, bx, _, 0, 0, rfl, rfl, hbx, rfl, ?_⟩
      rw [upd_upd]
      refine ⟨_, rfl, bx, _, 0, _, rfl, rfl, SqL.of upd_same, atI_nat (j := 0) rfl, _, _, rfl, rfl, _, rfl, ?_⟩
      have hmod : 0 ≤ b0 % m ∧ b0 % m < m := ⟨Int.emod_nonneg _ (by omega), Int.emod_lt_of_pos _ hm⟩
      refine ite2 (fun c => ?_) (fun c => ?_)
      · refine ⟨_, rfl, bx, _, 1, _, rfl, rfl, SqL.of upd_same, atI_nat (j := 1) rfl, _, _, rfl, rfl, ?_⟩
        refine ⟨_, rfl, bx, _, 1, 1, rfl, rfl, upd_same, rfl, ?_⟩
        rw [upd_upd]
        exact ⟨_, rfl, fin h2 hmod.1 hmod.2⟩
      · refine ⟨_, rfl, bx, _, 1, 1, rfl, rfl, upd_same, rfl, ?_⟩
        rw [upd_upd]
        exact ⟨_, rfl, fin h2 hmod.1 hmod.2⟩
    · refine ⟨_, rfl, bx, _, 1, _, rfl, rfl, SqL.of hbx, atI_nat (j := 1) rfl, _, _, rfl, rfl, _, rfl, bx, _, 1, 1, rfl, rfl, hbx, rfl, ?_⟩
      rw [upd_upd]
      refine ⟨_, rfl, bx, _, 0, _, rfl, rfl, SqL.of upd_same, atI_nat (j := 0) rfl, _, _, rfl, rfl, .inr ⟨by decide, by decide⟩, ?_⟩
      refine ⟨_, rfl, bx, _, 1, _, rfl, rfl, SqL.of upd_same, atI_nat (j := 1) rfl, _, _, rfl, rfl, _, _, rfl, rfl, .inl ⟨by decide, by decide⟩, _, _, rfl, rfl, .inl ⟨_, rfl, ?_⟩⟩
      refine ⟨_, _, rfl, rfl, lt_pos (by decide), _, rfl, bx, _, 0, 0, rfl, rfl, upd_same, rfl, ?_⟩
      rw [upd_upd]
      refine ⟨_, rfl, bx, _, 0, _, rfl, rfl, SqL.of upd_same, atI_nat (j := 0) rfl, _, _, rfl, rfl, ⟨by decide, by decide⟩, ?_⟩
      refine ⟨_, rfl, bx, _, 0, _, rfl, rfl, SqL.of upd_same, atI_nat (j := 0) rfl, _, _, rfl, rfl, .inl ⟨_, rfl, ?_⟩⟩
      refine ⟨_, _, rfl, rfl, lt_pos (by decide), _, rfl, _, _, rfl, rfl, hm, ?_⟩
      exact fin h2 (Int.emod_nonneg _ (by omega)) (Int.emod_lt_of_pos _ hm)
end
end LW
set_option maxHeartbeats 4000000
namespace LW
open PySem PySem.Spec PyProof.Rows L2
section
variable {P : Program} {w : World} {K : PySem.W.Frag} {mg : Str → Option Value} {base : Heap} {f : Addr} {fd : FuncData}
theorem sc_law_pick : FnScope ["box", "menu"] ["box", "menu"] (defScope s__law_pick) := ⟨rfl, rfl, rfl, by decide +kernel, rfl, by decide +kernel, by decide +kernel⟩
theorem ok_pick (F : Fun K "_law_pick" "_law_pick" s__law_pick f fd) (f1 : Fn P w K mg base CX0 1 "_law_take" ["box", "m"] spTake) (ml : mg "len" = none) : FnOk P w K mg base CX0 2 f fd ["box", "menu"] spPick := by
  refine F.ok sc_law_pick (fun vs H Q E h => ?_) (fun cdv A outer s H vs Q E hr h => ?_)
  · obtain ⟨bx, cl, m, ls, rfl, _⟩ := h; rfl
  obtain ⟨bx, cl, m, ls, rfl, hm, hne, h0, hl, hB, q⟩ := h
  refine ⟨_, pss_one (ps_ret (pe_ix ix_list (pv 1) (pe_fn f1 hr rfl pass0 (pa_cons (pv 0) (pa_cons (pe_callB call_len_seq (by rfl) ml PySem.boot_len (pa_cons (pv 1) pa_nil)) pa_nil))) (fun _ _ => rfl))), ?_⟩
  refine ⟨_, rfl, _, rfl, _, rfl, m, _, rfl, .inl (SqL.of hm), bx, cl, _, rfl, ?_, ?_, hB, fun t H' ht0 ht g hB' => ?_⟩
  · rw [List.length_map]; omega
  · rw [List.length_map]; omega
  · rw [List.length_map] at ht
    have hlt : t.toNat < ls.length := by omega
    have e : t = ((t.toNat : Nat) : Int) := by omega
    refine ⟨m, _, t, .int ls[t.toNat], rfl, rfl, SqL.of (g.lst (by simpa using hne) hm), ?_, q _ _ (List.getElem_mem hlt) g hB'⟩
    have := atI_nat (xs := ls.map V.int) (j := t.toNat) (v := .int ls[t.toNat]) (by simp [hlt])
    rw [← e] at this
    exact this
theorem ok_pickT (F : Fun K "_law_pick" "_law_pick" s__law_pick f fd) (f1 : Fn P w K mg base CX0 1 "_law_take" ["box", "m"] spTake) (ml : mg "len" = none) : FnOk P w K mg base CX0 2 f fd ["box", "menu"] (spPickT K) := by
  refine F.ok sc_law_pick (fun vs H Q E h => ?_) (fun cdv A outer s H vs Q E hr h => ?_)
  · obtain ⟨_, _, _, _, rfl, _⟩ := h; rfl
  obtain ⟨bx, cl, m, xs, rfl, hm, h0, hl, hB, q⟩ := h
  refine ⟨_, pss_one (ps_ret (pe_ix ix_tup (pv 1) (pe_fn f1 hr rfl pass0 (pa_cons (pv 0) (pa_cons (pe_callB call_len_seq (by rfl) ml PySem.boot_len (pa_cons (pv 1) pa_nil)) pa_nil))) (fun _ _ => rfl))), ?_⟩
  refine ⟨_, rfl, _, rfl, _, rfl, m, _, rfl, .inr hm, bx, cl, _, rfl, by omega, by omega, hB, fun t H' ht0 ht g hB' => ?_⟩
  have hlt : t.toNat < xs.length := by omega
  have e : t = ((t.toNat : Nat) : Int) := by omega
  exact ⟨m, _, t, xs[t.toNat], rfl, rfl, g.sqTm hB.lst hm, atI_eq (List.getElem?_eq_getElem hlt) e, q _ t.toNat _ (List.getElem?_eq_getElem hlt) g hB'⟩
theorem ok_pickD (F : Fun K "_law_pick" "_law_pick" s__law_pick f fd) (f1 : Fn P w K mg base CX0 1 "_law_take" ["box", "m"] spTake) (ml : mg "len" = none) : FnOk P w K mg base CX0 2 f fd ["box", "menu"] (spPickD K) := by
  refine F.ok sc_law_pick (fun vs H Q E h => ?_) (fun cdv A outer s H vs Q E hr h => ?_)
  · obtain ⟨_, _, _, _, _, rfl, _⟩ := h; rfl
  obtain ⟨bx, cl, m, xs, ds, rfl, hB, hne, hm, hx, hp, h0, hl, q⟩ := h
  have lx := hx.length
  refine ⟨_, pss_one (ps_ret (pe_ix ix_list (pv 1) (pe_fn f1 hr rfl pass0 (pa_cons (pv 0) (pa_cons (pe_callB call_len_seq (by rfl) ml PySem.boot_len (pa_cons (pv 1) pa_nil)) pa_nil))) (fun _ _ => rfl))), ?_⟩
  refine ⟨_, rfl, _, rfl, _, rfl, m, _, rfl, .inl (SqL.of hm), bx, cl, _, rfl, by omega, by omega, hB, fun t H' ht0 ht g hB' => ?_⟩
  have hlt : t.toNat < xs.length := by omega
  have e : t = ((t.toNat : Nat) : Int) := by omega
  have ex := List.getElem?_eq_getElem hlt
  obtain ⟨d, hd, hxd⟩ := hx.get ex
  have hmem := List.mem_of_getElem? hd
  exact ⟨m, _, t, _, rfl, rfl, SqL.of (g.lst (by simpa using hne) hm), atI_eq ex e, q d _ H' hmem (dp_grm g hB.lst d _ (pureAll_iff.mp hp d hmem) hxd) g hB'⟩
end
end LW
set_option maxHeartbeats 4000000
namespace LW
open PySem PySem.Spec PyProof.Rows L2
section
variable {P : Program} {w : World} {K : PySem.W.Frag} {mg : Str → Option Value} {base : Heap} {f : Addr} {fd : FuncData}
theorem sc_law_schema : FnScope nSchL ["box", "labels", "most", "rules"] (defScope s__law_schema) := ⟨rfl, rfl, rfl, by decide +kernel, rfl, by decide +kernel, by decide +kernel⟩
theorem ok_schL (F : Fun K "_law_schema" "_law_schema" s__law_schema f fd) (ft : Fn P w K mg base CX0 2 "_law_take" ["box", "m"] spTake) (fp : Fn P w K mg base CX0 2 "_law_pick" ["box", "menu"] spPick) (mr : mg "range" = none) (mt : mg "tuple" = none) (mso : mg "sorted" = none) :
    FnOk P w K mg base CX0 3 f fd ["box", "labels", "most", "rules"] (spSchemaL K) := by
  refine F.ok sc_law_schema (fun vs H Q E h => ?_) (fun cdv A outer s H vs Q E hr h => ?_)
  · obtain ⟨_, _, _, _, _, _, rfl, _⟩ := h; rfl
  obtain ⟨bx, cl, ll, ls, most, rules, rfl, hB, hll, hlb, hl0, hl1, hls, hm1, hm2, hr3, q⟩ := h
  have nd := sc_law_schema.nd
  have hu65 : (A.deeper (envOfC "_law_schema" (defScope s__law_schema) s.heap.objs.size f cdv)).units + 65 < cLine := by have := hr.un; omega
  refine ⟨_, pss_cons (ps_set (i := 4) nd rfl (.inl rfl) (pe_op op_add pe_int (pe_fn ft hr rfl pass0 (pa_cons (pv 0) (pa_cons (pv 2) pa_nil)))))
    (pss_cons (ps_set (i := 5) nd rfl (.inl rfl) (pe_lst pa_nil))
    (pss_cons (ps_for PassesOwn.never rfl (pi_range1 rfl mr (pa_cons (pv 4) pa_nil)) (pg_name (i := 6) nd rfl (.inl rfl))
      (pss_cons (ps_set (i := 7) nd rfl (.inl rfl) (pe_lst pa_nil))
      (Evl.pss_cut (ps_for PassesOwn.never rfl (pi_range1 rfl mr (pa_cons (pe_fn ft hr rfl pass0 (pa_cons (pv 0) (pa_cons (pe_op op_add (pv 3) pe_int) pa_nil))) pa_nil)) (pg_name (i := 8) nd rfl (.inl rfl))
        (pss_cons (ps_set (i := 9) nd rfl (.inl rfl) (pe_tup (pa_cons (pe_fn fp hr rfl pass0 (pa_cons (pv 0) (pa_cons (pv 1) pa_nil))) (pa_cons (pe_fn ft hr rfl pass0 (pa_cons (pv 0) (pa_cons (pv 4) pa_nil))) (pa_cons (pe_fn ft hr rfl pass0 (pa_cons (pv 0) (pa_cons (pv 4) pa_nil))) pa_nil)))))
        (pss_one (ps_if (pt_cmpR (op_notInD hu65) (pv 9) (pv 7) rfl) (pss_one (ps_expr (pe_bm PySem.F.plainAttrs_list PySem.F.slot_list_append PySem.F.type_list_append mt_append (pv 7) (pa_cons (pv 9) pa_nil)))) pss_nil))))
      (pss_one (ps_expr (pe_bm PySem.F.plainAttrs_list PySem.F.slot_list_append PySem.F.type_list_append mt_append (pv 5)
        (pa_cons (pe_tup (pa_cons (pe_cmpR op_eq (pe_fn ft hr rfl pass0 (pa_cons (pv 0) (pa_cons pe_int pa_nil))) pe_int (nomark _)) (pa_cons (pe_callTy call_tuple_of (by rfl) mt b_tuple (pa_cons (pe_callB (cr_sortT (d := 3) (B := 64) (by decide)) (by rfl) mso b_sorted (pa_cons (pv 7) pa_nil)) pa_nil)) pa_nil))) pa_nil)))))))
    (pss_one (ps_ret (pe_callTy call_tuple_of (by rfl) mt b_tuple (pa_cons (pv 5) pa_nil)))))), ?_⟩
  refine ⟨_, rfl, _, rfl, bx, cl, most, rfl, by omega, by omega, hB, fun t0 H1 ht0 ht1 g1 hB1 => ⟨_, _, rfl, rfl, ?_⟩⟩
  obtain ⟨m0, rfl⟩ : ∃ m0 : Nat, t0 = (m0 : Int) := ⟨t0.toNat, by omega⟩
  have hll1 : H1 ll = some (.lst (ls.map V.int)) := g1.lst (by simpa using hlb) hll
  refine ⟨Nat.zero_le _, fun sl nsl => ?_⟩
  have gs : Gr [] H1 (upd H1 sl (.lst [])) := Gr.new nsl
  obtain ⟨nsb, nsc⟩ := hB1.ne nsl
  have nslH : H sl = none := g1.free _ nsl
  have slL : ll ≠ sl := fun z => by rw [← z, hll1] at nsl; cases nsl
  refine ⟨_, rfl, _, rfl, by omega, by omega, for_range (n := ((1 : Int) + m0).toNat) (fun i σ H' => ∃ (sts : Sch) (xs : List V) (y6 y7 y8 y9 : Option V), σ = [some (.ref bx), some (.ref ll), some (.int most), some (.int rules), some (.int ((1 : Int) + m0)), some (.ref sl), y6, y7, y8, y9] ∧
    Gr [bx] H H' ∧ BoxAt H' bx cl ∧ H' sl = some (.lst xs) ∧ DpAll K H' xs (sts.map stD) ∧ sts.length = i ∧ ∀ st ∈ sts, goodS ls (m0 + 1) rules st)
    ⟨[], [], none, none, none, none, rfl, g1.trans gs.any, hB1.put nsb nsc, upd_same, .nil, rfl, by simp⟩ (fun i σ H' hi hP => ?_) (fun σ H' hP => ?_)⟩
  · obtain ⟨sts, xs, y6, y7, y8, y9, rfl, g, hB', hsl, hxs, hlen, hgood⟩ := hP
    have lxs := hxs.length
    rw [List.length_map, hlen] at lxs
    have hll' : H' ll = some (.lst (ls.map V.int)) := g.lst (by simpa using hlb) hll
    refine ⟨Nat.zero_le _, fun fl nfl => ?_⟩
    have gf : Gr [] H' (upd H' fl (.lst [])) := Gr.new nfl
    obtain ⟨nfb, nfc⟩ := hB'.ne nfl
    have flL : fl ≠ ll := fun z => by rw [z, hll'] at nfl; cases nfl
    have flS : fl ≠ sl := fun z => by rw [z, hsl] at nfl; cases nfl
    refine ⟨fun σ H2 => ∃ (rs : List Rl) (zs : List V) (y8 y9 : Option V), σ = [some (.ref bx), some (.ref ll), some (.int most), some (.int rules), some (.int ((1 : Int) + m0)), some (.ref sl), some (.int (0 + i)), some (.ref fl), y8, y9] ∧
      Gr [bx] H' H2 ∧ BoxAt H2 bx cl ∧ H2 fl = some (.lst zs) ∧ DpAll K H2 zs (rs.map rlD) ∧ rs.Nodup ∧ rs.length ≤ rules ∧ ∀ r ∈ rs, goodR ls (m0 + 1) r, ?_, ?_⟩
    · refine ⟨_, rfl, _, rfl, _, _, rfl, rfl, bx, cl, _, rfl, by omega, by omega, hB'.put nfb nfc, fun t H2 ht2 ht3 g2 hB2 => ⟨_, rfl, by omega, by omega, ?_⟩⟩
      refine for_range (n := t.toNat) (fun j σ H2 => ∃ (rs : List Rl) (zs : List V) (y8 y9 : Option V), σ = [some (.ref bx), some (.ref ll), some (.int most), some (.int rules), some (.int ((1 : Int) + m0)), some (.ref sl), some (.int (0 + i)), some (.ref fl), y8, y9] ∧
        Gr [bx] H' H2 ∧ BoxAt H2 bx cl ∧ H2 fl = some (.lst zs) ∧ DpAll K H2 zs (rs.map rlD) ∧ rs.Nodup ∧ rs.length ≤ j ∧ ∀ r ∈ rs, goodR ls (m0 + 1) r)
        ⟨[], [], _, _, rfl, gf.any.trans g2, hB2, g2.lst (by simpa using nfb) upd_same, .nil, List.nodup_nil, Nat.le_refl _, by simp⟩ (fun j σ H3 hj hP => ?_) (fun σ H3 hP => ?_)
      · obtain ⟨rs, zs, y8, y9, rfl, g3, hB3, hfl, hzs, hnd, hrl, hgr⟩ := hP
        have lzs := hzs.length
        rw [List.length_map] at lzs
        refine ⟨_, rfl, _, rfl, bx, cl, ll, ls, rfl, g3.lst (by simpa using hlb) hll', hlb, hl0, hl1, hB3, fun a H4 ha g4 hB4 => ?_⟩
        refine ⟨_, rfl, _, rfl, bx, cl, _, rfl, by omega, by omega, hB4, fun x H5 hx0 hx1 g5 hB5 => ?_⟩
        refine ⟨_, rfl, _, rfl, bx, cl, _, rfl, by omega, by omega, hB5, fun y H6 hy0 hy1 g6 hB6 => ?_⟩
        refine ⟨Nat.le_of_lt (small4 (n := 3) (by decide)), fun tp ntp => ?_⟩
        obtain ⟨a', rfl⟩ : ∃ n : Nat, a = (n : Int) := ⟨a.toNat, by have := hls a ha; omega⟩
        obtain ⟨x', rfl⟩ : ∃ n : Nat, x = (n : Int) := ⟨x.toNat, by omega⟩
        obtain ⟨y', rfl⟩ : ∃ n : Nat, y = (n : Int) := ⟨y.toNat, by omega⟩
        have g36 := g4.trans (g5.trans g6)
        have hfl6 := g36.lst (by simpa using nfb) hfl
        have hzs6 : DpAll K H6 zs (rs.map rlD) := dpAll_grm g6 hB5.lst _ _ (pure_rls _) (dpAll_grm g5 hB4.lst _ _ (pure_rls _) (dpAll_grm g4 hB3.lst _ _ (pure_rls _) hzs))
        have gp : Gr [] H6 (upd H6 tp (.tup [.int a', .int x', .int y'])) := Gr.new ntp
        have htp : Dp K (upd H6 tp (.tup [.int a', .int x', .int y'])) (.ref tp) (rlD (a', x', y')) := .tup (SqT.of upd_same) (.cons (.int _) (.cons (.int _) (.cons (.int _) .nil)))
        have hfl7 := gp.lst (by simp) hfl6
        have hzs7 := hzs6.gr gp
        have hB7 := hB6.gr gp
        have gg := g3.trans (g36.trans gp.any)
        generalize upd H6 tp (.tup [.int a', .int x', .int y']) = H7 at gp htp hfl7 hzs7 hB7 gg ⊢
        refine ⟨_, rfl, _, rfl, rlD (a', x', y'), rs.map rlD, htp, .lst (SqL.of hfl7) hzs7, shaped_rl _, shaped_rls _, _, rfl, ?_⟩
        rw [any_rl]
        by_cases hmem : (a', x', y') ∈ rs
        · rw [decide_eq_true hmem]
          exact iteF ⟨rs, zs, _, _, rfl, gg, hB7, hfl7, hzs7, hnd, by omega, hgr⟩
        · rw [decide_eq_false hmem]
          refine iteT ⟨_, rfl, .inl ⟨rfl, _, SqL.of hfl7⟩, _, rfl, fl, zs, _, rfl, rfl, hfl7, small4 (by omega), ?_⟩
          have gw : Gr [fl] H7 (upd H7 fl (.lst (zs ++ [.ref tp]))) := Gr.put hfl7 (fun _ z => by cases z) (by simp)
          have wl : ∀ b ∈ [fl], ∃ ys, H7 b = some (.lst ys) := fun b hb => by rw [List.mem_singleton.mp hb]; exact ⟨_, hfl7⟩
          have hap := DpAll.append (dpAll_grm gw wl _ _ (pure_rls _) hzs7) (.cons (dp_grm gw wl (rlD (a', x', y')) _ rfl htp) .nil)
          have e9 : (rs ++ [(a', x', y')]).map rlD = rs.map rlD ++ [rlD (a', x', y')] := by rw [List.map_append]; rfl
          refine ⟨rs ++ [(a', x', y')], _, _, _, rfl, gg.put0 nfl, hB7.put nfb nfc, upd_same, by rw [e9]; exact hap, ?_, by rw [List.length_append]; show _ + 1 ≤ _; omega, fun r hr => ?_⟩
          · rw [List.nodup_append]
            exact ⟨hnd, by simp, fun u hu v hv => by rw [List.mem_singleton.mp hv]; exact fun z => hmem (by rw [← z]; exact hu)⟩
          · rcases List.mem_append.mp hr with hr | hr
            · exact hgr r hr
            · rw [List.mem_singleton.mp hr]
              exact ⟨ha, by show x' < m0 + 1; omega, by show y' < m0 + 1; omega⟩
      · obtain ⟨rs, zs, y8, y9, rfl, g3, hB3, hfl, hzs, hnd, hrl, hgr⟩ := hP
        exact ⟨rs, zs, _, _, rfl, g3, hB3, hfl, hzs, hnd, by omega, hgr⟩
    · rintro σ H2 ⟨rs, zs, y8, y9, rfl, g2, hB2, hfl, hzs, hnd, hrl, hgr⟩
      have hsl2 : H2 sl = some (.lst xs) := g2.lst (by simpa using nsb) hsl
      have hxs2 : DpAll K H2 xs (sts.map stD) := dpAll_grm g2 hB'.lst _ _ (pure_sts _) hxs
      have lzs := hzs.length
      rw [List.length_map] at lzs
      refine ⟨_, rfl, .inl ⟨rfl, _, SqL.of hsl2⟩, _, rfl, bx, cl, 2, rfl, by decide, by decide, hB2, fun t H3 ht2 ht3 g3 hB3 => ⟨rfl, ?_⟩⟩
      have hfl3 := g3.lst (by simpa using nfb) hfl
      have hzs3 : DpAll K H3 zs (rs.map rlD) := dpAll_grm g3 hB2.lst _ _ (pure_rls _) hzs
      refine ⟨_, rfl, fl, zs, rfl, SqL.of hfl3, by omega, fun x hx => ?_, fun ys p hperm hpw np => ?_⟩
      · obtain ⟨i, hi⟩ := List.getElem?_of_mem hx
        obtain ⟨dd, hdd, hxd⟩ := hzs3.get hi
        rw [List.getElem?_map] at hdd
        cases er : rs[i]? with
        | none => rw [er] at hdd; cases hdd
        | some r =>
        rw [er] at hdd
        cases hdd
        have hr' := hgr r (List.mem_of_getElem? er)
        obtain ⟨c1, c2, c3⟩ := hr'
        have c0 := hls _ c1
        refine ⟨rlI r, FRl.tup hxd, rfl, fun z hz => ?_⟩
        unfold rlI at hz
        rcases List.mem_cons.mp hz with rfl | hz
        · omega
        · rcases List.mem_cons.mp hz with rfl | hz
          · omega
          · rw [List.mem_singleton.mp hz]; omega
      · have hp3 : Paired (FRl K H3) zs rs := dpAll_paired hzs3
        obtain ⟨us, pu, hpu⟩ := paired_perm hperm hp3
        have hus : DpAll K H3 ys (us.map rlD) := paired_dpAll hpu
        have ndu : us.Nodup := pu.nodup_iff.mpr hnd
        have gu : ∀ r ∈ us, goodR ls (m0 + 1) r := fun r hr => hgr r (pu.mem_iff.mp hr)
        have lu : us.length = rs.length := pu.length_eq
        have code : us.Pairwise fun r t => TS.code 64 (rlI r) ≤ TS.code 64 (rlI t) := paired_pairwise (fun x y r t h1 h2 h3 => h3 _ _ (FRl.tup h1) (FRl.tup h2)) hpu hpw
        have strict : us.Pairwise rlLt := by
          have both := List.Pairwise.and code (show us.Pairwise (· ≠ ·) from ndu)
          refine List.Pairwise.imp_of_mem (fun {r t} hr ht h => ?_) both
          obtain ⟨_, c2, c3⟩ := gu r hr
          obtain ⟨_, d2, d3⟩ := gu t ht
          exact code_lt h.1 h.2 (by omega) (by omega) (by omega) (by omega)
        have gl : Gr [] H3 (upd H3 p (.lst ys)) := Gr.new np
        refine ⟨p, ys, rfl, .inl ⟨SqL.of upd_same, fun tp ntp => ?_⟩⟩
        have gt : Gr [] (upd H3 p (.lst ys)) (upd (upd H3 p (.lst ys)) tp (.tup ys)) := Gr.new ntp
        have htp : Dp K (upd (upd H3 p (.lst ys)) tp (.tup ys)) (.ref tp) (.tuple (us.map rlD)) := .tup (SqT.of upd_same) (hus.gr (gl.trans gt))
        have g3t := gl.trans gt
        generalize (upd (upd H3 p (.lst ys)) tp (.tup ys)) = H4 at htp g3t ⊢
        refine ⟨len2, fun sp nsp => ?_⟩
        have gsp : Gr [] H4 (upd H4 sp (.tup [.bl (decide (V.int t = V.int 0)), .ref tp])) := Gr.new nsp
        have hsp : Dp K (upd H4 sp (.tup [.bl (decide (V.int t = V.int 0)), .ref tp])) (.ref sp) (stD (decide (V.int t = V.int 0), us)) := .tup (SqT.of upd_same) (.cons (.bl _) (.cons (htp.gr gsp) .nil))
        have g35 := g3t.trans gsp
        have g25 := g2.trans (g3.trans g35.any)
        generalize (upd H4 sp (.tup [.bl (decide (V.int t = V.int 0)), .ref tp])) = H5 at hsp g35 g25 ⊢
        have hsl5 : H5 sl = some (.lst xs) := g25.lst (by simpa using nsb) hsl
        have hxs5 : DpAll K H5 xs (sts.map stD) := (dpAll_grm g3 hB2.lst _ _ (pure_sts _) hxs2).gr g35
        have hB5 := hB3.gr g35
        refine ⟨sl, xs, _, rfl, rfl, hsl5, small4 (by omega), ?_⟩
        have gw : Gr [sl] H5 (upd H5 sl (.lst (xs ++ [.ref sp]))) := Gr.put hsl5 (fun _ z => by cases z) (by simp)
        have wl : ∀ b ∈ [sl], ∃ ys, H5 b = some (.lst ys) := fun b hb => by rw [List.mem_singleton.mp hb]; exact ⟨_, hsl5⟩
        have p1 : pure1 (stD (decide (V.int t = V.int 0), us)) = true := by simp [pure1, stD, pureAll, pure_rls us]
        refine ⟨sts ++ [(decide (V.int t = V.int 0), us)], _, _, _, _, _, rfl, (g.trans g25).put0 nslH, hB5.put nsb nsc, upd_same, ?_, by rw [List.length_append, hlen]; rfl, fun st hst => ?_⟩
        · rw [List.map_append]
          exact DpAll.append (dpAll_grm gw wl _ _ (pure_sts _) hxs5) (.cons (dp_grm gw wl _ _ p1 hsp) .nil)
        · rcases List.mem_append.mp hst with h | h
          · exact hgood st h
          · rw [List.mem_singleton.mp h]
            exact ⟨gu, strict, by show us.length ≤ rules; omega⟩
  · obtain ⟨sts, xs, y6, y7, y8, y9, rfl, g, hB', hsl, hxs, hlen, hgood⟩ := hP
    have e : ((1 : Int) + m0).toNat = m0 + 1 := by omega
    rw [e] at hlen
    refine ⟨_, rfl, sl, xs, rfl, .inl ⟨SqL.of hsl, fun p np => ?_⟩⟩
    have gp : Gr [] H' (upd H' p (.tup xs)) := Gr.new np
    have hg' : ∀ st ∈ sts, goodS ls sts.length rules st := by rw [hlen]; exact hgood
    exact q sts _ _ (good_ok hg' hls (by omega) (by omega) hr3) (by omega) hg' (g.trans gp.any) (hB'.gr gp) (.tup (SqT.of upd_same) (hxs.gr gp))
end
end LW
set_option maxHeartbeats 2000000
namespace LW
open PySem PySem.Spec PyProof.Rows L2
/-! ### transformations -/
inductive Tm where
  | nil
  | node (b : Int) (t r : Tm)
  | ref (w : Bool) (p : Int) (r : Tm)
  deriving DecidableEq
def wrd (w : Bool) : Str := if w = true then "next" else "in"
def Tm.ts : Tm → List PyData
  | .nil => []
  | .node b t r => .tuple [.str "node", .int b, .tuple t.ts] :: r.ts
  | .ref w p r => .tuple [.str (wrd w), .int p] :: r.ts
def Tm.data (t : Tm) : PyData := .tuple t.ts
def Tm.parts : Tm → Nat
  | .nil => 0
  | .node _ t r => 1 + t.parts + r.parts
  | .ref _ _ r => 1 + r.parts
def Tm.dp : Tm → Nat
  | .nil => 0
  | .node _ t r => max (1 + t.dp) r.dp
  | .ref _ _ r => r.dp
def Tm.okT (n : Nat) (mf : Bool) : Tm → Bool
  | .nil => true
  | .node b t r => decide (0 ≤ b ∧ b < 5) && t.okT n mf && r.okT n mf
  | .ref _ p r => mf && decide (0 ≤ p ∧ p < n) && r.okT n mf
def Tm.app : Tm → Tm → Tm
  | .nil, e => e
  | .node b t r, e => .node b t (r.app e)
  | .ref w p r, e => .ref w p (r.app e)
def Tm.len : Tm → Nat
  | .nil => 0
  | .node _ _ r => r.len + 1
  | .ref _ _ r => r.len + 1
theorem Tm.ts_length : ∀ t : Tm, t.ts.length = t.len
  | .nil => rfl
  | .node _ _ r => by simp [Tm.ts, Tm.len, Tm.ts_length r]
  | .ref _ _ r => by simp [Tm.ts, Tm.len, Tm.ts_length r]
theorem Tm.len_parts : ∀ t : Tm, t.len ≤ t.parts
  | .nil => Nat.le_refl _
  | .node _ _ r => by have := Tm.len_parts r; simp only [Tm.len, Tm.parts]; omega
  | .ref _ _ r => by have := Tm.len_parts r; simp only [Tm.len, Tm.parts]; omega
theorem Tm.app_ts : ∀ t u : Tm, (t.app u).ts = t.ts ++ u.ts
  | .nil, _ => rfl
  | .node _ _ r, u => by simp [Tm.app, Tm.ts, Tm.app_ts r u]
  | .ref _ _ r, u => by simp [Tm.app, Tm.ts, Tm.app_ts r u]
theorem Tm.app_parts : ∀ t u : Tm, (t.app u).parts = t.parts + u.parts
  | .nil, _ => by simp [Tm.app, Tm.parts]
  | .node _ _ r, u => by simp only [Tm.app, Tm.parts, Tm.app_parts r u]; omega
  | .ref _ _ r, u => by simp only [Tm.app, Tm.parts, Tm.app_parts r u]; omega
theorem Tm.app_dp : ∀ t u : Tm, (t.app u).dp = max t.dp u.dp
  | .nil, _ => by simp [Tm.app, Tm.dp]
  | .node _ _ r, u => by simp only [Tm.app, Tm.dp, Tm.app_dp r u]; omega
  | .ref _ _ r, u => by simp only [Tm.app, Tm.dp, Tm.app_dp r u]
theorem Tm.app_ok (n : Nat) (mf : Bool) : ∀ t u : Tm, (t.app u).okT n mf = (t.okT n mf && u.okT n mf)
  | .nil, _ => by simp [Tm.app, Tm.okT]
  | .node _ _ r, u => by simp only [Tm.app, Tm.okT, Tm.app_ok n mf r u, Bool.and_assoc]
  | .ref _ _ r, u => by simp only [Tm.app, Tm.okT, Tm.app_ok n mf r u, Bool.and_assoc]
/-- a template as the list of its parts -/
inductive Prt where
  | node (b : Int) (t : Tm)
  | ref (w : Bool) (p : Int)
def Tm.prts : Tm → List Prt
  | .nil => []
  | .node b t r => .node b t :: r.prts
  | .ref w p r => .ref w p :: r.prts
def prtD : Prt → PyData
  | .node b t => .tuple [.str "node", .int b, t.data]
  | .ref w p => .tuple [.str (wrd w), .int p]
def Prt.parts : Prt → Nat
  | .node _ t => 1 + t.parts
  | .ref _ _ => 1
def Prt.dp : Prt → Nat
  | .node _ t => 1 + t.dp
  | .ref _ _ => 0
def Prt.okT (n : Nat) (mf : Bool) : Prt → Bool
  | .node b t => decide (0 ≤ b ∧ b < 5) && t.okT n mf
  | .ref _ p => mf && decide (0 ≤ p ∧ p < n)
theorem Tm.ts_prts : ∀ t : Tm, t.ts = t.prts.map prtD
  | .nil => rfl
  | .node b t r => by rw [Tm.ts, Tm.prts, List.map_cons, ← Tm.ts_prts r]; rfl
  | .ref w p r => by rw [Tm.ts, Tm.prts, List.map_cons, ← Tm.ts_prts r]; rfl
theorem Tm.parts_prts : ∀ t : Tm, t.parts = (t.prts.map Prt.parts).sum
  | .nil => rfl
  | .node b t r => by rw [Tm.parts, Tm.prts, List.map_cons, List.sum_cons, ← Tm.parts_prts r]; rfl
  | .ref w p r => by rw [Tm.parts, Tm.prts, List.map_cons, List.sum_cons, ← Tm.parts_prts r]; rfl
theorem Tm.len_prts (t : Tm) : t.prts.length = t.len := by
  have := congrArg List.length t.ts_prts
  rw [List.length_map, Tm.ts_length] at this
  exact this.symm
theorem Tm.dp_prts : ∀ (t : Tm) (p : Prt), p ∈ t.prts → p.dp ≤ t.dp
  | .nil, p, h => by simp [Tm.prts] at h
  | .node b t r, p, h => by
    rcases List.mem_cons.mp h with rfl | h
    · simp only [Prt.dp, Tm.dp]; omega
    · have := Tm.dp_prts r p h; simp only [Tm.dp]; omega
  | .ref w q r, p, h => by
    rcases List.mem_cons.mp h with rfl | h
    · simp only [Prt.dp]; omega
    · have := Tm.dp_prts r p h; simp only [Tm.dp]; omega
theorem Tm.ok_prts (n : Nat) (mf : Bool) : ∀ (t : Tm), t.okT n mf = t.prts.all (Prt.okT n mf)
  | .nil => rfl
  | .node b t r => by rw [Tm.okT, Tm.prts, List.all_cons, Tm.ok_prts n mf r]; rfl
  | .ref w p r => by rw [Tm.okT, Tm.prts, List.all_cons, Tm.ok_prts n mf r]; rfl
def Tm.of : List Prt → Tm
  | [] => .nil
  | .node b t :: r => .node b t (Tm.of r)
  | .ref w p :: r => .ref w p (Tm.of r)
theorem Tm.of_prts : ∀ l : List Prt, (Tm.of l).prts = l
  | [] => rfl
  | .node b t :: r => by rw [Tm.of, Tm.prts, Tm.of_prts r]
  | .ref w p :: r => by rw [Tm.of, Tm.prts, Tm.of_prts r]
theorem Tm.prts_of : ∀ t : Tm, Tm.of t.prts = t
  | .nil => rfl
  | .node b t r => by rw [Tm.prts, Tm.of, Tm.prts_of r]
  | .ref w p r => by rw [Tm.prts, Tm.of, Tm.prts_of r]
theorem Prt.parts_pos : ∀ p : Prt, 1 ≤ p.parts
  | .node _ _ => by simp only [Prt.parts]; omega
  | .ref _ _ => by simp only [Prt.parts]; omega
theorem wrd_word (w : Bool) : (isStr (.str (wrd w)) "in" || isStr (.str (wrd w)) "next") = true := by cases w <;> decide
theorem belowD_eq (i : Int) (n : Nat) : belowD (.int i) n = decide (0 ≤ i ∧ i < n) := by
  show (decide (0 ≤ i) && decide (i < (n : Int))) = _
  rw [Bool.eq_iff_iff]; simp
/-- the checker's walk over a template that is one -/
theorem Tm.all_of (n : Nat) (mf : Bool) : ∀ (t : Tm) (lv : Nat), tmAll t.ts n mf lv = (t.okT n mf && decide (t.dp = 0 ∨ lv + t.dp ≤ 10))
  | .nil, lv => by simp [Tm.ts, tmAll, Tm.okT, Tm.dp]
  | .node b t r, lv => by
    have e : tmAll (Tm.node b t r).ts n mf lv = ((isStr (.str "node") "node" && belowD (.int b) 5) && (decide (lv + 1 ≤ 10) && tmAll t.ts n mf (lv + 1)) && tmAll r.ts n mf lv) := by
      show tmAll (.tuple [.str "node", .int b, .tuple t.ts] :: r.ts) n mf lv = _
      rw [tmAll, tmP, tmF]
    rw [e, Tm.all_of n mf t (lv + 1), Tm.all_of n mf r lv, show ((5 : Int)) = ((5 : Nat) : Int) from rfl, belowD_eq, show isStr (.str "node") "node" = true from rfl]
    simp only [Tm.okT, Tm.dp, Bool.true_and]
    rw [Bool.eq_iff_iff]
    simp only [Bool.and_eq_true, decide_eq_true_eq]
    constructor
    · rintro ⟨⟨h1, h2, h3, h4⟩, h5, h6⟩
      exact ⟨⟨⟨h1, h3⟩, h5⟩, decide_eq_true (by omega)⟩
    · rintro ⟨⟨⟨h1, h3⟩, h5⟩, h6⟩
      have h6' := of_decide_eq_true h6
      exact ⟨⟨h1, by omega, h3, by omega⟩, h5, by omega⟩
  | .ref w p r, lv => by
    have e : tmAll (Tm.ref w p r).ts n mf lv = ((mf && ((isStr (.str (wrd w)) "in" || isStr (.str (wrd w)) "next") && belowD (.int p) n)) && tmAll r.ts n mf lv) := by
      show tmAll (.tuple [.str (wrd w), .int p] :: r.ts) n mf lv = _
      rw [tmAll, tmP]
    rw [e, Tm.all_of n mf r lv, wrd_word, belowD_eq]
    simp only [Tm.okT, Tm.dp, Bool.true_and]
    ac_rfl
theorem Tm.form_of (n : Nat) (mf : Bool) (t : Tm) {lv : Nat} (h : lv ≤ 10) : tmF t.data n mf lv = (t.okT n mf && decide (lv + t.dp ≤ 10)) := by
  show (decide (lv ≤ 10) && tmAll t.ts n mf lv) = _
  rw [Tm.all_of, decide_eq_true h, Bool.true_and]
  congr 1
  exact decide_eq_decide.mpr (by omega)
theorem Tm.sz_of : ∀ t : Tm, tmSzA t.ts = t.parts
  | .nil => rfl
  | .node b t r => by
    show tmSzP (.tuple [.str "node", .int b, .tuple t.ts]) + tmSzA r.ts = _
    rw [tmSzP, tmSz, Tm.sz_of t, Tm.sz_of r]; rfl
  | .ref w p r => by
    show tmSzP (.tuple [.str (wrd w), .int p]) + tmSzA r.ts = _
    rw [Tm.sz_of r]; rfl
theorem Tm.pure_ts : ∀ t : Tm, pureAll t.ts = true
  | .nil => rfl
  | .node b t r => by
    show (pure1 (.tuple [.str "node", .int b, .tuple t.ts]) && pureAll r.ts) = true
    rw [Tm.pure_ts r, Bool.and_true]
    show (true && (true && (pureAll t.ts && true))) = true
    rw [Tm.pure_ts t]; rfl
  | .ref w p r => by
    show (pure1 (.tuple [.str (wrd w), .int p]) && pureAll r.ts) = true
    rw [Tm.pure_ts r]; rfl
/-! a transformation -/
abbrev TCh := Int × Tm
structure TSt where
  fin : Tm
  rows : List (List TCh)
structure Trn where
  looks : Sch
  sts : List TSt
def tchD (c : TCh) : PyData := .tuple [.int c.1, c.2.data]
def trowD (r : List TCh) : PyData := .tuple (r.map tchD)
def trowsD (rs : List (List TCh)) : PyData := .tuple (rs.map trowD)
def tstD (s : TSt) : PyData := .tuple [s.fin.data, trowsD s.rows]
def stsD (ss : List TSt) : PyData := .tuple (ss.map tstD)
def Trn.data (m : Trn) : PyData := .tuple [schD m.looks, stsD m.sts]
def rowOk (n looks : Nat) (r : List TCh) : Prop := ∃ ini t, r = ini ++ [(-1, t)] ∧ (∀ c ∈ ini, 0 ≤ c.1 ∧ c.1 < (looks : Int)) ∧ ∀ c ∈ r, c.2.okT n true = true ∧ c.2.dp ≤ 9
structure TStOk (n looks : Nat) (s : TSt) : Prop where
  fin : s.fin.okT n false = true ∧ s.fin.dp ≤ 9
  five : s.rows.length = 5
  rows : ∀ r ∈ s.rows, rowOk n looks r
def TSt.parts (s : TSt) : Nat := s.fin.parts + (s.rows.flatten.map fun c => c.2.parts).sum
structure TrnOk (m : Trn) : Prop where
  looks : SchOk m.looks
  eight : m.looks.length ≤ 8
  one : 1 ≤ m.sts.length
  twelve : m.sts.length ≤ 12
  sts : ∀ s ∈ m.sts, TStOk m.sts.length m.looks.length s
  few : (m.sts.map TSt.parts).sum ≤ 300
def st0T (s : TSt) : St0 := (s.fin.data, s.rows.map fun r => r.map fun c => (.int c.1, c.2.data))
theorem st0T_data (s : TSt) : st0D (st0T s) = tstD s := by
  obtain ⟨f, rs⟩ := s
  show PyData.tuple [f.data, .tuple ((rs.map fun r => r.map fun c => ((.int c.1, c.2.data) : Ch)).map rowCD)] = PyData.tuple [f.data, .tuple (rs.map trowD)]
  rw [List.map_map]
  congr 5
  funext r
  show PyData.tuple ((r.map fun c => ((.int c.1, c.2.data) : Ch)).map chD) = PyData.tuple (r.map tchD)
  rw [List.map_map]; rfl
theorem choices_ok {n looks : Nat} {r : List TCh} (h : rowOk n looks r) : choicesD (trowD r) looks = true := by
  obtain ⟨ini, t, rfl, hi, _⟩ := h
  show (!((ini ++ [((-1 : Int), t)]).map tchD).isEmpty && ((ini ++ [((-1 : Int), t)]).map tchD).all (tupOfD · 2) && (match ((ini ++ [((-1 : Int), t)]).map tchD).getLast? with | some (.tuple [l, _]) => PyData.eqv l (.int (-1)) | _ => false) && ((ini ++ [((-1 : Int), t)]).map tchD).dropLast.all (fun c => match c with | .tuple [l, _] => belowD l looks | _ => false)) = true
  rw [List.map_append, List.map_singleton]
  have e1 : (ini.map tchD ++ [tchD (-1, t)]).getLast? = some (tchD (-1, t)) := by simp
  have e2 : (ini.map tchD ++ [tchD (-1, t)]).dropLast = ini.map tchD := by simp
  have e3 : (ini.map tchD ++ [tchD (-1, t)]).all (tupOfD · 2) = true := by
    rw [List.all_eq_true]
    intro d hd
    rcases List.mem_append.mp hd with hd | hd
    · obtain ⟨c, _, rfl⟩ := List.mem_map.mp hd; rfl
    · rw [List.mem_singleton.mp hd]; rfl
  have e4 : (ini.map tchD ++ [tchD (-1, t)]).isEmpty = false := by cases ini <;> rfl
  rw [e1, e2, e3, e4]
  have e5 : PyData.eqv (.int (-1)) (.int (-1)) = true := by decide
  show (!false && true && PyData.eqv (.int (-1)) (.int (-1)) && _) = true
  rw [e5]
  show (true && (ini.map tchD).all _) = true
  rw [Bool.true_and, List.all_eq_true]
  intro d hd
  obtain ⟨c, hc, rfl⟩ := List.mem_map.mp hd
  show belowD (.int c.1) looks = true
  rw [belowD_eq]
  exact decide_eq_true (hi c hc)
theorem state_ok {n looks : Nat} {s : TSt} (h : TStOk n looks s) : stateTD (tstD s) looks = true := by
  show (decide ((s.rows.map trowD).length = 5) && (s.rows.map trowD).all (choicesD · looks)) = true
  rw [List.length_map, decide_eq_true h.five, Bool.true_and, List.all_eq_true]
  intro d hd
  obtain ⟨r, hr, rfl⟩ := List.mem_map.mp hd
  exact choices_ok (h.rows r hr)
theorem waits_T (ss : List TSt) : waits (ss.map st0T) = ss.map (fun s => (s.fin.data, 1, false)) ++ ss.flatMap fun s => s.rows.flatten.map fun c => (c.2.data, 1, true) := by
  unfold waits
  rw [List.map_map, List.flatMap_map]
  congr 1
  refine flatMap_congr' fun s _ => ?_
  show ((s.rows.map fun r => r.map fun c => ((.int c.1, c.2.data) : Ch)).flatten.map fun c => ((c.2, 1, true) : Wait)) = _
  rw [← List.map_flatten, List.map_map]
  rfl
theorem wSz_app (a b : List Wait) : wSz (a ++ b) = wSz a + wSz b := by simp [wSz]
theorem wSz_T (ss : List TSt) : wSz (waits (ss.map st0T)) = (ss.map TSt.parts).sum := by
  rw [waits_T, wSz_app]
  induction ss with
  | nil => rfl
  | cons s ss ih =>
    rw [List.map_cons, List.flatMap_cons, List.map_cons, List.sum_cons, ← ih, wSz_app]
    have e1 : wSz ((s.fin.data, 1, false) :: ss.map fun s => (s.fin.data, 1, false)) = s.fin.parts + wSz (ss.map fun s => (s.fin.data, 1, false)) := by
      show tmSz s.fin.data + _ = _
      rw [show tmSz s.fin.data = s.fin.parts from Tm.sz_of _]; rfl
    have e2 : wSz (s.rows.flatten.map fun c => (c.2.data, 1, true)) = (s.rows.flatten.map fun c => c.2.parts).sum := by
      unfold wSz
      rw [List.map_map]
      congr 1
      refine List.map_congr_left fun c _ => ?_
      exact Tm.sz_of _
    rw [e1, e2]
    unfold TSt.parts
    omega
theorem wForm_T {n looks : Nat} {ss : List TSt} (h : ∀ s ∈ ss, TStOk n looks s) : wForm n (waits (ss.map st0T)) = true := by
  rw [waits_T]
  unfold wForm
  rw [List.all_append, Bool.and_eq_true, List.all_eq_true, List.all_eq_true]
  constructor
  · intro w hw
    obtain ⟨s, hs, rfl⟩ := List.mem_map.mp hw
    show tmF s.fin.data n false 1 = true
    rw [Tm.form_of n false s.fin (by decide), (h s hs).fin.1, Bool.true_and]
    exact decide_eq_true (by have := (h s hs).fin.2; omega)
  · intro w hw
    obtain ⟨s, hs, hw⟩ := List.mem_flatMap.mp hw
    obtain ⟨c, hc, rfl⟩ := List.mem_map.mp hw
    obtain ⟨r, hr, hc⟩ := List.mem_flatten.mp hc
    obtain ⟨_, _, _, _, hrow⟩ := (h s hs).rows r hr
    obtain ⟨k1, k2⟩ := hrow c hc
    show tmF c.2.data n true 1 = true
    rw [Tm.form_of n true c.2 (by decide), k1, Bool.true_and]
    exact decide_eq_true (by omega)
theorem st0s_T (ss : List TSt) : (ss.map tstD).map st0Of = ss.map st0T := by
  rw [List.map_map]
  refine List.map_congr_left fun s _ => ?_
  show st0Of (tstD s) = _
  rw [← st0T_data, st0Of_st0D]
theorem trans_eq (lk : Sch) (ss : List PyData) : transD (.tuple [schD lk, .tuple ss]) = (schemaD (schD lk) && decide (lk.length ≤ 8) && decide (1 ≤ ss.length) && decide (ss.length ≤ 12) && ss.all (stateTD · lk.length) && goalT ss.length (waits (ss.map st0Of)) 0) := by
  show (schemaD (schD lk) && decide ((lk.map stD).length ≤ 8) && _ && _ && ss.all (stateTD · (lk.map stD).length) && _) = _
  rw [List.length_map]
theorem TrnOk.trans {m : Trn} (h : TrnOk m) : transD m.data = true := by
  show transD (.tuple [schD m.looks, .tuple (m.sts.map tstD)]) = true
  rw [trans_eq, h.looks.data, decide_eq_true h.eight, List.length_map, decide_eq_true h.one, decide_eq_true h.twelve, st0s_T]
  have e : (m.sts.map tstD).all (stateTD · m.looks.length) = true := by
    rw [List.all_eq_true]
    intro d hd
    obtain ⟨s, hs, rfl⟩ := List.mem_map.mp hd
    exact state_ok (h.sts s hs)
  rw [e]
  unfold goalT
  rw [wForm_T h.sts, wSz_T]
  show (true && decide (0 + _ ≤ 300)) = true
  rw [Bool.true_and]
  exact decide_eq_true (by have := h.few; omega)
/-- one state that is none -/
theorem trans_bad_state {lk : PyData} {ss : List PyData} {st : PyData} (hm : st ∈ ss) (h : ∀ looks, stateTD st looks = false ∨ wForm ss.length (waits [st0Of st]) = false) : transD (.tuple [lk, .tuple ss]) = false := by
  cases hc : transD (.tuple [lk, .tuple ss]) with
  | false => rfl
  | true =>
    exfalso
    cases lk with
    | tuple l =>
      have hc' : (schemaD (.tuple l) && decide (l.length ≤ 8) && decide (1 ≤ ss.length) && decide (ss.length ≤ 12) && ss.all (stateTD · l.length) && goalT ss.length (waits (ss.map st0Of)) 0) = true := hc
      simp only [Bool.and_eq_true] at hc'
      have h1 := List.all_eq_true.mp hc'.1.2 st hm
      rcases h l.length with z | z
      · rw [z] at h1; cases h1
      · have h2 := hc'.2
        unfold goalT at h2
        rw [Bool.and_eq_true] at h2
        have h3 := h2.1
        have : wForm ss.length (waits [st0Of st]) = true := by
          unfold wForm at h3 ⊢
          rw [List.all_eq_true] at h3 ⊢
          intro p hp
          refine h3 p ?_
          unfold waits at hp ⊢
          rcases List.mem_append.mp hp with hp | hp
          · rw [List.map_singleton, List.mem_singleton] at hp
            exact List.mem_append.mpr (.inl (List.mem_map.mpr ⟨st0Of st, List.mem_map.mpr ⟨st, hm, rfl⟩, hp.symm⟩))
          · obtain ⟨s, hs, hp⟩ := List.mem_flatMap.mp hp
            rw [List.mem_singleton.mp hs] at hp
            exact List.mem_append.mpr (.inr (List.mem_flatMap.mpr ⟨st0Of st, List.mem_map.mpr ⟨st, hm, rfl⟩, hp⟩))
        rw [z] at this; cases this
    | _ => cases hc
end LW
set_option maxHeartbeats 2000000
namespace LW
open PySem PySem.Spec PyProof.Rows L2
/-! ### expressions that draw from the box: data with a promise -/
section
variable {K : PySem.W.Frag} {σ : L2.St} {H0 : Hp} {bx cl : Addr}
def BX (K : PySem.W.Frag) (σ : L2.St) (H0 : Hp) (bx cl : Addr) (t : TE) (P : PyData → Prop) : Prop := ∀ (H1 : Hp) (Q : VK), Gr [bx] H0 H1 → BoxAt H1 bx cl → (∀ H2 x d, Gr [bx] H1 H2 → BoxAt H2 bx cl → Dp K H2 x d → pure1 d = true → P d → Q x H2) → t σ H1 Q
def BXs (K : PySem.W.Frag) (σ : L2.St) (H0 : Hp) (bx cl : Addr) (t : TA) (P : List PyData → Prop) : Prop := ∀ (H1 : Hp) (Q : List V → Hp → Prop), Gr [bx] H0 H1 → BoxAt H1 bx cl → (∀ H2 xs ds, Gr [bx] H1 H2 → BoxAt H2 bx cl → DpAll K H2 xs ds → pureAll ds = true → P ds → Q xs H2) → t σ H1 Q
theorem BX.go {t : TE} {P : PyData → Prop} (h : BX K σ H0 bx cl t P) (hB : BoxAt H0 bx cl) {Q : VK} (k : ∀ H2 x d, Gr [bx] H0 H2 → BoxAt H2 bx cl → Dp K H2 x d → pure1 d = true → P d → Q x H2) : t σ H0 Q := h H0 Q (Gr.refl _) hB k
theorem BX.imp {t : TE} {P P' : PyData → Prop} (h : BX K σ H0 bx cl t P) (hi : ∀ d, P d → P' d) : BX K σ H0 bx cl t P' := fun H1 Q g hB k => h H1 Q g hB fun H2 x d g2 hB2 hx hp hP => k H2 x d g2 hB2 hx hp (hi d hP)
theorem BX.at {t : TE} {P : PyData → Prop} (h : BX K σ H0 bx cl t P) {H1 : Hp} (g : Gr [bx] H0 H1) : BX K σ H1 bx cl t P := fun H2 Q g2 hB k => h H2 Q (g.trans g2) hB k
/-- a value that is there -/
theorem BX.c {v : V} {d : PyData} (h : ∀ H, Dp K H v d) (hp : pure1 d = true) : BX K σ H0 bx cl (tC v) (· = d) := fun H1 Q g hB k => k H1 v d (Gr.refl _) hB (h H1) hp rfl
theorem BX.int {i : Int} : BX K σ H0 bx cl (tC (.int i)) (· = .int i) := .c (fun _ => .int _) rfl
theorem BX.bl {b : Bool} : BX K σ H0 bx cl (tC (.bl b)) (· = .bool b) := .c (fun _ => .bl _) rfl
theorem BX.non : BX K σ H0 bx cl (tC .non) (· = .none) := .c (fun _ => .non) rfl
theorem BX.str {x : Str} : BX K σ H0 bx cl (tC (.str x)) (· = .str x) := .c (fun _ => .str _) rfl
theorem BX.neg {a : TE} {i : Int} (h : NX K σ H0 a i) (ha : ∀ (H1 : Hp) (Q : VK), Q (.int i) H1 → a σ H1 Q) : BX K σ H0 bx cl (tUn (rU fun i => .int (-i)) a) (· = .int (-i)) := fun H1 Q g hB k => ha H1 _ ⟨_, rfl, k H1 _ _ (Gr.refl _) hB (.int _) rfl rfl⟩
theorem BX.neg1 : BX K σ H0 bx cl (tUn (rU fun i => .int (-i)) (tC (.int 1))) (· = .int (-1)) := fun H1 Q g hB k => ⟨_, rfl, k H1 _ _ (Gr.refl _) hB (.int _) rfl rfl⟩
theorem BX.var {i : Nat} {v : V} {d : PyData} (hB0 : BoxAt H0 bx cl) (hd : Dp K H0 v d) (hp : pure1 d = true) (e : σ[i]? = some (some v)) : BX K σ H0 bx cl (tVar i) (· = d) := fun H1 Q g hB k => ⟨v, e, k H1 v d (Gr.refl _) hB (dp_grm g hB0.lst _ _ hp hd) hp rfl⟩
theorem BXs.nil : BXs K σ H0 bx cl tNil (· = []) := fun H1 Q g hB k => k H1 [] [] (Gr.refl _) hB .nil rfl rfl
theorem BXs.cons {t : TE} {ts : TA} {P : PyData → Prop} {Ps : List PyData → Prop} (h : BX K σ H0 bx cl t P) (hs : BXs K σ H0 bx cl ts Ps) : BXs K σ H0 bx cl (tCons t ts) (fun ds => ∃ d ds', ds = d :: ds' ∧ P d ∧ Ps ds') := fun H1 Q g hB k =>
  h H1 _ g hB fun H2 x d g2 hB2 hx hp hP => hs H2 _ (g.trans g2) hB2 fun H3 xs ds g3 hB3 hxs hps hPs => k H3 (x :: xs) (d :: ds) (g2.trans g3) hB3 (.cons (dp_grm g3 hB2.lst _ _ hp hx) hxs) (by rw [pureAll, hp, hps]; rfl) ⟨d, ds, rfl, hP, hPs⟩
theorem BX.tup {t : TA} {Ps : List PyData → Prop} (h : BXs K σ H0 bx cl t Ps) (hl : ∀ ds, Ps ds → ds.length ≤ 1000) : BX K σ H0 bx cl (tTup t) (fun d => ∃ ds, d = .tuple ds ∧ Ps ds) := fun H1 Q g hB k =>
  h H1 _ g hB fun H2 xs ds g2 hB2 hxs hps hPs => ⟨by rw [hxs.length]; exact Nat.le_of_lt (small4 (by have := hl ds hPs; omega)), fun p np => k _ _ (.tuple ds) (g2.trans (Gr.new np)) (hB2.gr (Gr.new np)) (.tup (SqT.of upd_same) (hxs.gr (Gr.new np))) hps ⟨ds, rfl, hPs⟩⟩
/-- tuples of one to three -/
theorem BX.tup0 : BX K σ H0 bx cl (tTup tNil) (· = .tuple []) := (BX.tup BXs.nil (fun ds h => by rw [h]; simp)).imp fun d ⟨ds, e, h⟩ => by rw [e, h]
theorem BX.tup1 {a : TE} {A : PyData → Prop} (ha : BX K σ H0 bx cl a A) : BX K σ H0 bx cl (tTup (tCons a tNil)) (fun d => ∃ x, d = .tuple [x] ∧ A x) :=
  (BX.tup (.cons ha .nil) (fun ds ⟨_, _, e, _, e2⟩ => by rw [e, e2]; simp)).imp fun d ⟨ds, e, x, ds', e2, hA, e3⟩ => ⟨x, by rw [e, e2, e3], hA⟩
theorem BX.tup2 {a b : TE} {A B : PyData → Prop} (ha : BX K σ H0 bx cl a A) (hb : BX K σ H0 bx cl b B) : BX K σ H0 bx cl (tTup (tCons a (tCons b tNil))) (fun d => ∃ x y, d = .tuple [x, y] ∧ A x ∧ B y) :=
  (BX.tup (.cons ha (.cons hb .nil)) (fun ds ⟨_, _, e, _, _, _, e2, _, e3⟩ => by rw [e, e2, e3]; simp)).imp fun d ⟨ds, e, x, ds', e2, hA, y, ds2, e3, hB, e4⟩ => ⟨x, y, by rw [e, e2, e3, e4], hA, hB⟩
theorem BX.tup3 {a b c : TE} {A B C : PyData → Prop} (ha : BX K σ H0 bx cl a A) (hb : BX K σ H0 bx cl b B) (hc : BX K σ H0 bx cl c C) : BX K σ H0 bx cl (tTup (tCons a (tCons b (tCons c tNil)))) (fun d => ∃ x y z, d = .tuple [x, y, z] ∧ A x ∧ B y ∧ C z) :=
  (BX.tup (.cons ha (.cons hb (.cons hc .nil))) (fun ds ⟨_, _, e, _, _, _, e2, _, _, _, e3, _, e4⟩ => by rw [e, e2, e3, e4]; simp)).imp fun d ⟨ds, e, x, ds', e2, hA, y, ds2, e3, hB, z, ds3, e4, hC, e5⟩ => ⟨x, y, z, by rw [e, e2, e3, e4, e5], hA, hB, hC⟩
/-- _law_take(box, m), the m an int that is there -/
theorem BX.take {bi : Nat} {a : TE} {m : Int} (hb : σ[bi]? = some (some (.ref bx))) (ha : ∀ (H1 : Hp) (Q : VK), Gr [bx] H0 H1 → Q (.int m) H1 → a σ H1 Q) (h0 : 0 < m) (h1 : m < 1073741824) : BX K σ H0 bx cl (tCall spTake [] E0 (tCons (tVar bi) (tCons a tNil))) (fun d => ∃ t : Nat, (t : Int) < m ∧ d = .int t) := fun H1 Q g hB k =>
  ⟨_, hb, ha H1 _ g ⟨bx, cl, m, rfl, h0, h1, hB, fun t H2 t0 t1 g2 hB2 => by
    obtain ⟨n, rfl⟩ : ∃ n : Nat, t = (n : Int) := ⟨t.toNat, by omega⟩
    exact k H2 _ _ g2 hB2 (.int _) rfl ⟨n, t1, rfl⟩⟩⟩
theorem BX.takeC {bi : Nat} {m : Int} (hb : σ[bi]? = some (some (.ref bx))) (h0 : 0 < m) (h1 : m < 1073741824) : BX K σ H0 bx cl (tCall spTake [] E0 (tCons (tVar bi) (tCons (tC (.int m)) tNil))) (fun d => ∃ t : Nat, (t : Int) < m ∧ d = .int t) := BX.take hb (fun _ _ _ q => q) h0 h1
theorem BX.takeV {bi mi : Nat} {m : Int} (hb : σ[bi]? = some (some (.ref bx))) (hm : σ[mi]? = some (some (.int m))) (h0 : 0 < m) (h1 : m < 1073741824) : BX K σ H0 bx cl (tCall spTake [] E0 (tCons (tVar bi) (tCons (tVar mi) tNil))) (fun d => ∃ t : Nat, (t : Int) < m ∧ d = .int t) := BX.take hb (fun _ _ _ q => ⟨_, hm, q⟩) h0 h1
/-- _law_pick(box, labels), a list of ints that stands -/
theorem BX.pickV {bi li : Nat} {l : Addr} {ls : List Int} (hB0 : BoxAt H0 bx cl) (hb : σ[bi]? = some (some (.ref bx))) (hl : σ[li]? = some (some (.ref l))) (hL : H0 l = some (.lst (ls.map V.int))) (ne : l ≠ bx) (h0 : 0 < ls.length) (h1 : ls.length < 1073741824) : BX K σ H0 bx cl (tCall spPick [] E0 (tCons (tVar bi) (tCons (tVar li) tNil))) (fun d => ∃ t ∈ ls, d = .int t) := fun H1 Q g hB k =>
  ⟨_, hb, _, hl, bx, cl, l, ls, rfl, g.lst (by simpa using ne) hL, ne, h0, h1, hB, fun t H2 ht g2 hB2 => k H2 _ _ g2 hB2 (.int _) rfl ⟨t, ht, rfl⟩⟩
/-- _law_pick(box, [..]) of data -/
theorem BX.pickL {bi : Nat} {a : TA} {Ps : List PyData → Prop} (hb : σ[bi]? = some (some (.ref bx))) (ha : BXs K σ H0 bx cl a Ps) (hl : ∀ ds, Ps ds → 0 < ds.length ∧ ds.length ≤ 1000) : BX K σ H0 bx cl (tCall (spPickD K) [] E0 (tCons (tVar bi) (tCons (tLst a) tNil))) (fun d => ∃ ds, Ps ds ∧ d ∈ ds) := fun H1 Q g hB k =>
  ⟨_, hb, ha H1 _ g hB fun H2 xs ds g2 hB2 hxs hps hPs => ⟨by rw [hxs.length]; exact Nat.le_of_lt (small4 (by have := (hl ds hPs).2; omega)), fun p np => by
    have gp := Gr.new (m := []) (o := .lst xs) np
    refine ⟨bx, cl, p, xs, ds, rfl, hB2.gr gp, (hB2.ne np).1, upd_same, hxs.gr gp, hps, (hl ds hPs).1, (hl ds hPs).2, fun d x H3 hd hx g3 hB3 => ?_⟩
    exact k H3 x d (g2.trans (gp.any.trans g3)) hB3 hx (pureAll_iff.mp hps d hd) ⟨ds, hPs, hd⟩⟩⟩
/-- data that is displayed, all its parts known -/
theorem BXs.of {t : TA} {ds : List PyData} (h : DXs K σ H0 t ds) (hp : pureAll ds = true) (hB0 : BoxAt H0 bx cl) (hg : ∀ H1, Gr [bx] H0 H1 → DXs K σ H1 t ds) : BXs K σ H0 bx cl t (· = ds) := fun H1 Q g hB k =>
  hg H1 g H1 _ (Gr.refl _) fun H2 xs g2 hxs => k H2 xs ds g2.any (hB.gr g2) hxs hp rfl
/-- a + b of tuples -/
theorem BX.cat {a b : TE} {A B : List PyData → Prop} (ha : BX K σ H0 bx cl a (fun d => ∃ ds, d = .tuple ds ∧ A ds)) (hb : BX K σ H0 bx cl b (fun d => ∃ ds, d = .tuple ds ∧ B ds)) (hl : ∀ ds es, A ds → B es → ds.length + es.length ≤ 4000) : BX K σ H0 bx cl (tOp (rCatA K) a b) (fun d => ∃ ds es, d = .tuple (ds ++ es) ∧ A ds ∧ B es) := fun H1 Q g hB k =>
  ha H1 _ g hB fun H2 x d g2 hB2 hx hp ⟨ds, e, hA⟩ => hb H2 _ (g.trans g2) hB2 fun H3 y d' g3 hB3 hy hp' ⟨es, e', hB'⟩ => by
    subst e e'
    refine cat_data (dp_grm g3 hB2.lst _ _ hp hx) hy (Nat.le_of_lt (small4 (by have := hl ds es hA hB'; omega))) fun H4 z g4 hz => ?_
    refine k H4 z _ (g2.trans (g3.trans g4.any)) (hB3.gr g4) hz ?_ ⟨ds, es, rfl, hA, hB'⟩
    have h1 : pureAll ds = true := hp
    have h2 : pureAll es = true := hp'
    show pureAll (ds ++ es) = true
    rw [pureAll_app, h1, h2]; rfl
/-- [:n] of a tuple -/
theorem BX.cutTo {a b : TE} {n : Nat} {A : List PyData → Prop} (ha : BX K σ H0 bx cl a (fun d => ∃ ds, d = .tuple ds ∧ A ds)) (hb : ∀ (H1 : Hp) (Q : VK), Q (.int (n : Int)) H1 → b σ H1 Q) : BX K σ H0 bx cl (tSl (rSlA K) a tNoPart (tPart b)) (fun d => ∃ ds, d = .tuple (ds.take n) ∧ A ds) := fun H1 Q g hB k =>
  ha H1 _ g hB fun H2 x d g2 hB2 hx hp ⟨ds, e, hA⟩ => hb H2 _ ⟨_, rfl, by
    subst e
    refine take_data hx fun H3 y g3 hy => k H3 y _ (g2.trans g3.any) (hB2.gr g3) hy ?_ ⟨ds, rfl, hA⟩
    have h1 : pureAll ds = true := hp
    exact pureAll_iff.mpr fun z hz => pureAll_iff.mp h1 z (List.mem_of_mem_take hz)⟩
/-- the statement x = t -/
theorem BX.set {t : TE} {P : PyData → Prop} {i : Nat} {rest : TS} {D : Ends} (h : BX K σ H0 bx cl t P) (hB : BoxAt H0 bx cl) (k : ∀ H2 x d, Gr [bx] H0 H2 → BoxAt H2 bx cl → Dp K H2 x d → pure1 d = true → P d → rest D (σ.set i (some x)) H2) : tSeq (tAsg t (gName i)) rest D σ H0 := by
  show t σ H0 (fun x H1 => rest D (σ.set i (some x)) H1)
  exact h.go hB k
end
/-! ### a list that grows while the box is drawn from -/
structure BL (K : PySem.W.Frag) (H0 H : Hp) (bx cl D : Addr) (ds : List PyData) : Prop where
  new : H0 D = none
  nb : D ≠ bx
  nc : D ≠ cl
  box : BoxAt H bx cl
  gr : Gr [bx] H0 H
  pr : pureAll ds = true
  ex : ∃ xs, H D = some (.lst xs) ∧ DpAll K H xs ds
section
variable {K : PySem.W.Frag} {H0 H H2 : Hp} {bx cl D : Addr} {ds : List PyData}
theorem BL.start (hB : BoxAt H0 bx cl) (n : H0 D = none) : BL K H0 (upd H0 D (.lst [])) bx cl D [] :=
  ⟨n, (hB.ne n).1, (hB.ne n).2, hB.put (hB.ne n).1 (hB.ne n).2, Gr.new n, rfl, [], upd_same, .nil⟩
theorem BL.step (h : BL K H0 H bx cl D ds) (g : Gr [bx] H H2) (hB : BoxAt H2 bx cl) : BL K H0 H2 bx cl D ds := by
  obtain ⟨xs, e, hx⟩ := h.ex
  exact ⟨h.new, h.nb, h.nc, hB, h.gr.trans g, h.pr, xs, g.lst (by simpa using h.nb) e, dpAll_grm g h.box.lst _ _ h.pr hx⟩
theorem BL.stepE (h : BL K H0 H bx cl D ds) (g : Gr [] H H2) : BL K H0 H2 bx cl D ds := h.step g.any (h.box.gr g)
theorem BL.put (h : BL K H0 H bx cl D ds) {x : V} {d : PyData} {xs : List V} (e : H D = some (.lst xs)) (hx : Dp K H x d) (hp : pure1 d = true) : BL K H0 (upd H D (.lst (xs ++ [x]))) bx cl D (ds ++ [d]) := by
  obtain ⟨xs', e', hxs⟩ := h.ex
  rw [e] at e'
  cases e'
  have gw : Gr [D] H (upd H D (.lst (xs ++ [x]))) := Gr.put e (fun _ z => by cases z) (by simp)
  have wl : ∀ b ∈ [D], ∃ ys, H b = some (.lst ys) := fun b hb => by rw [List.mem_singleton.mp hb]; exact ⟨_, e⟩
  exact ⟨h.new, h.nb, h.nc, h.box.put h.nb h.nc, h.gr.put0 h.new, by rw [pureAll_app, h.pr, pureAll, hp]; rfl, _, upd_same, DpAll.append (dpAll_grm gw wl _ _ h.pr hxs) (.cons (dp_grm gw wl _ _ hp hx) .nil)⟩
/-- l.append(t), the l in a slot -/
theorem BL.app {σ : L2.St} {li : Nat} {t : TE} {P : PyData → Prop} {Q : VK} (h : BL K H0 H bx cl D ds) (hl : σ[li]? = some (some (.ref D))) (ht : BX K σ H bx cl t P) (few : ds.length ≤ 90000) (k : ∀ H3 d, BL K H0 H3 bx cl D (ds ++ [d]) → P d → Q .non H3) : tBM K "list" rAppend (tVar li) (tCons t tNil) σ H Q := by
  obtain ⟨xs, e, hxs⟩ := h.ex
  refine ⟨_, hl, .inl ⟨rfl, xs, SqL.of e⟩, ht H _ (Gr.refl _) h.box fun H2 x d g2 hB2 hx hp hP => ?_⟩
  have h2 := h.step g2 hB2
  obtain ⟨ys, e2, hys⟩ := h2.ex
  have ly := hys.length
  exact ⟨D, ys, x, rfl, rfl, e2, small4 (by omega), k _ d (h2.put e2 hx hp) hP⟩
/-- tuple(l) -/
theorem BL.tuple {Q : VK} (h : BL K H0 H bx cl D ds) (few : ds.length ≤ 90000) (k : ∀ H3 x, Gr [bx] H0 H3 → BoxAt H3 bx cl → Dp K H3 x (.tuple ds) → pure1 (.tuple ds) = true → Q x H3) : rTupOf K [.ref D] H Q := by
  obtain ⟨xs, e, hxs⟩ := h.ex
  refine tupD e hxs fun H' x g hx => k H' x (h.gr.trans g.any) (h.box.gr g) hx h.pr
end
end LW
set_option maxHeartbeats 4000000
namespace LW
open PySem PySem.Spec PyProof.Rows L2
section
variable {P : Program} {w : World} {K : PySem.W.Frag} {mg : Str → Option Value} {base : Heap} {f : Addr} {fd : FuncData}
abbrev n_law_grown : List Str := ["box", "labels", "many", "deep", "end", "parts", "k", "sort"]
theorem sc_law_grown : FnScope n_law_grown ["box", "labels", "many", "deep", "end"] (defScope s__law_grown) := ⟨rfl, rfl, rfl, by decide +kernel, rfl, by decide +kernel, by decide +kernel⟩
def spGrown (K : PySem.W.Frag) (n : Nat) : Sp := fun vs H Q _ => ∃ (bx cl ll : Addr) (ls : List Int) (many deep : Nat) (e : Bool), vs = [.ref bx, .ref ll, natV many, natV deep, .bl e] ∧ BoxAt H bx cl ∧ H ll = some (.lst (ls.map V.int)) ∧ ll ≠ bx ∧ 0 < ls.length ∧ ls.length < 1073741824 ∧ (∀ x ∈ ls, 0 ≤ x ∧ x < 5) ∧ 1 ≤ many ∧ many ≤ 12 ∧ deep < n ∧
  ∀ (t : Tm) (v : V) H', t.okT many (!e) = true → t.dp ≤ deep → t.len ≤ 3 → t.parts ≤ 3 * (1 + 7 ^ deep) → Gr [bx] H H' → BoxAt H' bx cl → Dp K H' v t.data → Q v H'
theorem ok_grown {n : Nat} (F : Fun K "_law_grown" "_law_grown" s__law_grown f fd) (f__law_take : Fn P w K mg base CX0 1 "_law_take" ["box", "m"] spTake) (f_pick : Fn P w K mg base CX0 2 "_law_pick" ["box", "menu"] spPick) (f_pickD : Fn P w K mg base CX0 2 "_law_pick" ["box", "menu"] (spPickD K))
    (f__law_grown : Fn P w K mg base CX0 (n + 2) "_law_grown" ["box", "labels", "many", "deep", "end"] (spGrown K n)) (m_range : mg "range" = none) (m_tuple : mg "tuple" = none) : FnOk P w K mg base CX0 (n + 3) f fd ["box", "labels", "many", "deep", "end"] (spGrown K (n + 1)) := by
  refine F.ok sc_law_grown (fun vs H Q E h => ?_) (fun cdv A outer s H vs Q E hr h => ?_)
  · obtain ⟨_, _, _, _, _, _, _, rfl, _⟩ := h; rfl
  obtain ⟨bx, cl, ll, ls, many, deep, e, rfl, hB, hll, nll, hl0, hl1, hls, hm1, hm2, hdn, q⟩ := h
  have nd := sc_law_grown.nd
  have hr1 := hr.mono (show 1 ≤ n + 2 by omega)
  have hr2 := hr.mono (show 2 ≤ n + 2 by omega)
  refine ⟨_, pss_cons (ps_set (i := 5) nd rfl (.inl rfl) (pe_lst pa_nil))
    (pss_cons (ps_for PassesOwn.never rfl (pi_range1 rfl m_range (pa_cons (pe_fn f_pickD hr2 rfl pass0 (pa_cons (pv 0) (pa_cons (pe_lst (pa_cons pe_int (pa_cons pe_int (pa_cons pe_int (pa_cons pe_int (pa_cons pe_int (pa_cons pe_int pa_nil))))))) pa_nil))) pa_nil)) (pg_name (i := 6) nd rfl (.inl rfl))
      (pss_cons (ps_set (i := 7) nd rfl (.inl rfl) (pe_fn f__law_take hr1 rfl pass0 (pa_cons (pv 0) (pa_cons pe_int pa_nil))))
      (pss_one (ps_if (PW.pt (pw_and (pt_cmpR op_eq (pv 7) pe_int (nomark _)) (pw_and1 (pt_cmpR op_gt (pv 3) pe_int (nomark _)))))
        (pss_one (ps_expr (pe_bm PySem.F.plainAttrs_list PySem.F.slot_list_append PySem.F.type_list_append mt_append (pv 5) (pa_cons (pe_tup (pa_cons pe_str (pa_cons (pe_fn f_pick hr2 rfl pass0 (pa_cons (pv 0) (pa_cons (pv 1) pa_nil))) (pa_cons (pe_fn f__law_grown hr rfl pass0 (pa_cons (pv 0) (pa_cons (pv 1) (pa_cons (pv 2) (pa_cons (pe_op op_sub (pv 3) pe_int) (pa_cons (pv 4) pa_nil)))))) pa_nil)))) pa_nil))))
        (pss_one (ps_if (pt_not (pt_val (pv 4)))
          (pss_one (ps_expr (pe_bm PySem.F.plainAttrs_list PySem.F.slot_list_append PySem.F.type_list_append mt_append (pv 5) (pa_cons (pe_tup (pa_cons (pe_fn f_pickD hr2 rfl pass0 (pa_cons (pv 0) (pa_cons (pe_lst (pa_cons pe_str (pa_cons pe_str pa_nil))) pa_nil))) (pa_cons (pe_fn f__law_take hr1 rfl pass0 (pa_cons (pv 0) (pa_cons (pv 2) pa_nil))) pa_nil))) pa_nil))))
          pss_nil))))))
    (pss_one (ps_ret (pe_callTy call_tuple_of (by rfl) m_tuple b_tuple (pa_cons (pv 5) pa_nil))))), ?_⟩
  refine ⟨Nat.zero_le _, fun D nD => ?_⟩
  have b0 := BL.start (K := K) hB nD
  generalize (upd H D (.lst [])) = H1 at b0 ⊢
  have hll1 : H1 ll = some (.lst (ls.map V.int)) := b0.gr.lst (by simpa using nll) hll
  have pk : BX K [some (.ref bx), some (.ref ll), some (natV many), some (natV deep), some (.bl e), some (.ref D), none, none] H1 bx cl (tCall (spPickD K) [] E0 (tCons (tVar 0) (tCons (tLst (tCons (tC (.int 0)) (tCons (tC (.int 1)) (tCons (tC (.int 1)) (tCons (tC (.int 2)) (tCons (tC (.int 2)) (tCons (tC (.int 3)) tNil))))))) tNil))) (fun d => ∃ m : Nat, m ≤ 3 ∧ d = .int m) :=
    (BX.pickL rfl (.cons .int (.cons .int (.cons .int (.cons .int (.cons .int (.cons .int .nil)))))) (fun ds h => by
      obtain ⟨_, _, rfl, rfl, _, _, rfl, rfl, _, _, rfl, rfl, _, _, rfl, rfl, _, _, rfl, rfl, _, _, rfl, rfl, rfl⟩ := h; simp)).imp fun d ⟨ds, h, hd⟩ => by
      obtain ⟨_, _, rfl, rfl, _, _, rfl, rfl, _, _, rfl, rfl, _, _, rfl, rfl, _, _, rfl, rfl, _, _, rfl, rfl, rfl⟩ := h
      simp only [List.mem_cons, List.not_mem_nil, or_false] at hd
      rcases hd with rfl | rfl | rfl | rfl | rfl | rfl
      · exact ⟨0, by omega, rfl⟩
      · exact ⟨1, by omega, rfl⟩
      · exact ⟨1, by omega, rfl⟩
      · exact ⟨2, by omega, rfl⟩
      · exact ⟨2, by omega, rfl⟩
      · exact ⟨3, by omega, rfl⟩
  refine pk.go b0.box fun H2 x d g2 hB2 hx hp ⟨m, hm, e2⟩ => ?_
  subst e2
  have := hx.intI; subst this
  have b2 := b0.step g2 hB2
  refine ⟨_, rfl, by omega, by omega, for_range (n := (m : Int).toNat) (fun i σ H' => ∃ (t : Tm) (y6 y7 : Option V), σ = [some (.ref bx), some (.ref ll), some (natV many), some (natV deep), some (.bl e), some (.ref D), y6, y7] ∧ BL K H H' bx cl D t.ts ∧ t.okT many (!e) = true ∧ t.dp ≤ deep ∧ t.len ≤ i ∧ t.parts ≤ i * (1 + 7 ^ deep))
    ⟨.nil, none, none, rfl, b2, rfl, Nat.zero_le _, Nat.le_refl _, by simp [Tm.parts]⟩ (fun i σ H3 hi hP => ?_) (fun σ H3 hP => ?_)⟩
  · obtain ⟨t, y6, y7, rfl, b3, t1, t2, t3, t4⟩ := hP
    rw [Int.toNat_natCast] at hi
    have lt : t.ts.length ≤ 3 := by rw [Tm.ts_length]; omega
    have pw1 : 1 ≤ 7 ^ deep := Nat.pow_pos (by decide)
    have pm : (i + 1) * (1 + 7 ^ deep) = i * (1 + 7 ^ deep) + (1 + 7 ^ deep) := Nat.succ_mul ..
    refine st_normS (t := tSeq _ _) (σ' := [some (.ref bx), some (.ref ll), some (natV many), some (natV deep), some (.bl e), some (.ref D), some (.int (0 + (i : Int))), y7]) rfl ?_
    refine (BX.takeC (K := K) (bi := 0) (m := 3) rfl (by decide) (by decide)).set b3.box fun H4 x4 d4 g4 hB4 hx4 hp4 ⟨s4, hs4, e4⟩ => ?_
    subst e4
    have := hx4.intI; subst this
    have b4 := b3.step g4 hB4
    have hll4 : H4 ll = some (.lst (ls.map V.int)) := b4.gr.lst (by simpa using nll) hll
    refine st_normS (σ' := [some (.ref bx), some (.ref ll), some (natV many), some (natV deep), some (.bl e), some (.ref D), some (.int (0 + (i : Int))), some (natV s4)]) rfl ?_
    have more : BX K [some (.ref bx), some (.ref ll), some (natV many), some (natV deep), some (.bl e), some (.ref D), some (.int (0 + (i : Int))), some (natV s4)] H4 bx cl (tTup (tCons (tCall (spPickD K) [] E0 (tCons (tVar 0) (tCons (tLst (tCons (tC (.str "in")) (tCons (tC (.str "next")) tNil))) tNil))) (tCons (tCall spTake [] E0 (tCons (tVar 0) (tCons (tVar 2) tNil))) tNil))) (fun d => ∃ (wd : Bool) (p : Nat), p < many ∧ d = .tuple [.str (wrd wd), .int p]) :=
      (BX.tup2 (BX.pickL rfl (.cons .str (.cons .str .nil)) (fun ds h => by obtain ⟨_, _, rfl, rfl, _, _, rfl, rfl, rfl⟩ := h; simp)) (BX.takeV (mi := 2) rfl rfl (by omega) (by omega))).imp fun d ⟨x, y, e1, ⟨ds, h, hd⟩, p, hp, ey⟩ => by
        obtain ⟨_, _, rfl, rfl, _, _, rfl, rfl, rfl⟩ := h
        subst e1 ey
        simp only [List.mem_cons, List.not_mem_nil, or_false] at hd
        rcases hd with rfl | rfl
        · exact ⟨false, p, by omega, rfl⟩
        · exact ⟨true, p, by omega, rfl⟩
    have nope : (tIfS (tNot (tB (tVar 4))) (tDrop (tBM K "list" rAppend (tVar 5) (tCons (tTup (tCons (tCall (spPickD K) [] E0 (tCons (tVar 0) (tCons (tLst (tCons (tC (.str "in")) (tCons (tC (.str "next")) tNil))) tNil))) (tCons (tCall spTake [] E0 (tCons (tVar 0) (tCons (tVar 2) tNil))) tNil))) tNil))) tNext) { nx := fun σ H' => ∃ (t : Tm) (y6 y7 : Option V), σ = [some (.ref bx), some (.ref ll), some (natV many), some (natV deep), some (.bl e), some (.ref D), y6, y7] ∧ BL K H H' bx cl D t.ts ∧ t.okT many (!e) = true ∧ t.dp ≤ deep ∧ t.len ≤ i + 1 ∧ t.parts ≤ (i + 1) * (1 + 7 ^ deep), rt := Q } [some (.ref bx), some (.ref ll), some (natV many), some (natV deep), some (.bl e), some (.ref D), some (.int (0 + (i : Int))), some (natV s4)] H4 := by
      refine ⟨_, rfl, _, rfl, ?_⟩
      cases e with
      | true => exact iteF ⟨t, _, _, rfl, b4, t1, t2, by omega, by omega⟩
      | false =>
        refine iteT (BL.app b4 rfl more (by omega) fun H5 d b5 ⟨wd, p, hp, ed⟩ => ?_)
        subst ed
        refine ⟨t.app (.ref wd p .nil), _, _, rfl, by rw [Tm.app_ts]; exact b5, ?_, ?_, ?_, by rw [Tm.app_parts]; simp only [Tm.parts]; omega⟩
        · rw [Tm.app_ok, t1]
          simp only [Tm.okT, Bool.not_false, Bool.true_and, Bool.and_true]
          exact decide_eq_true ⟨by omega, by omega⟩
        · rw [Tm.app_dp]; simp only [Tm.dp]; omega
        · have := Tm.ts_length (t.app (.ref wd p .nil))
          rw [Tm.app_ts, List.length_append, Tm.ts_length] at this
          simp only [Tm.ts, List.length_cons, List.length_nil] at this
          omega
    refine ⟨_, rfl, rfl, _, rfl, ?_⟩
    by_cases hs0 : s4 = 0
    case neg =>
      exact iteFd (decide_eq_false fun z => hs0 (by injection z with z; omega)) (iteF nope)
    refine iteTd (decide_eq_true (by rw [hs0]; rfl)) ⟨_, rfl, _, _, rfl, rfl, _, rfl, ?_⟩
    by_cases hd0 : 0 < deep
    case neg => exact iteFd (decide_eq_false (by omega)) nope
    refine iteTd (decide_eq_true (by omega)) ?_
    have kid : BX K [some (.ref bx), some (.ref ll), some (natV many), some (natV deep), some (.bl e), some (.ref D), some (.int (0 + (i : Int))), some (natV s4)] H4 bx cl (tCall (spGrown K n) [] E0 (tCons (tVar 0) (tCons (tVar 1) (tCons (tVar 2) (tCons (tOp (rI0 fun i j => .int (i - j)) (tVar 3) (tC (.int 1))) (tCons (tVar 4) tNil)))))) (fun d => ∃ u : Tm, d = u.data ∧ u.okT many (!e) = true ∧ u.dp + 1 ≤ deep ∧ u.parts ≤ 3 * (1 + 7 ^ (deep - 1))) := fun H5 Q5 g5 hB5 k5 => by
      refine ⟨_, rfl, _, rfl, _, rfl, _, rfl, _, _, rfl, rfl, _, rfl, bx, cl, ll, ls, many, deep - 1, e, ?_, hB5, g5.lst (by simpa using nll) hll4, nll, hl0, hl1, hls, hm1, hm2, by omega, fun u x H6 u1 u2 u3 u4 g6 hB6 hx6 => k5 H6 x u.data g6 hB6 hx6 u.pure_ts ⟨u, rfl, u1, by omega, u4⟩⟩
      have e9 : V.int ((deep : Int) - 1) = natV (deep - 1) := by show V.int _ = V.int _; congr 1; omega
      show [V.ref bx, V.ref ll, natV many, V.int ((deep : Int) - 1), V.bl e] = _
      rw [e9]
    refine BL.app b4 rfl (BX.tup3 .str (BX.pickV (li := 1) b4.box rfl rfl hll4 nll hl0 hl1) kid) (by omega) fun H5 d b5 ⟨x, y, z, ed, ex, ⟨b, hb, ey⟩, u, eu, u1, u2, u3⟩ => ?_
    subst ed ex ey eu
    obtain ⟨hb0, hb5⟩ := hls b hb
    have pd : 7 ^ deep = 7 * 7 ^ (deep - 1) := by
      obtain ⟨m, rfl⟩ : ∃ m, deep = m + 1 := ⟨deep - 1, by omega⟩
      rw [Nat.add_sub_cancel, Nat.pow_succ, Nat.mul_comm]
    have pd1 : 1 ≤ 7 ^ (deep - 1) := Nat.pow_pos (by decide)
    refine ⟨t.app (.node b u .nil), _, _, rfl, by rw [Tm.app_ts]; exact b5, ?_, ?_, ?_, by rw [Tm.app_parts]; simp only [Tm.parts]; omega⟩
    · rw [Tm.app_ok, t1]
      simp only [Tm.okT, u1, Bool.true_and, Bool.and_true]
      exact decide_eq_true ⟨hb0, hb5⟩
    · rw [Tm.app_dp]; simp only [Tm.dp]; omega
    · have := Tm.ts_length (t.app (.node b u .nil))
      rw [Tm.app_ts, List.length_append, Tm.ts_length] at this
      simp only [Tm.ts, List.length_cons, List.length_nil] at this
      omega
  · obtain ⟨t, y6, y7, rfl, b3, t1, t2, t3, t4⟩ := hP
    rw [Int.toNat_natCast] at t3 t4
    have hm9 : m * (1 + 7 ^ deep) ≤ 3 * (1 + 7 ^ deep) := Nat.mul_le_mul_right _ hm
    refine ⟨_, rfl, ?_⟩
    exact b3.tuple (by rw [Tm.ts_length]; omega) fun H4 x g4 hB4 hx hp => q t x H4 t1 t2 (by omega) (by omega) g4 hB4 hx
theorem grown_none {k : Nat} {f : Addr} {fd : FuncData} : FnOk P w K mg base CX0 k f fd ["box", "labels", "many", "deep", "end"] (spGrown K 0) := by
  have no : ∀ vs H Q E, ¬ spGrown K 0 vs H Q E := fun vs H Q E h => by
    obtain ⟨_, _, _, _, _, _, _, _, _, _, _, _, _, _, _, _, h, _⟩ := h
    exact absurd h (Nat.not_lt_zero _)
  exact ⟨fun vs H Q E h => absurd h (no vs H Q E), fun A outer s H args us vs Q E _ _ _ _ h => absurd h (no vs H Q E)⟩
theorem grown_any (F : Fun K "_law_grown" "_law_grown" s__law_grown f fd) (m : mg "_law_grown" = some (.ref f)) (b : Binds K fd ["box", "labels", "many", "deep", "end"] []) (f__law_take : Fn P w K mg base CX0 1 "_law_take" ["box", "m"] spTake) (f_pick : Fn P w K mg base CX0 2 "_law_pick" ["box", "menu"] spPick) (f_pickD : Fn P w K mg base CX0 2 "_law_pick" ["box", "menu"] (spPickD K))
    (m_range : mg "range" = none) (m_tuple : mg "tuple" = none) : ∀ n : Nat, Fn P w K mg base CX0 (n + 2) "_law_grown" ["box", "labels", "many", "deep", "end"] (spGrown K n)
  | 0 => ⟨f, fd, grown_none, m, F.kp, b⟩
  | n + 1 => ⟨f, fd, ok_grown F f__law_take f_pick f_pickD (grown_any F m b f__law_take f_pick f_pickD m_range m_tuple n) m_range m_tuple, m, F.kp, b⟩
end
end LW
set_option maxHeartbeats 4000000
namespace LW
open PySem PySem.Spec PyProof.Rows L2
section
variable {P : Program} {w : World} {K : PySem.W.Frag} {mg : Str → Option Value} {base : Heap} {f : Addr} {fd : FuncData}
abbrev n_law_parts : List Str := ["template", "part"]
theorem sc_law_parts : FnScope n_law_parts ["template"] (defScope s__law_parts) := ⟨rfl, rfl, rfl, by decide +kernel, rfl, by decide +kernel, by decide +kernel⟩
def spLParts (K : PySem.W.Frag) (k : Nat) : Sp := fun vs H Q _ => ∃ (v : V) (t : Tm), vs = [v] ∧ Dp K H v t.data ∧ t.dp < k ∧ t.parts ≤ 1000 ∧ ∀ H', Gr [] H H' → Q (natV t.parts) H'
theorem ok_lparts {n : Nat} (F : Fun K "_law_parts" "_law_parts" s__law_parts f fd) (f__law_parts : Fn P w K mg base CX0 n "_law_parts" ["template"] (spLParts K n)) (m_sum : mg "sum" = none) : FnOk P w K mg base CX0 (n + 1) f fd ["template"] (spLParts K (n + 1)) := by
  refine F.ok sc_law_parts (fun vs H Q E h => ?_) (fun cdv A outer s H vs Q E hr h => ?_)
  · obtain ⟨_, _, rfl, _⟩ := h; rfl
  obtain ⟨v, t, rfl, hd, hdp, hp, q⟩ := h
  have nd := sc_law_parts.nd
  refine ⟨_, pss_one (ps_ret (pe_callB (cr_sum rfl) (by rfl) m_sum b_sum (pa_cons (pe_lc (own := [("part", 1)]) (g := gName 1) (tt := tYes) (te := tOp (rI0 fun i j => .int (i + j)) (tC (.int 1)) (tIf (tTest (tOp rEq (tOp (rIxT K) (tVar 1) (tC (.int 0))) (tC (.str "node")))) (tCall (spLParts K n) [] E0 (tCons (tOp (rIxT K) (tVar 1) (tC (.int 2))) tNil)) (tC (.int 0)))) rfl nd (pi_tup (pv 0)) (blkOk_by (N := n_law_parts) (sc := defScope s__law_parts) (own := [("part", 1)]) (by decide +kernel)) (fun s H C cl fp => pg_name (i := 1) nd rfl (.inl rfl)) (fun s H C cl fp => pts_nil) (fun s H C cl fp => pe_op op_add pe_int (pe_ifExp (pt_cmpR op_eq (pe_ix (r := rIxT K) ix_tup (pv 1) pe_int (fun _ _ => rfl)) pe_str (nomark _)) (pe_fn f__law_parts hr rfl pass0 (pa_cons (pe_ix (r := rIxT K) ix_tup (pv 1) pe_int (fun _ _ => rfl)) pa_nil)) pe_int))) pa_nil))), ?_⟩
  have hd' : Dp K H v (.tuple (t.prts.map prtD)) := by rw [← Tm.ts_prts]; exact hd
  obtain ⟨a, vs, rfl, hs, ha⟩ := hd'.tupI
  have hvl := ha.length
  rw [List.length_map] at hvl
  have hln := t.len_prts
  have hlp := t.len_parts
  refine ⟨_, rfl, a, rfl, ⟨vs, hs⟩, fun D nD => lc_tup (xs := vs) (fun i H4 => Gr [] H H4 ∧ H4 D = some (.lst ((((t.prts.take i).map Prt.parts).map fun n : Nat => (n : Int)).map V.int))) ⟨Gr.new nD, upd_same⟩ (fun i H4 _ hP => hP.1.sqT hs) (fun i x H4 hx hP => ?_) (fun H4 hP => ?_)⟩
  · obtain ⟨g, hDl⟩ := hP
    obtain ⟨dt, hdt, hxd⟩ := ha.get hx
    rw [List.getElem?_map] at hdt
    cases ep : t.prts[i]? with
    | none => rw [ep] at hdt; cases hdt
    | some pr =>
    rw [ep] at hdt
    cases hdt
    have hi : i < t.prts.length := (List.getElem?_eq_some_iff.mp ep).1
    have dpp := Tm.dp_prts t pr (List.mem_of_getElem? ep)
    have pp : pr.parts ≤ t.parts := by
      rw [Tm.parts_prts]
      exact sum_mem (List.mem_map.mpr ⟨pr, List.mem_of_getElem? ep, rfl⟩)
    have done : ∀ H5, Gr [] H4 H5 → ∃ acc, H5 D = some (.lst acc) ∧ acc.length < sizeLine ∧ Gr [] H (upd H5 D (.lst (acc ++ [natV pr.parts]))) ∧ upd H5 D (.lst (acc ++ [natV pr.parts])) D = some (.lst ((((t.prts.take (i + 1)).map Prt.parts).map fun n : Nat => (n : Int)).map V.int)) := fun H5 g5 => by
      refine ⟨_, g5.lst (by simp) hDl, small4 (by rw [List.length_map, List.length_map, List.length_map, List.length_take]; omega), (g.trans g5).put0 nD, ?_⟩
      rw [upd_same, List.take_add_one, ep]
      simp
    cases pr with
    | node b u =>
      obtain ⟨xa, u0, u1, u2, rfl, hsx, k0, k1, k2⟩ := dp_three (hxd : Dp K H x (.tuple [.str "node", .int b, u.data]))
      cases k0; cases k1
      refine ⟨rfl, _, rfl, xa, _, 0, _, rfl, rfl, g.sqT hsx, atI_nat (j := 0) rfl, rfl, _, rfl, iteTd (by simp) ?_⟩
      simp only [Prt.dp] at dpp
      simp only [Prt.parts] at pp
      refine ⟨_, rfl, xa, _, 2, _, rfl, rfl, g.sqT hsx, atI_nat (j := 2) rfl, u2, u, rfl, k2.gr g, by omega, by omega, fun H5 g5 => ?_⟩
      refine ⟨_, _, rfl, rfl, ?_⟩
      have e9 : (fun i j : Int => V.int (i + j)) 1 (u.parts : Int) = natV (Prt.node b u).parts := by show V.int _ = V.int _; congr 1
      obtain ⟨acc, h1, h2, h3, h4⟩ := done H5 g5
      rw [← e9] at h3 h4
      exact ⟨acc, h1, h2, h3, h4⟩
    | ref wd p =>
      obtain ⟨xa, u0, u1, rfl, hsx, k0, k1⟩ := dp_two (hxd : Dp K H x (.tuple [.str (wrd wd), .int p]))
      cases k0; cases k1
      have nw : decide (V.str (wrd wd) = V.str "node") = false := by cases wd <;> decide
      refine ⟨rfl, _, rfl, xa, _, 0, _, rfl, rfl, g.sqT hsx, atI_nat (j := 0) rfl, rfl, _, rfl, iteFd nw ?_⟩
      refine ⟨_, _, rfl, rfl, ?_⟩
      have e9 : (fun i j : Int => V.int (i + j)) 1 0 = natV (Prt.ref wd p).parts := rfl
      obtain ⟨acc, h1, h2, h3, h4⟩ := done H4 (Gr.refl _)
      rw [← e9] at h3 h4
      exact ⟨acc, h1, h2, h3, h4⟩
  · obtain ⟨g, hDl⟩ := hP
    rw [hvl, List.take_length] at hDl
    refine ⟨D, _, rfl, SqL.of hDl, ?_⟩
    rw [sum_cast, ← Tm.parts_prts]
    exact q H4 g
theorem lparts_any (F : Fun K "_law_parts" "_law_parts" s__law_parts f fd) (m : mg "_law_parts" = some (.ref f)) (b : Binds K fd ["template"] []) (m_sum : mg "sum" = none) : ∀ n : Nat, Fn P w K mg base CX0 n "_law_parts" ["template"] (spLParts K n)
  | 0 => ⟨f, fd, ⟨fun vs H Q E ⟨_, _, _, _, h, _⟩ => absurd h (Nat.not_lt_zero _), fun A outer s H args us vs Q E _ _ _ _ ⟨_, _, _, _, h, _⟩ => absurd h (Nat.not_lt_zero _)⟩, m, F.kp, b⟩
  | n + 1 => ⟨f, fd, ok_lparts F (lparts_any F m b m_sum n) m_sum, m, F.kp, b⟩
end
end LW
set_option maxHeartbeats 4000000
namespace LW
open PySem PySem.Spec PyProof.Rows L2
section
variable {P : Program} {w : World} {K : PySem.W.Frag} {mg : Str → Option Value} {base : Heap} {f : Addr} {fd : FuncData}
abbrev n_law_template : List Str := ["box", "labels", "many", "deep", "end", "found"]
theorem sc_law_template : FnScope n_law_template ["box", "labels", "many", "deep", "end"] (defScope s__law_template) := ⟨rfl, rfl, rfl, by decide +kernel, rfl, by decide +kernel, by decide +kernel⟩
def spTmplB (K : PySem.W.Frag) : Sp := fun vs H Q _ => ∃ (bx cl ll : Addr) (ls : List Int) (many deep : Nat) (e : Bool), vs = [.ref bx, .ref ll, natV many, natV deep, .bl e] ∧ BoxAt H bx cl ∧ H ll = some (.lst (ls.map V.int)) ∧ ll ≠ bx ∧ 0 < ls.length ∧ ls.length < 1073741824 ∧ (∀ x ∈ ls, 0 ≤ x ∧ x < 5) ∧ 1 ≤ many ∧ many ≤ 12 ∧ deep ≤ 2 ∧
  ∀ (t : Tm) (v : V) H', t.okT many (!e) = true → t.dp ≤ deep → t.parts ≤ 6 → Gr [bx] H H' → BoxAt H' bx cl → Dp K H' v t.data → Q v H'
/-- the first part alone -/
def Tm.one : Tm → Tm
  | .nil => .nil
  | .node b t _ => .node b t .nil
  | .ref w p _ => .ref w p .nil
theorem Tm.one_ts : ∀ t : Tm, t.one.ts = t.ts.take 1
  | .nil => rfl
  | .node _ _ _ => rfl
  | .ref _ _ _ => rfl
theorem Tm.one_ok {n : Nat} {mf : Bool} : ∀ {t : Tm}, t.okT n mf = true → t.one.okT n mf = true
  | .nil, h => h
  | .node _ _ _, h => by simp only [Tm.okT, Tm.one, Bool.and_eq_true] at h ⊢; exact ⟨h.1, trivial⟩
  | .ref _ _ _, h => by simp only [Tm.okT, Tm.one, Bool.and_eq_true] at h ⊢; exact ⟨h.1, trivial⟩
theorem Tm.one_dp : ∀ t : Tm, t.one.dp ≤ t.dp
  | .nil => Nat.le_refl _
  | .node _ _ _ => by simp only [Tm.dp, Tm.one]; omega
  | .ref _ _ _ => by simp only [Tm.dp, Tm.one]; omega
theorem Tm.one_parts : ∀ t : Tm, t.one.parts ≤ t.parts
  | .nil => Nat.le_refl _
  | .node _ _ _ => by simp only [Tm.parts, Tm.one]; omega
  | .ref _ _ _ => by simp only [Tm.parts, Tm.one]; omega
theorem Tm.one_node {t : Tm} (h : 6 < t.one.parts) : ∃ b u r, t = .node b u r := by
  cases t with
  | nil => simp [Tm.one, Tm.parts] at h
  | node b u r => exact ⟨b, u, r, rfl⟩
  | ref w p r => simp [Tm.one, Tm.parts] at h
theorem ok_tmplB (F : Fun K "_law_template" "_law_template" s__law_template f fd) (f__law_grown : Fn P w K mg base CX0 5 "_law_grown" ["box", "labels", "many", "deep", "end"] (spGrown K 3)) (f__law_parts : Fn P w K mg base CX0 5 "_law_parts" ["template"] (spLParts K 3)) : FnOk P w K mg base CX0 6 f fd ["box", "labels", "many", "deep", "end"] (spTmplB K) := by
  refine F.ok sc_law_template (fun vs H Q E h => ?_) (fun cdv A outer s H vs Q E hr h => ?_)
  · obtain ⟨_, _, _, _, _, _, _, rfl, _⟩ := h; rfl
  obtain ⟨bx, cl, ll, ls, many, deep, e, rfl, hB, hll, nll, hl0, hl1, hls, hm1, hm2, hdn, q⟩ := h
  have nd := sc_law_template.nd
  refine ⟨_, pss_cons (ps_set (i := 5) nd rfl (.inl rfl) (pe_fn f__law_grown hr rfl pass0 (pa_cons (pv 0) (pa_cons (pv 1) (pa_cons (pv 2) (pa_cons (pv 3) (pa_cons (pv 4) pa_nil)))))))
    (Evl.pss_cut (ps_if (pt_cmpR op_gt (pe_fn f__law_parts hr rfl pass0 (pa_cons (pv 5) pa_nil)) pe_int (nomark _))
      (pss_one (ps_set (i := 5) nd rfl (.inl rfl) (pe_slice sl_tupA (pv 5) po_none (po_some pe_int))))
      pss_nil)
    (Evl.pss_cut (ps_if (pt_cmpR op_gt (pe_fn f__law_parts hr rfl pass0 (pa_cons (pv 5) pa_nil)) pe_int (nomark _))
      (pss_one (ps_set (i := 5) nd rfl (.inl rfl) (pe_tup (pa_cons (pe_tup (pa_cons pe_str (pa_cons (pe_ix ix_tup (pe_ix ix_tup (pv 5) pe_int (fun _ _ => rfl)) pe_int (fun _ _ => rfl)) (pa_cons (pe_slice sl_tupA (pe_ix ix_tup (pe_ix ix_tup (pv 5) pe_int (fun _ _ => rfl)) pe_int (fun _ _ => rfl)) po_none (po_some pe_int)) pa_nil)))) pa_nil))))
      pss_nil)
    (pss_one (ps_ret (pe_ifExp (pt_cmpR op_le (pe_fn f__law_parts hr rfl pass0 (pa_cons (pv 5) pa_nil)) pe_int (nomark _)) (pv 5) (pe_tup pa_nil)))))), ?_⟩
  refine ⟨_, rfl, _, rfl, _, rfl, _, rfl, _, rfl, bx, cl, ll, ls, many, deep, e, rfl, hB, hll, nll, hl0, hl1, hls, hm1, hm2, by omega, fun t v H1 t1 t2 t3 t4 g1 hB1 hv => ?_⟩
  have p150 : t.parts ≤ 150 := by
    have : 7 ^ deep ≤ 7 ^ 2 := Nat.pow_le_pow_right (by decide) hdn
    omega
  clear t3 t4
  refine ⟨fun σ H' => ∃ (u : Tm) (x : V), σ = [some (.ref bx), some (.ref ll), some (natV many), some (natV deep), some (.bl e), some x] ∧ Gr [bx] H H' ∧ BoxAt H' bx cl ∧ Dp K H' x u.data ∧ u.okT many (!e) = true ∧ u.dp ≤ deep ∧ u.parts ≤ 150 ∧ (6 < u.parts → ∃ b w, u = .node b w .nil), ?_, ?_⟩
  · refine ⟨_, rfl, v, t, rfl, hv, by omega, by omega, fun H2 g2 => ⟨_, _, rfl, rfl, _, rfl, ?_⟩⟩
    by_cases h6 : 6 < t.parts
    case neg => exact iteFd (decide_eq_false (by omega)) ⟨t, v, rfl, g1.trans g2.any, hB1.gr g2, hv.gr g2, t1, t2, p150, fun z => absurd z h6⟩
    refine iteTd (decide_eq_true (by omega)) ⟨_, rfl, 1, rfl, ?_⟩
    refine take_data (k := 1) (hv.gr g2) fun H3 x g3 hx => ⟨t.one, x, rfl, g1.trans (g2.trans g3).any, (hB1.gr g2).gr g3, by show Dp K H3 x (.tuple t.one.ts); rw [Tm.one_ts]; exact hx, Tm.one_ok t1, by have := Tm.one_dp t; omega, by have := Tm.one_parts t; omega, fun z => ?_⟩
    obtain ⟨b, u, r, rfl⟩ := Tm.one_node z
    exact ⟨b, u, rfl⟩
  rintro σ H2 ⟨t, v, rfl, g2, hB2, hv, t1, t2, p150, hone⟩
  refine ⟨fun σ H' => ∃ (u : Tm) (x : V), σ = [some (.ref bx), some (.ref ll), some (natV many), some (natV deep), some (.bl e), some x] ∧ Gr [bx] H H' ∧ BoxAt H' bx cl ∧ Dp K H' x u.data ∧ u.okT many (!e) = true ∧ u.dp ≤ deep ∧ u.parts ≤ 150, ?_, ?_⟩
  · refine ⟨_, rfl, v, t, rfl, hv, by omega, by omega, fun H3 g3 => ⟨_, _, rfl, rfl, _, rfl, ?_⟩⟩
    by_cases h6 : 6 < t.parts
    case neg => exact iteFd (decide_eq_false (by omega)) ⟨t, v, rfl, g2.trans g3.any, hB2.gr g3, hv.gr g3, t1, t2, p150⟩
    obtain ⟨b, u, rfl⟩ := hone h6
    refine iteTd (decide_eq_true (by omega)) ?_
    have hv3 : Dp K H3 v (.tuple [.tuple [.str "node", .int b, u.data]]) := hv.gr g3
    obtain ⟨a, xs, rfl, hs, ha⟩ := hv3.tupI
    obtain ⟨x0, us, rfl, h0, hn⟩ := dpAll_cons ha
    cases hn
    obtain ⟨pa, y0, y1, y2, rfl, hsp, k0, k1, k2⟩ := dp_three h0
    cases k0; cases k1
    refine ⟨_, rfl, a, _, 0, _, rfl, rfl, hs, atI_nat (j := 0) rfl, pa, _, 1, _, rfl, rfl, hsp, atI_nat (j := 1) rfl, _, rfl, a, _, 0, _, rfl, rfl, hs, atI_nat (j := 0) rfl, pa, _, 2, _, rfl, rfl, hsp, atI_nat (j := 2) rfl, 1, rfl, ?_⟩
    refine take_data (k := 1) k2 fun H4 x g4 hx => ⟨(by show (3 : Nat) ≤ sizeLine; decide), fun tp ntp => ⟨(by show (1 : Nat) ≤ sizeLine; decide), fun op nop => ?_⟩⟩
    have hu : Dp K H4 x u.one.data := by show Dp K H4 x (.tuple u.one.ts); rw [Tm.one_ts]; exact hx
    have h3 := mk1 (mk3 (.str "node") (.int b) hu ntp) nop
    have gg := g4.trans ((Gr.new (m := []) (o := .tup [.str "node", .int b, x]) ntp).trans (Gr.new (o := .tup [.ref tp]) nop))
    simp only [Tm.okT, Bool.and_true, Bool.and_eq_true] at t1
    simp only [Tm.dp] at t2
    simp only [Tm.parts] at p150
    refine ⟨.node b u.one .nil, _, rfl, g2.trans (g3.trans gg).any, (hB2.gr g3).gr gg, h3, ?_, ?_, ?_⟩
    · simp only [Tm.okT, Tm.one_ok t1.2, Bool.and_true]; exact t1.1
    · have := Tm.one_dp u; simp only [Tm.dp]; omega
    · have := Tm.one_parts u; simp only [Tm.parts]; omega
  rintro σ H3 ⟨u, x, rfl, g3, hB3, hx, u1, u2, u3⟩
  refine ⟨_, rfl, x, u, rfl, hx, by omega, by omega, fun H4 g4 => ⟨_, _, rfl, rfl, _, rfl, ?_⟩⟩
  by_cases h6 : u.parts ≤ 6
  · exact iteTd (decide_eq_true (by omega)) ⟨_, rfl, q u x H4 u1 u2 h6 (g3.trans g4.any) (hB3.gr g4) (hx.gr g4)⟩
  · refine iteFd (decide_eq_false (by omega)) ⟨Nat.zero_le _, fun ep nep => ?_⟩
    have ge := Gr.new (m := []) (o := .tup []) nep
    exact q .nil (.ref ep) _ rfl (Nat.zero_le _) (Nat.zero_le _) ((g3.trans g4.any).trans ge.any) ((hB3.gr g4).gr ge) (.tup (SqT.of upd_same) .nil)
/-- a call of it -/
theorem BX.tmpl {σ : L2.St} {H0 : Hp} {bx cl ll : Addr} {ls : List Int} {many deep mi : Nat} {e : Bool} (hB0 : BoxAt H0 bx cl) (s0 : σ[0]? = some (some (.ref bx))) (s1 : σ[1]? = some (some (.ref ll))) (sm : σ[mi]? = some (some (natV many))) (hll : H0 ll = some (.lst (ls.map V.int))) (nll : ll ≠ bx) (h0 : 0 < ls.length) (h1 : ls.length < 1073741824) (hls : ∀ x ∈ ls, 0 ≤ x ∧ x < 5) (m1 : 1 ≤ many) (m2 : many ≤ 12) (d2 : deep ≤ 2) :
    BX K σ H0 bx cl (tCall (spTmplB K) [] E0 (tCons (tVar 0) (tCons (tVar 1) (tCons (tVar mi) (tCons (tC (.int (deep : Int))) (tCons (tC (.bl e)) tNil)))))) (fun d => ∃ t : Tm, d = t.data ∧ t.okT many (!e) = true ∧ t.dp ≤ deep ∧ t.parts ≤ 6) := fun H1 Q g hB k =>
  ⟨_, s0, _, s1, _, sm, bx, cl, ll, ls, many, deep, e, rfl, hB, g.lst (by simpa using nll) hll, nll, h0, h1, hls, m1, m2, d2, fun t v H2 t1 t2 t3 g2 hB2 hv => k H2 v t.data g2 hB2 hv t.pure_ts ⟨t, rfl, t1, t2, t3⟩⟩
end
end LW
set_option maxHeartbeats 4000000
namespace LW
open PySem PySem.Spec PyProof.Rows L2
section
variable {P : Program} {w : World} {K : PySem.W.Frag} {mg : Str → Option Value} {base : Heap} {f : Addr} {fd : FuncData}
abbrev n_law_choices : List Str := ["box", "labels", "looks", "many", "label", "found", "k", "sort", "last"]
theorem sc_law_choices : FnScope n_law_choices ["box", "labels", "looks", "many", "label"] (defScope s__law_choices) := ⟨rfl, rfl, rfl, by decide +kernel, rfl, by decide +kernel, by decide +kernel⟩
def goodRow (many looks : Nat) (r : List TCh) : Prop := rowOk many looks r ∧ r.length ≤ 3 ∧ ∀ c ∈ r, c.2.parts ≤ 6 ∧ c.2.dp ≤ 2
def spChoicesB (K : PySem.W.Frag) : Sp := fun vs H Q _ => ∃ (bx cl ll : Addr) (ls : List Int) (lv : V) (lk : Sch) (many lab : Nat), vs = [.ref bx, .ref ll, lv, natV many, natV lab] ∧ BoxAt H bx cl ∧ H ll = some (.lst (ls.map V.int)) ∧ ll ≠ bx ∧ 0 < ls.length ∧ ls.length < 1073741824 ∧ (∀ x ∈ ls, 0 ≤ x ∧ x < 5) ∧ Dp K H lv (schD lk) ∧ 1 ≤ lk.length ∧ lk.length ≤ 60 ∧ 1 ≤ many ∧ many ≤ 12 ∧ lab < 5 ∧
  ∀ (r : List TCh) (v : V) H', goodRow many lk.length r → Gr [bx] H H' → BoxAt H' bx cl → Dp K H' v (trowD r) → Q v H'
theorem ok_choicesB (F : Fun K "_law_choices" "_law_choices" s__law_choices f fd) (f__law_take : Fn P w K mg base CX0 6 "_law_take" ["box", "m"] spTake) (f_pick : Fn P w K mg base CX0 6 "_law_pick" ["box", "menu"] spPick) (f_pickD : Fn P w K mg base CX0 6 "_law_pick" ["box", "menu"] (spPickD K))
    (f__law_template : Fn P w K mg base CX0 6 "_law_template" ["box", "labels", "many", "deep", "end"] (spTmplB K)) (m_range : mg "range" = none) (m_tuple : mg "tuple" = none) (m_len : mg "len" = none) : FnOk P w K mg base CX0 7 f fd ["box", "labels", "looks", "many", "label"] (spChoicesB K) := by
  refine F.ok sc_law_choices (fun vs H Q E h => ?_) (fun cdv A outer s H vs Q E hr h => ?_)
  · obtain ⟨_, _, _, _, _, _, _, _, rfl, _⟩ := h; rfl
  obtain ⟨bx, cl, ll, ls, lv, lk, many, lab, rfl, hB, hll, nll, hl0, hl1, hls, hlk, lk1, lk60, hm1, hm2, hlab, q⟩ := h
  have nd := sc_law_choices.nd
  refine ⟨_, pss_cons (ps_set (i := 5) nd rfl (.inl rfl) (pe_lst pa_nil))
    (pss_cons (ps_for PassesOwn.never rfl (pi_range1 rfl m_range (pa_cons (pe_fn f_pickD hr rfl pass0 (pa_cons (pv 0) (pa_cons (pe_lst (pa_cons pe_int (pa_cons pe_int (pa_cons pe_int (pa_cons pe_int pa_nil))))) pa_nil))) pa_nil)) (pg_name (i := 6) nd rfl (.inl rfl))
      (pss_one (ps_expr (pe_bm PySem.F.plainAttrs_list PySem.F.slot_list_append PySem.F.type_list_append mt_append (pv 5) (pa_cons (pe_tup (pa_cons (pe_fn f__law_take hr rfl pass0 (pa_cons (pv 0) (pa_cons (pe_callB call_len_seq (by rfl) m_len PySem.boot_len (pa_cons (pv 2) pa_nil)) pa_nil))) (pa_cons (pe_fn f__law_template hr rfl pass0 (pa_cons (pv 0) (pa_cons (pv 1) (pa_cons (pv 3) (pa_cons pe_int (pa_cons pe_bl pa_nil)))))) pa_nil))) pa_nil)))))
    (pss_cons (ps_set (i := 7) nd rfl (.inl rfl) (pe_fn f__law_take hr rfl pass0 (pa_cons (pv 0) (pa_cons pe_int pa_nil))))
    (pss_cons (ps_set (i := 8) nd rfl (.inl rfl) (pe_fn f__law_template hr rfl pass0 (pa_cons (pv 0) (pa_cons (pv 1) (pa_cons (pv 3) (pa_cons pe_int (pa_cons pe_bl pa_nil)))))))
    (Evl.pss_cut (ps_if (pt_cmpR op_eq (pv 7) pe_int (nomark _))
      (pss_one (ps_set (i := 8) nd rfl (.inl rfl) (pe_tup (pa_cons (pe_tup (pa_cons pe_str (pa_cons (pv 4) (pa_cons (pe_tup (pa_cons (pe_tup (pa_cons pe_str (pa_cons pe_int pa_nil))) pa_nil)) pa_nil)))) (pa_cons (pe_tup (pa_cons pe_str (pa_cons pe_int pa_nil))) pa_nil)))))
      pss_nil)
    (Evl.pss_cut (ps_if (pt_cmpR op_eq (pv 7) pe_int (nomark _))
      (pss_one (ps_set (i := 8) nd rfl (.inl rfl) (pe_tup (pa_cons (pe_tup (pa_cons pe_str (pa_cons (pe_fn f__law_take hr rfl pass0 (pa_cons (pv 0) (pa_cons (pv 3) pa_nil))) pa_nil))) (pa_cons (pe_tup (pa_cons pe_str (pa_cons (pe_fn f__law_take hr rfl pass0 (pa_cons (pv 0) (pa_cons (pv 3) pa_nil))) pa_nil))) pa_nil)))))
      pss_nil)
    (Evl.pss_cut (ps_if (pt_cmpR op_eq (pv 7) pe_int (nomark _))
      (pss_one (ps_set (i := 8) nd rfl (.inl rfl) (pe_tup (pa_cons (pe_tup (pa_cons pe_str (pa_cons (pe_fn f_pick hr rfl pass0 (pa_cons (pv 0) (pa_cons (pv 1) pa_nil))) (pa_cons (pe_tup (pa_cons (pe_tup (pa_cons pe_str (pa_cons (pe_fn f__law_take hr rfl pass0 (pa_cons (pv 0) (pa_cons (pv 3) pa_nil))) pa_nil))) pa_nil)) pa_nil)))) (pa_cons (pe_tup (pa_cons pe_str (pa_cons (pe_fn f__law_take hr rfl pass0 (pa_cons (pv 0) (pa_cons (pv 3) pa_nil))) pa_nil))) pa_nil)))))
      pss_nil)
    (pss_one (ps_ret (pe_op (r := rCatA K) op_catA (pe_callTy call_tuple_of (by rfl) m_tuple b_tuple (pa_cons (pv 5) pa_nil)) (pe_tup (pa_cons (pe_tup (pa_cons (pe_un un_neg pe_int) (pa_cons (pv 8) pa_nil))) pa_nil))))))))))), ?_⟩
  refine ⟨Nat.zero_le _, fun D nD => ?_⟩
  have b0 := BL.start (K := K) hB nD
  generalize (upd H D (.lst [])) = H1 at b0 ⊢
  have keep : ∀ {H' : Hp}, Gr [bx] H H' → H' ll = some (.lst (ls.map V.int)) ∧ Dp K H' lv (schD lk) := fun g => ⟨g.lst (by simpa using nll) hll, dp_grm g hB.lst _ _ (schD_pure lk) hlk⟩
  have pk : BX K [some (.ref bx), some (.ref ll), some lv, some (natV many), some (natV lab), some (.ref D), none, none, none] H1 bx cl (tCall (spPickD K) [] E0 (tCons (tVar 0) (tCons (tLst (tCons (tC (.int 0)) (tCons (tC (.int 0)) (tCons (tC (.int 1)) (tCons (tC (.int 2)) tNil))))) tNil))) (fun d => ∃ m : Nat, m ≤ 2 ∧ d = .int m) :=
    (BX.pickL rfl (.cons .int (.cons .int (.cons .int (.cons .int .nil)))) (fun ds h => by
      obtain ⟨_, _, rfl, rfl, _, _, rfl, rfl, _, _, rfl, rfl, _, _, rfl, rfl, rfl⟩ := h; simp)).imp fun d ⟨ds, h, hd⟩ => by
      obtain ⟨_, _, rfl, rfl, _, _, rfl, rfl, _, _, rfl, rfl, _, _, rfl, rfl, rfl⟩ := h
      simp only [List.mem_cons, List.not_mem_nil, or_false] at hd
      rcases hd with rfl | rfl | rfl | rfl
      · exact ⟨0, by omega, rfl⟩
      · exact ⟨0, by omega, rfl⟩
      · exact ⟨1, by omega, rfl⟩
      · exact ⟨2, by omega, rfl⟩
  refine pk.go b0.box fun H2 x d g2 hB2 hx hp ⟨m, hm, e2⟩ => ?_
  subst e2
  have := hx.intI; subst this
  have b2 := b0.step g2 hB2
  refine ⟨_, rfl, by omega, by omega, for_range (n := (m : Int).toNat) (fun i σ H' => ∃ (ini : List TCh) (y6 : Option V), σ = [some (.ref bx), some (.ref ll), some lv, some (natV many), some (natV lab), some (.ref D), y6, none, none] ∧ BL K H H' bx cl D (ini.map tchD) ∧ ini.length ≤ i ∧ ∀ c ∈ ini, (0 ≤ c.1 ∧ c.1 < (lk.length : Int)) ∧ c.2.okT many true = true ∧ c.2.dp ≤ 2 ∧ c.2.parts ≤ 6)
    ⟨[], none, rfl, b2, Nat.zero_le _, by simp⟩ (fun i σ H3 hi hP => ?_) (fun σ H3 hP => ?_)⟩
  · obtain ⟨ini, y6, rfl, b3, t1, t2⟩ := hP
    rw [Int.toNat_natCast] at hi
    refine st_normS (t := tDrop _) (σ' := [some (.ref bx), some (.ref ll), some lv, some (natV many), some (natV lab), some (.ref D), some (.int (0 + (i : Int))), none, none]) rfl ?_
    obtain ⟨hll3, hlk3⟩ := keep b3.gr
    refine b3.app rfl (BX.tup2 (BX.take (m := (lk.length : Int)) rfl (fun H5 Q5 g5 q5 => ?_) (by omega) (by omega)) (BX.tmpl (mi := 3) (deep := 2) (e := false) b3.box rfl rfl rfl hll3 nll hl0 hl1 hls hm1 hm2 (by decide))) (by rw [List.length_map]; omega) fun H4 d b4 ⟨x, y, ed, ⟨z, hz, ex⟩, u, eu, u1, u2, u3⟩ => ?_
    · obtain ⟨p, items, rfl, hsp, hit⟩ := (dp_grm g5 b3.box.lst _ _ (schD_pure lk) hlk3).tupI
      have li := hit.length
      rw [List.length_map] at li
      refine ⟨_, rfl, p, items, rfl, .inr hsp, ?_⟩
      rw [li]; exact q5
    · subst ed ex eu
      refine ⟨ini ++ [((z : Int), u)], _, rfl, by rw [List.map_append]; exact b4, by rw [List.length_append]; show _ + 1 ≤ _; omega, fun c hc => ?_⟩
      rcases List.mem_append.mp hc with hc | hc
      · exact t2 c hc
      · rw [List.mem_singleton.mp hc]; exact ⟨⟨by show (0 : Int) ≤ z; omega, hz⟩, u1, u2, u3⟩
  obtain ⟨ini, y6, rfl, b3, t1, t2⟩ := hP
  rw [Int.toNat_natCast] at t1
  refine (BX.takeC (K := K) (bi := 0) (m := 5) rfl (by decide) (by decide)).set b3.box fun H4 x4 d4 g4 hB4 hx4 hp4 ⟨s4, hs4, e4⟩ => ?_
  subst e4
  have := hx4.intI; subst this
  have b4 := b3.step g4 hB4
  obtain ⟨hll4, _⟩ := keep b4.gr
  refine (BX.tmpl (K := K) (mi := 3) (deep := 2) (e := false) b4.box rfl rfl rfl hll4 nll hl0 hl1 hls hm1 hm2 (by decide)).set b4.box fun H5 x5 d5 g5 hB5 hx5 hp5 ⟨t, e5, k1, k2, k3⟩ => ?_
  subst e5
  have b5 := b4.step g5 hB5
  have Inv : ∀ (H5 : Hp) (x5 : V) (t : Tm), BL K H H5 bx cl D (ini.map tchD) → Dp K H5 x5 t.data → t.okT many true = true → t.dp ≤ 2 → t.parts ≤ 6 → ∃ (t : Tm) (x : V), [some (V.ref bx), some (.ref ll), some lv, some (natV many), some (natV lab), some (.ref D), y6, some (natV s4), some x5] = [some (.ref bx), some (.ref ll), some lv, some (natV many), some (natV lab), some (.ref D), y6, some (natV s4), some x] ∧ BL K H H5 bx cl D (ini.map tchD) ∧ Dp K H5 x t.data ∧ t.okT many true = true ∧ t.dp ≤ 2 ∧ t.parts ≤ 6 := fun H5 x5 t a b c d e => ⟨t, x5, rfl, a, b, c, d, e⟩
  refine ⟨fun σ H' => ∃ (t : Tm) (x : V), σ = [some (.ref bx), some (.ref ll), some lv, some (natV many), some (natV lab), some (.ref D), y6, some (natV s4), some x] ∧ BL K H H' bx cl D (ini.map tchD) ∧ Dp K H' x t.data ∧ t.okT many true = true ∧ t.dp ≤ 2 ∧ t.parts ≤ 6, ?_, ?_⟩
  · refine ⟨_, rfl, rfl, _, rfl, ?_⟩
    by_cases hs : s4 = 0
    case neg => exact iteFd (decide_eq_false fun z => hs (by injection z with z; omega)) (Inv _ _ t b5 hx5 k1 k2 k3)
    refine iteTd (decide_eq_true (by rw [hs]; rfl)) ?_
    refine (BX.tup2 (BX.tup3 (K := K) (σ := [some (.ref bx), some (.ref ll), some lv, some (natV many), some (natV lab), some (.ref D), y6, some (natV s4), some x5]) .str (BX.var (d := .int lab) b5.box (.int _) rfl rfl) (BX.tup1 (BX.tup2 .str .int))) (BX.tup2 .str .int)).go b5.box fun H6 x6 d6 g6 hB6 hx6 hp6 hd => ?_
    obtain ⟨_, _, rfl, ⟨_, _, _, rfl, rfl, rfl, _, rfl, _, _, rfl, rfl, rfl⟩, _, _, rfl, rfl, rfl⟩ := hd
    refine Inv _ _ (.node lab (.ref false 0 .nil) (.ref true 0 .nil)) (b5.step g6 hB6) hx6 ?_ (by simp [Tm.dp]) (by simp [Tm.parts])
    simp only [Tm.okT, Bool.true_and, Bool.and_true, Bool.and_eq_true]
    exact ⟨⟨decide_eq_true ⟨by omega, by omega⟩, decide_eq_true ⟨by omega, by omega⟩⟩, decide_eq_true ⟨by omega, by omega⟩⟩
  clear b5 hx5 k1 k2 k3 Inv
  rintro σ H5 ⟨t, x5, rfl, b5, hx5, k1, k2, k3⟩
  have Inv : ∀ (H5 : Hp) (x5 : V) (t : Tm), BL K H H5 bx cl D (ini.map tchD) → Dp K H5 x5 t.data → t.okT many true = true → t.dp ≤ 2 → t.parts ≤ 6 → ∃ (t : Tm) (x : V), [some (V.ref bx), some (.ref ll), some lv, some (natV many), some (natV lab), some (.ref D), y6, some (natV s4), some x5] = [some (.ref bx), some (.ref ll), some lv, some (natV many), some (natV lab), some (.ref D), y6, some (natV s4), some x] ∧ BL K H H5 bx cl D (ini.map tchD) ∧ Dp K H5 x t.data ∧ t.okT many true = true ∧ t.dp ≤ 2 ∧ t.parts ≤ 6 := fun H5 x5 t a b c d e => ⟨t, x5, rfl, a, b, c, d, e⟩
  refine ⟨fun σ H' => ∃ (t : Tm) (x : V), σ = [some (.ref bx), some (.ref ll), some lv, some (natV many), some (natV lab), some (.ref D), y6, some (natV s4), some x] ∧ BL K H H' bx cl D (ini.map tchD) ∧ Dp K H' x t.data ∧ t.okT many true = true ∧ t.dp ≤ 2 ∧ t.parts ≤ 6, ?_, ?_⟩
  · refine ⟨_, rfl, rfl, _, rfl, ?_⟩
    by_cases hs : s4 = 1
    case neg => exact iteFd (decide_eq_false fun z => hs (by injection z with z; omega)) (Inv _ _ t b5 hx5 k1 k2 k3)
    refine iteTd (decide_eq_true (by rw [hs]; rfl)) ?_
    have tk : ∀ Hx, BX K [some (.ref bx), some (.ref ll), some lv, some (natV many), some (natV lab), some (.ref D), y6, some (natV s4), some x5] Hx bx cl (tCall spTake [] E0 (tCons (tVar 0) (tCons (tVar 3) tNil))) (fun d => ∃ t : Nat, (t : Int) < many ∧ d = .int t) := fun Hx => BX.takeV (mi := 3) rfl rfl (by omega) (by omega)
    refine (BX.tup2 (BX.tup2 .str (tk H5)) (BX.tup2 .str (tk H5))).go b5.box fun H6 x6 d6 g6 hB6 hx6 hp6 hd => ?_
    obtain ⟨_, _, rfl, ⟨_, _, rfl, rfl, p, hp, rfl⟩, _, _, rfl, rfl, p2, hp2, rfl⟩ := hd
    refine Inv _ _ (.ref false p (.ref true p2 .nil)) (b5.step g6 hB6) hx6 ?_ (by simp [Tm.dp]) (by simp [Tm.parts])
    simp only [Tm.okT, Bool.true_and, Bool.and_true, Bool.and_eq_true]
    exact ⟨decide_eq_true ⟨by omega, hp⟩, decide_eq_true ⟨by omega, hp2⟩⟩
  clear b5 hx5 k1 k2 k3
  rintro σ H5 ⟨t, x5, rfl, b5, hx5, k1, k2, k3⟩
  have Inv : ∀ (H5 : Hp) (x5 : V) (t : Tm), BL K H H5 bx cl D (ini.map tchD) → Dp K H5 x5 t.data → t.okT many true = true → t.dp ≤ 2 → t.parts ≤ 6 → ∃ (t : Tm) (x : V), [some (V.ref bx), some (.ref ll), some lv, some (natV many), some (natV lab), some (.ref D), y6, some (natV s4), some x5] = [some (.ref bx), some (.ref ll), some lv, some (natV many), some (natV lab), some (.ref D), y6, some (natV s4), some x] ∧ BL K H H5 bx cl D (ini.map tchD) ∧ Dp K H5 x t.data ∧ t.okT many true = true ∧ t.dp ≤ 2 ∧ t.parts ≤ 6 := fun H5 x5 t a b c d e => ⟨t, x5, rfl, a, b, c, d, e⟩
  refine ⟨fun σ H' => ∃ (t : Tm) (x : V), σ = [some (.ref bx), some (.ref ll), some lv, some (natV many), some (natV lab), some (.ref D), y6, some (natV s4), some x] ∧ BL K H H' bx cl D (ini.map tchD) ∧ Dp K H' x t.data ∧ t.okT many true = true ∧ t.dp ≤ 2 ∧ t.parts ≤ 6, ?_, ?_⟩
  · refine ⟨_, rfl, rfl, _, rfl, ?_⟩
    by_cases hs : s4 = 2
    case neg => exact iteFd (decide_eq_false fun z => hs (by injection z with z; omega)) (Inv _ _ t b5 hx5 k1 k2 k3)
    refine iteTd (decide_eq_true (by rw [hs]; rfl)) ?_
    have tk : BX K [some (.ref bx), some (.ref ll), some lv, some (natV many), some (natV lab), some (.ref D), y6, some (natV s4), some x5] H5 bx cl (tCall spTake [] E0 (tCons (tVar 0) (tCons (tVar 3) tNil))) (fun d => ∃ t : Nat, (t : Int) < many ∧ d = .int t) := BX.takeV (mi := 3) rfl rfl (by omega) (by omega)
    obtain ⟨hll5, _⟩ := keep b5.gr
    refine (BX.tup2 (BX.tup3 .str (BX.pickV (li := 1) b5.box rfl rfl hll5 nll hl0 hl1) (BX.tup1 (BX.tup2 .str tk))) (BX.tup2 .str tk)).go b5.box fun H6 x6 d6 g6 hB6 hx6 hp6 hd => ?_
    obtain ⟨_, _, rfl, ⟨_, _, _, rfl, rfl, ⟨b, hb, rfl⟩, _, rfl, _, _, rfl, rfl, p, hp, rfl⟩, _, _, rfl, rfl, p2, hp2, rfl⟩ := hd
    refine Inv _ _ (.node b (.ref false p .nil) (.ref true p2 .nil)) (b5.step g6 hB6) hx6 ?_ (by simp [Tm.dp]) (by simp [Tm.parts])
    simp only [Tm.okT, Bool.true_and, Bool.and_true, Bool.and_eq_true]
    exact ⟨⟨decide_eq_true (hls b hb), decide_eq_true ⟨by omega, hp⟩⟩, decide_eq_true ⟨by omega, hp2⟩⟩
  clear b5 hx5 k1 k2 k3
  rintro σ H5 ⟨t, x5, rfl, b5, hx5, k1, k2, k3⟩
  refine ⟨_, rfl, ?_⟩
  obtain ⟨xs, e5, hxs⟩ := b5.ex
  have lx := hxs.length
  rw [List.length_map] at lx
  refine ⟨D, xs, rfl, .inl ⟨SqL.of e5, fun p6 n6 => ?_⟩⟩
  have g6 := Gr.new (m := []) (o := .tup xs) n6
  have h6 : Dp K (upd H5 p6 (.tup xs)) (.ref p6) (.tuple (ini.map tchD)) := .tup (SqT.of upd_same) (hxs.gr g6)
  have hx6 := hx5.gr g6
  have b6 := b5.stepE g6
  generalize (upd H5 p6 (.tup xs)) = H6 at g6 h6 hx6 b6 ⊢
  refine ⟨_, rfl, _, rfl, len2, fun p7 n7 => ⟨(by show (1 : Nat) ≤ sizeLine; decide), fun p8 n8 => ?_⟩⟩
  have h7 := mk1 (mk2 (.int (-1)) hx6 n7) n8
  have g78 := (Gr.new (m := []) (o := .tup [.int (-1), x5]) n7).trans (Gr.new (o := .tup [.ref p7]) n8)
  have h68 := h6.gr g78
  have b8 := b6.stepE g78
  refine cat_data h68 h7 (Nat.le_of_lt (small4 (by rw [List.length_map]; show _ + 1 ≤ _; omega))) fun H9 x9 g9 hx9 => ?_
  have hr9 : Dp K H9 x9 (trowD (ini ++ [(-1, t)])) := by
    show Dp K H9 x9 (.tuple ((ini ++ [((-1 : Int), t)]).map tchD))
    rw [List.map_append]; exact hx9
  refine q (ini ++ [(-1, t)]) x9 H9 ⟨⟨ini, t, rfl, fun c hc => (t2 c hc).1, fun c hc => ?_⟩, by rw [List.length_append]; show _ + 1 ≤ _; omega, fun c hc => ?_⟩ (b8.gr.trans g9.any) (b8.box.gr g9) hr9
  · rcases List.mem_append.mp hc with hc | hc
    · exact ⟨(t2 c hc).2.1, by have := (t2 c hc).2.2.1; omega⟩
    · rw [List.mem_singleton.mp hc]; exact ⟨k1, by show t.dp ≤ 9; omega⟩
  · rcases List.mem_append.mp hc with hc | hc
    · exact ⟨(t2 c hc).2.2.2, (t2 c hc).2.2.1⟩
    · rw [List.mem_singleton.mp hc]; exact ⟨k3, k2⟩
end
end LW
set_option maxHeartbeats 4000000
namespace LW
open PySem PySem.Spec PyProof.Rows L2
section
variable {P : Program} {w : World} {K : PySem.W.Frag} {mg : Str → Option Value} {base : Heap} {f : Addr} {fd : FuncData}
abbrev n_law_transformation : List Str := ["box", "labels", "most", "looks", "many", "states", "p", "end", "label"]
theorem sc_law_transformation : FnScope n_law_transformation ["box", "labels", "most"] (defScope s__law_transformation) := ⟨rfl, rfl, rfl, by decide +kernel, rfl, by decide +kernel, by decide +kernel⟩
structure goodTrn (most : Nat) (m : Trn) : Prop where
  looks : SchOk m.looks
  two : m.looks.length ≤ 2
  lfew : ∀ st ∈ m.looks, st.2.length ≤ 2
  one : 1 ≤ m.sts.length
  most : m.sts.length ≤ most
  sts : ∀ s ∈ m.sts, (s.fin.okT m.sts.length false = true ∧ s.fin.dp ≤ 1 ∧ s.fin.parts ≤ 6) ∧ s.rows.length = 5 ∧ ∀ r ∈ s.rows, goodRow m.sts.length m.looks.length r
def spTransB (K : PySem.W.Frag) : Sp := fun vs H Q _ => ∃ (bx cl ll : Addr) (ls : List Int) (most : Nat), vs = [.ref bx, .ref ll, natV most] ∧ BoxAt H bx cl ∧ H ll = some (.lst (ls.map V.int)) ∧ ll ≠ bx ∧ 0 < ls.length ∧ ls.length < 1073741824 ∧ (∀ x ∈ ls, 0 ≤ x ∧ x < 5) ∧ 1 ≤ most ∧ most ≤ 3 ∧
  ∀ (m : Trn) (v : V) H', goodTrn most m → Gr [bx] H H' → BoxAt H' bx cl → Dp K H' v m.data → Q v H'
theorem ok_transB (F : Fun K "_law_transformation" "_law_transformation" s__law_transformation f fd) (f__law_take : Fn P w K mg base CX0 7 "_law_take" ["box", "m"] spTake) (f__law_schema : Fn P w K mg base CX0 7 "_law_schema" ["box", "labels", "most", "rules"] (spSchemaL K))
    (f__law_template : Fn P w K mg base CX0 7 "_law_template" ["box", "labels", "many", "deep", "end"] (spTmplB K)) (f__law_choices : Fn P w K mg base CX0 7 "_law_choices" ["box", "labels", "looks", "many", "label"] (spChoicesB K)) (m_range : mg "range" = none) (m_tuple : mg "tuple" = none) : FnOk P w K mg base CX0 8 f fd ["box", "labels", "most"] (spTransB K) := by
  refine F.ok sc_law_transformation (fun vs H Q E h => ?_) (fun cdv A outer s H vs Q E hr h => ?_)
  · obtain ⟨_, _, _, _, _, rfl, _⟩ := h; rfl
  obtain ⟨bx, cl, ll, ls, most, rfl, hB, hll, nll, hl0, hl1, hls, hm1, hm3, q⟩ := h
  have nd := sc_law_transformation.nd
  refine ⟨_, pss_cons (ps_set (i := 3) nd rfl (.inr rfl) (pe_fn f__law_schema hr rfl pass0 (pa_cons (pv 0) (pa_cons (pv 1) (pa_cons pe_int (pa_cons pe_int pa_nil))))))
    (pss_cons (ps_set (i := 4) nd rfl (.inr rfl) (pe_op op_add pe_int (pe_fn f__law_take hr rfl pass0 (pa_cons (pv 0) (pa_cons (pv 2) pa_nil)))))
    (pss_cons (ps_set (i := 5) nd rfl (.inl rfl) (pe_lst pa_nil))
    (pss_cons (ps_for PassesOwn.never rfl (pi_range1 rfl m_range (pa_cons (pv 4) pa_nil)) (pg_name (i := 6) nd rfl (.inl rfl))
      (pss_cons (ps_set (i := 7) nd rfl (.inl rfl) (pe_fn f__law_template hr rfl pass0 (pa_cons (pv 0) (pa_cons (pv 1) (pa_cons (pv 4) (pa_cons pe_int (pa_cons pe_bl pa_nil)))))))
      (Evl.pss_cut (ps_if (pt_cmpR op_eq (pe_fn f__law_take hr rfl pass0 (pa_cons (pv 0) (pa_cons pe_int pa_nil))) pe_int (nomark _))
        (pss_one (ps_set (i := 7) nd rfl (.inl rfl) (pe_tup pa_nil)))
        pss_nil)
      (pss_one (ps_expr (pe_bm PySem.F.plainAttrs_list PySem.F.slot_list_append PySem.F.type_list_append mt_append (pv 5) (pa_cons (pe_tup (pa_cons (pv 7) (pa_cons (pe_callTy call_tuple_of (by rfl) m_tuple b_tuple (pa_cons (pe_lc (own := [("label", 8)]) (g := gName 8) (tt := tYes) rfl nd (pi_range1 rfl m_range (pa_cons pe_int pa_nil)) (blkOk_by (N := n_law_transformation) (sc := defScope s__law_transformation) (own := [("label", 8)]) (by decide +kernel)) (fun s H C cl fp => pg_name (i := 8) nd rfl (.inl rfl)) (fun s H C cl fp => pts_nil) (fun s H C cl fp => pe_fn f__law_choices hr rfl pass0 (pa_cons (pv 0) (pa_cons (pv 1) (pa_cons (pv 3) (pa_cons (pv 4) (pa_cons (pv 8) pa_nil))))))) pa_nil)) pa_nil))) pa_nil)))))))
    (pss_one (ps_ret (pe_tup (pa_cons (pv 3) (pa_cons (pe_callTy call_tuple_of (by rfl) m_tuple b_tuple (pa_cons (pv 5) pa_nil)) pa_nil)))))))), ?_⟩
  refine ⟨_, rfl, _, rfl, bx, cl, ll, ls, 2, 2, rfl, hB, hll, nll, hl0, hl1, hls, by decide, by decide, by decide, fun lk lv H1 ok1 l1 lg g1 hB1 hlk => ?_⟩
  refine ⟨_, rfl, _, rfl, bx, cl, most, rfl, by omega, by omega, hB1, fun t0 H2 ht0 ht1 g2 hB2 => ⟨_, _, rfl, rfl, ?_⟩⟩
  obtain ⟨many, hmany, hmn⟩ : ∃ many : Nat, (1 : Int) + t0 = (many : Int) ∧ 1 ≤ many ∧ many ≤ most := ⟨(1 + t0).toNat, by omega, by omega, by omega⟩
  refine st_normS (t := tSeq _ _) (σ' := [some (.ref bx), some (.ref ll), some (natV most), some lv, some (natV many), none, none, none, none]) (by show _ = [_, _, _, _, some (V.int (many : Int)), _, _, _, _]; rw [← hmany]; rfl) ?_
  have hlk2 := dp_grm g2 hB1.lst _ _ (schD_pure lk) hlk
  have g02 := g1.trans g2
  refine ⟨Nat.zero_le _, fun D nD => ?_⟩
  have b0 := BL.start (K := K) hB2 nD
  generalize (upd H2 D (.lst [])) = H3 at b0 ⊢
  have keep : ∀ {H' : Hp}, Gr [bx] H2 H' → H' ll = some (.lst (ls.map V.int)) ∧ Dp K H' lv (schD lk) := fun g => ⟨(g02.trans g).lst (by simpa using nll) hll, dp_grm g hB2.lst _ _ (schD_pure lk) hlk2⟩
  have m12 : many ≤ 12 := by omega
  refine ⟨_, rfl, _, rfl, by omega, by omega, for_range (n := (many : Int).toNat) (fun i σ H' => ∃ (sts : List TSt) (y6 y7 : Option V), σ = [some (.ref bx), some (.ref ll), some (natV most), some lv, some (natV many), some (.ref D), y6, y7, none] ∧ BL K H2 H' bx cl D (sts.map tstD) ∧ sts.length = i ∧ ∀ s ∈ sts, (s.fin.okT many false = true ∧ s.fin.dp ≤ 1 ∧ s.fin.parts ≤ 6) ∧ s.rows.length = 5 ∧ ∀ r ∈ s.rows, goodRow many lk.length r)
    ⟨[], none, none, rfl, b0, rfl, by simp⟩ (fun i σ H4 hi hP => ?_) (fun σ H4 hP => ?_)⟩
  · obtain ⟨sts, y6, y7, rfl, b4, t1, t2⟩ := hP
    rw [Int.toNat_natCast] at hi
    refine st_normS (t := tSeq _ _) (σ' := [some (.ref bx), some (.ref ll), some (natV most), some lv, some (natV many), some (.ref D), some (.int (0 + (i : Int))), y7, none]) rfl ?_
    obtain ⟨hll4, _⟩ := keep b4.gr
    refine (BX.tmpl (K := K) (mi := 4) (deep := 1) (e := true) b4.box rfl rfl rfl hll4 nll hl0 hl1 hls hmn.1 m12 (by decide)).set b4.box fun H5 x5 d5 g5 hB5 hx5 hp5 ⟨t, e5, k1, k2, k3⟩ => ?_
    subst e5
    have b5 := b4.step g5 hB5
    refine ⟨fun σ H' => ∃ (t : Tm) (x : V), σ = [some (.ref bx), some (.ref ll), some (natV most), some lv, some (natV many), some (.ref D), some (.int (0 + (i : Int))), some x, none] ∧ BL K H2 H' bx cl D (sts.map tstD) ∧ Dp K H' x t.data ∧ t.okT many false = true ∧ t.dp ≤ 1 ∧ t.parts ≤ 6, ?_, ?_⟩
    · refine ⟨_, rfl, bx, cl, 2, rfl, by decide, by decide, b5.box, fun z H6 z0 z1 g6 hB6 => ⟨rfl, _, rfl, ?_⟩⟩
      have b6 := b5.step g6 hB6
      cases hz : decide (V.int z = V.int 0) with
      | false => exact iteF ⟨t, x5, rfl, b6, dp_grm g6 hB5.lst _ _ hp5 hx5, k1, k2, k3⟩
      | true =>
        refine iteT ⟨Nat.zero_le _, fun ep nep => ?_⟩
        have ge := Gr.new (m := []) (o := .tup []) nep
        exact ⟨.nil, .ref ep, rfl, b6.stepE ge, .tup (SqT.of upd_same) .nil, rfl, Nat.zero_le _, Nat.zero_le _⟩
    clear b5 hx5 k1 k2 k3
    rintro σ H6 ⟨t, x6, rfl, b6, hx6, k1, k2, k3⟩
    obtain ⟨xs, e6, hxs⟩ := b6.ex
    refine ⟨_, rfl, .inl ⟨rfl, xs, SqL.of e6⟩, _, rfl, ?_⟩
    refine ⟨_, rfl, by decide, by decide, fun D2 nD2 => ?_⟩
    have c0 := BL.start (K := K) b6.box nD2
    refine turnsW walk_range (fun j H7 => ∃ rows : List (List TCh), BL K H6 H7 bx cl D2 (rows.map trowD) ∧ rows.length = j ∧ ∀ r ∈ rows, goodRow many lk.length r) ⟨[], c0, rfl, by simp⟩ (fun j H7 _ hP => trivial) (fun j y H7 H7' hj hP hY => ?_) (fun H7 hP => ?_)
    · obtain ⟨rows, c1, r1, r2⟩ := hP
      obtain ⟨rfl, rfl⟩ := hY
      have hj5 : j < 5 := by simpa using hj
      obtain ⟨hll7, hlk7⟩ := keep (b6.gr.trans c1.gr)
      refine ⟨rfl, _, rfl, _, rfl, _, rfl, _, rfl, _, rfl, bx, cl, ll, ls, lv, lk, many, j, ?_, c1.box, hll7, nll, hl0, hl1, hls, hlk7, ok1.pos, by omega, hmn.1, m12, hj5, fun r v H8 hr8 g8 hB8 hv8 => ?_⟩
      · show [V.ref bx, V.ref ll, lv, natV many, V.int (0 + (j : Int))] = _
        rw [Int.zero_add]
      · have c2 := c1.step g8 hB8
        obtain ⟨ys, ey, hys⟩ := c2.ex
        have ly := hys.length
        rw [List.length_map] at ly
        refine ⟨ys, ey, small4 (by omega), rows ++ [r], ?_, by rw [List.length_append, r1]; rfl, fun r' hr' => ?_⟩
        · rw [List.map_append]
          refine c2.put ey hv8 ?_
          show pureAll (r.map tchD) = true
          rw [pureAll_iff]
          intro d hd
          obtain ⟨c, _, rfl⟩ := List.mem_map.mp hd
          show pureAll [.int c.1, c.2.data] = true
          rw [pureAll, pureAll, show pure1 c.2.data = true from c.2.pure_ts]; rfl
        · rcases List.mem_append.mp hr' with hr' | hr'
          · exact r2 r' hr'
          · rw [List.mem_singleton.mp hr']; exact hr8
    obtain ⟨rows, c1, r1, r2⟩ := hP
    have r1 : rows.length = 5 := r1
    obtain ⟨ys, ey, hys⟩ := c1.ex
    refine ⟨D2, ys, rfl, .inl ⟨SqL.of ey, fun p8 n8 => ?_⟩⟩
    have g8 := Gr.new (m := []) (o := .tup ys) n8
    have h8 : Dp K (upd H7 p8 (.tup ys)) (.ref p8) (trowsD rows) := .tup (SqT.of upd_same) (hys.gr g8)
    have hx8 := (dp_grm c1.gr b6.box.lst _ _ (show pure1 t.data = true from t.pure_ts) hx6).gr g8
    have b8 := (b6.step c1.gr c1.box).stepE g8
    generalize (upd H7 p8 (.tup ys)) = H8 at g8 h8 hx8 b8 ⊢
    refine ⟨len2, fun p9 n9 => ?_⟩
    have g9 := Gr.new (m := []) (o := .tup [x6, .ref p8]) n9
    have h9 : Dp K (upd H8 p9 (.tup [x6, .ref p8])) (.ref p9) (tstD ⟨t, rows⟩) := mk2 hx8 h8 n9
    have b9 := b8.stepE g9
    generalize (upd H8 p9 (.tup [x6, .ref p8])) = H9 at g9 h9 b9 ⊢
    obtain ⟨zs, e9, hzs⟩ := b9.ex
    have lz := hzs.length
    rw [List.length_map] at lz
    refine ⟨D, zs, _, rfl, rfl, e9, small4 (by omega), ?_⟩
    refine ⟨sts ++ [⟨t, rows⟩], _, _, rfl, ?_, by rw [List.length_append, t1]; rfl, fun s hs => ?_⟩
    · rw [List.map_append]
      refine b9.put e9 h9 ?_
      show pureAll [t.data, trowsD rows] = true
      have pr : pure1 (trowsD rows) = true := c1.pr
      rw [pureAll, pureAll, show pure1 t.data = true from t.pure_ts, pr]; rfl
    · rcases List.mem_append.mp hs with hs | hs
      · exact t2 s hs
      · rw [List.mem_singleton.mp hs]; exact ⟨⟨k1, k2, k3⟩, r1, r2⟩
  · obtain ⟨sts, y6, y7, rfl, b4, t1, t2⟩ := hP
    rw [Int.toNat_natCast] at t1
    obtain ⟨_, hlk4⟩ := keep b4.gr
    obtain ⟨xs, e4, hxs⟩ := b4.ex
    refine ⟨_, rfl, _, rfl, D, xs, rfl, .inl ⟨SqL.of e4, fun p5 n5 => ?_⟩⟩
    have g5 := Gr.new (m := []) (o := .tup xs) n5
    have h5 : Dp K (upd H4 p5 (.tup xs)) (.ref p5) (stsD sts) := .tup (SqT.of upd_same) (hxs.gr g5)
    have hlk5 := hlk4.gr g5
    have b5 := b4.stepE g5
    generalize (upd H4 p5 (.tup xs)) = H5 at g5 h5 hlk5 b5 ⊢
    refine ⟨len2, fun p6 n6 => ?_⟩
    have b6 := b5.stepE (Gr.new (o := .tup [lv, .ref p5]) n6)
    refine q ⟨lk, sts⟩ (.ref p6) _ ⟨ok1, by omega, fun st hst => (lg st hst).2.2, by show 1 ≤ sts.length; omega, by show sts.length ≤ most; omega, fun s hs => ?_⟩ (g02.trans b6.gr) b6.box (mk2 hlk5 h5 n6)
    have := t2 s hs
    show (s.fin.okT sts.length false = true ∧ _) ∧ _ ∧ ∀ r ∈ s.rows, goodRow sts.length lk.length r
    rw [t1]
    exact this
end
end LW
set_option maxHeartbeats 4000000
namespace LW
open PySem PySem.Spec PyProof.Rows L2
section
variable {P : Program} {w : World} {K : PySem.W.Frag} {mg : Str → Option Value} {base : Heap} {f : Addr} {fd : FuncData}
abbrev n_law_class : List Str := ["e", "kinds"]
theorem sc_law_class : FnScope n_law_class ["e"] (defScope s__law_class) := ⟨rfl, rfl, rfl, by decide +kernel, rfl, by decide +kernel, by decide +kernel⟩
theorem ok_classT {D0 D1 D2 D3 D4 : Addr} (F : Fun K "_law_class" "_law_class" s__law_class f fd) (m_isinstance : mg "isinstance" = none) (m_ValueError : mg "ValueError" = none) (g0 : mg "BadDocument" = some (.ref D0)) (g1 : mg "BadSchema" = some (.ref D1)) (g2 : mg "BadTransformation" = some (.ref D2)) (g3 : mg "BadText" = some (.ref D3)) (g4 : mg "TooMuch" = some (.ref D4)) :
    XA.FnE P w K mg base 3 f fd ["e"] (spClassT K D0 D1 D2 D3 D4) := by
  refine XA.fnE_of F sc_law_class (fun a cls d vs H Q E h => ?_) (fun cdv A outer s H vs Q E a oe cls d hh hr h => ?_)
  · obtain ⟨_, _, rfl, _⟩ := h; rfl
  obtain ⟨C, i, rfl, rfl, hC, q⟩ := h
  have nd := sc_law_class.nd
  have hu65 : (A.deeper (envOfC "_law_class" (defScope s__law_class) s.heap.objs.size f cdv)).units + 65 < cLine := by have := hr.un; omega
  refine ⟨_, pss_cons (ps_set (i := 1) nd rfl (.inl rfl) (pe_lst (pa_cons (pe_callB (XA.call_isX hC.e hh) (by rfl) m_isinstance b_isinstance (pa_cons (pv 0) (pa_cons (pe_glob (v := .ref D0) rfl g0 rfl) pa_nil))) (pa_cons (pe_callB (XA.call_isX hC.e hh) (by rfl) m_isinstance b_isinstance (pa_cons (pv 0) (pa_cons (pe_glob (v := .ref D1) rfl g1 rfl) pa_nil))) (pa_cons (pe_callB (XA.call_isX hC.e hh) (by rfl) m_isinstance b_isinstance (pa_cons (pv 0) (pa_cons (pe_glob (v := .ref D2) rfl g2 rfl) pa_nil))) (pa_cons (pe_callB (XA.call_isX hC.e hh) (by rfl) m_isinstance b_isinstance (pa_cons (pv 0) (pa_cons (pe_glob (v := .ref D3) rfl g3 rfl) pa_nil))) (pa_cons (pe_callB (XA.call_isX hC.e hh) (by rfl) m_isinstance b_isinstance (pa_cons (pv 0) (pa_cons (pe_glob (v := .ref D4) rfl g4 rfl) pa_nil))) pa_nil)))))))
    (pss_cons (ps_if (PW.pt (pw_or (pt_cmpR op_ne (pe_bm PySem.F.plainAttrs_list PySem.F.slot_list_count PySem.F.type_list_count (XA.mt_countD hu65) (pv 1) (pa_cons pe_bl pa_nil)) pe_int (nomark _)) (pw_or1 (pt_not (pt_val (pe_callB (XA.call_isX hC.e hh) (by rfl) m_isinstance b_isinstance (pa_cons (pv 0) (pa_cons (pe_bltn (v := .ty "ValueError") (by rfl) m_ValueError b_ValueError rfl) pa_nil))))))))
      (pss_one (ps_ret pe_str))
      pss_nil)
    (pss_one (ps_ret (pe_ix ix_list (pe_lst (pa_cons pe_str (pa_cons pe_str (pa_cons pe_str (pa_cons pe_str (pa_cons pe_str pa_nil)))))) (pe_bm PySem.F.plainAttrs_list PySem.F.slot_list_index PySem.F.type_list_index (mt_indexD hu65) (pv 1) (pa_cons pe_bl pa_nil)) (fun _ _ => rfl))))), ?_⟩
  have rf : ∀ (D : Addr) (u : Value), L2.RelV (.ref D) u → u = .ref D := fun D u r => by cases r; rfl
  refine ⟨_, rfl, .ref D0, .ref D0, _, rfl, rf D0, hC.k0, ?_⟩
  refine ⟨_, rfl, .ref D1, .ref D1, _, rfl, rf D1, hC.k1, ?_⟩
  refine ⟨_, rfl, .ref D2, .ref D2, _, rfl, rf D2, hC.k2, ?_⟩
  refine ⟨_, rfl, .ref D3, .ref D3, _, rfl, rf D3, hC.k3, ?_⟩
  refine ⟨_, rfl, .ref D4, .ref D4, _, rfl, rf D4, hC.k4, ?_⟩
  refine ⟨(by decide : (5 : Nat) ≤ sizeLine), fun kp nkp => ?_⟩
  have hk : Dp K (upd H kp (.lst [.bl (decide (i = 0)), .bl (decide (i = 1)), .bl (decide (i = 2)), .bl (decide (i = 3)), .bl (decide (i = 4))])) (.ref kp) (.list (kindsD i)) := .lst (SqL.of upd_same) (.cons (.bl _) (.cons (.bl _) (.cons (.bl _) (.cons (.bl _) (.cons (.bl _) .nil)))))
  have g1 := Gr.new (m := []) (o := .lst [.bl (decide (i = 0)), .bl (decide (i = 1)), .bl (decide (i = 2)), .bl (decide (i = 3)), .bl (decide (i = 4))]) nkp
  have hks : SqL K (upd H kp (.lst [.bl (decide (i = 0)), .bl (decide (i = 1)), .bl (decide (i = 2)), .bl (decide (i = 3)), .bl (decide (i = 4))])) kp [.bl (decide (i = 0)), .bl (decide (i = 1)), .bl (decide (i = 2)), .bl (decide (i = 3)), .bl (decide (i = 4))] := SqL.of upd_same
  generalize (upd H kp (.lst [.bl (decide (i = 0)), .bl (decide (i = 1)), .bl (decide (i = 2)), .bl (decide (i = 3)), .bl (decide (i = 4))])) = H1 at hk hks g1 ⊢
  have shp : SeqAt.shaped (.list (kindsD i)) = true := rfl
  have shb : SeqAt.shaped (.bool true) = true := rfl
  refine ⟨_, rfl, .inl ⟨rfl, _, hks⟩, kp, .bl true, .bool true, kindsD i, rfl, rfl, hk, .bl true, shp, shb, ?_⟩
  rw [kinds_count hC.lt]
  refine ⟨rfl, _, rfl, iteFd (by decide) ?_⟩
  refine ⟨_, rfl, .ty "ValueError", .type "ValueError", _, rfl, fun u r => by cases r; rfl, hC.v, _, rfl, iteF ?_⟩
  refine ⟨(by decide : (5 : Nat) ≤ sizeLine), fun lp nlp => ?_⟩
  have g2 := Gr.new (m := []) (o := .lst [.str "document", .str "schema", .str "transformation", .str "text", .str "much"]) nlp
  have hks2 := g2.sqL hks
  have hkD : Dp K _ (.ref kp) (.list (kindsD i)) := .lst hks2 (.cons (.bl _) (.cons (.bl _) (.cons (.bl _) (.cons (.bl _) (.cons (.bl _) .nil)))))
  have hnm : SqL K (upd H1 lp (.lst [.str "document", .str "schema", .str "transformation", .str "text", .str "much"])) lp [.str "document", .str "schema", .str "transformation", .str "text", .str "much"] := SqL.of upd_same
  generalize (upd H1 lp (.lst [.str "document", .str "schema", .str "transformation", .str "text", .str "much"])) = H2 at hks2 hkD hnm g2 ⊢
  have hz : (kindsD i)[i]? = some (.bool true) := by
    have := hC.lt
    have : i = 0 ∨ i = 1 ∨ i = 2 ∨ i = 3 ∨ i = 4 := by omega
    rcases this with rfl | rfl | rfl | rfl | rfl <;> rfl
  have hbef : ∀ (m : Nat) (z' : PyData), m < i → (kindsD i)[m]? = some z' → z'.eqv (.bool true) = false := fun m z' hm hz' => by
    have := hC.lt
    have : i = 0 ∨ i = 1 ∨ i = 2 ∨ i = 3 ∨ i = 4 := by omega
    have : m = 0 ∨ m = 1 ∨ m = 2 ∨ m = 3 := by omega
    rcases this with rfl | rfl | rfl | rfl <;> (simp only [kindsD, List.getElem?_cons_zero, List.getElem?_cons_succ, Option.some.injEq] at hz'; subst hz'; rw [decide_eq_false (by omega)]; rfl)
  have hat : atI ([.str "document", .str "schema", .str "transformation", .str "text", .str "much"] : List V) (i : Int) = some (.str (clsN i)) := by
    have := hC.lt
    have : i = 0 ∨ i = 1 ∨ i = 2 ∨ i = 3 ∨ i = 4 := by omega
    rcases this with rfl | rfl | rfl | rfl | rfl <;> rfl
  refine ⟨_, rfl, .inl ⟨rfl, _, hks2⟩, kp, .bl true, .bool true, kindsD i, i, .bool true, rfl, rfl, hkD, .bl true, shp, shb, hz, rfl, hbef, ?_⟩
  refine ⟨lp, _, _, _, rfl, rfl, hnm, hat, ?_⟩
  exact q _ (g1.trans g2)
end
end LW
set_option maxHeartbeats 4000000
namespace LW
open PySem PySem.Spec PyProof.Rows L2
section
variable {P : Program} {w : World} {K : PySem.W.Frag} {mg : Str → Option Value} {base : Heap} {f : Addr} {fd : FuncData}
abbrev n_law_refused : List Str := ["way", "one", "s", "e"]
theorem sc_law_refused : FnScope n_law_refused ["way", "one", "s"] (defScope s__law_refused) := ⟨rfl, rfl, rfl, by decide +kernel, rfl, by decide +kernel, by decide +kernel⟩
def okW (way : Nat) (d1 d2 : PyData) (n : Nat) : Prop := (transD d1 = false ∧ way ≠ 4 ∧ schemaD d2 = true ∧ n = 2) ∨ (way = 4 ∧ n = 1) ∨ (transD d1 = true ∧ way = 1 ∧ n = 0) ∨ (transD d1 = true ∧ way = 2 ∧ schemaD d2 = true ∧ n = 1)
def spRef05 (K : PySem.W.Frag) (Ts : List Addr) : Sp := fun vs H Q _ => ∃ (way : Nat) (v1 v2 : V) (d1 d2 : PyData), vs = [natV way, v1, v2] ∧ Dp K H v1 d1 ∧ Dp K H v2 d2 ∧ TrPre d1 ∧ fewSc d2 ∧ way ≤ 8 ∧ Tbs Ts H ∧ ((∃ n, okW way d1 d2 n ∧ ∀ H', Gr [] H H' → Q (.str (clsN n)) H') ∨ (transD d1 = true ∧ way = 0 ∧ ∀ H', Gr [] H H' → Q (.str "let") H'))
theorem ok_ref05 {D0 D1 D2 D3 D4 DL : Addr} {Ts : List Addr} (F : Fun K "_law_refused" "_law_refused" s__law_refused f fd)
    (f_check_transformation : Fn P w K mg base (XA.CXA P w) 79 "check_transformation" ["m"] (spChk K Ts D0 D1 D2 [.T]))
    (f_turned : Fn P w K mg base (XA.CXA P w) 79 "turned" ["m", "d"] (spDoor K Ts D0 D1 D2 [.T, .D]))
    (f_fits : Fn P w K mg base (XA.CXA P w) 79 "fits" ["s", "m", "t"] (spDoor K Ts D0 D1 D2 [.S, .T, .S]))
    (f_schema_before : Fn P w K mg base (XA.CXA P w) 79 "schema_before" ["m", "t"] (spDoor K Ts D0 D1 D2 [.T, .S]))
    (f_accepts : Fn P w K mg base (XA.CXA P w) 79 "accepts" ["s", "m", "t", "paper"] (spDoor K Ts D0 D1 D2 [.S, .T, .S, .o]))
    (f_made : Fn P w K mg base (XA.CXA P w) 79 "made" ["m", "state", "d"] (spDoor K Ts D0 D1 D2 [.T, .o, .D]))
    (f_first_profile : Fn P w K mg base (XA.CXA P w) 79 "first_profile" ["s", "m", "t"] (spDoor K Ts D0 D1 D2 [.S, .T, .S]))
    (f_profile : Fn P w K mg base (XA.CXA P w) 79 "profile" ["s", "m", "t", "d"] (spDoor K Ts D0 D1 D2 [.S, .T, .S, .D]))
    {fc : Addr} {fdc : FuncData} (f_class : XA.FnE P w K mg base 3 fc fdc ["e"] (spClassT K D0 D1 D2 D3 D4)) (m_class : mg "_law_class" = some (.ref fc)) (kc : PySem.W.keepIn K (.ref fc) = true) (bc : Binds K fdc ["e"] [])
    (C0 : ClsF K D0 D1 D2 D3 D4 D0 0) (C1 : ClsF K D0 D1 D2 D3 D4 D1 1) (C2 : ClsF K D0 D1 D2 D3 D4 D2 2) (gl : mg "LeafwardError" = some (.ref DL)) (x0 : PySem.W.exmOne K (.ref D0) (.ref DL) = some true) (x1 : PySem.W.exmOne K (.ref D1) (.ref DL) = some true) (x2 : PySem.W.exmOne K (.ref D2) (.ref DL) = some true) :
    FnOk P w K mg base CX0 80 f fd ["way", "one", "s"] (spRef05 K Ts) := by
  refine F.ok sc_law_refused (fun vs H Q E h => ?_) (fun cdv A outer s0 H vs Q E hr h => ?_)
  · obtain ⟨_, _, _, _, _, rfl, _⟩ := h; rfl
  obtain ⟨way, v1, v2, d1, d2, rfl, h1, h2, tp, fs, hw, hT, hcase⟩ := h
  have nd := sc_law_refused.nd
  obtain ⟨_, _, ok_ct, m_ct, k_ct, b_ct⟩ := f_check_transformation
  obtain ⟨_, _, ok_turned, m_turned, k_turned, b_turned⟩ := f_turned
  obtain ⟨_, _, ok_fits, m_fits, k_fits, b_fits⟩ := f_fits
  obtain ⟨_, _, ok_schema_before, m_schema_before, k_schema_before, b_schema_before⟩ := f_schema_before
  obtain ⟨_, _, ok_accepts, m_accepts, k_accepts, b_accepts⟩ := f_accepts
  obtain ⟨_, _, ok_made, m_made, k_made, b_made⟩ := f_made
  obtain ⟨_, _, ok_first_profile, m_first_profile, k_first_profile, b_first_profile⟩ := f_first_profile
  obtain ⟨_, _, ok_profile, m_profile, k_profile, b_profile⟩ := f_profile
  have hr3 : Room 3 (A.deeper (envOfC "_law_refused" (defScope s__law_refused) s0.heap.objs.size f cdv)) := hr.mono (by omega)
  refine ⟨_, pss_cons (XA.ps_tryA (i := 3) (c := .ref DL) rfl rfl nd rfl rfl ⟨rfl, rfl, .inl gl⟩ (fun W pn xe tk ow =>
      pss_cons (ps_if (pt_cmpR op_eq (pv 0) pe_int (nomark _)) (pss_one (ps_ret (pe_ifExp (pt_cmpR op_isN (pe_callS ok_ct hr rfl m_ct k_ct b_ct (fun σ => XA.pass_at tk σ) (pa_cons (pv 1) pa_nil)) pe_non (nomark _)) pe_str pe_str))) pss_nil)
      (pss_one (ps_if (pt_cmpR op_eq (pv 0) pe_int (nomark _)) (pss_one (ps_expr (pe_callS ok_turned hr rfl m_turned k_turned b_turned (fun σ => XA.pass_at tk σ) (pa_cons (pv 1) (pa_cons (pe_tup (pa_cons (pe_tup (pa_cons pe_int (pa_cons (pe_tup pa_nil) pa_nil))) pa_nil)) pa_nil)))))
        (pss_one (ps_if (pt_cmpR op_eq (pv 0) pe_int (nomark _)) (pss_one (ps_expr (pe_callS ok_fits hr rfl m_fits k_fits b_fits (fun σ => XA.pass_at tk σ) (pa_cons (pv 2) (pa_cons (pv 1) (pa_cons (pe_tup (pa_cons (pe_tup (pa_cons pe_int (pa_cons (pe_tup pa_nil) pa_nil))) pa_nil)) pa_nil))))))
        (pss_one (ps_if (pt_cmpR op_eq (pv 0) pe_int (nomark _)) (pss_one (ps_expr (pe_callS ok_schema_before hr rfl m_schema_before k_schema_before b_schema_before (fun σ => XA.pass_at tk σ) (pa_cons (pv 1) (pa_cons (pe_tup (pa_cons (pe_tup (pa_cons pe_int (pa_cons (pe_tup pa_nil) pa_nil))) pa_nil)) pa_nil)))))
        (pss_one (ps_if (pt_cmpR op_eq (pv 0) pe_int (nomark _)) (pss_one (ps_expr (pe_callS ok_accepts hr rfl m_accepts k_accepts b_accepts (fun σ => XA.pass_at tk σ) (pa_cons (pv 2) (pa_cons (pv 1) (pa_cons (pe_tup (pa_cons (pe_tup (pa_cons pe_int (pa_cons (pe_tup pa_nil) pa_nil))) pa_nil)) (pa_cons (pe_tup pa_nil) pa_nil)))))))
        (pss_one (ps_if (pt_cmpR op_eq (pv 0) pe_int (nomark _)) (pss_one (ps_expr (pe_callS ok_made hr rfl m_made k_made b_made (fun σ => XA.pass_at tk σ) (pa_cons (pv 1) (pa_cons pe_int (pa_cons (pe_tup (pa_cons (pe_tup (pa_cons pe_int (pa_cons (pe_tup pa_nil) pa_nil))) pa_nil)) pa_nil))))))
        (pss_one (ps_if (pt_cmpR op_eq (pv 0) pe_int (nomark _)) (pss_one (ps_expr (pe_callS ok_first_profile hr rfl m_first_profile k_first_profile b_first_profile (fun σ => XA.pass_at tk σ) (pa_cons (pv 2) (pa_cons (pv 1) (pa_cons (pe_tup (pa_cons (pe_tup (pa_cons pe_int (pa_cons (pe_tup pa_nil) pa_nil))) pa_nil)) pa_nil))))))
        (pss_one (ps_if (pt_cmpR op_eq (pv 0) pe_int (nomark _)) (pss_one (ps_expr (pe_callS ok_profile hr rfl m_profile k_profile b_profile (fun σ => XA.pass_at tk σ) (pa_cons (pv 2) (pa_cons (pv 1) (pa_cons (pe_tup (pa_cons (pe_tup (pa_cons pe_int (pa_cons (pe_tup pa_nil) pa_nil))) pa_nil)) (pa_cons (pe_tup (pa_cons (pe_tup (pa_cons pe_int (pa_cons (pe_tup pa_nil) pa_nil))) pa_nil)) pa_nil)))))))
        (pss_one (ps_expr (pe_callS ok_fits hr rfl m_fits k_fits b_fits (fun σ => XA.pass_at tk σ) (pa_cons (pe_tup (pa_cons (pe_tup (pa_cons pe_int (pa_cons (pe_tup pa_nil) pa_nil))) pa_nil)) (pa_cons (pv 1) (pa_cons (pv 2) pa_nil)))))))))))))))))))))
    (fun a oe cls d pn hz hf => pss_one (ps_ret (XA.pe_fnE f_class ⟨hr3.dp, hr3.un⟩ ⟨rfl, oe, List.mem_cons_self .., hz, hf⟩ rfl m_class kc bc (pa_cons (pv 3) pa_nil)))))
    (pss_one (ps_ret pe_str)), ?_⟩
  have bad : ∀ (D : Ends) (n : Nat), (∀ v H, Q v H → D.rt v H) → okW way d1 d2 n → XE0 (WE (XA.wC K (.ref DL) 3 (fun a cls d => tRet fun σ H Q => tCons (tVar 3) tNil σ H fun vs H1 => spClassT K D0 D1 D2 D3 D4 a cls d vs H1 Q fun _ _ _ => False) D) [some (natV way), some v1, some v2, none]) (dA D0 D1 D2 n) H := fun D n hD hn => by
    rcases hcase with ⟨n', hn', q⟩ | ⟨z, hw0, _⟩
    case inr =>
      exfalso
      subst hw0
      rcases hn with ⟨z2, _⟩ | ⟨z2, _⟩ | ⟨_, z2, _⟩ | ⟨_, z2, _⟩
      · rw [z] at z2; cases z2
      · cases z2
      · cases z2
      · cases z2
    have e : n = n' := by
      rcases hn with ⟨a1, a2, _, a3⟩ | ⟨a1, a3⟩ | ⟨a1, a2, a3⟩ | ⟨a1, a2, _, a3⟩ <;> rcases hn' with ⟨b1, b2, _, b3⟩ | ⟨b1, b3⟩ | ⟨b1, b2, b3⟩ | ⟨b1, b2, _, b3⟩ <;> (try omega) <;> (rw [a1] at b1; cases b1)
    subst e
    have n3 : n = 0 ∨ n = 1 ∨ n = 2 := by rcases hn with ⟨_, _, _, a3⟩ | ⟨_, a3⟩ | ⟨_, _, a3⟩ | ⟨_, _, _, a3⟩ <;> omega
    intro H' t g ht
    rcases n3 with rfl | rfl | rfl
    · exact ⟨x0, fun a na => ⟨_, rfl, D0, 0, rfl, rfl, C0, fun H2 g2 => hD _ _ (q H2 (g.trans g2))⟩⟩
    · exact ⟨x1, fun a na => ⟨_, rfl, D1, 1, rfl, rfl, C1, fun H2 g2 => hD _ _ (q H2 (g.trans g2))⟩⟩
    · exact ⟨x2, fun a na => ⟨_, rfl, D2, 2, rfl, rfl, C2, fun H2 g2 => hD _ _ (q H2 (g.trans g2))⟩⟩
  have V1 : DX K [some (natV way), some v1, some v2, none] H (tVar 1) d1 := .var h1 rfl
  have V2 : DX K [some (natV way), some v1, some v2, none] H (tVar 2) d2 := .var h2 rfl
  have yes : way ≠ 0 → ∃ n, okW way d1 d2 n := fun hw0 => by
    rcases hcase with ⟨n', hn', _⟩ | ⟨_, z, _⟩
    · exact ⟨n', hn'⟩
    · exact absurd z hw0
  have w9 : way = 0 ∨ way = 1 ∨ way = 2 ∨ way = 3 ∨ way = 5 ∨ way = 6 ∨ way = 7 ∨ way = 8 ∨ way = 4 := by omega
  rcases w9 with rfl | rfl | rfl | rfl | rfl | rfl | rfl | rfl | rfl
  · refine ⟨_, rfl, rfl, _, rfl, iteTd (by decide) ?_⟩
    refine chk_S' (.cons V1 .nil) rfl ⟨tp, trivial⟩ hT (fun e H1 g1 => ?_) (fun i e => ?_)
    · have ht : transD d1 = true := by
        cases z : transD d1 with
        | true => rfl
        | false => simp [verd, verK, z] at e
      rcases hcase with ⟨n', hn', q⟩ | ⟨_, _, q⟩
      · rcases hn' with ⟨z, _⟩ | ⟨z, _⟩ | ⟨_, z, _⟩ | ⟨_, z, _⟩
        · rw [ht] at z; cases z
        · cases z
        · cases z
        · cases z
      · exact ⟨rfl, _, rfl, iteTd (by simp) (q H1 g1)⟩
    · cases z : transD d1 with
      | true => simp [verd, verK, z] at e
      | false =>
        have e2 : i = 2 := by simp [verd, verK, z] at e; omega
        subst e2
        rcases hcase with ⟨n', hn', q⟩ | ⟨z', _, q⟩
        · rcases hn' with hn' | ⟨z', _⟩ | ⟨_, z', _⟩ | ⟨_, z', _⟩
          · exact bad _ 2 (fun _ _ h => h) (.inl ⟨hn'.1, hn'.2.1, hn'.2.2.1, rfl⟩)
          · cases z'
          · cases z'
          · cases z'
        · rw [z] at z'; cases z'
  · refine ⟨_, rfl, rfl, _, rfl, iteFd (by decide) ⟨_, rfl, rfl, _, rfl, iteTd (by decide) ?_⟩⟩
    obtain ⟨n, hn⟩ := yes (by decide)
    refine door_S (i := n) (.cons V1 (.cons DX.doc9 .nil)) rfl ⟨tp, trivial, trivial⟩ hT ?_ (bad _ n (fun _ _ h => h) hn)
    rcases hn with ⟨z1, _, z2, rfl⟩ | ⟨z, _⟩ | ⟨z1, z, rfl⟩ | ⟨z1, z, z2, rfl⟩
    · simp [verd, verK, z1, z2]
    · cases z
    · simp [verd, verK, z1, doc9_noD]
    · cases z
  · refine ⟨_, rfl, rfl, _, rfl, iteFd (by decide) ⟨_, rfl, rfl, _, rfl, iteFd (by decide) ⟨_, rfl, rfl, _, rfl, iteTd (by decide) ?_⟩⟩⟩
    obtain ⟨n, hn⟩ := yes (by decide)
    refine door_S (i := n) (.cons V2 (.cons V1 (.cons DX.doc9 .nil))) rfl ⟨fs, tp, doc9_few _, trivial⟩ hT ?_ (bad _ n (fun _ _ h => h) hn)
    rcases hn with ⟨z1, _, z2, rfl⟩ | ⟨z, _⟩ | ⟨z1, z, rfl⟩ | ⟨z1, z, z2, rfl⟩
    · simp [verd, verK, z1, z2]
    · cases z
    · cases z
    · simp [verd, verK, z1, z2, doc9_noS]
  · refine ⟨_, rfl, rfl, _, rfl, iteFd (by decide) ⟨_, rfl, rfl, _, rfl, iteFd (by decide) ⟨_, rfl, rfl, _, rfl, iteFd (by decide) ⟨_, rfl, rfl, _, rfl, iteTd (by decide) ?_⟩⟩⟩⟩
    obtain ⟨n, hn⟩ := yes (by decide)
    refine door_S (i := n) (.cons V1 (.cons DX.doc9 .nil)) rfl ⟨tp, doc9_few _, trivial⟩ hT ?_ (bad _ n (fun _ _ h => h) hn)
    rcases hn with ⟨z1, _, z2, rfl⟩ | ⟨z, _⟩ | ⟨z1, z, rfl⟩ | ⟨z1, z, z2, rfl⟩
    · simp [verd, verK, z1, z2]
    · cases z
    · cases z
    · cases z
  · refine ⟨_, rfl, rfl, _, rfl, iteFd (by decide) ⟨_, rfl, rfl, _, rfl, iteFd (by decide) ⟨_, rfl, rfl, _, rfl, iteFd (by decide) ⟨_, rfl, rfl, _, rfl, iteFd (by decide) ⟨_, rfl, rfl, _, rfl, iteTd (by decide) ?_⟩⟩⟩⟩⟩
    obtain ⟨n, hn⟩ := yes (by decide)
    refine door_S (i := n) (.cons V2 (.cons V1 (.cons DX.doc9 (.cons (.tup .nil (by simp)) .nil)))) rfl ⟨fs, tp, doc9_few _, trivial, trivial⟩ hT ?_ (bad _ n (fun _ _ h => h) hn)
    rcases hn with ⟨z1, _, z2, rfl⟩ | ⟨z, _⟩ | ⟨z1, z, rfl⟩ | ⟨z1, z, z2, rfl⟩
    · simp [verd, verK, z1, z2]
    · cases z
    · cases z
    · cases z
  · refine ⟨_, rfl, rfl, _, rfl, iteFd (by decide) ⟨_, rfl, rfl, _, rfl, iteFd (by decide) ⟨_, rfl, rfl, _, rfl, iteFd (by decide) ⟨_, rfl, rfl, _, rfl, iteFd (by decide) ⟨_, rfl, rfl, _, rfl, iteFd (by decide) ⟨_, rfl, rfl, _, rfl, iteTd (by decide) ?_⟩⟩⟩⟩⟩⟩
    obtain ⟨n, hn⟩ := yes (by decide)
    refine door_S (i := n) (.cons V1 (.cons .int (.cons DX.doc9 .nil))) rfl ⟨tp, trivial, trivial, trivial⟩ hT ?_ (bad _ n (fun _ _ h => h) hn)
    rcases hn with ⟨z1, _, z2, rfl⟩ | ⟨z, _⟩ | ⟨z1, z, rfl⟩ | ⟨z1, z, z2, rfl⟩
    · simp [verd, verK, z1, z2]
    · cases z
    · cases z
    · cases z
  · refine ⟨_, rfl, rfl, _, rfl, iteFd (by decide) ⟨_, rfl, rfl, _, rfl, iteFd (by decide) ⟨_, rfl, rfl, _, rfl, iteFd (by decide) ⟨_, rfl, rfl, _, rfl, iteFd (by decide) ⟨_, rfl, rfl, _, rfl, iteFd (by decide) ⟨_, rfl, rfl, _, rfl, iteFd (by decide) ⟨_, rfl, rfl, _, rfl, iteTd (by decide) ?_⟩⟩⟩⟩⟩⟩⟩
    obtain ⟨n, hn⟩ := yes (by decide)
    refine door_S (i := n) (.cons V2 (.cons V1 (.cons DX.doc9 .nil))) rfl ⟨fs, tp, doc9_few _, trivial⟩ hT ?_ (bad _ n (fun _ _ h => h) hn)
    rcases hn with ⟨z1, _, z2, rfl⟩ | ⟨z, _⟩ | ⟨z1, z, rfl⟩ | ⟨z1, z, z2, rfl⟩
    · simp [verd, verK, z1, z2]
    · cases z
    · cases z
    · cases z
  · refine ⟨_, rfl, rfl, _, rfl, iteFd (by decide) ⟨_, rfl, rfl, _, rfl, iteFd (by decide) ⟨_, rfl, rfl, _, rfl, iteFd (by decide) ⟨_, rfl, rfl, _, rfl, iteFd (by decide) ⟨_, rfl, rfl, _, rfl, iteFd (by decide) ⟨_, rfl, rfl, _, rfl, iteFd (by decide) ⟨_, rfl, rfl, _, rfl, iteFd (by decide) ⟨_, rfl, rfl, _, rfl, iteTd (by decide) ?_⟩⟩⟩⟩⟩⟩⟩⟩
    obtain ⟨n, hn⟩ := yes (by decide)
    refine door_S (i := n) (.cons V2 (.cons V1 (.cons DX.doc9 (.cons DX.doc9 .nil)))) rfl ⟨fs, tp, doc9_few _, trivial, trivial⟩ hT ?_ (bad _ n (fun _ _ h => h) hn)
    rcases hn with ⟨z1, _, z2, rfl⟩ | ⟨z, _⟩ | ⟨z1, z, rfl⟩ | ⟨z1, z, z2, rfl⟩
    · simp [verd, verK, z1, z2]
    · cases z
    · cases z
    · cases z
  · refine ⟨_, rfl, rfl, _, rfl, iteFd (by decide) ⟨_, rfl, rfl, _, rfl, iteFd (by decide) ⟨_, rfl, rfl, _, rfl, iteFd (by decide) ⟨_, rfl, rfl, _, rfl, iteFd (by decide) ⟨_, rfl, rfl, _, rfl, iteFd (by decide) ⟨_, rfl, rfl, _, rfl, iteFd (by decide) ⟨_, rfl, rfl, _, rfl, iteFd (by decide) ⟨_, rfl, rfl, _, rfl, iteFd (by decide) ?_⟩⟩⟩⟩⟩⟩⟩⟩
    obtain ⟨n, hn⟩ := yes (by decide)
    have en : n = 1 := by rcases hn with ⟨_, z, _⟩ | ⟨_, z⟩ | ⟨_, z, _⟩ | ⟨_, z, _⟩ <;> first | exact z | exact absurd rfl z | cases z
    subst en
    exact door_S (.cons DX.doc9 (.cons V1 (.cons V2 .nil))) rfl ⟨doc9_few _, tp, fs, trivial⟩ hT (by simp [verd, verK, doc9_noS]) (bad _ 1 (fun _ _ h => h) hn)
end
end LW
set_option maxHeartbeats 2000000
namespace LW
open PySem PySem.Spec PyProof.Rows L2
/-! ### neat data: laid, not deep, not wide -/
mutual
def wdB : PyData → Bool
  | .tuple ds => decide (ds.length ≤ 400) && wdAll ds
  | .list _ => false
  | .dict _ => false
  | _ => true
def wdAll : List PyData → Bool
  | [] => true
  | d :: ds => wdB d && wdAll ds
end
theorem wdAll_iff {ds : List PyData} : wdAll ds = true ↔ ∀ d ∈ ds, wdB d = true := by
  induction ds with
  | nil => simp [wdAll]
  | cons x ds ih => simp [wdAll, ih]
structure Neat (k : Nat) (d : PyData) : Prop where
  lay : d.canLay0 = true
  dp : d.depth ≤ k
  wd : wdB d = true
theorem Neat.mono {k j : Nat} {d : PyData} (h : Neat k d) (le : k ≤ j) : Neat j d := ⟨h.lay, Nat.le_trans h.dp le, h.wd⟩
theorem Neat.int (i : Int) : Neat 0 (.int i) := ⟨rfl, Nat.le_refl _, rfl⟩
theorem Neat.bool (b : Bool) : Neat 0 (.bool b) := ⟨rfl, Nat.le_refl _, rfl⟩
theorem Neat.none : Neat 0 .none := ⟨rfl, Nat.le_refl _, rfl⟩
theorem Neat.str {x : Str} (h : (PyData.str x).canLay0 = true) : Neat 0 (.str x) := ⟨h, Nat.le_refl _, rfl⟩
theorem Neat.tup {k : Nat} {ds : List PyData} (h : ∀ d ∈ ds, Neat k d) (hl : ds.length ≤ 400) : Neat (k + 1) (.tuple ds) := by
  refine ⟨?_, depth_tup_le fun d hd => (h d hd).dp, ?_⟩
  · simp only [PyData.canLay0]
    exact canAll_iff.mpr fun d hd => (h d hd).lay
  · simp only [wdB, Bool.and_eq_true, decide_eq_true_eq]
    exact ⟨hl, wdAll_iff.mpr fun d hd => (h d hd).wd⟩
theorem Neat.mem {k : Nat} {ds : List PyData} (h : Neat k (.tuple ds)) {d : PyData} (hd : d ∈ ds) : Neat k d := by
  refine ⟨lay_mem (by simpa [PyData.canLay0] using h.lay) d hd, ?_, ?_⟩
  · have := depth_mem hd
    have h2 := h.dp
    simp only [PyData.depth] at h2
    omega
  · have h2 := h.wd
    simp only [wdB, Bool.and_eq_true] at h2
    exact wdAll_iff.mp h2.2 d hd
theorem Neat.len {k : Nat} {ds : List PyData} (h : Neat k (.tuple ds)) : ds.length ≤ 400 := by
  have h2 := h.wd
  simp only [wdB, Bool.and_eq_true, decide_eq_true_eq] at h2
  exact h2.1
theorem Neat.few {k : Nat} {d : PyData} (h : Neat k d) : fewSc d := fun ss e s hs => by
  subst e
  intro e r e2
  subst e2
  have := h.mem hs
  intro rs e3
  subst e3
  have h3 := (this.mem (d := .tuple rs) (by simp)).len
  omega
theorem Neat.pre {k : Nat} {d : PyData} (h : Neat k d) (hk : k ≤ 64) : TrPre d := by
  refine ⟨?_, ?_, ?_⟩
  · unfold SeqAt.shaped
    rw [h.lay, decide_eq_true (by have := h.dp; omega)]; rfl
  · intro lk ss e st hst e' cs e2 c hc r e3
    subst e e2 e3
    exact ((((h.mem (d := .tuple ss) (by simp)).mem hst).mem (d := .tuple cs) (by simp)).mem hc).len
  · intro lk ss e
    subst e
    exact (h.mem (d := lk) (by simp)).few
theorem Neat.tup2 {k : Nat} {a b : PyData} (ha : Neat k a) (hb : Neat k b) : Neat (k + 1) (.tuple [a, b]) := .tup (fun d hd => by
  simp only [List.mem_cons, List.not_mem_nil, or_false] at hd
  rcases hd with rfl | rfl
  · exact ha
  · exact hb) (by simp)
theorem Neat.tup3 {k : Nat} {a b c : PyData} (ha : Neat k a) (hb : Neat k b) (hc : Neat k c) : Neat (k + 1) (.tuple [a, b, c]) := .tup (fun d hd => by
  simp only [List.mem_cons, List.not_mem_nil, or_false] at hd
  rcases hd with rfl | rfl | rfl
  · exact ha
  · exact hb
  · exact hc) (by simp)
theorem lay_node : (PyData.str "node").canLay0 = true := by simp [PyData.canLay0, PyData.strOk]; decide
theorem lay_wrd (w : Bool) : (PyData.str (wrd w)).canLay0 = true := by cases w <;> simp [PyData.canLay0, PyData.strOk, wrd] <;> decide
theorem neat_tm : ∀ (t : Tm), t.len ≤ 400 → (∀ p ∈ t.prts, match p with | .node _ u => Neat (2 * u.dp + 3) u.data | _ => True) → Neat (2 * t.dp + 3) t.data := fun t hl h => by
  show Neat _ (.tuple t.ts)
  rw [Tm.ts_prts]
  refine (Neat.tup (k := 2 * t.dp + 2) (fun d hd => ?_) (by rw [List.length_map, Tm.len_prts]; exact hl)).mono (by omega)
  obtain ⟨p, hp, rfl⟩ := List.mem_map.mp hd
  have hdp := Tm.dp_prts t p hp
  cases p with
  | node b u =>
    have hu := h _ hp
    simp only [Prt.dp] at hdp
    exact (Neat.tup3 ((Neat.str lay_node).mono (Nat.zero_le _)) ((Neat.int b).mono (Nat.zero_le _)) hu).mono (by omega)
  | ref w p => exact (Neat.tup2 ((Neat.str (lay_wrd w)).mono (Nat.zero_le _)) (Neat.int p)).mono (by omega)
theorem neat_small : ∀ (n : Nat) (t : Tm), t.parts < n → t.parts ≤ 400 → Neat (2 * t.dp + 3) t.data
  | 0, t, h, _ => absurd h (Nat.not_lt_zero _)
  | n + 1, t, h, h4 => neat_tm t (by have := t.len_parts; omega) fun p hp => by
    cases p with
    | node b u =>
      have : (Prt.node b u).parts ≤ t.parts := by rw [Tm.parts_prts]; exact sum_mem (List.mem_map.mpr ⟨_, hp, rfl⟩)
      simp only [Prt.parts] at this
      exact neat_small n u (by omega) (by omega)
    | ref w p => trivial
theorem Tm.neat {t : Tm} (h : t.parts ≤ 400) : Neat (2 * t.dp + 3) t.data := neat_small _ t (Nat.lt_succ_self _) h
theorem neat_rl (r : Rl) : Neat 1 (rlD r) := Neat.tup3 (.int _) (.int _) (.int _)
theorem neat_sch {s : Sch} (h1 : s.length ≤ 400) (h2 : ∀ st ∈ s, st.2.length ≤ 400) : Neat 5 (schD s) := by
  refine (Neat.tup (k := 3) (fun d hd => ?_) (by rw [List.length_map]; exact h1)).mono (by omega)
  obtain ⟨st, hst, rfl⟩ := List.mem_map.mp hd
  refine Neat.tup2 ((Neat.bool _).mono (Nat.zero_le _)) ?_
  refine Neat.tup (k := 1) (fun d hd => ?_) (by rw [List.length_map]; exact h2 st hst)
  obtain ⟨r, _, rfl⟩ := List.mem_map.mp hd
  exact neat_rl r
theorem neat_row {k : Nat} {r : List TCh} (hl : r.length ≤ 400) (h : ∀ c ∈ r, Neat k c.2.data) : Neat (k + 2) (trowD r) := .tup (fun d hd => by
  obtain ⟨c, hc, rfl⟩ := List.mem_map.mp hd
  exact Neat.tup2 ((Neat.int _).mono (Nat.zero_le _)) (h c hc)) (by rw [List.length_map]; exact hl)
/-! ### what is spoilt -/
def noCh (d : PyData) : Prop := ∀ looks, choicesD d looks = false
theorem noCh_tup {a : PyData} {ds : List PyData} (h : tupOfD a 2 = false) : noCh (.tuple (a :: ds)) := fun looks => by
  show (!(a :: ds).isEmpty && (tupOfD a 2 && ds.all (tupOfD · 2)) && _ && _) = false
  rw [h, Bool.false_and, Bool.and_false, Bool.false_and, Bool.false_and]
theorem noCh_prt (p : Prt) : noCh (prtD p) := by cases p <;> exact noCh_tup rfl
/-- an end, right or wrong: no tuple of rows of choices -/
def endish (d : PyData) : Prop := ∀ ds, d = .tuple ds → ∀ x ∈ ds, noCh x
theorem endish_tm (t : Tm) : endish t.data := fun ds e x hx => by
  have e' : t.ts = ds := by injection e
  rw [← e', Tm.ts_prts] at hx
  obtain ⟨p, _, rfl⟩ := List.mem_map.mp hx
  exact noCh_prt p
theorem endish_no {c e : PyData} (h : endish e) (lk : Nat) : stateTD (.tuple [c, e]) lk = false := by
  cases e with
  | tuple ds =>
    show (decide (ds.length = 5) && ds.all (choicesD · lk)) = false
    by_cases h5 : ds.length = 5
    · match ds, h5 with
      | x :: r, _ =>
        rw [List.all_cons, h _ rfl x (List.mem_cons_self ..) lk, Bool.false_and, Bool.and_false]
    · rw [decide_eq_false h5]; rfl
  | _ => rfl
def badPart (n : Nat) (mf : Bool) (p : PyData) : Prop := tmP p n mf 1 = false ∧ noCh p ∧ Neat 5 p
def badEnd (n : Nat) (d : PyData) : Prop := tmF d n false 1 = false ∧ endish d ∧ Neat 12 d
theorem tmAll_bad {n : Nat} {mf : Bool} {lv : Nat} {p : PyData} : ∀ {ps : List PyData}, p ∈ ps → tmP p n mf lv = false → tmAll ps n mf lv = false
  | q :: ps, h, hp => by
    rw [tmAll]
    rcases List.mem_cons.mp h with rfl | h
    · rw [hp]; rfl
    · rw [tmAll_bad h hp, Bool.and_false]
theorem badEnd_tup {n : Nat} {ds : List PyData} {p : PyData} (hp : badPart n false p) (hm : p ∈ ds) (he : ∀ x ∈ ds, noCh x) (hn : Neat 12 (.tuple ds)) : badEnd n (.tuple ds) := by
  refine ⟨?_, fun ds' e x hx => he x (by injection e with e; rw [e]; exact hx), hn⟩
  rw [tmF, tmAll_bad hm hp.1, Bool.and_false]
def badRow (lk n : Nat) (d : PyData) : Prop := (choicesD d lk = false ∨ ∃ r : List Ch, d = rowCD r ∧ ∃ c ∈ r, tmF c.2 n true 1 = false) ∧ Neat 20 d
def badChs (lk n : Nat) (d : PyData) : Prop := ((∀ cs, d ≠ .tuple cs) ∨ ∃ cs, d = .tuple cs ∧ (cs.length ≠ 5 ∨ ∃ c ∈ cs, badRow lk n c)) ∧ Neat 30 d
def badTS (lk n : Nat) (st : PyData) : Prop := stateTD st lk = false ∨ wForm n (waits [st0Of st]) = false
theorem badTS_end {lk n : Nat} {e c : PyData} (h : badEnd n e) : badTS lk n (.tuple [e, c]) := by
  cases c with
  | tuple cs =>
    right
    show wForm n (waits [(e, _)]) = false
    unfold waits wForm
    show (tmF e n false 1 && _) = false
    rw [h.1]; rfl
  | _ => left; rfl
theorem badTS_chs {lk n : Nat} {e c : PyData} (h : badChs lk n c) : badTS lk n (.tuple [e, c]) := by
  obtain ⟨hh, _⟩ := h
  rcases hh with k | ⟨cs, rfl, k⟩
  · left
    cases c with
    | tuple cs => exact absurd rfl (k cs)
    | _ => rfl
  · by_cases h5 : cs.length = 5
    case neg =>
      left
      show (decide (cs.length = 5) && _) = false
      rw [decide_eq_false h5]; rfl
    rcases k with k | ⟨c, hc, hb, _⟩
    · exact absurd h5 k
    cases hall : cs.all (choicesD · lk) with
    | false =>
      left
      show (decide (cs.length = 5) && cs.all (choicesD · lk)) = false
      rw [hall, Bool.and_false]
    | true =>
      right
      rcases hb with hb | ⟨r, rfl, ch, hch, hb⟩
      · have := List.all_eq_true.mp hall c hc
        rw [hb] at this; cases this
      · obtain ⟨rs, rfl, _⟩ := rows_of_all hall
        have e1 : st0Of (.tuple [e, .tuple (rs.map rowCD)]) = (e, rs) := st0Of_st0D (e, rs)
        rw [e1]
        unfold waits wForm
        rw [Bool.eq_false_iff]
        intro z
        have z' := List.all_eq_true.mp z (ch.2, 1, true) (by
          refine List.mem_append.mpr (.inr (List.mem_flatMap.mpr ⟨(e, rs), by simp, List.mem_map.mpr ⟨ch, ?_, rfl⟩⟩))
          obtain ⟨r', hr', er⟩ := List.mem_map.mp hc
          have : r' = r := by
            have e2 : r'.map chD = r.map chD := by injection er
            have inj : ∀ (a b : List Ch), a.map chD = b.map chD → a = b := fun a => by
              induction a with
              | nil => intro b h; cases b with
                | nil => rfl
                | cons => cases h
              | cons x a ih => intro b h; cases b with
                | nil => cases h
                | cons y b =>
                  injection h with h1 h2
                  obtain ⟨x1, x2⟩ := x
                  obtain ⟨y1, y2⟩ := y
                  injection h1 with h1
                  injection h1 with h3 h4
                  injection h4 with h4
                  cases h3; cases h4
                  rw [ih b h2]
            exact inj _ _ e2
          subst this
          exact List.mem_flatten.mpr ⟨r', hr', hch⟩)
        rw [hb] at z'; cases z'
theorem trans_bad {lk : Sch} {ss : List PyData} {st : PyData} (hm : st ∈ ss) (h : badTS lk.length ss.length st) : transD (.tuple [schD lk, .tuple ss]) = false := by
  rw [trans_eq, Bool.eq_false_iff]
  intro hc
  simp only [Bool.and_eq_true] at hc
  have h1 := List.all_eq_true.mp hc.1.2 st hm
  rcases h with z | z
  · rw [z] at h1; cases h1
  · have h2 := hc.2
    unfold goalT at h2
    rw [Bool.and_eq_true] at h2
    have : wForm ss.length (waits [st0Of st]) = true := by
      have h3 := h2.1
      unfold wForm at h3 ⊢
      rw [List.all_eq_true] at h3 ⊢
      intro p hp
      refine h3 p ?_
      unfold waits at hp ⊢
      rcases List.mem_append.mp hp with hp | hp
      · rw [List.map_singleton, List.mem_singleton] at hp
        exact List.mem_append.mpr (.inl (List.mem_map.mpr ⟨st0Of st, List.mem_map.mpr ⟨st, hm, rfl⟩, hp.symm⟩))
      · obtain ⟨s, hs, hp⟩ := List.mem_flatMap.mp hp
        rw [List.mem_singleton.mp hs] at hp
        exact List.mem_append.mpr (.inr (List.mem_flatMap.mpr ⟨st0Of st, List.mem_map.mpr ⟨st, hm, rfl⟩, hp⟩))
    rw [z] at this; cases this
/-! lists drawn from, all of one kind -/
section
variable {K : PySem.W.Frag} {σ : L2.St} {H0 : Hp} {bx cl : Addr}
def BA (K : PySem.W.Frag) (σ : L2.St) (H0 : Hp) (bx cl : Addr) (t : TA) (k : Nat) (P : PyData → Prop) : Prop := BXs K σ H0 bx cl t (fun ds => ds.length = k ∧ ∀ d ∈ ds, P d)
theorem BA.nil {P : PyData → Prop} : BA K σ H0 bx cl tNil 0 P := fun H1 Q g hB k => BXs.nil H1 Q g hB fun H2 xs ds g2 hB2 hx hp e => k H2 xs ds g2 hB2 hx hp ⟨by rw [e]; rfl, by rw [e]; simp⟩
theorem BA.cons {t : TE} {ts : TA} {P : PyData → Prop} {k : Nat} (h : BX K σ H0 bx cl t P) (hs : BA K σ H0 bx cl ts k P) : BA K σ H0 bx cl (tCons t ts) (k + 1) P := fun H1 Q g hB kk =>
  BXs.cons h hs H1 Q g hB fun H2 xs ds g2 hB2 hx hp ⟨d, ds', e, h1, h2, h3⟩ => kk H2 xs ds g2 hB2 hx hp ⟨by rw [e, List.length_cons, h2], fun x hm => by
    rw [e] at hm
    rcases List.mem_cons.mp hm with rfl | hm
    · exact h1
    · exact h3 x hm⟩
theorem BX.pickA {bi : Nat} {a : TA} {k : Nat} {P : PyData → Prop} (hb : σ[bi]? = some (some (.ref bx))) (ha : BA K σ H0 bx cl a k P) (h0 : 0 < k) (h1 : k ≤ 1000) : BX K σ H0 bx cl (tCall (spPickD K) [] E0 (tCons (tVar bi) (tCons (tLst a) tNil))) P :=
  (BX.pickL hb ha (fun ds h => by rw [h.1]; exact ⟨h0, h1⟩)).imp fun d ⟨ds, h, hd⟩ => h.2 d hd
/-- data that is there, with a promise -/
theorem BX.dx {t : TE} {d : PyData} {P : PyData → Prop} (hB0 : BoxAt H0 bx cl) (h : ∀ H1, Gr [bx] H0 H1 → BoxAt H1 bx cl → DX K σ H1 t d) (hp : pure1 d = true) (hP : P d) : BX K σ H0 bx cl t P := fun H1 Q g hB k =>
  h H1 g hB H1 Q (Gr.refl _) fun H2 x g2 hx => k H2 x d g2.any (hB.gr g2) hx hp hP
/-- [:n], [n:] of a tuple, the n an int that is reckoned without the box -/
theorem BX.cutFrom {a b : TE} {n : Nat} {A : List PyData → Prop} (ha : BX K σ H0 bx cl a (fun d => ∃ ds, d = .tuple ds ∧ A ds)) (hb : ∀ (H1 : Hp) (Q : VK), Q (.int (n : Int)) H1 → b σ H1 Q) : BX K σ H0 bx cl (tSl (rSlA K) a (tPart b) tNoPart) (fun d => ∃ ds, d = .tuple (ds.drop n) ∧ A ds) := fun H1 Q g hB k =>
  ha H1 _ g hB fun H2 x d g2 hB2 hx hp ⟨ds, e, hA⟩ => hb H2 _ ⟨_, rfl, by
    subst e
    refine drop_data (k := n) rfl hx fun H3 y g3 hy => k H3 y _ (g2.trans g3.any) (hB2.gr g3) hy ?_ ⟨ds, rfl, hA⟩
    have h1 : pureAll ds = true := hp
    exact pureAll_iff.mpr fun z hz => pureAll_iff.mp h1 z (List.mem_of_mem_drop hz)⟩
end
end LW
set_option maxHeartbeats 4000000
namespace LW
open PySem PySem.Spec PyProof.Rows L2
section
variable {P : Program} {w : World} {K : PySem.W.Frag} {mg : Str → Option Value} {base : Heap} {f : Addr} {fd : FuncData}
abbrev n_law_bad_part : List Str := ["box", "many", "end", "parts"]
theorem sc_law_bad_part : FnScope n_law_bad_part ["box", "many", "end"] (defScope s__law_bad_part) := ⟨rfl, rfl, rfl, by decide +kernel, rfl, by decide +kernel, by decide +kernel⟩
def partsL (n : Nat) : List PyData := [.tuple [.str "node", .int 5, .tuple []], .tuple [.str "node", .int (-1), .tuple []], .tuple [.str "node", .bool true, .tuple []], .tuple [.str "node", .int 0], .tuple [.str "node", .int 0, .none], .tuple [.str "node", .int 0, .int 0], .tuple [.str "node", .int 0, .tuple [.str "in", .int 0]], .tuple [.str "in", .int (n : Int)], .tuple [.str "in", .int (-1)], .tuple [.str "in", .none], .tuple [.str "next", .int (n : Int)], .tuple [.str "next", .bool true], .tuple [.str "out", .int 0], .tuple [.str "in"], .tuple [.str "next", .int 0, .int 0], .tuple [], .none, .int 0, .str "in", .tuple [.int 0, .str "in"], .tuple [.str "node", .str "0", .tuple []], .tuple [.str "node", .int 0, .tuple [.tuple [.str "in", .int (n : Int)]]], .tuple [.str "node", .int 1, .tuple [.none]]]
def moreL : List PyData := [.tuple [.str "in", .int 0], .tuple [.str "next", .int 0], .tuple [.str "node", .int 0, .tuple [.tuple [.str "next", .int 0]]]]
theorem partsL_bad {n : Nat} {mf : Bool} : ∀ d ∈ partsL n, badPart n mf d := by
  intro d hd
  simp only [partsL, List.mem_cons, List.not_mem_nil, or_false] at hd
  rcases hd with rfl | rfl | rfl | rfl | rfl | rfl | rfl | rfl | rfl | rfl | rfl | rfl | rfl | rfl | rfl | rfl | rfl | rfl | rfl | rfl | rfl | rfl | rfl
  all_goals refine ⟨by first | (simp [tmP, tmF, tmAll, isStr, belowD]; done) | (simp [tmP, tmF, tmAll, isStr, belowD]; intro _ h; exact absurd h (by decide)), ?_, ?_, ?_, ?_⟩
  all_goals first
    | exact noCh_tup rfl
    | exact fun _ => rfl
    | (simp [PyData.canLay0, PyData.canLayAll0, PyData.strOk]; done)
    | (simp [PyData.canLay0, PyData.canLayAll0, PyData.strOk]; decide)
    | (simp [PyData.depth, PyData.depthAll]; done)
    | (simp [wdB, wdAll]; done)
theorem moreL_bad {n : Nat} : ∀ d ∈ moreL, badPart n false d := by
  intro d hd
  simp only [moreL, List.mem_cons, List.not_mem_nil, or_false] at hd
  rcases hd with rfl | rfl | rfl
  all_goals refine ⟨by first | (simp [tmP, tmF, tmAll, isStr, belowD]; done) | (simp [tmP, tmF, tmAll, isStr, belowD]; intro _ h; exact absurd h (by decide)), ?_, ?_, ?_, ?_⟩
  all_goals first
    | exact noCh_tup rfl
    | (simp [PyData.canLay0, PyData.canLayAll0, PyData.strOk]; decide)
    | (simp [PyData.depth, PyData.depthAll]; done)
    | (simp [wdB, wdAll]; done)
def spBadPart (K : PySem.W.Frag) : Sp := fun vs H Q _ => ∃ (bx cl : Addr) (n : Nat) (e : Bool), vs = [.ref bx, natV n, .bl e] ∧ BoxAt H bx cl ∧ ∀ d x H', badPart n (!e) d → pure1 d = true → Gr [bx] H H' → BoxAt H' bx cl → Dp K H' x d → Q x H'
theorem pure_parts (n : Nat) : pureAll (partsL n) = true := rfl
theorem pure_more : pureAll moreL = true := rfl
theorem ok_badPart (F : Fun K "_law_bad_part" "_law_bad_part" s__law_bad_part f fd) (f_pickD : Fn P w K mg base CX0 2 "_law_pick" ["box", "menu"] (spPickD K)) : FnOk P w K mg base CX0 3 f fd ["box", "many", "end"] (spBadPart K) := by
  refine F.ok sc_law_bad_part (fun vs H Q E h => ?_) (fun cdv A outer s H vs Q E hr h => ?_)
  · obtain ⟨_, _, _, _, rfl, _⟩ := h; rfl
  obtain ⟨bx, cl, n, e, rfl, hB, q⟩ := h
  have nd := sc_law_bad_part.nd
  refine ⟨_, pss_cons (ps_set (i := 3) nd rfl (.inl rfl) (pe_lst (pa_cons (pe_tup (pa_cons pe_str (pa_cons pe_int (pa_cons (pe_tup pa_nil) pa_nil)))) (pa_cons (pe_tup (pa_cons pe_str (pa_cons (pe_un un_neg pe_int) (pa_cons (pe_tup pa_nil) pa_nil)))) (pa_cons (pe_tup (pa_cons pe_str (pa_cons pe_bl (pa_cons (pe_tup pa_nil) pa_nil)))) (pa_cons (pe_tup (pa_cons pe_str (pa_cons pe_int pa_nil))) (pa_cons (pe_tup (pa_cons pe_str (pa_cons pe_int (pa_cons pe_non pa_nil)))) (pa_cons (pe_tup (pa_cons pe_str (pa_cons pe_int (pa_cons pe_int pa_nil)))) (pa_cons (pe_tup (pa_cons pe_str (pa_cons pe_int (pa_cons (pe_tup (pa_cons pe_str (pa_cons pe_int pa_nil))) pa_nil)))) (pa_cons (pe_tup (pa_cons pe_str (pa_cons (pv 1) pa_nil))) (pa_cons (pe_tup (pa_cons pe_str (pa_cons (pe_un un_neg pe_int) pa_nil))) (pa_cons (pe_tup (pa_cons pe_str (pa_cons pe_non pa_nil))) (pa_cons (pe_tup (pa_cons pe_str (pa_cons (pv 1) pa_nil))) (pa_cons (pe_tup (pa_cons pe_str (pa_cons pe_bl pa_nil))) (pa_cons (pe_tup (pa_cons pe_str (pa_cons pe_int pa_nil))) (pa_cons (pe_tup (pa_cons pe_str pa_nil)) (pa_cons (pe_tup (pa_cons pe_str (pa_cons pe_int (pa_cons pe_int pa_nil)))) (pa_cons (pe_tup pa_nil) (pa_cons pe_non (pa_cons pe_int (pa_cons pe_str (pa_cons (pe_tup (pa_cons pe_int (pa_cons pe_str pa_nil))) (pa_cons (pe_tup (pa_cons pe_str (pa_cons pe_str (pa_cons (pe_tup pa_nil) pa_nil)))) (pa_cons (pe_tup (pa_cons pe_str (pa_cons pe_int (pa_cons (pe_tup (pa_cons (pe_tup (pa_cons pe_str (pa_cons (pv 1) pa_nil))) pa_nil)) pa_nil)))) (pa_cons (pe_tup (pa_cons pe_str (pa_cons pe_int (pa_cons (pe_tup (pa_cons pe_non pa_nil)) pa_nil)))) pa_nil)))))))))))))))))))))))))
    (Evl.pss_cut (ps_if (pt_val (pv 2))
      (pss_one (ps_set (i := 3) nd rfl (.inl rfl) (pe_op op_cat (pv 3) (pe_lst (pa_cons (pe_tup (pa_cons pe_str (pa_cons pe_int pa_nil))) (pa_cons (pe_tup (pa_cons pe_str (pa_cons pe_int pa_nil))) (pa_cons (pe_tup (pa_cons pe_str (pa_cons pe_int (pa_cons (pe_tup (pa_cons (pe_tup (pa_cons pe_str (pa_cons pe_int pa_nil))) pa_nil)) pa_nil)))) pa_nil)))))))
      pss_nil)
    (pss_one (ps_ret (pe_fn f_pickD hr rfl pass0 (pa_cons (pv 0) (pa_cons (pv 3) pa_nil)))))), ?_⟩

  refine set_lst (K := K) (ds := partsL n) (.cons (.tup (.cons .str (.cons .int (.cons (.tup .nil (by simp)) .nil))) (by simp)) (.cons (.tup (.cons .str (.cons (.nx (.neg .c)) (.cons (.tup .nil (by simp)) .nil))) (by simp)) (.cons (.tup (.cons .str (.cons .bl (.cons (.tup .nil (by simp)) .nil))) (by simp)) (.cons (.tup (.cons .str (.cons .int .nil)) (by simp)) (.cons (.tup (.cons .str (.cons .int (.cons .non .nil))) (by simp)) (.cons (.tup (.cons .str (.cons .int (.cons .int .nil))) (by simp)) (.cons (.tup (.cons .str (.cons .int (.cons (.tup (.cons .str (.cons .int .nil)) (by simp)) .nil))) (by simp)) (.cons (.tup (.cons .str (.cons (.var (.int _) rfl) .nil)) (by simp)) (.cons (.tup (.cons .str (.cons (.nx (.neg .c)) .nil)) (by simp)) (.cons (.tup (.cons .str (.cons .non .nil)) (by simp)) (.cons (.tup (.cons .str (.cons (.var (.int _) rfl) .nil)) (by simp)) (.cons (.tup (.cons .str (.cons .bl .nil)) (by simp)) (.cons (.tup (.cons .str (.cons .int .nil)) (by simp)) (.cons (.tup (.cons .str .nil) (by simp)) (.cons (.tup (.cons .str (.cons .int (.cons .int .nil))) (by simp)) (.cons (.tup .nil (by simp)) (.cons .non (.cons .int (.cons .str (.cons (.tup (.cons .int (.cons .str .nil)) (by simp)) (.cons (.tup (.cons .str (.cons .str (.cons (.tup .nil (by simp)) .nil))) (by simp)) (.cons (.tup (.cons .str (.cons .int (.cons (.tup (.cons (.tup (.cons .str (.cons (.var (.int _) rfl) .nil)) (by simp)) .nil) (by simp)) .nil))) (by simp)) (.cons (.tup (.cons .str (.cons .int (.cons (.tup (.cons .non .nil) (by simp)) .nil))) (by simp)) .nil))))))))))))))))))))))) (by simp [partsL]) fun H2 p hL => ?_
  refine ⟨fun σ H' => ∃ (p' : Addr) (ds : List PyData), σ = [some (.ref bx), some (natV n), some (.bl e), some (.ref p')] ∧ LsD K H H' p' ds ∧ pureAll ds = true ∧ 0 < ds.length ∧ ds.length ≤ 30 ∧ ∀ d ∈ ds, badPart n (!e) d, ?_, ?_⟩
  · refine ⟨_, rfl, _, rfl, ?_⟩
    cases e with
    | false => exact iteF ⟨p, partsL n, rfl, hL, pure_parts n, by simp [partsL], by simp [partsL], partsL_bad⟩
    | true =>
      refine iteT ⟨_, rfl, ?_⟩
      refine lst_data (K := K) (σ := [some (.ref bx), some (natV n), some (.bl true), some (.ref p)]) (H0 := H2) (ds := moreL) (.cons (.tup (.cons .str (.cons .int .nil)) (by simp)) (.cons (.tup (.cons .str (.cons .int .nil)) (by simp)) (.cons (.tup (.cons .str (.cons .int (.cons (.tup (.cons (.tup (.cons .str (.cons .int .nil)) (by simp)) .nil) (by simp)) .nil))) (by simp)) .nil))) (Gr.refl _) (by simp [moreL]) fun H3 p2 hL2 => ?_
      obtain ⟨xs, e1, hx⟩ := (hL.step hL2.gr).ex
      obtain ⟨ys, e2, hy⟩ := hL2.ex
      have lx := hx.length
      have ly := hy.length
      refine ⟨p, p2, xs, ys, rfl, rfl, e1, e2, Nat.le_of_lt (small4 (by simp [partsL, moreL] at lx ly; omega)), fun p3 n3 => ?_⟩
      have g3 := Gr.new (m := []) (o := .lst (xs ++ ys)) n3
      refine ⟨p3, partsL n ++ moreL, rfl, ⟨(hL.step hL2.gr).gr.free _ n3, (hL.step hL2.gr).gr.trans g3, xs ++ ys, upd_same, DpAll.append (hx.gr g3) (hy.gr g3)⟩, by rw [pureAll_app, pure_parts, pure_more]; rfl, by simp [partsL], by simp [partsL, moreL], fun d hd => ?_⟩
      rcases List.mem_append.mp hd with hd | hd
      · exact partsL_bad d hd
      · exact moreL_bad d hd
  rintro σ H3 ⟨p', ds, rfl, hL, hp, h0, h1, hb⟩
  obtain ⟨xs, e1, hx⟩ := hL.ex
  have hB3 := hB.gr hL.gr
  have nb : p' ≠ bx := fun z => by
    obtain ⟨ys, e⟩ := hB.lst bx (by simp)
    rw [← z, hL.new] at e; cases e
  refine ⟨_, rfl, _, rfl, bx, cl, p', xs, ds, rfl, hB3, nb, e1, hx, hp, h0, by omega, fun d x H4 hd hxd g4 hB4 => ?_⟩
  exact q d x H4 (hb d hd) (pureAll_iff.mp hp d hd) (hL.gr.any.trans g4) hB4 hxd
end
end LW
set_option maxHeartbeats 4000000
namespace LW
open PySem PySem.Spec PyProof.Rows L2
theorem trans_noS {l ss : List PyData} (h : schemaD (.tuple l) = false) : transD (.tuple [.tuple l, .tuple ss]) = false := by
  unfold transD
  simp only [h, Bool.false_and]
theorem chs_mem {ds : List PyData} {d : PyData} {lk : Nat} (hm : d ∈ ds) (h : tupOfD d 2 = false) : choicesD (.tuple ds) lk = false := by
  have : ds.all (tupOfD · 2) = false := by
    rw [Bool.eq_false_iff]
    intro z
    have := List.all_eq_true.mp z d hm
    rw [h] at this; cases this
  unfold choicesD
  simp only [this, Bool.and_false, Bool.false_and]
theorem chs_last {ds : List PyData} {l x : PyData} {lk : Nat} (h : PyData.eqv l (.int (-1)) = false) : choicesD (.tuple (ds ++ [.tuple [l, x]])) lk = false := by
  unfold choicesD
  simp only [List.getLast?_append, List.getLast?_singleton, Option.some_or, h, Bool.and_false, Bool.false_and]
theorem chs_front {ds es : List PyData} {e l x : PyData} {lk : Nat} (h : belowD l lk = false) : choicesD (.tuple (ds ++ .tuple [l, x] :: e :: es)) lk = false := by
  have hd : (ds ++ .tuple [l, x] :: e :: es).dropLast = ds ++ .tuple [l, x] :: (e :: es).dropLast := by
    rw [List.dropLast_append_of_ne_nil (by simp), List.dropLast_cons_of_ne_nil (by simp)]
  have : ((ds ++ .tuple [l, x] :: e :: es).dropLast.all (fun c => match c with | .tuple [l, _] => belowD l lk | _ => false)) = false := by
    rw [hd, List.all_append, List.all_cons]
    show (_ && (belowD l lk && _)) = false
    rw [h, Bool.false_and, Bool.and_false]
  unfold choicesD
  rw [Bool.eq_false_iff]
  intro z
  rw [Bool.and_eq_true] at z
  exact Bool.noConfusion (this.symm.trans z.2)
theorem Neat.app {k : Nat} {A B : List PyData} (hA : Neat k (.tuple A)) (hB : Neat k (.tuple B)) (hl : A.length + B.length ≤ 400) : Neat (k + 1) (.tuple (A ++ B)) := .tup (fun d hd => by
  rcases List.mem_append.mp hd with hd | hd
  · exact hA.mem hd
  · exact hB.mem hd) (by rw [List.length_append]; exact hl)
theorem Neat.take {k n : Nat} {A : List PyData} (hA : Neat k (.tuple A)) : Neat (k + 1) (.tuple (A.take n)) := .tup (fun d hd => hA.mem (List.mem_of_mem_take hd)) (by have := hA.len; rw [List.length_take]; omega)
theorem Neat.drop {k n : Nat} {A : List PyData} (hA : Neat k (.tuple A)) : Neat (k + 1) (.tuple (A.drop n)) := .tup (fun d hd => hA.mem (List.mem_of_mem_drop hd)) (by have := hA.len; rw [List.length_drop]; omega)
theorem Neat.one {k : Nat} {a : PyData} (h : Neat k a) : Neat (k + 1) (.tuple [a]) := .tup (fun d hd => by rw [List.mem_singleton.mp hd]; exact h) (by simp)
theorem Neat.nil : Neat 1 (.tuple []) := .tup (k := 0) (by simp) (by simp)
theorem endish_no_tup {d : PyData} (h : ∀ ds, d ≠ .tuple ds) : endish d := fun ds e => absurd e (h ds)
theorem Neat.nil5 : Neat 5 (.tuple []) := Neat.nil.mono (by omega)
section
variable {lk n : Nat} {M : List PyData}
theorem row_nil : badRow lk n (.tuple []) := ⟨.inl rfl, Neat.nil.mono (by omega)⟩
theorem row_front {l x : PyData} (hM : Neat 9 (.tuple M)) (ne : M ≠ []) (len : M.length ≤ 3) (h : belowD l lk = false) (hn : Neat 8 (.tuple [l, x])) : badRow lk n (.tuple ([.tuple [l, x]] ++ M)) := by
  refine ⟨.inl ?_, (Neat.app (hn.one) hM (by simp; omega)).mono (by omega)⟩
  cases M with
  | nil => exact absurd rfl ne
  | cons e es => exact chs_front (ds := []) h
theorem row_frontM {d : PyData} (hM : Neat 9 (.tuple M)) (len : M.length ≤ 3) (h : tupOfD d 2 = false) (hn : Neat 8 d) : badRow lk n (.tuple ([d] ++ M)) :=
  ⟨.inl (chs_mem (d := d) (by simp) h), (Neat.app (hn.one) hM (by simp; omega)).mono (by omega)⟩
theorem rowB_last {l x : PyData} (hM : Neat 10 (.tuple M)) (len : M.length ≤ 3) (h : PyData.eqv l (.int (-1)) = false) (hn : Neat 9 (.tuple [l, x])) : badRow lk n (.tuple (M ++ [.tuple [l, x]])) :=
  ⟨.inl (chs_last h), (Neat.app hM (hn.one) (by simp; omega)).mono (by omega)⟩
theorem rowB_lastM {d : PyData} (hM : Neat 10 (.tuple M)) (len : M.length ≤ 3) (h : tupOfD d 2 = false) (hn : Neat 9 d) : badRow lk n (.tuple (M ++ [d])) :=
  ⟨.inl (chs_mem (d := d) (by simp) h), (Neat.app hM (hn.one) (by simp; omega)).mono (by omega)⟩
theorem row_twice {r : List TCh} {ini : List TCh} {t : Tm} (e : r = ini ++ [(-1, t)]) (hM : Neat 9 (.tuple (r.map tchD))) (len : r.length ≤ 3) : badRow lk n (.tuple (r.map tchD ++ r.map tchD)) := by
  refine ⟨.inl ?_, (Neat.app hM hM (by rw [List.length_map]; omega)).mono (by omega)⟩
  have e2 : r.map tchD ++ r.map tchD = ini.map tchD ++ .tuple [.int (-1), t.data] :: (r.map tchD) := by
    conv => lhs; arg 1; rw [e]
    rw [List.map_append, List.append_assoc]; rfl
  rw [e2]
  cases h : r.map tchD with
  | nil =>
    rw [e] at h
    simp at h
  | cons a es => exact chs_front (by simp [belowD])
theorem row_choice {ini : List TCh} {x : PyData} (hM : Neat 10 (.tuple (ini.map tchD))) (len : ini.length ≤ 3) (hn : Neat 9 x) (h : tmF x n true 1 = false) : badRow lk n (.tuple (ini.map tchD ++ [.tuple [.int (-1), x]])) := by
  have h2 : Neat 10 (.tuple [.int (-1), x]) := Neat.tup2 ((Neat.int (-1)).mono (by omega)) hn
  refine ⟨.inr ⟨ini.map (fun c => ((.int c.1, c.2.data) : Ch)) ++ [(.int (-1), x)], ?_, (.int (-1), x), by simp, h⟩, (Neat.app (hM.mono (by omega : 10 ≤ 11)) h2.one (by simp; omega)).mono (by omega)⟩
  show _ = PyData.tuple (List.map chD _)
  rw [List.map_append, List.map_map]; rfl
theorem chs_row {cs es : List PyData} {d : PyData} (h : badRow lk n d) (hc : Neat 21 (.tuple cs)) (he : Neat 22 (.tuple es)) (lc : cs.length + es.length ≤ 100) : badChs lk n (.tuple (cs ++ [d] ++ es)) :=
  ⟨.inr ⟨_, rfl, .inr ⟨d, by simp, h⟩⟩, (Neat.app (Neat.app hc h.2.one (by simp; omega)) he (by simp; omega)).mono (by omega)⟩
theorem chs_len {ds : List PyData} (h : ds.length ≠ 5) (hn : Neat 30 (.tuple ds)) : badChs lk n (.tuple ds) := ⟨.inr ⟨ds, rfl, .inl h⟩, hn⟩
theorem chs_no {d : PyData} (h : ∀ ds, d ≠ .tuple ds) (hn : Neat 30 d) : badChs lk n d := ⟨.inl h, hn⟩
theorem end_no {d : PyData} (h : ∀ ds, d ≠ .tuple ds) (h2 : tmF d n false 1 = false) (hn : Neat 12 d) : badEnd n d := ⟨h2, endish_no_tup h, hn⟩
theorem end_mem {A B : List PyData} {d : PyData} (h : badPart n false d) (hA : ∀ x ∈ A, noCh x) (hB : ∀ x ∈ B, noCh x) (hAn : Neat 5 (.tuple A)) (hBn : Neat 5 (.tuple B)) (len : A.length + B.length ≤ 100) : badEnd n (.tuple (A ++ [d] ++ B)) := by
  refine badEnd_tup h (by simp) (fun x hx => ?_) ((Neat.app (Neat.app (hAn.mono (by omega : 5 ≤ 6)) h.2.2.one (by simp; omega)) (hBn.mono (by omega)) (by simp; omega)).mono (by omega))
  rcases List.mem_append.mp hx with hx | hx
  · rcases List.mem_append.mp hx with hx | hx
    · exact hA x hx
    · rw [List.mem_singleton.mp hx]; exact h.2.1
  · exact hB x hx
end
section
variable {K : PySem.W.Frag} {σ : L2.St} {H0 : Hp} {bx cl : Addr}
theorem BX.badPart {bi : Nat} {a : TE} {n : Nat} {e : Bool} (hb : σ[bi]? = some (some (.ref bx))) (ha : ∀ (H1 : Hp) (Q : VK), Gr [bx] H0 H1 → Q (natV n) H1 → a σ H1 Q) : BX K σ H0 bx cl (tCall (spBadPart K) [] E0 (tCons (tVar bi) (tCons a (tCons (tC (.bl e)) tNil)))) (badPart n (!e)) := fun H1 Q g hB k =>
  ⟨_, hb, ha H1 _ g ⟨bx, cl, n, e, rfl, hB, fun d x H' hd hp g' hB' hx => k H' x d g' hB' hx hp hd⟩⟩
theorem NX.eq {t : TE} {i j : Int} (h : NX K σ H0 t i) (e : i = j) : NX K σ H0 t j := e ▸ h
theorem BXs.setL {a : TA} {Ps : List PyData → Prop} {i : Nat} {rest : TS} {D : Ends} (h : BXs K σ H0 bx cl a Ps) (hB : BoxAt H0 bx cl) (hl : ∀ ds, Ps ds → ds.length ≤ 1000) (k : ∀ H2 p xs ds, Gr [bx] H0 H2 → BoxAt H2 bx cl → H2 p = some (.lst xs) → p ≠ bx → DpAll K H2 xs ds → pureAll ds = true → Ps ds → rest D (σ.set i (some (.ref p))) H2) : tSeq (tAsg (tLst a) (gName i)) rest D σ H0 := by
  show tLst a σ H0 (fun x H1 => rest D (σ.set i (some x)) H1)
  refine h H0 _ (Gr.refl _) hB fun H2 xs ds g2 hB2 hxs hps hPs => ⟨by rw [hxs.length]; exact Nat.le_of_lt (small4 (by have := hl ds hPs; omega)), fun p np => ?_⟩
  have gp := Gr.new (m := []) (o := .lst xs) np
  exact k _ p xs ds (g2.trans gp.any) (hB2.gr gp) upd_same (hB2.ne np).1 (hxs.gr gp) hps hPs
theorem BX.one {a : TE} {A : PyData → Prop} (ha : BX K σ H0 bx cl a A) : BX K σ H0 bx cl (tTup (tCons a tNil)) (fun d => ∃ ds, d = .tuple ds ∧ ∃ x, ds = [x] ∧ A x) := (BX.tup1 ha).imp fun d ⟨x, e, h⟩ => ⟨_, e, x, rfl, h⟩
theorem BX.cutV {a : TE} {i n : Nat} {A : List PyData → Prop} (ha : BX K σ H0 bx cl a (fun d => ∃ ds, d = .tuple ds ∧ A ds)) (e : σ[i]? = some (some (natV n))) : BX K σ H0 bx cl (tSl (rSlA K) a tNoPart (tPart (tVar i))) (fun d => ∃ ds, d = .tuple ds ∧ ∃ es, ds = es.take n ∧ A es) :=
  (BX.cutTo (n := n) ha (fun H1 Q k => ⟨_, e, k⟩)).imp fun d ⟨es, e, h⟩ => ⟨_, e, es, rfl, h⟩
theorem BX.cutV1 {a : TE} {i n : Nat} {A : List PyData → Prop} (ha : BX K σ H0 bx cl a (fun d => ∃ ds, d = .tuple ds ∧ A ds)) (e : σ[i]? = some (some (natV n))) : BX K σ H0 bx cl (tSl (rSlA K) a (tPart (tOp (rI0 fun i j => .int (i + j)) (tVar i) (tC (.int 1)))) tNoPart) (fun d => ∃ ds, d = .tuple ds ∧ ∃ es, ds = es.drop (n + 1) ∧ A es) :=
  (BX.cutFrom (n := n + 1) ha (fun H1 Q k => ⟨_, e, _, _, rfl, rfl, k⟩)).imp fun d ⟨es, e, h⟩ => ⟨_, e, es, rfl, h⟩
theorem BX.catL {a b : TE} {A B : List PyData → Prop} (ha : BX K σ H0 bx cl a (fun d => ∃ ds, d = .tuple ds ∧ A ds)) (hb : BX K σ H0 bx cl b (fun d => ∃ ds, d = .tuple ds ∧ B ds)) (hl : ∀ ds es, A ds → B es → ds.length + es.length ≤ 4000) : BX K σ H0 bx cl (tOp (rCatA K) a b) (fun d => ∃ ds, d = .tuple ds ∧ ∃ xs ys, ds = xs ++ ys ∧ A xs ∧ B ys) :=
  (BX.cat ha hb hl).imp fun d ⟨xs, ys, e, h1, h2⟩ => ⟨_, e, xs, ys, rfl, h1, h2⟩
/-- ds[:n] + (x,) + ds[n + 1:] -/
theorem BX.swap {b : TE} {i j n : Nat} {ds : List PyData} {A : PyData → Prop} (ha : BX K σ H0 bx cl (tVar i) (fun d => ∃ es, d = .tuple es ∧ es = ds)) (e : σ[j]? = some (some (natV n))) (hb : BX K σ H0 bx cl b A) (hl : ds.length ≤ 1000) : BX K σ H0 bx cl (tOp (rCatA K) (tOp (rCatA K) (tSl (rSlA K) (tVar i) tNoPart (tPart (tVar j))) (tTup (tCons b tNil))) (tSl (rSlA K) (tVar i) (tPart (tOp (rI0 fun i j => .int (i + j)) (tVar j) (tC (.int 1)))) tNoPart)) (fun d => ∃ x, d = .tuple (ds.take n ++ [x] ++ ds.drop (n + 1)) ∧ A x) :=
  (BX.cat (BX.catL (BX.cutV ha e) (BX.one hb) (fun xs ys ⟨es, h1, h2⟩ ⟨x, h3, _⟩ => by rw [h1, h2, h3, List.length_take]; simp; omega)) (BX.cutV1 ha e) (fun xs ys ⟨_, _, h0, ⟨es, h1, h2⟩, x, h3, _⟩ ⟨es', h4, h5⟩ => by rw [h0, h1, h2, h3, h4, h5, List.length_append, List.length_take, List.length_drop]; simp; omega)).imp fun d ⟨xs, ys, e0, ⟨_, _, h0, ⟨es, h1, h2⟩, x, h3, hA⟩, es', h4, h5⟩ => ⟨x, by rw [e0, h0, h1, h2, h3, h4, h5], hA⟩
theorem BX.varT {i : Nat} {v : V} {ds : List PyData} (hB0 : BoxAt H0 bx cl) (hd : Dp K H0 v (.tuple ds)) (hp : pure1 (.tuple ds) = true) (e : σ[i]? = some (some v)) : BX K σ H0 bx cl (tVar i) (fun d => ∃ es, d = .tuple es ∧ es = ds) := (BX.var hB0 hd hp e).imp fun d e => ⟨_, e, rfl⟩
theorem BX.ofEq {t : TE} {d : PyData} {P : PyData → Prop} (h : BX K σ H0 bx cl t (· = d)) (hP : P d) : BX K σ H0 bx cl t P := h.imp fun x e => by rw [e]; exact hP
/-- _law_pick(box, l), a list of data that stands -/
theorem BX.pickLV {bi li : Nat} {p : Addr} {xs : List V} {ds : List PyData} {P : PyData → Prop} (hB0 : BoxAt H0 bx cl) (hb : σ[bi]? = some (some (.ref bx))) (hl : σ[li]? = some (some (.ref p))) (nb : p ≠ bx) (hL : H0 p = some (.lst xs)) (hx : DpAll K H0 xs ds) (hp : pureAll ds = true) (h0 : 0 < ds.length) (h1 : ds.length ≤ 1000) (hP : ∀ d ∈ ds, P d) : BX K σ H0 bx cl (tCall (spPickD K) [] E0 (tCons (tVar bi) (tCons (tVar li) tNil))) P := fun H1 Q g hB k =>
  ⟨_, hb, _, hl, bx, cl, p, xs, ds, rfl, hB, nb, g.lst (by simpa using nb) hL, dpAll_grm g hB0.lst _ _ hp hx, hp, h0, h1, fun d x H3 hd hx g3 hB3 => k H3 x d g3 hB3 hx (pureAll_iff.mp hp d hd) (hP d hd)⟩
end
end LW
set_option maxHeartbeats 4000000
namespace LW
open PySem PySem.Spec PyProof.Rows L2
section
variable {P : Program} {w : World} {K : PySem.W.Frag} {mg : Str → Option Value} {base : Heap} {f : Addr} {fd : FuncData}
abbrev n_law_spoilt : List Str := ["box", "m", "looks", "states", "at", "end", "choices", "sort", "label", "mine", "last", "bad", "template", "state"]
theorem sc_law_spoilt : FnScope n_law_spoilt ["box", "m"] (defScope s__law_spoilt) := ⟨rfl, rfl, rfl, by decide +kernel, rfl, by decide +kernel, by decide +kernel⟩
/-- what is handed over as none -/
def noTrans (d : PyData) : Prop := transD d = false ∧ Neat 40 d ∧ pure1 d = true
def spSpoiltT (K : PySem.W.Frag) : Sp := fun vs H Q _ => ∃ (bx cl : Addr) (v : V) (m : Trn), vs = [.ref bx, v] ∧ BoxAt H bx cl ∧ Dp K H v m.data ∧ goodTrn 3 m ∧ ∀ d x H', noTrans d → Gr [bx] H H' → BoxAt H' bx cl → Dp K H' x d → Q x H'
theorem state_three (a b c : PyData) {lk : Nat} : stateTD (.tuple [a, b, c]) lk = false := by cases b <;> rfl
theorem lay_empty : (PyData.str "").canLay0 = true := by simp [PyData.canLay0, PyData.strOk]; decide
theorem trow_pure (r : List TCh) : pure1 (trowD r) = true := by
  show pureAll (r.map tchD) = true
  rw [pureAll_iff]
  intro d hd
  obtain ⟨c, _, rfl⟩ := List.mem_map.mp hd
  show pureAll [.int c.1, c.2.data] = true
  rw [pureAll, pureAll, show pure1 c.2.data = true from c.2.pure_ts]; rfl
theorem trows_pure (rs : List (List TCh)) : pure1 (trowsD rs) = true := by
  show pureAll (rs.map trowD) = true
  rw [pureAll_iff]
  intro d hd
  obtain ⟨r, _, rfl⟩ := List.mem_map.mp hd
  exact trow_pure r
theorem tst_pure (s : TSt) : pure1 (tstD s) = true := pure_two (show pure1 s.fin.data = true from s.fin.pure_ts) (trows_pure _)
theorem sts_pure (ss : List TSt) : pureAll (ss.map tstD) = true := pureAll_iff.mpr fun d hd => by
  obtain ⟨s, _, rfl⟩ := List.mem_map.mp hd
  exact tst_pure s
theorem sts_noS {s : TSt} {ss : List TSt} : schemaD (.tuple ((s :: ss).map tstD)) = false := by
  show (_ && _ && (stateD (tstD s) _ && _) && _) = false
  have : stateD (tstD s) (((s :: ss).map tstD).length : Nat) = false := rfl
  rw [this, Bool.false_and, Bool.and_false, Bool.false_and]
theorem neat_goodRow {n lk : Nat} {r : List TCh} (h : goodRow n lk r) : Neat 9 (trowD r) := neat_row (k := 7) (by have := h.2.1; omega) fun c hc => (Tm.neat (by have := (h.2.2 c hc).1; omega)).mono (by have := (h.2.2 c hc).2; omega)
theorem ok_spoiltT (F : Fun K "_law_spoilt" "_law_spoilt" s__law_spoilt f fd) (f__law_take : Fn P w K mg base CX0 4 "_law_take" ["box", "m"] spTake) (f_pickD : Fn P w K mg base CX0 4 "_law_pick" ["box", "menu"] (spPickD K)) (f__law_bad_part : Fn P w K mg base CX0 4 "_law_bad_part" ["box", "many", "end"] (spBadPart K)) (m_len : mg "len" = none) : FnOk P w K mg base CX0 5 f fd ["box", "m"] (spSpoiltT K) := by
  refine F.ok sc_law_spoilt (fun vs H Q E h => ?_) (fun cdv A outer s H vs Q E hr h => ?_)
  · obtain ⟨_, _, _, _, rfl, _⟩ := h; rfl
  obtain ⟨bx, cl, v, m, rfl, hB, hm, hgood, q⟩ := h
  have nd := sc_law_spoilt.nd
  refine ⟨_, pss_cons (ps_asg (pv 1) (pg_tup rfl (pgs_cons (pg_name (i := 2) nd rfl (.inl rfl)) (pgs_cons (pg_name (i := 3) nd rfl (.inl rfl)) pgs_nil))))
    (pss_cons (ps_set (i := 4) nd rfl (.inl rfl) (pe_fn f__law_take hr rfl pass0 (pa_cons (pv 0) (pa_cons (pe_callB (r := rLen K) call_len_seq (by rfl) m_len PySem.boot_len (pa_cons (pv 3) pa_nil)) pa_nil))))
    (pss_cons (ps_asg (pe_ix ix_tup (pv 3) (pv 4) (fun _ _ => rfl)) (pg_tup rfl (pgs_cons (pg_name (i := 5) nd rfl (.inl rfl)) (pgs_cons (pg_name (i := 6) nd rfl (.inl rfl)) pgs_nil))))
    (pss_cons (ps_set (i := 7) nd rfl (.inl rfl) (pe_fn f__law_take hr rfl pass0 (pa_cons (pv 0) (pa_cons pe_int pa_nil))))
    (pss_cons (ps_set (i := 8) nd rfl (.inl rfl) (pe_fn f__law_take hr rfl pass0 (pa_cons (pv 0) (pa_cons pe_int pa_nil))))
    (pss_cons (ps_set (i := 9) nd rfl (.inl rfl) (pe_ix ix_tup (pv 6) (pv 8) (fun _ _ => rfl)))
    (pss_cons (ps_set (i := 10) nd rfl (.inl rfl) (pe_ix ix_tup (pv 9) (pe_op op_sub (pe_callB (r := rLen K) call_len_seq (by rfl) m_len PySem.boot_len (pa_cons (pv 9) pa_nil)) pe_int) (fun _ _ => rfl)))
    (pss_cons (ps_if (pt_cmpR op_eq (pv 7) pe_int (nomark _))
      (pss_one (ps_ret (pe_fn f_pickD hr rfl pass0 (pa_cons (pv 0) (pa_cons (pe_lst (pa_cons (pe_tup (pa_cons (pe_tup pa_nil) (pa_cons (pv 3) pa_nil))) (pa_cons (pe_tup (pa_cons (pe_tup (pa_cons (pe_tup (pa_cons pe_int (pa_cons (pe_tup pa_nil) pa_nil))) pa_nil)) (pa_cons (pv 3) pa_nil))) (pa_cons (pe_tup (pa_cons pe_non (pa_cons (pv 3) pa_nil))) (pa_cons (pe_tup (pa_cons (pv 2) (pa_cons (pe_tup pa_nil) pa_nil))) (pa_cons (pe_tup (pa_cons (pv 2) (pa_cons pe_non pa_nil))) (pa_cons (pe_tup (pa_cons (pv 2) pa_nil)) (pa_cons (pe_tup (pa_cons (pv 3) (pa_cons (pv 2) pa_nil))) (pa_cons (pe_tup (pa_cons (pv 2) (pa_cons (pv 3) (pa_cons pe_int pa_nil)))) (pa_cons (pe_tup pa_nil) (pa_cons pe_non (pa_cons pe_str (pa_cons pe_int pa_nil))))))))))))) pa_nil)))))
      pss_nil)
    (Evl.pss_cut (ps_if (pt_cmpR op_eq (pv 7) pe_int (nomark _))
      (pss_one (ps_set (i := 5) nd rfl (.inl rfl) (pe_fn f_pickD hr rfl pass0 (pa_cons (pv 0) (pa_cons (pe_lst (pa_cons (pe_op (r := rCatA K) op_catA (pv 5) (pe_tup (pa_cons (pe_fn f__law_bad_part hr rfl pass0 (pa_cons (pv 0) (pa_cons (pe_callB (r := rLen K) call_len_seq (by rfl) m_len PySem.boot_len (pa_cons (pv 3) pa_nil)) (pa_cons pe_bl pa_nil)))) pa_nil))) (pa_cons (pe_op (r := rCatA K) op_catA (pe_tup (pa_cons (pe_fn f__law_bad_part hr rfl pass0 (pa_cons (pv 0) (pa_cons (pe_callB (r := rLen K) call_len_seq (by rfl) m_len PySem.boot_len (pa_cons (pv 3) pa_nil)) (pa_cons pe_bl pa_nil)))) pa_nil)) (pv 5)) (pa_cons pe_non (pa_cons pe_int (pa_cons pe_str (pa_cons (pe_tup (pa_cons pe_str (pa_cons pe_int (pa_cons (pe_tup pa_nil) pa_nil)))) pa_nil))))))) pa_nil)))))
      (pss_one (ps_if (pt_cmpR op_eq (pv 7) pe_int (nomark _))
        (pss_cons (ps_set (i := 11) nd rfl (.inl rfl) (pe_lst (pa_cons (pe_tup pa_nil) (pa_cons (pe_op (r := rCatA K) op_catA (pv 9) (pv 9)) (pa_cons (pe_op (r := rCatA K) op_catA (pv 9) (pe_tup (pa_cons (pe_tup (pa_cons pe_int (pa_cons (pe_tup pa_nil) pa_nil))) pa_nil))) (pa_cons (pe_op (r := rCatA K) op_catA (pe_tup (pa_cons (pe_tup (pa_cons (pe_un un_neg pe_int) (pa_cons (pe_tup pa_nil) pa_nil))) pa_nil)) (pv 9)) (pa_cons (pe_op (r := rCatA K) op_catA (pe_tup (pa_cons (pe_tup (pa_cons (pe_callB (r := rLen K) call_len_seq (by rfl) m_len PySem.boot_len (pa_cons (pv 2) pa_nil)) (pa_cons (pe_tup pa_nil) pa_nil))) pa_nil)) (pv 9)) (pa_cons (pe_op (r := rCatA K) op_catA (pe_tup (pa_cons (pe_tup (pa_cons (pe_un un_neg pe_int) (pa_cons (pe_tup pa_nil) pa_nil))) pa_nil)) (pv 9)) (pa_cons (pe_op (r := rCatA K) op_catA (pe_tup (pa_cons (pe_tup (pa_cons pe_bl (pa_cons (pe_tup pa_nil) pa_nil))) pa_nil)) (pv 9)) (pa_cons (pe_op (r := rCatA K) op_catA (pe_tup (pa_cons (pe_tup (pa_cons pe_non (pa_cons (pe_tup pa_nil) pa_nil))) pa_nil)) (pv 9)) (pa_cons (pe_op (r := rCatA K) op_catA (pe_tup (pa_cons (pe_tup (pa_cons pe_int pa_nil)) pa_nil)) (pv 9)) (pa_cons (pe_op (r := rCatA K) op_catA (pe_tup (pa_cons pe_int pa_nil)) (pv 9)) (pa_cons pe_non (pa_cons pe_int (pa_cons pe_str (pa_cons (pe_op (r := rCatA K) op_catA (pe_slice sl_tupA (pv 9) po_none (po_some (pe_op op_sub (pe_callB (r := rLen K) call_len_seq (by rfl) m_len PySem.boot_len (pa_cons (pv 9) pa_nil)) pe_int))) (pe_tup (pa_cons (pe_tup (pa_cons pe_int (pa_cons (pe_ix ix_tup (pv 10) pe_int (fun _ _ => rfl)) pa_nil))) pa_nil))) (pa_cons (pe_op (r := rCatA K) op_catA (pe_slice sl_tupA (pv 9) po_none (po_some (pe_op op_sub (pe_callB (r := rLen K) call_len_seq (by rfl) m_len PySem.boot_len (pa_cons (pv 9) pa_nil)) pe_int))) (pe_tup (pa_cons (pe_tup (pa_cons (pe_un un_neg pe_int) pa_nil)) pa_nil))) (pa_cons (pe_op (r := rCatA K) op_catA (pe_slice sl_tupA (pv 9) po_none (po_some (pe_op op_sub (pe_callB (r := rLen K) call_len_seq (by rfl) m_len PySem.boot_len (pa_cons (pv 9) pa_nil)) pe_int))) (pe_tup (pa_cons (pe_tup (pa_cons (pe_un un_neg pe_int) (pa_cons pe_non pa_nil))) pa_nil))) (pa_cons (pe_op (r := rCatA K) op_catA (pe_slice sl_tupA (pv 9) po_none (po_some (pe_op op_sub (pe_callB (r := rLen K) call_len_seq (by rfl) m_len PySem.boot_len (pa_cons (pv 9) pa_nil)) pe_int))) (pe_tup (pa_cons (pe_tup (pa_cons (pe_ix ix_tup (pv 10) pe_int (fun _ _ => rfl)) (pa_cons (pe_un un_neg pe_int) pa_nil))) pa_nil))) pa_nil)))))))))))))))))))
        (pss_one (ps_set (i := 6) nd rfl (.inl rfl) (pe_op (r := rCatA K) op_catA (pe_op (r := rCatA K) op_catA (pe_slice sl_tupA (pv 6) po_none (po_some (pv 8))) (pe_tup (pa_cons (pe_fn f_pickD hr rfl pass0 (pa_cons (pv 0) (pa_cons (pv 11) pa_nil))) pa_nil))) (pe_slice sl_tupA (pv 6) (po_some (pe_op op_add (pv 8) pe_int)) po_none)))))
        (pss_one (ps_if (pt_cmpR op_eq (pv 7) pe_int (nomark _))
          (pss_cons (ps_set (i := 12) nd rfl (.inl rfl) (pe_op (r := rCatA K) op_catA (pe_ix ix_tup (pv 10) pe_int (fun _ _ => rfl)) (pe_tup (pa_cons (pe_fn f__law_bad_part hr rfl pass0 (pa_cons (pv 0) (pa_cons (pe_callB (r := rLen K) call_len_seq (by rfl) m_len PySem.boot_len (pa_cons (pv 3) pa_nil)) (pa_cons pe_bl pa_nil)))) pa_nil))))
          (pss_one (ps_set (i := 6) nd rfl (.inl rfl) (pe_op (r := rCatA K) op_catA (pe_op (r := rCatA K) op_catA (pe_slice sl_tupA (pv 6) po_none (po_some (pv 8))) (pe_tup (pa_cons (pe_op (r := rCatA K) op_catA (pe_slice sl_tupA (pv 9) po_none (po_some (pe_op op_sub (pe_callB (r := rLen K) call_len_seq (by rfl) m_len PySem.boot_len (pa_cons (pv 9) pa_nil)) pe_int))) (pe_tup (pa_cons (pe_tup (pa_cons (pe_un un_neg pe_int) (pa_cons (pv 12) pa_nil))) pa_nil))) pa_nil))) (pe_slice sl_tupA (pv 6) (po_some (pe_op op_add (pv 8) pe_int)) po_none)))))
          (pss_one (ps_set (i := 6) nd rfl (.inl rfl) (pe_fn f_pickD hr rfl pass0 (pa_cons (pv 0) (pa_cons (pe_lst (pa_cons (pe_slice sl_tupA (pv 6) (po_some pe_int) po_none) (pa_cons (pe_op (r := rCatA K) op_catA (pv 6) (pe_tup (pa_cons (pv 9) pa_nil))) (pa_cons (pe_tup pa_nil) (pa_cons pe_non (pa_cons pe_int pa_nil)))))) pa_nil))))))))))
    (pss_cons (ps_set (i := 13) nd rfl (.inl rfl) (pe_tup (pa_cons (pv 5) (pa_cons (pv 6) pa_nil))))
    (Evl.pss_cut (ps_if (pt_cmpR op_eq (pe_fn f__law_take hr rfl pass0 (pa_cons (pv 0) (pa_cons pe_int pa_nil))) pe_int (nomark _))
      (pss_one (ps_set (i := 13) nd rfl (.inl rfl) (pe_fn f_pickD hr rfl pass0 (pa_cons (pv 0) (pa_cons (pe_lst (pa_cons (pe_tup (pa_cons (pv 5) pa_nil)) (pa_cons (pe_tup pa_nil) (pa_cons pe_non (pa_cons (pe_tup (pa_cons (pv 6) (pa_cons (pv 5) pa_nil))) (pa_cons (pe_tup (pa_cons (pv 5) (pa_cons (pv 6) (pa_cons pe_int pa_nil)))) pa_nil)))))) pa_nil)))))
      pss_nil)
    (pss_one (ps_ret (pe_tup (pa_cons (pv 2) (pa_cons (pe_op (r := rCatA K) op_catA (pe_op (r := rCatA K) op_catA (pe_slice sl_tupA (pv 3) po_none (po_some (pv 4))) (pe_tup (pa_cons (pv 13) pa_nil))) (pe_slice sl_tupA (pv 3) (po_some (pe_op op_add (pv 4) pe_int)) po_none)) pa_nil))))))))))))))), ?_⟩

  have hlk2 : m.looks.length ≤ 2 := hgood.two
  have ok1 := hgood.looks
  have Ln : Neat 5 (schD m.looks) := neat_sch (by omega) fun st hst => by have := hgood.lfew st hst; omega
  have hmost := hgood.most
  have hone := hgood.one
  obtain ⟨ma, lv, sv, rfl, hms, hlv, hsv⟩ := dp_two (hm : Dp K H v (.tuple [schD m.looks, stsD m.sts]))
  refine ⟨_, rfl, ma, _, rfl, hms, rfl, lv, _, rfl, sv, _, rfl, rfl, ?_⟩
  obtain ⟨sa, svs, rfl, hss, hsal⟩ := hsv.tupI
  have lsv := hsal.length
  rw [List.length_map] at lsv
  refine ⟨_, rfl, _, rfl, sa, svs, rfl, .inr hss, bx, cl, (svs.length : Nat), rfl, by omega, by omega, hB, fun t H1 t0 t1 g1 hB1 => ?_⟩
  obtain ⟨at_, rfl⟩ : ∃ n : Nat, t = (n : Int) := ⟨t.toNat, by omega⟩
  have hat : at_ < m.sts.length := by omega
  have est : m.sts[at_]? = some m.sts[at_] := List.getElem?_eq_getElem hat
  generalize m.sts[at_] = st at est
  obtain ⟨⟨se1, se2, se3⟩, s5, srows⟩ := hgood.sts st (List.mem_of_getElem? est)
  have hsal1 := dpAll_grm g1 hB.lst _ _ (sts_pure _) hsal
  have hss1 : SqT K H1 sa svs := g1.sqTm hB.lst hss
  obtain ⟨stv, hstv, hstd⟩ := hsal1.at (i := at_) (d := tstD st) (by rw [List.getElem?_map, est]; rfl)
  obtain ⟨sta, ev, cv, rfl, hsq, hev, hcv⟩ := dp_two (hstd : Dp K H1 stv (.tuple [st.fin.data, trowsD st.rows]))
  refine ⟨_, rfl, _, rfl, sa, svs, _, _, rfl, rfl, hss1, atI_nat hstv, sta, _, rfl, hsq, rfl, ev, _, rfl, cv, _, rfl, rfl, ?_⟩
  refine ⟨_, rfl, bx, cl, 5, rfl, by decide, by decide, hB1, fun t H2 u0 u1 g2 hB2 => ?_⟩
  obtain ⟨sort, rfl⟩ : ∃ n : Nat, t = (n : Int) := ⟨t.toNat, by omega⟩
  refine ⟨_, rfl, bx, cl, 5, rfl, by decide, by decide, hB2, fun t H3 w0 w1 g3 hB3 => ?_⟩
  obtain ⟨lab, rfl⟩ : ∃ n : Nat, t = (n : Int) := ⟨t.toNat, by omega⟩
  have hlab : lab < st.rows.length := by omega
  have er : st.rows[lab]? = some st.rows[lab] := List.getElem?_eq_getElem hlab
  generalize st.rows[lab] = row at er
  have grow := srows row (List.mem_of_getElem? er)
  obtain ⟨ini, lt, erow, hini, hrow⟩ := grow.1
  have g13 := g2.trans g3
  have hcv3 := dp_grm g3 hB2.lst _ _ (trows_pure _) (dp_grm g2 hB1.lst _ _ (trows_pure _) hcv)
  obtain ⟨ca, cvs, rfl, hcs, hcal⟩ := hcv3.tupI
  obtain ⟨rv, hrv, hrd⟩ := hcal.at (i := lab) (d := trowD row) (by rw [List.getElem?_map, er]; rfl)
  obtain ⟨ra, rvs, rfl, hrs, hral⟩ := hrd.tupI
  have lrv := hral.length
  rw [List.length_map] at lrv
  refine ⟨_, rfl, _, rfl, ca, cvs, _, _, rfl, rfl, hcs, atI_nat hrv, ?_⟩
  have lrow : row.length = ini.length + 1 := by rw [erow, List.length_append]; rfl
  obtain ⟨zv, hzv, hzd⟩ := hral.at (i := row.length - 1) (d := tchD (-1, lt)) (by rw [erow, List.map_append, List.length_append, List.getElem?_append_right (by simp)]; simp)
  refine ⟨_, rfl, _, rfl, ra, rvs, rfl, .inr hrs, _, _, rfl, rfl, ra, rvs, _, _, rfl, rfl, hrs, atI_eq hzv (by omega), ?_⟩
  have g03 := g1.trans g13
  -- what stands
  have hlv3 := dp_grm g3 hB2.lst _ _ (schD_pure _) (dp_grm g2 hB1.lst _ _ (schD_pure _) (dp_grm g1 hB.lst _ _ (schD_pure m.looks) hlv))
  have hsv3 : Dp K H3 (.ref sa) (stsD m.sts) := dp_grm g3 hB2.lst _ _ (sts_pure _) (dp_grm g2 hB1.lst _ _ (sts_pure _) (.tup hss1 hsal1))
  have hev3 := dp_grm g3 hB2.lst _ _ (show pure1 st.fin.data = true from st.fin.pure_ts) (dp_grm g2 hB1.lst _ _ (show pure1 st.fin.data = true from st.fin.pure_ts) hev)
  have hrow3 : Dp K H3 (.ref ra) (trowD row) := .tup hrs hral
  have zp : pure1 (tchD (-1, lt)) = true := pure_two rfl (show pure1 lt.data = true from lt.pure_ts)
  clear hm hlv hsv hms hsal hss hsal1 hss1 hstv hstd hsq hev hcv hrv hrd hrs hral hcs hcal hB hB1 hB2
  refine st_normS (t := tSeq _ _) (σ' := [some (.ref bx), some (.ref ma), some lv, some (.ref sa), some (natV at_), some ev, some (.ref ca), some (natV sort), some (natV lab), some (.ref ra), some zv, none, none, none]) rfl ?_
  have Vl : ∀ (σ : L2.St) (H1 : Hp), Gr [bx] H3 H1 → σ[2]? = some (some lv) → DX K σ H1 (tVar 2) (schD m.looks) := fun σ H1 g e => .var (dp_grm g hB3.lst _ _ (schD_pure _) hlv3) e
  have Vs : ∀ (σ : L2.St) (H1 : Hp), Gr [bx] H3 H1 → σ[3]? = some (some (.ref sa)) → DX K σ H1 (tVar 3) (.tuple (m.sts.map tstD)) := fun σ H1 g e => .var (dp_grm g hB3.lst _ _ (sts_pure _) hsv3) e
  have Sn : Neat 13 (stsD m.sts) := .tup (fun d hd => by
    obtain ⟨s, hs, rfl⟩ := List.mem_map.mp hd
    obtain ⟨⟨_, e2, e3⟩, _, rs⟩ := hgood.sts s hs
    exact Neat.tup2 ((Tm.neat (by omega)).mono (by omega)) (Neat.tup (k := 9) (fun d hd => by
      obtain ⟨r, hr, rfl⟩ := List.mem_map.mp hd
      exact neat_goodRow (rs r hr)) (by rw [List.length_map]; have := (hgood.sts s hs).2.1; omega) |>.mono (by omega))) (by rw [List.length_map]; omega)
  have nofin : ∀ x ∈ st.fin.ts, noCh x := endish_tm st.fin _ rfl
  have Nf : Neat 5 (.tuple st.fin.ts) := (Tm.neat (by omega)).mono (by omega)
  have lfin : st.fin.ts.length ≤ 6 := by rw [Tm.ts_length]; have := st.fin.len_parts; omega
  have Nc : Neat 10 (trowsD st.rows) := Neat.tup (fun d hd => by
    obtain ⟨r, hr, rfl⟩ := List.mem_map.mp hd
    exact neat_goodRow (srows r hr)) (by rw [List.length_map]; omega)
  have LenS : ∀ (σ : L2.St), σ[3]? = some (some (.ref sa)) → ∀ (H1 : Hp) (Q : VK), Gr [bx] H3 H1 → Q (natV m.sts.length) H1 → tCB (rLen K) (tCons (tVar 3) tNil) σ H1 Q := fun σ e H1 Q g k => ⟨_, e, lenD (dp_grm g hB3.lst _ _ (sts_pure _) hsv3) (by rw [List.length_map]; exact k)⟩
  have pm : pureAll (row.map tchD) = true := trow_pure row
  have pi : pureAll (ini.map tchD) = true := trow_pure ini
  have pt : pure1 lt.data = true := lt.pure_ts
  have Vr : ∀ (σ : L2.St) (H1 : Hp), Gr [bx] H3 H1 → σ[9]? = some (some (.ref ra)) → DX K σ H1 (tVar 9) (.tuple (row.map tchD)) := fun σ H1 g e => .var (dp_grm g hB3.lst _ _ (trow_pure _) hrow3) e
  have Vz : ∀ (σ : L2.St) (H1 : Hp), Gr [bx] H3 H1 → σ[10]? = some (some zv) → DX K σ H1 (tOp (rIxT K) (tVar 10) (tC (.int 1))) lt.data := fun σ H1 g e => .ix (n := 1) (.var (dp_grm g hB3.lst _ _ zp hzd) e) .c rfl rfl
  have Vi : ∀ (σ : L2.St) (H1 : Hp), Gr [bx] H3 H1 → σ[9]? = some (some (.ref ra)) → DX K σ H1 (tSl (rSlA K) (tVar 9) tNoPart (tPart (tOp (rI0 fun i j => .int (i - j)) (tCB (rLen K) (tCons (tVar 9) tNil)) (tC (.int 1))))) (.tuple (ini.map tchD)) := fun σ H1 g e => by
    have h := DX.take (K := K) (n := ini.length) (Vr σ H1 g e) (NX.eq (NX.op (f := fun i j => i - j) (NX.lenV (dp_grm g hB3.lst _ _ (trow_pure _) hrow3) e) (NX.c (i := 1))) (by rw [List.length_map, lrow]; omega))
    rw [erow, List.map_append, List.take_append_of_le_length (by simp), List.take_of_length_le (by simp)] at h
    exact h
  have Nm : Neat 9 (.tuple (row.map tchD)) := neat_goodRow grow
  have lm3 : (row.map tchD).length ≤ 3 := by rw [List.length_map]; exact grow.2.1
  have lini : ini.length ≤ 2 := by have := grow.2.1; omega
  have Ni : Neat 10 (.tuple (ini.map tchD)) := Neat.tup (k := 9) (fun d hd => Nm.mem (by rw [erow, List.map_append]; exact List.mem_append_left _ hd)) (by rw [List.length_map]; omega)
  have Nt : Neat 7 (.tuple lt.ts) := (Tm.neat (t := lt) (by have := (grow.2.2 (-1, lt) (by rw [erow]; simp)).1; simp only at this; omega)).mono (by have := (grow.2.2 (-1, lt) (by rw [erow]; simp)).2; simp only at this; omega)
  have ltl : lt.ts.length ≤ 6 := by rw [Tm.ts_length]; have := lt.len_parts; have := (grow.2.2 (-1, lt) (by rw [erow]; simp)).1; simp only at this; omega
  have mne : row.map tchD ≠ [] := fun z => by rw [List.map_eq_nil_iff.mp z] at lrow; simp at lrow
  obtain ⟨st1, sr1, esr⟩ : ∃ a b, m.sts = a :: b := by
    cases h : m.sts with
    | nil => rw [h] at hone; exact absurd hone (by decide)
    | cons a b => exact ⟨a, b, rfl⟩
  have sp : pure1 (stsD m.sts) = true := sts_pure _
  have lp : pure1 (schD m.looks) = true := schD_pure _
  refine ⟨_, rfl, rfl, _, rfl, ?_⟩
  by_cases s0 : sort = 0
  · refine iteTd (decide_eq_true (by rw [s0]; rfl)) ?_
    have nop : ∀ d, transD d = false → Neat 40 d → pure1 d = true → noTrans d := fun d a b c => ⟨a, b, c⟩
    refine BX.go (BX.pickA (K := K) (σ := [some (.ref bx), some (.ref ma), some lv, some (.ref sa), some (natV at_), some ev, some (.ref ca), some (natV sort), some (natV lab), some (.ref ra), some zv, none, none, none]) (H0 := H3) (bx := bx) (cl := cl) (k := 12) (P := noTrans) rfl
      (.cons (.dx hB3 (fun H1 g _ => .tup (.cons (.tup .nil (by simp)) (.cons (Vs _ H1 g rfl) .nil)) (by simp)) (pure_two rfl sp) (nop _ rfl ((Neat.tup2 ((Neat.tup (k := 0) (by simp) (by simp)).mono (by omega)) Sn).mono (by omega)) (pure_two rfl sp)))
      (.cons (.dx hB3 (fun H1 g _ => .tup (.cons DX.doc9 (.cons (Vs _ H1 g rfl) .nil)) (by simp)) (pure_two rfl sp) (nop _ (trans_noS (doc9_noS 1)) ((Neat.tup2 (Neat.mono (Neat.tup (k := 2) (fun d hd => by rw [List.mem_singleton.mp hd]; exact (Neat.tup2 ((Neat.int 1).mono (by omega)) (Neat.tup (k := 0) (by simp) (by simp))).mono (by omega)) (by simp)) (by omega : 3 ≤ 13)) Sn).mono (by omega)) (pure_two rfl sp)))
      (.cons (.dx hB3 (fun H1 g _ => .tup (.cons .non (.cons (Vs _ H1 g rfl) .nil)) (by simp)) (pure_two rfl sp) (nop _ rfl ((Neat.tup2 (Neat.none.mono (by omega)) Sn).mono (by omega)) (pure_two rfl sp)))
      (.cons (.dx hB3 (fun H1 g _ => .tup (.cons (Vl _ H1 g rfl) (.cons (.tup .nil (by simp)) .nil)) (by simp)) (pure_two lp rfl) (nop _ (by rw [trans_eq]; simp) ((Neat.tup2 (Ln.mono (by omega : 5 ≤ 13)) ((Neat.tup (k := 0) (by simp) (by simp)).mono (by omega))).mono (by omega)) (pure_two lp rfl)))
      (.cons (.dx hB3 (fun H1 g _ => .tup (.cons (Vl _ H1 g rfl) (.cons .non .nil)) (by simp)) (pure_two lp rfl) (nop _ rfl ((Neat.tup2 (Ln.mono (by omega : 5 ≤ 13)) (Neat.none.mono (by omega))).mono (by omega)) (pure_two lp rfl)))
      (.cons (.dx hB3 (fun H1 g _ => .tup (.cons (Vl _ H1 g rfl) .nil) (by simp)) (by show (pure1 _ && true) = true; rw [lp]; rfl) (nop _ rfl ((Neat.tup (k := 5) (fun d hd => by rw [List.mem_singleton.mp hd]; exact Ln) (by simp)).mono (by omega)) (by show (pure1 _ && true) = true; rw [lp]; rfl)))
      (.cons (.dx hB3 (fun H1 g _ => .tup (.cons (Vs _ H1 g rfl) (.cons (Vl _ H1 g rfl) .nil)) (by simp)) (pure_two sp lp) (nop _ (trans_noS (by rw [esr]; exact sts_noS)) ((Neat.tup2 Sn (Ln.mono (by omega))).mono (by omega)) (pure_two sp lp)))
      (.cons (.dx hB3 (fun H1 g _ => .tup (.cons (Vl _ H1 g rfl) (.cons (Vs _ H1 g rfl) (.cons .int .nil))) (by simp)) (by show (pure1 _ && (pure1 _ && (true && true))) = true; rw [lp, show pure1 (PyData.tuple (m.sts.map tstD)) = true from sp]; rfl) (nop _ rfl ((Neat.tup3 (Ln.mono (by omega : 5 ≤ 13)) Sn ((Neat.int 0).mono (by omega))).mono (by omega)) (by show (pure1 _ && (pure1 _ && (true && true))) = true; rw [lp, show pure1 (PyData.tuple (m.sts.map tstD)) = true from sp]; rfl)))
      (.cons (.dx hB3 (fun H1 g _ => .tup .nil (by simp)) rfl (nop _ rfl ((Neat.tup (k := 0) (by simp) (by simp)).mono (by omega)) rfl))
      (.cons (.dx hB3 (fun H1 g _ => .non) rfl (nop _ rfl (Neat.none.mono (by omega)) rfl))
      (.cons (.dx hB3 (fun H1 g _ => .str) rfl (nop _ rfl ((Neat.str lay_empty).mono (by omega)) rfl))
      (.cons (.dx hB3 (fun H1 g _ => .int) rfl (nop _ rfl ((Neat.int 3).mono (by omega)) rfl))
      .nil)))))))))))) (by decide) (by decide)) hB3 fun H4 x d g4 hB4 hx _ hd => q d x H4 hd (g03.trans g4) hB4 hx
  refine iteFd (decide_eq_false fun z => s0 (by injection z with z; omega)) ?_
  have hln : DX K [some (.ref bx), some (.ref ma), some lv, some (.ref sa), some (natV at_), some ev, some (.ref ca), some (natV sort), some (natV lab), some (.ref ra), some zv, none, none, none] H3 (tVar 2) (schD m.looks) := Vl _ H3 (Gr.refl _) rfl
  refine ⟨fun σ H' => ∃ (e' c' : V) (ed cd : PyData) (y11 y12 : Option V), σ = [some (.ref bx), some (.ref ma), some lv, some (.ref sa), some (natV at_), some e', some c', some (natV sort), some (natV lab), some (.ref ra), some zv, y11, y12, none] ∧ Gr [bx] H3 H' ∧ BoxAt H' bx cl ∧ Dp K H' e' ed ∧ Dp K H' c' cd ∧ pure1 ed = true ∧ pure1 cd = true ∧ endish ed ∧ Neat 12 ed ∧ Neat 30 cd ∧ (badEnd m.sts.length ed ∨ badChs m.looks.length m.sts.length cd), ?_, ?_⟩
  · refine ⟨_, rfl, rfl, _, rfl, ?_⟩
    by_cases s1 : sort = 1
    · refine iteTd (decide_eq_true (by rw [s1]; rfl)) ?_
      have Lx : ∀ (H1 : Hp) (Q : VK), Gr [bx] H3 H1 → Q (natV m.sts.length) H1 → tCB (rLen K) (tCons (tVar 3) tNil) [some (.ref bx), some (.ref ma), some lv, some (.ref sa), some (natV at_), some ev, some (.ref ca), some (natV sort), some (natV lab), some (.ref ra), some zv, none, none, none] H1 Q := LenS _ rfl
      have bp := BX.badPart (K := K) (cl := cl) (bi := 0) (e := true) (σ := [some (.ref bx), some (.ref ma), some lv, some (.ref sa), some (natV at_), some ev, some (.ref ca), some (natV sort), some (natV lab), some (.ref ra), some zv, none, none, none]) rfl Lx
      have Ve := BX.varT (K := K) (σ := [some (.ref bx), some (.ref ma), some lv, some (.ref sa), some (natV at_), some ev, some (.ref ca), some (natV sort), some (natV lab), some (.ref ra), some zv, none, none, none]) (i := 5) (ds := st.fin.ts) hB3 hev3 (show pure1 st.fin.data = true from st.fin.pure_ts) rfl
      refine BX.go (BX.pickA (K := K) (H0 := H3) (bx := bx) (cl := cl) (k := 6) (P := badEnd m.sts.length) rfl
        (.cons ((BX.cat Ve (BX.one bp) (fun ds es e1 ⟨x, e2, _⟩ => by rw [e1, e2]; simp; omega)).imp fun d ⟨ds, es, e, e1, x, e2, hx⟩ => by
          rw [e, e1, e2]
          have := end_mem (n := m.sts.length) (B := []) hx nofin (by simp) Nf Neat.nil5 (by simp; omega)
          rwa [List.append_nil] at this)
        (.cons ((BX.cat (BX.one bp) Ve (fun ds es ⟨x, e2, _⟩ e1 => by rw [e1, e2]; simp; omega)).imp fun d ⟨ds, es, e, ⟨x, e2, hx⟩, e1⟩ => by
          rw [e, e1, e2]
          exact end_mem (n := m.sts.length) (A := []) hx (by simp) nofin Neat.nil5 Nf (by simp; omega))
        (.cons (BX.non.ofEq (end_no (by simp) rfl (Neat.none.mono (by omega))))
        (.cons (BX.int.ofEq (end_no (by simp) rfl ((Neat.int 0).mono (by omega))))
        (.cons (BX.str.ofEq (end_no (by simp) rfl ((Neat.str lay_empty).mono (by omega))))
        (.cons (BX.dx (d := .tuple [.str "node", .int 0, .tuple []]) hB3 (fun H1 g _ => .tup (.cons .str (.cons .int (.cons (.tup .nil (by simp)) .nil))) (by simp)) rfl ⟨rfl, fun ds e x hx => (by injection e with e; rw [← e] at hx; simp only [List.mem_cons, List.not_mem_nil, or_false] at hx; rcases hx with rfl | rfl | rfl <;> exact fun _ => rfl), (Neat.tup3 ((Neat.str lay_node).mono (by omega : 0 ≤ 1)) ((Neat.int 0).mono (by omega)) Neat.nil).mono (by omega)⟩)
        .nil)))))) (by decide) (by decide)) hB3 fun H4 x d g4 hB4 hx hp hd => ?_
      exact ⟨x, .ref ca, d, trowsD st.rows, none, none, rfl, g4, hB4, hx, dp_grm g4 hB3.lst _ _ (trows_pure _) hcv3, hp, trows_pure _, hd.2.1, hd.2.2, Nc.mono (by omega), .inl hd⟩
    refine iteFd (decide_eq_false fun z => s1 (by injection z with z; omega)) ⟨_, rfl, rfl, _, rfl, ?_⟩
    by_cases s2 : sort = 2
    · refine iteTd (decide_eq_true (by rw [s2]; rfl)) ?_
      have front : ∀ {a : TE} {l : PyData}, (∀ H1, Gr [bx] H3 H1 → DX K [some (.ref bx), some (.ref ma), some lv, some (.ref sa), some (natV at_), some ev, some (.ref ca), some (natV sort), some (natV lab), some (.ref ra), some zv, none, none, none] H1 a l) → pure1 l = true → belowD l m.looks.length = false → Neat 3 l → BX K [some (.ref bx), some (.ref ma), some lv, some (.ref sa), some (natV at_), some ev, some (.ref ca), some (natV sort), some (natV lab), some (.ref ra), some zv, none, none, none] H3 bx cl (tOp (rCatA K) (tTup (tCons (tTup (tCons a (tCons (tTup tNil) tNil))) tNil)) (tVar 9)) (badRow m.looks.length m.sts.length) := fun {a l} ha hp hb hn => .dx (d := .tuple ([.tuple [l, .tuple []]] ++ row.map tchD)) hB3 (fun H1 g _ => .cat (.tup (.cons (.tup (.cons (ha H1 g) (.cons (.tup .nil (by simp)) .nil)) (by simp)) .nil) (by simp)) (Vr _ H1 g rfl) (by simp; omega)) (by show pureAll (_ ++ _) = true; rw [pureAll_app, pm, pureAll, pure_two hp rfl]; rfl) (row_front Nm mne lm3 hb ((Neat.tup2 hn (Neat.nil.mono (by omega))).mono (by omega)))
      have cut : ∀ {a : TE} {d : PyData}, (∀ H1, Gr [bx] H3 H1 → DX K [some (.ref bx), some (.ref ma), some lv, some (.ref sa), some (natV at_), some ev, some (.ref ca), some (natV sort), some (natV lab), some (.ref ra), some zv, none, none, none] H1 a d) → pure1 d = true → badRow m.looks.length m.sts.length (.tuple (ini.map tchD ++ [d])) → BX K [some (.ref bx), some (.ref ma), some lv, some (.ref sa), some (natV at_), some ev, some (.ref ca), some (natV sort), some (natV lab), some (.ref ra), some zv, none, none, none] H3 bx cl (tOp (rCatA K) (tSl (rSlA K) (tVar 9) tNoPart (tPart (tOp (rI0 fun i j => .int (i - j)) (tCB (rLen K) (tCons (tVar 9) tNil)) (tC (.int 1))))) (tTup (tCons a tNil))) (badRow m.looks.length m.sts.length) := fun {a d} ha hp hb => .dx hB3 (fun H1 g _ => .cat (Vi _ H1 g rfl) (.tup (.cons (ha H1 g) .nil) (by simp)) (by simp; omega)) (by show pureAll (_ ++ _) = true; rw [pureAll_app, pi, pureAll, hp]; rfl) hb
      refine BXs.setL (BA.cons (K := K) (H0 := H3) (bx := bx) (cl := cl) (k := 16) (P := badRow m.looks.length m.sts.length)
        (BX.tup0.ofEq row_nil)
        (.cons (.dx hB3 (fun H1 g _ => .cat (Vr _ H1 g rfl) (Vr _ H1 g rfl) (by omega)) (by show pureAll (_ ++ _) = true; rw [pureAll_app, pm]; rfl) (row_twice erow Nm grow.2.1))
        (.cons (.dx (d := .tuple (row.map tchD ++ [.tuple [.int 0, .tuple []]])) hB3 (fun H1 g _ => .cat (Vr _ H1 g rfl) (.tup (.cons (.tup (.cons .int (.cons (.tup .nil (by simp)) .nil)) (by simp)) .nil) (by simp)) (by simp; omega)) (by show pureAll (_ ++ _) = true; rw [pureAll_app, pm]; rfl) (rowB_last (Nm.mono (by omega)) lm3 rfl ((Neat.tup2 ((Neat.int 0).mono (by omega)) Neat.nil).mono (by omega))))
        (.cons (front (fun H1 g => .nx (.neg .c)) rfl (by simp [belowD]) ((Neat.int _).mono (by omega)))
        (.cons (front (l := .int ((m.looks.map stD).length : Int)) (fun H1 g => .nx (.lenV (dp_grm g hB3.lst _ _ (schD_pure _) hlv3) rfl)) rfl (by simp [belowD]) ((Neat.int _).mono (by omega)))
        (.cons (front (fun H1 g => .nx (.neg .c)) rfl (by simp [belowD]) ((Neat.int _).mono (by omega)))
        (.cons (front (fun H1 g => .bl) rfl (by simp [belowD]) ((Neat.bool _).mono (by omega)))
        (.cons (front (fun H1 g => .non) rfl (by simp [belowD]) (Neat.none.mono (by omega)))
        (.cons (.dx (d := .tuple ([.tuple [.int 0]] ++ row.map tchD)) hB3 (fun H1 g _ => .cat (.tup (.cons (.tup (.cons .int .nil) (by simp)) .nil) (by simp)) (Vr _ H1 g rfl) (by simp; omega)) (by show pureAll (_ ++ _) = true; rw [pureAll_app, pm]; rfl) (row_frontM Nm lm3 rfl ((Neat.int 0).one.mono (by omega))))
        (.cons (.dx (d := .tuple ([.int 0] ++ row.map tchD)) hB3 (fun H1 g _ => .cat (.tup (.cons .int .nil) (by simp)) (Vr _ H1 g rfl) (by simp; omega)) (by show pureAll (_ ++ _) = true; rw [pureAll_app, pm]; rfl) (row_frontM Nm lm3 rfl ((Neat.int 0).mono (by omega))))
        (.cons (BX.non.ofEq ⟨.inl rfl, Neat.none.mono (by omega)⟩)
        (.cons (BX.int.ofEq ⟨.inl rfl, (Neat.int 0).mono (by omega)⟩)
        (.cons (BX.str.ofEq ⟨.inl rfl, (Neat.str lay_empty).mono (by omega)⟩)
        (.cons (cut (d := .tuple [.int 0, lt.data]) (fun H1 g => .tup (.cons .int (.cons (Vz _ H1 g rfl) .nil)) (by simp)) (pure_two rfl pt) (rowB_last Ni (by simp; omega) rfl ((Neat.tup2 ((Neat.int 0).mono (by omega)) Nt).mono (by omega))))
        (.cons (cut (d := .tuple [.int (-1)]) (fun H1 g => .tup (.cons (.nx (.neg .c)) .nil) (by simp)) rfl (rowB_lastM Ni (by simp; omega) rfl ((Neat.int _).one.mono (by omega))))
        (.cons (cut (d := .tuple [.int (-1), .none]) (fun H1 g => .tup (.cons (.nx (.neg .c)) (.cons .non .nil)) (by simp)) rfl (row_choice Ni (by omega) (Neat.none.mono (by omega)) rfl))
        (.cons (cut (d := .tuple [lt.data, .int (-1)]) (fun H1 g => .tup (.cons (Vz _ H1 g rfl) (.cons (.nx (.neg .c)) .nil)) (by simp)) (pure_two pt rfl) (rowB_last Ni (by simp; omega) rfl ((Neat.tup2 Nt ((Neat.int _).mono (by omega))).mono (by omega))))
        .nil))))))))))))))))) hB3 (fun ds h => by rw [h.1]; decide) fun H4 p xs ds g4 hB4 hp4 nb4 hxs4 pds ⟨hl4, hall4⟩ => ?_
      refine st_normS (t := tAsg _ _) (σ' := [some (.ref bx), some (.ref ma), some lv, some (.ref sa), some (natV at_), some ev, some (.ref ca), some (natV sort), some (natV lab), some (.ref ra), some zv, some (.ref p), none, none]) rfl ?_
      have hc4 := dp_grm g4 hB3.lst _ _ (trows_pure _) hcv3
      have Vc := BX.varT (K := K) (H0 := H4) (cl := cl) (σ := [some (.ref bx), some (.ref ma), some lv, some (.ref sa), some (natV at_), some ev, some (.ref ca), some (natV sort), some (natV lab), some (.ref ra), some zv, some (.ref p), none, none]) (i := 6) (ds := st.rows.map trowD) hB4 hc4 (trows_pure _) rfl
      refine BX.go (BX.swap (n := lab) Vc rfl (BX.pickLV (P := badRow m.looks.length m.sts.length) hB4 rfl rfl nb4 hp4 hxs4 pds (by omega) (by omega) hall4) (by rw [List.length_map]; omega)) hB4 fun H5 x d g5 hB5 hx hp ⟨r, ed, hr⟩ => ?_
      have hb := chs_row (es := (st.rows.map trowD).drop (lab + 1)) hr ((Neat.take (n := lab) Nc).mono (by omega)) ((Neat.drop Nc).mono (by omega)) (by rw [List.length_take, List.length_drop, List.length_map]; omega)
      rw [← ed] at hb
      have pe := show pure1 st.fin.data = true from st.fin.pure_ts
      exact ⟨ev, x, st.fin.data, d, some (.ref p), none, rfl, g4.trans g5, hB5, dp_grm g5 hB4.lst _ _ pe (dp_grm g4 hB3.lst _ _ pe hev3), hx, pe, hp, endish_tm _, Nf.mono (by omega), hb.2, .inr hb⟩
    refine iteFd (decide_eq_false fun z => s2 (by injection z with z; omega)) ⟨_, rfl, rfl, _, rfl, ?_⟩
    by_cases s3 : sort = 3
    · refine iteTd (decide_eq_true (by rw [s3]; rfl)) ?_
      have bp := BX.badPart (K := K) (H0 := H3) (cl := cl) (bi := 0) (e := false) (σ := [some (.ref bx), some (.ref ma), some lv, some (.ref sa), some (natV at_), some ev, some (.ref ca), some (natV sort), some (natV lab), some (.ref ra), some zv, none, none, none]) rfl (LenS _ rfl)
      have Bz : BX K [some (.ref bx), some (.ref ma), some lv, some (.ref sa), some (natV at_), some ev, some (.ref ca), some (natV sort), some (natV lab), some (.ref ra), some zv, none, none, none] H3 bx cl (tOp (rIxT K) (tVar 10) (tC (.int 1))) (fun d => ∃ ds, d = .tuple ds ∧ ds = lt.ts) := .dx hB3 (fun H1 g _ => Vz _ H1 g rfl) pt ⟨_, rfl, rfl⟩
      refine (BX.cat Bz (BX.one bp) (fun ds es e1 ⟨x, e2, _⟩ => by rw [e1, e2]; simp; omega)).set hB3 fun H4 x d g4 hB4 hx hp ⟨ds, es, ed, e1, y, e2, hy⟩ => ?_
      subst e1 e2 ed
      refine st_normS (t := tAsg _ _) (σ' := [some (.ref bx), some (.ref ma), some lv, some (.ref sa), some (natV at_), some ev, some (.ref ca), some (natV sort), some (natV lab), some (.ref ra), some zv, none, some x, none]) rfl ?_
      have hc4 := dp_grm g4 hB3.lst _ _ (trows_pure _) hcv3
      have Vc := BX.varT (K := K) (H0 := H4) (cl := cl) (σ := [some (.ref bx), some (.ref ma), some lv, some (.ref sa), some (natV at_), some ev, some (.ref ca), some (natV sort), some (natV lab), some (.ref ra), some zv, none, some x, none]) (i := 6) (ds := st.rows.map trowD) hB4 hc4 (trows_pure _) rfl
      have hbr : badRow m.looks.length m.sts.length (.tuple (ini.map tchD ++ [.tuple [.int (-1), .tuple (lt.ts ++ [y])]])) := row_choice Ni (by omega) ((Neat.app Nt (hy.2.2.one.mono (by omega)) (by simp; omega)).mono (by omega)) (by
        have z : tmAll (lt.ts ++ [y]) m.sts.length true 1 = false := tmAll_bad (p := y) (by simp) hy.1
        rw [tmF, z, Bool.and_false])
      refine BX.go (BX.swap (n := lab) Vc rfl (BX.dx (P := badRow m.looks.length m.sts.length) hB4 (fun H1 g _ => .cat (Vi _ H1 (g4.trans g) rfl) (.tup (.cons (.tup (.cons (.nx (.neg .c)) (.cons (.var (dp_grm g hB4.lst _ _ hp hx) rfl) .nil)) (by simp)) .nil) (by simp)) (by simp; omega)) (by show pureAll (_ ++ _) = true; rw [pureAll_app, pi, pureAll, pure_two rfl hp]; rfl) hbr) (by rw [List.length_map]; omega)) hB4 fun H5 x' d g5 hB5 hx hp ⟨r, ed, hr⟩ => ?_
      have hb := chs_row (es := (st.rows.map trowD).drop (lab + 1)) hr ((Neat.take (n := lab) Nc).mono (by omega)) ((Neat.drop Nc).mono (by omega)) (by rw [List.length_take, List.length_drop, List.length_map]; omega)
      rw [← ed] at hb
      have pe := show pure1 st.fin.data = true from st.fin.pure_ts
      exact ⟨ev, x', st.fin.data, d, none, some x, rfl, g4.trans g5, hB5, dp_grm g5 hB4.lst _ _ pe (dp_grm g4 hB3.lst _ _ pe hev3), hx, pe, hp, endish_tm _, Nf.mono (by omega), hb.2, .inr hb⟩
    refine iteFd (decide_eq_false fun z => s3 (by injection z with z; omega)) ?_
    have Vc : ∀ (H1 : Hp), Gr [bx] H3 H1 → DX K [some (.ref bx), some (.ref ma), some lv, some (.ref sa), some (natV at_), some ev, some (.ref ca), some (natV sort), some (natV lab), some (.ref ra), some zv, none, none, none] H1 (tVar 6) (.tuple (st.rows.map trowD)) := fun H1 g => .var (dp_grm g hB3.lst _ _ (trows_pure _) hcv3) rfl
    have pc : pureAll (st.rows.map trowD) = true := trows_pure _
    refine BX.go (BX.pickA (K := K) (H0 := H3) (bx := bx) (cl := cl) (k := 5) (P := badChs m.looks.length m.sts.length) rfl
      (.cons (.dx hB3 (fun H1 g _ => .drop (n := 1) (Vc H1 g) .c rfl) (pureAll_iff.mpr fun z hz => pureAll_iff.mp pc z (List.mem_of_mem_drop hz)) (chs_len (by rw [List.length_drop, List.length_map]; omega) ((Neat.drop Nc).mono (by omega))))
      (.cons (.dx hB3 (fun H1 g _ => .cat (Vc H1 g) (.tup (.cons (Vr _ H1 g rfl) .nil) (by simp)) (by simp; omega)) (by show pureAll (_ ++ _) = true; rw [pureAll_app, pc, pureAll, show pure1 (PyData.tuple (row.map tchD)) = true from pm]; rfl) (chs_len (by rw [List.length_append, List.length_map]; simp; omega) ((Neat.app Nc (Nm.one) (by simp; omega)).mono (by omega))))
      (.cons (BX.tup0.ofEq (chs_len (by simp) (Neat.nil.mono (by omega))))
      (.cons (BX.non.ofEq (chs_no (by simp) (Neat.none.mono (by omega))))
      (.cons (BX.int.ofEq (chs_no (by simp) ((Neat.int _).mono (by omega))))
      .nil))))) (by decide) (by decide)) hB3 fun H4 x d g4 hB4 hx hp hd => ?_
    have pe := show pure1 st.fin.data = true from st.fin.pure_ts
    exact ⟨ev, x, st.fin.data, d, none, none, rfl, g4, hB4, dp_grm g4 hB3.lst _ _ pe hev3, hx, pe, hp, endish_tm _, Nf.mono (by omega), hd.2, .inr hd⟩
  rintro σ H4 ⟨e', c', ed, cd, y11, y12, rfl, g4, hB4, he4, hc4, pe4, pc4, en4, ne4, nc4, bad4⟩
  refine st_normS (t := tSeq _ _) (σ' := [some (.ref bx), some (.ref ma), some lv, some (.ref sa), some (natV at_), some e', some c', some (natV sort), some (natV lab), some (.ref ra), some zv, y11, y12, none]) rfl ?_
  refine set_x (K := K) (.tup (.cons (.var he4 rfl) (.cons (.var hc4 rfl) .nil)) (by simp)) fun H5 x5 g5 hx5 => ?_
  have hB5 := hB4.gr g5
  have he5 := he4.gr g5
  have hc5 := hc4.gr g5
  refine st_normS (t := Evl.tCut _ _) (σ' := [some (.ref bx), some (.ref ma), some lv, some (.ref sa), some (natV at_), some e', some c', some (natV sort), some (natV lab), some (.ref ra), some zv, y11, y12, some x5]) rfl ?_
  refine ⟨fun σ H' => ∃ (x : V) (d : PyData), σ = [some (.ref bx), some (.ref ma), some lv, some (.ref sa), some (natV at_), some e', some c', some (natV sort), some (natV lab), some (.ref ra), some zv, y11, y12, some x] ∧ Gr [bx] H5 H' ∧ BoxAt H' bx cl ∧ Dp K H' x d ∧ pure1 d = true ∧ Neat 32 d ∧ badTS m.looks.length m.sts.length d, ?_, ?_⟩
  · have hps : pure1 (.tuple [ed, cd]) = true := pure_two pe4 pc4
    refine ⟨_, rfl, bx, cl, 8, rfl, by decide, by decide, hB5, fun z H6 z0 z1 g6 hB6 => ⟨rfl, _, rfl, ?_⟩⟩
    by_cases hz : z = 0
    · subst hz
      refine iteTd (by decide) ?_
      have Ve : ∀ (H1 : Hp), Gr [bx] H6 H1 → DX K [some (.ref bx), some (.ref ma), some lv, some (.ref sa), some (natV at_), some e', some c', some (natV sort), some (natV lab), some (.ref ra), some zv, y11, y12, some x5] H1 (tVar 5) ed := fun H1 g => .var (dp_grm g hB6.lst _ _ pe4 (dp_grm g6 hB5.lst _ _ pe4 he5)) rfl
      have Vc : ∀ (H1 : Hp), Gr [bx] H6 H1 → DX K [some (.ref bx), some (.ref ma), some lv, some (.ref sa), some (natV at_), some e', some c', some (natV sort), some (natV lab), some (.ref ra), some zv, y11, y12, some x5] H1 (tVar 6) cd := fun H1 g => .var (dp_grm g hB6.lst _ _ pc4 (dp_grm g6 hB5.lst _ _ pc4 hc5)) rfl
      refine BX.go (BX.pickA (K := K) (H0 := H6) (bx := bx) (cl := cl) (k := 5) (P := fun d => Neat 32 d ∧ badTS m.looks.length m.sts.length d) rfl
        (.cons (.dx (d := .tuple [ed]) hB6 (fun H1 g _ => .tup (.cons (Ve H1 g) .nil) (by simp)) (by show (pure1 _ && true) = true; rw [pe4]; rfl) ⟨ne4.one.mono (by omega), .inl rfl⟩)
        (.cons (BX.tup0.ofEq ⟨Neat.nil.mono (by omega), .inl rfl⟩)
        (.cons (BX.non.ofEq ⟨Neat.none.mono (by omega), .inl rfl⟩)
        (.cons (.dx (d := .tuple [cd, ed]) hB6 (fun H1 g _ => .tup (.cons (Vc H1 g) (.cons (Ve H1 g) .nil)) (by simp)) (pure_two pc4 pe4) ⟨(Neat.tup2 nc4 (ne4.mono (by omega))).mono (by omega), .inl (endish_no en4 _)⟩)
        (.cons (.dx (d := .tuple [ed, cd, .int 0]) hB6 (fun H1 g _ => .tup (.cons (Ve H1 g) (.cons (Vc H1 g) (.cons .int .nil))) (by simp)) (by show (pure1 _ && (pure1 _ && (true && true))) = true; rw [pe4, pc4]; rfl) ⟨(Neat.tup3 (ne4.mono (by omega)) nc4 ((Neat.int 0).mono (by omega))).mono (by omega), .inl (state_three _ _ _)⟩)
        .nil))))) (by decide) (by decide)) hB6 fun H7 x d g7 hB7 hx hp hd => ?_
      exact ⟨x, d, rfl, g6.trans g7, hB7, hx, hp, hd.1, hd.2⟩
    · refine iteFd (decide_eq_false fun e => hz (by injection e)) ?_
      exact ⟨x5, _, rfl, g6, hB6, dp_grm g6 hB5.lst _ _ hps hx5, hps, (Neat.tup2 (ne4.mono (by omega : 12 ≤ 30)) nc4).mono (by omega), by
        rcases bad4 with b | b
        · exact badTS_end b
        · exact badTS_chs b⟩
  rintro σ H6 ⟨x6, d6, rfl, g6, hB6, hx6, hp6, hn6, hb6⟩
  have g36 : Gr [bx] H3 H6 := g4.trans (g5.any.trans g6)
  have sv6 : Dp K H6 (.ref sa) (.tuple (m.sts.map tstD)) := dp_grm g36 hB3.lst _ _ (sts_pure _) hsv3
  have lv6 := dp_grm g36 hB3.lst _ _ (schD_pure _) hlv3
  have sw := BX.swap (K := K) (H0 := H6) (cl := cl) (σ := [some (.ref bx), some (.ref ma), some lv, some (.ref sa), some (natV at_), some e', some c', some (natV sort), some (natV lab), some (.ref ra), some zv, y11, y12, some x6]) (i := 3) (j := 4) (n := at_) (BX.varT hB6 sv6 sp rfl) rfl (BX.var hB6 hx6 hp6 (i := 13) rfl) (by rw [List.length_map]; omega)
  refine BX.go (BX.tup2 (BX.var (i := 2) hB6 lv6 lp rfl) sw) hB6 fun H7 x d g7 hB7 hx hp ⟨l, s, e, e1, y, e2, e3⟩ => ?_
  subst e1 e3 e2 e
  have hlen : ((m.sts.map tstD).take at_ ++ [y] ++ (m.sts.map tstD).drop (at_ + 1)).length = m.sts.length := by
    rw [List.length_append, List.length_append, List.length_take, List.length_drop, List.length_map]; simp; omega
  refine q _ x H7 ⟨trans_bad (st := y) (by simp) (by rw [hlen]; exact hb6), ?_, hp⟩ (g03.trans (g36.trans g7)) hB7 hx
  exact (Neat.tup2 (Ln.mono (by omega : 5 ≤ 36)) ((Neat.app (Neat.app (k := 33) ((Neat.take Sn).mono (by omega)) hn6.one (by rw [List.length_take, List.length_map]; simp; omega)) ((Neat.drop Sn).mono (by omega)) (by rw [List.length_append, List.length_take, List.length_drop, List.length_map]; simp; omega)).mono (by omega))).mono (by omega)
end
end LW
set_option maxHeartbeats 2000000
namespace LW
open PySem PySem.Spec PyProof.Rows L2
/-! ### t * z for any whole number z -/
theorem mul_low (l : Addr) (items : Array Value) (n : Nat) (dd : Option Addr) (sl : Array (Option Value)) (a : Int) (u : Tok) (hi : items.isEmpty = false) (ha : a ≤ 0) (hlo : -1000 ≤ a) :
    Meets (Builtin.«tuple.__mul__» ⟨[.ref l, .int a u], []⟩) (fun _ R s => s.heap.get? l = some { cls := .type "tuple", dict := dd, data := .seq items n, slots := sl } ∧ R (.ok (.ret (Value.ref s.heap.objs.size))) { s with heap := s.heap.push { cls := Value.type "tuple", data := Data.seq #[] }, toks := s.toks }) :=
  .of_wp fun prog w A R s h => by
    obtain ⟨hp, g, d, tk, os⟩ := s
    obtain ⟨hl, h⟩ := h
    have f1 := AutoSeq1.idx_int
    have c0 : (decide (a < -2 ^ 63) || decide (a ≥ 2 ^ 63)) = false := by rw [decide_eq_false (by omega), decide_eq_false (by omega)]; rfl
    have c1 : (items.isEmpty || a == 1) = false := by rw [hi, Bool.false_or]; exact beq_eq_false_iff_ne.mpr (by omega)
    have c2 : (decide (a ≤ 0) || items.isEmpty) = true := by rw [decide_eq_true ha]; rfl
    wp_walk using wpAny_loadPart' hl
    repeat (first
      | (refine wpAny_ite_false (decide_eq_false (by rw [c0]; exact Bool.false_ne_true)) ?_; wp_walk using wpAny_loadPart' hl)
      | (refine wpAny_ite_false (decide_eq_false (by rw [c1]; exact Bool.false_ne_true)) ?_; wp_walk using wpAny_loadPart' hl)
      | (refine wpAny_ite_true (decide_eq_true c2) ?_; wp_walk using wpAny_loadPart' hl))
    exact ⟨_, rfl, h⟩
def rRepZ (K : PySem.W.Frag) : R2 := fun x y H Q => ∃ (l : Addr) (z : Int) (xs : List V), x = .ref l ∧ y = .int z ∧ SqT K H l xs ∧ xs ≠ [] ∧ (-1000 ≤ z ∧ z ≤ 1000) ∧ xs.length ≤ 1000 ∧ (z = 1 → Q (.ref l) H) ∧ (z ≠ 1 → ∀ p, H p = none → Q (.ref p) (upd H p (.tup (List.replicate z.toNat xs).flatten)))
theorem op_repZ {X : Cx} : OpR X (binaryOp .Mult) (rRepZ X.K) := by
  intro pins s σ H x y v u Q I rx ry h
  obtain ⟨l, z, xs, rfl, rfl, hT, hne, ⟨hlo, hk⟩, hz, q1, q2⟩ := h
  by_cases z0 : 0 ≤ z
  · exact op_repA pins s σ H _ _ v u Q I rx ry ⟨l, z.toNat, xs, rfl, by rw [Int.toNat_of_nonneg z0], hT, hne, by omega, hz, fun e => q1 (by omega), fun e => q2 (by omega)⟩
  cases rx
  obtain ⟨t, rfl⟩ := ry
  obtain ⟨its, r, ⟨⟨cls, dd, data, sl⟩, ho, hc, n, hd⟩, hs⟩ := I.tuple hT
  simp only at hc hd
  subst hc hd
  have hle : its.length = xs.length := r.length.symm
  have hi : its.toArray.isEmpty = false := by
    cases its with
    | nil => exact absurd (List.eq_nil_of_length_eq_zero hle.symm) hne
    | cons a b => rfl
  refine wpAny_binaryOp_repeat_ref (T := "tuple") (U := "int") (by decide) ⟨_, ho, rfl⟩ (fun s' => typeIs_int s' _ t) noFill_tuple_mul F.fills_int_mul F.slot_int_rmul repeat_tuple F.slot_int_index.lookup
    (call_meets F.slot_int_rmul (typeIs_int s _ t) F.entry_int_rmul (F.args_int_rmul_2 _ _) (int_rmul_tuple _ t l its.toArray n dd sl) ⟨ho, rfl, ⟨_, ho, rfl⟩, ?_⟩)
  refine call_meets PySem.F.slot_tuple_mul ⟨_, ho, rfl⟩ PySem.F.entry_tuple_mul (PySem.F.args_tuple_mul_2 _ _) (mul_low l its.toArray n dd sl z t hi (by omega) hlo) ⟨ho, ?_⟩
  have e0 : z.toNat = 0 := by omega
  have q := q2 (by omega) _ (I.hok.fresh (Nat.le_refl _))
  rw [e0] at q
  refine ⟨.ref s.heap.objs.size, _, I.laid (t' := s.toks) (o := .tup []) (fun b ob q => Heap.get?_push_of_some _ q) (Nat.le_refl _) ?_, rfl, q⟩
  exact ⟨Nat.zero_le _, [], .nil, IsTup.new _ _⟩
section
variable {K : PySem.W.Frag} {σ : L2.St} {H0 : Hp}
theorem dpAll_reps {H : Hp} {xs : List V} {ds : List PyData} (h : DpAll K H xs ds) : ∀ n : Nat, DpAll K H (List.replicate n xs).flatten (List.replicate n ds).flatten
  | 0 => .nil
  | n + 1 => by rw [List.replicate_succ, List.replicate_succ, List.flatten_cons, List.flatten_cons]; exact h.append (dpAll_reps h n)
theorem flat1 {α : Type} (x : α) : ∀ n : Nat, (List.replicate n [x]).flatten = List.replicate n x
  | 0 => rfl
  | n + 1 => by rw [List.replicate_succ, List.replicate_succ, List.flatten_cons, flat1 x n]; rfl
/-- (x,) * z -/
theorem DX.repZ {a b : TE} {d : PyData} {z : Int} (ha : DX K σ H0 a (.tuple [d])) (hb : NX K σ H0 b z) (hlo : -1000 ≤ z) (hz : z ≤ 1000) : DX K σ H0 (tOp (rRepZ K) a b) (.tuple (List.replicate z.toNat d)) := fun H1 Q g k =>
  ha H1 _ g fun H2 x g2 hx => hb H2 _ (g.trans g2) (by
    obtain ⟨l, xs, rfl, hs, hxs⟩ := hx.tupI
    have lx := hxs.length
    have el : (List.replicate z.toNat [d]).flatten = List.replicate z.toNat d := flat1 d _
    refine ⟨l, z, xs, rfl, rfl, hs, (fun e => by rw [e] at lx; cases lx), ⟨hlo, hz⟩, by rw [lx]; simp, fun e => ?_, fun e p np => ?_⟩
    · subst e
      exact k _ _ g2 hx
    · have gp := Gr.new (m := []) (o := .tup (List.replicate z.toNat xs).flatten) np
      refine k _ _ (g2.trans gp) (.tup (SqT.of upd_same) ?_)
      rw [← el]
      exact (dpAll_reps hxs _).gr gp)
end
/-! ### plain transformations -/
def ndD (b : Int) (t : Tm) : PyData := .tuple [.str "node", .int b, t.data]
def rfD (w : Bool) (p : Int) : PyData := .tuple [.str (wrd w), .int p]
def Tm.nds (b : Int) (t : Tm) : Nat → Tm
  | 0 => .nil
  | n + 1 => .node b t (Tm.nds b t n)
def Tm.rfs (w : Bool) (p : Int) : Nat → Tm
  | 0 => .nil
  | n + 1 => .ref w p (Tm.rfs w p n)
theorem Tm.nds_ts (b : Int) (t : Tm) : ∀ n, (Tm.nds b t n).ts = List.replicate n (ndD b t)
  | 0 => rfl
  | n + 1 => by rw [Tm.nds, Tm.ts, Tm.nds_ts b t n, List.replicate_succ]; rfl
theorem Tm.rfs_ts (w : Bool) (p : Int) : ∀ n, (Tm.rfs w p n).ts = List.replicate n (rfD w p)
  | 0 => rfl
  | n + 1 => by rw [Tm.rfs, Tm.ts, Tm.rfs_ts w p n, List.replicate_succ]; rfl
theorem Tm.nds_parts (b : Int) (t : Tm) : ∀ n, (Tm.nds b t n).parts = n * (1 + t.parts)
  | 0 => by simp [Tm.nds, Tm.parts]
  | n + 1 => by rw [Tm.nds, Tm.parts, Tm.nds_parts b t n, Nat.succ_mul]; omega
theorem Tm.rfs_parts (w : Bool) (p : Int) : ∀ n, (Tm.rfs w p n).parts = n
  | 0 => rfl
  | n + 1 => by rw [Tm.rfs, Tm.parts, Tm.rfs_parts w p n]; omega
theorem Tm.nds_dp (b : Int) (t : Tm) : ∀ n, (Tm.nds b t n).dp ≤ 1 + t.dp
  | 0 => Nat.zero_le _
  | n + 1 => by rw [Tm.nds, Tm.dp]; have := Tm.nds_dp b t n; omega
theorem Tm.rfs_dp (w : Bool) (p : Int) : ∀ n, (Tm.rfs w p n).dp = 0
  | 0 => rfl
  | n + 1 => by rw [Tm.rfs, Tm.dp, Tm.rfs_dp w p n]
theorem Tm.nds_ok {b : Int} {t : Tm} {m : Nat} {mf : Bool} (hb : 0 ≤ b ∧ b < 5) (ht : t.okT m mf = true) : ∀ n, (Tm.nds b t n).okT m mf = true
  | 0 => rfl
  | n + 1 => by rw [Tm.nds, Tm.okT, Tm.nds_ok hb ht n, ht, decide_eq_true hb]; rfl
theorem Tm.rfs_ok {w : Bool} {p : Int} {m : Nat} (hp : 0 ≤ p ∧ p < m) : ∀ n, (Tm.rfs w p n).okT m true = true
  | 0 => rfl
  | n + 1 => by rw [Tm.rfs, Tm.okT, Tm.rfs_ok hp n, decide_eq_true hp]; rfl
def plainS (e t : Tm) : TSt := ⟨e, List.replicate 5 [(-1, t)]⟩
def looks1 : Sch := [(true, [])]
def plainM (e t : Tm) (n : Nat) : Trn := ⟨looks1, List.replicate n (plainS e t)⟩
def looksN (n : Nat) : Sch := List.replicate n (true, [])
theorem looks_ok {n : Nat} (h : 1 ≤ n) (h2 : n ≤ 60) : SchOk (looksN n) := by
  refine ⟨by simpa [looksN] using h, by simpa [looksN] using h2, fun st hs r hr => ?_, fun st hs => ?_, ?_⟩
  · rw [(List.mem_replicate.mp hs).2] at hr; cases hr
  · rw [(List.mem_replicate.mp hs).2]; rfl
  · simp [looksN]
/-- what a tuple of states asks, told by its templates -/
theorem form_fin {s : TSt} {n : Nat} (h : tmF s.fin.data n false 1 = false) : wForm n (waits [st0Of (tstD s)]) = false := by
  have e : [st0Of (tstD s)] = [s].map st0T := st0s_T [s]
  rw [e, waits_T]
  show (tmF s.fin.data n false 1 && _) = false
  rw [h]; rfl
theorem form_row {s : TSt} {n : Nat} {r : List TCh} {c : TCh} (hr : r ∈ s.rows) (hc : c ∈ r) (h : tmF c.2.data n true 1 = false) : wForm n (waits [st0Of (tstD s)]) = false := by
  have e : [st0Of (tstD s)] = [s].map st0T := st0s_T [s]
  rw [e, waits_T]
  unfold wForm
  rw [Bool.eq_false_iff]
  intro z
  have := List.all_eq_true.mp z (c.2.data, 1, true) (by
    refine List.mem_append.mpr (.inr (List.mem_flatMap.mpr ⟨s, by simp, List.mem_map.mpr ⟨c, List.mem_flatten.mpr ⟨r, hr, hc⟩, rfl⟩⟩)))
  rw [h] at this; cases this
theorem trans_many {m : Trn} (h : 12 < m.sts.length) : transD m.data = false := by
  show transD (.tuple [schD m.looks, .tuple (m.sts.map tstD)]) = false
  rw [trans_eq, Bool.eq_false_iff]
  intro hc
  simp only [Bool.and_eq_true, decide_eq_true_eq, List.length_map] at hc
  omega
theorem trans_looks {m : Trn} (h : 8 < m.looks.length) : transD m.data = false := by
  show transD (.tuple [schD m.looks, .tuple (m.sts.map tstD)]) = false
  rw [trans_eq, Bool.eq_false_iff]
  intro hc
  simp only [Bool.and_eq_true, decide_eq_true_eq, List.length_map] at hc
  omega
theorem trans_parts {m : Trn} (h : 300 < (m.sts.map TSt.parts).sum) : transD m.data = false := by
  show transD (.tuple [schD m.looks, .tuple (m.sts.map tstD)]) = false
  rw [trans_eq, Bool.eq_false_iff]
  intro hc
  simp only [Bool.and_eq_true] at hc
  have h2 := hc.2
  unfold goalT at h2
  rw [st0s_T, wSz_T] at h2
  simp only [Bool.and_eq_true, decide_eq_true_eq] at h2
  omega
theorem trans_form {m : Trn} {s : TSt} (hs : s ∈ m.sts) (h : wForm m.sts.length (waits [st0Of (tstD s)]) = false) : transD m.data = false :=
  trans_bad (lk := m.looks) (ss := m.sts.map tstD) (List.mem_map.mpr ⟨s, hs, rfl⟩) (.inr (by rw [List.length_map]; exact h))
theorem neat_trn {m : Trn} (hl : m.looks.length ≤ 400) (hr : ∀ st ∈ m.looks, st.2.length ≤ 400) (hn : m.sts.length ≤ 400) (hs : ∀ s ∈ m.sts, (s.fin.parts ≤ 400 ∧ s.fin.dp ≤ 12) ∧ s.rows.length ≤ 400 ∧ ∀ r ∈ s.rows, r.length ≤ 400 ∧ ∀ c ∈ r, c.2.parts ≤ 400 ∧ c.2.dp ≤ 12) : Neat 40 m.data := by
  refine (Neat.tup2 ((neat_sch hl hr).mono (by omega : 5 ≤ 32)) ((Neat.tup (k := 31) (fun d hd => ?_) (by rw [List.length_map]; exact hn)).mono (by omega))).mono (by omega)
  obtain ⟨s, h, rfl⟩ := List.mem_map.mp hd
  obtain ⟨⟨h1, h2⟩, h3, h4⟩ := hs s h
  refine (Neat.tup2 ((Tm.neat h1).mono (by omega : _ ≤ 30)) ((Neat.tup (k := 29) (fun d hd => ?_) (by rw [List.length_map]; exact h3)).mono (by omega))).mono (by omega)
  obtain ⟨r, hr, rfl⟩ := List.mem_map.mp hd
  exact neat_row (k := 27) (h4 r hr).1 fun c hc => (Tm.neat ((h4 r hr).2 c hc).1).mono (by have := ((h4 r hr).2 c hc).2; omega)
theorem plain_parts (e t : Tm) : (plainS e t).parts = e.parts + 5 * t.parts := by
  simp only [TSt.parts, plainS]
  simp [List.replicate]
  omega
theorem plain_ok {e t : Tm} {n lk : Nat} (he : e.okT n false = true ∧ e.dp ≤ 9) (ht : t.okT n true = true ∧ t.dp ≤ 9) : TStOk n lk (plainS e t) := by
  refine ⟨he, rfl, fun r hr => ?_⟩
  rw [(List.mem_replicate.mp hr).2]
  exact ⟨[], t, rfl, by simp, fun c hc => by rw [List.mem_singleton.mp hc]; exact ht⟩
theorem plain_neat {e t : Tm} (he : e.parts ≤ 400 ∧ e.dp ≤ 12) (ht : t.parts ≤ 400 ∧ t.dp ≤ 12) : ((plainS e t).fin.parts ≤ 400 ∧ (plainS e t).fin.dp ≤ 12) ∧ (plainS e t).rows.length ≤ 400 ∧ ∀ r ∈ (plainS e t).rows, r.length ≤ 400 ∧ ∀ c ∈ r, c.2.parts ≤ 400 ∧ c.2.dp ≤ 12 := by
  refine ⟨he, by simp [plainS], fun r hr => ?_⟩
  rw [(List.mem_replicate.mp hr).2]
  exact ⟨by simp, fun c hc => by rw [List.mem_singleton.mp hc]; exact ht⟩
end LW
namespace LW
open PySem PySem.Spec PyProof.Rows L2
theorem sum_rep (a : Nat) : ∀ n : Nat, (List.replicate n a).sum = n * a
  | 0 => by simp
  | n + 1 => by rw [List.replicate_succ, List.sum_cons, sum_rep a n, Nat.succ_mul]; omega
theorem plainM_good {e t : Tm} {n : Nat} (h1 : 1 ≤ n) (h2 : n ≤ 12) (he : e.okT n false = true ∧ e.dp ≤ 9) (ht : t.okT n true = true ∧ t.dp ≤ 9) (hp : n * (e.parts + 5 * t.parts) ≤ 300) : transD (plainM e t n).data = true := by
  refine TrnOk.trans ⟨looks_ok (n := 1) (by decide) (by decide), (by show (1:Nat) ≤ 8; decide), by simpa [plainM] using h1, by simpa [plainM] using h2, fun s hs => ?_, ?_⟩
  · rw [(List.mem_replicate.mp hs).2]
    have e1 : (plainM e t n).sts.length = n := by simp [plainM]
    rw [e1]
    exact plain_ok he ht
  · show ((List.replicate n (plainS e t)).map TSt.parts).sum ≤ 300
    rw [List.map_replicate, sum_rep, plain_parts]
    exact hp
theorem plainM_neat {e t : Tm} {n : Nat} (hn : n ≤ 400) (he : e.parts ≤ 400 ∧ e.dp ≤ 12) (ht : t.parts ≤ 400 ∧ t.dp ≤ 12) : Neat 40 (plainM e t n).data :=
  neat_trn (by show (1:Nat) ≤ 400; decide) (by intro st hs; rw [List.mem_singleton.mp hs]; simp) (by simpa [plainM] using hn) fun s hs => by
    rw [(List.mem_replicate.mp hs).2]
    exact plain_neat he ht
theorem trn_pure (m : Trn) : pure1 m.data = true := by
  have row : ∀ r : List TCh, pure1 (trowD r) = true := fun r => by
    show pureAll (r.map tchD) = true
    rw [pureAll_iff]
    intro d hd
    obtain ⟨c, _, rfl⟩ := List.mem_map.mp hd
    show pureAll [.int c.1, c.2.data] = true
    rw [pureAll, pureAll, show pure1 c.2.data = true from c.2.pure_ts]; rfl
  refine pure_two (schD_pure _) (pureAll_iff.mpr fun d hd => ?_)
  obtain ⟨s, _, rfl⟩ := List.mem_map.mp hd
  refine pure_two (show pure1 s.fin.data = true from s.fin.pure_ts) (pureAll_iff.mpr fun d hd => ?_)
  obtain ⟨r, _, rfl⟩ := List.mem_map.mp hd
  exact row r
section
variable {K : PySem.W.Frag} {σ : L2.St} {H0 : Hp}
theorem DX.as {t : TE} {d d' : PyData} (h : DX K σ H0 t d) (e : d = d') : DX K σ H0 t d' := e ▸ h
theorem DX.blt {a b : TE} {i j : Int} (ha : NX K σ H0 a i) (hb : NX K σ H0 b j) : DX K σ H0 (tOp (rI0 fun i j => .bl (decide (i < j))) a b) (.bool (decide (i < j))) := fun H1 Q g k => ha H1 _ g (hb H1 _ g ⟨_, _, rfl, rfl, k H1 _ (Gr.refl _) (.bl _)⟩)
theorem NX.opC {C : Int → Int → Prop} {f : Int → Int → Int} {a b : TE} {i j : Int} (ha : NX K σ H0 a i) (hb : NX K σ H0 b j) (hc : C i j) : NX K σ H0 (tOp (rI C fun i j => .int (f i j)) a b) (f i j) := fun H1 Q g k => ha H1 _ g (hb H1 _ g ⟨_, _, rfl, rfl, hc, k⟩)
theorem NX.as {t : TE} {i j : Int} (h : NX K σ H0 t i) (e : i = j) : NX K σ H0 t j := e ▸ h
theorem NX.set {t : TE} {i : Int} {k : Nat} {rest : TS} {D : Ends} (h : NX K σ H0 t i) (kk : rest D (σ.set k (some (.int i))) H0) : tSeq (tAsg t (gName k)) rest D σ H0 := by
  show t σ H0 (fun x H1 => rest D (σ.set k (some x)) H1)
  exact h H0 _ (Gr.refl _) kk
end
end LW
namespace LW
open PySem PySem.Spec PyProof.Rows L2
theorem bound4_data (e t : Tm) (b : Int) (k L : Nat) : PyData.tuple [schD looks1, .tuple ([.tuple [.tuple (e.ts ++ List.replicate L (.tuple [.str "node", .int b, .tuple []])), trowsD (List.replicate 5 [(-1, t)])]] ++ ((List.replicate (k + 1) (plainS e t)).map tstD).drop 1)] = Trn.data ⟨looks1, plainS (e.app (Tm.nds b .nil L)) t :: List.replicate k (plainS e t)⟩ := by
  have h1 : tstD (plainS (e.app (Tm.nds b .nil L)) t) = .tuple [.tuple (e.ts ++ List.replicate L (.tuple [.str "node", .int b, .tuple []])), trowsD (List.replicate 5 [(-1, t)])] := by
    show PyData.tuple [.tuple (e.app (Tm.nds b .nil L)).ts, _] = _
    rw [Tm.app_ts, Tm.nds_ts]; rfl
  show _ = PyData.tuple [schD looks1, .tuple (tstD (plainS (e.app (Tm.nds b .nil L)) t) :: (List.replicate k (plainS e t)).map tstD)]
  rw [h1]; rfl
theorem bound4 {e t l : Tm} {k P t0 L : Nat} (hk : k + 1 ≤ 12) (eok : (e.app l).okT (k + 1) false = true ∧ (e.app l).dp ≤ 9) (nok : e.okT (k + 1) false = true ∧ e.dp ≤ 9) (rok : t.okT (k + 1) true = true ∧ t.dp ≤ 9) (pe : e.parts ≤ 300) (pt : t.parts ≤ 300) (pa : (e.app l).parts ≤ 400) (hsum : ((plainS (e.app l) t :: List.replicate k (plainS e t)).map TSt.parts).sum = P + L) (hlt : t0 < 2 → P + L ≤ 300) (hge : ¬ t0 < 2 → 300 < P + L) :
    transD (Trn.data ⟨looks1, plainS (e.app l) t :: List.replicate k (plainS e t)⟩) = decide (t0 < 2) ∧ Neat 40 (Trn.data ⟨looks1, plainS (e.app l) t :: List.replicate k (plainS e t)⟩) := by
  constructor
  · by_cases h2 : t0 < 2
    · rw [decide_eq_true h2]
      refine TrnOk.trans ⟨looks_ok (n := 1) (by decide) (by decide), (by show (1:Nat) ≤ 8; decide), by simp, by simp; omega, fun s hs => ?_, by rw [hsum]; exact hlt h2⟩
      have e1 : (plainS (e.app l) t :: List.replicate k (plainS e t)).length = k + 1 := by simp
      show TStOk (plainS (e.app l) t :: List.replicate k (plainS e t)).length _ s
      rw [e1]
      rcases List.mem_cons.mp hs with rfl | hs
      · exact plain_ok eok rok
      · rw [(List.mem_replicate.mp hs).2]
        exact plain_ok nok rok
    · rw [decide_eq_false h2]
      refine trans_parts ?_
      show 300 < ((plainS (e.app l) t :: List.replicate k (plainS e t)).map TSt.parts).sum
      rw [hsum]; exact hge h2
  · refine neat_trn (by show (1:Nat) ≤ 400; decide) (by intro st hs; rw [List.mem_singleton.mp hs]; simp) (by simp; omega) fun s hs => ?_
    rcases List.mem_cons.mp hs with rfl | hs
    · exact plain_neat ⟨pa, by omega⟩ ⟨by omega, by omega⟩
    · rw [(List.mem_replicate.mp hs).2]
      exact plain_neat ⟨by omega, by omega⟩ ⟨by omega, by omega⟩
end LW
namespace LW
open PySem PySem.Spec PyProof.Rows L2
def rows5 (tm : Tm) (lz : Nat) : List (List TCh) := (List.replicate 5 [(-1, Tm.nil)]).take lz ++ [[(0, tm), (-1, Tm.nil)]] ++ (List.replicate 5 [(-1, Tm.nil)]).drop (lz + 1)
def m5 (tm : Tm) (lz : Nat) : Trn := ⟨looks1, [⟨.nil, rows5 tm lz⟩]⟩
theorem bound5_data (tm : Tm) (lz : Nat) : PyData.tuple [schD looks1, .tuple [.tuple [Tm.nil.data, .tuple ((List.replicate 5 (trowD [(-1, Tm.nil)])).take lz ++ [.tuple ([.tuple [.int 0, tm.data]] ++ [tchD (-1, Tm.nil)])] ++ (List.replicate 5 (trowD [(-1, Tm.nil)])).drop (lz + 1))]]] = (m5 tm lz).data := by
  show _ = PyData.tuple [schD looks1, .tuple [.tuple [Tm.nil.data, .tuple ((rows5 tm lz).map trowD)]]]
  rw [rows5, List.map_append, List.map_append, List.map_take, List.map_drop, List.map_replicate]
  rfl
theorem bound5 {tm : Tm} {lz t0 : Nat} (hl : lz < 5) (hp : tm.parts ≤ 20) (hd2 : tm.dp ≤ 12) (ok : ∀ mf, tm.okT 1 mf = true) (hd : t0 < 2 → tm.dp ≤ 9) (h10 : ∀ mf, tmF tm.data 1 mf 1 = decide (t0 < 2)) :
    transD (m5 tm lz).data = decide (t0 < 2) ∧ Neat 40 (m5 tm lz).data := by
  have mem : ∀ r ∈ rows5 tm lz, r = [(-1, Tm.nil)] ∨ r = [(0, tm), (-1, Tm.nil)] := fun r hr => by
    rcases List.mem_append.mp hr with hr | hr
    · rcases List.mem_append.mp hr with hr | hr
      · exact .inl (List.mem_replicate.mp (List.mem_of_mem_take hr)).2
      · exact .inr (List.mem_singleton.mp hr)
    · exact .inl (List.mem_replicate.mp (List.mem_of_mem_drop hr)).2
  have has : [(0, tm), (-1, Tm.nil)] ∈ rows5 tm lz := List.mem_append_left _ (List.mem_append_right _ (by simp))
  have len : (rows5 tm lz).length = 5 := by
    rw [rows5, List.length_append, List.length_append, List.length_take, List.length_drop, List.length_replicate]; simp; omega
  have sum : ((rows5 tm lz).flatten.map fun c : TCh => c.2.parts).sum = tm.parts := by
    match lz, hl with
    | 0, _ => simp [rows5, List.replicate, Tm.parts]
    | 1, _ => simp [rows5, List.replicate, Tm.parts]
    | 2, _ => simp [rows5, List.replicate, Tm.parts]
    | 3, _ => simp [rows5, List.replicate, Tm.parts]
    | 4, _ => simp [rows5, List.replicate, Tm.parts]
  constructor
  · by_cases h2 : t0 < 2
    · rw [decide_eq_true h2]
      refine TrnOk.trans ⟨looks_ok (n := 1) (by decide) (by decide), (by show (1:Nat) ≤ 8; decide), by simp [m5], by simp [m5], fun s hs => ?_, ?_⟩
      · rw [List.mem_singleton.mp hs]
        refine ⟨⟨rfl, Nat.zero_le _⟩, len, fun r hr => ?_⟩
        rcases mem r hr with rfl | rfl
        · exact ⟨[], .nil, rfl, by simp, fun c hc => by rw [List.mem_singleton.mp hc]; exact ⟨rfl, Nat.zero_le _⟩⟩
        · refine ⟨[(0, tm)], .nil, rfl, fun c hc => by rw [List.mem_singleton.mp hc]; exact ⟨(Int.le_refl 0), (show (0 : Int) < ((1 : Nat) : Int) by decide)⟩, fun c hc => ?_⟩
          simp only [List.mem_cons, List.not_mem_nil, or_false] at hc
          rcases hc with rfl | rfl
          · exact ⟨ok _, hd h2⟩
          · exact ⟨rfl, Nat.zero_le _⟩
      · show (([(⟨.nil, rows5 tm lz⟩ : TSt)]).map TSt.parts).sum ≤ 300
        have : (⟨.nil, rows5 tm lz⟩ : TSt).parts = 0 + tm.parts := by rw [← sum]; rfl
        simp only [List.map_cons, List.map_nil, List.sum_cons, List.sum_nil, this]
        omega
    · rw [decide_eq_false h2]
      exact trans_form (s := ⟨.nil, rows5 tm lz⟩) (by simp [m5]) (form_row (s := ⟨.nil, rows5 tm lz⟩) (r := [(0, tm), (-1, Tm.nil)]) (c := (0, tm)) has (by simp) (by show tmF tm.data 1 true 1 = false; rw [h10, decide_eq_false h2]))
  · refine neat_trn (by show (1:Nat) ≤ 400; decide) (by intro st hs; rw [List.mem_singleton.mp hs]; simp) (by simp [m5]) fun s hs => ?_
    rw [List.mem_singleton.mp hs]
    refine ⟨⟨Nat.zero_le _, Nat.zero_le _⟩, by rw [len]; decide, fun r hr => ?_⟩
    rcases mem r hr with rfl | rfl
    · exact ⟨by simp, fun c hc => by rw [List.mem_singleton.mp hc]; exact ⟨Nat.zero_le _, Nat.zero_le _⟩⟩
    · refine ⟨by simp, fun c hc => ?_⟩
      simp only [List.mem_cons, List.not_mem_nil, or_false] at hc
      rcases hc with rfl | rfl
      · exact ⟨by simp only; omega, hd2⟩
      · exact ⟨Nat.zero_le _, Nat.zero_le _⟩
end LW
set_option maxHeartbeats 4000000
namespace LW
open PySem PySem.Spec PyProof.Rows L2
theorem trow_pure1 (r : List TCh) : pure1 (trowD r) = true := by
  show pureAll (r.map tchD) = true
  rw [pureAll_iff]
  intro d hd
  obtain ⟨c, _, rfl⟩ := List.mem_map.mp hd
  show pureAll [.int c.1, c.2.data] = true
  rw [pureAll, pureAll, show pure1 c.2.data = true from c.2.pure_ts]; rfl
section
variable {P : Program} {w : World} {K : PySem.W.Frag} {mg : Str → Option Value} {base : Heap} {f : Addr} {fd : FuncData}
abbrev n_law_plain : List Str := ["end", "template", "many", "choices", "label", "k"]
theorem sc_law_plain : FnScope n_law_plain ["end", "template", "many"] (defScope s__law_plain) := ⟨rfl, rfl, rfl, by decide +kernel, rfl, by decide +kernel, by decide +kernel⟩
def spPlain (K : PySem.W.Frag) : Sp := fun vs H Q _ => ∃ (ev tv : V) (e t : Tm) (n : Nat), vs = [ev, tv, natV n] ∧ Dp K H ev e.data ∧ Dp K H tv t.data ∧ n ≤ 100 ∧ ∀ H' x, Gr [] H H' → Dp K H' x (plainM e t n).data → Q x H'
theorem ok_plain (F : Fun K "_law_plain" "_law_plain" s__law_plain f fd) (m_range : mg "range" = none) (m_tuple : mg "tuple" = none) : FnOk P w K mg base CX0 2 f fd ["end", "template", "many"] (spPlain K) := by
  refine F.ok sc_law_plain (fun vs H Q E h => ?_) (fun cdv A outer s H vs Q E hr h => ?_)
  · obtain ⟨_, _, _, _, _, rfl, _⟩ := h; rfl
  obtain ⟨ev, tv, e, t, n, rfl, he, ht, hn, q⟩ := h
  have nd := sc_law_plain.nd
  refine ⟨_, pss_cons (ps_set (i := 3) nd rfl (.inr rfl) (pe_callTy call_tuple_of (by rfl) m_tuple b_tuple (pa_cons (pe_lc (own := [("label", 4)]) (g := gName 4) (tt := tYes) rfl nd (pi_range1 rfl m_range (pa_cons pe_int pa_nil)) (blkOk_by (N := n_law_plain) (sc := defScope s__law_plain) (own := [("label", 4)]) (by decide +kernel)) (fun s H C cl fp => pg_name (i := 4) nd rfl (.inl rfl)) (fun s H C cl fp => pts_nil) (fun s H C cl fp => pe_tup (pa_cons (pe_tup (pa_cons (pe_un un_neg pe_int) (pa_cons (pv 1) pa_nil))) pa_nil))) pa_nil)))
    (pss_one (ps_ret (pe_tup (pa_cons (pe_tup (pa_cons (pe_tup (pa_cons pe_bl (pa_cons (pe_tup pa_nil) pa_nil))) pa_nil)) (pa_cons (pe_callTy call_tuple_of (by rfl) m_tuple b_tuple (pa_cons (pe_lc (own := [("k", 5)]) (g := gName 5) (tt := tYes) rfl nd (pi_range1 rfl m_range (pa_cons (pv 2) pa_nil)) (blkOk_by (N := n_law_plain) (sc := defScope s__law_plain) (own := [("k", 5)]) (by decide +kernel)) (fun s H C cl fp => pg_name (i := 5) nd rfl (.inl rfl)) (fun s H C cl fp => pts_nil) (fun s H C cl fp => pe_tup (pa_cons (pv 0) (pa_cons (pv 3) pa_nil)))) pa_nil)) pa_nil))))), ?_⟩

  have pe : pure1 e.data = true := e.pure_ts
  have pt : pure1 t.data = true := t.pure_ts
  have pr : pure1 (trowD [(-1, t)]) = true := trow_pure1 _
  refine ⟨_, rfl, by decide, by decide, fun D nD => lc_range (lo := 0) (n := (5 : Int).toNat) (fun i H4 => LsD K H H4 D (List.replicate i (trowD [(-1, t)]))) (LsD.start nD) (fun i H4 hi hP => ?_) (fun H4 hP => ?_)⟩
  · have hi : i < 5 := hi
    refine ⟨rfl, ?_⟩
    unfold tYes
    dsimp only
    rw [if_pos rfl]
    refine DX.go (K := K) (H0 := H4) (.tup (.cons (.tup (.cons (.nx (.neg .c)) (.cons (.var (ht.gr hP.gr) rfl) .nil)) (by simp)) .nil) (by simp)) (Gr.refl _) (fun H5 y g5 hy => ?_)
    have hL5 := hP.step g5
    obtain ⟨zs, hz1, hz2⟩ := hL5.ex
    have lz := hz2.length
    rw [List.length_replicate] at lz
    refine ⟨zs, hz1, small4 (by omega), ?_⟩
    rw [List.replicate_succ']
    exact hL5.put (pureAll_iff.mpr fun d hd => by rw [(List.mem_replicate.mp hd).2]; exact pr) hy pr hz1
  have hP : LsD K H H4 D (List.replicate 5 (trowD [(-1, t)])) := hP
  obtain ⟨zs, hz1, hz2⟩ := hP.ex
  refine ⟨D, zs, rfl, .inl ⟨SqL.of hz1, fun p5 n5 => ?_⟩⟩
  have g5 := hP.gr.trans (Gr.new (m := []) (o := .tup zs) n5)
  have h5 : Dp K (upd H4 p5 (.tup zs)) (.ref p5) (.tuple (List.replicate 5 (trowD [(-1, t)]))) := .tup (SqT.of upd_same) (hz2.gr (Gr.new (m := []) n5))
  generalize (upd H4 p5 (.tup zs)) = H5 at g5 h5 ⊢
  have hc : trowsD (List.replicate 5 [(-1, t)]) = .tuple (List.replicate 5 (trowD [(-1, t)])) := by rw [trowsD, List.map_replicate]
  have ps : pure1 (tstD (plainS e t)) = true := pure_two pe (by
    show pure1 (trowsD (List.replicate 5 [(-1, t)])) = true
    rw [hc]
    exact pureAll_iff.mpr fun d hd => by rw [(List.mem_replicate.mp hd).2]; exact pr)
  dsimp only [gName]
  refine st_normS (t := tRet _) (σ' := [some ev, some tv, some (natV n), some (.ref p5), none, none]) rfl ?_
  refine DX.go (K := K) (H0 := H5) (d := .tuple [.tuple [.tuple [.bool true, .tuple []]], .tuple (List.replicate n (tstD (plainS e t)))]) (.tup (.cons (.tup (.cons (.tup (.cons .bl (.cons (.tup .nil (by simp)) .nil)) (by simp)) .nil) (by simp)) (.cons (fun H6 Q6 g6 k6 => ?_) .nil)) (by simp)) (Gr.refl _) fun H6 x6 g6 hx6 => q _ _ (g5.trans g6) (by
    show Dp K _ _ (.tuple [.tuple [.tuple [.bool true, .tuple []]], .tuple ((List.replicate n (plainS e t)).map tstD)])
    rw [List.map_replicate]
    exact hx6)
  have h6 := h5.gr g6
  have he6 := he.gr (g5.trans g6)
  refine ⟨_, rfl, _, rfl, by omega, by omega, fun D2 nD2 => lc_range (lo := 0) (n := (n : Int).toNat) (fun i H7 => LsD K H6 H7 D2 (List.replicate i (tstD (plainS e t)))) (LsD.start nD2) (fun i H7 hi hP => ?_) (fun H7 hP => ?_)⟩
  · rw [Int.toNat_natCast] at hi
    refine ⟨rfl, ?_⟩
    unfold tYes
    dsimp only
    rw [if_pos rfl]
    refine DX.go (K := K) (H0 := H7) (.tup (.cons (.var (he6.gr hP.gr) rfl) (.cons (.var (h6.gr hP.gr) rfl) .nil)) (by simp)) (Gr.refl _) (fun H8 y g8 hy => ?_)
    have hL5 := hP.step g8
    obtain ⟨zs, hz1, hz2⟩ := hL5.ex
    have lz := hz2.length
    rw [List.length_replicate] at lz
    refine ⟨zs, hz1, small4 (by omega), ?_⟩
    rw [List.replicate_succ']
    refine hL5.put (pureAll_iff.mpr fun d hd => by rw [(List.mem_replicate.mp hd).2]; exact ps) ?_ ps hz1
    rw [← hc] at hy
    exact hy
  rw [Int.toNat_natCast] at hP
  obtain ⟨zs, hz1, hz2⟩ := hP.ex
  refine ⟨D2, zs, rfl, .inl ⟨SqL.of hz1, fun p8 n8 => ?_⟩⟩
  have g8 := hP.gr.trans (Gr.new (m := []) (o := .tup zs) n8)
  exact k6 _ _ g8 (.tup (SqT.of upd_same) (hz2.gr (Gr.new (m := []) n8)))
end
end LW
set_option maxHeartbeats 4000000
namespace LW
open PySem PySem.Spec PyProof.Rows L2
section
variable {P : Program} {w : World} {K : PySem.W.Frag} {mg : Str → Option Value} {base : Heap} {f : Addr} {fd : FuncData}
abbrev n_law_bound : List Str := ["box", "more", "sort", "states", "share", "left", "m", "end", "choices", "template", "k", "looks", "label", "mine", "part"]
theorem sc_law_bound : FnScope n_law_bound ["box"] (defScope s__law_bound) := ⟨rfl, rfl, rfl, by decide +kernel, rfl, by decide +kernel, by decide +kernel⟩
def spBoundT (K : PySem.W.Frag) : Sp := fun vs H Q _ => ∃ (bx cl : Addr), vs = [.ref bx] ∧ BoxAt H bx cl ∧ ∀ (m : Trn) (good : Bool) x H', transD m.data = good → Neat 40 m.data → pure1 m.data = true → Gr [bx] H H' → BoxAt H' bx cl → Dp K H' x (.tuple [m.data, .bool good]) → Q x H'
theorem ok_boundT (F : Fun K "_law_bound" "_law_bound" s__law_bound f fd) (f__law_take : Fn P w K mg base CX0 4 "_law_take" ["box", "m"] spTake) (f__law_plain : Fn P w K mg base CX0 4 "_law_plain" ["end", "template", "many"] (spPlain K)) (m_range : mg "range" = none) : FnOk P w K mg base CX0 5 f fd ["box"] (spBoundT K) := by
  refine F.ok sc_law_bound (fun vs H Q E h => ?_) (fun cdv A outer s H vs Q E hr h => ?_)
  · obtain ⟨_, _, rfl, _⟩ := h; rfl
  obtain ⟨bx, cl, rfl, hB, q⟩ := h
  have nd := sc_law_bound.nd
  refine ⟨_, pss_cons (ps_set (i := 1) nd rfl (.inl rfl) (pe_op op_sub (pe_fn f__law_take hr rfl pass0 (pa_cons (pv 0) (pa_cons pe_int pa_nil))) pe_int))
    (pss_cons (ps_set (i := 2) nd rfl (.inl rfl) (pe_fn f__law_take hr rfl pass0 (pa_cons (pv 0) (pa_cons pe_int pa_nil))))
    (pss_cons (ps_if (pt_cmpR op_eq (pv 2) pe_int (nomark _))
      (pss_one (ps_ret (pe_tup (pa_cons (pe_fn f__law_plain hr rfl pass0 (pa_cons (pe_tup pa_nil) (pa_cons (pe_tup pa_nil) (pa_cons (pe_op op_add pe_int (pv 1)) pa_nil)))) (pa_cons (pe_cmpR op_lt (pv 1) pe_int (nomark _)) pa_nil)))))
      pss_nil)
    (pss_cons (ps_if (pt_cmpR op_eq (pv 2) pe_int (nomark _))
      (pss_cons (ps_set (i := 3) nd rfl (.inl rfl) (pe_op op_add pe_int (pe_fn f__law_take hr rfl pass0 (pa_cons (pv 0) (pa_cons pe_int pa_nil)))))
      (pss_cons (ps_set (i := 4) nd rfl (.inl rfl) (pe_op op_fdiv pe_int (pe_op op_mul pe_int (pv 3))))
      (pss_cons (ps_set (i := 5) nd rfl (.inl rfl) (pe_op op_sub (pe_op op_add pe_int (pv 1)) (pe_op op_mul (pe_op op_mul pe_int (pv 4)) (pv 3))))
      (pss_cons (ps_set (i := 6) nd rfl (.inl rfl) (pe_fn f__law_plain hr rfl pass0 (pa_cons (pe_op (r := rRepZ K) op_repZ (pe_tup (pa_cons (pe_tup (pa_cons pe_str (pa_cons pe_int (pa_cons (pe_tup pa_nil) pa_nil)))) pa_nil)) (pv 4)) (pa_cons (pe_op (r := rRepZ K) op_repZ (pe_tup (pa_cons (pe_tup (pa_cons pe_str (pa_cons pe_int pa_nil))) pa_nil)) (pv 4)) (pa_cons (pv 3) pa_nil)))))
      (pss_cons (ps_asg (pe_ix (r := rIxT K) ix_tup (pe_ix (r := rIxT K) ix_tup (pv 6) pe_int (fun _ _ => rfl)) pe_int (fun _ _ => rfl)) (pg_tup rfl (pgs_cons (pg_name (i := 7) nd rfl (.inl rfl)) (pgs_cons (pg_name (i := 8) nd rfl (.inl rfl)) pgs_nil))))
      (pss_one (ps_ret (pe_tup (pa_cons (pe_tup (pa_cons (pe_ix (r := rIxT K) ix_tup (pv 6) pe_int (fun _ _ => rfl)) (pa_cons (pe_op (r := rCatA K) op_catA (pe_tup (pa_cons (pe_tup (pa_cons (pe_op (r := rCatA K) op_catA (pv 7) (pe_op (r := rRepZ K) op_repZ (pe_tup (pa_cons (pe_tup (pa_cons pe_str (pa_cons pe_int (pa_cons (pe_tup pa_nil) pa_nil)))) pa_nil)) (pv 5))) (pa_cons (pv 8) pa_nil))) pa_nil)) (pe_slice sl_tupA (pe_ix (r := rIxT K) ix_tup (pv 6) pe_int (fun _ _ => rfl)) (po_some pe_int) po_none)) pa_nil))) (pa_cons (pe_cmpR op_lt (pv 1) pe_int (nomark _)) pa_nil))))))))))
      pss_nil)
    (pss_cons (ps_if (pt_cmpR op_eq (pv 2) pe_int (nomark _))
      (pss_cons (ps_set (i := 9) nd rfl (.inl rfl) (pe_tup pa_nil))
      (pss_cons (ps_for PassesOwn.never rfl (pi_range1 rfl m_range (pa_cons (pe_op op_add pe_int (pv 1)) pa_nil)) (pg_name (i := 10) nd rfl (.inl rfl))
        (pss_one (ps_set (i := 9) nd rfl (.inl rfl) (pe_tup (pa_cons (pe_tup (pa_cons pe_str (pa_cons (pe_fn f__law_take hr rfl pass0 (pa_cons (pv 0) (pa_cons pe_int pa_nil))) (pa_cons (pv 9) pa_nil)))) pa_nil)))))
      (pss_cons (ps_asg (pe_fn f__law_plain hr rfl pass0 (pa_cons (pe_tup pa_nil) (pa_cons (pe_tup pa_nil) (pa_cons pe_int pa_nil)))) (pg_tup rfl (pgs_cons (pg_name (i := 11) nd rfl (.inl rfl)) (pgs_cons (pg_name (i := 3) nd rfl (.inl rfl)) pgs_nil))))
      (pss_cons (ps_if (pt_cmpR op_eq (pe_fn f__law_take hr rfl pass0 (pa_cons (pv 0) (pa_cons pe_int pa_nil))) pe_int (nomark _))
        (pss_one (ps_ret (pe_tup (pa_cons (pe_tup (pa_cons (pv 11) (pa_cons (pe_tup (pa_cons (pe_tup (pa_cons (pv 9) (pa_cons (pe_ix (r := rIxT K) ix_tup (pe_ix (r := rIxT K) ix_tup (pv 3) pe_int (fun _ _ => rfl)) pe_int (fun _ _ => rfl)) pa_nil))) pa_nil)) pa_nil))) (pa_cons (pe_cmpR op_lt (pv 1) pe_int (nomark _)) pa_nil)))))
        pss_nil)
      (pss_cons (ps_set (i := 12) nd rfl (.inl rfl) (pe_fn f__law_take hr rfl pass0 (pa_cons (pv 0) (pa_cons pe_int pa_nil))))
      (pss_cons (ps_set (i := 8) nd rfl (.inl rfl) (pe_ix (r := rIxT K) ix_tup (pe_ix (r := rIxT K) ix_tup (pv 3) pe_int (fun _ _ => rfl)) pe_int (fun _ _ => rfl)))
      (pss_cons (ps_set (i := 13) nd rfl (.inl rfl) (pe_op (r := rCatA K) op_catA (pe_tup (pa_cons (pe_tup (pa_cons pe_int (pa_cons (pv 9) pa_nil))) pa_nil)) (pe_ix (r := rIxT K) ix_tup (pv 8) (pv 12) (fun _ _ => rfl))))
      (pss_one (ps_ret (pe_tup (pa_cons (pe_tup (pa_cons (pv 11) (pa_cons (pe_tup (pa_cons (pe_tup (pa_cons (pe_tup pa_nil) (pa_cons (pe_op (r := rCatA K) op_catA (pe_op (r := rCatA K) op_catA (pe_slice sl_tupA (pv 8) po_none (po_some (pv 12))) (pe_tup (pa_cons (pv 13) pa_nil))) (pe_slice sl_tupA (pv 8) (po_some (pe_op op_add (pv 12) pe_int)) po_none)) pa_nil))) pa_nil)) pa_nil))) (pa_cons (pe_cmpR op_lt (pv 1) pe_int (nomark _)) pa_nil))))))))))))
      pss_nil)
    (pss_cons (ps_if (pt_cmpR op_eq (pv 2) pe_int (nomark _))
      (pss_cons (ps_set (i := 14) nd rfl (.inl rfl) (pe_tup (pa_cons pe_str (pa_cons pe_int (pa_cons (pe_tup (pa_cons (pe_tup (pa_cons pe_str (pa_cons pe_int pa_nil))) pa_nil)) pa_nil)))))
      (pss_one (ps_ret (pe_tup (pa_cons (pe_fn f__law_plain hr rfl pass0 (pa_cons (pe_op (r := rRepZ K) op_repZ (pe_tup (pa_cons (pe_tup (pa_cons pe_str (pa_cons pe_int (pa_cons (pe_tup pa_nil) pa_nil)))) pa_nil)) (pe_op op_add (pe_op op_mul pe_int pe_int) (pv 1))) (pa_cons (pe_op (r := rRepZ K) op_repZ (pe_tup (pa_cons (pv 14) pa_nil)) pe_int) (pa_cons pe_int pa_nil)))) (pa_cons (pe_cmpR op_lt (pv 1) pe_int (nomark _)) pa_nil))))))
      pss_nil)
    (pss_cons (ps_if (pt_cmpR op_eq (pv 2) pe_int (nomark _))
      (pss_cons (ps_set (i := 9) nd rfl (.inl rfl) (pe_tup (pa_cons (pe_tup (pa_cons pe_str (pa_cons pe_int pa_nil))) pa_nil)))
      (pss_cons (ps_for PassesOwn.never rfl (pi_range1 rfl m_range (pa_cons (pe_op op_add pe_int (pv 1)) pa_nil)) (pg_name (i := 10) nd rfl (.inl rfl))
        (pss_one (ps_set (i := 9) nd rfl (.inl rfl) (pe_tup (pa_cons (pe_tup (pa_cons pe_str (pa_cons pe_int (pa_cons (pv 9) pa_nil)))) pa_nil)))))
      (pss_one (ps_ret (pe_tup (pa_cons (pe_fn f__law_plain hr rfl pass0 (pa_cons (pe_tup pa_nil) (pa_cons (pv 9) (pa_cons pe_int pa_nil)))) (pa_cons (pe_cmpR op_lt (pv 1) pe_int (nomark _)) pa_nil)))))))
      pss_nil)
    (pss_cons (ps_set (i := 6) nd rfl (.inl rfl) (pe_fn f__law_plain hr rfl pass0 (pa_cons (pe_tup pa_nil) (pa_cons (pe_tup pa_nil) (pa_cons pe_int pa_nil)))))
    (pss_one (ps_ret (pe_tup (pa_cons (pe_tup (pa_cons (pe_op (r := rRepZ K) op_repZ (pe_tup (pa_cons (pe_tup (pa_cons pe_bl (pa_cons (pe_tup pa_nil) pa_nil))) pa_nil)) (pe_op op_add pe_int (pv 1))) (pa_cons (pe_ix (r := rIxT K) ix_tup (pv 6) pe_int (fun _ _ => rfl)) pa_nil))) (pa_cons (pe_cmpR op_lt (pv 1) pe_int (nomark _)) pa_nil)))))))))))), ?_⟩

  refine ⟨_, rfl, bx, cl, 3, rfl, by decide, by decide, hB, fun t H1 t0 t1 g1 hB1 => ⟨_, _, rfl, rfl, ?_⟩⟩
  obtain ⟨t, rfl⟩ : ∃ n : Nat, t = (n : Int) := ⟨t.toNat, by omega⟩
  refine ⟨_, rfl, bx, cl, 6, rfl, by decide, by decide, hB1, fun sort H2 u0 u1 g2 hB2 => ?_⟩
  obtain ⟨sort, rfl⟩ : ∃ n : Nat, sort = (n : Int) := ⟨sort.toNat, by omega⟩
  have g02 := g1.trans g2
  have ret : ∀ {σ : L2.St} {H' : Hp} {a : TE} (m : Trn), Gr [bx] H2 H' → BoxAt H' bx cl → DX K σ H' a m.data → σ[1]? = some (some (.int ((t : Int) - 1))) → transD m.data = decide (t < 2) → Neat 40 m.data → (tTup (tCons a (tCons (tOp (rI0 fun i j => .bl (decide (i < j))) (tVar 1) (tC (.int 1))) tNil))) σ H' Q := fun {σ H' a} m g hB' ha e ht hn =>
    DX.go (K := K) (.tup (.cons ha (.cons (.blt (.var e) .c) .nil)) (by simp)) (Gr.refl _) fun H3 x g3 hx => q m (decide (t < 2)) x H3 ht hn (trn_pure m) ((g02.trans g).trans g3.any) (hB'.gr g3) (by
      have : decide ((t : Int) - 1 < 1) = decide (t < 2) := by rw [decide_eq_decide]; omega
      rw [this] at hx
      exact hx)
  have plain : ∀ {σ : L2.St} {H' : Hp} {a b c : TE} {e tm : Tm} {n : Nat}, DX K σ H' a e.data → DX K σ H' b tm.data → NX K σ H' c (n : Int) → n ≤ 100 → DX K σ H' (tCall (spPlain K) [] E0 (tCons a (tCons b (tCons c tNil)))) (plainM e tm n).data := fun {σ H' a b c e tm n} ha hb hc hn H1 Q g k =>
    ha H1 _ g fun H2 x g2 hx => hb H2 _ (g.trans g2) fun H3 y g3 hy => hc H3 _ (g.trans (g2.trans g3)) ⟨x, y, e, tm, n, rfl, hx.gr g3, hy, hn, fun H4 z g4 hz => k H4 z (g2.trans (g3.trans g4)) hz⟩
  have dn : ∀ {σ : L2.St} {H' : Hp}, DX K σ H' (tTup tNil) Tm.nil.data := fun {σ H'} => DX.as (d := .tuple []) (.tup .nil (by simp)) rfl
  have ht3 : t < 3 := by omega
  have nil9 : ∀ n mf, Tm.nil.okT n mf = true ∧ Tm.nil.dp ≤ 9 := fun n mf => ⟨rfl, Nat.zero_le _⟩
  have nil4 : Tm.nil.parts ≤ 400 ∧ Tm.nil.dp ≤ 12 := ⟨Nat.zero_le _, Nat.zero_le _⟩
  dsimp only [gName]
  refine st_normS (t := tSeq _ _) (σ' := [some (.ref bx), some (.int ((t : Int) - 1)), some (natV sort), none, none, none, none, none, none, none, none, none, none, none, none]) rfl ?_
  refine ⟨_, rfl, rfl, _, rfl, ?_⟩
  by_cases s0 : sort = 0
  · refine iteTd (decide_eq_true (by rw [s0]; rfl)) ?_
    refine ret (plainM .nil .nil (11 + t)) (Gr.refl _) hB2 (plain dn dn (.as (.op .c (.var rfl)) (by omega)) (by omega)) rfl ?_ (plainM_neat (by omega) nil4 nil4)
    by_cases h2 : t < 2
    · rw [decide_eq_true h2]
      exact plainM_good (by omega) (by omega) (nil9 _ _) (nil9 _ _) (by show (11 + t) * 0 ≤ 300; omega)
    · rw [decide_eq_false h2]
      exact trans_many (by simp [plainM]; omega)
  refine iteFd (decide_eq_false fun z => s0 (by injection z with z; omega)) ⟨_, rfl, rfl, _, rfl, ?_⟩
  by_cases s4 : sort = 4
  · refine iteTd (decide_eq_true (by rw [s4]; rfl)) ?_
    refine ⟨_, rfl, bx, cl, 11, rfl, by decide, by decide, hB2, fun z H3 z0 z1 g3 hB3 => ?_⟩
    obtain ⟨n3, e3, n2, n12⟩ : ∃ n : Nat, (2 : Int) + z = (n : Int) ∧ 2 ≤ n ∧ n ≤ 12 := ⟨(2 + z).toNat, by omega, by omega, by omega⟩
    refine ⟨_, _, rfl, rfl, ?_⟩
    dsimp only [gName]
    rw [e3]
    refine st_normS (t := tSeq _ _) (σ' := [some (.ref bx), some (.int ((t : Int) - 1)), some (natV sort), some (natV n3), none, none, none, none, none, none, none, none, none, none, none]) rfl ?_
    obtain ⟨sh, esh⟩ : ∃ sh : Nat, sh = 300 / (6 * n3) := ⟨_, rfl⟩
    have hsh : 6 * n3 * sh ≤ 300 := by rw [esh]; exact Nat.mul_div_le 300 (6 * n3)
    have hsh2 : sh ≤ 25 := by rw [esh]; exact Nat.div_le_div_left (by omega : 12 ≤ 6 * n3) (by decide)
    have eP : ((6 : Int) * (sh : Int)) * (n3 : Int) = ((6 * n3 * sh : Nat) : Int) := by
      rw [Int.natCast_mul, Int.natCast_mul, Int.mul_right_comm]; rfl
    generalize hP : 6 * n3 * sh = P at hsh eP
    refine NX.set (K := K) (i := (sh : Int)) (.as (.opC .c (.opC .c (.var rfl) (.inl (by omega))) ⟨by omega, by omega⟩) (by
      rw [esh]
      show (300 : Int) / (6 * (n3 : Int)) = _
      rw [show (6 : Int) * (n3 : Int) = ((6 * n3 : Nat) : Int) by omega]; rfl)) ?_
    refine st_normS (t := tSeq _ _) (σ' := [some (.ref bx), some (.int ((t : Int) - 1)), some (natV sort), some (natV n3), some (natV sh), none, none, none, none, none, none, none, none, none, none]) rfl ?_
    obtain ⟨lf, elf⟩ : ∃ lf : Int, lf = 299 + (t : Int) - (P : Int) := ⟨_, rfl⟩
    refine NX.set (K := K) (i := lf) (.as (.op (.op .c (.var rfl)) (.opC (.opC .c (.var rfl) (.inl (by omega))) (.var rfl) (.inr (by omega)))) (by
      show (300 : Int) + ((t : Int) - 1) - (6 * (sh : Int) * (n3 : Int)) = lf
      rw [eP]; omega)) ?_
    refine st_normS (t := tSeq _ _) (σ' := [some (.ref bx), some (.int ((t : Int) - 1)), some (natV sort), some (natV n3), some (natV sh), some (.int lf), none, none, none, none, none, none, none, none, none]) rfl ?_
    have em := Tm.nds_ts 0 .nil sh
    have pm : DX K [some (.ref bx), some (.int ((t : Int) - 1)), some (natV sort), some (natV n3), some (natV sh), some (.int lf), none, none, none, none, none, none, none, none, none] H3 _ (plainM (Tm.nds 0 .nil sh) (Tm.rfs false 0 sh) n3).data := plain (.as (.repZ (z := (sh : Int)) (.tup (.cons (.tup (.cons .str (.cons .int (.cons (.tup .nil (by simp)) .nil))) (by simp)) .nil) (by simp)) (.var (i := 4) rfl) (by omega) (by omega)) (by rw [Int.toNat_natCast, Tm.data, Tm.nds_ts]; rfl)) (.as (.repZ (z := (sh : Int)) (.tup (.cons (.tup (.cons .str (.cons .int .nil)) (by simp)) .nil) (by simp)) (.var (i := 4) rfl) (by omega) (by omega)) (by rw [Int.toNat_natCast, Tm.data, Tm.rfs_ts]; rfl)) (.var (i := 3) rfl) (by omega)
    refine set_x pm fun H4 mv g4 hm => ?_
    have hB4 := hB3.gr g4
    refine st_normS (t := tSeq _ _) (σ' := [some (.ref bx), some (.int ((t : Int) - 1)), some (natV sort), some (natV n3), some (natV sh), some (.int lf), some mv, none, none, none, none, none, none, none, none]) rfl ?_
    have hst : (List.replicate n3 (plainS (Tm.nds 0 .nil sh) (Tm.rfs false 0 sh)))[0]? = some (plainS (Tm.nds 0 .nil sh) (Tm.rfs false 0 sh)) := by rw [List.getElem?_replicate, if_pos (by omega)]
    refine DX.go (K := K) (H0 := H4) (.ix (n := 0) (.ix (n := 1) (.var (d := .tuple [schD looks1, .tuple ((List.replicate n3 (plainS (Tm.nds 0 .nil sh) (Tm.rfs false 0 sh))).map tstD)]) hm rfl) .c rfl rfl) .c rfl (d := tstD (plainS (Tm.nds 0 .nil sh) (Tm.rfs false 0 sh))) (by rw [List.getElem?_map, hst]; rfl)) (Gr.refl _) fun H5 x g5 hx => ?_
    obtain ⟨sa, ev, cv, rfl, hsq, hev, hcv⟩ := dp_two (hx : Dp K H5 x (.tuple [(Tm.nds 0 .nil sh).data, trowsD (List.replicate 5 [(-1, Tm.rfs false 0 sh)])]))
    refine ⟨sa, _, rfl, hsq, rfl, ev, _, rfl, cv, _, rfl, rfl, ?_⟩
    have hm5 := hm.gr g5
    dsimp only
    refine st_normS (t := tRet _) (σ' := [some (.ref bx), some (.int ((t : Int) - 1)), some (natV sort), some (natV n3), some (natV sh), some (.int lf), some mv, some ev, some cv, none, none, none, none, none, none]) rfl ?_
    have dpn : (Tm.nds 0 .nil sh).dp ≤ 1 := by have := Tm.nds_dp 0 .nil sh; simpa [Tm.dp] using this
    have dpl : (Tm.nds 1 .nil lf.toNat).dp ≤ 1 := by have := Tm.nds_dp 1 .nil lf.toNat; simpa [Tm.dp] using this
    have pn : (Tm.nds 0 .nil sh).parts = sh := by rw [Tm.nds_parts]; simp [Tm.parts]
    have pl : (Tm.nds 1 .nil lf.toNat).parts = lf.toNat := by rw [Tm.nds_parts]; simp [Tm.parts]
    have pr : (Tm.rfs false 0 sh).parts = sh := Tm.rfs_parts _ _ _
    have dr : (Tm.rfs false 0 sh).dp = 0 := Tm.rfs_dp _ _ _
    have rok : (Tm.rfs false 0 sh).okT n3 true = true ∧ (Tm.rfs false 0 sh).dp ≤ 9 := ⟨Tm.rfs_ok ⟨by omega, by omega⟩ _, by omega⟩
    have nok : (Tm.nds 0 .nil sh).okT n3 false = true ∧ (Tm.nds 0 .nil sh).dp ≤ 9 := ⟨Tm.nds_ok ⟨by omega, by omega⟩ rfl _, by omega⟩
    have eok : ((Tm.nds 0 .nil sh).app (Tm.nds 1 .nil lf.toNat)).okT n3 false = true ∧ ((Tm.nds 0 .nil sh).app (Tm.nds 1 .nil lf.toNat)).dp ≤ 9 := ⟨by rw [Tm.app_ok, nok.1, Tm.nds_ok ⟨by omega, by omega⟩ rfl]; rfl, by rw [Tm.app_dp]; omega⟩
    have ep : ((Tm.nds 0 .nil sh).app (Tm.nds 1 .nil lf.toNat)).parts = sh + lf.toNat := by rw [Tm.app_parts, pn, pl]
    obtain ⟨k, rfl⟩ : ∃ k, n3 = k + 1 := ⟨n3 - 1, by omega⟩
    have hsum : (((plainS ((Tm.nds 0 .nil sh).app (Tm.nds 1 .nil lf.toNat)) (Tm.rfs false 0 sh)) :: List.replicate k (plainS (Tm.nds 0 .nil sh) (Tm.rfs false 0 sh))).map TSt.parts).sum = P + lf.toNat := by
      rw [List.map_cons, List.sum_cons, List.map_replicate, sum_rep, plain_parts, plain_parts, ep, pn, pr, ← hP, show sh + 5 * sh = 6 * sh by omega, show sh + lf.toNat + 5 * sh = 6 * sh + lf.toNat by omega, Nat.mul_right_comm, Nat.mul_succ, Nat.mul_comm k]
      omega
    have dm : DX K [some (.ref bx), some (.int ((t : Int) - 1)), some (natV sort), some (natV (k + 1)), some (natV sh), some (.int lf), some mv, some ev, some cv, none, none, none, none, none, none] H5 (tVar 6) (.tuple [schD looks1, .tuple ((List.replicate (k + 1) (plainS (Tm.nds 0 .nil sh) (Tm.rfs false 0 sh))).map tstD)]) := .var hm5 rfl
    have d1 : DX K [some (.ref bx), some (.int ((t : Int) - 1)), some (natV sort), some (natV (k + 1)), some (natV sh), some (.int lf), some mv, some ev, some cv, none, none, none, none, none, none] H5 _ (.tuple (List.replicate lf.toNat (.tuple [.str "node", .int 1, .tuple []]))) := .repZ (b := tVar 5) (.tup (.cons (.tup (.cons .str (.cons .int (.cons (.tup .nil (by simp)) .nil))) (by simp)) .nil) (by simp)) (.var rfl) (by omega) (by omega)
    have d2 : DX K [some (.ref bx), some (.int ((t : Int) - 1)), some (natV sort), some (natV (k + 1)), some (natV sh), some (.int lf), some mv, some ev, some cv, none, none, none, none, none, none] H5 _ (.tuple ((Tm.nds 0 .nil sh).ts ++ List.replicate lf.toNat (.tuple [.str "node", .int 1, .tuple []]))) := .cat (a := tVar 7) (.var (d := .tuple (Tm.nds 0 .nil sh).ts) hev rfl) d1 (by rw [Tm.nds_ts, List.length_replicate, List.length_replicate]; omega)
    have d3 : DX K [some (.ref bx), some (.int ((t : Int) - 1)), some (natV sort), some (natV (k + 1)), some (natV sh), some (.int lf), some mv, some ev, some cv, none, none, none, none, none, none] H5 _ (.tuple [.tuple ((Tm.nds 0 .nil sh).ts ++ List.replicate lf.toNat (.tuple [.str "node", .int 1, .tuple []])), trowsD (List.replicate 5 [(-1, Tm.rfs false 0 sh)])]) := .tup (.cons d2 (.cons (t := tVar 8) (.var hcv rfl) .nil)) (by simp)
    have d4 : DX K [some (.ref bx), some (.int ((t : Int) - 1)), some (natV sort), some (natV (k + 1)), some (natV sh), some (.int lf), some mv, some ev, some cv, none, none, none, none, none, none] H5 _ (.tuple (((List.replicate (k + 1) (plainS (Tm.nds 0 .nil sh) (Tm.rfs false 0 sh))).map tstD).drop 1)) := .drop (b := tC (.int 1)) (n := 1) (.ix (b := tC (.int 1)) (n := 1) dm .c rfl rfl) .c rfl
    have d5 : DX K [some (.ref bx), some (.int ((t : Int) - 1)), some (natV sort), some (natV (k + 1)), some (natV sh), some (.int lf), some mv, some ev, some cv, none, none, none, none, none, none] H5 _ (.tuple ([.tuple [.tuple ((Tm.nds 0 .nil sh).ts ++ List.replicate lf.toNat (.tuple [.str "node", .int 1, .tuple []])), trowsD (List.replicate 5 [(-1, Tm.rfs false 0 sh)])]] ++ ((List.replicate (k + 1) (plainS (Tm.nds 0 .nil sh) (Tm.rfs false 0 sh))).map tstD).drop 1)) := .cat (.tup (.cons d3 .nil) (by simp)) d4 (by simp; omega)
    have d6 := DX.tup (.cons (.ix (b := tC (.int 0)) (n := 0) dm .c rfl rfl) (.cons d5 .nil)) (by simp)
    have ed := bound4_data (Tm.nds 0 .nil sh) (Tm.rfs false 0 sh) 1 k lf.toNat
    have hb := bound4 (t0 := t) n12 eok nok rok (by omega) (by omega) (by omega) hsum (fun h => by omega) (fun h => by omega)
    generalize hm' : (⟨looks1, plainS ((Tm.nds 0 .nil sh).app (Tm.nds 1 .nil lf.toNat)) (Tm.rfs false 0 sh) :: List.replicate k (plainS (Tm.nds 0 .nil sh) (Tm.rfs false 0 sh))⟩ : Trn) = m' at ed hb
    have fin := ret m' (g3.trans (g4.trans g5).any) (hB4.gr g5) (DX.as d6 ed) rfl hb.1 hb.2
    dsimp only [tRet, cxOf]
    exact fin
  refine iteFd (decide_eq_false fun z => s4 (by injection z with z; omega)) ⟨_, rfl, rfl, _, rfl, ?_⟩
  by_cases s5 : sort = 5
  · refine iteTd (decide_eq_true (by rw [s5]; rfl)) ?_
    refine set_x (K := K) (.as (d := .tuple []) (.tup .nil (by simp)) (d' := Tm.nil.data) rfl) fun H3 tv g3 htv => ?_
    have hB3 := hB2.gr g3
    refine st_normS (t := tSeq _ _) (σ' := [some (.ref bx), some (.int ((t : Int) - 1)), some (natV sort), none, none, none, none, none, none, some tv, none, none, none, none, none]) rfl ?_
    refine ⟨_, rfl, _, _, rfl, rfl, _, rfl, by omega, by omega, for_range (n := ((9 : Int) + ((t : Int) - 1)).toNat) (fun i σ H' => ∃ (tm : Tm) (x : V) (y10 : Option V), σ = [some (.ref bx), some (.int ((t : Int) - 1)), some (natV sort), none, none, none, none, none, none, some x, y10, none, none, none, none] ∧ Gr [bx] H3 H' ∧ BoxAt H' bx cl ∧ Dp K H' x tm.data ∧ tm.dp = i ∧ tm.parts = i ∧ ∀ mf, tm.okT 1 mf = true)
      ⟨.nil, tv, none, rfl, Gr.refl _, hB3, htv, rfl, rfl, fun mf => rfl⟩ (fun i σ H4 hi hP => ?_) (fun σ H4 hP => ?_)⟩
    · obtain ⟨tm, x, y10, rfl, g4, hB4, hx, p1, p2, p3⟩ := hP
      have ptm : pure1 tm.data = true := tm.pure_ts
      refine st_normS (t := tAsg _ _) (σ' := [some (.ref bx), some (.int ((t : Int) - 1)), some (natV sort), none, none, none, none, none, none, some x, some (.int (0 + (i : Int))), none, none, none, none]) rfl ?_
      refine BX.go (BX.tup1 (BX.tup3 BX.str (BX.takeC rfl (by decide) (by decide)) (BX.var (i := 9) hB4 hx ptm rfl))) hB4 fun H5 y d g5 hB5 hy hp ⟨z, e, w1, w2, w3, e2, e3, ⟨b, hb, e4⟩, e5⟩ => ?_
      subst e e2 e3 e4 e5
      exact ⟨.node (b : Int) tm .nil, y, _, rfl, g4.trans g5, hB5, hy, by simp [Tm.dp, p1]; omega, by simp [Tm.parts, p2]; omega, fun mf => by rw [Tm.okT, p3, decide_eq_true (by omega)]; rfl⟩
    obtain ⟨tm, x, y10, rfl, g4, hB4, hx, p1, p2, p3⟩ := hP
    have en : ((9 : Int) + ((t : Int) - 1)).toNat = 8 + t := by omega
    rw [en] at p1 p2
    dsimp only
    have h10 : ∀ mf, tmF tm.data 1 mf 1 = decide (t < 2) := fun mf => by
      rw [Tm.form_of 1 mf tm (by omega), p3, p1, Bool.true_and, decide_eq_decide]; omega
    refine st_normS (t := tSeq _ _) (σ' := [some (.ref bx), some (.int ((t : Int) - 1)), some (natV sort), none, none, none, none, none, none, some x, y10, none, none, none, none]) rfl ?_
    refine (plain (e := .nil) (tm := .nil) (n := 1) dn dn .c (by omega)).go (Gr.refl _) fun H5 pv g5 hpv => ?_
    obtain ⟨pa, lv, sv, rfl, hsq, hlv, hsv⟩ := dp_two (hpv : Dp K H5 pv (.tuple [schD looks1, stsD (List.replicate 1 (plainS .nil .nil))]))
    refine ⟨pa, _, rfl, hsq, rfl, lv, _, rfl, sv, _, rfl, rfl, ?_⟩
    dsimp only
    have hB5 := hB4.gr g5
    have hx5 := hx.gr g5
    have g35 := g3.any.trans (g4.trans g5.any)
    refine st_normS (t := tSeq _ _) (σ' := [some (.ref bx), some (.int ((t : Int) - 1)), some (natV sort), some sv, none, none, none, none, none, some x, y10, some lv, none, none, none]) rfl ?_
    refine ⟨_, rfl, bx, cl, 2, rfl, by decide, by decide, hB5, fun z H6 z0 z1 g6 hB6 => ⟨rfl, _, rfl, ?_⟩⟩
    have hx6 := dp_grm g6 hB5.lst _ _ (show pure1 tm.data = true from tm.pure_ts) hx5
    have hl6 := dp_grm g6 hB5.lst _ _ (schD_pure _) hlv
    have hs6 : Dp K H6 sv (.tuple [.tuple [Tm.nil.data, .tuple (List.replicate 5 (trowD [(-1, Tm.nil)]))]]) := dp_grm g6 hB5.lst _ _ rfl hsv
    by_cases hz : z = 0
    · subst hz
      refine iteTd (by decide) ?_
      have d1 : DX K [some (.ref bx), some (.int ((t : Int) - 1)), some (natV sort), some sv, none, none, none, none, none, some x, y10, some lv, none, none, none] H6 _ (.tuple [schD looks1, .tuple [.tuple [tm.data, .tuple (List.replicate 5 (trowD [(-1, Tm.nil)]))]]]) := .tup (.cons (t := tVar 11) (.var hl6 rfl) (.cons (.tup (.cons (.tup (.cons (t := tVar 9) (.var hx6 rfl) (.cons (.ix (b := tC (.int 1)) (n := 1) (.ix (a := tVar 3) (b := tC (.int 0)) (n := 0) (.var hs6 rfl) .c rfl rfl) .c rfl rfl) .nil)) (by simp)) .nil) (by simp)) .nil)) (by simp)
      have fin := ret (plainM tm .nil 1) (g35.trans g6) hB6 (DX.as d1 rfl) rfl (by
        by_cases h2 : t < 2
        · rw [decide_eq_true h2]
          exact plainM_good (by omega) (by omega) ⟨p3 _, by omega⟩ (nil9 _ _) (by simp only [Tm.parts]; omega)
        · rw [decide_eq_false h2]
          exact trans_form (s := plainS tm .nil) (by simp [plainM]) (form_fin (by show tmF tm.data 1 false 1 = false; rw [h10, decide_eq_false h2]))) (plainM_neat (by omega) ⟨by omega, by omega⟩ nil4)
      dsimp only [tRet, cxOf]
      exact fin
    refine iteFd (decide_eq_false fun e => hz (by injection e)) ?_
    refine ⟨_, rfl, bx, cl, 5, rfl, by decide, by decide, hB6, fun lz H7 w0 w1 g7 hB7 => ?_⟩
    obtain ⟨lz, rfl⟩ : ∃ n : Nat, lz = (n : Int) := ⟨lz.toNat, by omega⟩
    have hx7 := dp_grm g7 hB6.lst _ _ (show pure1 tm.data = true from tm.pure_ts) hx6
    have hl7 := dp_grm g7 hB6.lst _ _ (schD_pure _) hl6
    have hs7 := dp_grm g7 hB6.lst _ _ rfl hs6
    dsimp only [gName]
    refine st_normS (t := tSeq _ _) (σ' := [some (.ref bx), some (.int ((t : Int) - 1)), some (natV sort), some sv, none, none, none, none, none, some x, y10, some lv, some (natV lz), none, none]) rfl ?_
    refine set_x (K := K) (d := .tuple (List.replicate 5 (trowD [(-1, Tm.nil)]))) (.ix (b := tC (.int 1)) (n := 1) (.ix (a := tVar 3) (b := tC (.int 0)) (n := 0) (.var hs7 rfl) .c rfl rfl) .c rfl rfl) fun H8 cv g8 hcv => ?_
    have hx8 := hx7.gr g8
    have hl8 := hl7.gr g8
    refine st_normS (t := tSeq _ _) (σ' := [some (.ref bx), some (.int ((t : Int) - 1)), some (natV sort), some sv, none, none, none, none, some cv, some x, y10, some lv, some (natV lz), none, none]) rfl ?_
    have hlz : lz < 5 := by omega
    have eix : (List.replicate 5 (trowD [(-1, Tm.nil)]))[lz]? = some (.tuple [tchD (-1, Tm.nil)]) := by rw [List.getElem?_replicate, if_pos hlz]; rfl
    refine set_x (K := K) (d := .tuple ([.tuple [.int 0, tm.data]] ++ [tchD (-1, Tm.nil)])) (.cat (.tup (.cons (.tup (.cons .int (.cons (.var hx8 rfl) .nil)) (by simp)) .nil) (by simp)) (.ix (n := lz) (.var hcv rfl) (.var rfl) rfl eix) (by simp)) fun H9 nv g9 hnv => ?_
    have hl9 := hl8.gr g9
    have hc9 := hcv.gr g9
    have hB9 := (hB7.gr g8).gr g9
    refine st_normS (t := tRet _) (σ' := [some (.ref bx), some (.int ((t : Int) - 1)), some (natV sort), some sv, none, none, none, none, some cv, some x, y10, some lv, some (natV lz), some nv, none]) rfl ?_
    have d1 : DX K [some (.ref bx), some (.int ((t : Int) - 1)), some (natV sort), some sv, none, none, none, none, some cv, some x, y10, some lv, some (natV lz), some nv, none] H9 _ (.tuple [schD looks1, .tuple [.tuple [Tm.nil.data, .tuple ((List.replicate 5 (trowD [(-1, Tm.nil)])).take lz ++ [.tuple ([.tuple [.int 0, tm.data]] ++ [tchD (-1, Tm.nil)])] ++ (List.replicate 5 (trowD [(-1, Tm.nil)])).drop (lz + 1))]]]) := .tup (.cons (t := tVar 11) (.var hl9 rfl) (.cons (.tup (.cons (.tup (.cons dn (.cons (.cat (.cat (.take (a := tVar 8) (b := tVar 12) (n := lz) (.var hc9 rfl) (.var rfl)) (.tup (.cons (t := tVar 13) (.var hnv rfl) .nil) (by simp)) (by simp; omega)) (.drop (a := tVar 8) (b := tOp (rI0 fun i j => .int (i + j)) (tVar 12) (tC (.int 1))) (n := lz + 1) (.var hc9 rfl) (.op (f := fun i j => i + j) (.var rfl) .c) (by omega)) (by simp; omega)) .nil)) (by simp)) .nil) (by simp)) .nil)) (by simp)
    have hb := bound5 (tm := tm) (lz := lz) (t0 := t) hlz (by omega) (by omega) p3 (by omega) h10
    have e1 := bound5_data tm lz
    generalize hm' : m5 tm lz = m' at e1 hb
    have fin := ret m' (g35.trans (g6.trans (g7.trans (g8.trans g9).any))) hB9 (DX.as d1 e1) rfl hb.1 hb.2
    dsimp only [tRet, cxOf]
    exact fin
  refine iteFd (decide_eq_false fun z => s5 (by injection z with z; omega)) ⟨_, rfl, rfl, _, rfl, ?_⟩
  by_cases s1 : sort = 1
  · refine iteTd (decide_eq_true (by rw [s1]; rfl)) ?_
    refine set_x (K := K) (.tup (.cons .str (.cons .int (.cons (.tup (.cons (.tup (.cons .str (.cons .int .nil)) (by simp)) .nil) (by simp)) .nil))) (by simp)) fun H3 p g3 hp => ?_
    refine st_normS (t := tRet _) (σ' := [some (.ref bx), some (.int ((t : Int) - 1)), some (natV sort), none, none, none, none, none, none, none, none, none, none, none, some p]) rfl ?_
    refine ret (plainM (Tm.nds 0 .nil (149 + t)) (Tm.nds 0 (Tm.rfs false 0 1) 15) 1) g3.any (hB2.gr g3) (plain (.as (.repZ (z := (149 + t : Nat)) (.tup (.cons (.tup (.cons .str (.cons .int (.cons (.tup .nil (by simp)) .nil))) (by simp)) .nil) (by simp)) (.as (.op (.opC .c .c (.inl (by omega))) (.var rfl)) (by omega)) (by omega) (by omega)) (by rw [Int.toNat_natCast, Tm.data, Tm.nds_ts]; rfl)) (.as (.repZ (z := 15) (.tup (.cons (.var hp rfl) .nil) (by simp)) .c (by omega) (by omega)) (by rw [Tm.data, Tm.nds_ts]; rfl)) .c (by omega)) rfl ?_ (plainM_neat (by omega) ⟨by rw [Tm.nds_parts]; simp [Tm.parts]; omega, by have := Tm.nds_dp 0 .nil (149 + t); simp only [Tm.dp] at this; omega⟩ (by decide))
    have p1 : (Tm.nds 0 .nil (149 + t)).parts = 149 + t := by rw [Tm.nds_parts]; simp [Tm.parts]
    have p2 : (Tm.nds 0 (Tm.rfs false 0 1) 15).parts = 30 := by decide
    by_cases h2 : t < 2
    · rw [decide_eq_true h2]
      exact plainM_good (by omega) (by omega) ⟨Tm.nds_ok (by decide) rfl _, by have := Tm.nds_dp 0 .nil (149 + t); simp only [Tm.dp] at this; omega⟩ (by decide) (by rw [p1, p2]; omega)
    · rw [decide_eq_false h2]
      refine trans_parts ?_
      show 300 < ((List.replicate 1 (plainS _ _)).map TSt.parts).sum
      rw [List.map_replicate, sum_rep, plain_parts, p1, p2]
      omega
  refine iteFd (decide_eq_false fun z => s1 (by injection z with z; omega)) ⟨_, rfl, rfl, _, rfl, ?_⟩
  by_cases s2 : sort = 2
  · refine iteTd (decide_eq_true (by rw [s2]; rfl)) ?_
    refine set_x (K := K) (.as (d := .tuple [.tuple [.str "next", .int 0]]) (.tup (.cons (.tup (.cons .str (.cons .int .nil)) (by simp)) .nil) (by simp)) (d' := (Tm.ref true 0 .nil).data) rfl) fun H3 tv g3 htv => ?_
    have hB3 := hB2.gr g3
    refine st_normS (t := tSeq _ _) (σ' := [some (.ref bx), some (.int ((t : Int) - 1)), some (natV sort), none, none, none, none, none, none, some tv, none, none, none, none, none]) rfl ?_
    refine ⟨_, rfl, _, _, rfl, rfl, _, rfl, by omega, by omega, for_range (n := ((9 : Int) + ((t : Int) - 1)).toNat) (fun i σ H' => ∃ (tm : Tm) (x : V) (y10 : Option V), σ = [some (.ref bx), some (.int ((t : Int) - 1)), some (natV sort), none, none, none, none, none, none, some x, y10, none, none, none, none] ∧ Gr [bx] H3 H' ∧ BoxAt H' bx cl ∧ Dp K H' x tm.data ∧ tm.dp = i ∧ tm.parts = i + 1 ∧ tm.okT 1 true = true)
      ⟨.ref true 0 .nil, tv, none, rfl, Gr.refl _, hB3, htv, rfl, rfl, rfl⟩ (fun i σ H4 hi hP => ?_) (fun σ H4 hP => ?_)⟩
    · obtain ⟨tm, x, y10, rfl, g4, hB4, hx, p1, p2, p3⟩ := hP
      have ptm : pure1 tm.data = true := tm.pure_ts
      refine st_normS (t := tAsg _ _) (σ' := [some (.ref bx), some (.int ((t : Int) - 1)), some (natV sort), none, none, none, none, none, none, some x, some (.int (0 + (i : Int))), none, none, none, none]) rfl ?_
      refine BX.go (BX.tup1 (BX.tup3 BX.str BX.int (BX.var (i := 9) hB4 hx ptm rfl))) hB4 fun H5 y d g5 hB5 hy hp ⟨z, e, w1, w2, w3, e2, e3, e4, e5⟩ => ?_
      subst e e2 e3 e4 e5
      exact ⟨.node 1 tm .nil, y, _, rfl, g4.trans g5, hB5, hy, by simp [Tm.dp, p1]; omega, by simp [Tm.parts, p2]; omega, by rw [Tm.okT, p3, decide_eq_true (by omega)]; rfl⟩
    obtain ⟨tm, x, y10, rfl, g4, hB4, hx, p1, p2, p3⟩ := hP
    have en : ((9 : Int) + ((t : Int) - 1)).toNat = 8 + t := by omega
    rw [en] at p1 p2
    dsimp only
    refine st_normS (t := tRet _) (σ' := [some (.ref bx), some (.int ((t : Int) - 1)), some (natV sort), none, none, none, none, none, none, some x, y10, none, none, none, none]) rfl ?_
    have dd : DX K [some (.ref bx), some (.int ((t : Int) - 1)), some (natV sort), none, none, none, none, none, none, some x, y10, none, none, none, none] H4 _ (plainM .nil tm 1).data := plain dn (.var (i := 9) hx rfl) .c (by omega)
    have fin := ret (plainM .nil tm 1) (g3.any.trans g4) hB4 dd rfl (by
      by_cases h2 : t < 2
      · rw [decide_eq_true h2]
        exact plainM_good (by omega) (by omega) (nil9 _ _) ⟨p3, by omega⟩ (by simp only [Tm.parts]; omega)
      · rw [decide_eq_false h2]
        exact trans_form (s := plainS .nil tm) (by simp [plainM]) (form_row (s := plainS .nil tm) (r := [(-1, tm)]) (c := (-1, tm)) (by simp [plainS]) (by simp) (by show tmF tm.data 1 true 1 = false; rw [Tm.form_of 1 true tm (by omega), p3, p1, Bool.true_and, decide_eq_false (by omega)]))) (plainM_neat (by omega) nil4 ⟨by omega, by omega⟩)
    dsimp only [tRet, cxOf]
    exact fin
  refine iteFd (decide_eq_false fun z => s2 (by injection z with z; omega)) ?_
  refine set_x (plain (e := .nil) (tm := .nil) (n := 1) dn dn .c (by omega)) fun H3 mv g3 hm => ?_
  have hm : Dp K H3 mv (.tuple [schD looks1, .tuple [tstD (plainS .nil .nil)]]) := hm
  refine st_normS (t := tRet _) (σ' := [some (.ref bx), some (.int ((t : Int) - 1)), some (natV sort), none, none, none, some mv, none, none, none, none, none, none, none, none]) rfl ?_
  have d1 : DX K [some (.ref bx), some (.int ((t : Int) - 1)), some (natV sort), none, none, none, some mv, none, none, none, none, none, none, none, none] H3 _ (.tuple [.tuple (List.replicate ((7 + t : Nat) : Int).toNat (.tuple [.bool true, .tuple []])), .tuple [tstD (plainS .nil .nil)]]) := .tup (.cons (.repZ (z := ((7 + t : Nat) : Int)) (.tup (.cons (.tup (.cons .bl (.cons (.tup .nil (by simp)) .nil)) (by simp)) .nil) (by simp)) (NX.as (NX.op (f := fun i j => i + j) (a := tC (.int 8)) (b := tVar 1) .c (.var rfl)) (by omega)) (by omega) (by omega)) (.cons (.ix (b := tC (.int 1)) (n := 1) (.var (i := 6) hm rfl) .c rfl rfl) .nil)) (by simp)
  have e1 : PyData.tuple [.tuple (List.replicate ((7 + t : Nat) : Int).toNat (.tuple [.bool true, .tuple []])), .tuple [tstD (plainS .nil .nil)]] = Trn.data ⟨looksN (7 + t), [plainS .nil .nil]⟩ := by
    rw [Int.toNat_natCast, Trn.data, schD, looksN, List.map_replicate]; rfl
  have fin := ret ⟨looksN (7 + t), [plainS .nil .nil]⟩ g3.any (hB2.gr g3) (DX.as d1 e1) rfl (by
    by_cases h2 : t < 2
    · rw [decide_eq_true h2]
      refine TrnOk.trans ⟨looks_ok (by omega) (by omega), by simp [looksN]; omega, by simp, by simp, fun s hs => ?_, by rw [List.map_singleton, plain_parts]; decide⟩
      rw [List.mem_singleton.mp hs]
      exact plain_ok (nil9 _ _) (nil9 _ _)
    · rw [decide_eq_false h2]
      exact trans_looks (by simp [looksN]; omega)) (neat_trn (by simp [looksN]; omega) (by intro st hs; rw [(List.mem_replicate.mp hs).2]; simp) (by simp) fun s hs => by
      rw [List.mem_singleton.mp hs]
      exact plain_neat nil4 nil4)
  dsimp only [tRet, cxOf]
  exact fin
end
end LW
set_option maxHeartbeats 4000000
namespace LW
open PySem PySem.Spec PyProof.Rows L2
section
variable {P : Program} {w : World} {K : PySem.W.Frag} {mg : Str → Option Value} {base : Heap} {f : Addr} {fd : FuncData}
abbrev n_law : List Str := ["script", "box", "m", "bad", "way", "about", "good"]
theorem sc_law : FnScope n_law ["script"] (defScope s_law) := ⟨rfl, rfl, rfl, by decide +kernel, rfl, by decide +kernel, by decide +kernel⟩
def spLaw05 (K : PySem.W.Frag) (Ts : List Addr) : Sp := fun vs H Q _ => ∃ (a : Addr) (ns : List Int), vs = [.ref a] ∧ SqL K H a (ns.map V.int) ∧ ns.length ≤ 63 ∧ Tbs Ts H ∧ ∀ H', Q (.bl true) H'
theorem goodTrn.neat {m : Trn} (h : goodTrn 3 m) : Neat 40 m.data := neat_trn (by have := h.two; omega) (fun st hs => by have := h.lfew st hs; omega) (by have := h.most; omega) fun s hs => by
  obtain ⟨⟨_, h2, h3⟩, h4, h5⟩ := h.sts s hs
  exact ⟨⟨by omega, by omega⟩, by omega, fun r hr => ⟨by have := (h5 r hr).2.1; omega, fun c hc => by have := (h5 r hr).2.2 c hc; omega⟩⟩
theorem sumf_le {α : Type} {f : α → Nat} {b : Nat} : ∀ {l : List α}, (∀ x ∈ l, f x ≤ b) → (l.map f).sum ≤ l.length * b
  | [], _ => by simp
  | x :: l, h => by
    rw [List.map_cons, List.sum_cons, List.length_cons, Nat.succ_mul]
    have := sumf_le (f := f) (b := b) (l := l) fun y hy => h y (List.mem_cons_of_mem _ hy)
    have := h x (List.mem_cons_self ..)
    omega
theorem goodTrn.ok {m : Trn} (h : goodTrn 3 m) : TrnOk m := by
  refine ⟨h.looks, by have := h.two; omega, h.one, by have := h.most; omega, fun s hs => ?_, ?_⟩
  · obtain ⟨⟨h1, h2, h3⟩, h4, h5⟩ := h.sts s hs
    exact ⟨⟨h1, by omega⟩, h4, fun r hr => (h5 r hr).1⟩
  · have := sumf_le (f := TSt.parts) (b := 96) (l := m.sts) fun s hs => by
      obtain ⟨⟨h1, h2, h3⟩, h4, h5⟩ := h.sts s hs
      have l : s.rows.flatten.length ≤ s.rows.length * 3 := by
        have := sumf_le (f := List.length) (b := 3) (l := s.rows) fun r hr => (h5 r hr).2.1
        rw [List.length_flatten]; exact this
      have := sumf_le (f := fun c : TCh => c.2.parts) (b := 6) (l := s.rows.flatten) fun c hc => by
        obtain ⟨r, hr, hc⟩ := List.mem_flatten.mp hc
        exact ((h5 r hr).2.2 c hc).1
      show s.fin.parts + _ ≤ 96
      omega
    have := h.most
    omega
theorem eqv_nilL (ds : List PyData) : PyData.eqv (.list ds) (.list []) = ds.isEmpty := by cases ds <;> simp [PyData.eqv, PyData.eqvAll]
theorem shaped_nilL : SeqAt.shaped (.list []) = true := by decide +kernel
theorem few1 : fewSc (.tuple [.tuple [.bool true, .tuple []]]) := (looks_ok (n := 1) (by decide) (by decide)).fewSc
theorem ok_law05 {Ts : List Addr} (F : Fun K "law" "law" s_law f fd) (f__law_box : Fn P w K mg base CX0 99 "_law_box" ["script"] (spBox K)) (f__law_transformation : Fn P w K mg base CX0 99 "_law_transformation" ["box", "labels", "most"] (spTransB K)) (f__law_refused : Fn P w K mg base CX0 99 "_law_refused" ["way", "one", "s"] (spRef05 K Ts))
    (f__law_spoilt : Fn P w K mg base CX0 99 "_law_spoilt" ["box", "m"] (spSpoiltT K)) (f__law_bound : Fn P w K mg base CX0 99 "_law_bound" ["box"] (spBoundT K)) : FnAt P w K mg base CX0 callerA f fd ["script"] (spLaw05 K Ts) := by
  have hr0 : Room (99 + 1) callerA := ⟨by decide, by decide, by decide⟩
  refine okAt hr0 F sc_law (fun vs H Q E h => ?_) (fun cdv outer s0 H vs Q E h => ?_)
  · obtain ⟨_, _, rfl, _⟩ := h; rfl
  obtain ⟨a, ns, rfl, hS, hlen, hT, q⟩ := h
  have nd := sc_law.nd
  have hr : Room 99 (callerA.deeper (envOfC "law" (defScope s_law) s0.heap.objs.size f cdv)) := hr0.deeper _
  refine ⟨_, pss_cons (ps_set (i := 1) nd rfl (.inl rfl) (pe_fn f__law_box hr rfl pass0 (pa_cons (pv 0) pa_nil)))
    (pss_cons (ps_set (i := 2) nd rfl (.inl rfl) (pe_fn f__law_transformation hr rfl pass0 (pa_cons (pv 1) (pa_cons (pe_lst (pa_cons pe_int (pa_cons pe_int (pa_cons pe_int (pa_cons pe_int (pa_cons pe_int pa_nil)))))) (pa_cons pe_int pa_nil)))))
    (pss_cons (ps_if (PW.pt (pw_or (pt_cmpR op_ne (pe_fn f__law_refused hr rfl pass0 (pa_cons pe_int (pa_cons (pv 2) (pa_cons (pe_tup pa_nil) pa_nil)))) pe_str (nomark _)) (pw_or1 (pt_cmpR op_ne (pe_fn f__law_refused hr rfl pass0 (pa_cons pe_int (pa_cons (pv 2) (pa_cons (pe_tup pa_nil) pa_nil)))) pe_str (nomark _)))))
      (pss_one (ps_ret pe_bl))
      pss_nil)
    (pss_cons (ps_set (i := 3) nd rfl (.inl rfl) (pe_fn f__law_spoilt hr rfl pass0 (pa_cons (pv 1) (pa_cons (pv 2) pa_nil))))
    (pss_cons (ps_for PassesOwn.never rfl (pi_tup (pe_tup (pa_cons pe_int (pa_cons pe_int (pa_cons pe_int (pa_cons pe_int (pa_cons pe_int (pa_cons pe_int (pa_cons pe_int (pa_cons pe_int pa_nil)))))))))) (pg_name (i := 4) nd rfl (.inl rfl))
      (pss_one (ps_if (pt_cmpR op_ne (pe_fn f__law_refused hr rfl pass0 (pa_cons (pv 4) (pa_cons (pv 3) (pa_cons (pe_tup (pa_cons (pe_tup (pa_cons pe_bl (pa_cons (pe_tup pa_nil) pa_nil))) pa_nil)) pa_nil)))) pe_str (nomark _))
        (pss_one (ps_ret pe_bl))
        pss_nil)))
    (pss_cons (ps_if (PW.pt (pw_or (pt_cmpR op_ne (pe_fn f__law_refused hr rfl pass0 (pa_cons pe_int (pa_cons (pv 3) (pa_cons (pe_tup (pa_cons (pe_tup (pa_cons pe_bl (pa_cons (pe_tup pa_nil) pa_nil))) pa_nil)) pa_nil)))) pe_str (nomark _)) (pw_or1 (pt_cmpR op_ne (pe_fn f__law_refused hr rfl pass0 (pa_cons pe_int (pa_cons (pv 2) (pa_cons (pe_tup (pa_cons (pe_tup (pa_cons pe_bl (pa_cons (pe_tup pa_nil) pa_nil))) pa_nil)) pa_nil)))) pe_str (nomark _)))))
      (pss_one (ps_ret pe_bl))
      pss_nil)
    (pss_cons (ps_asg (pe_fn f__law_bound hr rfl pass0 (pa_cons (pv 1) pa_nil)) (pg_tup rfl (pgs_cons (pg_name (i := 5) nd rfl (.inr rfl)) (pgs_cons (pg_name (i := 6) nd rfl (.inl rfl)) pgs_nil))))
    (pss_cons (ps_if (pt_not (pt_val (pv 6)))
      (pss_one (ps_ret (pe_cmpR (op_eqD hr.units) (pe_lc (own := [("way", 4)]) (g := gName 4) rfl nd (pi_tup (pe_tup (pa_cons pe_int (pa_cons pe_int (pa_cons pe_int (pa_cons pe_int (pa_cons pe_int (pa_cons pe_int (pa_cons pe_int (pa_cons pe_int pa_nil)))))))))) (blkOk_by (N := n_law) (sc := defScope s_law) (own := [("way", 4)]) (by decide +kernel)) (fun s H C cl fp => pg_name (i := 4) nd rfl (.inl rfl)) (fun s H C cl fp => pts_one (pt_cmpR op_ne (pe_fn f__law_refused hr rfl pass0 (pa_cons (pv 4) (pa_cons (pv 5) (pa_cons (pe_tup (pa_cons (pe_tup (pa_cons pe_bl (pa_cons (pe_tup pa_nil) pa_nil))) pa_nil)) pa_nil)))) pe_str (nomark _))) (fun s H C cl fp => pv 4)) (pe_lst pa_nil) (nomark _))))
      pss_nil)
    (pss_one (ps_ret (pe_cmpR op_eq (pe_fn f__law_refused hr rfl pass0 (pa_cons pe_int (pa_cons (pv 5) (pa_cons (pe_tup pa_nil) pa_nil)))) pe_str (nomark _))))))))))), ?_⟩

  refine ⟨_, rfl, a, ns, rfl, hS, by omega, fun bx cl H1 g1 hB1 nbx ncl => ?_⟩
  have hT1 := hT.gr g1
  refine ⟨_, rfl, (by decide : (5 : Nat) ≤ sizeLine), fun ll nll => ?_⟩
  have gl := Gr.new (m := []) (o := .lst [.int 0, .int 1, .int 2, .int 3, .int 4]) nll
  have hT2 := hT1.gr gl
  have hB2 := hB1.gr gl
  refine ⟨bx, cl, ll, [0, 1, 2, 3, 4], 3, rfl, hB2, upd_same, (hB1.ne nll).1, by decide, by decide, by decide, by decide, by decide, fun m v H3 hgood g3 hB3 hm => ?_⟩
  have hT3 := hT2.gr g3
  have tp := (hgood.neat).pre (by omega)
  have tok := hgood.ok.trans
  have pm := trn_pure m
  generalize (upd H1 ll (.lst [.int 0, .int 1, .int 2, .int 3, .int 4])) = H2 at gl hT2 hB2 g3
  dsimp only [gName]
  have ref : ∀ {σ : L2.St} {H' : Hp} {w0 a b : TE} {way : Nat} {d1 d2 : PyData} {str : Str} {Q : VK}, (∀ (H1 : Hp) (Q : VK), Q (natV way) H1 → w0 σ H1 Q) → DX K σ H' a d1 → DX K σ H' b d2 → TrPre d1 → fewSc d2 → way ≤ 8 → Tbs Ts H' → ((∃ n, okW way d1 d2 n ∧ str = clsN n) ∨ (transD d1 = true ∧ way = 0 ∧ str = "let")) → (∀ H2, Gr [] H' H2 → Q (.str str) H2) → tCall (spRef05 K Ts) [] E0 (tCons w0 (tCons a (tCons b tNil))) σ H' Q := fun {σ H' w0 a b way d1 d2 str Q} hw ha hb tp fs h8 ht hc k =>
    hw _ _ (ha H' _ (Gr.refl _) fun H2 x g2 hx => hb H2 _ g2 fun H3 y g3 hy => ⟨way, x, y, d1, d2, rfl, hx.gr g3, hy, tp, fs, h8, ht.gr (g2.trans g3), by
      rcases hc with ⟨n, h1, rfl⟩ | ⟨h1, h2, rfl⟩
      · exact .inl ⟨n, h1, fun H4 g4 => k H4 (g2.trans (g3.trans g4))⟩
      · exact .inr ⟨h1, h2, fun H4 g4 => k H4 (g2.trans (g3.trans g4))⟩⟩)
  have few0 : fewSc (.tuple []) := Neat.nil.few
  have one : ∀ {σ : L2.St} {H' : Hp}, DX K σ H' (tTup (tCons (tTup (tCons (tC (.bl true)) (tCons (tTup tNil) tNil))) tNil)) (.tuple [.tuple [.bool true, .tuple []]]) := fun {σ H'} => .tup (.cons (.tup (.cons .bl (.cons (.tup .nil (by simp)) .nil)) (by simp)) .nil) (by simp)
  have sch1 : schemaD (.tuple [.tuple [.bool true, .tuple []]]) = true := (looks_ok (n := 1) (by decide) (by decide)).data
  refine st_normS (t := tSeq _ _) (σ' := [some (.ref a), some (.ref bx), some v, none, none, none, none]) rfl ?_
  refine ref (way := 0) (d1 := m.data) (d2 := .tuple []) (str := "let") (fun _ _ q => q) (.var hm rfl) (.tup .nil (by simp)) tp few0 (by decide) hT3 (.inr ⟨tok, rfl, rfl⟩) fun H4 g4 => ?_
  refine ⟨rfl, _, rfl, iteFd (by simp) ?_⟩
  have hm4 := hm.gr g4
  have hT4 := hT3.gr g4
  refine ref (way := 1) (d1 := m.data) (d2 := .tuple []) (str := "document") (fun _ _ q => q) (.var hm4 rfl) (.tup .nil (by simp)) tp few0 (by decide) hT4 (.inl ⟨0, .inr (.inr (.inl ⟨tok, rfl, rfl⟩)), rfl⟩) fun H5 g5 => ?_
  refine ⟨rfl, _, rfl, iteFd (by simp) ?_⟩
  have hB5 := hB3.gr (g4.trans g5)
  have hm5 := hm4.gr g5
  have hT5 := hT4.gr g5
  refine ⟨_, rfl, _, rfl, bx, cl, v, m, rfl, hB5, hm5, hgood, fun bad bv H6 hbad g6 hB6 hb => ?_⟩
  obtain ⟨bad1, bad2, bad3⟩ := hbad
  have hm6 := dp_grm g6 hB5.lst _ _ pm hm5
  have hT6 := hT5.gr g6
  have tpb := bad2.pre (by omega)
  dsimp only [gName]
  refine st_normS (t := tSeq _ _) (σ' := [some (.ref a), some (.ref bx), some v, some bv, none, none, none]) rfl ?_
  have ways : ∀ (i : Nat) (x : V), ([.int 0, .int 1, .int 2, .int 3, .int 5, .int 6, .int 7, .int 8] : List V)[i]? = some x → ∃ way : Nat, x = natV way ∧ way ≤ 8 ∧ way ≠ 4 := fun i x hx => by
    match i, hx with
    | 0, h => cases h; exact ⟨0, rfl, by decide, by decide⟩
    | 1, h => cases h; exact ⟨1, rfl, by decide, by decide⟩
    | 2, h => cases h; exact ⟨2, rfl, by decide, by decide⟩
    | 3, h => cases h; exact ⟨3, rfl, by decide, by decide⟩
    | 4, h => cases h; exact ⟨5, rfl, by decide, by decide⟩
    | 5, h => cases h; exact ⟨6, rfl, by decide, by decide⟩
    | 6, h => cases h; exact ⟨7, rfl, by decide, by decide⟩
    | 7, h => cases h; exact ⟨8, rfl, by decide, by decide⟩
    | i + 8, h => simp at h
  refine ⟨(by decide : (8 : Nat) ≤ sizeLine), fun p7 n7 => ?_⟩
  have g7 := Gr.new (m := []) (o := .tup [.int 0, .int 1, .int 2, .int 3, .int 5, .int 6, .int 7, .int 8]) n7
  have sq7 : SqT K (upd H6 p7 (.tup [.int 0, .int 1, .int 2, .int 3, .int 5, .int 6, .int 7, .int 8])) p7 [.int 0, .int 1, .int 2, .int 3, .int 5, .int 6, .int 7, .int 8] := SqT.of upd_same
  generalize (upd H6 p7 (.tup [.int 0, .int 1, .int 2, .int 3, .int 5, .int 6, .int 7, .int 8])) = H7 at g7 sq7 ⊢
  refine ⟨p7, rfl, ⟨_, sq7⟩, for_tup (xs := [.int 0, .int 1, .int 2, .int 3, .int 5, .int 6, .int 7, .int 8]) (fun i σ H' => ∃ y4, σ = [some (.ref a), some (.ref bx), some v, some bv, y4, none, none] ∧ Gr [] H7 H') ⟨none, rfl, Gr.refl _⟩ (fun i σ H' _ hP => ?_) (fun i x σ H8 hx hP => ?_) (fun σ H8 hP => ?_)⟩
  · obtain ⟨_, _, g⟩ := hP; exact g.sqT sq7
  · obtain ⟨y4, rfl, g8⟩ := hP
    obtain ⟨way, rfl, w8, w4⟩ := ways i x hx
    have g78 := g7.trans g8
    dsimp only [gName]
    refine st_normS (t := tIfS _ _ _) (σ' := [some (.ref a), some (.ref bx), some v, some bv, some (natV way), none, none]) rfl ?_
    refine ref (way := way) (d1 := bad) (d2 := .tuple [.tuple [.bool true, .tuple []]]) (str := "transformation") (fun _ _ q => ⟨_, rfl, q⟩) (.var (hb.gr g78) rfl) one tpb few1 w8 (hT6.gr g78) (.inl ⟨2, .inl ⟨bad1, w4, sch1, rfl⟩, rfl⟩) fun H9 g9 => ?_
    exact ⟨rfl, _, rfl, iteFd (by simp) ⟨some (natV way), rfl, g8.trans g9⟩⟩
  obtain ⟨y4, rfl, g8⟩ := hP
  have g78 := g7.trans g8
  have hb8 := hb.gr g78
  have hm8 := hm6.gr g78
  have hT8 := hT6.gr g78
  have hB8 := hB6.gr g78
  dsimp only
  refine st_normS (t := tSeq _ _) (σ' := [some (.ref a), some (.ref bx), some v, some bv, y4, none, none]) rfl ?_
  refine ref (way := 4) (d1 := bad) (d2 := .tuple [.tuple [.bool true, .tuple []]]) (str := "schema") (fun _ _ q => q) (.var hb8 rfl) one tpb few1 (by decide) hT8 (.inl ⟨1, .inr (.inl ⟨rfl, rfl⟩), rfl⟩) fun H9 g9 => ?_
  refine ⟨rfl, _, rfl, iteFd (by simp) ?_⟩
  refine ref (way := 2) (d1 := m.data) (d2 := .tuple [.tuple [.bool true, .tuple []]]) (str := "schema") (fun _ _ q => q) (.var (hm8.gr g9) rfl) one tp few1 (by decide) (hT8.gr g9) (.inl ⟨1, .inr (.inr (.inr ⟨tok, rfl, sch1, rfl⟩)), rfl⟩) fun H10 g10 => ?_
  refine ⟨rfl, _, rfl, iteFd (by simp) ?_⟩
  have g810 := g9.trans g10
  have hB10 := hB8.gr g810
  have hT10 := hT8.gr g810
  refine ⟨_, rfl, bx, cl, rfl, hB10, fun am good rv H11 tg ng pg g11 hB11 hr11 => ?_⟩
  have hT11 := hT10.gr g11
  obtain ⟨ra, av, gv, rfl, hsq, hav, hgv⟩ := dp_two hr11
  obtain rfl : gv = .bl good := by cases hgv; rfl
  refine ⟨ra, _, rfl, hsq, rfl, av, _, rfl, .bl good, _, rfl, rfl, ?_⟩
  have tpa := ng.pre (by omega)
  dsimp only
  refine st_normS (t := tSeq _ _) (σ' := [some (.ref a), some (.ref bx), some v, some bv, y4, some av, some (.bl good)]) rfl ?_
  refine ⟨_, rfl, _, rfl, ?_⟩
  cases good with
  | true =>
    refine iteF ?_
    refine ref (σ := [some (.ref a), some (.ref bx), some v, some bv, y4, some av, some (.bl true)]) (w0 := tC (.int 0)) (a := tVar 5) (b := tTup tNil) (way := 0) (d1 := am.data) (d2 := .tuple []) (str := "let") (fun _ _ q => q) (.var hav rfl) (.tup .nil (by simp)) tpa few0 (by decide) hT11 (.inr ⟨tg, rfl, rfl⟩) fun H12 g12 => ?_
    refine ⟨rfl, ?_⟩
    have e : decide (V.str "let" = V.str "let") = true := decide_eq_true rfl
    rw [e]
    exact q _
  | false =>
    refine iteT ?_
    refine ⟨(by decide : (8 : Nat) ≤ sizeLine), fun p12 n12 => ?_⟩
    have g12 := Gr.new (m := []) (o := .tup [.int 0, .int 1, .int 2, .int 3, .int 5, .int 6, .int 7, .int 8]) n12
    have sq12 : SqT K (upd H11 p12 (.tup [.int 0, .int 1, .int 2, .int 3, .int 5, .int 6, .int 7, .int 8])) p12 [.int 0, .int 1, .int 2, .int 3, .int 5, .int 6, .int 7, .int 8] := SqT.of upd_same
    generalize (upd H11 p12 (.tup [.int 0, .int 1, .int 2, .int 3, .int 5, .int 6, .int 7, .int 8])) = H12 at g12 sq12 ⊢
    refine ⟨p12, rfl, ⟨_, sq12⟩, fun D nD => lc_tup (xs := [.int 0, .int 1, .int 2, .int 3, .int 5, .int 6, .int 7, .int 8]) (fun i H' => Gr [] H12 H' ∧ H' D = some (.lst [])) ⟨Gr.new nD, upd_same⟩ (fun i H' _ hP => hP.1.sqT sq12) (fun i x H13 hx hP => ?_) (fun H13 hP => ?_)⟩
    · obtain ⟨g13, hD⟩ := hP
      obtain ⟨way, rfl, w8, w4⟩ := ways i x hx
      refine ⟨rfl, ?_⟩
      refine ref (way := way) (d1 := am.data) (d2 := .tuple [.tuple [.bool true, .tuple []]]) (str := "transformation") (fun _ _ q => ⟨_, rfl, q⟩) (.var (hav.gr (g12.trans g13)) rfl) one tpa few1 w8 (hT11.gr (g12.trans g13)) (.inl ⟨2, .inl ⟨tg, w4, sch1, rfl⟩, rfl⟩) fun H14 g14 => ?_
      exact ⟨rfl, _, rfl, iteFd (by simp) ⟨g13.trans g14, g14.lst (by simp) hD⟩⟩
    · obtain ⟨g13, hD⟩ := hP
      refine ⟨Nat.zero_le _, fun p np => ?_⟩
      have gp := Gr.new (m := []) (o := .lst []) np
      refine ⟨.list [], .list [], .lst (SqL.of (gp.lst (by simp) hD)) .nil, .lst (SqL.of upd_same) .nil, shaped_nilL, shaped_nilL, ?_⟩
      rw [eqv_nilL]
      exact q _
end
end LW
set_option maxHeartbeats 4000000
namespace LW
open PySem PySem.Spec PyProof.Rows L2
/-- a def that stands under its name -/
structure Df (K : PySem.W.Frag) (mg : Str → Option Value) (x y : Str) (ps : List Str) (st : Stmt) (f : Addr) (fd : FuncData) : Prop where
  F : Fun K y y st f fd
  m : mg x = some (.ref f)
  b : Binds K fd ps []
theorem Df.fn {P : Program} {w : World} {K : PySem.W.Frag} {mg : Str → Option Value} {base : Heap} {x y : Str} {ps : List Str} {st : Stmt} {f : Addr} {fd : FuncData} {CX : CXT} (D : Df K mg x y ps st f fd) {k : Nat} {sp : Sp} (h : FnOk P w K mg base CX k f fd ps sp) : Fn P w K mg base CX k x ps sp := ⟨f, fd, h, D.m, D.F.kp, D.b⟩
/-- a method of C -/
structure Dm (K : PySem.W.Frag) (C : Addr) (x ql : Str) (ps : List Str) (st : Stmt) (f : Addr) (fd : FuncData) : Prop where
  F : Fun K x ql st f fd
  m : Meth K C x f
  b : Binds K fd ps []

theorem tbs8 {T0 T1 T2 T3 T4 T5 T6 T7 : Addr} {H : Hp} (h0 : GxR.TabG H T0) (h1 : GxR.TabG H T1) (h2 : GxR.TabG H T2) (h3 : GxR.TabG H T3) (h4 : GxR.TabG H T4) (h5 : GxR.TabG H T5) (h6 : GxR.TabG H T6) (h7 : GxR.TabG H T7) : Tbs [T0, T1, T2, T3, T4, T5, T6, T7] H := fun P hP => by
  simp only [List.mem_cons, List.not_mem_nil, or_false] at hP
  rcases hP with rfl | rfl | rfl | rfl | rfl | rfl | rfl | rfl <;> assumption

theorem law_fn {P : Program} {w : World} {K : PySem.W.Frag} {mg : Str → Option Value} {base : Heap} {E0 E1 E2 E3 E4 E5 y0 y1 y2 y3 y4 y5 y6 y7 T0 T1 T2 T3 T4 T5 T6 T7 : Addr} {t_LABELS t_MOST_NESTED t_MOST_TREES t_MOST_STATES_schema t_MOST_RULES t_MOST_STATES_transformation t_MOST_PARTS t_MOST_LEVELS t_MOST_LOOKS : Tok}
    {f0 : Addr} {g0 : FuncData} (D0 : Df K mg "is_below" "is_below" ["worth", "limit"] s_is_below f0 g0)
    {f1 : Addr} {g1 : FuncData} (D1 : Df K mg "is_tuple_of" "is_tuple_of" ["worth", "many"] s_is_tuple_of f1 g1)
    {f2 : Addr} {g2 : FuncData} (D2 : Df K mg "is_rising" "is_rising" ["row"] s_is_rising f2 g2)
    {f3 : Addr} {g3 : FuncData} (D3 : Df K mg "check_document" "check_document" ["d"] s_check_document f3 g3)
    {f4 : Addr} {g4 : FuncData} (D4 : Df K mg "is_document" "is_document" ["d"] s_is_document f4 g4)
    {f5 : Addr} {g5 : FuncData} (D5 : Df K mg "is_tree" "is_tree" ["tree"] s_is_tree f5 g5)
    {f6 : Addr} {g6 : FuncData} (D6 : Df K mg "check_schema" "check_schema" ["s"] s_check_schema f6 g6)
    {f7 : Addr} {g7 : FuncData} (D7 : Df K mg "is_schema" "is_schema" ["s"] s_is_schema f7 g7)
    {f8 : Addr} {g8 : FuncData} (D8 : Df K mg "is_state_schema" "is_state" ["state", "many"] s_is_state f8 g8)
    {f9 : Addr} {g9 : FuncData} (D9 : Df K mg "are_rules" "are_rules" ["rules", "many"] s_are_rules f9 g9)
    {f10 : Addr} {g10 : FuncData} (D10 : Df K mg "is_rule" "is_rule" ["rule", "many"] s_is_rule f10 g10)
    {f11 : Addr} {g11 : FuncData} (D11 : Df K mg "check_transformation" "check_transformation" ["m"] s_check_transformation f11 g11)
    {f12 : Addr} {g12 : FuncData} (D12 : Df K mg "is_transformation" "is_transformation" ["m"] s_is_transformation f12 g12)
    {f13 : Addr} {g13 : FuncData} (D13 : Df K mg "is_state" "is_state" ["state", "looks"] s_is_state_transformation f13 g13) (al_is_state_transformation : mg "is_state_transformation" = some (.ref f13))
    {f14 : Addr} {g14 : FuncData} (D14 : Df K mg "are_choices" "are_choices" ["choices", "looks"] s_are_choices f14 g14)
    {f15 : Addr} {g15 : FuncData} (D15 : Df K mg "are_templates" "are_templates" ["states"] s_are_templates f15 g15)
    {f16 : Addr} {g16 : FuncData} (D16 : Df K mg "waiting_templates" "waiting_templates" ["states"] s_waiting_templates f16 g16)
    {f17 : Addr} {g17 : FuncData} (D17 : Df K mg "is_part" "is_part" ["part", "states", "may_follow"] s_is_part f17 g17)
    {f18 : Addr} {g18 : FuncData} (D18 : Df K mg "check_all" "check_all" ["s", "m", "t"] s_check_all f18 g18)
    {f19 : Addr} {g19 : FuncData} (D19 : Df K mg "turned" "turned" ["m", "d"] s_turned f19 g19)
    {f20 : Addr} {g20 : FuncData} (D20 : Df K mg "fits" "fits" ["s", "m", "t"] s_fits f20 g20)
    {f21 : Addr} {g21 : FuncData} (D21 : Df K mg "schema_before" "schema_before" ["m", "t"] s_schema_before f21 g21)
    {f22 : Addr} {g22 : FuncData} (D22 : Df K mg "accepts" "accepts" ["s", "m", "t", "paper"] s_accepts f22 g22)
    {f23 : Addr} {g23 : FuncData} (D23 : Df K mg "made" "made" ["m", "state", "d"] s_made f23 g23)
    {f24 : Addr} {g24 : FuncData} (D24 : Df K mg "first_profile" "first_profile" ["s", "m", "t"] s_first_profile f24 g24)
    {f25 : Addr} {g25 : FuncData} (D25 : Df K mg "profile" "profile" ["s", "m", "t", "d"] s_profile f25 g25)
    {f26 : Addr} {g26 : FuncData} (D26 : Df K mg "_law_box" "_law_box" ["script"] s__law_box f26 g26)
    {f27 : Addr} {g27 : FuncData} (D27 : Df K mg "_law_take" "_law_take" ["box", "m"] s__law_take f27 g27)
    {f28 : Addr} {g28 : FuncData} (D28 : Df K mg "_law_pick" "_law_pick" ["box", "menu"] s__law_pick f28 g28)
    {f29 : Addr} {g29 : FuncData} (D29 : Df K mg "_law_schema" "_law_schema" ["box", "labels", "most", "rules"] s__law_schema f29 g29)
    {f30 : Addr} {g30 : FuncData} (D30 : Df K mg "_law_grown" "_law_grown" ["box", "labels", "many", "deep", "end"] s__law_grown f30 g30)
    {f31 : Addr} {g31 : FuncData} (D31 : Df K mg "_law_parts" "_law_parts" ["template"] s__law_parts f31 g31)
    {f32 : Addr} {g32 : FuncData} (D32 : Df K mg "_law_template" "_law_template" ["box", "labels", "many", "deep", "end"] s__law_template f32 g32)
    {f33 : Addr} {g33 : FuncData} (D33 : Df K mg "_law_choices" "_law_choices" ["box", "labels", "looks", "many", "label"] s__law_choices f33 g33)
    {f34 : Addr} {g34 : FuncData} (D34 : Df K mg "_law_transformation" "_law_transformation" ["box", "labels", "most"] s__law_transformation f34 g34)
    {f35 : Addr} {g35 : FuncData} (D35 : Df K mg "_law_class" "_law_class" ["e"] s__law_class f35 g35)
    {f36 : Addr} {g36 : FuncData} (D36 : Df K mg "_law_refused" "_law_refused" ["way", "one", "s"] s__law_refused f36 g36)
    {f37 : Addr} {g37 : FuncData} (D37 : Df K mg "_law_plain" "_law_plain" ["end", "template", "many"] s__law_plain f37 g37)
    {f38 : Addr} {g38 : FuncData} (D38 : Df K mg "_law_bad_part" "_law_bad_part" ["box", "many", "end"] s__law_bad_part f38 g38)
    {f39 : Addr} {g39 : FuncData} (D39 : Df K mg "_law_spoilt" "_law_spoilt" ["box", "m"] s__law_spoilt f39 g39)
    {f40 : Addr} {g40 : FuncData} (D40 : Df K mg "_law_bound" "_law_bound" ["box"] s__law_bound f40 g40)
    {f41 : Addr} {g41 : FuncData} (D41 : Df K mg "law" "law" ["script"] s_law f41 g41)
    
    (hc0 : g4.code = .ref y0) (TB0 : GxR.TabB base mg y0 T0) (hc1 : g9.code = .ref y1) (TB1 : GxR.TabB base mg y1 T1) (hc2 : g2.code = .ref y2) (TB2 : GxR.TabB base mg y2 T2) (hc3 : g7.code = .ref y3) (TB3 : GxR.TabB base mg y3 T3) (hc4 : g14.code = .ref y4) (TB4 : GxR.TabB base mg y4 T4) (hc5 : g13.code = .ref y5) (TB5 : GxR.TabB base mg y5 T5) (hc6 : g12.code = .ref y6) (TB6 : GxR.TabB base mg y6 T6) (hc7 : g15.code = .ref y7) (TB7 : GxR.TabB base mg y7 T7)
    (gl0 : mg "BadDocument" = some (.ref E0)) (gl1 : mg "BadSchema" = some (.ref E1)) (gl2 : mg "BadTransformation" = some (.ref E2)) (gl3 : mg "BadText" = some (.ref E3)) (gl4 : mg "TooMuch" = some (.ref E4)) (gl5 : mg "LeafwardError" = some (.ref E5))
    (B0 : XC K mg "BadDocument" E0) (C0 : ClsF K E0 E1 E2 E3 E4 E0 0) (x0 : PySem.W.exmOne K (.ref E0) (.ref E5) = some true) (B1 : XC K mg "BadSchema" E1) (C1 : ClsF K E0 E1 E2 E3 E4 E1 1) (x1 : PySem.W.exmOne K (.ref E1) (.ref E5) = some true) (B2 : XC K mg "BadTransformation" E2) (C2 : ClsF K E0 E1 E2 E3 E4 E2 2) (x2 : PySem.W.exmOne K (.ref E2) (.ref E5) = some true)
    (m_isinstance : mg "isinstance" = none) (m_int : mg "int" = none) (m_bool : mg "bool" = none) (m_tuple : mg "tuple" = none) (m_all : mg "all" = none) (m_range : mg "range" = none) (m_sum : mg "sum" = none) (m_abs : mg "abs" = none) (m_len : mg "len" = none) (m_ValueError : mg "ValueError" = none) (m_sorted : mg "sorted" = none)
    (i_LABELS : mg "LABELS" = some (.int 5 t_LABELS)) (i_MOST_NESTED : mg "MOST_NESTED" = some (.int 30 t_MOST_NESTED)) (i_MOST_TREES : mg "MOST_TREES" = some (.int 300 t_MOST_TREES)) (i_MOST_STATES_schema : mg "MOST_STATES_schema" = some (.int 60 t_MOST_STATES_schema)) (i_MOST_RULES : mg "MOST_RULES" = some (.int 2000 t_MOST_RULES)) (i_MOST_STATES_transformation : mg "MOST_STATES_transformation" = some (.int 12 t_MOST_STATES_transformation)) (i_MOST_PARTS : mg "MOST_PARTS" = some (.int 300 t_MOST_PARTS)) (i_MOST_LEVELS : mg "MOST_LEVELS" = some (.int 10 t_MOST_LEVELS)) (i_MOST_LOOKS : mg "MOST_LOOKS" = some (.int 8 t_MOST_LOOKS)) :
    FnAt P w K mg base CX0 callerA f41 g41 ["script"] (spLaw05 K [T0, T1, T2, T3, T4, T5, T6, T7]) := by
  have b1 := D0.fn (P := P) (w := w) (base := base) (ok_is_below (k := 0) D0.F m_isinstance m_int m_bool)
  have b2 := D1.fn (P := P) (w := w) (base := base) (ok_is_tuple_of (k := 0) D1.F m_isinstance m_tuple m_len)
  have b3 := D5.fn (ok_is_tree D5.F b2 b1 i_LABELS)
  have b4 := D4.fn (ok_is_document D4.F hc0 TB0 b3 m_isinstance m_tuple m_len m_all i_MOST_NESTED i_MOST_TREES)
  have b5 := D3.fn (ok_checkDX D3.F b4 B0)
  have r1 := D10.fn (ok_is_rule D10.F b2 b1 i_LABELS)
  have r2 := D2.fn (P := P) (w := w) (base := base) (ok_is_rising D2.F hc2 TB2 m_len m_all m_range)
  have r3 := D9.fn (ok_are_rules D9.F hc1 TB1 r1 r2 m_isinstance m_tuple m_all)
  have r4 := D8.fn (ok_is_state D8.F (b2.mono (by decide)) r3 m_isinstance m_bool)
  have r5 := D7.fn (ok_is_schema D7.F hc3 TB3 r4 m_isinstance m_tuple m_all m_len m_sum i_MOST_STATES_schema i_MOST_RULES)
  have r6 := D6.fn (ok_checkSX D6.F r5 B1)
  have q1 := D17.fn (ok_is_part D17.F b2 b1 i_LABELS)
  have q2 := D16.fn (P := P) (w := w) (base := base) (ok_waiting D16.F)
  have q3 := D15.fn (ok_are_templates D15.F hc7 TB7 (q2.mono (by decide)) q1 m_isinstance m_tuple m_len m_all i_MOST_LEVELS i_MOST_PARTS)
  have q4 := D14.fn (ok_are_choices D14.F hc4 TB4 b2 b1 m_isinstance m_tuple m_all)
  have q5 : Fn P w K mg base CX0 9 "is_state_transformation" ["state", "looks"] (spStateT K T4 T5) := ⟨_, _, ok_is_state_T D13.F hc5 TB5 (b2.mono (by decide)) q4 m_all i_LABELS, al_is_state_transformation, D13.F.kp, D13.b⟩
  have q6 := D12.fn (ok_is_trans D12.F hc6 TB6 (b2.mono (by decide)) (r5.mono (by decide)) q5 (q3.mono (by decide)) m_isinstance m_tuple m_len m_all i_MOST_LOOKS i_MOST_STATES_transformation)
  have q7 := D11.fn (ok_checkTX D11.F q6 B2)
  have kd := Fn.weak b5 (chk_D (Ts := [T0, T1, T2, T3, T4, T5, T6, T7]) (D1 := E1) (D2 := E2) (by simp))
  have ks := Fn.weak r6 (chk_S (Ts := [T0, T1, T2, T3, T4, T5, T6, T7]) (D0 := E0) (D2 := E2) (by simp) (by simp) (by simp))
  have kt := Fn.weak q7 (chk_T (Ts := [T0, T1, T2, T3, T4, T5, T6, T7]) (D0 := E0) (D1 := E1) (by simp))
  have ka := D18.fn (ok_check_all D18.F (ks.mono (by decide)) (kt.mono (by decide)))
  have w1 := D19.fn (ok_turned_door D19.F (kd.mono (by decide)) (kt.mono (by decide)))
  have w2 := D20.fn (ok_fits_door D20.F (ka.mono (by decide)))
  have w3 := D21.fn (ok_schema_before_door D21.F (ks.mono (by decide)) (kt.mono (by decide)))
  have w4 := D22.fn (ok_accepts_door D22.F (ka.mono (by decide)))
  have w5 := D23.fn (ok_made_door D23.F (kd.mono (by decide)) (kt.mono (by decide)))
  have w6 := D24.fn (ok_first_profile_door D24.F (ka.mono (by decide)))
  have w7 := D25.fn (ok_profile_door D25.F (ka.mono (by decide)) (kd.mono (by decide)))
  have c1 := D27.fn (P := P) (w := w) (base := base) (ok_take D27.F m_len m_int)
  have c2 := D28.fn (ok_pick D28.F c1 m_len)
  have c2d := D28.fn (ok_pickD D28.F c1 m_len)
  have c3 := D29.fn (ok_schL D29.F (c1.mono (by decide)) c2 m_range m_tuple m_sorted)
  have c4 := grown_any D30.F D30.m D30.b c1 c2 c2d m_range m_tuple 3
  have c5 := lparts_any (P := P) (w := w) (base := base) D31.F D31.m D31.b m_sum 3
  have c6 := D32.fn (ok_tmplB D32.F c4 (c5.mono (by decide)))
  have c7 := D33.fn (ok_choicesB D33.F (c1.mono (by decide)) (c2.mono (by decide)) (c2d.mono (by decide)) c6 m_range m_tuple m_len)
  have c8 := D34.fn (ok_transB D34.F (c1.mono (by decide)) (c3.mono (by decide)) (c6.mono (by decide)) c7 m_range m_tuple)
  have c9 := D38.fn (ok_badPart D38.F c2d)
  have c10 := D39.fn (ok_spoiltT D39.F (c1.mono (by decide)) (c2d.mono (by decide)) (c9.mono (by decide)) m_len)
  have c11 := D37.fn (P := P) (w := w) (base := base) (ok_plain D37.F m_range m_tuple)
  have c12 := D40.fn (ok_boundT D40.F (c1.mono (by decide)) (c11.mono (by decide)) m_range)
  have c13 := ok_classT (P := P) (w := w) (base := base) D35.F m_isinstance m_ValueError gl0 gl1 gl2 gl3 gl4
  have c14 := D36.fn (ok_ref05 D36.F (kt.mono (by decide)) (w1.mono (by decide)) (w2.mono (by decide)) (w3.mono (by decide)) (w4.mono (by decide)) (w5.mono (by decide)) (w6.mono (by decide)) (w7.mono (by decide)) c13 D35.m D35.F.kp D35.b C0 C1 C2 gl5 x0 x1 x2)
  have c15 := D26.fn (P := P) (w := w) (base := base) (ok_box D26.F m_int m_abs)
  exact ok_law05 D41.F (c15.mono (by decide)) (c8.mono (by decide)) (c14.mono (by decide)) (c10.mono (by decide)) (c12.mono (by decide))
theorem law_at {l : PySem.W.OpenLaw} {w : World} {K : PySem.W.Frag} {h : Heap} {mg mb : Str → Option Value} {mean : ExcName → Option Value} {fa E0 E1 E2 E3 E4 E5 y0 y1 y2 y3 y4 y5 y6 y7 T0 T1 T2 T3 T4 T5 T6 T7 : Addr} {q : Program} {loose : List Str} {t_LABELS t_MOST_NESTED t_MOST_TREES t_MOST_STATES_schema t_MOST_RULES t_MOST_STATES_transformation t_MOST_PARTS t_MOST_LEVELS t_MOST_LOOKS : Tok} (X : K.In h) (Tp : PyProof.Rows.Top q loose mean mg mb h) (hfa : mg "law" = some (.ref fa))
    {f0 : Addr} {od0 an0 : Option Addr} {sl0 : Array (Option Value)} {oc0 kV0 dc0 pm0 cd0 ct0 : Value}
    {f1 : Addr} {od1 an1 : Option Addr} {sl1 : Array (Option Value)} {oc1 kV1 dc1 pm1 cd1 ct1 : Value}
    {f2 : Addr} {od2 an2 : Option Addr} {sl2 : Array (Option Value)} {oc2 kV2 dc2 pm2 cd2 ct2 : Value}
    {f3 : Addr} {od3 an3 : Option Addr} {sl3 : Array (Option Value)} {oc3 kV3 dc3 pm3 cd3 ct3 : Value}
    {f4 : Addr} {od4 an4 : Option Addr} {sl4 : Array (Option Value)} {oc4 kV4 dc4 pm4 cd4 ct4 : Value}
    {f5 : Addr} {od5 an5 : Option Addr} {sl5 : Array (Option Value)} {oc5 kV5 dc5 pm5 cd5 ct5 : Value}
    {f6 : Addr} {od6 an6 : Option Addr} {sl6 : Array (Option Value)} {oc6 kV6 dc6 pm6 cd6 ct6 : Value}
    {f7 : Addr} {od7 an7 : Option Addr} {sl7 : Array (Option Value)} {oc7 kV7 dc7 pm7 cd7 ct7 : Value}
    {f8 : Addr} {od8 an8 : Option Addr} {sl8 : Array (Option Value)} {oc8 kV8 dc8 pm8 cd8 ct8 : Value}
    {f9 : Addr} {od9 an9 : Option Addr} {sl9 : Array (Option Value)} {oc9 kV9 dc9 pm9 cd9 ct9 : Value}
    {f10 : Addr} {od10 an10 : Option Addr} {sl10 : Array (Option Value)} {oc10 kV10 dc10 pm10 cd10 ct10 : Value}
    {f11 : Addr} {od11 an11 : Option Addr} {sl11 : Array (Option Value)} {oc11 kV11 dc11 pm11 cd11 ct11 : Value}
    {f12 : Addr} {od12 an12 : Option Addr} {sl12 : Array (Option Value)} {oc12 kV12 dc12 pm12 cd12 ct12 : Value}
    {f13 : Addr} {od13 an13 : Option Addr} {sl13 : Array (Option Value)} {oc13 kV13 dc13 pm13 cd13 ct13 : Value}
    {f14 : Addr} {od14 an14 : Option Addr} {sl14 : Array (Option Value)} {oc14 kV14 dc14 pm14 cd14 ct14 : Value}
    {f15 : Addr} {od15 an15 : Option Addr} {sl15 : Array (Option Value)} {oc15 kV15 dc15 pm15 cd15 ct15 : Value}
    {f16 : Addr} {od16 an16 : Option Addr} {sl16 : Array (Option Value)} {oc16 kV16 dc16 pm16 cd16 ct16 : Value}
    {f17 : Addr} {od17 an17 : Option Addr} {sl17 : Array (Option Value)} {oc17 kV17 dc17 pm17 cd17 ct17 : Value}
    {f18 : Addr} {od18 an18 : Option Addr} {sl18 : Array (Option Value)} {oc18 kV18 dc18 pm18 cd18 ct18 : Value}
    {f19 : Addr} {od19 an19 : Option Addr} {sl19 : Array (Option Value)} {oc19 kV19 dc19 pm19 cd19 ct19 : Value}
    {f20 : Addr} {od20 an20 : Option Addr} {sl20 : Array (Option Value)} {oc20 kV20 dc20 pm20 cd20 ct20 : Value}
    {f21 : Addr} {od21 an21 : Option Addr} {sl21 : Array (Option Value)} {oc21 kV21 dc21 pm21 cd21 ct21 : Value}
    {f22 : Addr} {od22 an22 : Option Addr} {sl22 : Array (Option Value)} {oc22 kV22 dc22 pm22 cd22 ct22 : Value}
    {f23 : Addr} {od23 an23 : Option Addr} {sl23 : Array (Option Value)} {oc23 kV23 dc23 pm23 cd23 ct23 : Value}
    {f24 : Addr} {od24 an24 : Option Addr} {sl24 : Array (Option Value)} {oc24 kV24 dc24 pm24 cd24 ct24 : Value}
    {f25 : Addr} {od25 an25 : Option Addr} {sl25 : Array (Option Value)} {oc25 kV25 dc25 pm25 cd25 ct25 : Value}
    {f26 : Addr} {od26 an26 : Option Addr} {sl26 : Array (Option Value)} {oc26 kV26 dc26 pm26 cd26 ct26 : Value}
    {f27 : Addr} {od27 an27 : Option Addr} {sl27 : Array (Option Value)} {oc27 kV27 dc27 pm27 cd27 ct27 : Value}
    {f28 : Addr} {od28 an28 : Option Addr} {sl28 : Array (Option Value)} {oc28 kV28 dc28 pm28 cd28 ct28 : Value}
    {f29 : Addr} {od29 an29 : Option Addr} {sl29 : Array (Option Value)} {oc29 kV29 dc29 pm29 cd29 ct29 : Value}
    {f30 : Addr} {od30 an30 : Option Addr} {sl30 : Array (Option Value)} {oc30 kV30 dc30 pm30 cd30 ct30 : Value}
    {f31 : Addr} {od31 an31 : Option Addr} {sl31 : Array (Option Value)} {oc31 kV31 dc31 pm31 cd31 ct31 : Value}
    {f32 : Addr} {od32 an32 : Option Addr} {sl32 : Array (Option Value)} {oc32 kV32 dc32 pm32 cd32 ct32 : Value}
    {f33 : Addr} {od33 an33 : Option Addr} {sl33 : Array (Option Value)} {oc33 kV33 dc33 pm33 cd33 ct33 : Value}
    {f34 : Addr} {od34 an34 : Option Addr} {sl34 : Array (Option Value)} {oc34 kV34 dc34 pm34 cd34 ct34 : Value}
    {f35 : Addr} {od35 an35 : Option Addr} {sl35 : Array (Option Value)} {oc35 kV35 dc35 pm35 cd35 ct35 : Value}
    {f36 : Addr} {od36 an36 : Option Addr} {sl36 : Array (Option Value)} {oc36 kV36 dc36 pm36 cd36 ct36 : Value}
    {f37 : Addr} {od37 an37 : Option Addr} {sl37 : Array (Option Value)} {oc37 kV37 dc37 pm37 cd37 ct37 : Value}
    {f38 : Addr} {od38 an38 : Option Addr} {sl38 : Array (Option Value)} {oc38 kV38 dc38 pm38 cd38 ct38 : Value}
    {f39 : Addr} {od39 an39 : Option Addr} {sl39 : Array (Option Value)} {oc39 kV39 dc39 pm39 cd39 ct39 : Value}
    {f40 : Addr} {od40 an40 : Option Addr} {sl40 : Array (Option Value)} {oc40 kV40 dc40 pm40 cd40 ct40 : Value}
    {f41 : Addr} {od41 an41 : Option Addr} {sl41 : Array (Option Value)} {oc41 kV41 dc41 pm41 cd41 ct41 : Value}
    (a0 : PySem.W.nsIn K mainGlobals "is_below" = some (some (.ref f0))) (l0 : K.lookup f0 = some ⟨oc0, od0, .func (PySem.W.fnOf "is_below" "is_below" (defArgs s_is_below) (defBody s_is_below) (defScope s_is_below) .none kV0 dc0 pm0 an0 cd0 ct0), sl0⟩) (c0 : PySem.W.codeIn K cd0 "is_below" = true) (k0 : PySem.W.keepIn K (.ref f0) = true)
    (a1 : PySem.W.nsIn K mainGlobals "is_tuple_of" = some (some (.ref f1))) (l1 : K.lookup f1 = some ⟨oc1, od1, .func (PySem.W.fnOf "is_tuple_of" "is_tuple_of" (defArgs s_is_tuple_of) (defBody s_is_tuple_of) (defScope s_is_tuple_of) .none kV1 dc1 pm1 an1 cd1 ct1), sl1⟩) (c1 : PySem.W.codeIn K cd1 "is_tuple_of" = true) (k1 : PySem.W.keepIn K (.ref f1) = true)
    (a2 : PySem.W.nsIn K mainGlobals "is_rising" = some (some (.ref f2))) (l2 : K.lookup f2 = some ⟨oc2, od2, .func (PySem.W.fnOf "is_rising" "is_rising" (defArgs s_is_rising) (defBody s_is_rising) (defScope s_is_rising) .none kV2 dc2 pm2 an2 cd2 ct2), sl2⟩) (c2 : PySem.W.codeIn K cd2 "is_rising" = true) (k2 : PySem.W.keepIn K (.ref f2) = true)
    (a3 : PySem.W.nsIn K mainGlobals "check_document" = some (some (.ref f3))) (l3 : K.lookup f3 = some ⟨oc3, od3, .func (PySem.W.fnOf "check_document" "check_document" (defArgs s_check_document) (defBody s_check_document) (defScope s_check_document) .none kV3 dc3 pm3 an3 cd3 ct3), sl3⟩) (c3 : PySem.W.codeIn K cd3 "check_document" = true) (k3 : PySem.W.keepIn K (.ref f3) = true)
    (a4 : PySem.W.nsIn K mainGlobals "is_document" = some (some (.ref f4))) (l4 : K.lookup f4 = some ⟨oc4, od4, .func (PySem.W.fnOf "is_document" "is_document" (defArgs s_is_document) (defBody s_is_document) (defScope s_is_document) .none kV4 dc4 pm4 an4 cd4 ct4), sl4⟩) (c4 : PySem.W.codeIn K cd4 "is_document" = true) (k4 : PySem.W.keepIn K (.ref f4) = true)
    (a5 : PySem.W.nsIn K mainGlobals "is_tree" = some (some (.ref f5))) (l5 : K.lookup f5 = some ⟨oc5, od5, .func (PySem.W.fnOf "is_tree" "is_tree" (defArgs s_is_tree) (defBody s_is_tree) (defScope s_is_tree) .none kV5 dc5 pm5 an5 cd5 ct5), sl5⟩) (c5 : PySem.W.codeIn K cd5 "is_tree" = true) (k5 : PySem.W.keepIn K (.ref f5) = true)
    (a6 : PySem.W.nsIn K mainGlobals "check_schema" = some (some (.ref f6))) (l6 : K.lookup f6 = some ⟨oc6, od6, .func (PySem.W.fnOf "check_schema" "check_schema" (defArgs s_check_schema) (defBody s_check_schema) (defScope s_check_schema) .none kV6 dc6 pm6 an6 cd6 ct6), sl6⟩) (c6 : PySem.W.codeIn K cd6 "check_schema" = true) (k6 : PySem.W.keepIn K (.ref f6) = true)
    (a7 : PySem.W.nsIn K mainGlobals "is_schema" = some (some (.ref f7))) (l7 : K.lookup f7 = some ⟨oc7, od7, .func (PySem.W.fnOf "is_schema" "is_schema" (defArgs s_is_schema) (defBody s_is_schema) (defScope s_is_schema) .none kV7 dc7 pm7 an7 cd7 ct7), sl7⟩) (c7 : PySem.W.codeIn K cd7 "is_schema" = true) (k7 : PySem.W.keepIn K (.ref f7) = true)
    (a8 : PySem.W.nsIn K mainGlobals "is_state_schema" = some (some (.ref f8))) (l8 : K.lookup f8 = some ⟨oc8, od8, .func (PySem.W.fnOf "is_state" "is_state" (defArgs s_is_state) (defBody s_is_state) (defScope s_is_state) .none kV8 dc8 pm8 an8 cd8 ct8), sl8⟩) (c8 : PySem.W.codeIn K cd8 "is_state" = true) (k8 : PySem.W.keepIn K (.ref f8) = true)
    (a9 : PySem.W.nsIn K mainGlobals "are_rules" = some (some (.ref f9))) (l9 : K.lookup f9 = some ⟨oc9, od9, .func (PySem.W.fnOf "are_rules" "are_rules" (defArgs s_are_rules) (defBody s_are_rules) (defScope s_are_rules) .none kV9 dc9 pm9 an9 cd9 ct9), sl9⟩) (c9 : PySem.W.codeIn K cd9 "are_rules" = true) (k9 : PySem.W.keepIn K (.ref f9) = true)
    (a10 : PySem.W.nsIn K mainGlobals "is_rule" = some (some (.ref f10))) (l10 : K.lookup f10 = some ⟨oc10, od10, .func (PySem.W.fnOf "is_rule" "is_rule" (defArgs s_is_rule) (defBody s_is_rule) (defScope s_is_rule) .none kV10 dc10 pm10 an10 cd10 ct10), sl10⟩) (c10 : PySem.W.codeIn K cd10 "is_rule" = true) (k10 : PySem.W.keepIn K (.ref f10) = true)
    (a11 : PySem.W.nsIn K mainGlobals "check_transformation" = some (some (.ref f11))) (l11 : K.lookup f11 = some ⟨oc11, od11, .func (PySem.W.fnOf "check_transformation" "check_transformation" (defArgs s_check_transformation) (defBody s_check_transformation) (defScope s_check_transformation) .none kV11 dc11 pm11 an11 cd11 ct11), sl11⟩) (c11 : PySem.W.codeIn K cd11 "check_transformation" = true) (k11 : PySem.W.keepIn K (.ref f11) = true)
    (a12 : PySem.W.nsIn K mainGlobals "is_transformation" = some (some (.ref f12))) (l12 : K.lookup f12 = some ⟨oc12, od12, .func (PySem.W.fnOf "is_transformation" "is_transformation" (defArgs s_is_transformation) (defBody s_is_transformation) (defScope s_is_transformation) .none kV12 dc12 pm12 an12 cd12 ct12), sl12⟩) (c12 : PySem.W.codeIn K cd12 "is_transformation" = true) (k12 : PySem.W.keepIn K (.ref f12) = true)
    (a13 : PySem.W.nsIn K mainGlobals "is_state" = some (some (.ref f13))) (l13 : K.lookup f13 = some ⟨oc13, od13, .func (PySem.W.fnOf "is_state" "is_state" (defArgs s_is_state_transformation) (defBody s_is_state_transformation) (defScope s_is_state_transformation) .none kV13 dc13 pm13 an13 cd13 ct13), sl13⟩) (c13 : PySem.W.codeIn K cd13 "is_state" = true) (k13 : PySem.W.keepIn K (.ref f13) = true) (aa_is_state_transformation : PySem.W.nsIn K mainGlobals "is_state_transformation" = some (some (.ref f13)))
    (a14 : PySem.W.nsIn K mainGlobals "are_choices" = some (some (.ref f14))) (l14 : K.lookup f14 = some ⟨oc14, od14, .func (PySem.W.fnOf "are_choices" "are_choices" (defArgs s_are_choices) (defBody s_are_choices) (defScope s_are_choices) .none kV14 dc14 pm14 an14 cd14 ct14), sl14⟩) (c14 : PySem.W.codeIn K cd14 "are_choices" = true) (k14 : PySem.W.keepIn K (.ref f14) = true)
    (a15 : PySem.W.nsIn K mainGlobals "are_templates" = some (some (.ref f15))) (l15 : K.lookup f15 = some ⟨oc15, od15, .func (PySem.W.fnOf "are_templates" "are_templates" (defArgs s_are_templates) (defBody s_are_templates) (defScope s_are_templates) .none kV15 dc15 pm15 an15 cd15 ct15), sl15⟩) (c15 : PySem.W.codeIn K cd15 "are_templates" = true) (k15 : PySem.W.keepIn K (.ref f15) = true)
    (a16 : PySem.W.nsIn K mainGlobals "waiting_templates" = some (some (.ref f16))) (l16 : K.lookup f16 = some ⟨oc16, od16, .func (PySem.W.fnOf "waiting_templates" "waiting_templates" (defArgs s_waiting_templates) (defBody s_waiting_templates) (defScope s_waiting_templates) .none kV16 dc16 pm16 an16 cd16 ct16), sl16⟩) (c16 : PySem.W.codeIn K cd16 "waiting_templates" = true) (k16 : PySem.W.keepIn K (.ref f16) = true)
    (a17 : PySem.W.nsIn K mainGlobals "is_part" = some (some (.ref f17))) (l17 : K.lookup f17 = some ⟨oc17, od17, .func (PySem.W.fnOf "is_part" "is_part" (defArgs s_is_part) (defBody s_is_part) (defScope s_is_part) .none kV17 dc17 pm17 an17 cd17 ct17), sl17⟩) (c17 : PySem.W.codeIn K cd17 "is_part" = true) (k17 : PySem.W.keepIn K (.ref f17) = true)
    (a18 : PySem.W.nsIn K mainGlobals "check_all" = some (some (.ref f18))) (l18 : K.lookup f18 = some ⟨oc18, od18, .func (PySem.W.fnOf "check_all" "check_all" (defArgs s_check_all) (defBody s_check_all) (defScope s_check_all) .none kV18 dc18 pm18 an18 cd18 ct18), sl18⟩) (c18 : PySem.W.codeIn K cd18 "check_all" = true) (k18 : PySem.W.keepIn K (.ref f18) = true)
    (a19 : PySem.W.nsIn K mainGlobals "turned" = some (some (.ref f19))) (l19 : K.lookup f19 = some ⟨oc19, od19, .func (PySem.W.fnOf "turned" "turned" (defArgs s_turned) (defBody s_turned) (defScope s_turned) .none kV19 dc19 pm19 an19 cd19 ct19), sl19⟩) (c19 : PySem.W.codeIn K cd19 "turned" = true) (k19 : PySem.W.keepIn K (.ref f19) = true)
    (a20 : PySem.W.nsIn K mainGlobals "fits" = some (some (.ref f20))) (l20 : K.lookup f20 = some ⟨oc20, od20, .func (PySem.W.fnOf "fits" "fits" (defArgs s_fits) (defBody s_fits) (defScope s_fits) .none kV20 dc20 pm20 an20 cd20 ct20), sl20⟩) (c20 : PySem.W.codeIn K cd20 "fits" = true) (k20 : PySem.W.keepIn K (.ref f20) = true)
    (a21 : PySem.W.nsIn K mainGlobals "schema_before" = some (some (.ref f21))) (l21 : K.lookup f21 = some ⟨oc21, od21, .func (PySem.W.fnOf "schema_before" "schema_before" (defArgs s_schema_before) (defBody s_schema_before) (defScope s_schema_before) .none kV21 dc21 pm21 an21 cd21 ct21), sl21⟩) (c21 : PySem.W.codeIn K cd21 "schema_before" = true) (k21 : PySem.W.keepIn K (.ref f21) = true)
    (a22 : PySem.W.nsIn K mainGlobals "accepts" = some (some (.ref f22))) (l22 : K.lookup f22 = some ⟨oc22, od22, .func (PySem.W.fnOf "accepts" "accepts" (defArgs s_accepts) (defBody s_accepts) (defScope s_accepts) .none kV22 dc22 pm22 an22 cd22 ct22), sl22⟩) (c22 : PySem.W.codeIn K cd22 "accepts" = true) (k22 : PySem.W.keepIn K (.ref f22) = true)
    (a23 : PySem.W.nsIn K mainGlobals "made" = some (some (.ref f23))) (l23 : K.lookup f23 = some ⟨oc23, od23, .func (PySem.W.fnOf "made" "made" (defArgs s_made) (defBody s_made) (defScope s_made) .none kV23 dc23 pm23 an23 cd23 ct23), sl23⟩) (c23 : PySem.W.codeIn K cd23 "made" = true) (k23 : PySem.W.keepIn K (.ref f23) = true)
    (a24 : PySem.W.nsIn K mainGlobals "first_profile" = some (some (.ref f24))) (l24 : K.lookup f24 = some ⟨oc24, od24, .func (PySem.W.fnOf "first_profile" "first_profile" (defArgs s_first_profile) (defBody s_first_profile) (defScope s_first_profile) .none kV24 dc24 pm24 an24 cd24 ct24), sl24⟩) (c24 : PySem.W.codeIn K cd24 "first_profile" = true) (k24 : PySem.W.keepIn K (.ref f24) = true)
    (a25 : PySem.W.nsIn K mainGlobals "profile" = some (some (.ref f25))) (l25 : K.lookup f25 = some ⟨oc25, od25, .func (PySem.W.fnOf "profile" "profile" (defArgs s_profile) (defBody s_profile) (defScope s_profile) .none kV25 dc25 pm25 an25 cd25 ct25), sl25⟩) (c25 : PySem.W.codeIn K cd25 "profile" = true) (k25 : PySem.W.keepIn K (.ref f25) = true)
    (a26 : PySem.W.nsIn K mainGlobals "_law_box" = some (some (.ref f26))) (l26 : K.lookup f26 = some ⟨oc26, od26, .func (PySem.W.fnOf "_law_box" "_law_box" (defArgs s__law_box) (defBody s__law_box) (defScope s__law_box) .none kV26 dc26 pm26 an26 cd26 ct26), sl26⟩) (c26 : PySem.W.codeIn K cd26 "_law_box" = true) (k26 : PySem.W.keepIn K (.ref f26) = true)
    (a27 : PySem.W.nsIn K mainGlobals "_law_take" = some (some (.ref f27))) (l27 : K.lookup f27 = some ⟨oc27, od27, .func (PySem.W.fnOf "_law_take" "_law_take" (defArgs s__law_take) (defBody s__law_take) (defScope s__law_take) .none kV27 dc27 pm27 an27 cd27 ct27), sl27⟩) (c27 : PySem.W.codeIn K cd27 "_law_take" = true) (k27 : PySem.W.keepIn K (.ref f27) = true)
    (a28 : PySem.W.nsIn K mainGlobals "_law_pick" = some (some (.ref f28))) (l28 : K.lookup f28 = some ⟨oc28, od28, .func (PySem.W.fnOf "_law_pick" "_law_pick" (defArgs s__law_pick) (defBody s__law_pick) (defScope s__law_pick) .none kV28 dc28 pm28 an28 cd28 ct28), sl28⟩) (c28 : PySem.W.codeIn K cd28 "_law_pick" = true) (k28 : PySem.W.keepIn K (.ref f28) = true)
    (a29 : PySem.W.nsIn K mainGlobals "_law_schema" = some (some (.ref f29))) (l29 : K.lookup f29 = some ⟨oc29, od29, .func (PySem.W.fnOf "_law_schema" "_law_schema" (defArgs s__law_schema) (defBody s__law_schema) (defScope s__law_schema) .none kV29 dc29 pm29 an29 cd29 ct29), sl29⟩) (c29 : PySem.W.codeIn K cd29 "_law_schema" = true) (k29 : PySem.W.keepIn K (.ref f29) = true)
    (a30 : PySem.W.nsIn K mainGlobals "_law_grown" = some (some (.ref f30))) (l30 : K.lookup f30 = some ⟨oc30, od30, .func (PySem.W.fnOf "_law_grown" "_law_grown" (defArgs s__law_grown) (defBody s__law_grown) (defScope s__law_grown) .none kV30 dc30 pm30 an30 cd30 ct30), sl30⟩) (c30 : PySem.W.codeIn K cd30 "_law_grown" = true) (k30 : PySem.W.keepIn K (.ref f30) = true)
    (a31 : PySem.W.nsIn K mainGlobals "_law_parts" = some (some (.ref f31))) (l31 : K.lookup f31 = some ⟨oc31, od31, .func (PySem.W.fnOf "_law_parts" "_law_parts" (defArgs s__law_parts) (defBody s__law_parts) (defScope s__law_parts) .none kV31 dc31 pm31 an31 cd31 ct31), sl31⟩) (c31 : PySem.W.codeIn K cd31 "_law_parts" = true) (k31 : PySem.W.keepIn K (.ref f31) = true)
    (a32 : PySem.W.nsIn K mainGlobals "_law_template" = some (some (.ref f32))) (l32 : K.lookup f32 = some ⟨oc32, od32, .func (PySem.W.fnOf "_law_template" "_law_template" (defArgs s__law_template) (defBody s__law_template) (defScope s__law_template) .none kV32 dc32 pm32 an32 cd32 ct32), sl32⟩) (c32 : PySem.W.codeIn K cd32 "_law_template" = true) (k32 : PySem.W.keepIn K (.ref f32) = true)
    (a33 : PySem.W.nsIn K mainGlobals "_law_choices" = some (some (.ref f33))) (l33 : K.lookup f33 = some ⟨oc33, od33, .func (PySem.W.fnOf "_law_choices" "_law_choices" (defArgs s__law_choices) (defBody s__law_choices) (defScope s__law_choices) .none kV33 dc33 pm33 an33 cd33 ct33), sl33⟩) (c33 : PySem.W.codeIn K cd33 "_law_choices" = true) (k33 : PySem.W.keepIn K (.ref f33) = true)
    (a34 : PySem.W.nsIn K mainGlobals "_law_transformation" = some (some (.ref f34))) (l34 : K.lookup f34 = some ⟨oc34, od34, .func (PySem.W.fnOf "_law_transformation" "_law_transformation" (defArgs s__law_transformation) (defBody s__law_transformation) (defScope s__law_transformation) .none kV34 dc34 pm34 an34 cd34 ct34), sl34⟩) (c34 : PySem.W.codeIn K cd34 "_law_transformation" = true) (k34 : PySem.W.keepIn K (.ref f34) = true)
    (a35 : PySem.W.nsIn K mainGlobals "_law_class" = some (some (.ref f35))) (l35 : K.lookup f35 = some ⟨oc35, od35, .func (PySem.W.fnOf "_law_class" "_law_class" (defArgs s__law_class) (defBody s__law_class) (defScope s__law_class) .none kV35 dc35 pm35 an35 cd35 ct35), sl35⟩) (c35 : PySem.W.codeIn K cd35 "_law_class" = true) (k35 : PySem.W.keepIn K (.ref f35) = true)
    (a36 : PySem.W.nsIn K mainGlobals "_law_refused" = some (some (.ref f36))) (l36 : K.lookup f36 = some ⟨oc36, od36, .func (PySem.W.fnOf "_law_refused" "_law_refused" (defArgs s__law_refused) (defBody s__law_refused) (defScope s__law_refused) .none kV36 dc36 pm36 an36 cd36 ct36), sl36⟩) (c36 : PySem.W.codeIn K cd36 "_law_refused" = true) (k36 : PySem.W.keepIn K (.ref f36) = true)
    (a37 : PySem.W.nsIn K mainGlobals "_law_plain" = some (some (.ref f37))) (l37 : K.lookup f37 = some ⟨oc37, od37, .func (PySem.W.fnOf "_law_plain" "_law_plain" (defArgs s__law_plain) (defBody s__law_plain) (defScope s__law_plain) .none kV37 dc37 pm37 an37 cd37 ct37), sl37⟩) (c37 : PySem.W.codeIn K cd37 "_law_plain" = true) (k37 : PySem.W.keepIn K (.ref f37) = true)
    (a38 : PySem.W.nsIn K mainGlobals "_law_bad_part" = some (some (.ref f38))) (l38 : K.lookup f38 = some ⟨oc38, od38, .func (PySem.W.fnOf "_law_bad_part" "_law_bad_part" (defArgs s__law_bad_part) (defBody s__law_bad_part) (defScope s__law_bad_part) .none kV38 dc38 pm38 an38 cd38 ct38), sl38⟩) (c38 : PySem.W.codeIn K cd38 "_law_bad_part" = true) (k38 : PySem.W.keepIn K (.ref f38) = true)
    (a39 : PySem.W.nsIn K mainGlobals "_law_spoilt" = some (some (.ref f39))) (l39 : K.lookup f39 = some ⟨oc39, od39, .func (PySem.W.fnOf "_law_spoilt" "_law_spoilt" (defArgs s__law_spoilt) (defBody s__law_spoilt) (defScope s__law_spoilt) .none kV39 dc39 pm39 an39 cd39 ct39), sl39⟩) (c39 : PySem.W.codeIn K cd39 "_law_spoilt" = true) (k39 : PySem.W.keepIn K (.ref f39) = true)
    (a40 : PySem.W.nsIn K mainGlobals "_law_bound" = some (some (.ref f40))) (l40 : K.lookup f40 = some ⟨oc40, od40, .func (PySem.W.fnOf "_law_bound" "_law_bound" (defArgs s__law_bound) (defBody s__law_bound) (defScope s__law_bound) .none kV40 dc40 pm40 an40 cd40 ct40), sl40⟩) (c40 : PySem.W.codeIn K cd40 "_law_bound" = true) (k40 : PySem.W.keepIn K (.ref f40) = true)
    (a41 : PySem.W.nsIn K mainGlobals "law" = some (some (.ref f41))) (l41 : K.lookup f41 = some ⟨oc41, od41, .func (PySem.W.fnOf "law" "law" (defArgs s_law) (defBody s_law) (defScope s_law) .none kV41 dc41 pm41 an41 cd41 ct41), sl41⟩) (c41 : PySem.W.codeIn K cd41 "law" = true) (k41 : PySem.W.keepIn K (.ref f41) = true)
    (n0 : PySem.W.nsIn K mainGlobals "BadDocument" = some (some (.ref E0)))
    (n1 : PySem.W.nsIn K mainGlobals "BadSchema" = some (some (.ref E1)))
    (n2 : PySem.W.nsIn K mainGlobals "BadTransformation" = some (some (.ref E2)))
    (n3 : PySem.W.nsIn K mainGlobals "BadText" = some (some (.ref E3)))
    (n4 : PySem.W.nsIn K mainGlobals "TooMuch" = some (some (.ref E4)))
    (n5 : PySem.W.nsIn K mainGlobals "LeafwardError" = some (some (.ref E5)))
    (r0q : PySem.W.excIn K E0 [.type "ValueError", .type "Exception", .type "BaseException", .type "object"] "ValueError.__new__" = true)
    (r0k : PySem.W.keepIn K (.ref E0) = true)
    (r0b : PySem.W.subIn K (.ref E0) (.type "BaseException") = some true)
    (r0t : PySem.W.typeIn K (.ref E0) = some (.type "type"))
    (r0g : PySem.W.findIn K (.ref E0) "__getattribute__" = some (some (.builtin "BaseException.__getattribute__")))
    (r0h : PySem.W.findIn K (.ref E0) "__getattr__" = some none)
    (r0d : PySem.W.hasDictIn K E0 = true)
    (r0a : PySem.W.findIn K (.ref E0) "__class__" = some (some (.builtin "object.__class__")))
    (r0m : PySem.W.mroIn K E0 (.type "object") = some true)
    (r0s : PySem.W.findIn K (.ref E0) "__str__" = some (some (.builtin "BaseException.__str__")))
    (r0u0 : PySem.W.kitOne K (.ref E0) (.ref E0) = some true)
    (r0u1 : PySem.W.kitOne K (.ref E0) (.ref E1) = some false)
    (r0u2 : PySem.W.kitOne K (.ref E0) (.ref E2) = some false)
    (r0u3 : PySem.W.kitOne K (.ref E0) (.ref E3) = some false)
    (r0u4 : PySem.W.kitOne K (.ref E0) (.ref E4) = some false)
    (r0v : PySem.W.kitOne K (.ref E0) (.type "ValueError") = some true)
    (r0x : PySem.W.exmOne K (.ref E0) (.ref E5) = some true)
    (r1q : PySem.W.excIn K E1 [.type "ValueError", .type "Exception", .type "BaseException", .type "object"] "ValueError.__new__" = true)
    (r1k : PySem.W.keepIn K (.ref E1) = true)
    (r1b : PySem.W.subIn K (.ref E1) (.type "BaseException") = some true)
    (r1t : PySem.W.typeIn K (.ref E1) = some (.type "type"))
    (r1g : PySem.W.findIn K (.ref E1) "__getattribute__" = some (some (.builtin "BaseException.__getattribute__")))
    (r1h : PySem.W.findIn K (.ref E1) "__getattr__" = some none)
    (r1d : PySem.W.hasDictIn K E1 = true)
    (r1a : PySem.W.findIn K (.ref E1) "__class__" = some (some (.builtin "object.__class__")))
    (r1m : PySem.W.mroIn K E1 (.type "object") = some true)
    (r1s : PySem.W.findIn K (.ref E1) "__str__" = some (some (.builtin "BaseException.__str__")))
    (r1u0 : PySem.W.kitOne K (.ref E1) (.ref E0) = some false)
    (r1u1 : PySem.W.kitOne K (.ref E1) (.ref E1) = some true)
    (r1u2 : PySem.W.kitOne K (.ref E1) (.ref E2) = some false)
    (r1u3 : PySem.W.kitOne K (.ref E1) (.ref E3) = some false)
    (r1u4 : PySem.W.kitOne K (.ref E1) (.ref E4) = some false)
    (r1v : PySem.W.kitOne K (.ref E1) (.type "ValueError") = some true)
    (r1x : PySem.W.exmOne K (.ref E1) (.ref E5) = some true)
    (r2q : PySem.W.excIn K E2 [.type "ValueError", .type "Exception", .type "BaseException", .type "object"] "ValueError.__new__" = true)
    (r2k : PySem.W.keepIn K (.ref E2) = true)
    (r2b : PySem.W.subIn K (.ref E2) (.type "BaseException") = some true)
    (r2t : PySem.W.typeIn K (.ref E2) = some (.type "type"))
    (r2g : PySem.W.findIn K (.ref E2) "__getattribute__" = some (some (.builtin "BaseException.__getattribute__")))
    (r2h : PySem.W.findIn K (.ref E2) "__getattr__" = some none)
    (r2d : PySem.W.hasDictIn K E2 = true)
    (r2a : PySem.W.findIn K (.ref E2) "__class__" = some (some (.builtin "object.__class__")))
    (r2m : PySem.W.mroIn K E2 (.type "object") = some true)
    (r2s : PySem.W.findIn K (.ref E2) "__str__" = some (some (.builtin "BaseException.__str__")))
    (r2u0 : PySem.W.kitOne K (.ref E2) (.ref E0) = some false)
    (r2u1 : PySem.W.kitOne K (.ref E2) (.ref E1) = some false)
    (r2u2 : PySem.W.kitOne K (.ref E2) (.ref E2) = some true)
    (r2u3 : PySem.W.kitOne K (.ref E2) (.ref E3) = some false)
    (r2u4 : PySem.W.kitOne K (.ref E2) (.ref E4) = some false)
    (r2v : PySem.W.kitOne K (.ref E2) (.type "ValueError") = some true)
    (r2x : PySem.W.exmOne K (.ref E2) (.ref E5) = some true)
    (qn : PySem.W.specialIn K (.builtin "object.__class__") "__get__" = some (some (.builtin "getset_descriptor.__get__"))) (qt : PySem.W.takesIn K (.builtin "object.__class__") = some true)
    (z_isinstance : PySem.W.nsIn K mainGlobals "isinstance" = some none) (z_int : PySem.W.nsIn K mainGlobals "int" = some none) (z_bool : PySem.W.nsIn K mainGlobals "bool" = some none) (z_tuple : PySem.W.nsIn K mainGlobals "tuple" = some none) (z_all : PySem.W.nsIn K mainGlobals "all" = some none) (z_range : PySem.W.nsIn K mainGlobals "range" = some none) (z_sum : PySem.W.nsIn K mainGlobals "sum" = some none) (z_abs : PySem.W.nsIn K mainGlobals "abs" = some none) (z_len : PySem.W.nsIn K mainGlobals "len" = some none) (z_ValueError : PySem.W.nsIn K mainGlobals "ValueError" = some none) (z_sorted : PySem.W.nsIn K mainGlobals "sorted" = some none)
    (i_LABELS : PySem.W.nsIn K mainGlobals "LABELS" = some (some (.int 5 t_LABELS))) (i_MOST_NESTED : PySem.W.nsIn K mainGlobals "MOST_NESTED" = some (some (.int 30 t_MOST_NESTED))) (i_MOST_TREES : PySem.W.nsIn K mainGlobals "MOST_TREES" = some (some (.int 300 t_MOST_TREES))) (i_MOST_STATES_schema : PySem.W.nsIn K mainGlobals "MOST_STATES_schema" = some (some (.int 60 t_MOST_STATES_schema))) (i_MOST_RULES : PySem.W.nsIn K mainGlobals "MOST_RULES" = some (some (.int 2000 t_MOST_RULES))) (i_MOST_STATES_transformation : PySem.W.nsIn K mainGlobals "MOST_STATES_transformation" = some (some (.int 12 t_MOST_STATES_transformation))) (i_MOST_PARTS : PySem.W.nsIn K mainGlobals "MOST_PARTS" = some (some (.int 300 t_MOST_PARTS))) (i_MOST_LEVELS : PySem.W.nsIn K mainGlobals "MOST_LEVELS" = some (some (.int 10 t_MOST_LEVELS))) (i_MOST_LOOKS : PySem.W.nsIn K mainGlobals "MOST_LOOKS" = some (some (.int 8 t_MOST_LOOKS)))
    (ht0 : PySem.W.tabIn K "is_document" = some (y0, T0)) (hT0 : K.lookup T0 = none) (hq0 : ((recsOf q).find? (fun e => e.name == ("is_document" : Str))).isSome = true) (ht1 : PySem.W.tabIn K "are_rules" = some (y1, T1)) (hT1 : K.lookup T1 = none) (hq1 : ((recsOf q).find? (fun e => e.name == ("are_rules" : Str))).isSome = true) (ht2 : PySem.W.tabIn K "is_rising" = some (y2, T2)) (hT2 : K.lookup T2 = none) (hq2 : ((recsOf q).find? (fun e => e.name == ("is_rising" : Str))).isSome = true) (ht3 : PySem.W.tabIn K "is_schema" = some (y3, T3)) (hT3 : K.lookup T3 = none) (hq3 : ((recsOf q).find? (fun e => e.name == ("is_schema" : Str))).isSome = true) (ht4 : PySem.W.tabIn K "are_choices" = some (y4, T4)) (hT4 : K.lookup T4 = none) (hq4 : ((recsOf q).find? (fun e => e.name == ("are_choices" : Str))).isSome = true) (ht5 : PySem.W.tabIn K "is_state" = some (y5, T5)) (hT5 : K.lookup T5 = none) (hq5 : ((recsOf q).find? (fun e => e.name == ("is_state" : Str))).isSome = true) (ht6 : PySem.W.tabIn K "is_transformation" = some (y6, T6)) (hT6 : K.lookup T6 = none) (hq6 : ((recsOf q).find? (fun e => e.name == ("is_transformation" : Str))).isSome = true) (ht7 : PySem.W.tabIn K "are_templates" = some (y7, T7)) (hT7 : K.lookup T7 = none) (hq7 : ((recsOf q).find? (fun e => e.name == ("are_templates" : Str))).isSome = true) : LawHere l w K 63 "script" mg fa h := by
  have G := Tp.g
  have e := hfa.symm.trans (PySem.W.mg_of X G a41)
  cases e
  have F0 := fun_mk (st := s_is_below) l0 c0 k0
  have D0 : Df K mg "is_below" "is_below" ["worth", "limit"] s_is_below _ _ := ⟨F0, PySem.W.mg_of X G a0, F0.binds fun _ _ _ _ _ _ us hl => match us, hl with | [_, _], _ => rfl⟩
  have F1 := fun_mk (st := s_is_tuple_of) l1 c1 k1
  have D1 : Df K mg "is_tuple_of" "is_tuple_of" ["worth", "many"] s_is_tuple_of _ _ := ⟨F1, PySem.W.mg_of X G a1, F1.binds fun _ _ _ _ _ _ us hl => match us, hl with | [_, _], _ => rfl⟩
  have F2 := fun_mk (st := s_is_rising) l2 c2 k2
  have D2 : Df K mg "is_rising" "is_rising" ["row"] s_is_rising _ _ := ⟨F2, PySem.W.mg_of X G a2, F2.binds fun _ _ _ _ _ _ us hl => match us, hl with | [_], _ => rfl⟩
  have F3 := fun_mk (st := s_check_document) l3 c3 k3
  have D3 : Df K mg "check_document" "check_document" ["d"] s_check_document _ _ := ⟨F3, PySem.W.mg_of X G a3, F3.binds fun _ _ _ _ _ _ us hl => match us, hl with | [_], _ => rfl⟩
  have F4 := fun_mk (st := s_is_document) l4 c4 k4
  have D4 : Df K mg "is_document" "is_document" ["d"] s_is_document _ _ := ⟨F4, PySem.W.mg_of X G a4, F4.binds fun _ _ _ _ _ _ us hl => match us, hl with | [_], _ => rfl⟩
  have F5 := fun_mk (st := s_is_tree) l5 c5 k5
  have D5 : Df K mg "is_tree" "is_tree" ["tree"] s_is_tree _ _ := ⟨F5, PySem.W.mg_of X G a5, F5.binds fun _ _ _ _ _ _ us hl => match us, hl with | [_], _ => rfl⟩
  have F6 := fun_mk (st := s_check_schema) l6 c6 k6
  have D6 : Df K mg "check_schema" "check_schema" ["s"] s_check_schema _ _ := ⟨F6, PySem.W.mg_of X G a6, F6.binds fun _ _ _ _ _ _ us hl => match us, hl with | [_], _ => rfl⟩
  have F7 := fun_mk (st := s_is_schema) l7 c7 k7
  have D7 : Df K mg "is_schema" "is_schema" ["s"] s_is_schema _ _ := ⟨F7, PySem.W.mg_of X G a7, F7.binds fun _ _ _ _ _ _ us hl => match us, hl with | [_], _ => rfl⟩
  have F8 := fun_mk (st := s_is_state) l8 c8 k8
  have D8 : Df K mg "is_state_schema" "is_state" ["state", "many"] s_is_state _ _ := ⟨F8, PySem.W.mg_of X G a8, F8.binds fun _ _ _ _ _ _ us hl => match us, hl with | [_, _], _ => rfl⟩
  have F9 := fun_mk (st := s_are_rules) l9 c9 k9
  have D9 : Df K mg "are_rules" "are_rules" ["rules", "many"] s_are_rules _ _ := ⟨F9, PySem.W.mg_of X G a9, F9.binds fun _ _ _ _ _ _ us hl => match us, hl with | [_, _], _ => rfl⟩
  have F10 := fun_mk (st := s_is_rule) l10 c10 k10
  have D10 : Df K mg "is_rule" "is_rule" ["rule", "many"] s_is_rule _ _ := ⟨F10, PySem.W.mg_of X G a10, F10.binds fun _ _ _ _ _ _ us hl => match us, hl with | [_, _], _ => rfl⟩
  have F11 := fun_mk (st := s_check_transformation) l11 c11 k11
  have D11 : Df K mg "check_transformation" "check_transformation" ["m"] s_check_transformation _ _ := ⟨F11, PySem.W.mg_of X G a11, F11.binds fun _ _ _ _ _ _ us hl => match us, hl with | [_], _ => rfl⟩
  have F12 := fun_mk (st := s_is_transformation) l12 c12 k12
  have D12 : Df K mg "is_transformation" "is_transformation" ["m"] s_is_transformation _ _ := ⟨F12, PySem.W.mg_of X G a12, F12.binds fun _ _ _ _ _ _ us hl => match us, hl with | [_], _ => rfl⟩
  have F13 := fun_mk (st := s_is_state_transformation) l13 c13 k13
  have D13 : Df K mg "is_state" "is_state" ["state", "looks"] s_is_state_transformation _ _ := ⟨F13, PySem.W.mg_of X G a13, F13.binds fun _ _ _ _ _ _ us hl => match us, hl with | [_, _], _ => rfl⟩
  have F14 := fun_mk (st := s_are_choices) l14 c14 k14
  have D14 : Df K mg "are_choices" "are_choices" ["choices", "looks"] s_are_choices _ _ := ⟨F14, PySem.W.mg_of X G a14, F14.binds fun _ _ _ _ _ _ us hl => match us, hl with | [_, _], _ => rfl⟩
  have F15 := fun_mk (st := s_are_templates) l15 c15 k15
  have D15 : Df K mg "are_templates" "are_templates" ["states"] s_are_templates _ _ := ⟨F15, PySem.W.mg_of X G a15, F15.binds fun _ _ _ _ _ _ us hl => match us, hl with | [_], _ => rfl⟩
  have F16 := fun_mk (st := s_waiting_templates) l16 c16 k16
  have D16 : Df K mg "waiting_templates" "waiting_templates" ["states"] s_waiting_templates _ _ := ⟨F16, PySem.W.mg_of X G a16, F16.binds fun _ _ _ _ _ _ us hl => match us, hl with | [_], _ => rfl⟩
  have F17 := fun_mk (st := s_is_part) l17 c17 k17
  have D17 : Df K mg "is_part" "is_part" ["part", "states", "may_follow"] s_is_part _ _ := ⟨F17, PySem.W.mg_of X G a17, F17.binds fun _ _ _ _ _ _ us hl => match us, hl with | [_, _, _], _ => rfl⟩
  have F18 := fun_mk (st := s_check_all) l18 c18 k18
  have D18 : Df K mg "check_all" "check_all" ["s", "m", "t"] s_check_all _ _ := ⟨F18, PySem.W.mg_of X G a18, F18.binds fun _ _ _ _ _ _ us hl => match us, hl with | [_, _, _], _ => rfl⟩
  have F19 := fun_mk (st := s_turned) l19 c19 k19
  have D19 : Df K mg "turned" "turned" ["m", "d"] s_turned _ _ := ⟨F19, PySem.W.mg_of X G a19, F19.binds fun _ _ _ _ _ _ us hl => match us, hl with | [_, _], _ => rfl⟩
  have F20 := fun_mk (st := s_fits) l20 c20 k20
  have D20 : Df K mg "fits" "fits" ["s", "m", "t"] s_fits _ _ := ⟨F20, PySem.W.mg_of X G a20, F20.binds fun _ _ _ _ _ _ us hl => match us, hl with | [_, _, _], _ => rfl⟩
  have F21 := fun_mk (st := s_schema_before) l21 c21 k21
  have D21 : Df K mg "schema_before" "schema_before" ["m", "t"] s_schema_before _ _ := ⟨F21, PySem.W.mg_of X G a21, F21.binds fun _ _ _ _ _ _ us hl => match us, hl with | [_, _], _ => rfl⟩
  have F22 := fun_mk (st := s_accepts) l22 c22 k22
  have D22 : Df K mg "accepts" "accepts" ["s", "m", "t", "paper"] s_accepts _ _ := ⟨F22, PySem.W.mg_of X G a22, F22.binds fun _ _ _ _ _ _ us hl => match us, hl with | [_, _, _, _], _ => rfl⟩
  have F23 := fun_mk (st := s_made) l23 c23 k23
  have D23 : Df K mg "made" "made" ["m", "state", "d"] s_made _ _ := ⟨F23, PySem.W.mg_of X G a23, F23.binds fun _ _ _ _ _ _ us hl => match us, hl with | [_, _, _], _ => rfl⟩
  have F24 := fun_mk (st := s_first_profile) l24 c24 k24
  have D24 : Df K mg "first_profile" "first_profile" ["s", "m", "t"] s_first_profile _ _ := ⟨F24, PySem.W.mg_of X G a24, F24.binds fun _ _ _ _ _ _ us hl => match us, hl with | [_, _, _], _ => rfl⟩
  have F25 := fun_mk (st := s_profile) l25 c25 k25
  have D25 : Df K mg "profile" "profile" ["s", "m", "t", "d"] s_profile _ _ := ⟨F25, PySem.W.mg_of X G a25, F25.binds fun _ _ _ _ _ _ us hl => match us, hl with | [_, _, _, _], _ => rfl⟩
  have F26 := fun_mk (st := s__law_box) l26 c26 k26
  have D26 : Df K mg "_law_box" "_law_box" ["script"] s__law_box _ _ := ⟨F26, PySem.W.mg_of X G a26, F26.binds fun _ _ _ _ _ _ us hl => match us, hl with | [_], _ => rfl⟩
  have F27 := fun_mk (st := s__law_take) l27 c27 k27
  have D27 : Df K mg "_law_take" "_law_take" ["box", "m"] s__law_take _ _ := ⟨F27, PySem.W.mg_of X G a27, F27.binds fun _ _ _ _ _ _ us hl => match us, hl with | [_, _], _ => rfl⟩
  have F28 := fun_mk (st := s__law_pick) l28 c28 k28
  have D28 : Df K mg "_law_pick" "_law_pick" ["box", "menu"] s__law_pick _ _ := ⟨F28, PySem.W.mg_of X G a28, F28.binds fun _ _ _ _ _ _ us hl => match us, hl with | [_, _], _ => rfl⟩
  have F29 := fun_mk (st := s__law_schema) l29 c29 k29
  have D29 : Df K mg "_law_schema" "_law_schema" ["box", "labels", "most", "rules"] s__law_schema _ _ := ⟨F29, PySem.W.mg_of X G a29, F29.binds fun _ _ _ _ _ _ us hl => match us, hl with | [_, _, _, _], _ => rfl⟩
  have F30 := fun_mk (st := s__law_grown) l30 c30 k30
  have D30 : Df K mg "_law_grown" "_law_grown" ["box", "labels", "many", "deep", "end"] s__law_grown _ _ := ⟨F30, PySem.W.mg_of X G a30, F30.binds fun _ _ _ _ _ _ us hl => match us, hl with | [_, _, _, _, _], _ => rfl⟩
  have F31 := fun_mk (st := s__law_parts) l31 c31 k31
  have D31 : Df K mg "_law_parts" "_law_parts" ["template"] s__law_parts _ _ := ⟨F31, PySem.W.mg_of X G a31, F31.binds fun _ _ _ _ _ _ us hl => match us, hl with | [_], _ => rfl⟩
  have F32 := fun_mk (st := s__law_template) l32 c32 k32
  have D32 : Df K mg "_law_template" "_law_template" ["box", "labels", "many", "deep", "end"] s__law_template _ _ := ⟨F32, PySem.W.mg_of X G a32, F32.binds fun _ _ _ _ _ _ us hl => match us, hl with | [_, _, _, _, _], _ => rfl⟩
  have F33 := fun_mk (st := s__law_choices) l33 c33 k33
  have D33 : Df K mg "_law_choices" "_law_choices" ["box", "labels", "looks", "many", "label"] s__law_choices _ _ := ⟨F33, PySem.W.mg_of X G a33, F33.binds fun _ _ _ _ _ _ us hl => match us, hl with | [_, _, _, _, _], _ => rfl⟩
  have F34 := fun_mk (st := s__law_transformation) l34 c34 k34
  have D34 : Df K mg "_law_transformation" "_law_transformation" ["box", "labels", "most"] s__law_transformation _ _ := ⟨F34, PySem.W.mg_of X G a34, F34.binds fun _ _ _ _ _ _ us hl => match us, hl with | [_, _, _], _ => rfl⟩
  have F35 := fun_mk (st := s__law_class) l35 c35 k35
  have D35 : Df K mg "_law_class" "_law_class" ["e"] s__law_class _ _ := ⟨F35, PySem.W.mg_of X G a35, F35.binds fun _ _ _ _ _ _ us hl => match us, hl with | [_], _ => rfl⟩
  have F36 := fun_mk (st := s__law_refused) l36 c36 k36
  have D36 : Df K mg "_law_refused" "_law_refused" ["way", "one", "s"] s__law_refused _ _ := ⟨F36, PySem.W.mg_of X G a36, F36.binds fun _ _ _ _ _ _ us hl => match us, hl with | [_, _, _], _ => rfl⟩
  have F37 := fun_mk (st := s__law_plain) l37 c37 k37
  have D37 : Df K mg "_law_plain" "_law_plain" ["end", "template", "many"] s__law_plain _ _ := ⟨F37, PySem.W.mg_of X G a37, F37.binds fun _ _ _ _ _ _ us hl => match us, hl with | [_, _, _], _ => rfl⟩
  have F38 := fun_mk (st := s__law_bad_part) l38 c38 k38
  have D38 : Df K mg "_law_bad_part" "_law_bad_part" ["box", "many", "end"] s__law_bad_part _ _ := ⟨F38, PySem.W.mg_of X G a38, F38.binds fun _ _ _ _ _ _ us hl => match us, hl with | [_, _, _], _ => rfl⟩
  have F39 := fun_mk (st := s__law_spoilt) l39 c39 k39
  have D39 : Df K mg "_law_spoilt" "_law_spoilt" ["box", "m"] s__law_spoilt _ _ := ⟨F39, PySem.W.mg_of X G a39, F39.binds fun _ _ _ _ _ _ us hl => match us, hl with | [_, _], _ => rfl⟩
  have F40 := fun_mk (st := s__law_bound) l40 c40 k40
  have D40 : Df K mg "_law_bound" "_law_bound" ["box"] s__law_bound _ _ := ⟨F40, PySem.W.mg_of X G a40, F40.binds fun _ _ _ _ _ _ us hl => match us, hl with | [_], _ => rfl⟩
  have F41 := fun_mk (st := s_law) l41 c41 k41
  have D41 : Df K mg "law" "law" ["script"] s_law _ _ := ⟨F41, PySem.W.mg_of X G a41, F41.binds fun _ _ _ _ _ _ us hl => match us, hl with | [_], _ => rfl⟩
  obtain ⟨dd0, hdd0⟩ := Option.isSome_iff_exists.mp hq0
  obtain ⟨CC0, hP0⟩ := PySem.W.tab_of Tp X hdd0 ht0
  have hc0 := PySem.W.law_code X G ht0 (PySem.W.mg_of X G a4) (X _ _ l4) rfl
  obtain ⟨dd1, hdd1⟩ := Option.isSome_iff_exists.mp hq1
  obtain ⟨CC1, hP1⟩ := PySem.W.tab_of Tp X hdd1 ht1
  have hc1 := PySem.W.law_code X G ht1 (PySem.W.mg_of X G a9) (X _ _ l9) rfl
  obtain ⟨dd2, hdd2⟩ := Option.isSome_iff_exists.mp hq2
  obtain ⟨CC2, hP2⟩ := PySem.W.tab_of Tp X hdd2 ht2
  have hc2 := PySem.W.law_code X G ht2 (PySem.W.mg_of X G a2) (X _ _ l2) rfl
  obtain ⟨dd3, hdd3⟩ := Option.isSome_iff_exists.mp hq3
  obtain ⟨CC3, hP3⟩ := PySem.W.tab_of Tp X hdd3 ht3
  have hc3 := PySem.W.law_code X G ht3 (PySem.W.mg_of X G a7) (X _ _ l7) rfl
  obtain ⟨dd4, hdd4⟩ := Option.isSome_iff_exists.mp hq4
  obtain ⟨CC4, hP4⟩ := PySem.W.tab_of Tp X hdd4 ht4
  have hc4 := PySem.W.law_code X G ht4 (PySem.W.mg_of X G a14) (X _ _ l14) rfl
  obtain ⟨dd5, hdd5⟩ := Option.isSome_iff_exists.mp hq5
  obtain ⟨CC5, hP5⟩ := PySem.W.tab_of Tp X hdd5 ht5
  have hc5 := PySem.W.law_code X G ht5 (PySem.W.mg_of X G a13) (X _ _ l13) rfl
  obtain ⟨dd6, hdd6⟩ := Option.isSome_iff_exists.mp hq6
  obtain ⟨CC6, hP6⟩ := PySem.W.tab_of Tp X hdd6 ht6
  have hc6 := PySem.W.law_code X G ht6 (PySem.W.mg_of X G a12) (X _ _ l12) rfl
  obtain ⟨dd7, hdd7⟩ := Option.isSome_iff_exists.mp hq7
  obtain ⟨CC7, hP7⟩ := PySem.W.tab_of Tp X hdd7 ht7
  have hc7 := PySem.W.law_code X G ht7 (PySem.W.mg_of X G a15) (X _ _ l15) rfl
  have four : ∀ R : Addr × Addr → Prop, R (y0, T0) → R (y1, T1) → R (y2, T2) → R (y3, T3) → R (y4, T4) → R (y5, T5) → R (y6, T6) → R (y7, T7) → ∀ p ∈ ([(y0, T0), (y1, T1), (y2, T2), (y3, T3), (y4, T4), (y5, T5), (y6, T6), (y7, T7)] : List (Addr × Addr)), R p := fun R r0 r1 r2 r3 r4 r5 r6 r7 p hp => by
    rcases List.mem_cons.mp hp with rfl | hp
    · exact r0
    rcases List.mem_cons.mp hp with rfl | hp
    · exact r1
    rcases List.mem_cons.mp hp with rfl | hp
    · exact r2
    rcases List.mem_cons.mp hp with rfl | hp
    · exact r3
    rcases List.mem_cons.mp hp with rfl | hp
    · exact r4
    rcases List.mem_cons.mp hp with rfl | hp
    · exact r5
    rcases List.mem_cons.mp hp with rfl | hp
    · exact r6
    rw [List.mem_singleton.mp hp]
    exact r7
  refine ⟨PySem.W.fnOf "law" "law" (defArgs s_law) (defBody s_law) (defScope s_law) .none kV41 dc41 pm41 an41 cd41 ct41, [(y0, T0), (y1, T1), (y2, T2), (y3, T3), (y4, T4), (y5, T5), (y6, T6), (y7, T7)], spLaw05 K [T0, T1, T2, T3, T4, T5, T6, T7], four _ hP0 hP1 hP2 hP3 hP4 hP5 hP6 hP7, four _ hT0 hT1 hT2 hT3 hT4 hT5 hT6 hT7, four _ CC0 CC1 CC2 CC3 CC4 CC5 CC6 CC7, fun s u => .of_eq rfl, fun H a ns hl hH hS => ⟨a, ns, rfl, hS, hl, tbs8 ⟨#[], hH (y0, T0) (.head _), trivial⟩ ⟨#[], hH (y1, T1) (.tail _ (.head _)), trivial⟩ ⟨#[], hH (y2, T2) (.tail _ (.tail _ (.head _))), trivial⟩ ⟨#[], hH (y3, T3) (.tail _ (.tail _ (.tail _ (.head _)))), trivial⟩ ⟨#[], hH (y4, T4) (.tail _ (.tail _ (.tail _ (.tail _ (.head _))))), trivial⟩ ⟨#[], hH (y5, T5) (.tail _ (.tail _ (.tail _ (.tail _ (.tail _ (.head _)))))), trivial⟩ ⟨#[], hH (y6, T6) (.tail _ (.tail _ (.tail _ (.tail _ (.tail _ (.tail _ (.head _))))))), trivial⟩ ⟨#[], hH (y7, T7) (.tail _ (.tail _ (.tail _ (.tail _ (.tail _ (.tail _ (.tail _ (.head _)))))))), trivial⟩, fun _ => rfl⟩, fun base _ _ hTB => ?_⟩
  have tt0 := hTB (y0, T0) (.head _)
  have tt1 := hTB (y1, T1) (.tail _ (.head _))
  have tt2 := hTB (y2, T2) (.tail _ (.tail _ (.head _)))
  have tt3 := hTB (y3, T3) (.tail _ (.tail _ (.tail _ (.head _))))
  have tt4 := hTB (y4, T4) (.tail _ (.tail _ (.tail _ (.tail _ (.head _)))))
  have tt5 := hTB (y5, T5) (.tail _ (.tail _ (.tail _ (.tail _ (.tail _ (.head _))))))
  have tt6 := hTB (y6, T6) (.tail _ (.tail _ (.tail _ (.tail _ (.tail _ (.tail _ (.head _)))))))
  have tt7 := hTB (y7, T7) (.tail _ (.tail _ (.tail _ (.tail _ (.tail _ (.tail _ (.tail _ (.head _))))))))
  have B0 : XC K mg "BadDocument" E0 := ⟨PySem.W.mg_of X G n0, r0q, r0k, r0b, r0t⟩
  have C0 : ClsF K E0 E1 E2 E3 E4 E0 0 := ⟨by decide, ⟨r0g, r0h, r0b, r0d, r0a, qn, qt, r0m⟩, r0s, r0u0, r0u1, r0u2, r0u3, r0u4, r0v⟩
  have B1 : XC K mg "BadSchema" E1 := ⟨PySem.W.mg_of X G n1, r1q, r1k, r1b, r1t⟩
  have C1 : ClsF K E0 E1 E2 E3 E4 E1 1 := ⟨by decide, ⟨r1g, r1h, r1b, r1d, r1a, qn, qt, r1m⟩, r1s, r1u0, r1u1, r1u2, r1u3, r1u4, r1v⟩
  have B2 : XC K mg "BadTransformation" E2 := ⟨PySem.W.mg_of X G n2, r2q, r2k, r2b, r2t⟩
  have C2 : ClsF K E0 E1 E2 E3 E4 E2 2 := ⟨by decide, ⟨r2g, r2h, r2b, r2d, r2a, qn, qt, r2m⟩, r2s, r2u0, r2u1, r2u2, r2u3, r2u4, r2v⟩
  exact law_fn D0 D1 D2 D3 D4 D5 D6 D7 D8 D9 D10 D11 D12 D13 (PySem.W.mg_of X G aa_is_state_transformation) D14 D15 D16 D17 D18 D19 D20 D21 D22 D23 D24 D25 D26 D27 D28 D29 D30 D31 D32 D33 D34 D35 D36 D37 D38 D39 D40 D41  hc0 ⟨tt0.code, tt0.bm, tt0.gP⟩ hc1 ⟨tt1.code, tt1.bm, tt1.gP⟩ hc2 ⟨tt2.code, tt2.bm, tt2.gP⟩ hc3 ⟨tt3.code, tt3.bm, tt3.gP⟩ hc4 ⟨tt4.code, tt4.bm, tt4.gP⟩ hc5 ⟨tt5.code, tt5.bm, tt5.gP⟩ hc6 ⟨tt6.code, tt6.bm, tt6.gP⟩ hc7 ⟨tt7.code, tt7.bm, tt7.gP⟩ (PySem.W.mg_of X G n0) (PySem.W.mg_of X G n1) (PySem.W.mg_of X G n2) (PySem.W.mg_of X G n3) (PySem.W.mg_of X G n4) (PySem.W.mg_of X G n5) B0 C0 r0x B1 C1 r1x B2 C2 r2x (PySem.W.mg_none_of X G z_isinstance) (PySem.W.mg_none_of X G z_int) (PySem.W.mg_none_of X G z_bool) (PySem.W.mg_none_of X G z_tuple) (PySem.W.mg_none_of X G z_all) (PySem.W.mg_none_of X G z_range) (PySem.W.mg_none_of X G z_sum) (PySem.W.mg_none_of X G z_abs) (PySem.W.mg_none_of X G z_len) (PySem.W.mg_none_of X G z_ValueError) (PySem.W.mg_none_of X G z_sorted) (PySem.W.mg_of X G i_LABELS) (PySem.W.mg_of X G i_MOST_NESTED) (PySem.W.mg_of X G i_MOST_TREES) (PySem.W.mg_of X G i_MOST_STATES_schema) (PySem.W.mg_of X G i_MOST_RULES) (PySem.W.mg_of X G i_MOST_STATES_transformation) (PySem.W.mg_of X G i_MOST_PARTS) (PySem.W.mg_of X G i_MOST_LEVELS) (PySem.W.mg_of X G i_MOST_LOOKS)
end LW
open PySem PySem.W PyProof.Rows
set_option maxRecDepth 100000 in
set_option maxHeartbeats 0 in
theorem PySem.Challenge.cw_leafward_k05_what_is_a_transformation_holds : PySem.Challenge.rw_leafward_k05_what_is_a_transformation.Holds := by
  w_on; refine LW.head ?_
  k_fill
  refine LW.walk_here (l := PySem.Challenge.rw_leafward_k05_what_is_a_transformation) (n := 63) (x := "script") rfl (by decide) rfl (fun w h Y => PySem.W.kIn_of Y) ?F
  case F =>
    intro w lo mean mg mb fa h Y KX T hmg
    refine' LW.law_at (y0 := 133) (T0 := 131) (y1 := 420) (T1 := 416) (y2 := 114) (T2 := 110) (y3 := 406) (T3 := 404) (y4 := 455) (T4 := 451) (y5 := 448) (T5 := 444) (y6 := 441) (T6 := 437) (y7 := 460) (T7 := 458) KX T hmg ?a0 ?l0 ?c0 ?k0 ?a1 ?l1 ?c1 ?k1 ?a2 ?l2 ?c2 ?k2 ?a3 ?l3 ?c3 ?k3 ?a4 ?l4 ?c4 ?k4 ?a5 ?l5 ?c5 ?k5 ?a6 ?l6 ?c6 ?k6 ?a7 ?l7 ?c7 ?k7 ?a8 ?l8 ?c8 ?k8 ?a9 ?l9 ?c9 ?k9 ?a10 ?l10 ?c10 ?k10 ?a11 ?l11 ?c11 ?k11 ?a12 ?l12 ?c12 ?k12 ?a13 ?l13 ?c13 ?k13 ?aa_is_state_transformation ?a14 ?l14 ?c14 ?k14 ?a15 ?l15 ?c15 ?k15 ?a16 ?l16 ?c16 ?k16 ?a17 ?l17 ?c17 ?k17 ?a18 ?l18 ?c18 ?k18 ?a19 ?l19 ?c19 ?k19 ?a20 ?l20 ?c20 ?k20 ?a21 ?l21 ?c21 ?k21 ?a22 ?l22 ?c22 ?k22 ?a23 ?l23 ?c23 ?k23 ?a24 ?l24 ?c24 ?k24 ?a25 ?l25 ?c25 ?k25 ?a26 ?l26 ?c26 ?k26 ?a27 ?l27 ?c27 ?k27 ?a28 ?l28 ?c28 ?k28 ?a29 ?l29 ?c29 ?k29 ?a30 ?l30 ?c30 ?k30 ?a31 ?l31 ?c31 ?k31 ?a32 ?l32 ?c32 ?k32 ?a33 ?l33 ?c33 ?k33 ?a34 ?l34 ?c34 ?k34 ?a35 ?l35 ?c35 ?k35 ?a36 ?l36 ?c36 ?k36 ?a37 ?l37 ?c37 ?k37 ?a38 ?l38 ?c38 ?k38 ?a39 ?l39 ?c39 ?k39 ?a40 ?l40 ?c40 ?k40 ?a41 ?l41 ?c41 ?k41 ?n0 ?n1 ?n2 ?n3 ?n4 ?n5 ?r0q ?r0k ?r0b ?r0t ?r0g ?r0h ?r0d ?r0a ?r0m ?r0s ?r0u0 ?r0u1 ?r0u2 ?r0u3 ?r0u4 ?r0v ?r0x ?r1q ?r1k ?r1b ?r1t ?r1g ?r1h ?r1d ?r1a ?r1m ?r1s ?r1u0 ?r1u1 ?r1u2 ?r1u3 ?r1u4 ?r1v ?r1x ?r2q ?r2k ?r2b ?r2t ?r2g ?r2h ?r2d ?r2a ?r2m ?r2s ?r2u0 ?r2u1 ?r2u2 ?r2u3 ?r2u4 ?r2v ?r2x ?qn ?qt ?z0 ?z1 ?z2 ?z3 ?z4 ?z5 ?z6 ?z7 ?z8 ?z9 ?z10 ?i0 ?i1 ?i2 ?i3 ?i4 ?i5 ?i6 ?i7 ?i8 ?ht0 ?hT0 ?hq0 ?ht1 ?hT1 ?hq1 ?ht2 ?hT2 ?hq2 ?ht3 ?hT3 ?hq3 ?ht4 ?hT4 ?hq4 ?ht5 ?hT5 ?hq5 ?ht6 ?hT6 ?hq6 ?ht7 ?hT7 ?hq7
    (case a0 => k_is); (case l0 => k_is); (case c0 => k_is); (case k0 => k_is)
    (case a1 => k_is); (case l1 => k_is); (case c1 => k_is); (case k1 => k_is)
    (case a2 => k_is); (case l2 => k_is); (case c2 => k_is); (case k2 => k_is)
    (case a3 => k_is); (case l3 => k_is); (case c3 => k_is); (case k3 => k_is)
    (case a4 => k_is); (case l4 => k_is); (case c4 => k_is); (case k4 => k_is)
    (case a5 => k_is); (case l5 => k_is); (case c5 => k_is); (case k5 => k_is)
    (case a6 => k_is); (case l6 => k_is); (case c6 => k_is); (case k6 => k_is)
    (case a7 => k_is); (case l7 => k_is); (case c7 => k_is); (case k7 => k_is)
    (case a8 => k_is); (case l8 => k_is); (case c8 => k_is); (case k8 => k_is)
    (case a9 => k_is); (case l9 => k_is); (case c9 => k_is); (case k9 => k_is)
    (case a10 => k_is); (case l10 => k_is); (case c10 => k_is); (case k10 => k_is)
    (case a11 => k_is); (case l11 => k_is); (case c11 => k_is); (case k11 => k_is)
    (case a12 => k_is); (case l12 => k_is); (case c12 => k_is); (case k12 => k_is)
    (case a13 => k_is); (case l13 => k_is); (case c13 => k_is); (case k13 => k_is); (case aa_is_state_transformation => k_is)
    (case a14 => k_is); (case l14 => k_is); (case c14 => k_is); (case k14 => k_is)
    (case a15 => k_is); (case l15 => k_is); (case c15 => k_is); (case k15 => k_is)
    (case a16 => k_is); (case l16 => k_is); (case c16 => k_is); (case k16 => k_is)
    (case a17 => k_is); (case l17 => k_is); (case c17 => k_is); (case k17 => k_is)
    (case a18 => k_is); (case l18 => k_is); (case c18 => k_is); (case k18 => k_is)
    (case a19 => k_is); (case l19 => k_is); (case c19 => k_is); (case k19 => k_is)
    (case a20 => k_is); (case l20 => k_is); (case c20 => k_is); (case k20 => k_is)
    (case a21 => k_is); (case l21 => k_is); (case c21 => k_is); (case k21 => k_is)
    (case a22 => k_is); (case l22 => k_is); (case c22 => k_is); (case k22 => k_is)
    (case a23 => k_is); (case l23 => k_is); (case c23 => k_is); (case k23 => k_is)
    (case a24 => k_is); (case l24 => k_is); (case c24 => k_is); (case k24 => k_is)
    (case a25 => k_is); (case l25 => k_is); (case c25 => k_is); (case k25 => k_is)
    (case a26 => k_is); (case l26 => k_is); (case c26 => k_is); (case k26 => k_is)
    (case a27 => k_is); (case l27 => k_is); (case c27 => k_is); (case k27 => k_is)
    (case a28 => k_is); (case l28 => k_is); (case c28 => k_is); (case k28 => k_is)
    (case a29 => k_is); (case l29 => k_is); (case c29 => k_is); (case k29 => k_is)
    (case a30 => k_is); (case l30 => k_is); (case c30 => k_is); (case k30 => k_is)
    (case a31 => k_is); (case l31 => k_is); (case c31 => k_is); (case k31 => k_is)
    (case a32 => k_is); (case l32 => k_is); (case c32 => k_is); (case k32 => k_is)
    (case a33 => k_is); (case l33 => k_is); (case c33 => k_is); (case k33 => k_is)
    (case a34 => k_is); (case l34 => k_is); (case c34 => k_is); (case k34 => k_is)
    (case a35 => k_is); (case l35 => k_is); (case c35 => k_is); (case k35 => k_is)
    (case a36 => k_is); (case l36 => k_is); (case c36 => k_is); (case k36 => k_is)
    (case a37 => k_is); (case l37 => k_is); (case c37 => k_is); (case k37 => k_is)
    (case a38 => k_is); (case l38 => k_is); (case c38 => k_is); (case k38 => k_is)
    (case a39 => k_is); (case l39 => k_is); (case c39 => k_is); (case k39 => k_is)
    (case a40 => k_is); (case l40 => k_is); (case c40 => k_is); (case k40 => k_is)
    (case a41 => k_is); (case l41 => k_is); (case c41 => k_is); (case k41 => k_is)
    (case n0 => k_is); (case n1 => k_is); (case n2 => k_is); (case n3 => k_is); (case n4 => k_is); (case n5 => k_is); (case r0q => kernel_rfl); (case r0k => k_is); (case r0b => k_is); (case r0t => k_is); (case r0g => k_is); (case r0h => k_is); (case r0d => k_is); (case r0a => k_is); (case r0m => k_is); (case r0s => k_is); (case r0u0 => kernel_rfl); (case r0u1 => kernel_rfl); (case r0u2 => kernel_rfl); (case r0u3 => kernel_rfl); (case r0u4 => kernel_rfl); (case r0v => kernel_rfl); (case r0x => kernel_rfl); (case r1q => kernel_rfl); (case r1k => k_is); (case r1b => k_is); (case r1t => k_is); (case r1g => k_is); (case r1h => k_is); (case r1d => k_is); (case r1a => k_is); (case r1m => k_is); (case r1s => k_is); (case r1u0 => kernel_rfl); (case r1u1 => kernel_rfl); (case r1u2 => kernel_rfl); (case r1u3 => kernel_rfl); (case r1u4 => kernel_rfl); (case r1v => kernel_rfl); (case r1x => kernel_rfl); (case r2q => kernel_rfl); (case r2k => k_is); (case r2b => k_is); (case r2t => k_is); (case r2g => k_is); (case r2h => k_is); (case r2d => k_is); (case r2a => k_is); (case r2m => k_is); (case r2s => k_is); (case r2u0 => kernel_rfl); (case r2u1 => kernel_rfl); (case r2u2 => kernel_rfl); (case r2u3 => kernel_rfl); (case r2u4 => kernel_rfl); (case r2v => kernel_rfl); (case r2x => kernel_rfl); (case qn => k_is); (case qt => k_is)
    (case z0 => k_is); (case z1 => k_is); (case z2 => k_is); (case z3 => k_is); (case z4 => k_is); (case z5 => k_is); (case z6 => k_is); (case z7 => k_is); (case z8 => k_is); (case z9 => k_is); (case z10 => k_is)
    (case i0 => k_is); (case i1 => k_is); (case i2 => k_is); (case i3 => k_is); (case i4 => k_is); (case i5 => k_is); (case i6 => k_is); (case i7 => k_is); (case i8 => k_is)
    (case ht0 => kernel_rfl); (case hT0 => kernel_rfl); (case hq0 => decide +kernel)
    (case ht1 => kernel_rfl); (case hT1 => kernel_rfl); (case hq1 => decide +kernel)
    (case ht2 => kernel_rfl); (case hT2 => kernel_rfl); (case hq2 => decide +kernel)
    (case ht3 => kernel_rfl); (case hT3 => kernel_rfl); (case hq3 => decide +kernel)
    (case ht4 => kernel_rfl); (case hT4 => kernel_rfl); (case hq4 => decide +kernel)
    (case ht5 => kernel_rfl); (case hT5 => kernel_rfl); (case hq5 => decide +kernel)
    (case ht6 => kernel_rfl); (case hT6 => kernel_rfl); (case hq6 => decide +kernel)
    (case ht7 => kernel_rfl); (case hT7 => kernel_rfl); (case hq7 => decide +kernel)
