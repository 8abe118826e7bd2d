import PyProof.Rows.All
import Wide.All
import OpenK.AllK
import Wide.FinOn
import HandS.ForMost
import HandS.AnyAll
import HandS.GenList
import HandS.IsInst
import HandS.Deep
import HandS.TupAny
import HandS.TupLe
import HandS.ForExc
import HandS.Evl
import PySem.Challenge.RW_leafward_k01_sizes_and_order
import KE.LtData
import HandS.EndTab
import KE.KNest
set_option Elab.async false
set_option linter.all false
set_option maxRecDepth 100000
set_option maxHeartbeats 1000000
/-! all, any of a generator expression over whatever a for walks, the element any expression of the layer. -/
namespace LW
open PySem PySem.Spec PyProof.Rows L2 GenW

/-- the context of a generator expression's frame -/
abbrev gblk (X : Cx) (A : Around) (s : Shared) (H : Hp) (scope : Scope) (env : Env) (fp : List Addr) (pn : List (Addr × Obj)) : Cx :=
  { X with A := A, s_0 := s, H_0 := H, env := env, outer := X.stack, stack := env :: X.stack, ex := fp, fn := fun x => scope.names.lookup x == some .cell, calm := true, pn := pn, xe := fun _ _ => False }

structure GSc (N : List Str) (sc scope : Scope) (own : List (Str × Nat)) : Prop extends BlkOk N sc scope own where
  co : scope.isCoroutine = false
  cell : ∀ y ∈ scope.names, y.2 ≠ .cell
  dot : scope.names.lookup (".0" : Str) = some NameKind.local

def gscC (scope : Scope) : Bool := (!scope.isCoroutine) && (scope.names.all fun y => decide (y.2 ≠ .cell)) && decide (scope.names.lookup (".0" : Str) = some NameKind.local)
theorem gsc_by {N : List Str} {sc scope : Scope} {own : List (Str × Nat)} (h : blkC N sc scope own = true) (h2 : gscC scope = true) : GSc N sc scope own := by
  unfold gscC at h2
  simp only [Bool.and_eq_true, List.all_eq_true, decide_eq_true_eq, Bool.not_eq_true'] at h2
  exact ⟨blkOk_by h, h2.1.1, h2.1.2, h2.2⟩

section
variable {X : Cx} {pins : List (Addr × Obj)} {σ : L2.St} {H : Hp} {s : Shared}

theorem clo_mem {X : Cx} {pins : List (Addr × Obj)} {σ : L2.St} {H : Hp} {s : Shared} {scope : Scope} {own : List (Str × Nat)} (I : Inv X pins σ H s) (ok : BlkOk X.N X.env.scope scope own) {y : Str} {c : Addr} (e : (cloFrom X.env.cells scope.names []).lookup y = some c) :
    X.env.cells.lookup y = some c ∧ c < s.heap.objs.size ∧ (y, NameKind.free) ∈ scope.names := by
  have hfree : ∀ y ∈ scope.names, y.2 = .free → ∃ c, X.env.cells.lookup y.1 = some c := fun y hy e => by
    rcases ok.free y hy e with k | k
    · exact I.ok.has _ (.inl k)
    · exact I.ok.has _ (.inr k)
  rcases cloFrom_mem (PySem.mem_of_lookup e) with hm | ⟨h1, h2⟩
  · cases hm
  · obtain ⟨c', hc⟩ := hfree _ h1 rfl
    have hc' : X.env.cells.lookup y = some c' := hc
    rw [hc'] at h2
    have h3 : c = c' := h2
    rw [h3]
    obtain ⟨w, z⟩ := I.cell _ _ hc'
    exact ⟨hc', z.lt, h1⟩

/-- the generator's frame stands -/
theorem gen_begin {A : Around} {scope : Scope} {own : List (Str × Nat)} {fp : List Addr} {pn : List (Addr × Obj)} {s5 : Shared} {code : Value} {m : Str → Option Value} (I : Inv X pins σ H s) (ok : GSc X.N X.env.scope scope own) (hN : X.N.Nodup)
    (hfp : ∀ b ∈ fp, FpOk X pins H b ∧ b < s.heap.objs.size) (hA : A.handled = none)
    (hfr : A.frames = some (genEnv scope (cloFrom X.env.cells scope.names []) s.heap.objs.size code builtinsNs X.env :: X.stack))
    (kp : ∀ b o, s.heap.get? b = some o → s5.heap.get? b = some o) (hns : s5.heap.Ns s.heap.objs.size m) (hos : s5.os = s.os) (hb : AllBare s5.gens)
    (hpn : ∀ p ∈ pn, s5.heap.get? p.1 = some p.2 ∧ s.heap.objs.size < p.1 ∧ ∀ v, p.2.data ≠ .cell v) :
    Inv (gblk X A s H scope (genEnv scope (cloFrom X.env.cells scope.names []) s.heap.objs.size code builtinsNs X.env) fp pn) [] (wipe σ (own.map (·.2))) H s5 := by
  generalize henv : genEnv scope (cloFrom X.env.cells scope.names []) s.heap.objs.size code builtinsNs X.env = env at *
  have hL : env.locals = s.heap.objs.size := by rw [← henv]; rfl
  have hcl : env.cells = cloFrom X.env.cells scope.names [] := by rw [← henv]; rfl
  have hsc : env.scope = scope := by rw [← henv]; rfl
  have mem : ∀ {y c}, env.cells.lookup y = some c → X.env.cells.lookup y = some c ∧ c < s.heap.objs.size ∧ (y, NameKind.free) ∈ scope.names := fun {y c} e => by
    rw [hcl] at e
    exact clo_mem I ok.toBlkOk e
  have look : ∀ {y}, scope.names.lookup y = some .free → ∃ c, env.cells.lookup y = some c ∧ X.env.cells.lookup y = some c := fun {y} hl => by
    have hy : (y, NameKind.free) ∈ scope.names := PySem.mem_of_lookup hl
    obtain ⟨c', e'⟩ := mem_lookup (cloFrom_has (cells := X.env.cells) (acc := []) hy)
    exact ⟨c', by rw [hcl]; exact e', (mem (by rw [hcl]; exact e')).1⟩
  have okB : (gblk X A s H scope env fp pn).Ok := by
    refine ⟨I.ok.mod, by show env.scope.kind = _; rw [hsc]; exact ok.kind, by show env.globals = _; rw [← henv]; exact I.ok.glob, by show env.builtins = _; rw [← henv]; rfl, by show s.heap.objs.size ≤ env.locals; rw [hL]; exact Nat.le_refl _,
      fun y z c e1 e2 => I.ok.inj y z c (mem e1).1 (mem e2).1, fun y hy => ?_, fun y c z e => ?_, fun _ => hA, hfr, .inr ⟨rfl, ?_⟩, fun b hb => ⟨?_, fun y c e z => ?_⟩, I.bs, Nat.le_trans I.ok.bsz I.sz, fun b o e hb => ?_, fun b hb z => ?_, I.stack, I.stkFree⟩
    · show ∃ c, env.cells.lookup y = some c
      have hy' : scope.names.lookup y = some .cell ∨ scope.names.lookup y = some .free := by
        have q : env.kindOf y = scope.names.lookup y := by unfold Env.kindOf; rw [hsc]
        rw [← q]; exact hy
      rcases hy' with hy | hy
      · exact absurd rfl (ok.cell _ (PySem.mem_of_lookup hy))
      · obtain ⟨c, h1, _⟩ := look hy
        exact ⟨c, h1⟩
    · have z : (scope.names.lookup y == some NameKind.cell) = true := z
      have z : scope.names.lookup y = some .cell := by simpa using z
      exact absurd rfl (ok.cell _ (PySem.mem_of_lookup z))
    · show env.frame = some env.locals
      rw [← henv]; rfl
    · show b ≠ env.locals
      rw [hL]; exact Nat.ne_of_lt (hfp b hb).2
    · exact (hfp b hb).1.2.2.2.2.1 y c (mem e).1 z
    · rcases (hfp b hb).1.2.2.2.1 with z | z
      · exact I.ok.noex b o e z
      · exact absurd (Nat.lt_of_lt_of_le (Heap.lt_size e) (Nat.le_trans I.ok.bsz z)) (Nat.lt_irrefl _)
    · rcases List.mem_cons.mp (I.stkSub b z) with z | z
      · exact (hfp b hb).1.2.1 z
      · exact (hfp b hb).1.2.2.1 z
  refine ⟨okB, hos, hb, Un.kept kp, ⟨m, ?_, fun i y av e1 e2 e3 => ?_⟩, fun y c e => ?_, ?_, fun y c e => ?_, fun p hp => ?_, I.hok.kept kp, by rw [wipe_length]; exact I.len⟩
  · show Heap.Ns _ env.locals _
    rw [hL]; exact hns
  · obtain ⟨e2, hne⟩ := wipe_some e2
    have kq : env.kindOf y = scope.names.lookup y := by unfold Env.kindOf; rw [hsc]
    have e3 : Vis env.scope y := e3
    rw [hsc] at e3
    have no : ∀ k, scope.names.lookup y = some k → ¬ (k = .local ∨ k = .cell) := fun k hk hh => by
      rcases ok.own _ (PySem.mem_of_lookup hk) hh with e' | e'
      · obtain ⟨p, hp, hpy⟩ := List.mem_map.mp e'
        have e3 := ok.ix p hp
        have : p.1 = y := hpy
        rw [this] at e3
        exact hne (List.mem_map.mpr ⟨p, hp, nodup_ix hN e3 e1⟩)
      · exact e' (List.mem_of_getElem? e1)
    have hfr : scope.names.lookup y = some .free := by
      rcases e3 with e3 | e3 | e3
      · exact absurd (.inl rfl) (no _ e3)
      · exact absurd (.inr rfl) (no _ e3)
      · exact e3
    obtain ⟨m', hn, hl⟩ := I.loc
    have hvis : Vis X.env.scope y := (ok.free _ (PySem.mem_of_lookup hfr) rfl).elim (fun k => .inr (.inl k)) (fun k => .inr (.inr k))
    obtain ⟨w, r, q⟩ := hl i y av e1 e2 hvis
    refine ⟨w, r, .inr ⟨.inr (kq.trans hfr), ?_⟩⟩
    obtain ⟨c, h1, h2⟩ := look hfr
    rcases q with ⟨k, _⟩ | ⟨_, c', e', z⟩
    · have k : X.env.scope.names.lookup y = some .local := k
      rcases ok.free _ (PySem.mem_of_lookup hfr) rfl with k' | k' <;> rw [show X.env.scope.names.lookup y = _ from k'] at k <;> cases k
    · rw [h2] at e'; cases e'
      exact ⟨c, h1, z.keeps kp⟩
  · obtain ⟨w, z⟩ := I.cell y c (mem e).1
    exact ⟨w, z.keeps kp⟩
  · show H env.locals = none
    rw [hL]; exact I.hok.fresh (Nat.le_refl _)
  · exact I.freeC y c (mem e).1
  · have hp' : p ∈ pn := by simpa using hp
    obtain ⟨h1, h2, h3⟩ := hpn p hp'
    have h4 : s.heap.objs.size ≤ p.1 := Nat.le_of_lt h2
    refine ⟨h1, I.hok.fresh h4, ?_, ?_, h3⟩
    · show p.1 ≠ env.locals
      rw [hL]; exact Nat.ne_of_gt h2
    · intro hm
      rcases List.mem_cons.mp (I.stkSub _ hm) with e | e
      · have h5 := I.lt
        rw [← e] at h5
        exact Nat.lt_irrefl _ (Nat.lt_of_lt_of_le h5 h4)
      · exact I.nofs h4 e

/-- from the generator's state back to that of the frame that walks it -/
theorem gen_back {A : Around} {scope : Scope} {env : Env} {fp : List Addr} {pn pins' : List (Addr × Obj)} {σ' : L2.St} {H' : Hp} {s' : Shared} (I : Inv X pins σ H s) (hfp : ∀ b ∈ fp, FpOk X pins H b)
    (J : Inv (gblk X A s H scope env fp pn) pins' σ' H' s') : Inv X pins σ H' s' :=
  I.call' (ch := fp) J.os J.base J.hok J.bare fun b hb => ⟨(hfp b hb).2.2.2.1, (hfp b hb).2.1, (hfp b hb).2.2.2.2.1, (hfp b hb).2.2.2.2.2⟩

/-- only the generators' table moves -/
theorem inv_gens {g' : Array GenState} (I : Inv X pins σ H s) (h : AllBare g') : Inv X pins σ H { s with gens := g' } :=
  I.call' (ch := []) (s' := { s with gens := g' }) rfl Un.refl I.hok h fun b z => absurd z (by simp)
end

/-- what the walked generator hands out: tests; on c it goes on -/
def GYb (X : Cx) (pins : List (Addr × Obj)) (σ : L2.St) (a : Addr) (g : Nat) (c : Bool) (Q : VK) : Protocol := fun _ _ v s kap =>
  ∃ b H, v = .bool b ∧ Inv X pins σ H s ∧ s.heap.IsGen a g ∧ (b = !c → Q (.bl (!c)) H) ∧
    (b = c → ∀ s' : Shared, (∀ d o, s.heap.get? d = some o → s'.heap.get? d = some o) → s'.os = s.os → AllBare s'.gens → kap (.send .none) s')
def GRb (X : Cx) (pins : List (Addr × Obj)) (σ : L2.St) (c : Bool) (Q : VK) : GenEnd := fun _ _ r s => r = .ok .next ∧ ∃ H, Inv X pins σ H s ∧ Q (.bl c) H

/-- the reading behind «an iterator has come» -/
def GW (J : It) (g : TG) (te : TE) (c : Bool) (vs : List Nat) (σ : L2.St) (Q : VK) (W : Nat → Nat → Hp → Prop) : Prop := ∀ i m H, W i m H →
  (J.stop i H ∧ Q (.bl c) H) ∨ (J.go i H ∧ ∃ Nx : Hp → Prop, (∀ H', Nx H' → ∃ m', m' < m ∧ W (i + 1) m' H') ∧ ∀ x H', J.yld i H x H' → g x (wipe σ vs) H' fun σ2 H2 => wipe σ2 vs = wipe σ vs ∧
    te σ2 H2 fun y H3 => ∃ b, y = .bl b ∧ if b = c then Nx H3 else Q (.bl (!c)) H3)

theorem thnX {α : Type} {t : Sem α} {Q Q' : α → Shared → Prop} {E' : Value → Shared → Prop} {M : Model} {A : Around} {s : Shared} (h : wpAny M A t Q (fun _ _ => False) s) (hQ : ∀ a s, Q a s → Q' a s) : wpAny M A t Q' E' s := wpAny_mono h hQ fun _ _ z => False.elim z

theorem wipe_wipe (σ : L2.St) : ∀ vs : List Nat, wipe (wipe σ vs) vs = wipe σ vs := by
  have key : ∀ (us vs : List Nat), (∀ v ∈ us, v ∈ vs) → wipe (wipe σ vs) us = wipe σ vs := by
    intro us vs
    induction us with
    | nil => intro _; rfl
    | cons u us ih =>
      intro h
      show (wipe (wipe σ vs) us).set u none = _
      rw [ih fun v hv => h v (List.mem_cons_of_mem _ hv)]
      refine List.ext_getElem? fun i => ?_
      by_cases hi : u = i
      · subst hi
        by_cases hl : u < (wipe σ vs).length
        · rw [List.getElem?_set_self hl]
          cases q : (wipe σ vs)[u]? with
          | none => exact absurd (List.getElem?_eq_none_iff.mp q) (Nat.not_le_of_lt hl)
          | some o =>
            cases o with
            | none => rfl
            | some v => exact absurd (h u List.mem_cons_self) (wipe_some q).2
        · rw [List.getElem?_eq_none (by simpa using hl), List.getElem?_eq_none (by simpa using hl)]
      · rw [List.getElem?_set_ne hi]
  exact fun vs => key vs vs fun _ h => h
theorem over_gexp {A : Around} {elt : Expr} {gs : List Comprehension} {scope : Scope} {pos : Pos} {it acc : Value} {env : Env} {outer : List Env} (h : A.frames = some outer) :
    (A.over (.compLoop (.GeneratorExp elt gs scope pos) 0 it acc env) []).frames = some (env :: outer) := by
  show pushEnvs (Code.compLoop (.GeneratorExp elt gs scope pos) 0 it acc env).envs (pushEnvs (envsOf ([].map Frame.where_)) A.frames) = _
  rw [h]
  rfl
theorem room_gexp {k : Nat} {A : Around} {elt : Expr} {gs : List Comprehension} {scope : Scope} {pos : Pos} {it acc : Value} {env : Env} (r : Room (k + 1) A) : Room k (A.over (.compLoop (.GeneratorExp elt gs scope pos) 0 it acc env) []) :=
  ⟨r.hd, by have := r.dp; show A.depth + 0 + 1 + 3 * k + 5 < _; omega, by have := r.un; show A.units + 0 + 3 + 16 * k + 200 < _; omega⟩

abbrev gY (X : Cx) (A : Around) (elt tg iter : Expr) (scope : Scope) (pos : Pos) (it : Addr) (env : Env) (s : Shared) (H : Hp) (fp : List Addr) (a : Addr) (go : Obj) : Cx :=
  gblk X (A.over (.compLoop (.GeneratorExp elt [⟨tg, iter, [], 0⟩] scope pos) 0 (.ref it) .none env) []) s H scope env fp [(a, go)]
section
variable {X : Cx} {pins : List (Addr × Obj)} {σ : L2.St} {H : Hp} {s : Shared}
/-- the generator's loop -/
theorem gen_loop {A : Around} {scope : Scope} {env : Env} {fp : List Addr} {a : Addr} {go : Obj} {g : Nat} {elt tg iter : Expr} {pos : Pos} {it : Addr} {vs : List Nat} {J : It} {tn : Nat → Heap → Prop} {gT : TG} {te : TE} {c : Bool} {Q : VK} {W : Nat → Nat → Hp → Prop}
    (I : Inv X pins σ H s) (hfp : ∀ b ∈ fp, FpOk X pins H b) (hL : env.locals ∉ fp) (haf : a ∉ fp) (hco : env.scope.isCoroutine = false)
    (hgo : ∀ h : Heap, h.get? a = some go → h.IsGen a g)
    (T : Turn X.prog X.w X.K tg J fp it tn)
    (pg : PG (gY X A elt tg iter scope pos it env s H fp a go) tg gT)
    (pe : PE (gY X A elt tg iter scope pos it env s H fp a go) elt te)
    (hW : GW J gT te c vs σ Q W) :
    ∀ (n i m : Nat) (s₀ s' : Shared) (σ' : L2.St) (H' : Hp), m < n → wipe σ' vs = wipe σ vs →
      Inv (gY X A elt tg iter scope pos it env s H fp a go) [] σ' H' s' → tn i s'.heap → (∀ b ∈ fp, H' b = none) → W i m H' →
      Seg (model X.prog X.w) A (GRb X pins σ c Q) (GYb X pins σ a g c Q) n s₀ (.compLoop (.GeneratorExp elt [⟨tg, iter, [], 0⟩] scope pos) 0 (.ref it) .none env)
        ((model X.prog X.w).den (.compLoop (.GeneratorExp elt [⟨tg, iter, [], 0⟩] scope pos) 0 (.ref it) .none env)) [] s' := by
  intro n
  induction n with
  | zero => intro i m s₀ s' σ' H' hm; exact absurd hm (Nat.not_lt_zero _)
  | succ n ih =>
    intro i m s₀ s' σ' H' hm hw IY st fr w
    have stat : ∀ {H2 : Hp}, (∀ b ∈ fp, H2 b = none) → ∀ b ∈ fp, FpOk (gY X A elt tg iter scope pos it env s H fp a go) [] H2 b := fun hn b hb =>
      ⟨hn b hb, fun z => hL (z ▸ hb), fun z => IY.ok.exfs b hb z, .inl hb, (IY.ok.exf b hb).2, fun p hp z => by
        have hp' : p = (a, go) := by simpa using hp
        rw [hp'] at z
        have z' : a = b := z
        exact haf (z' ▸ hb)⟩
    have IYw : Inv (gY X A elt tg iter scope pos it env s H fp a go) [] (wipe σ vs) H' s' := by
      rw [← hw]
      exact IY.weak (wipe_length _ _) fun j v e => (wipe_some e).1
    show Seg _ A _ _ _ s₀ _ ((compTurn (.GeneratorExp elt [⟨tg, iter, [], 0⟩] scope pos) 0 (.ref it) .none env).onRaise (leaving env)) [] s'
    rw [compTurn_gen, Sem.onRaise_eq_wrap]
    refine seg_bind_wrap (wpAny_standAt ?_)
    rcases hW i m H' w with ⟨stop, qn⟩ | ⟨goo, Nx, hN, step⟩
    · refine seg_bind_wrap (thnX (T.done (gY X A elt tg iter scope pos it env s H fp a go) rfl rfl rfl rfl i [] s' (wipe σ vs) H' _ IYw (stat fr) st stop) fun r s4 ⟨hr, I4⟩ => ?_)
      subst hr
      exact seg_end (.ok .next) ⟨rfl, H', gen_back I hfp I4, qn⟩
    · refine seg_bind_wrap (thnX (T.item (gY X A elt tg iter scope pos it env s H fp a go) rfl rfl rfl rfl i [] s' (wipe σ vs) H' _ IYw (stat fr) st goo) fun r s4 ⟨u, hr, h4⟩ => ?_)
      subst hr
      refine seg_bind_wrap (thnX h4 fun _ s5 ⟨x, H5, I5, r5, y5, st5, fr5⟩ => ?_)
      have I5' := I5.pinned (stat fr5) (T.obj _ _ st5)
      refine seg_bind_wrap (thnX (pg.run _ s5 (wipe σ vs) H5 x u _ I5' r5 (step x H5 y5)) fun _ s6 ⟨σ6, H6, I6, w6, q6⟩ => ?_)
      simp only [List.forIn_nil]
      refine seg_bind_wrap (wpAny_pure ?_)
      simp only [if_true]
      have hy : ∀ v, yieldOut env v = yieldValue v := fun v => by simp only [yieldOut, hco, Bool.false_eq_true, if_false]
      simp only [hy]
      rw [Sem.bind_eq_wrap', Sem.bind_eq_wrap', Sem.wrap_wrap, Sem.wrap_wrap]
      refine seg_wrap (thnX (pe.run _ s6 σ6 H6 _ I6 q6) fun yv s7 ⟨y, H7, I7, r7, b, ey, q7⟩ => ?_)
      subst ey
      obtain rfl : yv = Value.bool b := r7
      have st7 : tn (i + 1) s7.heap := T.keep _ _ _ st5 fun d hd o e => (I7.pin (d, o) (List.mem_append_right _ (List.mem_append_right _ (mem_pinsAt hd e)))).1
      have fr7 : ∀ d ∈ fp, H7 d = none := fun d hd => by
        obtain ⟨o, e, _⟩ := T.obj _ _ st5 d hd
        exact (I7.pin (d, o) (List.mem_append_right _ (List.mem_append_right _ (mem_pinsAt hd e)))).2.1
      have I7u := I7.unpinned
      have ga : s7.heap.get? a = some go := (I7u.pin (a, go) (List.mem_append_left _ (List.mem_singleton.mpr rfl))).1
      refine seg_at (seg_yield rfl rfl rfl ⟨b, H7, rfl, gen_back I hfp I7u, hgo _ ga, fun hb => ?_, fun hb s'' hk ho hg => ?_⟩)
      · rw [if_neg (by rw [hb]; cases c <;> decide)] at q7
        exact q7
      · rw [if_pos hb] at q7
        obtain ⟨m', hm', w7⟩ := hN H7 q7
        refine seg_again rfl (ih (i + 1) m' s'' s'' σ6 H7 (by omega) w6 ?_ (T.keep _ _ _ st7 fun d _ o e => hk d o e) fr7 w7)
        exact I7u.call' (ch := []) ho (Un.kept hk) (I7u.hok.kept hk) hg fun b z => absurd z (by simp)
end
end LW
set_option maxHeartbeats 1000000
namespace LW
open PySem PySem.Spec PyProof.Rows L2 GenW
section
variable {X : Cx} {pins : List (Addr × Obj)} {σ : L2.St}
theorem not_eq_c {b c : Bool} (h : b ≠ c) : b = !c := by cases b <;> cases c <;> first | rfl | exact absurd rfl h
theorem drain_all {A : Around} {R : Result → Shared → Prop} {a : Addr} {g : Nat} {Q : VK} (hh : A.handled = none) (hd : A.depth < recursionLimit)
    (hR : ∀ b s' H', Inv X pins σ H' s' → Q (.bl b) H' → R (.ok (.ret (.bool b))) s') :
    ∀ (n : Nat) (s : Shared) (H : Hp), s.heap.IsGen a g → Inv X pins σ H s →
      (∃ gs, s.gens[g]? = some gs ∧ gs.Goes (model X.prog X.w) A.in1.in1 (GRb X pins σ true Q) (GYb X pins σ a g true Q) n (.send .none) (s.setGen g .running)) →
      codeAny (model X.prog X.w) A (.builtin "all.loop" ⟨[.ref a], []⟩) R s := by
  intro n
  induction n with
  | zero =>
    intro s H hg I ⟨gs, hgs, hgo⟩
    refine codeAny_builtin F.entry_all_loop ?_
    rw [Around.under_plainId F.plain_all_loop _]
    show wpAny _ A.in1 (pyNext (.ref a) >>= _) _ _ s
    refine wpAny_bind (wpAny_pyNext_genexpQ (A := A.in1) (P := fun _ _ s₁ => ∃ H, Inv X pins σ H s₁ ∧ Q (.bl true) H) hh I.nolimit hd hg hgs hgo (fun v s₁ gs' hbare hv => ?_) (fun s₁ hp h' hk => ?_))
    · obtain ⟨b, H1, rfl, I1, hg1, hq, hk⟩ := hv
      by_cases hb : b = true
      · exact False.elim (hk hb s₁ (fun _ _ e => e) rfl I1.bare)
      · have hb' := not_eq_c hb
        subst hb'
        refine wpAny_bind (wpAny_holding (wpAny_truthy_bool ?_))
        refine wpAny_bind (wpAny_letGo ?_)
        simp only [Bool.not_true, Bool.false_eq_true, if_false]
        refine wpAny_bind (wpAny_rule (wpAny_pure ?_))
        exact hR false _ H1 (inv_gens I1 (allBare_setGen I1.bare hbare)) (hq rfl)
    · obtain ⟨H1, I1, hq⟩ := hp
      refine wpAny_bind (wpAny_rule (wpAny_pure ?_))
      exact hR true _ H1 (I1.call' (ch := []) rfl (Un.kept hk) (I1.hok.kept hk) (allBare_setGen I1.bare rfl) fun b z => absurd z (by simp)) hq
  | succ n ih =>
    intro s H hg I ⟨gs, hgs, hgo⟩
    have hgl : g < s.gens.size := (Array.getElem?_eq_some_iff.mp hgs).1
    refine codeAny_builtin F.entry_all_loop ?_
    rw [Around.under_plainId F.plain_all_loop _]
    show wpAny _ A.in1 (pyNext (.ref a) >>= _) _ _ s
    refine wpAny_bind (wpAny_gsz (n := g + 1) hgl (wpAny_pyNext_genexpQ (A := A.in1) (P := fun _ _ s₁ => ∃ H, Inv X pins σ H s₁ ∧ Q (.bl true) H) hh I.nolimit hd hg hgs hgo (fun v s₁ gs' hbare hv => ?_) (fun s₁ hp h' hk => ?_)))
    · intro hsz
      obtain ⟨b, H1, rfl, I1, hg1, hq, hk⟩ := hv
      refine wpAny_bind (wpAny_holding (wpAny_truthy_bool ?_))
      refine wpAny_bind (wpAny_letGo ?_)
      by_cases hb : b = true
      · subst hb
        simp only [if_true]
        have hsz1 : g < s₁.gens.size := by
          have q : (s₁.setGen g gs').gens.size = s₁.gens.size := setGen_size _ _ _
          have hsz' : g + 1 ≤ (s₁.setGen g gs').gens.size := hsz
          omega
        refine wpAny_pure ⟨plainId_quiet F.plain_all_loop _, ?_⟩
        refine ih (s₁.setGen g gs') H1 hg1 (inv_gens I1 (allBare_setGen I1.bare hbare)) ⟨gs', setGen_at hsz1, ?_⟩
        exact hk rfl _ (fun _ _ e => e) rfl (allBare_setGen (s := s₁.setGen g gs') (allBare_setGen I1.bare hbare) rfl)
      · have hb' := not_eq_c hb
        subst hb'
        simp only [Bool.not_true, Bool.false_eq_true, if_false]
        refine wpAny_bind (wpAny_rule (wpAny_pure ?_))
        exact hR false _ H1 (inv_gens I1 (allBare_setGen I1.bare hbare)) (hq rfl)
    · intro hsz
      obtain ⟨H1, I1, hq⟩ := hp
      refine wpAny_bind (wpAny_rule (wpAny_pure ?_))
      exact hR true _ H1 (I1.call' (ch := []) rfl (Un.kept hk) (I1.hok.kept hk) (allBare_setGen I1.bare rfl) fun b z => absurd z (by simp)) hq
theorem drain_any {A : Around} {R : Result → Shared → Prop} {a : Addr} {g : Nat} {Q : VK} (hh : A.handled = none) (hd : A.depth < recursionLimit)
    (hR : ∀ b s' H', Inv X pins σ H' s' → Q (.bl b) H' → R (.ok (.ret (.bool b))) s') :
    ∀ (n : Nat) (s : Shared) (H : Hp), s.heap.IsGen a g → Inv X pins σ H s →
      (∃ gs, s.gens[g]? = some gs ∧ gs.Goes (model X.prog X.w) A.in1.in1 (GRb X pins σ false Q) (GYb X pins σ a g false Q) n (.send .none) (s.setGen g .running)) →
      codeAny (model X.prog X.w) A (.builtin "any.loop" ⟨[.ref a], []⟩) R s := by
  intro n
  induction n with
  | zero =>
    intro s H hg I ⟨gs, hgs, hgo⟩
    refine codeAny_builtin F.entry_any_loop ?_
    rw [Around.under_plainId F.plain_any_loop _]
    show wpAny _ A.in1 (pyNext (.ref a) >>= _) _ _ s
    refine wpAny_bind (wpAny_pyNext_genexpQ (A := A.in1) (P := fun _ _ s₁ => ∃ H, Inv X pins σ H s₁ ∧ Q (.bl false) H) hh I.nolimit hd hg hgs hgo (fun v s₁ gs' hbare hv => ?_) (fun s₁ hp h' hk => ?_))
    · obtain ⟨b, H1, rfl, I1, hg1, hq, hk⟩ := hv
      by_cases hb : b = false
      · exact False.elim (hk hb s₁ (fun _ _ e => e) rfl I1.bare)
      · have hb' := not_eq_c hb
        subst hb'
        refine wpAny_bind (wpAny_holding (wpAny_truthy_bool ?_))
        refine wpAny_bind (wpAny_letGo ?_)
        simp only [Bool.not_false, if_true]
        refine wpAny_bind (wpAny_rule (wpAny_pure ?_))
        exact hR true _ H1 (inv_gens I1 (allBare_setGen I1.bare hbare)) (hq rfl)
    · obtain ⟨H1, I1, hq⟩ := hp
      refine wpAny_bind (wpAny_rule (wpAny_pure ?_))
      exact hR false _ H1 (I1.call' (ch := []) rfl (Un.kept hk) (I1.hok.kept hk) (allBare_setGen I1.bare rfl) fun b z => absurd z (by simp)) hq
  | succ n ih =>
    intro s H hg I ⟨gs, hgs, hgo⟩
    have hgl : g < s.gens.size := (Array.getElem?_eq_some_iff.mp hgs).1
    refine codeAny_builtin F.entry_any_loop ?_
    rw [Around.under_plainId F.plain_any_loop _]
    show wpAny _ A.in1 (pyNext (.ref a) >>= _) _ _ s
    refine wpAny_bind (wpAny_gsz (n := g + 1) hgl (wpAny_pyNext_genexpQ (A := A.in1) (P := fun _ _ s₁ => ∃ H, Inv X pins σ H s₁ ∧ Q (.bl false) H) hh I.nolimit hd hg hgs hgo (fun v s₁ gs' hbare hv => ?_) (fun s₁ hp h' hk => ?_)))
    · intro hsz
      obtain ⟨b, H1, rfl, I1, hg1, hq, hk⟩ := hv
      refine wpAny_bind (wpAny_holding (wpAny_truthy_bool ?_))
      refine wpAny_bind (wpAny_letGo ?_)
      by_cases hb : b = false
      · subst hb
        simp only [Bool.false_eq_true, if_false]
        have hsz1 : g < s₁.gens.size := by
          have q : (s₁.setGen g gs').gens.size = s₁.gens.size := setGen_size _ _ _
          have hsz' : g + 1 ≤ (s₁.setGen g gs').gens.size := hsz
          omega
        refine wpAny_pure ⟨plainId_quiet F.plain_any_loop _, ?_⟩
        refine ih (s₁.setGen g gs') H1 hg1 (inv_gens I1 (allBare_setGen I1.bare hbare)) ⟨gs', setGen_at hsz1, ?_⟩
        exact hk rfl _ (fun _ _ e => e) rfl (allBare_setGen (s := s₁.setGen g gs') (allBare_setGen I1.bare hbare) rfl)
      · have hb' := not_eq_c hb
        subst hb'
        simp only [Bool.not_false, if_true]
        refine wpAny_bind (wpAny_rule (wpAny_pure ?_))
        exact hR true _ H1 (inv_gens I1 (allBare_setGen I1.bare hbare)) (hq rfl)
    · intro hsz
      obtain ⟨H1, I1, hq⟩ := hp
      refine wpAny_bind (wpAny_rule (wpAny_pure ?_))
      exact hR false _ H1 (I1.call' (ch := []) rfl (Un.kept hk) (I1.hok.kept hk) (allBare_setGen I1.bare rfl) fun b z => absurd z (by simp)) hq
end
end LW
set_option maxHeartbeats 1000000
namespace LW
open PySem PySem.Spec PyProof.Rows L2 GenW
/-- the reading of all(..), any(..) of a generator expression: c: on what it goes on; P: the table of the def's code -/
def tGen (P : Addr) (wi : TI) (g : TG) (te : TE) (c : Bool) (vs : List Nat) : TE := fun σ H Q => wi σ H fun J H1 => GxR.TabG H1 P ∧ ∀ H2, GxR.Tabbed P H1 H2 → ∃ W : Nat → Nat → Hp → Prop, (∃ m, W 0 m H2) ∧ GW J g te c vs σ Q W
section
variable {X : Cx} {pins : List (Addr × Obj)} {σ : L2.St} {H : Hp} {s : Shared}
theorem gen_make {cd P : Addr} {elt tg iter : Expr} {gpos : Pos} {scope : Scope} {own : List (Str × Nat)} {wi : TI} {gT : TG} {te : TE} {c : Bool} {Q : VK} {k : Nat} {Q' : Value → Shared → Prop}
    (hr : Room (k + 3) X.A) (TB : GxR.TabB X.base X.mg cd P) (hcode : X.env.code = .ref cd) (S : GSc X.N X.env.scope scope own) (hN : X.N.Nodup) (hi : PI X tg iter wi)
    (hg : ∀ (A : Around) (s : Shared) (H : Hp) (C : Addr) (cl : List (Str × Addr)) (code : Value) (fp : List Addr) (pn : List (Addr × Obj)), PG (gblk X A s H scope (genEnv scope cl C code builtinsNs X.env) fp pn) tg gT)
    (he : ∀ (A : Around) (s : Shared) (H : Hp) (C : Addr) (cl : List (Str × Addr)) (code : Value) (fp : List Addr) (pn : List (Addr × Obj)), Room k A → PE (gblk X A s H scope (genEnv scope cl C code builtinsNs X.env) fp pn) elt te)
    (hs : ∀ v, genFold iter X.env v = pure v) (I : Inv X pins σ H s) (h : tGen P wi gT te c (own.map (·.2)) σ H Q)
    (hQ : ∀ (a : Addr) (g n : Nat) (H' : Hp) (s5 : Shared), s5.heap.IsGen a g → Inv X pins σ H' s5 →
      (∃ gs, s5.gens[g]? = some gs ∧ gs.Goes (model X.prog X.w) X.A.in1.in1 (GRb X pins σ c Q) (GYb X pins σ a g c Q) n (.send .none) (s5.setGen g .running)) → Q' (.ref a) s5) :
    wpAny (model X.prog X.w) X.A (eval (.GeneratorExp elt [⟨tg, iter, [], 0⟩] scope gpos) X.env) Q' X.xe s := by
  have hfree : ∀ y ∈ scope.names, y.2 = .free → ∃ c, X.env.cells.lookup y.1 = some c := fun y hy e => by
    rcases S.free y hy e with k | k
    · exact I.ok.has _ (.inl k)
    · exact I.ok.has _ (.inr k)
  refine wpAny_GeneratorExp_make S.co (closure_ok hfree) S.cell S.dot S.kind hr.depth ?_ hs
  refine thn (hi.run pins s σ H _ I h) fun xv s1 hx => thn hx fun itv s2 h2 => ?_
  obtain ⟨it, fp, tn, J, H2, e, I2, T, st2, f2, ⟨ps, hP, ht⟩, q⟩ := h2
  subst e
  refine ⟨I2.nolimit, ?_⟩
  have hPs : s2.heap.get? P = some { cls := .none, data := .fields ps } := I2.hok P _ hP
  have hPlt : P < s2.heap.objs.size := Heap.lt_size hPs
  have cdh : PySem.W.CodeHd s2.heap cd P := TB.code.keeps I2.bk
  have szfp : ∀ b ∈ fp, b < s2.heap.objs.size := fun b hb => by
    obtain ⟨o, e, _⟩ := T.obj _ _ st2 b hb
    exact Heap.lt_size e
  have neP : ∀ b ∈ fp, b ≠ P := fun b hb z => by
    have := (f2 b hb).1
    rw [z, hP] at this
    cases this
  have cont : ∀ (code : Value) (h3 : Heap) (tk : Nat) (ps' : Array Value), Heap.ExtBut P s2.heap h3 → s2.heap.objs.size ≤ h3.objs.size → h3.get? P = some { cls := .none, data := .fields ps' } → (∃ more, ps' = ps ++ more) → TriplesOk ps'.toList →
      wpAny (model X.prog X.w) X.A (builtinsFor X.env.globals X.env.builtins) (fun bi s₄ =>
        ∀ h', h'.Ns s₄.heap.objs.size (fun y => if y = ".0" then some (.ref it) else none) → Heap.SameBut s₄.heap.objs.size (s₄.heap.push { cls := .type "frame", data := .dict #[] }) h' →
          Q' (.ref h'.objs.size) { s₄ with
            gens := s₄.gens.push (.fresh (.compStart (.GeneratorExp elt [⟨tg, iter, [], 0⟩] scope gpos) 0 (.ref it) .none (genEnv scope (cloFrom X.env.cells scope.names []) s₄.heap.objs.size code bi X.env))),
            toks := s₄.toks + 1 + 1 + 1,
            heap := h'.push { cls := .type "generator", data := .fields #[.int s₄.gens.size 0, .str "<genexpr>" (s₄.toks + 1), .str (X.env.qual ++ "<genexpr>") (s₄.toks + 1 + 1)] } }) X.xe { s2 with heap := h3, toks := tk } := by
    intro code h3 tk ps' hx hsz hP3 hmore ht3
    obtain ⟨bm, ob, e1, e2, e3, e4, e5, e6, e7, e8⟩ := TB.bm
    have keep3 : ∀ b u, b ≠ P → s2.heap.get? b = some u → h3.get? b = some u := fun b u hb e => hx b u hb e
    refine wpAny_builtinsFor (m := X.mg) (by rw [I2.ok.glob]; exact ((I2.mod.glob.keeps I2.bk)).extBut hx TB.gP) e1 e2 (keep3 _ _ e4 (I2.bk _ _ e5)) e6 e7 e8 ?_
    obtain ⟨more, em⟩ := hmore
    have I3 := GxR.inv_tab (more := more) (h' := h3) (g' := s2.gens) (d' := s2.drawn) (t' := tk) I2 hP (fun b u hb e => keep3 b u hb e) (by rw [← em]; exact hP3) I2.bare
    generalize hH3 : upd H2 P (.tbl (ps ++ more)) = H3 at I3
    have hTab : GxR.Tabbed P H2 H3 := by
      rw [← hH3]
      exact ⟨⟨ps ++ more, upd_same, by rw [← em]; exact ht3⟩, fun b hb => upd_ne hb⟩
    obtain ⟨W, ⟨m0, w0⟩, hW⟩ := q H3 hTab
    have f3 : ∀ b ∈ fp, FpOk X pins H3 b := fun b hb => ⟨by rw [hTab.2 b (neP b hb)]; exact (f2 b hb).1, (f2 b hb).2⟩
    have st3 : tn 0 h3 := T.keep _ _ _ st2 fun b hb o e => keep3 b o (neP b hb) e
    generalize hs4 : ({ s2 with heap := h3, gens := s2.gens, drawn := s2.drawn, toks := tk } : Shared) = s4 at I3
    have hs4' : ({ s2 with heap := h3, toks := tk } : Shared) = s4 := by rw [← hs4]
    have h4 : s4.heap = h3 := by rw [← hs4]
    have g4 : s4.gens = s2.gens := by rw [← hs4]
    have b4 : AllBare s4.gens := I3.bare
    intro h' hn' hs'
    have hsz' : h'.objs.size = s4.heap.objs.size + 1 := by rw [hs'.1, Heap.size_push]
    have keep' : ∀ b o, s4.heap.get? b = some o → h'.get? b = some o := fun b o e => hs'.extBut b o (Nat.ne_of_lt (Heap.lt_size e)) (Heap.get?_push_of_some _ e)
    generalize hgo : ({ cls := .type "generator", data := .fields #[.int s4.gens.size 0, .str "<genexpr>" (s4.toks + 1), .str (X.env.qual ++ "<genexpr>") (s4.toks + 1 + 1)] } : Obj) = go
    have keep5 : ∀ b o, s4.heap.get? b = some o → (h'.push go).get? b = some o := fun b o e => Heap.get?_push_of_some _ (keep' b o e)
    have hga : (h'.push go).get? h'.objs.size = some go := Heap.get?_push_size _ (by rw [← hgo]; rfl)
    have isg : ∀ h : Heap, h.get? h'.objs.size = some go → h.IsGen h'.objs.size s4.gens.size := fun h e => ⟨go, _, _, e, by rw [← hgo], by rw [← hgo], by rw [← hgo]⟩
    have I5 : Inv X pins σ H3 { s4 with gens := s4.gens.push (.fresh (.compStart (.GeneratorExp elt [⟨tg, iter, [], 0⟩] scope gpos) 0 (.ref it) .none (genEnv scope (cloFrom X.env.cells scope.names []) s4.heap.objs.size code builtinsNs X.env))), toks := s4.toks + 1 + 1 + 1, heap := h'.push go } :=
      I3.call' (ch := []) rfl (Un.kept keep5) (I3.hok.kept keep5) (AllBare.push b4 rfl) fun b z => absurd z (by simp)
    refine hQ h'.objs.size s4.gens.size (m0 + 1) H3 _ (isg _ hga) I5 ⟨_, Array.getElem?_push_size .., rfl, ?_⟩
    generalize hs5 : (Shared.setGen { s4 with gens := s4.gens.push (.fresh (.compStart (.GeneratorExp elt [⟨tg, iter, [], 0⟩] scope gpos) 0 (.ref it) .none (genEnv scope (cloFrom X.env.cells scope.names []) s4.heap.objs.size code builtinsNs X.env))), toks := s4.toks + 1 + 1 + 1, heap := h'.push go } s4.gens.size .running) = s5
    have h5 : s5.heap = h'.push go := by rw [← hs5]; rfl
    have os5 : s5.os = s4.os := by rw [← hs5]; rfl
    have b5 : AllBare s5.gens := by rw [← hs5]; exact allBare_setGen (AllBare.push b4 rfl) rfl
    have hAf : (X.A.in1.in1).frames = some X.stack := I3.ok.frames
    have IY := gen_begin (A := X.A.in1.in1.over (.compLoop (.GeneratorExp elt [⟨tg, iter, [], 0⟩] scope gpos) 0 (.ref it) .none (genEnv scope (cloFrom X.env.cells scope.names []) s4.heap.objs.size code builtinsNs X.env)) []) (code := code) (fp := fp) (pn := [(h'.objs.size, go)]) (s5 := s5) I3 S hN
      (fun b hb => ⟨f3 b hb, by rw [h4]; exact Nat.lt_of_lt_of_le (szfp b hb) hsz⟩) hr.hd (over_gexp hAf) (fun b o e => by rw [h5]; exact keep5 b o e) (by rw [h5]; exact hn'.push _) os5 b5 (fun p hp => by
        rw [List.mem_singleton.mp hp]
        refine ⟨by rw [h5]; exact hga, by show s4.heap.objs.size < h'.objs.size; rw [hsz']; exact Nat.lt_succ_self _, fun v z => ?_⟩
        rw [← hgo] at z; cases z)
    have ltfp : ∀ b ∈ fp, b < s4.heap.objs.size := fun b hb => by rw [h4]; exact Nat.lt_of_lt_of_le (szfp b hb) hsz
    have loop := gen_loop (A := X.A.in1.in1) (scope := scope) (env := genEnv scope (cloFrom X.env.cells scope.names []) s4.heap.objs.size code builtinsNs X.env) (fp := fp) (a := h'.objs.size) (go := go) (g := s4.gens.size) (pos := gpos) (it := it)
      (vs := own.map (·.2)) (elt := elt) (tg := tg) (iter := iter) (c := c) (Q := Q) (W := W) I3 f3 (fun z => Nat.lt_irrefl _ (ltfp _ z)) (fun z => by
        have h6 := ltfp _ z
        rw [hsz'] at h6
        exact Nat.lt_irrefl _ (Nat.lt_trans (Nat.lt_succ_self _) h6)) S.co isg T (hg _ _ _ _ _ _ _ _) (he _ _ _ _ _ _ _ _ (room_gexp (Room.in1 (Room.in1 hr)))) hW
      (m0 + 1) 0 m0 s5 s5 (wipe σ (own.map (·.2))) H3 (Nat.lt_succ_self _) (wipe_wipe _ _) IY (by rw [h5]; exact T.keep _ _ _ st3 fun b _ o e => keep5 b o (by rw [h4]; exact e)) (fun b hb => (f3 b hb).1) w0
    have st5 : tn 0 s5.heap := by rw [h5]; exact T.keep _ _ _ st3 fun b _ o e => keep5 b o (by rw [h4]; exact e)
    show Seg _ _ _ _ _ _ _ ((compStart (.GeneratorExp elt [⟨tg, iter, [], 0⟩] scope gpos) 0 (.ref it) .none _).onRaise (leaving _)) [] s5
    unfold compStart
    rw [Sem.onRaise_eq_wrap]
    show Seg _ _ _ _ _ _ _ ((ask >>= _).wrap _ _ _ _) [] s5
    refine seg_bind_wrap (wpAny_askSetting ?_)
    split
    · exact seg_again rfl loop
    · first
        | exact seg_bind_wrap (wpAny_rule (seg_bind_wrap (wpAny_standAt (seg_bind_wrap (T.self _ 0 s5 _ _ st5 (seg_again rfl loop))))))
        | (refine seg_bind_wrap (wpAny_rule ?_); show Seg _ _ _ _ _ _ _ ((standAt iter.pos >>= _).wrap _ _ _ _) [] s5; exact seg_bind_wrap (wpAny_standAt (seg_bind_wrap (T.self _ 0 s5 _ _ st5 (seg_again rfl loop)))))
  cases hf : codeAmong gpos ps.toList with
  | none =>
    refine wpAny_genexprCodeX hcode (cdh.code hPs ht) (cdh.tab hPs) hf fun c' h' tk hx hge hlt hco' _ htab' _ => ?_
    obtain ⟨o1, vs, f1, tf, fl, tg', inF, tx, tt, op, _, _, _, _, _, _, _, _, _, htr, _⟩ := hco'
    exact cont _ h' tk _ hx (Nat.le_trans hge (Nat.le_of_lt hlt)) htab'.2 ⟨_, rfl⟩ htr
  | some cv =>
    refine wpAny_genexprCode_hit hcode (cdh.code hPs ht) hf ?_
    exact cont cv s2.heap s2.toks ps (Heap.ExtBut.refl _ _) (Nat.le_refl _) hPs ⟨#[], by simp⟩ ht
end
end LW
set_option maxHeartbeats 1000000
namespace LW
open PySem PySem.Spec PyProof.Rows L2 GenW
section
variable {X : Cx}
theorem pe_allG {cd P : Addr} {elt tg iter : Expr} {p pos gpos : Pos} {scope : Scope} {own : List (Str × Nat)} {wi : TI} {gT : TG} {te : TE} {k : Nat}
    (hr : Room (k + 3) X.A) (hgl : Gl X "all") (hm : X.mg "all" = none) (hb : bootBuiltins "all" = some (.builtin "all")) (TB : GxR.TabB X.base X.mg cd P) (hcode : X.env.code = .ref cd) (S : GSc X.N X.env.scope scope own) (hN : X.N.Nodup) (hi : PI X tg iter wi)
    (hg : ∀ (A : Around) (s : Shared) (H : Hp) (C : Addr) (cl : List (Str × Addr)) (code : Value) (fp : List Addr) (pn : List (Addr × Obj)), PG (gblk X A s H scope (genEnv scope cl C code builtinsNs X.env) fp pn) tg gT)
    (he : ∀ (A : Around) (s : Shared) (H : Hp) (C : Addr) (cl : List (Str × Addr)) (code : Value) (fp : List Addr) (pn : List (Addr × Obj)), Room k A → PE (gblk X A s H scope (genEnv scope cl C code builtinsNs X.env) fp pn) elt te)
    (hs : ∀ v, genFold iter X.env v = pure v := by intro _; rfl)
    (hse : starEach [.GeneratorExp elt [⟨tg, iter, [], 0⟩] scope gpos] X.env = (false, eval (.GeneratorExp elt [⟨tg, iter, [], 0⟩] scope gpos) X.env) :: starEach [] X.env := by rfl) :
    PE X (.Call (.Name "all" p) [.GeneratorExp elt [⟨tg, iter, [], 0⟩] scope gpos] [] pos) (tGen P wi gT te true (own.map (·.2))) := by
  refine ⟨fun pins s σ H Q I h => ?_⟩
  refine wpAny_Call_Name_kw (ld_blt I hgl hm hb ?_)
  refine PyProof.Rows.callWith_builtin1 ?_ hse (by rfl)
  rw [hse]
  show wpAny _ _ (spliced ((false, eval (.GeneratorExp elt [⟨tg, iter, [], 0⟩] scope gpos) X.env) :: backTo pos (starEach [] X.env))) _ _ s
  refine Calls.spliced_cons (gen_make (c := true) (Q := Q) hr TB hcode S hN hi hg he hs I h fun a g n H' s5 hga I5 hgo => ?_)
  refine Calls.spliced_nil ?_
  refine call_function_tree F.kind_all F.plain_all F.entry_all (F.args_all1 _) ?_
  unfold Builtin.«all»
  refine wpAny_bind (m := oneArg "all" _) (wpAny_pure ?_)
  refine wpAny_bind (wpAny_pyIter_gen hga ?_)
  exact wpAny_pure ⟨plainId_quiet F.plain_all_loop _, drain_all hr.hd hr.depth (fun b s' H' I' q => ⟨.bl b, H', I', rfl, q⟩) n s5 H' hga I5 hgo⟩
theorem pe_anyG {cd P : Addr} {elt tg iter : Expr} {p pos gpos : Pos} {scope : Scope} {own : List (Str × Nat)} {wi : TI} {gT : TG} {te : TE} {k : Nat}
    (hr : Room (k + 3) X.A) (hgl : Gl X "any") (hm : X.mg "any" = none) (TB : GxR.TabB X.base X.mg cd P) (hcode : X.env.code = .ref cd) (S : GSc X.N X.env.scope scope own) (hN : X.N.Nodup) (hi : PI X tg iter wi)
    (hg : ∀ (A : Around) (s : Shared) (H : Hp) (C : Addr) (cl : List (Str × Addr)) (code : Value) (fp : List Addr) (pn : List (Addr × Obj)), PG (gblk X A s H scope (genEnv scope cl C code builtinsNs X.env) fp pn) tg gT)
    (he : ∀ (A : Around) (s : Shared) (H : Hp) (C : Addr) (cl : List (Str × Addr)) (code : Value) (fp : List Addr) (pn : List (Addr × Obj)), Room k A → PE (gblk X A s H scope (genEnv scope cl C code builtinsNs X.env) fp pn) elt te)
    (hs : ∀ v, genFold iter X.env v = pure v := by intro _; rfl)
    (hse : starEach [.GeneratorExp elt [⟨tg, iter, [], 0⟩] scope gpos] X.env = (false, eval (.GeneratorExp elt [⟨tg, iter, [], 0⟩] scope gpos) X.env) :: starEach [] X.env := by rfl) :
    PE X (.Call (.Name "any" p) [.GeneratorExp elt [⟨tg, iter, [], 0⟩] scope gpos] [] pos) (tGen P wi gT te false (own.map (·.2))) := by
  refine ⟨fun pins s σ H Q I h => ?_⟩
  refine wpAny_Call_Name_kw (ld_blt I hgl hm boot_any ?_)
  refine PyProof.Rows.callWith_builtin1 ?_ hse (by rfl)
  rw [hse]
  show wpAny _ _ (spliced ((false, eval (.GeneratorExp elt [⟨tg, iter, [], 0⟩] scope gpos) X.env) :: backTo pos (starEach [] X.env))) _ _ s
  refine Calls.spliced_cons (gen_make (c := false) (Q := Q) hr TB hcode S hN hi hg he hs I h fun a g n H' s5 hga I5 hgo => ?_)
  refine Calls.spliced_nil ?_
  refine call_function_tree F.kind_any F.plain_any F.entry_any (F.args_any1 _) ?_
  unfold Builtin.«any»
  refine wpAny_bind (m := oneArg "any" _) (wpAny_pure ?_)
  refine wpAny_bind (wpAny_pyIter_gen hga ?_)
  exact wpAny_pure ⟨plainId_quiet F.plain_any_loop _, drain_any hr.hd hr.depth (fun b s' H' I' q => ⟨.bl b, H', I', rfl, q⟩) n s5 H' hga I5 hgo⟩
end
/-- over a tuple -/
theorem gw_tup {K : PySem.W.Frag} {a : Addr} {xs : List V} {g : TG} {te : TE} {c : Bool} {vs : List Nat} {σ : L2.St} {H1 : Hp} {Q : VK} (Pv : Nat → Hp → Prop) (h0 : Pv 0 H1) (hl : ∀ i H, i ≤ xs.length → Pv i H → SqT K H a xs)
    (hs : ∀ i x H, xs[i]? = some x → Pv i H → g x (wipe σ vs) H fun σ2 H2 => wipe σ2 vs = wipe σ vs ∧ te σ2 H2 fun y H3 => ∃ b, y = .bl b ∧ if b = c then Pv (i + 1) H3 else Q (.bl (!c)) H3)
    (hd : ∀ H, Pv xs.length H → Q (.bl c) H) : ∃ W : Nat → Nat → Hp → Prop, (∃ m, W 0 m H1) ∧ GW (Itt K a) g te c vs σ Q W := by
  refine ⟨fun i m H => m = xs.length - i ∧ i ≤ xs.length ∧ Pv i H, ⟨xs.length, by simp, Nat.zero_le _, h0⟩, ?_⟩
  rintro i m H ⟨rfl, hi, p⟩
  have q := hl i H hi p
  by_cases hlt : i < xs.length
  · refine .inr ⟨⟨xs, xs[i], q, by simp [hlt]⟩, Pv (i + 1), fun H' p' => ⟨xs.length - (i + 1), by omega, rfl, hlt, p'⟩, fun x H' y => ?_⟩
    obtain ⟨e, y⟩ := y
    subst e
    exact hs i x _ (y xs q) p
  · have e : i = xs.length := by omega
    subst e
    exact .inl ⟨⟨xs, q, Nat.le_refl _⟩, hd H p⟩
theorem gw_list {K : PySem.W.Frag} {a : Addr} {xs : List V} {g : TG} {te : TE} {c : Bool} {vs : List Nat} {σ : L2.St} {H1 : Hp} {Q : VK} (Pv : Nat → Hp → Prop) (h0 : Pv 0 H1) (hl : ∀ i H, i ≤ xs.length → Pv i H → SqL K H a xs)
    (hs : ∀ i x H, xs[i]? = some x → Pv i H → g x (wipe σ vs) H fun σ2 H2 => wipe σ2 vs = wipe σ vs ∧ te σ2 H2 fun y H3 => ∃ b, y = .bl b ∧ if b = c then Pv (i + 1) H3 else Q (.bl (!c)) H3)
    (hd : ∀ H, Pv xs.length H → Q (.bl c) H) : ∃ W : Nat → Nat → Hp → Prop, (∃ m, W 0 m H1) ∧ GW (Itl K a) g te c vs σ Q W := by
  refine ⟨fun i m H => m = xs.length - i ∧ i ≤ xs.length ∧ Pv i H, ⟨xs.length, by simp, Nat.zero_le _, h0⟩, ?_⟩
  rintro i m H ⟨rfl, hi, p⟩
  have q := hl i H hi p
  by_cases hlt : i < xs.length
  · refine .inr ⟨⟨xs, xs[i], q, by simp [hlt]⟩, Pv (i + 1), fun H' p' => ⟨xs.length - (i + 1), by omega, rfl, hlt, p'⟩, fun x H' y => ?_⟩
    obtain ⟨e, y⟩ := y
    subst e
    exact hs i x _ (y xs q) p
  · have e : i = xs.length := by omega
    subst e
    exact .inl ⟨⟨xs, q, Nat.le_refl _⟩, hd H p⟩
/-- over a range -/
theorem gw_range {lo : Int} {n : Nat} {g : TG} {te : TE} {c : Bool} {vs : List Nat} {σ : L2.St} {H1 : Hp} {Q : VK} (Pv : Nat → Hp → Prop) (h0 : Pv 0 H1)
    (hs : ∀ i H, i < n → Pv i H → g (.int (lo + i)) (wipe σ vs) H fun σ2 H2 => wipe σ2 vs = wipe σ vs ∧ te σ2 H2 fun y H3 => ∃ b, y = .bl b ∧ if b = c then Pv (i + 1) H3 else Q (.bl (!c)) H3)
    (hd : ∀ H, Pv n H → Q (.bl c) H) : ∃ W : Nat → Nat → Hp → Prop, (∃ m, W 0 m H1) ∧ GW (Itr lo n) g te c vs σ Q W := by
  refine ⟨fun i m H => m = n - i ∧ i ≤ n ∧ Pv i H, ⟨n, by simp, Nat.zero_le _, h0⟩, ?_⟩
  rintro i m H ⟨rfl, hi, p⟩
  by_cases hlt : i < n
  · refine .inr ⟨hlt, Pv (i + 1), fun H' p' => ⟨n - (i + 1), by omega, rfl, hlt, p'⟩, fun x H' y => ?_⟩
    obtain ⟨e, y⟩ := y
    subst e
    subst y
    exact hs i _ hlt p
  · have e : i = n := by omega
    subst e
    exact .inl ⟨Nat.le_refl _, hd H p⟩
end LW
set_option maxHeartbeats 1000000
namespace LW
open PySem PySem.Spec PyProof.Rows L2
/-! ### growth of the abstract heap: what stands stays but for the places in m; tables grow -/
structure Gr (m : List Addr) (H H' : Hp) : Prop where
  keep : ∀ b o, b ∉ m → H b = some o → (∀ ps, o ≠ .tbl ps) → H' b = some o
  tab : ∀ P, GxR.TabG H P → GxR.TabG H' P
  free : ∀ p, H' p = none → H p = none
theorem upd_none' {H : Hp} {a b : Addr} {o : HO} (e : upd H a o b = none) : H b = none := by
  by_cases h : b = a
  · rw [h, upd_same] at e; cases e
  · rw [upd_ne h] at e; exact e
theorem tabG_tbl {H : Hp} {P : Addr} (t : GxR.TabG H P) : ∃ ps, H P = some (.tbl ps) := let ⟨ps, h, _⟩ := t; ⟨ps, h⟩
theorem Gr.refl {m : List Addr} (H : Hp) : Gr m H H := ⟨fun _ _ _ h _ => h, fun _ h => h, fun _ h => h⟩
theorem Gr.trans {m : List Addr} {H H1 H2 : Hp} (a : Gr m H H1) (b : Gr m H1 H2) : Gr m H H2 := ⟨fun c o hm h n => b.keep c o hm (a.keep c o hm h n) n, fun P t => b.tab P (a.tab P t), fun p h => a.free p (b.free p h)⟩
theorem Gr.mono {m m' : List Addr} {H H1 : Hp} (a : Gr m H H1) (h : ∀ b ∈ m, b ∈ m') : Gr m' H H1 := ⟨fun c o hm => a.keep c o fun z => hm (h c z), a.tab, a.free⟩
theorem Gr.any {m : List Addr} {H H1 : Hp} (a : Gr [] H H1) : Gr m H H1 := a.mono fun _ z => by cases z
/-- a new object -/
theorem Gr.new {m : List Addr} {H : Hp} {p : Addr} {o : HO} (h : H p = none) : Gr m H (upd H p o) :=
  ⟨fun b u _ q _ => by rw [upd_ne (ne_of_none q h)]; exact q, fun P ⟨ps, q, t⟩ => ⟨ps, by rw [upd_ne (ne_of_none q h)]; exact q, t⟩, fun _ => upd_none'⟩
/-- an object at a is written -/
theorem Gr.put {m : List Addr} {H : Hp} {p : Addr} {o u : HO} (h : H p = some u) (n : ∀ ps, u ≠ .tbl ps) (hm : p ∈ m) : Gr m H (upd H p o) :=
  ⟨fun b v hb q _ => by rw [upd_ne (show b ≠ p from fun z => hb (by rw [z]; exact hm))]; exact q, fun P ⟨ps, q, t⟩ => ⟨ps, by rw [upd_ne (fun z => n ps (by rw [z, h] at q; exact Option.some.inj q))]; exact q, t⟩, fun _ => upd_none'⟩
/-- a new object that was new already ahead -/
theorem Gr.put0 {m : List Addr} {H H1 : Hp} {p : Addr} {o : HO} (g : Gr m H H1) (h : H p = none) : Gr m H (upd H1 p o) :=
  ⟨fun b v hb q n => by rw [upd_ne (ne_of_none q h)]; exact g.keep b v hb q n, fun P t => by
    obtain ⟨ps, q⟩ := tabG_tbl t
    obtain ⟨ps', q', t'⟩ := g.tab P t
    exact ⟨ps', by rw [upd_ne (ne_of_none q h)]; exact q', t'⟩, fun _ e => g.free _ (upd_none' e)⟩
/-- what was new ahead of the written place does not count -/
theorem Gr.drop {m : List Addr} {H H1 : Hp} {p : Addr} (g : Gr (p :: m) H H1) (h : H p = none) : Gr m H H1 :=
  ⟨fun b v hb q n => g.keep b v (fun z => (List.mem_cons.mp z).elim (ne_of_none q h) hb) q n, g.tab, g.free⟩
theorem Gr.lst {m : List Addr} {H H' : Hp} {a : Addr} {xs : List V} (g : Gr m H H') (hm : a ∉ m) (h : H a = some (.lst xs)) : H' a = some (.lst xs) := g.keep a _ hm h fun _ z => by cases z
theorem Gr.tup {m : List Addr} {H H' : Hp} {a : Addr} {xs : List V} (g : Gr m H H') (hm : a ∉ m) (h : H a = some (.tup xs)) : H' a = some (.tup xs) := g.keep a _ hm h fun _ z => by cases z
theorem Gr.sqT {H H' : Hp} {K : PySem.W.Frag} {a : Addr} {xs : List V} (g : Gr [] H H') (h : SqT K H a xs) : SqT K H' a xs := by
  rcases h with (h | ⟨o, h⟩) | h
  · exact .inl (.inl (g.tup (by simp) h))
  · exact .inl (.inr ⟨o, g.keep _ _ (by simp) h fun _ z => by cases z⟩)
  · exact .inr h
theorem Gr.sqL {H H' : Hp} {K : PySem.W.Frag} {a : Addr} {xs : List V} (g : Gr [] H H') (h : SqL K H a xs) : SqL K H' a xs := by
  rcases h with (h | ⟨o, h⟩) | h
  · exact .inl (.inl (g.lst (by simp) h))
  · exact .inl (.inr ⟨o, g.keep _ _ (by simp) h fun _ z => by cases z⟩)
  · exact .inr h
/-- a list is no tuple: places of tuples are apart from written lists -/
theorem Gr.sqTm {m : List Addr} {H H' : Hp} {K : PySem.W.Frag} {a : Addr} {xs : List V} (g : Gr m H H') (hm : ∀ b ∈ m, ∃ ys, H b = some (.lst ys)) (h : SqT K H a xs) : SqT K H' a xs := by
  rcases h with (h | ⟨o, h⟩) | h
  · exact .inl (.inl (g.tup (fun z => by obtain ⟨ys, q⟩ := hm a z; rw [h] at q; cases q) h))
  · exact .inl (.inr ⟨o, g.keep _ _ (fun z => by obtain ⟨ys, q⟩ := hm a z; rw [h] at q; cases q) h fun _ z => by cases z⟩)
  · exact .inr h
theorem Tabbed.gr {P : Addr} {H H' : Hp} (t : GxR.TabG H P) (h : GxR.Tabbed P H H') : Gr [] H H' := by
  obtain ⟨ps, q⟩ := tabG_tbl t
  refine ⟨fun b o _ e n => ?_, fun P' t' => ?_, fun b e => ?_⟩
  · rw [h.2 b (fun z => n ps (by rw [z, q] at e; exact (Option.some.inj e).symm))]
    exact e
  · by_cases e : P' = P
    · rw [e]; exact h.1
    · obtain ⟨ps', q', z⟩ := t'
      exact ⟨ps', by rw [h.2 P' e]; exact q', z⟩
  · by_cases z : b = P
    · obtain ⟨ps', q', _⟩ := h.1
      rw [z, q'] at e; cases e
    · rw [h.2 b z] at e; exact e
/-- the tables that stand -/
def Tbs (Ts : List Addr) (H : Hp) : Prop := ∀ P ∈ Ts, GxR.TabG H P
theorem Tbs.gr {Ts m : List Addr} {H H' : Hp} (t : Tbs Ts H) (g : Gr m H H') : Tbs Ts H' := fun P hP => g.tab P (t P hP)

/-! ### data -/
abbrev noLists : PyData → Bool := fun _ => true
mutual
theorem dp_gr {K : PySem.W.Frag} {H H' : Hp} {m : List Addr} (g : Gr m H H') (hm : m = []) : ∀ (d : PyData) (v : V), Dp K H v d → Dp K H' v d
  | .none, _, h => by cases h; exact .non
  | .bool b, _, h => by cases h; exact .bl b
  | .int i, _, h => by cases h; exact .int i
  | .str x, _, h => by cases h; exact .str x
  | .list ds, _, h => by
    subst hm
    cases h with
    | lst hs ha => exact .lst (g.sqL hs) (dpAll_gr g rfl ds _ ha)
  | .tuple ds, _, h => by
    subst hm
    cases h with
    | tup hs ha => exact .tup (g.sqT hs) (dpAll_gr g rfl ds _ ha)
  | .dict _, _, h => by cases h
theorem dpAll_gr {K : PySem.W.Frag} {H H' : Hp} {m : List Addr} (g : Gr m H H') (hm : m = []) : ∀ (ds : List PyData) (vs : List V), DpAll K H vs ds → DpAll K H' vs ds
  | [], _, h => by cases h; exact .nil
  | d :: ds, _, h => by
    cases h with
    | cons h1 h2 => exact .cons (dp_gr g hm d _ h1) (dpAll_gr g hm ds _ h2)
end
/-! data without lists -/
mutual
def pure1 : PyData → Bool
  | .list _ => false
  | .dict _ => false
  | .tuple ds => pureAll ds
  | _ => true
def pureAll : List PyData → Bool
  | [] => true
  | d :: ds => pure1 d && pureAll ds
end
mutual
theorem dp_grm {K : PySem.W.Frag} {H H' : Hp} {m : List Addr} (g : Gr m H H') (hm : ∀ b ∈ m, ∃ ys, H b = some (.lst ys)) : ∀ (d : PyData) (v : V), pure1 d = true → Dp K H v d → Dp K H' v d
  | .none, _, _, h => by cases h; exact .non
  | .bool b, _, _, h => by cases h; exact .bl b
  | .int i, _, _, h => by cases h; exact .int i
  | .str x, _, _, h => by cases h; exact .str x
  | .list ds, _, p, h => nomatch p
  | .tuple ds, _, p, h => by
    cases h with
    | tup hs ha => exact .tup (g.sqTm hm hs) (dpAll_grm g hm ds _ p ha)
  | .dict _, _, _, h => by cases h
theorem dpAll_grm {K : PySem.W.Frag} {H H' : Hp} {m : List Addr} (g : Gr m H H') (hm : ∀ b ∈ m, ∃ ys, H b = some (.lst ys)) : ∀ (ds : List PyData) (vs : List V), pureAll ds = true → DpAll K H vs ds → DpAll K H' vs ds
  | [], _, _, h => by cases h; exact .nil
  | d :: ds, _, p, h => by
    have p' : pure1 d = true ∧ pureAll ds = true := by
      have q : (pure1 d && pureAll ds) = true := p
      simpa using q
    cases h with
    | cons h1 h2 => exact .cons (dp_grm g hm d _ p'.1 h1) (dpAll_grm g hm ds _ p'.2 h2)
end
end LW
namespace L2
open PySem PySem.Spec PyProof.Rows LW
section
variable {K : PySem.W.Frag} {H : Hp}
theorem Dp.gr {H' : Hp} {v : V} {d : PyData} (h : Dp K H v d) (g : Gr [] H H') : Dp K H' v d := dp_gr g rfl d v h
theorem DpAll.gr {H' : Hp} {vs : List V} {ds : List PyData} (h : DpAll K H vs ds) (g : Gr [] H H') : DpAll K H' vs ds := dpAll_gr g rfl ds vs h
theorem DpAll.length : ∀ {vs : List V} {ds : List PyData}, DpAll K H vs ds → vs.length = ds.length
  | _, _, .nil => rfl
  | _, _, .cons _ t => congrArg (· + 1) (DpAll.length t)
theorem DpAll.get : ∀ {vs : List V} {ds : List PyData} {i : Nat} {v : V}, DpAll K H vs ds → vs[i]? = some v → ∃ d, ds[i]? = some d ∧ Dp K H v d
  | _, _, _, _, .nil, e => by simp at e
  | _, _, 0, _, .cons h _, e => by simp at e; subst e; exact ⟨_, rfl, h⟩
  | _, _, i + 1, v, .cons _ t, e => by
    obtain ⟨d, h1, h2⟩ := DpAll.get (i := i) (v := v) t (by simpa using e)
    exact ⟨d, by simpa using h1, h2⟩
theorem DpAll.at : ∀ {vs : List V} {ds : List PyData} {i : Nat} {d : PyData}, DpAll K H vs ds → ds[i]? = some d → ∃ v, vs[i]? = some v ∧ Dp K H v d
  | _, _, _, _, .nil, e => by simp at e
  | _, _, 0, _, .cons h _, e => by simp at e; subst e; exact ⟨_, rfl, h⟩
  | _, _, i + 1, d, .cons _ t, e => by
    obtain ⟨v, h1, h2⟩ := DpAll.at (i := i) (d := d) t (by simpa using e)
    exact ⟨v, by simpa using h1, h2⟩
theorem DpAll.append : ∀ {vs ws : List V} {ds es : List PyData}, DpAll K H vs ds → DpAll K H ws es → DpAll K H (vs ++ ws) (ds ++ es)
  | _, _, _, _, .nil, s => s
  | _, _, _, _, .cons h t, s => .cons h (DpAll.append t s)
theorem DpAll.take : ∀ {vs : List V} {ds : List PyData} (n : Nat), DpAll K H vs ds → DpAll K H (vs.take n) (ds.take n)
  | _, _, 0, _ => .nil
  | _, _, _ + 1, .nil => .nil
  | _, _, n + 1, .cons r t => .cons r (DpAll.take n t)
theorem DpAll.drop : ∀ {vs : List V} {ds : List PyData} (n : Nat), DpAll K H vs ds → DpAll K H (vs.drop n) (ds.drop n)
  | _, _, 0, r => r
  | _, _, _ + 1, .nil => .nil
  | _, _, n + 1, .cons _ t => DpAll.drop n t
theorem Dp.tupI {v : V} {ds : List PyData} (h : Dp K H v (.tuple ds)) : ∃ a xs, v = .ref a ∧ SqT K H a xs ∧ DpAll K H xs ds := by
  cases h with
  | tup hs ha => exact ⟨_, _, rfl, hs, ha⟩
theorem Dp.intI {v : V} {i : Int} (h : Dp K H v (.int i)) : v = .int i := by cases h; rfl
/-- a value's type -/
def tyD : PyData → String
  | .none => "NoneType" | .bool _ => "bool" | .int _ => "int" | .str _ => "str" | .list _ => "list" | .tuple _ => "tuple" | .dict _ => "dict"
theorem Dp.ty {v : V} {d : PyData} (h : Dp K H v d) : TyX K H v (.type (tyD d)) := by
  cases h with
  | non => exact .base .non
  | bl b => exact .base (.bl b)
  | int i => exact .base (.int i)
  | str x => exact .base (.str x)
  | lst hs ha =>
    rcases hs with (h | ⟨o, h⟩) | ⟨o, its, n, h, c, _⟩
    · exact .base (.lst h)
    · exact .base (.frz h)
    · exact .kList h c
  | tup hs ha =>
    rcases hs with (h | ⟨o, h⟩) | ⟨o, its, n, h, c, _⟩
    · exact .base (.tup h)
    · exact .fTuple h
    · exact .kTuple h c
def isIntD : PyData → Bool
  | .int _ => true | .bool _ => true | _ => false
def isBoolD : PyData → Bool
  | .bool _ => true | _ => false
def isTupD : PyData → Bool
  | .tuple _ => true | _ => false
theorem kit_int (d : PyData) : PySem.W.kitOne K (.type (tyD d)) (.type "int") = some (isIntD d) := by
  have h : ∀ x : String × Bool, x ∈ [("NoneType", false), ("bool", true), ("int", true), ("str", false), ("list", false), ("tuple", false), ("dict", false)] → kitB x.1 "int" = some x.2 := by decide +kernel
  cases d <;> exact kit_ty (h (_, _) (by simp [tyD, isIntD]))
theorem kit_bool (d : PyData) : PySem.W.kitOne K (.type (tyD d)) (.type "bool") = some (isBoolD d) := by
  have h : ∀ x : String × Bool, x ∈ [("NoneType", false), ("bool", true), ("int", false), ("str", false), ("list", false), ("tuple", false), ("dict", false)] → kitB x.1 "bool" = some x.2 := by decide +kernel
  cases d <;> exact kit_ty (h (_, _) (by simp [tyD, isBoolD]))
theorem kit_tup (d : PyData) : PySem.W.kitOne K (.type (tyD d)) (.type "tuple") = some (isTupD d) := by
  have h : ∀ x : String × Bool, x ∈ [("NoneType", false), ("bool", false), ("int", false), ("str", false), ("list", false), ("tuple", true), ("dict", false)] → kitB x.1 "tuple" = some x.2 := by decide +kernel
  cases d <;> exact kit_ty (h (_, _) (by simp [tyD, isTupD]))
end
end L2
namespace LW
open PySem PySem.Spec PyProof.Rows L2
/-! ### a def that is called by its name -/
structure Fn (P : Program) (w : World) (K : PySem.W.Frag) (mg : Str → Option Value) (base : Heap) (CX : CXT) (k : Nat) (name : Str) (ps : List Str) (sp : Sp) : Prop where
  ex : ∃ f fd, FnOk P w K mg base CX k f fd ps sp ∧ mg name = some (.ref f) ∧ PySem.W.keepIn K (.ref f) = true ∧ Binds K fd ps []
theorem Fn.mono {P : Program} {w : World} {K : PySem.W.Frag} {mg : Str → Option Value} {base : Heap} {CX : CXT} {j k : Nat} {name : Str} {ps : List Str} {sp : Sp} (F : Fn P w K mg base CX j name ps sp) (h : j ≤ k) : Fn P w K mg base CX k name ps sp := by
  obtain ⟨f, fd, F, m, kk, b⟩ := F.ex
  exact ⟨f, fd, F.mono h, m, kk, b⟩
theorem pe_fn {X : Cx} {CX : CXT} {k : Nat} {x : Str} {ps : List Str} {sp : Sp} {E : XK} {p pos : Pos} {e : Expr} {es : List Expr} {t : TA} (F : Fn X.prog X.w X.K X.mg X.base CX k x ps sp) (hr : Room k X.A) (hg : Gl X x) (hx : Passes CX X E) (ht : PA X (e :: es) t)
    (hdb : (x == ("__debug__" : Str)) = false := by decide) (he : starEach (e :: es) X.env = (false, eval e X.env) :: starEach es X.env := by rfl) (hpl : (backTo pos (starEach es X.env)).any (·.1) = false := by rfl) :
    PE X (.Call (.Name x p) (e :: es) [] pos) (tCall sp [] E t) := by
  obtain ⟨f, fd, F, hm, hk, hb⟩ := F.ex
  exact pe_call F hr hg hm hk hb .nil hx ht hdb he hpl
end LW
set_option maxHeartbeats 1000000
namespace LW
open PySem PySem.Spec PyProof.Rows L2
/-! where the text's statements stand -/
def topS (i : Nat) : Stmt := PySem.Challenge.pw_leafward_k01_sizes_and_order.main.body.getD i (.Pass ⟨0, 0, 0, 0⟩)
abbrev c_LeafwardError : Stmt := topS 1
abbrev c_BadDocument : Stmt := topS 2
abbrev s_is_below : Stmt := topS 4
abbrev s_is_tuple_of : Stmt := topS 5
abbrev s_check_document : Stmt := topS 10
abbrev s_is_document : Stmt := topS 11
abbrev s_is_tree : Stmt := topS 12
abbrev s_size : Stmt := topS 13
abbrev s_order_of : Stmt := topS 14
abbrev s_before : Stmt := topS 15
abbrev s__law_box : Stmt := topS 17
abbrev s__law_take : Stmt := topS 18
abbrev s__law_pick : Stmt := topS 19
abbrev s__law_size : Stmt := topS 20
abbrev s__law_document : Stmt := topS 21
abbrev s__law_order : Stmt := topS 22
abbrev s__law_all : Stmt := topS 23
abbrev s__law_schema : Stmt := topS 24
abbrev s__law_behind : Stmt := topS 25
abbrev s__law_empty : Stmt := topS 26
abbrev s__law_set : Stmt := topS 27
abbrev s__law_near : Stmt := topS 28
abbrev s__law_is_number : Stmt := topS 29
abbrev s_law : Stmt := topS 30
end LW
set_option maxHeartbeats 1000000
namespace LW
open PySem PySem.Spec PyProof.Rows L2
/-! leafward.forms -/
def belowD (d : PyData) (n : Int) : Bool := match d with
  | .int i => decide (0 ≤ i) && decide (i < n)
  | _ => false
def tupOfD (d : PyData) (n : Int) : Bool := match d with
  | .tuple ds => decide ((ds.length : Int) = n)
  | _ => false
def spBelow (K : PySem.W.Frag) : Sp := fun vs H Q _ => ∃ (d : PyData) (n : Int) (v : V), vs = [v, .int n] ∧ Dp K H v d ∧ Q (.bl (belowD d n)) H
def spTupOf (K : PySem.W.Frag) : Sp := fun vs H Q _ => ∃ (d : PyData) (n : Int) (v : V), vs = [v, .int n] ∧ Dp K H v d ∧ Q (.bl (tupOfD d n)) H
section
variable {P : Program} {w : World} {K : PySem.W.Frag} {mg : Str → Option Value} {base : Heap} {f : Addr} {fd : FuncData}
theorem sc_is_below : FnScope ["worth", "limit"] ["worth", "limit"] (defScope s_is_below) := ⟨rfl, rfl, rfl, by decide +kernel, rfl, by decide +kernel, by decide +kernel⟩
theorem sc_is_tuple_of : FnScope ["worth", "many"] ["worth", "many"] (defScope s_is_tuple_of) := ⟨rfl, rfl, rfl, by decide +kernel, rfl, by decide +kernel, by decide +kernel⟩
theorem b_isinstance : bootBuiltins "isinstance" = some (.builtin "isinstance") := by decide +kernel
theorem b_int : bootBuiltins "int" = some (.type "int") := by decide +kernel
theorem b_bool : bootBuiltins "bool" = some (.type "bool") := by decide +kernel
theorem b_tuple : bootBuiltins "tuple" = some (.type "tuple") := by decide +kernel
theorem b_all : bootBuiltins "all" = some (.builtin "all") := by decide +kernel
theorem b_any : bootBuiltins "any" = some (.builtin "any") := by decide +kernel
theorem b_range : bootBuiltins "range" = some (.type "range") := by decide +kernel
theorem b_sum : bootBuiltins "sum" = some (.builtin "sum") := by decide +kernel
theorem b_min : bootBuiltins "min" = some (.builtin "min") := by decide +kernel
theorem b_abs : bootBuiltins "abs" = some (.builtin "abs") := by decide +kernel
theorem ok_is_below {k : Nat} (F : Fun K "is_below" "is_below" s_is_below f fd) (mi : mg "isinstance" = none) (mt : mg "int" = none) (mb : mg "bool" = none) : FnOk P w K mg base CX0 (k + 1) f fd ["worth", "limit"] (spBelow K) := by
  refine F.ok sc_is_below (fun vs H Q E h => ?_) (fun cdv A outer s H vs Q E hr h => ?_)
  · obtain ⟨d, n, v, rfl, _⟩ := h; rfl
  obtain ⟨d, n, v, rfl, hd, q⟩ := h
  refine ⟨_, pss_one (ps_ret (pe_and (pe_callB call_isi (by rfl) mi b_isinstance (pa_cons (pv 0) (pa_cons (pe_bltn (v := .ty "int") (by rfl) mt b_int rfl) pa_nil)))
    (pe_and (pe_not (pe_callB call_isi (by rfl) mi b_isinstance (pa_cons (pv 0) (pa_cons (pe_bltn (v := .ty "bool") (by rfl) mb b_bool rfl) pa_nil))))
    (pe_one (pe_chain op_le op_lt pe_int (pv 0) (pv 1)))))), ?_⟩
  refine ⟨_, rfl, _, _, _, _, _, rfl, .ty "int", hd.ty, kit_int d, _, rfl, ?_⟩
  cases d with
  | int i =>
    cases hd
    refine iteT ⟨_, rfl, _, _, _, _, _, rfl, .ty "bool", L2.Dp.ty (.int i), kit_bool (.int i), _, rfl, _, rfl, iteT ?_⟩
    refine ⟨_, rfl, _, _, rfl, rfl, _, rfl, ?_⟩
    by_cases h0 : (0 : Int) ≤ i
    · rw [decide_eq_true h0]
      refine iteT ⟨_, rfl, _, _, rfl, rfl, ?_⟩
      have e : belowD (.int i) n = decide (i < n) := by show (decide (0 ≤ i) && decide (i < n)) = _; rw [decide_eq_true h0]; rfl
      rw [e] at q
      exact q
    · rw [decide_eq_false h0]
      refine iteF ?_
      have e : belowD (.int i) n = false := by show (decide (0 ≤ i) && decide (i < n)) = _; rw [decide_eq_false h0]; rfl
      rw [e] at q
      exact q
  | bool b =>
    cases hd
    exact iteT ⟨_, rfl, _, _, _, _, _, rfl, .ty "bool", L2.Dp.ty (.bl b), kit_bool (.bool b), _, rfl, _, rfl, iteF q⟩
  | none => exact iteF q
  | str x => exact iteF q
  | list xs => exact iteF q
  | tuple xs => exact iteF q
  | dict xs => exact iteF q
theorem ok_is_tuple_of {k : Nat} (F : Fun K "is_tuple_of" "is_tuple_of" s_is_tuple_of f fd) (mi : mg "isinstance" = none) (mt : mg "tuple" = none) (ml : mg "len" = none) : FnOk P w K mg base CX0 (k + 1) f fd ["worth", "many"] (spTupOf K) := by
  refine F.ok sc_is_tuple_of (fun vs H Q E h => ?_) (fun cdv A outer s H vs Q E hr h => ?_)
  · obtain ⟨d, n, v, rfl, _⟩ := h; rfl
  obtain ⟨d, n, v, rfl, hd, q⟩ := h
  refine ⟨_, pss_one (ps_ret (pe_and (pe_callB call_isi (by rfl) mi b_isinstance (pa_cons (pv 0) (pa_cons (pe_bltn (v := .ty "tuple") (by rfl) mt b_tuple rfl) pa_nil)))
    (pe_one (pe_cmpR op_eq (pe_callB call_len_seq (by rfl) ml PySem.boot_len (pa_cons (pv 0) pa_nil)) (pv 1) (nomark _))))), ?_⟩
  refine ⟨_, rfl, _, _, _, _, _, rfl, .ty "tuple", hd.ty, kit_tup d, _, rfl, ?_⟩
  cases d with
  | tuple ds =>
    obtain ⟨a, xs, rfl, hs, ha⟩ := hd.tupI
    refine iteT ⟨_, rfl, a, xs, rfl, .inr hs, _, rfl, rfl, ?_⟩
    have e : decide (V.int ((xs.length : Nat) : Int) = V.int n) = tupOfD (.tuple ds) n := by
      show _ = decide ((ds.length : Int) = n)
      rw [ha.length]
      by_cases h : (ds.length : Int) = n
      · rw [h, decide_eq_true rfl, decide_eq_true rfl]
      · rw [decide_eq_false h, decide_eq_false fun z => h (V.int.inj z)]
    rw [e]
    exact q
  | none => exact iteF q
  | bool b => exact iteF q
  | int i => exact iteF q
  | str x => exact iteF q
  | list xs => exact iteF q
  | dict xs => exact iteF q
end
end LW
set_option maxHeartbeats 1000000
namespace LW
open PySem PySem.Spec PyProof.Rows L2
/-- a def with a known code object -/
theorem okC {P : Program} {w : World} {K : PySem.W.Frag} {mg : Str → Option Value} {base : Heap} {x qual : Str} {st : Stmt} {f c : Addr} {fd : FuncData} {N ps : List Str} {k : Nat} {sp : Sp} (F : Fun K x qual st f fd) (hc : fd.code = .ref c) (S : FnScope N ps (defScope st)) (len : ∀ vs H Q E, sp vs H Q E → vs.length = ps.length)
    (hbody : ∀ (A : Around) (outer : List Env) (s : Shared) (H : Hp) (vs : List V) (Q : VK) (E : XK), Room k (A.deeper (envOfC qual (defScope st) s.heap.objs.size f (.ref c))) → sp vs H Q E →
      ∃ t, PSs (cxOf CX0 P w K mg base N qual (defScope st) f (.ref c) A outer s H E).nox (defBody st) t ∧ t { nx := fun _ H' => Q .non H', rt := Q } (start N vs) H) : FnOk P w K mg base CX0 (k + 1) f fd ps sp := by
  obtain ⟨oc, od, kV, doc, pm, an, cdv, ct, osl, rfl, lk, hcd⟩ := F.ex
  have e : cdv = .ref c := hc
  subst e
  refine fn_of lk hcd S len fun A outer s H vs Q E hr hsp => ?_
  obtain ⟨t, h, q⟩ := hbody A outer s H vs Q E hr hsp
  exact ⟨t, h.nox, q⟩
/-! ### what is a document -/
def treeD : PyData → Bool
  | .tuple [x, _] => belowD x 5
  | _ => false
mutual
def formD : PyData → Nat → Bool
  | .tuple ts, n => (ts.isEmpty || decide (n ≤ 30)) && formAll ts n
  | _, _ => false
def formT : PyData → Nat → Bool
  | .tuple [x, k], n => belowD x 5 && formD k (n + 1)
  | _, _ => false
def formAll : List PyData → Nat → Bool
  | [], _ => true
  | t :: ts, n => formT t n && formAll ts n
end
mutual
def szD : PyData → Nat
  | .tuple ts => szAll ts
  | _ => 0
def szT : PyData → Nat
  | .tuple [_, k] => 1 + szD k
  | _ => 1
def szAll : List PyData → Nat
  | [] => 0
  | t :: ts => szT t + szAll ts
end
mutual
def nodeD : PyData → Nat
  | .tuple ts => 1 + nodeAll ts
  | _ => 1
def nodeAll : List PyData → Nat
  | [] => 0
  | t :: ts => nodeD t + nodeAll ts
end
def docD (d : PyData) : Bool := formD d 1 && decide (szD d ≤ 300)
def kidD : PyData → PyData
  | .tuple [_, k] => k
  | _ => .none
theorem szAll_len : ∀ ts : List PyData, ts.length ≤ szAll ts
  | [] => Nat.le_refl _
  | t :: ts => by
    have h := szAll_len ts
    have h1 : 1 ≤ szT t := by
      unfold szT
      split <;> omega
    rw [szAll, List.length_cons]
    omega
theorem formT_tree {t : PyData} {n : Nat} (h : formT t n = true) : treeD t = true ∧ formD (kidD t) (n + 1) = true := by
  unfold formT at h
  split at h
  · simpa [treeD, kidD] using h
  · cases h
theorem treeD_shape {t : PyData} (h : treeD t = true) : ∃ i k, t = .tuple [.int i, k] := by
  unfold treeD at h
  split at h
  · rename_i x k
    cases x with
    | int i => exact ⟨i, k, rfl⟩
    | _ => cases h
  · cases h
theorem formT_of {t : PyData} {n : Nat} (h : treeD t = true) : formT t n = formD (kidD t) (n + 1) := by
  obtain ⟨i, k, rfl⟩ := treeD_shape h
  have h' : belowD (.int i) 5 = true := h
  simp only [formT, kidD, h', Bool.true_and]
theorem szT_of {t : PyData} (h : treeD t = true) : szT t = 1 + szD (kidD t) := by
  obtain ⟨i, k, rfl⟩ := treeD_shape h
  simp only [szT, kidD]
theorem nodeD_of {t : PyData} (h : treeD t = true) : nodeD (kidD t) + 1 < nodeD t := by
  obtain ⟨i, k, rfl⟩ := treeD_shape h
  simp only [nodeD, nodeAll, kidD]
  omega
/-- the pile of what waits -/
def pForm (ws : List (PyData × Nat)) : Bool := ws.all fun p => formD p.1 p.2
def pSz (ws : List (PyData × Nat)) : Nat := (ws.map fun p => szD p.1).sum
def pNode (ws : List (PyData × Nat)) : Nat := (ws.map fun p => nodeD p.1).sum
theorem kids_form : ∀ (ts : List PyData) (n : Nat), ts.all treeD = true → formAll ts n = pForm (ts.map fun t => (kidD t, n + 1))
  | [], _, _ => rfl
  | t :: ts, n, h => by
    have h' : treeD t = true ∧ ts.all treeD = true := by simpa using h
    rw [formAll, formT_of h'.1, kids_form ts n h'.2]
    rfl
theorem kids_sz : ∀ (ts : List PyData) (n : Nat), ts.all treeD = true → szAll ts = ts.length + pSz (ts.map fun t => (kidD t, n + 1))
  | [], _, _ => rfl
  | t :: ts, n, h => by
    have h' : treeD t = true ∧ ts.all treeD = true := by simpa using h
    have ih := kids_sz ts n h'.2
    have e : pSz ((t :: ts).map fun t => (kidD t, n + 1)) = szD (kidD t) + pSz (ts.map fun t => (kidD t, n + 1)) := by
      simp [pSz]
    rw [szAll, szT_of h'.1, ih, e, List.length_cons]
    omega
theorem kids_node : ∀ (ts : List PyData) (n : Nat), ts.all treeD = true → pNode (ts.map fun t => (kidD t, n + 1)) ≤ nodeAll ts
  | [], _, _ => Nat.le_refl _
  | t :: ts, n, h => by
    have h' : treeD t = true ∧ ts.all treeD = true := by simpa using h
    have ih := kids_node ts n h'.2
    have h1 := nodeD_of h'.1
    have e : pNode ((t :: ts).map fun t => (kidD t, n + 1)) = nodeD (kidD t) + pNode (ts.map fun t => (kidD t, n + 1)) := by
      simp [pNode]
    rw [e, nodeAll]
    omega
theorem formAll_trees : ∀ (ts : List PyData) (n : Nat), formAll ts n = true → ts.all treeD = true
  | [], _, _ => rfl
  | t :: ts, n, h => by
    rw [formAll] at h
    have h' : formT t n = true ∧ formAll ts n = true := by simpa using h
    have := formAll_trees ts n h'.2
    simp [(formT_tree h'.1).1, this]
def goalD (ws : List (PyData × Nat)) (many : Nat) : Bool := pForm ws && decide (many + pSz ws ≤ 300)
theorem goal_start (d : PyData) : goalD [(d, 1)] 0 = docD d := by
  simp [goalD, docD, pForm, pSz]
theorem goal_app (ws : List (PyData × Nat)) (d : PyData) (n many : Nat) : goalD (ws ++ [(d, n)]) many = (formD d n && pForm ws && decide (many + (szD d + pSz ws) ≤ 300)) := by
  have e1 : pForm (ws ++ [(d, n)]) = (pForm ws && formD d n) := by simp [pForm]
  have e2 : pSz (ws ++ [(d, n)]) = pSz ws + szD d := by simp [pSz]
  unfold goalD
  rw [e1, e2, Bool.and_comm (pForm ws), Nat.add_comm (pSz ws)]
/-- it is no tuple, or too deep -/
theorem goal_bad {ws : List (PyData × Nat)} {d : PyData} {n many : Nat} (h : formD d n = false) : goalD (ws ++ [(d, n)]) many = false := by
  rw [goal_app, h]; rfl
theorem goal_many {ws : List (PyData × Nat)} {ts : List PyData} {n many : Nat} (h : 300 < many + ts.length) : goalD (ws ++ [(.tuple ts, n)]) many = false := by
  rw [goal_app]
  have h1 := szAll_len ts
  have e : decide (many + (szD (.tuple ts) + pSz ws) ≤ 300) = false := decide_eq_false (by rw [szD]; omega)
  rw [e, Bool.and_false]
theorem goal_step {ws : List (PyData × Nat)} {ts : List PyData} {n many : Nat} (h : ts.all treeD = true) (hd : (ts.isEmpty || decide (n ≤ 30)) = true) :
    goalD (ws ++ [(.tuple ts, n)]) many = goalD (ws ++ ts.map fun t => (kidD t, n + 1)) (many + ts.length) := by
  rw [goal_app, formD, hd, Bool.true_and, szD, kids_form ts n h, kids_sz ts n h]
  unfold goalD
  have e1 : pForm (ws ++ ts.map fun t => (kidD t, n + 1)) = (pForm ws && pForm (ts.map fun t => (kidD t, n + 1))) := by simp [pForm]
  have e2 : pSz (ws ++ ts.map fun t => (kidD t, n + 1)) = pSz ws + pSz (ts.map fun t => (kidD t, n + 1)) := by simp [pSz]
  rw [e1, e2, Bool.and_comm (pForm ws)]
  congr 1
  exact decide_eq_decide.mpr (by omega)
theorem node_app (ws : List (PyData × Nat)) (d : PyData) (n : Nat) : pNode (ws ++ [(d, n)]) = pNode ws + nodeD d := by simp [pNode]
theorem node_step {ws : List (PyData × Nat)} {ts : List PyData} {n : Nat} (h : ts.all treeD = true) : pNode (ws ++ ts.map fun t => (kidD t, n + 1)) < pNode (ws ++ [(.tuple ts, n)]) := by
  have h1 := kids_node ts n h
  have e2 : pNode (ws ++ ts.map fun t => (kidD t, n + 1)) = pNode ws + pNode (ts.map fun t => (kidD t, n + 1)) := by simp [pNode]
  rw [node_app, e2, nodeD]
  omega
end LW
set_option maxHeartbeats 1000000
namespace LW
open PySem PySem.Spec PyProof.Rows L2
theorem paired_snoc {α β : Type} {F : α → β → Prop} {p : β} : ∀ {ws : List β} {xs : List α}, Paired F xs (ws ++ [p]) → ∃ xs0 x, xs = xs0 ++ [x] ∧ Paired F xs0 ws ∧ F x p
  | [], _, .cons h t => by cases t; exact ⟨[], _, rfl, .nil, h⟩
  | q :: ws, _, .cons h t => by
    obtain ⟨xs0, x, e, h1, h2⟩ := paired_snoc (ws := ws) t
    exact ⟨_ :: xs0, x, by rw [e]; rfl, .cons h h1, h2⟩
theorem paired_app {α β : Type} {F : α → β → Prop} : ∀ {xs : List α} {ws : List β} {ys : List α} {vs : List β}, Paired F xs ws → Paired F ys vs → Paired F (xs ++ ys) (ws ++ vs)
  | _, _, _, _, .nil, s => s
  | _, _, _, _, .cons h t, s => .cons h (paired_app t s)
theorem paired_imp {α β : Type} {F G : α → β → Prop} (h : ∀ x p, F x p → G x p) : ∀ {xs : List α} {ws : List β}, Paired F xs ws → Paired G xs ws
  | _, _, .nil => .nil
  | _, _, .cons a t => .cons (h _ _ a) (paired_imp h t)
/-- what waits: pairs of a document, as it stood at the entry, and a depth -/
def Wt (K : PySem.W.Frag) (H0 H : Hp) (x : V) (p : PyData × Nat) : Prop := ∃ t v, x = .ref t ∧ H t = some (.tup [v, .int p.2]) ∧ Dp K H0 v p.1
theorem Wt.gr {K : PySem.W.Frag} {H0 H H' : Hp} {m : List Addr} (g : Gr m H H') (hm : ∀ b ∈ m, ∃ ys, H b = some (.lst ys)) (x : V) (p : PyData × Nat) (h : Wt K H0 H x p) : Wt K H0 H' x p := by
  obtain ⟨t, v, e, ht, hd⟩ := h
  exact ⟨t, v, e, g.tup (fun z => by obtain ⟨ys, q⟩ := hm t z; rw [ht] at q; cases q) ht, hd⟩
def spTree (K : PySem.W.Frag) : Sp := fun vs H Q _ => ∃ (d : PyData) (v : V), vs = [v] ∧ Dp K H v d ∧ Q (.bl (treeD d)) H
def spIsDoc (K : PySem.W.Frag) (T : Addr) : Sp := fun vs H Q _ => ∃ (d : PyData) (v : V), vs = [v] ∧ Dp K H v d ∧ GxR.TabG H T ∧ ∀ H', Gr [] H H' → Q (.bl (docD d)) H'
section
variable {P : Program} {w : World} {K : PySem.W.Frag} {mg : Str → Option Value} {base : Heap} {f : Addr} {fd : FuncData}
theorem sc_is_tree : FnScope ["tree"] ["tree"] (defScope s_is_tree) := ⟨rfl, rfl, rfl, by decide +kernel, rfl, by decide +kernel, by decide +kernel⟩
abbrev nIsDoc : List Str := ["d", "many", "waiting", "trees", "depth", "tree", "_", "kids"]
theorem sc_is_document : FnScope nIsDoc ["d"] (defScope s_is_document) := ⟨rfl, rfl, rfl, by decide +kernel, rfl, by decide +kernel, by decide +kernel⟩
theorem pe_gint {X : Cx} {x : Str} {n : Int} {t : Tok} {pos : Pos} (hm : X.mg x = some (.int n t)) (hg : Gl X x) (hd : (x == ("__debug__" : Str)) = false := by decide) : PE X (.Name x pos) (tC (.int n)) := pe_glob (v := .int n) hg hm ⟨t, rfl⟩ hd
theorem len2 : (2 : Nat) ≤ sizeLine := by decide
theorem ok_is_tree {tL : Tok} (F : Fun K "is_tree" "is_tree" s_is_tree f fd) (f1 : Fn P w K mg base CX0 1 "is_tuple_of" ["worth", "many"] (spTupOf K)) (f2 : Fn P w K mg base CX0 1 "is_below" ["worth", "limit"] (spBelow K)) (mL : mg "LABELS" = some (.int 5 tL)) :
    FnOk P w K mg base CX0 2 f fd ["tree"] (spTree K) := by
  refine F.ok sc_is_tree (fun vs H Q E h => ?_) (fun cdv A outer s H vs Q E hr h => ?_)
  · obtain ⟨d, v, rfl, _⟩ := h; rfl
  obtain ⟨d, v, rfl, hd, q⟩ := h
  refine ⟨_, pss_one (ps_ret (pe_and (pe_fn f1 hr rfl pass0 (pa_cons (pv 0) (pa_cons pe_int pa_nil)))
    (pe_one (pe_fn f2 hr rfl pass0 (pa_cons (pe_ix ix_tup (pv 0) pe_int (fun _ _ => rfl)) (pa_cons (pe_gint mL rfl) pa_nil)))))), ?_⟩
  refine ⟨_, rfl, d, 2, v, rfl, hd, _, rfl, ?_⟩
  by_cases h2 : tupOfD d 2 = true
  · rw [h2]
    cases d with
    | tuple ds =>
      have e : (ds.length : Int) = 2 := of_decide_eq_true h2
      match ds, e with
      | [x, k], _ =>
        obtain ⟨a, xs, rfl, hs, ha⟩ := hd.tupI
        cases ha with
        | cons hx ha =>
          refine iteT ⟨_, rfl, a, _, 0, _, rfl, rfl, hs, atI_nat (j := 0) rfl, x, 5, _, rfl, hx, ?_⟩
          exact q
    | _ => cases h2
  · have e : tupOfD d 2 = false := by simpa using h2
    rw [e]
    refine iteF ?_
    have e2 : treeD d = false := by
      unfold treeD
      split
      · rename_i x k
        exact absurd (show tupOfD (.tuple [x, k]) 2 = true from (by simp [tupOfD])) h2
      · rfl
    rw [e2] at q
    exact q
end
end LW
set_option maxHeartbeats 400000
namespace LW
open PySem PySem.Spec PyProof.Rows L2
theorem all_snoc {p : PyData → Bool} {ts : List PyData} {i : Nat} {t : PyData} (e : ts[i]? = some t) (h : (ts.take i).all p = true) (h2 : p t = true) : (ts.take (i + 1)).all p = true := by
  rw [List.take_add_one, e, List.all_append, h]
  simp [h2]
theorem all_not {p : PyData → Bool} {ts : List PyData} {i : Nat} {t : PyData} (e : ts[i]? = some t) (h : p t = false) : ts.all p = false := by
  rw [Bool.eq_false_iff]
  intro z
  have := List.all_eq_true.mp z t (List.mem_of_getElem? e)
  rw [h] at this; cases this
theorem dpAll_two {K : PySem.W.Frag} {H : Hp} {xs : List V} {d e : PyData} (h : DpAll K H xs [d, e]) : ∃ v u, xs = [v, u] ∧ Dp K H v d ∧ Dp K H u e := by
  cases h with
  | cons h1 h => cases h with
    | cons h2 h => cases h; exact ⟨_, _, rfl, h1, h2⟩
section
variable {P : Program} {w : World} {K : PySem.W.Frag} {mg : Str → Option Value} {base : Heap} {f : Addr} {fd : FuncData}
theorem ok_is_document {t1 t2 : Tok} {c T : Addr} (F : Fun K "is_document" "is_document" s_is_document f fd) (hc : fd.code = .ref c) (TB : GxR.TabB base mg c T) (ft : Fn P w K mg base CX0 2 "is_tree" ["tree"] (spTree K))
    (mi : mg "isinstance" = none) (mt : mg "tuple" = none) (ml : mg "len" = none) (ma : mg "all" = none) (mN : mg "MOST_NESTED" = some (.int 30 t1)) (mM : mg "MOST_TREES" = some (.int 300 t2)) :
    FnOk P w K mg base CX0 6 f fd ["d"] (spIsDoc K T) := by
  refine okC F hc sc_is_document (fun vs H Q E h => ?_) (fun A outer s H vs Q E hr h => ?_)
  · obtain ⟨d, v, rfl, _⟩ := h; rfl
  obtain ⟨d, v, rfl, hd, hT, q⟩ := h
  have nd := sc_is_document.nd
  refine ⟨_, pss_cons (ps_set (i := 1) nd rfl (.inl rfl) pe_int)
    (pss_cons (ps_set (i := 2) nd rfl (.inl rfl) (pe_lst (pa_cons (pe_tup (pa_cons (pv 0) (pa_cons pe_int pa_nil))) pa_nil)))
    (pss_cons (ps_while PassesOwn.never (pt_truth (pv 2) (by intro _; rfl))
      (pss_cons (ps_asg (pe_bm0 PySem.F.plainAttrs_list PySem.F.slot_list_pop PySem.F.type_list_pop mt_pop (pv 2)) (pg_tup rfl (pgs_cons (pg_name (i := 3) nd rfl (.inl rfl)) (pgs_cons (pg_name (i := 4) nd rfl (.inr rfl)) pgs_nil))))
      (pss_cons (ps_if (PW.pt (pw_or (pt_not (pt_val (pe_callB call_isi (by rfl) mi b_isinstance (pa_cons (pv 3) (pa_cons (pe_bltn (v := .ty "tuple") (by rfl) mt b_tuple rfl) pa_nil)))))
          (pw_or1 (PW.pt (pw_and (pt_truth (pv 3) (by intro _; rfl)) (pw_and1 (pt_cmpR op_gt (pv 4) (pe_gint mN rfl) (nomark _))))))))
        (pss_one (ps_ret pe_bl)) pss_nil)
      (pss_cons (ps_aug (i := 1) nd rfl (.inl rfl) (pe_callB call_len_seq (by rfl) ml PySem.boot_len (pa_cons (pv 3) pa_nil)) ip_add)
      (pss_cons (ps_if (PW.pt (pw_or (pt_cmpR op_gt (pv 1) (pe_gint mM rfl) (nomark _))
          (pw_or1 (pt_not (pt_val (pe_allG (own := [("tree", 5)]) (gT := gName 5) (k := 2) hr rfl ma b_all TB rfl (gsc_by (N := nIsDoc) (sc := defScope s_is_document) (by decide +kernel) (by decide +kernel)) nd (pi_tup (pv 3)) (fun A s H C cl code fp pn => pg_name (i := 5) nd rfl (.inl rfl))
            (fun A s H C cl code fp pn hrA => pe_fn ft hrA rfl pass0 (pa_cons (pv 5) pa_nil))))))))
        (pss_one (ps_ret pe_bl)) pss_nil)
      (pss_one (ps_expr (pe_bm PySem.F.plainAttrs_list PySem.F.slot_list_extend PySem.F.type_list_extend mt_extend (pv 2)
        (pa_cons (pe_lc (own := [("_", 6), ("kids", 7)]) (g := gTup K 2 (gCons (gName 6) (gCons (gName 7) gNil))) (tt := tYes) rfl nd (pi_tup (pv 3)) (blkOk_by (N := nIsDoc) (sc := defScope s_is_document) (own := [("_", 6), ("kids", 7)]) (by decide +kernel))
          (fun s H C cl fp => pg_tup rfl (pgs_cons (pg_name (i := 6) nd rfl (.inl rfl)) (pgs_cons (pg_name (i := 7) nd rfl (.inl rfl)) pgs_nil))) (fun s H C cl fp => pts_nil)
          (fun s H C cl fp => pe_tup (pa_cons (pv 7) (pa_cons (pe_op op_add (pv 4) pe_int) pa_nil)))) pa_nil)))))))))
    (pss_one (ps_ret pe_bl)))), ?_⟩
  refine ⟨_, rfl, len2, fun t0 n0 => ⟨(by decide : (1 : Nat) ≤ sizeLine), fun wl nw => ?_⟩⟩
  have hw0 : H wl = none := upd_none' nw
  have gs : Gr [] H (upd (upd H t0 (.tup [v, .int 1])) wl (.lst [.ref t0])) := (Gr.new n0).put0 hw0
  refine ⟨fun m σ H1 => ∃ (many : Nat) (ws : List (PyData × Nat)) (xs : List V) (y3 y4 y5 y6 y7 : Option V), m = pNode ws ∧ σ = [some v, some (.int many), some (.ref wl), y3, y4, y5, y6, y7] ∧ H1 wl = some (.lst xs) ∧
    Paired (Wt K H H1) xs ws ∧ Gr [] H H1 ∧ many ≤ 300 ∧ ws.length ≤ many + 1 ∧ goalD ws many = docD d, ⟨_, 0, [(d, 1)], [.ref t0], none, none, none, none, none, rfl, rfl, upd_same, .cons ⟨t0, v, rfl, ?_, hd⟩ .nil, gs, by omega, by simp, goal_start d⟩, ?_⟩
  · have ne : t0 ≠ wl := fun z => by rw [← z, upd_same] at nw; cases nw
    rw [upd_ne ne, upd_same]
    rfl
  rintro m σ H1 ⟨many, ws, xs, y3, y4, y5, y6, y7, rfl, rfl, hwl, hp, g1, hm, hl, hgoal⟩
  refine ⟨_, rfl, _, .inl ⟨xs, SqL.of hwl, rfl⟩, ?_⟩
  rcases ws.eq_nil_or_concat with rfl | ⟨ws, ⟨d0, n⟩, rfl⟩
  · cases hp
    refine iteF ?_
    -- return True
    have e : docD d = true := by rw [← hgoal]; simp [goalD, pForm, pSz, hm]
    rw [e] at q
    exact q H1 g1
  rw [List.concat_eq_append] at hp hl hgoal ⊢
  obtain ⟨xs, x, rfl, hp0, tp, v0, rfl, htp, hd0⟩ := paired_snoc hp
  have hne : (!(xs ++ [V.ref tp]).isEmpty) = true := by simp
  rw [hne]
  refine iteT ⟨fun σ' H' => ∃ m', m' < pNode (ws ++ [(d0, n)]) ∧ (∃ (many : Nat) (ws : List (PyData × Nat)) (xs : List V) (y3 y4 y5 y6 y7 : Option V), m' = pNode ws ∧ σ' = [some v, some (.int many), some (.ref wl), y3, y4, y5, y6, y7] ∧ H' wl = some (.lst xs) ∧
    Paired (Wt K H H') xs ws ∧ Gr [] H H' ∧ many ≤ 300 ∧ ws.length ≤ many + 1 ∧ goalD ws many = docD d), fun σ' H' z => z, ?_⟩
  -- trees, depth = waiting.pop()
  have hlast : (xs ++ [V.ref tp])[(xs ++ [V.ref tp]).length - 1]? = some (.ref tp) := by simp
  have hne2 : tp ≠ wl := fun z => by rw [z, hwl] at htp; cases htp
  have hdl : (xs ++ [V.ref tp]).dropLast = xs := by simp
  refine ⟨_, rfl, .inl ⟨rfl, _, SqL.of hwl⟩, wl, _, .ref tp, rfl, rfl, hwl, hlast, ?_⟩
  rw [hdl]
  generalize hH2 : upd H1 wl (.lst xs) = H2
  have hwl2 : H2 wl = some (.lst xs) := by rw [← hH2]; exact upd_same
  have g2 : Gr [] H H2 := by rw [← hH2]; exact g1.put0 hw0
  have hp2 : Paired (Wt K H H2) xs ws := paired_imp (Wt.gr (m := [wl]) (by rw [← hH2]; exact Gr.put hwl (fun _ z => by cases z) (by simp)) (fun b hb => by rw [List.mem_singleton.mp hb]; exact ⟨_, hwl⟩)) hp0
  have htp2 : H2 tp = some (.tup [v0, .int n]) := by rw [← hH2, upd_ne hne2]; exact htp
  refine ⟨tp, _, rfl, SqT.of htp2, rfl, v0, [.int n], rfl, .int n, [], rfl, rfl, ?_⟩
  -- if not isinstance(trees, tuple) or (trees and depth > MOST_NESTED)
  have hd2 := hd0.gr g2
  refine ⟨_, rfl, _, _, _, _, _, rfl, .ty "tuple", hd2.ty, kit_tup d0, _, rfl, ?_⟩
  have bad : formD d0 n = false → Q (.bl false) H2 := fun z => by
    have e : docD d = false := by rw [← hgoal]; exact goal_bad z
    rw [e] at q
    exact q H2 g2
  cases d0 with
  | none => exact iteT (iteT (bad (by simp [formD])))
  | bool b => exact iteT (iteT (bad (by simp [formD])))
  | int i => exact iteT (iteT (bad (by simp [formD])))
  | str x => exact iteT (iteT (bad (by simp [formD])))
  | list ds => exact iteT (iteT (bad (by simp [formD])))
  | dict ds => exact iteT (iteT (bad (by simp [formD])))
  | tuple ts =>
    obtain ⟨a, vs, rfl, hs0, ha⟩ := hd0.tupI
    have hs := g2.sqT hs0
    refine iteF ⟨_, rfl, _, .inr (.inl ⟨vs, hs, rfl⟩), ?_⟩
    have hvl := ha.length
    have hemp : vs.isEmpty = ts.isEmpty := by cases vs <;> cases ts <;> first | rfl | (simp at hvl)
    have key : ∀ (R : Bool → Hp → Prop), ((ts.isEmpty || decide (n ≤ 30)) = true → R false H2) → ((ts.isEmpty || decide (n ≤ 30)) = false → R true H2) →
        (if (!vs.isEmpty) = true then (tTest (tOp (rI0 fun i j => .bl (decide (j < i))) (tVar 4) (tC (.int 30)))) [some v, some (.int many), some (.ref wl), some (.ref a), some (.int n), y5, y6, y7] H2 R else R false H2) := by
      intro R h1 h2
      rw [hemp]
      cases hte : ts.isEmpty with
      | true => exact iteF (h1 (by rw [hte]; rfl))
      | false =>
        refine iteT ⟨_, rfl, _, _, rfl, rfl, _, rfl, ?_⟩
        by_cases h30 : n ≤ 30
        · rw [decide_eq_false (show ¬ ((30 : Int) < (n : Int)) by omega)]
          exact h1 (by rw [decide_eq_true h30, Bool.or_true])
        · rw [decide_eq_true (show ((30 : Int) < (n : Int)) by omega)]
          exact h2 (by rw [hte, decide_eq_false h30]; rfl)
    refine key _ (fun hdeep => iteF ?_) (fun hdeep => iteT (bad (by rw [formD, hdeep]; rfl)))
    -- many += len(trees)
    refine ⟨_, rfl, _, rfl, a, vs, rfl, .inr hs, _, _, rfl, rfl, ?_⟩
    -- if many > MOST_TREES or not all(..)
    refine ⟨_, rfl, _, _, rfl, rfl, _, rfl, ?_⟩
    have hmany : (many : Int) + ((vs.length : Nat) : Int) = ((many + ts.length : Nat) : Int) := by rw [hvl]; omega
    by_cases h300 : 300 < many + ts.length
    · rw [decide_eq_true (show ((300 : Int) < (many : Int) + ((vs.length : Nat) : Int)) by rw [hmany]; omega)]
      refine iteT (iteT ?_)
      have e : docD d = false := by rw [← hgoal]; exact goal_many h300
      rw [e] at q
      exact q H2 g2
    rw [decide_eq_false (show ¬ ((300 : Int) < (many : Int) + ((vs.length : Nat) : Int)) by rw [hmany]; omega)]
    refine iteF ?_
    have hT2 : GxR.TabG H2 T := g2.tab T hT
    refine ⟨_, rfl, a, rfl, ⟨vs, hs⟩, hT2, fun H3 hT3 => gw_tup (xs := vs) (fun i H' => H' = H3 ∧ (ts.take i).all treeD = true) ⟨rfl, rfl⟩ (fun i H' _ hP => ?_) (fun i x H' hx hP => ?_) (fun H' hP => ?_)⟩
    · rw [hP.1]; exact (Tabbed.gr hT2 hT3).sqT hs
    · obtain ⟨rfl, hall⟩ := hP
      obtain ⟨dt, hdt, hxd⟩ := ha.get hx
      refine ⟨rfl, _, rfl, dt, x, rfl, hxd.gr (g2.trans (Tabbed.gr hT2 hT3)), _, rfl, ?_⟩
      cases htd : treeD dt with
      | true => exact iteT ⟨rfl, all_snoc hdt hall htd⟩
      | false =>
        refine iteF ⟨_, rfl, iteT ?_⟩
        have hbad : formAll ts n = false := by
          rw [Bool.eq_false_iff]
          intro z
          have := formAll_trees ts n z
          rw [all_not hdt htd] at this
          cases this
        have e : docD d = false := by rw [← hgoal]; exact goal_bad (by rw [formD, hbad, Bool.and_false])
        rw [e] at q
        exact q H' (g2.trans (Tabbed.gr hT2 hT3))
    · obtain ⟨rfl, hall⟩ := hP
      have hall : ts.all treeD = true := by rw [hvl, List.take_length] at hall; exact hall
      refine ⟨_, rfl, iteF ?_⟩
      have g3 : Gr [] H H' := g2.trans (Tabbed.gr hT2 hT3)
      have g23 : Gr [] H2 H' := Tabbed.gr hT2 hT3
      have hwl3 : H' wl = some (.lst xs) := g23.lst (by simp) hwl2
      have hs3 := g23.sqT hs
      -- waiting.extend([(kids, depth + 1) for _, kids in trees])
      refine ⟨_, rfl, .inl ⟨rfl, _, SqL.of hwl3⟩, ?_⟩
      refine ⟨_, rfl, a, rfl, ⟨vs, hs3⟩, fun D hD => lc_tup (xs := vs) (fun i H4 => Gr [] H' H4 ∧ ∃ zs, H4 D = some (.lst zs) ∧ zs.length = i ∧ Paired (Wt K H H4) zs ((ts.take i).map fun t => (kidD t, n + 1))) ?_ (fun i H4 _ hP => hP.1.sqT hs3) (fun i x H4 hx hP => ?_) (fun H4 hP => ?_)⟩
      · exact ⟨Gr.new hD, [], upd_same, rfl, .nil⟩
      · obtain ⟨g4, zs, hzD, hzl, hzp⟩ := hP
        obtain ⟨dt, hdt, hxd⟩ := ha.get hx
        have htd : treeD dt = true := List.all_eq_true.mp hall dt (List.mem_of_getElem? hdt)
        obtain ⟨i0, k0, rfl⟩ := treeD_shape htd
        obtain ⟨at', xs', rfl, hst, hat⟩ := hxd.tupI
        have hst4 := (g3.trans g4).sqT hst
        obtain ⟨v1, v2, rfl, h1, h2⟩ := dpAll_two hat
        · refine ⟨at', _, rfl, hst4, rfl, v1, [v2], rfl, v2, [], rfl, rfl, rfl, ?_⟩
          refine ⟨_, rfl, _, rfl, _, _, rfl, rfl, len2, fun p np => ⟨zs, ?_, ?_, ?_⟩⟩
          · rw [upd_ne (ne_of_none hzD np)]; exact hzD
          · have hi : i < vs.length := (List.getElem?_eq_some_iff.mp hx).1
            have h9 : ts.length ≤ 300 := by omega
            exact small1000 (by omega)
          · have gp : Gr [] H' (upd H4 p (.tup [v2, .int (↑n + 1)])) := g4.trans (Gr.new np)
            have nD : p ≠ D := fun z => by rw [z, hzD] at np; cases np
            refine ⟨gp.put0 hD, _, upd_same, by simp [hzl], ?_⟩
            rw [List.take_add_one, hdt, List.map_append]
            have st : ∀ x p', Wt K H H4 x p' → Wt K H (upd (upd H4 p (.tup [v2, .int (↑n + 1)])) D (.lst (zs ++ [.ref p]))) x p' := fun x p' hz =>
              Wt.gr (m := [D]) (Gr.put (u := .lst zs) (by rw [upd_ne (ne_of_none hzD np)]; exact hzD) (fun _ z => by cases z) (by simp)) (fun b hb => by rw [List.mem_singleton.mp hb]; exact ⟨zs, by rw [upd_ne (ne_of_none hzD np)]; exact hzD⟩) x p' (Wt.gr (m := []) (Gr.new np) (fun b hb => by cases hb) x p' hz)
            refine paired_app (paired_imp st hzp) (.cons ⟨p, v2, rfl, ?_, ?_⟩ .nil)
            · rw [upd_ne nD, upd_same]; rfl
            · exact h2
      · obtain ⟨g4, zs, hzD, hzl, hzp⟩ := hP
        have hwl4 : H4 wl = some (.lst xs) := g4.lst (by simp) hwl3
        have hnwD : wl ≠ D := fun z => by rw [← z, hwl3] at hD; cases hD
        rw [show vs.length = ts.length from hvl, List.take_length] at hzp
        have hxl : xs.length = ws.length := Paired.length hp2
        have hwsl : ws.length ≤ many := by simp at hl; exact hl
        refine ⟨wl, D, xs, zs, rfl, rfl, hwl4, hzD, Nat.le_of_lt (small1000 (by omega)), ?_⟩
        refine ⟨_, node_step (n := n) hall, many + ts.length, ws ++ ts.map (fun t => (kidD t, n + 1)), xs ++ zs, some (.ref a), some (.int n), y5, y6, y7, rfl, by show [some v, some (V.int ((many : Int) + ((vs.length : Nat) : Int))), some (.ref wl), some (.ref a), some (.int n), y5, y6, y7] = _; rw [hmany], upd_same, ?_, (g3.trans g4).put0 hw0, by omega, by simp; omega, by rw [← hgoal]; exact (goal_step hall hdeep).symm⟩
        have gw : Gr [wl] H4 (upd H4 wl (.lst (xs ++ zs))) := Gr.put hwl4 (fun _ z => by cases z) (by simp)
        have hm1 : ∀ b ∈ [wl], ∃ ys, H4 b = some (.lst ys) := fun b hb => by rw [List.mem_singleton.mp hb]; exact ⟨_, hwl4⟩
        refine paired_app (paired_imp (Wt.gr gw hm1) (paired_imp (Wt.gr (m := []) (g23.trans g4) (fun b hb => by cases hb)) hp2)) (paired_imp (Wt.gr gw hm1) hzp)
end
end LW
set_option maxHeartbeats 1000000
namespace LW
open PySem PySem.Spec PyProof.Rows L2
/-! ### < of data -/
def rLtD (K : PySem.W.Frag) : R2 := fun x y H Q => ∃ d e, Dp K H x d ∧ Dp K H y e ∧ PySem.W.alike d e = true ∧ d ≠ .none ∧ d.depth ≤ 64 ∧ Q (.bl (PySem.W.dataLt d e)) H
theorem op_ltD {X : Cx} (hu : X.A.units + 64 < cLine) : OpR X (compareOp .Lt) (rLtD X.K) := by
  intro pins s σ H x y v u Q I rx ry h
  obtain ⟨d, e, hd, he, ha, hn, hdep, q⟩ := h
  obtain ⟨as, r1⟩ := Dp.reads I d x v hd rx
  obtain ⟨bs, r2⟩ := Dp.reads I e y u he ry
  exact PySem.W.rcLt_alike d e X.A s v u as bs r1 r2 ha hn (by have : min d.depth e.depth ≤ d.depth := Nat.min_le_left _ _; omega) X.prog X.w X.xe (EP X pins σ Q) ⟨.bl _, H, I, rfl, q⟩
def intsD (ns : List Int) : PyData := .list (ns.map .int)
theorem alike_ints : ∀ ns ms : List Int, PySem.W.alikeAll (ns.map .int) (ms.map .int) = true
  | [], _ => by simp [PySem.W.alikeAll]
  | _ :: _, [] => by simp [PySem.W.alikeAll]
  | x :: ns, y :: ms => by simp [PySem.W.alikeAll, PySem.W.alike, alike_ints ns ms]
theorem lt_intsAll : ∀ ns ms : List Int, PyProof.Rows.lexLt itemOrd (PySem.W.keyToksAll (ns.map .int)) (PySem.W.keyToksAll (ms.map .int)) = HT.lexLt ns ms
  | [], [] => by decide
  | [], y :: ms => by
    rw [List.map_cons, PySem.W.toks_all_cons]
    show PyProof.Rows.lexLt itemOrd [Sum.inl 0] (Sum.inl 1 :: _) = true
    rw [show ([Sum.inl 0] : List (Int ⊕ List Nat)) = Sum.inl 0 :: [] from rfl, PySem.W.lex_atom (by intro z; cases z)]
    decide
  | x :: ns, [] => by
    rw [List.map_cons, PySem.W.toks_all_cons]
    show PyProof.Rows.lexLt itemOrd (Sum.inl 1 :: _) [Sum.inl 0] = false
    rw [show ([Sum.inl 0] : List (Int ⊕ List Nat)) = Sum.inl 0 :: [] from rfl, PySem.W.lex_atom (by intro z; cases z)]
    decide
  | x :: ns, y :: ms => by
    rw [List.map_cons, List.map_cons]
    by_cases e : x = y
    · subst e
      rw [PySem.W.dataLt_all_yes (by simp [PySem.W.alike]) (by simp [PyData.eqv]), lt_intsAll ns ms, HT.lexLt_cons, if_pos rfl]
    · rw [PySem.W.dataLt_all_no (by simp [PySem.W.alike]) (by simp [PyData.eqv, e]), PySem.W.dataLt_int, HT.lexLt_cons, if_neg e]
theorem dataLt_ints (ns ms : List Int) : PySem.W.dataLt (intsD ns) (intsD ms) = HT.lexLt ns ms := by
  unfold intsD
  rw [PySem.W.dataLt_list]
  exact lt_intsAll ns ms
theorem canLay_ints : ∀ ns : List Int, PyData.canLayAll0 (ns.map .int) = true
  | [] => rfl
  | x :: ns => by simp [PyData.canLayAll0, PyData.canLay0, canLay_ints ns]
theorem depth_ints : ∀ ns : List Int, PyData.depthAll (ns.map .int) = 0
  | [] => rfl
  | x :: ns => by simp [PyData.depthAll, PyData.depth, depth_ints ns]
theorem shaped_ints (ns : List Int) : SeqAt.shaped (intsD ns) = true := by
  unfold SeqAt.shaped intsD
  have h1 : PyData.canLay0 (.list (ns.map .int)) = true := by rw [PyData.canLay0]; exact canLay_ints ns
  have h2 : PyData.depth (.list (ns.map .int)) = 1 := by rw [PyData.depth, depth_ints]
  rw [h1, h2]
  rfl
theorem eqv_ints : ∀ ns ms : List Int, PyData.eqvAll (ns.map .int) (ms.map .int) = decide (ns = ms)
  | [], [] => by simp [PyData.eqvAll]
  | [], _ :: _ => by simp [PyData.eqvAll]
  | _ :: _, [] => by simp [PyData.eqvAll]
  | x :: ns, y :: ms => by
    rw [List.map_cons, List.map_cons, PyData.eqvAll, eqv_ints ns ms, PyData.eqv]
    by_cases e : x = y <;> by_cases e2 : ns = ms <;> simp [e, e2]
theorem eqv_intsD (ns ms : List Int) : PyData.eqv (intsD ns) (intsD ms) = decide (ns = ms) := by
  unfold intsD
  rw [PyData.eqv]
  exact eqv_ints ns ms
theorem dp_ints {K : PySem.W.Frag} {H : Hp} {a : Addr} {ns : List Int} (h : SqL K H a (ns.map V.int)) : Dp K H (.ref a) (intsD ns) := by
  refine .lst h ?_
  clear h
  induction ns with
  | nil => exact .nil
  | cons x ns ih => exact .cons (.int x) ih

/-! ### documents -/
inductive Doc where
  | nil
  | cons (a : Int) (k r : Doc)
  deriving DecidableEq
def Doc.ts : Doc → List PyData
  | .nil => []
  | .cons a k r => .tuple [.int a, .tuple k.ts] :: r.ts
def Doc.data (d : Doc) : PyData := .tuple d.ts
def Doc.size : Doc → Nat
  | .nil => 0
  | .cons _ k r => 1 + k.size + r.size
def Doc.dep : Doc → Nat
  | .nil => 0
  | .cons _ k r => max (1 + k.dep) r.dep
def Doc.lab : Doc → Bool
  | .nil => true
  | .cons a k r => decide (0 ≤ a ∧ a < 5) && k.lab && r.lab
/-- a document within the bounds -/
def Doc.ok (d : Doc) : Prop := d.lab = true ∧ d.size ≤ 300 ∧ d.dep ≤ 30
def Doc.beh : Doc → List Int
  | .nil => []
  | .cons a k r => a :: (k.size : Int) :: (k.beh ++ r.beh)
def Doc.ord (d : Doc) : List Int := (d.size : Int) :: d.beh
theorem Doc.beh_length : ∀ d : Doc, d.beh.length = 2 * d.size
  | .nil => rfl
  | .cons a k r => by
    simp only [Doc.beh, List.length_cons, List.length_append, Doc.beh_length k, Doc.beh_length r, Doc.size]
    omega
def Doc.app : Doc → Doc → Doc
  | .nil, e => e
  | .cons a k r, e => .cons a k (r.app e)
def Doc.len : Doc → Nat
  | .nil => 0
  | .cons _ _ r => r.len + 1
theorem Doc.ts_length : ∀ d : Doc, d.ts.length = d.len
  | .nil => rfl
  | .cons _ _ r => by simp [Doc.ts, Doc.len, Doc.ts_length r]
theorem Doc.len_size : ∀ d : Doc, d.len ≤ d.size
  | .nil => Nat.le_refl _
  | .cons _ _ r => by have := Doc.len_size r; simp only [Doc.len, Doc.size]; omega
def Doc.tk : Nat → Doc → Doc
  | 0, _ => .nil
  | _ + 1, .nil => .nil
  | n + 1, .cons a k r => .cons a k (r.tk n)
def Doc.at : Nat → Doc → Option (Int × Doc)
  | _, .nil => none
  | 0, .cons a k _ => some (a, k)
  | n + 1, .cons _ _ r => r.at n
theorem Doc.ts_get : ∀ (i : Nat) (d : Doc) (t : PyData), d.ts[i]? = some t → ∃ a k, d.at i = some (a, k) ∧ t = .tuple [.int a, k.data]
  | _, .nil, _, h => by simp [Doc.ts] at h
  | 0, .cons a k r, t, h => ⟨a, k, rfl, by simpa [Doc.ts, Doc.data] using h.symm⟩
  | i + 1, .cons a k r, t, h => by
    obtain ⟨b, l, h1, h2⟩ := Doc.ts_get i r t (by simpa [Doc.ts] using h)
    exact ⟨b, l, h1, h2⟩
theorem Doc.at_size : ∀ (i : Nat) (d : Doc) (a : Int) (k : Doc), d.at i = some (a, k) → k.size < d.size ∧ k.dep < d.dep
  | _, .nil, _, _, h => by simp [Doc.at] at h
  | 0, .cons b l r, a, k, h => by
    simp only [Doc.at, Option.some.injEq, Prod.mk.injEq] at h
    obtain ⟨rfl, rfl⟩ := h
    simp only [Doc.size, Doc.dep]
    omega
  | i + 1, .cons b l r, a, k, h => by
    have := Doc.at_size i r a k h
    simp only [Doc.size, Doc.dep]
    omega
theorem Doc.tk_succ : ∀ (i : Nat) (d : Doc) (a : Int) (k : Doc), d.at i = some (a, k) → (d.tk (i + 1)).size = (d.tk i).size + (1 + k.size) ∧ (d.tk (i + 1)).beh = (d.tk i).beh ++ a :: k.ord
  | _, .nil, _, _, h => by simp [Doc.at] at h
  | 0, .cons b l r, a, k, h => by
    simp only [Doc.at, Option.some.injEq, Prod.mk.injEq] at h
    obtain ⟨rfl, rfl⟩ := h
    simp only [Doc.tk, Doc.size, Doc.beh, Doc.ord]
    refine ⟨by omega, by simp⟩
  | i + 1, .cons b l r, a, k, h => by
    obtain ⟨h1, h2⟩ := Doc.tk_succ i r a k h
    have e1 : (Doc.cons b l r).tk (i + 1 + 1) = .cons b l (r.tk (i + 1)) := rfl
    have e2 : (Doc.cons b l r).tk (i + 1) = .cons b l (r.tk i) := rfl
    rw [e1, e2]
    simp only [Doc.size, Doc.beh, h1, h2]
    refine ⟨by omega, by simp⟩
theorem Doc.tk_len : ∀ (d : Doc), d.tk d.len = d
  | .nil => rfl
  | .cons a k r => by
    show Doc.cons a k (r.tk r.len) = _
    rw [Doc.tk_len r]
theorem Doc.tk_size : ∀ (i : Nat) (d : Doc), (d.tk i).size ≤ d.size
  | 0, d => Nat.zero_le _
  | _ + 1, .nil => Nat.le_refl _
  | i + 1, .cons a k r => by
    have := Doc.tk_size i r
    simp only [Doc.tk, Doc.size]
    omega
theorem form_doc : ∀ (d : Doc) (n : Nat), d.lab = true → n + d.dep ≤ 31 → (d = .nil ∨ n ≤ 30) ∧ formAll d.ts n = true
  | .nil, n, _, _ => ⟨.inl rfl, rfl⟩
  | .cons a k r, n, hl, hd => by
    simp only [Doc.lab, Bool.and_eq_true, decide_eq_true_eq] at hl
    obtain ⟨⟨⟨h0, h5⟩, hk⟩, hr⟩ := hl
    simp only [Doc.dep] at hd
    obtain ⟨k1, k2⟩ := form_doc k (n + 1) hk (by omega)
    obtain ⟨_, r2⟩ := form_doc r n hr (by omega)
    refine ⟨.inr (by omega), ?_⟩
    have e : formD (.tuple k.ts) (n + 1) = true := by
      rw [formD, k2, Bool.and_true]
      rcases k1 with rfl | h
      · rfl
      · rw [decide_eq_true h, Bool.or_true]
    rw [Doc.ts, formAll, r2, Bool.and_true, formT, e, Bool.and_true]
    simp [belowD, h0, h5]
theorem sz_doc : ∀ d : Doc, szAll d.ts = d.size
  | .nil => rfl
  | .cons a k r => by
    rw [Doc.ts, szAll, szT, szD, sz_doc k, sz_doc r, Doc.size]
theorem doc_ok {d : Doc} (h : d.ok) : docD d.data = true := by
  obtain ⟨h1, h2, h3⟩ := h
  obtain ⟨f1, f2⟩ := form_doc d 1 h1 (by omega)
  unfold docD Doc.data
  rw [formD, f2, szD, sz_doc, decide_eq_true h2]
  simp
end LW
set_option maxHeartbeats 1000000
namespace LW
open PySem PySem.Spec PyProof.Rows L2
def spOrd (K : PySem.W.Frag) (n : Nat) : Sp := fun vs H Q _ => ∃ (d : Doc) (v : V), vs = [v] ∧ Dp K H v d.data ∧ d.dep < n ∧ d.size ≤ 300 ∧ ∀ H' p, Gr [] H H' → H p = none → H' p = some (.lst (d.ord.map V.int)) → Q (.ref p) H'
/-- of a document within the bounds -/
def spCheckV (K : PySem.W.Frag) (T : Addr) : Sp := fun vs H Q _ => ∃ (d : Doc) (v : V), vs = [v] ∧ Dp K H v d.data ∧ d.ok ∧ GxR.TabG H T ∧ ∀ H', Gr [] H H' → Q .non H'
def spSizeV (K : PySem.W.Frag) (T : Addr) : Sp := fun vs H Q _ => ∃ (d : Doc) (v : V), vs = [v] ∧ Dp K H v d.data ∧ d.ok ∧ GxR.TabG H T ∧ ∀ H', Gr [] H H' → Q (.int d.size) H'
def cmpL (xs ys : List Int) : Int := if xs = ys then 0 else if HT.lexLt xs ys = true then -1 else 1
def spBeforeV (K : PySem.W.Frag) (T : Addr) : Sp := fun vs H Q _ => ∃ (d e : Doc) (v u : V), vs = [v, u] ∧ Dp K H v d.data ∧ Dp K H u e.data ∧ d.ok ∧ e.ok ∧ GxR.TabG H T ∧ ∀ H', Gr [] H H' → Q (.int (cmpL d.ord e.ord)) H'
section
variable {P : Program} {w : World} {K : PySem.W.Frag} {mg : Str → Option Value} {base : Heap} {f : Addr} {fd : FuncData}
theorem sc_check_document : FnScope ["d"] ["d"] (defScope s_check_document) := ⟨rfl, rfl, rfl, by decide +kernel, rfl, by decide +kernel, by decide +kernel⟩
theorem sc_size : FnScope ["d"] ["d"] (defScope s_size) := ⟨rfl, rfl, rfl, by decide +kernel, rfl, by decide +kernel, by decide +kernel⟩
theorem sc_order_of : FnScope ["d", "many", "behind", "label", "kids", "inside"] ["d"] (defScope s_order_of) := ⟨rfl, rfl, rfl, by decide +kernel, rfl, by decide +kernel, by decide +kernel⟩
theorem sc_before : FnScope ["d", "e", "first", "second"] ["d", "e"] (defScope s_before) := ⟨rfl, rfl, rfl, by decide +kernel, rfl, by decide +kernel, by decide +kernel⟩
theorem ok_checkV {T : Addr} (F : Fun K "check_document" "check_document" s_check_document f fd) (f1 : Fn P w K mg base CX0 6 "is_document" ["d"] (spIsDoc K T)) : FnOk P w K mg base CX0 7 f fd ["d"] (spCheckV K T) := by
  refine F.ok sc_check_document (fun vs H Q E h => ?_) (fun cdv A outer s H vs Q E hr h => ?_)
  · obtain ⟨d, v, rfl, _⟩ := h; rfl
  obtain ⟨d, v, rfl, hd, ho, hT, q⟩ := h
  refine ⟨_, pss_one (ps_if (pt_not (pt_val (pe_fn f1 hr rfl pass0 (pa_cons (pv 0) pa_nil)))) (pss_one ps_never) pss_nil), ?_⟩
  refine ⟨_, rfl, d.data, v, rfl, hd, hT, fun H' g => ⟨_, rfl, ?_⟩⟩
  rw [doc_ok ho]
  exact iteF (q H' g)
theorem small_sz {n : Nat} (h : n ≤ 100000) : n ≤ sizeLine := Nat.le_trans h (by decide)
theorem ord_none {f : Addr} {fd : FuncData} : FnOk P w K mg base CX0 0 f fd ["d"] (spOrd K 0) := by
  have no : ∀ vs H Q E, ¬ spOrd K 0 vs H Q E := fun vs H Q E h => by
    obtain ⟨d, v, _, _, h, _⟩ := h
    exact absurd h (Nat.not_lt_zero _)
  exact ⟨fun vs H Q E h => absurd h (no vs H Q E), fun A outer s H args us vs Q E _ _ _ _ h => absurd h (no vs H Q E)⟩
theorem ok_order {n : Nat} (F : Fun K "order_of" "order_of" s_order_of f fd) (G : Fn P w K mg base CX0 n "order_of" ["d"] (spOrd K n)) : FnOk P w K mg base CX0 (n + 1) f fd ["d"] (spOrd K (n + 1)) := by
  refine F.ok sc_order_of (fun vs H Q E h => ?_) (fun cdv A outer s H vs Q E hr h => ?_)
  · obtain ⟨d, v, rfl, _⟩ := h; rfl
  obtain ⟨d, v, rfl, hd, hn, hz, q⟩ := h
  have nd := sc_order_of.nd
  refine ⟨_, pss_cons (ps_set (i := 1) nd rfl (.inl rfl) pe_int)
    (pss_cons (ps_set (i := 2) nd rfl (.inl rfl) (pe_lst pa_nil))
    (pss_cons (ps_for PassesOwn.never rfl (pi_tup (pv 0)) (pg_tup rfl (pgs_cons (pg_name (i := 3) nd rfl (.inl rfl)) (pgs_cons (pg_name (i := 4) nd rfl (.inl rfl)) pgs_nil)))
      (pss_cons (ps_set (i := 5) nd rfl (.inl rfl) (pe_fn G hr rfl pass0 (pa_cons (pv 4) pa_nil)))
      (pss_cons (ps_aug (i := 1) nd rfl (.inl rfl) (pe_op op_add pe_int (pe_ix ix_list (pv 5) pe_int (fun _ _ => rfl))) ip_add)
      (pss_cons (ps_expr (pe_bm PySem.F.plainAttrs_list PySem.F.slot_list_append PySem.F.type_list_append mt_append (pv 2) (pa_cons (pv 3) pa_nil)))
      (pss_one (ps_expr (pe_bm PySem.F.plainAttrs_list PySem.F.slot_list_extend PySem.F.type_list_extend mt_extend (pv 2) (pa_cons (pv 5) pa_nil))))))))
    (pss_one (ps_ret (pe_op op_cat (pe_lst (pa_cons (pv 1) pa_nil)) (pv 2)))))), ?_⟩
  refine ⟨Nat.zero_le _, fun bl nb => ?_⟩
  obtain ⟨a, vs, rfl, hs, ha⟩ := hd.tupI
  have hvl : vs.length = d.len := by rw [ha.length, Doc.ts_length]
  have hls := Doc.len_size d
  refine ⟨_, rfl, a, rfl, ⟨vs, Gr.sqT (Gr.new nb) hs⟩, for_tup (xs := vs) (fun i σ H' => ∃ y3 y4 y5, σ = [some (.ref a), some (.int (d.tk i).size), some (.ref bl), y3, y4, y5] ∧ Gr [] H H' ∧ H' bl = some (.lst ((d.tk i).beh.map V.int)))
    ⟨none, none, none, rfl, Gr.new nb, upd_same⟩ (fun i σ H' _ hP => ?_) (fun i x σ H' hx hP => ?_) (fun σ H' hP => ?_)⟩
  · obtain ⟨_, _, _, _, g, _⟩ := hP
    exact g.sqT hs
  · obtain ⟨y3, y4, y5, rfl, g, hb⟩ := hP
    obtain ⟨dt, hdt, hxd⟩ := ha.get hx
    obtain ⟨lb, k, hat, rfl⟩ := Doc.ts_get i d dt hdt
    obtain ⟨tp, xs', rfl, hst, hall⟩ := hxd.tupI
    obtain ⟨v1, v2, rfl, h1, h2⟩ := dpAll_two hall
    have := h1.intI
    subst this
    obtain ⟨hk1, hk2⟩ := Doc.at_size i d lb k hat
    obtain ⟨hs1, hb1⟩ := Doc.tk_succ i d lb k hat
    refine ⟨tp, _, rfl, g.sqT hst, rfl, _, [v2], rfl, v2, [], rfl, rfl, ?_⟩
    -- inside = order_of(kids)
    refine ⟨_, rfl, k, v2, rfl, h2.gr g, by omega, by omega, fun H1 p g1 hp0 hp => ?_⟩
    -- many += 1 + inside[0]
    have hb1' : H1 bl = some (.lst ((d.tk i).beh.map V.int)) := g1.lst (by simp) hb
    refine ⟨_, rfl, _, rfl, p, _, 0, _, rfl, rfl, SqL.of hp, atI_nat (j := 0) rfl, _, _, rfl, rfl, _, _, rfl, rfl, ?_⟩
    -- behind.append(label)
    have hlen : ((d.tk i).beh.map V.int).length ≤ 600 := by
      have := Doc.tk_size i d
      rw [List.length_map, Doc.beh_length]; omega
    refine ⟨_, rfl, .inl ⟨rfl, _, SqL.of hb1'⟩, _, rfl, bl, _, _, rfl, rfl, hb1', small1000 (by omega), ?_⟩
    -- behind.extend(inside)
    have npb : p ≠ bl := fun z => by rw [z, hb] at hp0; cases hp0
    have hp' : (upd H1 bl (.lst ((d.tk i).beh.map V.int ++ [.int lb]))) p = some (.lst (k.ord.map V.int)) := by rw [upd_ne npb]; exact hp
    have hkl : (k.ord.map V.int).length ≤ 601 := by rw [List.length_map]; show (k.beh.length + 1) ≤ 601; rw [Doc.beh_length]; omega
    refine ⟨_, rfl, .inl ⟨rfl, _, SqL.of upd_same⟩, _, rfl, bl, p, _, _, rfl, rfl, upd_same, hp', small_sz (by rw [List.length_append]; show _ + 1 + _ ≤ 100000; omega), ?_⟩
    refine ⟨some (.int lb), some v2, some (.ref p), ?_, ((g.trans g1).put0 nb).put0 nb, ?_⟩
    · rw [hs1]
      show [some (V.ref a), some (V.int (((d.tk i).size : Int) + (1 + (k.size : Int)))), some (.ref bl), some (.int lb), some v2, some (.ref p)] = _
      have e : ((d.tk i).size : Int) + (1 + (k.size : Int)) = (((d.tk i).size + (1 + k.size) : Nat) : Int) := by omega
      rw [e]
    · rw [upd_same, hb1, List.map_append, List.append_assoc]
      rfl
  · obtain ⟨y3, y4, y5, rfl, g, hb⟩ := hP
    rw [hvl, Doc.tk_len] at hb ⊢
    refine ⟨_, rfl, (by decide : (1 : Nat) ≤ sizeLine), fun l1 n1 => ⟨_, rfl, l1, bl, _, d.beh.map V.int, rfl, rfl, upd_same, ?_, ?_, fun p np => ?_⟩⟩
    · rw [upd_ne (ne_of_none hb n1)]; exact hb
    · exact Nat.le_of_lt (small1000 (by rw [List.length_map, Doc.beh_length]; show 1 + _ ≤ 1000; omega))
    · exact q _ p ((g.trans (Gr.new n1)).trans (Gr.new np)) ((g.trans (Gr.new n1)).free _ np) upd_same
theorem ord_any (F : Fun K "order_of" "order_of" s_order_of f fd) (m : mg "order_of" = some (.ref f)) (b : Binds K fd ["d"] []) : ∀ n : Nat, Fn P w K mg base CX0 n "order_of" ["d"] (spOrd K n)
  | 0 => ⟨f, fd, ord_none, m, F.kp, b⟩
  | n + 1 => ⟨f, fd, ok_order F (ord_any F m b n), m, F.kp, b⟩
theorem ok_sizeV {T : Addr} (F : Fun K "size" "size" s_size f fd) (f1 : Fn P w K mg base CX0 40 "check_document" ["d"] (spCheckV K T)) (f2 : Fn P w K mg base CX0 40 "order_of" ["d"] (spOrd K 40)) : FnOk P w K mg base CX0 41 f fd ["d"] (spSizeV K T) := by
  refine F.ok sc_size (fun vs H Q E h => ?_) (fun cdv A outer s H vs Q E hr h => ?_)
  · obtain ⟨d, v, rfl, _⟩ := h; rfl
  obtain ⟨d, v, rfl, hd, ho, hT, q⟩ := h
  refine ⟨_, pss_cons (ps_expr (pe_fn f1 hr rfl pass0 (pa_cons (pv 0) pa_nil))) (pss_one (ps_ret (pe_ix ix_list (pe_fn f2 hr rfl pass0 (pa_cons (pv 0) pa_nil)) pe_int (fun _ _ => rfl)))), ?_⟩
  obtain ⟨h1, h2, h3⟩ := ho
  refine ⟨_, rfl, d, v, rfl, hd, ⟨h1, h2, h3⟩, hT, fun H1 g1 => ?_⟩
  refine ⟨_, rfl, d, v, rfl, hd.gr g1, by omega, h2, fun H2 p g2 _ hp => ?_⟩
  exact ⟨p, _, 0, _, rfl, rfl, SqL.of hp, atI_nat (j := 0) rfl, q H2 (g1.trans g2)⟩
theorem ok_beforeV {T : Addr} (F : Fun K "before" "before" s_before f fd) (f1 : Fn P w K mg base CX0 40 "check_document" ["d"] (spCheckV K T)) (f2 : Fn P w K mg base CX0 40 "order_of" ["d"] (spOrd K 40)) : FnOk P w K mg base CX0 41 f fd ["d", "e"] (spBeforeV K T) := by
  refine F.ok sc_before (fun vs H Q E h => ?_) (fun cdv A outer s H vs Q E hr h => ?_)
  · obtain ⟨d, e, v, u, rfl, _⟩ := h; rfl
  obtain ⟨d, e, v, u, rfl, hd, he, ho, ho', hT, q⟩ := h
  have nd := sc_before.nd
  refine ⟨_, pss_cons (ps_expr (pe_fn f1 hr rfl pass0 (pa_cons (pv 0) pa_nil))) (pss_cons (ps_expr (pe_fn f1 hr rfl pass0 (pa_cons (pv 1) pa_nil)))
    (pss_cons (ps_set (i := 2) nd rfl (.inl rfl) (pe_fn f2 hr rfl pass0 (pa_cons (pv 0) pa_nil)))
    (pss_cons (ps_set (i := 3) nd rfl (.inl rfl) (pe_fn f2 hr rfl pass0 (pa_cons (pv 1) pa_nil)))
    (pss_cons (ps_if (pt_cmpR (op_eqD hr.units) (pv 2) (pv 3) (nomark _)) (pss_one (ps_ret pe_int)) pss_nil)
    (pss_one (ps_ret (pe_ifExp (pt_cmpR (op_ltD hr.units) (pv 2) (pv 3) (nomark _)) (pe_un un_neg pe_int) pe_int))))))), ?_⟩
  have h1 := ho.2.1
  have h2 := ho.2.2
  have h3 := ho'.2.1
  have h4 := ho'.2.2
  refine ⟨_, rfl, d, v, rfl, hd, ho, hT, fun H1 g1 => ?_⟩
  refine ⟨_, rfl, e, u, rfl, he.gr g1, ho', g1.tab _ hT, fun H2 g2 => ?_⟩
  refine ⟨_, rfl, d, v, rfl, hd.gr (g1.trans g2), by omega, h1, fun H3 p g3 _ hp => ?_⟩
  refine ⟨_, rfl, e, u, rfl, he.gr (g1.trans (g2.trans g3)), by omega, h3, fun H4 p' g4 _ hp' => ?_⟩
  have hl1 := dp_ints (K := K) (SqL.of (g4.lst (by simp) hp))
  have hl2 := dp_ints (K := K) (SqL.of hp')
  refine ⟨_, rfl, _, rfl, _, _, hl1, hl2, shaped_ints _, shaped_ints _, _, rfl, ?_⟩
  have gg : Gr [] H H4 := g1.trans (g2.trans (g3.trans g4))
  have q4 := q H4 gg
  rw [eqv_intsD]
  unfold cmpL at q4
  by_cases he : d.ord = e.ord
  · rw [decide_eq_true he]
    rw [if_pos he] at q4
    exact iteT q4
  · rw [decide_eq_false he]
    rw [if_neg he] at q4
    refine iteF ⟨_, rfl, _, rfl, _, _, hl1, hl2, ?_, (by intro z; cases z), ?_, _, rfl, ?_⟩
    · show PySem.W.alike (.list _) (.list _) = true
      rw [PySem.W.alike]; exact alike_ints _ _
    · show PyData.depth (.list _) ≤ 64
      rw [PyData.depth, depth_ints]; decide
    · rw [dataLt_ints]
      by_cases hlt : HT.lexLt d.ord e.ord = true
      · rw [hlt] at q4 ⊢
        exact iteT ⟨_, rfl, q4⟩
      · have hlt' : HT.lexLt d.ord e.ord = false := by simpa using hlt
        rw [hlt'] at q4 ⊢
        exact iteF q4
end
end LW
set_option maxHeartbeats 2000000
namespace LW
open PySem PySem.Spec PyProof.Rows L2
/-! ### the law's box of cells -/
def bxL (b0 b1 b2 : Int) (cl : Addr) : HO := .lst [.int b0, .int b1, .int b2, .ref cl]
def BoxAt (H : Hp) (bx cl : Addr) : Prop := ∃ (ns : List Int) (b0 b1 b2 : Int), H bx = some (bxL b0 b1 b2 cl) ∧ H cl = some (.lst (ns.map V.int)) ∧ cl ≠ bx ∧ 0 ≤ b2
theorem BoxAt.lst {H : Hp} {bx cl : Addr} (h : BoxAt H bx cl) : ∀ b ∈ [bx], ∃ ys, H b = some (.lst ys) := fun b hb => by
  obtain ⟨ns, b0, b1, b2, h, _⟩ := h
  rw [List.mem_singleton.mp hb]
  exact ⟨_, h⟩
theorem BoxAt.gr {H H' : Hp} {bx cl : Addr} (h : BoxAt H bx cl) (g : Gr [] H H') : BoxAt H' bx cl := by
  obtain ⟨ns, b0, b1, b2, h1, h2, h3, h4⟩ := h
  exact ⟨ns, b0, b1, b2, g.lst (by simp) h1, g.lst (by simp) h2, h3, h4⟩
theorem BoxAt.ne {H : Hp} {bx cl p : Addr} (h : BoxAt H bx cl) (n : H p = none) : p ≠ bx ∧ p ≠ cl := by
  obtain ⟨ns, b0, b1, b2, h1, h2, _⟩ := h
  exact ⟨fun z => (by rw [z, h1] at n; cases n), fun z => (by rw [z, h2] at n; cases n)⟩
/-- another object is written -/
theorem BoxAt.put {H : Hp} {bx cl p : Addr} {o : HO} (h : BoxAt H bx cl) (h1 : p ≠ bx) (h2 : p ≠ cl) : BoxAt (upd H p o) bx cl := by
  obtain ⟨ns, b0, b1, b2, e1, e2, e3, e4⟩ := h
  exact ⟨ns, b0, b1, b2, by rw [upd_ne (Ne.symm h1)]; exact e1, by rw [upd_ne (Ne.symm h2)]; exact e2, e3, e4⟩
mutual
theorem pure_doc : ∀ d : Doc, pureAll d.ts = true
  | .nil => rfl
  | .cons a k r => by
    simp only [Doc.ts, pureAll, pure1, pure_doc k, pure_doc r, Bool.and_true]
end
theorem pure_data (d : Doc) : pure1 d.data = true := by unfold Doc.data; rw [pure1]; exact pure_doc d
theorem doc_grb {K : PySem.W.Frag} {H H' : Hp} {m : List Addr} {v : V} {d : Doc} (g : Gr m H H') (hm : ∀ b ∈ m, ∃ ys, H b = some (.lst ys)) (h : Dp K H v d.data) : Dp K H' v d.data := dp_grm g hm d.data v (pure_data d) h
theorem lt_pos {n : Int} (h : 0 < n) : 0 < n := h
def spTake : Sp := fun vs H Q _ => ∃ (bx cl : Addr) (m : Int), vs = [.ref bx, .int m] ∧ 0 < m ∧ m < 1073741824 ∧ BoxAt H bx cl ∧ ∀ t H', 0 ≤ t → t < m → Gr [bx] H H' → BoxAt H' bx cl → Q (.int t) H'
def spPick : Sp := fun vs H Q _ => ∃ (bx cl ml : Addr) (ls : List Int), vs = [.ref bx, .ref ml] ∧ H ml = some (.lst (ls.map V.int)) ∧ ml ≠ bx ∧ 0 < ls.length ∧ ls.length < 1073741824 ∧ BoxAt H bx cl ∧ ∀ t H', t ∈ ls → Gr [bx] H H' → BoxAt H' bx cl → Q (.int t) H'
def spSizeL (K : PySem.W.Frag) (n : Nat) : Sp := fun vs H Q _ => ∃ (d : Doc) (v : V), vs = [v] ∧ Dp K H v d.data ∧ d.dep < n ∧ d.size ≤ 300 ∧ ∀ H', Gr [] H H' → Q (.int d.size) H'
section
variable {P : Program} {w : World} {K : PySem.W.Frag} {mg : Str → Option Value} {base : Heap} {f : Addr} {fd : FuncData}
theorem sc_law_take : FnScope ["box", "m", "at", "cell", "told"] ["box", "m"] (defScope s__law_take) := ⟨rfl, rfl, rfl, by decide +kernel, rfl, by decide +kernel, by decide +kernel⟩
theorem sc_law_pick : FnScope ["box", "menu"] ["box", "menu"] (defScope s__law_pick) := ⟨rfl, rfl, rfl, by decide +kernel, rfl, by decide +kernel, by decide +kernel⟩
theorem sc_law_size : FnScope ["d", "tree"] ["d"] (defScope s__law_size) := ⟨rfl, rfl, rfl, by decide +kernel, rfl, by decide +kernel, by decide +kernel⟩
theorem ok_take (F : Fun K "_law_take" "_law_take" s__law_take f fd) (ml : mg "len" = none) (mi : mg "int" = none) : FnOk P w K mg base CX0 1 f fd ["box", "m"] spTake := by
  refine F.ok sc_law_take (fun vs H Q E h => ?_) (fun cdv A outer s H vs Q E hr h => ?_)
  · obtain ⟨bx, cl, m, rfl, _⟩ := h; rfl
  obtain ⟨bx, cl, m, rfl, hm, hm2, hB, q⟩ := h
  have nd := sc_law_take.nd
  refine ⟨_, Evl.pss_cut (ps_if (pt_cmpR op_eq (pe_ix ix_list (pv 0) pe_int (fun _ _ => rfl)) pe_int (nomark _))
      (pss_cons (ps_set (i := 2) nd rfl (.inl rfl) (pe_ix ix_list (pv 0) pe_int (fun _ _ => rfl)))
      (pss_cons (ps_set (i := 3) nd rfl (.inl rfl) pe_int)
      (Evl.pss_cut (ps_if (pt_cmpR op_lt (pv 2) (pe_callB call_len_seq (by rfl) ml PySem.boot_len (pa_cons (pe_ix ix_list (pv 0) pe_int (fun _ _ => rfl)) pa_nil)) (nomark _))
        (pss_cons (ps_set (i := 3) nd rfl (.inl rfl) (pe_ix ix_list (pe_ix ix_list (pv 0) pe_int (fun _ _ => rfl)) (pv 2) (fun _ _ => rfl)))
        (pss_one (ps_asg (pe_ifExp (pt_cmpR op_ge (pv 3) (pe_op op_pow pe_int pe_int) (nomark _)) pe_int (pe_un un_neg pe_int)) (pg_sub (pv 0) pe_int set_list)))) pss_nil)
      (pss_cons (ps_asg (pe_op op_add (pv 2) pe_int) (pg_sub (pv 0) pe_int set_list))
      (pss_cons (ps_asg (pv 3) (pg_sub (pv 0) pe_int set_list))
      (pss_one (ps_if (pt_cmpR op_eq (pe_ix ix_list (pv 0) pe_int (fun _ _ => rfl)) pe_int (nomark _)) (pss_one (ps_ret pe_int)) pss_nil))))))) pss_nil)
    (pss_cons (ps_if (pt_cmpR op_gt (pe_ix ix_list (pv 0) pe_int (fun _ _ => rfl)) pe_int (nomark _))
      (pss_cons (ps_set (i := 4) nd rfl (.inl rfl) (pe_op op_mod (pe_callTy call_int1 (by rfl) mi b_int (pa_cons (pe_ix ix_list (pv 0) pe_int (fun _ _ => rfl)) pa_nil)) (pv 1)))
      (pss_cons (ps_asg (pe_op op_fdiv (pe_ix ix_list (pv 0) pe_int (fun _ _ => rfl)) (pv 1)) (pg_sub (pv 0) pe_int set_list))
      (pss_cons (ps_asg (pe_ifExp (pt_cmpR op_gt (pe_ix ix_list (pv 0) pe_int (fun _ _ => rfl)) pe_int (nomark _)) (pe_op op_sub (pe_ix ix_list (pv 0) pe_int (fun _ _ => rfl)) pe_int) pe_int) (pg_sub (pv 0) pe_int set_list))
      (pss_one (ps_ret (pv 4)))))) pss_nil)
    (pss_cons (ps_asg (pe_op op_add (pe_ix ix_list (pv 0) pe_int (fun _ _ => rfl)) pe_int) (pg_sub (pv 0) pe_int set_list))
    (pss_cons (ps_asg (pe_op op_mod (pe_callTy call_int1 (by rfl) mi b_int (pa_cons (pe_op op_add (pe_op op_mul (pe_ix ix_list (pv 0) pe_int (fun _ _ => rfl)) pe_int) (pe_op op_mul pe_int (pe_op op_add (pe_ix ix_list (pv 0) pe_int (fun _ _ => rfl)) pe_int))) pa_nil)) pe_int) (pg_sub (pv 0) pe_int set_list))
    (pss_one (ps_ret (pe_op op_mod (pe_op op_mod (pe_callTy call_int1 (by rfl) mi b_int (pa_cons (pe_op op_add (pe_op op_fdiv (pe_ix ix_list (pv 0) pe_int (fun _ _ => rfl)) pe_int) (pe_ix ix_list (pv 0) pe_int (fun _ _ => rfl))) pa_nil)) pe_int) (pv 1))))))), ?_⟩
  obtain ⟨ns, b0, b1, b2, hb, hc, hne, h2⟩ := hB
  have hbx : ∀ {b0 b1 b2 : Int}, (upd H bx (bxL b0 b1 b2 cl)) bx = some (.lst [.int b0, .int b1, .int b2, .ref cl]) := upd_same
  have hcl : ∀ {b0 b1 b2 : Int}, (upd H bx (bxL b0 b1 b2 cl)) cl = some (.lst (ns.map V.int)) := by intro _ _ _; rw [upd_ne hne]; exact hc
  have fin : ∀ {b0 b1 b2 t : Int}, 0 ≤ b2 → 0 ≤ t → t < m → Q (.int t) (upd H bx (bxL b0 b1 b2 cl)) := fun {b0 b1 b2 t} h2 h3 h4 => q t _ h3 h4 (Gr.put hb (fun _ z => by cases z) (by simp)) ⟨ns, b0, b1, b2, upd_same, hcl, hne, h2⟩
  have start : H = upd H bx (bxL b0 b1 b2 cl) := by
    funext b
    unfold upd
    split
    · rename_i e; rw [e]; exact hb
    · rfl
  rw [start]
  refine ⟨fun σ' H' => ∃ y2 y3 y4 b0 b1 b2, σ' = [some (.ref bx), some (.int m), y2, y3, y4] ∧ H' = upd H bx (bxL b0 b1 b2 cl) ∧ 0 ≤ b2, ?_, ?_⟩
  · refine ⟨_, rfl, bx, _, 1, _, rfl, rfl, SqL.of hbx, atI_nat (j := 1) rfl, rfl, _, rfl, ?_⟩
    refine ite2 (fun c => ?_) (fun c => ⟨none, none, none, b0, b1, b2, rfl, rfl, h2⟩)
    refine ⟨_, rfl, bx, _, 2, _, rfl, rfl, SqL.of hbx, atI_nat (j := 2) rfl, ?_⟩
    refine ⟨fun σ' H' => ∃ c3 b1, σ' = [some (.ref bx), some (.int m), some (.int b2), some (.int c3), none] ∧ H' = upd H bx (bxL b0 b1 b2 cl), ?_, ?_⟩
    · refine ⟨_, rfl, _, rfl, bx, _, 3, _, rfl, rfl, SqL.of hbx, atI_nat (j := 3) rfl, cl, _, rfl, .inl (SqL.of hcl), _, _, rfl, rfl, _, rfl, ?_⟩
      refine ite2 (fun c => ?_) (fun c => ⟨0, b1, rfl, rfl⟩)
      have hlt : b2.toNat < ns.length := by
        have := of_decide_eq_true c
        rw [List.length_map] at this
        omega
      have e2 : b2 = ((b2.toNat : Nat) : Int) := by omega
      refine ⟨_, rfl, bx, _, 3, _, rfl, rfl, SqL.of hbx, atI_nat (j := 3) rfl, _, rfl, cl, _, b2, .int ns[b2.toNat], rfl, rfl, SqL.of hcl, ?_, ?_⟩
      · have := atI_nat (xs := ns.map V.int) (j := b2.toNat) (v := .int ns[b2.toNat]) (by simp [hlt])
        rw [← e2] at this
        exact this
      refine ⟨_, rfl, _, _, rfl, rfl, ⟨by decide, by decide, by decide⟩, _, _, rfl, rfl, _, rfl, ?_⟩
      refine ite2 (fun c => ?_) (fun c => ?_)
      · refine ⟨_, rfl, bx, _, 1, 1, rfl, rfl, hbx, rfl, ns[b2.toNat], 60, rfl, ?_⟩
        rw [upd_upd]; rfl
      · refine ⟨_, rfl, _, rfl, bx, _, 1, 1, rfl, rfl, hbx, rfl, ns[b2.toNat], -9, rfl, ?_⟩
        rw [upd_upd]; rfl
    · rintro σ' H' ⟨c3, b1, rfl, rfl⟩
      refine ⟨_, rfl, _, _, rfl, rfl, _, rfl, bx, _, 2, 2, rfl, rfl, hbx, rfl, ?_⟩
      rw [upd_upd]
      refine ⟨_, rfl, _, rfl, bx, _, 0, 0, rfl, rfl, upd_same, rfl, ?_⟩
      rw [upd_upd]
      refine ⟨_, rfl, bx, _, 1, _, rfl, rfl, SqL.of upd_same, atI_nat (j := 1) rfl, rfl, _, rfl, ?_⟩
      refine ite2 (fun c => ?_) (fun c => ⟨_, _, _, c3, b1, b2 + 1, rfl, rfl, by omega⟩)
      exact fin (by omega) (Int.le_refl 0) hm
  · rintro σ' H' ⟨y2, y3, y4, b0, b1, b2, rfl, rfl, h2⟩
    refine ⟨_, rfl, bx, _, 1, _, rfl, rfl, SqL.of hbx, atI_nat (j := 1) rfl, _, _, rfl, rfl, _, rfl, ?_⟩
    refine ite2 (fun c => ?_) (fun c => ?_)
    · refine ⟨_, rfl, bx, _, 0, _, rfl, rfl, SqL.of hbx, atI_nat (j := 0) rfl, .inl ⟨_, rfl, ?_⟩⟩
      refine ⟨_, rfl, _, _, rfl, rfl, hm, ?_⟩
      refine ⟨_, rfl, bx, _, 0, _, rfl, rfl, SqL.of hbx, atI_nat (j := 0) rfl, _, rfl, _, _, rfl, rfl, ⟨hm, hm2⟩, _, rfl, bx, _, 0, 0, rfl, rfl, hbx, rfl, ?_⟩
      rw [upd_upd]
      refine ⟨_, rfl, bx, _, 0, _, rfl, rfl, SqL.of upd_same, atI_nat (j := 0) rfl, _, _, rfl, rfl, _, rfl, ?_⟩
      have hmod : 0 ≤ b0 % m ∧ b0 % m < m := ⟨Int.emod_nonneg _ (by omega), Int.emod_lt_of_pos _ hm⟩
      refine ite2 (fun c => ?_) (fun c => ?_)
      · refine ⟨_, rfl, bx, _, 1, _, rfl, rfl, SqL.of upd_same, atI_nat (j := 1) rfl, _, _, rfl, rfl, ?_⟩
        refine ⟨_, rfl, bx, _, 1, 1, rfl, rfl, upd_same, rfl, ?_⟩
        rw [upd_upd]
        exact ⟨_, rfl, fin h2 hmod.1 hmod.2⟩
      · refine ⟨_, rfl, bx, _, 1, 1, rfl, rfl, upd_same, rfl, ?_⟩
        rw [upd_upd]
        exact ⟨_, rfl, fin h2 hmod.1 hmod.2⟩
    · refine ⟨_, rfl, bx, _, 1, _, rfl, rfl, SqL.of hbx, atI_nat (j := 1) rfl, _, _, rfl, rfl, _, rfl, bx, _, 1, 1, rfl, rfl, hbx, rfl, ?_⟩
      rw [upd_upd]
      refine ⟨_, rfl, bx, _, 0, _, rfl, rfl, SqL.of upd_same, atI_nat (j := 0) rfl, _, _, rfl, rfl, .inr ⟨by decide, by decide⟩, ?_⟩
      refine ⟨_, rfl, bx, _, 1, _, rfl, rfl, SqL.of upd_same, atI_nat (j := 1) rfl, _, _, rfl, rfl, _, _, rfl, rfl, .inl ⟨by decide, by decide⟩, _, _, rfl, rfl, .inl ⟨_, rfl, ?_⟩⟩
      refine ⟨_, _, rfl, rfl, lt_pos (by decide), _, rfl, bx, _, 0, 0, rfl, rfl, upd_same, rfl, ?_⟩
      rw [upd_upd]
      refine ⟨_, rfl, bx, _, 0, _, rfl, rfl, SqL.of upd_same, atI_nat (j := 0) rfl, _, _, rfl, rfl, ⟨by decide, by decide⟩, ?_⟩
      refine ⟨_, rfl, bx, _, 0, _, rfl, rfl, SqL.of upd_same, atI_nat (j := 0) rfl, _, _, rfl, rfl, .inl ⟨_, rfl, ?_⟩⟩
      refine ⟨_, _, rfl, rfl, lt_pos (by decide), _, rfl, _, _, rfl, rfl, hm, ?_⟩
      exact fin h2 (Int.emod_nonneg _ (by omega)) (Int.emod_lt_of_pos _ hm)
end
end LW
set_option maxHeartbeats 2000000
namespace LW
open PySem PySem.Spec PyProof.Rows L2
def Doc.szs : Nat → Doc → List Int
  | 0, _ => []
  | _ + 1, .nil => []
  | n + 1, .cons _ k r => (1 + (k.size : Int)) :: r.szs n
theorem Doc.szs_succ : ∀ (i : Nat) (d : Doc) (a : Int) (k : Doc), d.at i = some (a, k) → d.szs (i + 1) = d.szs i ++ [1 + (k.size : Int)]
  | _, .nil, _, _, h => by simp [Doc.at] at h
  | 0, .cons b l r, a, k, h => by
    simp only [Doc.at, Option.some.injEq, Prod.mk.injEq] at h
    obtain ⟨rfl, rfl⟩ := h
    rfl
  | i + 1, .cons b l r, a, k, h => by
    have h1 := Doc.szs_succ i r a k h
    show (1 + (l.size : Int)) :: r.szs (i + 1) = (1 + (l.size : Int)) :: r.szs i ++ _
    rw [h1]
    rfl
theorem Doc.szs_sum : ∀ d : Doc, (d.szs d.len).sum = d.size
  | .nil => rfl
  | .cons a k r => by
    show ((1 + (k.size : Int)) :: r.szs r.len).sum = _
    rw [List.sum_cons, Doc.szs_sum r]
    simp only [Doc.size]
    omega
theorem Doc.szs_len : ∀ (i : Nat) (d : Doc), i ≤ d.len → (d.szs i).length = i
  | 0, _, _ => rfl
  | _ + 1, .nil, h => by simp [Doc.len] at h
  | i + 1, .cons a k r, h => by
    show (r.szs i).length + 1 = i + 1
    rw [Doc.szs_len i r (by simp [Doc.len] at h; omega)]
section
variable {P : Program} {w : World} {K : PySem.W.Frag} {mg : Str → Option Value} {base : Heap} {f : Addr} {fd : FuncData}
theorem ok_pick (F : Fun K "_law_pick" "_law_pick" s__law_pick f fd) (f1 : Fn P w K mg base CX0 1 "_law_take" ["box", "m"] spTake) (ml : mg "len" = none) : FnOk P w K mg base CX0 2 f fd ["box", "menu"] spPick := by
  refine F.ok sc_law_pick (fun vs H Q E h => ?_) (fun cdv A outer s H vs Q E hr h => ?_)
  · obtain ⟨bx, cl, m, ls, rfl, _⟩ := h; rfl
  obtain ⟨bx, cl, m, ls, rfl, hm, hne, h0, hl, hB, q⟩ := h
  refine ⟨_, pss_one (ps_ret (pe_ix ix_list (pv 1) (pe_fn f1 hr rfl pass0 (pa_cons (pv 0) (pa_cons (pe_callB call_len_seq (by rfl) ml PySem.boot_len (pa_cons (pv 1) pa_nil)) pa_nil))) (fun _ _ => rfl))), ?_⟩
  refine ⟨_, rfl, _, rfl, _, rfl, m, _, rfl, .inl (SqL.of hm), bx, cl, _, rfl, ?_, ?_, hB, fun t H' ht0 ht g hB' => ?_⟩
  · rw [List.length_map]; omega
  · rw [List.length_map]; omega
  · rw [List.length_map] at ht
    have hlt : t.toNat < ls.length := by omega
    have e : t = ((t.toNat : Nat) : Int) := by omega
    refine ⟨m, _, t, .int ls[t.toNat], rfl, rfl, SqL.of (g.lst (by simpa using hne) hm), ?_, q _ _ (List.getElem_mem hlt) g hB'⟩
    have := atI_nat (xs := ls.map V.int) (j := t.toNat) (v := .int ls[t.toNat]) (by simp [hlt])
    rw [← e] at this
    exact this
theorem sizeL_none {f : Addr} {fd : FuncData} : FnOk P w K mg base CX0 0 f fd ["d"] (spSizeL K 0) := by
  have no : ∀ vs H Q E, ¬ spSizeL K 0 vs H Q E := fun vs H Q E h => by
    obtain ⟨d, v, _, _, h, _⟩ := h
    exact absurd h (Nat.not_lt_zero _)
  exact ⟨fun vs H Q E h => absurd h (no vs H Q E), fun A outer s H args us vs Q E _ _ _ _ h => absurd h (no vs H Q E)⟩
theorem ok_sizeL {n : Nat} (F : Fun K "_law_size" "_law_size" s__law_size f fd) (G : Fn P w K mg base CX0 n "_law_size" ["d"] (spSizeL K n)) (ms : mg "sum" = none) : FnOk P w K mg base CX0 (n + 1) f fd ["d"] (spSizeL K (n + 1)) := by
  refine F.ok sc_law_size (fun vs H Q E h => ?_) (fun cdv A outer s H vs Q E hr h => ?_)
  · obtain ⟨d, v, rfl, _⟩ := h; rfl
  obtain ⟨d, v, rfl, hd, hn, hz, q⟩ := h
  have nd := sc_law_size.nd
  refine ⟨_, pss_one (ps_ret (pe_callB (cr_sum rfl) (by rfl) ms b_sum (pa_cons
    (pe_lc (own := [("tree", 1)]) (g := gName 1) (tt := tYes) rfl nd (pi_tup (pv 0)) (blkOk_by (N := ["d", "tree"]) (sc := defScope s__law_size) (own := [("tree", 1)]) (by decide +kernel))
          (fun s H C cl fp => pg_name (i := 1) nd rfl (.inl rfl)) (fun s H C cl fp => pts_nil)
          (fun s H C cl fp => pe_op op_add pe_int (pe_fn G hr rfl pass0 (pa_cons (pe_ix (r := rIxT K) ix_tup (pv 1) pe_int (fun _ _ => rfl)) pa_nil)))) pa_nil))), ?_⟩
  obtain ⟨a, vs, rfl, hs, ha⟩ := hd.tupI
  have hvl : vs.length = d.len := by rw [ha.length, Doc.ts_length]
  have hls := Doc.len_size d
  refine ⟨_, rfl, a, rfl, ⟨vs, hs⟩, fun D hD => lc_tup (xs := vs) (fun i H4 => Gr [] H H4 ∧ H4 D = some (.lst ((d.szs i).map V.int))) ?_ (fun i H4 _ hP => hP.1.sqT hs) (fun i x H4 hx hP => ?_) (fun H4 hP => ?_)⟩
  · exact ⟨Gr.new hD, upd_same⟩
  · obtain ⟨g, hDl⟩ := hP
    obtain ⟨dt, hdt, hxd⟩ := ha.get hx
    obtain ⟨lb, k, hat, rfl⟩ := Doc.ts_get i d dt hdt
    obtain ⟨tp, xs', rfl, hst, hall⟩ := hxd.tupI
    obtain ⟨v1, v2, rfl, h1, h2⟩ := dpAll_two hall
    obtain ⟨hk1, hk2⟩ := Doc.at_size i d lb k hat
    have hi : i < vs.length := (List.getElem?_eq_some_iff.mp hx).1
    refine ⟨rfl, _, rfl, tp, _, 1, v2, rfl, rfl, g.sqT hst, atI_nat (j := 1) rfl, k, v2, rfl, h2.gr g, by omega, by omega, fun H5 g5 => ?_⟩
    refine ⟨_, _, rfl, rfl, _, g5.lst (by simp) hDl, ?_, (g.trans g5).put0 hD, ?_⟩
    · rw [List.length_map, Doc.szs_len i d (by omega)]
      exact small1000 (by omega)
    · rw [upd_same, Doc.szs_succ i d lb k hat, List.map_append]
      rfl
  · obtain ⟨g, hDl⟩ := hP
    rw [hvl] at hDl
    refine ⟨D, _, rfl, SqL.of hDl, ?_⟩
    rw [Doc.szs_sum]
    exact q H4 g
theorem sizeL_any (F : Fun K "_law_size" "_law_size" s__law_size f fd) (m : mg "_law_size" = some (.ref f)) (b : Binds K fd ["d"] []) (ms : mg "sum" = none) : ∀ n : Nat, Fn P w K mg base CX0 n "_law_size" ["d"] (spSizeL K n)
  | 0 => ⟨f, fd, sizeL_none, m, F.kp, b⟩
  | n + 1 => ⟨f, fd, ok_sizeL F (sizeL_any F m b ms n) ms, m, F.kp, b⟩
end
/-! ### slices and sums of tuples, as data -/
section
variable {K : PySem.W.Frag} {H : Hp}
theorem cat_data {v u : V} {ds es : List PyData} {Q : VK} (hv : Dp K H v (.tuple ds)) (hu : Dp K H u (.tuple es)) (hz : ds.length + es.length ≤ sizeLine) (h : ∀ H' x, Gr [] H H' → Dp K H' x (.tuple (ds ++ es)) → Q x H') : rCatA K v u H Q := by
  obtain ⟨a, xs, rfl, hs, ha⟩ := hv.tupI
  obtain ⟨b, ys, rfl, ht, hb⟩ := hu.tupI
  have l1 := ha.length
  have l2 := hb.length
  refine ⟨a, b, xs, ys, rfl, rfl, hs, ht, by omega, fun e => ?_, fun _ e => ?_, fun _ _ p np => ?_⟩
  · subst e
    have : ds = [] := List.eq_nil_of_length_eq_zero (by rw [← l1]; rfl)
    subst this
    exact h H _ (Gr.refl H) (.tup ht hb)
  · subst e
    have : es = [] := List.eq_nil_of_length_eq_zero (by rw [← l2]; rfl)
    subst this
    exact h H _ (Gr.refl H) (.tup hs (by simpa using ha))
  · exact h _ _ (Gr.new np) (.tup (SqT.of upd_same) ((ha.gr (Gr.new np)).append (hb.gr (Gr.new np))))
theorem cut_take {xs : List V} {k : Nat} : cutV xs none (some (k : Int)) = xs.take k := by
  unfold cutV
  rw [HT.sIx_none, HT.sIx_nat, List.drop_zero, Nat.sub_zero]
  by_cases h : k ≤ xs.length
  · rw [Nat.min_eq_left h]
  · rw [Nat.min_eq_right (by omega), List.take_length, List.take_of_length_le (by omega)]
theorem cut_drop {xs : List V} {k : Nat} : cutV xs (some (k : Int)) none = xs.drop k := by
  unfold cutV
  rw [HT.sIx_none, HT.sIx_nat]
  by_cases h : k ≤ xs.length
  · rw [Nat.min_eq_left h]
    exact List.take_of_length_le (by rw [List.length_drop]; exact Nat.le_refl _)
  · rw [Nat.min_eq_right (by omega), List.drop_length, List.drop_of_length_le (by omega)]
    simp
theorem take_data {v : V} {ds : List PyData} {k : Nat} {Q : VK} (hv : Dp K H v (.tuple ds)) (h : ∀ H' x, Gr [] H H' → Dp K H' x (.tuple (ds.take k)) → Q x H') : rSlA K v none (some (k : Int)) H Q := by
  obtain ⟨a, xs, rfl, hs, ha⟩ := hv.tupI
  have l1 := ha.length
  refine ⟨a, xs, rfl, hs, fun e => ?_, fun _ p np => ?_⟩
  · obtain ⟨_, e2⟩ := e
    rw [HT.sIx_nat] at e2
    refine h H _ (Gr.refl H) (.tup hs ?_)
    rw [List.take_of_length_le (by omega)]
    exact ha
  · refine h _ _ (Gr.new np) (.tup (SqT.of upd_same) ?_)
    rw [cut_take]
    exact (ha.gr (Gr.new np)).take k
theorem drop_data {v : V} {ds : List PyData} {k : Nat} {lo : Int} {Q : VK} (hlo : lo = (k : Int)) (hv : Dp K H v (.tuple ds)) (h : ∀ H' x, Gr [] H H' → Dp K H' x (.tuple (ds.drop k)) → Q x H') : rSlA K v (some lo) none H Q := by
  subst hlo
  obtain ⟨a, xs, rfl, hs, ha⟩ := hv.tupI
  have l1 := ha.length
  refine ⟨a, xs, rfl, hs, fun e => ?_, fun _ p np => ?_⟩
  · obtain ⟨e2, _⟩ := e
    rw [HT.sIx_nat] at e2
    refine h H _ (Gr.refl H) (.tup hs ?_)
    by_cases hk : k = 0
    · subst hk; exact ha
    · have : xs.length = 0 := by omega
      have e3 : xs = [] := List.eq_nil_of_length_eq_zero this
      subst e3
      have e4 : ds = [] := List.eq_nil_of_length_eq_zero (by rw [← l1]; rfl)
      subst e4
      simpa using ha
  · refine h _ _ (Gr.new np) (.tup (SqT.of upd_same) ?_)
    rw [cut_drop]
    exact (ha.gr (Gr.new np)).drop k
end
end LW
set_option maxHeartbeats 2000000
namespace LW
open PySem PySem.Spec PyProof.Rows L2
theorem Doc.app_ts : ∀ d e : Doc, (d.app e).ts = d.ts ++ e.ts
  | .nil, _ => rfl
  | .cons a k r, e => by simp [Doc.app, Doc.ts, Doc.app_ts r e]
theorem Doc.app_size : ∀ d e : Doc, (d.app e).size = d.size + e.size
  | .nil, _ => by simp [Doc.app, Doc.size]
  | .cons a k r, e => by simp only [Doc.app, Doc.size, Doc.app_size r e]; omega
theorem Doc.app_dep : ∀ d e : Doc, (d.app e).dep = max d.dep e.dep
  | .nil, _ => by simp [Doc.app, Doc.dep]
  | .cons a k r, e => by simp only [Doc.app, Doc.dep, Doc.app_dep r e]; omega
theorem Doc.app_lab : ∀ d e : Doc, (d.app e).lab = (d.lab && e.lab)
  | .nil, _ => by simp [Doc.app, Doc.lab]
  | .cons a k r, e => by simp only [Doc.app, Doc.lab, Doc.app_lab r e, Bool.and_assoc]
def spDocL (K : PySem.W.Frag) (n : Nat) : Sp := fun vs H Q _ => ∃ (bx cl ll : Addr) (ls : List Int) (most deep : Nat), vs = [.ref bx, .ref ll, .int most, .int deep] ∧ BoxAt H bx cl ∧ H ll = some (.lst (ls.map V.int)) ∧ ll ≠ bx ∧ 0 < ls.length ∧ ls.length < 1073741824 ∧
  (∀ x ∈ ls, 0 ≤ x ∧ x < 5) ∧ most ≤ 300 ∧ 1 ≤ deep ∧ deep < n ∧ deep ≤ 30 ∧ ∀ (d : Doc) (v : V) H', d.lab = true → d.size ≤ most → d.dep ≤ deep → Gr [bx] H H' → BoxAt H' bx cl → Dp K H' v d.data → Q v H'
section
variable {P : Program} {w : World} {K : PySem.W.Frag} {mg : Str → Option Value} {base : Heap} {f : Addr} {fd : FuncData}
theorem sc_law_document : FnScope ["box", "labels", "most", "deep", "trees", "left", "k", "kids"] ["box", "labels", "most", "deep"] (defScope s__law_document) := ⟨rfl, rfl, rfl, by decide +kernel, rfl, by decide +kernel, by decide +kernel⟩
theorem docL_none {k : Nat} {f : Addr} {fd : FuncData} : FnOk P w K mg base CX0 k f fd ["box", "labels", "most", "deep"] (spDocL K 0) := by
  have no : ∀ vs H Q E, ¬ spDocL K 0 vs H Q E := fun vs H Q E h => by
    obtain ⟨_, _, _, _, _, _, _, _, _, _, _, _, _, _, _, h, _⟩ := h
    exact absurd h (Nat.not_lt_zero _)
  exact ⟨fun vs H Q E h => absurd h (no vs H Q E), fun A outer s H args us vs Q E _ _ _ _ h => absurd h (no vs H Q E)⟩
theorem ok_docL {n : Nat} (F : Fun K "_law_document" "_law_document" s__law_document f fd) (G : Fn P w K mg base CX0 (n + 41) "_law_document" ["box", "labels", "most", "deep"] (spDocL K n)) (ft : Fn P w K mg base CX0 1 "_law_take" ["box", "m"] spTake)
    (fp : Fn P w K mg base CX0 2 "_law_pick" ["box", "menu"] spPick) (fs : Fn P w K mg base CX0 40 "_law_size" ["d"] (spSizeL K 40)) (mr : mg "range" = none) (mt : mg "tuple" = none) :
    FnOk P w K mg base CX0 (n + 42) f fd ["box", "labels", "most", "deep"] (spDocL K (n + 1)) := by
  refine F.ok sc_law_document (fun vs H Q E h => ?_) (fun cdv A outer s H vs Q E hr h => ?_)
  · obtain ⟨_, _, _, _, _, _, rfl, _⟩ := h; rfl
  obtain ⟨bx, cl, ll, ls, most, deep, rfl, hB, hll, hlb, hl0, hl1, hls, hm, hd1, hdn, hd30, q⟩ := h
  have nd := sc_law_document.nd
  refine ⟨_, pss_cons (ps_set (i := 4) nd rfl (.inl rfl) (pe_lst pa_nil))
    (pss_cons (ps_set (i := 5) nd rfl (.inl rfl) (pv 2))
    (Evl.pss_cut (ps_for PassesOwn.never rfl (pi_range1 rfl mr (pa_cons (pv 2) pa_nil)) (pg_name (i := 6) nd rfl (.inl rfl))
      (pss_cons (ps_if (PW.pt (pw_or (pt_cmpR op_le (pv 5) pe_int (nomark _)) (pw_or1 (pt_cmpR op_eq (pe_fn ft (hr.mono (by omega)) rfl pass0 (pa_cons (pv 0) (pa_cons pe_int pa_nil))) pe_int (nomark _))))) (pss_one ps_break) pss_nil)
      (pss_cons (ps_set (i := 7) nd rfl (.inl rfl) (pe_tup pa_nil))
      (Evl.pss_cut (ps_if (pt_cmpR op_gt (pv 3) pe_int (nomark _)) (pss_one (ps_set (i := 7) nd rfl (.inl rfl) (pe_fn G hr rfl pass0 (pa_cons (pv 0) (pa_cons (pv 1) (pa_cons (pe_fn ft (hr.mono (by omega)) rfl pass0 (pa_cons (pv 0) (pa_cons (pv 5) pa_nil))) (pa_cons (pe_op op_sub (pv 3) pe_int) pa_nil))))))) pss_nil)
      (pss_cons (ps_expr (pe_bm PySem.F.plainAttrs_list PySem.F.slot_list_append PySem.F.type_list_append mt_append (pv 4) (pa_cons (pe_tup (pa_cons (pe_fn fp (hr.mono (by omega)) rfl pass0 (pa_cons (pv 0) (pa_cons (pv 1) pa_nil))) (pa_cons (pv 7) pa_nil))) pa_nil)))
      (pss_one (ps_set (i := 5) nd rfl (.inl rfl) (pe_op op_sub (pe_op op_sub (pv 5) pe_int) (pe_fn fs (hr.mono (by omega)) rfl pass0 (pa_cons (pv 7) pa_nil))))))))))
    (pss_one (ps_ret (pe_callTy call_tuple_of (by rfl) mt b_tuple (pa_cons (pv 4) pa_nil)))))), ?_⟩
  refine ⟨Nat.zero_le _, fun tl nt => ?_⟩
  refine ⟨_, rfl, ?_⟩
  obtain ⟨ntb, ntc⟩ := hB.ne nt
  have ntl : ll ≠ tl := fun z => by rw [← z, hll] at nt; cases nt
  refine ⟨fun σ H' => ∃ (d : Doc) (xs : List V) (y6 y7 : Option V), σ = [some (.ref bx), some (.ref ll), some (.int most), some (.int deep), some (.ref tl), some (.int ((most : Int) - d.size)), y6, y7] ∧ Gr [bx] H H' ∧ BoxAt H' bx cl ∧ H' tl = some (.lst xs) ∧
    DpAll K H' xs d.ts ∧ d.lab = true ∧ d.size ≤ most ∧ d.dep ≤ deep, ?_, ?_⟩
  · refine ⟨_, rfl, _, rfl, by omega, by omega, for_range (n := (most : Int).toNat) (fun i σ H' => ∃ (d : Doc) (xs : List V) (y6 y7 : Option V), σ = [some (.ref bx), some (.ref ll), some (.int most), some (.int deep), some (.ref tl), some (.int ((most : Int) - d.size)), y6, y7] ∧ Gr [bx] H H' ∧ BoxAt H' bx cl ∧ H' tl = some (.lst xs) ∧
      DpAll K H' xs d.ts ∧ d.lab = true ∧ d.size ≤ most ∧ d.dep ≤ deep) ⟨.nil, [], none, none, by simp [Doc.size]; rfl, Gr.new nt, hB.put ntb ntc, upd_same, .nil, rfl, Nat.zero_le _, Nat.zero_le _⟩ (fun i σ H' hi hP => ?_) (fun σ H' hP => hP)⟩
    obtain ⟨d, xs, y6, y7, rfl, g, hB', htl, hda, hlab, hsz, hdp⟩ := hP
    have wtl : ∀ b ∈ [bx], ∃ ys, H' b = some (.lst ys) := hB'.lst
    -- if left <= 0 or _law_take(box, 4) == 0: break
    refine ⟨_, rfl, _, _, rfl, rfl, _, rfl, ?_⟩
    refine ite2 (fun c => iteT ⟨d, xs, _, _, rfl, g, hB', htl, hda, hlab, hsz, hdp⟩) (fun c => ?_)
    have hleft : 0 < (most : Int) - d.size := by
      have := of_decide_eq_false (Bool.eq_false_iff.mpr c)
      omega
    refine ⟨_, rfl, bx, cl, 4, rfl, by decide, by decide, hB', fun t1 H1 _ _ g1 hB1 => ?_⟩
    have htl1 : H1 tl = some (.lst xs) := g1.lst (by simpa using ntb) htl
    have hda1 : DpAll K H1 xs d.ts := dpAll_grm g1 hB'.lst d.ts xs (pure_doc d) hda
    have hll1 : H1 ll = some (.lst (ls.map V.int)) := (g.trans g1).lst (by simpa using hlb) hll
    refine ⟨rfl, _, rfl, ?_⟩
    refine ite2 (fun c => ⟨d, xs, _, _, rfl, g.trans g1, hB1, htl1, hda1, hlab, hsz, hdp⟩) (fun c => ?_)
    -- kids = ()
    refine ⟨Nat.zero_le _, fun kp nk => ?_⟩
    have gk : Gr [] H1 (upd H1 kp (.tup [])) := Gr.new nk
    refine ⟨fun σ' H2 => ∃ (k : Doc) (v : V), σ' = [some (.ref bx), some (.ref ll), some (.int most), some (.int deep), some (.ref tl), some (.int ((most : Int) - d.size)), some (.int (0 + i)), some v] ∧ Gr [bx] H1 H2 ∧ BoxAt H2 bx cl ∧ Dp K H2 v k.data ∧
      k.lab = true ∧ (k.size : Int) < (most : Int) - d.size ∧ 1 + k.dep ≤ deep, ?_, ?_⟩
    · refine ⟨_, rfl, _, _, rfl, rfl, _, rfl, ?_⟩
      refine ite2 (fun c => ?_) (fun c => ⟨.nil, .ref kp, rfl, gk.any, hB1.gr gk, .tup (SqT.of upd_same) .nil, rfl, by simpa [Doc.size] using hleft, by simpa [Doc.dep] using hd1⟩)
      have hdeep : 1 < deep := by
        have := of_decide_eq_true c
        omega
      refine ⟨_, rfl, _, rfl, _, rfl, _, rfl, bx, cl, _, rfl, hleft, by omega, hB1.gr gk, fun t2 H2 ht0 ht2 g2 hB2 => ?_⟩
      refine ⟨_, rfl, _, _, rfl, rfl, bx, cl, ll, ls, t2.toNat, deep - 1, ?_, hB2, g2.lst (by simpa using hlb) (gk.lst (by simp) hll1), hlb, hl0, hl1, hls, by omega, by omega, by omega, by omega, fun k v H3 hk1 hk2 hk3 g3 hB3 hkv => ?_⟩
      · have e1 : ((t2.toNat : Nat) : Int) = t2 := by omega
        have e2 : ((deep - 1 : Nat) : Int) = (deep : Int) - 1 := by omega
        rw [e1, e2]
        rfl
      · exact ⟨k, v, rfl, gk.any.trans (g2.trans g3), hB3, hkv, hk1, by omega, by omega⟩
    · rintro σ' H2 ⟨k, v, rfl, g2, hB2, hkv, hk1, hk2, hk3⟩
      have htl2 : H2 tl = some (.lst xs) := g2.lst (by simpa using ntb) htl1
      have hll2 : H2 ll = some (.lst (ls.map V.int)) := g2.lst (by simpa using hlb) hll1
      have hda2 : DpAll K H2 xs d.ts := dpAll_grm g2 hB1.lst d.ts xs (pure_doc d) hda1
      have hxl : xs.length ≤ 300 := by
        have h1 := hda2.length
        have h2 := Doc.len_size d
        rw [Doc.ts_length] at h1
        omega
      -- trees.append((_law_pick(box, labels), kids))
      refine ⟨_, rfl, .inl ⟨rfl, _, SqL.of htl2⟩, _, rfl, _, rfl, bx, cl, ll, ls, rfl, hll2, hlb, hl0, hl1, hB2, fun a H3 ha g3 hB3 => ?_⟩
      have htl3 : H3 tl = some (.lst xs) := g3.lst (by simpa using ntb) htl2
      have hda3 : DpAll K H3 xs d.ts := dpAll_grm g3 hB2.lst d.ts xs (pure_doc d) hda2
      have hkv3 : Dp K H3 v k.data := doc_grb g3 hB2.lst hkv
      refine ⟨_, rfl, len2, fun tp np => ?_⟩
      have gp : Gr [] H3 (upd H3 tp (.tup [.int a, v])) := Gr.new np
      obtain ⟨_, _⟩ := hB3.ne np
      have htl4 := gp.lst (by simp) htl3
      refine ⟨tl, xs, _, rfl, rfl, htl4, small1000 (by omega), ?_⟩
      have gw : Gr [tl] (upd H3 tp (.tup [.int a, v])) (upd (upd H3 tp (.tup [.int a, v])) tl (.lst (xs ++ [.ref tp]))) := Gr.put htl4 (fun _ z => by cases z) (by simp)
      have wl : ∀ b ∈ [tl], ∃ ys, (upd H3 tp (.tup [.int a, v])) b = some (.lst ys) := fun b hb => by rw [List.mem_singleton.mp hb]; exact ⟨_, htl4⟩
      have hkv5 := doc_grb (d := k) gw wl (hkv3.gr gp)
      have hB5 := (hB3.gr gp).put (o := .lst (xs ++ [.ref tp])) ntb ntc
      -- left = left - 1 - _law_size(kids)
      refine ⟨_, rfl, _, _, rfl, rfl, _, rfl, k, v, rfl, hkv5, by omega, by omega, fun H6 g6 => ⟨_, _, rfl, rfl, ?_⟩⟩
      have hax := hls a ha
      refine ⟨d.app (.cons a k .nil), xs ++ [.ref tp], some (.int (0 + i)), some v, ?_, ?_, hB5.gr g6, g6.lst (by simp) upd_same, ?_, ?_, ?_, ?_⟩
      · show [some (V.ref bx), some (.ref ll), some (.int most), some (.int deep), some (.ref tl), some (.int ((most : Int) - d.size - 1 - k.size)), some (.int (0 + i)), some v] = _
        have e : (most : Int) - d.size - 1 - k.size = (most : Int) - ((d.app (.cons a k .nil)).size : Nat) := by
          rw [Doc.app_size]
          simp only [Doc.size]
          omega
        rw [e]
      · exact ((g.trans (g1.trans (g2.trans (g3.trans gp.any)))).put0 nt).trans g6.any
      · rw [Doc.app_ts]
        refine (DpAll.append (dpAll_grm gw wl d.ts xs (pure_doc d) (hda3.gr gp)) ?_).gr g6
        refine .cons (.tup (SqT.of ?_) (.cons (.int a) (.cons hkv5 .nil))) .nil
        rw [upd_ne (fun z => by rw [z, htl3] at np; cases np), upd_same]
      · rw [Doc.app_lab, hlab]
        simp [Doc.lab, hk1, hax.1, hax.2]
      · rw [Doc.app_size]
        simp only [Doc.size]
        omega
      · rw [Doc.app_dep]
        simp only [Doc.dep]
        omega
  · rintro σ H' ⟨d, xs, y6, y7, rfl, g, hB', htl, hda, hlab, hsz, hdp⟩
    refine ⟨_, rfl, tl, xs, rfl, .inl ⟨SqL.of htl, fun l nl => ?_⟩⟩
    exact q d _ _ hlab hsz hdp (g.trans (Gr.new nl)) (hB'.gr (Gr.new nl)) (.tup (SqT.of upd_same) (hda.gr (Gr.new nl)))
end
end LW
set_option maxHeartbeats 2000000
namespace LW
open PySem PySem.Spec PyProof.Rows L2
/-! ### the order of documents -/
def sgn (a b : Int) : Int := if a < b then -1 else 1
def ordT : Doc → Doc → Int
  | .cons a k r, .cons b l s => if a ≠ b then sgn a b else if k.size ≠ l.size then sgn k.size l.size else if ordT k l ≠ 0 then ordT k l else ordT r s
  | _, _ => 0
def ordS (d e : Doc) : Int := if d.size ≠ e.size then sgn d.size e.size else ordT d e
theorem sgn_ne (a b : Int) : sgn a b ≠ 0 := by unfold sgn; split <;> decide
theorem cmpL_cons (x y : Int) (xs ys : List Int) : cmpL (x :: xs) (y :: ys) = if x ≠ y then sgn x y else cmpL xs ys := by
  unfold cmpL sgn
  by_cases h : x = y
  · subst h
    simp only [HT.lexLt_cons, if_true, ne_eq, not_true, if_false]
    by_cases e : xs = ys
    · subst e; simp
    · rw [if_neg (fun z => e (List.cons.inj z).2), if_neg e]
  · simp only [HT.lexLt_cons, if_neg h, ne_eq, h, not_false_iff, if_true]
    rw [if_neg (fun z => h (List.cons.inj z).1)]
    by_cases l : x < y <;> simp [l]
theorem ordT_ab {a b : Int} {k r l s : Doc} (h : a ≠ b) : ordT (.cons a k r) (.cons b l s) = sgn a b := by simp only [ordT]; rw [if_pos h]
theorem ordT_sz {a : Int} {k r l s : Doc} (h : k.size ≠ l.size) : ordT (.cons a k r) (.cons a l s) = sgn k.size l.size := by simp only [ordT]; rw [if_neg (show ¬ a ≠ a from fun z => z rfl), if_pos h]
theorem ordT_kid {a : Int} {k r l s : Doc} (h : k.size = l.size) (h2 : ordT k l ≠ 0) : ordT (.cons a k r) (.cons a l s) = ordT k l := by
  simp only [ordT]; rw [if_neg (show ¬ a ≠ a from fun z => z rfl), if_neg (show ¬ k.size ≠ l.size from fun z => z h), if_pos h2]
theorem ordT_next {a : Int} {k r l s : Doc} (h : k.size = l.size) (h2 : ordT k l = 0) : ordT (.cons a k r) (.cons a l s) = ordT r s := by
  simp only [ordT]; rw [if_neg (show ¬ a ≠ a from fun z => z rfl), if_neg (show ¬ k.size ≠ l.size from fun z => z h), if_neg (show ¬ ordT k l ≠ 0 from fun z => z h2)]
theorem cmp_beh : ∀ (d e : Doc), d.size = e.size → ∀ x y, cmpL (d.beh ++ x) (e.beh ++ y) = if ordT d e ≠ 0 then ordT d e else cmpL x y
  | .nil, .nil, _, x, y => by simp [Doc.beh, ordT]
  | .nil, .cons b l s, h, _, _ => by simp only [Doc.size] at h; omega
  | .cons a k r, .nil, h, _, _ => by simp only [Doc.size] at h; omega
  | .cons a k r, .cons b l s, h, x, y => by
    simp only [Doc.size] at h
    simp only [Doc.beh, List.cons_append, List.append_assoc, cmpL_cons]
    by_cases hab : a = b
    · subst hab
      rw [if_neg (show ¬ a ≠ a from fun z => z rfl)]
      by_cases hs : k.size = l.size
      · rw [if_neg (show ¬ ((k.size : Int) ≠ l.size) from fun z => z (by rw [hs]))]
        rw [cmp_beh k l hs, cmp_beh r s (by omega)]
        by_cases hk : ordT k l = 0
        · rw [if_neg (show ¬ ordT k l ≠ 0 from fun z => z hk), ordT_next hs hk]
        · rw [if_pos hk, ordT_kid hs hk, if_pos hk]
      · rw [if_pos (show ((k.size : Int) ≠ l.size) by omega), ordT_sz hs, if_pos (sgn_ne _ _)]
    · rw [if_pos hab, ordT_ab hab, if_pos (sgn_ne _ _)]
theorem cmp_ord (d e : Doc) : cmpL d.ord e.ord = ordS d e := by
  unfold Doc.ord ordS
  rw [cmpL_cons]
  by_cases h : d.size = e.size
  · rw [if_neg (show ¬ ((d.size : Int) ≠ e.size) by omega), if_neg (show ¬ d.size ≠ e.size from fun z => z h)]
    have := cmp_beh d e h [] []
    rw [List.append_nil, List.append_nil] at this
    rw [this]
    by_cases z : ordT d e = 0
    · rw [z]; simp [cmpL]
    · rw [if_pos z]
  · rw [if_pos (show ((d.size : Int) ≠ e.size) by omega), if_pos h]
theorem ordT_eq : ∀ (d e : Doc), d.size = e.size → ordT d e = 0 → d = e
  | .nil, .nil, _, _ => rfl
  | .nil, .cons b l s, h, _ => by simp only [Doc.size] at h; omega
  | .cons a k r, .nil, h, _ => by simp only [Doc.size] at h; omega
  | .cons a k r, .cons b l s, h, z => by
    simp only [Doc.size] at h
    unfold ordT at z
    by_cases hab : a = b
    · rw [if_neg (show ¬ a ≠ b from fun z => z hab)] at z
      by_cases hs : k.size = l.size
      · rw [if_neg (show ¬ k.size ≠ l.size from fun z => z hs)] at z
        by_cases hk : ordT k l = 0
        · rw [if_neg (show ¬ ordT k l ≠ 0 from fun z => z hk)] at z
          rw [hab, ordT_eq k l hs hk, ordT_eq r s (by omega) z]
        · rw [if_pos hk] at z
          exact absurd z hk
      · rw [if_pos hs] at z
        exact absurd z (sgn_ne _ _)
    · rw [if_pos hab] at z
      exact absurd z (sgn_ne _ _)
theorem ordT_refl : ∀ d : Doc, ordT d d = 0
  | .nil => rfl
  | .cons a k r => by
    unfold ordT
    simp [ordT_refl k, ordT_refl r]
theorem ordS_refl (d : Doc) : ordS d d = 0 := by simp [ordS, ordT_refl]
theorem ordS_eq {d e : Doc} (h : ordS d e = 0) : d = e := by
  unfold ordS at h
  by_cases hs : d.size = e.size
  · rw [if_neg (show ¬ d.size ≠ e.size from fun z => z hs)] at h
    exact ordT_eq d e hs h
  · rw [if_pos hs] at h
    exact absurd h (sgn_ne _ _)
theorem sgn_neg {a b : Int} (h : a ≠ b) : sgn b a = - sgn a b := by
  unfold sgn
  by_cases l : a < b
  · rw [if_pos l, if_neg (by omega)]; rfl
  · rw [if_neg l, if_pos (by omega)]
theorem ordT_neg : ∀ d e : Doc, ordT e d = - ordT d e
  | .nil, .nil => rfl
  | .nil, .cons b l s => rfl
  | .cons a k r, .nil => rfl
  | .cons a k r, .cons b l s => by
    unfold ordT
    by_cases hab : a = b
    · subst hab
      simp only [ne_eq, not_true, if_false]
      by_cases hs : k.size = l.size
      · simp only [hs, not_true, if_false]
        rw [ordT_neg k l, ordT_neg r s]
        by_cases hk : ordT k l = 0
        · simp [hk]
        · rw [if_pos (show ¬ - ordT k l = 0 by omega), if_pos hk]
      · have h2 : ¬ l.size = k.size := fun z => hs z.symm
        rw [if_pos hs, if_pos h2, sgn_neg (by omega)]
    · have h2 : ¬ b = a := fun z => hab z.symm
      simp only [ne_eq, hab, h2, not_false_iff, if_true]
      exact sgn_neg hab
theorem ordS_neg (d e : Doc) : ordS e d = - ordS d e := by
  unfold ordS
  by_cases hs : d.size = e.size
  · rw [if_neg (show ¬ d.size ≠ e.size from fun z => z hs), if_neg (show ¬ e.size ≠ d.size from fun z => z hs.symm), ordT_neg]
  · rw [if_pos hs, if_pos (show e.size ≠ d.size from fun z => hs z.symm), sgn_neg (by omega)]
/-- the rest of the loop from place i on -/
def Doc.dr : Nat → Doc → Doc
  | 0, d => d
  | _ + 1, .nil => .nil
  | n + 1, .cons _ _ r => r.dr n
theorem Doc.dr_at : ∀ (i : Nat) (d : Doc) (a : Int) (k : Doc), d.at i = some (a, k) → d.dr i = .cons a k (d.dr (i + 1))
  | _, .nil, _, _, h => by simp [Doc.at] at h
  | 0, .cons b l r, a, k, h => by
    simp only [Doc.at, Option.some.injEq, Prod.mk.injEq] at h
    obtain ⟨rfl, rfl⟩ := h
    cases r <;> rfl
  | i + 1, .cons b l r, a, k, h => Doc.dr_at i r a k h
theorem Doc.dr_end : ∀ (i : Nat) (d : Doc), d.len ≤ i → d.dr i = .nil
  | 0, .nil, _ => rfl
  | _ + 1, .nil, _ => rfl
  | 0, .cons _ _ r, h => by simp [Doc.len] at h
  | i + 1, .cons _ _ r, h => Doc.dr_end i r (by simp [Doc.len] at h; omega)
theorem Doc.at_of : ∀ (i : Nat) (d : Doc), i < d.len → ∃ a k, d.at i = some (a, k) ∧ d.ts[i]? = some (.tuple [.int a, k.data])
  | _, .nil, h => by simp [Doc.len] at h
  | 0, .cons a k r, _ => ⟨a, k, rfl, by simp [Doc.ts, Doc.data]⟩
  | i + 1, .cons a k r, h => by
    obtain ⟨b, l, h1, h2⟩ := Doc.at_of i r (by simp [Doc.len] at h; omega)
    exact ⟨b, l, h1, by simpa [Doc.ts] using h2⟩
theorem ordT_nil (d : Doc) : ordT d .nil = 0 := by cases d <;> rfl
def spOrdL (K : PySem.W.Frag) (n : Nat) : Sp := fun vs H Q _ => ∃ (d e : Doc) (v u : V), vs = [v, u] ∧ Dp K H v d.data ∧ Dp K H u e.data ∧ d.dep < n ∧ d.size ≤ 300 ∧ d.dep ≤ 30 ∧ e.size ≤ 300 ∧ e.dep ≤ 30 ∧ ∀ H', Gr [] H H' → Q (.int (ordS d e)) H'
section
variable {P : Program} {w : World} {K : PySem.W.Frag} {mg : Str → Option Value} {base : Heap} {f : Addr} {fd : FuncData}
abbrev nLawOrd : List Str := ["d", "e", "one", "two", "k", "found"]
theorem sc_law_order : FnScope nLawOrd ["d", "e"] (defScope s__law_order) := ⟨rfl, rfl, rfl, by decide +kernel, rfl, by decide +kernel, by decide +kernel⟩
theorem ordL_none {k : Nat} {f : Addr} {fd : FuncData} : FnOk P w K mg base CX0 k f fd ["d", "e"] (spOrdL K 0) := by
  have no : ∀ vs H Q E, ¬ spOrdL K 0 vs H Q E := fun vs H Q E h => by
    obtain ⟨_, _, _, _, _, _, _, h, _⟩ := h
    exact absurd h (Nat.not_lt_zero _)
  exact ⟨fun vs H Q E h => absurd h (no vs H Q E), fun A outer s H args us vs Q E _ _ _ _ h => absurd h (no vs H Q E)⟩
theorem ok_ordL {n : Nat} (F : Fun K "_law_order" "_law_order" s__law_order f fd) (G : Fn P w K mg base CX0 (n + 41) "_law_order" ["d", "e"] (spOrdL K n)) (fs : Fn P w K mg base CX0 40 "_law_size" ["d"] (spSizeL K 40)) (mr : mg "range" = none) (mm : mg "min" = none) (ml : mg "len" = none) :
    FnOk P w K mg base CX0 (n + 42) f fd ["d", "e"] (spOrdL K (n + 1)) := by
  refine F.ok sc_law_order (fun vs H Q E h => ?_) (fun cdv A outer s H vs Q E hr h => ?_)
  · obtain ⟨_, _, _, _, rfl, _⟩ := h; rfl
  obtain ⟨d, e, v, u, rfl, hd, he, hn, d1, d2, e1, e2, q⟩ := h
  have nd := sc_law_order.nd
  refine ⟨_, pss_cons (ps_par (i := 2) (j := 3) (by rfl) nd rfl rfl (by decide) rfl rfl (pa_cons (pe_fn fs (hr.mono (by omega)) rfl pass0 (pa_cons (pv 0) pa_nil)) (pa_cons (pe_fn fs (hr.mono (by omega)) rfl pass0 (pa_cons (pv 1) pa_nil)) pa_nil)) (by rfl))
    (pss_cons (ps_if (pt_cmpR op_ne (pv 2) (pv 3) (nomark _)) (pss_one (ps_ret (pe_ifExp (pt_cmpR op_lt (pv 2) (pv 3) (nomark _)) (pe_un un_neg pe_int) pe_int))) pss_nil)
    (pss_cons (ps_for PassesOwn.never rfl (pi_range1 rfl mr (pa_cons (pe_callB (call_min2 rfl) (by rfl) mm b_min (pa_cons (pe_callB call_len_seq (by rfl) ml PySem.boot_len (pa_cons (pv 0) pa_nil)) (pa_cons (pe_callB call_len_seq (by rfl) ml PySem.boot_len (pa_cons (pv 1) pa_nil)) pa_nil))) pa_nil)) (pg_name (i := 4) nd rfl (.inl rfl))
      (pss_cons (ps_if (pt_cmpR op_ne (pe_ix ix_tup (pe_ix ix_tup (pv 0) (pv 4) (fun _ _ => rfl)) pe_int (fun _ _ => rfl)) (pe_ix ix_tup (pe_ix ix_tup (pv 1) (pv 4) (fun _ _ => rfl)) pe_int (fun _ _ => rfl)) (nomark _))
        (pss_one (ps_ret (pe_ifExp (pt_cmpR op_lt (pe_ix ix_tup (pe_ix ix_tup (pv 0) (pv 4) (fun _ _ => rfl)) pe_int (fun _ _ => rfl)) (pe_ix ix_tup (pe_ix ix_tup (pv 1) (pv 4) (fun _ _ => rfl)) pe_int (fun _ _ => rfl)) (nomark _)) (pe_un un_neg pe_int) pe_int))) pss_nil)
      (pss_cons (ps_set (i := 5) nd rfl (.inl rfl) (pe_fn G hr rfl pass0 (pa_cons (pe_ix ix_tup (pe_ix ix_tup (pv 0) (pv 4) (fun _ _ => rfl)) pe_int (fun _ _ => rfl)) (pa_cons (pe_ix ix_tup (pe_ix ix_tup (pv 1) (pv 4) (fun _ _ => rfl)) pe_int (fun _ _ => rfl)) pa_nil))))
      (pss_one (ps_if (pt_cmpR op_ne (pv 5) pe_int (nomark _)) (pss_one (ps_ret (pv 5))) pss_nil)))))
    (pss_one (ps_ret pe_int)))), ?_⟩
  refine ⟨_, rfl, d, v, rfl, hd, by omega, d1, fun H1 g1 => ⟨_, rfl, e, u, rfl, he.gr g1, by omega, e1, fun H2 g2 => ⟨_, _, rfl, ?_⟩⟩⟩
  have gg : Gr [] H H2 := g1.trans g2
  refine ⟨_, rfl, _, rfl, rfl, _, rfl, ?_⟩
  have ide : ∀ (a b : Int) (c : Bool), (decide (V.int a = V.int b)) = decide (a = b) := fun a b _ => by
    by_cases h : a = b
    · rw [h, decide_eq_true rfl, decide_eq_true rfl]
    · rw [decide_eq_false h, decide_eq_false fun z => h (V.int.inj z)]
  rw [ide _ _ true]
  unfold ordS at q
  by_cases hs : d.size ≠ e.size
  · rw [if_pos hs] at q
    rw [decide_eq_false (show ¬ ((d.size : Int) = e.size) by omega)]
    refine iteT ⟨_, rfl, _, rfl, _, _, rfl, rfl, _, rfl, ?_⟩
    unfold sgn at q
    refine ite2 (fun c => ?_) (fun c => ?_)
    · rw [if_pos (of_decide_eq_true c)] at q
      exact ⟨_, rfl, q H2 gg⟩
    · rw [if_neg (of_decide_eq_false (Bool.eq_false_iff.mpr c))] at q
      exact q H2 gg
  rw [if_neg hs] at q
  have hs := Decidable.not_not.mp hs
  rw [decide_eq_true (show ((d.size : Int) = e.size) by omega)]
  refine iteF ?_
  obtain ⟨a, vs, rfl, hsd, ha⟩ := hd.tupI
  obtain ⟨b, us, rfl, hse, hb⟩ := he.tupI
  have l1 : vs.length = d.len := by rw [ha.length, Doc.ts_length]
  have l2 : us.length = e.len := by rw [hb.length, Doc.ts_length]
  have z1 := Doc.len_size d
  have z2 := Doc.len_size e
  have hmin : (if ((us.length : Nat) : Int) < ((vs.length : Nat) : Int) then ((us.length : Nat) : Int) else ((vs.length : Nat) : Int)) = ((min d.len e.len : Nat) : Int) := by
    rw [l1, l2]
    by_cases h : e.len < d.len
    · rw [if_pos (by omega)]; omega
    · rw [if_neg (by omega)]; omega
  refine ⟨_, rfl, a, vs, rfl, .inr (gg.sqT hsd), _, rfl, b, us, rfl, .inr (gg.sqT hse), _, _, rfl, ?_⟩
  rw [hmin]
  refine ⟨_, rfl, by omega, by omega, for_range (n := ((min d.len e.len : Nat) : Int).toNat) (fun i σ H' => ∃ y4 y5, σ = [some (.ref a), some (.ref b), some (.int d.size), some (.int e.size), y4, y5] ∧ Gr [] H H' ∧ ordT d e = ordT (d.dr i) (e.dr i))
    ⟨none, none, rfl, gg, rfl⟩ (fun i σ H' hi hP => ?_) (fun σ H' hP => ?_)⟩
  · obtain ⟨y4, y5, rfl, g, ho⟩ := hP
    have hi' : i < min d.len e.len := by rw [Int.toNat_natCast] at hi; exact hi
    obtain ⟨x, k, dk, dts⟩ := Doc.at_of i d (by omega)
    obtain ⟨y, l, ek, ets⟩ := Doc.at_of i e (by omega)
    obtain ⟨v1, hv1, hxd⟩ := ha.at dts
    obtain ⟨u1, hu1, hyd⟩ := hb.at ets
    obtain ⟨tp, xs', rfl, hst, hall⟩ := hxd.tupI
    obtain ⟨p1, p2, rfl, h1, h2⟩ := dpAll_two hall
    have := h1.intI; subst this
    obtain ⟨tq, ys', rfl, hst', hall'⟩ := hyd.tupI
    obtain ⟨q1, q2, rfl, h3, h4⟩ := dpAll_two hall'
    have := h3.intI; subst this
    have sA := g.sqT hsd
    have sB := g.sqT hse
    have sP := g.sqT hst
    have sQ := g.sqT hst'
    have i0 : (0 : Int) + (i : Int) = (i : Int) := by omega
    rw [i0]
    have av := atI_nat hv1
    have au := atI_nat hu1
    rw [Doc.dr_at i d x k dk, Doc.dr_at i e y l ek] at ho
    simp only [ordT] at ho
    refine ⟨_, rfl, _, rfl, a, vs, _, _, rfl, rfl, sA, av, tp, _, 0, _, rfl, rfl, sP, atI_nat (j := 0) rfl, _, rfl, _, rfl, b, us, _, _, rfl, rfl, sB, au, tq, _, 0, _, rfl, rfl, sQ, atI_nat (j := 0) rfl, rfl, _, rfl, ?_⟩
    rw [ide _ _ true]
    by_cases hxy : x ≠ y
    · rw [if_pos hxy] at ho
      rw [decide_eq_false hxy]
      refine iteT ?_
      refine ⟨_, rfl, _, rfl, a, vs, _, _, rfl, rfl, sA, av, tp, _, 0, _, rfl, rfl, sP, atI_nat (j := 0) rfl, _, rfl, _, rfl, b, us, _, _, rfl, rfl, sB, au, tq, _, 0, _, rfl, rfl, sQ, atI_nat (j := 0) rfl, _, _, rfl, rfl, _, rfl, ?_⟩
      rw [ho] at q
      unfold sgn at q
      refine ite2 (fun c => ?_) (fun c => ?_)
      · rw [if_pos (of_decide_eq_true c)] at q
        exact ⟨_, rfl, q H' g⟩
      · rw [if_neg (of_decide_eq_false (Bool.eq_false_iff.mpr c))] at q
        exact q H' g
    rw [if_neg hxy] at ho
    have hxy := Decidable.not_not.mp hxy
    rw [decide_eq_true hxy]
    refine iteF ?_
    obtain ⟨k1, k2⟩ := Doc.at_size i d x k dk
    obtain ⟨m1, m2⟩ := Doc.at_size i e y l ek
    refine ⟨_, rfl, _, rfl, a, vs, _, _, rfl, rfl, sA, av, tp, _, 1, _, rfl, rfl, sP, atI_nat (j := 1) rfl, _, rfl, _, rfl, b, us, _, _, rfl, rfl, sB, au, tq, _, 1, _, rfl, rfl, sQ, atI_nat (j := 1) rfl, k, l, p2, q2, rfl, h2.gr g, h4.gr g, by omega, by omega, by omega, by omega, by omega, fun H3 g3 => ?_⟩
    refine ⟨_, rfl, rfl, _, rfl, ?_⟩
    rw [ide _ _ true]
    have hfound : (if k.size ≠ l.size then sgn k.size l.size else if ordT k l ≠ 0 then ordT k l else ordT (d.dr (i + 1)) (e.dr (i + 1))) = if ordS k l ≠ 0 then ordS k l else ordT (d.dr (i + 1)) (e.dr (i + 1)) := by
      unfold ordS
      by_cases z : k.size = l.size
      · rw [if_neg (show ¬ k.size ≠ l.size from fun h => h z), if_neg (show ¬ k.size ≠ l.size from fun h => h z)]
      · rw [if_pos z, if_pos z, if_pos (sgn_ne _ _)]
    rw [hfound] at ho
    by_cases hz : ordS k l = 0
    · rw [if_neg (show ¬ ordS k l ≠ 0 from fun h => h hz)] at ho
      rw [decide_eq_true hz]
      exact iteF ⟨_, _, rfl, g.trans g3, ho⟩
    · rw [if_pos hz] at ho
      rw [decide_eq_false hz]
      rw [ho] at q
      exact iteT ⟨_, rfl, q H3 (g.trans g3)⟩
  · obtain ⟨y4, y5, rfl, g, ho⟩ := hP
    rw [Int.toNat_natCast] at ho
    have hz : ordT d e = 0 := by
      rw [ho]
      by_cases h : d.len ≤ e.len
      · rw [Doc.dr_end _ d (by omega)]
        rfl
      · rw [Doc.dr_end _ e (by omega), ordT_nil]
    rw [hz] at q
    exact q H' g
end
end LW
set_option maxHeartbeats 2000000
namespace LW
open PySem PySem.Spec PyProof.Rows L2
theorem Doc.ts_tk : ∀ (i : Nat) (d : Doc), (d.tk i).ts = d.ts.take i
  | 0, _ => rfl
  | _ + 1, .nil => rfl
  | i + 1, .cons a k r => by simp [Doc.tk, Doc.ts, Doc.ts_tk i r]
theorem Doc.ts_dr : ∀ (i : Nat) (d : Doc), (d.dr i).ts = d.ts.drop i
  | 0, _ => by cases ‹Doc› <;> rfl
  | _ + 1, .nil => rfl
  | i + 1, .cons a k r => by simp [Doc.dr, Doc.ts, Doc.ts_dr i r]
theorem Doc.split : ∀ (i : Nat) (d : Doc) (a : Int) (k : Doc), d.at i = some (a, k) → d = (d.tk i).app (.cons a k (d.dr (i + 1)))
  | _, .nil, _, _, h => by simp [Doc.at] at h
  | 0, .cons b l r, a, k, h => by
    simp only [Doc.at, Option.some.injEq, Prod.mk.injEq] at h
    obtain ⟨rfl, rfl⟩ := h
    cases r <;> rfl
  | i + 1, .cons b l r, a, k, h => by
    show Doc.cons b l r = .cons b l ((r.tk i).app (.cons a k (r.dr (i + 1))))
    rw [← Doc.split i r a k h]
/-- a tree in the place of another -/
theorem Doc.put_facts {i : Nat} {d : Doc} {a : Int} {k : Doc} (h : d.at i = some (a, k)) (a' : Int) (k' : Doc) :
    (((d.tk i).app (.cons a' k' .nil)).app (d.dr (i + 1))).ts = d.ts.take i ++ [.tuple [.int a', k'.data]] ++ d.ts.drop (i + 1) ∧
    (((d.tk i).app (.cons a' k' .nil)).app (d.dr (i + 1))).size + k.size = d.size + k'.size ∧
    (((d.tk i).app (.cons a' k' .nil)).app (d.dr (i + 1))).dep ≤ max d.dep (1 + k'.dep) ∧
    (d.lab = true → 0 ≤ a' → a' < 5 → k'.lab = true → (((d.tk i).app (.cons a' k' .nil)).app (d.dr (i + 1))).lab = true) := by
  have hs := Doc.split i d a k h
  have s1 := congrArg Doc.size hs
  have s2 := congrArg Doc.dep hs
  have s3 := congrArg Doc.lab hs
  simp only [Doc.app_size, Doc.size, Doc.app_dep, Doc.dep, Doc.app_lab, Doc.lab] at s1 s2 s3
  refine ⟨?_, ?_, ?_, fun hl h0 h5 hk => ?_⟩
  · rw [Doc.app_ts, Doc.app_ts, Doc.ts_tk, Doc.ts_dr]
    rfl
  · simp only [Doc.app_size, Doc.size]; omega
  · simp only [Doc.app_dep, Doc.dep]; omega
  · rw [hl] at s3
    have q := s3.symm
    simp only [Bool.and_eq_true] at q
    simp only [Doc.app_lab, Doc.lab, hk, q.1, q.2.2, Bool.and_true, Bool.true_and]
    exact decide_eq_true ⟨h0, h5⟩
theorem Doc.cut_facts {i : Nat} {d : Doc} {a : Int} {k : Doc} (h : d.at i = some (a, k)) :
    ((d.tk i).app (d.dr (i + 1))).ts = d.ts.take i ++ d.ts.drop (i + 1) ∧ ((d.tk i).app (d.dr (i + 1))).size ≤ d.size ∧ ((d.tk i).app (d.dr (i + 1))).dep ≤ d.dep ∧ (d.lab = true → ((d.tk i).app (d.dr (i + 1))).lab = true) := by
  have hs := Doc.split i d a k h
  have s1 := congrArg Doc.size hs
  have s2 := congrArg Doc.dep hs
  have s3 := congrArg Doc.lab hs
  simp only [Doc.app_size, Doc.size, Doc.app_dep, Doc.dep, Doc.app_lab, Doc.lab] at s1 s2 s3
  refine ⟨?_, ?_, ?_, fun hl => ?_⟩
  · rw [Doc.app_ts, Doc.ts_tk, Doc.ts_dr]
  · simp only [Doc.app_size]; omega
  · simp only [Doc.app_dep]; omega
  · rw [hl] at s3
    have q := s3.symm
    simp only [Bool.and_eq_true] at q
    simp only [Doc.app_lab, q.1, q.2.2, Bool.and_true]
theorem one_tree {K : PySem.W.Frag} {H : Hp} {tp up : Addr} {kv : V} {t : Int} {kd : PyData} (hk : Dp K H kv kd) (nt : H tp = none) (nu : (upd H tp (.tup [.int t, kv])) up = none) :
    Gr [] H (upd (upd H tp (.tup [.int t, kv])) up (.tup [.ref tp])) ∧ Dp K (upd (upd H tp (.tup [.int t, kv])) up (.tup [.ref tp])) (.ref up) (.tuple [.tuple [.int t, kd]]) := by
  have e2 : Gr [] H (upd H tp (.tup [.int t, kv])) := Gr.new nt
  have e3 : Gr [] (upd H tp (.tup [.int t, kv])) (upd (upd H tp (.tup [.int t, kv])) up (.tup [.ref tp])) := Gr.new nu
  refine ⟨e2.trans e3, .tup (SqT.of upd_same) (.cons (.tup (xs := [.int t, kv]) (SqT.of (e3.tup (by simp) upd_same)) (.cons (.int t) (.cons (hk.gr (e2.trans e3)) .nil))) .nil)⟩
def spNear (K : PySem.W.Frag) (n : Nat) : Sp := fun vs H Q _ => ∃ (bx cl : Addr) (d : Doc) (v : V), vs = [.ref bx, v] ∧ BoxAt H bx cl ∧ Dp K H v d.data ∧ d.lab = true ∧ d.size ≤ 100 ∧ d.dep < n ∧
  ∀ (e : Doc) (u : V) H', e.lab = true → e.size ≤ d.size + 1 → e.dep ≤ d.dep + 1 → Gr [bx] H H' → BoxAt H' bx cl → Dp K H' u e.data → Q u H'
section
variable {P : Program} {w : World} {K : PySem.W.Frag} {mg : Str → Option Value} {base : Heap} {f : Addr} {fd : FuncData}
theorem sc_law_near : FnScope ["box", "d", "k", "sort"] ["box", "d"] (defScope s__law_near) := ⟨rfl, rfl, rfl, by decide +kernel, rfl, by decide +kernel, by decide +kernel⟩
theorem near_none {k : Nat} {f : Addr} {fd : FuncData} : FnOk P w K mg base CX0 k f fd ["box", "d"] (spNear K 0) := by
  have no : ∀ vs H Q E, ¬ spNear K 0 vs H Q E := fun vs H Q E h => by
    obtain ⟨_, _, _, _, _, _, _, _, _, h, _⟩ := h
    exact absurd h (Nat.not_lt_zero _)
  exact ⟨fun vs H Q E h => absurd h (no vs H Q E), fun A outer s H args us vs Q E _ _ _ _ h => absurd h (no vs H Q E)⟩
theorem ok_near {n : Nat} (F : Fun K "_law_near" "_law_near" s__law_near f fd) (G : Fn P w K mg base CX0 (n + 1) "_law_near" ["box", "d"] (spNear K n)) (ft : Fn P w K mg base CX0 1 "_law_take" ["box", "m"] spTake) (ml : mg "len" = none) :
    FnOk P w K mg base CX0 (n + 2) f fd ["box", "d"] (spNear K (n + 1)) := by
  refine F.ok sc_law_near (fun vs H Q E h => ?_) (fun cdv A outer s H vs Q E hr h => ?_)
  · obtain ⟨_, _, _, _, rfl, _⟩ := h; rfl
  obtain ⟨bx, cl, d, v, rfl, hB, hd, hl, hz, hn, q⟩ := h
  have nd := sc_law_near.nd
  refine ⟨_, pss_cons (ps_if (PW.pt (pw_or (pt_not (pt_truth (pv 1) (by intro _; rfl))) (pw_or1 (pt_cmpR op_eq (pe_fn ft (hr.mono (by omega)) rfl pass0 (pa_cons (pv 0) (pa_cons pe_int pa_nil))) pe_int (nomark _)))))
      (pss_one (ps_ret (pe_op op_catA (pv 1) (pe_tup (pa_cons (pe_tup (pa_cons (pe_fn ft (hr.mono (by omega)) rfl pass0 (pa_cons (pv 0) (pa_cons pe_int pa_nil))) (pa_cons (pe_tup pa_nil) pa_nil))) pa_nil))))) pss_nil)
    (pss_cons (ps_set (i := 2) nd rfl (.inl rfl) (pe_fn ft (hr.mono (by omega)) rfl pass0 (pa_cons (pv 0) (pa_cons (pe_callB call_len_seq (by rfl) ml PySem.boot_len (pa_cons (pv 1) pa_nil)) pa_nil))))
    (pss_cons (ps_set (i := 3) nd rfl (.inl rfl) (pe_fn ft (hr.mono (by omega)) rfl pass0 (pa_cons (pv 0) (pa_cons pe_int pa_nil))))
    (pss_cons (ps_if (pt_cmpR op_eq (pv 3) pe_int (nomark _)) (pss_one (ps_ret (pe_op op_catA (pe_slice sl_tupA (pv 1) po_none (po_some (pv 2))) (pe_slice sl_tupA (pv 1) (po_some (pe_op op_add (pv 2) pe_int)) po_none)))) pss_nil)
    (pss_cons (ps_if (pt_cmpR op_eq (pv 3) pe_int (nomark _)) (pss_one (ps_ret (pe_op op_catA (pe_op op_catA (pe_slice sl_tupA (pv 1) po_none (po_some (pv 2)))
        (pe_tup (pa_cons (pe_tup (pa_cons (pe_fn ft (hr.mono (by omega)) rfl pass0 (pa_cons (pv 0) (pa_cons pe_int pa_nil))) (pa_cons (pe_ix ix_tup (pe_ix ix_tup (pv 1) (pv 2) (fun _ _ => rfl)) pe_int (fun _ _ => rfl)) pa_nil))) pa_nil)))
        (pe_slice sl_tupA (pv 1) (po_some (pe_op op_add (pv 2) pe_int)) po_none)))) pss_nil)
    (pss_one (ps_ret (pe_op op_catA (pe_op op_catA (pe_slice sl_tupA (pv 1) po_none (po_some (pv 2)))
        (pe_tup (pa_cons (pe_tup (pa_cons (pe_ix ix_tup (pe_ix ix_tup (pv 1) (pv 2) (fun _ _ => rfl)) pe_int (fun _ _ => rfl)) (pa_cons (pe_fn G hr rfl pass0 (pa_cons (pv 0) (pa_cons (pe_ix ix_tup (pe_ix ix_tup (pv 1) (pv 2) (fun _ _ => rfl)) pe_int (fun _ _ => rfl)) pa_nil))) pa_nil))) pa_nil)))
        (pe_slice sl_tupA (pv 1) (po_some (pe_op op_add (pv 2) pe_int)) po_none)))))))), ?_⟩
  obtain ⟨a, vs, rfl, hs, ha⟩ := hd.tupI
  have l1 : vs.length = d.len := by rw [ha.length, Doc.ts_length]
  have l2 := Doc.len_size d
  -- the first way: a tree more
  have more : ∀ H1, Gr [bx] H H1 → BoxAt H1 bx cl → (tOp (rCatA K) (tVar 1) (tTup (tCons (tTup (tCons (tCall spTake [] E0 (tCons (tVar 0) (tCons (tC (.int 5)) tNil))) (tCons (tTup tNil) tNil))) tNil))) [some (.ref bx), some (.ref a), none, none] H1 Q := fun H1 g1 hB1 => by
    refine ⟨_, rfl, _, rfl, bx, cl, 5, rfl, by decide, by decide, hB1, fun t H2 ht0 ht5 g2 hB2 => ?_⟩
    refine ⟨Nat.zero_le _, fun ep ne => ⟨len2, fun tp nt => ⟨(by decide : (1 : Nat) ≤ sizeLine), fun up nu => ?_⟩⟩⟩
    have e1 : Gr [] H2 (upd H2 ep (.tup [])) := Gr.new ne
    obtain ⟨e3, hu⟩ := one_tree (K := K) (t := t) (kd := .tuple []) (.tup (SqT.of upd_same) .nil) nt nu
    have hd5 := ((doc_grb (d := d) g2 hB1.lst (doc_grb g1 hB.lst hd)).gr e1).gr e3
    refine cat_data hd5 hu (small_sz (by rw [Doc.ts_length]; show _ + 1 ≤ _; omega)) fun H6 u g6 hu6 => ?_
    refine q (d.app (.cons t .nil .nil)) u H6 ?_ ?_ ?_ (g1.trans (g2.trans (e1.trans (e3.trans g6)).any)) (hB2.gr (e1.trans (e3.trans g6))) ?_
    · rw [Doc.app_lab, hl]; simp [Doc.lab, ht0, ht5]
    · rw [Doc.app_size]; simp [Doc.size]
    · rw [Doc.app_dep]; simp only [Doc.dep]; omega
    · unfold Doc.data
      rw [Doc.app_ts]
      exact hu6
  refine ⟨_, rfl, _, .inr (.inl ⟨vs, hs, rfl⟩), ?_⟩
  cases hvs : vs.isEmpty with
  | true => exact iteT (iteT (more H (Gr.refl H) hB))
  | false =>
    have hlen : 0 < d.len := by
      rw [← l1]
      cases vs with
      | nil => cases hvs
      | cons _ _ => simp
    refine iteF ⟨_, rfl, bx, cl, 3, rfl, by decide, by decide, hB, fun t1 H1 _ _ g1 hB1 => ?_⟩
    refine ⟨rfl, _, rfl, ?_⟩
    refine ite2 (fun c => more H1 g1 hB1) (fun c => ?_)
    have hd1 : Dp K H1 (.ref a) d.data := doc_grb g1 hB.lst hd
    have hs1 : SqT K H1 a vs := g1.sqTm hB.lst hs
    refine ⟨_, rfl, _, rfl, a, vs, rfl, .inr hs1, bx, cl, _, rfl, by omega, by omega, hB1, fun t2 H2 ht0 ht2 g2 hB2 => ?_⟩
    have hd2 : Dp K H2 (.ref a) d.data := doc_grb g2 hB1.lst hd1
    refine ⟨_, rfl, bx, cl, 3, rfl, by decide, by decide, hB2, fun t3 H3 _ _ g3 hB3 => ?_⟩
    have hd3 : Dp K H3 (.ref a) d.data := doc_grb g3 hB2.lst hd2
    have g03 : Gr [bx] H H3 := g1.trans (g2.trans g3)
    have hs3 : SqT K H3 a vs := g03.sqTm hB.lst hs
    obtain ⟨i, rfl⟩ : ∃ i : Nat, t2 = (i : Int) := ⟨t2.toNat, by omega⟩
    have hi : i < d.len := by omega
    obtain ⟨x, k, dk, dts⟩ := Doc.at_of i d hi
    obtain ⟨v1, hv1, hxd⟩ := ha.at dts
    obtain ⟨tp, xs', rfl, hst, hall⟩ := hxd.tupI
    obtain ⟨p1, p2, rfl, h1, h2⟩ := dpAll_two hall
    have := h1.intI; subst this
    obtain ⟨k1, k2⟩ := Doc.at_size i d x k dk
    have ii : (i : Int) + 1 = ((i + 1 : Nat) : Int) := by omega
    have tkd : (d.tk i).data = .tuple (d.ts.take i) := by unfold Doc.data; rw [Doc.ts_tk]
    have drd : (d.dr (i + 1)).data = .tuple (d.ts.drop (i + 1)) := by unfold Doc.data; rw [Doc.ts_dr]
    have ltk : (d.tk i).len ≤ 100 := by have := Doc.len_size (d.tk i); have := Doc.tk_size i d; omega
    have ldr : (d.dr (i + 1)).len ≤ 100 := by
      have h1 := congrArg List.length (Doc.ts_dr (i + 1) d)
      rw [Doc.ts_length, List.length_drop, Doc.ts_length] at h1
      omega
    have lTk : (d.ts.take i).length ≤ 100 := by rw [List.length_take, Doc.ts_length]; omega
    have lDr : (d.ts.drop (i + 1)).length ≤ 100 := by rw [List.length_drop, Doc.ts_length]; omega
    refine ⟨_, rfl, rfl, _, rfl, ?_⟩
    refine ite2 (fun c => ?_) (fun c => ?_)
    · -- d[:k] + d[k + 1:]
      refine ⟨_, rfl, _, rfl, _, rfl, take_data hd3 fun H4 u4 g4 hu4 => ?_⟩
      have hd4 := hd3.gr g4
      refine ⟨_, rfl, _, rfl, _, _, rfl, rfl, _, rfl, ?_⟩
      dsimp only [tNoPart]
      refine drop_data ii hd4 fun H5 u5 g5 hu5 => ?_
      refine cat_data (hu4.gr g5) hu5 (small_sz (by omega)) fun H6 u g6 hu6 => ?_
      obtain ⟨c1, c2, c3, c4⟩ := Doc.cut_facts dk
      refine q _ u H6 (c4 hl) (by omega) (by omega) (g03.trans (g4.trans (g5.trans g6)).any) (hB3.gr (g4.trans (g5.trans g6))) ?_
      unfold Doc.data
      rw [c1]
      exact hu6
    -- the last part of both other ways
    have fin : ∀ (H4 H5 : Hp) (u4 u5 : V) (a' : Int) (k' : Doc), 0 ≤ a' → a' < 5 → k'.lab = true → k'.size ≤ k.size + 1 → k'.dep ≤ k.dep + 1 → Gr [bx] H3 H5 → BoxAt H5 bx cl → Dp K H5 (.ref a) d.data → Dp K H5 u4 (.tuple (d.ts.take i)) → Dp K H5 u5 (.tuple [.tuple [.int a', k'.data]]) →
        rCatA K u4 u5 H5 fun u6 H6 => (tSl (rSlA K) (tVar 1) (tPart (tOp (rI0 fun i j => .int (i + j)) (tVar 2) (tC (.int 1)))) tNoPart) [some (.ref bx), some (.ref a), some (.int i), some (.int t3)] H6 fun u7 H7 => rCatA K u6 u7 H7 Q := by
      intro H4 H5 u4 u5 a' k' ha0 ha5 hk1 hk2 hk3 g5 hB5 hd5 hu4 hu5
      refine cat_data hu4 hu5 (small_sz (by show _ + 1 ≤ _; omega)) fun H6 u6 g6 hu6 => ?_
      refine ⟨_, rfl, _, rfl, _, _, rfl, rfl, _, rfl, ?_⟩
      dsimp only [tNoPart]
      refine drop_data ii (hd5.gr g6) fun H7 u7 g7 hu7 => ?_
      refine cat_data (hu6.gr g7) hu7 (small_sz (by rw [List.length_append]; show _ + 1 + _ ≤ _; omega)) fun H8 u8 g8 hu8 => ?_
      obtain ⟨c1, c2, c3, c4⟩ := Doc.put_facts dk a' k'
      refine q _ u8 H8 (c4 hl ha0 ha5 hk1) (by omega) (by omega) (g03.trans (g5.trans (g6.trans (g7.trans g8)).any)) (hB5.gr (g6.trans (g7.trans g8))) ?_
      unfold Doc.data
      rw [c1]
      exact hu8
    have slab : 0 ≤ x ∧ x < 5 ∧ k.lab = true := by
      have s3 := congrArg Doc.lab (Doc.split i d x k dk)
      simp only [Doc.app_lab, Doc.lab, hl] at s3
      have q := s3.symm
      simp only [Bool.and_eq_true, decide_eq_true_eq] at q
      exact ⟨q.2.1.1.1, q.2.1.1.2, q.2.1.2⟩
    refine ⟨_, rfl, rfl, _, rfl, ?_⟩
    refine ite2 (fun c => ?_) (fun c => ?_)
    · -- a new label
      refine ⟨_, rfl, _, rfl, _, rfl, take_data hd3 fun H4 u4 g4 hu4 => ?_⟩
      have hB4 := hB3.gr g4
      refine ⟨_, rfl, bx, cl, 5, rfl, by decide, by decide, hB4, fun t4 H5 ht40 ht45 g5 hB5 => ?_⟩
      have hs5 : SqT K H5 a vs := g5.sqTm hB4.lst (g4.sqT hs3)
      have hst5 : SqT K H5 tp [.int x, p2] := g5.sqTm hB4.lst (g4.sqT (g03.sqTm hB.lst hst))
      have hk5 : Dp K H5 p2 k.data := doc_grb g5 hB4.lst ((doc_grb g03 hB.lst h2).gr g4)
      refine ⟨_, rfl, _, rfl, a, vs, _, _, rfl, rfl, hs5, atI_nat hv1, tp, _, 1, _, rfl, rfl, hst5, atI_nat (j := 1) rfl, len2, fun tq nq => ⟨(by decide : (1 : Nat) ≤ sizeLine), fun up nu => ?_⟩⟩
      obtain ⟨e3, hu⟩ := one_tree (K := K) (t := t4) hk5 nq nu
      have hu4' : Dp K H5 u4 (.tuple (d.ts.take i)) := by
        rw [← tkd]
        exact doc_grb g5 hB4.lst (by rw [tkd]; exact hu4)
      exact fin H4 _ u4 _ t4 k ht40 ht45 slab.2.2 (by omega) (by omega) (g4.any.trans (g5.trans e3.any)) (hB5.gr e3) ((doc_grb g5 hB4.lst (hd3.gr g4)).gr e3) (hu4'.gr e3) hu
    · -- new children
      refine ⟨_, rfl, _, rfl, _, rfl, take_data hd3 fun H4 u4 g4 hu4 => ?_⟩
      have hB4 := hB3.gr g4
      have hs4 : SqT K H4 a vs := g4.sqT hs3
      have hst4 : SqT K H4 tp [.int x, p2] := g4.sqT (g03.sqTm hB.lst hst)
      have hk4 : Dp K H4 p2 k.data := (doc_grb g03 hB.lst h2).gr g4
      refine ⟨_, rfl, _, rfl, a, vs, _, _, rfl, rfl, hs4, atI_nat hv1, tp, _, 0, _, rfl, rfl, hst4, atI_nat (j := 0) rfl, ?_⟩
      refine ⟨_, rfl, _, rfl, _, rfl, a, vs, _, _, rfl, rfl, hs4, atI_nat hv1, tp, _, 1, _, rfl, rfl, hst4, atI_nat (j := 1) rfl, bx, cl, k, p2, rfl, hB4, hk4, slab.2.2, by omega, by omega, fun k' u' H5 hk1 hk2 hk3 g5 hB5 hku => ?_⟩
      refine ⟨len2, fun tq nq => ⟨(by decide : (1 : Nat) ≤ sizeLine), fun up nu => ?_⟩⟩
      obtain ⟨e3, hu⟩ := one_tree (K := K) (t := x) hku nq nu
      have hu4' : Dp K H5 u4 (.tuple (d.ts.take i)) := by
        rw [← tkd]
        exact doc_grb g5 hB4.lst (by rw [tkd]; exact hu4)
      exact fin H4 _ u4 _ x k' slab.1 slab.2.1 hk1 hk2 hk3 (g4.any.trans (g5.trans e3.any)) (hB5.gr e3) ((doc_grb g5 hB4.lst (hd3.gr g4)).gr e3) (hu4'.gr e3) hu
end
end LW
set_option maxHeartbeats 2000000
namespace LW
open PySem PySem.Spec PyProof.Rows L2
/-! ### all documents up to a size -/
def st3 (tbl : List (List Doc)) (many : Nat) (a : Int) (inner : Nat) (kids : Doc) : List Doc := (tbl.getD (many - 1 - inner) []).map fun rest => Doc.cons a kids rest
def st2 (tbl : List (List Doc)) (many : Nat) (a : Int) (inner : Nat) : List Doc := (tbl.getD inner []).flatMap (st3 tbl many a inner)
def st1 (tbl : List (List Doc)) (many : Nat) (a : Int) : List Doc := (List.range many).flatMap (st2 tbl many a)
def stepD (ls : List Int) (tbl : List (List Doc)) (many : Nat) : List Doc := ls.flatMap (st1 tbl many)
def tabD (ls : List Int) : Nat → List (List Doc)
  | 0 => [[.nil]]
  | n + 1 => tabD ls n ++ [stepD ls (tabD ls n) (n + 1)]
def allD (ls : List Int) (most : Nat) : List Doc := (tabD ls most).flatten
theorem tabD_len (ls : List Int) : ∀ n, (tabD ls n).length = n + 1
  | 0 => rfl
  | n + 1 => by simp [tabD, tabD_len ls n]
theorem flat_take {α β : Type} (f : α → List β) (l : List α) (i : Nat) (x : α) (h : l[i]? = some x) : (l.take (i + 1)).flatMap f = (l.take i).flatMap f ++ f x := by
  rw [List.take_add_one, h]
  simp
theorem flat_le {α β : Type} (f : α → List β) (l : List α) (i : Nat) (x : α) (h : l[i]? = some x) : ((l.take i).flatMap f).length + (f x).length ≤ (l.flatMap f).length := by
  have h2 : l.flatMap f = (l.take (i + 1)).flatMap f ++ (l.drop (i + 1)).flatMap f := by rw [← List.flatMap_append, List.take_append_drop]
  rw [h2, flat_take f l i x h, List.length_append, List.length_append]
  omega
theorem flat_tk_le {α β : Type} (f : α → List β) (l : List α) (i : Nat) : ((l.take i).flatMap f).length ≤ (l.flatMap f).length := by
  have h2 : l.flatMap f = (l.take i).flatMap f ++ (l.drop i).flatMap f := by rw [← List.flatMap_append, List.take_append_drop]
  rw [h2, List.length_append]
  omega
/-- a list of documents -/
abbrev DL (K : PySem.W.Frag) (H : Hp) (ys : List V) (ds : List Doc) : Prop := DpAll K H ys (ds.map Doc.data)
/-- a list of lists of documents -/
def RowAt (K : PySem.W.Frag) (H : Hp) (tb : Addr) (x : V) (ds : List Doc) : Prop := ∃ a ys, x = .ref a ∧ a ≠ tb ∧ H a = some (.lst ys) ∧ DL K H ys ds
theorem pure_docs : ∀ ds : List Doc, pureAll (ds.map Doc.data) = true
  | [] => rfl
  | d :: ds => by simp [pureAll, pure_data, pure_docs ds]
theorem RowAt.gr {K : PySem.W.Frag} {H H' : Hp} {tb : Addr} (g : Gr [tb] H H') (hm : ∀ b ∈ [tb], ∃ ys, H b = some (.lst ys)) (x : V) (ds : List Doc) (h : RowAt K H tb x ds) : RowAt K H' tb x ds := by
  obtain ⟨a, ys, e, n, h1, h2⟩ := h
  exact ⟨a, ys, e, n, g.lst (by simpa using n) h1, dpAll_grm g hm _ ys (pure_docs ds) h2⟩
theorem RowAt.gr0 {K : PySem.W.Frag} {H H' : Hp} {tb : Addr} (g : Gr [] H H') (x : V) (ds : List Doc) (h : RowAt K H tb x ds) : RowAt K H' tb x ds := by
  obtain ⟨a, ys, e, n, h1, h2⟩ := h
  exact ⟨a, ys, e, n, g.lst (by simp) h1, h2.gr g⟩
theorem paired_get {α β : Type} {F : α → β → Prop} : ∀ {xs : List α} {ws : List β} {i : Nat} {p : β}, Paired F xs ws → ws[i]? = some p → ∃ x, xs[i]? = some x ∧ F x p
  | _, _, _, _, .nil, h => by simp at h
  | _, _, 0, p, .cons h t, e => by simp at e; subst e; exact ⟨_, rfl, h⟩
  | _, _, i + 1, p, .cons h t, e => by
    obtain ⟨x, h1, h2⟩ := paired_get t (show _ = some p by simpa using e)
    exact ⟨x, by simpa using h1, h2⟩
theorem small4 {n : Nat} (h : n ≤ 100000) : n < sizeLine := Nat.lt_of_le_of_lt h (by decide)
theorem paired_rows {K : PySem.W.Frag} {H : Hp} {tb : Addr} {rows : List V} {tbl : List (List Doc)} {i : Nat} (h : Paired (RowAt K H tb) rows tbl) (hi : i < tbl.length) :
    ∃ a ys, rows[i]? = some (.ref a) ∧ a ≠ tb ∧ H a = some (.lst ys) ∧ DL K H ys (tbl.getD i []) := by
  obtain ⟨x, h1, a, ys, e, n, h2, h3⟩ := paired_get (p := tbl.getD i []) h (by rw [List.getD_eq_getElem?_getD, List.getElem?_eq_getElem hi]; rfl)
  exact ⟨a, ys, by rw [h1, e], n, h2, h3⟩
theorem DL.at {K : PySem.W.Frag} {H : Hp} {ys : List V} {ds : List Doc} (h : DL K H ys ds) {i : Nat} {y : V} (e : ys[i]? = some y) : ∃ d, ds[i]? = some d ∧ Dp K H y d.data := by
  obtain ⟨dd, h1, h2⟩ := h.get e
  rw [List.getElem?_map] at h1
  cases hd : ds[i]? with
  | none => rw [hd] at h1; cases h1
  | some d => rw [hd] at h1; cases h1; exact ⟨d, rfl, h2⟩
theorem DL.length {K : PySem.W.Frag} {H : Hp} {ys : List V} {ds : List Doc} (h : DL K H ys ds) : ys.length = ds.length := by
  have := DpAll.length h
  rwa [List.length_map] at this
theorem DL.app {K : PySem.W.Frag} {H : Hp} {ys zs : List V} {ds es : List Doc} (h : DL K H ys ds) (h2 : DL K H zs es) : DL K H (ys ++ zs) (ds ++ es) := by
  unfold DL
  rw [List.map_append]
  exact h.append h2
theorem getD_mem {tbl : List (List Doc)} {i : Nat} {d : Doc} (h : d ∈ tbl.getD i []) : d ∈ tbl.flatten := by
  rw [List.getD_eq_getElem?_getD] at h
  cases e : tbl[i]? with
  | none => rw [e] at h; cases h
  | some l => rw [e] at h; exact List.mem_flatten.mpr ⟨l, List.mem_of_getElem? e, h⟩
theorem atI_eq {xs : List V} {n : Nat} {v : V} {z : Int} (h : xs[n]? = some v) (e : z = (n : Int)) : atI xs z = some v := by
  subst e
  exact atI_nat h
theorem atI_nat0 {xs : List V} {j : Nat} {v : V} (h : xs[j]? = some v) : atI xs (0 + (j : Int)) = some v := by
  rw [Int.zero_add]
  exact atI_nat h
/-- found has grown to ds -/
def GrowB (K : PySem.W.Frag) (ll tb : Addr) (most i : Nat) (H' : Hp) (ds : List Doc) (σ : L2.St) (H2 : Hp) : Prop :=
  ∃ fa ys y5 y6 y7, σ = [some (.ref ll), some (.int most), some (.ref tb), some (.int (1 + i)), some (.ref fa), y5, y6, y7, none, none] ∧ Gr [] H' H2 ∧ H2 fa = some (.lst ys) ∧ fa ≠ tb ∧ DL K H2 ys ds
def GrowC (K : PySem.W.Frag) (ll tb : Addr) (most i : Nat) (a : Int) (H' : Hp) (ds : List Doc) (σ : L2.St) (H2 : Hp) : Prop :=
  ∃ fa ys y6 y7, σ = [some (.ref ll), some (.int most), some (.ref tb), some (.int (1 + i)), some (.ref fa), some (.int a), y6, y7, none, none] ∧ Gr [] H' H2 ∧ H2 fa = some (.lst ys) ∧ fa ≠ tb ∧ DL K H2 ys ds
def GrowD (K : PySem.W.Frag) (ll tb : Addr) (most i : Nat) (a : Int) (j : Nat) (H' : Hp) (ds : List Doc) (σ : L2.St) (H2 : Hp) : Prop :=
  ∃ fa ys y7, σ = [some (.ref ll), some (.int most), some (.ref tb), some (.int (1 + i)), some (.ref fa), some (.int a), some (.int (0 + j)), y7, none, none] ∧ Gr [] H' H2 ∧ H2 fa = some (.lst ys) ∧ fa ≠ tb ∧ DL K H2 ys ds
def spAll (K : PySem.W.Frag) : Sp := fun vs H Q _ => ∃ (ll : Addr) (ls : List Int) (most : Nat), vs = [.ref ll, .int most] ∧ H ll = some (.lst (ls.map V.int)) ∧ most ≤ 100 ∧ (∀ n ≤ most, ((tabD ls n).flatten).length ≤ 10000 ∧ ∀ d ∈ (tabD ls n).flatten, d.len ≤ 1000) ∧
  ∀ H' p ys, Gr [] H H' → H p = none → H' p = some (.lst ys) → DL K H' ys (allD ls most) → Q (.ref p) H'
section
variable {P : Program} {w : World} {K : PySem.W.Frag} {mg : Str → Option Value} {base : Heap} {f : Addr} {fd : FuncData}
abbrev nAll : List Str := ["labels", "most", "table", "many", "found", "label", "inner", "kids", "rest", "out"]
theorem sc_law_all : FnScope nAll ["labels", "most"] (defScope s__law_all) := ⟨rfl, rfl, rfl, by decide +kernel, rfl, by decide +kernel, by decide +kernel⟩
theorem ok_all (F : Fun K "_law_all" "_law_all" s__law_all f fd) (mr : mg "range" = none) : FnOk P w K mg base CX0 2 f fd ["labels", "most"] (spAll K) := by
  refine F.ok sc_law_all (fun vs H Q E h => ?_) (fun cdv A outer s H vs Q E hr h => ?_)
  · obtain ⟨_, _, _, rfl, _⟩ := h; rfl
  obtain ⟨ll, ls, most, rfl, hll, hmost, hbound, q⟩ := h
  have nd := sc_law_all.nd
  refine ⟨_, pss_cons (ps_set (i := 2) nd rfl (.inl rfl) (pe_lst (pa_cons (pe_lst (pa_cons (pe_tup pa_nil) pa_nil)) pa_nil)))
    (Evl.pss_cut (ps_for PassesOwn.never rfl (pi_range2 rfl mr (pa_cons pe_int (pa_cons (pe_op op_add (pv 1) pe_int) pa_nil))) (pg_name (i := 3) nd rfl (.inl rfl))
      (pss_cons (ps_set (i := 4) nd rfl (.inl rfl) (pe_lst pa_nil))
      (Evl.pss_cut (ps_for PassesOwn.never rfl (pi_list (pv 0)) (pg_name (i := 5) nd rfl (.inr rfl))
        (pss_one (ps_for PassesOwn.never rfl (pi_range1 rfl mr (pa_cons (pv 3) pa_nil)) (pg_name (i := 6) nd rfl (.inl rfl))
          (pss_one (ps_for PassesOwn.never rfl (pi_list (pe_ix ix_list (pv 2) (pv 6) (fun _ _ => rfl))) (pg_name (i := 7) nd rfl (.inr rfl))
            (pss_one (ps_set (i := 4) nd rfl (.inl rfl) (pe_op op_cat (pv 4)
              (pe_lc (own := [("rest", 8)]) (g := gName 8) (tt := tYes) rfl nd (pi_list (pe_ix ix_list (pv 2) (pe_op op_sub (pe_op op_sub (pv 3) pe_int) (pv 6)) (fun _ _ => rfl))) (blkOk_by (N := nAll) (sc := defScope s__law_all) (own := [("rest", 8)]) (by decide +kernel))
                (fun s H C cl fp => pg_name (i := 8) nd rfl (.inl rfl)) (fun s H C cl fp => pts_nil)
                (fun s H C cl fp => pe_op (r := rCatA K) op_catA (pe_tup (pa_cons (pe_tup (pa_cons (pv 5) (pa_cons (pv 7) pa_nil))) pa_nil)) (pv 8)))))))))))
      (pss_one (ps_expr (pe_bm PySem.F.plainAttrs_list PySem.F.slot_list_append PySem.F.type_list_append mt_append (pv 2) (pa_cons (pv 4) pa_nil)))))))
    (pss_cons (ps_set (i := 9) nd rfl (.inl rfl) (pe_lst pa_nil))
    (Evl.pss_cut (ps_for PassesOwn.never rfl (pi_list (pv 2)) (pg_name (i := 4) nd rfl (.inl rfl))
      (pss_one (ps_set (i := 9) nd rfl (.inl rfl) (pe_op op_cat (pv 9) (pv 4)))))
    (pss_one (ps_ret (pv 9)))))), ?_⟩
  refine ⟨Nat.zero_le _, fun e0 n0 => ⟨Nat.le_of_lt (small4 (n := 1) (by decide)), fun r0 nr => ⟨Nat.le_of_lt (small4 (n := 1) (by decide)), fun tb ntb => ?_⟩⟩⟩
  have g0 : Gr [] H (upd (upd (upd H e0 (.tup [])) r0 (.lst [.ref e0])) tb (.lst [.ref r0])) := (Gr.new n0).trans ((Gr.new nr).trans (Gr.new ntb))
  have tr : r0 ≠ tb := fun z => by rw [z] at nr; rw [← z, upd_same] at ntb; cases ntb
  have ntbH : H tb = none := (Gr.new n0 : Gr [] _ _).free _ ((Gr.new nr : Gr [] _ _).free _ ntb)
  have rs : (upd (upd (upd H e0 (.tup [])) r0 (.lst [.ref e0])) tb (.lst [.ref r0])) r0 = some (.lst [.ref e0]) := by rw [upd_ne tr, upd_same]
  have e0s : Dp K (upd (upd (upd H e0 (.tup [])) r0 (.lst [.ref e0])) tb (.lst [.ref r0])) (.ref e0) Doc.nil.data := .tup (SqT.of (((Gr.new nr).trans (Gr.new ntb) : Gr [] _ _).tup (by simp) upd_same)) .nil
  generalize hH1 : (upd (upd (upd H e0 (.tup [])) r0 (.lst [.ref e0])) tb (.lst [.ref r0])) = H1 at *
  have tbs : H1 tb = some (.lst [.ref r0]) := by rw [← hH1, upd_same]
  refine ⟨fun σ H' => ∃ rows y3 y4 y5 y6 y7, σ = [some (.ref ll), some (.int most), some (.ref tb), y3, y4, y5, y6, y7, none, none] ∧ Gr [] H H' ∧ H' tb = some (.lst rows) ∧ Paired (RowAt K H' tb) rows (tabD ls most), ?_, ?_⟩
  · refine ⟨_, rfl, _, _, rfl, rfl, _, _, rfl, ⟨by omega, by omega, by omega, by omega⟩, for_range (n := ((most : Int) + 1 - 1).toNat)
      (fun i σ H' => ∃ rows y3 y4 y5 y6 y7, σ = [some (.ref ll), some (.int most), some (.ref tb), y3, y4, y5, y6, y7, none, none] ∧ Gr [] H H' ∧ H' tb = some (.lst rows) ∧ Paired (RowAt K H' tb) rows (tabD ls i))
      ⟨_, none, none, none, none, none, rfl, g0, tbs, .cons ⟨r0, _, rfl, tr, rs, .cons e0s .nil⟩ .nil⟩ (fun i σ H' hi hP => ?_) (fun σ H' hP => by
        have : ((most : Int) + 1 - 1).toNat = most := by omega
        rw [this] at hP; exact hP)⟩
    have hi' : i + 1 ≤ most := by omega
    obtain ⟨rows, y3, y4, y5, y6, y7, rfl, g, htb, hrows⟩ := hP
    refine ⟨Nat.zero_le _, fun f0 nf => ?_⟩
    have gn : Gr [] H' (upd H' f0 (.lst [])) := Gr.new nf
    have nft : f0 ≠ tb := fun z => by rw [z, htb] at nf; cases nf
    have tl := tabD_len ls i
    have hb1 : (stepD ls (tabD ls i) (i + 1)).length ≤ 10000 := by
      have := (hbound (i + 1) hi').1
      rw [tabD, List.flatten_append, List.length_append] at this
      simp only [List.flatten_cons, List.flatten_nil, List.append_nil] at this
      omega
    have hb2 := (hbound i (by omega)).2
    generalize htbl : tabD ls i = tbl at *
    -- what stands while found grows
    refine ⟨GrowB K ll tb most i H' (stepD ls tbl (i + 1)), ?_, ?_⟩
    · refine ⟨_, rfl, ll, rfl, ⟨_, SqL.of (gn.lst (by simp) (g.lst (by simp) hll))⟩, for_list (xs := ls.map V.int) (fun k => GrowB K ll tb most i H' ((ls.take k).flatMap (st1 tbl (i + 1))))
        ⟨f0, [], _, _, _, rfl, gn, upd_same, nft, .nil⟩ (fun k σ H2 _ hP => ?_) (fun k x σ H2 hx hP => ?_) (fun σ H2 hP => ?_)⟩
      · obtain ⟨_, _, _, _, _, _, g2, _⟩ := hP
        exact SqL.of (g2.lst (by simp) (g.lst (by simp) hll))
      · obtain ⟨fa, ys, y5, y6, y7, rfl, g2, hf, nt2, hz⟩ := hP
        have hk : ls[k]? = some (ls.getD k 0) ∧ x = .int (ls.getD k 0) := by
          rw [List.getElem?_map] at hx
          cases e : ls[k]? with
          | none => rw [e] at hx; cases hx
          | some a => rw [e] at hx; cases hx; rw [List.getD_eq_getElem?_getD, e]; exact ⟨rfl, rfl⟩
        obtain ⟨hk, rfl⟩ := hk
        generalize ls.getD k 0 = a at hk ⊢
        have hf1 := flat_le (st1 tbl (i + 1)) ls k a hk
        rw [show ls.flatMap (st1 tbl (i + 1)) = stepD ls tbl (i + 1) from rfl] at hf1
        rw [flat_take (st1 tbl (i + 1)) ls k a hk]
        generalize (ls.take k).flatMap (st1 tbl (i + 1)) = P1 at hz hf1 ⊢
        refine ⟨_, rfl, _, rfl, by omega, by omega, for_range (n := (1 + (i : Int)).toNat) (fun j => GrowC K ll tb most i a H' (P1 ++ ((List.range (i + 1)).take j).flatMap (st2 tbl (i + 1) a)))
          ⟨fa, ys, _, _, rfl, g2, hf, nt2, by simpa using hz⟩ (fun j σ H3 hj hP => ?_) (fun σ H3 hP => ?_)⟩
        · obtain ⟨fa, ys, y6, y7, rfl, g3, hf, nt3, hz⟩ := hP
          have hj' : j < i + 1 := by omega
          have hj2 : (List.range (i + 1))[j]? = some j := by simp [hj']
          have hf2 := flat_le (st2 tbl (i + 1) a) (List.range (i + 1)) j j hj2
          rw [show (List.range (i + 1)).flatMap (st2 tbl (i + 1) a) = st1 tbl (i + 1) a from rfl] at hf2
          rw [flat_take (st2 tbl (i + 1) a) (List.range (i + 1)) j j hj2]
          generalize ((List.range (i + 1)).take j).flatMap (st2 tbl (i + 1) a) = P2 at hz hf2 ⊢
          have htb3 := g3.lst (by simp) htb
          obtain ⟨ra, xs, r1, r2, r3, r4⟩ := paired_rows (i := j) hrows (by omega)
          have r3' := g3.lst (by simp) r3
          refine ⟨_, rfl, _, rfl, tb, rows, _, _, rfl, rfl, SqL.of htb3, atI_nat0 r1, ra, rfl, ⟨_, SqL.of r3'⟩, for_list (xs := xs) (fun m => GrowD K ll tb most i a j H' (P1 ++ P2 ++ ((tbl.getD j []).take m).flatMap (st3 tbl (i + 1) a j)))
            ⟨fa, ys, _, rfl, g3, hf, nt3, by simpa using hz⟩ (fun m σ H4 _ hP => ?_) (fun m x σ H4 hx hP => ?_) (fun σ H4 hP => ?_)⟩
          · obtain ⟨_, _, _, _, g4, _⟩ := hP
            exact SqL.of (g4.lst (by simp) r3)
          · obtain ⟨fa, ys, y7, rfl, g4, hf, nt4, hz⟩ := hP
            obtain ⟨kd, hkd, hxd⟩ := r4.at hx
            have hf3 := flat_le (st3 tbl (i + 1) a j) (tbl.getD j []) m kd hkd
            rw [show (tbl.getD j []).flatMap (st3 tbl (i + 1) a j) = st2 tbl (i + 1) a j from rfl] at hf3
            rw [flat_take (st3 tbl (i + 1) a j) (tbl.getD j []) m kd hkd]
            generalize ((tbl.getD j []).take m).flatMap (st3 tbl (i + 1) a j) = P3 at hz hf3 ⊢
            have htb4 := g4.lst (by simp) htb
            obtain ⟨rb, zs, t1, t2, t3, t4⟩ := paired_rows (i := i + 1 - 1 - j) hrows (by omega)
            have t3' := g4.lst (by simp) t3
            have lz := DL.length t4
            have l3 : (st3 tbl (i + 1) a j kd).length = zs.length := by rw [lz]; unfold st3; rw [List.length_map]
            have lP := DL.length hz
            rw [List.length_append, List.length_append] at lP
            refine ⟨_, rfl, _, rfl, _, rfl, _, _, rfl, rfl, _, rfl, _, _, rfl, rfl, tb, rows, _, _, rfl, rfl, SqL.of htb4, atI_eq t1 (by omega), rb, rfl, ⟨_, SqL.of t3'⟩, fun D nD => lc_list (xs := zs)
              (fun n H5 => Gr [] H4 H5 ∧ ∃ us, H5 D = some (.lst us) ∧ DL K H5 us (((tbl.getD (i + 1 - 1 - j) []).take n).map fun rest => Doc.cons a kd rest)) ⟨Gr.new nD, [], upd_same, .nil⟩ (fun n H5 _ hP => SqL.of (hP.1.lst (by simp) t3')) (fun n z H5 hz5 hP => ?_) (fun H5 hP => ?_)⟩
            · obtain ⟨g5, us, hD, hus⟩ := hP
              obtain ⟨rd, hrd, hzd⟩ := t4.at hz5
              have hn : n < zs.length := (List.getElem?_eq_some_iff.mp hz5).1
              have hl5 := hb2 rd (getD_mem (i := i + 1 - 1 - j) (List.mem_of_getElem? hrd))
              refine ⟨rfl, _, rfl, _, rfl, len2, fun tp np => ⟨(by decide : (1 : Nat) ≤ sizeLine), fun up nu => ?_⟩⟩
              obtain ⟨e3, hu⟩ := one_tree (K := K) (t := a) (hxd.gr ((g4.trans g5))) np nu
              refine ⟨_, rfl, cat_data hu (((hzd.gr (g4.trans g5))).gr e3) (small_sz (by rw [Doc.ts_length]; show 1 + _ ≤ _; omega)) fun H6 u g6 hu6 => ?_⟩
              have lus := DL.length hus
              rw [List.length_map, List.length_take] at lus
              have g56 := e3.trans g6
              refine ⟨us, g56.lst (by simp) hD, small4 (by omega), (g5.trans g56).put0 nD, us ++ [u], upd_same, ?_⟩
              have gD : Gr [D] H6 (upd H6 D (.lst (us ++ [u]))) := Gr.put (g56.lst (by simp) hD) (fun _ z => by cases z) (by simp)
              have wD : ∀ b ∈ [D], ∃ ys, H6 b = some (.lst ys) := fun b hb => by rw [List.mem_singleton.mp hb]; exact ⟨_, g56.lst (by simp) hD⟩
              rw [List.take_add_one, hrd, Option.toList_some, List.map_append]
              exact dpAll_grm gD wD _ _ (pure_docs _) (DL.app (DpAll.gr hus g56) (.cons hu6 .nil))
            · obtain ⟨g5, us, hD, hus⟩ := hP
              rw [lz, List.take_length] at hus
              have lus := DL.length hus
              rw [List.length_map] at lus
              have hf5 := g5.lst (by simp) hf
              refine ⟨fa, D, ys, us, rfl, rfl, hf5, hD, Nat.le_of_lt (small4 (by omega)), fun p np => ?_⟩
              have gp : Gr [] H5 (upd H5 p (.lst (ys ++ us))) := Gr.new np
              refine ⟨p, ys ++ us, some x, rfl, (g4.trans g5).trans gp, upd_same, fun e => ?_, ?_⟩
              · rw [e, g5.lst (by simp) htb4] at np; cases np
              · rw [← List.append_assoc]
                exact DL.app (DpAll.gr hz (g5.trans gp)) (DpAll.gr hus gp)
          · obtain ⟨fa, ys, y7, rfl, g4, hf, nt4, hz⟩ := hP
            rw [DL.length r4, List.take_length] at hz
            exact ⟨fa, ys, _, _, rfl, g4, hf, nt4, by rw [← List.append_assoc]; exact hz⟩
        · obtain ⟨fa, ys, y6, y7, rfl, g3, hf, nt3, hz⟩ := hP
          have e : (1 + (i : Int)).toNat = i + 1 := by omega
          rw [e, List.take_of_length_le (by simp)] at hz
          exact ⟨fa, ys, _, _, _, rfl, g3, hf, nt3, hz⟩
      · obtain ⟨fa, ys, y5, y6, y7, rfl, g2, hf, nt2, hz⟩ := hP
        rw [List.length_map, List.take_length] at hz
        exact ⟨fa, ys, _, _, _, rfl, g2, hf, nt2, hz⟩
    · rintro σ H2 ⟨fa, ys, y5, y6, y7, rfl, g2, hf, nt2, hz⟩
      have htb2 := g2.lst (by simp) htb
      have lr := hrows.length
      refine ⟨_, rfl, .inl ⟨rfl, _, SqL.of htb2⟩, _, rfl, tb, rows, _, rfl, rfl, htb2, small4 (by omega), ?_⟩
      have gw : Gr [tb] H2 (upd H2 tb (.lst (rows ++ [.ref fa]))) := Gr.put htb2 (fun _ z => by cases z) (by simp)
      have wl : ∀ b ∈ [tb], ∃ ys, H2 b = some (.lst ys) := fun b hb => by rw [List.mem_singleton.mp hb]; exact ⟨_, htb2⟩
      refine ⟨rows ++ [.ref fa], _, _, _, _, _, rfl, (g.trans g2).put0 ntbH, upd_same, ?_⟩
      rw [tabD, htbl]
      refine Paired.snoc (L2.Paired.mapP hrows fun x ds h => RowAt.gr gw wl x ds (RowAt.gr0 g2 x ds h)) ⟨fa, ys, rfl, nt2, by rw [upd_ne nt2]; exact hf, dpAll_grm gw wl _ _ (pure_docs _) hz⟩
  · rintro σ H' ⟨rows, y3, y4, y5, y6, y7, rfl, g, htb, hrows⟩
    refine ⟨Nat.zero_le _, fun o0 no => ?_⟩
    have gn : Gr [] H' (upd H' o0 (.lst [])) := Gr.new no
    have lt := hrows.length
    have hb := hbound most (Nat.le_refl _)
    refine ⟨fun σ H2 => ∃ oa zs y3 y4 y5 y6 y7, σ = [some (.ref ll), some (.int most), some (.ref tb), y3, y4, y5, y6, y7, none, some (.ref oa)] ∧ Gr [] H' H2 ∧ H' oa = none ∧ H2 oa = some (.lst zs) ∧ DL K H2 zs (allD ls most), ?_, ?_⟩
    · refine ⟨_, rfl, tb, rfl, ⟨rows, SqL.of (gn.lst (by simp) htb)⟩, for_list (xs := rows) (fun k σ H2 => ∃ oa zs y3 y4 y5 y6 y7, σ = [some (.ref ll), some (.int most), some (.ref tb), y3, y4, y5, y6, y7, none, some (.ref oa)] ∧ Gr [] H' H2 ∧ H' oa = none ∧ H2 oa = some (.lst zs) ∧ DL K H2 zs ((tabD ls most).take k).flatten)
        ⟨o0, [], _, _, _, _, _, rfl, gn, no, upd_same, .nil⟩ (fun k σ H2 _ hP => ?_) (fun k x σ H2 hx hP => ?_) (fun σ H2 hP => ?_)⟩
      · obtain ⟨_, _, _, _, _, _, _, _, g2, _⟩ := hP
        exact SqL.of (g2.lst (by simp) htb)
      · obtain ⟨oa, zs, y3, y4, y5, y6, y7, rfl, g2, no2, ho, hz⟩ := hP
        have hk : k < rows.length := (List.getElem?_eq_some_iff.mp hx).1
        obtain ⟨ra, ys, h1, h2, h3, h4⟩ := paired_rows hrows (by rw [← lt]; exact hk)
        rw [h1] at hx
        cases hx
        have ly := DL.length h4
        have lz := DL.length hz
        have step : ((tabD ls most).take (k + 1)).flatten = ((tabD ls most).take k).flatten ++ (tabD ls most).getD k [] := by
          have := flat_take (fun (x : List Doc) => x) (tabD ls most) k ((tabD ls most).getD k []) (by rw [List.getD_eq_getElem?_getD, List.getElem?_eq_getElem (by omega)]; rfl)
          simpa [List.flatMap_id'] using this
        have lle := flat_tk_le (fun (x : List Doc) => x) (tabD ls most) (k + 1)
        simp only [List.flatMap_id'] at lle
        rw [step, List.length_append] at lle
        refine ⟨_, rfl, _, rfl, oa, ra, zs, ys, rfl, rfl, ho, g2.lst (by simp) h3, Nat.le_of_lt (small4 (by have := hb.1; omega)), fun p np => ?_⟩
        have gp : Gr [] H2 (upd H2 p (.lst (zs ++ ys))) := Gr.new np
        refine ⟨p, _, _, _, _, _, _, rfl, g2.trans gp, g2.free _ np, upd_same, ?_⟩
        rw [step]
        exact DL.app (DpAll.gr hz gp) (DpAll.gr h4 (g2.trans gp))
      · obtain ⟨oa, zs, y3, y4, y5, y6, y7, rfl, g2, no2, ho, hz⟩ := hP
        refine ⟨oa, zs, _, _, _, _, _, rfl, g2, no2, ho, ?_⟩
        rw [lt, List.take_length] at hz
        exact hz
    · rintro σ H2 ⟨oa, zs, y3, y4, y5, y6, y7, rfl, g2, no2, ho, hz⟩
      exact ⟨_, rfl, q H2 oa zs (g.trans g2) (g.free _ no2) ho hz⟩
end
end LW
set_option maxHeartbeats 2000000
namespace LW
open PySem PySem.Spec PyProof.Rows L2
theorem doc_canLay : ∀ d : Doc, PyData.canLayAll0 d.ts = true
  | .nil => rfl
  | .cons a k r => by simp [Doc.ts, PyData.canLayAll0, PyData.canLay0, doc_canLay k, doc_canLay r]
theorem doc_depth : ∀ d : Doc, PyData.depthAll d.ts ≤ 2 * d.dep
  | .nil => Nat.le_refl _
  | .cons a k r => by
    have h1 := doc_depth k
    have h2 := doc_depth r
    simp only [Doc.ts, PyData.depthAll, PyData.depth, Doc.dep]
    omega
theorem doc_shaped {d : Doc} (h : d.dep ≤ 30) : SeqAt.shaped d.data = true := by
  have h1 := doc_depth d
  unfold SeqAt.shaped Doc.data
  rw [PyData.canLay0, doc_canLay, PyData.depth, Bool.true_and]
  exact decide_eq_true (by omega)
theorem doc_eqv : ∀ d e : Doc, PyData.eqvAll d.ts e.ts = decide (d = e)
  | .nil, .nil => by simp [Doc.ts, PyData.eqvAll]
  | .nil, .cons b l s => by simp [Doc.ts, PyData.eqvAll]
  | .cons a k r, .nil => by simp [Doc.ts, PyData.eqvAll]
  | .cons a k r, .cons b l s => by
    simp only [Doc.ts, PyData.eqvAll, PyData.eqv, doc_eqv k l, doc_eqv r s]
    by_cases h1 : a = b <;> by_cases h2 : k = l <;> by_cases h3 : r = s <;> simp [h1, h2, h3]
theorem doc_eqvD (d e : Doc) : PyData.eqv d.data e.data = decide (d = e) := by
  unfold Doc.data
  rw [PyData.eqv]
  exact doc_eqv d e
def spBox (K : PySem.W.Frag) : Sp := fun vs H Q _ => ∃ (a : Addr) (ns : List Int), vs = [.ref a] ∧ SqL K H a (ns.map V.int) ∧ ns.length ≤ 1000 ∧ ∀ bx cl H', Gr [] H H' → BoxAt H' bx cl → H bx = none → H cl = none → Q (.ref bx) H'
def spIsNum (K : PySem.W.Frag) : Sp := fun vs H Q _ => ∃ (d : PyData) (v : V), vs = [v] ∧ Dp K H v d ∧ Q (.bl (match d with | .int _ => true | _ => false)) H
section
variable {P : Program} {w : World} {K : PySem.W.Frag} {mg : Str → Option Value} {base : Heap} {f : Addr} {fd : FuncData}
theorem sc_law_box : FnScope ["script", "x"] ["script"] (defScope s__law_box) := ⟨rfl, rfl, rfl, by decide +kernel, rfl, by decide +kernel, by decide +kernel⟩
theorem sc_law_isnum : FnScope ["x"] ["x"] (defScope s__law_is_number) := ⟨rfl, rfl, rfl, by decide +kernel, rfl, by decide +kernel, by decide +kernel⟩
theorem ok_isnum (F : Fun K "_law_is_number" "_law_is_number" s__law_is_number f fd) (mi : mg "isinstance" = none) (mt : mg "int" = none) (mb : mg "bool" = none) : FnOk P w K mg base CX0 1 f fd ["x"] (spIsNum K) := by
  refine F.ok sc_law_isnum (fun vs H Q E h => ?_) (fun cdv A outer s H vs Q E hr h => ?_)
  · obtain ⟨d, v, rfl, _⟩ := h; rfl
  obtain ⟨d, v, rfl, hd, q⟩ := h
  refine ⟨_, pss_one (ps_ret (pe_and (pe_callB call_isi (by rfl) mi b_isinstance (pa_cons (pv 0) (pa_cons (pe_bltn (v := .ty "int") (by rfl) mt b_int rfl) pa_nil)))
    (pe_one (pe_not (pe_callB call_isi (by rfl) mi b_isinstance (pa_cons (pv 0) (pa_cons (pe_bltn (v := .ty "bool") (by rfl) mb b_bool rfl) pa_nil))))))), ?_⟩
  refine ⟨_, rfl, _, _, _, _, _, rfl, .ty "int", hd.ty, kit_int d, _, rfl, ?_⟩
  cases d with
  | int i =>
    cases hd
    exact iteT ⟨_, rfl, _, _, _, _, _, rfl, .ty "bool", L2.Dp.ty (.int i), kit_bool (.int i), _, rfl, q⟩
  | bool b =>
    cases hd
    exact iteT ⟨_, rfl, _, _, _, _, _, rfl, .ty "bool", L2.Dp.ty (.bl b), kit_bool (.bool b), _, rfl, q⟩
  | none => exact iteF q
  | str x => exact iteF q
  | list xs => exact iteF q
  | tuple xs => exact iteF q
  | dict xs => exact iteF q
theorem ok_box (F : Fun K "_law_box" "_law_box" s__law_box f fd) (mi : mg "int" = none) (ma : mg "abs" = none) : FnOk P w K mg base CX0 1 f fd ["script"] (spBox K) := by
  refine F.ok sc_law_box (fun vs H Q E h => ?_) (fun cdv A outer s H vs Q E hr h => ?_)
  · obtain ⟨_, _, rfl, _⟩ := h; rfl
  obtain ⟨a, ns, rfl, hS, hl, q⟩ := h
  have nd := sc_law_box.nd
  refine ⟨_, pss_one (ps_ret (pe_lst (pa_cons pe_int (pa_cons pe_int (pa_cons pe_int (pa_cons
    (pe_lc (own := [("x", 1)]) (g := gName 1) (tt := tYes) rfl nd (pi_list (pv 0)) (blkOk_by (N := ["script", "x"]) (sc := defScope s__law_box) (own := [("x", 1)]) (by decide +kernel))
      (fun s H C cl fp => pg_name (i := 1) nd rfl (.inl rfl)) (fun s H C cl fp => pts_nil)
      (fun s H C cl fp => pe_callB call_abs (by rfl) ma b_abs (pa_cons (pe_callTy call_int1 (by rfl) mi b_int (pa_cons (pv 1) pa_nil)) pa_nil))) pa_nil)))))), ?_⟩
  refine ⟨_, rfl, a, rfl, ⟨_, hS⟩, fun D nD => lc_list (xs := ns.map V.int) (fun n H5 => Gr [] H H5 ∧ ∃ us : List Int, H5 D = some (.lst (us.map V.int)) ∧ us.length = n) ⟨Gr.new nD, [], upd_same, rfl⟩ (fun n H5 _ hP => hP.1.sqL hS) (fun n z H5 hz hP => ?_) (fun H5 hP => ?_)⟩
  · obtain ⟨g, us, hD, hu⟩ := hP
    obtain ⟨i, hi, rfl⟩ : ∃ i, ns[n]? = some i ∧ z = .int i := by
      rw [List.getElem?_map] at hz
      cases e : ns[n]? with
      | none => rw [e] at hz; cases hz
      | some a => rw [e] at hz; cases hz; exact ⟨_, rfl, rfl⟩
    have hn : n < ns.length := (List.getElem?_eq_some_iff.mp hi).1
    refine ⟨rfl, _, rfl, .inl ⟨_, rfl, _, rfl, _, hD, small4 (by rw [List.length_map]; omega), g.put0 nD, us ++ [if i < 0 then -i else i], ?_, by rw [List.length_append, hu]; rfl⟩⟩
    rw [upd_same, List.map_append]
    rfl
  · obtain ⟨g, us, hD, hu⟩ := hP
    refine ⟨(by decide : (4 : Nat) ≤ sizeLine), fun bx nb => ?_⟩
    have gb : Gr [] H5 (upd H5 bx (.lst [.int 0, .int 0, .int 0, .ref D])) := Gr.new nb
    refine q bx D _ (g.trans gb) ⟨us, 0, 0, 0, upd_same, gb.lst (by simp) hD, fun e => ?_, Int.le_refl 0⟩ (g.free _ nb) nD
    rw [e, nb] at hD
    cases hD
end
end LW
set_option maxHeartbeats 2000000
namespace LW
open PySem PySem.Spec PyProof.Rows L2
theorem every_bound : ∀ n ≤ 3, ((tabD [1, 3] n).flatten).length ≤ 10000 ∧ ∀ d ∈ (tabD [1, 3] n).flatten, d.len ≤ 1000 := by decide +kernel
theorem every_len : (allD [1, 3] 3).length = 51 := by decide +kernel
def okB (d : Doc) : Bool := d.lab && decide (d.size ≤ 300) && decide (d.dep ≤ 30)
theorem every_okB : ∀ i < 51, okB ((allD [1, 3] 3).getD i .nil) = true := by decide +kernel
theorem every_ok (i : Nat) (h : i < 51) : ((allD [1, 3] 3).getD i .nil).ok := by
  have := every_okB i h
  unfold okB at this
  simp only [Bool.and_eq_true, decide_eq_true_eq] at this
  exact ⟨this.1.1, this.1.2, this.2⟩
theorem every_ord : ∀ i < 51, ∀ j < 51, ordS ((allD [1, 3] 3).getD i .nil) ((allD [1, 3] 3).getD j .nil) = if i = j then 0 else if i < j then -1 else 1 := by decide +kernel
def spLaw (K : PySem.W.Frag) (T : Addr) : Sp := fun vs H Q _ => ∃ (a : Addr) (ns : List Int), vs = [.ref a] ∧ SqL K H a (ns.map V.int) ∧ ns.length ≤ 63 ∧ GxR.TabG H T ∧ ∀ H', Q (.bl true) H'
section
variable {P : Program} {w : World} {K : PySem.W.Frag} {mg : Str → Option Value} {base : Heap} {f : Addr} {fd : FuncData}
abbrev nLaw : List Str := ["script", "box", "d", "e", "one", "due", "told", "every", "two"]
theorem sc_law : FnScope nLaw ["script"] (defScope s_law) := ⟨rfl, rfl, rfl, by decide +kernel, rfl, by decide +kernel, by decide +kernel⟩
theorem ok_law {T : Addr} (F : Fun K "law" "law" s_law f fd) (fb : Fn P w K mg base CX0 49 "_law_box" ["script"] (spBox K)) (fd' : Fn P w K mg base CX0 49 "_law_document" ["box", "labels", "most", "deep"] (spDocL K 5)) (ft : Fn P w K mg base CX0 49 "_law_take" ["box", "m"] spTake)
    (fn : Fn P w K mg base CX0 49 "_law_near" ["box", "d"] (spNear K 5)) (fu : Fn P w K mg base CX0 49 "_law_is_number" ["x"] (spIsNum K)) (fs : Fn P w K mg base CX0 49 "size" ["d"] (spSizeV K T)) (fz : Fn P w K mg base CX0 49 "_law_size" ["d"] (spSizeL K 40))
    (fe : Fn P w K mg base CX0 49 "before" ["d", "e"] (spBeforeV K T)) (fo : Fn P w K mg base CX0 49 "_law_order" ["d", "e"] (spOrdL K 6)) (fa : Fn P w K mg base CX0 49 "_law_all" ["labels", "most"] (spAll K)) (ml : mg "len" = none) :
    FnOk P w K mg base CX0 50 f fd ["script"] (spLaw K T) := by
  refine F.ok sc_law (fun vs H Q E h => ?_) (fun cdv A outer s H vs Q E hr h => ?_)
  · obtain ⟨_, _, rfl, _⟩ := h; rfl
  obtain ⟨a, ns, rfl, hS, hlen, hT, q⟩ := h
  have nd := sc_law.nd
  refine ⟨_, pss_cons (ps_set (i := 1) nd rfl (.inl rfl) (pe_fn fb hr rfl pass0 (pa_cons (pv 0) pa_nil)))
    (pss_cons (ps_set (i := 2) nd rfl (.inl rfl) (pe_fn fd' hr rfl pass0 (pa_cons (pv 1) (pa_cons (pe_lst (pa_cons pe_int (pa_cons pe_int (pa_cons pe_int (pa_cons pe_int (pa_cons pe_int pa_nil)))))) (pa_cons pe_int (pa_cons pe_int pa_nil))))))
    (pss_cons (ps_set (i := 3) nd rfl (.inl rfl) (pe_fn fd' hr rfl pass0 (pa_cons (pv 1) (pa_cons (pe_lst (pa_cons pe_int (pa_cons pe_int (pa_cons pe_int (pa_cons pe_int (pa_cons pe_int pa_nil)))))) (pa_cons pe_int (pa_cons pe_int pa_nil))))))
    (Evl.pss_cut (ps_if (pt_cmpR op_eq (pe_fn ft hr rfl pass0 (pa_cons (pv 1) (pa_cons pe_int pa_nil))) pe_int (nomark _)) (pss_one (ps_set (i := 3) nd rfl (.inl rfl) (pe_fn fn hr rfl pass0 (pa_cons (pv 1) (pa_cons (pv 2) pa_nil))))) pss_nil)
    (pss_cons (ps_for PassesOwn.never rfl (pi_tup (pe_tup (pa_cons (pv 2) (pa_cons (pv 3) pa_nil)))) (pg_name (i := 4) nd rfl (.inl rfl))
      (pss_one (ps_if (PW.pt (pw_or (pt_not (pt_val (pe_fn fu hr rfl pass0 (pa_cons (pe_fn fs hr rfl pass0 (pa_cons (pv 4) pa_nil)) pa_nil))))
        (pw_or (pt_cmpR op_ne (pe_fn fs hr rfl pass0 (pa_cons (pv 4) pa_nil)) (pe_fn fz hr rfl pass0 (pa_cons (pv 4) pa_nil)) (nomark _))
        (pw_or1 (pt_cmpR op_ne (pe_fn fe hr rfl pass0 (pa_cons (pv 4) (pa_cons (pv 4) pa_nil))) pe_int (nomark _)))))) (pss_one (ps_ret pe_bl)) pss_nil)))
    (pss_cons (ps_set (i := 5) nd rfl (.inl rfl) (pe_fn fo hr rfl pass0 (pa_cons (pv 2) (pa_cons (pv 3) pa_nil))))
    (pss_cons (ps_set (i := 6) nd rfl (.inl rfl) (pe_fn fe hr rfl pass0 (pa_cons (pv 2) (pa_cons (pv 3) pa_nil))))
    (pss_cons (ps_if (PW.pt (pw_or (pt_not (pt_val (pe_fn fu hr rfl pass0 (pa_cons (pv 6) pa_nil))))
        (pw_or (pt_cmpR op_ne (pv 6) (pv 5) (nomark _))
        (pw_or (pt_cmpR op_ne (pe_fn fe hr rfl pass0 (pa_cons (pv 3) (pa_cons (pv 2) pa_nil))) (pe_un un_neg (pv 5)) (nomark _))
        (pw_or1 (pt_cmpR op_ne (pe_cmpR op_eq (pv 5) pe_int (nomark _)) (pe_cmpR (op_eqD hr.units) (pv 2) (pv 3) (nomark _)) (nomark _))))))) (pss_one (ps_ret pe_bl)) pss_nil)
    (pss_cons (ps_set (i := 7) nd rfl (.inl rfl) (pe_fn fa hr rfl pass0 (pa_cons (pe_lst (pa_cons pe_int (pa_cons pe_int pa_nil))) (pa_cons pe_int pa_nil))))
    (pss_cons (ps_par (i := 4) (j := 8) (by rfl) nd rfl rfl (by decide) rfl rfl (pa_cons (pe_fn ft hr rfl pass0 (pa_cons (pv 1) (pa_cons (pe_callB call_len_seq (by rfl) ml PySem.boot_len (pa_cons (pv 7) pa_nil)) pa_nil)))
      (pa_cons (pe_fn ft hr rfl pass0 (pa_cons (pv 1) (pa_cons (pe_callB call_len_seq (by rfl) ml PySem.boot_len (pa_cons (pv 7) pa_nil)) pa_nil))) pa_nil)) (by rfl))
    (pss_cons (ps_set (i := 5) nd rfl (.inl rfl) (pe_ifExp (pt_cmpR op_eq (pv 4) (pv 8) (nomark _)) pe_int (pe_ifExp (pt_cmpR op_lt (pv 4) (pv 8) (nomark _)) (pe_un un_neg pe_int) pe_int)))
    (pss_one (ps_ret (pe_cmpR op_eq (pe_fn fe hr rfl pass0 (pa_cons (pe_ix ix_list (pv 7) (pv 4) (fun _ _ => rfl)) (pa_cons (pe_ix ix_list (pv 7) (pv 8) (fun _ _ => rfl)) pa_nil))) (pv 5) (nomark _)))))))))))))), ?_⟩
  refine ⟨_, rfl, a, ns, rfl, hS, by omega, fun bx cl H1 g1 hB1 nbx ncl => ?_⟩
  have hT1 := g1.tab _ hT
  clear hS hT g1 nbx ncl
  -- d
  refine ⟨_, rfl, (by decide : (5 : Nat) ≤ sizeLine), fun ll nl => ?_⟩
  have gl : Gr [] H1 (upd H1 ll (.lst [.int 0, .int 1, .int 2, .int 3, .int 4])) := Gr.new nl
  refine ⟨bx, cl, ll, [0, 1, 2, 3, 4], 8, 4, rfl, hB1.gr gl, upd_same, (hB1.ne nl).1, by decide, by decide, by decide, by decide, by decide, by decide, by decide, fun d v H2 dl dz dp g2 hB2 hd => ?_⟩
  have hT2 := g2.tab _ (gl.tab _ hT1)
  clear hT1 gl nl g2 hB1
  -- e
  refine ⟨_, rfl, (by decide : (5 : Nat) ≤ sizeLine), fun ll nl => ?_⟩
  have gl : Gr [] H2 (upd H2 ll (.lst [.int 0, .int 1, .int 2, .int 3, .int 4])) := Gr.new nl
  refine ⟨bx, cl, ll, [0, 1, 2, 3, 4], 8, 4, rfl, hB2.gr gl, upd_same, (hB2.ne nl).1, by decide, by decide, by decide, by decide, by decide, by decide, by decide, fun e0 u0 H3 e0l e0z e0p g3 hB3 he0 => ?_⟩
  have hT3 := g3.tab _ (gl.tab _ hT2)
  have hd3 : Dp K H3 v d.data := doc_grb g3 (hB2.gr gl).lst (hd.gr gl)
  clear hT2 gl nl g3 hB2 hd
  refine ⟨fun σ H' => ∃ (e : Doc) (u : V), σ = [some (.ref a), some (.ref bx), some v, some u, none, none, none, none, none] ∧ GxR.TabG H' T ∧ BoxAt H' bx cl ∧ Dp K H' v d.data ∧ Dp K H' u e.data ∧ e.lab = true ∧ e.size ≤ 9 ∧ e.dep ≤ 5, ?_, ?_⟩
  · refine ⟨_, rfl, bx, cl, 2, rfl, by decide, by decide, hB3, fun t H4 _ _ g4 hB4 => ⟨rfl, _, rfl, ?_⟩⟩
    have hT4 := g4.tab _ hT3
    have hd4 : Dp K H4 v d.data := doc_grb g4 hB3.lst hd3
    have he4 : Dp K H4 u0 e0.data := doc_grb g4 hB3.lst he0
    refine ite2 (fun c => ?_) (fun c => ⟨e0, u0, rfl, hT4, hB4, hd4, he4, e0l, by omega, by omega⟩)
    refine ⟨_, rfl, _, rfl, bx, cl, d, v, rfl, hB4, hd4, dl, by omega, by omega, fun e u H5 el ez ep g5 hB5 he5 => ?_⟩
    exact ⟨e, u, rfl, g5.tab _ hT4, hB5, doc_grb g5 hB4.lst hd4, he5, el, by omega, by omega⟩
  rintro σ H4 ⟨e, u, rfl, hT4, hB4, hd4, he4, el, ez, ep⟩
  clear hT3 hB3 hd3 he0 e0l e0z e0p
  have dok : d.ok := ⟨dl, by omega, by omega⟩
  have eok : e.ok := ⟨el, by omega, by omega⟩
  -- for one in (d, e)
  refine ⟨_, rfl, _, rfl, len2, fun tp np => ?_⟩
  have gt : Gr [] H4 (upd H4 tp (.tup [v, u])) := Gr.new np
  refine ⟨tp, rfl, ⟨_, SqT.of upd_same⟩, for_tup (xs := [v, u]) (fun i σ H' => ∃ y4, σ = [some (.ref a), some (.ref bx), some v, some u, y4, none, none, none, none] ∧ GxR.TabG H' T ∧ BoxAt H' bx cl ∧ Dp K H' v d.data ∧ Dp K H' u e.data ∧ H' tp = some (.tup [v, u]))
    ⟨none, rfl, gt.tab _ hT4, hB4.gr gt, hd4.gr gt, he4.gr gt, upd_same⟩ (fun i σ H' _ hP => ?_) (fun i x σ H' hx hP => ?_) (fun σ H' hP => ?_)⟩
  · obtain ⟨_, _, _, _, _, _, h⟩ := hP
    exact SqT.of h
  · obtain ⟨y4, rfl, hT5, hB5, hd5, he5, ht5⟩ := hP
    obtain ⟨c, hc, cok⟩ : ∃ c : Doc, Dp K H' x c.data ∧ c.ok := by
      match i, hx with
      | 0, hx => cases hx; exact ⟨d, hd5, dok⟩
      | 1, hx => cases hx; exact ⟨e, he5, eok⟩
      | _ + 2, hx => cases hx
    refine ⟨_, rfl, c, x, rfl, hc, cok, hT5, fun H6 g6 => ⟨.int c.size, _, rfl, .int _, _, rfl, iteF ?_⟩⟩
    refine ⟨_, rfl, c, x, rfl, hc.gr g6, cok, g6.tab _ hT5, fun H7 g7 => ⟨_, rfl, c, x, rfl, hc.gr (g6.trans g7), by have := cok.2.2; omega, cok.2.1, fun H8 g8 => ?_⟩⟩
    have gg := g6.trans (g7.trans g8)
    refine ⟨rfl, _, rfl, ?_⟩
    rw [decide_eq_true rfl]
    refine iteF ⟨_, rfl, _, rfl, c, c, x, x, rfl, hc.gr gg, hc.gr gg, cok, cok, gg.tab _ hT5, fun H9 g9 => ?_⟩
    rw [cmp_ord, ordS_refl]
    exact ⟨rfl, _, rfl, iteF ⟨_, rfl, (gg.trans g9).tab _ hT5, hB5.gr (gg.trans g9), hd5.gr (gg.trans g9), he5.gr (gg.trans g9), (gg.trans g9).tup (by simp) ht5⟩⟩
  · obtain ⟨y4, rfl, hT5, hB5, hd5, he5, ht5⟩ := hP
    clear hT4 hB4 hd4 he4 gt
    refine ⟨_, rfl, _, rfl, d, e, v, u, rfl, hd5, he5, by omega, by omega, by omega, by omega, by omega, fun H6 g6 => ?_⟩
    refine ⟨_, rfl, _, rfl, d, e, v, u, rfl, hd5.gr g6, he5.gr g6, dok, eok, g6.tab _ hT5, fun H7 g7 => ?_⟩
    rw [cmp_ord]
    have g67 := g6.trans g7
    refine ⟨_, rfl, .int (ordS d e), _, rfl, .int _, _, rfl, iteF ⟨_, rfl, _, rfl, rfl, _, rfl, ?_⟩⟩
    rw [decide_eq_true rfl]
    refine iteF ⟨_, rfl, _, rfl, e, d, u, v, rfl, he5.gr g67, hd5.gr g67, eok, dok, g67.tab _ hT5, fun H8 g8 => ?_⟩
    rw [cmp_ord]
    have g68 := g67.trans g8
    refine ⟨_, rfl, _, rfl, rfl, _, rfl, ?_⟩
    rw [ordS_neg d e, decide_eq_true rfl]
    refine iteF ⟨_, rfl, rfl, _, rfl, _, rfl, _, _, hd5.gr g68, he5.gr g68, doc_shaped dok.2.2, doc_shaped eok.2.2, rfl, _, rfl, ?_⟩
    have same : decide (V.int (ordS d e) = V.int 0) = PyData.eqv d.data e.data := by
      rw [doc_eqvD]
      by_cases h : d = e
      · subst h
        rw [ordS_refl, decide_eq_true rfl, decide_eq_true rfl]
      · rw [decide_eq_false h, decide_eq_false fun z => h (ordS_eq (V.int.inj z))]
    rw [same, decide_eq_true rfl]
    refine iteF ?_
    -- every
    have hT8 := g68.tab _ hT5
    have hB8 := hB5.gr g68
    clear g6 g7 g67 g8 hT5 hB5 hd5 he5 ht5 same
    refine ⟨(by decide : (2 : Nat) ≤ sizeLine), fun l3 n3 => ?_⟩
    have gl : Gr [] H8 (upd H8 l3 (.lst [.int 1, .int 3])) := Gr.new n3
    refine ⟨l3, [1, 3], 3, rfl, upd_same, by decide, every_bound, fun H9 ep ys g9 nep hep hys => ?_⟩
    have hT9 := g9.tab _ (gl.tab _ hT8)
    have hB9 := (hB8.gr gl).gr g9
    have ly : ys.length = 51 := by rw [DL.length hys, every_len]
    have epb : ep ≠ bx := ((hB8.gr gl).ne nep).1
    refine ⟨_, rfl, _, rfl, ep, ys, rfl, .inl (SqL.of hep), bx, cl, _, rfl, by omega, by omega, hB9, fun t1 H10 ha0 ha1 g10 hB10 => ?_⟩
    have hep10 := g10.lst (by simpa using epb) hep
    refine ⟨_, rfl, _, rfl, ep, ys, rfl, .inl (SqL.of hep10), bx, cl, _, rfl, by omega, by omega, hB10, fun t2 H11 hb0 hb1 g11 hB11 => ⟨_, _, rfl, ?_⟩⟩
    have hep11 := g11.lst (by simpa using epb) hep10
    have hT11 := g11.tab _ (g10.tab _ hT9)
    have hys11 : DL K H11 ys (allD [1, 3] 3) := dpAll_grm g11 hB10.lst _ _ (pure_docs _) (dpAll_grm g10 hB9.lst _ _ (pure_docs _) hys)
    obtain ⟨i, rfl⟩ : ∃ i : Nat, t1 = (i : Int) := ⟨t1.toNat, by omega⟩
    obtain ⟨j, rfl⟩ : ∃ j : Nat, t2 = (j : Int) := ⟨t2.toNat, by omega⟩
    have hi : i < 51 := by omega
    have hj : j < 51 := by omega
    have at' : ∀ k < 51, ∃ x, ys[k]? = some x ∧ Dp K H11 x ((allD [1, 3] 3).getD k .nil).data := fun k hk => by
      refine L2.DpAll.at hys11 ?_
      rw [List.getElem?_map, List.getD_eq_getElem?_getD, List.getElem?_eq_getElem (by rw [every_len]; exact hk)]
      rfl
    obtain ⟨x1, hx1, hd1⟩ := at' i hi
    obtain ⟨x2, hx2, hd2⟩ := at' j hj
    have key := every_ord i hi j hj
    have ok1 := every_ok i hi
    have ok2 := every_ok j hj
    generalize (allD [1, 3] 3).getD i .nil = d1 at *
    generalize (allD [1, 3] 3).getD j .nil = d2 at *
    refine ⟨_, rfl, _, rfl, rfl, _, rfl, ?_⟩
    by_cases h1 : i = j
    · rw [if_pos h1] at key
      rw [decide_eq_true (by rw [h1])]
      refine iteT ⟨_, rfl, _, rfl, ep, ys, _, _, rfl, rfl, SqL.of hep11, atI_nat hx1, _, rfl, _, rfl, ep, ys, _, _, rfl, rfl, SqL.of hep11, atI_nat hx2, d1, d2, x1, x2, rfl, hd1, hd2, ok1, ok2, hT11, fun H12 g12 => ?_⟩
      rw [cmp_ord, key]
      refine ⟨_, rfl, rfl, ?_⟩
      rw [decide_eq_true rfl]
      exact q _
    rw [if_neg h1] at key
    rw [decide_eq_false (show ¬ (V.int (i : Int) = V.int (j : Int)) from fun z => h1 (by have := V.int.inj z; omega))]
    refine iteF ⟨_, rfl, _, rfl, _, _, rfl, rfl, _, rfl, ?_⟩
    by_cases h2 : i < j
    · rw [if_pos h2] at key
      rw [decide_eq_true (by omega)]
      refine iteT ⟨_, rfl, _, rfl, _, rfl, ep, ys, _, _, rfl, rfl, SqL.of hep11, atI_nat hx1, _, rfl, _, rfl, ep, ys, _, _, rfl, rfl, SqL.of hep11, atI_nat hx2, d1, d2, x1, x2, rfl, hd1, hd2, ok1, ok2, hT11, fun H12 g12 => ?_⟩
      rw [cmp_ord, key]
      refine ⟨_, rfl, rfl, ?_⟩
      rw [decide_eq_true rfl]
      exact q _
    · rw [if_neg h2] at key
      rw [decide_eq_false (by omega)]
      refine iteF ⟨_, rfl, _, rfl, ep, ys, _, _, rfl, rfl, SqL.of hep11, atI_nat hx1, _, rfl, _, rfl, ep, ys, _, _, rfl, rfl, SqL.of hep11, atI_nat hx2, d1, d2, x1, x2, rfl, hd1, hd2, ok1, ok2, hT11, fun H12 g12 => ?_⟩
      rw [cmp_ord, key]
      refine ⟨_, rfl, rfl, ?_⟩
      rw [decide_eq_true rfl]
      exact q _
end
end LW
set_option maxHeartbeats 2000000
namespace LW
open PySem PySem.Spec PyProof.Rows L2
theorem walk_T {l : PySem.W.OpenLaw} {n k : Nat} {q : Program} {loose : List Str} {XP : (Str → Option Value) → Heap → Prop} {YP : World → Heap → Prop} {d : DefRec} {K : Params → PySem.W.Frag} {CX : World → CXT} {x : Str}
    (hn : l.most = some n) (hn2 : n ≤ sizeLine) (hdf : d.params.defaults = []) (hr : Room k callerA) (hY : ∀ (w : World) (h : Heap), YP w h → (K w.params).In h)
    (F : ∀ (w : World) (lo : List Str) (mean : ExcName → Option Value) (mg mb : Str → Option Value) (fa : Addr) (h : Heap), YP w h → (K w.params).In h → PyProof.Rows.Top q lo mean mg mb h → mg d.name = some (.ref fa) → LamX.LawAtS l w (K w.params) (CX w) k n x mg fa h)
    (hCX : ∀ (w : World) (H : Hp) (s : Shared) (e : Value) (s' : Shared), CX w [] H s (fun _ _ _ => False) e s' → False) :
    PySem.W.WalkO q loose XP YP l.row.toRowW d [] (fun f vs => PySem.call f vs) := by
  refine Att.attach_callB hn hdf fun w s₀ s₁ mg mb fa o pm cd doc a vs ns G Y ho hd hcd hmg hobj hints hlen hbits hg => ?_
  have KX := hY w _ Y
  obtain ⟨fd, cs, sp, hT, nT, C, hb, hsp, hF⟩ := F w _ _ mg mb fa _ Y KX G.T hmg
  exact LamX.law_callTs KX G.T.g G.T.b G.T.builtins G.T.nolimit hg hT nT C G.T.bmain hobj hints (Nat.le_trans hlen hn2) hr hF hb (fun H hH hS => hsp H a ns hlen hbits hH hS) fun H e s' => hCX w H s₁ e s'
/-- a def that stands under its name -/
structure Df (K : PySem.W.Frag) (mg : Str → Option Value) (x : Str) (ps : List Str) (st : Stmt) (f : Addr) (fd : FuncData) : Prop where
  F : Fun K x x st f fd
  m : mg x = some (.ref f)
  b : Binds K fd ps []
theorem Df.fn {P : Program} {w : World} {K : PySem.W.Frag} {mg : Str → Option Value} {base : Heap} {x : Str} {ps : List Str} {st : Stmt} {f : Addr} {fd : FuncData} (D : Df K mg x ps st f fd) {k : Nat} {sp : Sp} (h : FnOk P w K mg base CX0 k f fd ps sp) : Fn P w K mg base CX0 k x ps sp := ⟨f, fd, h, D.m, D.F.kp, D.b⟩
section
variable {P : Program} {w : World} {K : PySem.W.Frag} {mg : Str → Option Value} {base : Heap} {f : Addr} {fd : FuncData}
theorem docL_any (D : Df K mg "_law_document" ["box", "labels", "most", "deep"] s__law_document f fd) (ft : Fn P w K mg base CX0 1 "_law_take" ["box", "m"] spTake) (fp : Fn P w K mg base CX0 2 "_law_pick" ["box", "menu"] spPick) (fs : Fn P w K mg base CX0 40 "_law_size" ["d"] (spSizeL K 40)) (mr : mg "range" = none) (mt : mg "tuple" = none) :
    ∀ n : Nat, Fn P w K mg base CX0 (n + 41) "_law_document" ["box", "labels", "most", "deep"] (spDocL K n)
  | 0 => D.fn docL_none
  | n + 1 => D.fn (ok_docL D.F (docL_any D ft fp fs mr mt n) ft fp fs mr mt)
theorem ordL_any (D : Df K mg "_law_order" ["d", "e"] s__law_order f fd) (fs : Fn P w K mg base CX0 40 "_law_size" ["d"] (spSizeL K 40)) (mr : mg "range" = none) (mm : mg "min" = none) (ml : mg "len" = none) :
    ∀ n : Nat, Fn P w K mg base CX0 (n + 41) "_law_order" ["d", "e"] (spOrdL K n)
  | 0 => D.fn ordL_none
  | n + 1 => D.fn (ok_ordL D.F (ordL_any D fs mr mm ml n) fs mr mm ml)
theorem near_any (D : Df K mg "_law_near" ["box", "d"] s__law_near f fd) (ft : Fn P w K mg base CX0 1 "_law_take" ["box", "m"] spTake) (ml : mg "len" = none) :
    ∀ n : Nat, Fn P w K mg base CX0 (n + 1) "_law_near" ["box", "d"] (spNear K n)
  | 0 => D.fn near_none
  | n + 1 => D.fn (ok_near D.F (near_any D ft ml n) ft ml)
end
theorem law_fn {P : Program} {w : World} {K : PySem.W.Frag} {mg : Str → Option Value} {base : Heap} {c T : Addr} {tL tN tM : Tok}
    {f0 : Addr} {g0 : FuncData} (D0 : Df K mg "is_below" ["worth", "limit"] s_is_below f0 g0)
    {f1 : Addr} {g1 : FuncData} (D1 : Df K mg "is_tuple_of" ["worth", "many"] s_is_tuple_of f1 g1)
    {f2 : Addr} {g2 : FuncData} (D2 : Df K mg "check_document" ["d"] s_check_document f2 g2)
    {f3 : Addr} {g3 : FuncData} (D3 : Df K mg "is_document" ["d"] s_is_document f3 g3)
    {f4 : Addr} {g4 : FuncData} (D4 : Df K mg "is_tree" ["tree"] s_is_tree f4 g4)
    {f5 : Addr} {g5 : FuncData} (D5 : Df K mg "size" ["d"] s_size f5 g5)
    {f6 : Addr} {g6 : FuncData} (D6 : Df K mg "order_of" ["d"] s_order_of f6 g6)
    {f7 : Addr} {g7 : FuncData} (D7 : Df K mg "before" ["d", "e"] s_before f7 g7)
    {f8 : Addr} {g8 : FuncData} (D8 : Df K mg "_law_box" ["script"] s__law_box f8 g8)
    {f9 : Addr} {g9 : FuncData} (D9 : Df K mg "_law_take" ["box", "m"] s__law_take f9 g9)
    {f10 : Addr} {g10 : FuncData} (D10 : Df K mg "_law_pick" ["box", "menu"] s__law_pick f10 g10)
    {f11 : Addr} {g11 : FuncData} (D11 : Df K mg "_law_size" ["d"] s__law_size f11 g11)
    {f12 : Addr} {g12 : FuncData} (D12 : Df K mg "_law_document" ["box", "labels", "most", "deep"] s__law_document f12 g12)
    {f13 : Addr} {g13 : FuncData} (D13 : Df K mg "_law_order" ["d", "e"] s__law_order f13 g13)
    {f14 : Addr} {g14 : FuncData} (D14 : Df K mg "_law_all" ["labels", "most"] s__law_all f14 g14)
    {f15 : Addr} {g15 : FuncData} (D15 : Df K mg "_law_near" ["box", "d"] s__law_near f15 g15)
    {f16 : Addr} {g16 : FuncData} (D16 : Df K mg "_law_is_number" ["x"] s__law_is_number f16 g16)
    {f17 : Addr} {g17 : FuncData} (D17 : Df K mg "law" ["script"] s_law f17 g17)
    (hc : g3.code = .ref c) (TB : GxR.TabB base mg c T) (m_isinstance : mg "isinstance" = none) (m_int : mg "int" = none) (m_bool : mg "bool" = none) (m_tuple : mg "tuple" = none) (m_all : mg "all" = none) (m_range : mg "range" = none) (m_sum : mg "sum" = none) (m_min : mg "min" = none) (m_abs : mg "abs" = none) (m_len : mg "len" = none)
    (mL : mg "LABELS" = some (.int 5 tL)) (mN : mg "MOST_NESTED" = some (.int 30 tN)) (mM : mg "MOST_TREES" = some (.int 300 tM)) :
    FnOk P w K mg base CX0 50 f17 g17 ["script"] (spLaw K T) := by
  have b1 := D0.fn (P := P) (w := w) (base := base) (ok_is_below (k := 0) D0.F m_isinstance m_int m_bool)
  have b2 := D1.fn (P := P) (w := w) (base := base) (ok_is_tuple_of (k := 0) D1.F m_isinstance m_tuple m_len)
  have b3 := D4.fn (ok_is_tree D4.F b2 b1 mL)
  have b4 := D3.fn (ok_is_document D3.F hc TB b3 m_isinstance m_tuple m_len m_all mN mM)
  have b5 := D2.fn (ok_checkV D2.F b4)
  have b6 := ord_any (P := P) (w := w) (base := base) D6.F D6.m D6.b 40
  have b7 := D5.fn (ok_sizeV D5.F (b5.mono (by decide)) b6)
  have b8 := D7.fn (ok_beforeV D7.F (b5.mono (by decide)) b6)
  have c1 := D9.fn (P := P) (w := w) (base := base) (ok_take D9.F m_len m_int)
  have c2 := D10.fn (ok_pick D10.F c1 m_len)
  have c3 := sizeL_any (P := P) (w := w) (base := base) D11.F D11.m D11.b m_sum 40
  have c4 := docL_any D12 c1 c2 c3 m_range m_tuple 5
  have c5 := ordL_any D13 c3 m_range m_min m_len 6
  have c6 := near_any D15 c1 m_len 5
  have c7 := D14.fn (P := P) (w := w) (base := base) (ok_all D14.F m_range)
  have c8 := D16.fn (P := P) (w := w) (base := base) (ok_isnum D16.F m_isinstance m_int m_bool)
  have c9 := D8.fn (P := P) (w := w) (base := base) (ok_box D8.F m_int m_abs)
  exact ok_law D17.F (c9.mono (by decide)) (c4.mono (by decide)) (c1.mono (by decide)) (c6.mono (by decide)) (c8.mono (by decide)) (b7.mono (by decide)) (c3.mono (by decide)) (b8.mono (by decide)) (c5.mono (by decide)) (c7.mono (by decide)) m_len
theorem law_at {l : PySem.W.OpenLaw} {w : World} {K : PySem.W.Frag} {h : Heap} {mg mb : Str → Option Value} {mean : ExcName → Option Value} {fa c T : Addr} {q : Program} {loose : List Str} {tL tN tM : Tok} (X : K.In h) (Tp : PyProof.Rows.Top q loose mean mg mb h) (hfa : mg "law" = some (.ref fa))
    {f0 : Addr} {od0 an0 : Option Addr} {sl0 : Array (Option Value)} {oc0 kV0 dc0 pm0 cd0 ct0 : Value}
    {f1 : Addr} {od1 an1 : Option Addr} {sl1 : Array (Option Value)} {oc1 kV1 dc1 pm1 cd1 ct1 : Value}
    {f2 : Addr} {od2 an2 : Option Addr} {sl2 : Array (Option Value)} {oc2 kV2 dc2 pm2 cd2 ct2 : Value}
    {f3 : Addr} {od3 an3 : Option Addr} {sl3 : Array (Option Value)} {oc3 kV3 dc3 pm3 cd3 ct3 : Value}
    {f4 : Addr} {od4 an4 : Option Addr} {sl4 : Array (Option Value)} {oc4 kV4 dc4 pm4 cd4 ct4 : Value}
    {f5 : Addr} {od5 an5 : Option Addr} {sl5 : Array (Option Value)} {oc5 kV5 dc5 pm5 cd5 ct5 : Value}
    {f6 : Addr} {od6 an6 : Option Addr} {sl6 : Array (Option Value)} {oc6 kV6 dc6 pm6 cd6 ct6 : Value}
    {f7 : Addr} {od7 an7 : Option Addr} {sl7 : Array (Option Value)} {oc7 kV7 dc7 pm7 cd7 ct7 : Value}
    {f8 : Addr} {od8 an8 : Option Addr} {sl8 : Array (Option Value)} {oc8 kV8 dc8 pm8 cd8 ct8 : Value}
    {f9 : Addr} {od9 an9 : Option Addr} {sl9 : Array (Option Value)} {oc9 kV9 dc9 pm9 cd9 ct9 : Value}
    {f10 : Addr} {od10 an10 : Option Addr} {sl10 : Array (Option Value)} {oc10 kV10 dc10 pm10 cd10 ct10 : Value}
    {f11 : Addr} {od11 an11 : Option Addr} {sl11 : Array (Option Value)} {oc11 kV11 dc11 pm11 cd11 ct11 : Value}
    {f12 : Addr} {od12 an12 : Option Addr} {sl12 : Array (Option Value)} {oc12 kV12 dc12 pm12 cd12 ct12 : Value}
    {f13 : Addr} {od13 an13 : Option Addr} {sl13 : Array (Option Value)} {oc13 kV13 dc13 pm13 cd13 ct13 : Value}
    {f14 : Addr} {od14 an14 : Option Addr} {sl14 : Array (Option Value)} {oc14 kV14 dc14 pm14 cd14 ct14 : Value}
    {f15 : Addr} {od15 an15 : Option Addr} {sl15 : Array (Option Value)} {oc15 kV15 dc15 pm15 cd15 ct15 : Value}
    {f16 : Addr} {od16 an16 : Option Addr} {sl16 : Array (Option Value)} {oc16 kV16 dc16 pm16 cd16 ct16 : Value}
    {f17 : Addr} {od17 an17 : Option Addr} {sl17 : Array (Option Value)} {oc17 kV17 dc17 pm17 cd17 ct17 : Value}
    (a0 : PySem.W.nsIn K mainGlobals "is_below" = some (some (.ref f0))) (l0 : K.lookup f0 = some ⟨oc0, od0, .func (PySem.W.fnOf "is_below" "is_below" (defArgs s_is_below) (defBody s_is_below) (defScope s_is_below) .none kV0 dc0 pm0 an0 cd0 ct0), sl0⟩) (c0 : PySem.W.codeIn K cd0 "is_below" = true) (k0 : PySem.W.keepIn K (.ref f0) = true)
    (a1 : PySem.W.nsIn K mainGlobals "is_tuple_of" = some (some (.ref f1))) (l1 : K.lookup f1 = some ⟨oc1, od1, .func (PySem.W.fnOf "is_tuple_of" "is_tuple_of" (defArgs s_is_tuple_of) (defBody s_is_tuple_of) (defScope s_is_tuple_of) .none kV1 dc1 pm1 an1 cd1 ct1), sl1⟩) (c1 : PySem.W.codeIn K cd1 "is_tuple_of" = true) (k1 : PySem.W.keepIn K (.ref f1) = true)
    (a2 : PySem.W.nsIn K mainGlobals "check_document" = some (some (.ref f2))) (l2 : K.lookup f2 = some ⟨oc2, od2, .func (PySem.W.fnOf "check_document" "check_document" (defArgs s_check_document) (defBody s_check_document) (defScope s_check_document) .none kV2 dc2 pm2 an2 cd2 ct2), sl2⟩) (c2 : PySem.W.codeIn K cd2 "check_document" = true) (k2 : PySem.W.keepIn K (.ref f2) = true)
    (a3 : PySem.W.nsIn K mainGlobals "is_document" = some (some (.ref f3))) (l3 : K.lookup f3 = some ⟨oc3, od3, .func (PySem.W.fnOf "is_document" "is_document" (defArgs s_is_document) (defBody s_is_document) (defScope s_is_document) .none kV3 dc3 pm3 an3 cd3 ct3), sl3⟩) (c3 : PySem.W.codeIn K cd3 "is_document" = true) (k3 : PySem.W.keepIn K (.ref f3) = true)
    (a4 : PySem.W.nsIn K mainGlobals "is_tree" = some (some (.ref f4))) (l4 : K.lookup f4 = some ⟨oc4, od4, .func (PySem.W.fnOf "is_tree" "is_tree" (defArgs s_is_tree) (defBody s_is_tree) (defScope s_is_tree) .none kV4 dc4 pm4 an4 cd4 ct4), sl4⟩) (c4 : PySem.W.codeIn K cd4 "is_tree" = true) (k4 : PySem.W.keepIn K (.ref f4) = true)
    (a5 : PySem.W.nsIn K mainGlobals "size" = some (some (.ref f5))) (l5 : K.lookup f5 = some ⟨oc5, od5, .func (PySem.W.fnOf "size" "size" (defArgs s_size) (defBody s_size) (defScope s_size) .none kV5 dc5 pm5 an5 cd5 ct5), sl5⟩) (c5 : PySem.W.codeIn K cd5 "size" = true) (k5 : PySem.W.keepIn K (.ref f5) = true)
    (a6 : PySem.W.nsIn K mainGlobals "order_of" = some (some (.ref f6))) (l6 : K.lookup f6 = some ⟨oc6, od6, .func (PySem.W.fnOf "order_of" "order_of" (defArgs s_order_of) (defBody s_order_of) (defScope s_order_of) .none kV6 dc6 pm6 an6 cd6 ct6), sl6⟩) (c6 : PySem.W.codeIn K cd6 "order_of" = true) (k6 : PySem.W.keepIn K (.ref f6) = true)
    (a7 : PySem.W.nsIn K mainGlobals "before" = some (some (.ref f7))) (l7 : K.lookup f7 = some ⟨oc7, od7, .func (PySem.W.fnOf "before" "before" (defArgs s_before) (defBody s_before) (defScope s_before) .none kV7 dc7 pm7 an7 cd7 ct7), sl7⟩) (c7 : PySem.W.codeIn K cd7 "before" = true) (k7 : PySem.W.keepIn K (.ref f7) = true)
    (a8 : PySem.W.nsIn K mainGlobals "_law_box" = some (some (.ref f8))) (l8 : K.lookup f8 = some ⟨oc8, od8, .func (PySem.W.fnOf "_law_box" "_law_box" (defArgs s__law_box) (defBody s__law_box) (defScope s__law_box) .none kV8 dc8 pm8 an8 cd8 ct8), sl8⟩) (c8 : PySem.W.codeIn K cd8 "_law_box" = true) (k8 : PySem.W.keepIn K (.ref f8) = true)
    (a9 : PySem.W.nsIn K mainGlobals "_law_take" = some (some (.ref f9))) (l9 : K.lookup f9 = some ⟨oc9, od9, .func (PySem.W.fnOf "_law_take" "_law_take" (defArgs s__law_take) (defBody s__law_take) (defScope s__law_take) .none kV9 dc9 pm9 an9 cd9 ct9), sl9⟩) (c9 : PySem.W.codeIn K cd9 "_law_take" = true) (k9 : PySem.W.keepIn K (.ref f9) = true)
    (a10 : PySem.W.nsIn K mainGlobals "_law_pick" = some (some (.ref f10))) (l10 : K.lookup f10 = some ⟨oc10, od10, .func (PySem.W.fnOf "_law_pick" "_law_pick" (defArgs s__law_pick) (defBody s__law_pick) (defScope s__law_pick) .none kV10 dc10 pm10 an10 cd10 ct10), sl10⟩) (c10 : PySem.W.codeIn K cd10 "_law_pick" = true) (k10 : PySem.W.keepIn K (.ref f10) = true)
    (a11 : PySem.W.nsIn K mainGlobals "_law_size" = some (some (.ref f11))) (l11 : K.lookup f11 = some ⟨oc11, od11, .func (PySem.W.fnOf "_law_size" "_law_size" (defArgs s__law_size) (defBody s__law_size) (defScope s__law_size) .none kV11 dc11 pm11 an11 cd11 ct11), sl11⟩) (c11 : PySem.W.codeIn K cd11 "_law_size" = true) (k11 : PySem.W.keepIn K (.ref f11) = true)
    (a12 : PySem.W.nsIn K mainGlobals "_law_document" = some (some (.ref f12))) (l12 : K.lookup f12 = some ⟨oc12, od12, .func (PySem.W.fnOf "_law_document" "_law_document" (defArgs s__law_document) (defBody s__law_document) (defScope s__law_document) .none kV12 dc12 pm12 an12 cd12 ct12), sl12⟩) (c12 : PySem.W.codeIn K cd12 "_law_document" = true) (k12 : PySem.W.keepIn K (.ref f12) = true)
    (a13 : PySem.W.nsIn K mainGlobals "_law_order" = some (some (.ref f13))) (l13 : K.lookup f13 = some ⟨oc13, od13, .func (PySem.W.fnOf "_law_order" "_law_order" (defArgs s__law_order) (defBody s__law_order) (defScope s__law_order) .none kV13 dc13 pm13 an13 cd13 ct13), sl13⟩) (c13 : PySem.W.codeIn K cd13 "_law_order" = true) (k13 : PySem.W.keepIn K (.ref f13) = true)
    (a14 : PySem.W.nsIn K mainGlobals "_law_all" = some (some (.ref f14))) (l14 : K.lookup f14 = some ⟨oc14, od14, .func (PySem.W.fnOf "_law_all" "_law_all" (defArgs s__law_all) (defBody s__law_all) (defScope s__law_all) .none kV14 dc14 pm14 an14 cd14 ct14), sl14⟩) (c14 : PySem.W.codeIn K cd14 "_law_all" = true) (k14 : PySem.W.keepIn K (.ref f14) = true)
    (a15 : PySem.W.nsIn K mainGlobals "_law_near" = some (some (.ref f15))) (l15 : K.lookup f15 = some ⟨oc15, od15, .func (PySem.W.fnOf "_law_near" "_law_near" (defArgs s__law_near) (defBody s__law_near) (defScope s__law_near) .none kV15 dc15 pm15 an15 cd15 ct15), sl15⟩) (c15 : PySem.W.codeIn K cd15 "_law_near" = true) (k15 : PySem.W.keepIn K (.ref f15) = true)
    (a16 : PySem.W.nsIn K mainGlobals "_law_is_number" = some (some (.ref f16))) (l16 : K.lookup f16 = some ⟨oc16, od16, .func (PySem.W.fnOf "_law_is_number" "_law_is_number" (defArgs s__law_is_number) (defBody s__law_is_number) (defScope s__law_is_number) .none kV16 dc16 pm16 an16 cd16 ct16), sl16⟩) (c16 : PySem.W.codeIn K cd16 "_law_is_number" = true) (k16 : PySem.W.keepIn K (.ref f16) = true)
    (a17 : PySem.W.nsIn K mainGlobals "law" = some (some (.ref f17))) (l17 : K.lookup f17 = some ⟨oc17, od17, .func (PySem.W.fnOf "law" "law" (defArgs s_law) (defBody s_law) (defScope s_law) .none kV17 dc17 pm17 an17 cd17 ct17), sl17⟩) (c17 : PySem.W.codeIn K cd17 "law" = true) (k17 : PySem.W.keepIn K (.ref f17) = true)
    (z_isinstance : PySem.W.nsIn K mainGlobals "isinstance" = some none) (z_int : PySem.W.nsIn K mainGlobals "int" = some none) (z_bool : PySem.W.nsIn K mainGlobals "bool" = some none) (z_tuple : PySem.W.nsIn K mainGlobals "tuple" = some none) (z_all : PySem.W.nsIn K mainGlobals "all" = some none) (z_range : PySem.W.nsIn K mainGlobals "range" = some none) (z_sum : PySem.W.nsIn K mainGlobals "sum" = some none) (z_min : PySem.W.nsIn K mainGlobals "min" = some none) (z_abs : PySem.W.nsIn K mainGlobals "abs" = some none) (z_len : PySem.W.nsIn K mainGlobals "len" = some none)
    (iL : PySem.W.nsIn K mainGlobals "LABELS" = some (some (.int 5 tL))) (iN : PySem.W.nsIn K mainGlobals "MOST_NESTED" = some (some (.int 30 tN))) (iM : PySem.W.nsIn K mainGlobals "MOST_TREES" = some (some (.int 300 tM)))
    (ht : PySem.W.tabIn K "is_document" = some (c, T)) (hT : K.lookup T = none) (hq : ((recsOf q).find? (fun e => e.name == ("is_document" : Str))).isSome = true) : LamX.LawAtS l w K CX0 50 63 "script" mg fa h := by
  have G := Tp.g
  have e := hfa.symm.trans (PySem.W.mg_of X G a17)
  cases e
  have F0 := fun_mk (st := s_is_below) l0 c0 k0
  have D0 : Df K mg "is_below" ["worth", "limit"] s_is_below f0 _ := ⟨F0, PySem.W.mg_of X G a0, F0.binds fun _ _ _ _ _ _ us hl => match us, hl with | [_, _], _ => rfl⟩
  have F1 := fun_mk (st := s_is_tuple_of) l1 c1 k1
  have D1 : Df K mg "is_tuple_of" ["worth", "many"] s_is_tuple_of f1 _ := ⟨F1, PySem.W.mg_of X G a1, F1.binds fun _ _ _ _ _ _ us hl => match us, hl with | [_, _], _ => rfl⟩
  have F2 := fun_mk (st := s_check_document) l2 c2 k2
  have D2 : Df K mg "check_document" ["d"] s_check_document f2 _ := ⟨F2, PySem.W.mg_of X G a2, F2.binds fun _ _ _ _ _ _ us hl => match us, hl with | [_], _ => rfl⟩
  have F3 := fun_mk (st := s_is_document) l3 c3 k3
  have D3 : Df K mg "is_document" ["d"] s_is_document f3 _ := ⟨F3, PySem.W.mg_of X G a3, F3.binds fun _ _ _ _ _ _ us hl => match us, hl with | [_], _ => rfl⟩
  have F4 := fun_mk (st := s_is_tree) l4 c4 k4
  have D4 : Df K mg "is_tree" ["tree"] s_is_tree f4 _ := ⟨F4, PySem.W.mg_of X G a4, F4.binds fun _ _ _ _ _ _ us hl => match us, hl with | [_], _ => rfl⟩
  have F5 := fun_mk (st := s_size) l5 c5 k5
  have D5 : Df K mg "size" ["d"] s_size f5 _ := ⟨F5, PySem.W.mg_of X G a5, F5.binds fun _ _ _ _ _ _ us hl => match us, hl with | [_], _ => rfl⟩
  have F6 := fun_mk (st := s_order_of) l6 c6 k6
  have D6 : Df K mg "order_of" ["d"] s_order_of f6 _ := ⟨F6, PySem.W.mg_of X G a6, F6.binds fun _ _ _ _ _ _ us hl => match us, hl with | [_], _ => rfl⟩
  have F7 := fun_mk (st := s_before) l7 c7 k7
  have D7 : Df K mg "before" ["d", "e"] s_before f7 _ := ⟨F7, PySem.W.mg_of X G a7, F7.binds fun _ _ _ _ _ _ us hl => match us, hl with | [_, _], _ => rfl⟩
  have F8 := fun_mk (st := s__law_box) l8 c8 k8
  have D8 : Df K mg "_law_box" ["script"] s__law_box f8 _ := ⟨F8, PySem.W.mg_of X G a8, F8.binds fun _ _ _ _ _ _ us hl => match us, hl with | [_], _ => rfl⟩
  have F9 := fun_mk (st := s__law_take) l9 c9 k9
  have D9 : Df K mg "_law_take" ["box", "m"] s__law_take f9 _ := ⟨F9, PySem.W.mg_of X G a9, F9.binds fun _ _ _ _ _ _ us hl => match us, hl with | [_, _], _ => rfl⟩
  have F10 := fun_mk (st := s__law_pick) l10 c10 k10
  have D10 : Df K mg "_law_pick" ["box", "menu"] s__law_pick f10 _ := ⟨F10, PySem.W.mg_of X G a10, F10.binds fun _ _ _ _ _ _ us hl => match us, hl with | [_, _], _ => rfl⟩
  have F11 := fun_mk (st := s__law_size) l11 c11 k11
  have D11 : Df K mg "_law_size" ["d"] s__law_size f11 _ := ⟨F11, PySem.W.mg_of X G a11, F11.binds fun _ _ _ _ _ _ us hl => match us, hl with | [_], _ => rfl⟩
  have F12 := fun_mk (st := s__law_document) l12 c12 k12
  have D12 : Df K mg "_law_document" ["box", "labels", "most", "deep"] s__law_document f12 _ := ⟨F12, PySem.W.mg_of X G a12, F12.binds fun _ _ _ _ _ _ us hl => match us, hl with | [_, _, _, _], _ => rfl⟩
  have F13 := fun_mk (st := s__law_order) l13 c13 k13
  have D13 : Df K mg "_law_order" ["d", "e"] s__law_order f13 _ := ⟨F13, PySem.W.mg_of X G a13, F13.binds fun _ _ _ _ _ _ us hl => match us, hl with | [_, _], _ => rfl⟩
  have F14 := fun_mk (st := s__law_all) l14 c14 k14
  have D14 : Df K mg "_law_all" ["labels", "most"] s__law_all f14 _ := ⟨F14, PySem.W.mg_of X G a14, F14.binds fun _ _ _ _ _ _ us hl => match us, hl with | [_, _], _ => rfl⟩
  have F15 := fun_mk (st := s__law_near) l15 c15 k15
  have D15 : Df K mg "_law_near" ["box", "d"] s__law_near f15 _ := ⟨F15, PySem.W.mg_of X G a15, F15.binds fun _ _ _ _ _ _ us hl => match us, hl with | [_, _], _ => rfl⟩
  have F16 := fun_mk (st := s__law_is_number) l16 c16 k16
  have D16 : Df K mg "_law_is_number" ["x"] s__law_is_number f16 _ := ⟨F16, PySem.W.mg_of X G a16, F16.binds fun _ _ _ _ _ _ us hl => match us, hl with | [_], _ => rfl⟩
  have F17 := fun_mk (st := s_law) l17 c17 k17
  have D17 : Df K mg "law" ["script"] s_law _ _ := ⟨F17, PySem.W.mg_of X G a17, F17.binds fun _ _ _ _ _ _ us hl => match us, hl with | [_], _ => rfl⟩
  obtain ⟨dd, hdd⟩ := Option.isSome_iff_exists.mp hq
  obtain ⟨C, hP⟩ := PySem.W.tab_of Tp X hdd ht
  have hc := PySem.W.law_code X G ht (PySem.W.mg_of X G a3) (X _ _ l3) rfl
  refine ⟨PySem.W.fnOf "law" "law" (defArgs s_law) (defBody s_law) (defScope s_law) .none kV17 dc17 pm17 an17 cd17 ct17, [(c, T)], spLaw K T, fun p hp => ?_, fun p hp => ?_, fun p hp => ?_, fun s u => .of_eq rfl, fun H a ns hl _ hH hS => ⟨a, ns, rfl, hS, hl, ⟨#[], hH _ (.head _), trivial⟩, fun _ => rfl⟩, fun base _ _ hTB => ?_⟩
  · rw [List.mem_singleton.mp hp]; exact hP
  · rw [List.mem_singleton.mp hp]; exact hT
  · rw [List.mem_singleton.mp hp]; exact C
  have t := hTB (c, T) (.head _)
  exact law_fn D0 D1 D2 D3 D4 D5 D6 D7 D8 D9 D10 D11 D12 D13 D14 D15 D16 D17 hc ⟨t.code, t.bm, t.gP⟩ (PySem.W.mg_none_of X G z_isinstance) (PySem.W.mg_none_of X G z_int) (PySem.W.mg_none_of X G z_bool) (PySem.W.mg_none_of X G z_tuple) (PySem.W.mg_none_of X G z_all) (PySem.W.mg_none_of X G z_range) (PySem.W.mg_none_of X G z_sum) (PySem.W.mg_none_of X G z_min) (PySem.W.mg_none_of X G z_abs) (PySem.W.mg_none_of X G z_len) (PySem.W.mg_of X G iL) (PySem.W.mg_of X G iN) (PySem.W.mg_of X G iM)
end LW
open PySem PySem.W PyProof.Rows
set_option maxRecDepth 100000 in
set_option maxHeartbeats 0 in
theorem PySem.Challenge.cw_leafward_k01_sizes_and_order_holds : PySem.Challenge.rw_leafward_k01_sizes_and_order.Holds := by
  w_on; o_law; k_head; (case hw => w_witness2)
  k_fill
  refine LW.walk_T (l := PySem.Challenge.rw_leafward_k01_sizes_and_order) (n := 63) (k := 50) (x := "script") (CX := fun _ => L2.CX0) rfl (by decide) rfl ⟨by decide, by decide, by decide⟩ (fun w h Y => PySem.W.kIn_of Y) ?F (fun _ _ _ _ _ h => h)
  case F =>
    intro w lo mean mg mb fa h Y KX T hmg
    refine' LW.law_at (c := 64) (T := 62) KX T hmg ?a0 ?l0 ?c0 ?k0 ?a1 ?l1 ?c1 ?k1 ?a2 ?l2 ?c2 ?k2 ?a3 ?l3 ?c3 ?k3 ?a4 ?l4 ?c4 ?k4 ?a5 ?l5 ?c5 ?k5 ?a6 ?l6 ?c6 ?k6 ?a7 ?l7 ?c7 ?k7 ?a8 ?l8 ?c8 ?k8 ?a9 ?l9 ?c9 ?k9 ?a10 ?l10 ?c10 ?k10 ?a11 ?l11 ?c11 ?k11 ?a12 ?l12 ?c12 ?k12 ?a13 ?l13 ?c13 ?k13 ?a14 ?l14 ?c14 ?k14 ?a15 ?l15 ?c15 ?k15 ?a16 ?l16 ?c16 ?k16 ?a17 ?l17 ?c17 ?k17 ?z0 ?z1 ?z2 ?z3 ?z4 ?z5 ?z6 ?z7 ?z8 ?z9 ?iL ?iN ?iM ?ht ?hT ?hq
    (case a0 => k_is); (case l0 => k_is); (case c0 => k_is); (case k0 => k_is)
    (case a1 => k_is); (case l1 => k_is); (case c1 => k_is); (case k1 => k_is)
    (case a2 => k_is); (case l2 => k_is); (case c2 => k_is); (case k2 => k_is)
    (case a3 => k_is); (case l3 => k_is); (case c3 => k_is); (case k3 => k_is)
    (case a4 => k_is); (case l4 => k_is); (case c4 => k_is); (case k4 => k_is)
    (case a5 => k_is); (case l5 => k_is); (case c5 => k_is); (case k5 => k_is)
    (case a6 => k_is); (case l6 => k_is); (case c6 => k_is); (case k6 => k_is)
    (case a7 => k_is); (case l7 => k_is); (case c7 => k_is); (case k7 => k_is)
    (case a8 => k_is); (case l8 => k_is); (case c8 => k_is); (case k8 => k_is)
    (case a9 => k_is); (case l9 => k_is); (case c9 => k_is); (case k9 => k_is)
    (case a10 => k_is); (case l10 => k_is); (case c10 => k_is); (case k10 => k_is)
    (case a11 => k_is); (case l11 => k_is); (case c11 => k_is); (case k11 => k_is)
    (case a12 => k_is); (case l12 => k_is); (case c12 => k_is); (case k12 => k_is)
    (case a13 => k_is); (case l13 => k_is); (case c13 => k_is); (case k13 => k_is)
    (case a14 => k_is); (case l14 => k_is); (case c14 => k_is); (case k14 => k_is)
    (case a15 => k_is); (case l15 => k_is); (case c15 => k_is); (case k15 => k_is)
    (case a16 => k_is); (case l16 => k_is); (case c16 => k_is); (case k16 => k_is)
    (case a17 => k_is); (case l17 => k_is); (case c17 => k_is); (case k17 => k_is)
    (case z0 => k_is); (case z1 => k_is); (case z2 => k_is); (case z3 => k_is); (case z4 => k_is); (case z5 => k_is); (case z6 => k_is); (case z7 => k_is); (case z8 => k_is); (case z9 => k_is)
    (case iL => k_is); (case iN => k_is); (case iM => k_is)
    (case ht => kernel_rfl)
    (case hT => kernel_rfl)
    (case hq => decide +kernel)
