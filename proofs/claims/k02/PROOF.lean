import PyProof.Rows.All
import Wide.All
import OpenK.AllK
import Wide.FinOn
import HandS.ForMost
import HandS.AnyAll
import HandS.GenList
import HandS.IsInst
import HandS.Deep
import HandS.TupAny
import HandS.TupLe
import HandS.ForExc
import HandS.Evl
import KE.OsRunLaw
import KE.LtData
import PySem.Builtin.Int.W1All
import HandS.Call
import HandS.WideBits
import KE.IntBitsLaws
import HandS.Iter
import KE.GoesMore
import HandS.Comp
import HandS.Star
import HandS.Dict
import HandS.ListItems
import HandS.Words
import HandS.DictTup
import HandS.Rev
import HandS.TupSets
import HandS.TupMul
import PyProof.ReprRoads
import HandS.RaiseMore
import HandS.List
import HandS.EndTab
import PyProof.ReprBulk
import PyProof.Rows.StrJoinMade
import HandS.SortOrd
import HandS.SortRule
import HandS.Exc
import HandS.ExcOwn
import HandS.ExcCtx
import HandS.ExcIs
import HandS.HotCalls
import KE.KExcStr
import HandS.Text
import HandS.FStr
import KE.DataMinMax
import HandS.DictComp
import HandS.Walk
import HandS.Flow
import HandS.SetKeys
import PyProof.AutoSeq1
import PyProof.StrLawsIn
import PyProof.StrOps2
import KE.KDictKeyed
import KE.KDictWalk
import HandS.Nested
import HandS.SortKw
import KE.DataMinKey
import HandS.Conv
import KE.KRevSl
import KE.KNest
import PySem.Challenge.RW_leafward_k02_texts_of_documents
set_option Elab.async false
set_option linter.all false
set_option maxRecDepth 100000
set_option maxHeartbeats 1000000
namespace LW
open PySem PySem.Spec PyProof.Rows L2 GenW
abbrev gblk (X : Cx) (A : Around) (s : Shared) (H : Hp) (scope : Scope) (env : Env) (fp : List Addr) (pn : List (Addr × Obj)) : Cx :=
  { X with A := A, s_0 := s, H_0 := H, env := env, outer := X.stack, stack := env :: X.stack, ex := fp, fn := fun x => scope.names.lookup x == some .cell, calm := true, pn := pn, xe := fun _ _ => False }
structure GSc (N : List Str) (sc scope : Scope) (own : List (Str × Nat)) : Prop extends BlkOk N sc scope own where
  co : scope.isCoroutine = false
  cell : ∀ y ∈ scope.names, y.2 ≠ .cell
  dot : scope.names.lookup (".0" : Str) = some NameKind.local
def gscC (scope : Scope) : Bool := (!scope.isCoroutine) && (scope.names.all fun y => decide (y.2 ≠ .cell)) && decide (scope.names.lookup (".0" : Str) = some NameKind.local)
theorem gsc_by {N : List Str} {sc scope : Scope} {own : List (Str × Nat)} (h : blkC N sc scope own = true) (h2 : gscC scope = true) : GSc N sc scope own := by
  unfold gscC at h2
  simp only [Bool.and_eq_true, List.all_eq_true, decide_eq_true_eq, Bool.not_eq_true'] at h2
  exact ⟨blkOk_by h, h2.1.1, h2.1.2, h2.2⟩
section
variable {X : Cx} {pins : List (Addr × Obj)} {σ : L2.St} {H : Hp} {s : Shared}
theorem clo_mem {X : Cx} {pins : List (Addr × Obj)} {σ : L2.St} {H : Hp} {s : Shared} {scope : Scope} {own : List (Str × Nat)} (I : Inv X pins σ H s) (ok : BlkOk X.N X.env.scope scope own) {y : Str} {c : Addr} (e : (cloFrom X.env.cells scope.names []).lookup y = some c) :
    X.env.cells.lookup y = some c ∧ c < s.heap.objs.size ∧ (y, NameKind.free) ∈ scope.names := by
  have hfree : ∀ y ∈ scope.names, y.2 = .free → ∃ c, X.env.cells.lookup y.1 = some c := fun y hy e => by
    rcases ok.free y hy e with k | k
    · exact I.ok.has _ (.inl k)
    · exact I.ok.has _ (.inr k)
  rcases cloFrom_mem (PySem.mem_of_lookup e) with hm | ⟨h1, h2⟩
  · cases hm
  · obtain ⟨c', hc⟩ := hfree _ h1 rfl
    have hc' : X.env.cells.lookup y = some c' := hc
    rw [hc'] at h2
    have h3 : c = c' := h2
    rw [h3]
    obtain ⟨w, z⟩ := I.cell _ _ hc'
    exact ⟨hc', z.lt, h1⟩
theorem gen_begin {A : Around} {scope : Scope} {own : List (Str × Nat)} {fp : List Addr} {pn : List (Addr × Obj)} {s5 : Shared} {code : Value} {m : Str → Option Value} (I : Inv X pins σ H s) (ok : GSc X.N X.env.scope scope own) (hN : X.N.Nodup)
    (hfp : ∀ b ∈ fp, FpOk X pins H b ∧ b < s.heap.objs.size) (hA : A.handled = none)
    (hfr : A.frames = some (genEnv scope (cloFrom X.env.cells scope.names []) s.heap.objs.size code builtinsNs X.env :: X.stack))
    (kp : ∀ b o, s.heap.get? b = some o → s5.heap.get? b = some o) (hns : s5.heap.Ns s.heap.objs.size m) (hos : s5.os = s.os) (hb : AllBare s5.gens)
    (hpn : ∀ p ∈ pn, s5.heap.get? p.1 = some p.2 ∧ s.heap.objs.size < p.1 ∧ ∀ v, p.2.data ≠ .cell v) :
    Inv (gblk X A s H scope (genEnv scope (cloFrom X.env.cells scope.names []) s.heap.objs.size code builtinsNs X.env) fp pn) [] (wipe σ (own.map (·.2))) H s5 := by
  generalize henv : genEnv scope (cloFrom X.env.cells scope.names []) s.heap.objs.size code builtinsNs X.env = env at *
  have hL : env.locals = s.heap.objs.size := by rw [← henv]; rfl
  have hcl : env.cells = cloFrom X.env.cells scope.names [] := by rw [← henv]; rfl
  have hsc : env.scope = scope := by rw [← henv]; rfl
  have mem : ∀ {y c}, env.cells.lookup y = some c → X.env.cells.lookup y = some c ∧ c < s.heap.objs.size ∧ (y, NameKind.free) ∈ scope.names := fun {y c} e => by
    rw [hcl] at e
    exact clo_mem I ok.toBlkOk e
  have look : ∀ {y}, scope.names.lookup y = some .free → ∃ c, env.cells.lookup y = some c ∧ X.env.cells.lookup y = some c := fun {y} hl => by
    have hy : (y, NameKind.free) ∈ scope.names := PySem.mem_of_lookup hl
    obtain ⟨c', e'⟩ := mem_lookup (cloFrom_has (cells := X.env.cells) (acc := []) hy)
    exact ⟨c', by rw [hcl]; exact e', (mem (by rw [hcl]; exact e')).1⟩
  have okB : (gblk X A s H scope env fp pn).Ok := by
    refine ⟨I.ok.mod, by show env.scope.kind = _; rw [hsc]; exact ok.kind, by show env.globals = _; rw [← henv]; exact I.ok.glob, by show env.builtins = _; rw [← henv]; rfl, by show s.heap.objs.size ≤ env.locals; rw [hL]; exact Nat.le_refl _,
      fun y z c e1 e2 => I.ok.inj y z c (mem e1).1 (mem e2).1, fun y hy => ?_, fun y c z e => ?_, fun _ => hA, hfr, .inr ⟨rfl, ?_⟩, fun b hb => ⟨?_, fun y c e z => ?_⟩, I.bs, Nat.le_trans I.ok.bsz I.sz, fun b o e hb => ?_, fun b hb z => ?_, I.stack, I.stkFree⟩
    · show ∃ c, env.cells.lookup y = some c
      have hy' : scope.names.lookup y = some .cell ∨ scope.names.lookup y = some .free := by
        have q : env.kindOf y = scope.names.lookup y := by unfold Env.kindOf; rw [hsc]
        rw [← q]; exact hy
      rcases hy' with hy | hy
      · exact absurd rfl (ok.cell _ (PySem.mem_of_lookup hy))
      · obtain ⟨c, h1, _⟩ := look hy
        exact ⟨c, h1⟩
    · have z : (scope.names.lookup y == some NameKind.cell) = true := z
      have z : scope.names.lookup y = some .cell := by simpa using z
      exact absurd rfl (ok.cell _ (PySem.mem_of_lookup z))
    · show env.frame = some env.locals
      rw [← henv]; rfl
    · show b ≠ env.locals
      rw [hL]; exact Nat.ne_of_lt (hfp b hb).2
    · exact (hfp b hb).1.2.2.2.2.1 y c (mem e).1 z
    · rcases (hfp b hb).1.2.2.2.1 with z | z
      · exact I.ok.noex b o e z
      · exact absurd (Nat.lt_of_lt_of_le (Heap.lt_size e) (Nat.le_trans I.ok.bsz z)) (Nat.lt_irrefl _)
    · rcases List.mem_cons.mp (I.stkSub b z) with z | z
      · exact (hfp b hb).1.2.1 z
      · exact (hfp b hb).1.2.2.1 z
  refine ⟨okB, hos, hb, Un.kept kp, ⟨m, ?_, fun i y av e1 e2 e3 => ?_⟩, fun y c e => ?_, ?_, fun y c e => ?_, fun p hp => ?_, I.hok.kept kp, by rw [wipe_length]; exact I.len⟩
  · show Heap.Ns _ env.locals _
    rw [hL]; exact hns
  · obtain ⟨e2, hne⟩ := wipe_some e2
    have kq : env.kindOf y = scope.names.lookup y := by unfold Env.kindOf; rw [hsc]
    have e3 : Vis env.scope y := e3
    rw [hsc] at e3
    have no : ∀ k, scope.names.lookup y = some k → ¬ (k = .local ∨ k = .cell) := fun k hk hh => by
      rcases ok.own _ (PySem.mem_of_lookup hk) hh with e' | e'
      · obtain ⟨p, hp, hpy⟩ := List.mem_map.mp e'
        have e3 := ok.ix p hp
        have : p.1 = y := hpy
        rw [this] at e3
        exact hne (List.mem_map.mpr ⟨p, hp, nodup_ix hN e3 e1⟩)
      · exact e' (List.mem_of_getElem? e1)
    have hfr : scope.names.lookup y = some .free := by
      rcases e3 with e3 | e3 | e3
      · exact absurd (.inl rfl) (no _ e3)
      · exact absurd (.inr rfl) (no _ e3)
      · exact e3
    obtain ⟨m', hn, hl⟩ := I.loc
    have hvis : Vis X.env.scope y := (ok.free _ (PySem.mem_of_lookup hfr) rfl).elim (fun k => .inr (.inl k)) (fun k => .inr (.inr k))
    obtain ⟨w, r, q⟩ := hl i y av e1 e2 hvis
    refine ⟨w, r, .inr ⟨.inr (kq.trans hfr), ?_⟩⟩
    obtain ⟨c, h1, h2⟩ := look hfr
    rcases q with ⟨k, _⟩ | ⟨_, c', e', z⟩
    · have k : X.env.scope.names.lookup y = some .local := k
      rcases ok.free _ (PySem.mem_of_lookup hfr) rfl with k' | k' <;> rw [show X.env.scope.names.lookup y = _ from k'] at k <;> cases k
    · rw [h2] at e'; cases e'
      exact ⟨c, h1, z.keeps kp⟩
  · obtain ⟨w, z⟩ := I.cell y c (mem e).1
    exact ⟨w, z.keeps kp⟩
  · show H env.locals = none
    rw [hL]; exact I.hok.fresh (Nat.le_refl _)
  · exact I.freeC y c (mem e).1
  · have hp' : p ∈ pn := by simpa using hp
    obtain ⟨h1, h2, h3⟩ := hpn p hp'
    have h4 : s.heap.objs.size ≤ p.1 := Nat.le_of_lt h2
    refine ⟨h1, I.hok.fresh h4, ?_, ?_, h3⟩
    · show p.1 ≠ env.locals
      rw [hL]; exact Nat.ne_of_gt h2
    · intro hm
      rcases List.mem_cons.mp (I.stkSub _ hm) with e | e
      · have h5 := I.lt
        rw [← e] at h5
        exact Nat.lt_irrefl _ (Nat.lt_of_lt_of_le h5 h4)
      · exact I.nofs h4 e
theorem gen_back {A : Around} {scope : Scope} {env : Env} {fp : List Addr} {pn pins' : List (Addr × Obj)} {σ' : L2.St} {H' : Hp} {s' : Shared} (I : Inv X pins σ H s) (hfp : ∀ b ∈ fp, FpOk X pins H b)
    (J : Inv (gblk X A s H scope env fp pn) pins' σ' H' s') : Inv X pins σ H' s' :=
  I.call' (ch := fp) J.os J.base J.hok J.bare fun b hb => ⟨(hfp b hb).2.2.2.1, (hfp b hb).2.1, (hfp b hb).2.2.2.2.1, (hfp b hb).2.2.2.2.2⟩
theorem inv_gens {g' : Array GenState} (I : Inv X pins σ H s) (h : AllBare g') : Inv X pins σ H { s with gens := g' } :=
  I.call' (ch := []) (s' := { s with gens := g' }) rfl Un.refl I.hok h fun b z => absurd z (by simp)
end
def GYb (X : Cx) (pins : List (Addr × Obj)) (σ : L2.St) (a : Addr) (g : Nat) (c : Bool) (Q : VK) : Protocol := fun _ _ v s kap =>
  ∃ b H, v = .bool b ∧ Inv X pins σ H s ∧ s.heap.IsGen a g ∧ (b = !c → Q (.bl (!c)) H) ∧
    (b = c → ∀ s' : Shared, (∀ d o, s.heap.get? d = some o → s'.heap.get? d = some o) → s'.os = s.os → AllBare s'.gens → kap (.send .none) s')
def GRb (X : Cx) (pins : List (Addr × Obj)) (σ : L2.St) (c : Bool) (Q : VK) : GenEnd := fun _ _ r s => r = .ok .next ∧ ∃ H, Inv X pins σ H s ∧ Q (.bl c) H
def GW (J : It) (g : TG) (te : TE) (c : Bool) (vs : List Nat) (σ : L2.St) (Q : VK) (W : Nat → Nat → Hp → Prop) : Prop := ∀ i m H, W i m H →
  (J.stop i H ∧ Q (.bl c) H) ∨ (J.go i H ∧ ∃ Nx : Hp → Prop, (∀ H', Nx H' → ∃ m', m' < m ∧ W (i + 1) m' H') ∧ ∀ x H', J.yld i H x H' → g x (wipe σ vs) H' fun σ2 H2 => wipe σ2 vs = wipe σ vs ∧
    te σ2 H2 fun y H3 => ∃ b, y = .bl b ∧ if b = c then Nx H3 else Q (.bl (!c)) H3)
theorem thnX {α : Type} {t : Sem α} {Q Q' : α → Shared → Prop} {E' : Value → Shared → Prop} {M : Model} {A : Around} {s : Shared} (h : wpAny M A t Q (fun _ _ => False) s) (hQ : ∀ a s, Q a s → Q' a s) : wpAny M A t Q' E' s := wpAny_mono h hQ fun _ _ z => False.elim z
theorem wipe_wipe (σ : L2.St) : ∀ vs : List Nat, wipe (wipe σ vs) vs = wipe σ vs := by
  have key : ∀ (us vs : List Nat), (∀ v ∈ us, v ∈ vs) → wipe (wipe σ vs) us = wipe σ vs := by
    intro us vs
    induction us with
    | nil => intro _; rfl
    | cons u us ih =>
      intro h
      show (wipe (wipe σ vs) us).set u none = _
      rw [ih fun v hv => h v (List.mem_cons_of_mem _ hv)]
      refine List.ext_getElem? fun i => ?_
      by_cases hi : u = i
      · subst hi
        by_cases hl : u < (wipe σ vs).length
        · rw [List.getElem?_set_self hl]
          cases q : (wipe σ vs)[u]? with
          | none => exact absurd (List.getElem?_eq_none_iff.mp q) (Nat.not_le_of_lt hl)
          | some o =>
            cases o with
            | none => rfl
            | some v => exact absurd (h u List.mem_cons_self) (wipe_some q).2
        · rw [List.getElem?_eq_none (by simpa using hl), List.getElem?_eq_none (by simpa using hl)]
      · rw [List.getElem?_set_ne hi]
  exact fun vs => key vs vs fun _ h => h
theorem over_gexp {A : Around} {elt : Expr} {gs : List Comprehension} {scope : Scope} {pos : Pos} {it acc : Value} {env : Env} {outer : List Env} (h : A.frames = some outer) :
    (A.over (.compLoop (.GeneratorExp elt gs scope pos) 0 it acc env) []).frames = some (env :: outer) := by
  show pushEnvs (Code.compLoop (.GeneratorExp elt gs scope pos) 0 it acc env).envs (pushEnvs (envsOf ([].map Frame.where_)) A.frames) = _
  rw [h]
  rfl
theorem room_gexp {k : Nat} {A : Around} {elt : Expr} {gs : List Comprehension} {scope : Scope} {pos : Pos} {it acc : Value} {env : Env} (r : Room (k + 1) A) : Room k (A.over (.compLoop (.GeneratorExp elt gs scope pos) 0 it acc env) []) :=
  ⟨r.hd, by have := r.dp; show A.depth + 0 + 1 + 3 * k + 5 < _; omega, by have := r.un; show A.units + 0 + 3 + 16 * k + 200 < _; omega⟩
abbrev gY (X : Cx) (A : Around) (elt tg iter : Expr) (scope : Scope) (pos : Pos) (it : Addr) (env : Env) (s : Shared) (H : Hp) (fp : List Addr) (a : Addr) (go : Obj) : Cx :=
  gblk X (A.over (.compLoop (.GeneratorExp elt [⟨tg, iter, [], 0⟩] scope pos) 0 (.ref it) .none env) []) s H scope env fp [(a, go)]
section
variable {X : Cx} {pins : List (Addr × Obj)} {σ : L2.St} {H : Hp} {s : Shared}
theorem gen_loop {A : Around} {scope : Scope} {env : Env} {fp : List Addr} {a : Addr} {go : Obj} {g : Nat} {elt tg iter : Expr} {pos : Pos} {it : Addr} {vs : List Nat} {J : It} {tn : Nat → Heap → Prop} {gT : TG} {te : TE} {c : Bool} {Q : VK} {W : Nat → Nat → Hp → Prop}
    (I : Inv X pins σ H s) (hfp : ∀ b ∈ fp, FpOk X pins H b) (hL : env.locals ∉ fp) (haf : a ∉ fp) (hco : env.scope.isCoroutine = false)
    (hgo : ∀ h : Heap, h.get? a = some go → h.IsGen a g)
    (T : Turn X.prog X.w X.K tg J fp it tn)
    (pg : PG (gY X A elt tg iter scope pos it env s H fp a go) tg gT)
    (pe : PE (gY X A elt tg iter scope pos it env s H fp a go) elt te)
    (hW : GW J gT te c vs σ Q W) :
    ∀ (n i m : Nat) (s₀ s' : Shared) (σ' : L2.St) (H' : Hp), m < n → wipe σ' vs = wipe σ vs →
      Inv (gY X A elt tg iter scope pos it env s H fp a go) [] σ' H' s' → tn i s'.heap → (∀ b ∈ fp, H' b = none) → W i m H' →
      Seg (model X.prog X.w) A (GRb X pins σ c Q) (GYb X pins σ a g c Q) n s₀ (.compLoop (.GeneratorExp elt [⟨tg, iter, [], 0⟩] scope pos) 0 (.ref it) .none env)
        ((model X.prog X.w).den (.compLoop (.GeneratorExp elt [⟨tg, iter, [], 0⟩] scope pos) 0 (.ref it) .none env)) [] s' := by
  intro n
  induction n with
  | zero => intro i m s₀ s' σ' H' hm; exact absurd hm (Nat.not_lt_zero _)
  | succ n ih =>
    intro i m s₀ s' σ' H' hm hw IY st fr w
    have stat : ∀ {H2 : Hp}, (∀ b ∈ fp, H2 b = none) → ∀ b ∈ fp, FpOk (gY X A elt tg iter scope pos it env s H fp a go) [] H2 b := fun hn b hb =>
      ⟨hn b hb, fun z => hL (z ▸ hb), fun z => IY.ok.exfs b hb z, .inl hb, (IY.ok.exf b hb).2, fun p hp z => by
        have hp' : p = (a, go) := by simpa using hp
        rw [hp'] at z
        have z' : a = b := z
        exact haf (z' ▸ hb)⟩
    have IYw : Inv (gY X A elt tg iter scope pos it env s H fp a go) [] (wipe σ vs) H' s' := by
      rw [← hw]
      exact IY.weak (wipe_length _ _) fun j v e => (wipe_some e).1
    show Seg _ A _ _ _ s₀ _ ((compTurn (.GeneratorExp elt [⟨tg, iter, [], 0⟩] scope pos) 0 (.ref it) .none env).onRaise (leaving env)) [] s'
    rw [compTurn_gen, Sem.onRaise_eq_wrap]
    refine seg_bind_wrap (wpAny_standAt ?_)
    rcases hW i m H' w with ⟨stop, qn⟩ | ⟨goo, Nx, hN, step⟩
    · refine seg_bind_wrap (thnX (T.done (gY X A elt tg iter scope pos it env s H fp a go) rfl rfl rfl rfl i [] s' (wipe σ vs) H' _ IYw (stat fr) st stop) fun r s4 ⟨hr, I4⟩ => ?_)
      subst hr
      exact seg_end (.ok .next) ⟨rfl, H', gen_back I hfp I4, qn⟩
    · refine seg_bind_wrap (thnX (T.item (gY X A elt tg iter scope pos it env s H fp a go) rfl rfl rfl rfl i [] s' (wipe σ vs) H' _ IYw (stat fr) st goo) fun r s4 ⟨u, hr, h4⟩ => ?_)
      subst hr
      refine seg_bind_wrap (thnX h4 fun _ s5 ⟨x, H5, I5, r5, y5, st5, fr5⟩ => ?_)
      have I5' := I5.pinned (stat fr5) (T.obj _ _ st5)
      refine seg_bind_wrap (thnX (pg.run _ s5 (wipe σ vs) H5 x u _ I5' r5 (step x H5 y5)) fun _ s6 ⟨σ6, H6, I6, w6, q6⟩ => ?_)
      simp only [List.forIn_nil]
      refine seg_bind_wrap (wpAny_pure ?_)
      simp only [if_true]
      have hy : ∀ v, yieldOut env v = yieldValue v := fun v => by simp only [yieldOut, hco, Bool.false_eq_true, if_false]
      simp only [hy]
      rw [Sem.bind_eq_wrap', Sem.bind_eq_wrap', Sem.wrap_wrap, Sem.wrap_wrap]
      refine seg_wrap (thnX (pe.run _ s6 σ6 H6 _ I6 q6) fun yv s7 ⟨y, H7, I7, r7, b, ey, q7⟩ => ?_)
      subst ey
      obtain rfl : yv = Value.bool b := r7
      have st7 : tn (i + 1) s7.heap := T.keep _ _ _ st5 fun d hd o e => (I7.pin (d, o) (List.mem_append_right _ (List.mem_append_right _ (mem_pinsAt hd e)))).1
      have fr7 : ∀ d ∈ fp, H7 d = none := fun d hd => by
        obtain ⟨o, e, _⟩ := T.obj _ _ st5 d hd
        exact (I7.pin (d, o) (List.mem_append_right _ (List.mem_append_right _ (mem_pinsAt hd e)))).2.1
      have I7u := I7.unpinned
      have ga : s7.heap.get? a = some go := (I7u.pin (a, go) (List.mem_append_left _ (List.mem_singleton.mpr rfl))).1
      refine seg_at (seg_yield rfl rfl rfl ⟨b, H7, rfl, gen_back I hfp I7u, hgo _ ga, fun hb => ?_, fun hb s'' hk ho hg => ?_⟩)
      · rw [if_neg (by rw [hb]; cases c <;> decide)] at q7
        exact q7
      · rw [if_pos hb] at q7
        obtain ⟨m', hm', w7⟩ := hN H7 q7
        refine seg_again rfl (ih (i + 1) m' s'' s'' σ6 H7 (by omega) w6 ?_ (T.keep _ _ _ st7 fun d _ o e => hk d o e) fr7 w7)
        exact I7u.call' (ch := []) ho (Un.kept hk) (I7u.hok.kept hk) hg fun b z => absurd z (by simp)
end
end LW
set_option maxHeartbeats 1000000
namespace LW
open PySem PySem.Spec PyProof.Rows L2 GenW
section
variable {X : Cx} {pins : List (Addr × Obj)} {σ : L2.St}
theorem not_eq_c {b c : Bool} (h : b ≠ c) : b = !c := by cases b <;> cases c <;> first | rfl | exact absurd rfl h
theorem drain_all {A : Around} {R : Result → Shared → Prop} {a : Addr} {g : Nat} {Q : VK} (hh : A.handled = none) (hd : A.depth < recursionLimit)
    (hR : ∀ b s' H', Inv X pins σ H' s' → Q (.bl b) H' → R (.ok (.ret (.bool b))) s') :
    ∀ (n : Nat) (s : Shared) (H : Hp), s.heap.IsGen a g → Inv X pins σ H s →
      (∃ gs, s.gens[g]? = some gs ∧ gs.Goes (model X.prog X.w) A.in1.in1 (GRb X pins σ true Q) (GYb X pins σ a g true Q) n (.send .none) (s.setGen g .running)) →
      codeAny (model X.prog X.w) A (.builtin "all.loop" ⟨[.ref a], []⟩) R s := by
  intro n
  induction n with
  | zero =>
    intro s H hg I ⟨gs, hgs, hgo⟩
    refine codeAny_builtin F.entry_all_loop ?_
    rw [Around.under_plainId F.plain_all_loop _]
    show wpAny _ A.in1 (pyNext (.ref a) >>= _) _ _ s
    refine wpAny_bind (wpAny_pyNext_genexpQ (A := A.in1) (P := fun _ _ s₁ => ∃ H, Inv X pins σ H s₁ ∧ Q (.bl true) H) hh I.nolimit hd hg hgs hgo (fun v s₁ gs' hbare hv => ?_) (fun s₁ hp h' hk => ?_))
    · obtain ⟨b, H1, rfl, I1, hg1, hq, hk⟩ := hv
      by_cases hb : b = true
      · exact False.elim (hk hb s₁ (fun _ _ e => e) rfl I1.bare)
      · have hb' := not_eq_c hb
        subst hb'
        refine wpAny_bind (wpAny_holding (wpAny_truthy_bool ?_))
        refine wpAny_bind (wpAny_letGo ?_)
        simp only [Bool.not_true, Bool.false_eq_true, if_false]
        refine wpAny_bind (wpAny_rule (wpAny_pure ?_))
        exact hR false _ H1 (inv_gens I1 (allBare_setGen I1.bare hbare)) (hq rfl)
    · obtain ⟨H1, I1, hq⟩ := hp
      refine wpAny_bind (wpAny_rule (wpAny_pure ?_))
      exact hR true _ H1 (I1.call' (ch := []) rfl (Un.kept hk) (I1.hok.kept hk) (allBare_setGen I1.bare rfl) fun b z => absurd z (by simp)) hq
  | succ n ih =>
    intro s H hg I ⟨gs, hgs, hgo⟩
    have hgl : g < s.gens.size := (Array.getElem?_eq_some_iff.mp hgs).1
    refine codeAny_builtin F.entry_all_loop ?_
    rw [Around.under_plainId F.plain_all_loop _]
    show wpAny _ A.in1 (pyNext (.ref a) >>= _) _ _ s
    refine wpAny_bind (wpAny_gsz (n := g + 1) hgl (wpAny_pyNext_genexpQ (A := A.in1) (P := fun _ _ s₁ => ∃ H, Inv X pins σ H s₁ ∧ Q (.bl true) H) hh I.nolimit hd hg hgs hgo (fun v s₁ gs' hbare hv => ?_) (fun s₁ hp h' hk => ?_)))
    · intro hsz
      obtain ⟨b, H1, rfl, I1, hg1, hq, hk⟩ := hv
      refine wpAny_bind (wpAny_holding (wpAny_truthy_bool ?_))
      refine wpAny_bind (wpAny_letGo ?_)
      by_cases hb : b = true
      · subst hb
        simp only [if_true]
        have hsz1 : g < s₁.gens.size := by
          have q : (s₁.setGen g gs').gens.size = s₁.gens.size := setGen_size _ _ _
          have hsz' : g + 1 ≤ (s₁.setGen g gs').gens.size := hsz
          omega
        refine wpAny_pure ⟨plainId_quiet F.plain_all_loop _, ?_⟩
        refine ih (s₁.setGen g gs') H1 hg1 (inv_gens I1 (allBare_setGen I1.bare hbare)) ⟨gs', setGen_at hsz1, ?_⟩
        exact hk rfl _ (fun _ _ e => e) rfl (allBare_setGen (s := s₁.setGen g gs') (allBare_setGen I1.bare hbare) rfl)
      · have hb' := not_eq_c hb
        subst hb'
        simp only [Bool.not_true, Bool.false_eq_true, if_false]
        refine wpAny_bind (wpAny_rule (wpAny_pure ?_))
        exact hR false _ H1 (inv_gens I1 (allBare_setGen I1.bare hbare)) (hq rfl)
    · intro hsz
      obtain ⟨H1, I1, hq⟩ := hp
      refine wpAny_bind (wpAny_rule (wpAny_pure ?_))
      exact hR true _ H1 (I1.call' (ch := []) rfl (Un.kept hk) (I1.hok.kept hk) (allBare_setGen I1.bare rfl) fun b z => absurd z (by simp)) hq
end
end LW
set_option maxHeartbeats 1000000
namespace LW
open PySem PySem.Spec PyProof.Rows L2 GenW
def tGen (P : Addr) (wi : TI) (g : TG) (te : TE) (c : Bool) (vs : List Nat) : TE := fun σ H Q => wi σ H fun J H1 => GxR.TabG H1 P ∧ ∀ H2, GxR.Tabbed P H1 H2 → ∃ W : Nat → Nat → Hp → Prop, (∃ m, W 0 m H2) ∧ GW J g te c vs σ Q W
section
variable {X : Cx} {pins : List (Addr × Obj)} {σ : L2.St} {H : Hp} {s : Shared}
theorem gen_make {cd P : Addr} {elt tg iter : Expr} {gpos : Pos} {scope : Scope} {own : List (Str × Nat)} {wi : TI} {gT : TG} {te : TE} {c : Bool} {Q : VK} {k : Nat} {Q' : Value → Shared → Prop}
    (hr : Room (k + 3) X.A) (TB : GxR.TabB X.base X.mg cd P) (hcode : X.env.code = .ref cd) (S : GSc X.N X.env.scope scope own) (hN : X.N.Nodup) (hi : PI X tg iter wi)
    (hg : ∀ (A : Around) (s : Shared) (H : Hp) (C : Addr) (cl : List (Str × Addr)) (code : Value) (fp : List Addr) (pn : List (Addr × Obj)), PG (gblk X A s H scope (genEnv scope cl C code builtinsNs X.env) fp pn) tg gT)
    (he : ∀ (A : Around) (s : Shared) (H : Hp) (C : Addr) (cl : List (Str × Addr)) (code : Value) (fp : List Addr) (pn : List (Addr × Obj)), Room k A → PE (gblk X A s H scope (genEnv scope cl C code builtinsNs X.env) fp pn) elt te)
    (hs : ∀ v, genFold iter X.env v = pure v) (I : Inv X pins σ H s) (h : tGen P wi gT te c (own.map (·.2)) σ H Q)
    (hQ : ∀ (a : Addr) (g n : Nat) (H' : Hp) (s5 : Shared), s5.heap.IsGen a g → Inv X pins σ H' s5 →
      (∃ gs, s5.gens[g]? = some gs ∧ gs.Goes (model X.prog X.w) X.A.in1.in1 (GRb X pins σ c Q) (GYb X pins σ a g c Q) n (.send .none) (s5.setGen g .running)) → Q' (.ref a) s5) :
    wpAny (model X.prog X.w) X.A (eval (.GeneratorExp elt [⟨tg, iter, [], 0⟩] scope gpos) X.env) Q' X.xe s := by
  have hfree : ∀ y ∈ scope.names, y.2 = .free → ∃ c, X.env.cells.lookup y.1 = some c := fun y hy e => by
    rcases S.free y hy e with k | k
    · exact I.ok.has _ (.inl k)
    · exact I.ok.has _ (.inr k)
  refine wpAny_GeneratorExp_make S.co (closure_ok hfree) S.cell S.dot S.kind hr.depth ?_ hs
  refine thn (hi.run pins s σ H _ I h) fun xv s1 hx => thn hx fun itv s2 h2 => ?_
  obtain ⟨it, fp, tn, J, H2, e, I2, T, st2, f2, ⟨ps, hP, ht⟩, q⟩ := h2
  subst e
  refine ⟨I2.nolimit, ?_⟩
  have hPs : s2.heap.get? P = some { cls := .none, data := .fields ps } := I2.hok P _ hP
  have hPlt : P < s2.heap.objs.size := Heap.lt_size hPs
  have cdh : PySem.W.CodeHd s2.heap cd P := TB.code.keeps I2.bk
  have szfp : ∀ b ∈ fp, b < s2.heap.objs.size := fun b hb => by
    obtain ⟨o, e, _⟩ := T.obj _ _ st2 b hb
    exact Heap.lt_size e
  have neP : ∀ b ∈ fp, b ≠ P := fun b hb z => by
    have := (f2 b hb).1
    rw [z, hP] at this
    cases this
  have cont : ∀ (code : Value) (h3 : Heap) (tk : Nat) (ps' : Array Value), Heap.ExtBut P s2.heap h3 → s2.heap.objs.size ≤ h3.objs.size → h3.get? P = some { cls := .none, data := .fields ps' } → (∃ more, ps' = ps ++ more) → TriplesOk ps'.toList →
      wpAny (model X.prog X.w) X.A (builtinsFor X.env.globals X.env.builtins) (fun bi s₄ =>
        ∀ h', h'.Ns s₄.heap.objs.size (fun y => if y = ".0" then some (.ref it) else none) → Heap.SameBut s₄.heap.objs.size (s₄.heap.push { cls := .type "frame", data := .dict #[] }) h' →
          Q' (.ref h'.objs.size) { s₄ with
            gens := s₄.gens.push (.fresh (.compStart (.GeneratorExp elt [⟨tg, iter, [], 0⟩] scope gpos) 0 (.ref it) .none (genEnv scope (cloFrom X.env.cells scope.names []) s₄.heap.objs.size code bi X.env))),
            toks := s₄.toks + 1 + 1 + 1,
            heap := h'.push { cls := .type "generator", data := .fields #[.int s₄.gens.size 0, .str "<genexpr>" (s₄.toks + 1), .str (X.env.qual ++ "<genexpr>") (s₄.toks + 1 + 1)] } }) X.xe { s2 with heap := h3, toks := tk } := by
    intro code h3 tk ps' hx hsz hP3 hmore ht3
    obtain ⟨bm, ob, e1, e2, e3, e4, e5, e6, e7, e8⟩ := TB.bm
    have keep3 : ∀ b u, b ≠ P → s2.heap.get? b = some u → h3.get? b = some u := fun b u hb e => hx b u hb e
    refine wpAny_builtinsFor (m := X.mg) (by rw [I2.ok.glob]; exact ((I2.mod.glob.keeps I2.bk)).extBut hx TB.gP) e1 e2 (keep3 _ _ e4 (I2.bk _ _ e5)) e6 e7 e8 ?_
    obtain ⟨more, em⟩ := hmore
    have I3 := GxR.inv_tab (more := more) (h' := h3) (g' := s2.gens) (d' := s2.drawn) (t' := tk) I2 hP (fun b u hb e => keep3 b u hb e) (by rw [← em]; exact hP3) I2.bare
    generalize hH3 : upd H2 P (.tbl (ps ++ more)) = H3 at I3
    have hTab : GxR.Tabbed P H2 H3 := by
      rw [← hH3]
      exact ⟨⟨ps ++ more, upd_same, by rw [← em]; exact ht3⟩, fun b hb => upd_ne hb⟩
    obtain ⟨W, ⟨m0, w0⟩, hW⟩ := q H3 hTab
    have f3 : ∀ b ∈ fp, FpOk X pins H3 b := fun b hb => ⟨by rw [hTab.2 b (neP b hb)]; exact (f2 b hb).1, (f2 b hb).2⟩
    have st3 : tn 0 h3 := T.keep _ _ _ st2 fun b hb o e => keep3 b o (neP b hb) e
    generalize hs4 : ({ s2 with heap := h3, gens := s2.gens, drawn := s2.drawn, toks := tk } : Shared) = s4 at I3
    have hs4' : ({ s2 with heap := h3, toks := tk } : Shared) = s4 := by rw [← hs4]
    have h4 : s4.heap = h3 := by rw [← hs4]
    have g4 : s4.gens = s2.gens := by rw [← hs4]
    have b4 : AllBare s4.gens := I3.bare
    intro h' hn' hs'
    have hsz' : h'.objs.size = s4.heap.objs.size + 1 := by rw [hs'.1, Heap.size_push]
    have keep' : ∀ b o, s4.heap.get? b = some o → h'.get? b = some o := fun b o e => hs'.extBut b o (Nat.ne_of_lt (Heap.lt_size e)) (Heap.get?_push_of_some _ e)
    generalize hgo : ({ cls := .type "generator", data := .fields #[.int s4.gens.size 0, .str "<genexpr>" (s4.toks + 1), .str (X.env.qual ++ "<genexpr>") (s4.toks + 1 + 1)] } : Obj) = go
    have keep5 : ∀ b o, s4.heap.get? b = some o → (h'.push go).get? b = some o := fun b o e => Heap.get?_push_of_some _ (keep' b o e)
    have hga : (h'.push go).get? h'.objs.size = some go := Heap.get?_push_size _ (by rw [← hgo]; rfl)
    have isg : ∀ h : Heap, h.get? h'.objs.size = some go → h.IsGen h'.objs.size s4.gens.size := fun h e => ⟨go, _, _, e, by rw [← hgo], by rw [← hgo], by rw [← hgo]⟩
    have I5 : Inv X pins σ H3 { s4 with gens := s4.gens.push (.fresh (.compStart (.GeneratorExp elt [⟨tg, iter, [], 0⟩] scope gpos) 0 (.ref it) .none (genEnv scope (cloFrom X.env.cells scope.names []) s4.heap.objs.size code builtinsNs X.env))), toks := s4.toks + 1 + 1 + 1, heap := h'.push go } :=
      I3.call' (ch := []) rfl (Un.kept keep5) (I3.hok.kept keep5) (AllBare.push b4 rfl) fun b z => absurd z (by simp)
    refine hQ h'.objs.size s4.gens.size (m0 + 1) H3 _ (isg _ hga) I5 ⟨_, Array.getElem?_push_size .., rfl, ?_⟩
    generalize hs5 : (Shared.setGen { s4 with gens := s4.gens.push (.fresh (.compStart (.GeneratorExp elt [⟨tg, iter, [], 0⟩] scope gpos) 0 (.ref it) .none (genEnv scope (cloFrom X.env.cells scope.names []) s4.heap.objs.size code builtinsNs X.env))), toks := s4.toks + 1 + 1 + 1, heap := h'.push go } s4.gens.size .running) = s5
    have h5 : s5.heap = h'.push go := by rw [← hs5]; rfl
    have os5 : s5.os = s4.os := by rw [← hs5]; rfl
    have b5 : AllBare s5.gens := by rw [← hs5]; exact allBare_setGen (AllBare.push b4 rfl) rfl
    have hAf : (X.A.in1.in1).frames = some X.stack := I3.ok.frames
    have IY := gen_begin (A := X.A.in1.in1.over (.compLoop (.GeneratorExp elt [⟨tg, iter, [], 0⟩] scope gpos) 0 (.ref it) .none (genEnv scope (cloFrom X.env.cells scope.names []) s4.heap.objs.size code builtinsNs X.env)) []) (code := code) (fp := fp) (pn := [(h'.objs.size, go)]) (s5 := s5) I3 S hN
      (fun b hb => ⟨f3 b hb, by rw [h4]; exact Nat.lt_of_lt_of_le (szfp b hb) hsz⟩) hr.hd (over_gexp hAf) (fun b o e => by rw [h5]; exact keep5 b o e) (by rw [h5]; exact hn'.push _) os5 b5 (fun p hp => by
        rw [List.mem_singleton.mp hp]
        refine ⟨by rw [h5]; exact hga, by show s4.heap.objs.size < h'.objs.size; rw [hsz']; exact Nat.lt_succ_self _, fun v z => ?_⟩
        rw [← hgo] at z; cases z)
    have ltfp : ∀ b ∈ fp, b < s4.heap.objs.size := fun b hb => by rw [h4]; exact Nat.lt_of_lt_of_le (szfp b hb) hsz
    have loop := gen_loop (A := X.A.in1.in1) (scope := scope) (env := genEnv scope (cloFrom X.env.cells scope.names []) s4.heap.objs.size code builtinsNs X.env) (fp := fp) (a := h'.objs.size) (go := go) (g := s4.gens.size) (pos := gpos) (it := it)
      (vs := own.map (·.2)) (elt := elt) (tg := tg) (iter := iter) (c := c) (Q := Q) (W := W) I3 f3 (fun z => Nat.lt_irrefl _ (ltfp _ z)) (fun z => by
        have h6 := ltfp _ z
        rw [hsz'] at h6
        exact Nat.lt_irrefl _ (Nat.lt_trans (Nat.lt_succ_self _) h6)) S.co isg T (hg _ _ _ _ _ _ _ _) (he _ _ _ _ _ _ _ _ (room_gexp (Room.in1 (Room.in1 hr)))) hW
      (m0 + 1) 0 m0 s5 s5 (wipe σ (own.map (·.2))) H3 (Nat.lt_succ_self _) (wipe_wipe _ _) IY (by rw [h5]; exact T.keep _ _ _ st3 fun b _ o e => keep5 b o (by rw [h4]; exact e)) (fun b hb => (f3 b hb).1) w0
    have st5 : tn 0 s5.heap := by rw [h5]; exact T.keep _ _ _ st3 fun b _ o e => keep5 b o (by rw [h4]; exact e)
    show Seg _ _ _ _ _ _ _ ((compStart (.GeneratorExp elt [⟨tg, iter, [], 0⟩] scope gpos) 0 (.ref it) .none _).onRaise (leaving _)) [] s5
    unfold compStart
    rw [Sem.onRaise_eq_wrap]
    show Seg _ _ _ _ _ _ _ ((ask >>= _).wrap _ _ _ _) [] s5
    refine seg_bind_wrap (wpAny_askSetting ?_)
    split
    · exact seg_again rfl loop
    · first
        | exact seg_bind_wrap (wpAny_rule (seg_bind_wrap (wpAny_standAt (seg_bind_wrap (T.self _ 0 s5 _ _ st5 (seg_again rfl loop))))))
        | (refine seg_bind_wrap (wpAny_rule ?_); show Seg _ _ _ _ _ _ _ ((standAt iter.pos >>= _).wrap _ _ _ _) [] s5; exact seg_bind_wrap (wpAny_standAt (seg_bind_wrap (T.self _ 0 s5 _ _ st5 (seg_again rfl loop)))))
  cases hf : codeAmong gpos ps.toList with
  | none =>
    refine wpAny_genexprCodeX hcode (cdh.code hPs ht) (cdh.tab hPs) hf fun c' h' tk hx hge hlt hco' _ htab' _ => ?_
    obtain ⟨o1, vs, f1, tf, fl, tg', inF, tx, tt, op, _, _, _, _, _, _, _, _, _, htr, _⟩ := hco'
    exact cont _ h' tk _ hx (Nat.le_trans hge (Nat.le_of_lt hlt)) htab'.2 ⟨_, rfl⟩ htr
  | some cv =>
    refine wpAny_genexprCode_hit hcode (cdh.code hPs ht) hf ?_
    exact cont cv s2.heap s2.toks ps (Heap.ExtBut.refl _ _) (Nat.le_refl _) hPs ⟨#[], by simp⟩ ht
end
end LW
set_option maxHeartbeats 1000000
namespace LW
open PySem PySem.Spec PyProof.Rows L2 GenW
section
variable {X : Cx}
theorem pe_allG {cd P : Addr} {elt tg iter : Expr} {p pos gpos : Pos} {scope : Scope} {own : List (Str × Nat)} {wi : TI} {gT : TG} {te : TE} {k : Nat}
    (hr : Room (k + 3) X.A) (hgl : Gl X "all") (hm : X.mg "all" = none) (hb : bootBuiltins "all" = some (.builtin "all")) (TB : GxR.TabB X.base X.mg cd P) (hcode : X.env.code = .ref cd) (S : GSc X.N X.env.scope scope own) (hN : X.N.Nodup) (hi : PI X tg iter wi)
    (hg : ∀ (A : Around) (s : Shared) (H : Hp) (C : Addr) (cl : List (Str × Addr)) (code : Value) (fp : List Addr) (pn : List (Addr × Obj)), PG (gblk X A s H scope (genEnv scope cl C code builtinsNs X.env) fp pn) tg gT)
    (he : ∀ (A : Around) (s : Shared) (H : Hp) (C : Addr) (cl : List (Str × Addr)) (code : Value) (fp : List Addr) (pn : List (Addr × Obj)), Room k A → PE (gblk X A s H scope (genEnv scope cl C code builtinsNs X.env) fp pn) elt te)
    (hs : ∀ v, genFold iter X.env v = pure v := by intro _; rfl)
    (hse : starEach [.GeneratorExp elt [⟨tg, iter, [], 0⟩] scope gpos] X.env = (false, eval (.GeneratorExp elt [⟨tg, iter, [], 0⟩] scope gpos) X.env) :: starEach [] X.env := by rfl) :
    PE X (.Call (.Name "all" p) [.GeneratorExp elt [⟨tg, iter, [], 0⟩] scope gpos] [] pos) (tGen P wi gT te true (own.map (·.2))) := by
  refine ⟨fun pins s σ H Q I h => ?_⟩
  refine wpAny_Call_Name_kw (ld_blt I hgl hm hb ?_)
  refine PyProof.Rows.callWith_builtin1 ?_ hse (by rfl)
  rw [hse]
  show wpAny _ _ (spliced ((false, eval (.GeneratorExp elt [⟨tg, iter, [], 0⟩] scope gpos) X.env) :: backTo pos (starEach [] X.env))) _ _ s
  refine Calls.spliced_cons (gen_make (c := true) (Q := Q) hr TB hcode S hN hi hg he hs I h fun a g n H' s5 hga I5 hgo => ?_)
  refine Calls.spliced_nil ?_
  refine call_function_tree F.kind_all F.plain_all F.entry_all (F.args_all1 _) ?_
  unfold Builtin.«all»
  refine wpAny_bind (m := oneArg "all" _) (wpAny_pure ?_)
  refine wpAny_bind (wpAny_pyIter_gen hga ?_)
  exact wpAny_pure ⟨plainId_quiet F.plain_all_loop _, drain_all hr.hd hr.depth (fun b s' H' I' q => ⟨.bl b, H', I', rfl, q⟩) n s5 H' hga I5 hgo⟩
end
theorem gw_tup {K : PySem.W.Frag} {a : Addr} {xs : List V} {g : TG} {te : TE} {c : Bool} {vs : List Nat} {σ : L2.St} {H1 : Hp} {Q : VK} (Pv : Nat → Hp → Prop) (h0 : Pv 0 H1) (hl : ∀ i H, i ≤ xs.length → Pv i H → SqT K H a xs)
    (hs : ∀ i x H, xs[i]? = some x → Pv i H → g x (wipe σ vs) H fun σ2 H2 => wipe σ2 vs = wipe σ vs ∧ te σ2 H2 fun y H3 => ∃ b, y = .bl b ∧ if b = c then Pv (i + 1) H3 else Q (.bl (!c)) H3)
    (hd : ∀ H, Pv xs.length H → Q (.bl c) H) : ∃ W : Nat → Nat → Hp → Prop, (∃ m, W 0 m H1) ∧ GW (Itt K a) g te c vs σ Q W := by
  refine ⟨fun i m H => m = xs.length - i ∧ i ≤ xs.length ∧ Pv i H, ⟨xs.length, by simp, Nat.zero_le _, h0⟩, ?_⟩
  rintro i m H ⟨rfl, hi, p⟩
  have q := hl i H hi p
  by_cases hlt : i < xs.length
  · refine .inr ⟨⟨xs, xs[i], q, by simp [hlt]⟩, Pv (i + 1), fun H' p' => ⟨xs.length - (i + 1), by omega, rfl, hlt, p'⟩, fun x H' y => ?_⟩
    obtain ⟨e, y⟩ := y
    subst e
    exact hs i x _ (y xs q) p
  · have e : i = xs.length := by omega
    subst e
    exact .inl ⟨⟨xs, q, Nat.le_refl _⟩, hd H p⟩
end LW
set_option maxHeartbeats 1000000
namespace LW
open PySem PySem.Spec PyProof.Rows L2
structure Gr (m : List Addr) (H H' : Hp) : Prop where
  keep : ∀ b o, b ∉ m → H b = some o → (∀ ps, o ≠ .tbl ps) → H' b = some o
  tab : ∀ P, GxR.TabG H P → GxR.TabG H' P
  free : ∀ p, H' p = none → H p = none
theorem upd_none' {H : Hp} {a b : Addr} {o : HO} (e : upd H a o b = none) : H b = none := by
  by_cases h : b = a
  · rw [h, upd_same] at e; cases e
  · rw [upd_ne h] at e; exact e
theorem tabG_tbl {H : Hp} {P : Addr} (t : GxR.TabG H P) : ∃ ps, H P = some (.tbl ps) := let ⟨ps, h, _⟩ := t; ⟨ps, h⟩
theorem Gr.refl {m : List Addr} (H : Hp) : Gr m H H := ⟨fun _ _ _ h _ => h, fun _ h => h, fun _ h => h⟩
theorem Gr.trans {m : List Addr} {H H1 H2 : Hp} (a : Gr m H H1) (b : Gr m H1 H2) : Gr m H H2 := ⟨fun c o hm h n => b.keep c o hm (a.keep c o hm h n) n, fun P t => b.tab P (a.tab P t), fun p h => a.free p (b.free p h)⟩
theorem Gr.mono {m m' : List Addr} {H H1 : Hp} (a : Gr m H H1) (h : ∀ b ∈ m, b ∈ m') : Gr m' H H1 := ⟨fun c o hm => a.keep c o fun z => hm (h c z), a.tab, a.free⟩
theorem Gr.any {m : List Addr} {H H1 : Hp} (a : Gr [] H H1) : Gr m H H1 := a.mono fun _ z => by cases z
theorem Gr.new {m : List Addr} {H : Hp} {p : Addr} {o : HO} (h : H p = none) : Gr m H (upd H p o) :=
  ⟨fun b u _ q _ => by rw [upd_ne (ne_of_none q h)]; exact q, fun P ⟨ps, q, t⟩ => ⟨ps, by rw [upd_ne (ne_of_none q h)]; exact q, t⟩, fun _ => upd_none'⟩
theorem Gr.put {m : List Addr} {H : Hp} {p : Addr} {o u : HO} (h : H p = some u) (n : ∀ ps, u ≠ .tbl ps) (hm : p ∈ m) : Gr m H (upd H p o) :=
  ⟨fun b v hb q _ => by rw [upd_ne (show b ≠ p from fun z => hb (by rw [z]; exact hm))]; exact q, fun P ⟨ps, q, t⟩ => ⟨ps, by rw [upd_ne (fun z => n ps (by rw [z, h] at q; exact Option.some.inj q))]; exact q, t⟩, fun _ => upd_none'⟩
theorem Gr.put0 {m : List Addr} {H H1 : Hp} {p : Addr} {o : HO} (g : Gr m H H1) (h : H p = none) : Gr m H (upd H1 p o) :=
  ⟨fun b v hb q n => by rw [upd_ne (ne_of_none q h)]; exact g.keep b v hb q n, fun P t => by
    obtain ⟨ps, q⟩ := tabG_tbl t
    obtain ⟨ps', q', t'⟩ := g.tab P t
    exact ⟨ps', by rw [upd_ne (ne_of_none q h)]; exact q', t'⟩, fun _ e => g.free _ (upd_none' e)⟩
theorem Gr.drop {m : List Addr} {H H1 : Hp} {p : Addr} (g : Gr (p :: m) H H1) (h : H p = none) : Gr m H H1 :=
  ⟨fun b v hb q n => g.keep b v (fun z => (List.mem_cons.mp z).elim (ne_of_none q h) hb) q n, g.tab, g.free⟩
theorem Gr.lst {m : List Addr} {H H' : Hp} {a : Addr} {xs : List V} (g : Gr m H H') (hm : a ∉ m) (h : H a = some (.lst xs)) : H' a = some (.lst xs) := g.keep a _ hm h fun _ z => by cases z
theorem Gr.tup {m : List Addr} {H H' : Hp} {a : Addr} {xs : List V} (g : Gr m H H') (hm : a ∉ m) (h : H a = some (.tup xs)) : H' a = some (.tup xs) := g.keep a _ hm h fun _ z => by cases z
theorem Gr.sqT {H H' : Hp} {K : PySem.W.Frag} {a : Addr} {xs : List V} (g : Gr [] H H') (h : SqT K H a xs) : SqT K H' a xs := by
  rcases h with (h | ⟨o, h⟩) | h
  · exact .inl (.inl (g.tup (by simp) h))
  · exact .inl (.inr ⟨o, g.keep _ _ (by simp) h fun _ z => by cases z⟩)
  · exact .inr h
theorem Gr.sqL {H H' : Hp} {K : PySem.W.Frag} {a : Addr} {xs : List V} (g : Gr [] H H') (h : SqL K H a xs) : SqL K H' a xs := by
  rcases h with (h | ⟨o, h⟩) | h
  · exact .inl (.inl (g.lst (by simp) h))
  · exact .inl (.inr ⟨o, g.keep _ _ (by simp) h fun _ z => by cases z⟩)
  · exact .inr h
theorem Gr.sqTm {m : List Addr} {H H' : Hp} {K : PySem.W.Frag} {a : Addr} {xs : List V} (g : Gr m H H') (hm : ∀ b ∈ m, ∃ ys, H b = some (.lst ys)) (h : SqT K H a xs) : SqT K H' a xs := by
  rcases h with (h | ⟨o, h⟩) | h
  · exact .inl (.inl (g.tup (fun z => by obtain ⟨ys, q⟩ := hm a z; rw [h] at q; cases q) h))
  · exact .inl (.inr ⟨o, g.keep _ _ (fun z => by obtain ⟨ys, q⟩ := hm a z; rw [h] at q; cases q) h fun _ z => by cases z⟩)
  · exact .inr h
theorem Tabbed.gr {P : Addr} {H H' : Hp} (t : GxR.TabG H P) (h : GxR.Tabbed P H H') : Gr [] H H' := by
  obtain ⟨ps, q⟩ := tabG_tbl t
  refine ⟨fun b o _ e n => ?_, fun P' t' => ?_, fun b e => ?_⟩
  · rw [h.2 b (fun z => n ps (by rw [z, q] at e; exact (Option.some.inj e).symm))]
    exact e
  · by_cases e : P' = P
    · rw [e]; exact h.1
    · obtain ⟨ps', q', z⟩ := t'
      exact ⟨ps', by rw [h.2 P' e]; exact q', z⟩
  · by_cases z : b = P
    · obtain ⟨ps', q', _⟩ := h.1
      rw [z, q'] at e; cases e
    · rw [h.2 b z] at e; exact e
def Tbs (Ts : List Addr) (H : Hp) : Prop := ∀ P ∈ Ts, GxR.TabG H P
theorem Tbs.gr {Ts m : List Addr} {H H' : Hp} (t : Tbs Ts H) (g : Gr m H H') : Tbs Ts H' := fun P hP => g.tab P (t P hP)
abbrev noLists : PyData → Bool := fun _ => true
mutual
theorem dp_gr {K : PySem.W.Frag} {H H' : Hp} {m : List Addr} (g : Gr m H H') (hm : m = []) : ∀ (d : PyData) (v : V), Dp K H v d → Dp K H' v d
  | .none, _, h => by cases h; exact .non
  | .bool b, _, h => by cases h; exact .bl b
  | .int i, _, h => by cases h; exact .int i
  | .str x, _, h => by cases h; exact .str x
  | .list ds, _, h => by
    subst hm
    cases h with
    | lst hs ha => exact .lst (g.sqL hs) (dpAll_gr g rfl ds _ ha)
  | .tuple ds, _, h => by
    subst hm
    cases h with
    | tup hs ha => exact .tup (g.sqT hs) (dpAll_gr g rfl ds _ ha)
  | .dict _, _, h => by cases h
theorem dpAll_gr {K : PySem.W.Frag} {H H' : Hp} {m : List Addr} (g : Gr m H H') (hm : m = []) : ∀ (ds : List PyData) (vs : List V), DpAll K H vs ds → DpAll K H' vs ds
  | [], _, h => by cases h; exact .nil
  | d :: ds, _, h => by
    cases h with
    | cons h1 h2 => exact .cons (dp_gr g hm d _ h1) (dpAll_gr g hm ds _ h2)
end
mutual
def pure1 : PyData → Bool
  | .list _ => false
  | .dict _ => false
  | .tuple ds => pureAll ds
  | _ => true
def pureAll : List PyData → Bool
  | [] => true
  | d :: ds => pure1 d && pureAll ds
end
mutual
theorem dp_grm {K : PySem.W.Frag} {H H' : Hp} {m : List Addr} (g : Gr m H H') (hm : ∀ b ∈ m, ∃ ys, H b = some (.lst ys)) : ∀ (d : PyData) (v : V), pure1 d = true → Dp K H v d → Dp K H' v d
  | .none, _, _, h => by cases h; exact .non
  | .bool b, _, _, h => by cases h; exact .bl b
  | .int i, _, _, h => by cases h; exact .int i
  | .str x, _, _, h => by cases h; exact .str x
  | .list ds, _, p, h => nomatch p
  | .tuple ds, _, p, h => by
    cases h with
    | tup hs ha => exact .tup (g.sqTm hm hs) (dpAll_grm g hm ds _ p ha)
  | .dict _, _, _, h => by cases h
theorem dpAll_grm {K : PySem.W.Frag} {H H' : Hp} {m : List Addr} (g : Gr m H H') (hm : ∀ b ∈ m, ∃ ys, H b = some (.lst ys)) : ∀ (ds : List PyData) (vs : List V), pureAll ds = true → DpAll K H vs ds → DpAll K H' vs ds
  | [], _, _, h => by cases h; exact .nil
  | d :: ds, _, p, h => by
    have p' : pure1 d = true ∧ pureAll ds = true := by
      have q : (pure1 d && pureAll ds) = true := p
      simpa using q
    cases h with
    | cons h1 h2 => exact .cons (dp_grm g hm d _ p'.1 h1) (dpAll_grm g hm ds _ p'.2 h2)
end
end LW
namespace L2
open PySem PySem.Spec PyProof.Rows LW
section
variable {K : PySem.W.Frag} {H : Hp}
theorem Dp.gr {H' : Hp} {v : V} {d : PyData} (h : Dp K H v d) (g : Gr [] H H') : Dp K H' v d := dp_gr g rfl d v h
theorem DpAll.gr {H' : Hp} {vs : List V} {ds : List PyData} (h : DpAll K H vs ds) (g : Gr [] H H') : DpAll K H' vs ds := dpAll_gr g rfl ds vs h
theorem DpAll.length : ∀ {vs : List V} {ds : List PyData}, DpAll K H vs ds → vs.length = ds.length
  | _, _, .nil => rfl
  | _, _, .cons _ t => congrArg (· + 1) (DpAll.length t)
theorem DpAll.get : ∀ {vs : List V} {ds : List PyData} {i : Nat} {v : V}, DpAll K H vs ds → vs[i]? = some v → ∃ d, ds[i]? = some d ∧ Dp K H v d
  | _, _, _, _, .nil, e => by simp at e
  | _, _, 0, _, .cons h _, e => by simp at e; subst e; exact ⟨_, rfl, h⟩
  | _, _, i + 1, v, .cons _ t, e => by
    obtain ⟨d, h1, h2⟩ := DpAll.get (i := i) (v := v) t (by simpa using e)
    exact ⟨d, by simpa using h1, h2⟩
theorem DpAll.at : ∀ {vs : List V} {ds : List PyData} {i : Nat} {d : PyData}, DpAll K H vs ds → ds[i]? = some d → ∃ v, vs[i]? = some v ∧ Dp K H v d
  | _, _, _, _, .nil, e => by simp at e
  | _, _, 0, _, .cons h _, e => by simp at e; subst e; exact ⟨_, rfl, h⟩
  | _, _, i + 1, d, .cons _ t, e => by
    obtain ⟨v, h1, h2⟩ := DpAll.at (i := i) (d := d) t (by simpa using e)
    exact ⟨v, by simpa using h1, h2⟩
theorem DpAll.append : ∀ {vs ws : List V} {ds es : List PyData}, DpAll K H vs ds → DpAll K H ws es → DpAll K H (vs ++ ws) (ds ++ es)
  | _, _, _, _, .nil, s => s
  | _, _, _, _, .cons h t, s => .cons h (DpAll.append t s)
theorem DpAll.take : ∀ {vs : List V} {ds : List PyData} (n : Nat), DpAll K H vs ds → DpAll K H (vs.take n) (ds.take n)
  | _, _, 0, _ => .nil
  | _, _, _ + 1, .nil => .nil
  | _, _, n + 1, .cons r t => .cons r (DpAll.take n t)
theorem DpAll.drop : ∀ {vs : List V} {ds : List PyData} (n : Nat), DpAll K H vs ds → DpAll K H (vs.drop n) (ds.drop n)
  | _, _, 0, r => r
  | _, _, _ + 1, .nil => .nil
  | _, _, n + 1, .cons _ t => DpAll.drop n t
theorem Dp.tupI {v : V} {ds : List PyData} (h : Dp K H v (.tuple ds)) : ∃ a xs, v = .ref a ∧ SqT K H a xs ∧ DpAll K H xs ds := by
  cases h with
  | tup hs ha => exact ⟨_, _, rfl, hs, ha⟩
theorem Dp.intI {v : V} {i : Int} (h : Dp K H v (.int i)) : v = .int i := by cases h; rfl
def tyD : PyData → String
  | .none => "NoneType" | .bool _ => "bool" | .int _ => "int" | .str _ => "str" | .list _ => "list" | .tuple _ => "tuple" | .dict _ => "dict"
theorem Dp.ty {v : V} {d : PyData} (h : Dp K H v d) : TyX K H v (.type (tyD d)) := by
  cases h with
  | non => exact .base .non
  | bl b => exact .base (.bl b)
  | int i => exact .base (.int i)
  | str x => exact .base (.str x)
  | lst hs ha =>
    rcases hs with (h | ⟨o, h⟩) | ⟨o, its, n, h, c, _⟩
    · exact .base (.lst h)
    · exact .base (.frz h)
    · exact .kList h c
  | tup hs ha =>
    rcases hs with (h | ⟨o, h⟩) | ⟨o, its, n, h, c, _⟩
    · exact .base (.tup h)
    · exact .fTuple h
    · exact .kTuple h c
def isIntD : PyData → Bool
  | .int _ => true | .bool _ => true | _ => false
def isBoolD : PyData → Bool
  | .bool _ => true | _ => false
def isTupD : PyData → Bool
  | .tuple _ => true | _ => false
theorem kit_int (d : PyData) : PySem.W.kitOne K (.type (tyD d)) (.type "int") = some (isIntD d) := by
  have h : ∀ x : String × Bool, x ∈ [("NoneType", false), ("bool", true), ("int", true), ("str", false), ("list", false), ("tuple", false), ("dict", false)] → kitB x.1 "int" = some x.2 := by decide +kernel
  cases d <;> exact kit_ty (h (_, _) (by simp [tyD, isIntD]))
theorem kit_bool (d : PyData) : PySem.W.kitOne K (.type (tyD d)) (.type "bool") = some (isBoolD d) := by
  have h : ∀ x : String × Bool, x ∈ [("NoneType", false), ("bool", true), ("int", false), ("str", false), ("list", false), ("tuple", false), ("dict", false)] → kitB x.1 "bool" = some x.2 := by decide +kernel
  cases d <;> exact kit_ty (h (_, _) (by simp [tyD, isBoolD]))
theorem kit_tup (d : PyData) : PySem.W.kitOne K (.type (tyD d)) (.type "tuple") = some (isTupD d) := by
  have h : ∀ x : String × Bool, x ∈ [("NoneType", false), ("bool", false), ("int", false), ("str", false), ("list", false), ("tuple", true), ("dict", false)] → kitB x.1 "tuple" = some x.2 := by decide +kernel
  cases d <;> exact kit_ty (h (_, _) (by simp [tyD, isTupD]))
end
end L2
namespace LW
open PySem PySem.Spec PyProof.Rows L2
structure Fn (P : Program) (w : World) (K : PySem.W.Frag) (mg : Str → Option Value) (base : Heap) (CX : CXT) (k : Nat) (name : Str) (ps : List Str) (sp : Sp) : Prop where
  ex : ∃ f fd, FnOk P w K mg base CX k f fd ps sp ∧ mg name = some (.ref f) ∧ PySem.W.keepIn K (.ref f) = true ∧ Binds K fd ps []
theorem Fn.mono {P : Program} {w : World} {K : PySem.W.Frag} {mg : Str → Option Value} {base : Heap} {CX : CXT} {j k : Nat} {name : Str} {ps : List Str} {sp : Sp} (F : Fn P w K mg base CX j name ps sp) (h : j ≤ k) : Fn P w K mg base CX k name ps sp := by
  obtain ⟨f, fd, F, m, kk, b⟩ := F.ex
  exact ⟨f, fd, F.mono h, m, kk, b⟩
theorem pe_fn {X : Cx} {CX : CXT} {k : Nat} {x : Str} {ps : List Str} {sp : Sp} {E : XK} {p pos : Pos} {e : Expr} {es : List Expr} {t : TA} (F : Fn X.prog X.w X.K X.mg X.base CX k x ps sp) (hr : Room k X.A) (hg : Gl X x) (hx : Passes CX X E) (ht : PA X (e :: es) t)
    (hdb : (x == ("__debug__" : Str)) = false := by decide) (he : starEach (e :: es) X.env = (false, eval e X.env) :: starEach es X.env := by rfl) (hpl : (backTo pos (starEach es X.env)).any (·.1) = false := by rfl) :
    PE X (.Call (.Name x p) (e :: es) [] pos) (tCall sp [] E t) := by
  obtain ⟨f, fd, F, hm, hk, hb⟩ := F.ex
  exact pe_call F hr hg hm hk hb .nil hx ht hdb he hpl
end LW
namespace LW
open PySem PySem.Spec PyProof.Rows L2
def topS (i : Nat) : Stmt := PySem.Challenge.pw_leafward_k02_texts_of_documents.main.body.getD i (.Pass ⟨0, 0, 0, 0⟩)
abbrev c_LeafwardError : Stmt := topS 1
abbrev c_BadDocument : Stmt := topS 2
abbrev c_BadSchema : Stmt := topS 3
abbrev c_BadTransformation : Stmt := topS 4
abbrev c_BadText : Stmt := topS 5
abbrev c_TooMuch : Stmt := topS 6
abbrev s_is_below : Stmt := topS 8
abbrev s_is_tuple_of : Stmt := topS 9
abbrev s_check_document : Stmt := topS 15
abbrev s_is_document : Stmt := topS 16
abbrev s_is_tree : Stmt := topS 17
abbrev s_written : Stmt := topS 18
abbrev s_text_of : Stmt := topS 19
abbrev s_tree_text : Stmt := topS 20
abbrev s_read : Stmt := topS 21
abbrev c_Reading : Stmt := topS 22
abbrev s_Reading___init__ : Stmt := inClass (topS 22) 0
abbrev s_Reading_take : Stmt := inClass (topS 22) 1
abbrev s_Reading_add_tree : Stmt := inClass (topS 22) 2
abbrev s_Reading_open_row : Stmt := inClass (topS 22) 3
abbrev s_Reading_close_row : Stmt := inClass (topS 22) 4
abbrev s_Reading_document : Stmt := inClass (topS 22) 5
abbrev s__law_box : Stmt := topS 24
abbrev s__law_take : Stmt := topS 25
abbrev s__law_pick : Stmt := topS 26
abbrev s__law_size : Stmt := topS 27
abbrev s__law_document : Stmt := topS 28
abbrev s__law_order : Stmt := topS 29
abbrev s__law_all : Stmt := topS 30
abbrev s__law_schema : Stmt := topS 31
abbrev s__law_behind : Stmt := topS 32
abbrev s__law_empty : Stmt := topS 33
abbrev s__law_set : Stmt := topS 34
abbrev s__law_class : Stmt := topS 35
abbrev s__law_text : Stmt := topS 36
abbrev s__law_read : Stmt := topS 37
abbrev s__law_told : Stmt := topS 38
abbrev s_law : Stmt := topS 39
end LW
set_option maxHeartbeats 0
namespace LW
open PySem PySem.W PyProof.Rows HeadRun
lay_quick PyProof.Rows.plainGoodE
noncomputable def HQ : Program := PySem.W.view PySem.Challenge.pw_leafward_k02_texts_of_documents [1, 2, 3, 4, 5, 6, 8, 9, 11, 12, 13, 14, 15, 16, 17, 18, 19, 20, 21, 22, 24, 25, 26, 27, 28, 29, 30, 31, 32, 33, 34, 35, 36, 37, 38, 39]
noncomputable abbrev HL : List PySem.Str := []
noncomputable abbrev HM : List PySem.Str := importedModules PySem.Challenge.pw_leafward_k02_texts_of_documents.main.body
noncomputable abbrev HX : Shared → Bool := fun s => xlAt HQ [] s && recOk (RowW.records (OpenRow.toRowW (OpenLaw.row PySem.Challenge.rw_leafward_k02_texts_of_documents))) s
theorem og1 (q : Program) (l : List PySem.Str) : (openGood q l).1 = expectedOf q := rfl
theorem og2 (q : Program) (l : List PySem.Str) : (openGood q l).2.1 = bltViewBooted := rfl
theorem og3 (q : Program) (l : List PySem.Str) : (openGood q l).2.2.1 = true := rfl
theorem og4 (q : Program) (l : List PySem.Str) : (openGood q l).2.2.2.1 = true := rfl
theorem og5 (q : Program) (l : List PySem.Str) : (openGood q l).2.2.2.2.1 = pinGoodD (drecsOf q) := rfl
theorem og6 (q : Program) (l : List PySem.Str) : (openGood q l).2.2.2.2.2.1 = plainGoodE q (looseW q l) := rfl
theorem og7 (q : Program) (l : List PySem.Str) : (openGood q l).2.2.2.2.2.2.1 = plainGoodD q l := rfl
theorem og8 (q : Program) (l : List PySem.Str) : (openGood q l).2.2.2.2.2.2.2.1 = wideGood q := rfl
theorem og9 (q : Program) (l : List PySem.Str) : (openGood q l).2.2.2.2.2.2.2.2 = clsGoodW q l := rfl
structure Mark : Type where
  x : Nat
def tk {A : Type} : Nat → List A → List A
  | 0, _ => []
  | _ + 1, [] => []
  | n + 1, x :: l => x :: tk n l
def dpp {A : Type} : Nat → List A → List A
  | 0, l => l
  | _ + 1, [] => []
  | n + 1, _ :: l => dpp n l
theorem tk_eq {A : Type} : ∀ (n : Nat) (l : List A), tk n l = l.take n
  | 0, _ => by simp [tk]
  | _ + 1, [] => by simp [tk]
  | n + 1, x :: l => by simp [tk, tk_eq n l]
theorem dpp_eq {A : Type} : ∀ (n : Nat) (l : List A), dpp n l = l.drop n
  | 0, _ => by simp [dpp]
  | _ + 1, [] => by simp [dpp]
  | n + 1, x :: l => by simp [dpp, dpp_eq n l]
theorem mapTD {S A : Type} {o : Option S} {g : S → List A} {G : List A} (n : Nat) (a : o.map (fun s => (g s).take n) = some (tk n G)) (b : o.map (fun s => (g s).drop n) = some (dpp n G)) : o.map g = some G := by
  cases o with
  | none => cases a
  | some s =>
    have e1 : (g s).take n = G.take n := (Option.some.inj a).trans (tk_eq n G)
    have e2 : (g s).drop n = G.drop n := (Option.some.inj b).trans (dpp_eq n G)
    exact congrArg some (by rw [← List.take_append_drop n (g s), e1, e2, List.take_append_drop])
theorem seen_eq {x y : Seen} (e0 : x.defs = y.defs) (e3 : (x.ownsOk, x.names, x.globalsOk, x.builtinsOk, x.noLimit, x.gens) = (y.ownsOk, y.names, y.globalsOk, y.builtinsOk, y.noLimit, y.gens)) : x = y := by
  obtain ⟨d, c1, c2, c3, c4, c5, c6⟩ := x
  obtain ⟨d', c1', c2', c3', c4', c5', c6'⟩ := y
  simp only [Prod.mk.injEq] at e0 e3
  obtain ⟨h1, h2, h3, h4, h5, h6⟩ := e3
  subst e0 h1 h2 h3 h4 h5 h6
  rfl
theorem mapSeen {S : Type} {o : Option S} {g : S → Seen} {G : Seen} (n : Nat) (a : o.map (fun s => (g s).defs.take n) = some (tk n G.defs)) (b : o.map (fun s => (g s).defs.drop n) = some (dpp n G.defs))
    (c : o.map (fun s => ((g s).ownsOk, (g s).names, (g s).globalsOk, (g s).builtinsOk, (g s).noLimit, (g s).gens)) = some (G.ownsOk, G.names, G.globalsOk, G.builtinsOk, G.noLimit, G.gens)) : o.map g = some G := by
  cases o with
  | none => cases a
  | some s =>
    have e1 : (g s).defs.take n = G.defs.take n := (Option.some.inj a).trans (tk_eq n G.defs)
    have e2 : (g s).defs.drop n = G.defs.drop n := (Option.some.inj b).trans (dpp_eq n G.defs)
    have e0 : (g s).defs = G.defs := by rw [← List.take_append_drop n (g s).defs, e1, e2, List.take_append_drop]
    have e3 := Option.some.inj c
    exact congrArg some (seen_eq e0 e3)
theorem splitHead {S A1 A2 A3 A4 A5 A6 A7 A8 A9 C : Type} {o : Option S} {l : S → Bool} {g : S → A1 × A2 × A3 × A4 × A5 × A6 × A7 × A8 × A9} {G : A1 × A2 × A3 × A4 × A5 × A6 × A7 × A8 × A9} {f : S → C} {kk : C}
    (h1 : o.map l = some true)
    (a1 : o.map (fun s => (g s).1) = some G.1)
    (a2 : o.map (fun s => (g s).2.1) = some G.2.1)
    (a3 : o.map (fun s => (g s).2.2.1) = some G.2.2.1)
    (a4 : o.map (fun s => (g s).2.2.2.1) = some G.2.2.2.1)
    (a5 : o.map (fun s => (g s).2.2.2.2.1) = some G.2.2.2.2.1)
    (a6 : o.map (fun s => (g s).2.2.2.2.2.1) = some G.2.2.2.2.2.1)
    (a7 : o.map (fun s => (g s).2.2.2.2.2.2.1) = some G.2.2.2.2.2.2.1)
    (a8 : o.map (fun s => (g s).2.2.2.2.2.2.2.1) = some G.2.2.2.2.2.2.2.1)
    (a9 : o.map (fun s => (g s).2.2.2.2.2.2.2.2) = some G.2.2.2.2.2.2.2.2)
    (h3 : o.map f = some kk) : o.map (fun s => (l s, g s, f s)) = some (true, G, kk) := by
  cases o with
  | none => cases h1
  | some s =>
    have e2 : g s = G :=
      Prod.ext (Option.some.inj a1) (Prod.ext (Option.some.inj a2) (Prod.ext (Option.some.inj a3) (Prod.ext (Option.some.inj a4) (Prod.ext (Option.some.inj a5) (Prod.ext (Option.some.inj a6) (Prod.ext (Option.some.inj a7) (Prod.ext (Option.some.inj a8) (Option.some.inj a9))))))))
    exact congrArg some (Prod.ext (Option.some.inj h1) (Prod.ext e2 (Option.some.inj h3)))
end LW
set_option maxHeartbeats 0
namespace LW
open PySem PySem.W PyProof.Rows HeadRun
theorem c_h1 (w : World) (os : OsState) : (endF (stepQ (denQ tabQ) PySem.Challenge.pw_leafward_k02_texts_of_documents w) 5062 PySem.Challenge.pw_leafward_k02_texts_of_documents w os).map (fun s => looksF PySem.Challenge.pw_leafward_k02_texts_of_documents (boot_heap w.params) s.abs) = some (true) := by kernel_rfl
end LW
set_option maxHeartbeats 0
namespace LW
open PySem PySem.W PyProof.Rows HeadRun
theorem c_a1a (w : World) (os : OsState) : (endF (stepQ (denQ tabQ) PySem.Challenge.pw_leafward_k02_texts_of_documents w) 5062 PySem.Challenge.pw_leafward_k02_texts_of_documents w os).map (fun s => (seenQ HQ HL HM HX s.abs).1.defs.take 18) = some (tk 18 (expectedOf HQ).defs) := by kernel_rfl
end LW
set_option maxHeartbeats 0
namespace LW
open PySem PySem.W PyProof.Rows HeadRun
theorem c_a1b (w : World) (os : OsState) : (endF (stepQ (denQ tabQ) PySem.Challenge.pw_leafward_k02_texts_of_documents w) 5062 PySem.Challenge.pw_leafward_k02_texts_of_documents w os).map (fun s => (seenQ HQ HL HM HX s.abs).1.defs.drop 18) = some (dpp 18 (expectedOf HQ).defs) := by kernel_rfl
end LW
set_option maxHeartbeats 0
namespace LW
open PySem PySem.W PyProof.Rows HeadRun
theorem c_a1c (w : World) (os : OsState) : (endF (stepQ (denQ tabQ) PySem.Challenge.pw_leafward_k02_texts_of_documents w) 5062 PySem.Challenge.pw_leafward_k02_texts_of_documents w os).map (fun s => ((seenQ HQ HL HM HX s.abs).1.ownsOk, (seenQ HQ HL HM HX s.abs).1.names, (seenQ HQ HL HM HX s.abs).1.globalsOk, (seenQ HQ HL HM HX s.abs).1.builtinsOk, (seenQ HQ HL HM HX s.abs).1.noLimit, (seenQ HQ HL HM HX s.abs).1.gens)) = some (((expectedOf HQ).ownsOk, (expectedOf HQ).names, (expectedOf HQ).globalsOk, (expectedOf HQ).builtinsOk, (expectedOf HQ).noLimit, (expectedOf HQ).gens)) := by kernel_rfl
end LW
set_option maxHeartbeats 0
namespace LW
open PySem PySem.W PyProof.Rows HeadRun
theorem c_a2 (w : World) (os : OsState) : (endF (stepQ (denQ tabQ) PySem.Challenge.pw_leafward_k02_texts_of_documents w) 5062 PySem.Challenge.pw_leafward_k02_texts_of_documents w os).map (fun s => (seenQ HQ HL HM HX s.abs).2.1) = some (bltViewBooted) := by kernel_rfl
end LW
set_option maxHeartbeats 0
namespace LW
open PySem PySem.W PyProof.Rows HeadRun
theorem c_a3 (w : World) (os : OsState) : (endF (stepQ (denQ tabQ) PySem.Challenge.pw_leafward_k02_texts_of_documents w) 5062 PySem.Challenge.pw_leafward_k02_texts_of_documents w os).map (fun s => (seenQ HQ HL HM HX s.abs).2.2.1) = some (true) := by kernel_rfl
end LW
set_option maxHeartbeats 0
namespace LW
open PySem PySem.W PyProof.Rows HeadRun
theorem c_a4 (w : World) (os : OsState) : (endF (stepQ (denQ tabQ) PySem.Challenge.pw_leafward_k02_texts_of_documents w) 5062 PySem.Challenge.pw_leafward_k02_texts_of_documents w os).map (fun s => (seenQ HQ HL HM HX s.abs).2.2.2.1) = some (true) := by kernel_rfl
end LW
set_option maxHeartbeats 0
namespace LW
open PySem PySem.W PyProof.Rows HeadRun
theorem c_a5 (w : World) (os : OsState) : (endF (stepQ (denQ tabQ) PySem.Challenge.pw_leafward_k02_texts_of_documents w) 5062 PySem.Challenge.pw_leafward_k02_texts_of_documents w os).map (fun s => (seenQ HQ HL HM HX s.abs).2.2.2.2.1) = some (pinGoodD (drecsOf HQ)) := by kernel_rfl
end LW
set_option maxHeartbeats 0
namespace LW
open PySem PySem.W PyProof.Rows HeadRun
theorem c_a6a (w : World) (os : OsState) : (endF (stepQ (denQ tabQ) PySem.Challenge.pw_leafward_k02_texts_of_documents w) 5062 PySem.Challenge.pw_leafward_k02_texts_of_documents w os).map (fun s => (seenQ HQ HL HM HX s.abs).2.2.2.2.2.1.take 4) = some (tk 4 (PySem.W.Fast.tw11434641657110253636 HQ (PySem.W.Fast.tw821141287760084731 HQ HL))) := by kernel_rfl
end LW
set_option maxHeartbeats 0
namespace LW
open PySem PySem.W PyProof.Rows HeadRun
theorem c_a6b (w : World) (os : OsState) : (endF (stepQ (denQ tabQ) PySem.Challenge.pw_leafward_k02_texts_of_documents w) 5062 PySem.Challenge.pw_leafward_k02_texts_of_documents w os).map (fun s => (seenQ HQ HL HM HX s.abs).2.2.2.2.2.1.drop 4) = some (dpp 4 (PySem.W.Fast.tw11434641657110253636 HQ (PySem.W.Fast.tw821141287760084731 HQ HL))) := by kernel_rfl
end LW
set_option maxHeartbeats 0
namespace LW
open PySem PySem.W PyProof.Rows HeadRun
theorem c_a7 (w : World) (os : OsState) : (endF (stepQ (denQ tabQ) PySem.Challenge.pw_leafward_k02_texts_of_documents w) 5062 PySem.Challenge.pw_leafward_k02_texts_of_documents w os).map (fun s => (seenQ HQ HL HM HX s.abs).2.2.2.2.2.2.1) = some (plainGoodD HQ HL) := by kernel_rfl
end LW
set_option maxHeartbeats 0
namespace LW
open PySem PySem.W PyProof.Rows HeadRun
theorem c_a8 (w : World) (os : OsState) : (endF (stepQ (denQ tabQ) PySem.Challenge.pw_leafward_k02_texts_of_documents w) 5062 PySem.Challenge.pw_leafward_k02_texts_of_documents w os).map (fun s => (seenQ HQ HL HM HX s.abs).2.2.2.2.2.2.2.1) = some (wideGood HQ) := by kernel_rfl
end LW
set_option maxHeartbeats 0
namespace LW
open PySem PySem.W PyProof.Rows HeadRun
theorem c_a9 (w : World) (os : OsState) : (endF (stepQ (denQ tabQ) PySem.Challenge.pw_leafward_k02_texts_of_documents w) 5062 PySem.Challenge.pw_leafward_k02_texts_of_documents w os).map (fun s => (seenQ HQ HL HM HX s.abs).2.2.2.2.2.2.2.2) = some (clsGoodW HQ HL) := by kernel_rfl
end LW
set_option maxHeartbeats 0
namespace LW
open PySem PySem.W PyProof.Rows HeadRun
theorem k_eq {p q : Prop} (x : p) (h : p = q) : q := h ▸ x
theorem c_a6 (w : World) (os : OsState) : (endF (stepQ (denQ tabQ) PySem.Challenge.pw_leafward_k02_texts_of_documents w) 5062 PySem.Challenge.pw_leafward_k02_texts_of_documents w os).map (fun s => (seenQ HQ HL HM HX s.abs).2.2.2.2.2.1) = some (plainGoodE HQ (looseW HQ HL)) := by
  rw [PySem.W.Fast.te11434641657110253636, PySem.W.Fast.te821141287760084731]
  exact mapTD 4 (c_a6a w os) (c_a6b w os)
theorem d_a1 (w : World) (os : OsState) : (endF (stepQ (denQ tabQ) PySem.Challenge.pw_leafward_k02_texts_of_documents w) 5062 PySem.Challenge.pw_leafward_k02_texts_of_documents w os).map (fun s => (seenQ HQ HL HM HX s.abs).1) = some (openGood HQ HL).1 := Eq.trans (mapSeen 18 (c_a1a w os) (c_a1b w os) (c_a1c w os)) (congrArg some (og1 HQ HL).symm)
theorem d_a2 (w : World) (os : OsState) : (endF (stepQ (denQ tabQ) PySem.Challenge.pw_leafward_k02_texts_of_documents w) 5062 PySem.Challenge.pw_leafward_k02_texts_of_documents w os).map (fun s => (seenQ HQ HL HM HX s.abs).2.1) = some (openGood HQ HL).2.1 := Eq.trans (c_a2 w os) (congrArg some (og2 HQ HL).symm)
theorem d_a3 (w : World) (os : OsState) : (endF (stepQ (denQ tabQ) PySem.Challenge.pw_leafward_k02_texts_of_documents w) 5062 PySem.Challenge.pw_leafward_k02_texts_of_documents w os).map (fun s => (seenQ HQ HL HM HX s.abs).2.2.1) = some (openGood HQ HL).2.2.1 := Eq.trans (c_a3 w os) (congrArg some (og3 HQ HL).symm)
theorem d_a4 (w : World) (os : OsState) : (endF (stepQ (denQ tabQ) PySem.Challenge.pw_leafward_k02_texts_of_documents w) 5062 PySem.Challenge.pw_leafward_k02_texts_of_documents w os).map (fun s => (seenQ HQ HL HM HX s.abs).2.2.2.1) = some (openGood HQ HL).2.2.2.1 := Eq.trans (c_a4 w os) (congrArg some (og4 HQ HL).symm)
theorem d_a5 (w : World) (os : OsState) : (endF (stepQ (denQ tabQ) PySem.Challenge.pw_leafward_k02_texts_of_documents w) 5062 PySem.Challenge.pw_leafward_k02_texts_of_documents w os).map (fun s => (seenQ HQ HL HM HX s.abs).2.2.2.2.1) = some (openGood HQ HL).2.2.2.2.1 := Eq.trans (c_a5 w os) (congrArg some (og5 HQ HL).symm)
theorem d_a6 (w : World) (os : OsState) : (endF (stepQ (denQ tabQ) PySem.Challenge.pw_leafward_k02_texts_of_documents w) 5062 PySem.Challenge.pw_leafward_k02_texts_of_documents w os).map (fun s => (seenQ HQ HL HM HX s.abs).2.2.2.2.2.1) = some (openGood HQ HL).2.2.2.2.2.1 := Eq.trans (c_a6 w os) (congrArg some (og6 HQ HL).symm)
theorem d_a7 (w : World) (os : OsState) : (endF (stepQ (denQ tabQ) PySem.Challenge.pw_leafward_k02_texts_of_documents w) 5062 PySem.Challenge.pw_leafward_k02_texts_of_documents w os).map (fun s => (seenQ HQ HL HM HX s.abs).2.2.2.2.2.2.1) = some (openGood HQ HL).2.2.2.2.2.2.1 := Eq.trans (c_a7 w os) (congrArg some (og7 HQ HL).symm)
theorem d_a8 (w : World) (os : OsState) : (endF (stepQ (denQ tabQ) PySem.Challenge.pw_leafward_k02_texts_of_documents w) 5062 PySem.Challenge.pw_leafward_k02_texts_of_documents w os).map (fun s => (seenQ HQ HL HM HX s.abs).2.2.2.2.2.2.2.1) = some (openGood HQ HL).2.2.2.2.2.2.2.1 := Eq.trans (c_a8 w os) (congrArg some (og8 HQ HL).symm)
theorem d_a9 (w : World) (os : OsState) : (endF (stepQ (denQ tabQ) PySem.Challenge.pw_leafward_k02_texts_of_documents w) 5062 PySem.Challenge.pw_leafward_k02_texts_of_documents w os).map (fun s => (seenQ HQ HL HM HX s.abs).2.2.2.2.2.2.2.2) = some (openGood HQ HL).2.2.2.2.2.2.2.2 := Eq.trans (c_a9 w os) (congrArg some (og9 HQ HL).symm)
local macro_rules | `(tactic| kernel_rfl) => `(tactic| ((fail_if_success (have mm : LW.Mark := by assumption)); (with_reducible apply LW.splitHead); (have mm : LW.Mark := ⟨0⟩; exact LW.k_eq (LW.c_h1 (by assumption) (by assumption)) (by kernel_rfl)); (have mm : LW.Mark := ⟨0⟩; exact LW.k_eq (LW.d_a1 (by assumption) (by assumption)) (by kernel_rfl)); (have mm : LW.Mark := ⟨0⟩; exact LW.k_eq (LW.d_a2 (by assumption) (by assumption)) (by kernel_rfl)); (have mm : LW.Mark := ⟨0⟩; exact LW.k_eq (LW.d_a3 (by assumption) (by assumption)) (by kernel_rfl)); (have mm : LW.Mark := ⟨0⟩; exact LW.k_eq (LW.d_a4 (by assumption) (by assumption)) (by kernel_rfl)); (have mm : LW.Mark := ⟨0⟩; exact LW.k_eq (LW.d_a5 (by assumption) (by assumption)) (by kernel_rfl)); (have mm : LW.Mark := ⟨0⟩; exact LW.k_eq (LW.d_a6 (by assumption) (by assumption)) (by kernel_rfl)); (have mm : LW.Mark := ⟨0⟩; exact LW.k_eq (LW.d_a7 (by assumption) (by assumption)) (by kernel_rfl)); (have mm : LW.Mark := ⟨0⟩; exact LW.k_eq (LW.d_a8 (by assumption) (by assumption)) (by kernel_rfl)); (have mm : LW.Mark := ⟨0⟩; exact LW.k_eq (LW.d_a9 (by assumption) (by assumption)) (by kernel_rfl)); (have mm : LW.Mark := ⟨0⟩; kernel_rfl)))
local macro_rules | `(tactic| k_head) => `(tactic| k_headL)
open_top head for PySem.Challenge.rw_leafward_k02_texts_of_documents
end LW
set_option maxHeartbeats 1000000
namespace LW
open PySem PySem.Spec PyProof.Rows L2
def belowD (d : PyData) (n : Int) : Bool := match d with
  | .int i => decide (0 ≤ i) && decide (i < n)
  | _ => false
def tupOfD (d : PyData) (n : Int) : Bool := match d with
  | .tuple ds => decide ((ds.length : Int) = n)
  | _ => false
def spBelow (K : PySem.W.Frag) : Sp := fun vs H Q _ => ∃ (d : PyData) (n : Int) (v : V), vs = [v, .int n] ∧ Dp K H v d ∧ Q (.bl (belowD d n)) H
def spTupOf (K : PySem.W.Frag) : Sp := fun vs H Q _ => ∃ (d : PyData) (n : Int) (v : V), vs = [v, .int n] ∧ Dp K H v d ∧ Q (.bl (tupOfD d n)) H
section
variable {P : Program} {w : World} {K : PySem.W.Frag} {mg : Str → Option Value} {base : Heap} {f : Addr} {fd : FuncData}
theorem b_isinstance : bootBuiltins "isinstance" = some (.builtin "isinstance") := by decide +kernel
theorem b_int : bootBuiltins "int" = some (.type "int") := by decide +kernel
theorem b_bool : bootBuiltins "bool" = some (.type "bool") := by decide +kernel
theorem b_tuple : bootBuiltins "tuple" = some (.type "tuple") := by decide +kernel
theorem b_all : bootBuiltins "all" = some (.builtin "all") := by decide +kernel
theorem b_sum : bootBuiltins "sum" = some (.builtin "sum") := by decide +kernel
theorem b_abs : bootBuiltins "abs" = some (.builtin "abs") := by decide +kernel
end
end LW
set_option maxHeartbeats 1000000
namespace LW
open PySem PySem.Spec PyProof.Rows L2
theorem okC {P : Program} {w : World} {K : PySem.W.Frag} {mg : Str → Option Value} {base : Heap} {x qual : Str} {st : Stmt} {f c : Addr} {fd : FuncData} {N ps : List Str} {k : Nat} {sp : Sp} (F : Fun K x qual st f fd) (hc : fd.code = .ref c) (S : FnScope N ps (defScope st)) (len : ∀ vs H Q E, sp vs H Q E → vs.length = ps.length)
    (hbody : ∀ (A : Around) (outer : List Env) (s : Shared) (H : Hp) (vs : List V) (Q : VK) (E : XK), Room k (A.deeper (envOfC qual (defScope st) s.heap.objs.size f (.ref c))) → sp vs H Q E →
      ∃ t, PSs (cxOf CX0 P w K mg base N qual (defScope st) f (.ref c) A outer s H E).nox (defBody st) t ∧ t { nx := fun _ H' => Q .non H', rt := Q } (start N vs) H) : FnOk P w K mg base CX0 (k + 1) f fd ps sp := by
  obtain ⟨oc, od, kV, doc, pm, an, cdv, ct, osl, rfl, lk, hcd⟩ := F.ex
  have e : cdv = .ref c := hc
  subst e
  refine fn_of lk hcd S len fun A outer s H vs Q E hr hsp => ?_
  obtain ⟨t, h, q⟩ := hbody A outer s H vs Q E hr hsp
  exact ⟨t, h.nox, q⟩
def treeD : PyData → Bool
  | .tuple [x, _] => belowD x 5
  | _ => false
mutual
def formD : PyData → Nat → Bool
  | .tuple ts, n => (ts.isEmpty || decide (n ≤ 30)) && formAll ts n
  | _, _ => false
def formT : PyData → Nat → Bool
  | .tuple [x, k], n => belowD x 5 && formD k (n + 1)
  | _, _ => false
def formAll : List PyData → Nat → Bool
  | [], _ => true
  | t :: ts, n => formT t n && formAll ts n
end
mutual
def szD : PyData → Nat
  | .tuple ts => szAll ts
  | _ => 0
def szT : PyData → Nat
  | .tuple [_, k] => 1 + szD k
  | _ => 1
def szAll : List PyData → Nat
  | [] => 0
  | t :: ts => szT t + szAll ts
end
mutual
def nodeD : PyData → Nat
  | .tuple ts => 1 + nodeAll ts
  | _ => 1
def nodeAll : List PyData → Nat
  | [] => 0
  | t :: ts => nodeD t + nodeAll ts
end
def docD (d : PyData) : Bool := formD d 1 && decide (szD d ≤ 300)
def kidD : PyData → PyData
  | .tuple [_, k] => k
  | _ => .none
theorem szAll_len : ∀ ts : List PyData, ts.length ≤ szAll ts
  | [] => Nat.le_refl _
  | t :: ts => by
    have h := szAll_len ts
    have h1 : 1 ≤ szT t := by
      unfold szT
      split <;> omega
    rw [szAll, List.length_cons]
    omega
theorem formT_tree {t : PyData} {n : Nat} (h : formT t n = true) : treeD t = true ∧ formD (kidD t) (n + 1) = true := by
  unfold formT at h
  split at h
  · simpa [treeD, kidD] using h
  · cases h
theorem treeD_shape {t : PyData} (h : treeD t = true) : ∃ i k, t = .tuple [.int i, k] := by
  unfold treeD at h
  split at h
  · rename_i x k
    cases x with
    | int i => exact ⟨i, k, rfl⟩
    | _ => cases h
  · cases h
theorem formT_of {t : PyData} {n : Nat} (h : treeD t = true) : formT t n = formD (kidD t) (n + 1) := by
  obtain ⟨i, k, rfl⟩ := treeD_shape h
  have h' : belowD (.int i) 5 = true := h
  simp only [formT, kidD, h', Bool.true_and]
theorem szT_of {t : PyData} (h : treeD t = true) : szT t = 1 + szD (kidD t) := by
  obtain ⟨i, k, rfl⟩ := treeD_shape h
  simp only [szT, kidD]
theorem nodeD_of {t : PyData} (h : treeD t = true) : nodeD (kidD t) + 1 < nodeD t := by
  obtain ⟨i, k, rfl⟩ := treeD_shape h
  simp only [nodeD, nodeAll, kidD]
  omega
def pForm (ws : List (PyData × Nat)) : Bool := ws.all fun p => formD p.1 p.2
def pSz (ws : List (PyData × Nat)) : Nat := (ws.map fun p => szD p.1).sum
def pNode (ws : List (PyData × Nat)) : Nat := (ws.map fun p => nodeD p.1).sum
theorem kids_form : ∀ (ts : List PyData) (n : Nat), ts.all treeD = true → formAll ts n = pForm (ts.map fun t => (kidD t, n + 1))
  | [], _, _ => rfl
  | t :: ts, n, h => by
    have h' : treeD t = true ∧ ts.all treeD = true := by simpa using h
    rw [formAll, formT_of h'.1, kids_form ts n h'.2]
    rfl
theorem kids_sz : ∀ (ts : List PyData) (n : Nat), ts.all treeD = true → szAll ts = ts.length + pSz (ts.map fun t => (kidD t, n + 1))
  | [], _, _ => rfl
  | t :: ts, n, h => by
    have h' : treeD t = true ∧ ts.all treeD = true := by simpa using h
    have ih := kids_sz ts n h'.2
    have e : pSz ((t :: ts).map fun t => (kidD t, n + 1)) = szD (kidD t) + pSz (ts.map fun t => (kidD t, n + 1)) := by
      simp [pSz]
    rw [szAll, szT_of h'.1, ih, e, List.length_cons]
    omega
theorem kids_node : ∀ (ts : List PyData) (n : Nat), ts.all treeD = true → pNode (ts.map fun t => (kidD t, n + 1)) ≤ nodeAll ts
  | [], _, _ => Nat.le_refl _
  | t :: ts, n, h => by
    have h' : treeD t = true ∧ ts.all treeD = true := by simpa using h
    have ih := kids_node ts n h'.2
    have h1 := nodeD_of h'.1
    have e : pNode ((t :: ts).map fun t => (kidD t, n + 1)) = nodeD (kidD t) + pNode (ts.map fun t => (kidD t, n + 1)) := by
      simp [pNode]
    rw [e, nodeAll]
    omega
theorem formAll_trees : ∀ (ts : List PyData) (n : Nat), formAll ts n = true → ts.all treeD = true
  | [], _, _ => rfl
  | t :: ts, n, h => by
    rw [formAll] at h
    have h' : formT t n = true ∧ formAll ts n = true := by simpa using h
    have := formAll_trees ts n h'.2
    simp [(formT_tree h'.1).1, this]
def goalD (ws : List (PyData × Nat)) (many : Nat) : Bool := pForm ws && decide (many + pSz ws ≤ 300)
theorem goal_start (d : PyData) : goalD [(d, 1)] 0 = docD d := by
  simp [goalD, docD, pForm, pSz]
theorem goal_app (ws : List (PyData × Nat)) (d : PyData) (n many : Nat) : goalD (ws ++ [(d, n)]) many = (formD d n && pForm ws && decide (many + (szD d + pSz ws) ≤ 300)) := by
  have e1 : pForm (ws ++ [(d, n)]) = (pForm ws && formD d n) := by simp [pForm]
  have e2 : pSz (ws ++ [(d, n)]) = pSz ws + szD d := by simp [pSz]
  unfold goalD
  rw [e1, e2, Bool.and_comm (pForm ws), Nat.add_comm (pSz ws)]
theorem goal_bad {ws : List (PyData × Nat)} {d : PyData} {n many : Nat} (h : formD d n = false) : goalD (ws ++ [(d, n)]) many = false := by
  rw [goal_app, h]; rfl
theorem goal_many {ws : List (PyData × Nat)} {ts : List PyData} {n many : Nat} (h : 300 < many + ts.length) : goalD (ws ++ [(.tuple ts, n)]) many = false := by
  rw [goal_app]
  have h1 := szAll_len ts
  have e : decide (many + (szD (.tuple ts) + pSz ws) ≤ 300) = false := decide_eq_false (by rw [szD]; omega)
  rw [e, Bool.and_false]
theorem goal_step {ws : List (PyData × Nat)} {ts : List PyData} {n many : Nat} (h : ts.all treeD = true) (hd : (ts.isEmpty || decide (n ≤ 30)) = true) :
    goalD (ws ++ [(.tuple ts, n)]) many = goalD (ws ++ ts.map fun t => (kidD t, n + 1)) (many + ts.length) := by
  rw [goal_app, formD, hd, Bool.true_and, szD, kids_form ts n h, kids_sz ts n h]
  unfold goalD
  have e1 : pForm (ws ++ ts.map fun t => (kidD t, n + 1)) = (pForm ws && pForm (ts.map fun t => (kidD t, n + 1))) := by simp [pForm]
  have e2 : pSz (ws ++ ts.map fun t => (kidD t, n + 1)) = pSz ws + pSz (ts.map fun t => (kidD t, n + 1)) := by simp [pSz]
  rw [e1, e2, Bool.and_comm (pForm ws)]
  congr 1
  exact decide_eq_decide.mpr (by omega)
theorem node_app (ws : List (PyData × Nat)) (d : PyData) (n : Nat) : pNode (ws ++ [(d, n)]) = pNode ws + nodeD d := by simp [pNode]
theorem node_step {ws : List (PyData × Nat)} {ts : List PyData} {n : Nat} (h : ts.all treeD = true) : pNode (ws ++ ts.map fun t => (kidD t, n + 1)) < pNode (ws ++ [(.tuple ts, n)]) := by
  have h1 := kids_node ts n h
  have e2 : pNode (ws ++ ts.map fun t => (kidD t, n + 1)) = pNode ws + pNode (ts.map fun t => (kidD t, n + 1)) := by simp [pNode]
  rw [node_app, e2, nodeD]
  omega
end LW
set_option maxHeartbeats 1000000
namespace LW
open PySem PySem.Spec PyProof.Rows L2
theorem paired_snoc {α β : Type} {F : α → β → Prop} {p : β} : ∀ {ws : List β} {xs : List α}, Paired F xs (ws ++ [p]) → ∃ xs0 x, xs = xs0 ++ [x] ∧ Paired F xs0 ws ∧ F x p
  | [], _, .cons h t => by cases t; exact ⟨[], _, rfl, .nil, h⟩
  | q :: ws, _, .cons h t => by
    obtain ⟨xs0, x, e, h1, h2⟩ := paired_snoc (ws := ws) t
    exact ⟨_ :: xs0, x, by rw [e]; rfl, .cons h h1, h2⟩
theorem paired_app {α β : Type} {F : α → β → Prop} : ∀ {xs : List α} {ws : List β} {ys : List α} {vs : List β}, Paired F xs ws → Paired F ys vs → Paired F (xs ++ ys) (ws ++ vs)
  | _, _, _, _, .nil, s => s
  | _, _, _, _, .cons h t, s => .cons h (paired_app t s)
theorem paired_imp {α β : Type} {F G : α → β → Prop} (h : ∀ x p, F x p → G x p) : ∀ {xs : List α} {ws : List β}, Paired F xs ws → Paired G xs ws
  | _, _, .nil => .nil
  | _, _, .cons a t => .cons (h _ _ a) (paired_imp h t)
def Wt (K : PySem.W.Frag) (H0 H : Hp) (x : V) (p : PyData × Nat) : Prop := ∃ t v, x = .ref t ∧ H t = some (.tup [v, .int p.2]) ∧ Dp K H0 v p.1
theorem Wt.gr {K : PySem.W.Frag} {H0 H H' : Hp} {m : List Addr} (g : Gr m H H') (hm : ∀ b ∈ m, ∃ ys, H b = some (.lst ys)) (x : V) (p : PyData × Nat) (h : Wt K H0 H x p) : Wt K H0 H' x p := by
  obtain ⟨t, v, e, ht, hd⟩ := h
  exact ⟨t, v, e, g.tup (fun z => by obtain ⟨ys, q⟩ := hm t z; rw [ht] at q; cases q) ht, hd⟩
def spTree (K : PySem.W.Frag) : Sp := fun vs H Q _ => ∃ (d : PyData) (v : V), vs = [v] ∧ Dp K H v d ∧ Q (.bl (treeD d)) H
def spIsDoc (K : PySem.W.Frag) (T : Addr) : Sp := fun vs H Q _ => ∃ (d : PyData) (v : V), vs = [v] ∧ Dp K H v d ∧ GxR.TabG H T ∧ ∀ H', Gr [] H H' → Q (.bl (docD d)) H'
section
variable {P : Program} {w : World} {K : PySem.W.Frag} {mg : Str → Option Value} {base : Heap} {f : Addr} {fd : FuncData}
abbrev nIsDoc : List Str := ["d", "many", "waiting", "trees", "depth", "tree", "_", "kids"]
theorem pe_gint {X : Cx} {x : Str} {n : Int} {t : Tok} {pos : Pos} (hm : X.mg x = some (.int n t)) (hg : Gl X x) (hd : (x == ("__debug__" : Str)) = false := by decide) : PE X (.Name x pos) (tC (.int n)) := pe_glob (v := .int n) hg hm ⟨t, rfl⟩ hd
theorem len2 : (2 : Nat) ≤ sizeLine := by decide
end
end LW
set_option maxHeartbeats 400000
namespace LW
open PySem PySem.Spec PyProof.Rows L2
theorem all_snoc {p : PyData → Bool} {ts : List PyData} {i : Nat} {t : PyData} (e : ts[i]? = some t) (h : (ts.take i).all p = true) (h2 : p t = true) : (ts.take (i + 1)).all p = true := by
  rw [List.take_add_one, e, List.all_append, h]
  simp [h2]
theorem all_not {p : PyData → Bool} {ts : List PyData} {i : Nat} {t : PyData} (e : ts[i]? = some t) (h : p t = false) : ts.all p = false := by
  rw [Bool.eq_false_iff]
  intro z
  have := List.all_eq_true.mp z t (List.mem_of_getElem? e)
  rw [h] at this; cases this
theorem dpAll_two {K : PySem.W.Frag} {H : Hp} {xs : List V} {d e : PyData} (h : DpAll K H xs [d, e]) : ∃ v u, xs = [v, u] ∧ Dp K H v d ∧ Dp K H u e := by
  cases h with
  | cons h1 h => cases h with
    | cons h2 h => cases h; exact ⟨_, _, rfl, h1, h2⟩
section
variable {P : Program} {w : World} {K : PySem.W.Frag} {mg : Str → Option Value} {base : Heap} {f : Addr} {fd : FuncData}
end
end LW
set_option maxHeartbeats 1000000
namespace LW
open PySem PySem.Spec PyProof.Rows L2
def rLtD (K : PySem.W.Frag) : R2 := fun x y H Q => ∃ d e, Dp K H x d ∧ Dp K H y e ∧ PySem.W.alike d e = true ∧ d ≠ .none ∧ d.depth ≤ 64 ∧ Q (.bl (PySem.W.dataLt d e)) H
def intsD (ns : List Int) : PyData := .list (ns.map .int)
inductive Doc where
  | nil
  | cons (a : Int) (k r : Doc)
  deriving DecidableEq
def Doc.ts : Doc → List PyData
  | .nil => []
  | .cons a k r => .tuple [.int a, .tuple k.ts] :: r.ts
def Doc.data (d : Doc) : PyData := .tuple d.ts
def Doc.size : Doc → Nat
  | .nil => 0
  | .cons _ k r => 1 + k.size + r.size
def Doc.dep : Doc → Nat
  | .nil => 0
  | .cons _ k r => max (1 + k.dep) r.dep
def Doc.lab : Doc → Bool
  | .nil => true
  | .cons a k r => decide (0 ≤ a ∧ a < 5) && k.lab && r.lab
def Doc.ok (d : Doc) : Prop := d.lab = true ∧ d.size ≤ 300 ∧ d.dep ≤ 30
def Doc.beh : Doc → List Int
  | .nil => []
  | .cons a k r => a :: (k.size : Int) :: (k.beh ++ r.beh)
def Doc.ord (d : Doc) : List Int := (d.size : Int) :: d.beh
def Doc.app : Doc → Doc → Doc
  | .nil, e => e
  | .cons a k r, e => .cons a k (r.app e)
def Doc.len : Doc → Nat
  | .nil => 0
  | .cons _ _ r => r.len + 1
theorem Doc.ts_length : ∀ d : Doc, d.ts.length = d.len
  | .nil => rfl
  | .cons _ _ r => by simp [Doc.ts, Doc.len, Doc.ts_length r]
theorem Doc.len_size : ∀ d : Doc, d.len ≤ d.size
  | .nil => Nat.le_refl _
  | .cons _ _ r => by have := Doc.len_size r; simp only [Doc.len, Doc.size]; omega
def Doc.tk : Nat → Doc → Doc
  | 0, _ => .nil
  | _ + 1, .nil => .nil
  | n + 1, .cons a k r => .cons a k (r.tk n)
def Doc.at : Nat → Doc → Option (Int × Doc)
  | _, .nil => none
  | 0, .cons a k _ => some (a, k)
  | n + 1, .cons _ _ r => r.at n
theorem Doc.ts_get : ∀ (i : Nat) (d : Doc) (t : PyData), d.ts[i]? = some t → ∃ a k, d.at i = some (a, k) ∧ t = .tuple [.int a, k.data]
  | _, .nil, _, h => by simp [Doc.ts] at h
  | 0, .cons a k r, t, h => ⟨a, k, rfl, by simpa [Doc.ts, Doc.data] using h.symm⟩
  | i + 1, .cons a k r, t, h => by
    obtain ⟨b, l, h1, h2⟩ := Doc.ts_get i r t (by simpa [Doc.ts] using h)
    exact ⟨b, l, h1, h2⟩
theorem Doc.at_size : ∀ (i : Nat) (d : Doc) (a : Int) (k : Doc), d.at i = some (a, k) → k.size < d.size ∧ k.dep < d.dep
  | _, .nil, _, _, h => by simp [Doc.at] at h
  | 0, .cons b l r, a, k, h => by
    simp only [Doc.at, Option.some.injEq, Prod.mk.injEq] at h
    obtain ⟨rfl, rfl⟩ := h
    simp only [Doc.size, Doc.dep]
    omega
  | i + 1, .cons b l r, a, k, h => by
    have := Doc.at_size i r a k h
    simp only [Doc.size, Doc.dep]
    omega
theorem form_doc : ∀ (d : Doc) (n : Nat), d.lab = true → n + d.dep ≤ 31 → (d = .nil ∨ n ≤ 30) ∧ formAll d.ts n = true
  | .nil, n, _, _ => ⟨.inl rfl, rfl⟩
  | .cons a k r, n, hl, hd => by
    simp only [Doc.lab, Bool.and_eq_true, decide_eq_true_eq] at hl
    obtain ⟨⟨⟨h0, h5⟩, hk⟩, hr⟩ := hl
    simp only [Doc.dep] at hd
    obtain ⟨k1, k2⟩ := form_doc k (n + 1) hk (by omega)
    obtain ⟨_, r2⟩ := form_doc r n hr (by omega)
    refine ⟨.inr (by omega), ?_⟩
    have e : formD (.tuple k.ts) (n + 1) = true := by
      rw [formD, k2, Bool.and_true]
      rcases k1 with rfl | h
      · rfl
      · rw [decide_eq_true h, Bool.or_true]
    rw [Doc.ts, formAll, r2, Bool.and_true, formT, e, Bool.and_true]
    simp [belowD, h0, h5]
theorem sz_doc : ∀ d : Doc, szAll d.ts = d.size
  | .nil => rfl
  | .cons a k r => by
    rw [Doc.ts, szAll, szT, szD, sz_doc k, sz_doc r, Doc.size]
theorem doc_ok {d : Doc} (h : d.ok) : docD d.data = true := by
  obtain ⟨h1, h2, h3⟩ := h
  obtain ⟨f1, f2⟩ := form_doc d 1 h1 (by omega)
  unfold docD Doc.data
  rw [formD, f2, szD, sz_doc, decide_eq_true h2]
  simp
end LW
set_option maxHeartbeats 1000000
namespace LW
open PySem PySem.Spec PyProof.Rows L2
def spOrd (K : PySem.W.Frag) (n : Nat) : Sp := fun vs H Q _ => ∃ (d : Doc) (v : V), vs = [v] ∧ Dp K H v d.data ∧ d.dep < n ∧ d.size ≤ 300 ∧ ∀ H' p, Gr [] H H' → H p = none → H' p = some (.lst (d.ord.map V.int)) → Q (.ref p) H'
def spCheckV (K : PySem.W.Frag) (T : Addr) : Sp := fun vs H Q _ => ∃ (d : Doc) (v : V), vs = [v] ∧ Dp K H v d.data ∧ d.ok ∧ GxR.TabG H T ∧ ∀ H', Gr [] H H' → Q .non H'
def spSizeV (K : PySem.W.Frag) (T : Addr) : Sp := fun vs H Q _ => ∃ (d : Doc) (v : V), vs = [v] ∧ Dp K H v d.data ∧ d.ok ∧ GxR.TabG H T ∧ ∀ H', Gr [] H H' → Q (.int d.size) H'
def cmpL (xs ys : List Int) : Int := if xs = ys then 0 else if HT.lexLt xs ys = true then -1 else 1
def spBeforeV (K : PySem.W.Frag) (T : Addr) : Sp := fun vs H Q _ => ∃ (d e : Doc) (v u : V), vs = [v, u] ∧ Dp K H v d.data ∧ Dp K H u e.data ∧ d.ok ∧ e.ok ∧ GxR.TabG H T ∧ ∀ H', Gr [] H H' → Q (.int (cmpL d.ord e.ord)) H'
section
variable {P : Program} {w : World} {K : PySem.W.Frag} {mg : Str → Option Value} {base : Heap} {f : Addr} {fd : FuncData}
theorem small_sz {n : Nat} (h : n ≤ 100000) : n ≤ sizeLine := Nat.le_trans h (by decide)
end
end LW
set_option maxHeartbeats 2000000
namespace LW
open PySem PySem.Spec PyProof.Rows L2
def bxL (b0 b1 b2 : Int) (cl : Addr) : HO := .lst [.int b0, .int b1, .int b2, .ref cl]
def BoxAt (H : Hp) (bx cl : Addr) : Prop := ∃ (ns : List Int) (b0 b1 b2 : Int), H bx = some (bxL b0 b1 b2 cl) ∧ H cl = some (.lst (ns.map V.int)) ∧ cl ≠ bx ∧ 0 ≤ b2
theorem BoxAt.lst {H : Hp} {bx cl : Addr} (h : BoxAt H bx cl) : ∀ b ∈ [bx], ∃ ys, H b = some (.lst ys) := fun b hb => by
  obtain ⟨ns, b0, b1, b2, h, _⟩ := h
  rw [List.mem_singleton.mp hb]
  exact ⟨_, h⟩
theorem BoxAt.gr {H H' : Hp} {bx cl : Addr} (h : BoxAt H bx cl) (g : Gr [] H H') : BoxAt H' bx cl := by
  obtain ⟨ns, b0, b1, b2, h1, h2, h3, h4⟩ := h
  exact ⟨ns, b0, b1, b2, g.lst (by simp) h1, g.lst (by simp) h2, h3, h4⟩
theorem BoxAt.ne {H : Hp} {bx cl p : Addr} (h : BoxAt H bx cl) (n : H p = none) : p ≠ bx ∧ p ≠ cl := by
  obtain ⟨ns, b0, b1, b2, h1, h2, _⟩ := h
  exact ⟨fun z => (by rw [z, h1] at n; cases n), fun z => (by rw [z, h2] at n; cases n)⟩
theorem BoxAt.put {H : Hp} {bx cl p : Addr} {o : HO} (h : BoxAt H bx cl) (h1 : p ≠ bx) (h2 : p ≠ cl) : BoxAt (upd H p o) bx cl := by
  obtain ⟨ns, b0, b1, b2, e1, e2, e3, e4⟩ := h
  exact ⟨ns, b0, b1, b2, by rw [upd_ne (Ne.symm h1)]; exact e1, by rw [upd_ne (Ne.symm h2)]; exact e2, e3, e4⟩
mutual
theorem pure_doc : ∀ d : Doc, pureAll d.ts = true
  | .nil => rfl
  | .cons a k r => by
    simp only [Doc.ts, pureAll, pure1, pure_doc k, pure_doc r, Bool.and_true]
end
theorem pure_data (d : Doc) : pure1 d.data = true := by unfold Doc.data; rw [pure1]; exact pure_doc d
theorem doc_grb {K : PySem.W.Frag} {H H' : Hp} {m : List Addr} {v : V} {d : Doc} (g : Gr m H H') (hm : ∀ b ∈ m, ∃ ys, H b = some (.lst ys)) (h : Dp K H v d.data) : Dp K H' v d.data := dp_grm g hm d.data v (pure_data d) h
theorem lt_pos {n : Int} (h : 0 < n) : 0 < n := h
def spTake : Sp := fun vs H Q _ => ∃ (bx cl : Addr) (m : Int), vs = [.ref bx, .int m] ∧ 0 < m ∧ m < 1073741824 ∧ BoxAt H bx cl ∧ ∀ t H', 0 ≤ t → t < m → Gr [bx] H H' → BoxAt H' bx cl → Q (.int t) H'
def spPick : Sp := fun vs H Q _ => ∃ (bx cl ml : Addr) (ls : List Int), vs = [.ref bx, .ref ml] ∧ H ml = some (.lst (ls.map V.int)) ∧ ml ≠ bx ∧ 0 < ls.length ∧ ls.length < 1073741824 ∧ BoxAt H bx cl ∧ ∀ t H', t ∈ ls → Gr [bx] H H' → BoxAt H' bx cl → Q (.int t) H'
def spSizeL (K : PySem.W.Frag) (n : Nat) : Sp := fun vs H Q _ => ∃ (d : Doc) (v : V), vs = [v] ∧ Dp K H v d.data ∧ d.dep < n ∧ d.size ≤ 300 ∧ ∀ H', Gr [] H H' → Q (.int d.size) H'
section
variable {P : Program} {w : World} {K : PySem.W.Frag} {mg : Str → Option Value} {base : Heap} {f : Addr} {fd : FuncData}
end
end LW
set_option maxHeartbeats 2000000
namespace LW
open PySem PySem.Spec PyProof.Rows L2
def Doc.szs : Nat → Doc → List Int
  | 0, _ => []
  | _ + 1, .nil => []
  | n + 1, .cons _ k r => (1 + (k.size : Int)) :: r.szs n
theorem Doc.szs_succ : ∀ (i : Nat) (d : Doc) (a : Int) (k : Doc), d.at i = some (a, k) → d.szs (i + 1) = d.szs i ++ [1 + (k.size : Int)]
  | _, .nil, _, _, h => by simp [Doc.at] at h
  | 0, .cons b l r, a, k, h => by
    simp only [Doc.at, Option.some.injEq, Prod.mk.injEq] at h
    obtain ⟨rfl, rfl⟩ := h
    rfl
  | i + 1, .cons b l r, a, k, h => by
    have h1 := Doc.szs_succ i r a k h
    show (1 + (l.size : Int)) :: r.szs (i + 1) = (1 + (l.size : Int)) :: r.szs i ++ _
    rw [h1]
    rfl
theorem Doc.szs_sum : ∀ d : Doc, (d.szs d.len).sum = d.size
  | .nil => rfl
  | .cons a k r => by
    show ((1 + (k.size : Int)) :: r.szs r.len).sum = _
    rw [List.sum_cons, Doc.szs_sum r]
    simp only [Doc.size]
    omega
theorem Doc.szs_len : ∀ (i : Nat) (d : Doc), i ≤ d.len → (d.szs i).length = i
  | 0, _, _ => rfl
  | _ + 1, .nil, h => by simp [Doc.len] at h
  | i + 1, .cons a k r, h => by
    show (r.szs i).length + 1 = i + 1
    rw [Doc.szs_len i r (by simp [Doc.len] at h; omega)]
section
variable {P : Program} {w : World} {K : PySem.W.Frag} {mg : Str → Option Value} {base : Heap} {f : Addr} {fd : FuncData}
theorem sizeL_none {f : Addr} {fd : FuncData} : FnOk P w K mg base CX0 0 f fd ["d"] (spSizeL K 0) := by
  have no : ∀ vs H Q E, ¬ spSizeL K 0 vs H Q E := fun vs H Q E h => by
    obtain ⟨d, v, _, _, h, _⟩ := h
    exact absurd h (Nat.not_lt_zero _)
  exact ⟨fun vs H Q E h => absurd h (no vs H Q E), fun A outer s H args us vs Q E _ _ _ _ h => absurd h (no vs H Q E)⟩
end
section
variable {K : PySem.W.Frag} {H : Hp}
theorem cut_take {xs : List V} {k : Nat} : cutV xs none (some (k : Int)) = xs.take k := by
  unfold cutV
  rw [HT.sIx_none, HT.sIx_nat, List.drop_zero, Nat.sub_zero]
  by_cases h : k ≤ xs.length
  · rw [Nat.min_eq_left h]
  · rw [Nat.min_eq_right (by omega), List.take_length, List.take_of_length_le (by omega)]
theorem cut_drop {xs : List V} {k : Nat} : cutV xs (some (k : Int)) none = xs.drop k := by
  unfold cutV
  rw [HT.sIx_none, HT.sIx_nat]
  by_cases h : k ≤ xs.length
  · rw [Nat.min_eq_left h]
    exact List.take_of_length_le (by rw [List.length_drop]; exact Nat.le_refl _)
  · rw [Nat.min_eq_right (by omega), List.drop_length, List.drop_of_length_le (by omega)]
    simp
theorem take_data {v : V} {ds : List PyData} {k : Nat} {Q : VK} (hv : Dp K H v (.tuple ds)) (h : ∀ H' x, Gr [] H H' → Dp K H' x (.tuple (ds.take k)) → Q x H') : rSlA K v none (some (k : Int)) H Q := by
  obtain ⟨a, xs, rfl, hs, ha⟩ := hv.tupI
  have l1 := ha.length
  refine ⟨a, xs, rfl, hs, fun e => ?_, fun _ p np => ?_⟩
  · obtain ⟨_, e2⟩ := e
    rw [HT.sIx_nat] at e2
    refine h H _ (Gr.refl H) (.tup hs ?_)
    rw [List.take_of_length_le (by omega)]
    exact ha
  · refine h _ _ (Gr.new np) (.tup (SqT.of upd_same) ?_)
    rw [cut_take]
    exact (ha.gr (Gr.new np)).take k
theorem drop_data {v : V} {ds : List PyData} {k : Nat} {lo : Int} {Q : VK} (hlo : lo = (k : Int)) (hv : Dp K H v (.tuple ds)) (h : ∀ H' x, Gr [] H H' → Dp K H' x (.tuple (ds.drop k)) → Q x H') : rSlA K v (some lo) none H Q := by
  subst hlo
  obtain ⟨a, xs, rfl, hs, ha⟩ := hv.tupI
  have l1 := ha.length
  refine ⟨a, xs, rfl, hs, fun e => ?_, fun _ p np => ?_⟩
  · obtain ⟨e2, _⟩ := e
    rw [HT.sIx_nat] at e2
    refine h H _ (Gr.refl H) (.tup hs ?_)
    by_cases hk : k = 0
    · subst hk; exact ha
    · have : xs.length = 0 := by omega
      have e3 : xs = [] := List.eq_nil_of_length_eq_zero this
      subst e3
      have e4 : ds = [] := List.eq_nil_of_length_eq_zero (by rw [← l1]; rfl)
      subst e4
      simpa using ha
  · refine h _ _ (Gr.new np) (.tup (SqT.of upd_same) ?_)
    rw [cut_drop]
    exact (ha.gr (Gr.new np)).drop k
end
end LW
set_option maxHeartbeats 2000000
namespace LW
open PySem PySem.Spec PyProof.Rows L2
theorem Doc.app_ts : ∀ d e : Doc, (d.app e).ts = d.ts ++ e.ts
  | .nil, _ => rfl
  | .cons a k r, e => by simp [Doc.app, Doc.ts, Doc.app_ts r e]
theorem Doc.app_size : ∀ d e : Doc, (d.app e).size = d.size + e.size
  | .nil, _ => by simp [Doc.app, Doc.size]
  | .cons a k r, e => by simp only [Doc.app, Doc.size, Doc.app_size r e]; omega
theorem Doc.app_dep : ∀ d e : Doc, (d.app e).dep = max d.dep e.dep
  | .nil, _ => by simp [Doc.app, Doc.dep]
  | .cons a k r, e => by simp only [Doc.app, Doc.dep, Doc.app_dep r e]; omega
theorem Doc.app_lab : ∀ d e : Doc, (d.app e).lab = (d.lab && e.lab)
  | .nil, _ => by simp [Doc.app, Doc.lab]
  | .cons a k r, e => by simp only [Doc.app, Doc.lab, Doc.app_lab r e, Bool.and_assoc]
def spDocL (K : PySem.W.Frag) (n : Nat) : Sp := fun vs H Q _ => ∃ (bx cl ll : Addr) (ls : List Int) (most deep : Nat), vs = [.ref bx, .ref ll, .int most, .int deep] ∧ BoxAt H bx cl ∧ H ll = some (.lst (ls.map V.int)) ∧ ll ≠ bx ∧ 0 < ls.length ∧ ls.length < 1073741824 ∧
  (∀ x ∈ ls, 0 ≤ x ∧ x < 5) ∧ most ≤ 300 ∧ 1 ≤ deep ∧ deep < n ∧ deep ≤ 30 ∧ ∀ (d : Doc) (v : V) H', d.lab = true → d.size ≤ most → d.dep ≤ deep → Gr [bx] H H' → BoxAt H' bx cl → Dp K H' v d.data → Q v H'
section
variable {P : Program} {w : World} {K : PySem.W.Frag} {mg : Str → Option Value} {base : Heap} {f : Addr} {fd : FuncData}
theorem docL_none {k : Nat} {f : Addr} {fd : FuncData} : FnOk P w K mg base CX0 k f fd ["box", "labels", "most", "deep"] (spDocL K 0) := by
  have no : ∀ vs H Q E, ¬ spDocL K 0 vs H Q E := fun vs H Q E h => by
    obtain ⟨_, _, _, _, _, _, _, _, _, _, _, _, _, _, _, h, _⟩ := h
    exact absurd h (Nat.not_lt_zero _)
  exact ⟨fun vs H Q E h => absurd h (no vs H Q E), fun A outer s H args us vs Q E _ _ _ _ h => absurd h (no vs H Q E)⟩
end
end LW
set_option maxHeartbeats 2000000
namespace LW
open PySem PySem.Spec PyProof.Rows L2
def sgn (a b : Int) : Int := if a < b then -1 else 1
def ordT : Doc → Doc → Int
  | .cons a k r, .cons b l s => if a ≠ b then sgn a b else if k.size ≠ l.size then sgn k.size l.size else if ordT k l ≠ 0 then ordT k l else ordT r s
  | _, _ => 0
def ordS (d e : Doc) : Int := if d.size ≠ e.size then sgn d.size e.size else ordT d e
theorem sgn_ne (a b : Int) : sgn a b ≠ 0 := by unfold sgn; split <;> decide
theorem cmpL_cons (x y : Int) (xs ys : List Int) : cmpL (x :: xs) (y :: ys) = if x ≠ y then sgn x y else cmpL xs ys := by
  unfold cmpL sgn
  by_cases h : x = y
  · subst h
    simp only [HT.lexLt_cons, if_true, ne_eq, not_true, if_false]
    by_cases e : xs = ys
    · subst e; simp
    · rw [if_neg (fun z => e (List.cons.inj z).2), if_neg e]
  · simp only [HT.lexLt_cons, if_neg h, ne_eq, h, not_false_iff, if_true]
    rw [if_neg (fun z => h (List.cons.inj z).1)]
    by_cases l : x < y <;> simp [l]
theorem ordT_ab {a b : Int} {k r l s : Doc} (h : a ≠ b) : ordT (.cons a k r) (.cons b l s) = sgn a b := by simp only [ordT]; rw [if_pos h]
theorem ordT_sz {a : Int} {k r l s : Doc} (h : k.size ≠ l.size) : ordT (.cons a k r) (.cons a l s) = sgn k.size l.size := by simp only [ordT]; rw [if_neg (show ¬ a ≠ a from fun z => z rfl), if_pos h]
theorem ordT_kid {a : Int} {k r l s : Doc} (h : k.size = l.size) (h2 : ordT k l ≠ 0) : ordT (.cons a k r) (.cons a l s) = ordT k l := by
  simp only [ordT]; rw [if_neg (show ¬ a ≠ a from fun z => z rfl), if_neg (show ¬ k.size ≠ l.size from fun z => z h), if_pos h2]
theorem ordT_next {a : Int} {k r l s : Doc} (h : k.size = l.size) (h2 : ordT k l = 0) : ordT (.cons a k r) (.cons a l s) = ordT r s := by
  simp only [ordT]; rw [if_neg (show ¬ a ≠ a from fun z => z rfl), if_neg (show ¬ k.size ≠ l.size from fun z => z h), if_neg (show ¬ ordT k l ≠ 0 from fun z => z h2)]
theorem cmp_beh : ∀ (d e : Doc), d.size = e.size → ∀ x y, cmpL (d.beh ++ x) (e.beh ++ y) = if ordT d e ≠ 0 then ordT d e else cmpL x y
  | .nil, .nil, _, x, y => by simp [Doc.beh, ordT]
  | .nil, .cons b l s, h, _, _ => by simp only [Doc.size] at h; omega
  | .cons a k r, .nil, h, _, _ => by simp only [Doc.size] at h; omega
  | .cons a k r, .cons b l s, h, x, y => by
    simp only [Doc.size] at h
    simp only [Doc.beh, List.cons_append, List.append_assoc, cmpL_cons]
    by_cases hab : a = b
    · subst hab
      rw [if_neg (show ¬ a ≠ a from fun z => z rfl)]
      by_cases hs : k.size = l.size
      · rw [if_neg (show ¬ ((k.size : Int) ≠ l.size) from fun z => z (by rw [hs]))]
        rw [cmp_beh k l hs, cmp_beh r s (by omega)]
        by_cases hk : ordT k l = 0
        · rw [if_neg (show ¬ ordT k l ≠ 0 from fun z => z hk), ordT_next hs hk]
        · rw [if_pos hk, ordT_kid hs hk, if_pos hk]
      · rw [if_pos (show ((k.size : Int) ≠ l.size) by omega), ordT_sz hs, if_pos (sgn_ne _ _)]
    · rw [if_pos hab, ordT_ab hab, if_pos (sgn_ne _ _)]
theorem cmp_ord (d e : Doc) : cmpL d.ord e.ord = ordS d e := by
  unfold Doc.ord ordS
  rw [cmpL_cons]
  by_cases h : d.size = e.size
  · rw [if_neg (show ¬ ((d.size : Int) ≠ e.size) by omega), if_neg (show ¬ d.size ≠ e.size from fun z => z h)]
    have := cmp_beh d e h [] []
    rw [List.append_nil, List.append_nil] at this
    rw [this]
    by_cases z : ordT d e = 0
    · rw [z]; simp [cmpL]
    · rw [if_pos z]
  · rw [if_pos (show ((d.size : Int) ≠ e.size) by omega), if_pos h]
theorem ordT_eq : ∀ (d e : Doc), d.size = e.size → ordT d e = 0 → d = e
  | .nil, .nil, _, _ => rfl
  | .nil, .cons b l s, h, _ => by simp only [Doc.size] at h; omega
  | .cons a k r, .nil, h, _ => by simp only [Doc.size] at h; omega
  | .cons a k r, .cons b l s, h, z => by
    simp only [Doc.size] at h
    unfold ordT at z
    by_cases hab : a = b
    · rw [if_neg (show ¬ a ≠ b from fun z => z hab)] at z
      by_cases hs : k.size = l.size
      · rw [if_neg (show ¬ k.size ≠ l.size from fun z => z hs)] at z
        by_cases hk : ordT k l = 0
        · rw [if_neg (show ¬ ordT k l ≠ 0 from fun z => z hk)] at z
          rw [hab, ordT_eq k l hs hk, ordT_eq r s (by omega) z]
        · rw [if_pos hk] at z
          exact absurd z hk
      · rw [if_pos hs] at z
        exact absurd z (sgn_ne _ _)
    · rw [if_pos hab] at z
      exact absurd z (sgn_ne _ _)
theorem ordT_refl : ∀ d : Doc, ordT d d = 0
  | .nil => rfl
  | .cons a k r => by
    unfold ordT
    simp [ordT_refl k, ordT_refl r]
theorem ordS_refl (d : Doc) : ordS d d = 0 := by simp [ordS, ordT_refl]
theorem ordS_eq {d e : Doc} (h : ordS d e = 0) : d = e := by
  unfold ordS at h
  by_cases hs : d.size = e.size
  · rw [if_neg (show ¬ d.size ≠ e.size from fun z => z hs)] at h
    exact ordT_eq d e hs h
  · rw [if_pos hs] at h
    exact absurd h (sgn_ne _ _)
theorem sgn_neg {a b : Int} (h : a ≠ b) : sgn b a = - sgn a b := by
  unfold sgn
  by_cases l : a < b
  · rw [if_pos l, if_neg (by omega)]; rfl
  · rw [if_neg l, if_pos (by omega)]
theorem ordT_neg : ∀ d e : Doc, ordT e d = - ordT d e
  | .nil, .nil => rfl
  | .nil, .cons b l s => rfl
  | .cons a k r, .nil => rfl
  | .cons a k r, .cons b l s => by
    unfold ordT
    by_cases hab : a = b
    · subst hab
      simp only [ne_eq, not_true, if_false]
      by_cases hs : k.size = l.size
      · simp only [hs, not_true, if_false]
        rw [ordT_neg k l, ordT_neg r s]
        by_cases hk : ordT k l = 0
        · simp [hk]
        · rw [if_pos (show ¬ - ordT k l = 0 by omega), if_pos hk]
      · have h2 : ¬ l.size = k.size := fun z => hs z.symm
        rw [if_pos hs, if_pos h2, sgn_neg (by omega)]
    · have h2 : ¬ b = a := fun z => hab z.symm
      simp only [ne_eq, hab, h2, not_false_iff, if_true]
      exact sgn_neg hab
theorem ordS_neg (d e : Doc) : ordS e d = - ordS d e := by
  unfold ordS
  by_cases hs : d.size = e.size
  · rw [if_neg (show ¬ d.size ≠ e.size from fun z => z hs), if_neg (show ¬ e.size ≠ d.size from fun z => z hs.symm), ordT_neg]
  · rw [if_pos hs, if_pos (show e.size ≠ d.size from fun z => hs z.symm), sgn_neg (by omega)]
def Doc.dr : Nat → Doc → Doc
  | 0, d => d
  | _ + 1, .nil => .nil
  | n + 1, .cons _ _ r => r.dr n
theorem Doc.at_of : ∀ (i : Nat) (d : Doc), i < d.len → ∃ a k, d.at i = some (a, k) ∧ d.ts[i]? = some (.tuple [.int a, k.data])
  | _, .nil, h => by simp [Doc.len] at h
  | 0, .cons a k r, _ => ⟨a, k, rfl, by simp [Doc.ts, Doc.data]⟩
  | i + 1, .cons a k r, h => by
    obtain ⟨b, l, h1, h2⟩ := Doc.at_of i r (by simp [Doc.len] at h; omega)
    exact ⟨b, l, h1, by simpa [Doc.ts] using h2⟩
def spOrdL (K : PySem.W.Frag) (n : Nat) : Sp := fun vs H Q _ => ∃ (d e : Doc) (v u : V), vs = [v, u] ∧ Dp K H v d.data ∧ Dp K H u e.data ∧ d.dep < n ∧ d.size ≤ 300 ∧ d.dep ≤ 30 ∧ e.size ≤ 300 ∧ e.dep ≤ 30 ∧ ∀ H', Gr [] H H' → Q (.int (ordS d e)) H'
section
variable {P : Program} {w : World} {K : PySem.W.Frag} {mg : Str → Option Value} {base : Heap} {f : Addr} {fd : FuncData}
abbrev nLawOrd : List Str := ["d", "e", "one", "two", "k", "found"]
end
end LW
set_option maxHeartbeats 2000000
namespace LW
open PySem PySem.Spec PyProof.Rows L2
def spNear (K : PySem.W.Frag) (n : Nat) : Sp := fun vs H Q _ => ∃ (bx cl : Addr) (d : Doc) (v : V), vs = [.ref bx, v] ∧ BoxAt H bx cl ∧ Dp K H v d.data ∧ d.lab = true ∧ d.size ≤ 100 ∧ d.dep < n ∧
  ∀ (e : Doc) (u : V) H', e.lab = true → e.size ≤ d.size + 1 → e.dep ≤ d.dep + 1 → Gr [bx] H H' → BoxAt H' bx cl → Dp K H' u e.data → Q u H'
section
variable {P : Program} {w : World} {K : PySem.W.Frag} {mg : Str → Option Value} {base : Heap} {f : Addr} {fd : FuncData}
end
end LW
set_option maxHeartbeats 2000000
namespace LW
open PySem PySem.Spec PyProof.Rows L2
def st3 (tbl : List (List Doc)) (many : Nat) (a : Int) (inner : Nat) (kids : Doc) : List Doc := (tbl.getD (many - 1 - inner) []).map fun rest => Doc.cons a kids rest
def st2 (tbl : List (List Doc)) (many : Nat) (a : Int) (inner : Nat) : List Doc := (tbl.getD inner []).flatMap (st3 tbl many a inner)
def st1 (tbl : List (List Doc)) (many : Nat) (a : Int) : List Doc := (List.range many).flatMap (st2 tbl many a)
def stepD (ls : List Int) (tbl : List (List Doc)) (many : Nat) : List Doc := ls.flatMap (st1 tbl many)
def tabD (ls : List Int) : Nat → List (List Doc)
  | 0 => [[.nil]]
  | n + 1 => tabD ls n ++ [stepD ls (tabD ls n) (n + 1)]
def allD (ls : List Int) (most : Nat) : List Doc := (tabD ls most).flatten
abbrev DL (K : PySem.W.Frag) (H : Hp) (ys : List V) (ds : List Doc) : Prop := DpAll K H ys (ds.map Doc.data)
def RowAt (K : PySem.W.Frag) (H : Hp) (tb : Addr) (x : V) (ds : List Doc) : Prop := ∃ a ys, x = .ref a ∧ a ≠ tb ∧ H a = some (.lst ys) ∧ DL K H ys ds
theorem pure_docs : ∀ ds : List Doc, pureAll (ds.map Doc.data) = true
  | [] => rfl
  | d :: ds => by simp [pureAll, pure_data, pure_docs ds]
theorem RowAt.gr {K : PySem.W.Frag} {H H' : Hp} {tb : Addr} (g : Gr [tb] H H') (hm : ∀ b ∈ [tb], ∃ ys, H b = some (.lst ys)) (x : V) (ds : List Doc) (h : RowAt K H tb x ds) : RowAt K H' tb x ds := by
  obtain ⟨a, ys, e, n, h1, h2⟩ := h
  exact ⟨a, ys, e, n, g.lst (by simpa using n) h1, dpAll_grm g hm _ ys (pure_docs ds) h2⟩
theorem RowAt.gr0 {K : PySem.W.Frag} {H H' : Hp} {tb : Addr} (g : Gr [] H H') (x : V) (ds : List Doc) (h : RowAt K H tb x ds) : RowAt K H' tb x ds := by
  obtain ⟨a, ys, e, n, h1, h2⟩ := h
  exact ⟨a, ys, e, n, g.lst (by simp) h1, h2.gr g⟩
theorem small4 {n : Nat} (h : n ≤ 100000) : n < sizeLine := Nat.lt_of_le_of_lt h (by decide)
theorem DL.at {K : PySem.W.Frag} {H : Hp} {ys : List V} {ds : List Doc} (h : DL K H ys ds) {i : Nat} {y : V} (e : ys[i]? = some y) : ∃ d, ds[i]? = some d ∧ Dp K H y d.data := by
  obtain ⟨dd, h1, h2⟩ := h.get e
  rw [List.getElem?_map] at h1
  cases hd : ds[i]? with
  | none => rw [hd] at h1; cases h1
  | some d => rw [hd] at h1; cases h1; exact ⟨d, rfl, h2⟩
theorem DL.length {K : PySem.W.Frag} {H : Hp} {ys : List V} {ds : List Doc} (h : DL K H ys ds) : ys.length = ds.length := by
  have := DpAll.length h
  rwa [List.length_map] at this
theorem DL.app {K : PySem.W.Frag} {H : Hp} {ys zs : List V} {ds es : List Doc} (h : DL K H ys ds) (h2 : DL K H zs es) : DL K H (ys ++ zs) (ds ++ es) := by
  unfold DL
  rw [List.map_append]
  exact h.append h2
theorem atI_eq {xs : List V} {n : Nat} {v : V} {z : Int} (h : xs[n]? = some v) (e : z = (n : Int)) : atI xs z = some v := by
  subst e
  exact atI_nat h
def GrowB (K : PySem.W.Frag) (ll tb : Addr) (most i : Nat) (H' : Hp) (ds : List Doc) (σ : L2.St) (H2 : Hp) : Prop :=
  ∃ fa ys y5 y6 y7, σ = [some (.ref ll), some (.int most), some (.ref tb), some (.int (1 + i)), some (.ref fa), y5, y6, y7, none, none] ∧ Gr [] H' H2 ∧ H2 fa = some (.lst ys) ∧ fa ≠ tb ∧ DL K H2 ys ds
def GrowC (K : PySem.W.Frag) (ll tb : Addr) (most i : Nat) (a : Int) (H' : Hp) (ds : List Doc) (σ : L2.St) (H2 : Hp) : Prop :=
  ∃ fa ys y6 y7, σ = [some (.ref ll), some (.int most), some (.ref tb), some (.int (1 + i)), some (.ref fa), some (.int a), y6, y7, none, none] ∧ Gr [] H' H2 ∧ H2 fa = some (.lst ys) ∧ fa ≠ tb ∧ DL K H2 ys ds
def GrowD (K : PySem.W.Frag) (ll tb : Addr) (most i : Nat) (a : Int) (j : Nat) (H' : Hp) (ds : List Doc) (σ : L2.St) (H2 : Hp) : Prop :=
  ∃ fa ys y7, σ = [some (.ref ll), some (.int most), some (.ref tb), some (.int (1 + i)), some (.ref fa), some (.int a), some (.int (0 + j)), y7, none, none] ∧ Gr [] H' H2 ∧ H2 fa = some (.lst ys) ∧ fa ≠ tb ∧ DL K H2 ys ds
def spAll (K : PySem.W.Frag) : Sp := fun vs H Q _ => ∃ (ll : Addr) (ls : List Int) (most : Nat), vs = [.ref ll, .int most] ∧ H ll = some (.lst (ls.map V.int)) ∧ most ≤ 100 ∧ (∀ n ≤ most, ((tabD ls n).flatten).length ≤ 10000 ∧ ∀ d ∈ (tabD ls n).flatten, d.len ≤ 1000) ∧
  ∀ H' p ys, Gr [] H H' → H p = none → H' p = some (.lst ys) → DL K H' ys (allD ls most) → Q (.ref p) H'
section
variable {P : Program} {w : World} {K : PySem.W.Frag} {mg : Str → Option Value} {base : Heap} {f : Addr} {fd : FuncData}
abbrev nAll : List Str := ["labels", "most", "table", "many", "found", "label", "inner", "kids", "rest", "out"]
end
end LW
set_option maxHeartbeats 2000000
namespace LW
open PySem PySem.Spec PyProof.Rows L2
def spBox (K : PySem.W.Frag) : Sp := fun vs H Q _ => ∃ (a : Addr) (ns : List Int), vs = [.ref a] ∧ SqL K H a (ns.map V.int) ∧ ns.length ≤ 1000 ∧ ∀ bx cl H', Gr [] H H' → BoxAt H' bx cl → H bx = none → H cl = none → Q (.ref bx) H'
def spIsNum (K : PySem.W.Frag) : Sp := fun vs H Q _ => ∃ (d : PyData) (v : V), vs = [v] ∧ Dp K H v d ∧ Q (.bl (match d with | .int _ => true | _ => false)) H
section
variable {P : Program} {w : World} {K : PySem.W.Frag} {mg : Str → Option Value} {base : Heap} {f : Addr} {fd : FuncData}
end
end LW
set_option maxHeartbeats 2000000
namespace LW
open PySem PySem.Spec PyProof.Rows L2
def ruleD (d : PyData) (n : Int) : Bool := match d with
  | .tuple [a, x, y] => belowD a 5 && (belowD x n && belowD y n)
  | _ => false
def risL : List PyData → Bool
  | [] => true
  | [_] => true
  | a :: b :: r => PySem.W.dataLt a b && risL (b :: r)
def rulesD (d : PyData) (n : Int) : Bool := match d with
  | .tuple rs => rs.all (ruleD · n) && risL rs
  | _ => false
def triple (d : PyData) : Prop := ∃ a x y : Int, d = .tuple [.int a, .int x, .int y]
theorem belowD_int {d : PyData} {n : Int} (h : belowD d n = true) : ∃ i : Int, d = .int i ∧ 0 ≤ i ∧ i < n := by
  unfold belowD at h
  split at h
  · rename_i i
    simp only [Bool.and_eq_true, decide_eq_true_eq] at h
    exact ⟨i, rfl, h.1, h.2⟩
  · cases h
def spRule (K : PySem.W.Frag) : Sp := fun vs H Q _ => ∃ (d : PyData) (n : Int) (v : V), vs = [v, .int n] ∧ Dp K H v d ∧ Q (.bl (ruleD d n)) H
def spRising (K : PySem.W.Frag) (T : Addr) : Sp := fun vs H Q _ => ∃ (ds : List PyData) (v : V), vs = [v] ∧ Dp K H v (.tuple ds) ∧ (∀ d ∈ ds, triple d) ∧ GxR.TabG H T ∧ ds.length < 2 ^ 61 ∧ ∀ H', Gr [] H H' → Q (.bl (risL ds)) H'
section
variable {P : Program} {w : World} {K : PySem.W.Frag} {mg : Str → Option Value} {base : Heap} {f : Addr} {fd : FuncData}
end
end LW
set_option maxHeartbeats 2000000
namespace LW
open PySem PySem.Spec PyProof.Rows L2
def stateD (d : PyData) (n : Int) : Bool := match d with
  | .tuple [e, r] => isBoolD e && rulesD r n
  | _ => false
def nRules (d : PyData) : Nat := match d with
  | .tuple [_, .tuple rs] => rs.length
  | _ => 0
def schemaD (d : PyData) : Bool := match d with
  | .tuple ss => decide (1 ≤ ss.length) && decide (ss.length ≤ 60) && ss.all (stateD · ss.length) && decide ((ss.map nRules).sum ≤ 2000)
  | _ => false
def fewR (d : PyData) : Prop := ∀ rs, d = .tuple rs → rs.length < 2 ^ 61
def fewS (d : PyData) : Prop := ∀ e r, d = .tuple [e, r] → fewR r
def fewSc (d : PyData) : Prop := ∀ ss, d = .tuple ss → ∀ s ∈ ss, fewS s
def spRules (K : PySem.W.Frag) (T1 T2 : Addr) : Sp := fun vs H Q _ => ∃ (d : PyData) (n : Int) (v : V), vs = [v, .int n] ∧ Dp K H v d ∧ fewR d ∧ GxR.TabG H T1 ∧ GxR.TabG H T2 ∧ ∀ H', Gr [] H H' → Q (.bl (rulesD d n)) H'
def spState (K : PySem.W.Frag) (T1 T2 : Addr) : Sp := fun vs H Q _ => ∃ (d : PyData) (n : Int) (v : V), vs = [v, .int n] ∧ Dp K H v d ∧ fewS d ∧ GxR.TabG H T1 ∧ GxR.TabG H T2 ∧ ∀ H', Gr [] H H' → Q (.bl (stateD d n)) H'
def spIsSchema (K : PySem.W.Frag) (T1 T2 T3 : Addr) : Sp := fun vs H Q _ => ∃ (d : PyData) (v : V), vs = [v] ∧ Dp K H v d ∧ fewSc d ∧ GxR.TabG H T1 ∧ GxR.TabG H T2 ∧ GxR.TabG H T3 ∧ ∀ H', Gr [] H H' → Q (.bl (schemaD d)) H'
section
variable {P : Program} {w : World} {K : PySem.W.Frag} {mg : Str → Option Value} {base : Heap} {f : Addr} {fd : FuncData}
end
end LW
set_option maxHeartbeats 2000000
namespace LW
open PySem PySem.Spec PyProof.Rows L2
def rLen (K : PySem.W.Frag) : List V → Hp → VK → Prop := fun xs H Q => ∃ p ys, xs = [V.ref p] ∧ (SqL K H p ys ∨ SqT K H p ys) ∧ Q (V.int ys.length) H
def spCheckS (K : PySem.W.Frag) (T1 T2 T3 : Addr) : Sp := fun vs H Q _ => ∃ (d : PyData) (v : V), vs = [v] ∧ Dp K H v d ∧ fewSc d ∧ schemaD d = true ∧ GxR.TabG H T1 ∧ GxR.TabG H T2 ∧ GxR.TabG H T3 ∧ ∀ H', Gr [] H H' → Q .non H'
section
variable {P : Program} {w : World} {K : PySem.W.Frag} {mg : Str → Option Value} {base : Heap} {f : Addr} {fd : FuncData}
end
end LW
namespace LB
open PySem
def mask (p : Nat → Bool) : Nat → Nat
  | 0 => 0
  | n + 1 => mask p n + if p n then 2 ^ n else 0
theorem mask_lt (p : Nat → Bool) : ∀ n, mask p n < 2 ^ n
  | 0 => by simp [mask]
  | n + 1 => by
    have := mask_lt p n
    have e : 2 ^ (n + 1) = 2 ^ n + 2 ^ n := by rw [Nat.pow_succ]; omega
    unfold mask
    split <;> omega
theorem mask_bit (p : Nat → Bool) : ∀ n q, (mask p n).testBit q = (decide (q < n) && p q)
  | 0, q => by simp [mask]
  | n + 1, q => by
    unfold mask
    have lt := mask_lt p n
    by_cases hp : p n = true
    · rw [if_pos hp, Nat.add_comm]
      rcases Nat.lt_trichotomy q n with h | h | h
      · rw [Nat.testBit_two_pow_add_gt h, mask_bit p n q, decide_eq_true h, decide_eq_true (by omega)]
      · subst h
        rw [Nat.testBit_two_pow_add_eq, Nat.testBit_lt_two_pow lt, hp, decide_eq_true (by omega)]
        rfl
      · rw [decide_eq_false (by omega)]
        refine Nat.testBit_lt_two_pow (Nat.lt_of_lt_of_le (m := 2 ^ (n + 1)) (by rw [Nat.pow_succ]; omega) (Nat.pow_le_pow_right (by decide) h))
    · rw [if_neg hp, Nat.add_zero, mask_bit p n q]
      by_cases h : q = n
      · subst h
        rw [Bool.not_eq_true] at hp
        rw [hp, Bool.and_false, Bool.and_false]
      · by_cases h2 : q < n
        · rw [decide_eq_true h2, decide_eq_true (by omega)]
        · rw [decide_eq_false h2, decide_eq_false (by omega)]
theorem and_ne {a b : Nat} : (a &&& b ≠ 0) ↔ ∃ i, a.testBit i = true ∧ b.testBit i = true := by
  constructor
  · intro h
    obtain ⟨i, hi⟩ := Nat.exists_testBit_of_ne_zero h
    rw [Nat.testBit_and, Bool.and_eq_true] at hi
    exact ⟨i, hi.1, hi.2⟩
  · rintro ⟨i, h1, h2⟩ z
    have : (a &&& b).testBit i = true := by rw [Nat.testBit_and, h1, h2]; rfl
    rw [z, Nat.zero_testBit] at this
    cases this
theorem pow_bit {n i : Nat} : (2 ^ n).testBit i = decide (i = n) := by
  rw [Nat.testBit_two_pow]
  by_cases h : n = i <;> simp [h, eq_comm]
def mems (b n : Nat) : List Nat := (List.range n).filter fun q => b.testBit q
end LB
set_option maxHeartbeats 2000000
namespace LW
open PySem PySem.Spec PyProof.Rows L2
abbrev Rl := Nat × Nat × Nat
abbrev Sch := List (Bool × List Rl)
def rlD (r : Rl) : PyData := .tuple [.int r.1, .int r.2.1, .int r.2.2]
def stD (st : Bool × List Rl) : PyData := .tuple [.bool st.1, .tuple (st.2.map rlD)]
def schD (s : Sch) : PyData := .tuple (s.map stD)
structure SchOk (s : Sch) : Prop where
  pos : 1 ≤ s.length
  most : s.length ≤ 60
  rules : ∀ st ∈ s, ∀ r ∈ st.2, r.1 < 5 ∧ r.2.1 < s.length ∧ r.2.2 < s.length
  rise : ∀ st ∈ s, risL (st.2.map rlD) = true
  few : (s.map (·.2.length)).sum ≤ 2000
theorem SchOk.data {s : Sch} (h : SchOk s) : schemaD (schD s) = true := by
  show (decide (1 ≤ (s.map stD).length) && decide ((s.map stD).length ≤ 60) && (s.map stD).all (stateD · (s.map stD).length) && decide (((s.map stD).map nRules).sum ≤ 2000)) = true
  rw [List.length_map, decide_eq_true h.pos, decide_eq_true h.most]
  have e : ((s.map stD).map nRules) = s.map (·.2.length) := by
    rw [List.map_map]
    refine List.map_congr_left fun st _ => ?_
    show (st.2.map rlD).length = _
    rw [List.length_map]
  rw [e, decide_eq_true h.few]
  have a : (s.map stD).all (stateD · (s.length : Int)) = true := by
    rw [List.all_eq_true]
    intro d hd
    obtain ⟨st, hst, rfl⟩ := List.mem_map.mp hd
    show (true && ((st.2.map rlD).all (ruleD · s.length) && risL (st.2.map rlD))) = true
    rw [h.rise st hst, Bool.and_true, Bool.true_and, List.all_eq_true]
    intro r hr
    obtain ⟨r, hrr, rfl⟩ := List.mem_map.mp hr
    obtain ⟨h1, h2, h3⟩ := h.rules st hst r hrr
    show ((decide ((0 : Int) ≤ (r.1 : Int)) && decide ((r.1 : Int) < 5)) && ((decide ((0 : Int) ≤ (r.2.1 : Int)) && decide ((r.2.1 : Int) < s.length)) && (decide ((0 : Int) ≤ (r.2.2 : Int)) && decide ((r.2.2 : Int) < s.length)))) = true
    simp only [Bool.and_eq_true, decide_eq_true_eq]
    omega
  rw [a]
  rfl
theorem sum_mem {l : List Nat} {x : Nat} (h : x ∈ l) : x ≤ l.sum := by
  induction l with
  | nil => cases h
  | cons y l ih =>
    rw [List.sum_cons]
    rcases List.mem_cons.mp h with rfl | h
    · omega
    · have := ih h; omega
theorem SchOk.len {s : Sch} (h : SchOk s) {st : Bool × List Rl} (hs : st ∈ s) : st.2.length ≤ 2000 := Nat.le_trans (sum_mem (List.mem_map.mpr ⟨st, hs, rfl⟩)) h.few
def rulesFrom : Nat → Sch → List (Nat × Rl)
  | _, [] => []
  | k, st :: r => st.2.map (fun x => (k, x)) ++ rulesFrom (k + 1) r
theorem rulesFrom_mem : ∀ {s : Sch} {k : Nat} {p : Nat × Rl}, p ∈ rulesFrom k s ↔ ∃ i st, s[i]? = some st ∧ p.1 = k + i ∧ p.2 ∈ st.2
  | [], k, p => by simp [rulesFrom]
  | st :: s, k, p => by
    simp only [rulesFrom, List.mem_append, List.mem_map, rulesFrom_mem (s := s) (k := k + 1)]
    constructor
    · rintro (⟨x, hx, rfl⟩ | ⟨i, t, h1, h2, h3⟩)
      · exact ⟨0, st, by simp, by simp, hx⟩
      · exact ⟨i + 1, t, by simpa using h1, by omega, h3⟩
    · rintro ⟨i, t, h1, h2, h3⟩
      cases i with
      | zero =>
        simp at h1
        subst h1
        exact .inl ⟨p.2, h3, by rw [← show p.1 = k by simpa using h2]⟩
      | succ i => exact .inr ⟨i, t, by simpa using h1, by omega, h3⟩
def ofLabel (a : Nat) (l : List (Nat × Rl)) : List Rl := l.filterMap fun p => if p.2.1 = a then some (p.1, p.2.2.1, p.2.2.2) else none
theorem ofLabel_mem {a : Nat} {l : List (Nat × Rl)} {t : Rl} : t ∈ ofLabel a l ↔ (t.1, a, t.2.1, t.2.2) ∈ l := by
  unfold ofLabel
  rw [List.mem_filterMap]
  constructor
  · rintro ⟨p, hp, e⟩
    split at e
    · rename_i h
      cases e
      subst h
      exact hp
    · cases e
  · intro h
    exact ⟨_, h, by simp⟩
def putOr (q w : Nat) : List (Nat × Nat) → List (Nat × Nat)
  | [] => [(q, w)]
  | p :: r => if p.1 = q then (p.1, p.2 ||| w) :: r else p :: putOr q w r
def getB (q : Nat) : List (Nat × Nat) → Nat
  | [] => 0
  | p :: r => if p.1 = q then p.2 else getB q r
def hasB (q : Nat) (l : List (Nat × Nat)) : Prop := q ∈ l.map (·.1)
theorem getB_put {q w t : Nat} : ∀ {l : List (Nat × Nat)}, getB t (putOr q w l) = if t = q then getB t l ||| w else getB t l
  | [] => by
    unfold putOr getB
    by_cases h : q = t
    · subst h; simp [getB]
    · rw [if_neg h, if_neg (fun z => h z.symm)]
      rfl
  | p :: r => by
    unfold putOr
    by_cases h : p.1 = q
    · rw [if_pos h]
      unfold getB
      by_cases h2 : p.1 = t
      · rw [if_pos h2, if_pos h2, if_pos (by omega)]
      · rw [if_neg h2, if_neg h2, if_neg (by omega)]
    · rw [if_neg h]
      unfold getB
      by_cases h2 : p.1 = t
      · rw [if_pos h2, if_neg (by omega), if_pos h2]
      · rw [if_neg h2, getB_put (l := r), if_neg h2]
theorem keys_put {q w : Nat} : ∀ {l : List (Nat × Nat)}, (putOr q w l).map (·.1) = if q ∈ l.map (·.1) then l.map (·.1) else l.map (·.1) ++ [q]
  | [] => rfl
  | p :: r => by
    unfold putOr
    by_cases h : p.1 = q
    · rw [if_pos h, if_pos (by simp [h])]
      rfl
    · rw [if_neg h, List.map_cons, keys_put (l := r), List.map_cons]
      by_cases h2 : q ∈ r.map (·.1)
      · rw [if_pos h2, if_pos (List.mem_cons_of_mem _ h2)]
      · rw [if_neg h2, if_neg (by rw [List.mem_cons, not_or]; exact ⟨fun z => h z.symm, h2⟩)]
        rfl
def rowOf (rs : List Rl) (inside : Nat) : List (Nat × Nat) := rs.foldl (fun acc t => if inside.testBit t.2.1 = true then putOr t.1 (2 ^ t.2.2) acc else acc) []
def afterOf (row : List (Nat × Nat)) (rest : Nat) : Nat := row.foldl (fun acc p => if p.2 &&& rest ≠ 0 then acc ||| 2 ^ p.1 else acc) 0
def emptyB (s : Sch) : Nat := LB.mask (fun q => (s.getD q (false, [])).1) s.length
def afterB (s : Sch) (a inside rest : Nat) : Nat := afterOf (rowOf (ofLabel a (rulesFrom 0 s)) inside) rest
def setB (s : Sch) : Doc → Nat
  | .nil => emptyB s
  | .cons a k r => afterB s a.toNat (setB s k) (setB s r)
theorem rowOf_nodup (rs : List Rl) (inside : Nat) : ((rowOf rs inside).map (·.1)).Nodup := by
  have key : ∀ (rs : List Rl) (acc : List (Nat × Nat)), (acc.map (·.1)).Nodup → ((rs.foldl (fun acc t => if inside.testBit t.2.1 = true then putOr t.1 (2 ^ t.2.2) acc else acc) acc).map (·.1)).Nodup := by
    intro rs
    induction rs with
    | nil => exact fun _ h => h
    | cons t rs ih =>
      intro acc h
      refine ih _ ?_
      dsimp only
      split
      · rw [keys_put]
        split
        · exact h
        · rename_i hn
          rw [List.nodup_append]
          refine ⟨h, by simp, fun x hx y hy => ?_⟩
          rw [List.mem_singleton] at hy
          subst hy
          exact fun z => hn (by rw [← z]; exact hx)
      · exact h
  exact key rs [] (by simp)
theorem rowOf_bit (rs : List Rl) (inside q y : Nat) : (getB q (rowOf rs inside)).testBit y = true ↔ ∃ x, (q, x, y) ∈ rs ∧ inside.testBit x = true := by
  have key : ∀ (rs : List Rl) (acc : List (Nat × Nat)), (getB q (rs.foldl (fun acc t => if inside.testBit t.2.1 = true then putOr t.1 (2 ^ t.2.2) acc else acc) acc)).testBit y = true ↔ (getB q acc).testBit y = true ∨ ∃ x, (q, x, y) ∈ rs ∧ inside.testBit x = true := by
    intro rs
    induction rs with
    | nil => intro acc; simp
    | cons t rs ih =>
      intro acc
      rw [List.foldl_cons, ih]
      by_cases h : inside.testBit t.2.1 = true
      · rw [if_pos h, getB_put]
        by_cases hq : q = t.1
        · rw [if_pos hq, Nat.testBit_or, LB.pow_bit, Bool.or_eq_true, decide_eq_true_eq]
          constructor
          · rintro ((h1 | h1) | ⟨x, h1, h2⟩)
            · exact .inl h1
            · exact .inr ⟨t.2.1, List.mem_cons.mpr (.inl (by rw [hq, h1])), h⟩
            · exact .inr ⟨x, List.mem_cons_of_mem _ h1, h2⟩
          · rintro (h1 | ⟨x, h1, h2⟩)
            · exact .inl (.inl h1)
            · rcases List.mem_cons.mp h1 with h1 | h1
              · refine .inl (.inr ?_)
                rw [← h1]
              · exact .inr ⟨x, h1, h2⟩
        · rw [if_neg hq]
          constructor
          · rintro (h1 | ⟨x, h1, h2⟩)
            · exact .inl h1
            · exact .inr ⟨x, List.mem_cons_of_mem _ h1, h2⟩
          · rintro (h1 | ⟨x, h1, h2⟩)
            · exact .inl h1
            · rcases List.mem_cons.mp h1 with h1 | h1
              · exact absurd (by rw [← h1]) hq
              · exact .inr ⟨x, h1, h2⟩
      · rw [if_neg h]
        constructor
        · rintro (h1 | ⟨x, h1, h2⟩)
          · exact .inl h1
          · exact .inr ⟨x, List.mem_cons_of_mem _ h1, h2⟩
        · rintro (h1 | ⟨x, h1, h2⟩)
          · exact .inl h1
          · rcases List.mem_cons.mp h1 with h1 | h1
            · exact absurd (by rw [← h1]; exact h2) h
            · exact .inr ⟨x, h1, h2⟩
  unfold rowOf
  rw [key]
  simp [getB]
theorem getB_mem {q : Nat} : ∀ {l : List (Nat × Nat)} {p : Nat × Nat}, (l.map (·.1)).Nodup → p ∈ l → p.1 = q → getB q l = p.2
  | [], _, _, h, _ => by cases h
  | x :: r, p, nd, h, e => by
    rw [List.map_cons, List.nodup_cons] at nd
    unfold getB
    rcases List.mem_cons.mp h with rfl | h
    · rw [if_pos e]
    · rw [if_neg (fun z => nd.1 (by rw [z, ← e]; exact List.mem_map.mpr ⟨p, h, rfl⟩)), getB_mem nd.2 h e]
theorem getB_some {q : Nat} : ∀ {l : List (Nat × Nat)}, getB q l ≠ 0 → ∃ p ∈ l, p.1 = q ∧ p.2 = getB q l
  | [], h => absurd rfl h
  | x :: r, h => by
    unfold getB at h ⊢
    by_cases e : x.1 = q
    · rw [if_pos e] at h ⊢
      exact ⟨x, List.mem_cons_self .., e, rfl⟩
    · rw [if_neg e] at h ⊢
      obtain ⟨p, h1, h2⟩ := getB_some h
      exact ⟨p, List.mem_cons_of_mem _ h1, h2⟩
theorem afterOf_bit (row : List (Nat × Nat)) (rest q : Nat) : (afterOf row rest).testBit q = true ↔ ∃ p ∈ row, p.1 = q ∧ p.2 &&& rest ≠ 0 := by
  have key : ∀ (row : List (Nat × Nat)) (acc : Nat), (row.foldl (fun acc p => if p.2 &&& rest ≠ 0 then acc ||| 2 ^ p.1 else acc) acc).testBit q = true ↔ acc.testBit q = true ∨ ∃ p ∈ row, p.1 = q ∧ p.2 &&& rest ≠ 0 := by
    intro row
    induction row with
    | nil => intro acc; simp
    | cons p row ih =>
      intro acc
      rw [List.foldl_cons, ih]
      by_cases h : p.2 &&& rest ≠ 0
      · rw [if_pos h, Nat.testBit_or, LB.pow_bit, Bool.or_eq_true, decide_eq_true_eq]
        constructor
        · rintro ((h1 | h1) | ⟨x, h1, h2⟩)
          · exact .inl h1
          · exact .inr ⟨p, List.mem_cons_self .., h1.symm, h⟩
          · exact .inr ⟨x, List.mem_cons_of_mem _ h1, h2⟩
        · rintro (h1 | ⟨x, h1, h2⟩)
          · exact .inl (.inl h1)
          · rcases List.mem_cons.mp h1 with rfl | h1
            · exact .inl (.inr h2.1.symm)
            · exact .inr ⟨x, h1, h2⟩
      · rw [if_neg h]
        constructor
        · rintro (h1 | ⟨x, h1, h2⟩)
          · exact .inl h1
          · exact .inr ⟨x, List.mem_cons_of_mem _ h1, h2⟩
        · rintro (h1 | ⟨x, h1, h2⟩)
          · exact .inl h1
          · rcases List.mem_cons.mp h1 with rfl | h1
            · exact absurd h2.2 h
            · exact .inr ⟨x, h1, h2⟩
  unfold afterOf
  rw [key]
  simp
theorem afterB_bit (s : Sch) (a inside rest q : Nat) : (afterB s a inside rest).testBit q = true ↔ ∃ st, s[q]? = some st ∧ ∃ r ∈ st.2, r.1 = a ∧ inside.testBit r.2.1 = true ∧ rest.testBit r.2.2 = true := by
  unfold afterB
  rw [afterOf_bit]
  have nd := rowOf_nodup (ofLabel a (rulesFrom 0 s)) inside
  constructor
  · rintro ⟨p, hp, rfl, h⟩
    obtain ⟨y, h1, h2⟩ := LB.and_ne.mp h
    rw [← getB_mem nd hp rfl, rowOf_bit] at h1
    obtain ⟨x, h3, h4⟩ := h1
    obtain ⟨i, st, e1, e2, e3⟩ := rulesFrom_mem.mp (ofLabel_mem.mp h3)
    have e2' : p.1 = 0 + i := e2
    exact ⟨st, by rw [show p.1 = i by omega]; exact e1, _, e3, rfl, h4, h2⟩
  · rintro ⟨st, e1, r, hr, rfl, h1, h2⟩
    have m : (q, r.2.1, r.2.2) ∈ ofLabel r.1 (rulesFrom 0 s) := ofLabel_mem.mpr (rulesFrom_mem.mpr ⟨q, st, e1, by simp, hr⟩)
    have hb := (rowOf_bit (ofLabel r.1 (rulesFrom 0 s)) inside q r.2.2).mpr ⟨r.2.1, m, h1⟩
    have hne : getB q (rowOf (ofLabel r.1 (rulesFrom 0 s)) inside) ≠ 0 := fun z => by rw [z, Nat.zero_testBit] at hb; cases hb
    obtain ⟨p, hp, e, e2⟩ := getB_some hne
    exact ⟨p, hp, e, LB.and_ne.mpr ⟨r.2.2, by rw [e2]; exact hb, h2⟩⟩
theorem emptyB_bit (s : Sch) (q : Nat) : (emptyB s).testBit q = true ↔ ∃ st, s[q]? = some st ∧ st.1 = true := by
  unfold emptyB
  rw [LB.mask_bit, Bool.and_eq_true, decide_eq_true_eq, List.getD_eq_getElem?_getD]
  constructor
  · rintro ⟨h1, h2⟩
    rw [List.getElem?_eq_getElem h1] at h2
    exact ⟨_, List.getElem?_eq_getElem h1, h2⟩
  · rintro ⟨st, h1, h2⟩
    exact ⟨(List.getElem?_eq_some_iff.mp h1).1, by rw [h1]; exact h2⟩
theorem bits_lt {b n : Nat} (h : ∀ q, b.testBit q = true → q < n) : b < 2 ^ n := by
  refine Nat.lt_pow_two_of_testBit b fun i hi => ?_
  cases e : b.testBit i with
  | false => rfl
  | true => exact absurd (h i e) (by omega)
theorem afterB_lt (s : Sch) (a inside rest : Nat) : afterB s a inside rest < 2 ^ s.length := bits_lt fun q h => by
  obtain ⟨st, h1, _⟩ := (afterB_bit s a inside rest q).mp h
  exact (List.getElem?_eq_some_iff.mp h1).1
theorem emptyB_lt (s : Sch) : emptyB s < 2 ^ s.length := LB.mask_lt _ _
theorem setB_lt (s : Sch) : ∀ d, setB s d < 2 ^ s.length
  | .nil => emptyB_lt s
  | .cons a k r => afterB_lt ..
end LW
set_option maxHeartbeats 2000000
namespace LW
open PySem PySem.Spec PyProof.Rows L2
def tTr (K : PySem.W.Frag) (ta : TE) : TT := fun σ H Q => ta σ H fun x H' => ∃ k, TruV K x H' k ∧ Q k H'
abbrev natV (n : Nat) : V := V.int (n : Int)
def spBits (K : PySem.W.Frag) : Sp := fun vs H Q _ => ∃ (l : Addr) (ns : List Nat), vs = [.ref l] ∧ SqL K H l (ns.map natV) ∧ ns.length ≤ 1000 ∧ (∀ n ∈ ns, n ≤ 1000) ∧ ∀ H', Gr [] H H' → Q (natV ((ns.map (2 ^ ·)).sum)) H'
def spStates : Sp := fun vs H Q _ => ∃ (b n : Nat), vs = [natV b] ∧ b < 2 ^ n ∧ n ≤ 1000 ∧ ∀ H' p, Gr [] H H' → H p = none → H' p = some (.tup ((LB.mems b n).map natV)) → Q (.ref p) H'
section
variable {P : Program} {w : World} {K : PySem.W.Frag} {mg : Str → Option Value} {base : Heap} {f : Addr} {fd : FuncData}
end
end LW
set_option maxHeartbeats 2000000
namespace EnT
open PySem PySem.Spec PyProof.Rows
open Sem (wp)
open AutoSeq1 (wpAny_loadPart')
abbrev itTup (t : Addr) : Obj := { cls := .type "tuple_iterator", data := .fields #[.ref t, .int 0 0] }
abbrev enObj (it : Addr) : Obj := { cls := .type "enumerate", data := .fields #[.none, .bool false, .ref it, rawInt 0, .none, .none] }
section
variable {prog : Program} {w : World} {A : Around} {E : Value → Shared → Prop} {s : Shared}
end
open L2
def IteT (K : PySem.W.Frag) (a : Addr) : It :=
  ⟨fun i H => ∃ (ys : List V) (y : V), SqT K H a ys ∧ ys[i]? = some y, fun i H v H2 => ∃ T y, v = .ref T ∧ H T = none ∧ H2 = upd H T (.tup [.int (i : Nat), y]) ∧ ∀ ys, SqT K H a ys → ys[i]? = some y, fun i H => ∃ ys : List V, SqT K H a ys ∧ ys.length ≤ i⟩
def iEnT (K : PySem.W.Frag) (te : TE) : TI := fun σ H R => te σ H fun v H1 => ∃ a xs, v = .ref a ∧ SqT K H1 a xs ∧ R (IteT K a) H1
end EnT
namespace EnT
open PySem PySem.Spec PyProof.Rows L2
end EnT
set_option maxHeartbeats 2000000
namespace LW
open PySem PySem.Spec PyProof.Rows L2
def quadD (p : Nat × Rl) : PyData := .tuple [.int p.1, .int p.2.1, .int p.2.2.1, .int p.2.2.2]
theorem dpAll_ints3 {K : PySem.W.Frag} {H : Hp} {xs : List V} {a b c : Int} (h : DpAll K H xs [.int a, .int b, .int c]) : xs = [.int a, .int b, .int c] := by
  cases h with
  | cons h1 h => cases h with
    | cons h2 h => cases h with
      | cons h3 h => cases h; cases h1; cases h2; cases h3; rfl
def spRulesOf (K : PySem.W.Frag) : Sp := fun vs H Q _ => ∃ (v : V) (s : Sch), vs = [v] ∧ Dp K H v (schD s) ∧ SchOk s ∧ ∀ H' p ys, Gr [] H H' → H p = none → H' p = some (.lst ys) → DpAll K H' ys ((rulesFrom 0 s).map quadD) → Q (.ref p) H'
section
variable {P : Program} {w : World} {K : PySem.W.Frag} {mg : Str → Option Value} {base : Heap} {f : Addr} {fd : FuncData}
abbrev nRulesOf : List Str := ["schema", "state", "_", "rules", "rule"]
end
end LW
set_option maxHeartbeats 2000000
namespace LW
open PySem PySem.Spec PyProof.Rows L2
def bitD (t : Rl) : PyData := .tuple [.int (t.1 : Int), .int (t.2.1 : Int), .int (t.2.2 : Int)]
structure RL (K : PySem.W.Frag) (H0 H : Hp) (D : Addr) (ls : List Addr) (rs : List (Nat × Rl)) : Prop where
  at_ : H D = some (.lst (ls.map V.ref))
  len : ls.length = 5
  nd : ls.Nodup
  out : D ∉ ls
  new : ∀ l ∈ ls, H0 l = none
  row : ∀ (a : Nat) (l : Addr), ls[a]? = some l → ∃ xs, H l = some (.lst xs) ∧ DpAll K H xs ((ofLabel a rs).map bitD)
theorem RL.gr {K : PySem.W.Frag} {H0 H H' : Hp} {D : Addr} {ls : List Addr} {rs : List (Nat × Rl)} (h : RL K H0 H D ls rs) (g : Gr [] H H') : RL K H0 H' D ls rs :=
  ⟨g.lst (by simp) h.at_, h.len, h.nd, h.out, h.new, fun a l e => let ⟨xs, h1, h2⟩ := h.row a l e; ⟨xs, g.lst (by simp) h1, h2.gr g⟩⟩
def spByLabel (K : PySem.W.Frag) : Sp := fun vs H Q _ => ∃ (v : V) (s : Sch), vs = [v] ∧ Dp K H v (schD s) ∧ SchOk s ∧ ∀ H' p ls, Gr [] H H' → H p = none → RL K H H' p ls (rulesFrom 0 s) → Q (.ref p) H'
section
variable {P : Program} {w : World} {K : PySem.W.Frag} {mg : Str → Option Value} {base : Heap} {f : Addr} {fd : FuncData}
abbrev nByLabel : List Str := ["schema", "found", "_", "state", "label", "inside", "behind"]
end
end LW
namespace LB
open PySem PySem.Spec PyProof.Rows L2
section
variable {X : Cx}
def rOrN : R2 := fun x y H Q => ∃ a b : Nat, x = .int (a : Int) ∧ y = .int (b : Int) ∧ Q (.int ((a ||| b : Nat) : Int)) H
def rAndN : R2 := fun x y H Q => ∃ a b : Nat, x = .int (a : Int) ∧ y = .int (b : Int) ∧ Q (.int ((a &&& b : Nat) : Int)) H
end
end LB
set_option maxHeartbeats 2000000
namespace LW
open PySem PySem.Spec PyProof.Rows L2
def rowK (l : List (Nat × Nat)) : List (Key × V) := l.map fun p => (Sum.inl ((p.1 : Nat) : Int), natV p.2)
def entD (p : Nat × Nat) : PyData := .tuple [.int ((p.1 : Nat) : Int), .int (p.2 : Int)]
def spRowOf (K : PySem.W.Frag) : Sp := fun vs H Q _ => ∃ (l : Addr) (xs : List V) (rs : List Rl) (inside : Nat), vs = [.ref l, natV inside] ∧ H l = some (.lst xs) ∧ DpAll K H xs (rs.map bitD) ∧ rs.length ≤ 2000 ∧
  ∀ H' p ys, Gr [] H H' → H p = none → H' p = some (.lst ys) → DpAll K H' ys ((rowOf rs inside).map entD) → Q (.ref p) H'
section
variable {P : Program} {w : World} {K : PySem.W.Frag} {mg : Str → Option Value} {base : Heap} {f : Addr} {fd : FuncData}
abbrev nRowOf : List Str := ["rules", "inside", "wanted", "state", "kids", "behind"]
end
end LW
namespace LW
open PySem PySem.Spec PyProof.Rows L2
def hotO : HO → Bool
  | .dT _ => true
  | .dK _ => true
  | .ins .. => true
  | _ => false
def Apart (m : List Addr) (H : Hp) : Prop := ∀ b ∈ m, ∀ o, H b = some o → hotO o = true
theorem Apart.nil {H : Hp} : Apart [] H := fun _ h => by cases h
theorem Apart.not {m : List Addr} {H : Hp} (h : Apart m H) {a : Addr} {o : HO} (e : H a = some o) (n : hotO o = false) : a ∉ m := fun z => by
  have := h a z o e
  rw [n] at this
  cases this
theorem Gr.lstA {m : List Addr} {H H' : Hp} {a : Addr} {xs : List V} (g : Gr m H H') (h : Apart m H) (e : H a = some (.lst xs)) : H' a = some (.lst xs) := g.lst (h.not e rfl) e
theorem Gr.tupA {m : List Addr} {H H' : Hp} {a : Addr} {xs : List V} (g : Gr m H H') (h : Apart m H) (e : H a = some (.tup xs)) : H' a = some (.tup xs) := g.tup (h.not e rfl) e
theorem Gr.sqTA {m : List Addr} {H H' : Hp} {K : PySem.W.Frag} {a : Addr} {xs : List V} (g : Gr m H H') (h : Apart m H) (e : SqT K H a xs) : SqT K H' a xs := by
  rcases e with (e | ⟨o, e⟩) | e
  · exact .inl (.inl (g.tupA h e))
  · exact .inl (.inr ⟨o, g.keep _ _ (h.not e rfl) e fun _ z => by cases z⟩)
  · exact .inr e
theorem Gr.sqLA {m : List Addr} {H H' : Hp} {K : PySem.W.Frag} {a : Addr} {xs : List V} (g : Gr m H H') (h : Apart m H) (e : SqL K H a xs) : SqL K H' a xs := by
  rcases e with (e | ⟨o, e⟩) | e
  · exact .inl (.inl (g.lstA h e))
  · exact .inl (.inr ⟨o, g.keep _ _ (h.not e rfl) e fun _ z => by cases z⟩)
  · exact .inr e
mutual
theorem dp_gra {K : PySem.W.Frag} {H H' : Hp} {m : List Addr} (g : Gr m H H') (hm : Apart m H) : ∀ (d : PyData) (v : V), Dp K H v d → Dp K H' v d
  | .none, _, h => by cases h; exact .non
  | .bool b, _, h => by cases h; exact .bl b
  | .int i, _, h => by cases h; exact .int i
  | .str x, _, h => by cases h; exact .str x
  | .list ds, _, h => by
    cases h with
    | lst hs ha => exact .lst (g.sqLA hm hs) (dpAll_gra g hm ds _ ha)
  | .tuple ds, _, h => by
    cases h with
    | tup hs ha => exact .tup (g.sqTA hm hs) (dpAll_gra g hm ds _ ha)
  | .dict _, _, h => by cases h
theorem dpAll_gra {K : PySem.W.Frag} {H H' : Hp} {m : List Addr} (g : Gr m H H') (hm : Apart m H) : ∀ (ds : List PyData) (vs : List V), DpAll K H vs ds → DpAll K H' vs ds
  | [], _, h => by cases h; exact .nil
  | d :: ds, _, h => by
    cases h with
    | cons h1 h2 => exact .cons (dp_gra g hm d _ h1) (dpAll_gra g hm ds _ h2)
end
end LW
set_option maxHeartbeats 2000000
namespace LW
open PySem PySem.Spec PyProof.Rows L2
def fsS (s : Sch) (rl rw_ st : Addr) : List (Str × V) := [("empty", natV (emptyB s)), ("rules", .ref rl), ("rows", .ref rw_), ("steps", .ref st)]
structure StTxt (K : PySem.W.Frag) (mg : Str → Option Value) (C : Addr) : Prop where
  cl : Cls K C
  nE : NoAttr K C "empty"
  nR : NoAttr K C "rules"
  nW : NoAttr K C "rows"
  nS : NoAttr K C "steps"
  gC : mg "Steps" = some (.ref C)
structure Mt (P : Program) (w : World) (K : PySem.W.Frag) (mg : Str → Option Value) (base : Heap) (CX : CXT) (k : Nat) (C : Addr) (m : Str) (ps : List Str) (sp : Sp) : Prop where
  ex : ∃ f fd, FnOk P w K mg base CX k f fd ps sp ∧ Meth K C m f ∧ Binds K fd ps []
theorem Mt.mono {P : Program} {w : World} {K : PySem.W.Frag} {mg : Str → Option Value} {base : Heap} {CX : CXT} {j k : Nat} {C : Addr} {m : Str} {ps : List Str} {sp : Sp} (F : Mt P w K mg base CX j C m ps sp) (h : j ≤ k) : Mt P w K mg base CX k C m ps sp := by
  obtain ⟨f, fd, F, m, b⟩ := F.ex
  exact ⟨f, fd, F.mono h, m, b⟩
theorem pe_mt {X : Cx} {CX : CXT} {k : Nat} {C : Addr} {m : Str} {ps : List Str} {sp : Sp} {E : XK} {pos apos : Pos} {e o : Expr} {es : List Expr} {ta : TE} {t : TA} {pl : Sem Bool} (he : PE X o ta) (c : Cls X.K C) (F : Mt X.prog X.w X.K X.mg X.base CX k C m ps sp) (hr : Room k X.A) (hx : Passes CX X E) (ha : PA X (e :: es) t)
    (hst : starEach (e :: es) X.env = (false, eval e X.env) :: starEach es X.env := by rfl) (hpl : (backTo pos (starEach es X.env)).any (·.1) = false := by rfl)
    (ht : eval (.Call (.Attribute o m apos) (e :: es) [] pos) X.env = (do
      let ov ← eval o X.env
      standAt apos.atName
      let (f, first) ← holding [ov] (getMethod ov m pl)
      callWith pos f first (backTo pos (starEach (e :: es) X.env)) (backToKw pos (keywordEach [] X.env))) := by rfl) :
    PE X (.Call (.Attribute o m apos) (e :: es) [] pos) (tMeth C m sp [] E ta t) := by
  obtain ⟨f, fd, F, hm, hb⟩ := F.ex
  exact pe_meth he c hm F hr hb .nil hx ha hst hpl ht
abbrev key2 (a x : Nat) : List Key := [.inl (a : Int), .inl (x : Int)]
abbrev key3 (a x y : Nat) : List Key := [.inl (a : Int), .inl (x : Int), .inl (y : Int)]
structure StepsAt (K : PySem.W.Frag) (C : Addr) (H : Hp) (p rl rw_ st : Addr) (s : Sch) (n : Nat) : Prop where
  ins : ∃ dx, H p = some (.ins C dx (fsS s rl rw_ st))
  rules : ∃ H0 ls, RL K H0 H rl ls (rulesFrom 0 s)
  rows : ∃ kvs, H rw_ = some (.dT kvs) ∧ kvs.length ≤ n ∧ ∀ a x v, valV kvs (key2 a x) = some v → ∃ l xs, v = .ref l ∧ H l = some (.lst xs) ∧ DpAll K H xs ((rowOf (ofLabel a (rulesFrom 0 s)) x).map entD)
  steps : ∃ kvs, H st = some (.dT kvs) ∧ kvs.length ≤ n ∧ ∀ a x y v, valV kvs (key3 a x y) = some v → v = natV (afterB s a x y)
  ne : rw_ ≠ st
section
variable {K : PySem.W.Frag} {C p rl rw_ st : Addr} {H H' : Hp} {s : Sch} {n : Nat}
theorem RL.grA {H0 : Hp} {D : Addr} {ls : List Addr} {rs : List (Nat × Rl)} {m : List Addr} (h : RL K H0 H D ls rs) (g : Gr m H H') (hm : Apart m H) : RL K H0 H' D ls rs :=
  ⟨g.lstA hm h.at_, h.len, h.nd, h.out, h.new, fun a l e => let ⟨xs, h1, h2⟩ := h.row a l e; ⟨xs, g.lstA hm h1, dpAll_gra g hm _ _ h2⟩⟩
theorem StepsAt.gr {m : List Addr} (h : StepsAt K C H p rl rw_ st s n) (g : Gr m H H') (hm : Apart m H) (h1 : p ∉ m) (h2 : rw_ ∉ m) (h3 : st ∉ m) : StepsAt K C H' p rl rw_ st s n where
  ins := let ⟨dx, e⟩ := h.ins; ⟨dx, g.keep _ _ h1 e fun _ z => by cases z⟩
  rules := let ⟨H0, ls, e⟩ := h.rules; ⟨H0, ls, e.grA g hm⟩
  rows := by
    obtain ⟨kvs, e, l, f⟩ := h.rows
    refine ⟨kvs, g.keep _ _ h2 e (fun _ z => by cases z), l, fun a x v q => ?_⟩
    obtain ⟨l, xs, e1, e2, e3⟩ := f a x v q
    exact ⟨l, xs, e1, g.lstA hm e2, dpAll_gra g hm _ _ e3⟩
  steps := let ⟨kvs, e, l, f⟩ := h.steps; ⟨kvs, g.keep _ _ h3 e (fun _ z => by cases z), l, f⟩
  ne := h.ne
theorem StepsAt.gr0 (h : StepsAt K C H p rl rw_ st s n) (g : Gr [] H H') : StepsAt K C H' p rl rw_ st s n := h.gr g .nil (by simp) (by simp) (by simp)
theorem StepsAt.apart (h : StepsAt K C H p rl rw_ st s n) : Apart [rw_, st] H := fun b hb o e => by
  obtain ⟨kvs, e1, _⟩ := h.rows
  obtain ⟨kvs2, e2, _⟩ := h.steps
  rcases List.mem_cons.mp hb with rfl | hb
  · rw [e1] at e; cases e; rfl
  · rw [List.mem_singleton.mp hb, e2] at e; cases e; rfl
theorem StepsAt.mono {k : Nat} (h : StepsAt K C H p rl rw_ st s n) (le : n ≤ k) : StepsAt K C H p rl rw_ st s k :=
  ⟨h.ins, h.rules, let ⟨kvs, e, l, f⟩ := h.rows; ⟨kvs, e, Nat.le_trans l le, f⟩, let ⟨kvs, e, l, f⟩ := h.steps; ⟨kvs, e, Nat.le_trans l le, f⟩, h.ne⟩
end
def spRow (K : PySem.W.Frag) (C : Addr) : Sp := fun vs H Q _ => ∃ (p rl rw_ st : Addr) (s : Sch) (n a x : Nat), vs = [.ref p, natV a, natV x] ∧ StepsAt K C H p rl rw_ st s n ∧ SchOk s ∧ n ≤ 90000 ∧ a < 5 ∧
  ∀ H' l xs, Gr [rw_] H H' → StepsAt K C H' p rl rw_ st s (n + 1) → H' l = some (.lst xs) → DpAll K H' xs ((rowOf (ofLabel a (rulesFrom 0 s)) x).map entD) → Q (.ref l) H'
section
variable {P : Program} {w : World} {K : PySem.W.Frag} {mg : Str → Option Value} {base : Heap} {f : Addr} {fd : FuncData} {C : Addr}
abbrev nRow : List Str := ["self", "label", "inside", "asked"]
end
end LW
set_option maxHeartbeats 2000000
namespace LW
open PySem PySem.Spec PyProof.Rows L2
def spAfter (K : PySem.W.Frag) (C : Addr) : Sp := fun vs H Q _ => ∃ (p rl rw_ st : Addr) (s : Sch) (n a x y : Nat), vs = [.ref p, natV a, natV x, natV y] ∧ StepsAt K C H p rl rw_ st s n ∧ SchOk s ∧ n ≤ 90000 ∧ a < 5 ∧
  ∀ H', Gr [rw_, st] H H' → StepsAt K C H' p rl rw_ st s (n + 1) → Q (natV (afterB s a x y)) H'
def spOfDoc (K : PySem.W.Frag) (C : Addr) (k : Nat) : Sp := fun vs H Q _ => ∃ (p rl rw_ st : Addr) (s : Sch) (n : Nat) (d : Doc) (v : V), vs = [.ref p, v] ∧ StepsAt K C H p rl rw_ st s n ∧ SchOk s ∧ Dp K H v d.data ∧ d.lab = true ∧ d.dep < k ∧ n + d.size ≤ 90000 ∧
  ∀ H', Gr [rw_, st] H H' → StepsAt K C H' p rl rw_ st s (n + d.size) → Q (natV (setB s d)) H'
section
variable {P : Program} {w : World} {K : PySem.W.Frag} {mg : Str → Option Value} {base : Heap} {f : Addr} {fd : FuncData} {C : Addr}
abbrev nAfter : List Str := ["self", "label", "inside", "rest", "asked", "found", "state", "wanted"]
end
end LW
set_option maxHeartbeats 2000000
namespace LW
open PySem PySem.Spec PyProof.Rows L2
theorem Doc.lab_at : ∀ (i : Nat) (d : Doc) (a : Int) (k : Doc), d.at i = some (a, k) → d.lab = true → 0 ≤ a ∧ a < 5 ∧ k.lab = true
  | _, .nil, _, _, h, _ => by simp [Doc.at] at h
  | 0, .cons b l r, a, k, h, hl => by
    simp only [Doc.at, Option.some.injEq, Prod.mk.injEq] at h
    obtain ⟨rfl, rfl⟩ := h
    simp only [Doc.lab, Bool.and_eq_true, decide_eq_true_eq] at hl
    exact ⟨hl.1.1.1, hl.1.1.2, hl.1.2⟩
  | i + 1, .cons b l r, a, k, h, hl => by
    simp only [Doc.lab, Bool.and_eq_true] at hl
    exact Doc.lab_at i r a k h hl.2
def spSteps (K : PySem.W.Frag) (C : Addr) : Sp := fun vs H Q _ => ∃ (p dx : Addr) (v : V) (s : Sch), vs = [.ref p, v] ∧ H p = some (.ins C dx []) ∧ Dp K H v (schD s) ∧ SchOk s ∧
  ∀ H' rl rw_ st, Gr [p] H H' → StepsAt K C H' p rl rw_ st s 0 → H rw_ = none → H st = none → Q .non H'
section
variable {P : Program} {w : World} {K : PySem.W.Frag} {mg : Str → Option Value} {base : Heap} {f : Addr} {fd : FuncData} {C : Addr}
end
end LW
set_option maxHeartbeats 2000000
namespace LW
open PySem PySem.Spec PyProof.Rows L2
def endsP (s : Sch) (q : Nat) : Bool := (s.getD q (false, [])).1
section
variable {P : Program} {w : World} {K : PySem.W.Frag} {mg : Str → Option Value} {base : Heap} {f : Addr} {fd : FuncData} {C : Addr}
abbrev nInit : List Str := ["self", "schema", "state", "ends", "_"]
end
end LW
set_option maxHeartbeats 2000000
namespace LW
open PySem PySem.Spec PyProof.Rows L2
structure Kl (P : Program) (w : World) (K : PySem.W.Frag) (mg : Str → Option Value) (base : Heap) (CX : CXT) (k : Nat) (C : Addr) (name : Str) (ps : List Str) (sp : Sp) : Prop where
  ex : ∃ f fd, FnOk P w K mg base CX k f fd ps sp ∧ Mk K C f ∧ mg name = some (.ref C) ∧ Binds K fd ps []
theorem Kl.mono {P : Program} {w : World} {K : PySem.W.Frag} {mg : Str → Option Value} {base : Heap} {CX : CXT} {j k : Nat} {C : Addr} {name : Str} {ps : List Str} {sp : Sp} (F : Kl P w K mg base CX j C name ps sp) (h : j ≤ k) : Kl P w K mg base CX k C name ps sp := by
  obtain ⟨f, fd, F, m, g, b⟩ := F.ex
  exact ⟨f, fd, F.mono h, m, g, b⟩
def spSetOf (K : PySem.W.Frag) (T T1 T2 T3 : Addr) : Sp := fun vs H Q _ => ∃ (sv dv : V) (s : Sch) (d : Doc), vs = [sv, dv] ∧ Dp K H sv (schD s) ∧ SchOk s ∧ Dp K H dv d.data ∧ d.ok ∧ GxR.TabG H T ∧ GxR.TabG H T1 ∧ GxR.TabG H T2 ∧ GxR.TabG H T3 ∧
  ∀ H' p, Gr [] H H' → H p = none → H' p = some (.tup ((LB.mems (setB s d) s.length).map natV)) → Q (.ref p) H'
def spAllows (K : PySem.W.Frag) (T T1 T2 T3 : Addr) : Sp := fun vs H Q _ => ∃ (sv dv : V) (s : Sch) (d : Doc), vs = [sv, dv] ∧ Dp K H sv (schD s) ∧ SchOk s ∧ Dp K H dv d.data ∧ d.ok ∧ GxR.TabG H T ∧ GxR.TabG H T1 ∧ GxR.TabG H T2 ∧ GxR.TabG H T3 ∧
  ∀ H', Gr [] H H' → Q (.bl ((setB s d).testBit 0)) H'
section
variable {P : Program} {w : World} {K : PySem.W.Frag} {mg : Str → Option Value} {base : Heap} {f : Addr} {fd : FuncData} {C : Addr}
end
end LW
set_option maxHeartbeats 2000000
namespace LW
open PySem PySem.Spec PyProof.Rows L2
def rlI (r : Rl) : List Int := [r.1, r.2.1, r.2.2]
def rlLt (r t : Rl) : Prop := r.1 < t.1 ∨ (r.1 = t.1 ∧ (r.2.1 < t.2.1 ∨ (r.2.1 = t.2.1 ∧ r.2.2 < t.2.2)))
def FRl (K : PySem.W.Frag) (H : Hp) (x : V) (r : Rl) : Prop := Dp K H x (rlD r)
theorem FRl.tup {K : PySem.W.Frag} {H : Hp} {x : V} {r : Rl} (h : FRl K H x r) : TupI K H x (rlI r) := by
  obtain ⟨t, xs, rfl, hs, ha⟩ := Dp.tupI h
  obtain rfl := dpAll_ints3 ha
  exact ⟨t, rfl, hs⟩
end LW
set_option maxHeartbeats 4000000
namespace LW
open PySem PySem.Spec PyProof.Rows L2
def goodR (ls : List Int) (m : Nat) (r : Rl) : Prop := (r.1 : Int) ∈ ls ∧ r.2.1 < m ∧ r.2.2 < m
def goodS (ls : List Int) (m k : Nat) (st : Bool × List Rl) : Prop := (∀ r ∈ st.2, goodR ls m r) ∧ st.2.Pairwise rlLt ∧ st.2.length ≤ k
def spSchemaL (K : PySem.W.Frag) : Sp := fun vs H Q _ => ∃ (bx cl ll : Addr) (ls : List Int) (most rules : Nat), vs = [.ref bx, .ref ll, .int most, .int rules] ∧ BoxAt H bx cl ∧ H ll = some (.lst (ls.map V.int)) ∧ ll ≠ bx ∧ 0 < ls.length ∧ ls.length < 1073741824 ∧ (∀ x ∈ ls, 0 ≤ x ∧ x < 5) ∧ 1 ≤ most ∧ most ≤ 60 ∧ rules ≤ 30 ∧
  ∀ (s : Sch) (v : V) H', SchOk s → s.length ≤ most → (∀ st ∈ s, goodS ls s.length rules st) → Gr [bx] H H' → BoxAt H' bx cl → Dp K H' v (schD s) → Q v H'
section
variable {P : Program} {w : World} {K : PySem.W.Frag} {mg : Str → Option Value} {base : Heap} {f : Addr} {fd : FuncData}
abbrev nSchL : List Str := ["box", "labels", "most", "rules", "many", "states", "q", "found", "k", "rule"]
end
end LW
set_option maxHeartbeats 4000000
namespace LW
open PySem PySem.Spec PyProof.Rows L2
def hitB (a : Nat) (ks rs : List Nat) (r : Rl) : Bool := decide (r.1 = a) && (ks.contains r.2.1 && rs.contains r.2.2)
def behP (s : Sch) (a : Nat) (ks rs : List Nat) (q : Nat) : Bool := (s.getD q (false, [])).2.any (hitB a ks rs)
def behL (s : Sch) (a : Nat) (ks rs : List Nat) : List Nat := (List.range s.length).filter (behP s a ks rs)
def spBehind (K : PySem.W.Frag) : Sp := fun vs H Q _ => ∃ (sv : V) (s : Sch) (a : Nat) (kp rp : Addr) (ks rs : List Nat), vs = [sv, natV a, .ref kp, .ref rp] ∧ Dp K H sv (schD s) ∧ SchOk s ∧ SqT K H kp (ks.map natV) ∧ SqT K H rp (rs.map natV) ∧
  ∀ H' p, Gr [] H H' → H p = none → H' p = some (.tup ((behL s a ks rs).map natV)) → Q (.ref p) H'
def spEmpty (K : PySem.W.Frag) : Sp := fun vs H Q _ => ∃ (sv : V) (s : Sch), vs = [sv] ∧ Dp K H sv (schD s) ∧ SchOk s ∧ ∀ H' p, Gr [] H H' → H p = none → H' p = some (.tup (((List.range s.length).filter (endsP s)).map natV)) → Q (.ref p) H'
section
variable {P : Program} {w : World} {K : PySem.W.Frag} {mg : Str → Option Value} {base : Heap} {f : Addr} {fd : FuncData}
abbrev nBeh : List Str := ["s", "label", "kids", "rest", "out", "q", "a", "x", "y"]
end
end LW
set_option maxHeartbeats 4000000
namespace LW
open PySem PySem.Spec PyProof.Rows L2
theorem mems_contains {b n q : Nat} : (LB.mems b n).contains q = (decide (q < n) && b.testBit q) := by
  unfold LB.mems
  rw [Bool.eq_iff_iff]
  simp
def spSetL (K : PySem.W.Frag) (k : Nat) : Sp := fun vs H Q _ => ∃ (sv dv : V) (s : Sch) (d : Doc), vs = [sv, dv] ∧ Dp K H sv (schD s) ∧ SchOk s ∧ Dp K H dv d.data ∧ d.lab = true ∧ d.dep < k ∧ d.size ≤ 20000 ∧
  ∀ H' p, Gr [] H H' → H' p = some (.tup ((LB.mems (setB s d) s.length).map natV)) → Q (.ref p) H'
section
variable {P : Program} {w : World} {K : PySem.W.Frag} {mg : Str → Option Value} {base : Heap} {f : Addr} {fd : FuncData}
end
end LW
set_option maxHeartbeats 4000000
namespace LW
open PySem PySem.Spec PyProof.Rows L2
def hitD (s : Sch) (a : Nat) (k r : Doc) (x : Rl) : Bool := decide (x.1 = a) && ((setB s k).testBit x.2.1 && (setB s r).testBit x.2.2)
def spAllowsL (K : PySem.W.Frag) (k : Nat) : Sp := fun vs H Q _ => ∃ (sv dv : V) (s : Sch) (q : Nat) (d : Doc), vs = [sv, natV q, dv] ∧ Dp K H sv (schD s) ∧ SchOk s ∧ q < s.length ∧ Dp K H dv d.data ∧ d.lab = true ∧ d.size < k ∧
  ∀ H', Gr [] H H' → Q (.bl ((setB s d).testBit q)) H'
section
variable {P : Program} {w : World} {K : PySem.W.Frag} {mg : Str → Option Value} {base : Heap} {f : Addr} {fd : FuncData}
abbrev nAllL : List Str := ["s", "q", "d", "label", "inside", "after"]
end
end LW
set_option maxHeartbeats 4000000
namespace LW
open PySem PySem.Spec PyProof.Rows L2
def spPickT (K : PySem.W.Frag) : Sp := fun vs H Q _ => ∃ (bx cl mp : Addr) (xs : List V), vs = [.ref bx, .ref mp] ∧ SqT K H mp xs ∧ 0 < xs.length ∧ xs.length < 1073741824 ∧ BoxAt H bx cl ∧ ∀ (t : V) (i : Nat) H', xs[i]? = some t → Gr [bx] H H' → BoxAt H' bx cl → Q t H'
def Grown (K : PySem.W.Frag) (s : Sch) (q left deep : Nat) (H : Hp) (v : V) : Prop := v = .non ∨ ∃ d : Doc, Dp K H v d.data ∧ d.lab = true ∧ d.size + 1 ≤ 2 ^ left ∧ d.dep ≤ deep ∧ (setB s d).testBit q = true
def spByRules (K : PySem.W.Frag) (k : Nat) : Sp := fun vs H Q _ => ∃ (bx cl : Addr) (sv : V) (s : Sch) (q left deep : Nat), vs = [.ref bx, sv, natV q, natV left, natV deep] ∧ BoxAt H bx cl ∧ Dp K H sv (schD s) ∧ SchOk s ∧ q < s.length ∧ left < k ∧ left ≤ 12 ∧ 1 ≤ deep ∧ deep ≤ 20 ∧
  ∀ (v : V) H', Grown K s q left deep H' v → Gr [bx] H H' → BoxAt H' bx cl → Q v H'
section
variable {P : Program} {w : World} {K : PySem.W.Frag} {mg : Str → Option Value} {base : Heap} {f : Addr} {fd : FuncData}
abbrev nByR : List Str := ["box", "s", "q", "left", "deep", "ends", "rules", "label", "inside", "after", "kids", "rest"]
end
end LW
set_option maxHeartbeats 4000000
namespace LW
open PySem PySem.Spec PyProof.Rows L2
def rModN : R2 := fun x y H Q => ∃ a b : Nat, x = .int (a : Int) ∧ y = .int (b : Int) ∧ 0 < b ∧ Q (.int ((a % b : Nat) : Int)) H
def ringSt (p k : Nat) : Bool × List Rl := (decide (k = 0), [(1, 0, (k + 1) % p), (2, (k + 1) % p, 0)])
def ringS (p : Nat) : Sch := (List.range p).map (ringSt p)
def rowD : Nat → Doc
  | 0 => .nil
  | m + 1 => .cons 1 .nil (rowD m)
def towD : Nat → Doc
  | 0 => .nil
  | m + 1 => .cons 2 (towD m) .nil
def modL (p m n : Nat) : List Nat := (List.range n).filter fun q => decide ((q + m) % p = 0)
def natsD (ns : List Nat) : PyData := .tuple (ns.map fun n : Nat => .int (n : Int))
end LW
set_option maxHeartbeats 4000000
namespace LW
open PySem PySem.Spec PyProof.Rows L2
structure Tb4 (H : Hp) (T T1 T2 T3 : Addr) : Prop where
  a : GxR.TabG H T
  b : GxR.TabG H T1
  c : GxR.TabG H T2
  d : GxR.TabG H T3
theorem Tb4.gr {H H' : Hp} {T T1 T2 T3 : Addr} {m : List Addr} (t : Tb4 H T T1 T2 T3) (g : Gr m H H') : Tb4 H' T T1 T2 T3 := ⟨g.tab _ t.a, g.tab _ t.b, g.tab _ t.c, g.tab _ t.d⟩
def spLarge (T T1 T2 T3 : Addr) : Sp := fun vs H Q _ => ∃ (bx cl : Addr), vs = [.ref bx] ∧ BoxAt H bx cl ∧ Tb4 H T T1 T2 T3 ∧ ∀ H', Gr [bx] H H' → BoxAt H' bx cl → Q (.bl true) H'
section
variable {P : Program} {w : World} {K : PySem.W.Frag} {mg : Str → Option Value} {base : Heap} {f : Addr} {fd : FuncData}
abbrev nLarge : List Str := ["box", "many", "deep", "period", "ring", "k", "tower", "row", "q"]
end
end LW
set_option maxHeartbeats 2000000
namespace LW
open PySem PySem.Spec PyProof.Rows L2
mutual
theorem dp_noDict {K : PySem.W.Frag} {H : Hp} : ∀ (d : PyData) (v : V), Dp K H v d → d.hasDict = false
  | .none, _, _ => rfl
  | .bool _, _, _ => rfl
  | .int _, _, _ => rfl
  | .str _, _, _ => rfl
  | .list ds, _, h => by
    cases h with
    | lst hs ha => exact dpAll_noDict ds _ ha
  | .tuple ds, _, h => by
    cases h with
    | tup hs ha => exact dpAll_noDict ds _ ha
  | .dict _, _, h => by cases h
theorem dpAll_noDict {K : PySem.W.Frag} {H : Hp} : ∀ (ds : List PyData) (vs : List V), DpAll K H vs ds → PyData.hasDictAll ds = false
  | [], _, _ => rfl
  | d :: ds, _, h => by
    cases h with
    | cons h1 h2 =>
      show (d.hasDict || PyData.hasDictAll ds) = false
      rw [dp_noDict d _ h1, dpAll_noDict ds _ h2]
      rfl
end
def rRepr (K : PySem.W.Frag) : List V → Hp → VK → Prop := fun xs H Q => ∃ (d : PyData) (v : V), xs = [v] ∧ Dp K H v d ∧ d.showable = true ∧ d.depth ≤ 64 ∧ d.shown.length ≤ sizeLine ∧ (∀ x, d ≠ .str x) ∧ Q (.str d.shown) H
theorem call_reprD {X : Cx} (hg : X.A.guards = some []) (hu : X.A.units + 66 < cLine) : CallR X (.builtin "repr") (rRepr X.K) := by
  intro pins s σ H xs us Q I r h
  obtain ⟨d, v, rfl, hd, hs, hdep, hsz, hns, q⟩ := h
  obtain ⟨u, rfl, ru⟩ := vals1 r
  have nd := dp_noDict d v hd
  obtain ⟨as, rd⟩ := Dp.reads I d v u hd ru
  have deep : ∀ a : Addr, u = .ref a → wpAny (model X.prog X.w) X.A (call (.builtin "repr") [u]) (EP X pins σ Q) X.xe s := fun a e => by
    subst e
    refine repr_of_reads' rd hs (fun z => by rw [nd] at z; cases z) hg (by omega) (fun b o e => e) (fun h' t tk hk => ?_) hsz
    exact ⟨.str d.shown, H, I.kept (t' := tk) hk, ⟨_, rfl⟩, q⟩
  cases hd with
  | non =>
    obtain rfl : u = .none := ru
    exact PySem.P.repr_of_none ⟨.str _, H, I.tok _, ⟨_, rfl⟩, q⟩
  | bl b =>
    obtain rfl : u = .bool b := ru
    exact PySem.P.repr_of_bool ⟨.str _, H, I.tok _, ⟨_, rfl⟩, q⟩
  | int i =>
    obtain ⟨t, rfl⟩ := ru
    exact PySem.P.repr_of_int (of_decide_eq_true hs) ⟨.str _, H, I.tok _, ⟨_, rfl⟩, q⟩
  | str x => exact absurd rfl (hns x)
  | lst h1 h2 => exact deep _ ru
  | tup h1 h2 => exact deep _ ru
end LW
set_option maxHeartbeats 2000000
namespace LW
open PySem PySem.Spec PyProof.Rows L2
structure FnAt (P : Program) (w : World) (K : PySem.W.Frag) (mg : Str → Option Value) (base : Heap) (CX : CXT) (A : Around) (f : Addr) (fd : FuncData) (ps : List Str) (sp : Sp) : Prop where
  run : ∀ (out : List Env) (s : Shared) (H : Hp) (args : Args) (us : List Value) (vs : List V) (Q : VK) (E : XK), Env0 P w K mg base A out s H → BindsTo s fd args (ps.zip us) → Vals vs us → sp vs H Q E → codeAny (model P w) A (.call (.ref f) args) (CR CX out P w H s Q E) s
theorem fn_at {CX : CXT} {P : Program} {w : World} {K : PySem.W.Frag} {mg : Str → Option Value} {base : Heap} {k : Nat} {f : Addr} {nm ql : Str} {pms : Arguments} {bd : List Stmt} {sc : Scope} {dV kV doc pm cdv ct oc : Value} {an od : Option Addr} {osl : Array (Option Value)} {N ps : List Str} {sp : Sp} {A : Around} (hr : Room (k + 1) A)
    (lk : K.lookup f = some ⟨oc, od, .func (PySem.W.fnOf nm ql pms bd sc dV kV doc pm an cdv ct), osl⟩) (hc : PySem.W.codeIn K cdv ql = true) (S : FnScope N ps sc) (len : ∀ vs H Q E, sp vs H Q E → vs.length = ps.length)
    (hb : ∀ (out : List Env) (s : Shared) (H : Hp) (vs : List V) (Q : VK) (E : XK), sp vs H Q E → ∃ t, PSs (cxOf CX P w K mg base N ql sc f cdv A out s H E) bd t ∧ t { nx := fun _ H' => Q .non H', rt := Q } (start N vs) H) :
    FnAt P w K mg base CX A f (PySem.W.fnOf nm ql pms bd sc dV kV doc pm an cdv ct) ps sp := by
  refine ⟨fun out s H args us vs Q E e0 bt r hsp => ?_⟩
  have ln := len _ _ _ _ hsp
  have kX : K.In s.heap := e0.mod.kin.keeps fun b o e => (e0.bs b o e).1
  have noL : s.heap.NoLimit := e0.mod.nolimit.keeps fun b o e => (e0.bs b o e).1
  have kinds : ∀ y ∈ ps.zip us, sc.names.lookup y.1 = some .local ∨ (sc.names.lookup y.1 = some .cell ∧ ((cellsFrom (s.heap.objs.size + 1) sc.names []).lookup y.1).isSome = true) := fun ⟨n, v⟩ hy =>
    (S.par n (List.of_mem_zip hy).1).elim .inl fun z => .inr ⟨z, PySem.W.cellsFrom_some _ _ _ (.inl z)⟩
  refine codeAny_call_function hr.depth (kX _ _ lk) rfl S.co S.gen rfl (PySem.W.codeRec_of kX hc) (bt _ _ _ _ ?_)
  refine wpAny_newFunctionEnv_cells S.kind kinds fun env henv s1 y => ?_
  subst henv
  refine ⟨noL.keeps y.toInCall.keep, codeAny_func ?_⟩
  obtain ⟨t, pt, qt⟩ := hb out s H vs Q E hsp
  have inv0 : Inv (cxOf CX P w K mg base N ql sc f cdv A out s H E) [] (start N vs) H s1 := inv_start S hr.hd e0 ln r y
  refine wpAny_mono (pt.run [] s1 (start N vs) H _ inv0 qt) (fun fl s2 hs => ?_) fun e s2 hs => hs
  have done : ∀ {σ2 : L2.St} {H2 : Hp} {v : V} {u : Value}, Inv (cxOf CX P w K mg base N ql sc f cdv A out s H E) [] σ2 H2 s2 → RelV v u → Q v H2 → CE out P w H s Q u s2 := fun {σ2 H2 v u} J rv q => ⟨v, H2, J.os, J.bare, J.base, J.hok, rv, q⟩
  cases fl with
  | ret u => obtain ⟨v, σ2, H2, J, rv, q⟩ := hs; exact done J rv q
  | next => obtain ⟨σ2, H2, J, q⟩ := hs; exact done (v := V.non) (u := Value.none) J rfl q
  | brk => obtain ⟨_, _, _, q⟩ := hs; exact q.elim
  | cont => obtain ⟨_, _, _, q⟩ := hs; exact q.elim
theorem okAt {P : Program} {w : World} {K : PySem.W.Frag} {mg : Str → Option Value} {base : Heap} {x ql : Str} {st : Stmt} {f : Addr} {fd : FuncData} {N ps : List Str} {k : Nat} {sp : Sp} {A : Around} (hr : Room (k + 1) A) (F : Fun K x ql st f fd) (S : FnScope N ps (defScope st)) (len : ∀ vs H Q E, sp vs H Q E → vs.length = ps.length)
    (hb : ∀ (cdv : Value) (out : List Env) (s : Shared) (H : Hp) (vs : List V) (Q : VK) (E : XK), sp vs H Q E → ∃ t, PSs (cxOf CX0 P w K mg base N ql (defScope st) f cdv A out s H E).nox (defBody st) t ∧ t { nx := fun _ H' => Q .non H', rt := Q } (start N vs) H) :
    FnAt P w K mg base CX0 A f fd ps sp := by
  obtain ⟨oc, od, kV, doc, pm, an, cdv, ct, osl, rfl, lk, hcd⟩ := F.ex
  refine fn_at hr lk hcd S len fun out s H vs Q E hsp => ?_
  obtain ⟨t, h, q⟩ := hb cdv out s H vs Q E hsp
  exact ⟨t, h.nox, q⟩
end LW
set_option maxHeartbeats 2000000
namespace LW
open PySem PySem.Spec PyProof.Rows L2
abbrev scriptO (vs : List Value) : Obj := { cls := .type "list", data := .seq vs.toArray }
def seenH (K : PySem.W.Frag) (Ts : List Addr) (a : Addr) (vs : List Value) (ns : List Int) : Hp := fun b => if b ∈ Ts then some (.tbl #[]) else if b = a ∧ K.lookup a = none then some (.frz (scriptO vs) (.lst (ns.map V.int))) else none
theorem law_caller {P : Program} {w : World} {K : PySem.W.Frag} {mg mb : Str → Option Value} {fa a : Addr} {cs : List (Addr × Addr)} {fd : FuncData} {x : Str} {sp : Sp} {s : Shared} {vs : List Value} {ns : List Int}
    (KX : K.In s.heap) (nG : s.heap.Ns mainGlobals mg) (nB : s.heap.Ns builtinsNs mb) (bb : ∀ x : Str, x ≠ "__name__" → mb x = bootBuiltins x) (lim : s.heap.NoLimit) (gens : s.gens = #[])
    (tabs : ∀ p ∈ cs, s.heap.get? p.2 = some { cls := .none, data := .fields #[] }) (outK : ∀ p ∈ cs, K.lookup p.2 = none) (codes : ∀ p ∈ cs, PySem.W.CodeHd s.heap p.1 p.2)
    (bmod : ∃ (bm : Addr) (ob : Obj), mg "__builtins__" = some (.ref bm) ∧ bm ≠ builtinsNs ∧ s.heap.get? bm = some ob ∧ ob.cls = .type "module" ∧ ob.dict = some builtinsNs ∧ ob.data = .plain)
    (hs : s.heap.get? a = some (scriptO vs)) (isI : IntsAre vs ns) (few : ns.length ≤ sizeLine)
    (F : ∀ base : Heap, K.In base → base.Ns mainGlobals mg → (∀ p ∈ cs, LamX.TabB base mg p.1 p.2) → FnAt P w K mg base CX0 callerA fa fd [x] sp) (bind : ∀ (s : Shared) (u : Value), BindsTo s fd ⟨[u], []⟩ [(x, u)])
    (good : ∀ H : Hp, (∀ p ∈ cs, H p.2 = some (.tbl #[])) → SqL K H a (ns.map V.int) → sp [.ref a] H (fun v _ => v = .bl true) fun _ _ _ => False) :
    codeAny (model P w) callerA (.call (.ref fa) ⟨[.ref a], []⟩) (fun r s' => r = .ok (.ret (.bool true)) ∧ OldK s.heap s'.heap ∧ s'.os = s.os ∧ AllBare s'.gens) s := by
  have rel := vals_ints isI
  have lenV := isI.length
  generalize hTs : cs.map (·.2) = Ts
  have inT : ∀ p ∈ cs, p.2 ∈ Ts := fun p hp => by rw [← hTs]; exact List.mem_map.mpr ⟨p, hp, rfl⟩
  have ofT : ∀ b ∈ Ts, ∃ p ∈ cs, p.2 = b := fun b hb => by rw [← hTs] at hb; obtain ⟨p, hp, e⟩ := List.mem_map.mp hb; exact ⟨p, hp, e⟩
  have objT : ∀ b ∈ Ts, s.heap.get? b = some { cls := .none, data := .fields #[] } := fun b hb => by
    obtain ⟨p, hp, rfl⟩ := ofT b hb
    exact tabs p hp
  have aT : a ∉ Ts := fun z => by
    have e := (objT a z).symm.trans hs
    have e2 := congrArg (fun o => (Option.map Obj.cls o)) e
    cases e2
  let H : Hp := seenH K Ts a vs ns
  have Hin : ∀ b, b ∈ Ts → H b = some (.tbl #[]) := fun b hb => if_pos hb
  have Hcase : ∀ b u, H b = some u → (b ∈ Ts ∧ u = .tbl #[]) ∨ (b = a ∧ K.lookup a = none ∧ u = .frz (scriptO vs) (.lst (ns.map V.int))) := fun b u e => by
    by_cases h1 : b ∈ Ts
    · rw [Hin b h1] at e
      cases e
      exact .inl ⟨h1, rfl⟩
    · have e' : (if b = a ∧ K.lookup a = none then some (HO.frz (scriptO vs) (.lst (ns.map V.int))) else none) = some u := (if_neg h1).symm.trans e
      by_cases h2 : b = a ∧ K.lookup a = none
      · rw [if_pos h2] at e'
        cases e'
        exact .inr ⟨h2.1, h2.2, rfl⟩
      · rw [if_neg h2] at e'
        cases e'
  have seq : SqL K H a (ns.map V.int) := by
    cases hk : K.lookup a with
    | none =>
      refine .inl (.inr ⟨scriptO vs, ?_⟩)
      exact (if_neg aT).trans (if_pos ⟨rfl, hk⟩)
    | some o =>
      have e := KX a o hk
      rw [hs] at e
      cases e
      exact .inr ⟨_, vs.toArray, _, hk, rfl, rfl, rfl, by rw [List.size_toArray, lenV]; exact few, by simpa using rel⟩
  have okH : HOk P w H s.heap := fun b u e => by
    rcases Hcase b u e with ⟨h1, rfl⟩ | ⟨rfl, _, rfl⟩
    · exact objT b h1
    · exact ⟨hs, by rw [List.length_map]; exact few, vs, _, rel, hs⟩
  have free : ∀ {b : Addr} {o : Obj}, s.heap.get? b = some o → (∀ us n, o.data ≠ .seq us n) → o.data ≠ .fields #[] → H b = none := fun {b o} e n1 n2 => by
    cases q : H b with
    | none => rfl
    | some u =>
      rcases Hcase b u q with ⟨h1, _⟩ | ⟨rfl, _, _⟩
      · rw [objT b h1] at e; cases e; exact absurd rfl n2
      · rw [hs] at e; cases e; exact absurd rfl (n1 _ _)
  have freeD : ∀ {b : Addr} {o : Obj} {es : Array DictEntry} {k : Nat}, s.heap.get? b = some o → o.data = .dict es k → H b = none := fun {b o es k} e d => free e (fun us n z => by rw [d] at z; cases z) fun z => by rw [d] at z; cases z
  have toB : ∀ {b : Addr} {o : Obj}, s.heap.get? b = some o → H b = none → (hidT s.heap H).get? b = some o := fun e n => hidT_get e n
  have nsB : ∀ {b : Addr} {m : Str → Option Value}, s.heap.Ns b m → (hidT s.heap H).Ns b m := fun {b m} ⟨o, es, k, e, d, r⟩ => ⟨o, es, k, toB e (freeD e d), d, r⟩
  have inB : K.In (hidT s.heap H) := fun b o e => toB (KX b o e) (by
    cases q : H b with
    | none => rfl
    | some u =>
      rcases Hcase b u q with ⟨h1, _⟩ | ⟨rfl, h2, _⟩
      · obtain ⟨p, hp, rfl⟩ := ofT b h1
        rw [outK p hp] at e; cases e
      · rw [h2] at e; cases e)
  have modB : L2.Mod K mg (hidT s.heap H) := ⟨inB, nsB nG, ⟨mb, nsB nB, bb⟩, let ⟨mc, h1, h2⟩ := lim; ⟨mc, nsB h1, h2⟩⟩
  have tabB : ∀ p ∈ cs, LamX.TabB (hidT s.heap H) mg p.1 p.2 := fun p hp => by
    refine ⟨?_, ?_, fun z => ?_⟩
    · obtain ⟨o, us, c1, c2, c3, c4, c5, c6, c7, e, d1, d2, rest⟩ := codes p hp
      refine ⟨o, us, c1, c2, c3, c4, c5, c6, c7, toB e (free e (fun us' n z => by rw [d2] at z; cases z) fun z => ?_), d1, d2, rest⟩
      rw [d2] at z
      cases z
      have := rest.1
      simp at this
    · obtain ⟨bm, ob, b1, b2, b3, b4, b5, b6⟩ := bmod
      refine ⟨bm, ob, b1, b2, fun z => ?_, fun z => ?_, toB b3 (free b3 (fun us n z => by rw [b6] at z; cases z) fun z => by rw [b6] at z; cases z), b4, b5, b6⟩
      · obtain ⟨o, es, k, e, d, _⟩ := nG
        rw [z, e] at b3; cases b3
        rw [d] at b6; cases b6
      · rw [z, tabs p hp] at b3; cases b3
        cases b6
    · obtain ⟨o, es, k, e, d, _⟩ := nG
      rw [z, tabs p hp] at e; cases e
      cases d
  have e0 : Env0 P w K mg (hidT s.heap H) callerA [] s H := ⟨rfl, modB, fun b o e => of_hidT e, Nat.le_of_eq (hidT_size _ _), trivial, fun b hb => absurd (show b ∈ ([] : List Addr) from hb) (by simp), okH, .of_eq gens⟩
  have run := (F _ inB (nsB nG) tabB).run [] s H ⟨[.ref a], []⟩ [.ref a] [.ref a] _ _ e0 (bind s (.ref a)) (.cons rfl .nil) (good H (fun p hp => Hin _ (inT p hp)) seq)
  refine codeAny_mono run fun r s2 h => ?_
  cases r with
  | error e => exact False.elim h
  | ok fl =>
    cases fl with
    | next => exact False.elim h
    | brk => exact False.elim h
    | cont => exact False.elim h
    | ret u =>
      obtain ⟨v, H2, eos, bare, un, ok2, ru, qv⟩ := h
      obtain rfl : v = .bl true := qv
      obtain rfl : u = Value.bool true := ru
      have kept : ∀ b o, b ∉ Ts → s.heap.get? b = some o → s2.heap.get? b = some o := fun b o nb e => by
        cases q : H b with
        | none => exact un.keep b o e q (fun z => by cases z) (by simp)
        | some u =>
          rcases Hcase b u q with ⟨h1, _⟩ | ⟨rfl, _, rfl⟩
          · exact absurd h1 nb
          · obtain ⟨e1, _⟩ := okH b _ q
            obtain ⟨e2, _⟩ := ok2 b _ (un.frzs b _ _ q)
            rw [e] at e1; cases e1
            exact e2
      have grew : ∀ b ∈ Ts, ∃ more : Array Value, s2.heap.get? b = some { cls := .none, data := .fields more } := fun b hb => by
        obtain ⟨more, z⟩ := un.tbls b #[] (Hin b hb)
        exact ⟨_, ok2 b _ z⟩
      refine ⟨rfl, ⟨fun b o e => ?_, fun b o e => ?_⟩, eos, bare⟩
      · by_cases hb : b ∈ Ts
        · obtain ⟨more, hm⟩ := grew b hb
          obtain ⟨p, hp, rfl⟩ := ofT b hb
          rw [tabs p hp] at e
          cases e
          exact .inr (.inl ⟨((codes p hp).tab (tabs p hp)).isCodeTable, rfl, #[], more, rfl, by rw [Array.empty_append]; exact hm⟩)
        · exact .inl (kept b o hb e)
      · by_cases hb : b ∈ Ts
        · obtain ⟨more, hm⟩ := grew b hb
          exact ⟨_, hm⟩
        · exact ⟨o, kept b o hb e⟩
def LawHere (l : PySem.W.OpenLaw) (w : World) (K : PySem.W.Frag) (n : Nat) (x : Str) (mg : Str → Option Value) (fa : Addr) (h : Heap) : Prop :=
  ∃ (fd : FuncData) (cs : List (Addr × Addr)) (sp : Sp), (∀ p ∈ cs, h.get? p.2 = some { cls := .none, data := .fields #[] }) ∧ (∀ p ∈ cs, K.lookup p.2 = none) ∧ (∀ p ∈ cs, PySem.W.CodeHd h p.1 p.2) ∧ (∀ (s : Shared) (u : Value), BindsTo s fd ⟨[u], []⟩ [(x, u)]) ∧
    (∀ (H : Hp) (a : Addr) (ns : List Int), ns.length ≤ n → (∀ p ∈ cs, H p.2 = some (.tbl #[])) → SqL K H a (ns.map V.int) → sp [.ref a] H (fun v _ => v = .bl true) fun _ _ _ => False) ∧
    ∀ base : Heap, K.In base → base.Ns mainGlobals mg → (∀ p ∈ cs, LamX.TabB base mg p.1 p.2) → FnAt l.prog w K mg base CX0 callerA fa fd [x] sp
theorem walk_here {l : PySem.W.OpenLaw} {n : Nat} {q : Program} {loose : List Str} {XP : (Str → Option Value) → Heap → Prop} {YP : World → Heap → Prop} {d : DefRec} {K : Params → PySem.W.Frag} {x : Str} (hn : l.most = some n) (hn2 : n ≤ sizeLine) (nodef : d.params.defaults = []) (hY : ∀ (w : World) (h : Heap), YP w h → (K w.params).In h)
    (F : ∀ (w : World) (lo : List Str) (mean : ExcName → Option Value) (mg mb : Str → Option Value) (fa : Addr) (h : Heap), YP w h → (K w.params).In h → PyProof.Rows.Top q lo mean mg mb h → mg d.name = some (.ref fa) → LawHere l w (K w.params) n x mg fa h) :
    PySem.W.WalkO q loose XP YP l.row.toRowW d [] (fun f vs => PySem.call f vs) := by
  refine Att.attach_callB hn nodef fun w s₀ s mg mb fa o pm cd doc a vs ns G Y _ _ _ named script isI few _ gens => ?_
  have KX := hY w _ Y
  obtain ⟨fd, cs, sp, h1, h2, h3, h4, h5, h6⟩ := F w _ _ mg mb fa _ Y KX G.T named
  exact law_caller KX G.T.g G.T.b G.T.builtins G.T.nolimit gens h1 h2 h3 G.T.bmain script isI (Nat.le_trans few hn2) h6 h4 fun H hH hS => h5 H a ns few hH hS
end LW
set_option maxHeartbeats 4000000
namespace LW
open PySem PySem.Spec PyProof.Rows L2
theorem short_nat {n : Nat} (h : n < 1000) : (PyData.int (n : Int)).leavesShort 8 = true := by
  show decide ((PyData.shown (.int (n : Int))).length ≤ 8) = true
  refine decide_eq_true ?_
  rw [PyData.shown_int]
  exact Nat.le_trans (toString_length_le (k := 3) (by omega) (by decide) (by omega)) (by decide)
theorem b_repr : bootBuiltins "repr" = some (.builtin "repr") := by decide +kernel
def spLaw6 (K : PySem.W.Frag) (T T1 T2 T3 : Addr) : Sp := fun vs H Q _ => ∃ (a : Addr) (ns : List Int), vs = [.ref a] ∧ SqL K H a (ns.map V.int) ∧ ns.length ≤ 63 ∧ Tb4 H T T1 T2 T3 ∧ ∀ H', Q (.bl true) H'
section
variable {P : Program} {w : World} {K : PySem.W.Frag} {mg : Str → Option Value} {base : Heap} {f : Addr} {fd : FuncData}
abbrev nLaw6 : List Str := ["script", "box", "labels", "s", "d", "due", "told", "small", "q", "grown"]
end
end LW
set_option maxHeartbeats 4000000
namespace LW
open PySem PySem.Spec PyProof.Rows L2
section
variable {P : Program} {w : World} {K : PySem.W.Frag} {mg : Str → Option Value} {base : Heap} {f : Addr} {fd : FuncData}
theorem sc_is_below : FnScope ["worth", "limit"] ["worth", "limit"] (defScope s_is_below) := ⟨rfl, rfl, rfl, by decide +kernel, rfl, by decide +kernel, by decide +kernel⟩
theorem ok_is_below {k : Nat} (F : Fun K "is_below" "is_below" s_is_below f fd) (mi : mg "isinstance" = none) (mt : mg "int" = none) (mb : mg "bool" = none) : FnOk P w K mg base CX0 (k + 1) f fd ["worth", "limit"] (spBelow K) := by
  refine F.ok sc_is_below (fun vs H Q E h => ?_) (fun cdv A outer s H vs Q E hr h => ?_)
  · obtain ⟨d, n, v, rfl, _⟩ := h; rfl
  obtain ⟨d, n, v, rfl, hd, q⟩ := h
  refine ⟨_, pss_one (ps_ret (pe_and (pe_callB call_isi (by rfl) mi b_isinstance (pa_cons (pv 0) (pa_cons (pe_bltn (v := .ty "int") (by rfl) mt b_int rfl) pa_nil)))
    (pe_and (pe_not (pe_callB call_isi (by rfl) mi b_isinstance (pa_cons (pv 0) (pa_cons (pe_bltn (v := .ty "bool") (by rfl) mb b_bool rfl) pa_nil))))
    (pe_one (pe_chain op_le op_lt pe_int (pv 0) (pv 1)))))), ?_⟩
  refine ⟨_, rfl, _, _, _, _, _, rfl, .ty "int", hd.ty, kit_int d, _, rfl, ?_⟩
  cases d with
  | int i =>
    cases hd
    refine iteT ⟨_, rfl, _, _, _, _, _, rfl, .ty "bool", L2.Dp.ty (.int i), kit_bool (.int i), _, rfl, _, rfl, iteT ?_⟩
    refine ⟨_, rfl, _, _, rfl, rfl, _, rfl, ?_⟩
    by_cases h0 : (0 : Int) ≤ i
    · rw [decide_eq_true h0]
      refine iteT ⟨_, rfl, _, _, rfl, rfl, ?_⟩
      have e : belowD (.int i) n = decide (i < n) := by show (decide (0 ≤ i) && decide (i < n)) = _; rw [decide_eq_true h0]; rfl
      rw [e] at q
      exact q
    · rw [decide_eq_false h0]
      refine iteF ?_
      have e : belowD (.int i) n = false := by show (decide (0 ≤ i) && decide (i < n)) = _; rw [decide_eq_false h0]; rfl
      rw [e] at q
      exact q
  | bool b =>
    cases hd
    exact iteT ⟨_, rfl, _, _, _, _, _, rfl, .ty "bool", L2.Dp.ty (.bl b), kit_bool (.bool b), _, rfl, _, rfl, iteF q⟩
  | none => exact iteF q
  | str x => exact iteF q
  | list xs => exact iteF q
  | tuple xs => exact iteF q
  | dict xs => exact iteF q
end
end LW
set_option maxHeartbeats 4000000
namespace LW
open PySem PySem.Spec PyProof.Rows L2
section
variable {P : Program} {w : World} {K : PySem.W.Frag} {mg : Str → Option Value} {base : Heap} {f : Addr} {fd : FuncData}
theorem sc_is_tuple_of : FnScope ["worth", "many"] ["worth", "many"] (defScope s_is_tuple_of) := ⟨rfl, rfl, rfl, by decide +kernel, rfl, by decide +kernel, by decide +kernel⟩
theorem ok_is_tuple_of {k : Nat} (F : Fun K "is_tuple_of" "is_tuple_of" s_is_tuple_of f fd) (mi : mg "isinstance" = none) (mt : mg "tuple" = none) (ml : mg "len" = none) : FnOk P w K mg base CX0 (k + 1) f fd ["worth", "many"] (spTupOf K) := by
  refine F.ok sc_is_tuple_of (fun vs H Q E h => ?_) (fun cdv A outer s H vs Q E hr h => ?_)
  · obtain ⟨d, n, v, rfl, _⟩ := h; rfl
  obtain ⟨d, n, v, rfl, hd, q⟩ := h
  refine ⟨_, pss_one (ps_ret (pe_and (pe_callB call_isi (by rfl) mi b_isinstance (pa_cons (pv 0) (pa_cons (pe_bltn (v := .ty "tuple") (by rfl) mt b_tuple rfl) pa_nil)))
    (pe_one (pe_cmpR op_eq (pe_callB call_len_seq (by rfl) ml PySem.boot_len (pa_cons (pv 0) pa_nil)) (pv 1) (nomark _))))), ?_⟩
  refine ⟨_, rfl, _, _, _, _, _, rfl, .ty "tuple", hd.ty, kit_tup d, _, rfl, ?_⟩
  cases d with
  | tuple ds =>
    obtain ⟨a, xs, rfl, hs, ha⟩ := hd.tupI
    refine iteT ⟨_, rfl, a, xs, rfl, .inr hs, _, rfl, rfl, ?_⟩
    have e : decide (V.int ((xs.length : Nat) : Int) = V.int n) = tupOfD (.tuple ds) n := by
      show _ = decide ((ds.length : Int) = n)
      rw [ha.length]
      by_cases h : (ds.length : Int) = n
      · rw [h, decide_eq_true rfl, decide_eq_true rfl]
      · rw [decide_eq_false h, decide_eq_false fun z => h (V.int.inj z)]
    rw [e]
    exact q
  | none => exact iteF q
  | bool b => exact iteF q
  | int i => exact iteF q
  | str x => exact iteF q
  | list xs => exact iteF q
  | dict xs => exact iteF q
end
end LW
set_option maxHeartbeats 4000000
namespace LW
open PySem PySem.Spec PyProof.Rows L2
section
variable {P : Program} {w : World} {K : PySem.W.Frag} {mg : Str → Option Value} {base : Heap} {f : Addr} {fd : FuncData}
theorem sc_is_tree : FnScope ["tree"] ["tree"] (defScope s_is_tree) := ⟨rfl, rfl, rfl, by decide +kernel, rfl, by decide +kernel, by decide +kernel⟩
theorem ok_is_tree {tL : Tok} (F : Fun K "is_tree" "is_tree" s_is_tree f fd) (f1 : Fn P w K mg base CX0 1 "is_tuple_of" ["worth", "many"] (spTupOf K)) (f2 : Fn P w K mg base CX0 1 "is_below" ["worth", "limit"] (spBelow K)) (mL : mg "LABELS" = some (.int 5 tL)) :
    FnOk P w K mg base CX0 2 f fd ["tree"] (spTree K) := by
  refine F.ok sc_is_tree (fun vs H Q E h => ?_) (fun cdv A outer s H vs Q E hr h => ?_)
  · obtain ⟨d, v, rfl, _⟩ := h; rfl
  obtain ⟨d, v, rfl, hd, q⟩ := h
  refine ⟨_, pss_one (ps_ret (pe_and (pe_fn f1 hr rfl pass0 (pa_cons (pv 0) (pa_cons pe_int pa_nil)))
    (pe_one (pe_fn f2 hr rfl pass0 (pa_cons (pe_ix ix_tup (pv 0) pe_int (fun _ _ => rfl)) (pa_cons (pe_gint mL rfl) pa_nil)))))), ?_⟩
  refine ⟨_, rfl, d, 2, v, rfl, hd, _, rfl, ?_⟩
  by_cases h2 : tupOfD d 2 = true
  · rw [h2]
    cases d with
    | tuple ds =>
      have e : (ds.length : Int) = 2 := of_decide_eq_true h2
      match ds, e with
      | [x, k], _ =>
        obtain ⟨a, xs, rfl, hs, ha⟩ := hd.tupI
        cases ha with
        | cons hx ha =>
          refine iteT ⟨_, rfl, a, _, 0, _, rfl, rfl, hs, atI_nat (j := 0) rfl, x, 5, _, rfl, hx, ?_⟩
          exact q
    | _ => cases h2
  · have e : tupOfD d 2 = false := by simpa using h2
    rw [e]
    refine iteF ?_
    have e2 : treeD d = false := by
      unfold treeD
      split
      · rename_i x k
        exact absurd (show tupOfD (.tuple [x, k]) 2 = true from (by simp [tupOfD])) h2
      · rfl
    rw [e2] at q
    exact q
end
end LW
set_option maxHeartbeats 4000000
namespace LW
open PySem PySem.Spec PyProof.Rows L2
section
variable {P : Program} {w : World} {K : PySem.W.Frag} {mg : Str → Option Value} {base : Heap} {f : Addr} {fd : FuncData}
theorem sc_is_document : FnScope nIsDoc ["d"] (defScope s_is_document) := ⟨rfl, rfl, rfl, by decide +kernel, rfl, by decide +kernel, by decide +kernel⟩
theorem ok_is_document {t1 t2 : Tok} {c T : Addr} (F : Fun K "is_document" "is_document" s_is_document f fd) (hc : fd.code = .ref c) (TB : GxR.TabB base mg c T) (ft : Fn P w K mg base CX0 2 "is_tree" ["tree"] (spTree K))
    (mi : mg "isinstance" = none) (mt : mg "tuple" = none) (ml : mg "len" = none) (ma : mg "all" = none) (mN : mg "MOST_NESTED" = some (.int 30 t1)) (mM : mg "MOST_TREES" = some (.int 300 t2)) :
    FnOk P w K mg base CX0 6 f fd ["d"] (spIsDoc K T) := by
  refine okC F hc sc_is_document (fun vs H Q E h => ?_) (fun A outer s H vs Q E hr h => ?_)
  · obtain ⟨d, v, rfl, _⟩ := h; rfl
  obtain ⟨d, v, rfl, hd, hT, q⟩ := h
  have nd := sc_is_document.nd
  refine ⟨_, pss_cons (ps_set (i := 1) nd rfl (.inl rfl) pe_int)
    (pss_cons (ps_set (i := 2) nd rfl (.inl rfl) (pe_lst (pa_cons (pe_tup (pa_cons (pv 0) (pa_cons pe_int pa_nil))) pa_nil)))
    (pss_cons (ps_while PassesOwn.never (pt_truth (pv 2) (by intro _; rfl))
      (pss_cons (ps_asg (pe_bm0 PySem.F.plainAttrs_list PySem.F.slot_list_pop PySem.F.type_list_pop mt_pop (pv 2)) (pg_tup rfl (pgs_cons (pg_name (i := 3) nd rfl (.inl rfl)) (pgs_cons (pg_name (i := 4) nd rfl (.inr rfl)) pgs_nil))))
      (pss_cons (ps_if (PW.pt (pw_or (pt_not (pt_val (pe_callB call_isi (by rfl) mi b_isinstance (pa_cons (pv 3) (pa_cons (pe_bltn (v := .ty "tuple") (by rfl) mt b_tuple rfl) pa_nil)))))
          (pw_or1 (PW.pt (pw_and (pt_truth (pv 3) (by intro _; rfl)) (pw_and1 (pt_cmpR op_gt (pv 4) (pe_gint mN rfl) (nomark _))))))))
        (pss_one (ps_ret pe_bl)) pss_nil)
      (pss_cons (ps_aug (i := 1) nd rfl (.inl rfl) (pe_callB call_len_seq (by rfl) ml PySem.boot_len (pa_cons (pv 3) pa_nil)) ip_add)
      (pss_cons (ps_if (PW.pt (pw_or (pt_cmpR op_gt (pv 1) (pe_gint mM rfl) (nomark _))
          (pw_or1 (pt_not (pt_val (pe_allG (own := [("tree", 5)]) (gT := gName 5) (k := 2) hr rfl ma b_all TB rfl (gsc_by (N := nIsDoc) (sc := defScope s_is_document) (by decide +kernel) (by decide +kernel)) nd (pi_tup (pv 3)) (fun A s H C cl code fp pn => pg_name (i := 5) nd rfl (.inl rfl))
            (fun A s H C cl code fp pn hrA => pe_fn ft hrA rfl pass0 (pa_cons (pv 5) pa_nil))))))))
        (pss_one (ps_ret pe_bl)) pss_nil)
      (pss_one (ps_expr (pe_bm PySem.F.plainAttrs_list PySem.F.slot_list_extend PySem.F.type_list_extend mt_extend (pv 2)
        (pa_cons (pe_lc (own := [("_", 6), ("kids", 7)]) (g := gTup K 2 (gCons (gName 6) (gCons (gName 7) gNil))) (tt := tYes) rfl nd (pi_tup (pv 3)) (blkOk_by (N := nIsDoc) (sc := defScope s_is_document) (own := [("_", 6), ("kids", 7)]) (by decide +kernel))
          (fun s H C cl fp => pg_tup rfl (pgs_cons (pg_name (i := 6) nd rfl (.inl rfl)) (pgs_cons (pg_name (i := 7) nd rfl (.inl rfl)) pgs_nil))) (fun s H C cl fp => pts_nil)
          (fun s H C cl fp => pe_tup (pa_cons (pv 7) (pa_cons (pe_op op_add (pv 4) pe_int) pa_nil)))) pa_nil)))))))))
    (pss_one (ps_ret pe_bl)))), ?_⟩
  refine ⟨_, rfl, len2, fun t0 n0 => ⟨(by decide : (1 : Nat) ≤ sizeLine), fun wl nw => ?_⟩⟩
  have hw0 : H wl = none := upd_none' nw
  have gs : Gr [] H (upd (upd H t0 (.tup [v, .int 1])) wl (.lst [.ref t0])) := (Gr.new n0).put0 hw0
  refine ⟨fun m σ H1 => ∃ (many : Nat) (ws : List (PyData × Nat)) (xs : List V) (y3 y4 y5 y6 y7 : Option V), m = pNode ws ∧ σ = [some v, some (.int many), some (.ref wl), y3, y4, y5, y6, y7] ∧ H1 wl = some (.lst xs) ∧
    Paired (Wt K H H1) xs ws ∧ Gr [] H H1 ∧ many ≤ 300 ∧ ws.length ≤ many + 1 ∧ goalD ws many = docD d, ⟨_, 0, [(d, 1)], [.ref t0], none, none, none, none, none, rfl, rfl, upd_same, .cons ⟨t0, v, rfl, ?_, hd⟩ .nil, gs, by omega, by simp, goal_start d⟩, ?_⟩
  · have ne : t0 ≠ wl := fun z => by rw [← z, upd_same] at nw; cases nw
    rw [upd_ne ne, upd_same]
    rfl
  rintro m σ H1 ⟨many, ws, xs, y3, y4, y5, y6, y7, rfl, rfl, hwl, hp, g1, hm, hl, hgoal⟩
  refine ⟨_, rfl, _, .inl ⟨xs, SqL.of hwl, rfl⟩, ?_⟩
  rcases ws.eq_nil_or_concat with rfl | ⟨ws, ⟨d0, n⟩, rfl⟩
  · cases hp
    refine iteF ?_
    have e : docD d = true := by rw [← hgoal]; simp [goalD, pForm, pSz, hm]
    rw [e] at q
    exact q H1 g1
  rw [List.concat_eq_append] at hp hl hgoal ⊢
  obtain ⟨xs, x, rfl, hp0, tp, v0, rfl, htp, hd0⟩ := paired_snoc hp
  have hne : (!(xs ++ [V.ref tp]).isEmpty) = true := by simp
  rw [hne]
  refine iteT ⟨fun σ' H' => ∃ m', m' < pNode (ws ++ [(d0, n)]) ∧ (∃ (many : Nat) (ws : List (PyData × Nat)) (xs : List V) (y3 y4 y5 y6 y7 : Option V), m' = pNode ws ∧ σ' = [some v, some (.int many), some (.ref wl), y3, y4, y5, y6, y7] ∧ H' wl = some (.lst xs) ∧
    Paired (Wt K H H') xs ws ∧ Gr [] H H' ∧ many ≤ 300 ∧ ws.length ≤ many + 1 ∧ goalD ws many = docD d), fun σ' H' z => z, ?_⟩
  have hlast : (xs ++ [V.ref tp])[(xs ++ [V.ref tp]).length - 1]? = some (.ref tp) := by simp
  have hne2 : tp ≠ wl := fun z => by rw [z, hwl] at htp; cases htp
  have hdl : (xs ++ [V.ref tp]).dropLast = xs := by simp
  refine ⟨_, rfl, .inl ⟨rfl, _, SqL.of hwl⟩, wl, _, .ref tp, rfl, rfl, hwl, hlast, ?_⟩
  rw [hdl]
  generalize hH2 : upd H1 wl (.lst xs) = H2
  have hwl2 : H2 wl = some (.lst xs) := by rw [← hH2]; exact upd_same
  have g2 : Gr [] H H2 := by rw [← hH2]; exact g1.put0 hw0
  have hp2 : Paired (Wt K H H2) xs ws := paired_imp (Wt.gr (m := [wl]) (by rw [← hH2]; exact Gr.put hwl (fun _ z => by cases z) (by simp)) (fun b hb => by rw [List.mem_singleton.mp hb]; exact ⟨_, hwl⟩)) hp0
  have htp2 : H2 tp = some (.tup [v0, .int n]) := by rw [← hH2, upd_ne hne2]; exact htp
  refine ⟨tp, _, rfl, SqT.of htp2, rfl, v0, [.int n], rfl, .int n, [], rfl, rfl, ?_⟩
  have hd2 := hd0.gr g2
  refine ⟨_, rfl, _, _, _, _, _, rfl, .ty "tuple", hd2.ty, kit_tup d0, _, rfl, ?_⟩
  have bad : formD d0 n = false → Q (.bl false) H2 := fun z => by
    have e : docD d = false := by rw [← hgoal]; exact goal_bad z
    rw [e] at q
    exact q H2 g2
  cases d0 with
  | none => exact iteT (iteT (bad (by simp [formD])))
  | bool b => exact iteT (iteT (bad (by simp [formD])))
  | int i => exact iteT (iteT (bad (by simp [formD])))
  | str x => exact iteT (iteT (bad (by simp [formD])))
  | list ds => exact iteT (iteT (bad (by simp [formD])))
  | dict ds => exact iteT (iteT (bad (by simp [formD])))
  | tuple ts =>
    obtain ⟨a, vs, rfl, hs0, ha⟩ := hd0.tupI
    have hs := g2.sqT hs0
    refine iteF ⟨_, rfl, _, .inr (.inl ⟨vs, hs, rfl⟩), ?_⟩
    have hvl := ha.length
    have hemp : vs.isEmpty = ts.isEmpty := by cases vs <;> cases ts <;> first | rfl | (simp at hvl)
    have key : ∀ (R : Bool → Hp → Prop), ((ts.isEmpty || decide (n ≤ 30)) = true → R false H2) → ((ts.isEmpty || decide (n ≤ 30)) = false → R true H2) →
        (if (!vs.isEmpty) = true then (tTest (tOp (rI0 fun i j => .bl (decide (j < i))) (tVar 4) (tC (.int 30)))) [some v, some (.int many), some (.ref wl), some (.ref a), some (.int n), y5, y6, y7] H2 R else R false H2) := by
      intro R h1 h2
      rw [hemp]
      cases hte : ts.isEmpty with
      | true => exact iteF (h1 (by rw [hte]; rfl))
      | false =>
        refine iteT ⟨_, rfl, _, _, rfl, rfl, _, rfl, ?_⟩
        by_cases h30 : n ≤ 30
        · rw [decide_eq_false (show ¬ ((30 : Int) < (n : Int)) by omega)]
          exact h1 (by rw [decide_eq_true h30, Bool.or_true])
        · rw [decide_eq_true (show ((30 : Int) < (n : Int)) by omega)]
          exact h2 (by rw [hte, decide_eq_false h30]; rfl)
    refine key _ (fun hdeep => iteF ?_) (fun hdeep => iteT (bad (by rw [formD, hdeep]; rfl)))
    refine ⟨_, rfl, _, rfl, a, vs, rfl, .inr hs, _, _, rfl, rfl, ?_⟩
    refine ⟨_, rfl, _, _, rfl, rfl, _, rfl, ?_⟩
    have hmany : (many : Int) + ((vs.length : Nat) : Int) = ((many + ts.length : Nat) : Int) := by rw [hvl]; omega
    by_cases h300 : 300 < many + ts.length
    · rw [decide_eq_true (show ((300 : Int) < (many : Int) + ((vs.length : Nat) : Int)) by rw [hmany]; omega)]
      refine iteT (iteT ?_)
      have e : docD d = false := by rw [← hgoal]; exact goal_many h300
      rw [e] at q
      exact q H2 g2
    rw [decide_eq_false (show ¬ ((300 : Int) < (many : Int) + ((vs.length : Nat) : Int)) by rw [hmany]; omega)]
    refine iteF ?_
    have hT2 : GxR.TabG H2 T := g2.tab T hT
    refine ⟨_, rfl, a, rfl, ⟨vs, hs⟩, hT2, fun H3 hT3 => gw_tup (xs := vs) (fun i H' => H' = H3 ∧ (ts.take i).all treeD = true) ⟨rfl, rfl⟩ (fun i H' _ hP => ?_) (fun i x H' hx hP => ?_) (fun H' hP => ?_)⟩
    · rw [hP.1]; exact (Tabbed.gr hT2 hT3).sqT hs
    · obtain ⟨rfl, hall⟩ := hP
      obtain ⟨dt, hdt, hxd⟩ := ha.get hx
      refine ⟨rfl, _, rfl, dt, x, rfl, hxd.gr (g2.trans (Tabbed.gr hT2 hT3)), _, rfl, ?_⟩
      cases htd : treeD dt with
      | true => exact iteT ⟨rfl, all_snoc hdt hall htd⟩
      | false =>
        refine iteF ⟨_, rfl, iteT ?_⟩
        have hbad : formAll ts n = false := by
          rw [Bool.eq_false_iff]
          intro z
          have := formAll_trees ts n z
          rw [all_not hdt htd] at this
          cases this
        have e : docD d = false := by rw [← hgoal]; exact goal_bad (by rw [formD, hbad, Bool.and_false])
        rw [e] at q
        exact q H' (g2.trans (Tabbed.gr hT2 hT3))
    · obtain ⟨rfl, hall⟩ := hP
      have hall : ts.all treeD = true := by rw [hvl, List.take_length] at hall; exact hall
      refine ⟨_, rfl, iteF ?_⟩
      have g3 : Gr [] H H' := g2.trans (Tabbed.gr hT2 hT3)
      have g23 : Gr [] H2 H' := Tabbed.gr hT2 hT3
      have hwl3 : H' wl = some (.lst xs) := g23.lst (by simp) hwl2
      have hs3 := g23.sqT hs
      refine ⟨_, rfl, .inl ⟨rfl, _, SqL.of hwl3⟩, ?_⟩
      refine ⟨_, rfl, a, rfl, ⟨vs, hs3⟩, fun D hD => lc_tup (xs := vs) (fun i H4 => Gr [] H' H4 ∧ ∃ zs, H4 D = some (.lst zs) ∧ zs.length = i ∧ Paired (Wt K H H4) zs ((ts.take i).map fun t => (kidD t, n + 1))) ?_ (fun i H4 _ hP => hP.1.sqT hs3) (fun i x H4 hx hP => ?_) (fun H4 hP => ?_)⟩
      · exact ⟨Gr.new hD, [], upd_same, rfl, .nil⟩
      · obtain ⟨g4, zs, hzD, hzl, hzp⟩ := hP
        obtain ⟨dt, hdt, hxd⟩ := ha.get hx
        have htd : treeD dt = true := List.all_eq_true.mp hall dt (List.mem_of_getElem? hdt)
        obtain ⟨i0, k0, rfl⟩ := treeD_shape htd
        obtain ⟨at', xs', rfl, hst, hat⟩ := hxd.tupI
        have hst4 := (g3.trans g4).sqT hst
        obtain ⟨v1, v2, rfl, h1, h2⟩ := dpAll_two hat
        · refine ⟨at', _, rfl, hst4, rfl, v1, [v2], rfl, v2, [], rfl, rfl, rfl, ?_⟩
          refine ⟨_, rfl, _, rfl, _, _, rfl, rfl, len2, fun p np => ⟨zs, ?_, ?_, ?_⟩⟩
          · rw [upd_ne (ne_of_none hzD np)]; exact hzD
          · have hi : i < vs.length := (List.getElem?_eq_some_iff.mp hx).1
            have h9 : ts.length ≤ 300 := by omega
            exact small1000 (by omega)
          · have gp : Gr [] H' (upd H4 p (.tup [v2, .int (↑n + 1)])) := g4.trans (Gr.new np)
            have nD : p ≠ D := fun z => by rw [z, hzD] at np; cases np
            refine ⟨gp.put0 hD, _, upd_same, by simp [hzl], ?_⟩
            rw [List.take_add_one, hdt, List.map_append]
            have st : ∀ x p', Wt K H H4 x p' → Wt K H (upd (upd H4 p (.tup [v2, .int (↑n + 1)])) D (.lst (zs ++ [.ref p]))) x p' := fun x p' hz =>
              Wt.gr (m := [D]) (Gr.put (u := .lst zs) (by rw [upd_ne (ne_of_none hzD np)]; exact hzD) (fun _ z => by cases z) (by simp)) (fun b hb => by rw [List.mem_singleton.mp hb]; exact ⟨zs, by rw [upd_ne (ne_of_none hzD np)]; exact hzD⟩) x p' (Wt.gr (m := []) (Gr.new np) (fun b hb => by cases hb) x p' hz)
            refine paired_app (paired_imp st hzp) (.cons ⟨p, v2, rfl, ?_, ?_⟩ .nil)
            · rw [upd_ne nD, upd_same]; rfl
            · exact h2
      · obtain ⟨g4, zs, hzD, hzl, hzp⟩ := hP
        have hwl4 : H4 wl = some (.lst xs) := g4.lst (by simp) hwl3
        have hnwD : wl ≠ D := fun z => by rw [← z, hwl3] at hD; cases hD
        rw [show vs.length = ts.length from hvl, List.take_length] at hzp
        have hxl : xs.length = ws.length := Paired.length hp2
        have hwsl : ws.length ≤ many := by simp at hl; exact hl
        refine ⟨wl, D, xs, zs, rfl, rfl, hwl4, hzD, Nat.le_of_lt (small1000 (by omega)), ?_⟩
        refine ⟨_, node_step (n := n) hall, many + ts.length, ws ++ ts.map (fun t => (kidD t, n + 1)), xs ++ zs, some (.ref a), some (.int n), y5, y6, y7, rfl, by show [some v, some (V.int ((many : Int) + ((vs.length : Nat) : Int))), some (.ref wl), some (.ref a), some (.int n), y5, y6, y7] = _; rw [hmany], upd_same, ?_, (g3.trans g4).put0 hw0, by omega, by simp; omega, by rw [← hgoal]; exact (goal_step hall hdeep).symm⟩
        have gw : Gr [wl] H4 (upd H4 wl (.lst (xs ++ zs))) := Gr.put hwl4 (fun _ z => by cases z) (by simp)
        have hm1 : ∀ b ∈ [wl], ∃ ys, H4 b = some (.lst ys) := fun b hb => by rw [List.mem_singleton.mp hb]; exact ⟨_, hwl4⟩
        refine paired_app (paired_imp (Wt.gr gw hm1) (paired_imp (Wt.gr (m := []) (g23.trans g4) (fun b hb => by cases hb)) hp2)) (paired_imp (Wt.gr gw hm1) hzp)
end
end LW
set_option maxHeartbeats 2000000
namespace LW
open PySem PySem.Spec PyProof.Rows L2
def smallR (rs : List Rl) : Prop := ∀ r ∈ rs, r.1 < 1000 ∧ r.2.1 < 1000 ∧ r.2.2 < 1000
def spRowOfB (K : PySem.W.Frag) : Sp := fun vs H Q E => (∃ (l : Addr) (xs : List V) (rs : List Rl) (inside : Nat), vs = [.ref l, natV inside] ∧ H l = some (.lst xs) ∧ DpAll K H xs (rs.map bitD) ∧ rs.length ≤ 2000 ∧ smallR rs ∧
  ∀ H' p ys, Gr [] H H' → H p = none → H' p = some (.lst ys) → DpAll K H' ys ((rowOf rs inside).map entD) → Q (.ref p) H')
def spEnds (K : PySem.W.Frag) : Sp := fun vs H Q _ => ∃ (v : V) (s : Sch), vs = [v] ∧ Dp K H v (schD s) ∧ SchOk s ∧ ∀ H', Gr [] H H' → Q (natV (emptyB s)) H'
end LW
set_option maxHeartbeats 2000000
namespace SrtO
open PySem PySem.Spec PyProof.Rows
abbrev I3 := Int × Int × Int
def lex3 (p q : I3) : Bool := if p.1 = q.1 then lexB p.2 q.2 else decide (p.1 < q.1)
def IsTrip (h : Heap) (v : Value) (k : I3) : Prop := ∃ (a : Addr) (o : Obj) (t u w : Tok) (n : Nat), v = .ref a ∧ h.get? a = some o ∧ o.cls = .type "tuple" ∧ o.data = .seq #[.int k.1 t, .int k.2.1 u, .int k.2.2 w] n
theorem IsTrip.keeps {h h' : Heap} {v : Value} {k : I3} (x : IsTrip h v k) (kp : ∀ b o, h.get? b = some o → o.cls = .type "tuple" → h'.get? b = some o) : IsTrip h' v k := by
  obtain ⟨a, o, t, u, w, n, e, ho, hc, hd⟩ := x
  exact ⟨a, o, t, u, w, n, e, kp _ _ ho hc, hc, hd⟩
section
variable {prog : Program} {w : World} {A : Around} {E : Value → Shared → Prop} {s : Shared}
end
end SrtO
namespace LW
open PySem PySem.Spec PyProof.Rows L2
def rlK (r : Rl) : SrtO.I3 := ((r.1 : Int), (r.2.1 : Int), (r.2.2 : Int))
def rSortR (K : PySem.W.Frag) : List V → Hp → VK → Prop := fun vs H Q => ∃ (a : Addr) (xs : List V) (rs : List Rl), vs = [V.ref a] ∧ (SqL K H a xs ∨ SqT K H a xs) ∧ DpAll K H xs (rs.map rlD) ∧
  ∀ (us : List Rl) (ys : List V) (p : Addr), us.Perm rs → us.Pairwise (fun r t => ¬ rlLt t r) → DpAll K H ys (us.map rlD) → H p = none → Q (.ref p) (upd H p (.lst ys))
def keyH (h : Heap) : Value → SrtO.I3
  | .ref a => match h.get? a with
    | some ⟨_, _, .seq arr _, _⟩ => match arr.toList with
      | [.int x _, .int y _, .int z _] => (x, y, z)
      | _ => (0, 0, 0)
    | _ => (0, 0, 0)
  | _ => (0, 0, 0)
def rlOf (k : SrtO.I3) : Rl := (k.1.toNat, k.2.1.toNat, k.2.2.toNat)
section
variable {X : Cx}
end
end LW
set_option maxHeartbeats 2000000
namespace XA
open PySem PySem.Spec PyProof.Rows L2
def Zt (c : Value) (d : Option Addr) (o : Obj) : Prop := (o.cls = c ∧ o.dict = none) ∧ PXN.CtxN o ∧ ∃ t, d = some t ∧ ∀ vs : Array Value, o.data = .fields vs → vs[0]? = some (.ref t)
theorem zt_steady {c : Value} {d : Option Addr} : PXN.Steady1 (Zt c d) := by
  rintro o v ⟨⟨h1, h2⟩, h3, t, h4, h5⟩
  refine ⟨⟨PXN.steady_cls o v h1, PXN.steady_dict o v h2⟩, PXN.steady_ctx o v h3, t, h4, fun vs e => ?_⟩
  obtain ⟨oc, od, dt, sl⟩ := o
  cases dt with
  | fields w0 =>
    obtain rfl : w0.setIfInBounds 1 v = vs := Data.fields.inj e
    have q := h5 w0 rfl
    rw [← q]
    first
    | exact Array.getElem?_setIfInBounds_ne (by decide)
    | simp [Array.getElem?_setIfInBounds]
  | _ => cases e
def Air (X : Cx) (W : WX) (u : Value) (z : Shared) : Prop := ∃ (a : Addr) (G : Heap) (y : Shared) (ps : List (Addr × Obj)) (τ : L2.St) (J : Hp) (c : Value) (d : Option Addr),
  u = .ref a ∧ Inv X ps τ J y ∧ ((∀ b o, y.heap.get? b = some o → b ∉ frs X.stack → G.get? b = some o) ∧ y.heap.UpToSlots z.heap) ∧ Sky G X.stack a (Zt c d) X.env.locals z.heap ∧ (J a = none ∧ z.os = y.os ∧ AllBare z.gens) ∧ W c d τ J
def Tk (X : Cx) (W : WX) : Prop := ∀ u z, Air X W u z → X.xe u z
def CXA (P : Program) (w : World) (outer : List Env) (H : Hp) (s : Shared) (E : XK) (u : Value) (z : Shared) : Prop := ∃ (a : Addr) (G : Heap) (J : Hp) (c : Value) (d : Option Addr),
  u = .ref a ∧ HandSPX.FlyingZ G outer a (Zt c d) z.heap ∧ (HOk P w J G ∧ UB (frs outer) H J s.heap G z.heap) ∧ (J a = none ∧ z.os = s.os ∧ AllBare z.gens) ∧ E c d J
section
variable {X : Cx} {ps : List (Addr × Obj)} {τ : L2.St} {H : Hp} {y s z : Shared} {W : WX} {E : XK}
theorem air_call (I : Inv X ps τ H s) (hW : ∀ c d J, E c d J → W c d τ J) {u : Value} (h : CXA X.prog X.w X.stack H s E u z) : Air X W u z := by
  obtain ⟨a, G, J, c, d, eu, fl, ⟨hok, ub⟩, m, hE⟩ := h
  obtain ⟨D, d1, d2⟩ := restrict z.heap (fun b => (G.get? b).isSome || decide (b ∈ frs X.stack))
  have yes1 : ∀ b o, G.get? b = some o → D.get? b = some o := fun b o e => (d1 b (by simp [e])).trans (fl.1 b o e)
  have yes2 : ∀ b, b ∈ frs X.stack → D.get? b = z.heap.get? b := fun b e => d1 b (by simp [e])
  have back : ∀ b o, D.get? b = some o → z.heap.get? b = some o ∧ ((G.get? b).isSome = true ∨ b ∈ frs X.stack) := fun b o e => by
    cases q : ((G.get? b).isSome || decide (b ∈ frs X.stack)) with
    | true => exact ⟨(d1 b q).symm.trans e, by simpa [Bool.or_eq_true] using q⟩
    | false => exact nomatch (d2 b q).symm.trans e
  have sl : ∀ b o, s.heap.get? b = some o → b ∈ frs X.stack → ∃ x, D.get? b = some { o with slots := x } := fun b o e hb => let ⟨x, q⟩ := ub.slot b o e hb; ⟨x, (yes2 b hb).trans q⟩
  have un : Un (frs X.stack) [] H J s.heap D := {
    keep := fun b o e n hb _ => yes1 b o (ub.keep b o e n hb), slot := fun b o e _ hb _ => sl b o e hb, free := fun b o e n _ => ub.free b o e n,
    there := fun b o e _ => if hb : b ∈ frs X.stack then (let ⟨x, q⟩ := sl b o e hb; ⟨_, q⟩) else (let ⟨o', q⟩ := ub.there b o e hb; ⟨o', yes1 b o' q⟩), tups := ub.tups, frzs := ub.frzs, tbls := ub.tbls }
  have K := I.call (g' := z.gens) (t' := z.toks) (d' := z.drawn) un (hok.kept yes1) m.2.2 (fun _ q => nomatch q)
  refine ⟨a, G, _, ps, τ, J, c, d, eu, K, ⟨fun b o e hb => ?_, Heap.UpToSlots.of_keeps fun b o e => (back b o e).1⟩, .inr (.inl fl), m, hW _ _ _ hE⟩
  rcases back b o e with ⟨e', q | q⟩
  · obtain ⟨o', q⟩ := Option.isSome_iff_exists.mp q
    exact q.trans ((fl.1 b o' q).symm.trans e')
  · exact absurd q hb
theorem air_new {a : Addr} {oe : Obj} {vs : Array Value} {c : Value} {d : Option Addr} (I : Inv X ps τ H y) (k : ∀ b o, y.heap.get? b = some o → z.heap.get? b = some o) (nw : y.heap.get? a = none) (he : z.heap.get? a = some oe) (hz : Zt c d oe) (hd : oe.data = .fields vs ∧ vs[1]? = some .none)
    (m : H a = none ∧ z.os = y.os ∧ AllBare z.gens) (w : W c d τ H) : Air X W (.ref a) z := by
  have hid : ∀ b o, (PySem.W.hideAll y.heap (frs X.stack)).get? b = some o → y.heap.get? b = some o := fun b o e => PySem.W.of_hideAll _ e
  have none' : (PySem.W.hideAll y.heap (frs X.stack)).get? a = none := by
    cases q : (PySem.W.hideAll y.heap (frs X.stack)).get? a with
    | none => rfl
    | some o => exact nomatch nw.symm.trans (hid a o q)
  have ff : z.heap.FunFrames (PySem.W.hideAll y.heap (frs X.stack)) X.stack := Heap.FunFrames.of_keeps (fun b o e _ => ⟨o, k b o e, rfl⟩) (funFrames_none I.stack fun b hb => PySem.W.hideAll_none _ hb)
  exact ⟨a, _, y, ps, τ, H, c, d, rfl, I, ⟨fun b o e hb => PySem.W.hideAll_get _ e hb, Heap.UpToSlots.of_keeps k⟩, .inl ⟨fun b o e => k b o (hid b o e), none', ff, oe, vs, he, hz, hd.1, hd.2⟩, m, w⟩
theorem air_leave (hs : X.stack = X.env :: X.outer) (hf : X.env.frame = some X.env.locals) (hex : X.ex = []) {F : Value → Shared → Prop} (hW : ∀ c d τ H, W c d τ H → E c d H) {u : Value} (h : Air X W u z) :
    wpAny (model X.prog X.w) X.A (leaving X.env u) (fun _ z' => CXA X.prog X.w X.outer X.H_0 X.s_0 E u z') F z := by
  obtain ⟨a, G, y, ps, τ, J, c, d, rfl, I, ⟨nb, up⟩, sky, ⟨na, os, ag⟩, w⟩ := h
  have fr : X.A.frames = some (X.env :: X.outer) := hs ▸ I.ok.frames
  have out : ∀ b o, X.s_0.heap.get? b = some o → b ∉ X.fs → b ∉ frs X.stack := fun b o e hb hm => (List.mem_cons.mp (I.stkSub b hm)).elim (fun q => Nat.lt_irrefl _ (Nat.lt_of_lt_of_le (q ▸ Heap.lt_size e) I.ok.above)) hb
  have nex : ∀ b, b ∉ X.ex := fun b hb => by rw [hex] at hb; cases hb
  have grd := I.inGround nb
  have fin : ∀ h', HandSPX.FlyingZ G X.outer a (Zt c d) h' → z.heap.UpToSlots h' → CXA X.prog X.w X.outer X.H_0 X.s_0 E (.ref a) { z with heap := h' } := fun h' fl up2 => by
    refine ⟨a, G, J, c, d, rfl, fl, ⟨grd, { keep := fun b o e n hb => nb b o (I.base.keep b o e n hb (nex b)) (out b o e hb), slot := fun b o e hb => ?_, free := fun b o e n => I.base.free b o e n (nex b), there := fun b o e hb => ?_, tups := I.base.tups, frzs := I.base.frzs, tbls := I.base.tbls }⟩, ⟨na, os.trans I.os, ag⟩, hW _ _ _ _ w⟩
    · obtain ⟨_, o0, e0, nf⟩ := I.ok.funs.mem hb
      obtain rfl : o = o0 := Option.some.inj (e.symm.trans e0)
      obtain ⟨x1, q1⟩ := I.base.slot b o e (I.ok.frf b hb) hb (nex b)
      obtain ⟨x2, q2⟩ := up b _ q1 nf
      obtain ⟨x3, q3⟩ := up2 b _ q2 nf
      exact ⟨x3, q3⟩
    · obtain ⟨o', q⟩ := I.base.there b o e (nex b)
      exact ⟨o', nb b o' q (out b o e hb)⟩
  rw [hs] at sky
  rcases sky with ⟨k1, k2, k3, oe, vs, k4, k5, k6, k7⟩ | k | k
  · exact PXN.leaving_firstZ zt_steady fr k3 hf k4 k1 k2 k6 k7 k5 fin
  · exact PXN.leaves_onZ zt_steady fr hf k fin
  · exact HandSPX.leaves_heldZ hf k fin
theorem tk_of (hs : X.stack = X.env :: X.outer) (hf : X.env.frame = some X.env.locals) (hex : X.ex = []) {F : Value → Shared → Prop} (hx : X.xe = fun e z => wpAny (model X.prog X.w) X.A (leaving X.env e) (fun _ z' => CXA X.prog X.w X.outer X.H_0 X.s_0 E e z') F z) : Tk X (fun c d _ H => E c d H) :=
  fun u z h => hx ▸ air_leave (W := fun c d _ H => E c d H) (E := E) hs hf hex (fun _ _ _ _ q => q) h
theorem pass_in (tk : Tk X W) (hW : ∀ c d τ H, E c d H → W c d τ H) : Passes (CXA X.prog X.w) X E := fun _ τ _ _ e z I h => tk e z (air_call I (fun c d J q => hW c d τ J q) h)
theorem pass_at (tk : Tk X W) (τ : L2.St) : PassesAt (CXA X.prog X.w) X τ (WE W τ) := fun _ _ _ e z I h => tk e z (air_call I (fun _ _ _ q => q) h)
theorem land {M : Model} {A : Around} {F : Value → Shared → Prop} {env : Env} {outer : List Env} {L a : Addr} {Z : Obj → Prop} {G : Heap} {Q : Unit → Shared → Prop} (hZ : PXN.Steady1 Z) (fr : A.frames = some (env :: outer)) (hf : env.frame = some L) (h : Sky G (env :: outer) a Z L s.heap)
    (hQ : ∀ h', HandSPX.FlyingZ G (env :: outer) a Z h' → s.heap.UpToSlots h' → Q () { s with heap := h' }) : wpAny M A (noteFrame (.ref a) env) (fun _ s' => wpAny M A (setFlight (.ref a) none) Q F s') F s := by
  have on : ∀ h1, HandSPX.HeldZ G (env :: outer) a Z L h1 → s.heap.UpToSlots h1 → wpAny M A (setFlight (.ref a) none) Q F { s with heap := h1 } := fun h1 q up => HandSPX.landsZ q fun h' fl up2 => hQ h' fl (up.trans up2)
  rcases h with ⟨k1, k2, k3, oe, vs, k4, k5, k6, k7⟩ | k | k
  · exact PXN.look_newZ hZ fr k3 hf k4 k1 k2 k6 k7 k5 on
  · exact PXN.looks_onZ hZ fr hf k on
  · exact HandSPX.againZ hf k.2.2.2 (on _ k (Heap.UpToSlots.refl _))
end
theorem ps_raise0 {X : Cx} {W : WX} {C : Addr} {bmB : List Value} {B newId initId : String} {x : Str} {p pos pos' : Pos} (hc : X.calm = true) (tk : Tk X W) (F : ExcBaseFacts B newId initId bmB) (q : PySem.W.excIn X.K C bmB newId = true) (gC : X.mg x = some (.ref C)) (kC : PySem.W.keepIn X.K (.ref C) = true)
    (r : Raises X (.ref C)) (hg : Gl X x) (hdb : (x == ("__debug__" : Str)) = false := by decide) : PS X (.Raise (some (.Call (.Name x p) [] [] pos)) none pos') (fun _ σ H => ∀ t, H t = none → W (.ref C) (some t) σ (upd H t (.tup []))) := by
  refine ⟨fun pins s σ H D I h => ?_⟩
  show wpAny _ _ (do standAt pos'; raiseStmt X.env (some (do let v ← eval (.Call (.Name x p) [] [] pos) X.env; standAt pos'; pure v)) none) _ _ _
  refine wpAny_bind (wpAny_standAt (raise_made (I.ok.hd hc) (wpAny_bind (wpAny_mono (Q := fun u z => ∃ e, u = Value.ref e ∧ Heap.MadeExcOf s.heap z.heap e (.ref C) [] ∧ z.os = s.os ∧ z.gens = s.gens) ?_ (fun u z hu => wpAny_bind (wpAny_standAt (wpAny_pure ?_))) fun _ _ q => q))))
  · refine wpAny_Call_Name_kw (ld_glob I hg gC ?_ hdb)
    refine PySem.W.callWith_K0 I.kIn kC ?_
    show wpAny _ _ (call (.ref C) []) _ _ _
    obtain ⟨bm, N, nm, qn, bs, hdct, sn, sub, ab, col, dd, k0, k1, k2, k3, k5, mN, hC, hN, hni, T⟩ := exc_obj I.kIn q
    obtain ⟨hp, gg, dr, tk0, osx⟩ := s
    exact wpAny_call_exc_subT F T hC hN hni (fun h' e hm => ⟨e, rfl, hm, rfl, rfl⟩) (Nat.zero_le _)
  · obtain ⟨e, rfl, hm, hos, hgs⟩ := hu
    obtain ⟨t, he, nt, ht⟩ := hm.there
    have net : t ≠ e := fun w => by rw [w, he] at ht; cases ht
    have nH : H t = none := I.hok.gone nt
    have nE : H e = none := I.hok.gone hm.new
    have k1 : ∀ b o, s.heap.get? b = some o → (PySem.W.hideAll z.heap [e]).get? b = some o := fun b o g => PySem.W.hideAll_get _ (hm.keeps b o g) (fun w => by rw [List.mem_singleton.mp w, hm.new] at g; cases g)
    have k2 : (PySem.W.hideAll z.heap [e]).get? t = some { cls := .type "tuple", data := .seq #[] } := PySem.W.hideAll_get _ ht (fun w => net (List.mem_singleton.mp w))
    have hokN : HOk X.prog X.w (upd H t (.tup [])) (PySem.W.hideAll z.heap [e]) := fun b o g => by
      by_cases hb : b = t
      · subst hb
        rw [upd_same] at g
        cases g
        exact ⟨Nat.zero_le _, [], .nil, ⟨_, k2, rfl, _, rfl⟩⟩
      · rw [upd_ne hb] at g
        exact (I.hok b o g).stay (fun c v _ w => k1 c v w) (fun c w => by rw [upd_ne (ne_of_none w nH)]; exact w) fun c xs w => by rw [upd_ne (ne_of_none w nH)]; exact w
    have ne1 : ∀ b o, s.heap.get? b = some o → b ≠ t := fun b o g w => by rw [w, nt] at g; cases g
    have ne2 : ∀ b u, H b = some u → (upd H t (.tup [])) b = some u := fun b u g => by rw [upd_ne (ne_of_none g nH)]; exact g
    have un : Un X.fs [] H (upd H t (.tup [])) s.heap (PySem.W.hideAll z.heap [e]) := ⟨fun b o g _ _ _ => k1 b o g, fun b o g _ _ _ => ⟨o.slots, k1 b o g⟩, fun b o g n _ => (upd_ne (ne1 b o g)).trans n, fun b o g _ => ⟨o, k1 b o g⟩, fun b xs g => ne2 b _ g, fun b o u g => ne2 b _ g, fun b ps g => ⟨#[], by rw [ne2 b _ g]; simp⟩⟩
    have J : Inv X pins σ (upd H t (.tup [])) { s with heap := PySem.W.hideAll z.heap [e] } := I.un (t' := s.toks) un hokN
    obtain ⟨r1, r2⟩ := r (model X.prog X.w) z.heap (I.kIn.keeps hm.keeps)
    refine ⟨e, _, _, .ref C, rfl, he, rfl, rfl, rfl, r1, r2, tk _ _ (air_new J (fun b o g => PySem.W.of_hideAll _ g) (PySem.W.hideAll_none _ (List.mem_singleton.mpr rfl)) he ⟨⟨rfl, rfl⟩, fun vs w => by cases w; rfl, t, rfl, fun vs w => by cases w; rfl⟩ ⟨rfl, rfl⟩ ⟨?_, hos, ?_⟩ (h t nH))⟩
    · rw [upd_ne net.symm]; exact nE
    · rw [hgs]; exact I.bare
end XA
set_option maxHeartbeats 2000000
namespace XA
open PySem PySem.Spec PyProof.Rows L2
def wC (K : PySem.W.Frag) (c : Value) (i : Nat) (ts : Addr → Value → Option Addr → TS) (D : Ends) : WX := fun cls d τ J => PySem.W.exmOne K cls c = some true ∧
  ∀ a, J a = none → ts a cls d { nx := fun τ' J' => D.nx (τ'.set i none) J', rt := D.rt, bk := fun τ' J' => D.bk (τ'.set i none) J', ct := fun τ' J' => D.ct (τ'.set i none) J' } (τ.set i (some (.ref a))) J
section
variable {X : Cx} {x n : Str} {c : Value} {i : Nat} {body suite : List Stmt} {b₀ : Stmt} {np pos pos' : Pos} {tb : WX → TS} {ts : Addr → Value → Option Addr → TS}
theorem ps_tryA (hs : X.stack = X.env :: X.outer) (hf : X.env.frame = some X.env.locals) (nd : X.N.Nodup) (hi : X.N[i]? = some n) (hl : X.env.kindOf n = some .local) (hc : Names X x c)
    (hb : ∀ (W : WX) (pn : List (Addr × Obj)) (xe : Value → Shared → Prop), Tk (X.tr pn xe) W → PassesOwn (model X.prog X.w) X.A X.env xe → PSs (X.tr pn xe) body (tb W))
    (hsu : ∀ (a : Addr) (oe : Obj) (cls : Value) (d : Option Addr) (pn : List (Addr × Obj)), Zt cls d oe → (∃ vs, oe.data = .fields vs) → PSs (X.suite a ((a, oe) :: pn)) (b₀ :: suite) (ts a cls d)) :
    PS X (.Try body [.ExceptHandler (some (.Name x np)) (some n) (b₀ :: suite) pos'] [] [] pos) (fun D σ H => tb (wC X.K c i ts D) D σ H) := by
  refine ⟨fun pins s σ H D I h => wpAny_Try_except (wpAny_mono ((hb (wC X.K c i ts D) (X.pn ++ pins) (fun e z => wpAny (model X.prog X.w) X.A (noteFrame e X.env) (fun _ z2 => wpAny (model X.prog X.w) X.A (setFlight e none) (fun _ z3 =>
    wpAny (model X.prog X.w) X.A (handleBy e X.env [.ExceptHandler (some (.Name x np)) (some n) (b₀ :: suite) pos']) (SP X pins D) X.xe z3) X.xe z2) X.xe z) (fun u z air => ?_) PassesOwn.looking).run [] s σ H D (I.toTry _) h) (fun f z hz => ?_) (fun _ _ q => q))⟩
  · obtain ⟨a, G, y, ps, τ, J, cls, d, rfl, J0, ⟨nb, up⟩, sky, ⟨na, os, ag⟩, hm, hgo⟩ := air
    have J1 : Inv X pins τ J y := J0.ofTry I.ok
    have fr : X.A.frames = some (X.env :: X.outer) := hs ▸ I.ok.frames
    have sky' : Sky G (X.env :: X.outer) a (Zt cls d) X.env.locals z.heap := hs ▸ sky
    show wpAny (model X.prog X.w) X.A (noteFrame (.ref a) X.env) _ _ _
    refine land zt_steady fr hf sky' (fun h3 fl up3 => ?_)
    have J3 : Inv X pins τ J { z with heap := h3 } := J1.landed nb fl.1 (up.trans up3) os ag
    obtain ⟨oe3, vs3, he3, hz3, hd3⟩ := fl.there
    have far : a ∉ frs (X.env :: X.outer) := fun q => by
      obtain ⟨_, o', e', nf⟩ := fl.2.2.1.mem q
      obtain rfl : oe3 = o' := Option.some.inj (he3.symm.trans e')
      exact nf _ hd3
    have nL : a ≠ X.env.locals := fun q => far (List.mem_filterMap.mpr ⟨X.env, .head _, hf.trans (congrArg some q.symm)⟩)
    have nF : a ∉ X.fs := fun q => by
      obtain ⟨e, m, g⟩ := List.mem_filterMap.mp q
      exact far (List.mem_filterMap.mpr ⟨e, .tail _ m, g⟩)
    have S3 := J3.suite he3 hd3 na nL nF
    refine wpAny_handleBy_cons (codeAny_handlers_test ?_) (fun q => nomatch q)
    have look : PySem.W.Looks (model X.prog X.w) h3 (typeOf (.ref a)) cls := fun A Q E s k q => wpAny_typeOf_ref (k _ _ he3) (hz3.1.1.symm ▸ q)
    have test : ∀ {Q : Value → Shared → Prop} {E : Value → Shared → Prop}, Q c { z with heap := h3 } → wpAny (model X.prog X.w) (X.A.mark (some (.ref a))) (eval (.Name x np) X.env) Q E { z with heap := h3 } := fun {Q E} q => by
      obtain ⟨g1, g2, g3 | ⟨g3, g4, g5⟩⟩ := hc
      · exact ld_glob (X := X.suite a ((a, oe3) :: (X.pn ++ pins))) S3 g1 g3 q g2
      · exact ld_blt (X := X.suite a ((a, oe3) :: (X.pn ++ pins))) S3 g1 g3 g4 q g5 g2
    refine test ((PySem.W.exm_one (M := model X.prog X.w) J3.kIn look hm).here ?_)
    refine codeAny_handlers_suite_as (HandSPX.lands_againZ fl fun h4 fl4 up4 => ?_)
    have J4 : Inv X pins τ J { z with heap := h4 } := J1.landed nb fl4.1 ((up.trans up3).trans up4) os ag
    obtain ⟨oe4, vs4, he4, hz4, hd4⟩ := fl4.there
    refine store_ok (X := X.suite a ((a, oe4) :: (X.pn ++ pins))) (v := .ref a) (J4.suite he4 hd4 na nL nF) nd hi (.inl hl) rfl (fun s5 S5 => ?_) (.inr hl)
    refine wpAny_mono ((hsu a oe4 cls d (X.pn ++ pins) hz4 ⟨_, hd4⟩).run [] s5 _ J _ S5 (hgo a na)) (fun f s6 q => ?_) (fun _ _ q => q.elim)
    have fin : ∀ {τ6 : L2.St} {J6 : Hp} {Q : Shared → Prop}, Inv (X.suite a ((a, oe4) :: (X.pn ++ pins))) [] τ6 J6 s6 → (∀ s7, Inv X pins (τ6.set i none) J6 s7 → Q s7) → wpAny (model X.prog X.w) X.A (do bindName X.env n .none; unbindBehindTheSuite X.env n pos') (fun _ s7 => Q s7) X.xe s6 :=
      fun S6 hq => gone_ok (S6.unsuite I.ok) nd hi hl hq
    cases f with
    | ret u => exact let ⟨v, τ6, J6, S6, r, w⟩ := q; fin S6 fun s7 J7 => ⟨v, _, J6, J7, r, w⟩
    | next => exact let ⟨τ6, J6, S6, w⟩ := q; fin S6 fun s7 J7 => ⟨_, J6, J7, w⟩
    | brk => exact let ⟨τ6, J6, S6, w⟩ := q; fin S6 fun s7 J7 => ⟨_, J6, J7, w⟩
    | cont => exact let ⟨τ6, J6, S6, w⟩ := q; fin S6 fun s7 J7 => ⟨_, J6, J7, w⟩
  · cases f with
    | ret u => exact let ⟨v, τ, J, Y, r, q⟩ := hz; ⟨v, τ, J, Y.ofTry I.ok, r, q⟩
    | next => exact let ⟨τ, J, Y, q⟩ := hz; wpAny_execs_nil ⟨τ, J, Y.ofTry I.ok, q⟩
    | brk => exact let ⟨τ, J, Y, q⟩ := hz; ⟨τ, J, Y.ofTry I.ok, q⟩
    | cont => exact let ⟨τ, J, Y, q⟩ := hz; ⟨τ, J, Y.ofTry I.ok, q⟩
end
structure Hand (X : Cx) (a : Addr) (cls : Value) (d : Option Addr) : Prop where
  at_ : X.A.handled = some (.ref a)
  pin : ∃ oe, (a, oe) ∈ X.pn ∧ Zt cls d oe ∧ ∃ vs, oe.data = .fields vs
abbrev SpE := Addr → Value → Option Addr → Sp
structure FnE (P : Program) (w : World) (K : PySem.W.Frag) (mg : Str → Option Value) (base : Heap) (k : Nat) (f : Addr) (fd : FuncData) (ps : List Str) (sp : SpE) : Prop where
  len : ∀ a cls d vs H Q E, sp a cls d vs H Q E → vs.length = ps.length
  run : ∀ (A : Around) (outer : List Env) (s : Shared) (H : Hp) (args : Args) (us : List Value) (vs : List V) (Q : VK) (E : XK) (a : Addr) (oe : Obj) (cls : Value) (d : Option Addr), L2H.RoomH k A → A.handled = some (.ref a) → (Zt cls d oe ∧ ∃ ws, oe.data = .fields ws) → L2H.PinOk outer H s (a, oe) →
    Env0 P w K mg base A outer s H → BindsTo s fd args (ps.zip us) → Vals vs us → sp a cls d vs H Q E → codeAny (model P w) A (.call (.ref f) args) (CR CX0 outer P w H s Q E) s
theorem fnE_of {P : Program} {w : World} {K : PySem.W.Frag} {mg : Str → Option Value} {base : Heap} {k : Nat} {x qual : Str} {st : Stmt} {f : Addr} {fd : FuncData} {N ps : List Str} {sp : SpE} (F : Fun K x qual st f fd) (S : FnScope N ps (defScope st)) (len : ∀ a cls d vs H Q E, sp a cls d vs H Q E → vs.length = ps.length)
    (hbody : ∀ (cdv : Value) (A : Around) (outer : List Env) (s : Shared) (H : Hp) (vs : List V) (Q : VK) (E : XK) (a : Addr) (oe : Obj) (cls : Value) (d : Option Addr), Hand (L2H.cxH CX0 P w K mg base N qual (defScope st) f cdv A outer s H E (a, oe)) a cls d → L2H.RoomH k (A.deeper (envOfC qual (defScope st) s.heap.objs.size f cdv)) → sp a cls d vs H Q E →
      ∃ t, PSs (L2H.cxH CX0 P w K mg base N qual (defScope st) f cdv A outer s H E (a, oe)) (defBody st) t ∧ t { nx := fun _ H' => Q .non H', rt := Q } (L2.start N vs) H) : FnE P w K mg base (k + 1) f fd ps sp := by
  obtain ⟨oc, od, kV, doc, pm, an, cdv, ct, osl, rfl, lk, hcd⟩ := F.ex
  refine ⟨len, fun A outer s H args us vs Q E a oe cls d hr hh hz hpin e0 hb r hsp => ?_⟩
  have kin : K.In s.heap := e0.mod.kin.keeps fun b o e => (e0.bs b o e).1
  have hkind : ∀ y ∈ ps.zip us, (defScope st).names.lookup y.1 = some .local ∨ ((defScope st).names.lookup y.1 = some .cell ∧ ((cellsFrom (s.heap.objs.size + 1) (defScope st).names []).lookup y.1).isSome = true) := fun y hy =>
    (S.par y.1 (List.of_mem_zip hy).1).imp id fun q => ⟨q, PySem.W.cellsFrom_some _ _ _ (.inl q)⟩
  refine codeAny_call_function hr.depth (kin _ _ lk) rfl S.co S.gen rfl (PySem.W.codeRec_of kin hcd) (hb _ _ _ _ (wpAny_newFunctionEnv_cells S.kind hkind fun env he s1 y => ?_))
  subst he
  refine ⟨(e0.mod.nolimit.keeps fun b o e => (e0.bs b o e).1).keeps y.toInCall.keep, codeAny_func ?_⟩
  obtain ⟨t, ht, q⟩ := hbody cdv A outer s H vs Q E a oe cls d ⟨hh, oe, List.mem_singleton.mpr rfl, hz⟩ (hr.deeper _) hsp
  have I := L2H.inv_startH (CX := CX0) (E := E) S hpin e0 (len _ _ _ _ _ _ _ hsp) r y
  refine wpAny_mono (ht.run [] s1 (L2.start N vs) H _ I q) (fun fl z hs => ?_) (fun e z hs => hs)
  cases fl with
  | ret u => exact let ⟨v, τ, J, Y, rv, q⟩ := hs; ⟨v, J, Y.os, Y.bare, Y.base, Y.hok, rv, q⟩
  | next => exact let ⟨τ, J, Y, q⟩ := hs; ⟨.non, J, Y.os, Y.bare, Y.base, Y.hok, rfl, q⟩
  | brk => exact let ⟨_, _, _, q⟩ := hs; q.elim
  | cont => exact let ⟨_, _, _, q⟩ := hs; q.elim
section
variable {X : Cx} {k : Nat} {f a : Addr} {cls : Value} {d : Option Addr} {fd : FuncData} {ps : List Str} {sp : SpE} {x : Str} {q pos : Pos} {e : Expr} {es : List Expr} {t : TA}
theorem pe_fnE (F : FnE X.prog X.w X.K X.mg X.base k f fd ps sp) (hr : L2H.RoomH k X.A) (hh : Hand X a cls d) (hg : Gl X x) (hm : X.mg x = some (.ref f)) (hk : PySem.W.keepIn X.K (.ref f) = true) (hb : Binds X.K fd ps []) (ha : PA X (e :: es) t)
    (hdb : (x == ("__debug__" : Str)) = false := by decide) (he : starEach (e :: es) X.env = (false, eval e X.env) :: starEach es X.env := by rfl) (hpl : (backTo pos (starEach es X.env)).any (·.1) = false := by rfl) :
    PE X (.Call (.Name x q) (e :: es) [] pos) (fun σ H Q => t σ H fun vs H1 => sp a cls d vs H1 Q (fun _ _ _ => False)) := by
  refine ⟨fun pins s σ H Q I h => wpAny_Call_Name_kw (ld_glob I hg hm ?_ hdb)⟩
  refine PySem.W.callWith_K (h₀ := X.base) I.ok.mod.kin hk (thn (ha.run pos pins s σ H _ I h) fun us s1 ⟨vs, H1, I1, r, w⟩ => ⟨I1.kIn, ?_⟩) he hpl
  obtain ⟨oe, hp, hz⟩ := hh.pin
  have P1 := I1.pin (a, oe) (List.mem_append_left _ hp)
  have b := hb s1 us I1.kIn (by rw [List.append_nil, ← r.length]; exact F.len _ _ _ _ _ _ _ w)
  rw [List.append_nil] at b
  refine wpAny_call (codeAny_mono (F.run X.A X.stack s1 H1 ⟨us, []⟩ us vs Q _ a oe cls d hr hh.at_ hz ⟨P1.1, P1.2.1, fun m => (List.mem_cons.mp (I1.stkSub a m)).elim P1.2.2.1 P1.2.2.2.1, P1.2.2.2.2⟩ I1.env0 b r w) fun r s' hq => ?_)
  cases r with
  | error e => exact hq.elim
  | ok fl => cases fl with
    | ret u => exact I1.after hq
    | next => exact hq.elim
    | brk => exact hq.elim
    | cont => exact hq.elim
end
section
variable {X : Cx} {a D : Addr} {d : Option Addr}
theorem call_isX (C : L2.ExcC X.K D) (hh : Hand X a (.ref D) d) : CallR X (.builtin "isinstance") (rIsE X.K D a) := by
  intro pins s σ H xs us Q I r h
  obtain ⟨c, cv, b, rfl, hcv, e, q⟩ := h
  obtain ⟨oe, hp, ⟨⟨h1, h2⟩, _⟩, vs, hv⟩ := hh.pin
  cases r with
  | cons rx rr => cases rr with
    | cons rt rr =>
      cases rr
      cases rx
      obtain rfl := hcv _ rt
      have hget := (I.pin (a, oe) (List.mem_append_left _ hp)).1
      have J : PySem.W.InstAt s.heap a oe D none := by
        obtain ⟨oc, od, oda, osl⟩ := oe
        dsimp only at h1 h2 hv
        subst h1 h2 hv
        exact ⟨hget, rfl, rfl, trivial⟩
      exact PySem.W.kia_one (PySem.W.handS_kitx_exc C.hg C.hk C.hs C.hd C.ha C.hn C.ht C.hm) I.kIn J e (fun z => nomatch z) fun tk => ⟨.bl b, H, I.kept (t' := tk) fun _ _ z => z, rfl, q⟩
def rCountD (K : PySem.W.Frag) : V → List V → Hp → VK → Prop := fun x xs H Q => ∃ (a : Addr) (y : V) (d : PyData) (ds : List PyData), x = V.ref a ∧ xs = [y] ∧ Dp K H (V.ref a) (.list ds) ∧ Dp K H y d ∧ SeqAt.shaped (.list ds) = true ∧ SeqAt.shaped d = true ∧ Q (.int ((ds.countP fun z => PyData.eqv z d : Nat) : Int)) H
theorem mt_countD (hu : X.A.units + 65 < cLine) : MtR X "list.count" (rCountD X.K) := by
  intro pins s σ H x xs v us Q I rx rxs h
  obtain ⟨a, y, dd, ds, rfl, rfl, hl, hy, sl, sd, q⟩ := h
  cases rx
  obtain ⟨uy, rfl, ry⟩ := rxs.one
  obtain ⟨bs, r1⟩ := Dp.reads I dd y uy hy ry
  have lay : PyData.canLayAll0 ds = true := SeqAt.canLay_of_shaped sl
  cases hl with
  | lst hs ha =>
    obtain ⟨its, rv, ⟨⟨cls, dx, data, sls⟩, n, ho, hc, hdn, hdt⟩, hlen⟩ := I.list hs
    simp only at hc hdt
    subst hc hdt
    obtain ⟨as, h4⟩ := Dp.readsAll I ds _ its ha rv
    have hmap : its.map (SeqAt.readOf s.heap) = ds := SeqAt.readsAll_map ds its as lay h4
    refine call_meets PySem.F.slot_list_count ⟨_, ho, rfl⟩ PySem.F.entry_list_count (PySem.F.args_list_count_2 _ _) (SeqAt.list_countAt a its.toArray n dx sls uy (fun u => PyData.eqv (SeqAt.readOf s.heap u) dd))
      ⟨ho, SeqAt.items_eqAt (vs := its.toArray) (show ReadsAll s.heap its.toArray.toList ds as from h4) r1 lay (SeqAt.canLay_of_shaped sd) (room_in_shaped sd hu), ?_⟩
    refine ⟨.int ((ds.countP fun z => PyData.eqv z dd : Nat) : Int), H, I.tok _, ⟨s.toks, ?_⟩, q⟩
    have e : ds.countP (fun z => PyData.eqv z dd) = its.toArray.toList.countP (fun u => PyData.eqv (SeqAt.readOf s.heap u) dd) := by rw [← hmap, List.countP_map]; rfl
    show Value.int _ _ = Value.int _ _
    rw [e]
end
end XA
set_option maxHeartbeats 2000000
namespace L2
open PySem PySem.Spec PyProof.Rows
theorem Fun.okA {P : Program} {w : World} {K : PySem.W.Frag} {mg : Str → Option Value} {base : Heap} {x qual : Str} {st : Stmt} {f : Addr} {fd : FuncData} {N ps : List Str} {k : Nat} {sp : Sp} (F : Fun K x qual st f fd) (S : FnScope N ps (defScope st)) (len : ∀ vs H Q E, sp vs H Q E → vs.length = ps.length)
    (hbody : ∀ (cdv : Value) (A : Around) (outer : List Env) (s : Shared) (H : Hp) (vs : List V) (Q : VK) (E : XK), Room k (A.deeper (envOfC qual (defScope st) s.heap.objs.size f cdv)) → XA.Tk (cxOf (XA.CXA P w) P w K mg base N qual (defScope st) f cdv A outer s H E) (fun c d _ J => E c d J) → sp vs H Q E →
      ∃ t, PSs (cxOf (XA.CXA P w) P w K mg base N qual (defScope st) f cdv A outer s H E) (defBody st) t ∧ t { nx := fun _ H' => Q .non H', rt := Q } (L2.start N vs) H) : FnOk P w K mg base (XA.CXA P w) (k + 1) f fd ps sp := by
  obtain ⟨oc, od, kV, doc, pm, an, cdv, ct, osl, rfl, lk, hcd⟩ := F.ex
  exact fn_of lk hcd S len fun A outer s H vs Q E hr hsp => hbody cdv A outer s H vs Q E hr (XA.tk_of rfl rfl rfl rfl) hsp
end L2
namespace LW
open PySem PySem.Spec PyProof.Rows L2
structure XC (K : PySem.W.Frag) (mg : Str → Option Value) (x : Str) (C : Addr) : Prop where
  g : mg x = some (.ref C)
  q : PySem.W.excIn K C [.type "ValueError", .type "Exception", .type "BaseException", .type "object"] "ValueError.__new__" = true
  k : PySem.W.keepIn K (.ref C) = true
  b : PySem.W.subIn K (.ref C) (.type "BaseException") = some true
  t : PySem.W.typeIn K (.ref C) = some (.type "type")
def XE0 (E : XK) (C : Addr) (H : Hp) : Prop := ∀ H' t, Gr [] H H' → H' t = some (.tup []) → E (.ref C) (some t) H'
theorem XE0.gr {E : XK} {C : Addr} {H H' : Hp} (h : XE0 E C H) (g : Gr [] H H') : XE0 E C H' := fun H2 t g2 e => h H2 t (g.trans g2) e
theorem XE0.now {E : XK} {C : Addr} {H : Hp} (h : XE0 E C H) : ∀ t, H t = none → E (.ref C) (some t) (upd H t (.tup [])) := fun t n => h _ t (Gr.new n) upd_same
section
variable {X : Cx} {W : WX} {C : Addr}
theorem ps_raiseC {x : Str} {p pos pos' : Pos} (B : XC X.K X.mg x C) (hc : X.calm = true) (tk : XA.Tk X W) (hg : Gl X x) (hdb : (x == ("__debug__" : Str)) = false := by decide) : PS X (.Raise (some (.Call (.Name x p) [] [] pos)) none pos') (fun _ σ H => ∀ t, H t = none → W (.ref C) (some t) σ (upd H t (.tup []))) :=
  XA.ps_raise0 hc tk PySem.F.excBase_ValueError B.q B.g B.k (raises_own B.b B.t) hg hdb
end
def spCheckSX (K : PySem.W.Frag) (T1 T2 T3 CB : Addr) : Sp := fun vs H Q E => ∃ (d : PyData) (v : V), vs = [v] ∧ Dp K H v d ∧ fewSc d ∧ GxR.TabG H T1 ∧ GxR.TabG H T2 ∧ GxR.TabG H T3 ∧ (schemaD d = true → ∀ H', Gr [] H H' → Q .non H') ∧ (schemaD d = false → XE0 E CB H)
end LW
set_option maxHeartbeats 2000000
namespace LW
open PySem PySem.Spec PyProof.Rows L2
def rTupOf (K : PySem.W.Frag) : List V → Hp → VK → Prop := fun xs H Q => ∃ p ys, xs = [.ref p] ∧ ((SqL K H p ys ∧ ∀ l, H l = none → Q (.ref l) (upd H l (.tup ys))) ∨ (SqT K H p ys ∧ Q (.ref p) H))
section
variable {K : PySem.W.Frag} {H : Hp}
theorem tupD {a : Addr} {xs : List V} {ds : List PyData} {Q : VK} (h : H a = some (.lst xs)) (hd : DpAll K H xs ds) (q : ∀ H' x, Gr [] H H' → Dp K H' x (.tuple ds) → Q x H') : rTupOf K [.ref a] H Q :=
  ⟨a, xs, rfl, .inl ⟨SqL.of h, fun l nl => q _ _ (Gr.new nl) (.tup (SqT.of upd_same) (hd.gr (Gr.new nl)))⟩⟩
theorem mk2 {x y : V} {d e : PyData} (h1 : Dp K H x d) (h2 : Dp K H y e) {p : Addr} (n : H p = none) : Dp K (upd H p (.tup [x, y])) (.ref p) (.tuple [d, e]) := .tup (SqT.of upd_same) (.cons (h1.gr (Gr.new n)) (.cons (h2.gr (Gr.new n)) .nil))
theorem mk1 {x : V} {d : PyData} (h1 : Dp K H x d) {p : Addr} (n : H p = none) : Dp K (upd H p (.tup [x])) (.ref p) (.tuple [d]) := .tup (SqT.of upd_same) (.cons (h1.gr (Gr.new n)) .nil)
theorem dp_two {v : V} {d e : PyData} (h : Dp K H v (.tuple [d, e])) : ∃ a x y, v = .ref a ∧ SqT K H a [x, y] ∧ Dp K H x d ∧ Dp K H y e := by
  obtain ⟨a, xs, rfl, hs, ha⟩ := h.tupI
  obtain ⟨x, y, rfl, h1, h2⟩ := dpAll_two ha
  exact ⟨a, x, y, rfl, hs, h1, h2⟩
structure LsD (K : PySem.W.Frag) (H0 H : Hp) (D : Addr) (ds : List PyData) : Prop where
  new : H0 D = none
  gr : Gr [] H0 H
  ex : ∃ xs, H D = some (.lst xs) ∧ DpAll K H xs ds
theorem LsD.start {D : Addr} (n : H D = none) : LsD K H (upd H D (.lst [])) D [] := ⟨n, Gr.new n, [], upd_same, .nil⟩
theorem LsD.step {H0 H' : Hp} {D : Addr} {ds : List PyData} (h : LsD K H0 H D ds) (g : Gr [] H H') : LsD K H0 H' D ds := by
  obtain ⟨xs, h1, h2⟩ := h.ex
  exact ⟨h.new, h.gr.trans g, xs, g.lst (by simp) h1, h2.gr g⟩
theorem LsD.put {H0 : Hp} {D : Addr} {ds : List PyData} {x : V} {d : PyData} {xs : List V} (h : LsD K H0 H D ds) (hp : pureAll ds = true) (hd : Dp K H x d) (hp1 : pure1 d = true) (e : H D = some (.lst xs)) : LsD K H0 (upd H D (.lst (xs ++ [x]))) D (ds ++ [d]) := by
  obtain ⟨ys, h1, h2⟩ := h.ex
  rw [e] at h1
  cases h1
  have gw : Gr [D] H (upd H D (.lst (xs ++ [x]))) := Gr.put e (fun _ z => by cases z) (by simp)
  have wl : ∀ b ∈ [D], ∃ ys, H b = some (.lst ys) := fun b hb => by rw [List.mem_singleton.mp hb]; exact ⟨_, e⟩
  exact ⟨h.new, h.gr.put0 h.new, xs ++ [x], upd_same, (dpAll_grm gw wl _ _ hp h2).append (.cons (dp_grm gw wl d _ hp1 hd) .nil)⟩
end
theorem pureAll_app : ∀ (a b : List PyData), pureAll (a ++ b) = (pureAll a && pureAll b)
  | [], b => rfl
  | x :: a, b => by rw [List.cons_append, pureAll, pureAll, pureAll_app a b, Bool.and_assoc]
theorem pureAll_iff {ds : List PyData} : pureAll ds = true ↔ ∀ d ∈ ds, pure1 d = true := by
  induction ds with
  | nil => simp [pureAll]
  | cons x ds ih => simp [pureAll, ih]
def mvR (k : Nat) (r : Rl) : Rl := (r.1, r.2.1 + k, r.2.2 + k)
def mvSt (k : Nat) (st : Bool × List Rl) : Bool × List Rl := (st.1, st.2.map (mvR k))
def mvS (k : Nat) (s : Sch) : Sch := s.map (mvSt k)
def spMoved (K : PySem.W.Frag) : Sp := fun vs H Q _ => ∃ (sv : V) (s : Sch) (k : Nat), vs = [sv, natV k] ∧ Dp K H sv (schD s) ∧ SchOk s ∧ ∀ H' x, Gr [] H H' → Dp K H' x (schD (mvS k s)) → Q x H'
end LW
set_option maxHeartbeats 2000000
namespace LW
open PySem PySem.Spec PyProof.Rows L2
def st0 (s : Sch) : Bool × List Rl := s.getD 0 (false, [])
def sumRs (s t : Sch) : List Rl := (st0 s).2.map (mvR 1) ++ (st0 t).2.map (mvR (1 + s.length))
def sumS (s t : Sch) (us : List Rl) : Sch := ((st0 s).1 || (st0 t).1, us) :: (mvS 1 s ++ mvS (1 + s.length) t)
def spAdded (K : PySem.W.Frag) (T1 T2 T3 CB CT : Addr) : Sp := fun vs H Q E => ∃ (v1 v2 : V) (d1 d2 : PyData), vs = [v1, v2] ∧ Dp K H v1 d1 ∧ Dp K H v2 d2 ∧ fewSc d1 ∧ fewSc d2 ∧ GxR.TabG H T1 ∧ GxR.TabG H T2 ∧ GxR.TabG H T3 ∧
  ((schemaD d1 = false ∧ XE0 E CB H) ∨ ∃ s, d1 = schD s ∧ SchOk s ∧ ((schemaD d2 = false ∧ XE0 E CB H) ∨ ∃ t, d2 = schD t ∧ SchOk t ∧ ∀ us, us.Perm (sumRs s t) → us.Pairwise (fun r t => ¬ rlLt t r) →
    (schemaD (schD (sumS s t us)) = true → ∀ H' x, Gr [] H H' → Dp K H' x (schD (sumS s t us)) → Q x H') ∧ (schemaD (schD (sumS s t us)) = false → XE0 E CT H)))
end LW
set_option maxHeartbeats 4000000
namespace LW
open PySem PySem.Spec PyProof.Rows L2
def rGeR (K : PySem.W.Frag) : R2 := fun x y H Q => ∃ (a b : Addr) (r t : Rl), x = .ref a ∧ y = .ref b ∧ SqT K H a [.int r.1, .int r.2.1, .int r.2.2] ∧ SqT K H b [.int t.1, .int t.2.1, .int t.2.2] ∧ Q (.bl (!SrtO.lex3 (rlK r) (rlK t))) H
theorem mul_zero (l : Addr) (items : Array Value) (n : Nat) (dd : Option Addr) (sl : Array (Option Value)) (u : Tok) (hi : items.isEmpty = false) :
    Meets (Builtin.«tuple.__mul__» ⟨[.ref l, .int 0 u], []⟩) (fun _ R s => s.heap.get? l = some { cls := .type "tuple", dict := dd, data := .seq items n, slots := sl } ∧ R (.ok (.ret (Value.ref s.heap.objs.size))) { s with heap := s.heap.push { cls := Value.type "tuple", data := Data.seq #[] }, toks := s.toks }) :=
  .of_wp fun prog w A R s h => by
    obtain ⟨hp, g, d, tk, os⟩ := s
    obtain ⟨hl, h⟩ := h
    have f1 := AutoSeq1.idx_int
    have c1 : (items.isEmpty || (0 : Int) == 1) = false := by rw [hi]; rfl
    have c2 : (decide ((0 : Int) ≤ 0) || items.isEmpty) = true := by simp
    wp_walk using wpAny_loadPart' hl
    repeat (first
      | (refine wpAny_ite_false (decide_eq_false (by rw [c1]; exact Bool.false_ne_true)) ?_; wp_walk using wpAny_loadPart' hl)
      | (refine wpAny_ite_true (decide_eq_true c2) ?_; wp_walk using wpAny_loadPart' hl))
    exact ⟨_, rfl, h⟩
theorem mul_one (l : Addr) (items : Array Value) (n : Nat) (dd : Option Addr) (sl : Array (Option Value)) (u : Tok) :
    Meets (Builtin.«tuple.__mul__» ⟨[.ref l, .int 1 u], []⟩) (fun _ R s => s.heap.get? l = some { cls := .type "tuple", dict := dd, data := .seq items n, slots := sl } ∧ R (.ok (.ret (Value.ref l))) s) :=
  .of_wp fun prog w A R s h => by
    obtain ⟨hp, g, d, tk, os⟩ := s
    obtain ⟨hl, h⟩ := h
    have f1 := AutoSeq1.idx_int
    have c1 : (items.isEmpty || (1 : Int) == 1) = true := by simp
    wp_walk using wpAny_loadPart' hl
    repeat (first
      | (refine wpAny_ite_true (decide_eq_true c1) ?_; wp_walk using wpAny_loadPart' hl))
    first
      | exact ⟨_, rfl, h⟩
      | exact h
def rRepA (K : PySem.W.Frag) : R2 := fun x y H Q => ∃ (l : Addr) (k : Nat) (xs : List V), x = .ref l ∧ y = .int (k : Int) ∧ SqT K H l xs ∧ xs ≠ [] ∧ k ≤ 1000 ∧ xs.length ≤ 1000 ∧ (k = 1 → Q (.ref l) H) ∧ (k ≠ 1 → ∀ p, H p = none → Q (.ref p) (upd H p (.tup (List.replicate k xs).flatten)))
theorem op_repA {X : Cx} : OpR X (binaryOp .Mult) (rRepA X.K) := by
  intro pins s σ H x y v u Q I rx ry h
  obtain ⟨l, k, xs, rfl, rfl, hT, hne, hk, hz, q1, q2⟩ := h
  by_cases k2 : 2 ≤ k
  · exact op_repT pins s σ H _ _ v u Q I rx ry ⟨l, k, xs, rfl, rfl, hT, hne, by omega, by omega, hz, q2 (by omega)⟩
  cases rx
  obtain ⟨t, rfl⟩ := ry
  obtain ⟨its, r, ⟨⟨cls, dd, data, sl⟩, ho, hc, n, hd⟩, hs⟩ := I.tuple hT
  simp only at hc hd
  subst hc hd
  have hle : its.length = xs.length := r.length.symm
  have hi : its.toArray.isEmpty = false := by
    cases its with
    | nil => exact absurd (List.eq_nil_of_length_eq_zero hle.symm) hne
    | cons a b => rfl
  refine wpAny_binaryOp_repeat_ref (T := "tuple") (U := "int") (by decide) ⟨_, ho, rfl⟩ (fun s' => typeIs_int s' _ t) noFill_tuple_mul F.fills_int_mul F.slot_int_rmul repeat_tuple F.slot_int_index.lookup
    (call_meets F.slot_int_rmul (typeIs_int s _ t) F.entry_int_rmul (F.args_int_rmul_2 _ _) (int_rmul_tuple _ t l its.toArray n dd sl) ⟨ho, rfl, ⟨_, ho, rfl⟩, ?_⟩)
  rcases Nat.lt_or_ge k 1 with h0 | h1
  · obtain rfl : k = 0 := by omega
    refine call_meets PySem.F.slot_tuple_mul ⟨_, ho, rfl⟩ PySem.F.entry_tuple_mul (PySem.F.args_tuple_mul_2 _ _) (mul_zero l its.toArray n dd sl t hi) ⟨ho, ?_⟩
    refine ⟨.ref s.heap.objs.size, _, I.laid (t' := s.toks) (o := .tup []) (fun b ob q => Heap.get?_push_of_some _ q) (Nat.le_refl _) ?_, rfl, q2 (by decide) _ (I.hok.fresh (Nat.le_refl _))⟩
    exact ⟨Nat.zero_le _, [], .nil, IsTup.new _ _⟩
  · obtain rfl : k = 1 := by omega
    exact call_meets PySem.F.slot_tuple_mul ⟨_, ho, rfl⟩ PySem.F.entry_tuple_mul (PySem.F.args_tuple_mul_2 _ _) (mul_one l its.toArray n dd sl t) ⟨ho, ⟨.ref l, H, I, rfl, q1 rfl⟩⟩
end LW
set_option maxHeartbeats 4000000
namespace LW
open PySem PySem.Spec PyProof.Rows L2
def spLabel : Sp := fun vs H Q _ => ∃ (bx cl : Addr), vs = [.ref bx] ∧ BoxAt H bx cl ∧ ∀ (a : Nat) H', a < 5 → Gr [bx] H H' → BoxAt H' bx cl → Q (natV a) H'
def spDocB (K : PySem.W.Frag) (n : Nat) : Sp := fun vs H Q _ => ∃ (bx cl : Addr) (m : Nat), vs = [.ref bx, natV m] ∧ BoxAt H bx cl ∧ m < n ∧ m ≤ 1000 ∧ ∀ (d : Doc) (v : V) H', d.lab = true → d.size = m → d.dep ≤ m → Gr [bx] H H' → BoxAt H' bx cl → Dp K H' v d.data → Q v H'
abbrev fiveL : List Int := [0, 1, 2, 3, 4]
def spSchB (K : PySem.W.Frag) : Sp := fun vs H Q _ => ∃ (bx cl : Addr) (most : Nat), vs = [.ref bx, natV most] ∧ BoxAt H bx cl ∧ 1 ≤ most ∧ most ≤ 60 ∧
  ∀ (s : Sch) (v : V) H', SchOk s → s.length ≤ most → (∀ st ∈ s, goodS fiveL s.length 4 st) → Gr [bx] H H' → BoxAt H' bx cl → Dp K H' v (schD s) → Q v H'
def DLs (K : PySem.W.Frag) (H : Hp) (xs : List V) (ds : List Doc) : Prop := DpAll K H xs (ds.map Doc.data)
def docN (m : Nat) (d : Doc) : Prop := d.lab = true ∧ d.size = m ∧ d.dep ≤ m
theorem flatMap_congr' {α β : Type} {f g : α → List β} : ∀ {l : List α}, (∀ x ∈ l, f x = g x) → l.flatMap f = l.flatMap g
  | [], _ => rfl
  | x :: l, h => by rw [List.flatMap_cons, List.flatMap_cons, h x (List.mem_cons_self ..), flatMap_congr' fun y hy => h y (List.mem_cons_of_mem _ hy)]
def rowB (ls : List Int) (tbl : List (List Doc)) : Nat → List Doc
  | 0 => [.nil]
  | n + 1 => stepD ls tbl (n + 1)
def spOfSize (K : PySem.W.Frag) : Sp := fun vs H Q _ => ∃ (ll kl : Addr) (ls : List Int) (n : Nat) (rows : List V) (tbl : List (List Doc)), vs = [.ref ll, .ref kl, natV n] ∧ H ll = some (.lst (ls.map V.int)) ∧ H kl = some (.lst rows) ∧ Paired (RowAt K H kl) rows tbl ∧ tbl.length = n ∧ n ≤ 100 ∧
  (rowB ls tbl n).length ≤ 10000 ∧ (∀ d ∈ tbl.flatten, d.len ≤ 1000) ∧ ∀ H' p ys, Gr [] H H' → H p = none → H' p = some (.lst ys) → DL K H' ys (rowB ls tbl n) → Q (.ref p) H'
def GrB (K : PySem.W.Frag) (ll kl : Addr) (n : Nat) (H' : Hp) (ds : List Doc) (σ : L2.St) (H2 : Hp) : Prop :=
  ∃ fa ys y4 y5 y6, σ = [some (.ref ll), some (.ref kl), some (natV n), some (.ref fa), y4, y5, y6, none] ∧ Gr [] H' H2 ∧ H' fa = none ∧ H2 fa = some (.lst ys) ∧ DL K H2 ys ds
def GrC (K : PySem.W.Frag) (ll kl : Addr) (n : Nat) (a : Int) (H' : Hp) (ds : List Doc) (σ : L2.St) (H2 : Hp) : Prop :=
  ∃ fa ys y5 y6, σ = [some (.ref ll), some (.ref kl), some (natV n), some (.ref fa), some (.int a), y5, y6, none] ∧ Gr [] H' H2 ∧ H' fa = none ∧ H2 fa = some (.lst ys) ∧ DL K H2 ys ds
def GrD (K : PySem.W.Frag) (ll kl : Addr) (n : Nat) (a : Int) (j : Nat) (H' : Hp) (ds : List Doc) (σ : L2.St) (H2 : Hp) : Prop :=
  ∃ fa ys y6, σ = [some (.ref ll), some (.ref kl), some (natV n), some (.ref fa), some (.int a), some (.int (0 + j)), y6, none] ∧ Gr [] H' H2 ∧ H' fa = none ∧ H2 fa = some (.lst ys) ∧ DL K H2 ys ds
def spDocsB (K : PySem.W.Frag) : Sp := fun vs H Q _ => ∃ (bx cl : Addr) (m : Nat), vs = [.ref bx, natV m] ∧ BoxAt H bx cl ∧ m ≤ 3 ∧
  ∀ H' p xs ds, Gr [bx] H H' → BoxAt H' bx cl → H p = none → H' p = some (.lst xs) → DLs K H' xs ds → ds.length ≤ 1000 → (∀ d ∈ ds, d.lab = true ∧ d.size ≤ 8 ∧ d.dep ≤ 8) → 0 < ds.length → Q (.ref p) H'
def spAllowsB (K : PySem.W.Frag) (k : Nat) : Sp := fun vs H Q _ => ∃ (sv dv : V) (s : Sch) (d : Doc), vs = [sv, dv] ∧ Dp K H sv (schD s) ∧ SchOk s ∧ Dp K H dv d.data ∧ d.lab = true ∧ d.dep < k ∧ d.size ≤ 1000 ∧ ∀ H', Gr [] H H' → Q (.bl ((setB s d).testBit 0)) H'
end LW
set_option maxHeartbeats 4000000
namespace LW
open PySem PySem.Spec PyProof.Rows L2
def tbls (ls : List Int) : Nat → List (List Doc)
  | 0 => []
  | i + 1 => tabD ls i
def rowL (ls : List Int) (i : Nat) : Nat := (rowB ls (tbls ls i) i).length
end LW
set_option maxHeartbeats 4000000
namespace LW
open PySem PySem.Spec PyProof.Rows L2
def nRl (s : Sch) : Nat := (s.map (·.2.length)).sum
theorem iteFd {b : Bool} {A B : Prop} (h : b = false) (x : B) : if b = true then A else B := by rw [h]; exact iteF x
theorem iteTd {b : Bool} {A B : Prop} (h : b = true) (x : A) : if b = true then A else B := by rw [h]; exact iteT x
def spNumI : Sp := fun vs H Q _ => ∃ x lo hi : Int, vs = [.int x, .int lo, .int hi] ∧ Q (.bl (decide (lo ≤ x) && decide (x ≤ hi))) H
def spLSch (K : PySem.W.Frag) : Sp := fun vs H Q _ => ∃ (sv : V) (s : Sch), vs = [sv] ∧ Dp K H sv (schD s) ∧ SchOk s ∧ ∀ H', Gr [] H H' → Q (.bl true) H'
def mayRef (s t : Sch) : Bool := decide (60 < s.length + t.length + 1) || decide (2000 < 2 * (nRl s + nRl t))
def spMayRef (K : PySem.W.Frag) : Sp := fun vs H Q _ => ∃ (sv tv : V) (s t : Sch), vs = [sv, tv] ∧ Dp K H sv (schD s) ∧ Dp K H tv (schD t) ∧ SchOk s ∧ SchOk t ∧ ∀ H', Gr [] H H' → Q (.bl (mayRef s t)) H'
def chainS (m a : Nat) : Sch := (List.range (m - 1)).map (fun k => (false, [(a, m - 1, k + 1)])) ++ [(true, [])]
def wideS (m a : Nat) : Sch := (false, (List.range m).flatMap fun x => (List.range m).map fun y => (a, x, y)) :: List.replicate (m - 1) (true, [])
def spChain (K : PySem.W.Frag) : Sp := fun vs H Q _ => ∃ m a : Nat, vs = [natV m, natV a] ∧ 2 ≤ m ∧ m ≤ 60 ∧ ∀ H' x, Gr [] H H' → Dp K H' x (schD (chainS m a)) → Q x H'
def spWide (K : PySem.W.Frag) : Sp := fun vs H Q _ => ∃ m a : Nat, vs = [natV m, natV a] ∧ 2 ≤ m ∧ m ≤ 44 ∧ ∀ H' x, Gr [] H H' → Dp K H' x (schD (wideS m a)) → Q x H'
end LW
set_option maxHeartbeats 4000000
namespace LW
open PySem PySem.Spec PyProof.Rows L2
structure ClsF (K : PySem.W.Frag) (D0 D1 D2 D3 D4 C : Addr) (i : Nat) : Prop where
  lt : i < 5
  e : L2.ExcC K C
  s : PySem.W.findIn K (.ref C) "__str__" = some (some (.builtin "BaseException.__str__"))
  k0 : PySem.W.kitOne K (.ref C) (.ref D0) = some (decide (i = 0))
  k1 : PySem.W.kitOne K (.ref C) (.ref D1) = some (decide (i = 1))
  k2 : PySem.W.kitOne K (.ref C) (.ref D2) = some (decide (i = 2))
  k3 : PySem.W.kitOne K (.ref C) (.ref D3) = some (decide (i = 3))
  k4 : PySem.W.kitOne K (.ref C) (.ref D4) = some (decide (i = 4))
  v : PySem.W.kitOne K (.ref C) (.type "ValueError") = some true
def clsN (i : Nat) : Str := (["document", "schema", "transformation", "text", "much"] : List Str).getD i ""
def refD (n : Str) : PyData := .tuple [.str "refused", .str n]
def spClass (K : PySem.W.Frag) (D0 D1 D2 D3 D4 : Addr) : XA.SpE := fun a cls d vs H Q _ => ∃ (C : Addr) (i : Nat), vs = [.ref a] ∧ cls = .ref C ∧ ClsF K D0 D1 D2 D3 D4 C i ∧ (∃ t, d = some t ∧ H t = some (.tup [])) ∧ ∀ H' x, Gr [] H H' → Dp K H' x (refD (clsN i)) → Q x H'
def kindsD (i : Nat) : List PyData := [.bool (decide (i = 0)), .bool (decide (i = 1)), .bool (decide (i = 2)), .bool (decide (i = 3)), .bool (decide (i = 4))]
theorem kinds_count {i : Nat} (h : i < 5) : (kindsD i).countP (fun z => PyData.eqv z (.bool true)) = 1 := by
  have : i = 0 ∨ i = 1 ∨ i = 2 ∨ i = 3 ∨ i = 4 := by omega
  rcases this with rfl | rfl | rfl | rfl | rfl <;> rfl
theorem b_str : bootBuiltins "str" = some (.type "str") := by decide +kernel
theorem b_ValueError : bootBuiltins "ValueError" = some (.type "ValueError") := by decide +kernel
def Told (K : PySem.W.Frag) (Q : VK) (H : Hp) (d : PyData) : Prop := ∀ H' x, Gr [] H H' → Dp K H' x d → Q x H'
theorem Told.gr {K : PySem.W.Frag} {Q : VK} {H H1 : Hp} {d : PyData} (h : Told K Q H d) (g : Gr [] H H1) : Told K Q H1 d := fun H' x g' hx => h H' x (g.trans g') hx
def spTold12 (K : PySem.W.Frag) (T1 T2 T3 : Addr) : Sp := fun vs H Q _ => ∃ (v1 v2 : V) (d1 d2 : PyData), vs = [v1, v2] ∧ Dp K H v1 d1 ∧ Dp K H v2 d2 ∧ fewSc d1 ∧ fewSc d2 ∧ GxR.TabG H T1 ∧ GxR.TabG H T2 ∧ GxR.TabG H T3 ∧
  ((schemaD d1 = false ∧ Told K Q H (refD "schema")) ∨ ∃ s, d1 = schD s ∧ SchOk s ∧ ((schemaD d2 = false ∧ Told K Q H (refD "schema")) ∨ ∃ t, d2 = schD t ∧ SchOk t ∧ ∀ us, us.Perm (sumRs s t) → us.Pairwise (fun r t => ¬ rlLt t r) →
    (schemaD (schD (sumS s t us)) = true → Told K Q H (schD (sumS s t us))) ∧ (schemaD (schD (sumS s t us)) = false → Told K Q H (refD "much"))))
end LW
set_option maxHeartbeats 2000000
namespace LW
open PySem PySem.Spec PyProof.Rows L2
def spCheckDX (K : PySem.W.Frag) (T CD : Addr) : Sp := fun vs H Q E => ∃ (d : PyData) (v : V), vs = [v] ∧ Dp K H v d ∧ GxR.TabG H T ∧ (docD d = true → ∀ H', Gr [] H H' → Q .non H') ∧ (docD d = false → XE0 E CD H)
def spSetOfX (K : PySem.W.Frag) (T T1 T2 T3 CD CB : Addr) : Sp := fun vs H Q E => ∃ (v1 v2 : V) (d1 d2 : PyData), vs = [v1, v2] ∧ Dp K H v1 d1 ∧ Dp K H v2 d2 ∧ fewSc d1 ∧ GxR.TabG H T ∧ GxR.TabG H T1 ∧ GxR.TabG H T2 ∧ GxR.TabG H T3 ∧
  ((schemaD d1 = false ∧ XE0 E CB H) ∨ ∃ s, d1 = schD s ∧ SchOk s ∧ ((docD d2 = false ∧ XE0 E CD H) ∨ ∃ d : Doc, d2 = d.data ∧ d.ok ∧ ∀ H' p, Gr [] H H' → H p = none → H' p = some (.tup ((LB.mems (setB s d) s.length).map natV)) → Q (.ref p) H'))
def spAllowsX (K : PySem.W.Frag) (T T1 T2 T3 CD CB : Addr) : Sp := fun vs H Q E => ∃ (v1 v2 : V) (d1 d2 : PyData), vs = [v1, v2] ∧ Dp K H v1 d1 ∧ Dp K H v2 d2 ∧ fewSc d1 ∧ GxR.TabG H T ∧ GxR.TabG H T1 ∧ GxR.TabG H T2 ∧ GxR.TabG H T3 ∧
  ((schemaD d1 = false ∧ XE0 E CB H) ∨ ∃ s, d1 = schD s ∧ SchOk s ∧ ((docD d2 = false ∧ XE0 E CD H) ∨ ∃ d : Doc, d2 = d.data ∧ d.ok ∧ ∀ H', Gr [] H H' → Q (.bl ((setB s d).testBit 0)) H'))
def spSizeX (K : PySem.W.Frag) (T CD : Addr) : Sp := fun vs H Q E => ∃ (d : PyData) (v : V), vs = [v] ∧ Dp K H v d ∧ GxR.TabG H T ∧ ((docD d = false ∧ XE0 E CD H) ∨ ∃ e : Doc, d = e.data ∧ e.ok ∧ ∀ H', Gr [] H H' → Q (.int e.size) H')
def spBeforeX (K : PySem.W.Frag) (T CD : Addr) : Sp := fun vs H Q E => ∃ (d1 d2 : PyData) (v u : V), vs = [v, u] ∧ Dp K H v d1 ∧ Dp K H u d2 ∧ GxR.TabG H T ∧
  ((docD d1 = false ∧ XE0 E CD H) ∨ ∃ d : Doc, d1 = d.data ∧ d.ok ∧ ((docD d2 = false ∧ XE0 E CD H) ∨ ∃ e : Doc, d2 = e.data ∧ e.ok ∧ ∀ H', Gr [] H H' → Q (.int (cmpL d.ord e.ord)) H'))
def spClassT (K : PySem.W.Frag) (D0 D1 D2 D3 D4 : Addr) : XA.SpE := fun a cls d vs H Q _ => ∃ (C : Addr) (i : Nat), vs = [.ref a] ∧ cls = .ref C ∧ ClsF K D0 D1 D2 D3 D4 C i ∧ ∀ H', Gr [] H H' → Q (.str (clsN i)) H'
end LW
set_option maxHeartbeats 4000000
namespace LW
open PySem PySem.Spec PyProof.Rows L2
section
variable {P : Program} {w : World} {K : PySem.W.Frag} {mg : Str → Option Value} {base : Heap} {f : Addr} {fd : FuncData}
theorem sc_check_documentX : FnScope ["d"] ["d"] (defScope s_check_document) := ⟨rfl, rfl, rfl, by decide +kernel, rfl, by decide +kernel, by decide +kernel⟩
theorem ok_checkDX {T CD : Addr} (F : Fun K "check_document" "check_document" s_check_document f fd) (f1 : Fn P w K mg base CX0 6 "is_document" ["d"] (spIsDoc K T)) (B : XC K mg "BadDocument" CD) : FnOk P w K mg base (XA.CXA P w) 7 f fd ["d"] (spCheckDX K T CD) := by
  refine F.okA sc_check_documentX (fun vs H Q E h => ?_) (fun cdv A outer s H vs Q E hr tk h => ?_)
  · obtain ⟨d, v, rfl, _⟩ := h; rfl
  obtain ⟨d, v, rfl, hd, hT, qy, qn⟩ := h
  refine ⟨_, pss_one (ps_if (pt_not (pt_val (pe_fn f1 hr rfl pass0 (pa_cons (pv 0) pa_nil)))) (pss_one (ps_raiseC B rfl tk rfl)) pss_nil), ?_⟩
  refine ⟨_, rfl, d, v, rfl, hd, hT, fun H' g => ⟨_, rfl, ?_⟩⟩
  cases e : docD d with
  | true => exact iteF (qy e H' g)
  | false => exact iteT ((qn e).gr g).now
end
end LW
set_option maxHeartbeats 4000000
namespace LW
open PySem PySem.Spec PyProof.Rows L2
theorem st_normS {t : TS} {D : Ends} {σ σ' : L2.St} {H : Hp} (e : σ = σ') (h : t D σ' H) : t D σ H := by rw [e]; exact h
section
variable {K : PySem.W.Frag} {σ : L2.St} {H0 : Hp}
def DX (K : PySem.W.Frag) (σ : L2.St) (H0 : Hp) (t : TE) (d : PyData) : Prop := ∀ (H1 : Hp) (Q : VK), Gr [] H0 H1 → (∀ H2 x, Gr [] H1 H2 → Dp K H2 x d → Q x H2) → t σ H1 Q
def DXs (K : PySem.W.Frag) (σ : L2.St) (H0 : Hp) (t : TA) (ds : List PyData) : Prop := ∀ (H1 : Hp) (Q : List V → Hp → Prop), Gr [] H0 H1 → (∀ H2 xs, Gr [] H1 H2 → DpAll K H2 xs ds → Q xs H2) → t σ H1 Q
def NX (K : PySem.W.Frag) (σ : L2.St) (H0 : Hp) (t : TE) (i : Int) : Prop := ∀ (H1 : Hp) (Q : VK), Gr [] H0 H1 → Q (.int i) H1 → t σ H1 Q
theorem DX.go {t : TE} {d : PyData} (h : DX K σ H0 t d) {H1 : Hp} {Q : VK} (g : Gr [] H0 H1) (k : ∀ H2 x, Gr [] H1 H2 → Dp K H2 x d → Q x H2) : t σ H1 Q := h H1 Q g k
theorem DX.gr {t : TE} {d : PyData} {H1 : Hp} (h : DX K σ H0 t d) (g : Gr [] H0 H1) : DX K σ H1 t d := fun H2 Q g2 k => h H2 Q (g.trans g2) k
theorem DX.int {i : Int} : DX K σ H0 (tC (.int i)) (.int i) := fun H1 Q g k => k H1 _ (Gr.refl _) (.int _)
theorem DX.bl {b : Bool} : DX K σ H0 (tC (.bl b)) (.bool b) := fun H1 Q g k => k H1 _ (Gr.refl _) (.bl _)
theorem DX.non : DX K σ H0 (tC .non) .none := fun H1 Q g k => k H1 _ (Gr.refl _) .non
theorem DX.str {x : Str} : DX K σ H0 (tC (.str x)) (.str x) := fun H1 Q g k => k H1 _ (Gr.refl _) (.str _)
theorem DX.nx {t : TE} {i : Int} (h : NX K σ H0 t i) : DX K σ H0 t (.int i) := fun H1 Q g k => h H1 Q g (k H1 _ (Gr.refl _) (.int _))
theorem DXs.nil : DXs K σ H0 tNil [] := fun H1 Q g k => k H1 [] (Gr.refl _) .nil
theorem DXs.cons {t : TE} {ts : TA} {d : PyData} {ds : List PyData} (h : DX K σ H0 t d) (hs : DXs K σ H0 ts ds) : DXs K σ H0 (tCons t ts) (d :: ds) := fun H1 Q g k =>
  h H1 _ g fun H2 x g2 hx => hs H2 _ (g.trans g2) fun H3 xs g3 hxs => k H3 _ (g2.trans g3) (.cons (hx.gr g3) hxs)
theorem DX.tup {t : TA} {ds : List PyData} (h : DXs K σ H0 t ds) (hl : ds.length ≤ 1000) : DX K σ H0 (tTup t) (.tuple ds) := fun H1 Q g k =>
  h H1 _ g fun H2 xs g2 hxs => ⟨by rw [hxs.length]; exact Nat.le_of_lt (small4 (by omega)), fun p np => k _ _ (g2.trans (Gr.new np)) (.tup (SqT.of upd_same) (hxs.gr (Gr.new np)))⟩
theorem DX.take {a b : TE} {ds : List PyData} {n : Nat} (ha : DX K σ H0 a (.tuple ds)) (hb : NX K σ H0 b (n : Int)) : DX K σ H0 (tSl (rSlA K) a tNoPart (tPart b)) (.tuple (ds.take n)) := fun H1 Q g k =>
  ha H1 _ g fun H2 x g2 hx => hb H2 _ (g.trans g2) ⟨_, rfl, take_data hx fun H3 y g3 hy => k H3 y (g2.trans g3) hy⟩
theorem DX.drop {a b : TE} {ds : List PyData} {n : Nat} {z : Int} (ha : DX K σ H0 a (.tuple ds)) (hb : NX K σ H0 b z) (e : z = (n : Int)) : DX K σ H0 (tSl (rSlA K) a (tPart b) tNoPart) (.tuple (ds.drop n)) := fun H1 Q g k =>
  ha H1 _ g fun H2 x g2 hx => hb H2 _ (g.trans g2) ⟨_, rfl, drop_data e hx fun H3 y g3 hy => k H3 y (g2.trans g3) hy⟩
theorem DX.ix {a b : TE} {ds : List PyData} {n : Nat} {z : Int} {d : PyData} (ha : DX K σ H0 a (.tuple ds)) (hb : NX K σ H0 b z) (e : z = (n : Int)) (hd : ds[n]? = some d) : DX K σ H0 (tOp (rIxT K) a b) d := fun H1 Q g k =>
  ha H1 _ g fun H2 x g2 hx => hb H2 _ (g.trans g2) (by
    obtain ⟨p, xs, rfl, hs, hxs⟩ := hx.tupI
    obtain ⟨y, hy, hyd⟩ := hxs.at hd
    exact ⟨p, xs, z, y, rfl, rfl, hs, atI_eq hy e, k _ _ g2 hyd⟩)
theorem NX.c {i : Int} : NX K σ H0 (tC (.int i)) i := fun H1 Q g k => k
theorem NX.len {a : TE} {ds : List PyData} (ha : ∀ (H1 : Hp) (Q : VK), Gr [] H0 H1 → (∀ x, Dp K H1 x (.tuple ds) → Q x H1) → a σ H1 Q) : NX K σ H0 (tCB (rLen K) (tCons a tNil)) (ds.length : Int) := fun H1 Q g k => ha H1 _ g fun x hx => by
  obtain ⟨p, xs, rfl, hs, hxs⟩ := hx.tupI
  exact ⟨p, xs, rfl, .inr hs, by rw [hxs.length]; exact k⟩
end
end LW
set_option maxHeartbeats 4000000
namespace LW
open PySem PySem.Spec PyProof.Rows L2
def badSt (n : Nat) (d : PyData) : Prop := stateD d n = false ∧ fewS d ∧ pure1 d = true
def badSc (d : PyData) : Prop := schemaD d = false ∧ fewSc d ∧ pure1 d = true
def spPickD (K : PySem.W.Frag) : Sp := fun vs H Q _ => ∃ (bx cl l : Addr) (xs : List V) (ds : List PyData), vs = [.ref bx, .ref l] ∧ BoxAt H bx cl ∧ l ≠ bx ∧ H l = some (.lst xs) ∧ DpAll K H xs ds ∧ pureAll ds = true ∧ 0 < ds.length ∧ ds.length ≤ 1000 ∧ ∀ d x H', d ∈ ds → Dp K H' x d → Gr [bx] H H' → BoxAt H' bx cl → Q x H'
def spBadSch (K : PySem.W.Frag) : Sp := fun vs H Q _ => ∃ (bx cl : Addr) (sv : V) (s : Sch), vs = [.ref bx, sv] ∧ BoxAt H bx cl ∧ Dp K H sv (schD s) ∧ SchOk s ∧ ∀ d x H', badSc d → Gr [bx] H H' → BoxAt H' bx cl → Dp K H' x d → Q x H'
theorem pure1_tup {ds : List PyData} : pure1 (.tuple ds) = pureAll ds := by simp [pure1]
theorem pure_two {e r : PyData} (he : pure1 e = true) (hr : pure1 r = true) : pure1 (.tuple [e, r]) = true := by rw [pure1_tup, pureAll, pureAll, he, hr]; rfl
theorem pure_rls' (rs : List Rl) : pureAll (rs.map rlD) = true := pureAll_iff.mpr fun d hd => by obtain ⟨_, _, rfl⟩ := List.mem_map.mp hd; rfl
def oddL : List PyData := [.bool true, .bool false, .none, .str "0", .tuple [], .int (-1), .int 99]
abbrev zeros : List PyData := [.int 0, .int 0, .int 0]
def stsL (e rule : PyData) (R : List PyData) (k n : Nat) : List PyData :=
  [.tuple [.int 1, .tuple R], .tuple [.int 0, .tuple R], .tuple [.none, .tuple R], .tuple [e], .tuple [e, .tuple R, .int 0], .tuple [e, .none], .tuple [e, .str "a"],
   .tuple [e, .tuple (R.take k ++ [rule] ++ R.drop k)],
   .tuple [e, .tuple (R.take k ++ [.tuple [.int 5, .int 0, .int 0]] ++ R.drop k)],
   .tuple [e, .tuple (R.take k ++ [.tuple [.int 0, .int n, .int 0]] ++ R.drop k)],
   .tuple [e, .tuple (R.take k ++ [.tuple [.int 0, .int 0, .int n]] ++ R.drop k)],
   .tuple [e, .tuple (R.take k ++ [.tuple [.int 0, .int 0]] ++ R.drop k)],
   .tuple [e, .tuple (R.take k ++ [.int 0] ++ R.drop k)],
   .tuple [e, .tuple (R.take k ++ [.tuple [.int 0, .int 0, .int 0, .int 0]] ++ R.drop k)],
   .tuple [e, .tuple [.tuple [.int 0, .int 0, .int 0], .tuple [.int 0, .int 0, .int 0]]],
   .tuple [e, .tuple [.tuple [.int 1, .int 0, .int 0], .tuple [.int 0, .int 0, .int 0]]],
   .tuple [], .none, .int 0]
end LW
set_option maxHeartbeats 4000000
namespace LW
open PySem PySem.Spec PyProof.Rows L2
def Sits (s U : Sch) (k : Nat) : Prop := ∀ i st, s[i]? = some st → U[i + k]? = some (mvSt k st)
end LW
set_option maxHeartbeats 4000000
namespace LW
open PySem PySem.Spec PyProof.Rows L2
section
variable {K : PySem.W.Frag} {σ : L2.St} {H0 : Hp}
theorem LsD.gr0 {H H1 : Hp} {p : Addr} {ds : List PyData} (g : Gr [] H0 H) (h : LsD K H H1 p ds) : LsD K H0 H1 p ds := ⟨g.free _ h.new, g.trans h.gr, h.ex⟩
end
def rowA (a : Nat) : Nat → Doc
  | 0 => .nil
  | n + 1 => .cons a .nil (rowA a n)
def docG (d : PyData) : Prop := ∃ e : Doc, d = e.data ∧ e.lab = true ∧ e.size ≤ 100 ∧ e.dep ≤ 8
def spNear12 (K : PySem.W.Frag) (T1 T2 T3 : Addr) : Sp := fun vs H Q _ => ∃ (bx cl : Addr), vs = [.ref bx] ∧ BoxAt H bx cl ∧ GxR.TabG H T1 ∧ GxR.TabG H T2 ∧ GxR.TabG H T3 ∧ ∀ H', Gr [bx] H H' → BoxAt H' bx cl → Q (.bl true) H'
end LW
set_option maxHeartbeats 4000000
namespace LW
open PySem PySem.Spec PyProof.Rows L2
theorem showableAll_iff {ds : List PyData} : PyData.showableAll ds = true ↔ ∀ d ∈ ds, d.showable = true := by
  induction ds with
  | nil => simp [PyData.showableAll]
  | cons x ds ih => simp [PyData.showableAll, ih]
theorem leavesAll_iff {B : Nat} {ds : List PyData} : PyData.leavesShortAll B ds = true ↔ ∀ d ∈ ds, d.leavesShort B = true := by
  induction ds with
  | nil => simp [PyData.leavesShortAll]
  | cons x ds ih => simp [PyData.leavesShortAll, ih]
theorem canAll_iff {ds : List PyData} : PyData.canLayAll0 ds = true ↔ ∀ d ∈ ds, d.canLay0 = true := by
  induction ds with
  | nil => simp [PyData.canLayAll0]
  | cons x ds ih => simp [PyData.canLayAll0, ih]
theorem depthAll_le {ds : List PyData} {k : Nat} (h : ∀ d ∈ ds, d.depth ≤ k) : PyData.depthAll ds ≤ k := by
  induction ds with
  | nil => simp [PyData.depthAll]
  | cons x ds ih =>
    have h1 := h x (List.mem_cons_self ..)
    have h2 := ih fun d hd => h d (List.mem_cons_of_mem _ hd)
    simp only [PyData.depthAll]
    omega
theorem depth_tup_le {ds : List PyData} {k : Nat} (h : ∀ d ∈ ds, d.depth ≤ k) : (PyData.tuple ds).depth ≤ k + 1 := by
  have := depthAll_le h
  simp only [PyData.depth]
  omega
theorem show_nat {n : Nat} (h : n < 1000) : (PyData.int (n : Int)).showable = true := by
  show (decide (((n : Int)).natAbs.log2 < 1920)) = true
  exact decide_eq_true (Nat.lt_of_le_of_lt (Nat.log2_le_self n) (by omega))
structure Fine (d : PyData) (k b : Nat) : Prop where
  sh : d.showable = true
  lv : d.leavesShort 8 = true
  cl : d.canLay0 = true
  dp : d.depth ≤ k
  bk : d.bulk ≤ b
theorem Fine.nat {n : Nat} (h : n < 1000) : Fine (.int (n : Int)) 0 0 := ⟨show_nat h, short_nat h, rfl, Nat.le_refl _, Nat.le_refl _⟩
theorem Fine.bool (b : Bool) : Fine (.bool b) 0 0 := ⟨rfl, by cases b <;> rfl, rfl, Nat.le_refl _, Nat.le_refl _⟩
theorem Fine.mono {d : PyData} {k k' b b' : Nat} (h : Fine d k b) (h1 : k ≤ k') (h2 : b ≤ b') : Fine d k' b' := ⟨h.sh, h.lv, h.cl, by have := h.dp; omega, by have := h.bk; omega⟩
theorem bulkAll_le {ds : List PyData} {b : Nat} (h : ∀ d ∈ ds, d.bulk ≤ b) : PyData.bulkAll ds ≤ (b + 1) * ds.length := by
  induction ds with
  | nil => simp [PyData.bulkAll]
  | cons x ds ih =>
    have h1 := h x (List.mem_cons_self ..)
    have h2 := ih fun d hd => h d (List.mem_cons_of_mem _ hd)
    simp only [PyData.bulkAll, List.length_cons, Nat.mul_succ]
    omega
theorem Fine.tup {ds : List PyData} {k b n : Nat} (h : ∀ d ∈ ds, Fine d k b) (hn : ds.length ≤ n) : Fine (.tuple ds) (k + 1) ((b + 1) * n) := by
  refine ⟨?_, ?_, ?_, depth_tup_le fun d hd => (h d hd).dp, ?_⟩
  · simp only [PyData.showable]
    exact showableAll_iff.mpr fun d hd => (h d hd).sh
  · simp only [PyData.leavesShort]
    exact leavesAll_iff.mpr fun d hd => (h d hd).lv
  · simp only [PyData.canLay0]
    exact canAll_iff.mpr fun d hd => (h d hd).cl
  · simp only [PyData.bulk]
    exact Nat.le_trans (bulkAll_le fun d hd => (h d hd).bk) (Nat.mul_le_mul_left _ hn)
theorem Fine.shaped {d : PyData} {k b : Nat} (h : Fine d k b) (hk : k ≤ 64) : SeqAt.shaped d = true := by
  unfold SeqAt.shaped
  rw [h.cl, decide_eq_true (by have := h.dp; omega)]
  rfl
theorem Fine.show {d : PyData} {k b : Nat} (h : Fine d k b) (hk : k ≤ 64) (hb : b ≤ 2 ^ 20) : d.showable = true ∧ d.depth ≤ 64 ∧ d.shown.length ≤ sizeLine :=
  ⟨h.sh, by have := h.dp; omega, PyData.shown_fits_bulk (B := 8) (by decide) (by decide) h.lv (Nat.le_trans h.bk hb)⟩
abbrev treeA (a : Int) : PyData := .tuple [.int a, .tuple []]
end LW
set_option maxHeartbeats 4000000
namespace LW
open PySem PySem.Spec PyProof.Rows L2
def deepD : Nat → PyData
  | 0 => .tuple []
  | n + 1 => .tuple [.tuple [.int 0, deepD n]]
def badDoc (d : PyData) : Prop := docD d = false ∧ pure1 d = true
def badTr (t : PyData) : Prop := formT t 1 = false ∧ pure1 t = true
abbrev oddLb : List PyData := [.int 5, .int (-1), .bool true, .bool false, .none, .str "0", .tuple []]
abbrev leafD (a : Int) : PyData := .tuple [.int a, .tuple []]
def treesL (odd : PyData) : List PyData := [.tuple [odd, .tuple []], .tuple [.int 0], .tuple [.int 0, .tuple [], .tuple []], .tuple [.int 0, .int 0], .tuple [.int 0, .none], .tuple [.int 0, .str "1"], .tuple [.int 0, .tuple [.tuple [.int 1, .tuple [leafD 7]]]], .tuple [], .int 0, .none, .str "0", .tuple [.int 0, deepD 31]]
def badL : List PyData := [.tuple [.int 0, .tuple []], .none, .int 0, .str "0", .tuple (List.replicate 301 (leafD 0)), deepD 31, .tuple ([.tuple [.int 0, deepD 30]] ++ [leafD 0]), .tuple ([leafD 0] ++ [.tuple [.int 0, deepD 30]]),
  .tuple (List.replicate 3 (.tuple [.int 0, .tuple (List.replicate 10 (.tuple [.int 1, .tuple (List.replicate 10 (leafD 2))]))]))]
def spBadDoc (K : PySem.W.Frag) : Sp := fun vs H Q _ => ∃ (bx cl : Addr) (dv : V) (d : Doc), vs = [.ref bx, dv] ∧ BoxAt H bx cl ∧ Dp K H dv d.data ∧ d.len ≤ 900 ∧ ∀ dd x H', badDoc dd → Gr [bx] H H' → BoxAt H' bx cl → Dp K H' x dd → Q x H'
end LW
set_option maxHeartbeats 4000000
namespace LW
open PySem PySem.Spec PyProof.Rows L2
def noForm (d : PyData) : Prop := (∀ n, formD d n = false) ∧ pure1 d = true
def noTree (t : PyData) : Prop := (∀ n, formT t n = false) ∧ pure1 t = true
theorem noForm.doc {d : PyData} (h : noForm d) : docD d = false := by unfold docD; rw [h.1]; rfl
def spoiltL : List PyData := [leafD 5, leafD (-1), .tuple [.bool true, .tuple []], .tuple [.bool false, .tuple []], .tuple [.none, .tuple []], .tuple [.str "0", .tuple []], .tuple [.int 0, .none], .tuple [.int 0, .int 0], .tuple [.int 0, .str ""], .tuple [.int 0], .tuple [.int 0, .tuple [], .tuple []], .tuple [], .none, .int 0, .str "", .str "0",
  .tuple [.tuple [], .int 0], .tuple [.int 0, .tuple [.int 0]], .tuple [.int 0, .tuple [.tuple []]], .tuple [.int 0, .tuple [.tuple [leafD 0]]]]
def plainL : List PyData := [.none, .int 0, .str "", .str "0", .bool true, .int (-1)]
def spSpoilt (K : PySem.W.Frag) (k : Nat) : Sp := fun vs H Q _ => ∃ (bx cl : Addr) (dv : V) (d : Doc), vs = [.ref bx, dv] ∧ BoxAt H bx cl ∧ Dp K H dv d.data ∧ d.dep < k ∧ d.size ≤ 300 ∧ ∀ dd x H', noForm dd → Gr [bx] H H' → BoxAt H' bx cl → Dp K H' x dd → Q x H'
end LW
set_option maxHeartbeats 4000000
namespace LW
open PySem PySem.Spec PyProof.Rows L2
def numT (a : Int) : Str := Str.ofString (toString a)
def treeS (a : Int) (k : Doc) (ts : List Str) : Str := match k with
  | .nil => numT a
  | .cons _ _ _ => (((Str.empty ++ numT a) ++ ("(" : Str)) ++ Txt.join "" ts) ++ (")" : Str)
def textTs : Doc → List Str
  | .nil => []
  | .cons a k r => treeS a k (textTs k) :: textTs r
def textT (d : Doc) : Str := Txt.join "" (textTs d)
theorem textT_len (d : Doc) : (textT d).length = ((textTs d).map (·.length)).sum := by
  unfold textT Txt.join
  rw [size_glued]
  have : (("" : Str)).length = 0 := rfl
  rw [this, Nat.mul_zero, Nat.add_zero]
theorem numT_len {a : Int} (h : 0 ≤ a ∧ a < 5) : (numT a).length ≤ 1 := toString_length_le h.1 (by decide) (by omega)
theorem texts_len : ∀ d : Doc, d.lab = true → ((textTs d).map (·.length)).sum ≤ 3 * d.size
  | .nil, _ => Nat.zero_le _
  | .cons a k r, h => by
    simp only [Doc.lab, Bool.and_eq_true, decide_eq_true_eq] at h
    have h1 := texts_len k h.1.2
    have h2 := texts_len r h.2
    have hn := numT_len h.1.1
    have hk := textT_len k
    unfold textT at hk
    rw [textTs, List.map_cons, List.sum_cons, Doc.size]
    have e1 : (("(" : Str)).length = 1 := rfl
    have e2 : ((")" : Str)).length = 1 := rfl
    have e3 : (Str.empty).length = 0 := rfl
    cases k with
    | nil =>
      show (numT a).length + _ ≤ _
      omega
    | cons x y z =>
      show ((((Str.empty ++ numT a) ++ ("(" : Str)) ++ Txt.join "" (textTs (.cons x y z))) ++ (")" : Str)).length + _ ≤ _
      rw [Str.length_append, Str.length_append, Str.length_append, Str.length_append, hk, e1, e2, e3]
      omega
theorem textTs_at : ∀ (i : Nat) (d : Doc) (a : Int) (k : Doc), d.at i = some (a, k) → (textTs d)[i]? = some (treeS a k (textTs k))
  | _, .nil, _, _, h => by simp [Doc.at] at h
  | 0, .cons b l r, a, k, h => by
    simp [Doc.at] at h
    obtain ⟨rfl, rfl⟩ := h
    rfl
  | i + 1, .cons b l r, a, k, h => by
    have h' : r.at i = some (a, k) := h
    rw [textTs, List.getElem?_cons_succ]
    exact textTs_at i r a k h'
theorem textTs_len : ∀ d : Doc, (textTs d).length = d.len
  | .nil => rfl
  | .cons a k r => by rw [textTs, List.length_cons, textTs_len r]; simp only [Doc.len]
def spTextOf (K : PySem.W.Frag) (k : Nat) : Sp := fun vs H Q _ => ∃ (v : V) (d : Doc), vs = [v] ∧ Dp K H v d.data ∧ d.lab = true ∧ d.dep < k ∧ d.size ≤ 1000 ∧ ∀ H', Gr [] H H' → Q (.str (textT d)) H'
def spTreeText (K : PySem.W.Frag) (k : Nat) : Sp := fun vs H Q _ => ∃ (a : Int) (v : V) (d : Doc), vs = [.int a, v] ∧ (0 ≤ a ∧ a < 5) ∧ Dp K H v d.data ∧ d.lab = true ∧ d.dep < k ∧ d.size ≤ 1000 ∧ ∀ H', Gr [] H H' → Q (.str (treeS a d (textTs d))) H'
def spWrittenX (K : PySem.W.Frag) (T CD : Addr) : Sp := fun vs H Q E => ∃ (d : PyData) (v : V), vs = [v] ∧ Dp K H v d ∧ GxR.TabG H T ∧ ((docD d = false ∧ XE0 E CD H) ∨ ∃ e : Doc, d = e.data ∧ e.ok ∧ ∀ H', Gr [] H H' → Q (.str (textT e)) H')
end LW
set_option maxHeartbeats 4000000
namespace LW
open PySem PySem.Spec PyProof.Rows L2
section
variable {P : Program} {w : World} {K : PySem.W.Frag} {mg : Str → Option Value} {base : Heap} {f : Addr} {fd : FuncData}
theorem sc_text_of : FnScope ["d", "label", "kids"] ["d"] (defScope s_text_of) := ⟨rfl, rfl, rfl, by decide +kernel, rfl, by decide +kernel, by decide +kernel⟩
theorem sc_tree_text : FnScope ["label", "kids"] ["label", "kids"] (defScope s_tree_text) := ⟨rfl, rfl, rfl, by decide +kernel, rfl, by decide +kernel, by decide +kernel⟩
theorem ok_textOf {k j : Nat} (F : Fun K "text_of" "text_of" s_text_of f fd) (f_tree : Fn P w K mg base CX0 j "tree_text" ["label", "kids"] (spTreeText K k)) : FnOk P w K mg base CX0 (j + 1) f fd ["d"] (spTextOf K (k + 1)) := by
  refine F.ok sc_text_of (fun vs H Q E h => ?_) (fun cdv A outer s0 H vs Q E hr h => ?_)
  · obtain ⟨_, _, rfl, _⟩ := h; rfl
  obtain ⟨v, d, rfl, hd, hl, hk, hz, q⟩ := h
  have nd := sc_text_of.nd
  refine ⟨_, pss_one (ps_ret (pe_join pe_str (pe_lc (own := [("label", 1), ("kids", 2)]) (g := gTup K 2 (gCons (gName 1) (gCons (gName 2) gNil))) (tt := tYes) rfl nd (pi_tup (pv 0)) (blkOk_by (N := ["d", "label", "kids"]) (sc := defScope s_text_of) (own := [("label", 1), ("kids", 2)]) (by decide +kernel)) (fun s H C cl fp => pg_tup rfl (pgs_cons (pg_name (i := 1) nd rfl (.inl rfl)) (pgs_cons (pg_name (i := 2) nd rfl (.inl rfl)) pgs_nil))) (fun s H C cl fp => pts_nil) (fun s H C cl fp => pe_fn f_tree hr rfl pass0 (pa_cons (pv 1) (pa_cons (pv 2) pa_nil)))))), ?_⟩
  have hln := Doc.len_size d
  obtain ⟨da, dxs, rfl, hds, hda⟩ := hd.tupI
  have ldx := hda.length
  rw [Doc.ts_length] at ldx
  refine ⟨⟨_, rfl⟩, _, rfl, da, rfl, ⟨dxs, hds⟩, fun D nD => lc_tup (xs := dxs) (fun i H4 => Gr [] H H4 ∧ H4 D = some (.lst (((textTs d).take i).map V.str))) ⟨Gr.new nD, upd_same⟩ (fun i H4 _ hP => hP.1.sqT hds) (fun i x H4 hx hP => ?_) (fun H4 hP => ?_)⟩
  · obtain ⟨g4, hD⟩ := hP
    have hi : i < d.len := by have := (List.getElem?_eq_some_iff.mp hx).1; omega
    obtain ⟨lb, kd, hat, hts⟩ := Doc.at_of i d hi
    obtain ⟨x', hx', hxd⟩ := hda.at hts
    rw [hx'] at hx
    cases hx
    obtain ⟨tp, v1, v2, rfl, hst', h1, h2⟩ := dp_two (hxd.gr g4)
    have := h1.intI; subst this
    obtain ⟨hk1, hk2⟩ := Doc.at_size _ d lb kd hat
    obtain ⟨b0, b5, bl⟩ := Doc.lab_at _ d lb kd hat hl
    refine ⟨tp, _, rfl, hst', rfl, .int lb, [v2], rfl, v2, [], rfl, rfl, rfl, _, rfl, _, rfl, lb, v2, kd, rfl, ⟨b0, b5⟩, h2, bl, by omega, by omega, fun H5 g5 => ?_⟩
    have lt := textTs_len d
    refine ⟨_, g5.lst (by simp) hD, small4 (by rw [List.length_map, List.length_take]; omega), (g4.trans g5).put0 nD, ?_⟩
    rw [upd_same, List.take_add_one, textTs_at i d lb kd hat]
    simp
  · obtain ⟨g4, hD⟩ := hP
    have lt := textTs_len d
    rw [ldx, ← lt, List.take_length] at hD
    have hs := texts_len d hl
    have e0 : (("" : Str)).length = 0 := rfl
    refine ⟨_, D, textTs d, rfl, rfl, .inl (SqL.of hD), by rw [e0]; omega, ?_⟩
    exact q H4 g4
theorem ok_treeText {k j : Nat} (F : Fun K "tree_text" "tree_text" s_tree_text f fd) (f_text : Fn P w K mg base CX0 j "text_of" ["d"] (spTextOf K k)) (m_str : mg "str" = none) : FnOk P w K mg base CX0 (j + 1) f fd ["label", "kids"] (spTreeText K k) := by
  refine F.ok sc_tree_text (fun vs H Q E h => ?_) (fun cdv A outer s0 H vs Q E hr h => ?_)
  · obtain ⟨_, _, _, rfl, _⟩ := h; rfl
  obtain ⟨a, v, d, rfl, ha, hd, hl, hk, hz, q⟩ := h
  refine ⟨_, pss_one (ps_ret (pe_ifExp (pt_truth (pv 1) (by intro _; rfl)) (pe_joined (.cons (pe_fmt (pv 0)) (.cons pe_str (.cons (pe_fmt (pe_fn f_text hr rfl pass0 (pa_cons (pv 1) pa_nil))) (.cons pe_str .nil))))) (pe_callTy call_str_int (by rfl) m_str b_str (pa_cons (pv 0) pa_nil)))), ?_⟩
  have hlog : a.natAbs.log2 < 1920 := Nat.lt_of_le_of_lt (Nat.log2_le_self _) (by omega)
  obtain ⟨da, dxs, rfl, hds, hda⟩ := hd.tupI
  have ldx := hda.length
  rw [Doc.ts_length] at ldx
  refine ⟨_, rfl, !dxs.isEmpty, .inr (.inl ⟨dxs, hds, rfl⟩), ?_⟩
  cases d with
  | nil =>
    have : dxs = [] := List.eq_nil_of_length_eq_zero (by rw [ldx]; rfl)
    subst this
    exact iteF ⟨_, rfl, a, rfl, hlog, q H (Gr.refl H)⟩
  | cons x kd r =>
    have hpos : dxs.isEmpty = false := by
      cases dxs with
      | nil => simp [Doc.len] at ldx
      | cons y l => rfl
    rw [hpos]
    have hn := numT_len ha
    have hts := textT_len (.cons x kd r)
    have htl := texts_len (.cons x kd r) hl
    have e1 : (("(" : Str)).length = 1 := rfl
    have e2 : ((")" : Str)).length = 1 := rfl
    have e3 : (Str.empty).length = 0 := rfl
    have s1 : (Str.empty ++ numT a).length ≤ 1 := by rw [Str.length_append, e3]; omega
    have s2 : ((Str.empty ++ numT a) ++ ("(" : Str)).length ≤ 2 := by rw [Str.length_append, e1]; omega
    have s3 : (((Str.empty ++ numT a) ++ ("(" : Str)) ++ textT (.cons x kd r)).length ≤ 3002 := by rw [Str.length_append]; omega
    have s4 : ((((Str.empty ++ numT a) ++ ("(" : Str)) ++ textT (.cons x kd r)) ++ (")" : Str)).length ≤ 3003 := by rw [Str.length_append, e2]; omega
    refine iteT ⟨_, rfl, .inr ⟨a, rfl, hlog, ?_⟩⟩
    refine ⟨numT a, rfl, small_sz (by omega), ?_⟩
    refine ⟨"(", rfl, small_sz (by omega), ?_⟩
    refine ⟨_, rfl, .ref da, .cons x kd r, rfl, .tup hds hda, hl, hk, hz, fun H1 g1 => .inl ⟨_, rfl, small_sz (by omega), ?_⟩⟩
    refine ⟨textT (.cons x kd r), rfl, small_sz (by omega), ?_⟩
    refine ⟨")", rfl, small_sz (by omega), ?_⟩
    exact q H1 g1
theorem text_none {k : Nat} {f : Addr} {fd : FuncData} : FnOk P w K mg base CX0 k f fd ["d"] (spTextOf K 0) := by
  have no : ∀ vs H Q E, ¬ spTextOf K 0 vs H Q E := fun vs H Q E h => by
    obtain ⟨_, _, _, _, _, h, _⟩ := h
    exact absurd h (Nat.not_lt_zero _)
  exact ⟨fun vs H Q E h => absurd h (no vs H Q E), fun A outer s H args us vs Q E _ _ _ _ h => absurd h (no vs H Q E)⟩
theorem text_any {f2 : Addr} {fd2 : FuncData} (F : Fun K "text_of" "text_of" s_text_of f fd) (m : mg "text_of" = some (.ref f)) (b : Binds K fd ["d"] []) (F2 : Fun K "tree_text" "tree_text" s_tree_text f2 fd2) (m2 : mg "tree_text" = some (.ref f2)) (b2 : Binds K fd2 ["label", "kids"] []) (m_str : mg "str" = none) : ∀ k : Nat, Fn P w K mg base CX0 (2 * k + 1) "text_of" ["d"] (spTextOf K k)
  | 0 => ⟨f, fd, text_none, m, F.kp, b⟩
  | k + 1 => ⟨f, fd, ok_textOf F ⟨f2, fd2, ok_treeText F2 (text_any F m b F2 m2 b2 m_str k) m_str, m2, F2.kp, b2⟩, m, F.kp, b⟩
end
end LW
set_option maxHeartbeats 4000000
namespace LW
open PySem PySem.Spec PyProof.Rows L2
section
variable {P : Program} {w : World} {K : PySem.W.Frag} {mg : Str → Option Value} {base : Heap} {f : Addr} {fd : FuncData}
theorem sc_writtenX : FnScope ["d"] ["d"] (defScope s_written) := ⟨rfl, rfl, rfl, by decide +kernel, rfl, by decide +kernel, by decide +kernel⟩
theorem ok_writtenX {T CD : Addr} (F : Fun K "written" "written" s_written f fd) (f1 : Fn P w K mg base (XA.CXA P w) 70 "check_document" ["d"] (spCheckDX K T CD)) (f2 : Fn P w K mg base CX0 70 "text_of" ["d"] (spTextOf K 31)) : FnOk P w K mg base (XA.CXA P w) 71 f fd ["d"] (spWrittenX K T CD) := by
  refine F.okA sc_writtenX (fun vs H Q E h => ?_) (fun cdv A outer s0 H vs Q E hr tk h => ?_)
  · obtain ⟨d, v, rfl, _⟩ := h; rfl
  obtain ⟨d0, v, rfl, hd, hT, hcase⟩ := h
  refine ⟨_, pss_cons (ps_expr (pe_fn f1 hr rfl (XA.pass_in tk fun _ _ _ _ h => h) (pa_cons (pv 0) pa_nil))) (pss_one (ps_ret (pe_fn f2 hr rfl pass0 (pa_cons (pv 0) pa_nil)))), ?_⟩
  refine ⟨_, rfl, d0, v, rfl, hd, hT, fun e1 H1 g1 => ?_, fun e1 => ?_⟩
  · rcases hcase with ⟨z, _⟩ | ⟨d, rfl, ⟨h1, h2, h3⟩, q⟩
    · rw [z] at e1; cases e1
    exact ⟨_, rfl, v, d, rfl, hd.gr g1, h1, by omega, by omega, fun H2 g2 => q H2 (g1.trans g2)⟩
  · rcases hcase with ⟨_, x⟩ | ⟨d, rfl, ho, _⟩
    · exact x
    · rw [doc_ok ho] at e1; cases e1
end
end LW
set_option maxHeartbeats 2000000
namespace LW
open PySem PySem.Spec PyProof.Rows L2
abbrev Rel := Nat → Nat → Bool
def bitP (n x : Nat) : Rel := fun q r => decide (q < n) && decide (r < n) && x.testBit (q * n + r)
def numP (n : Nat) (P : Rel) : Nat := LB.mask (fun i => P (i / n) (i % n)) (n * n)
def joinP (n : Nat) (A B : Rel) : Rel := fun q r => (List.range n).any fun z => A q z && B z r
def idP (n : Nat) : Rel := fun q r => decide (q = r) && decide (q < n)
def joinN (n x y : Nat) : Nat := numP n (joinP n (bitP n x) (bitP n y))
def colB (n : Nat) : Nat := ((List.range n).map fun q => 2 ^ (q * n)).sum
end LW
set_option maxHeartbeats 2000000
namespace LW
open PySem PySem.Spec PyProof.Rows L2
abbrev Pr := Nat × Nat
def prsIx (n : Nat) (ps : List Pr) : List Nat := ps.map fun p => p.1 * n + p.2
def colN (n x z : Nat) : Nat := x / 2 ^ z &&& colB n
def rowN (n y z : Nat) : Nat := y / 2 ^ (z * n) &&& (2 ^ n - 1)
def jointF (n x y i : Nat) : Nat := (List.range i).foldl (fun acc z => acc ||| colN n x z * rowN n y z) 0
def prs (n : Nat) (P : Rel) : List Pr := (List.range n).flatMap fun q => ((List.range n).filter (P q)).map fun r => (q, r)
def prLt (p u : Pr) : Prop := p.1 < u.1 ∨ (p.1 = u.1 ∧ p.2 < u.2)
def allowN (t : Sch) (st x : Nat) : Bool := decide (rowN t.length x st &&& emptyB t ≠ 0)
def tpairs (t : Sch) (a x : Nat) : List Pr := ((ofLabel a (rulesFrom 0 t)).filter fun p => allowN t p.2.1 x).map fun p => (p.1, p.2.2)
def treeN (t : Sch) (a x : Nat) : Nat := numP t.length fun q r => decide ((q, r) ∈ tpairs t a x)
def idN (n : Nat) : Nat := numP n (idP n)
def mvN (t : Sch) : Doc → Nat
  | .nil => idN t.length
  | .cons a k r => joinN t.length (treeN t a.toNat (mvN t k)) (mvN t r)
def mvP (t : Sch) (d : Doc) : Rel := bitP t.length (mvN t d)
end LW
set_option maxHeartbeats 1000000
namespace LW
open PySem PySem.Spec PyProof.Rows L2
section
variable {X : Cx}
def tDcT (wi : TI) (g : TG) (tt : TT) (tk tv : TE) (vs : List Nat) : TE := fun τ G Q => wi τ G fun J G1 => ∀ D, G1 D = none → ∃ W : Nat → Nat → Hp → Prop,
  (∃ m, W 0 m (upd G1 D (.dT []))) ∧ ∀ i m G', W i m G' → (J.stop i G' ∧ Q (.ref D) G') ∨
    (J.go i G' ∧ ∃ Nx : Hp → Prop, (∀ G2, Nx G2 → ∃ m', m' < m ∧ W (i + 1) m' G2) ∧ ∀ x G2, J.yld i G' x G2 → g x (wipe τ vs) G2 fun τ2 G3 => wipe τ2 vs = wipe τ vs ∧ tt τ2 G3 fun b G4 =>
      if b = true then tk τ2 G4 fun y G5 => tv τ2 G5 fun z G6 => ∃ kvs kk tp, y = .ref tp ∧ G6 tp = some (.tup (List.map kV kk)) ∧ G6 D = some (.dT kvs) ∧ kvs.length < sizeLine ∧ Nx (upd G6 D (.dT (putK kvs kk z))) else Nx G4)
end
end LW
set_option maxHeartbeats 2000000
namespace LW
open PySem PySem.Spec PyProof.Rows L2
def fsM (t : Sch) (rl tr jn : Addr) : List (Str × V) := [("many", natV t.length), ("ends", natV (emptyB t)), ("rules", .ref rl), ("full_row", .int (2 ^ t.length - 1)), ("full_column", natV (colB t.length)), ("empty", natV (idN t.length)), ("trees", .ref tr), ("joints", .ref jn)]
structure MvTxt (K : PySem.W.Frag) (mg : Str → Option Value) (C : Addr) : Prop where
  cl : Cls K C
  n0 : NoAttr K C "many"
  n1 : NoAttr K C "ends"
  n2 : NoAttr K C "rules"
  n3 : NoAttr K C "full_row"
  n4 : NoAttr K C "full_column"
  n5 : NoAttr K C "empty"
  n6 : NoAttr K C "trees"
  n7 : NoAttr K C "joints"
  gC : mg "Moves" = some (.ref C)
section
variable {t : Sch} {rl tr jn : Addr}
end
structure MovesAt (K : PySem.W.Frag) (C : Addr) (H : Hp) (p rl tr jn : Addr) (t : Sch) (n : Nat) : Prop where
  ins : ∃ dx, H p = some (.ins C dx (fsM t rl tr jn))
  rules : ∃ H0 ls, RL K H0 H rl ls (rulesFrom 0 t)
  trees : ∃ kvs, H tr = some (.dT kvs) ∧ kvs.length ≤ n ∧ ∀ a x v, valV kvs (key2 a x) = some v → v = natV (treeN t a x)
  joints : ∃ kvs, H jn = some (.dT kvs) ∧ kvs.length ≤ n ∧ ∀ x y v, valV kvs (key2 x y) = some v → v = natV (joinN t.length x y)
  ne : tr ≠ jn
section
variable {K : PySem.W.Frag} {C p rl tr jn : Addr} {H H' : Hp} {t : Sch} {n : Nat}
theorem MovesAt.gr {m : List Addr} (h : MovesAt K C H p rl tr jn t n) (g : Gr m H H') (hm : Apart m H) (h1 : p ∉ m) (h2 : tr ∉ m) (h3 : jn ∉ m) : MovesAt K C H' p rl tr jn t n where
  ins := let ⟨dx, e⟩ := h.ins; ⟨dx, g.keep _ _ h1 e fun _ z => by cases z⟩
  rules := let ⟨H0, ls, e⟩ := h.rules; ⟨H0, ls, e.grA g hm⟩
  trees := let ⟨kvs, e, l, f⟩ := h.trees; ⟨kvs, g.keep _ _ h2 e (fun _ z => by cases z), l, f⟩
  joints := let ⟨kvs, e, l, f⟩ := h.joints; ⟨kvs, g.keep _ _ h3 e (fun _ z => by cases z), l, f⟩
  ne := h.ne
theorem MovesAt.gr0 (h : MovesAt K C H p rl tr jn t n) (g : Gr [] H H') : MovesAt K C H' p rl tr jn t n := h.gr g .nil (by simp) (by simp) (by simp)
theorem MovesAt.apart (h : MovesAt K C H p rl tr jn t n) : Apart [tr, jn] H := fun b hb o e => by
  obtain ⟨kvs, e1, _⟩ := h.trees
  obtain ⟨kvs2, e2, _⟩ := h.joints
  rcases List.mem_cons.mp hb with rfl | hb
  · rw [e1] at e; cases e; rfl
  · rw [List.mem_singleton.mp hb, e2] at e; cases e; rfl
theorem MovesAt.mono {k : Nat} (h : MovesAt K C H p rl tr jn t n) (le : n ≤ k) : MovesAt K C H p rl tr jn t k :=
  ⟨h.ins, h.rules, let ⟨kvs, e, l, f⟩ := h.trees; ⟨kvs, e, Nat.le_trans l le, f⟩, let ⟨kvs, e, l, f⟩ := h.joints; ⟨kvs, e, Nat.le_trans l le, f⟩, h.ne⟩
end
abbrev litM (t : Sch) : Prop := SchOk t ∧ t.length ≤ 31
def spMRow (K : PySem.W.Frag) (C : Addr) : Sp := fun vs H Q _ => ∃ (p rl tr jn dx : Addr) (t : Sch) (x z : Nat), vs = [.ref p, natV x, natV z] ∧ H p = some (.ins C dx (fsM t rl tr jn)) ∧ litM t ∧ Q (natV (rowN t.length x z)) H
def spMAllows (K : PySem.W.Frag) (C : Addr) : Sp := fun vs H Q _ => ∃ (p rl tr jn dx : Addr) (t : Sch) (z x : Nat), vs = [.ref p, natV z, natV x] ∧ H p = some (.ins C dx (fsM t rl tr jn)) ∧ litM t ∧ Q (.bl (allowN t z x)) H
def spMJoint (K : PySem.W.Frag) (C : Addr) : Sp := fun vs H Q _ => ∃ (p rl tr jn dx : Addr) (t : Sch) (x y : Nat), vs = [.ref p, natV x, natV y] ∧ H p = some (.ins C dx (fsM t rl tr jn)) ∧ litM t ∧ Q (natV (joinN t.length x y)) H
def spMJoined (K : PySem.W.Frag) (C : Addr) : Sp := fun vs H Q _ => ∃ (p rl tr jn : Addr) (t : Sch) (n x y : Nat), vs = [.ref p, natV x, natV y] ∧ MovesAt K C H p rl tr jn t n ∧ litM t ∧ n ≤ 9000000 ∧ ∀ H', Gr [jn] H H' → MovesAt K C H' p rl tr jn t (n + 1) → Q (natV (joinN t.length x y)) H'
def spMTree (K : PySem.W.Frag) (C : Addr) : Sp := fun vs H Q _ => ∃ (p rl tr jn : Addr) (t : Sch) (n a x : Nat), vs = [.ref p, natV a, natV x] ∧ MovesAt K C H p rl tr jn t n ∧ litM t ∧ n ≤ 9000000 ∧ a < 5 ∧ ∀ H', Gr [tr] H H' → MovesAt K C H' p rl tr jn t (n + 1) → Q (natV (treeN t a x)) H'
def spMAfter (K : PySem.W.Frag) (C : Addr) : Sp := fun vs H Q _ => ∃ (p rl tr jn : Addr) (t : Sch) (n a x y : Nat), vs = [.ref p, natV a, natV x, natV y] ∧ MovesAt K C H p rl tr jn t n ∧ litM t ∧ n + 2 ≤ 9000000 ∧ a < 5 ∧ ∀ H', Gr [tr, jn] H H' → MovesAt K C H' p rl tr jn t (n + 2) → Q (natV (joinN t.length (treeN t a x) y)) H'
def spMDoc (K : PySem.W.Frag) (C : Addr) (k : Nat) : Sp := fun vs H Q _ => ∃ (p rl tr jn : Addr) (t : Sch) (n : Nat) (d : Doc) (v : V), vs = [.ref p, v] ∧ MovesAt K C H p rl tr jn t n ∧ litM t ∧ Dp K H v d.data ∧ d.lab = true ∧ d.dep < k ∧ n + 2 * d.size ≤ 9000000 ∧
  ∀ H', Gr [tr, jn] H H' → MovesAt K C H' p rl tr jn t (n + 2 * d.size) → Q (natV (mvN t d)) H'
def spMoves (K : PySem.W.Frag) (C : Addr) : Sp := fun vs H Q _ => ∃ (p dx : Addr) (v : V) (t : Sch), vs = [.ref p, v] ∧ H p = some (.ins C dx []) ∧ Dp K H v (schD t) ∧ litM t ∧
  ∀ H' rl tr jn, Gr [p] H H' → MovesAt K C H' p rl tr jn t 0 → H tr = none → H jn = none → Q .non H'
def keyP (p : Pr) : List Key := key2 p.1 p.2
def fewM (H : Hp) (C p : Addr) (n : Nat) : Prop := ∃ dx fs, H p = some (.ins C dx fs) ∧ fs.lookup ("many" : Str) = some (natV n)
def okPrs (n : Nat) (ps : List Pr) : Prop := 0 < n ∧ n ≤ 31 ∧ ps.Nodup ∧ ∀ p ∈ ps, p.1 < n ∧ p.2 < n
def spBopL (K : PySem.W.Frag) (C : Addr) : Sp := fun vs H Q _ => ∃ (p l : Addr) (xs : List V) (n : Nat) (ps : List Pr), vs = [.ref p, .ref l] ∧ fewM H C p n ∧ SqL K H l xs ∧ DpAll K H xs (ps.map entD) ∧ okPrs n ps ∧ ∀ H', Gr [] H H' → Q (natV (numP n fun q r => decide ((q, r) ∈ ps))) H'
def spBopT (K : PySem.W.Frag) (C : Addr) : Sp := fun vs H Q _ => ∃ (p : Addr) (v : V) (n : Nat) (ps : List Pr), vs = [.ref p, v] ∧ fewM H C p n ∧ Dp K H v (.tuple (ps.map entD)) ∧ okPrs n ps ∧ ∀ H', Gr [] H H' → Q (natV (numP n fun q r => decide ((q, r) ∈ ps))) H'
def spBopD (K : PySem.W.Frag) (C : Addr) : Sp := fun vs H Q _ => ∃ (p d : Addr) (kvs : List (List Key × V)) (n : Nat) (ps : List Pr), vs = [.ref p, .ref d] ∧ fewM H C p n ∧ H d = some (.dT kvs) ∧ kvs.map (·.1) = ps.map keyP ∧ okPrs n ps ∧ ∀ H', Gr [] H H' → Q (natV (numP n fun q r => decide ((q, r) ∈ ps))) H'
def spPairsOf (K : PySem.W.Frag) (C : Addr) : Sp := fun vs H Q _ => ∃ (p rl tr jn dx : Addr) (t : Sch) (x : Nat), vs = [.ref p, natV x] ∧ H p = some (.ins C dx (fsM t rl tr jn)) ∧ litM t ∧ ∀ H' v, Gr [] H H' → Dp K H' v (.tuple ((prs t.length (bitP t.length x)).map entD)) → Q v H'
end LW
namespace LW
open PySem PySem.Spec PyProof.Rows L2
def prsTo (n : Nat) (P : Rel) (i : Nat) : List Pr := (List.range i).flatMap fun q => ((List.range n).filter (P q)).map fun r => (q, r)
def spMoveX (K : PySem.W.Frag) (T T1 T2 T3 CD CB : Addr) : Sp := fun vs H Q E => ∃ (v1 v2 : V) (d1 d2 : PyData), vs = [v1, v2] ∧ Dp K H v1 d1 ∧ Dp K H v2 d2 ∧ fewSc d1 ∧ GxR.TabG H T ∧ GxR.TabG H T1 ∧ GxR.TabG H T2 ∧ GxR.TabG H T3 ∧
  ((schemaD d1 = false ∧ XE0 E CB H) ∨ ∃ t, d1 = schD t ∧ litM t ∧ ((docD d2 = false ∧ XE0 E CD H) ∨ ∃ d : Doc, d2 = d.data ∧ d.ok ∧ ∀ H' x, Gr [] H H' → Dp K H' x (.tuple ((prs t.length (mvP t d)).map entD)) → Q x H'))
end LW
set_option maxHeartbeats 2000000
namespace LW
open PySem PySem.Spec PyProof.Rows L2
def prK (p : Pr) : Int × Int := ((p.1 : Int), (p.2 : Int))
def rSortE (K : PySem.W.Frag) : List V → Hp → VK → Prop := fun vs H Q => ∃ (a : Addr) (xs : List V) (ps : List Pr), vs = [V.ref a] ∧ SqL K H a xs ∧ DpAll K H xs (ps.map entD) ∧
  ∀ (us : List Pr) (ys : List V) (p : Addr), us.Perm ps → us.Pairwise (fun r t => ¬ prLt t r) → DpAll K H ys (us.map entD) → H p = none → Q (.ref p) (upd H p (.lst ys))
def keyE (h : Heap) : Value → Int × Int
  | .ref a => match h.get? a with
    | some ⟨_, _, .seq arr _, _⟩ => match arr.toList with
      | [.int x _, .int y _] => (x, y)
      | _ => (0, 0)
    | _ => (0, 0)
  | _ => (0, 0)
def prOf (k : Int × Int) : Pr := (k.1.toNat, k.2.toNat)
section
variable {X : Cx}
end
end LW
set_option maxHeartbeats 4000000
namespace LW
open PySem PySem.Spec PyProof.Rows L2
def allR (s : Sch) : List Rl := s.flatMap (·.2)
def cnt (s : Sch) (a : Nat) : Nat := (allR s).countP fun r => decide (r.1 = a)
def metN (s t : Sch) : Nat := ((List.range 5).map fun a => cnt s a * cnt t a).sum
def metRs (rs ts : List Rl) (m : Nat) : List Rl := rs.flatMap fun r => (ts.filter fun u => decide (r.1 = u.1)).map fun u => (r.1, r.2.1 * m + u.2.1, r.2.2 * m + u.2.2)
def pairsN (rs ts : List Rl) : Nat := (rs.map fun r => ts.countP fun u => decide (u.1 = r.1)).sum
def MetOk (s t V : Sch) : Prop := ∀ k u, V[k]? = some u → ∃ st tt, s[k / t.length]? = some st ∧ t[k % t.length]? = some tt ∧ u.1 = (st.1 && tt.1) ∧ u.2.Perm (metRs st.2 tt.2 t.length) ∧ u.2.Pairwise fun r t => ¬ rlLt t r
def lenM (t : Sch) (st : Bool × List Rl) (tt : Bool × List Rl) : Nat := pairsN st.2 tt.2
def mayRef13 (s t : Sch) : Bool := decide (60 < s.length * t.length) || decide (2000 < nRl s * nRl t)
def spByLab (K : PySem.W.Frag) : Sp := fun vs H Q _ => ∃ (sv : V) (s : Sch), vs = [sv] ∧ Dp K H sv (schD s) ∧ SchOk s ∧ ∀ H' p, Gr [] H H' → H p = none → H' p = some (.lst (((List.range 5).map (cnt s)).map natV)) → Q (.ref p) H'
def spManyMet (K : PySem.W.Frag) : Sp := fun vs H Q _ => ∃ (sv tv : V) (s t : Sch), vs = [sv, tv] ∧ Dp K H sv (schD s) ∧ Dp K H tv (schD t) ∧ SchOk s ∧ SchOk t ∧ ∀ H', Gr [] H H' → Q (natV (metN s t)) H'
def spMetRules (K : PySem.W.Frag) : Sp := fun vs H Q _ => ∃ (v1 v2 : V) (rs ts : List Rl) (m : Nat), vs = [v1, v2, natV m] ∧ Dp K H v1 (.tuple (rs.map rlD)) ∧ Dp K H v2 (.tuple (ts.map rlD)) ∧ m ≤ 60 ∧ (metRs rs ts m).length ≤ 2000 ∧ rs.length ≤ 2000 ∧ ts.length ≤ 2000 ∧
  ∀ (us : List Rl) H' x, us.Perm (metRs rs ts m) → us.Pairwise (fun r t => ¬ rlLt t r) → Gr [] H H' → Dp K H' x (.tuple (us.map rlD)) → Q x H'
structure Met (s t V : Sch) : Prop where
  ok : MetOk s t V
  len : V.length = s.length * t.length
  nr : V.map (·.2.length) = s.flatMap fun st => t.map fun tt => pairsN st.2 tt.2
def spMeet (K : PySem.W.Frag) (T1 T2 T3 CB CT : Addr) : Sp := fun vs H Q E => ∃ (v1 v2 : V) (d1 d2 : PyData), vs = [v1, v2] ∧ Dp K H v1 d1 ∧ Dp K H v2 d2 ∧ fewSc d1 ∧ fewSc d2 ∧ GxR.TabG H T1 ∧ GxR.TabG H T2 ∧ GxR.TabG H T3 ∧
  ((schemaD d1 = false ∧ XE0 E CB H) ∨ ∃ s, d1 = schD s ∧ SchOk s ∧ ((schemaD d2 = false ∧ XE0 E CB H) ∨ ∃ t, d2 = schD t ∧ SchOk t ∧
    ((60 < s.length * t.length ∨ 2000 < metN s t) → XE0 E CT H) ∧ (s.length * t.length ≤ 60 → metN s t ≤ 2000 → ∀ V H' x, Met s t V → Gr [] H H' → Dp K H' x (schD V) → Q x H')))
def spTold13 (K : PySem.W.Frag) (T1 T2 T3 : Addr) : Sp := fun vs H Q _ => ∃ (v1 v2 : V) (d1 d2 : PyData), vs = [v1, v2] ∧ Dp K H v1 d1 ∧ Dp K H v2 d2 ∧ fewSc d1 ∧ fewSc d2 ∧ GxR.TabG H T1 ∧ GxR.TabG H T2 ∧ GxR.TabG H T3 ∧
  ((schemaD d1 = false ∧ Told K Q H (refD "schema")) ∨ ∃ s, d1 = schD s ∧ SchOk s ∧ ((schemaD d2 = false ∧ Told K Q H (refD "schema")) ∨ ∃ t, d2 = schD t ∧ SchOk t ∧
    ((60 < s.length * t.length ∨ 2000 < metN s t) → Told K Q H (refD "much")) ∧ (s.length * t.length ≤ 60 → metN s t ≤ 2000 → ∀ V, Met s t V → Told K Q H (schD V))))
def spMayRef13 (K : PySem.W.Frag) : Sp := fun vs H Q _ => ∃ (sv tv : V) (s t : Sch), vs = [sv, tv] ∧ Dp K H sv (schD s) ∧ Dp K H tv (schD t) ∧ SchOk s ∧ SchOk t ∧ ∀ H', Gr [] H H' → Q (.bl (mayRef13 s t)) H'
end LW
set_option maxHeartbeats 2000000
namespace LW
open PySem PySem.Spec PyProof.Rows L2
def prsD (n : Nat) (P : Rel) : PyData := .tuple ((prs n P).map entD)
def addPr (l : List Pr) (p : Pr) : List Pr := if p ∈ l then l else l ++ [p]
def addAll {α : Type} (ok : α → Bool) (pr : α → Pr) (xs : List α) (acc : List Pr) : List Pr := xs.foldl (fun acc x => if ok x = true then addPr acc (pr x) else acc) acc
def joinL (bs : List Pr) (as : List Pr) (acc : List Pr) : List Pr := as.foldl (fun acc a => addAll (fun b : Pr => decide (b.1 = a.2)) (fun b => (a.1, b.2)) bs acc) acc
def treeL (al : Nat → Bool) (a : Nat) (t : Sch) (m : Nat) : List Pr := (List.range m).foldl (fun acc q => addAll (fun r : Rl => decide (r.1 = a) && al r.2.1) (fun r => (q, r.2.2)) ((t.getD q (false, [])).2) acc) []
def goodL (t : Sch) (ps : List Pr) : List Nat := (ps.filter fun p => (t.getD p.2 (false, [])).1).map (·.1)
def spLStay (K : PySem.W.Frag) : Sp := fun vs H Q _ => ∃ (v : V) (t : Sch), vs = [v] ∧ Dp K H v (schD t) ∧ litM t ∧ ∀ H' x, Gr [] H H' → Dp K H' x (prsD t.length (idP t.length)) → Q x H'
def spLJoin (K : PySem.W.Frag) : Sp := fun vs H Q _ => ∃ (v1 v2 : V) (n : Nat) (A B : Rel), vs = [v1, v2] ∧ Dp K H v1 (prsD n A) ∧ Dp K H v2 (prsD n B) ∧ 0 < n ∧ n ≤ 31 ∧ ∀ H' x, Gr [] H H' → Dp K H' x (prsD n (joinP n A B)) → Q x H'
def spLTreeM (K : PySem.W.Frag) : Sp := fun vs H Q _ => ∃ (v1 v2 : V) (t : Sch) (a X : Nat), vs = [v1, natV a, v2] ∧ Dp K H v1 (schD t) ∧ litM t ∧ Dp K H v2 (prsD t.length (bitP t.length X)) ∧ ∀ H' x, Gr [] H H' → Dp K H' x (prsD t.length (bitP t.length (treeN t a X))) → Q x H'
def spLMove (K : PySem.W.Frag) (k : Nat) : Sp := fun vs H Q _ => ∃ (v1 v2 : V) (t : Sch) (d : Doc), vs = [v1, v2] ∧ Dp K H v1 (schD t) ∧ litM t ∧ Dp K H v2 d.data ∧ d.lab = true ∧ d.dep < k ∧ ∀ H' x, Gr [] H H' → Dp K H' x (prsD t.length (mvP t d)) → Q x H'
def spTold18 (K : PySem.W.Frag) (T T1 T2 T3 : Addr) : Sp := fun vs H Q _ => ∃ (v1 v2 : V) (d1 d2 : PyData), vs = [v1, v2] ∧ Dp K H v1 d1 ∧ Dp K H v2 d2 ∧ fewSc d1 ∧ GxR.TabG H T ∧ GxR.TabG H T1 ∧ GxR.TabG H T2 ∧ GxR.TabG H T3 ∧
  ((schemaD d1 = false ∧ Told K Q H (refD "schema")) ∨ ∃ t, d1 = schD t ∧ litM t ∧ ((docD d2 = false ∧ Told K Q H (refD "document")) ∨ ∃ d : Doc, d2 = d.data ∧ d.ok ∧ Told K Q H (prsD t.length (mvP t d))))
end LW
set_option maxHeartbeats 2000000
namespace LW
open PySem PySem.Spec PyProof.Rows L2
mutual
theorem eqv_pure : ∀ d : PyData, pure1 d = true → PyData.eqv d d = true
  | .none, _ => by simp [PyData.eqv]
  | .bool b, _ => by simp [PyData.eqv]
  | .int i, _ => by simp [PyData.eqv]
  | .str x, _ => by simp [PyData.eqv]
  | .list ds, h => by simp [pure1] at h
  | .tuple ds, h => by
    have h' : pureAll ds = true := h
    simp only [PyData.eqv]
    exact eqvAll_pure ds h'
  | .dict _, h => by simp [pure1] at h
theorem eqvAll_pure : ∀ ds : List PyData, pureAll ds = true → PyData.eqvAll ds ds = true
  | [], _ => by simp [PyData.eqvAll]
  | d :: ds, h => by
    simp only [pureAll, Bool.and_eq_true] at h
    simp [PyData.eqvAll, eqv_pure d h.1, eqvAll_pure ds h.2]
end
def natsL (ns : List Nat) : List PyData := ns.map fun n : Nat => .int (n : Int)
def hitM (t : Sch) (q : Nat) (p : Pr) : Bool := decide (p.1 = q) && (t.getD p.2 (false, [])).1
def foundD (t : Sch) (e : Doc) : PyData := .tuple [e.data, prsD t.length (mvP t e)]
def lcScope : Expr → Scope
  | .ListComp _ _ sc _ => sc
  | .GeneratorExp _ _ sc _ => sc
  | _ => defScope (.Pass ⟨0, 0, 0, 0⟩)
def noE : Expr := .ListComp (.Name "" ⟨0, 0, 0, 0⟩) [] { kind := .function, names := [], isGenerator := false, isCoroutine := false } ⟨0, 0, 0, 0⟩
def noS : Stmt := .Pass ⟨0, 0, 0, 0⟩
def inBody : Stmt → Nat → Stmt
  | .FunctionDef _ _ b _ _ _ _ _ _ _, i => b.getD i noS
  | .For _ _ b _ _, i => b.getD i noS
  | .If _ b _ _, i => b.getD i noS
  | .While _ b _ _, i => b.getD i noS
  | _, _ => noS
def ifTest : Stmt → Expr
  | .If t _ _ _ => t
  | .Return (some e) _ => e
  | .Assign _ e _ => e
  | _ => noE
def cmpRight : Expr → Expr
  | .Compare _ _ cs _ => cs.getD 0 noE
  | _ => noE
def cmpLeft : Expr → Expr
  | .Compare l _ _ _ => l
  | _ => noE
def argE : Expr → Nat → Expr
  | .Call _ as _ _, i => as.getD i noE
  | _, _ => noE
end LW
set_option maxHeartbeats 2000000
namespace LW
open PySem PySem.Spec PyProof.Rows L2
def isStr (d : PyData) (x : Str) : Bool := match d with
  | .str y => decide (y = x)
  | _ => false
mutual
def tmF : PyData → Nat → Bool → Nat → Bool
  | .tuple ps, n, mf, lv => decide (lv ≤ 10) && tmAll ps n mf lv
  | _, _, _, _ => false
def tmP : PyData → Nat → Bool → Nat → Bool
  | .tuple [w, b, t], n, mf, lv => (isStr w "node" && belowD b 5) && tmF t n mf (lv + 1)
  | .tuple [w, q], n, mf, _ => mf && ((isStr w "in" || isStr w "next") && belowD q n)
  | _, _, _, _ => false
def tmAll : List PyData → Nat → Bool → Nat → Bool
  | [], _, _, _ => true
  | p :: ps, n, mf, lv => tmP p n mf lv && tmAll ps n mf lv
end
mutual
def tmSz : PyData → Nat
  | .tuple ps => tmSzA ps
  | _ => 0
def tmSzP : PyData → Nat
  | .tuple [_, _, t] => 1 + tmSz t
  | _ => 1
def tmSzA : List PyData → Nat
  | [] => 0
  | p :: ps => tmSzP p + tmSzA ps
end
mutual
def tmNd : PyData → Nat
  | .tuple ps => 1 + tmNdA ps
  | _ => 1
def tmNdP : PyData → Nat
  | .tuple [_, _, t] => 1 + tmNd t
  | _ => 1
def tmNdA : List PyData → Nat
  | [] => 0
  | p :: ps => tmNdP p + tmNdA ps
end
def partD (p : PyData) (n : Nat) (mf : Bool) : Bool := match p with
  | .tuple [w, b, _] => isStr w "node" && belowD b 5
  | .tuple [w, q] => mf && ((isStr w "in" || isStr w "next") && belowD q n)
  | _ => false
def tmKid : PyData → Option PyData
  | .tuple [_, _, t] => some t
  | _ => none
def isNode : PyData → Bool
  | .tuple [_, _, _] => true
  | _ => false
abbrev Wait := PyData × Nat × Bool
def wForm (n : Nat) (ws : List Wait) : Bool := ws.all fun p => tmF p.1 n p.2.2 p.2.1
def wSz (ws : List Wait) : Nat := (ws.map fun p => tmSz p.1).sum
def wNd (ws : List Wait) : Nat := (ws.map fun p => tmNd p.1).sum
def kidsW (ps : List PyData) (lv : Nat) (mf : Bool) : List Wait := (ps.filterMap tmKid).map fun t => (t, lv + 1, mf)
def goalT (n : Nat) (ws : List Wait) (many : Nat) : Bool := wForm n ws && decide (many + wSz ws ≤ 300)
theorem lay_mem {ds : List PyData} (h : PyData.canLayAll0 ds = true) : ∀ d ∈ ds, d.canLay0 = true := canAll_iff.mp h
theorem depth_mem : ∀ {ds : List PyData} {d : PyData}, d ∈ ds → d.depth ≤ PyData.depthAll ds
  | x :: ds, d, h => by
    rcases List.mem_cons.mp h with rfl | h
    · simp only [PyData.depthAll]; omega
    · have := depth_mem (ds := ds) h
      simp only [PyData.depthAll]; omega
abbrev Ch := PyData × PyData
abbrev St0 := PyData × List (List Ch)
def chD (c : Ch) : PyData := .tuple [c.1, c.2]
def rowCD (r : List Ch) : PyData := .tuple (r.map chD)
def st0D (s : St0) : PyData := .tuple [s.1, .tuple (s.2.map rowCD)]
def choicesD (d : PyData) (looks : Nat) : Bool := match d with
  | .tuple cs => !cs.isEmpty && cs.all (tupOfD · 2) && (match cs.getLast? with | some (.tuple [l, _]) => PyData.eqv l (.int (-1)) | _ => false) && cs.dropLast.all (fun c => match c with | .tuple [l, _] => belowD l looks | _ => false)
  | _ => false
def stateTD (d : PyData) (looks : Nat) : Bool := match d with
  | .tuple [_, .tuple cs] => decide (cs.length = 5) && cs.all (choicesD · looks)
  | _ => false
def waits (ss : List St0) : List Wait := ss.map (fun s => (s.1, 1, false)) ++ ss.flatMap fun s => s.2.flatten.map fun c => (c.2, 1, true)
def st0Of : PyData → St0
  | .tuple [e, .tuple cs] => (e, cs.map fun c => match c with | .tuple r => r.map (fun x => match x with | .tuple [a, b] => (a, b) | y => (y, y)) | _ => [])
  | d => (d, [])
theorem st0Of_st0D (s : St0) : st0Of (st0D s) = s := by
  obtain ⟨e, rs⟩ := s
  unfold st0D st0Of
  simp only [Prod.mk.injEq, true_and]
  rw [List.map_map]
  have : ∀ r : List Ch, ((fun c => match c with | .tuple r => r.map (fun x => match x with | .tuple [a, b] => (a, b) | y => (y, y)) | _ => []) ∘ rowCD) r = r := fun r => by
    simp only [Function.comp, rowCD, List.map_map]
    have e2 : ((fun x => match x with | PyData.tuple [a, b] => (a, b) | y => (y, y)) ∘ chD) = id := by funext c; rfl
    rw [e2, List.map_id]
  rw [show ((fun c => match c with | .tuple r => r.map (fun x => match x with | .tuple [a, b] => (a, b) | y => (y, y)) | _ => []) ∘ rowCD) = id from funext this, List.map_id]
def transD (d : PyData) : Bool := match d with
  | .tuple [.tuple lk, .tuple ss] => schemaD (.tuple lk) && decide (lk.length ≤ 8) && decide (1 ≤ ss.length) && decide (ss.length ≤ 12) && ss.all (stateTD · lk.length) && goalT ss.length (waits (ss.map st0Of)) 0
  | _ => false
def fewCh (d : PyData) : Prop := ∀ lk ss, d = .tuple [lk, .tuple ss] → ∀ st ∈ ss, ∀ e cs, st = .tuple [e, .tuple cs] → ∀ c ∈ cs, ∀ r, c = .tuple r → r.length ≤ 400
structure TrPre (d : PyData) : Prop where
  sh : SeqAt.shaped d = true
  few : fewCh d
  sc : ∀ lk ss, d = .tuple [lk, ss] → fewSc lk
def spIsPart (K : PySem.W.Frag) : Sp := fun vs H Q _ => ∃ (p : PyData) (v : V) (n : Nat) (mf : Bool), vs = [v, natV n, .bl mf] ∧ Dp K H v p ∧ SeqAt.shaped p = true ∧ ∀ H', Gr [] H H' → Q (.bl (partD p n mf)) H'
def Wt3 (K : PySem.W.Frag) (H0 H : Hp) (x : V) (p : Wait) : Prop := ∃ tp v, x = .ref tp ∧ H tp = some (.tup [v, natV p.2.1, .bl p.2.2]) ∧ Dp K H0 v p.1
theorem Wt3.gr {K : PySem.W.Frag} {H0 H H' : Hp} {m : List Addr} (g : Gr m H H') (hm : ∀ b ∈ m, ∃ ys, H b = some (.lst ys)) (x : V) (p : Wait) (h : Wt3 K H0 H x p) : Wt3 K H0 H' x p := by
  obtain ⟨tp, v, e, h1, h2⟩ := h
  exact ⟨tp, v, e, g.tup (fun z => by obtain ⟨ys, q⟩ := hm tp z; rw [h1] at q; cases q) h1, h2⟩
def spWaiting (K : PySem.W.Frag) : Sp := fun vs H Q _ => ∃ (v : V) (ss : List St0), vs = [v] ∧ Dp K H v (.tuple (ss.map st0D)) ∧ ss.length ≤ 12 ∧ (∀ s ∈ ss, s.2.length = 5 ∧ ∀ r ∈ s.2, r.length ≤ 400) ∧
  ∀ H' p xs, Gr [] H H' → H p = none → H' p = some (.lst xs) → Paired (Wt3 K H H') xs (waits ss) → Q (.ref p) H'
def spAreTm (K : PySem.W.Frag) (T : Addr) : Sp := fun vs H Q _ => ∃ (v : V) (ss : List St0), vs = [v] ∧ Dp K H v (.tuple (ss.map st0D)) ∧ ss.length ≤ 12 ∧ (∀ s ∈ ss, s.2.length = 5 ∧ ∀ r ∈ s.2, r.length ≤ 400) ∧ SeqAt.shaped (.tuple (ss.map st0D)) = true ∧ GxR.TabG H T ∧
  ∀ H', Gr [] H H' → Q (.bl (goalT ss.length (waits ss) 0)) H'
def spChoices (K : PySem.W.Frag) (T : Addr) : Sp := fun vs H Q _ => ∃ (v : V) (d : PyData) (n : Nat), vs = [v, natV n] ∧ Dp K H v d ∧ SeqAt.shaped d = true ∧ GxR.TabG H T ∧ ∀ H', Gr [] H H' → Q (.bl (choicesD d n)) H'
def spStateT (K : PySem.W.Frag) (T T' : Addr) : Sp := fun vs H Q _ => ∃ (v : V) (d : PyData) (n : Nat), vs = [v, natV n] ∧ Dp K H v d ∧ SeqAt.shaped d = true ∧ GxR.TabG H T ∧ GxR.TabG H T' ∧ ∀ H', Gr [] H H' → Q (.bl (stateTD d n)) H'
def rInDT (K : PySem.W.Frag) : R2 := fun x y H Q => ∃ d ds, Dp K H x d ∧ Dp K H y (.tuple ds) ∧ SeqAt.shaped d = true ∧ SeqAt.shaped (.tuple ds) = true ∧ Q (.bl (ds.any fun z => PyData.eqv z d)) H
def spIsTrans (K : PySem.W.Frag) (T1 T2 T3 T4 T5 T6 T7 : Addr) : Sp := fun vs H Q _ => ∃ (v : V) (d : PyData), vs = [v] ∧ Dp K H v d ∧ TrPre d ∧ Tbs [T1, T2, T3, T4, T5, T6, T7] H ∧ ∀ H', Gr [] H H' → Q (.bl (transD d)) H'
def spCheckT (K : PySem.W.Frag) (T1 T2 T3 T4 T5 T6 T7 CT : Addr) : Sp := fun vs H Q E => ∃ (d : PyData) (v : V), vs = [v] ∧ Dp K H v d ∧ TrPre d ∧ Tbs [T1, T2, T3, T4, T5, T6, T7] H ∧ (transD d = true → ∀ H', Gr [] H H' → Q .non H') ∧ (transD d = false → XE0 E CT H)
end LW
set_option maxHeartbeats 2000000
namespace LW
open PySem PySem.Spec PyProof.Rows L2
theorem Fn.weak {P : Program} {w : World} {K : PySem.W.Frag} {mg : Str → Option Value} {base : Heap} {CX : CXT} {k : Nat} {x : Str} {ps : List Str} {sp sp' : Sp} (F : Fn P w K mg base CX k x ps sp) (h : ∀ vs H Q E, sp' vs H Q E → sp vs H Q E) : Fn P w K mg base CX k x ps sp' := by
  obtain ⟨f, fd, ok, m, kk, b⟩ := F.ex
  exact ⟨f, fd, ⟨fun vs H Q E z => ok.1 vs H Q E (h vs H Q E z), fun A outer s H args us vs Q E a1 a2 a3 a4 z => ok.2 A outer s H args us vs Q E a1 a2 a3 a4 (h vs H Q E z)⟩, m, kk, b⟩
inductive Ki where
  | S | T | D | o
def preK : Ki → PyData → Prop
  | .S, d => fewSc d
  | .T, d => TrPre d
  | _, _ => True
def verK : Ki → PyData → Option Nat
  | .S, d => if schemaD d then none else some 1
  | .T, d => if transD d then none else some 2
  | .D, d => if docD d then none else some 0
  | .o, _ => none
def verd : List Ki → List PyData → Option Nat
  | k :: ks, d :: ds => match verK k d with
    | some i => some i
    | none => verd ks ds
  | _, _ => none
def preds : List Ki → List PyData → Prop
  | k :: ks, d :: ds => preK k d ∧ preds ks ds
  | _, _ => True
def dA (D0 D1 D2 : Addr) : Nat → Addr
  | 0 => D0
  | 1 => D1
  | _ => D2
def spChk (K : PySem.W.Frag) (Ts : List Addr) (D0 D1 D2 : Addr) (ks : List Ki) : Sp := fun vs H Q E => ∃ ds, ds.length = ks.length ∧ DpAll K H vs ds ∧ preds ks ds ∧ Tbs Ts H ∧ (verd ks ds = none → ∀ H', Gr [] H H' → Q .non H') ∧ (∀ i, verd ks ds = some i → XE0 E (dA D0 D1 D2 i) H)
def spDoor (K : PySem.W.Frag) (Ts : List Addr) (D0 D1 D2 : Addr) (ks : List Ki) : Sp := fun vs H _ E => ∃ ds i, ds.length = ks.length ∧ DpAll K H vs ds ∧ preds ks ds ∧ Tbs Ts H ∧ verd ks ds = some i ∧ XE0 E (dA D0 D1 D2 i) H
def doc9 (a : Int) : PyData := .tuple [.tuple [.int a, .tuple []]]
end LW
set_option maxHeartbeats 2000000
namespace LW
open PySem PySem.Spec PyProof.Rows L2
inductive Tm where
  | nil
  | node (b : Int) (t r : Tm)
  | ref (w : Bool) (p : Int) (r : Tm)
  deriving DecidableEq
def wrd (w : Bool) : Str := if w = true then "next" else "in"
def Tm.ts : Tm → List PyData
  | .nil => []
  | .node b t r => .tuple [.str "node", .int b, .tuple t.ts] :: r.ts
  | .ref w p r => .tuple [.str (wrd w), .int p] :: r.ts
def Tm.data (t : Tm) : PyData := .tuple t.ts
def Tm.parts : Tm → Nat
  | .nil => 0
  | .node _ t r => 1 + t.parts + r.parts
  | .ref _ _ r => 1 + r.parts
def Tm.dp : Tm → Nat
  | .nil => 0
  | .node _ t r => max (1 + t.dp) r.dp
  | .ref _ _ r => r.dp
def Tm.okT (n : Nat) (mf : Bool) : Tm → Bool
  | .nil => true
  | .node b t r => decide (0 ≤ b ∧ b < 5) && t.okT n mf && r.okT n mf
  | .ref _ p r => mf && decide (0 ≤ p ∧ p < n) && r.okT n mf
def Tm.app : Tm → Tm → Tm
  | .nil, e => e
  | .node b t r, e => .node b t (r.app e)
  | .ref w p r, e => .ref w p (r.app e)
def Tm.len : Tm → Nat
  | .nil => 0
  | .node _ _ r => r.len + 1
  | .ref _ _ r => r.len + 1
theorem Tm.ts_length : ∀ t : Tm, t.ts.length = t.len
  | .nil => rfl
  | .node _ _ r => by simp [Tm.ts, Tm.len, Tm.ts_length r]
  | .ref _ _ r => by simp [Tm.ts, Tm.len, Tm.ts_length r]
theorem Tm.app_ts : ∀ t u : Tm, (t.app u).ts = t.ts ++ u.ts
  | .nil, _ => rfl
  | .node _ _ r, u => by simp [Tm.app, Tm.ts, Tm.app_ts r u]
  | .ref _ _ r, u => by simp [Tm.app, Tm.ts, Tm.app_ts r u]
inductive Prt where
  | node (b : Int) (t : Tm)
  | ref (w : Bool) (p : Int)
def Tm.prts : Tm → List Prt
  | .nil => []
  | .node b t r => .node b t :: r.prts
  | .ref w p r => .ref w p :: r.prts
def prtD : Prt → PyData
  | .node b t => .tuple [.str "node", .int b, t.data]
  | .ref w p => .tuple [.str (wrd w), .int p]
def Prt.parts : Prt → Nat
  | .node _ t => 1 + t.parts
  | .ref _ _ => 1
def Prt.dp : Prt → Nat
  | .node _ t => 1 + t.dp
  | .ref _ _ => 0
def Prt.okT (n : Nat) (mf : Bool) : Prt → Bool
  | .node b t => decide (0 ≤ b ∧ b < 5) && t.okT n mf
  | .ref _ p => mf && decide (0 ≤ p ∧ p < n)
def Tm.of : List Prt → Tm
  | [] => .nil
  | .node b t :: r => .node b t (Tm.of r)
  | .ref w p :: r => .ref w p (Tm.of r)
theorem wrd_word (w : Bool) : (isStr (.str (wrd w)) "in" || isStr (.str (wrd w)) "next") = true := by cases w <;> decide
theorem belowD_eq (i : Int) (n : Nat) : belowD (.int i) n = decide (0 ≤ i ∧ i < n) := by
  show (decide (0 ≤ i) && decide (i < (n : Int))) = _
  rw [Bool.eq_iff_iff]; simp
theorem Tm.all_of (n : Nat) (mf : Bool) : ∀ (t : Tm) (lv : Nat), tmAll t.ts n mf lv = (t.okT n mf && decide (t.dp = 0 ∨ lv + t.dp ≤ 10))
  | .nil, lv => by simp [Tm.ts, tmAll, Tm.okT, Tm.dp]
  | .node b t r, lv => by
    have e : tmAll (Tm.node b t r).ts n mf lv = ((isStr (.str "node") "node" && belowD (.int b) 5) && (decide (lv + 1 ≤ 10) && tmAll t.ts n mf (lv + 1)) && tmAll r.ts n mf lv) := by
      show tmAll (.tuple [.str "node", .int b, .tuple t.ts] :: r.ts) n mf lv = _
      rw [tmAll, tmP, tmF]
    rw [e, Tm.all_of n mf t (lv + 1), Tm.all_of n mf r lv, show ((5 : Int)) = ((5 : Nat) : Int) from rfl, belowD_eq, show isStr (.str "node") "node" = true from rfl]
    simp only [Tm.okT, Tm.dp, Bool.true_and]
    rw [Bool.eq_iff_iff]
    simp only [Bool.and_eq_true, decide_eq_true_eq]
    constructor
    · rintro ⟨⟨h1, h2, h3, h4⟩, h5, h6⟩
      exact ⟨⟨⟨h1, h3⟩, h5⟩, decide_eq_true (by omega)⟩
    · rintro ⟨⟨⟨h1, h3⟩, h5⟩, h6⟩
      have h6' := of_decide_eq_true h6
      exact ⟨⟨h1, by omega, h3, by omega⟩, h5, by omega⟩
  | .ref w p r, lv => by
    have e : tmAll (Tm.ref w p r).ts n mf lv = ((mf && ((isStr (.str (wrd w)) "in" || isStr (.str (wrd w)) "next") && belowD (.int p) n)) && tmAll r.ts n mf lv) := by
      show tmAll (.tuple [.str (wrd w), .int p] :: r.ts) n mf lv = _
      rw [tmAll, tmP]
    rw [e, Tm.all_of n mf r lv, wrd_word, belowD_eq]
    simp only [Tm.okT, Tm.dp, Bool.true_and]
    ac_rfl
theorem Tm.form_of (n : Nat) (mf : Bool) (t : Tm) {lv : Nat} (h : lv ≤ 10) : tmF t.data n mf lv = (t.okT n mf && decide (lv + t.dp ≤ 10)) := by
  show (decide (lv ≤ 10) && tmAll t.ts n mf lv) = _
  rw [Tm.all_of, decide_eq_true h, Bool.true_and]
  congr 1
  exact decide_eq_decide.mpr (by omega)
theorem Tm.sz_of : ∀ t : Tm, tmSzA t.ts = t.parts
  | .nil => rfl
  | .node b t r => by
    show tmSzP (.tuple [.str "node", .int b, .tuple t.ts]) + tmSzA r.ts = _
    rw [tmSzP, tmSz, Tm.sz_of t, Tm.sz_of r]; rfl
  | .ref w p r => by
    show tmSzP (.tuple [.str (wrd w), .int p]) + tmSzA r.ts = _
    rw [Tm.sz_of r]; rfl
theorem Tm.pure_ts : ∀ t : Tm, pureAll t.ts = true
  | .nil => rfl
  | .node b t r => by
    show (pure1 (.tuple [.str "node", .int b, .tuple t.ts]) && pureAll r.ts) = true
    rw [Tm.pure_ts r, Bool.and_true]
    show (true && (true && (pureAll t.ts && true))) = true
    rw [Tm.pure_ts t]; rfl
  | .ref w p r => by
    show (pure1 (.tuple [.str (wrd w), .int p]) && pureAll r.ts) = true
    rw [Tm.pure_ts r]; rfl
abbrev TCh := Int × Tm
structure TSt where
  fin : Tm
  rows : List (List TCh)
structure Trn where
  looks : Sch
  sts : List TSt
def tchD (c : TCh) : PyData := .tuple [.int c.1, c.2.data]
def trowD (r : List TCh) : PyData := .tuple (r.map tchD)
def trowsD (rs : List (List TCh)) : PyData := .tuple (rs.map trowD)
def tstD (s : TSt) : PyData := .tuple [s.fin.data, trowsD s.rows]
def stsD (ss : List TSt) : PyData := .tuple (ss.map tstD)
def Trn.data (m : Trn) : PyData := .tuple [schD m.looks, stsD m.sts]
def rowOk (n looks : Nat) (r : List TCh) : Prop := ∃ ini t, r = ini ++ [(-1, t)] ∧ (∀ c ∈ ini, 0 ≤ c.1 ∧ c.1 < (looks : Int)) ∧ ∀ c ∈ r, c.2.okT n true = true ∧ c.2.dp ≤ 9
structure TStOk (n looks : Nat) (s : TSt) : Prop where
  fin : s.fin.okT n false = true ∧ s.fin.dp ≤ 9
  five : s.rows.length = 5
  rows : ∀ r ∈ s.rows, rowOk n looks r
def TSt.parts (s : TSt) : Nat := s.fin.parts + (s.rows.flatten.map fun c => c.2.parts).sum
structure TrnOk (m : Trn) : Prop where
  looks : SchOk m.looks
  eight : m.looks.length ≤ 8
  one : 1 ≤ m.sts.length
  twelve : m.sts.length ≤ 12
  sts : ∀ s ∈ m.sts, TStOk m.sts.length m.looks.length s
  few : (m.sts.map TSt.parts).sum ≤ 300
def st0T (s : TSt) : St0 := (s.fin.data, s.rows.map fun r => r.map fun c => (.int c.1, c.2.data))
theorem st0T_data (s : TSt) : st0D (st0T s) = tstD s := by
  obtain ⟨f, rs⟩ := s
  show PyData.tuple [f.data, .tuple ((rs.map fun r => r.map fun c => ((.int c.1, c.2.data) : Ch)).map rowCD)] = PyData.tuple [f.data, .tuple (rs.map trowD)]
  rw [List.map_map]
  congr 5
  funext r
  show PyData.tuple ((r.map fun c => ((.int c.1, c.2.data) : Ch)).map chD) = PyData.tuple (r.map tchD)
  rw [List.map_map]; rfl
theorem choices_ok {n looks : Nat} {r : List TCh} (h : rowOk n looks r) : choicesD (trowD r) looks = true := by
  obtain ⟨ini, t, rfl, hi, _⟩ := h
  show (!((ini ++ [((-1 : Int), t)]).map tchD).isEmpty && ((ini ++ [((-1 : Int), t)]).map tchD).all (tupOfD · 2) && (match ((ini ++ [((-1 : Int), t)]).map tchD).getLast? with | some (.tuple [l, _]) => PyData.eqv l (.int (-1)) | _ => false) && ((ini ++ [((-1 : Int), t)]).map tchD).dropLast.all (fun c => match c with | .tuple [l, _] => belowD l looks | _ => false)) = true
  rw [List.map_append, List.map_singleton]
  have e1 : (ini.map tchD ++ [tchD (-1, t)]).getLast? = some (tchD (-1, t)) := by simp
  have e2 : (ini.map tchD ++ [tchD (-1, t)]).dropLast = ini.map tchD := by simp
  have e3 : (ini.map tchD ++ [tchD (-1, t)]).all (tupOfD · 2) = true := by
    rw [List.all_eq_true]
    intro d hd
    rcases List.mem_append.mp hd with hd | hd
    · obtain ⟨c, _, rfl⟩ := List.mem_map.mp hd; rfl
    · rw [List.mem_singleton.mp hd]; rfl
  have e4 : (ini.map tchD ++ [tchD (-1, t)]).isEmpty = false := by cases ini <;> rfl
  rw [e1, e2, e3, e4]
  have e5 : PyData.eqv (.int (-1)) (.int (-1)) = true := by decide
  show (!false && true && PyData.eqv (.int (-1)) (.int (-1)) && _) = true
  rw [e5]
  show (true && (ini.map tchD).all _) = true
  rw [Bool.true_and, List.all_eq_true]
  intro d hd
  obtain ⟨c, hc, rfl⟩ := List.mem_map.mp hd
  show belowD (.int c.1) looks = true
  rw [belowD_eq]
  exact decide_eq_true (hi c hc)
theorem state_ok {n looks : Nat} {s : TSt} (h : TStOk n looks s) : stateTD (tstD s) looks = true := by
  show (decide ((s.rows.map trowD).length = 5) && (s.rows.map trowD).all (choicesD · looks)) = true
  rw [List.length_map, decide_eq_true h.five, Bool.true_and, List.all_eq_true]
  intro d hd
  obtain ⟨r, hr, rfl⟩ := List.mem_map.mp hd
  exact choices_ok (h.rows r hr)
theorem waits_T (ss : List TSt) : waits (ss.map st0T) = ss.map (fun s => (s.fin.data, 1, false)) ++ ss.flatMap fun s => s.rows.flatten.map fun c => (c.2.data, 1, true) := by
  unfold waits
  rw [List.map_map, List.flatMap_map]
  congr 1
  refine flatMap_congr' fun s _ => ?_
  show ((s.rows.map fun r => r.map fun c => ((.int c.1, c.2.data) : Ch)).flatten.map fun c => ((c.2, 1, true) : Wait)) = _
  rw [← List.map_flatten, List.map_map]
  rfl
theorem wSz_app (a b : List Wait) : wSz (a ++ b) = wSz a + wSz b := by simp [wSz]
theorem wSz_T (ss : List TSt) : wSz (waits (ss.map st0T)) = (ss.map TSt.parts).sum := by
  rw [waits_T, wSz_app]
  induction ss with
  | nil => rfl
  | cons s ss ih =>
    rw [List.map_cons, List.flatMap_cons, List.map_cons, List.sum_cons, ← ih, wSz_app]
    have e1 : wSz ((s.fin.data, 1, false) :: ss.map fun s => (s.fin.data, 1, false)) = s.fin.parts + wSz (ss.map fun s => (s.fin.data, 1, false)) := by
      show tmSz s.fin.data + _ = _
      rw [show tmSz s.fin.data = s.fin.parts from Tm.sz_of _]; rfl
    have e2 : wSz (s.rows.flatten.map fun c => (c.2.data, 1, true)) = (s.rows.flatten.map fun c => c.2.parts).sum := by
      unfold wSz
      rw [List.map_map]
      congr 1
      refine List.map_congr_left fun c _ => ?_
      exact Tm.sz_of _
    rw [e1, e2]
    unfold TSt.parts
    omega
theorem wForm_T {n looks : Nat} {ss : List TSt} (h : ∀ s ∈ ss, TStOk n looks s) : wForm n (waits (ss.map st0T)) = true := by
  rw [waits_T]
  unfold wForm
  rw [List.all_append, Bool.and_eq_true, List.all_eq_true, List.all_eq_true]
  constructor
  · intro w hw
    obtain ⟨s, hs, rfl⟩ := List.mem_map.mp hw
    show tmF s.fin.data n false 1 = true
    rw [Tm.form_of n false s.fin (by decide), (h s hs).fin.1, Bool.true_and]
    exact decide_eq_true (by have := (h s hs).fin.2; omega)
  · intro w hw
    obtain ⟨s, hs, hw⟩ := List.mem_flatMap.mp hw
    obtain ⟨c, hc, rfl⟩ := List.mem_map.mp hw
    obtain ⟨r, hr, hc⟩ := List.mem_flatten.mp hc
    obtain ⟨_, _, _, _, hrow⟩ := (h s hs).rows r hr
    obtain ⟨k1, k2⟩ := hrow c hc
    show tmF c.2.data n true 1 = true
    rw [Tm.form_of n true c.2 (by decide), k1, Bool.true_and]
    exact decide_eq_true (by omega)
theorem st0s_T (ss : List TSt) : (ss.map tstD).map st0Of = ss.map st0T := by
  rw [List.map_map]
  refine List.map_congr_left fun s _ => ?_
  show st0Of (tstD s) = _
  rw [← st0T_data, st0Of_st0D]
theorem trans_eq (lk : Sch) (ss : List PyData) : transD (.tuple [schD lk, .tuple ss]) = (schemaD (schD lk) && decide (lk.length ≤ 8) && decide (1 ≤ ss.length) && decide (ss.length ≤ 12) && ss.all (stateTD · lk.length) && goalT ss.length (waits (ss.map st0Of)) 0) := by
  show (schemaD (schD lk) && decide ((lk.map stD).length ≤ 8) && _ && _ && ss.all (stateTD · (lk.map stD).length) && _) = _
  rw [List.length_map]
theorem TrnOk.trans {m : Trn} (h : TrnOk m) : transD m.data = true := by
  show transD (.tuple [schD m.looks, .tuple (m.sts.map tstD)]) = true
  rw [trans_eq, h.looks.data, decide_eq_true h.eight, List.length_map, decide_eq_true h.one, decide_eq_true h.twelve, st0s_T]
  have e : (m.sts.map tstD).all (stateTD · m.looks.length) = true := by
    rw [List.all_eq_true]
    intro d hd
    obtain ⟨s, hs, rfl⟩ := List.mem_map.mp hd
    exact state_ok (h.sts s hs)
  rw [e]
  unfold goalT
  rw [wForm_T h.sts, wSz_T]
  show (true && decide (0 + _ ≤ 300)) = true
  rw [Bool.true_and]
  exact decide_eq_true (by have := h.few; omega)
end LW
set_option maxHeartbeats 2000000
namespace LW
open PySem PySem.Spec PyProof.Rows L2
section
variable {K : PySem.W.Frag} {σ : L2.St} {H0 : Hp} {bx cl : Addr}
def BX (K : PySem.W.Frag) (σ : L2.St) (H0 : Hp) (bx cl : Addr) (t : TE) (P : PyData → Prop) : Prop := ∀ (H1 : Hp) (Q : VK), Gr [bx] H0 H1 → BoxAt H1 bx cl → (∀ H2 x d, Gr [bx] H1 H2 → BoxAt H2 bx cl → Dp K H2 x d → pure1 d = true → P d → Q x H2) → t σ H1 Q
def BXs (K : PySem.W.Frag) (σ : L2.St) (H0 : Hp) (bx cl : Addr) (t : TA) (P : List PyData → Prop) : Prop := ∀ (H1 : Hp) (Q : List V → Hp → Prop), Gr [bx] H0 H1 → BoxAt H1 bx cl → (∀ H2 xs ds, Gr [bx] H1 H2 → BoxAt H2 bx cl → DpAll K H2 xs ds → pureAll ds = true → P ds → Q xs H2) → t σ H1 Q
theorem BX.go {t : TE} {P : PyData → Prop} (h : BX K σ H0 bx cl t P) (hB : BoxAt H0 bx cl) {Q : VK} (k : ∀ H2 x d, Gr [bx] H0 H2 → BoxAt H2 bx cl → Dp K H2 x d → pure1 d = true → P d → Q x H2) : t σ H0 Q := h H0 Q (Gr.refl _) hB k
theorem BX.imp {t : TE} {P P' : PyData → Prop} (h : BX K σ H0 bx cl t P) (hi : ∀ d, P d → P' d) : BX K σ H0 bx cl t P' := fun H1 Q g hB k => h H1 Q g hB fun H2 x d g2 hB2 hx hp hP => k H2 x d g2 hB2 hx hp (hi d hP)
theorem BX.at {t : TE} {P : PyData → Prop} (h : BX K σ H0 bx cl t P) {H1 : Hp} (g : Gr [bx] H0 H1) : BX K σ H1 bx cl t P := fun H2 Q g2 hB k => h H2 Q (g.trans g2) hB k
theorem BX.c {v : V} {d : PyData} (h : ∀ H, Dp K H v d) (hp : pure1 d = true) : BX K σ H0 bx cl (tC v) (· = d) := fun H1 Q g hB k => k H1 v d (Gr.refl _) hB (h H1) hp rfl
theorem BX.int {i : Int} : BX K σ H0 bx cl (tC (.int i)) (· = .int i) := .c (fun _ => .int _) rfl
theorem BX.bl {b : Bool} : BX K σ H0 bx cl (tC (.bl b)) (· = .bool b) := .c (fun _ => .bl _) rfl
theorem BX.non : BX K σ H0 bx cl (tC .non) (· = .none) := .c (fun _ => .non) rfl
theorem BX.str {x : Str} : BX K σ H0 bx cl (tC (.str x)) (· = .str x) := .c (fun _ => .str _) rfl
theorem BXs.nil : BXs K σ H0 bx cl tNil (· = []) := fun H1 Q g hB k => k H1 [] [] (Gr.refl _) hB .nil rfl rfl
theorem BXs.cons {t : TE} {ts : TA} {P : PyData → Prop} {Ps : List PyData → Prop} (h : BX K σ H0 bx cl t P) (hs : BXs K σ H0 bx cl ts Ps) : BXs K σ H0 bx cl (tCons t ts) (fun ds => ∃ d ds', ds = d :: ds' ∧ P d ∧ Ps ds') := fun H1 Q g hB k =>
  h H1 _ g hB fun H2 x d g2 hB2 hx hp hP => hs H2 _ (g.trans g2) hB2 fun H3 xs ds g3 hB3 hxs hps hPs => k H3 (x :: xs) (d :: ds) (g2.trans g3) hB3 (.cons (dp_grm g3 hB2.lst _ _ hp hx) hxs) (by rw [pureAll, hp, hps]; rfl) ⟨d, ds, rfl, hP, hPs⟩
theorem BX.tup {t : TA} {Ps : List PyData → Prop} (h : BXs K σ H0 bx cl t Ps) (hl : ∀ ds, Ps ds → ds.length ≤ 1000) : BX K σ H0 bx cl (tTup t) (fun d => ∃ ds, d = .tuple ds ∧ Ps ds) := fun H1 Q g hB k =>
  h H1 _ g hB fun H2 xs ds g2 hB2 hxs hps hPs => ⟨by rw [hxs.length]; exact Nat.le_of_lt (small4 (by have := hl ds hPs; omega)), fun p np => k _ _ (.tuple ds) (g2.trans (Gr.new np)) (hB2.gr (Gr.new np)) (.tup (SqT.of upd_same) (hxs.gr (Gr.new np))) hps ⟨ds, rfl, hPs⟩⟩
theorem BX.tup2 {a b : TE} {A B : PyData → Prop} (ha : BX K σ H0 bx cl a A) (hb : BX K σ H0 bx cl b B) : BX K σ H0 bx cl (tTup (tCons a (tCons b tNil))) (fun d => ∃ x y, d = .tuple [x, y] ∧ A x ∧ B y) :=
  (BX.tup (.cons ha (.cons hb .nil)) (fun ds ⟨_, _, e, _, _, _, e2, _, e3⟩ => by rw [e, e2, e3]; simp)).imp fun d ⟨ds, e, x, ds', e2, hA, y, ds2, e3, hB, e4⟩ => ⟨x, y, by rw [e, e2, e3, e4], hA, hB⟩
theorem BX.tup3 {a b c : TE} {A B C : PyData → Prop} (ha : BX K σ H0 bx cl a A) (hb : BX K σ H0 bx cl b B) (hc : BX K σ H0 bx cl c C) : BX K σ H0 bx cl (tTup (tCons a (tCons b (tCons c tNil)))) (fun d => ∃ x y z, d = .tuple [x, y, z] ∧ A x ∧ B y ∧ C z) :=
  (BX.tup (.cons ha (.cons hb (.cons hc .nil))) (fun ds ⟨_, _, e, _, _, _, e2, _, _, _, e3, _, e4⟩ => by rw [e, e2, e3, e4]; simp)).imp fun d ⟨ds, e, x, ds', e2, hA, y, ds2, e3, hB, z, ds3, e4, hC, e5⟩ => ⟨x, y, z, by rw [e, e2, e3, e4, e5], hA, hB, hC⟩
theorem BX.take {bi : Nat} {a : TE} {m : Int} (hb : σ[bi]? = some (some (.ref bx))) (ha : ∀ (H1 : Hp) (Q : VK), Gr [bx] H0 H1 → Q (.int m) H1 → a σ H1 Q) (h0 : 0 < m) (h1 : m < 1073741824) : BX K σ H0 bx cl (tCall spTake [] E0 (tCons (tVar bi) (tCons a tNil))) (fun d => ∃ t : Nat, (t : Int) < m ∧ d = .int t) := fun H1 Q g hB k =>
  ⟨_, hb, ha H1 _ g ⟨bx, cl, m, rfl, h0, h1, hB, fun t H2 t0 t1 g2 hB2 => by
    obtain ⟨n, rfl⟩ : ∃ n : Nat, t = (n : Int) := ⟨t.toNat, by omega⟩
    exact k H2 _ _ g2 hB2 (.int _) rfl ⟨n, t1, rfl⟩⟩⟩
theorem BX.pickL {bi : Nat} {a : TA} {Ps : List PyData → Prop} (hb : σ[bi]? = some (some (.ref bx))) (ha : BXs K σ H0 bx cl a Ps) (hl : ∀ ds, Ps ds → 0 < ds.length ∧ ds.length ≤ 1000) : BX K σ H0 bx cl (tCall (spPickD K) [] E0 (tCons (tVar bi) (tCons (tLst a) tNil))) (fun d => ∃ ds, Ps ds ∧ d ∈ ds) := fun H1 Q g hB k =>
  ⟨_, hb, ha H1 _ g hB fun H2 xs ds g2 hB2 hxs hps hPs => ⟨by rw [hxs.length]; exact Nat.le_of_lt (small4 (by have := (hl ds hPs).2; omega)), fun p np => by
    have gp := Gr.new (m := []) (o := .lst xs) np
    refine ⟨bx, cl, p, xs, ds, rfl, hB2.gr gp, (hB2.ne np).1, upd_same, hxs.gr gp, hps, (hl ds hPs).1, (hl ds hPs).2, fun d x H3 hd hx g3 hB3 => ?_⟩
    exact k H3 x d (g2.trans (gp.any.trans g3)) hB3 hx (pureAll_iff.mp hps d hd) ⟨ds, hPs, hd⟩⟩⟩
theorem BXs.of {t : TA} {ds : List PyData} (h : DXs K σ H0 t ds) (hp : pureAll ds = true) (hB0 : BoxAt H0 bx cl) (hg : ∀ H1, Gr [bx] H0 H1 → DXs K σ H1 t ds) : BXs K σ H0 bx cl t (· = ds) := fun H1 Q g hB k =>
  hg H1 g H1 _ (Gr.refl _) fun H2 xs g2 hxs => k H2 xs ds g2.any (hB.gr g2) hxs hp rfl
theorem BX.set {t : TE} {P : PyData → Prop} {i : Nat} {rest : TS} {D : Ends} (h : BX K σ H0 bx cl t P) (hB : BoxAt H0 bx cl) (k : ∀ H2 x d, Gr [bx] H0 H2 → BoxAt H2 bx cl → Dp K H2 x d → pure1 d = true → P d → rest D (σ.set i (some x)) H2) : tSeq (tAsg t (gName i)) rest D σ H0 := by
  show t σ H0 (fun x H1 => rest D (σ.set i (some x)) H1)
  exact h.go hB k
end
structure BL (K : PySem.W.Frag) (H0 H : Hp) (bx cl D : Addr) (ds : List PyData) : Prop where
  new : H0 D = none
  nb : D ≠ bx
  nc : D ≠ cl
  box : BoxAt H bx cl
  gr : Gr [bx] H0 H
  pr : pureAll ds = true
  ex : ∃ xs, H D = some (.lst xs) ∧ DpAll K H xs ds
section
variable {K : PySem.W.Frag} {H0 H H2 : Hp} {bx cl D : Addr} {ds : List PyData}
theorem BL.start (hB : BoxAt H0 bx cl) (n : H0 D = none) : BL K H0 (upd H0 D (.lst [])) bx cl D [] :=
  ⟨n, (hB.ne n).1, (hB.ne n).2, hB.put (hB.ne n).1 (hB.ne n).2, Gr.new n, rfl, [], upd_same, .nil⟩
theorem BL.step (h : BL K H0 H bx cl D ds) (g : Gr [bx] H H2) (hB : BoxAt H2 bx cl) : BL K H0 H2 bx cl D ds := by
  obtain ⟨xs, e, hx⟩ := h.ex
  exact ⟨h.new, h.nb, h.nc, hB, h.gr.trans g, h.pr, xs, g.lst (by simpa using h.nb) e, dpAll_grm g h.box.lst _ _ h.pr hx⟩
theorem BL.put (h : BL K H0 H bx cl D ds) {x : V} {d : PyData} {xs : List V} (e : H D = some (.lst xs)) (hx : Dp K H x d) (hp : pure1 d = true) : BL K H0 (upd H D (.lst (xs ++ [x]))) bx cl D (ds ++ [d]) := by
  obtain ⟨xs', e', hxs⟩ := h.ex
  rw [e] at e'
  cases e'
  have gw : Gr [D] H (upd H D (.lst (xs ++ [x]))) := Gr.put e (fun _ z => by cases z) (by simp)
  have wl : ∀ b ∈ [D], ∃ ys, H b = some (.lst ys) := fun b hb => by rw [List.mem_singleton.mp hb]; exact ⟨_, e⟩
  exact ⟨h.new, h.nb, h.nc, h.box.put h.nb h.nc, h.gr.put0 h.new, by rw [pureAll_app, h.pr, pureAll, hp]; rfl, _, upd_same, DpAll.append (dpAll_grm gw wl _ _ h.pr hxs) (.cons (dp_grm gw wl _ _ hp hx) .nil)⟩
theorem BL.app {σ : L2.St} {li : Nat} {t : TE} {P : PyData → Prop} {Q : VK} (h : BL K H0 H bx cl D ds) (hl : σ[li]? = some (some (.ref D))) (ht : BX K σ H bx cl t P) (few : ds.length ≤ 90000) (k : ∀ H3 d, BL K H0 H3 bx cl D (ds ++ [d]) → P d → Q .non H3) : tBM K "list" rAppend (tVar li) (tCons t tNil) σ H Q := by
  obtain ⟨xs, e, hxs⟩ := h.ex
  refine ⟨_, hl, .inl ⟨rfl, xs, SqL.of e⟩, ht H _ (Gr.refl _) h.box fun H2 x d g2 hB2 hx hp hP => ?_⟩
  have h2 := h.step g2 hB2
  obtain ⟨ys, e2, hys⟩ := h2.ex
  have ly := hys.length
  exact ⟨D, ys, x, rfl, rfl, e2, small4 (by omega), k _ d (h2.put e2 hx hp) hP⟩
theorem BL.tuple {Q : VK} (h : BL K H0 H bx cl D ds) (few : ds.length ≤ 90000) (k : ∀ H3 x, Gr [bx] H0 H3 → BoxAt H3 bx cl → Dp K H3 x (.tuple ds) → pure1 (.tuple ds) = true → Q x H3) : rTupOf K [.ref D] H Q := by
  obtain ⟨xs, e, hxs⟩ := h.ex
  refine tupD e hxs fun H' x g hx => k H' x (h.gr.trans g.any) (h.box.gr g) hx h.pr
end
end LW
set_option maxHeartbeats 2000000
namespace LW
open PySem PySem.Spec PyProof.Rows L2
mutual
def wdB : PyData → Bool
  | .tuple ds => decide (ds.length ≤ 400) && wdAll ds
  | .list _ => false
  | .dict _ => false
  | _ => true
def wdAll : List PyData → Bool
  | [] => true
  | d :: ds => wdB d && wdAll ds
end
theorem wdAll_iff {ds : List PyData} : wdAll ds = true ↔ ∀ d ∈ ds, wdB d = true := by
  induction ds with
  | nil => simp [wdAll]
  | cons x ds ih => simp [wdAll, ih]
structure Neat (k : Nat) (d : PyData) : Prop where
  lay : d.canLay0 = true
  dp : d.depth ≤ k
  wd : wdB d = true
theorem Neat.mono {k j : Nat} {d : PyData} (h : Neat k d) (le : k ≤ j) : Neat j d := ⟨h.lay, Nat.le_trans h.dp le, h.wd⟩
theorem Neat.int (i : Int) : Neat 0 (.int i) := ⟨rfl, Nat.le_refl _, rfl⟩
theorem Neat.bool (b : Bool) : Neat 0 (.bool b) := ⟨rfl, Nat.le_refl _, rfl⟩
theorem Neat.none : Neat 0 .none := ⟨rfl, Nat.le_refl _, rfl⟩
theorem Neat.str {x : Str} (h : (PyData.str x).canLay0 = true) : Neat 0 (.str x) := ⟨h, Nat.le_refl _, rfl⟩
theorem Neat.tup {k : Nat} {ds : List PyData} (h : ∀ d ∈ ds, Neat k d) (hl : ds.length ≤ 400) : Neat (k + 1) (.tuple ds) := by
  refine ⟨?_, depth_tup_le fun d hd => (h d hd).dp, ?_⟩
  · simp only [PyData.canLay0]
    exact canAll_iff.mpr fun d hd => (h d hd).lay
  · simp only [wdB, Bool.and_eq_true, decide_eq_true_eq]
    exact ⟨hl, wdAll_iff.mpr fun d hd => (h d hd).wd⟩
theorem Neat.mem {k : Nat} {ds : List PyData} (h : Neat k (.tuple ds)) {d : PyData} (hd : d ∈ ds) : Neat k d := by
  refine ⟨lay_mem (by simpa [PyData.canLay0] using h.lay) d hd, ?_, ?_⟩
  · have := depth_mem hd
    have h2 := h.dp
    simp only [PyData.depth] at h2
    omega
  · have h2 := h.wd
    simp only [wdB, Bool.and_eq_true] at h2
    exact wdAll_iff.mp h2.2 d hd
theorem Neat.len {k : Nat} {ds : List PyData} (h : Neat k (.tuple ds)) : ds.length ≤ 400 := by
  have h2 := h.wd
  simp only [wdB, Bool.and_eq_true, decide_eq_true_eq] at h2
  exact h2.1
theorem Neat.few {k : Nat} {d : PyData} (h : Neat k d) : fewSc d := fun ss e s hs => by
  subst e
  intro e r e2
  subst e2
  have := h.mem hs
  intro rs e3
  subst e3
  have h3 := (this.mem (d := .tuple rs) (by simp)).len
  omega
theorem Neat.tup2 {k : Nat} {a b : PyData} (ha : Neat k a) (hb : Neat k b) : Neat (k + 1) (.tuple [a, b]) := .tup (fun d hd => by
  simp only [List.mem_cons, List.not_mem_nil, or_false] at hd
  rcases hd with rfl | rfl
  · exact ha
  · exact hb) (by simp)
theorem Neat.tup3 {k : Nat} {a b c : PyData} (ha : Neat k a) (hb : Neat k b) (hc : Neat k c) : Neat (k + 1) (.tuple [a, b, c]) := .tup (fun d hd => by
  simp only [List.mem_cons, List.not_mem_nil, or_false] at hd
  rcases hd with rfl | rfl | rfl
  · exact ha
  · exact hb
  · exact hc) (by simp)
def noCh (d : PyData) : Prop := ∀ looks, choicesD d looks = false
def endish (d : PyData) : Prop := ∀ ds, d = .tuple ds → ∀ x ∈ ds, noCh x
def badPart (n : Nat) (mf : Bool) (p : PyData) : Prop := tmP p n mf 1 = false ∧ noCh p ∧ Neat 5 p
def badEnd (n : Nat) (d : PyData) : Prop := tmF d n false 1 = false ∧ endish d ∧ Neat 12 d
def badRow (lk n : Nat) (d : PyData) : Prop := (choicesD d lk = false ∨ ∃ r : List Ch, d = rowCD r ∧ ∃ c ∈ r, tmF c.2 n true 1 = false) ∧ Neat 20 d
def badChs (lk n : Nat) (d : PyData) : Prop := ((∀ cs, d ≠ .tuple cs) ∨ ∃ cs, d = .tuple cs ∧ (cs.length ≠ 5 ∨ ∃ c ∈ cs, badRow lk n c)) ∧ Neat 30 d
def badTS (lk n : Nat) (st : PyData) : Prop := stateTD st lk = false ∨ wForm n (waits [st0Of st]) = false
section
variable {K : PySem.W.Frag} {σ : L2.St} {H0 : Hp} {bx cl : Addr}
def BA (K : PySem.W.Frag) (σ : L2.St) (H0 : Hp) (bx cl : Addr) (t : TA) (k : Nat) (P : PyData → Prop) : Prop := BXs K σ H0 bx cl t (fun ds => ds.length = k ∧ ∀ d ∈ ds, P d)
theorem BA.nil {P : PyData → Prop} : BA K σ H0 bx cl tNil 0 P := fun H1 Q g hB k => BXs.nil H1 Q g hB fun H2 xs ds g2 hB2 hx hp e => k H2 xs ds g2 hB2 hx hp ⟨by rw [e]; rfl, by rw [e]; simp⟩
theorem BA.cons {t : TE} {ts : TA} {P : PyData → Prop} {k : Nat} (h : BX K σ H0 bx cl t P) (hs : BA K σ H0 bx cl ts k P) : BA K σ H0 bx cl (tCons t ts) (k + 1) P := fun H1 Q g hB kk =>
  BXs.cons h hs H1 Q g hB fun H2 xs ds g2 hB2 hx hp ⟨d, ds', e, h1, h2, h3⟩ => kk H2 xs ds g2 hB2 hx hp ⟨by rw [e, List.length_cons, h2], fun x hm => by
    rw [e] at hm
    rcases List.mem_cons.mp hm with rfl | hm
    · exact h1
    · exact h3 x hm⟩
end
end LW
set_option maxHeartbeats 2000000
namespace LW
open PySem PySem.Spec PyProof.Rows L2
def pickT (x : Nat) (r : List TCh) : Tm := match r.dropLast.find? (fun c => x.testBit c.1.toNat) with
  | some c => c.2
  | none => (r.getLast?.map (·.2)).getD .nil
def spFirst (K : PySem.W.Frag) : Sp := fun vs H Q _ => ∃ (v : V) (r : List TCh) (n lk x : Nat), vs = [v, natV x] ∧ Dp K H v (trowD r) ∧ rowOk n lk r ∧ lk ≤ 60 ∧ r.length ≤ 1000 ∧ ∀ H' y, Gr [] H H' → Dp K H' y (pickT x r).data → Q y H'
end LW
namespace LW
open PySem PySem.Spec PyProof.Rows L2
structure ChTxt (K : PySem.W.Frag) (mg : Str → Option Value) (C : Addr) : Prop where
  cl : Cls K C
  nS : NoAttr K C "states"
  nE : NoAttr K C "ends"
  nC : NoAttr K C "chosen"
  gC : mg "Choosing" = some (.ref C)
def fsC (sv : V) (el ch : Addr) : List (Str × V) := [("states", sv), ("ends", .ref el), ("chosen", .ref ch)]
def tplL (ss : List TSt) (a x : Nat) : List Tm := ss.map fun s => pickT x (s.rows[a]?.getD [])
def endL (ss : List TSt) : List Tm := ss.map fun s => s.fin
structure ChAt (K : PySem.W.Frag) (C : Addr) (H : Hp) (p : Addr) (sv : V) (el ch : Addr) (ss : List TSt) (n : Nat) (av : List Addr) : Prop where
  ins : ∃ dx, H p = some (.ins C dx (fsC sv el ch))
  sts : Dp K H sv (stsD ss)
  ends : el ∉ av ∧ ∃ xs, H el = some (.lst xs) ∧ DpAll K H xs ((endL ss).map Tm.data)
  chosen : ch ∉ av ∧ ∃ kvs, H ch = some (.dT kvs) ∧ kvs.length ≤ n ∧ ∀ a x v, valV kvs (key2 a x) = some v → ∃ l xs, v = .ref l ∧ l ∉ av ∧ H l = some (.lst xs) ∧ DpAll K H xs ((tplL ss a x).map Tm.data)
section
variable {K : PySem.W.Frag} {C p el ch : Addr} {sv : V} {H H' : Hp} {ss : List TSt} {n : Nat} {av : List Addr}
theorem ChAt.gr {m : List Addr} (h : ChAt K C H p sv el ch ss n av) (g : Gr m H H') (hm : Apart m H) (h1 : p ∉ m) (h2 : ch ∉ m) : ChAt K C H' p sv el ch ss n av where
  ins := let ⟨dx, e⟩ := h.ins; ⟨dx, g.keep _ _ h1 e fun _ z => by cases z⟩
  sts := dp_gra g hm _ _ h.sts
  ends := let ⟨ne, xs, e1, e2⟩ := h.ends; ⟨ne, xs, g.lstA hm e1, dpAll_gra g hm _ _ e2⟩
  chosen := by
    obtain ⟨ne, kvs, e, l, f⟩ := h.chosen
    refine ⟨ne, kvs, g.keep _ _ h2 e (fun _ z => by cases z), l, fun a x v q => ?_⟩
    obtain ⟨l, xs, e1, nl, e2, e3⟩ := f a x v q
    exact ⟨l, xs, e1, nl, g.lstA hm e2, dpAll_gra g hm _ _ e3⟩
theorem ChAt.gr0 (h : ChAt K C H p sv el ch ss n av) (g : Gr [] H H') : ChAt K C H' p sv el ch ss n av := h.gr g .nil (by simp) (by simp)
theorem ChAt.apart (h : ChAt K C H p sv el ch ss n av) : Apart [ch] H := fun b hb o e => by
  obtain ⟨_, kvs, e1, _⟩ := h.chosen
  rw [List.mem_singleton.mp hb, e1] at e; cases e; rfl
theorem ChAt.mono {k : Nat} (h : ChAt K C H p sv el ch ss n av) (le : n ≤ k) : ChAt K C H p sv el ch ss k av :=
  ⟨h.ins, h.sts, h.ends, let ⟨ne, kvs, e, l, f⟩ := h.chosen; ⟨ne, kvs, e, Nat.le_trans l le, f⟩⟩
theorem tpl_pure (ts : List Tm) : pureAll (ts.map Tm.data) = true := pureAll_iff.mpr fun d hd => by
  obtain ⟨t, _, rfl⟩ := List.mem_map.mp hd
  exact (show pure1 t.data = true from t.pure_ts)
theorem sts_pureC (ss : List TSt) : pure1 (stsD ss) = true := pureAll_iff.mpr fun d hd => by
  obtain ⟨s, _, rfl⟩ := List.mem_map.mp hd
  refine pure_two (show pure1 s.fin.data = true from s.fin.pure_ts) (pureAll_iff.mpr fun d hd => ?_)
  obtain ⟨r, _, rfl⟩ := List.mem_map.mp hd
  refine pureAll_iff.mpr fun d hd => ?_
  obtain ⟨c, _, rfl⟩ := List.mem_map.mp hd
  exact pure_two rfl (show pure1 c.2.data = true from c.2.pure_ts)
theorem ChAt.grl {m : List Addr} (h : ChAt K C H p sv el ch ss n av) (g : Gr m H H') (hm : ∀ b ∈ m, ∃ ys, H b = some (.lst ys)) (sub : ∀ b ∈ m, b ∈ av) : ChAt K C H' p sv el ch ss n av where
  ins := let ⟨dx, e⟩ := h.ins; ⟨dx, g.keep _ _ (fun z => by obtain ⟨ys, y⟩ := hm p z; rw [e] at y; cases y) e fun _ z => by cases z⟩
  sts := dp_grm g hm _ _ (sts_pureC _) h.sts
  ends := let ⟨ne, xs, e1, e2⟩ := h.ends; ⟨ne, xs, g.lst (fun z => ne (sub _ z)) e1, dpAll_grm g hm _ _ (tpl_pure _) e2⟩
  chosen := by
    obtain ⟨ne, kvs, e, l, f⟩ := h.chosen
    refine ⟨ne, kvs, g.keep _ _ (fun z => ne (sub _ z)) e (fun _ z => by cases z), l, fun a x v q => ?_⟩
    obtain ⟨l, xs, e1, nl, e2, e3⟩ := f a x v q
    exact ⟨l, xs, e1, nl, g.lst (fun z => nl (sub _ z)) e2, dpAll_grm g hm _ _ (tpl_pure _) e3⟩
end
structure StsOk (n lk : Nat) (ss : List TSt) : Prop where
  few : ss.length ≤ 12
  sts : ∀ s ∈ ss, TStOk n lk s
  rfew : ∀ s ∈ ss, ∀ r ∈ s.rows, r.length ≤ 400
  lkn : lk ≤ 60
def spChoosing (K : PySem.W.Frag) (C : Addr) : Sp := fun vs H Q _ => ∃ (p dx : Addr) (sv : V) (n lk : Nat) (ss : List TSt), vs = [.ref p, sv] ∧ H p = some (.ins C dx []) ∧ Dp K H sv (stsD ss) ∧ StsOk n lk ss ∧
  ∀ H' el ch, Gr [p] H H' → ChAt K C H' p sv el ch ss 0 [] → H el = none → H ch = none → Q .non H'
def spTpl (K : PySem.W.Frag) (C : Addr) : Sp := fun vs H Q _ => ∃ (p el ch : Addr) (sv : V) (ss : List TSt) (m lk n a x : Nat) (av : List Addr), vs = [.ref p, natV a, natV x] ∧ ChAt K C H p sv el ch ss n av ∧ StsOk m lk ss ∧ n ≤ 9000000 ∧ a < 5 ∧ (∀ b ∈ av, H b ≠ none) ∧
  ∀ H' l xs, Gr [ch] H H' → ChAt K C H' p sv el ch ss (n + 1) av → l ∉ av → H' l = some (.lst xs) → DpAll K H' xs ((tplL ss a x).map Tm.data) → Q (.ref l) H'
end LW
set_option maxHeartbeats 2000000
namespace LW
open PySem PySem.Spec PyProof.Rows L2
abbrev Ms := Nat × Nat
def msD (p : Ms) : PyData := .tuple [.int (p.1 : Int), .int (p.2 : Int)]
def measT (si ni : Nat → Ms) : Tm → Ms
  | .nil => (0, 0)
  | .node _ t r => ((measT si ni t).1 + 1 + (measT si ni r).1, max ((measT si ni t).2 + 1) (measT si ni r).2)
  | .ref w p r => ((if w = true then ni p.toNat else si p.toNat).1 + (measT si ni r).1, max (if w = true then ni p.toNat else si p.toNat).2 (measT si ni r).2)
def measP (si ni : Nat → Ms) : Prt → Ms
  | .node _ t => ((measT si ni t).1 + 1, (measT si ni t).2 + 1)
  | .ref w p => if w = true then ni p.toNat else si p.toNat
def measL (si ni : Nat → Ms) : List Prt → Ms
  | [] => (0, 0)
  | p :: ps => ((measP si ni p).1 + (measL si ni ps).1, max (measP si ni p).2 (measL si ni ps).2)
def fillT (si ni : Nat → Doc) : Tm → Doc
  | .nil => .nil
  | .node b t r => .cons b (fillT si ni t) (fillT si ni r)
  | .ref w p r => (if w = true then ni p.toNat else si p.toNat).app (fillT si ni r)
def msOf (d : Doc) : Ms := (d.size, d.dep)
def madeD (m : Trn) : Doc → Nat → Doc
  | .nil, q => fillT (fun _ => .nil) (fun _ => .nil) ((endL m.sts).getD q .nil)
  | .cons a k r, q => fillT (madeD m k) (madeD m r) ((tplL m.sts a.toNat (setB m.looks k)).getD q .nil)
def beyond (p : Ms) : Bool := decide (5000 < p.1) || decide (100 < p.2)
def spBeyond (K : PySem.W.Frag) : Sp := fun vs H Q _ => ∃ (v : V) (p : Ms), vs = [v] ∧ Dp K H v (msD p) ∧ Q (.bl (beyond p)) H
structure MkTxt (K : PySem.W.Frag) (mg : Str → Option Value) (C : Addr) : Prop where
  cl : Cls K C
  nSt : NoAttr K C "steps"
  nCh : NoAttr K C "choosing"
  nSe : NoAttr K C "sets"
  nKi : NoAttr K C "kids"
  nRe : NoAttr K C "rests"
  nTe : NoAttr K C "templates"
  nWh : NoAttr K C "whole"
  nMe : NoAttr K C "measures"
  gC : mg "Making" = some (.ref C)
def mkMeths : List Str := ["number_of", "source", "measure_all", "measure", "measure_part", "made", "build"]
structure MsAt (K : PySem.W.Frag) (C : Addr) (H : Hp) (p kl ql ml : Addr) (ks qs : List Nat) (M : List (List Ms)) : Prop where
  ins : ∃ dx fs, H p = some (.ins C dx fs) ∧ fs.lookup ("kids" : Str) = some (.ref kl) ∧ fs.lookup ("rests" : Str) = some (.ref ql) ∧ fs.lookup ("measures" : Str) = some (.ref ml) ∧ ∀ x ∈ mkMeths, fs.lookup x = none
  ne : kl ≠ ml ∧ ql ≠ ml
  kids : H kl = some (.lst (ks.map natV))
  rests : H ql = some (.lst (qs.map natV))
  meas : ∃ ls : List Addr, H ml = some (.lst (ls.map V.ref)) ∧ ls.length = M.length ∧ (∀ l ∈ ls, l ≠ ml) ∧ ∀ i l, ls[i]? = some l → ∃ xs, H l = some (.lst xs) ∧ DpAll K H xs ((M.getD i []).map msD)
theorem MsAt.gr0 {K : PySem.W.Frag} {C : Addr} {H H' : Hp} {p kl ql ml : Addr} {ks qs : List Nat} {M : List (List Ms)} (h : MsAt K C H p kl ql ml ks qs M) (g : Gr [] H H') : MsAt K C H' p kl ql ml ks qs M where
  ins := let ⟨dx, fs, e, r⟩ := h.ins; ⟨dx, fs, g.keep _ _ (by simp) e (fun _ z => by cases z), r⟩
  ne := h.ne
  kids := g.lst (by simp) h.kids
  rests := g.lst (by simp) h.rests
  meas := by
    obtain ⟨ls, e, l, ne, f⟩ := h.meas
    refine ⟨ls, g.lst (by simp) e, l, ne, fun i a q => ?_⟩
    obtain ⟨xs, e1, e2⟩ := f i a q
    exact ⟨xs, g.lst (by simp) e1, e2.gr g⟩
def spSource (K : PySem.W.Frag) (C : Addr) : Sp := fun vs H Q _ => ∃ (p kl ql ml : Addr) (ks qs : List Nat) (M : List (List Ms)) (w : Bool) (i k : Nat), vs = [.ref p, .str (wrd w), natV i] ∧ MsAt K C H p kl ql ml ks qs M ∧ (if w = true then qs else ks)[i]? = some k ∧ Q (natV k) H
def mAt (M : List (List Ms)) (k : Nat) : Nat → Ms := fun q => (M.getD k []).getD q (0, 0)
def RefOk (ks qs : List Nat) (M : List (List Ms)) (nst i kk qq : Nat) : Prop := ks[i]? = some kk ∧ qs[i]? = some qq ∧ kk < M.length ∧ qq < M.length ∧ (M.getD kk []).length = nst ∧ (M.getD qq []).length = nst
def spMeas (K : PySem.W.Frag) (C : Addr) (k : Nat) : Sp := fun vs H Q _ => ∃ (p kl ql ml : Addr) (ks qs : List Nat) (M : List (List Ms)) (tv : V) (t : Tm) (i nst kk qq : Nat) (mf : Bool), vs = [.ref p, tv, natV i] ∧ MsAt K C H p kl ql ml ks qs M ∧ Dp K H tv t.data ∧ t.dp < k ∧ t.okT nst mf = true ∧ (mf = true → RefOk ks qs M nst i kk qq) ∧
  ∀ H' y, Gr [] H H' → Dp K H' y (msD (measT (mAt M kk) (mAt M qq) t)) → Q y H'
def spMeasP (K : PySem.W.Frag) (C : Addr) (k : Nat) : Sp := fun vs H Q _ => ∃ (p kl ql ml : Addr) (ks qs : List Nat) (M : List (List Ms)) (tv : V) (t : Prt) (i nst kk qq : Nat) (mf : Bool), vs = [.ref p, tv, natV i] ∧ MsAt K C H p kl ql ml ks qs M ∧ Dp K H tv (prtD t) ∧ t.dp ≤ k ∧ t.okT nst mf = true ∧ (mf = true → RefOk ks qs M nst i kk qq) ∧
  ∀ H' y, Gr [] H H' → Dp K H' y (msD (measP (mAt M kk) (mAt M qq) t)) → Q y H'
def TsAt (K : PySem.W.Frag) (H : Hp) (tl ml : Addr) (TT : List (List Tm)) : Prop := ∃ ls : List Addr, H tl = some (.lst (ls.map V.ref)) ∧ ls.length = TT.length ∧ tl ≠ ml ∧ (∀ l ∈ ls, l ≠ ml) ∧ ∀ i l, ls[i]? = some l → ∃ xs, H l = some (.lst xs) ∧ DpAll K H xs ((TT.getD i []).map Tm.data)
def rowM (m : Trn) (d : Doc) : List Ms := (List.range m.sts.length).map fun q => msOf (madeD m d q)
structure NumOk (m : Trn) (docs : List Doc) (ks qs : List Nat) (TT : List (List Tm)) : Prop where
  lk : ks.length = docs.length
  lq : qs.length = docs.length
  lt : TT.length = docs.length
  zero : 0 < docs.length ∧ docs.getD 0 .nil = .nil ∧ TT.getD 0 [] = endL m.sts
  next : ∀ i, 0 < i → i < docs.length → ∃ a kk qq, 0 ≤ a ∧ a < 5 ∧ ks[i]? = some kk ∧ qs[i]? = some qq ∧ kk < i ∧ qq < i ∧ docs.getD i .nil = .cons a (docs.getD kk .nil) (docs.getD qq .nil) ∧ TT.getD i [] = tplL m.sts a.toNat (setB m.looks (docs.getD kk .nil))
def spMeasAll (K : PySem.W.Frag) (C : Addr) : Sp := fun vs H Q _ => ∃ (p kl ql ml tl : Addr) (m : Trn) (docs : List Doc) (ks qs : List Nat) (TT : List (List Tm)) (lk : Nat), vs = [.ref p] ∧ MsAt K C H p kl ql ml ks qs [] ∧ TsAt K H tl ml TT ∧ (∀ dx fs, H p = some (.ins C dx fs) → fs.lookup ("templates" : Str) = some (.ref tl)) ∧ NumOk m docs ks qs TT ∧ StsOk m.sts.length lk m.sts ∧ docs.length ≤ 1000 ∧
  ∀ H', Gr [ml] H H' → MsAt K C H' p kl ql ml ks qs (docs.map (rowM m)) → Q .non H'
end LW
set_option maxHeartbeats 2000000
namespace LW
open PySem PySem.Spec PyProof.Rows L2
structure StepsAv (K : PySem.W.Frag) (C : Addr) (H : Hp) (p rl rw_ st : Addr) (s : Sch) (n : Nat) (av : List Addr) : Prop where
  ins : ∃ dx, H p = some (.ins C dx (fsS s rl rw_ st))
  rules : rl ∉ av ∧ ∃ H0 ls, RL K H0 H rl ls (rulesFrom 0 s) ∧ ∀ l ∈ ls, l ∉ av
  rows : rw_ ∉ av ∧ ∃ kvs, H rw_ = some (.dT kvs) ∧ kvs.length ≤ n ∧ ∀ a x v, valV kvs (key2 a x) = some v → ∃ l xs, v = .ref l ∧ l ∉ av ∧ H l = some (.lst xs) ∧ DpAll K H xs ((rowOf (ofLabel a (rulesFrom 0 s)) x).map entD)
  steps : st ∉ av ∧ ∃ kvs, H st = some (.dT kvs) ∧ kvs.length ≤ n ∧ ∀ a x y v, valV kvs (key3 a x y) = some v → v = natV (afterB s a x y)
  ne : rw_ ≠ st
theorem ent_pureL (l : List (Nat × Nat)) : pureAll (l.map entD) = true := pureAll_iff.mpr fun d hd => by
  obtain ⟨_, _, rfl⟩ := List.mem_map.mp hd; rfl
section
variable {K : PySem.W.Frag} {C p rl rw_ st : Addr} {H H' : Hp} {s : Sch} {n : Nat} {av : List Addr}
theorem StepsAv.of (h : StepsAt K C H p rl rw_ st s n) : StepsAv K C H p rl rw_ st s n [] where
  ins := h.ins
  rules := let ⟨H0, ls, e⟩ := h.rules; ⟨by simp, H0, ls, e, by simp⟩
  rows := let ⟨kvs, e, l, f⟩ := h.rows; ⟨by simp, kvs, e, l, fun a x v q => let ⟨l, xs, e1, e2, e3⟩ := f a x v q; ⟨l, xs, e1, by simp, e2, e3⟩⟩
  steps := let ⟨kvs, e, l, f⟩ := h.steps; ⟨by simp, kvs, e, l, f⟩
  ne := h.ne
theorem StepsAv.gr {m : List Addr} (h : StepsAv K C H p rl rw_ st s n av) (g : Gr m H H') (hm : Apart m H) (h1 : p ∉ m) (h2 : rw_ ∉ m) (h3 : st ∉ m) : StepsAv K C H' p rl rw_ st s n av where
  ins := let ⟨dx, e⟩ := h.ins; ⟨dx, g.keep _ _ h1 e fun _ z => by cases z⟩
  rules := let ⟨z, H0, ls, e, f⟩ := h.rules; ⟨z, H0, ls, e.grA g hm, f⟩
  rows := by
    obtain ⟨z, kvs, e, l, f⟩ := h.rows
    refine ⟨z, kvs, g.keep _ _ h2 e (fun _ z => by cases z), l, fun a x v q => ?_⟩
    obtain ⟨l, xs, e1, nl, e2, e3⟩ := f a x v q
    exact ⟨l, xs, e1, nl, g.lstA hm e2, dpAll_gra g hm _ _ e3⟩
  steps := let ⟨z, kvs, e, l, f⟩ := h.steps; ⟨z, kvs, g.keep _ _ h3 e (fun _ z => by cases z), l, f⟩
  ne := h.ne
theorem StepsAv.gr0 (h : StepsAv K C H p rl rw_ st s n av) (g : Gr [] H H') : StepsAv K C H' p rl rw_ st s n av := h.gr g .nil (by simp) (by simp) (by simp)
theorem StepsAv.apart (h : StepsAv K C H p rl rw_ st s n av) : Apart [rw_, st] H := fun b hb o e => by
  obtain ⟨_, kvs, e1, _⟩ := h.rows
  obtain ⟨_, kvs2, e2, _⟩ := h.steps
  rcases List.mem_cons.mp hb with rfl | hb
  · rw [e1] at e; cases e; rfl
  · rw [List.mem_singleton.mp hb, e2] at e; cases e; rfl
theorem StepsAv.mono {k : Nat} (h : StepsAv K C H p rl rw_ st s n av) (le : n ≤ k) : StepsAv K C H p rl rw_ st s k av :=
  ⟨h.ins, h.rules, let ⟨z, kvs, e, l, f⟩ := h.rows; ⟨z, kvs, e, Nat.le_trans l le, f⟩, let ⟨z, kvs, e, l, f⟩ := h.steps; ⟨z, kvs, e, Nat.le_trans l le, f⟩, h.ne⟩
theorem StepsAv.grl {m : List Addr} (h : StepsAv K C H p rl rw_ st s n av) (g : Gr m H H') (hm : ∀ b ∈ m, ∃ ys, H b = some (.lst ys)) (sub : ∀ b ∈ m, b ∈ av) (rp : ∀ a, pureAll ((ofLabel a (rulesFrom 0 s)).map bitD) = true) : StepsAv K C H' p rl rw_ st s n av where
  ins := let ⟨dx, e⟩ := h.ins; ⟨dx, g.keep _ _ (fun z => by obtain ⟨ys, y⟩ := hm p z; rw [e] at y; cases y) e fun _ z => by cases z⟩
  rules := by
    obtain ⟨z, H0, ls, e, f⟩ := h.rules
    exact ⟨z, H0, ls, ⟨g.lst (fun y => z (sub _ y)) e.at_, e.len, e.nd, e.out, e.new, fun a l el => by
      obtain ⟨xs, h1, h2⟩ := e.row a l el
      exact ⟨xs, g.lst (fun y => f l (List.mem_of_getElem? el) (sub _ y)) h1, dpAll_grm g hm _ _ (rp a) h2⟩⟩, f⟩
  rows := by
    obtain ⟨z, kvs, e, l, f⟩ := h.rows
    refine ⟨z, kvs, g.keep _ _ (fun y => z (sub _ y)) e (fun _ z => by cases z), l, fun a x v q => ?_⟩
    obtain ⟨l, xs, e1, nl, e2, e3⟩ := f a x v q
    exact ⟨l, xs, e1, nl, g.lst (fun y => nl (sub _ y)) e2, dpAll_grm g hm _ _ (ent_pureL _) e3⟩
  steps := let ⟨z, kvs, e, l, f⟩ := h.steps; ⟨z, kvs, g.keep _ _ (fun y => z (sub _ y)) e (fun _ z => by cases z), l, f⟩
  ne := h.ne
end
def spRowA (K : PySem.W.Frag) (C : Addr) : Sp := fun vs H Q _ => ∃ (p rl rw_ st : Addr) (s : Sch) (n a x : Nat) (av : List Addr), vs = [.ref p, natV a, natV x] ∧ StepsAv K C H p rl rw_ st s n av ∧ SchOk s ∧ n ≤ 9000000 ∧ a < 5 ∧ (∀ b ∈ av, H b ≠ none) ∧
  ∀ H' l xs, Gr [rw_] H H' → StepsAv K C H' p rl rw_ st s (n + 1) av → H' l = some (.lst xs) → DpAll K H' xs ((rowOf (ofLabel a (rulesFrom 0 s)) x).map entD) → Q (.ref l) H'
def spAfterA (K : PySem.W.Frag) (C : Addr) : Sp := fun vs H Q _ => ∃ (p rl rw_ st : Addr) (s : Sch) (n a x y : Nat) (av : List Addr), vs = [.ref p, natV a, natV x, natV y] ∧ StepsAv K C H p rl rw_ st s n av ∧ SchOk s ∧ n ≤ 9000000 ∧ a < 5 ∧ (∀ b ∈ av, H b ≠ none) ∧
  ∀ H', Gr [rw_, st] H H' → StepsAv K C H' p rl rw_ st s (n + 1) av → Q (natV (afterB s a x y)) H'
end LW
set_option maxHeartbeats 2000000
namespace LW
open PySem PySem.Spec PyProof.Rows L2
def Mut (m : List Addr) (H : Hp) : Prop := ∀ b ∈ m, (∃ ys, H b = some (.lst ys)) ∨ ∃ kvs, H b = some (.dT kvs)
theorem Mut.no {m : List Addr} {H : Hp} (h : Mut m H) {a : Addr} {o : HO} (e : H a = some o) (n1 : ∀ ys, o ≠ .lst ys) (n2 : ∀ kvs, o ≠ .dT kvs) : a ∉ m := fun z => by
  rcases h a z with ⟨ys, y⟩ | ⟨ks, y⟩ <;> rw [e] at y <;> cases y
  · exact n1 _ rfl
  · exact n2 _ rfl
theorem sqT_mut {K : PySem.W.Frag} {m : List Addr} {H H' : Hp} {a : Addr} {xs : List V} (g : Gr m H H') (hm : Mut m H) (h : SqT K H a xs) : SqT K H' a xs := by
  rcases h with (h | ⟨o, h⟩) | h
  · exact .inl (.inl (g.tup (hm.no h (fun _ z => by cases z) (fun _ z => by cases z)) h))
  · exact .inl (.inr ⟨o, g.keep _ _ (hm.no h (fun _ z => by cases z) (fun _ z => by cases z)) h fun _ z => by cases z⟩)
  · exact .inr h
mutual
theorem dp_mut {K : PySem.W.Frag} {H H' : Hp} {m : List Addr} (g : Gr m H H') (hm : Mut m H) : ∀ (d : PyData) (v : V), pure1 d = true → Dp K H v d → Dp K H' v d
  | .none, _, _, h => by cases h; exact .non
  | .bool b, _, _, h => by cases h; exact .bl b
  | .int i, _, _, h => by cases h; exact .int i
  | .str x, _, _, h => by cases h; exact .str x
  | .list ds, _, p, h => nomatch p
  | .tuple ds, _, p, h => by
    cases h with
    | tup hs ha => exact .tup (sqT_mut g hm hs) (dpAll_mut g hm ds _ p ha)
  | .dict _, _, _, h => by cases h
theorem dpAll_mut {K : PySem.W.Frag} {H H' : Hp} {m : List Addr} (g : Gr m H H') (hm : Mut m H) : ∀ (ds : List PyData) (vs : List V), pureAll ds = true → DpAll K H vs ds → DpAll K H' vs ds
  | [], _, _, h => by cases h; exact .nil
  | d :: ds, _, p, h => by
    have p' : pure1 d = true ∧ pureAll ds = true := by
      have q : (pure1 d && pureAll ds) = true := p
      simpa using q
    cases h with
    | cons h1 h2 => exact .cons (dp_mut g hm d _ p'.1 h1) (dpAll_mut g hm ds _ p'.2 h2)
end
structure MkA where
  p : Addr
  ps : Addr
  rl : Addr
  rw_ : Addr
  st : Addr
  pc : Addr
  sv : V
  el : Addr
  ch : Addr
  sl : Addr
  kl : Addr
  ql : Addr
  tl : Addr
def MkA.av (A : MkA) : List Addr := [A.sl, A.kl, A.ql, A.tl]
def MkA.mut (A : MkA) : List Addr := [A.rw_, A.st, A.ch, A.sl, A.kl, A.ql, A.tl]
structure NmAt (K : PySem.W.Frag) (CM CS CC : Addr) (H : Hp) (A : MkA) (m : Trn) (docs : List Doc) (ks qs : List Nat) (TT : List (List Tm)) (n : Nat) : Prop where
  ins : ∃ dx fs, H A.p = some (.ins CM dx fs) ∧ fs.lookup ("steps" : Str) = some (.ref A.ps) ∧ fs.lookup ("choosing" : Str) = some (.ref A.pc) ∧ fs.lookup ("sets" : Str) = some (.ref A.sl) ∧ fs.lookup ("kids" : Str) = some (.ref A.kl) ∧ fs.lookup ("rests" : Str) = some (.ref A.ql) ∧ fs.lookup ("templates" : Str) = some (.ref A.tl) ∧ ∀ x ∈ mkMeths, fs.lookup x = none
  steps : StepsAv K CS H A.ps A.rl A.rw_ A.st m.looks n A.av
  choosing : ChAt K CC H A.pc A.sv A.el A.ch m.sts n A.av
  sets : H A.sl = some (.lst (docs.map fun d => natV (setB m.looks d)))
  kids : H A.kl = some (.lst (ks.map natV))
  rests : H A.ql = some (.lst (qs.map natV))
  tms : ∃ ls : List Addr, H A.tl = some (.lst (ls.map V.ref)) ∧ ls.length = TT.length ∧ (∀ l ∈ ls, l ∉ A.av ∧ H l ≠ none) ∧ ∀ i l, ls[i]? = some l → ∃ xs, H l = some (.lst xs) ∧ DpAll K H xs ((TT.getD i []).map Tm.data)
  nd : A.av.Nodup
  ap : A.ch ≠ A.rw_ ∧ A.ch ≠ A.st
theorem NmAt.alive {K : PySem.W.Frag} {CM CS CC : Addr} {H : Hp} {A : MkA} {m : Trn} {docs : List Doc} {ks qs : List Nat} {TT : List (List Tm)} {n : Nat} (h : NmAt K CM CS CC H A m docs ks qs TT n) : ∀ b ∈ A.av, H b ≠ none := fun b hb => by
  obtain ⟨_, e4, _⟩ := h.tms
  simp only [MkA.av, List.mem_cons, List.not_mem_nil, or_false] at hb
  rcases hb with rfl | rfl | rfl | rfl
  · rw [h.sets]; simp
  · rw [h.kids]; simp
  · rw [h.rests]; simp
  · rw [e4]; simp
def spNum (K : PySem.W.Frag) (CM CS CC : Addr) (k : Nat) : Sp := fun vs H Q _ => ∃ (A : MkA) (m : Trn) (docs : List Doc) (ks qs : List Nat) (TT : List (List Tm)) (n lk : Nat) (v : V) (d : Doc), vs = [.ref A.p, v] ∧ NmAt K CM CS CC H A m docs ks qs TT n ∧ NumOk m docs ks qs TT ∧ SchOk m.looks ∧ StsOk m.sts.length lk m.sts ∧ Dp K H v d.data ∧ d.lab = true ∧ d.dep < k ∧ docs.length + d.size ≤ 1000 ∧ n + 2 * d.size ≤ 80000 ∧
  ∀ H' docs' ks' qs' TT' i, Gr A.mut H H' → NmAt K CM CS CC H' A m docs' ks' qs' TT' (n + 2 * d.size) → NumOk m docs' ks' qs' TT' → (∃ more, docs' = docs ++ more) → docs'.length = docs.length + d.size → docs'[i]? = some d → Q (natV i) H'
end LW
namespace LW
open PySem PySem.Spec PyProof.Rows L2
section
variable {K : PySem.W.Frag} {CM CS CC : Addr} {H H' : Hp} {A : MkA} {m : Trn} {docs : List Doc} {ks qs : List Nat} {TT : List (List Tm)} {n n' : Nat}
theorem bit_pureL (l : List (Nat × Nat × Nat)) : pureAll (l.map bitD) = true := pureAll_iff.mpr fun d hd => by
  obtain ⟨_, _, rfl⟩ := List.mem_map.mp hd; rfl
theorem NmAt.frame {mm : List Addr} (h : NmAt K CM CS CC H A m docs ks qs TT n) (g : Gr mm H H') (hd : ∀ b ∈ mm, ∃ kvs, H b = some (.dT kvs)) (hS : StepsAv K CS H' A.ps A.rl A.rw_ A.st m.looks n' A.av) (hC : ChAt K CC H' A.pc A.sv A.el A.ch m.sts n' A.av) : NmAt K CM CS CC H' A m docs ks qs TT n' := by
  have hm : Mut mm H := fun b hb => .inr (hd b hb)
  have nl : ∀ {a : Addr} {xs : List V}, H a = some (.lst xs) → H' a = some (.lst xs) := fun {a xs} e => g.lst (fun z => by obtain ⟨ks, y⟩ := hd a z; rw [e] at y; cases y) e
  obtain ⟨dx, fs, e, r⟩ := h.ins
  obtain ⟨ls, e1, e2, e3, e4⟩ := h.tms
  refine ⟨⟨dx, fs, g.keep _ _ (hm.no e (fun _ z => by cases z) (fun _ z => by cases z)) e (fun _ z => by cases z), r⟩, hS, hC, nl h.sets, nl h.kids, nl h.rests, ⟨ls, nl e1, e2, fun l hl => ⟨(e3 l hl).1, ?_⟩, fun i l el => ?_⟩, h.nd, h.ap⟩
  · obtain ⟨i, hi⟩ := List.getElem?_of_mem hl
    obtain ⟨xs, x1, _⟩ := e4 i l hi
    rw [nl x1]; simp
  · obtain ⟨xs, x1, x2⟩ := e4 i l el
    exact ⟨xs, nl x1, dpAll_mut g hm _ _ (tpl_pure _) x2⟩
theorem NmAt.push {b : Addr} {xs ys : List V} (h : NmAt K CM CS CC H A m docs ks qs TT n) (hb : b ∈ A.av) (e : H b = some (.lst xs)) {docs' : List Doc} {ks' qs' : List Nat} {TT' : List (List Tm)}
    (h1 : (upd H b (.lst ys)) A.sl = some (.lst (docs'.map fun d => natV (setB m.looks d)))) (h2 : (upd H b (.lst ys)) A.kl = some (.lst (ks'.map natV))) (h3 : (upd H b (.lst ys)) A.ql = some (.lst (qs'.map natV)))
    (h4 : ∃ ls : List Addr, (upd H b (.lst ys)) A.tl = some (.lst (ls.map V.ref)) ∧ ls.length = TT'.length ∧ (∀ l ∈ ls, l ∉ A.av ∧ H l ≠ none) ∧ ∀ i l, ls[i]? = some l → ∃ xs, H l = some (.lst xs) ∧ DpAll K H xs ((TT'.getD i []).map Tm.data)) : NmAt K CM CS CC (upd H b (.lst ys)) A m docs' ks' qs' TT' n := by
  have g : Gr [b] H (upd H b (.lst ys)) := Gr.put e (fun _ z => by cases z) (by simp)
  have hl : ∀ c ∈ [b], ∃ ys, H c = some (.lst ys) := fun c hc => by rw [List.mem_singleton.mp hc]; exact ⟨_, e⟩
  have hm : Mut [b] H := fun c hc => .inl (hl c hc)
  obtain ⟨dx, fs, ei, r⟩ := h.ins
  obtain ⟨ls, e1, e2, e3, e4⟩ := h4
  refine ⟨⟨dx, fs, g.keep _ _ (hm.no ei (fun _ z => by cases z) (fun _ z => by cases z)) ei (fun _ z => by cases z), r⟩, h.steps.grl g hl (fun c hc => by rw [List.mem_singleton.mp hc]; exact hb) (fun a => bit_pureL _), h.choosing.grl g hl (fun c hc => by rw [List.mem_singleton.mp hc]; exact hb), h1, h2, h3, ⟨ls, e1, e2, fun l hl2 => ⟨(e3 l hl2).1, ?_⟩, fun i l el => ?_⟩, h.nd, h.ap⟩
  · have nb : l ≠ b := fun z => (e3 l hl2).1 (z ▸ hb)
    rw [upd_ne nb]; exact (e3 l hl2).2
  · obtain ⟨zs, x1, x2⟩ := e4 i l el
    have nb : l ≠ b := fun z => (e3 l (List.mem_of_getElem? el)).1 (z ▸ hb)
    exact ⟨zs, by rw [upd_ne nb]; exact x1, dpAll_mut g hm _ _ (tpl_pure _) x2⟩
end
end LW
namespace LW
open PySem PySem.Spec PyProof.Rows L2
theorem getD_app {α : Type} {l r : List α} {i : Nat} {x : α} (h : i < l.length) : (l ++ r).getD i x = l.getD i x := by
  rw [List.getD_eq_getElem?_getD, List.getD_eq_getElem?_getD, List.getElem?_append_left h]
theorem getD_end {α : Type} {l : List α} {y x : α} {i : Nat} (h : i = l.length) : (l ++ [y]).getD i x = y := by
  rw [List.getD_eq_getElem?_getD, List.getElem?_append_right (by omega), h, Nat.sub_self]; rfl
theorem getD_some {α : Type} {l : List α} {i : Nat} {x y : α} (h : l[i]? = some y) : l.getD i x = y := by
  rw [List.getD_eq_getElem?_getD, h]; rfl
theorem NumOk.push {m : Trn} {docs : List Doc} {ks qs : List Nat} {TT : List (List Tm)} (h : NumOk m docs ks qs TT) {a : Int} {kk qq : Nat} {kd r : Doc} (a0 : 0 ≤ a) (a5 : a < 5) (hk : docs[kk]? = some kd) (hq : docs[qq]? = some r) :
    NumOk m (docs ++ [.cons a kd r]) (ks ++ [kk]) (qs ++ [qq]) (TT ++ [tplL m.sts a.toNat (setB m.looks kd)]) := by
  have lk := (List.getElem?_eq_some_iff.mp hk).1
  have lq := (List.getElem?_eq_some_iff.mp hq).1
  have h1 := h.lk
  have h2 := h.lq
  have h3 := h.lt
  obtain ⟨z1, z2, z3⟩ := h.zero
  refine ⟨by simp; omega, by simp; omega, by simp; omega, ⟨by simp, by rw [getD_app z1]; exact z2, by rw [getD_app (by omega)]; exact z3⟩, fun i i0 hi => ?_⟩
  rw [List.length_append, List.length_singleton] at hi
  by_cases he : i = docs.length
  · refine ⟨a, kk, qq, a0, a5, ?_, ?_, by omega, by omega, ?_, ?_⟩
    · rw [List.getElem?_append_right (by omega), show i - ks.length = 0 by omega]; rfl
    · rw [List.getElem?_append_right (by omega), show i - qs.length = 0 by omega]; rfl
    · rw [getD_end he, getD_app lk, getD_app lq, getD_some hk, getD_some hq]
    · rw [getD_end (by omega), getD_app lk, getD_some hk]
  · obtain ⟨b, k1, q1, b0, b5, e1, e2, l1, l2, e3, e4⟩ := h.next i i0 (by omega)
    refine ⟨b, k1, q1, b0, b5, ?_, ?_, l1, l2, ?_, ?_⟩
    · rw [List.getElem?_append_left (by omega)]; exact e1
    · rw [List.getElem?_append_left (by omega)]; exact e2
    · rw [getD_app (by omega), getD_app (by omega), getD_app (by omega)]; exact e3
    · rw [getD_app (by omega), getD_app (by omega)]; exact e4
end LW
set_option maxHeartbeats 2000000
namespace LW
open PySem PySem.Spec PyProof.Rows L2
structure MkB (K : PySem.W.Frag) (CM CS CC : Addr) (H : Hp) (p dx : Addr) (F : List (Str × V)) (ps rl rw_ st pc : Addr) (sv : V) (el ch : Addr) (m : Trn) (av : List Addr) (L : List (Addr × List V)) (v : V) (d : Doc) : Prop where
  hp : H p = some (.ins CM dx F)
  hst : StepsAv K CS H ps rl rw_ st m.looks 0 av
  hch : ChAt K CC H pc sv el ch m.sts 0 av
  ls : ∀ q ∈ L, H q.1 = some (.lst q.2)
  alive : ∀ b ∈ av, H b ≠ none
  dd : Dp K H v d.data
  ne : p ≠ ps ∧ p ≠ pc ∧ ch ≠ rw_ ∧ ch ≠ st
section
variable {K : PySem.W.Frag} {CM CS CC : Addr} {H : Hp} {p dx : Addr} {F F' : List (Str × V)} {ps rl rw_ st pc : Addr} {sv : V} {el ch : Addr} {m : Trn} {av : List Addr} {L : List (Addr × List V)} {v : V} {d : Doc}
theorem MkB.put (h : MkB K CM CS CC H p dx F ps rl rw_ st pc sv el ch m av L v d) : MkB K CM CS CC (upd H p (.ins CM dx F')) p dx F' ps rl rw_ st pc sv el ch m av L v d ∧ Gr [p] H (upd H p (.ins CM dx F')) := by
  have g : Gr [p] H (upd H p (.ins CM dx F')) := Gr.put h.hp (fun _ z => by cases z) (by simp)
  have ap : Apart [p] H := fun b hb o e => by rw [List.mem_singleton.mp hb, h.hp] at e; cases e; rfl
  obtain ⟨_, kv1, w1, _⟩ := h.hst.rows
  obtain ⟨_, kv2, w2, _⟩ := h.hst.steps
  obtain ⟨_, kv3, w3, _⟩ := h.hch.chosen
  obtain ⟨n1, n2, n3, n4⟩ := h.ne
  have hp := h.hp
  refine ⟨⟨upd_same, h.hst.gr g ap (by simpa using n1.symm) (fun z => ?_) (fun z => ?_), h.hch.gr g ap (by simpa using n2.symm) (fun z => ?_), fun q hq => ?_, fun b hb => ?_, dp_gra g ap _ _ h.dd, h.ne⟩, g⟩
  · rw [List.mem_singleton.mp z, hp] at w1; cases w1
  · rw [List.mem_singleton.mp z, hp] at w2; cases w2
  · rw [List.mem_singleton.mp z, hp] at w3; cases w3
  · have e := h.ls q hq
    rw [upd_ne (fun z => by rw [z, hp] at e; cases e)]; exact e
  · by_cases e : b = p
    · rw [e, upd_same]; simp
    · rw [upd_ne e]; exact h.alive b hb
end
def fM6 (ps pc sl kl ql tl : Addr) : List (Str × V) := [("steps", .ref ps), ("choosing", .ref pc), ("sets", .ref sl), ("kids", .ref kl), ("rests", .ref ql), ("templates", .ref tl)]
def fM8 (ps pc sl kl ql tl : Addr) (wh : Nat) (ml : Addr) : List (Str × V) := fM6 ps pc sl kl ql tl ++ ([("whole", natV wh), ("measures", .ref ml)] : List (Str × V))
structure MkDone (K : PySem.W.Frag) (CM : Addr) (H : Hp) (p ps pc sl kl ql tl ml : Addr) (m : Trn) (docs : List Doc) (ks qs : List Nat) (TT : List (List Tm)) (wh : Nat) : Prop where
  ins : ∃ dx, H p = some (.ins CM dx (fM8 ps pc sl kl ql tl wh ml))
  ms : MsAt K CM H p kl ql ml ks qs (docs.map (rowM m))
  ts : TsAt K H tl ml TT
  num : NumOk m docs ks qs TT
  len : docs.length ≤ 1000
def spMakI (K : PySem.W.Frag) (CM : Addr) : Sp := fun vs H Q _ => ∃ (p dx : Addr) (mv dv : V) (m : Trn) (d : Doc), vs = [.ref p, mv, dv] ∧ H p = some (.ins CM dx []) ∧ Dp K H mv m.data ∧ SchOk m.looks ∧ StsOk m.sts.length m.looks.length m.sts ∧ Dp K H dv d.data ∧ d.lab = true ∧ d.dep < 31 ∧ d.size ≤ 300 ∧
  ∀ H' ps pc sl kl ql tl ml docs ks qs TT wh, Gr [p] H H' → MkDone K CM H' p ps pc sl kl ql tl ml m docs ks qs TT wh → docs[wh]? = some d → Q .non H'
end LW
namespace LW
open PySem PySem.Spec PyProof.Rows L2
theorem pe_mt0 {X : Cx} {CX : CXT} {k : Nat} {C : Addr} {m : Str} {ps : List Str} {sp : Sp} {E : XK} {pos apos : Pos} {o : Expr} {ta : TE} {pl : Sem Bool} (he : PE X o ta) (c : Cls X.K C) (F : Mt X.prog X.w X.K X.mg X.base CX k C m ps sp) (hr : Room k X.A) (hx : Passes CX X E)
    (ht : eval (.Call (.Attribute o m apos) [] [] pos) X.env = (do
      let ov ← eval o X.env
      standAt apos.atName
      let (f, first) ← holding [ov] (getMethod ov m pl)
      callWith pos f first (backTo pos (starEach [] X.env)) (backToKw pos (keywordEach [] X.env))) := by rfl) :
    PE X (.Call (.Attribute o m apos) [] [] pos) (tMeth C m sp [] E ta tNil) := by
  obtain ⟨f, fd, F, hm, hb⟩ := F.ex
  exact pe_meth0 he c hm F hr hb .nil hx ht
end LW
namespace LW
open PySem PySem.Spec PyProof.Rows L2
theorem fld_putM {C : Addr} {H : Hp} {p : Addr} {dx : Addr} {fs : List (Str × V)} (x : Str) (v : V) (hp : H p = some (.ins C dx fs)) : Gr [p] H (upd H p (.ins C dx (putF x v fs))) ∧ Apart [p] H ∧ (upd H p (.ins C dx (putF x v fs))) p = some (.ins C dx (putF x v fs)) :=
  ⟨Gr.put hp (fun _ z => by cases z) (by simp), fun b hb o e => by rw [List.mem_singleton.mp hb, hp] at e; cases e; rfl, upd_same⟩
theorem made_new {C : Addr} {H : Hp} {p dp : Addr} (np : H p = none) (nd : H dp = none) (ne : dp ≠ p) : Gr [] H (upd (upd H dp (.own p)) p (.ins C dp [])) ∧ (upd (upd H dp (.own p)) p (.ins C dp [])) p = some (.ins C dp []) ∧ Apart [p] (upd (upd H dp (.own p)) p (.ins C dp [])) :=
  ⟨(Gr.new nd).trans (Gr.new (by rw [upd_ne ne.symm]; exact np)), upd_same, fun b hb o e => by rw [List.mem_singleton.mp hb, upd_same] at e; cases e; rfl⟩
end LW
namespace LW
open PySem PySem.Spec PyProof.Rows L2
def fM1 (ps : Addr) : List (Str × V) := [("steps", .ref ps)]
def fM2 (ps pc : Addr) : List (Str × V) := [("steps", .ref ps), ("choosing", .ref pc)]
def fM3 (ps pc sl : Addr) : List (Str × V) := [("steps", .ref ps), ("choosing", .ref pc), ("sets", .ref sl)]
def fM4 (ps pc sl kl : Addr) : List (Str × V) := [("steps", .ref ps), ("choosing", .ref pc), ("sets", .ref sl), ("kids", .ref kl)]
def fM5 (ps pc sl kl ql : Addr) : List (Str × V) := [("steps", .ref ps), ("choosing", .ref pc), ("sets", .ref sl), ("kids", .ref kl), ("rests", .ref ql)]
def fM7 (ps pc sl kl ql tl : Addr) (wh : Nat) : List (Str × V) := fM6 ps pc sl kl ql tl ++ ([("whole", natV wh)] : List (Str × V))
end LW
namespace LW
open PySem PySem.Spec PyProof.Rows L2
theorem len1 : (1 : Nat) ≤ sizeLine := by decide
end LW
set_option maxHeartbeats 2000000
namespace LW
open PySem PySem.Spec PyProof.Rows L2
section
variable {X : Cx}
def rMinD (K : PySem.W.Frag) : List V → Hp → VK → Prop := fun vs H Q => ∃ (a : Addr) (xs : List V) (d : PyData) (ds : List PyData), vs = [.ref a] ∧ SqL K H a xs ∧ DpAll K H xs (d :: ds) ∧ PySem.W.AlikeAll (d :: ds) ∧ PyData.depthAll (d :: ds) ≤ 60 ∧
  ∀ (i : Nat) (y : V), xs[i]? = some y → (d :: ds)[i]? = some (PySem.W.minD d ds) → Q y H
theorem lt_irr (a : PyData) : PySem.W.dataLt a a = false := PyProof.Rows.lex_irrefl _
theorem lt_neg {a b c : PyData} (h : PySem.W.dataLt a c = true) : PySem.W.dataLt a b = true ∨ PySem.W.dataLt b c = true := PyProof.Rows.lex_negTrans _ _ _ h
end
end LW
set_option maxHeartbeats 2000000
namespace LW
open PySem PySem.Spec PyProof.Rows L2
def oD (l : List Int) : PyData := .list (l.map .int)
theorem toks_lex : ∀ xs ys : List Int, PyProof.Rows.lexLt itemOrd (PySem.W.keyToksAll (xs.map PyData.int)) (PySem.W.keyToksAll (ys.map PyData.int)) = HT.lexLt xs ys
  | [], [] => by
    simp only [List.map_nil]
    exact PyProof.Rows.lex_irrefl _
  | [], y :: ys => by
    rw [List.map_nil, List.map_cons, PySem.W.toks_all_cons]
    show PyProof.Rows.lexLt itemOrd [Sum.inl 0] _ = _
    rw [PyProof.Rows.lex_diff (O := itemOrd) (by simp)]; rfl
  | x :: xs, [] => by
    rw [List.map_nil, List.map_cons, PySem.W.toks_all_cons]
    show PyProof.Rows.lexLt itemOrd _ [Sum.inl 0] = _
    rw [PyProof.Rows.lex_diff (O := itemOrd) (by simp)]; rfl
  | x :: xs, y :: ys => by
    rw [List.map_cons, List.map_cons, HT.lexLt_cons]
    have al : PySem.W.alike (.int x) (.int y) = true := rfl
    by_cases h : x = y
    · subst h
      rw [if_pos rfl, PySem.W.dataLt_all_yes al (by simp [PyData.eqv])]
      exact toks_lex xs ys
    · rw [if_neg h, PySem.W.dataLt_all_no al (by simp [PyData.eqv, h]), PySem.W.dataLt_int]
theorem oD_lt (xs ys : List Int) : PySem.W.dataLt (oD xs) (oD ys) = HT.lexLt xs ys := by
  unfold oD
  rw [PySem.W.dataLt_list]
  exact toks_lex xs ys
theorem lexLt_cmp (xs ys : List Int) : HT.lexLt xs ys = decide (cmpL xs ys = -1) := by
  unfold cmpL
  by_cases h : xs = ys
  · subst h
    rw [if_pos rfl, ← oD_lt, lt_irr]; rfl
  · rw [if_neg h]
    cases e : HT.lexLt xs ys <;> simp
theorem ord_lt (d e : Doc) : PySem.W.dataLt (oD d.ord) (oD e.ord) = decide (ordS d e = -1) := by rw [oD_lt, lexLt_cmp, cmp_ord]
def leD (d e : Doc) : Prop := ordS e d ≠ -1
theorem leD_iff {d e : Doc} : leD d e ↔ PySem.W.dataLt (oD e.ord) (oD d.ord) = false := by rw [ord_lt, decide_eq_false_iff_not]; exact Iff.rfl
theorem leD_refl (d : Doc) : leD d d := by unfold leD; rw [ordS_refl]; decide
theorem leD_trans {a b c : Doc} (h1 : leD a b) (h2 : leD b c) : leD a c := by
  rw [leD_iff] at *
  cases e : PySem.W.dataLt (oD c.ord) (oD a.ord) with
  | false => rfl
  | true =>
    rcases lt_neg (b := oD b.ord) e with h | h
    · rw [h2] at h; cases h
    · rw [h1] at h; cases h
theorem sgn_val (a b : Int) : sgn a b = -1 ∨ sgn a b = 1 := by unfold sgn; split <;> simp
theorem ordT_val : ∀ d e : Doc, ordT d e = -1 ∨ ordT d e = 0 ∨ ordT d e = 1
  | .nil, _ => .inr (.inl (by simp [ordT]))
  | .cons _ _ _, .nil => .inr (.inl (by simp [ordT]))
  | .cons a k r, .cons b l s => by
    unfold ordT
    by_cases h1 : a = b
    · rw [if_neg (fun z => z h1)]
      by_cases h2 : k.size = l.size
      · rw [if_neg (fun z => z h2)]
        by_cases h3 : ordT k l = 0
        · rw [if_neg (fun z => z h3)]; exact ordT_val r s
        · rw [if_pos h3]; exact ordT_val k l
      · rw [if_pos h2]; rcases sgn_val k.size l.size with h | h <;> simp [h]
    · rw [if_pos h1]; rcases sgn_val a b with h | h <;> simp [h]
theorem ordS_val (d e : Doc) : ordS d e = -1 ∨ ordS d e = 0 ∨ ordS d e = 1 := by
  unfold ordS
  split
  · rcases sgn_val d.size e.size with h | h <;> simp [h]
  · exact ordT_val d e
theorem ordS_same {d e : Doc} (h : d.size = e.size) : ordS d e = ordT d e := by unfold ordS; rw [if_neg (fun z => z h)]
theorem leD_size {d e : Doc} (h : d.size < e.size) : leD d e := by
  unfold leD ordS
  rw [if_pos (by omega)]
  unfold sgn
  rw [if_neg (by omega)]; decide
theorem leD_antisymm {d e : Doc} (h1 : leD d e) (h2 : leD e d) : d = e := by
  unfold leD at *
  rw [ordS_neg d e] at h1
  rcases ordS_val d e with h | h | h
  · exact absurd h h2
  · exact ordS_eq h
  · rw [h] at h1; exact absurd rfl h1
theorem leD_sz {d e : Doc} (h : leD d e) : d.size ≤ e.size := by
  rcases Nat.lt_or_ge e.size d.size with h1 | h1
  · exfalso
    have := leD_antisymm h (leD_size h1)
    rw [this] at h1; omega
  · exact h1
theorem leD_cons {a : Int} {k k' r r' : Doc} (hk : leD k k') (hr : leD r r') (sk : k.size = k'.size) (sr : r.size = r'.size) : leD (.cons a k r) (.cons a k' r') := by
  unfold leD at *
  rw [ordS_same (by simp only [Doc.size]; omega)]
  rw [ordS_same sk.symm] at hk
  rw [ordS_same sr.symm] at hr
  by_cases h : ordT k' k = 0
  · rw [ordT_next sk.symm h]; exact hr
  · rw [ordT_kid sk.symm h]; exact hk
theorem alike_o (xs ys : List Int) : PySem.W.alike (oD xs) (oD ys) = true := by
  show PySem.W.alikeAll (xs.map PyData.int) (ys.map PyData.int) = true
  induction xs generalizing ys with
  | nil => simp [PySem.W.alikeAll]
  | cons x xs ih =>
    cases ys with
    | nil => simp [PySem.W.alikeAll]
    | cons y ys => simp [PySem.W.alikeAll, PySem.W.alike, ih]
theorem eqv_intsL : ∀ xs ys : List Int, PyData.eqvAll (xs.map PyData.int) (ys.map PyData.int) = decide (xs = ys)
  | [], [] => by simp [PyData.eqvAll]
  | [], _ :: _ => by simp [PyData.eqvAll]
  | _ :: _, [] => by simp [PyData.eqvAll]
  | x :: xs, y :: ys => by
    rw [List.map_cons, List.map_cons, PyData.eqvAll, eqv_intsL xs ys]
    by_cases h1 : x = y <;> by_cases h2 : xs = ys <;> simp [PyData.eqv, h1, h2]
theorem eqv_o (xs ys : List Int) : PyData.eqv (oD xs) (oD ys) = decide (xs = ys) := by
  unfold oD
  rw [PyData.eqv]
  exact eqv_intsL xs ys
theorem ord_inj {d e : Doc} (h : d.ord = e.ord) : d = e := ordS_eq (by rw [← cmp_ord, h]; simp [cmpL])
def candD (l : Nat) (k r : Doc) (x y : Nat) : PyData := .tuple [.int (l : Int), oD k.ord, oD r.ord, .int (x : Int), .int (y : Int)]
theorem cand_le {l l' : Nat} {k r k' r' : Doc} {x y x' y' : Nat} (h : PySem.W.dataLt (candD l' k' r' x' y') (candD l k r x y) = false) (hs : k.size + r.size = k'.size + r'.size) : leD (.cons (l : Int) k r) (.cons (l' : Int) k' r') := by
  unfold candD at h
  rw [PySem.W.dataLt_tuple] at h
  have a1 : PySem.W.alike (.int (l' : Int)) (.int (l : Int)) = true := rfl
  have e1 : (Doc.cons (l' : Int) k' r').size = (Doc.cons (l : Int) k r).size := by simp only [Doc.size]; omega
  unfold leD
  rw [ordS_same e1]
  by_cases h1 : (l' : Int) = (l : Int)
  · rw [PySem.W.dataLt_all_yes a1 (by simp [PyData.eqv, h1])] at h
    rw [h1]
    by_cases h2 : k' = k
    · subst h2
      rw [PySem.W.dataLt_all_yes (alike_o _ _) (by rw [eqv_o]; simp)] at h
      rw [ordT_next rfl (ordT_refl _)]
      have sr : r'.size = r.size := by omega
      by_cases h3 : r' = r
      · subst h3; rw [ordT_refl]; decide
      · rw [PySem.W.dataLt_all_no (alike_o _ _) (by rw [eqv_o]; exact decide_eq_false fun z => h3 (ord_inj z)), ord_lt, decide_eq_false_iff_not, ordS_same sr] at h
        exact h
    · rw [PySem.W.dataLt_all_no (alike_o _ _) (by rw [eqv_o]; exact decide_eq_false fun z => h2 (ord_inj z)), ord_lt, decide_eq_false_iff_not] at h
      by_cases sk : k'.size = k.size
      · rw [ordS_same sk] at h
        have h4 : ordT k' k ≠ 0 := fun z => h2 (ordT_eq _ _ sk z)
        rw [ordT_kid sk h4]; exact h
      · rw [ordT_sz sk]
        unfold ordS at h
        rw [if_pos sk] at h
        exact h
  · rw [PySem.W.dataLt_all_no a1 (by simp [PyData.eqv, h1]), PySem.W.dataLt_int, decide_eq_false_iff_not] at h
    rw [ordT_ab h1]
    unfold sgn
    rw [if_neg h]; decide
abbrev R4 := Nat × Rl
def accR (ends : List Bool) (rules : List R4) : Doc → Nat → Bool
  | .nil, q => ends.getD q false
  | .cons a k r, q => rules.any fun u => decide (u.1 = q) && decide ((u.2.1 : Int) = a) && accR ends rules k u.2.2.1 && accR ends rules r u.2.2.2
theorem acc_cons {ends : List Bool} {rules : List R4} {a : Int} {k r : Doc} {q : Nat} : accR ends rules (.cons a k r) q = true ↔ ∃ l x y, (q, l, x, y) ∈ rules ∧ (l : Int) = a ∧ accR ends rules k x = true ∧ accR ends rules r y = true := by
  rw [accR, List.any_eq_true]
  constructor
  · rintro ⟨⟨p, l, x, y⟩, hm, h⟩
    simp only [Bool.and_eq_true, decide_eq_true_eq] at h
    obtain ⟨⟨⟨rfl, h2⟩, h3⟩, h4⟩ := h
    exact ⟨l, x, y, hm, h2, h3, h4⟩
  · rintro ⟨l, x, y, hm, h2, h3, h4⟩
    exact ⟨(q, l, x, y), hm, by simp [h2, h3, h4]⟩
def szBy (sz : List (Option Nat)) (x y : Nat) : Option Nat := match sz.getD x none, sz.getD y none with
  | some a, some b => some (1 + a + b)
  | _, _ => none
theorem szBy_some {sz : List (Option Nat)} {x y m : Nat} : szBy sz x y = some m ↔ ∃ a b, sz.getD x none = some a ∧ sz.getD y none = some b ∧ m = 1 + a + b := by
  unfold szBy
  cases sz.getD x none with
  | none => simp
  | some a =>
    cases sz.getD y none with
    | none => simp
    | some b => simp only [Option.some.injEq]; constructor <;> intro h; exact ⟨a, b, rfl, rfl, h.symm⟩; obtain ⟨_, _, rfl, rfl, h⟩ := h; exact h.symm
structure SzWit (ends : List Bool) (rules : List R4) (sz : List (Option Nat)) : Prop where
  len : sz.length = ends.length
  zero : ∀ q, ends.getD q false = true → sz.getD q none = some 0
  wit : ∀ q k, sz.getD q none = some k → ∃ d, accR ends rules d q = true ∧ d.size = k
structure SzOk (ends : List Bool) (rules : List R4) (sz : List (Option Nat)) : Prop where
  w : SzWit ends rules sz
  low : ∀ u ∈ rules, ∀ m, szBy sz u.2.2.1 u.2.2.2 = some m → ∃ k, sz.getD u.1 none = some k ∧ k ≤ m
section
variable {ends : List Bool} {rules : List R4} {sz : List (Option Nat)}
theorem SzOk.le (h : SzOk ends rules sz) : ∀ (d : Doc) (q : Nat), accR ends rules d q = true → ∃ k, sz.getD q none = some k ∧ k ≤ d.size
  | .nil, q, ha => ⟨0, h.w.zero q ha, Nat.zero_le _⟩
  | .cons a k r, q, ha => by
    obtain ⟨l, x, y, hm, _, h1, h2⟩ := acc_cons.mp ha
    obtain ⟨i, ei, hi⟩ := h.le k x h1
    obtain ⟨j, ej, hj⟩ := h.le r y h2
    obtain ⟨m, em, hm'⟩ := h.low _ hm (1 + i + j) (szBy_some.mpr ⟨i, j, ei, ej, rfl⟩)
    exact ⟨m, em, by simp only [Doc.size]; omega⟩
theorem SzOk.no (h : SzOk ends rules sz) {q : Nat} : sz.getD q none = none ↔ ∀ d, accR ends rules d q = false := by
  constructor
  · intro e d
    cases z : accR ends rules d q with
    | false => rfl
    | true => obtain ⟨k, e2, _⟩ := h.le d q z; rw [e] at e2; cases e2
  · intro hn
    cases e : sz.getD q none with
    | none => rfl
    | some k => obtain ⟨d, hd, _⟩ := h.w.wit q k e; rw [hn d] at hd; cases hd
def fitR (rules : List R4) (sz : List (Option Nat)) (q : Nat) : List Rl := (rules.filter fun u => decide (u.1 = q) && decide (szBy sz u.2.2.1 u.2.2.2 = sz.getD q none) && (szBy sz u.2.2.1 u.2.2.2).isSome && decide ((szBy sz u.2.2.1 u.2.2.2).getD 0 ≤ 300)).map (·.2)
theorem fitR_mem {q : Nat} {t : Rl} : t ∈ fitR rules sz q ↔ (q, t) ∈ rules ∧ ∃ m, szBy sz t.2.1 t.2.2 = some m ∧ sz.getD q none = some m ∧ m ≤ 300 := by
  unfold fitR
  rw [List.mem_map]
  constructor
  · rintro ⟨⟨p, t'⟩, hm, rfl⟩
    rw [List.mem_filter] at hm
    obtain ⟨h1, h2⟩ := hm
    simp only [Bool.and_eq_true, decide_eq_true_eq] at h2
    obtain ⟨⟨⟨rfl, h3⟩, h4⟩, h5⟩ := h2
    obtain ⟨m, em⟩ := Option.isSome_iff_exists.mp h4
    rw [em] at h5
    exact ⟨h1, m, em, by rw [← h3, em], h5⟩
  · rintro ⟨h1, m, e1, e2, h3⟩
    refine ⟨(q, t), List.mem_filter.mpr ⟨h1, ?_⟩, rfl⟩
    rw [List.getD_eq_getElem?_getD] at e2
    simp [e1, e2, h3]
def IsLeast (ends : List Bool) (rules : List R4) (q : Nat) (d : Doc) : Prop := accR ends rules d q = true ∧ ∀ e, accR ends rules e q = true → leD d e
theorem IsLeast.size (h : SzOk ends rules sz) {q k : Nat} {d : Doc} (hd : IsLeast ends rules q d) (e : sz.getD q none = some k) : d.size = k := by
  obtain ⟨i, ei, hi⟩ := h.le d q hd.1
  rw [e] at ei; cases ei
  obtain ⟨d', hd', hs⟩ := h.w.wit q k e
  have := leD_sz (hd.2 d' hd')
  omega
theorem choose_least (h : SzOk ends rules sz) {q : Nat} {D : Nat → Doc} {l x y : Nat} (hm : (l, x, y) ∈ fitR rules sz q) (hx : ∀ t ∈ fitR rules sz q, IsLeast ends rules t.2.1 (D t.2.1) ∧ IsLeast ends rules t.2.2 (D t.2.2))
    (hmin : ∀ t ∈ fitR rules sz q, PySem.W.dataLt (candD t.1 (D t.2.1) (D t.2.2) t.2.1 t.2.2) (candD l (D x) (D y) x y) = false) : IsLeast ends rules q (.cons (l : Int) (D x) (D y)) := by
  obtain ⟨hr, m, e1, e2, e3⟩ := fitR_mem.mp hm
  obtain ⟨h1, h2⟩ := hx _ hm
  obtain ⟨a, b, ea, eb, em⟩ := szBy_some.mp e1
  have sx : (D x).size = a := h1.size h ea
  have sy : (D y).size = b := h2.size h eb
  refine ⟨acc_cons.mpr ⟨l, x, y, hr, rfl, h1.1, h2.1⟩, fun e he => ?_⟩
  obtain ⟨k, ek, hk⟩ := h.le e q he
  rw [e2] at ek; cases ek
  have hd : (Doc.cons (l : Int) (D x) (D y)).size = m := by simp only [Doc.size]; omega
  rcases Nat.lt_or_ge m e.size with hlt | hge
  · exact leD_size (by omega)
  cases e with
  | nil => simp only [Doc.size] at hk; omega
  | cons c kd r =>
    obtain ⟨l', x', y', hm', rfl, h1', h2'⟩ := acc_cons.mp he
    obtain ⟨i, ei, hi⟩ := h.le kd x' h1'
    obtain ⟨j, ej, hj⟩ := h.le r y' h2'
    have es := szBy_some.mpr ⟨i, j, ei, ej, rfl⟩
    obtain ⟨m', em', hm''⟩ := h.low _ hm' _ es
    rw [e2] at em'; cases em'
    simp only [Doc.size] at hk hge
    have hf : (l', x', y') ∈ fitR rules sz q := fitR_mem.mpr ⟨hm', m, by rw [es]; congr 1; omega, e2, e3⟩
    obtain ⟨g1, g2⟩ := hx _ hf
    have s1 : (D x').size = i := g1.size h ei
    have s2 : (D y').size = j := g2.size h ej
    refine leD_trans (cand_le (hmin _ hf) (by dsimp only; omega)) ?_
    exact leD_cons (g1.2 kd h1') (g2.2 r h2') (by dsimp only; omega) (by dsimp only; omega)
end
end LW
set_option maxHeartbeats 2000000
namespace LW
open PySem PySem.Spec PyProof.Rows L2
def cntN (sz : List (Option Nat)) : Nat := (sz.filter Option.isNone).length
def sumZ (sz : List (Option Nat)) : Nat := (sz.map (·.getD 0)).sum
def bndS (sz : List (Option Nat)) : Prop := ∀ k, some k ∈ sz → k + 1 ≤ 2 ^ (sz.length - cntN sz)
def muS (sz : List (Option Nat)) : Nat := cntN sz * (sz.length * 2 ^ sz.length + 1) + sumZ sz
def inR (n : Nat) (rules : List R4) : Prop := ∀ u ∈ rules, u.1 < n ∧ u.2.1 < 5 ∧ u.2.2.1 < n ∧ u.2.2.2 < n
section
variable {ends : List Bool} {rules : List R4} {sz : List (Option Nat)}
def sz0 (ends : List Bool) : List (Option Nat) := ends.map fun e => if e = true then some 0 else none
end
def lowU (sz : List (Option Nat)) (u : R4) : Prop := ∀ m, szBy sz u.2.2.1 u.2.2.2 = some m → ∃ k, sz.getD u.1 none = some k ∧ k ≤ m
def oV : Option Nat → V
  | none => .non
  | some k => natV k
def oDt : Option Nat → PyData
  | none => .none
  | some k => .int (k : Int)
def spSizeBy (K : PySem.W.Frag) : Sp := fun vs H Q _ => ∃ (l : Addr) (sz : List (Option Nat)) (x y : Nat), vs = [.ref l, natV x, natV y] ∧ H l = some (.lst (sz.map oV)) ∧ x < sz.length ∧ y < sz.length ∧ Q (oV (szBy sz x y)) H
def spLeastSizes (K : PySem.W.Frag) : Sp := fun vs H Q _ => ∃ (el rl : Addr) (ends : List Bool) (rules : List R4) (ys : List V), vs = [.ref el, .ref rl] ∧ SqL K H el (ends.map V.bl) ∧ SqL K H rl ys ∧ DpAll K H ys (rules.map quadD) ∧ inR ends.length rules ∧ ends.length ≤ 1000 ∧
  ∀ H' l sz, Gr [] H H' → H l = none → H' l = some (.lst (sz.map oV)) → SzOk ends rules sz → Q (.ref l) H'
end LW
set_option maxHeartbeats 2000000
namespace LW
open PySem PySem.Spec PyProof.Rows L2
structure FitAt (K : PySem.W.Frag) (H0 H : Hp) (d : Addr) (rules : List R4) (sz : List (Option Nat)) (La : Nat → Option Addr) (ks : List Nat) (kvs : List (Key × V)) : Prop where
  dict : H d = some (.dK kvs)
  val : ∀ q : Nat, valV kvs (.inl (q : Int)) = (La q).map V.ref
  keys : kvs.map (·.1) = ks.map fun q : Nat => (Sum.inl (q : Int) : Key)
  nd : ks.Nodup
  mem : ∀ q, q ∈ ks ↔ La q ≠ none
  ls : ∀ q a, La q = some a → (∃ xs, H a = some (.lst xs) ∧ DpAll K H xs ((fitR rules sz q).map rlD)) ∧ fitR rules sz q ≠ [] ∧ H0 a = none ∧ a ≠ d
  no : ∀ q, La q = none → fitR rules sz q = []
  inj : ∀ q q' a, La q = some a → La q' = some a → q = q'
theorem fitR_snoc (rules : List R4) (u : R4) (sz : List (Option Nat)) (q : Nat) : fitR (rules ++ [u]) sz q = fitR rules sz q ++ if (decide (u.1 = q) && decide (szBy sz u.2.2.1 u.2.2.2 = sz.getD q none) && (szBy sz u.2.2.1 u.2.2.2).isSome && decide ((szBy sz u.2.2.1 u.2.2.2).getD 0 ≤ 300)) = true then [u.2] else [] := by
  unfold fitR
  rw [List.filter_append, List.map_append]
  congr 1
  rw [List.filter_cons]
  split <;> simp
theorem fitR_snoc_yes {rules : List R4} {u : R4} {sz : List (Option Nat)} {m : Nat} (h1 : szBy sz u.2.2.1 u.2.2.2 = some m) (h2 : sz.getD u.1 none = some m) (h3 : m ≤ 300) (q : Nat) : fitR (rules ++ [u]) sz q = if u.1 = q then fitR rules sz q ++ [u.2] else fitR rules sz q := by
  rw [fitR_snoc]
  by_cases h : u.1 = q
  · subst h
    rw [if_pos rfl, if_pos (by rw [h1, h2]; simp [h3])]
  · rw [if_neg h, if_neg, List.append_nil]
    simp [h]
section
variable {K : PySem.W.Frag} {H0 H H' : Hp} {d : Addr} {rules : List R4} {sz : List (Option Nat)} {La : Nat → Option Addr} {ks : List Nat} {kvs : List (Key × V)} {u : R4}
theorem rls_pure (l : List Rl) : pureAll (l.map rlD) = true := pure_rls' l
theorem FitAt.gr (h : FitAt K H0 H d rules sz La ks kvs) (g : Gr [] H H') : FitAt K H0 H' d rules sz La ks kvs :=
  ⟨g.keep _ _ (by simp) h.dict (fun _ z => by cases z), h.val, h.keys, h.nd, h.mem, fun q a e => let ⟨⟨xs, e1, e2⟩, r⟩ := h.ls q a e; ⟨⟨xs, g.lst (by simp) e1, e2.gr g⟩, r⟩, h.no, h.inj⟩
theorem FitAt.more {m : Nat} {a : Addr} {xs : List V} {x : V} (h : FitAt K H0 H d rules sz La ks kvs) (h1 : szBy sz u.2.2.1 u.2.2.2 = some m) (h2 : sz.getD u.1 none = some m) (h3 : m ≤ 300) (ea : La u.1 = some a) (hl : H a = some (.lst xs)) (hx : Dp K H x (rlD u.2)) :
    FitAt K H0 (upd H a (.lst (xs ++ [x]))) d (rules ++ [u]) sz La ks kvs := by
  obtain ⟨⟨ys, e1, e2⟩, e3, e4, e5⟩ := h.ls _ a ea
  rw [hl] at e1; cases e1
  have gw : Gr [a] H (upd H a (.lst (xs ++ [x]))) := Gr.put hl (fun _ z => by cases z) (by simp)
  have wl : ∀ b ∈ [a], ∃ ys, H b = some (.lst ys) := fun b hb => by rw [List.mem_singleton.mp hb]; exact ⟨_, hl⟩
  refine ⟨by rw [upd_ne e5.symm]; exact h.dict, h.val, h.keys, h.nd, h.mem, fun q b e => ?_, fun q e => ?_, h.inj⟩
  · obtain ⟨⟨zs, f1, f2⟩, f3, f4, f5⟩ := h.ls q b e
    rw [fitR_snoc_yes h1 h2 h3]
    by_cases hq : u.1 = q
    · subst hq
      rw [ea] at e; cases e
      rw [hl] at f1; cases f1
      rw [if_pos rfl]
      refine ⟨⟨_, upd_same, ?_⟩, by simp, f4, f5⟩
      rw [List.map_append]
      exact (dpAll_grm gw wl _ _ (rls_pure _) f2).append (.cons (dp_grm gw wl _ _ rfl hx) .nil)
    · rw [if_neg hq]
      have nab : b ≠ a := fun z => hq (h.inj _ _ b (by rw [ea, z]) e)
      exact ⟨⟨zs, by rw [upd_ne nab]; exact f1, dpAll_grm gw wl _ _ (rls_pure _) f2⟩, f3, f4, f5⟩
  · rw [fitR_snoc_yes h1 h2 h3]
    by_cases hq : u.1 = q
    · subst hq; rw [ea] at e; cases e
    · rw [if_neg hq]; exact h.no q e
theorem FitAt.few {n : Nat} (h : FitAt K H0 H d rules sz La ks kvs) (hn : ∀ q, La q ≠ none → q < n) : kvs.length ≤ n := by
  have e := congrArg List.length h.keys
  rw [List.length_map, List.length_map] at e
  rw [e]
  have hb : ∀ q ∈ ks, q ∈ List.range n := fun q hq => List.mem_range.mpr (hn q ((h.mem q).mp hq))
  have := h.nd.length_le_of_subset hb
  rwa [List.length_range] at this
end
def spFitting (K : PySem.W.Frag) : Sp := fun vs H Q _ => ∃ (rl sl : Addr) (rules : List R4) (ys : List V) (sz : List (Option Nat)), vs = [.ref rl, .ref sl] ∧ SqL K H rl ys ∧ DpAll K H ys (rules.map quadD) ∧ H sl = some (.lst (sz.map oV)) ∧ inR sz.length rules ∧ sz.length ≤ 1000 ∧ rules.length ≤ 90000 ∧
  ∀ H' d La ks kvs, Gr [] H H' → H d = none → FitAt K H H' d rules sz La ks kvs → Q (.ref d) H'
end LW
set_option maxHeartbeats 2000000
namespace LW
open PySem PySem.Spec PyProof.Rows L2
section
variable {X : Cx}
def rExtendT (K : PySem.W.Frag) : V → List V → Hp → VK → Prop := fun x vs H Q => ∃ l b xs zs, x = .ref l ∧ vs = [.ref b] ∧ H l = some (.lst xs) ∧ SqT K H b zs ∧ xs.length + zs.length ≤ sizeLine ∧ Q .non (upd H l (.lst (xs ++ zs)))
end
end LW
namespace LW
open PySem PySem.Spec PyProof.Rows L2
def fillP (si ni : Nat → Doc) : Prt → Doc
  | .node b t => .cons b (fillT si ni t) .nil
  | .ref w p => if w = true then ni p.toNat else si p.toNat
def fillL (si ni : Nat → Doc) : List Prt → Doc
  | [] => .nil
  | p :: ps => (fillP si ni p).app (fillL si ni ps)
def mdD (d : Doc) : PyData := if beyond (msOf d) = true then .none else d.data
def mdRow (m : Trn) (d : Doc) : List PyData := (List.range m.sts.length).map fun q => mdD (madeD m d q)
def DcAt (K : PySem.W.Frag) (H : Hp) (D : Addr) (m : Trn) (L : List Doc) : Prop := ∃ ls : List Addr, H D = some (.lst (ls.map V.ref)) ∧ ls.length = L.length ∧ (∀ l ∈ ls, l ≠ D) ∧ ∀ k l, ls[k]? = some l → ∃ xs, H l = some (.lst xs) ∧ DpAll K H xs (mdRow m (L.getD k .nil))
theorem DcAt.gr0 {K : PySem.W.Frag} {H H' : Hp} {D : Addr} {m : Trn} {L : List Doc} (h : DcAt K H D m L) (g : Gr [] H H') : DcAt K H' D m L := by
  obtain ⟨ls, e, l, n, f⟩ := h
  refine ⟨ls, g.lst (by simp) e, l, n, fun k a q => ?_⟩
  obtain ⟨xs, e1, e2⟩ := f k a q
  exact ⟨xs, g.lst (by simp) e1, e2.gr g⟩
def spBuild (K : PySem.W.Frag) (C : Addr) (k : Nat) : Sp := fun vs H Q _ => ∃ (p kl ql ml D : Addr) (ks qs : List Nat) (M : List (List Ms)) (m : Trn) (L : List Doc) (tv : V) (t : Tm) (i kk qq : Nat) (mf : Bool), vs = [.ref p, tv, natV i, .ref D] ∧ MsAt K C H p kl ql ml ks qs M ∧ DcAt K H D m L ∧ Dp K H tv t.data ∧ t.dp < k ∧ t.okT m.sts.length mf = true ∧
  (mf = true → ks[i]? = some kk ∧ qs[i]? = some qq ∧ kk < L.length ∧ qq < L.length) ∧ beyond (msOf (fillT (madeD m (L.getD kk .nil)) (madeD m (L.getD qq .nil)) t)) = false ∧
  ∀ H' y, Gr [] H H' → Dp K H' y (fillT (madeD m (L.getD kk .nil)) (madeD m (L.getD qq .nil)) t).data → Q y H'
end LW
namespace LW
open PySem PySem.Spec PyProof.Rows L2
theorem TsAt.gr0 {K : PySem.W.Frag} {H H' : Hp} {tl ml : Addr} {TT : List (List Tm)} (h : TsAt K H tl ml TT) (g : Gr [] H H') : TsAt K H' tl ml TT := by
  obtain ⟨ls, e, l, ne, nes, f⟩ := h
  refine ⟨ls, g.lst (by simp) e, l, ne, nes, fun i a q => ?_⟩
  obtain ⟨xs, e1, e2⟩ := f i a q
  exact ⟨xs, g.lst (by simp) e1, e2.gr g⟩
theorem MkDone.gr0 {K : PySem.W.Frag} {CM : Addr} {H H' : Hp} {p ps pc sl kl ql tl ml : Addr} {m : Trn} {docs : List Doc} {ks qs : List Nat} {TT : List (List Tm)} {wh : Nat} (h : MkDone K CM H p ps pc sl kl ql tl ml m docs ks qs TT wh) (g : Gr [] H H') : MkDone K CM H' p ps pc sl kl ql tl ml m docs ks qs TT wh :=
  ⟨let ⟨dx, e⟩ := h.ins; ⟨dx, g.keep _ _ (by simp) e fun _ z => by cases z⟩, h.ms.gr0 g, h.ts.gr0 g, h.num, h.len⟩
def spMade (K : PySem.W.Frag) (CM DT : Addr) : Sp := fun vs H Q E => ∃ (p ps pc sl kl ql tl ml : Addr) (m : Trn) (docs : List Doc) (ks qs : List Nat) (TT : List (List Tm)) (wh st : Nat) (d : Doc), vs = [.ref p, natV st] ∧ MkDone K CM H p ps pc sl kl ql tl ml m docs ks qs TT wh ∧ docs[wh]? = some d ∧ st < m.sts.length ∧ StsOk m.sts.length m.looks.length m.sts ∧
  (beyond (msOf (madeD m d st)) = true → XE0 E DT H) ∧ (beyond (msOf (madeD m d st)) = false → ∀ H' y, Gr [] H H' → Dp K H' y (madeD m d st).data → Q y H')
end LW
namespace LW
open PySem PySem.Spec PyProof.Rows L2
def turnWays (K : PySem.W.Frag) (CT CD DT : Addr) (dm dd : PyData) (sv : V) (H : Hp) (Q : VK) (E : XK) : Prop :=
  (transD dm = false ∧ XE0 E CT H) ∨ (transD dm = true ∧ docD dd = false ∧ XE0 E CD H) ∨ ∃ (m : Trn) (d : Doc) (st : Nat), transD dm = true ∧ dm = m.data ∧ SchOk m.looks ∧ StsOk m.sts.length m.looks.length m.sts ∧ dd = d.data ∧ d.ok ∧ sv = natV st ∧ st < m.sts.length ∧
    (beyond (msOf (madeD m d st)) = true → XE0 E DT H) ∧ (beyond (msOf (madeD m d st)) = false → ∀ H' y, Gr [] H H' → Dp K H' y (madeD m d st).data → Q y H')
def spTurned (K : PySem.W.Frag) (T T1 T2 T3 T4 T5 T6 T7 CT CD DT : Addr) : Sp := fun vs H Q E => ∃ (mv dv : V) (dm dd : PyData), vs = [mv, dv] ∧ Dp K H mv dm ∧ Dp K H dv dd ∧ TrPre dm ∧ Tbs [T1, T2, T3, T4, T5, T6, T7] H ∧ GxR.TabG H T ∧ turnWays K CT CD DT dm dd (natV 0) H Q E
def spMadeG (K : PySem.W.Frag) (T T1 T2 T3 T4 T5 T6 T7 CT CD DT : Addr) : Sp := fun vs H Q E => ∃ (mv sv dv : V) (dm dd : PyData), vs = [mv, sv, dv] ∧ Dp K H mv dm ∧ Dp K H dv dd ∧ TrPre dm ∧ Tbs [T1, T2, T3, T4, T5, T6, T7] H ∧ GxR.TabG H T ∧ turnWays K CT CD DT dm dd sv H Q E
end LW
set_option maxHeartbeats 2000000
namespace LW
open PySem PySem.Spec PyProof.Rows L2
def SetT (K : PySem.W.Frag) (H : Hp) (v : V) (x n : Nat) : Prop := ∃ a, v = .ref a ∧ SqT K H a ((LB.mems x n).map natV)
theorem SetT.gr {K : PySem.W.Frag} {H H' : Hp} {v : V} {x n : Nat} (h : SetT K H v x n) (g : Gr [] H H') : SetT K H' v x n := let ⟨a, e, s⟩ := h; ⟨a, e, g.sqT s⟩
def picked (m : Trn) (p a x : Nat) : Tm := (tplL m.sts a x).getD p .nil
def spChosen (K : PySem.W.Frag) : Sp := fun vs H Q _ => ∃ (mv lv : V) (m : Trn) (p a x : Nat), vs = [mv, natV p, natV a, lv] ∧ Dp K H mv m.data ∧ StsOk m.sts.length m.looks.length m.sts ∧ p < m.sts.length ∧ a < 5 ∧ SetT K H lv x m.looks.length ∧ ∀ H' y, Gr [] H H' → Dp K H' y (picked m p a x).data → Q y H'
end LW
namespace LW
open PySem PySem.Spec PyProof.Rows L2
def MsL (K : PySem.W.Frag) (H : Hp) (v : V) (ms : List Ms) : Prop := ∃ a xs, v = .ref a ∧ H a = some (.lst xs) ∧ DpAll K H xs (ms.map msD)
theorem MsL.gr {K : PySem.W.Frag} {H H' : Hp} {v : V} {ms : List Ms} (h : MsL K H v ms) (g : Gr [] H H') : MsL K H' v ms := let ⟨a, xs, e, h1, h2⟩ := h; ⟨a, xs, e, g.lst (by simp) h1, h2.gr g⟩
def msAt (ms : List Ms) (p : Nat) : Ms := ms.getD p (0, 0)
def spLMeas (K : PySem.W.Frag) (k : Nat) : Sp := fun vs H Q _ => ∃ (tv kv rv : V) (t : Tm) (kl rl : List Ms) (n : Nat) (mf : Bool), vs = [tv, kv, rv] ∧ Dp K H tv t.data ∧ MsL K H kv kl ∧ MsL K H rv rl ∧ t.dp < k ∧ t.okT n mf = true ∧ (mf = true → kl.length = n ∧ rl.length = n) ∧
  ∀ H' y, Gr [] H H' → Dp K H' y (msD (measT (msAt kl) (msAt rl) t)) → Q y H'
end LW
namespace LW
open PySem PySem.Spec PyProof.Rows L2
def spSizes (K : PySem.W.Frag) (k : Nat) : Sp := fun vs H Q _ => ∃ (mv dv : V) (m : Trn) (d : Doc), vs = [mv, dv] ∧ Dp K H mv m.data ∧ SchOk m.looks ∧ StsOk m.sts.length m.looks.length m.sts ∧ Dp K H dv d.data ∧ d.lab = true ∧ d.size < k ∧ d.size ≤ 8 ∧ d.dep ≤ 8 ∧
  ∀ H' y, Gr [] H H' → MsL K H' y (rowM m d) → Q y H'
end LW
namespace LW
open PySem PySem.Spec PyProof.Rows L2
structure LowT (m : Trn) : Prop where
  fin : ∀ s ∈ m.sts, s.fin.dp ≤ 2
  row : ∀ s ∈ m.sts, ∀ r ∈ s.rows, ∀ c ∈ r, c.2.dp ≤ 2
def kidM (m : Trn) : Doc → Nat → Doc
  | .nil => fun _ => .nil
  | .cons _ k _ => madeD m k
def nxtM (m : Trn) : Doc → Nat → Doc
  | .nil => fun _ => .nil
  | .cons _ _ r => madeD m r
def spFilled (K : PySem.W.Frag) (k j : Nat) : Sp := fun vs H Q _ => ∃ (mv tv dv : V) (m : Trn) (t : Tm) (d : Doc) (mf : Bool), vs = [mv, tv, dv] ∧ Dp K H mv m.data ∧ SchOk m.looks ∧ StsOk m.sts.length m.looks.length m.sts ∧ LowT m ∧ Dp K H tv t.data ∧ t.dp < j ∧ t.okT m.sts.length mf = true ∧ Dp K H dv d.data ∧ (mf = true → ∃ a kd r, d = .cons a kd r) ∧ d.lab = true ∧ d.size < k + 1 ∧ d.size ≤ 8 ∧ d.dep ≤ 8 ∧
  (fillT (kidM m d) (nxtM m d) t).size ≤ 5000 ∧ ∀ H' y, Gr [] H H' → Dp K H' y (fillT (kidM m d) (nxtM m d) t).data → Q y H'
def spLMade (K : PySem.W.Frag) (k : Nat) : Sp := fun vs H Q _ => ∃ (mv dv : V) (m : Trn) (p : Nat) (d : Doc), vs = [mv, natV p, dv] ∧ Dp K H mv m.data ∧ SchOk m.looks ∧ StsOk m.sts.length m.looks.length m.sts ∧ LowT m ∧ p < m.sts.length ∧ Dp K H dv d.data ∧ d.lab = true ∧ d.size < k ∧ d.size ≤ 8 ∧ d.dep ≤ 8 ∧
  (madeD m d p).size ≤ 5000 ∧ ∀ H' y, Gr [] H H' → Dp K H' y (madeD m d p).data → Q y H'
end LW
set_option maxHeartbeats 2000000
namespace LW
open PySem PySem.Spec PyProof.Rows L2
def goodT16 (n : Nat) (t : Tm) : Prop := t.okT n true = true ∧ t.dp ≤ 2 ∧ t.parts ≤ 5
def goodR16 (n lk : Nat) (r : List TCh) : Prop := ∃ ini t, r = ini ++ [(-1, t)] ∧ (ini.length ≤ 3 ∧ ini.length + n ≤ 5) ∧ (∀ c ∈ ini, 0 ≤ c.1 ∧ c.1 < (lk : Int)) ∧ ∀ c ∈ r, goodT16 n c.2
def goodE16 (n : Nat) (t : Tm) : Prop := t.okT n false = true ∧ t.dp ≤ 2 ∧ t.parts ≤ 3
structure goodM16 (most : Nat) (m : Trn) : Prop where
  looks : SchOk m.looks
  two : m.looks.length ≤ 2
  lfew : ∀ st ∈ m.looks, st.2.length ≤ 4
  one : 1 ≤ m.sts.length
  most : m.sts.length ≤ most
  sts : ∀ s ∈ m.sts, goodE16 m.sts.length s.fin ∧ s.rows.length = 5 ∧ ∀ r ∈ s.rows, goodR16 m.sts.length m.looks.length r
def spTurner (K : PySem.W.Frag) : Sp := fun vs H Q _ => ∃ (bx cl : Addr) (most : Nat), vs = [.ref bx, natV most] ∧ BoxAt H bx cl ∧ 1 ≤ most ∧ most ≤ 3 ∧ ∀ (m : Trn) (v : V) H', goodM16 most m → Gr [bx] H H' → BoxAt H' bx cl → Dp K H' v m.data → Q v H'
theorem goodM16.sok {most : Nat} {m : Trn} (h : goodM16 most m) (hm : most ≤ 12) : StsOk m.sts.length m.looks.length m.sts where
  few := by have := h.most; omega
  sts := fun s hs => by
    obtain ⟨e, f, r⟩ := h.sts s hs
    refine ⟨⟨e.1, by have := e.2.1; omega⟩, f, fun row hr => ?_⟩
    obtain ⟨ini, t, e1, _, e2, e3⟩ := r row hr
    exact ⟨ini, t, e1, e2, fun c hc => ⟨(e3 c hc).1, by have := (e3 c hc).2.1; omega⟩⟩
  rfew := fun s hs row hr => by
    obtain ⟨ini, t, e1, e2, _⟩ := (h.sts s hs).2.2 row hr
    rw [e1, List.length_append]; show _ + 1 ≤ _; omega
  lkn := by have := h.two; omega
theorem goodM16.low {most : Nat} {m : Trn} (h : goodM16 most m) : LowT m where
  fin := fun s hs => (h.sts s hs).1.2.1
  row := fun s hs r hr c hc => by
    obtain ⟨ini, t, e1, _, _, e3⟩ := (h.sts s hs).2.2 r hr
    exact (e3 c hc).2.1
def endsT : List Tm := [.nil, .nil, .nil, .node 1 .nil .nil, .node 0 (.node 2 .nil .nil) (.node 1 .nil .nil)]
def endsD : List PyData := [.tuple [], .tuple [], .tuple [], .tuple [.tuple [.str "node", .int 1, .tuple []]], .tuple [.tuple [.str "node", .int 0, .tuple [.tuple [.str "node", .int 2, .tuple []]]], .tuple [.str "node", .int 1, .tuple []]]]
end LW
set_option maxHeartbeats 2000000
namespace LW
open PySem PySem.Spec PyProof.Rows L2
def rRepZ (K : PySem.W.Frag) : R2 := fun x y H Q => ∃ (l : Addr) (z : Int) (xs : List V), x = .ref l ∧ y = .int z ∧ SqT K H l xs ∧ xs ≠ [] ∧ (-1000 ≤ z ∧ z ≤ 1000) ∧ xs.length ≤ 1000 ∧ (z = 1 → Q (.ref l) H) ∧ (z ≠ 1 → ∀ p, H p = none → Q (.ref p) (upd H p (.tup (List.replicate z.toNat xs).flatten)))
section
variable {K : PySem.W.Frag} {σ : L2.St} {H0 : Hp}
end
def ndD (b : Int) (t : Tm) : PyData := .tuple [.str "node", .int b, t.data]
def rfD (w : Bool) (p : Int) : PyData := .tuple [.str (wrd w), .int p]
def Tm.nds (b : Int) (t : Tm) : Nat → Tm
  | 0 => .nil
  | n + 1 => .node b t (Tm.nds b t n)
def Tm.rfs (w : Bool) (p : Int) : Nat → Tm
  | 0 => .nil
  | n + 1 => .ref w p (Tm.rfs w p n)
def plainS (e t : Tm) : TSt := ⟨e, List.replicate 5 [(-1, t)]⟩
def looks1 : Sch := [(true, [])]
def plainM (e t : Tm) (n : Nat) : Trn := ⟨looks1, List.replicate n (plainS e t)⟩
def looksN (n : Nat) : Sch := List.replicate n (true, [])
end LW
namespace LW
open PySem PySem.Spec PyProof.Rows L2
section
variable {K : PySem.W.Frag} {σ : L2.St} {H0 : Hp}
theorem NX.set {t : TE} {i : Int} {k : Nat} {rest : TS} {D : Ends} (h : NX K σ H0 t i) (kk : rest D (σ.set k (some (.int i))) H0) : tSeq (tAsg t (gName k)) rest D σ H0 := by
  show t σ H0 (fun x H1 => rest D (σ.set k (some x)) H1)
  exact h H0 _ (Gr.refl _) kk
end
end LW
namespace LW
open PySem PySem.Spec PyProof.Rows L2
end LW
namespace LW
open PySem PySem.Spec PyProof.Rows L2
def rows5 (tm : Tm) (lz : Nat) : List (List TCh) := (List.replicate 5 [(-1, Tm.nil)]).take lz ++ [[(0, tm), (-1, Tm.nil)]] ++ (List.replicate 5 [(-1, Tm.nil)]).drop (lz + 1)
def m5 (tm : Tm) (lz : Nat) : Trn := ⟨looks1, [⟨.nil, rows5 tm lz⟩]⟩
end LW
set_option maxHeartbeats 4000000
namespace LW
open PySem PySem.Spec PyProof.Rows L2
def noTrn16 (d : PyData) : Prop := transD d = false ∧ Neat 40 d ∧ pure1 d = true
abbrev plainR : List PyData := [.tuple [.int (-1), .tuple []]]
abbrev wS16 (LK RS : List PyData) (X : PyData) : PyData := .tuple [.tuple LK, .tuple ([X] ++ RS)]
abbrev wR16 (LK RS CH : List PyData) (EN R : PyData) : PyData := wS16 LK RS (.tuple [EN, .tuple ([R] ++ CH.drop 1)])
def badsT (LK RS CH : List PyData) (S0 EN : PyData) (n : Nat) : List PyData := [.tuple [.tuple LK, .tuple []],
  .tuple [.tuple [], .tuple (S0 :: RS)],
  .tuple [.tuple LK],
  .tuple [.tuple LK, .tuple (S0 :: RS), .int 0],
  wS16 LK RS (.tuple [EN]),
  wS16 LK RS (.tuple [EN, .tuple (CH.take 4)]),
  wS16 LK RS (.tuple [EN, .tuple ((CH.take 4) ++ [.tuple []])]),
  wR16 LK RS CH EN (.tuple [.tuple [.int 0, .tuple []]]),
  wR16 LK RS CH EN (.tuple (plainR ++ plainR)),
  wR16 LK RS CH EN (.tuple ([.tuple [.int (LK.length : Int), .tuple []]] ++ plainR)),
  wS16 LK RS (.tuple [.tuple [.tuple [.str "in", .int 0]], .tuple CH]),
  wS16 LK RS (.tuple [.tuple [.tuple [.str "node", .int 0, .tuple [.tuple [.str "next", .int 0]]]], .tuple CH]),
  wR16 LK RS CH EN (.tuple [.tuple [.int (-1), .tuple [.tuple [.str "in", .int (n : Int)]]]]),
  wR16 LK RS CH EN (.tuple [.tuple [.int (-1), .tuple [.tuple [.str "node", .int 5, .tuple []]]]]),
  wR16 LK RS CH EN (.tuple [.tuple [.int (-1), .tuple [.tuple [.str "next", .int (-1)]]]]),
  wR16 LK RS CH EN (.tuple [.tuple [.int (-1), .tuple [.tuple [.str "gone", .int 0]]]]),
  wR16 LK RS CH EN (.tuple [.tuple [.int (-1), .tuple [.tuple [.str "node", .int 0]]]]),
  wS16 LK RS (.tuple [.none, .tuple CH]),
  .tuple [.tuple LK, .tuple (List.replicate 13 (S0))],
  .none,
  .int 7,
  .str "m",
  .tuple [.tuple (List.replicate 9 (.tuple [.bool true, .tuple []])), .tuple (S0 :: RS)],
  wS16 LK RS (.tuple [.tuple (List.replicate 301 (.tuple [.str "node", .int 0, .tuple []])), .tuple CH]),
  wR16 LK RS CH EN (.tuple [.tuple [.int (-1), .tuple [.tuple [.str "in", .bool true]]]])]
section
variable {m : Trn} {s0 : TSt} {more : List TSt} {most : Nat}
end
end LW
namespace LW
open PySem PySem.Spec PyProof.Rows L2
section
variable {m : Trn} {s0 : TSt} {more : List TSt} {most : Nat}
end
end LW
set_option maxHeartbeats 2000000
namespace LW
open PySem PySem.Spec PyProof.Rows L2
theorem sum_le16 {α : Type} {f : α → Nat} {b : Nat} : ∀ {l : List α}, (∀ x ∈ l, f x ≤ b) → (l.map f).sum ≤ l.length * b
  | [], _ => by simp
  | x :: l, h => by
    rw [List.map_cons, List.sum_cons, List.length_cons, Nat.succ_mul]
    have := sum_le16 (f := f) (b := b) (l := l) fun y hy => h y (List.mem_cons_of_mem _ hy)
    have := h x (List.mem_cons_self ..)
    omega
theorem goodM16.ok {m : Trn} (h : goodM16 3 m) : TrnOk m := by
  have hs := h.sok (by omega)
  refine ⟨h.looks, by have := h.two; omega, h.one, by have := h.most; omega, fun s hm => hs.sts s hm, ?_⟩
  have bnd : ∀ s ∈ m.sts, ∀ k : Nat, (∀ r ∈ s.rows, r.length ≤ k) → s.parts ≤ 3 + 25 * k := fun s hs k hk => by
    obtain ⟨⟨h1, h2, h3⟩, h4, h5⟩ := h.sts s hs
    have l : s.rows.flatten.length ≤ s.rows.length * k := by
      have := sum_le16 (f := List.length) (b := k) (l := s.rows) hk
      rw [List.length_flatten]; exact this
    have := sum_le16 (f := fun c : TCh => c.2.parts) (b := 5) (l := s.rows.flatten) fun c hc => by
      obtain ⟨r, hr, hc⟩ := List.mem_flatten.mp hc
      obtain ⟨ini, t, e1, e2, _, e4⟩ := h5 r hr
      exact (e4 c hc).2.2
    show s.fin.parts + _ ≤ _
    rw [h4] at l
    omega
  have row : ∀ s ∈ m.sts, ∀ r ∈ s.rows, r.length ≤ 4 ∧ r.length + m.sts.length ≤ 6 := fun s hs r hr => by
    obtain ⟨ini, t, e1, e2, _, e4⟩ := (h.sts s hs).2.2 r hr
    rw [e1, List.length_append]
    simp only [List.length_cons, List.length_nil]
    omega
  have k := h.most
  have k1 := h.one
  rcases Nat.lt_or_ge m.sts.length 3 with h3 | h3
  · have := sum_le16 (f := TSt.parts) (b := 103) (l := m.sts) fun s hs => bnd s hs 4 fun r hr => (row s hs r hr).1
    omega
  · have := sum_le16 (f := TSt.parts) (b := 78) (l := m.sts) fun s hs => bnd s hs 3 fun r hr => by have := (row s hs r hr).2; omega
    omega
def spTold16 (K : PySem.W.Frag) (T T1 T2 T3 T4 T5 T6 T7 : Addr) : Sp := fun vs H Q _ => ∃ (mv dv : V) (p : Int) (dm dd : PyData), vs = [mv, .int p, dv] ∧ Dp K H mv dm ∧ Dp K H dv dd ∧ TrPre dm ∧ Tbs [T1, T2, T3, T4, T5, T6, T7] H ∧ GxR.TabG H T ∧
  ((transD dm = false ∧ Told K Q H (refD "transformation")) ∨ (transD dm = true ∧ docD dd = false ∧ Told K Q H (refD "document")) ∨ ∃ (m : Trn) (d : Doc), transD dm = true ∧ dm = m.data ∧ SchOk m.looks ∧ StsOk m.sts.length m.looks.length m.sts ∧ dd = d.data ∧ d.ok ∧ p.toNat < m.sts.length ∧
    (beyond (msOf (madeD m d p.toNat)) = true → Told K Q H (refD "much")) ∧ (beyond (msOf (madeD m d p.toNat)) = false → Told K Q H (madeD m d p.toNat).data))
end LW
set_option maxHeartbeats 2000000
namespace LW
open PySem PySem.Spec PyProof.Rows L2
theorem Fine.nil0 (k : Nat) : Fine (.tuple []) (k + 1) 0 := ⟨rfl, rfl, rfl, by simp [PyData.depth, PyData.depthAll], by simp [PyData.bulk, PyData.bulkAll]⟩
theorem Fine.cons {d : PyData} {ds : List PyData} {k b c : Nat} (h : Fine d k b) (hs : Fine (.tuple ds) (k + 1) c) : Fine (.tuple (d :: ds)) (k + 1) (b + 1 + c) := by
  have h1 := h.sh; have h2 := h.lv; have h3 := h.cl; have h4 := h.dp; have h5 := h.bk
  have s1 := hs.sh; have s2 := hs.lv; have s3 := hs.cl; have s4 := hs.dp; have s5 := hs.bk
  simp only [PyData.showable] at s1
  simp only [PyData.leavesShort] at s2
  simp only [PyData.canLay0] at s3
  simp only [PyData.depth] at s4
  simp only [PyData.bulk] at s5
  refine ⟨?_, ?_, ?_, ?_, ?_⟩
  · simp only [PyData.showable, PyData.showableAll, h1, s1, Bool.and_true]
  · simp only [PyData.leavesShort, PyData.leavesShortAll, h2, s2, Bool.and_true]
  · simp only [PyData.canLay0, PyData.canLayAll0, h3, s3, Bool.and_true]
  · simp only [PyData.depth, PyData.depthAll]; omega
  · simp only [PyData.bulk, PyData.bulkAll]; omega
theorem fine_int {p : Int} (h0 : 0 ≤ p) (h : p < 1000) : Fine (.int p) 0 0 := by
  obtain ⟨n, rfl⟩ : ∃ n : Nat, p = (n : Int) := ⟨p.toNat, by omega⟩
  exact Fine.nat (by omega)
end LW
set_option maxHeartbeats 2000000
namespace LW
open PySem PySem.Spec PyProof.Rows L2
def mvsL (t : Sch) (f : Nat → Doc) (n : Nat) : List PyData := (List.range n).map fun p => prsD t.length (mvP t (f p))
def spTmMove (K : PySem.W.Frag) (k : Nat) : Sp := fun vs H Q _ => ∃ (tv mv kv rv : V) (t : Sch) (tm : Tm) (si ni : Nat → Doc) (n c : Nat) (mf : Bool), vs = [tv, mv, kv, rv] ∧ Dp K H tv (schD t) ∧ litM t ∧ Dp K H mv tm.data ∧ tm.dp < k ∧ tm.okT n mf = true ∧
  Dp K H kv (.tuple (mvsL t si c)) ∧ Dp K H rv (.tuple (mvsL t ni c)) ∧ (mf = true → c = n) ∧ ∀ H' x, Gr [] H H' → Dp K H' x (prsD t.length (mvP t (fillT si ni tm))) → Q x H'
end LW
namespace LW
open PySem PySem.Spec PyProof.Rows L2
def prfD (s : Sch) (m : Trn) (t : Sch) (d : Doc) : PyData := .tuple [natsD (LB.mems (setB s d) s.length), natsD (LB.mems (setB m.looks d) m.looks.length), .tuple (mvsL t (madeD m d) m.sts.length)]
def spLEmptyP (K : PySem.W.Frag) : Sp := fun vs H Q _ => ∃ (sv mv tv : V) (s : Sch) (m : Trn) (t : Sch), vs = [sv, mv, tv] ∧ Dp K H sv (schD s) ∧ SchOk s ∧ Dp K H mv m.data ∧ SchOk m.looks ∧ StsOk m.sts.length m.looks.length m.sts ∧ Dp K H tv (schD t) ∧ litM t ∧ ∀ H' x, Gr [] H H' → Dp K H' x (prfD s m t .nil) → Q x H'
def spLProfOf (K : PySem.W.Frag) : Sp := fun vs H Q _ => ∃ (sv mv tv kv rv : V) (s : Sch) (m : Trn) (t : Sch) (a : Nat) (kd r : Doc), vs = [sv, mv, tv, natV a, kv, rv] ∧ Dp K H sv (schD s) ∧ SchOk s ∧ Dp K H mv m.data ∧ SchOk m.looks ∧ StsOk m.sts.length m.looks.length m.sts ∧ Dp K H tv (schD t) ∧ litM t ∧ a < 5 ∧ Dp K H kv (prfD s m t kd) ∧ Dp K H rv (prfD s m t r) ∧
  ∀ H' x, Gr [] H H' → Dp K H' x (prfD s m t (.cons (a : Int) kd r)) → Q x H'
def spLProf (K : PySem.W.Frag) (k : Nat) : Sp := fun vs H Q _ => ∃ (sv mv tv dv : V) (s : Sch) (m : Trn) (t : Sch) (d : Doc), vs = [sv, mv, tv, dv] ∧ Dp K H sv (schD s) ∧ SchOk s ∧ Dp K H mv m.data ∧ SchOk m.looks ∧ StsOk m.sts.length m.looks.length m.sts ∧ Dp K H tv (schD t) ∧ litM t ∧ Dp K H dv d.data ∧ d.lab = true ∧ d.dep < k ∧ d.size ≤ 1000 ∧
  ∀ H' x, Gr [] H H' → Dp K H' x (prfD s m t d) → Q x H'
end LW
set_option maxHeartbeats 2000000
namespace LW
open PySem PySem.Spec PyProof.Rows L2
def pfMeths : List Str := ["after", "moves_made", "move_made", "move_of_part", "turns_right", "is_good", "told", "kept"]
structure PmAt (K : PySem.W.Frag) (CP CM : Addr) (H : Hp) (p pm rl tr jn : Addr) (t : Sch) (n : Nat) : Prop where
  ins : ∃ dx fs, H p = some (.ins CP dx fs) ∧ fs.lookup ("moves" : Str) = some (.ref pm) ∧ ∀ x ∈ pfMeths, fs.lookup x = none
  mo : MovesAt K CM H pm rl tr jn t n
section
variable {K : PySem.W.Frag} {CP CM p pm rl tr jn : Addr} {H H' : Hp} {t : Sch} {n : Nat}
theorem PmAt.step {k : Nat} (h : PmAt K CP CM H p pm rl tr jn t n) {m : List Addr} (g : Gr m H H') (hm : Apart m H) (hp : p ∉ m) (mo : MovesAt K CM H' pm rl tr jn t k) : PmAt K CP CM H' p pm rl tr jn t k :=
  ⟨let ⟨dx, fs, e, r⟩ := h.ins; ⟨dx, fs, g.keep _ _ hp e (fun _ z => by cases z), r⟩, mo⟩
theorem PmAt.out (h : PmAt K CP CM H p pm rl tr jn t n) : p ∉ [tr, jn] := fun z => by
  obtain ⟨dx, fs, e, _⟩ := h.ins
  obtain ⟨kvs, e1, _⟩ := h.mo.trees
  obtain ⟨kvs2, e2, _⟩ := h.mo.joints
  rcases List.mem_cons.mp z with rfl | z
  · rw [e1] at e; cases e
  · rw [List.mem_singleton.mp z, e2] at e; cases e
end
def mvV (t : Sch) (f : Nat → Doc) (c : Nat) : List V := (List.range c).map fun q => natV (mvN t (f q))
def spPMade (K : PySem.W.Frag) (CP CM : Addr) (k : Nat) : Sp := fun vs H Q _ => ∃ (p pm rl tr jn : Addr) (t : Sch) (n : Nat) (mv : V) (tm : Tm) (ka ra : Addr) (si ni : Nat → Doc) (c : Nat) (nn : Nat) (mf : Bool), vs = [.ref p, mv, .ref ka, .ref ra] ∧ PmAt K CP CM H p pm rl tr jn t n ∧ litM t ∧ n + 2 * tm.parts ≤ 9000000 ∧ Dp K H mv tm.data ∧ tm.dp < k ∧ tm.okT nn mf = true ∧ (mf = true → c = nn) ∧ SqT K H ka (mvV t si c) ∧ SqT K H ra (mvV t ni c) ∧
  ∀ H', Gr [tr, jn] H H' → PmAt K CP CM H' p pm rl tr jn t (n + 2 * tm.parts) → Q (natV (mvN t (fillT si ni tm))) H'
def spPPart (K : PySem.W.Frag) (CP CM : Addr) (k : Nat) : Sp := fun vs H Q _ => ∃ (p pm rl tr jn : Addr) (t : Sch) (n : Nat) (pv : V) (pr : Prt) (ka ra : Addr) (si ni : Nat → Doc) (c : Nat) (nn : Nat) (mf : Bool), vs = [.ref p, pv, .ref ka, .ref ra] ∧ PmAt K CP CM H p pm rl tr jn t n ∧ litM t ∧ n + 2 * pr.parts ≤ 9000000 ∧ Dp K H pv (prtD pr) ∧ pr.dp ≤ k ∧ pr.okT nn mf = true ∧ (mf = true → c = nn) ∧ SqT K H ka (mvV t si c) ∧ SqT K H ra (mvV t ni c) ∧
  ∀ H', Gr [tr, jn] H H' → PmAt K CP CM H' p pm rl tr jn t (n + 2 * pr.parts - 1) → Q (natV (mvN t (fillP si ni pr))) H'
end LW
namespace LW
open PySem PySem.Spec PyProof.Rows L2
def prtsS (ts : List Tm) : Nat := (ts.map Tm.parts).sum
def spPMovesM (K : PySem.W.Frag) (CP CM : Addr) (k : Nat) : Sp := fun vs H Q _ => ∃ (p pm rl tr jn : Addr) (t : Sch) (n : Nat) (l : Addr) (xs : List V) (ts : List Tm) (ka ra : Addr) (si ni : Nat → Doc) (c : Nat) (nn : Nat) (mf : Bool), vs = [.ref p, .ref l, .ref ka, .ref ra] ∧ PmAt K CP CM H p pm rl tr jn t n ∧ litM t ∧ n + 2 * prtsS ts ≤ 9000000 ∧ ts.length ≤ 1000 ∧ H l = some (.lst xs) ∧ DpAll K H xs (ts.map Tm.data) ∧ (∀ tm ∈ ts, tm.dp < k ∧ tm.okT nn mf = true) ∧ (mf = true → c = nn) ∧ SqT K H ka (mvV t si c) ∧ SqT K H ra (mvV t ni c) ∧
  ∀ H' a, Gr [tr, jn] H H' → PmAt K CP CM H' p pm rl tr jn t (n + 2 * prtsS ts) → H a = none → H' a = some (.tup (ts.map fun tm => natV (mvN t (fillT si ni tm)))) → Q (.ref a) H'
end LW
namespace LW
open PySem PySem.Spec PyProof.Rows L2
section
variable {K : PySem.W.Frag} {C CP CM p pm rl tr jn D : Addr} {H H' : Hp} {t : Sch} {n k : Nat} {o : HO}
theorem MovesAt.out (h : MovesAt K C H p rl tr jn t n) : p ∉ [tr, jn] := fun z => by
  obtain ⟨dx, e⟩ := h.ins
  obtain ⟨kvs, e1, _⟩ := h.trees
  obtain ⟨kvs2, e2, _⟩ := h.joints
  rcases List.mem_cons.mp z with rfl | z
  · rw [e1] at e; cases e
  · rw [List.mem_singleton.mp z, e2] at e; cases e
end
end LW
namespace LW
open PySem PySem.Spec PyProof.Rows L2
def spPTold (K : PySem.W.Frag) (CP CM : Addr) : Sp := fun vs H Q _ => ∃ (p pm rl tr jn dx dm : Addr) (fs : List (Str × V)) (t : Sch) (x y n1 n2 : Nat) (a b : Addr) (f : Nat → Doc) (c : Nat), vs = [.ref p, .ref a] ∧ H p = some (.ins CP dx fs) ∧ fs.lookup ("moves" : Str) = some (.ref pm) ∧ H pm = some (.ins CM dm (fsM t rl tr jn)) ∧ litM t ∧ SqT K H a [natV x, natV y, .ref b] ∧ SqT K H b (mvV t f c) ∧ c ≤ 1000 ∧ x < 2 ^ n1 ∧ n1 ≤ 1000 ∧ y < 2 ^ n2 ∧ n2 ≤ 1000 ∧
  ∀ H' v, Gr [] H H' → Dp K H' v (.tuple [natsD (LB.mems x n1), natsD (LB.mems y n2), .tuple (mvsL t f c)]) → Q v H'
end LW
namespace LW
open PySem PySem.Spec PyProof.Rows L2
def spBitsT (K : PySem.W.Frag) : Sp := fun vs H Q _ => ∃ (l : Addr) (ns : List Nat), vs = [.ref l] ∧ SqT K H l (ns.map natV) ∧ ns.length ≤ 1000 ∧ (∀ n ∈ ns, n ≤ 1000) ∧ ∀ H', Gr [] H H' → Q (natV ((ns.map (2 ^ ·)).sum)) H'
end LW
namespace LW
open PySem PySem.Spec PyProof.Rows L2
def spPKept (K : PySem.W.Frag) (CP CM : Addr) : Sp := fun vs H Q _ => ∃ (p pm rl tr jn dx dm : Addr) (v : V) (fs : List (Str × V)) (t : Sch) (x y n1 n2 : Nat) (f : Nat → Doc) (c : Nat), vs = [.ref p, v] ∧ H p = some (.ins CP dx fs) ∧ fs.lookup ("moves" : Str) = some (.ref pm) ∧ H pm = some (.ins CM dm (fsM t rl tr jn)) ∧ litM t ∧ Dp K H v (.tuple [natsD (LB.mems x n1), natsD (LB.mems y n2), .tuple (mvsL t f c)]) ∧ c ≤ 1000 ∧ x < 2 ^ n1 ∧ n1 ≤ 1000 ∧ y < 2 ^ n2 ∧ n2 ≤ 1000 ∧
  ∀ H' a b, Gr [] H H' → H' a = some (.tup [natV x, natV y, .ref b]) → H' b = some (.tup (mvV t f c)) → Q (.ref a) H'
end LW
namespace LW
open PySem PySem.Spec PyProof.Rows L2
end LW
set_option maxHeartbeats 2000000
namespace LW
open PySem PySem.Spec PyProof.Rows L2
structure PfA where
  p : Addr
  ps : Addr
  pl : Addr
  pc : Addr
  pm : Addr
  rl1 : Addr
  rw1 : Addr
  st1 : Addr
  rl2 : Addr
  rw2 : Addr
  st2 : Addr
  el : Addr
  ch : Addr
  rl : Addr
  tr : Addr
  jn : Addr
  em : Addr
  e2 : Addr
  sv : V
def PfA.mut (A : PfA) : List Addr := [A.rw1, A.st1, A.rw2, A.st2, A.ch, A.tr, A.jn]
def fsP (A : PfA) : List (Str × V) := [("sets", .ref A.ps), ("looks", .ref A.pl), ("choosing", .ref A.pc), ("moves", .ref A.pm), ("empty", .ref A.em)]
def MvAv (H : Hp) (rl : Addr) (av : List Addr) : Prop := rl ∉ av ∧ ∃ ls : List Addr, H rl = some (.lst (ls.map V.ref)) ∧ ∀ l ∈ ls, l ∉ av
structure PfAv (K : PySem.W.Frag) (CP CS CC CM : Addr) (H : Hp) (A : PfA) (s : Sch) (m : Trn) (t : Sch) (n : Nat) (av : List Addr) : Prop where
  ins : ∃ dx, H A.p = some (.ins CP dx (fsP A))
  se : StepsAv K CS H A.ps A.rl1 A.rw1 A.st1 s n av
  lo : StepsAv K CS H A.pl A.rl2 A.rw2 A.st2 m.looks n av
  ch : ChAt K CC H A.pc A.sv A.el A.ch m.sts n av
  mo : MovesAt K CM H A.pm A.rl A.tr A.jn t n
  em : H A.em = some (.tup [natV (emptyB s), natV (emptyB m.looks), .ref A.e2]) ∧ H A.e2 = some (.tup (mvV t (madeD m .nil) m.sts.length))
  nd : A.mut.Nodup
  ma : MvAv H A.rl av
  oa : A.p ∉ av ∧ A.ps ∉ av ∧ A.pl ∉ av ∧ A.pc ∉ av ∧ A.pm ∉ av ∧ A.tr ∉ av ∧ A.jn ∉ av
abbrev PfAt (K : PySem.W.Frag) (CP CS CC CM : Addr) (H : Hp) (A : PfA) (s : Sch) (m : Trn) (t : Sch) (n : Nat) : Prop := PfAv K CP CS CC CM H A s m t n []
section
variable {K : PySem.W.Frag} {CP CS CC CM : Addr} {H H' : Hp} {A : PfA} {s : Sch} {m : Trn} {t : Sch} {n k : Nat} {av : List Addr}
theorem PfAv.dicts (h : PfAv K CP CS CC CM H A s m t n av) : ∀ b ∈ A.mut, ∃ kvs, H b = some (.dT kvs) := fun b hb => by
  simp only [PfA.mut, List.mem_cons, List.not_mem_nil, or_false] at hb
  rcases hb with rfl | rfl | rfl | rfl | rfl | rfl | rfl
  · obtain ⟨_, kvs, e, _⟩ := h.se.rows; exact ⟨kvs, e⟩
  · obtain ⟨_, kvs, e, _⟩ := h.se.steps; exact ⟨kvs, e⟩
  · obtain ⟨_, kvs, e, _⟩ := h.lo.rows; exact ⟨kvs, e⟩
  · obtain ⟨_, kvs, e, _⟩ := h.lo.steps; exact ⟨kvs, e⟩
  · obtain ⟨_, kvs, e, _⟩ := h.ch.chosen; exact ⟨kvs, e⟩
  · obtain ⟨kvs, e, _⟩ := h.mo.trees; exact ⟨kvs, e⟩
  · obtain ⟨kvs, e, _⟩ := h.mo.joints; exact ⟨kvs, e⟩
theorem PfAv.apart (h : PfAv K CP CS CC CM H A s m t n av) {l : List Addr} (sub : ∀ b ∈ l, b ∈ A.mut) : Apart l H := fun b hb o e => by
  obtain ⟨kvs, q⟩ := h.dicts b (sub b hb)
  rw [q] at e; cases e; rfl
theorem PfAv.out (h : PfAv K CP CS CC CM H A s m t n av) {l : List Addr} (sub : ∀ b ∈ l, b ∈ A.mut) {a C dx : Addr} {fs : List (Str × V)} (e : H a = some (.ins C dx fs)) : a ∉ l := fun z => by
  obtain ⟨kvs, q⟩ := h.dicts a (sub a z)
  rw [q] at e; cases e
theorem PfAv.step {l : List Addr} (h : PfAv K CP CS CC CM H A s m t n av) (g : Gr l H H') (sub : ∀ b ∈ l, b ∈ A.mut) (le : n ≤ k)
    (c1 : StepsAv K CS H' A.ps A.rl1 A.rw1 A.st1 s k av ∨ (A.rw1 ∉ l ∧ A.st1 ∉ l)) (c2 : StepsAv K CS H' A.pl A.rl2 A.rw2 A.st2 m.looks k av ∨ (A.rw2 ∉ l ∧ A.st2 ∉ l))
    (c3 : ChAt K CC H' A.pc A.sv A.el A.ch m.sts k av ∨ A.ch ∉ l) (c4 : MovesAt K CM H' A.pm A.rl A.tr A.jn t k ∨ (A.tr ∉ l ∧ A.jn ∉ l)) : PfAv K CP CS CC CM H' A s m t k av where
  ins := let ⟨dx, e⟩ := h.ins; ⟨dx, g.keep _ _ (h.out sub e) e fun _ z => by cases z⟩
  se := by
    rcases c1 with c | ⟨a, b⟩
    · exact c
    · obtain ⟨dx, e⟩ := h.se.ins
      exact (h.se.gr g (h.apart sub) (h.out sub e) a b).mono le
  lo := by
    rcases c2 with c | ⟨a, b⟩
    · exact c
    · obtain ⟨dx, e⟩ := h.lo.ins
      exact (h.lo.gr g (h.apart sub) (h.out sub e) a b).mono le
  ch := by
    rcases c3 with c | a
    · exact c
    · obtain ⟨dx, e⟩ := h.ch.ins
      exact (h.ch.gr g (h.apart sub) (h.out sub e) a).mono le
  mo := by
    rcases c4 with c | ⟨a, b⟩
    · exact c
    · obtain ⟨dx, e⟩ := h.mo.ins
      exact (h.mo.gr g (h.apart sub) (h.out sub e) a b).mono le
  em := ⟨g.tupA (h.apart sub) h.em.1, g.tupA (h.apart sub) h.em.2⟩
  nd := h.nd
  ma := let ⟨z, ls, e, f⟩ := h.ma; ⟨z, ls, g.lstA (h.apart sub) e, f⟩
  oa := h.oa
theorem PfAv.gr0 (h : PfAv K CP CS CC CM H A s m t n av) (g : Gr [] H H') : PfAv K CP CS CC CM H' A s m t n av :=
  h.step g (by simp) (Nat.le_refl _) (.inr ⟨by simp, by simp⟩) (.inr ⟨by simp, by simp⟩) (.inr (by simp)) (.inr ⟨by simp, by simp⟩)
end
end LW
namespace LW
open PySem PySem.Spec PyProof.Rows L2
def PfV (K : PySem.W.Frag) (H : Hp) (v : V) (s : Sch) (m : Trn) (t : Sch) (d : Doc) : Prop := ∃ a b, v = .ref a ∧ SqT K H a [natV (setB s d), natV (setB m.looks d), .ref b] ∧ SqT K H b (mvV t (madeD m d) m.sts.length)
def spPAfterV (K : PySem.W.Frag) (CP CS CC CM : Addr) : Sp := fun vs H Q _ => ∃ (A : PfA) (s : Sch) (m : Trn) (t : Sch) (n wg a : Nat) (kv rv : V) (kd r : Doc) (av : List Addr), vs = [.ref A.p, natV a, kv, rv] ∧ PfAv K CP CS CC CM H A s m t n av ∧ (∀ b ∈ av, H b ≠ none) ∧ SchOk s ∧ SchOk m.looks ∧ StsOk m.sts.length m.looks.length m.sts ∧ litM t ∧ a < 5 ∧ (∀ x, prtsS (tplL m.sts a x) ≤ wg) ∧ n + 2 * wg + 3 ≤ 9000000 ∧ PfV K H kv s m t kd ∧ PfV K H rv s m t r ∧
  ∀ H' y, Gr A.mut H H' → PfAv K CP CS CC CM H' A s m t (n + 2 * wg + 3) av → PfV K H' y s m t (.cons (a : Int) kd r) → Q y H'
def spPAfter (K : PySem.W.Frag) (CP CS CC CM : Addr) : Sp := fun vs H Q _ => ∃ (A : PfA) (s : Sch) (m : Trn) (t : Sch) (n wg a : Nat) (kv rv : V) (kd r : Doc), vs = [.ref A.p, natV a, kv, rv] ∧ PfAt K CP CS CC CM H A s m t n ∧ SchOk s ∧ SchOk m.looks ∧ StsOk m.sts.length m.looks.length m.sts ∧ litM t ∧ a < 5 ∧ (∀ x, prtsS (tplL m.sts a x) ≤ wg) ∧ n + 2 * wg + 3 ≤ 9000000 ∧ PfV K H kv s m t kd ∧ PfV K H rv s m t r ∧
  ∀ H' y, Gr A.mut H H' → PfAt K CP CS CC CM H' A s m t (n + 2 * wg + 3) → PfV K H' y s m t (.cons (a : Int) kd r) → Q y H'
end LW
namespace LW
open PySem PySem.Spec PyProof.Rows L2
theorem PfV.gr {K : PySem.W.Frag} {H H' : Hp} {l : List Addr} {v : V} {s : Sch} {m : Trn} {t : Sch} {d : Doc} (h : PfV K H v s m t d) (g : Gr l H H') (ap : Apart l H) : PfV K H' v s m t d := let ⟨a, b, e, h1, h2⟩ := h; ⟨a, b, e, g.sqTA ap h1, g.sqTA ap h2⟩
end LW
namespace LW
open PySem PySem.Spec PyProof.Rows L2
def spPKind (K : PySem.W.Frag) (CP CS CC CM : Addr) (k : Nat) : Sp := fun vs H Q _ => ∃ (A : PfA) (s : Sch) (m : Trn) (t : Sch) (n wg : Nat) (d : Doc) (v : V), vs = [.ref A.p, v] ∧ PfAt K CP CS CC CM H A s m t n ∧ SchOk s ∧ SchOk m.looks ∧ StsOk m.sts.length m.looks.length m.sts ∧ litM t ∧ (∀ a x, prtsS (tplL m.sts a x) ≤ wg) ∧ Dp K H v d.data ∧ d.lab = true ∧ d.dep < k ∧ n + (2 * wg + 3) * d.size ≤ 9000000 ∧
  ∀ H' y, Gr A.mut H H' → PfAt K CP CS CC CM H' A s m t (n + (2 * wg + 3) * d.size) → PfV K H' y s m t d → Q y H'
theorem PfAv.none {K : PySem.W.Frag} {CP CS CC CM : Addr} {H : Hp} {A : PfA} {s : Sch} {m : Trn} {t : Sch} {n : Nat} {av : List Addr} (h : PfAv K CP CS CC CM H A s m t n av) : PfV K H (.ref A.em) s m t .nil := ⟨A.em, A.e2, rfl, SqT.of h.em.1, SqT.of h.em.2⟩
end LW
set_option maxHeartbeats 2000000
namespace LW
open PySem PySem.Spec PyProof.Rows L2
structure PfTxt (K : PySem.W.Frag) (mg : Str → Option Value) (C : Addr) : Prop where
  cl : Cls K C
  n1 : NoAttr K C "sets"
  n2 : NoAttr K C "looks"
  n3 : NoAttr K C "choosing"
  n4 : NoAttr K C "moves"
  n5 : NoAttr K C "empty"
  gC : mg "Profiles" = some (.ref C)
section
variable {K : PySem.W.Frag} {C C' p q dx rl rw_ st tr jn el ch : Addr} {fs : List (Str × V)} {H H' : Hp} {s t : Sch} {ss : List TSt} {n : Nat} {sv : V} {av : List Addr}
end
def fq1 (ps : Addr) : List (Str × V) := [("sets", .ref ps)]
def fq2 (ps pl : Addr) : List (Str × V) := [("sets", .ref ps), ("looks", .ref pl)]
def fq3 (ps pl pc : Addr) : List (Str × V) := [("sets", .ref ps), ("looks", .ref pl), ("choosing", .ref pc)]
def fq4 (ps pl pc pm : Addr) : List (Str × V) := [("sets", .ref ps), ("looks", .ref pl), ("choosing", .ref pc), ("moves", .ref pm)]
structure StmOk (s : Sch) (m : Trn) (t : Sch) : Prop where
  s : SchOk s
  lo : SchOk m.looks
  st : StsOk m.sts.length m.looks.length m.sts
  t : litM t
def spProfI (K : PySem.W.Frag) (CP CS CC CM : Addr) : Sp := fun vs H Q _ => ∃ (p dx : Addr) (sv mv tv : V) (s : Sch) (m : Trn) (t : Sch), vs = [.ref p, sv, mv, tv] ∧ H p = some (.ins CP dx []) ∧ Dp K H sv (schD s) ∧ Dp K H mv m.data ∧ Dp K H tv (schD t) ∧ StmOk s m t ∧ 2 * prtsS (endL m.sts) ≤ 9000000 ∧
  ∀ H' A, A.p = p → Gr [p] H H' → PfAt K CP CS CC CM H' A s m t (2 * prtsS (endL m.sts)) → (∀ b ∈ A.mut, H b = none) → Q .non H'
end LW
namespace LW
open PySem PySem.Spec PyProof.Rows L2
def spFollows (K : PySem.W.Frag) (Ts : List Addr) (D0 D1 D2 : Addr) : Sp := fun vs H Q E => ∃ (v1 v2 v3 v4 v5 v6 : V) (d1 d2 d3 : PyData), vs = [v1, v2, v3, v4, v5, v6] ∧ Dp K H v1 d1 ∧ Dp K H v2 d2 ∧ Dp K H v3 d3 ∧ preds [.S, .T, .S] [d1, d2, d3] ∧ Tbs Ts H ∧
  ((∃ i, verd [.S, .T, .S] [d1, d2, d3] = some i ∧ XE0 E (dA D0 D1 D2 i) H) ∨ ∃ (s : Sch) (m : Trn) (t : Sch) (a wg : Nat) (kd r : Doc), d1 = schD s ∧ d2 = m.data ∧ d3 = schD t ∧ transD m.data = true ∧ StmOk s m t ∧ v4 = natV a ∧ a < 5 ∧ (∀ x, prtsS (tplL m.sts a x) ≤ wg) ∧ 2 * prtsS (endL m.sts) + 2 * wg + 3 ≤ 9000000 ∧ Dp K H v5 (prfD s m t kd) ∧ Dp K H v6 (prfD s m t r) ∧
    ∀ H' x, Gr [] H H' → Dp K H' x (prfD s m t (.cons (a : Int) kd r)) → Q x H')
def spProfile (K : PySem.W.Frag) (Ts : List Addr) (D0 D1 D2 : Addr) : Sp := fun vs H Q E => ∃ (v1 v2 v3 v4 : V) (d1 d2 d3 d4 : PyData), vs = [v1, v2, v3, v4] ∧ Dp K H v1 d1 ∧ Dp K H v2 d2 ∧ Dp K H v3 d3 ∧ Dp K H v4 d4 ∧ preds [.S, .T, .S] [d1, d2, d3] ∧ Tbs Ts H ∧
  ((∃ i, verd [.S, .T, .S, .D] [d1, d2, d3, d4] = some i ∧ XE0 E (dA D0 D1 D2 i) H) ∨ ∃ (s : Sch) (m : Trn) (t : Sch) (wg : Nat) (d : Doc), d1 = schD s ∧ d2 = m.data ∧ d3 = schD t ∧ transD m.data = true ∧ StmOk s m t ∧ d4 = d.data ∧ d.ok ∧ (∀ a x, prtsS (tplL m.sts a x) ≤ wg) ∧ 2 * prtsS (endL m.sts) + (2 * wg + 3) * d.size ≤ 9000000 ∧
    ∀ H' x, Gr [] H H' → Dp K H' x (prfD s m t d) → Q x H')
def spFirstP (K : PySem.W.Frag) (Ts : List Addr) (D0 D1 D2 : Addr) : Sp := fun vs H Q E => ∃ (v1 v2 v3 : V) (d1 d2 d3 : PyData), vs = [v1, v2, v3] ∧ Dp K H v1 d1 ∧ Dp K H v2 d2 ∧ Dp K H v3 d3 ∧ preds [.S, .T, .S] [d1, d2, d3] ∧ Tbs Ts H ∧
  ((∃ i, verd [.S, .T, .S] [d1, d2, d3] = some i ∧ XE0 E (dA D0 D1 D2 i) H) ∨ ∃ (s : Sch) (m : Trn) (t : Sch), d1 = schD s ∧ d2 = m.data ∧ d3 = schD t ∧ transD m.data = true ∧ StmOk s m t ∧ 2 * prtsS (endL m.sts) ≤ 9000000 ∧
    ∀ H' x, Gr [] H H' → Dp K H' x (prfD s m t .nil) → Q x H')
end LW
set_option maxHeartbeats 2000000
namespace LW
open PySem PySem.Spec PyProof.Rows L2
structure LsTxt (K : PySem.W.Frag) (mg : Str → Option Value) (C : Addr) : Prop where
  cl : Cls K C
  n0 : NoAttr K C "sizes"
  n1 : NoAttr K C "orders"
  n2 : NoAttr K C "depths"
  n3 : NoAttr K C "firsts"
  gC : mg "Leasts" = some (.ref C)
def lsMeths : List Str := ["choose", "choose_first", "has_any", "least_of", "document", "build"]
def fsL (sl ol dl fl : Addr) : List (Str × V) := [("sizes", .ref sl), ("orders", .ref ol), ("depths", .ref dl), ("firsts", .ref fl)]
section
variable {sl ol dl fl : Addr}
end
def fD : Option Rl → PyData
  | none => .none
  | some r => rlD r
structure LsAt (K : PySem.W.Frag) (C : Addr) (H : Hp) (p sl ol dl fl : Addr) (sz : List (Option Nat)) (os : List Addr) (ord : List (List V)) (dep : List Nat) (fst : List (Option Rl)) : Prop where
  ins : ∃ dx, H p = some (.ins C dx (fsL sl ol dl fl))
  sizes : H sl = some (.lst (sz.map oV))
  orders : H ol = some (.lst (os.map V.ref))
  each : ∀ i a, os[i]? = some a → a ∉ [ol, dl, fl] ∧ H a = some (.lst (ord.getD i []))
  deps : H dl = some (.lst (dep.map natV))
  firsts : ∃ fs, H fl = some (.lst fs) ∧ DpAll K H fs (fst.map fD)
  ne : [sl, ol, dl, fl].Nodup
  len : os.length = sz.length ∧ ord.length = sz.length ∧ dep.length = sz.length ∧ fst.length = sz.length
section
variable {K : PySem.W.Frag} {C : Addr} {H H' : Hp} {p sl ol dl fl : Addr} {sz : List (Option Nat)} {os : List Addr} {ord : List (List V)} {dep : List Nat} {fst : List (Option Rl)}
theorem fD_pure (l : List (Option Rl)) : pureAll (l.map fD) = true := pureAll_iff.mpr fun d hd => by
  obtain ⟨o, _, rfl⟩ := List.mem_map.mp hd
  cases o <;> rfl
theorem LsAt.gr (h : LsAt K C H p sl ol dl fl sz os ord dep fst) (g : Gr [] H H') : LsAt K C H' p sl ol dl fl sz os ord dep fst where
  ins := let ⟨dx, e⟩ := h.ins; ⟨dx, g.keep _ _ (by simp) e fun _ z => by cases z⟩
  sizes := g.lst (by simp) h.sizes
  orders := g.lst (by simp) h.orders
  each := fun i a e => let ⟨e1, e2⟩ := h.each i a e; ⟨e1, g.lst (by simp) e2⟩
  deps := g.lst (by simp) h.deps
  firsts := let ⟨fs, e1, e2⟩ := h.firsts; ⟨fs, g.lst (by simp) e1, e2.gr g⟩
  ne := h.ne
  len := h.len
theorem LsAt.nd (h : LsAt K C H p sl ol dl fl sz os ord dep fst) : sl ≠ ol ∧ sl ≠ dl ∧ sl ≠ fl ∧ ol ≠ dl ∧ ol ≠ fl ∧ dl ≠ fl := by
  have := h.ne
  simp only [List.nodup_cons, List.mem_cons, List.not_mem_nil, or_false, not_or, List.nodup_nil, and_true, not_false_eq_true] at this
  obtain ⟨⟨a, b, c⟩, ⟨d, e⟩, f⟩ := this
  exact ⟨a, b, c, d, e, f⟩
theorem LsAt.setF {q : Nat} {v : V} {r : Rl} {fs : List V} (h : LsAt K C H p sl ol dl fl sz os ord dep fst) (e : H fl = some (.lst fs)) (hv : Dp K H v (rlD r)) :
    LsAt K C (upd H fl (.lst (fs.set q v))) p sl ol dl fl sz os ord dep (fst.set q (some r)) := by
  obtain ⟨a, b, c, d, e', f⟩ := h.nd
  obtain ⟨fs', e1, e2⟩ := h.firsts
  rw [e] at e1; cases e1
  have gw : Gr [fl] H (upd H fl (.lst (fs.set q v))) := Gr.put e (fun _ z => by cases z) (by simp)
  have wl : ∀ b ∈ [fl], ∃ ys, H b = some (.lst ys) := fun b hb => by rw [List.mem_singleton.mp hb]; exact ⟨_, e⟩
  refine ⟨let ⟨dx, z⟩ := h.ins; ⟨dx, gw.keep _ _ (fun y => by rw [List.mem_singleton.mp y, e] at z; cases z) z fun _ z => by cases z⟩, gw.lst (by simpa using c) h.sizes, gw.lst (by simpa using e') h.orders, fun i x ex => ?_, gw.lst (by simpa using f) h.deps, ⟨_, upd_same, ?_⟩, h.ne, by rw [List.length_set]; exact h.len⟩
  · obtain ⟨e3, e4⟩ := h.each i x ex
    exact ⟨e3, gw.lst (fun z => e3 (by simp [List.mem_singleton.mp z])) e4⟩
  · have all := dpAll_grm gw wl _ _ (fD_pure _) e2
    have hv' := dp_grm gw wl _ _ rfl hv
    rw [List.map_set]
    exact dpAll_set all hv'
where
  dpAll_set {K : PySem.W.Frag} {H : Hp} : ∀ {vs : List V} {ds : List PyData} {q : Nat} {v : V} {d : PyData}, DpAll K H vs ds → Dp K H v d → DpAll K H (vs.set q v) (ds.set q d)
  | _, _, _, _, _, .nil, _ => .nil
  | _, _, 0, _, _, .cons _ t, h => .cons h t
  | _, _, _ + 1, _, _, .cons a t, h => .cons a (dpAll_set t h)
end
def spChFirst (K : PySem.W.Frag) (C : Addr) : Sp := fun vs H Q _ => ∃ (p sl ol dl fl l : Addr) (sz : List (Option Nat)) (os : List Addr) (ord : List (List V)) (dep : List Nat) (fst : List (Option Rl)) (q k : Nat) (ts : List Rl) (xs : List V) (D : Nat → Doc), vs = [.ref p, natV q, .ref l] ∧ LsAt K C H p sl ol dl fl sz os ord dep fst ∧ H l = some (.lst xs) ∧ DpAll K H xs (ts.map rlD) ∧ ts ≠ [] ∧ ts.length ≤ 90000 ∧ l ∉ [ol, dl, fl] ∧ q < sz.length ∧ sz.getD q none = some k ∧
  (∀ t ∈ ts, (t.2.1 < sz.length ∧ t.2.2 < sz.length) ∧ ord.getD t.2.1 [] = (D t.2.1).ord.map V.int ∧ ord.getD t.2.2 [] = (D t.2.2).ord.map V.int ∧ dep.getD t.2.1 0 = (D t.2.1).dep ∧ dep.getD t.2.2 0 = (D t.2.2).dep ∧ (D t.2.1).size ≤ 300 ∧ (D t.2.2).size ≤ 300) ∧
  ∀ t ∈ ts, (∀ u ∈ ts, PySem.W.dataLt (candD u.1 (D u.2.1) (D u.2.2) u.2.1 u.2.2) (candD t.1 (D t.2.1) (D t.2.2) t.2.1 t.2.2) = false) →
    ∀ H' os', Gr [ol, dl, fl] H H' → LsAt K C H' p sl ol dl fl sz os' (ord.set q (([(k : Int), (t.1 : Int)] ++ (D t.2.1).ord ++ (D t.2.2).ord.drop 1).map V.int)) (dep.set q (max (1 + (D t.2.1).dep) (D t.2.2).dep)) (fst.set q (some t)) → Q .non H'
end LW
set_option maxHeartbeats 2000000
namespace LW
open PySem PySem.Spec PyProof.Rows L2
structure LsInv (ends : List Bool) (rules : List R4) (sz : List (Option Nat)) (Ps : Nat → Prop) (D : Nat → Doc) (ord : List (List V)) (dep : List Nat) (fst : List (Option Rl)) : Prop where
  no : ∀ q, ¬ Ps q → q < sz.length → ord.getD q [] = [oV (sz.getD q none)]
  sm : ∀ q, Ps q → ∃ k, sz.getD q none = some k ∧ k ≤ 300
  lst : ∀ q, Ps q → IsLeast ends rules q (D q)
  ord : ∀ q, Ps q → ord.getD q [] = (D q).ord.map V.int
  dep : ∀ q, Ps q → dep.getD q 0 = (D q).dep
  f0 : ∀ q, Ps q → fst.getD q none = none → D q = .nil
  f1 : ∀ q l x y, Ps q → fst.getD q none = some (l, x, y) → D q = .cons (l : Int) (D x) (D y) ∧ Ps x ∧ Ps y
def smallQ (sz : List (Option Nat)) (q : Nat) : Prop := ∃ k, sz.getD q none = some k ∧ k ≤ 300
section
variable {ends : List Bool} {rules : List R4} {sz : List (Option Nat)} {Ps : Nat → Prop} {D : Nat → Doc} {ord : List (List V)} {dep : List Nat} {fst : List (Option Rl)}
theorem getD_lt {α : Type} {l : List (Option α)} {q : Nat} {k : α} (e : l.getD q none = some k) : q < l.length := by
  rcases Nat.lt_or_ge q l.length with h | h
  · exact h
  · rw [List.getD_eq_getElem?_getD, List.getElem?_eq_none h] at e; cases e
theorem LsInv.size (h : LsInv ends rules sz Ps D ord dep fst) (ok : SzOk ends rules sz) {q k : Nat} (hq : Ps q) (e : sz.getD q none = some k) : (D q).size = k := (h.lst q hq).size ok e
theorem least_nil (ok : SzOk ends rules sz) {q : Nat} (e : sz.getD q none = some 0) : IsLeast ends rules q .nil := by
  obtain ⟨d, hd, hs⟩ := ok.w.wit q 0 e
  cases d with
  | cons a k r => simp only [Doc.size] at hs; omega
  | nil =>
    refine ⟨hd, fun e he => ?_⟩
    cases e with
    | nil => exact leD_refl _
    | cons a k r => exact leD_size (by simp only [Doc.size]; omega)
theorem LsInv.start (ok : SzOk ends rules sz) : LsInv ends rules sz (fun q => sz.getD q none = some 0) (fun _ => .nil) (sz.map fun o => [oV o]) (sz.map fun _ => 0) (sz.map fun _ => none) where
  sm := fun q h => ⟨0, h, Nat.zero_le _⟩
  lst := fun q h => least_nil ok h
  ord := fun q h => by
    have hq := getD_lt h
    rw [List.getD_eq_getElem?_getD, List.getElem?_eq_getElem hq] at h
    rw [List.getD_eq_getElem?_getD, List.getElem?_map, List.getElem?_eq_getElem hq]
    have h' : sz[q] = some 0 := h
    show [oV sz[q]] = _
    rw [h']
    simp [Doc.ord, Doc.size, Doc.beh, oV, natV]
  dep := fun q h => by
    rw [List.getD_eq_getElem?_getD, List.getElem?_map]
    cases sz[q]? <;> simp [Doc.dep]
  f0 := fun q h _ => rfl
  f1 := fun q l x y h e => by
    rw [List.getD_eq_getElem?_getD, List.getElem?_map] at e
    cases e2 : sz[q]? <;> rw [e2] at e <;> cases e
  no := fun q _ hq => by
    rw [List.getD_eq_getElem?_getD, List.getElem?_map, List.getElem?_eq_getElem hq, List.getD_eq_getElem?_getD, List.getElem?_eq_getElem hq]; rfl
theorem getDsetL {α : Type} {l : List α} {i j : Nat} {x d : α} (h : i < l.length) : (l.set i x).getD j d = if i = j then x else l.getD j d := by
  rw [List.getD_eq_getElem?_getD, List.getElem?_set, List.getD_eq_getElem?_getD]
  by_cases e : i = j
  · subst e
    rw [if_pos rfl, if_pos rfl, if_pos h]; rfl
  · rw [if_neg e, if_neg e]
theorem ord_cons {l : Nat} {x y : Doc} {k : Nat} (h : k = 1 + x.size + y.size) : (Doc.cons (l : Int) x y).ord = [(k : Int), (l : Int)] ++ x.ord ++ y.ord.drop 1 := by
  subst h
  simp [Doc.ord, Doc.size, Doc.beh]
theorem LsInv.step (h : LsInv ends rules sz Ps D ord dep fst) (ok : SzOk ends rules sz) {q k : Nat} {t : Rl} (nq : ¬ Ps q) (eq : sz.getD q none = some k) (hk : k ≤ 300) (lo : ord.length = sz.length) (ld : dep.length = sz.length) (lf : fst.length = sz.length) (ht : t ∈ fitR rules sz q) (hp : ∀ u ∈ fitR rules sz q, Ps u.2.1 ∧ Ps u.2.2)
    (hmin : ∀ u ∈ fitR rules sz q, PySem.W.dataLt (candD u.1 (D u.2.1) (D u.2.2) u.2.1 u.2.2) (candD t.1 (D t.2.1) (D t.2.2) t.2.1 t.2.2) = false) :
    LsInv ends rules sz (fun p => Ps p ∨ p = q) (fun p => if p = q then .cons (t.1 : Int) (D t.2.1) (D t.2.2) else D p) (ord.set q (([(k : Int), (t.1 : Int)] ++ (D t.2.1).ord ++ (D t.2.2).ord.drop 1).map V.int)) (dep.set q (max (1 + (D t.2.1).dep) (D t.2.2).dep)) (fst.set q (some t)) := by
  have hq := getD_lt eq
  obtain ⟨l, x, y⟩ := t
  dsimp only at hmin ⊢
  obtain ⟨px, py⟩ := hp _ ht
  dsimp only at px py
  have hl := choose_least (D := D) ok ht (fun u hu => ⟨h.lst _ (hp u hu).1, h.lst _ (hp u hu).2⟩) hmin
  have nx : x ≠ q := fun z => nq (z ▸ px)
  have ny : y ≠ q := fun z => nq (z ▸ py)
  have ek : k = 1 + (D x).size + (D y).size := by
    have := hl.size ok eq
    simp only [Doc.size] at this
    omega
  have old : ∀ p, Ps p → p ≠ q := fun p hp z => nq (z ▸ hp)
  refine ⟨fun p hp hl => ?_, fun p hp => ?_, fun p hp => ?_, fun p hp => ?_, fun p hp => ?_, fun p hp e => ?_, fun p a b c hp e => ?_⟩
  · have hpq : ¬ q = p := fun z => hp (.inr z.symm)
    rw [getDsetL (by omega), if_neg hpq]
    exact h.no p (fun z => hp (.inl z)) hl
  · rcases hp with hp | rfl
    · exact h.sm p hp
    · exact ⟨k, eq, hk⟩
  · rcases hp with hp | rfl
    · rw [if_neg (old p hp)]; exact h.lst p hp
    · rw [if_pos rfl]; exact hl
  · rw [getDsetL (by omega)]
    rcases hp with hp | rfl
    · rw [if_neg (old p hp).symm, if_neg (old p hp)]; exact h.ord p hp
    · rw [if_pos rfl, if_pos rfl, ord_cons ek]
  · rw [getDsetL (by omega)]
    rcases hp with hp | rfl
    · rw [if_neg (old p hp).symm, if_neg (old p hp)]; exact h.dep p hp
    · rw [if_pos rfl, if_pos rfl]; simp only [Doc.dep]
  · rw [getDsetL (by omega)] at e
    rcases hp with hp | rfl
    · rw [if_neg (old p hp).symm] at e
      rw [if_neg (old p hp)]; exact h.f0 p hp e
    · rw [if_pos rfl] at e; cases e
  · rw [getDsetL (by omega)] at e
    rcases hp with hp | rfl
    · rw [if_neg (old p hp).symm] at e
      obtain ⟨e1, e2, e3⟩ := h.f1 p a b c hp e
      rw [if_neg (old p hp), if_neg (old b e2), if_neg (old c e3)]
      exact ⟨e1, .inl e2, .inl e3⟩
    · rw [if_pos rfl] at e
      cases e
      rw [if_pos rfl, if_neg nx, if_neg ny]
      exact ⟨rfl, .inl px, .inl py⟩
theorem LsInv.weak (h : LsInv ends rules sz Ps D ord dep fst) {Ps' : Nat → Prop} (h1 : ∀ q, Ps' q → Ps q) (h2 : ∀ q, Ps q → Ps' q) : LsInv ends rules sz Ps' D ord dep fst :=
  ⟨fun q hq hl => h.no q (fun z => hq (h2 q z)) hl, fun q hq => h.sm q (h1 q hq), fun q hq => h.lst q (h1 q hq), fun q hq => h.ord q (h1 q hq), fun q hq => h.dep q (h1 q hq), fun q hq => h.f0 q (h1 q hq), fun q l x y hq e => let ⟨a, b, c⟩ := h.f1 q l x y (h1 q hq) e; ⟨a, h2 x b, h2 y c⟩⟩
end
def LsEnd (ends : List Bool) (rules : List R4) (sz : List (Option Nat)) (D : Nat → Doc) (dep : List Nat) (fst : List (Option Rl)) : Prop := ∃ ord, LsInv ends rules sz (smallQ sz) D ord dep fst
def spLsChoose (K : PySem.W.Frag) (C : Addr) : Sp := fun vs H Q _ => ∃ (p sl ol dl fl rl : Addr) (sz : List (Option Nat)) (os : List Addr) (ends : List Bool) (rules : List R4) (ys : List V), vs = [.ref p, .ref rl] ∧ LsAt K C H p sl ol dl fl sz os (sz.map fun o => [oV o]) (sz.map fun _ => 0) (sz.map fun _ => none) ∧ SqL K H rl ys ∧ DpAll K H ys (rules.map quadD) ∧ inR sz.length rules ∧ sz.length ≤ 1000 ∧ rules.length ≤ 90000 ∧ SzOk ends rules sz ∧
  ∀ H' os' ord dep fst D, Gr [ol, dl, fl] H H' → LsAt K C H' p sl ol dl fl sz os' ord dep fst → LsInv ends rules sz (smallQ sz) D ord dep fst → Q .non H'
end LW
set_option maxHeartbeats 2000000
namespace LW
open PySem PySem.Spec PyProof.Rows L2
def gs1 (sl : Addr) : List (Str × V) := [("sizes", .ref sl)]
def gs2 (sl ol : Addr) : List (Str × V) := [("sizes", .ref sl), ("orders", .ref ol)]
def gs3 (sl ol dl : Addr) : List (Str × V) := [("sizes", .ref sl), ("orders", .ref ol), ("depths", .ref dl)]
def spLsI (K : PySem.W.Frag) (C : Addr) : Sp := fun vs H Q _ => ∃ (p dx el rl : Addr) (ends : List Bool) (rules : List R4) (ys : List V), vs = [.ref p, .ref el, .ref rl] ∧ H p = some (.ins C dx []) ∧ SqL K H el (ends.map V.bl) ∧ SqL K H rl ys ∧ DpAll K H ys (rules.map quadD) ∧ inR ends.length rules ∧ ends.length ≤ 1000 ∧ rules.length ≤ 90000 ∧
  ∀ H' sl ol dl fl sz os ord dep fst D, Gr [p] H H' → LsAt K C H' p sl ol dl fl sz os ord dep fst → SzOk ends rules sz → LsInv ends rules sz (smallQ sz) D ord dep fst → Q .non H'
end LW
namespace LW
open PySem PySem.Spec PyProof.Rows L2
structure LsGood (K : PySem.W.Frag) (C : Addr) (H : Hp) (p : Addr) (ends : List Bool) (rules : List R4) (sz : List (Option Nat)) (D : Nat → Doc) (dep : List Nat) (fst : List (Option Rl)) : Prop where
  at_ : ∃ sl ol dl fl os ord, LsAt K C H p sl ol dl fl sz os ord dep fst ∧ LsInv ends rules sz (smallQ sz) D ord dep fst
  ok : SzOk ends rules sz
theorem LsGood.gr {K : PySem.W.Frag} {C : Addr} {H H' : Hp} {p : Addr} {ends : List Bool} {rules : List R4} {sz : List (Option Nat)} {D : Nat → Doc} {dep : List Nat} {fst : List (Option Rl)} (h : LsGood K C H p ends rules sz D dep fst) (g : Gr [] H H') : LsGood K C H' p ends rules sz D dep fst :=
  let ⟨sl, ol, dl, fl, os, ord, h1, h2⟩ := h.at_
  ⟨⟨sl, ol, dl, fl, os, ord, h1.gr g, h2⟩, h.ok⟩
def spLsBuild (K : PySem.W.Frag) (C : Addr) (k : Nat) : Sp := fun vs H Q _ => ∃ (p : Addr) (st : Nat) (ends : List Bool) (rules : List R4) (sz : List (Option Nat)) (D : Nat → Doc) (dep : List Nat) (fst : List (Option Rl)), (D st).dep < k ∧ vs = [.ref p, natV st] ∧ LsGood K C H p ends rules sz D dep fst ∧ smallQ sz st ∧
  ∀ H' x, Gr [] H H' → Dp K H' x (D st).data → Q x H'
def spLsAny (K : PySem.W.Frag) (C : Addr) : Sp := fun vs H Q _ => ∃ (p : Addr) (st : Nat) (ends : List Bool) (rules : List R4) (sz : List (Option Nat)) (D : Nat → Doc) (dep : List Nat) (fst : List (Option Rl)), vs = [.ref p, natV st] ∧ LsGood K C H p ends rules sz D dep fst ∧ st < sz.length ∧ Q (.bl (sz.getD st none).isSome) H
def spLsDoc (K : PySem.W.Frag) (C DT : Addr) : Sp := fun vs H Q E => ∃ (p : Addr) (st k : Nat) (ends : List Bool) (rules : List R4) (sz : List (Option Nat)) (D : Nat → Doc) (dep : List Nat) (fst : List (Option Rl)), vs = [.ref p, natV st] ∧ LsGood K C H p ends rules sz D dep fst ∧ sz.getD st none = some k ∧
  ((300 < k ∨ (k ≤ 300 ∧ 30 < (D st).dep)) → XE0 E DT H) ∧ (k ≤ 300 → (D st).dep ≤ 30 → ∀ H' x, Gr [] H H' → Dp K H' x (D st).data → Q x H')
end LW
set_option maxHeartbeats 2000000
namespace LW
open PySem PySem.Spec PyProof.Rows L2
def endsS (s : Sch) : List Bool := s.map (·.1)
def LeastS (s : Sch) (q : Nat) (L : Doc) : Prop := IsLeast (endsS s) (rulesFrom 0 s) q L
def accS (s : Sch) (d : Doc) (q : Nat) : Bool := accR (endsS s) (rulesFrom 0 s) d q
def spLeast (K : PySem.W.Frag) (T1 T2 T3 DB DT : Addr) : Sp := fun vs H Q E => ∃ (v : V) (d : PyData), vs = [v] ∧ Dp K H v d ∧ fewSc d ∧ GxR.TabG H T1 ∧ GxR.TabG H T2 ∧ GxR.TabG H T3 ∧
  ((schemaD d = false ∧ XE0 E DB H) ∨ ∃ s, d = schD s ∧ SchOk s ∧ (((∀ e, accS s e 0 = false) ∧ ∀ H', Gr [] H H' → Q .non H') ∨ ∃ L, LeastS s 0 L ∧ ((300 < L.size ∨ 30 < L.dep) → XE0 E DT H) ∧ (L.size ≤ 300 → L.dep ≤ 30 → ∀ H' x, Gr [] H H' → Dp K H' x L.data → Q x H')))
theorem SchOk.inR {s : Sch} (h : SchOk s) : inR s.length (rulesFrom 0 s) := fun u hu => by
  obtain ⟨i, st, h1, h2, h3⟩ := rulesFrom_mem.mp hu
  obtain ⟨a, b, c⟩ := h.rules st (List.mem_of_getElem? h1) _ h3
  have := (List.getElem?_eq_some_iff.mp h1).1
  exact ⟨by omega, a, b, c⟩
end LW
namespace LW
open PySem PySem.Spec PyProof.Rows L2
def spTold07 (K : PySem.W.Frag) (T1 T2 T3 : Addr) : Sp := fun vs H Q _ => ∃ (v : V) (s : Sch), vs = [v] ∧ Dp K H v (schD s) ∧ SchOk s ∧ GxR.TabG H T1 ∧ GxR.TabG H T2 ∧ GxR.TabG H T3 ∧
  (((∀ e, accS s e 0 = false) ∧ Told K Q H .none) ∨ ∃ L, LeastS s 0 L ∧ ((300 < L.size ∨ 30 < L.dep) → Told K Q H (.str "much")) ∧ (L.size ≤ 300 → L.dep ≤ 30 → Told K Q H L.data))
end LW
set_option maxHeartbeats 2000000
namespace LW
open PySem PySem.Spec PyProof.Rows L2
theorem leD_cons' {a : Int} {k k' r r' : Doc} (hk : leD k k') (hr : leD r r') : leD (.cons a k r) (.cons a k' r') := by
  have h1 := leD_sz hk
  have h2 := leD_sz hr
  rcases Nat.lt_or_ge (k.size + r.size) (k'.size + r'.size) with h | h
  · exact leD_size (by simp only [Doc.size]; omega)
  · exact leD_cons hk hr (by omega) (by omega)
abbrev Fd := List (Option Doc)
def cand (fd : Fd) (u : R4) : Option Doc := match fd.getD u.1 none, fd.getD u.2.2.1 none, fd.getD u.2.2.2 none with
  | none, some dx, some dy => some (.cons (u.2.1 : Int) dx dy)
  | _, _, _ => none
theorem cand_some {fd : Fd} {u : R4} {c : Doc} : cand fd u = some c ↔ fd.getD u.1 none = none ∧ ∃ dx dy, fd.getD u.2.2.1 none = some dx ∧ fd.getD u.2.2.2 none = some dy ∧ c = .cons (u.2.1 : Int) dx dy := by
  unfold cand
  cases h1 : fd.getD u.1 none <;> cases h2 : fd.getD u.2.2.1 none <;> cases h3 : fd.getD u.2.2.2 none <;> simp [eq_comm]
def BestP (fd : Fd) (rs : List R4) : Option (Nat × Doc) → Prop
  | none => ∀ u ∈ rs, cand fd u = none
  | some (q, d) => (∃ u ∈ rs, u.1 = q ∧ cand fd u = some d) ∧ ∀ u ∈ rs, ∀ c, cand fd u = some c → leD d c
theorem BestP.no {fd : Fd} {rs : List R4} {b : Option (Nat × Doc)} {u : R4} (h : BestP fd rs b) (hu : cand fd u = none) : BestP fd (rs ++ [u]) b := by
  cases b with
  | none => exact fun v hv => (List.mem_append.mp hv).elim (h v) fun z => by rw [List.mem_singleton.mp z]; exact hu
  | some p =>
    obtain ⟨⟨v, hv, e⟩, h2⟩ := h
    refine ⟨⟨v, List.mem_append_left _ hv, e⟩, fun v hv c hc => (List.mem_append.mp hv).elim (fun z => h2 v z c hc) fun z => ?_⟩
    rw [List.mem_singleton.mp z, hu] at hc; cases hc
theorem BestP.new {fd : Fd} {rs : List R4} {u : R4} {c : Doc} (h : BestP fd rs none) (hu : cand fd u = some c) : BestP fd (rs ++ [u]) (some (u.1, c)) := by
  refine ⟨⟨u, by simp, rfl, hu⟩, fun v hv d hd => (List.mem_append.mp hv).elim (fun z => ?_) fun z => ?_⟩
  · rw [h v z] at hd; cases hd
  · rw [List.mem_singleton.mp z, hu] at hd; cases hd; exact leD_refl _
theorem BestP.keep {fd : Fd} {rs : List R4} {u : R4} {c d : Doc} {q : Nat} (h : BestP fd rs (some (q, d))) (hu : cand fd u = some c) (hl : leD d c) : BestP fd (rs ++ [u]) (some (q, d)) := by
  obtain ⟨⟨v, hv, e⟩, h2⟩ := h
  refine ⟨⟨v, List.mem_append_left _ hv, e⟩, fun v hv c' hc => (List.mem_append.mp hv).elim (fun z => h2 v z c' hc) fun z => ?_⟩
  rw [List.mem_singleton.mp z, hu] at hc; cases hc; exact hl
structure FdOk (ends : List Bool) (rules : List R4) (t : Nat) (fd : Fd) : Prop where
  len : fd.length = ends.length
  nil : ∀ q, ends.getD q false = true → fd.getD q none ≠ none
  lst : ∀ q d, fd.getD q none = some d → IsLeast ends rules q d ∧ d.size + 1 ≤ 2 ^ t ∧ d.dep ≤ t
  cnt : t ≤ (fd.filter Option.isSome).length ∨ ∀ q, fd.getD q none = none → ∀ e, accR ends rules e q = false
section
variable {ends : List Bool} {rules : List R4} {t : Nat} {fd : Fd}
theorem none_none (h : FdOk ends rules t fd) (hb : BestP fd rules none) : ∀ (e : Doc) (p : Nat), fd.getD p none = none → accR ends rules e p = false
  | .nil, p, hp => by
    cases z : accR ends rules .nil p with
    | false => rfl
    | true => exact absurd hp (h.nil p z)
  | .cons a k r, p, hp => by
    cases z : accR ends rules (.cons a k r) p with
    | false => rfl
    | true =>
      obtain ⟨l, x, y, hm, rfl, h1, h2⟩ := acc_cons.mp z
      cases ex : fd.getD x none with
      | none => rw [none_none h hb k x ex] at h1; cases h1
      | some dx =>
        cases ey : fd.getD y none with
        | none => rw [none_none h hb r y ey] at h2; cases h2
        | some dy =>
          have := hb _ hm
          rw [cand_some.mpr ⟨hp, dx, dy, ex, ey, rfl⟩] at this
          cases this
theorem FdOk.stay (h : FdOk ends rules t fd) (hb : BestP fd rules none) : FdOk ends rules (t + 1) fd :=
  ⟨h.len, h.nil, fun q d e => let ⟨a, b, c⟩ := h.lst q d e; ⟨a, by rw [Nat.pow_succ]; omega, by omega⟩, .inr fun q hq e => none_none h hb e q hq⟩
theorem filter_all {fd : Fd} (h : fd.length ≤ (fd.filter Option.isSome).length) {q : Nat} (hq : q < fd.length) : fd.getD q none ≠ none := by
  have e : fd.filter Option.isSome = fd := List.filter_eq_self.mpr (by
    have := List.length_filter_eq_length_iff.mp (Nat.le_antisymm (List.length_filter_le _ _) h)
    exact this)
  intro z
  rw [List.getD_eq_getElem?_getD, List.getElem?_eq_getElem hq] at z
  have hm : fd[q] ∈ fd.filter Option.isSome := by rw [e]; exact List.getElem_mem hq
  have := (List.mem_filter.mp hm).2
  rw [show fd[q] = none from z] at this
  cases this
theorem FdOk.fin (h : FdOk ends rules ends.length fd) {q : Nat} (hq : q < ends.length) : (∃ L, fd.getD q none = some L ∧ IsLeast ends rules q L) ∨ (fd.getD q none = none ∧ ∀ e, accR ends rules e q = false) := by
  cases e : fd.getD q none with
  | some L => exact .inl ⟨L, rfl, (h.lst q L e).1⟩
  | none =>
    refine .inr ⟨rfl, ?_⟩
    rcases h.cnt with h1 | h1
    · exact absurd e (filter_all (by rw [h.len]; exact h1) (by rw [h.len]; exact hq))
    · exact h1 q e
end
def oDoc : Option Doc → PyData
  | none => .none
  | some d => d.data
def spLeastL (K : PySem.W.Frag) : Sp := fun vs H Q _ => ∃ (v : V) (s : Sch), vs = [v] ∧ Dp K H v (schD s) ∧ SchOk s ∧ s.length ≤ 8 ∧ ∀ o, ((∃ L, o = some L ∧ LeastS s 0 L ∧ L.size ≤ 255 ∧ L.dep ≤ 8) ∨ (o = none ∧ ∀ e, accS s e 0 = false)) → Told K Q H (oDoc o)
end LW
namespace LW
open PySem PySem.Spec PyProof.Rows L2
def FdAt (K : PySem.W.Frag) (H : Hp) (l : Addr) (fd : Fd) : Prop := ∃ vs, H l = some (.lst vs) ∧ DpAll K H vs (fd.map oDoc)
def bestD : Option (Nat × Doc) → PyData
  | none => .none
  | some (q, d) => .tuple [.int (q : Int), d.data]
theorem oDoc_pure (fd : Fd) : pureAll (fd.map oDoc) = true := pureAll_iff.mpr fun x hx => by
  obtain ⟨o, _, rfl⟩ := List.mem_map.mp hx
  cases o with
  | none => rfl
  | some d => exact pureAll_iff.mp (show pureAll [d.data] = true by simp [pureAll, pure1, Doc.data, pure_doc]) _ (List.mem_singleton.mpr rfl)
theorem FdAt.gr {K : PySem.W.Frag} {H H' : Hp} {l : Addr} {fd : Fd} (h : FdAt K H l fd) (g : Gr [] H H') : FdAt K H' l fd :=
  let ⟨vs, h1, h2⟩ := h; ⟨vs, g.lst (by simp) h1, h2.gr g⟩
theorem FdAt.set {K : PySem.W.Frag} {H : Hp} {l : Addr} {fd : Fd} {vs : List V} {v : V} {d : Doc} (h : FdAt K H l fd) (e : H l = some (.lst vs)) (hv : Dp K H v d.data) (q : Nat) : FdAt K (upd H l (.lst (vs.set q v))) l (fd.set q (some d)) := by
  obtain ⟨vs', h1, h2⟩ := h
  rw [e] at h1; cases h1
  have gw : Gr [l] H (upd H l (.lst (vs.set q v))) := Gr.put e (fun _ z => by cases z) (by simp)
  have wl : ∀ b ∈ [l], ∃ ys, H b = some (.lst ys) := fun b hb => by rw [List.mem_singleton.mp hb]; exact ⟨_, e⟩
  refine ⟨_, upd_same, ?_⟩
  have all := dpAll_grm gw wl _ _ (oDoc_pure _) h2
  have hv' := dp_grm gw wl _ _ (pureAll_iff.mp (show pureAll [d.data] = true by simp [pureAll, pure1, Doc.data, pure_doc]) _ (List.mem_singleton.mpr rfl)) hv
  rw [List.map_set]
  exact LsAt.setF.dpAll_set all hv'
theorem FdAt.get {K : PySem.W.Frag} {H : Hp} {l : Addr} {fd : Fd} (h : FdAt K H l fd) {q : Nat} (hq : q < fd.length) : ∃ vs v, H l = some (.lst vs) ∧ vs.length = fd.length ∧ vs[q]? = some v ∧ Dp K H v (oDoc (fd.getD q none)) := by
  obtain ⟨vs, h1, h2⟩ := h
  obtain ⟨v, hv, hd⟩ := h2.at (i := q) (d := oDoc (fd.getD q none)) (by rw [List.getElem?_map, List.getD_eq_getElem?_getD, List.getElem?_eq_getElem hq]; rfl)
  have := h2.length
  rw [List.length_map] at this
  exact ⟨vs, v, h1, this, hv, hd⟩
theorem FdOk.zero {ends : List Bool} {rules : List R4} {fd : Fd} (hl : fd.length = ends.length) (h : ∀ p, fd.getD p none = if p < ends.length ∧ ends.getD p false = true then some .nil else none) : FdOk ends rules 0 fd := by
  refine ⟨hl, fun q hq => ?_, fun q d e => ?_, .inl (Nat.zero_le _)⟩
  · have hlt : q < ends.length := by
      rcases Nat.lt_or_ge q ends.length with h' | h'
      · exact h'
      · rw [List.getD_eq_getElem?_getD, List.getElem?_eq_none h'] at hq; cases hq
    rw [h q, if_pos ⟨hlt, hq⟩]
    exact fun z => (by cases z)
  · rw [h q] at e
    split at e
    · next hh =>
      cases e
      refine ⟨⟨hh.2, fun e _ => ?_⟩, by simp [Doc.size], by simp [Doc.dep]⟩
      cases e with
      | nil => exact leD_refl _
      | cons a k r => exact leD_size (by simp only [Doc.size]; omega)
    · cases e
end LW
set_option maxHeartbeats 2000000
namespace LW
open PySem PySem.Spec PyProof.Rows L2
theorem fine_doc : ∀ d : Doc, d.lab = true → Fine d.data (2 * d.dep + 1) (8 * d.size)
  | .nil, _ => Fine.nil0 0
  | .cons a k r, h => by
    simp only [Doc.lab, Bool.and_eq_true, decide_eq_true_eq] at h
    have h1 := fine_doc k h.1.2
    have h2 : Fine (.tuple r.ts) (2 * r.dep + 1) (8 * r.size) := fine_doc r h.2
    have i1 : Fine (.tuple [.int a, k.data]) (2 * k.dep + 2) (0 + 1 + (8 * k.size + 1 + 0)) := Fine.cons ((fine_int h.1.1.1 (by omega)).mono (Nat.zero_le _) (Nat.le_refl _)) (Fine.cons h1 (Fine.nil0 _))
    have i2 : Fine (.tuple (.tuple [.int a, k.data] :: r.ts)) (2 * (Doc.cons a k r).dep + 1) _ := Fine.cons (i1.mono (by simp only [Doc.dep]; omega) (Nat.le_refl _)) (h2.mono (by simp only [Doc.dep]; omega) (Nat.le_refl _))
    exact i2.mono (Nat.le_refl _) (by simp only [Doc.size]; omega)
structure Chn (s : Sch) (m lo : Nat) (x y : Nat → Nat) : Prop where
  fin : s[m]? = some (true, [])
  at_ : ∀ k, k < m → ∃ rs : List Rl, s[k]? = some (false, rs) ∧ (∀ r ∈ rs, lo ≤ r.1 ∧ r.2 = (x k, y k)) ∧ (lo, x k, y k) ∈ rs
  up : ∀ k, k < m → (k < x k ∧ x k ≤ m) ∧ k < y k ∧ y k ≤ m
def dblS (m : Nat) : Sch := ((List.range m).map fun k => (false, [(1, k + 1, k + 1)])) ++ [(true, [])]
def twS (m : Nat) : Sch := ((List.range m).map fun k => (false, [(0, k + 1, m), (2, k + 1, m)])) ++ [(true, [])]
def rwS (m : Nat) : Sch := ((List.range m).map fun k => (false, [(3, m, k + 1), (4, m, k + 1)])) ++ [(true, [])]
def dblD : Nat → Doc
  | 0 => .nil
  | m + 1 => .cons 1 (dblD m) (dblD m)
def twD : Nat → Doc
  | 0 => .nil
  | m + 1 => .cons 0 (twD m) .nil
def rwD : Nat → Doc
  | 0 => .nil
  | m + 1 => .cons 3 .nil (rwD m)
def spChainD (K : PySem.W.Frag) (S : Nat → Sch) (D : Nat → Doc) (most : Nat) : Sp := fun vs H Q _ => ∃ m : Nat, vs = [natV m] ∧ m ≤ most ∧ ∀ H' a x y, Gr [] H H' → H' a = some (.tup [x, y]) → Dp K H' x (schD (S m)) → Dp K H' y (D m).data → Q (.ref a) H'
end LW
set_option maxHeartbeats 2000000
namespace LW
open PySem PySem.Spec PyProof.Rows L2
theorem passA0 {X : Cx} : Passes (XA.CXA X.prog X.w) X E0 := fun _ _ _ _ _ _ _ h => by
  obtain ⟨_, _, _, _, _, _, _, _, _, hE⟩ := h
  exact hE.elim
structure LD where
  a : Addr
  xs : List V
  ds : List PyData
structure Fr (K : PySem.W.Frag) (bx cl : Addr) (Ts : List Addr) (H : Hp) (vs : List V) (ds : List PyData) (Ls : List LD) : Prop where
  box : BoxAt H bx cl
  da : DpAll K H vs ds
  pu : pureAll ds = true
  tb : Tbs Ts H
  ls : ∀ L ∈ Ls, H L.a = some (.lst L.xs) ∧ DpAll K H L.xs L.ds ∧ pureAll L.ds = true ∧ L.a ≠ bx ∧ L.a ≠ cl
  nd : (Ls.map LD.a).Nodup
section
variable {K : PySem.W.Frag} {bx cl : Addr} {Ts : List Addr} {H H' : Hp} {vs : List V} {ds : List PyData} {Ls : List LD} {L : LD} {v x : V} {d : PyData}
theorem Fr.start (hB : BoxAt H bx cl) (hT : Tbs Ts H) : Fr K bx cl Ts H [] [] [] := ⟨hB, .nil, rfl, hT, by simp, by simp⟩
theorem Fr.gr (h : Fr K bx cl Ts H vs ds Ls) (g : Gr [] H H') : Fr K bx cl Ts H' vs ds Ls :=
  ⟨h.box.gr g, h.da.gr g, h.pu, h.tb.gr g, fun L hL => let ⟨e1, e2, e3, e4⟩ := h.ls L hL; ⟨g.lst (by simp) e1, e2.gr g, e3, e4⟩, h.nd⟩
theorem Fr.push (h : Fr K bx cl Ts H vs ds Ls) (hx : Dp K H x d) (hp : pure1 d = true) : Fr K bx cl Ts H (x :: vs) (d :: ds) Ls :=
  ⟨h.box, .cons hx h.da, by rw [pureAll, hp, h.pu]; rfl, h.tb, h.ls, h.nd⟩
theorem Fr.pop (h : Fr K bx cl Ts H (x :: vs) (d :: ds) Ls) : Fr K bx cl Ts H vs ds Ls := by
  have p := h.pu
  rw [pureAll, Bool.and_eq_true] at p
  cases h.da with
  | cons _ t => exact ⟨h.box, t, p.2, h.tb, h.ls, h.nd⟩
theorem Fr.l0 (h : Fr K bx cl Ts H vs ds (L :: Ls)) : H L.a = some (.lst L.xs) ∧ DpAll K H L.xs L.ds ∧ pureAll L.ds = true ∧ L.a ≠ bx ∧ L.a ≠ cl := h.ls L (by simp)
theorem Fr.none (h : Fr K bx cl Ts H vs ds Ls) {p : Addr} (n : H p = none) : (p ≠ bx ∧ p ≠ cl) ∧ ∀ L ∈ Ls, L.a ≠ p :=
  ⟨h.box.ne n, fun L hL z => by have := (h.ls L hL).1; rw [z, n] at this; cases this⟩
theorem Fr.app {p : Addr} {xs : List V} {es : List PyData} (h : Fr K bx cl Ts H vs ds (⟨p, xs, es⟩ :: Ls)) (hx : Dp K H x d) (hd : pure1 d = true) : Fr K bx cl Ts (upd H p (.lst (xs ++ [x]))) vs ds (⟨p, xs ++ [x], es ++ [d]⟩ :: Ls) := by
  obtain ⟨e1, e2, e3, e4, e5⟩ := h.l0
  have gw : Gr [p] H (upd H p (.lst (xs ++ [x]))) := Gr.put e1 (fun _ z => by cases z) (by simp)
  have wl : ∀ b ∈ [p], ∃ ys, H b = some (.lst ys) := fun b hb => by rw [List.mem_singleton.mp hb]; exact ⟨_, e1⟩
  have hnd := h.nd
  rw [List.map_cons, List.nodup_cons] at hnd
  have ne : ∀ L ∈ Ls, L.a ≠ p := fun L hL z => hnd.1 (by show p ∈ _; rw [← z]; exact List.mem_map_of_mem hL)
  refine ⟨h.box.put e4 e5, dpAll_grm gw wl _ _ h.pu h.da, h.pu, h.tb.gr gw, fun L hL => ?_, ?_⟩
  · rcases List.mem_cons.mp hL with rfl | hL
    · exact ⟨upd_same, DpAll.append (dpAll_grm gw wl _ _ e3 e2) (.cons (dp_grm gw wl _ _ hd hx) .nil), by rw [pureAll_app, e3, pureAll, hd]; rfl, e4, e5⟩
    · obtain ⟨f1, f2, f3, f4⟩ := h.ls L (List.mem_cons_of_mem _ hL)
      exact ⟨gw.lst (by simpa using ne L hL) f1, dpAll_grm gw wl _ _ f3 f2, f3, f4⟩
  · rw [List.map_cons, List.nodup_cons]
    exact hnd
end
end LW
set_option maxHeartbeats 2000000
namespace LW
open PySem PySem.Spec PyProof.Rows L2
def rReprA (K : PySem.W.Frag) : List V → Hp → VK → Prop := fun xs H Q => ∃ (d : PyData) (v : V), xs = [v] ∧ Dp K H v d ∧ d.showable = true ∧ d.depth ≤ 64 ∧ d.shown.length ≤ sizeLine ∧ Q (.str d.shown) H
theorem call_reprA {X : Cx} (hg : X.A.guards = some []) (hu : X.A.units + 66 < cLine) : CallR X (.builtin "repr") (rReprA X.K) := by
  intro pins s σ H xs us Q I r h
  obtain ⟨d, v, rfl, hd, hs, hdep, hsz, q⟩ := h
  by_cases hn : ∃ x, d = .str x
  · obtain ⟨x, rfl⟩ := hn
    cases hd
    obtain ⟨u, rfl, ru⟩ := vals1 r
    obtain ⟨t, rfl⟩ := ru
    exact PySem.P.repr_of_str ⟨.str _, H, I.tok _, ⟨_, rfl⟩, q⟩ hsz
  · exact call_reprD hg hu pins s σ H _ _ Q I r ⟨d, v, rfl, hd, hs, hdep, hsz, fun x e => hn ⟨x, e⟩, q⟩
end LW
set_option maxHeartbeats 2000000
namespace LW
open PySem PySem.Spec PyProof.Rows L2
def MenuAt (H : Hp) (bx l : Addr) (ms : List (List Int)) : Prop := ∃ as : List Addr, H l = some (.lst (as.map V.ref)) ∧ l ≠ bx ∧ as.length = ms.length ∧ ∀ (i : Nat) (a : Addr), as[i]? = some a → a ≠ bx ∧ ∃ ls, ms[i]? = some ls ∧ H a = some (.lst (ls.map V.int))
def spPickLL : Sp := fun vs H Q _ => ∃ (bx cl l : Addr) (ms : List (List Int)), vs = [.ref bx, .ref l] ∧ BoxAt H bx cl ∧ MenuAt H bx l ms ∧ 0 < ms.length ∧ ms.length ≤ 1000 ∧ ∀ a ls H', ls ∈ ms → a ≠ bx → H' a = some (.lst (ls.map V.int)) → Gr [bx] H H' → BoxAt H' bx cl → Q (.ref a) H'
theorem doc_show {d : Doc} (h : d.lab = true) (hs : d.size ≤ 300) (hd : d.dep ≤ 30) : d.data.showable = true ∧ d.data.depth ≤ 64 ∧ d.data.shown.length ≤ sizeLine :=
  ((fine_doc d h).mono (k' := 64) (b' := 2400) (by omega) (by omega)).show (by decide) (by decide)
theorem doc_pure1 (d : Doc) : pure1 d.data = true := pureAll_iff.mp (show pureAll [d.data] = true by simp [pureAll, pure1, Doc.data, pure_doc]) _ (List.mem_singleton.mpr rfl)
def spLaw07 (K : PySem.W.Frag) (Ts : List Addr) : Sp := fun vs H Q _ => ∃ (a : Addr) (ns : List Int), vs = [.ref a] ∧ SqL K H a (ns.map V.int) ∧ ns.length ≤ 63 ∧ Tbs Ts H ∧ ∀ H', Q (.bl true) H'
end LW
set_option maxHeartbeats 2000000
namespace LW
open PySem PySem.Spec PyProof.Rows L2
abbrev Tr := Int × Doc
def trD (t : Tr) : PyData := .tuple [.int t.1, t.2.data]
def docOf : List Tr → Doc
  | [] => .nil
  | t :: r => .cons t.1 t.2 (docOf r)
theorem docOf_ts : ∀ r : List Tr, (docOf r).ts = r.map trD
  | [] => rfl
  | t :: r => by rw [docOf, Doc.ts, docOf_ts r]; rfl
theorem docOf_data (r : List Tr) : (docOf r).data = .tuple (r.map trD) := by unfold Doc.data; rw [docOf_ts]
theorem trs_pure (r : List Tr) : pureAll (r.map trD) = true := by rw [← docOf_ts]; exact pure_doc _
theorem tr_pure (t : Tr) : pure1 (trD t) = true := by
  have := trs_pure [t]
  simpa [pureAll] using this
def Doc.trees : Doc → List Tr
  | .nil => []
  | .cons a k r => (a, k) :: r.trees
theorem docOf_trees : ∀ d : Doc, docOf d.trees = d
  | .nil => rfl
  | .cons a k r => by rw [Doc.trees, docOf, docOf_trees r]
structure RdSt where
  below : List (List Tr)
  top : List Tr
  many : Nat
  may : Bool
def rd0S : RdSt := ⟨[], [], 0, false⟩
def openR (s : RdSt) : Option RdSt := if s.may then some ⟨s.top :: s.below, [], s.many, false⟩ else none
def closeR (s : RdSt) : Option RdSt := match s.below with
  | [] => none
  | nx :: bl => if s.top = [] then none else match nx.getLast? with
    | none => none
    | some t => some ⟨bl, nx.dropLast ++ [(t.1, docOf s.top)], s.many, false⟩
def addR (s : RdSt) (a : Int) : Option RdSt := if 300 < s.many + 1 ∨ 30 < s.below.length + 1 then none else some ⟨s.below, s.top ++ [(a, .nil)], s.many + 1, true⟩
def digR (c : Nat) : Bool := decide (48 ≤ c) && decide (c ≤ 52)
def stepR (s : RdSt) (c : Nat) : Option RdSt := if c = 40 then openR s else if c = 41 then closeR s else if digR c = true then addR s ((c - 48 : Nat) : Int) else none
def runR : RdSt → List Nat → Option RdSt
  | s, [] => some s
  | s, c :: r => (stepR s c).bind fun s' => runR s' r
def finR (s : RdSt) : Option Doc := match s.below with
  | [] => some (docOf s.top)
  | _ :: _ => none
def readD (z : Str) : Option Doc := (runR rd0S z.cps.toList).bind finR
theorem runR_app : ∀ (l m : List Nat) (s : RdSt), runR s (l ++ m) = (runR s l).bind fun s' => runR s' m
  | [], m, s => rfl
  | c :: l, m, s => by
    show (stepR s c).bind (fun s' => runR s' (l ++ m)) = ((stepR s c).bind fun s' => runR s' l).bind _
    cases stepR s c with
    | none => rfl
    | some s' => exact runR_app l m s'
theorem runR_snoc {l : List Nat} {i c : Nat} (h : l[i]? = some c) (s : RdSt) : runR s (l.take (i + 1)) = (runR s (l.take i)).bind fun s' => stepR s' c := by
  rw [List.take_add_one, h, runR_app]
  congr 1
  funext s'
  show (stepR s' c).bind (fun s2 => some s2) = _
  cases stepR s' c <;> rfl
theorem runR_none {l : List Nat} {i : Nat} {s : RdSt} (h : runR s (l.take i) = none) : runR s l = none := by
  rw [← List.take_append_drop i l, runR_app, h]; rfl
theorem join0_fold (z : Array Nat) (hz : z = #[]) : ∀ (r : List Str) (acc : Array Nat), (r.foldl (fun acc p => acc ++ z ++ p.cps) acc).toList = acc.toList ++ r.flatMap fun p => p.cps.toList
  | [], acc => by simp
  | p :: r, acc => by
    rw [List.foldl_cons, join0_fold z hz r, List.flatMap_cons, hz]
    simp
theorem join0 (l : List Str) : (Txt.join "" l).cps.toList = l.flatMap fun p => p.cps.toList := by
  unfold Txt.join Builtin.Str.glued
  cases l with
  | nil => rfl
  | cons x r =>
    exact join0_fold _ rfl r x.cps
def codesT (d : Doc) : List Nat := (textTs d).flatMap fun p => p.cps.toList
theorem textT_codes (d : Doc) : (textT d).cps.toList = codesT d := join0 _
theorem str_ext {x y : Str} (h : x.cps.toList = y.cps.toList) : x = y := by
  obtain ⟨⟨a⟩⟩ := x; obtain ⟨⟨b⟩⟩ := y
  simp only at h; subst h; rfl
theorem numT_one {a : Int} (h : 0 ≤ a ∧ a < 5) : numT a = ⟨#[48 + a.toNat]⟩ := by
  have : a = 0 ∨ a = 1 ∨ a = 2 ∨ a = 3 ∨ a = 4 := by omega
  rcases this with rfl | rfl | rfl | rfl | rfl <;> decide
theorem add_dig {s : RdSt} {a : Int} (h : 0 ≤ a ∧ a < 5) (m : s.many + 1 ≤ 300) (b : s.below.length + 1 ≤ 30) : stepR s (48 + a.toNat) = some ⟨s.below, s.top ++ [(a, .nil)], s.many + 1, true⟩ := by
  have hd : digR (48 + a.toNat) = true := by unfold digR; rw [decide_eq_true (by omega), decide_eq_true (by omega)]; rfl
  unfold stepR addR
  rw [if_neg (by omega), if_neg (by omega), if_pos hd, if_neg (by omega)]
  have : ((48 + a.toNat - 48 : Nat) : Int) = a := by omega
  rw [this]
theorem run_doc : ∀ (d : Doc) (s : RdSt), d.lab = true → s.many + d.size ≤ 300 → s.below.length + d.dep ≤ 30 → ∃ b, runR s (codesT d) = some ⟨s.below, s.top ++ d.trees, s.many + d.size, b⟩
  | .nil, s, _, _, _ => ⟨s.may, by rw [show codesT .nil = [] from rfl, show Doc.trees .nil = [] from rfl, List.append_nil]; rfl⟩
  | .cons a k r, s, hl, hm, hb => by
    simp only [Doc.lab, Bool.and_eq_true, decide_eq_true_eq] at hl
    simp only [Doc.size] at hm
    simp only [Doc.dep] at hb
    have h1 := add_dig (s := s) hl.1.1 (by omega) (by omega)
    have e : codesT (.cons a k r) = (treeS a k (textTs k)).cps.toList ++ codesT r := rfl
    have e2 : (Doc.cons a k r).trees = (a, k) :: r.trees := rfl
    rw [e, e2, runR_app]
    have main : ∃ b', runR s (treeS a k (textTs k)).cps.toList = some ⟨s.below, s.top ++ [(a, k)], s.many + (1 + k.size), b'⟩ := by
      cases k with
      | nil =>
        refine ⟨true, ?_⟩
        show runR s (numT a).cps.toList = _
        rw [numT_one hl.1.1]
        show (stepR s (48 + a.toNat)).bind (fun s' => some s') = _
        rw [h1]; rfl
      | cons x y z =>
        have ec : (treeS a (.cons x y z) (textTs (.cons x y z))).cps.toList = [48 + a.toNat, 40] ++ (codesT (.cons x y z) ++ [41]) := by
          show ((((Str.empty ++ numT a) ++ ("(" : Str)) ++ Txt.join "" (textTs (.cons x y z))) ++ (")" : Str)).cps.toList = _
          rw [numT_one hl.1.1]
          have := join0 (textTs (.cons x y z))
          show ((((#[] ++ #[48 + a.toNat]) ++ #[40]) ++ (Txt.join "" (textTs (.cons x y z))).cps) ++ #[41] : Array Nat).toList = _
          rw [Array.toList_append, Array.toList_append, this]
          simp [codesT]
        rw [ec, runR_app, show runR s [48 + a.toNat, 40] = some ⟨(s.top ++ [(a, .nil)]) :: s.below, [], s.many + 1, false⟩ by
          show (stepR s (48 + a.toNat)).bind _ = _
          rw [h1]; rfl]
        obtain ⟨b, ih⟩ := run_doc (.cons x y z) ⟨(s.top ++ [(a, .nil)]) :: s.below, [], s.many + 1, false⟩ hl.1.2 (by show s.many + 1 + _ ≤ 300; omega) (by show s.below.length + 1 + _ ≤ 30; omega)
        refine ⟨false, ?_⟩
        show runR _ (codesT (.cons x y z) ++ [41]) = _
        rw [runR_app, ih]
        show (stepR _ 41).bind (fun s' => some s') = _
        have : stepR ⟨(s.top ++ [(a, .nil)]) :: s.below, [] ++ (Doc.cons x y z).trees, s.many + 1 + (Doc.cons x y z).size, b⟩ 41 = some ⟨s.below, s.top ++ [(a, .cons x y z)], s.many + 1 + (Doc.cons x y z).size, false⟩ := by
          unfold stepR
          rw [if_neg (by decide), if_pos rfl]
          unfold closeR
          simp only [List.nil_append]
          rw [if_neg (by simp [Doc.trees]), List.getLast?_concat, List.dropLast_concat, docOf_trees]
        rw [this, Nat.add_assoc]; rfl
    obtain ⟨b', hb'⟩ := main
    rw [hb']
    obtain ⟨b, ih⟩ := run_doc r ⟨s.below, s.top ++ [(a, k)], s.many + (1 + k.size), b'⟩ hl.2 (by show s.many + (1 + k.size) + _ ≤ 300; omega) (by show s.below.length + _ ≤ 30; omega)
    refine ⟨b, ?_⟩
    show runR _ _ = _
    rw [ih]
    show some (RdSt.mk s.below (s.top ++ [(a, k)] ++ r.trees) (s.many + (1 + k.size) + r.size) b) = some (RdSt.mk s.below (s.top ++ (a, k) :: r.trees) (s.many + (1 + k.size + r.size)) b)
    rw [List.append_assoc, Nat.add_assoc s.many]; rfl
theorem read_text {d : Doc} (h : d.ok) : readD (textT d) = some d := by
  obtain ⟨b, e⟩ := run_doc d rd0S h.1 (by show 0 + d.size ≤ 300; have := h.2.1; omega) (by show 0 + d.dep ≤ 30; have := h.2.2; omega)
  unfold readD
  rw [textT_codes, e]
  show some (docOf ([] ++ d.trees)) = _
  rw [List.nil_append, docOf_trees]
def rowOkR (j : Nat) (r : List Tr) : Prop := ∀ t ∈ r, 0 ≤ t.1 ∧ t.1 < 5 ∧ t.2.lab = true ∧ t.2.dep + 1 + j ≤ 30
def rowSz (r : List Tr) : Nat := (r.map fun t => 1 + t.2.size).sum
def lowOk : List (List Tr) → Prop
  | [] => True
  | r :: b => r ≠ [] ∧ rowOkR b.length r ∧ lowOk b
structure RdOk (s : RdSt) : Prop where
  top : rowOkR s.below.length s.top
  low : lowOk s.below
  sz : rowSz s.top + (s.below.map rowSz).sum ≤ s.many
  m : s.many ≤ 300
  mt : s.may = true → s.top ≠ []
theorem rdOk0 : RdOk rd0S := ⟨fun t h => (by cases h), trivial, Nat.le_refl _, by decide, fun z => (by cases z)⟩
theorem low_len : ∀ {b : List (List Tr)}, lowOk b → b.length ≤ 30
  | [], _ => Nat.zero_le _
  | r :: b, h => by
    obtain ⟨h1, h2, h3⟩ := h
    cases r with
    | nil => exact absurd rfl h1
    | cons t r => have := (h2 t (List.mem_cons_self ..)).2.2.2; simp only [List.length_cons]; omega
theorem docOf_lab : ∀ {r : List Tr} {j : Nat}, rowOkR j r → (docOf r).lab = true
  | [], _, _ => rfl
  | t :: r, j, h => by
    obtain ⟨a, b, c, _⟩ := h t (List.mem_cons_self ..)
    rw [docOf, Doc.lab, decide_eq_true ⟨a, b⟩, c, docOf_lab fun x hx => h x (List.mem_cons_of_mem _ hx)]; rfl
theorem docOf_dep : ∀ {r : List Tr} {j : Nat}, j ≤ 30 → rowOkR j r → (docOf r).dep + j ≤ 30
  | [], j, hj, _ => by show 0 + j ≤ 30; omega
  | t :: r, j, hj, h => by
    obtain ⟨_, _, _, c⟩ := h t (List.mem_cons_self ..)
    have := docOf_dep hj fun x hx => h x (List.mem_cons_of_mem _ hx)
    rw [docOf, Doc.dep]; omega
theorem docOf_size : ∀ r : List Tr, (docOf r).size = rowSz r
  | [] => rfl
  | t :: r => by rw [docOf, Doc.size, docOf_size r]; simp [rowSz]
theorem row_len (r : List Tr) : r.length ≤ rowSz r := by
  induction r with
  | nil => exact Nat.zero_le _
  | cons t r ih => simp only [rowSz, List.map_cons, List.sum_cons, List.length_cons] at *; omega
theorem RdOk.top_len {s : RdSt} (h : RdOk s) : s.top.length ≤ 300 := by have := row_len s.top; have := h.sz; have := h.m; omega
theorem RdOk.below_len {s : RdSt} (h : RdOk s) : s.below.length ≤ 30 := low_len h.low
theorem sum_memR {x : Nat} : ∀ {l : List Nat}, x ∈ l → x ≤ l.sum
  | y :: l, h => by
    rw [List.sum_cons]
    rcases List.mem_cons.mp h with rfl | h
    · omega
    · have := sum_memR h; omega
theorem RdOk.row_len {s : RdSt} (h : RdOk s) {r : List Tr} (hr : r ∈ s.below) : r.length ≤ 300 := by
  have h1 := LW.row_len r
  have h2 : rowSz r ≤ (s.below.map rowSz).sum := sum_memR (List.mem_map.mpr ⟨r, hr, rfl⟩)
  have := h.sz; have := h.m; omega
theorem rowSz_app (a b : List Tr) : rowSz (a ++ b) = rowSz a + rowSz b := by simp [rowSz]
theorem add_ok {s s' : RdSt} {a : Int} (h : RdOk s) (ha : 0 ≤ a ∧ a < 5) (e : addR s a = some s') : RdOk s' := by
  unfold addR at e
  split at e
  · cases e
  next hn =>
  cases e
  have hs := h.sz
  refine ⟨fun t ht => ?_, h.low, ?_, by show s.many + 1 ≤ 300; omega, fun _ => by simp⟩
  · rcases List.mem_append.mp ht with ht | ht
    · exact h.top t ht
    · rw [List.mem_singleton.mp ht]; exact ⟨ha.1, ha.2, rfl, by show 0 + 1 + s.below.length ≤ 30; omega⟩
  · show rowSz (s.top ++ [(a, .nil)]) + (s.below.map rowSz).sum ≤ s.many + 1
    rw [rowSz_app]
    have : rowSz [(a, Doc.nil)] = 1 := rfl
    omega
theorem open_ok {s s' : RdSt} (h : RdOk s) (e : openR s = some s') : RdOk s' := by
  unfold openR at e
  split at e
  next hm =>
    cases e
    refine ⟨fun t ht => (by cases ht), ⟨h.mt hm, h.top, h.low⟩, ?_, h.m, fun z => by cases z⟩
    have := h.sz
    show rowSz [] + ((s.top :: s.below).map rowSz).sum ≤ s.many
    rw [List.map_cons, List.sum_cons, show rowSz [] = 0 from rfl]; omega
  · cases e
theorem close_ok {s s' : RdSt} (h : RdOk s) (e : closeR s = some s') : RdOk s' := by
  obtain ⟨below, top, many, may⟩ := s
  cases below with
  | nil => cases e
  | cons nx bl =>
    simp only [closeR] at e
    split at e
    · cases e
    next hne =>
    obtain ⟨hn0, hn1, hlow⟩ := h.low
    have e0 := List.dropLast_concat_getLast hn0
    have hlast : nx.getLast? = some (nx.getLast hn0) := List.getLast?_eq_some_getLast hn0
    rw [hlast] at e
    cases e
    generalize nx.getLast hn0 = t at *
    generalize nx.dropLast = n0 at *
    subst e0
    obtain ⟨a1, a2, a3, a4⟩ := hn1 t (by simp)
    have hsz : rowSz top + (((n0 ++ [t]) :: bl).map rowSz).sum ≤ many := h.sz
    have hlb : bl.length + 1 ≤ 30 := low_len h.low
    have hdep : (docOf top).dep + (bl.length + 1) ≤ 30 := docOf_dep (j := bl.length + 1) hlb h.top
    refine ⟨fun x hx => ?_, hlow, ?_, h.m, fun z => by cases z⟩
    · rcases List.mem_append.mp hx with hx | hx
      · exact hn1 x (List.mem_append_left _ hx)
      · rw [List.mem_singleton.mp hx]; exact ⟨a1, a2, docOf_lab h.top, by show (docOf top).dep + 1 + bl.length ≤ 30; omega⟩
    · show rowSz (n0 ++ [(t.1, docOf top)]) + (bl.map rowSz).sum ≤ many
      rw [List.map_cons, List.sum_cons, rowSz_app] at hsz
      rw [rowSz_app]
      have e1 : rowSz [(t.1, docOf top)] = 1 + rowSz top := by
        show 1 + (docOf top).size + 0 = _
        rw [docOf_size, Nat.add_zero]
      have e2 : rowSz [t] = 1 + t.2.size := rfl
      omega
theorem step_ok {s s' : RdSt} {c : Nat} (h : RdOk s) (e : stepR s c = some s') : RdOk s' := by
  unfold stepR at e
  split at e
  · exact open_ok h e
  split at e
  · exact close_ok h e
  split at e
  next hd =>
    unfold digR at hd
    simp only [Bool.and_eq_true, decide_eq_true_eq] at hd
    exact add_ok h (by omega) e
  · cases e
theorem run_ok : ∀ {l : List Nat} {s s' : RdSt}, RdOk s → runR s l = some s' → RdOk s'
  | [], s, s', h, e => by cases e; exact h
  | c :: l, s, s', h, e => by
    simp only [runR] at e
    cases e1 : stepR s c with
    | none => rw [e1] at e; cases e
    | some s1 => rw [e1] at e; exact run_ok (step_ok h e1) e
theorem fin_ok {s : RdSt} {d : Doc} (h : RdOk s) (e : finR s = some d) : d.ok := by
  obtain ⟨below, top, many, may⟩ := s
  cases below with
  | cons a b => cases e
  | nil =>
    cases e
    have hs := h.sz
    have hm := h.m
    have hd := docOf_dep (j := 0) (by decide) h.top
    refine ⟨docOf_lab h.top, ?_, by simpa using hd⟩
    rw [docOf_size]
    simp only [List.map_nil, List.sum_nil] at hs hm
    show rowSz top ≤ 300
    omega
theorem read_ok {z : Str} {d : Doc} (e : readD z = some d) : d.ok := by
  unfold readD at e
  cases e1 : runR rd0S z.cps.toList with
  | none => rw [e1] at e; cases e
  | some s => rw [e1] at e; exact fin_ok (run_ok rdOk0 e1) e
structure NearR (k : Nat) (s : RdSt) : Prop where
  m : s.many ≤ k
  b : 2 * s.below.length + (if s.may then 1 else 0) ≤ k
theorem near0 : NearR 0 rd0S := ⟨Nat.le_refl _, Nat.le_refl _⟩
theorem near_step {k c : Nat} {s s' : RdSt} (h : NearR k s) (e : stepR s c = some s') : NearR (k + 1) s' := by
  obtain ⟨hm, hb⟩ := h
  unfold stepR at e
  split at e
  · unfold openR at e
    split at e
    next hh =>
      cases e
      rw [if_pos hh] at hb
      exact ⟨by show s.many ≤ _; omega, by show 2 * (s.below.length + 1) + 0 ≤ _; omega⟩
    · cases e
  split at e
  · obtain ⟨below, top, many, may⟩ := s
    cases below with
    | nil => cases e
    | cons nx bl =>
      simp only [closeR] at e
      split at e
      · cases e
      split at e
      · cases e
      cases e
      simp only [List.length_cons] at hb
      exact ⟨by show many ≤ _; simp only at hm; omega, by show 2 * bl.length + 0 ≤ _; omega⟩
  split at e
  · unfold addR at e
    split at e
    · cases e
    cases e
    exact ⟨by show s.many + 1 ≤ _; omega, by show 2 * s.below.length + 1 ≤ _; omega⟩
  · cases e
theorem Doc.data_show {d : Doc} (h : d.ok) : d.data.showable = true ∧ d.data.depth ≤ 64 ∧ d.data.shown.length ≤ sizeLine := doc_show h.1 h.2.1 h.2.2
end LW
set_option maxHeartbeats 2000000
namespace LW
open PySem PySem.Spec PyProof.Rows L2
theorem pe_kl0 {X : Cx} {CX : CXT} {k : Nat} {C : Addr} {x : Str} {ps : List Str} {sp : Sp} {E : XK} {p pos : Pos} (F : Kl X.prog X.w X.K X.mg X.base CX k C x ps sp) (hr : Room (k + 1) X.A) (hg : Gl X x) (hx : Passes CX X E)
    (hdb : (x == ("__debug__" : Str)) = false := by decide) :
    PE X (.Call (.Name x p) [] [] pos) (tMake C sp [] E tNil) := by
  obtain ⟨f, fd, F, m, g, b⟩ := F.ex
  exact pe_make0 m F hr hg g b .nil hx hdb
structure RdTxt (K : PySem.W.Frag) (mg : Str → Option Value) (C : Addr) : Prop where
  cl : Cls K C
  n0 : NoAttr K C "rows"
  n1 : NoAttr K C "many"
  n2 : NoAttr K C "may_open"
  gC : mg "Reading" = some (.ref C)
def rdMeths : List Str := ["take", "add_tree", "open_row", "close_row", "document"]
def fsRd (R : Addr) (m : Nat) (b : Bool) : List (Str × V) := [("rows", .ref R), ("many", natV m), ("may_open", .bl b)]
section
variable {R : Addr} {m : Nat} {b : Bool}
theorem frd0 : (fsRd R m b).lookup ("rows" : Str) = some (.ref R) := rfl
theorem frd1 : (fsRd R m b).lookup ("many" : Str) = some (natV m) := rfl
theorem frd2 : (fsRd R m b).lookup ("may_open" : Str) = some (.bl b) := rfl
theorem frdM (x : Str) (h : x ∈ rdMeths) : (fsRd R m b).lookup x = none := by
  simp only [rdMeths, List.mem_cons, List.not_mem_nil, or_false] at h
  rcases h with rfl | rfl | rfl | rfl | rfl <;> rfl
end
theorem dpAll_appI {K : PySem.W.Frag} {H : Hp} : ∀ {a b : List PyData} {vs : List V}, DpAll K H vs (a ++ b) → ∃ xs ys, vs = xs ++ ys ∧ DpAll K H xs a ∧ DpAll K H ys b
  | [], b, vs, h => ⟨[], vs, rfl, .nil, h⟩
  | d :: a, b, _, .cons hx h => by
    obtain ⟨xs, ys, rfl, h1, h2⟩ := dpAll_appI h
    exact ⟨_ :: xs, ys, rfl, .cons hx h1, h2⟩
def RdRow (K : PySem.W.Frag) (H : Hp) (L : Addr) (r : List Tr) : Prop := ∃ xs, H L = some (.lst xs) ∧ DpAll K H xs (r.map trD)
def RowsAt (K : PySem.W.Frag) (H0 H : Hp) : List Addr → List (List Tr) → Prop
  | [], [] => True
  | L :: Ls, r :: rs => H0 L = none ∧ RdRow K H L r ∧ RowsAt K H0 H Ls rs
  | _, _ => False
section
variable {K : PySem.W.Frag} {H0 H H' : Hp}
theorem RowsAt.grw {m : List Addr} (g : Gr m H H') (wl : ∀ b ∈ m, ∃ ys, H b = some (.lst ys)) : ∀ {Ls : List Addr} {rs : List (List Tr)}, (∀ L ∈ Ls, L ∉ m) → RowsAt K H0 H Ls rs → RowsAt K H0 H' Ls rs
  | [], [], _, _ => trivial
  | L :: Ls, r :: rs, n, ⟨h1, ⟨xs, h2, h3⟩, h4⟩ => ⟨h1, ⟨xs, g.lst (n L (List.mem_cons_self ..)) h2, dpAll_grm g wl _ _ (trs_pure r) h3⟩, RowsAt.grw g wl (fun M hM => n M (List.mem_cons_of_mem _ hM)) h4⟩
  | [], _ :: _, _, h => h.elim
  | _ :: _, [], _, h => h.elim
theorem RowsAt.gra {m : List Addr} (g : Gr m H H') (a : Apart m H) : ∀ {Ls : List Addr} {rs : List (List Tr)}, RowsAt K H0 H Ls rs → RowsAt K H0 H' Ls rs
  | [], [], _ => trivial
  | L :: Ls, r :: rs, ⟨h1, ⟨xs, h2, h3⟩, h4⟩ => ⟨h1, ⟨xs, g.lstA a h2, dpAll_gra g a _ _ h3⟩, RowsAt.gra g a h4⟩
  | [], _ :: _, h => h.elim
  | _ :: _, [], h => h.elim
theorem RowsAt.length : ∀ {Ls : List Addr} {rs : List (List Tr)}, RowsAt K H0 H Ls rs → Ls.length = rs.length
  | [], [], _ => rfl
  | L :: Ls, r :: rs, ⟨_, _, h⟩ => by rw [List.length_cons, List.length_cons, h.length]
  | [], _ :: _, h => h.elim
  | _ :: _, [], h => h.elim
structure RdRows (K : PySem.W.Frag) (H0 H : Hp) (R : Addr) (Ls : List Addr) (rows : List (List Tr)) : Prop where
  gr : Gr [] H0 H
  nR : H0 R = none
  at_ : H R = some (.lst (Ls.reverse.map V.ref))
  rows : RowsAt K H0 H Ls rows
  nd : (R :: Ls).Nodup
variable {R : Addr} {Ls : List Addr} {rows : List (List Tr)}
theorem RdRows.more (h : RdRows K H0 H R Ls rows) (g : Gr [] H H') : RdRows K H0 H' R Ls rows :=
  ⟨h.gr.trans g, h.nR, g.lst (by simp) h.at_, h.rows.gra g Apart.nil, h.nd⟩
theorem RdRows.gra {m : List Addr} (h : RdRows K H0 H R Ls rows) (g : Gr m H H') (a : Apart m H) (g0 : Gr [] H0 H') : RdRows K H0 H' R Ls rows :=
  ⟨g0, h.nR, g.lstA a h.at_, h.rows.gra g a, h.nd⟩
theorem RdRows.length (h : RdRows K H0 H R Ls rows) : Ls.length = rows.length := h.rows.length
theorem wl1 {L : Addr} {ys : List V} (e : H L = some (.lst ys)) : ∀ b ∈ [L], ∃ ys, H b = some (.lst ys) := fun b hb => by rw [List.mem_singleton.mp hb]; exact ⟨_, e⟩
theorem gr1 {L : Addr} {ys : List V} {o : HO} (e : H L = some (.lst ys)) : Gr [L] H (upd H L o) := Gr.put e (fun _ z => by cases z) (by simp)
theorem RdRows.app {T : Addr} {r : List Tr} {xs : List V} {x : V} {t : Tr} (h : RdRows K H0 H R (T :: Ls) (r :: rows)) (e : H T = some (.lst xs)) (hx : Dp K H x (trD t)) : RdRows K H0 (upd H T (.lst (xs ++ [x]))) R (T :: Ls) ((r ++ [t]) :: rows) := by
  obtain ⟨n1, ⟨ys, e1, hd⟩, hr⟩ := h.rows
  rw [e] at e1; cases e1
  have nd := h.nd
  simp only [List.nodup_cons, List.mem_cons, not_or] at nd
  have g := gr1 (o := .lst (xs ++ [x])) e
  have wl := wl1 e
  refine ⟨h.gr.put0 n1, h.nR, by rw [upd_ne nd.1.1]; exact h.at_, ⟨n1, ⟨_, upd_same, ?_⟩, hr.grw g wl fun M hM => by rw [List.mem_singleton]; exact fun z => nd.2.1 (z ▸ hM)⟩, h.nd⟩
  rw [List.map_append]
  exact (dpAll_grm g wl _ _ (trs_pure r) hd).append (.cons (dp_grm g wl _ _ (tr_pure t) hx) .nil)
theorem RdRows.poptree {T : Addr} {r : List Tr} {t : Tr} (h : RdRows K H0 H R (T :: Ls) ((r ++ [t]) :: rows)) : ∃ xs x, H T = some (.lst (xs ++ [x])) ∧ RdRows K H0 (upd H T (.lst xs)) R (T :: Ls) (r :: rows) ∧ Dp K (upd H T (.lst xs)) x (trD t) := by
  obtain ⟨n1, ⟨ys, e1, hd⟩, hr⟩ := h.rows
  have nd := h.nd
  simp only [List.nodup_cons, List.mem_cons, not_or] at nd
  have g := fun xs : List V => gr1 (o := .lst xs) e1
  have wl := wl1 e1
  rw [List.map_append] at hd
  obtain ⟨xs, us, rfl, h1, h2⟩ := dpAll_appI hd
  cases h2 with
  | cons hx h3 =>
  cases h3
  refine ⟨xs, _, e1, ⟨h.gr.put0 n1, h.nR, by rw [upd_ne nd.1.1]; exact h.at_, ⟨n1, ⟨_, upd_same, dpAll_grm (g _) wl _ _ (trs_pure r) h1⟩, hr.grw (g _) wl fun M hM => by rw [List.mem_singleton]; exact fun z => nd.2.1 (z ▸ hM)⟩, h.nd⟩, dp_grm (g _) wl _ _ (tr_pure t) hx⟩
theorem RdRows.push {T : Addr} (h : RdRows K H0 H R Ls rows) (n : H T = none) : RdRows K H0 (upd (upd H T (.lst [])) R (.lst (Ls.reverse.map V.ref ++ [.ref T]))) R (T :: Ls) ([] :: rows) := by
  have hR := h.at_
  have ne : T ≠ R := fun z => by rw [z, hR] at n; cases n
  have nL : T ∉ Ls := fun z => by
    have : ∀ {Ms : List Addr} {rs : List (List Tr)}, RowsAt K H0 H Ms rs → T ∈ Ms → False := by
      intro Ms
      induction Ms with
      | nil => intro rs _ hm; cases hm
      | cons M Ms ih =>
        intro rs hr hm
        cases rs with
        | nil => exact hr
        | cons r rs =>
          obtain ⟨_, ⟨xs, e, _⟩, hr⟩ := hr
          rcases List.mem_cons.mp hm with rfl | hm
          · rw [n] at e; cases e
          · exact ih hr hm
    exact this h.rows z
  have h1 := h.more (Gr.new (o := .lst []) n)
  have nd := h.nd
  simp only [List.nodup_cons] at nd
  have g := gr1 (o := .lst (Ls.reverse.map V.ref ++ [.ref T])) h1.at_
  refine ⟨h1.gr.put0 h.nR, h.nR, ?_, ⟨h.gr.free _ n, ⟨[], by rw [upd_ne ne, upd_same], .nil⟩, h1.rows.grw g (wl1 h1.at_) fun M hM => by rw [List.mem_singleton]; exact fun z => nd.1 (z ▸ hM)⟩, ?_⟩
  · rw [upd_same, List.reverse_cons, List.map_append]; rfl
  · simp only [List.nodup_cons, List.mem_cons, not_or]; exact ⟨⟨ne.symm, nd.1⟩, nL, nd.2⟩
theorem RdRows.poprow {T : Addr} {r : List Tr} (h : RdRows K H0 H R (T :: Ls) (r :: rows)) : RdRows K H0 (upd H R (.lst (Ls.reverse.map V.ref))) R Ls rows ∧ RdRow K (upd H R (.lst (Ls.reverse.map V.ref))) T r := by
  obtain ⟨n1, ⟨ys, e1, hd⟩, hr⟩ := h.rows
  have nd := h.nd
  simp only [List.nodup_cons, List.mem_cons, not_or] at nd
  have g := gr1 (o := .lst (Ls.reverse.map V.ref)) h.at_
  refine ⟨⟨h.gr.put0 h.nR, h.nR, upd_same, hr.grw g (wl1 h.at_) fun M hM => by rw [List.mem_singleton]; exact fun z => nd.1.2 (z ▸ hM), ?_⟩, ys, ?_, dpAll_grm g (wl1 h.at_) _ _ (trs_pure r) hd⟩
  · simp only [List.nodup_cons]; exact ⟨nd.1.2, nd.2.2⟩
  · rw [upd_ne (Ne.symm nd.1.1)]; exact e1
end
structure RdAt (K : PySem.W.Frag) (C : Addr) (H0 : Hp) (p : Addr) (s : RdSt) (H : Hp) : Prop where
  np : H0 p = none
  ex : ∃ (dx R : Addr) (Ls : List Addr), H p = some (.ins C dx (fsRd R s.many s.may)) ∧ RdRows K H0 H R Ls (s.top :: s.below)
theorem RdAt.gr {K : PySem.W.Frag} {C p : Addr} {H0 H : Hp} {s : RdSt} (h : RdAt K C H0 p s H) : Gr [] H0 H := by obtain ⟨_, _, _, _, h⟩ := h.ex; exact h.gr
def spRdInit (K : PySem.W.Frag) (C : Addr) : Sp := fun vs H Q _ => ∃ (p dx : Addr) (H0 : Hp), vs = [.ref p] ∧ Gr [] H0 H ∧ H0 p = none ∧ H p = some (.ins C dx []) ∧ ∀ H', RdAt K C H0 p rd0S H' → Q .non H'
def spRdOp (K : PySem.W.Frag) (C DT : Addr) (op : RdSt → Option RdSt) : Sp := fun vs H Q E => ∃ (p : Addr) (s : RdSt) (H0 : Hp), vs = [.ref p] ∧ RdAt K C H0 p s H ∧ RdOk s ∧ (∀ s' H', op s = some s' → RdAt K C H0 p s' H' → Q .non H') ∧ (op s = none → XE0 E DT H0)
def spRdAdd (K : PySem.W.Frag) (C DT : Addr) : Sp := fun vs H Q E => ∃ (p : Addr) (s : RdSt) (H0 : Hp) (a : Int), vs = [.ref p, .int a] ∧ RdAt K C H0 p s H ∧ RdOk s ∧ (∀ s' H', addR s a = some s' → RdAt K C H0 p s' H' → Q .non H') ∧ (addR s a = none → XE0 E DT H0)
def spRdTake (K : PySem.W.Frag) (C DT : Addr) : Sp := fun vs H Q E => ∃ (p : Addr) (s : RdSt) (H0 : Hp) (c : Nat), vs = [.ref p, .str ⟨#[c]⟩] ∧ RdAt K C H0 p s H ∧ RdOk s ∧ (∀ s' H', stepR s c = some s' → RdAt K C H0 p s' H' → Q .non H') ∧ (stepR s c = none → XE0 E DT H0)
def spRdDoc (K : PySem.W.Frag) (C DT : Addr) : Sp := fun vs H Q E => ∃ (p : Addr) (s : RdSt) (H0 : Hp), vs = [.ref p] ∧ RdAt K C H0 p s H ∧ RdOk s ∧ (∀ d v H', finR s = some d → Gr [] H0 H' → Dp K H' v d.data → Q v H') ∧ (finR s = none → XE0 E DT H0)
def spRead (K : PySem.W.Frag) (DT : Addr) : Sp := fun vs H Q E => ∃ z : Str, vs = [.str z] ∧ z.length ≤ 5000 ∧ (∀ d v H', readD z = some d → Gr [] H H' → Dp K H' v d.data → Q v H') ∧ (readD z = none → XE0 E DT H)
end LW
namespace LW
open PySem PySem.Spec PyProof.Rows L2
section
variable {K : PySem.W.Frag} {H0 H : Hp} {R : Addr} {Ls : List Addr} {r : List Tr} {rows : List (List Tr)}
theorem RdRows.cons (h : RdRows K H0 H R Ls (r :: rows)) : ∃ T Lb, Ls = T :: Lb := by
  cases Ls with
  | nil => exact absurd h.length (by simp)
  | cons T Lb => exact ⟨T, Lb, rfl⟩
theorem RdRows.topAt {T : Addr} (h : RdRows K H0 H R (T :: Ls) (r :: rows)) : ∃ xs, H T = some (.lst xs) ∧ DpAll K H xs (r.map trD) ∧ xs.length = r.length := by
  obtain ⟨_, ⟨xs, e, d⟩, _⟩ := h.rows
  exact ⟨xs, e, d, by rw [d.length, List.length_map]⟩
theorem atI_last {α : Type} (xs : List α) (x : α) : atI (xs ++ [x]) (-1) = some x := by
  have e : ixN (xs ++ [x]).length (-1) = some xs.length := by
    unfold ixN
    rw [List.length_append, List.length_singleton, if_neg (by decide), if_pos (by omega)]
    congr 1
    omega
  unfold atI
  rw [e]
  simp
theorem RdRows.last {T : Addr} (h : RdRows K H0 H R (T :: Ls) rows) : atI ((T :: Ls).reverse.map V.ref) (-1) = some (.ref T) := by
  rw [List.reverse_cons, List.map_append]
  exact atI_last _ _
end
end LW
set_option maxHeartbeats 4000000
namespace LW
open PySem PySem.Spec PyProof.Rows L2
section
variable {P : Program} {w : World} {K : PySem.W.Frag} {mg : Str → Option Value} {base : Heap} {f : Addr} {fd : FuncData} {CR DT : Addr}
abbrev n_Reading_open_row : List Str := ["self"]
theorem sc_Reading_open_row : FnScope n_Reading_open_row ["self"] (defScope s_Reading_open_row) := ⟨rfl, rfl, rfl, by decide +kernel, rfl, by decide +kernel, by decide +kernel⟩
theorem ok_rdOpen {n : Nat} (T : RdTxt K mg CR) (F : Fun K "open_row" "Reading.open_row" s_Reading_open_row f fd) (B : XC K mg "BadText" DT) : FnOk P w K mg base (XA.CXA P w) (n + 1) f fd ["self"] (spRdOp K CR DT openR) := by
  refine F.okA sc_Reading_open_row (fun vs H Q E h => ?_) (fun cdv A0 outer s0 H vs Q E hr tk h => ?_)
  · obtain ⟨_, _, _, rfl, _⟩ := h; rfl
  obtain ⟨p, s, H0, rfl, hA, ok, qy, qn⟩ := h
  have nd := sc_Reading_open_row.nd
  refine ⟨_, pss_cons (ps_if (pt_not (pt_truth (pe_fld (pv 0) rfl) (by intro _; rfl)))
      (pss_one (ps_raiseC B rfl tk rfl))
      pss_nil)
    (pss_cons (ps_expr (pe_bm PySem.F.plainAttrs_list PySem.F.slot_list_append PySem.F.type_list_append mt_append (pe_fld (pv 0) rfl) (pa_cons (pe_lst pa_nil) pa_nil)))
    (pss_one (ps_fld (pv 0) pe_bl rfl))), ?_⟩
  have gA := hA.gr
  obtain ⟨np, dx, R, Ls, hp, hR⟩ := hA
  refine ⟨_, rfl, p, CR, dx, _, _, rfl, hp, T.cl, T.n2, frd2, ?_⟩
  refine ⟨s.may, rfl, ?_⟩
  cases hm : s.may with
  | false =>
    exact iteT ((qn (by unfold openR; rw [hm]; rfl)).gr gA).now
  | true =>
  refine iteF ?_
  rw [hm] at hp
  refine ⟨_, rfl, p, CR, dx, _, _, rfl, hp, T.cl, T.n0, frd0, ?_⟩
  refine ⟨.inl ⟨rfl, _, SqL.of hR.at_⟩, (by decide : (0 : Nat) ≤ sizeLine), fun L nL => ?_⟩
  have hl := hR.length
  have hb := ok.below_len
  have gL : Gr [] H (upd H L (.lst [])) := Gr.new nL
  refine ⟨R, _, .ref L, rfl, rfl, gL.lst (by simp) hR.at_, ?_, ?_⟩
  · rw [List.length_map, List.length_reverse, hl, List.length_cons]; exact small1000 (by omega)
  have h2 := hR.push nL
  have nRp : R ≠ p := fun z => by
    have := hR.at_
    rw [z, hp] at this; cases this
  have hp2 : (upd (upd H L (.lst [])) R (.lst (Ls.reverse.map V.ref ++ [.ref L]))) p = some (.ins CR dx (fsRd R s.many true)) := by
    rw [upd_ne (Ne.symm nRp)]
    exact gL.keep _ _ (by simp) hp (fun _ z => by cases z)
  generalize (upd (upd H L (.lst [])) R (.lst (Ls.reverse.map V.ref ++ [.ref L]))) = H2 at h2 hp2 ⊢
  refine ⟨_, rfl, p, CR, dx, _, rfl, hp2, T.cl, T.n2, (by show (3 : Nat) < 1000; decide), ?_⟩
  obtain ⟨w3, b3, hp3⟩ := fld_putM (C := CR) (dx := dx) "may_open" (V.bl false) hp2
  exact qy ⟨s.top :: s.below, [], s.many, false⟩ _ (by unfold openR; rw [hm]; rfl) ⟨np, dx, R, _, hp3, h2.gra w3 b3 (h2.gr.put0 np)⟩
end
end LW
set_option maxHeartbeats 4000000
namespace LW
open PySem PySem.Spec PyProof.Rows L2
section
variable {P : Program} {w : World} {K : PySem.W.Frag} {mg : Str → Option Value} {base : Heap} {f : Addr} {fd : FuncData} {CR DT : Addr}
abbrev n_Reading_close_row : List Str := ["self", "kids", "label", "_"]
theorem sc_Reading_close_row : FnScope n_Reading_close_row ["self"] (defScope s_Reading_close_row) := ⟨rfl, rfl, rfl, by decide +kernel, rfl, by decide +kernel, by decide +kernel⟩
theorem ok_rdClose {n : Nat} (T : RdTxt K mg CR) (F : Fun K "close_row" "Reading.close_row" s_Reading_close_row f fd) (B : XC K mg "BadText" DT) (m_len : mg "len" = none) (m_tuple : mg "tuple" = none) : FnOk P w K mg base (XA.CXA P w) (n + 1) f fd ["self"] (spRdOp K CR DT closeR) := by
  refine F.okA sc_Reading_close_row (fun vs H Q E h => ?_) (fun cdv A0 outer s0 H vs Q E hr tk h => ?_)
  · obtain ⟨_, _, _, rfl, _⟩ := h; rfl
  obtain ⟨p, s, H0, rfl, hA, ok, qy, qn⟩ := h
  have nd := sc_Reading_close_row.nd
  refine ⟨_, pss_cons (ps_if (PW.pt (pw_or (pt_cmpR op_eq (pe_callB call_len_seq (by rfl) m_len PySem.boot_len (pa_cons (pe_fld (pv 0) rfl) pa_nil)) pe_int (nomark _)) (pw_or1 (pt_not (pt_truth (pe_ix ix_list (pe_fld (pv 0) rfl) (pe_un un_neg pe_int) (fun _ _ => rfl)) (by intro _; rfl))))))
      (pss_one (ps_raiseC B rfl tk rfl))
      pss_nil)
    (pss_cons (ps_set (i := 1) nd rfl (.inl rfl) (pe_callTy call_tuple_of (by rfl) m_tuple b_tuple (pa_cons (pe_bm0 PySem.F.plainAttrs_list PySem.F.slot_list_pop PySem.F.type_list_pop mt_pop (pe_fld (pv 0) rfl)) pa_nil)))
    (pss_cons (ps_asg (pe_bm0 PySem.F.plainAttrs_list PySem.F.slot_list_pop PySem.F.type_list_pop mt_pop (pe_ix ix_list (pe_fld (pv 0) rfl) (pe_un un_neg pe_int) (fun _ _ => rfl))) (pg_tup rfl (pgs_cons (pg_name (i := 2) nd rfl (.inl rfl)) (pgs_cons (pg_name (i := 3) nd rfl (.inl rfl)) pgs_nil))))
    (pss_cons (ps_expr (pe_bm PySem.F.plainAttrs_list PySem.F.slot_list_append PySem.F.type_list_append mt_append (pe_ix ix_list (pe_fld (pv 0) rfl) (pe_un un_neg pe_int) (fun _ _ => rfl)) (pa_cons (pe_tup (pa_cons (pv 2) (pa_cons (pv 1) pa_nil))) pa_nil)))
    (pss_one (ps_fld (pv 0) pe_bl rfl))))), ?_⟩
  have gA := hA.gr
  obtain ⟨np, dx, R, Ls, hp, hR⟩ := hA
  have no : closeR s = none → XE0 E DT H := fun c => (qn c).gr gA
  have hl := hR.length
  have hb := ok.below_len
  have ht := ok.top_len
  obtain ⟨below, top, many, may⟩ := s
  simp only at hp hR hl hb ht
  refine ⟨_, rfl, p, CR, dx, _, _, rfl, hp, T.cl, T.n0, frd0, ?_⟩
  refine ⟨_, _, rfl, .inl (SqL.of hR.at_), ?_⟩
  rw [List.length_map, List.length_reverse, hl, List.length_cons]
  refine ⟨rfl, _, rfl, ?_⟩
  cases below with
  | nil => exact iteTd (by decide) (iteT (no rfl).now)
  | cons nx bl =>
  refine iteFd (decide_eq_false (by simp only [List.length_cons, V.int.injEq]; omega)) ?_
  obtain ⟨T0, Lb, rfl⟩ := hR.cons
  obtain ⟨xs, hT0, hd0, lx⟩ := hR.topAt
  refine ⟨_, rfl, p, CR, dx, _, _, rfl, hp, T.cl, T.n0, frd0, ?_⟩
  refine ⟨1, rfl, R, _, _, .ref T0, rfl, rfl, SqL.of hR.at_, hR.last, ?_⟩
  refine ⟨_, .inl ⟨_, SqL.of hT0, rfl⟩, ?_⟩
  cases top with
  | nil =>
    obtain rfl : xs = [] := List.eq_nil_of_length_eq_zero lx
    exact iteT (no (by simp [closeR])).now
  | cons t0 tr =>
  obtain ⟨x0, xr, rfl⟩ : ∃ x0 xr, xs = x0 :: xr := by
    cases xs with
    | nil => cases lx
    | cons a b => exact ⟨a, b, rfl⟩
  refine iteF ?_
  obtain ⟨hn0, hn1, hlow⟩ := ok.low
  have hnx : nx.length ≤ 300 := ok.row_len (List.mem_cons_self ..)
  have e0 := List.dropLast_concat_getLast hn0
  have hlast : nx.getLast? = some (nx.getLast hn0) := List.getLast?_eq_some_getLast hn0
  generalize nx.getLast hn0 = t at e0 hlast
  have hdl : nx.dropLast = nx.dropLast := rfl
  generalize hn : nx.dropLast = n0 at e0 hdl
  have hc : closeR ⟨nx :: bl, t0 :: tr, many, may⟩ = some ⟨bl, n0 ++ [(t.1, docOf (t0 :: tr))], many, false⟩ := by
    unfold closeR
    simp only
    rw [if_neg (by simp), hlast, hn]
  subst e0
  have hat := hR.at_
  rw [List.reverse_cons, List.map_append] at hat
  refine ⟨_, rfl, p, CR, dx, _, _, rfl, hp, T.cl, T.n0, frd0, ?_⟩
  refine ⟨.inl ⟨rfl, _, SqL.of hat⟩, R, _, .ref T0, rfl, rfl, hat, by simp, ?_⟩
  rw [show (Lb.reverse.map V.ref ++ [T0].map V.ref).dropLast = Lb.reverse.map V.ref from List.dropLast_concat]
  obtain ⟨h1, ⟨ys, hT1, hd1⟩⟩ := hR.poprow
  have nRp : R ≠ p := fun z => by rw [z, hp] at hat; cases hat
  have hp1 : (upd H R (.lst (Lb.reverse.map V.ref))) p = some (.ins CR dx (fsRd R many may)) := by rw [upd_ne (Ne.symm nRp)]; exact hp
  generalize (upd H R (.lst (Lb.reverse.map V.ref))) = H1 at h1 hT1 hd1 hp1 ⊢
  clear hR hT0 hd0 hat hp gA no qn
  refine ⟨T0, ys, rfl, .inl ⟨SqL.of hT1, fun l nl => ?_⟩⟩
  have g2 : Gr [] H1 (upd H1 l (.tup ys)) := Gr.new nl
  have hkx : Dp K (upd H1 l (.tup ys)) (.ref l) (.tuple ((t0 :: tr).map trD)) := .tup (SqT.of upd_same) (hd1.gr g2)
  generalize hkv : V.ref l = kx at hkx ⊢
  clear hkv
  generalize (upd H1 l (.tup ys)) = H2 at g2 hkx ⊢
  have h2 := h1.more g2
  have hp2 := g2.keep _ _ (by simp) hp1 (fun _ z => by cases z)
  clear h1 hT1 hd1 hp1 g2
  dsimp only [gName]
  refine st_normS (t := tSeq _ _) (σ' := [some (.ref p), some kx, none, none]) rfl ?_
  obtain ⟨L1, Lc, rfl⟩ := h2.cons
  obtain ⟨xs1, x1, hL1, h3, hx1⟩ := h2.poptree
  refine ⟨_, rfl, p, CR, dx, _, _, rfl, hp2, T.cl, T.n0, frd0, ?_⟩
  refine ⟨1, rfl, R, _, _, .ref L1, rfl, rfl, SqL.of h2.at_, h2.last, ?_⟩
  refine ⟨.inl ⟨rfl, _, SqL.of hL1⟩, L1, _, x1, rfl, rfl, hL1, by simp, ?_⟩
  rw [List.dropLast_concat]
  have nLp : L1 ≠ p := fun z => by rw [z, hp2] at hL1; cases hL1
  have hp3 : (upd H2 L1 (.lst xs1)) p = some (.ins CR dx (fsRd R many may)) := by rw [upd_ne (Ne.symm nLp)]; exact hp2
  have hkx3 : Dp K (upd H2 L1 (.lst xs1)) kx (.tuple ((t0 :: tr).map trD)) := dp_grm (gr1 hL1) (wl1 hL1) _ _ (by rw [← docOf_data]; exact doc_pure1 _) hkx
  generalize (upd H2 L1 (.lst xs1)) = H3 at h3 hx1 hp3 hkx3 ⊢
  clear h2 hL1 hp2 hkx
  obtain ⟨tp, v1, v2, rfl, htp, d1, d2⟩ := dp_two hx1
  have := d1.intI; subst this
  refine ⟨tp, _, rfl, htp, rfl, .int t.1, [v2], rfl, v2, [], rfl, rfl, ?_⟩
  dsimp only [gName]
  refine st_normS (t := tSeq _ _) (σ' := [some (.ref p), some kx, some (.int t.1), some v2]) rfl ?_
  obtain ⟨xs3, hL3, hd3, lx3⟩ := h3.topAt
  refine ⟨_, rfl, p, CR, dx, _, _, rfl, hp3, T.cl, T.n0, frd0, ?_⟩
  refine ⟨1, rfl, R, _, _, .ref L1, rfl, rfl, SqL.of h3.at_, h3.last, ?_⟩
  refine ⟨.inl ⟨rfl, _, SqL.of hL3⟩, _, rfl, _, rfl, len2, fun np2 nnp => ?_⟩
  have gt : Gr [] H3 (upd H3 np2 (.tup [.int t.1, kx])) := Gr.new nnp
  have ht4 : Dp K (upd H3 np2 (.tup [.int t.1, kx])) (.ref np2) (trD (t.1, docOf (t0 :: tr))) := mk2 (.int t.1) (by rw [docOf_data]; exact hkx3) nnp
  have h4 := h3.more gt
  have hL4 := gt.lst (by simp) hL3
  have hp4 := gt.keep _ _ (by simp) hp3 (fun _ z => by cases z)
  generalize (upd H3 np2 (.tup [.int t.1, kx])) = H4 at h4 hL4 hp4 ht4 ⊢
  simp only [List.length_append, List.length_singleton] at hnx
  refine ⟨L1, _, _, rfl, rfl, hL4, small1000 (by omega), ?_⟩
  have h5 := h4.app hL4 ht4
  have hp5 : (upd H4 L1 (.lst (xs3 ++ [.ref np2]))) p = some (.ins CR dx (fsRd R many may)) := by rw [upd_ne (Ne.symm nLp)]; exact hp4
  generalize (upd H4 L1 (.lst (xs3 ++ [.ref np2]))) = H5 at h5 hp5 ⊢
  refine ⟨_, rfl, p, CR, dx, _, rfl, hp5, T.cl, T.n2, (by show (3 : Nat) < 1000; decide), ?_⟩
  obtain ⟨w6, b6, hp6⟩ := fld_putM (C := CR) (dx := dx) "may_open" (V.bl false) hp5
  exact qy _ _ hc ⟨np, dx, R, _, hp6, h5.gra w6 b6 (h5.gr.put0 np)⟩
end
end LW
set_option maxHeartbeats 4000000
namespace LW
open PySem PySem.Spec PyProof.Rows L2
section
variable {P : Program} {w : World} {K : PySem.W.Frag} {mg : Str → Option Value} {base : Heap} {f : Addr} {fd : FuncData} {CR DT : Addr}
abbrev n_Reading_add_tree : List Str := ["self", "label"]
theorem sc_Reading_add_tree : FnScope n_Reading_add_tree ["self", "label"] (defScope s_Reading_add_tree) := ⟨rfl, rfl, rfl, by decide +kernel, rfl, by decide +kernel, by decide +kernel⟩
theorem ok_rdAdd {n : Nat} {t1 t2 : Tok} (T : RdTxt K mg CR) (F : Fun K "add_tree" "Reading.add_tree" s_Reading_add_tree f fd) (B : XC K mg "BadText" DT) (m_len : mg "len" = none) (i_T : mg "MOST_TREES" = some (.int 300 t1)) (i_N : mg "MOST_NESTED" = some (.int 30 t2)) : FnOk P w K mg base (XA.CXA P w) (n + 1) f fd ["self", "label"] (spRdAdd K CR DT) := by
  refine F.okA sc_Reading_add_tree (fun vs H Q E h => ?_) (fun cdv A0 outer s0 H vs Q E hr tk h => ?_)
  · obtain ⟨_, _, _, _, rfl, _⟩ := h; rfl
  obtain ⟨p, s, H0, a, rfl, hA, ok, qy, qn⟩ := h
  have nd := sc_Reading_add_tree.nd
  refine ⟨_, pss_cons (ps_fldaug (pv 0) pe_int in_add)
    (pss_cons (ps_if (PW.pt (pw_or (pt_cmpR op_gt (pe_fld (pv 0) rfl) (pe_gint i_T rfl) (nomark _)) (pw_or1 (pt_cmpR op_gt (pe_callB call_len_seq (by rfl) m_len PySem.boot_len (pa_cons (pe_fld (pv 0) rfl) pa_nil)) (pe_gint i_N rfl) (nomark _)))))
      (pss_one (ps_raiseC B rfl tk rfl))
      pss_nil)
    (pss_cons (ps_expr (pe_bm PySem.F.plainAttrs_list PySem.F.slot_list_append PySem.F.type_list_append mt_append (pe_ix ix_list (pe_fld (pv 0) rfl) (pe_un un_neg pe_int) (fun _ _ => rfl)) (pa_cons (pe_tup (pa_cons (pv 1) (pa_cons (pe_tup pa_nil) pa_nil))) pa_nil)))
    (pss_one (ps_fld (pv 0) pe_bl rfl)))), ?_⟩
  obtain ⟨np, dx, R, Ls, hp, hR⟩ := hA
  refine ⟨_, rfl, p, CR, dx, _, _, rfl, hp, T.cl, T.n1, frd1, ?_⟩
  refine ⟨_, _, rfl, rfl, dx, _, hp, (by show (3 : Nat) < 1000; decide), ?_⟩
  obtain ⟨w1, b1, hp1⟩ := fld_putM (C := CR) (dx := dx) "many" (V.int ((s.many : Int) + 1)) hp
  have e1 : putF "many" (V.int ((s.many : Int) + 1)) (fsRd R s.many s.may) = fsRd R (s.many + 1) s.may := rfl
  rw [e1] at w1 hp1
  have h1 := hR.gra w1 b1 (hR.gr.put0 np)
  show tSeq _ _ _ _ (upd H p (.ins CR dx (putF "many" (V.int ((s.many : Int) + 1)) (fsRd R s.many s.may))))
  rw [e1]
  generalize (upd H p (.ins CR dx (fsRd R (s.many + 1) s.may))) = H1 at w1 hp1 h1 ⊢
  have gA := h1.gr
  refine ⟨_, rfl, p, CR, dx, _, _, rfl, hp1, T.cl, T.n1, frd1, ?_⟩
  have hl := h1.length
  have hb := ok.below_len
  have ht := ok.top_len
  have no : 300 < s.many + 1 ∨ 30 < s.below.length + 1 → XE0 E DT H1 := fun c => (qn (by unfold addR; rw [if_pos c])).gr gA
  refine ⟨_, _, rfl, rfl, ?_⟩
  by_cases c1 : 300 < s.many + 1
  · exact ⟨_, rfl, iteTd (decide_eq_true (by omega)) (iteT (no (.inl c1)).now)⟩
  refine ⟨_, rfl, iteFd (decide_eq_false (by omega)) ?_⟩
  refine ⟨_, rfl, p, CR, dx, _, _, rfl, hp1, T.cl, T.n0, frd0, ?_⟩
  refine ⟨_, _, rfl, .inl (SqL.of h1.at_), ?_⟩
  rw [List.length_map, List.length_reverse, hl, List.length_cons]
  refine ⟨_, _, rfl, rfl, _, rfl, ?_⟩
  by_cases c2 : 30 < s.below.length + 1
  · exact iteTd (decide_eq_true (by omega)) (no (.inr c2)).now
  refine iteFd (decide_eq_false (by omega)) ?_
  obtain ⟨T0, Lb, rfl⟩ := h1.cons
  refine ⟨_, rfl, p, CR, dx, _, _, rfl, hp1, T.cl, T.n0, frd0, ?_⟩
  refine ⟨1, rfl, R, _, _, .ref T0, rfl, rfl, SqL.of h1.at_, h1.last, ?_⟩
  obtain ⟨xs, hT0, hd0, lx⟩ := h1.topAt
  refine ⟨.inl ⟨rfl, _, SqL.of hT0⟩, _, rfl, (by decide : (0 : Nat) ≤ sizeLine), fun e0 ne0 => ⟨len2, fun tp ntp => ?_⟩⟩
  have ge : Gr [] H1 (upd H1 e0 (.tup [])) := Gr.new ne0
  have he0 : Dp K (upd H1 e0 (.tup [])) (.ref e0) (.tuple []) := .tup (SqT.of upd_same) .nil
  generalize (upd H1 e0 (.tup [])) = H2 at ntp ge he0 ⊢
  have gt : Gr [] H2 (upd H2 tp (.tup [.int a, .ref e0])) := Gr.new ntp
  have ht2 : Dp K (upd H2 tp (.tup [.int a, .ref e0])) (.ref tp) (trD (a, .nil)) := mk2 (.int a) he0 ntp
  generalize (upd H2 tp (.tup [.int a, .ref e0])) = H3 at gt ht2 ⊢
  have g13 := ge.trans gt
  have h3 := h1.more g13
  have hT3 := g13.lst (by simp) hT0
  have hp3 := g13.keep _ _ (by simp) hp1 (fun _ z => by cases z)
  refine ⟨T0, _, _, rfl, rfl, hT3, small1000 (by omega), ?_⟩
  have h4 := h3.app hT3 ht2
  have nT0 : T0 ≠ p := fun z => by rw [z, hp3] at hT3; cases hT3
  have hp4 : (upd H3 T0 (.lst (xs ++ [.ref tp]))) p = some (.ins CR dx (fsRd R (s.many + 1) s.may)) := by rw [upd_ne (Ne.symm nT0)]; exact hp3
  generalize (upd H3 T0 (.lst (xs ++ [.ref tp]))) = H4 at h4 hp4 ⊢
  refine ⟨_, rfl, p, CR, dx, _, rfl, hp4, T.cl, T.n2, (by show (3 : Nat) < 1000; decide), ?_⟩
  obtain ⟨w5, b5, hp5⟩ := fld_putM (C := CR) (dx := dx) "may_open" (V.bl true) hp4
  exact qy ⟨s.below, s.top ++ [(a, .nil)], s.many + 1, true⟩ _ (by unfold addR; rw [if_neg (by omega)]) ⟨np, dx, R, _, hp5, h4.gra w5 b5 (h4.gr.put0 np)⟩
end
end LW
set_option maxHeartbeats 4000000
namespace LW
open PySem PySem.Spec PyProof.Rows L2
section
variable {P : Program} {w : World} {K : PySem.W.Frag} {mg : Str → Option Value} {base : Heap} {f : Addr} {fd : FuncData} {CR DT : Addr}
abbrev n_Reading_document : List Str := ["self"]
theorem sc_Reading_document : FnScope n_Reading_document ["self"] (defScope s_Reading_document) := ⟨rfl, rfl, rfl, by decide +kernel, rfl, by decide +kernel, by decide +kernel⟩
theorem ok_rdDoc {n : Nat} (T : RdTxt K mg CR) (F : Fun K "document" "Reading.document" s_Reading_document f fd) (B : XC K mg "BadText" DT) (m_len : mg "len" = none) (m_tuple : mg "tuple" = none) : FnOk P w K mg base (XA.CXA P w) (n + 1) f fd ["self"] (spRdDoc K CR DT) := by
  refine F.okA sc_Reading_document (fun vs H Q E h => ?_) (fun cdv A0 outer s0 H vs Q E hr tk h => ?_)
  · obtain ⟨_, _, _, rfl, _⟩ := h; rfl
  obtain ⟨p, s, H0, rfl, hA, ok, qy, qn⟩ := h
  have nd := sc_Reading_document.nd
  refine ⟨_, pss_cons (ps_if (pt_cmpR op_gt (pe_callB call_len_seq (by rfl) m_len PySem.boot_len (pa_cons (pe_fld (pv 0) rfl) pa_nil)) pe_int (nomark _))
      (pss_one (ps_raiseC B rfl tk rfl))
      pss_nil)
    (pss_one (ps_ret (pe_callTy call_tuple_of (by rfl) m_tuple b_tuple (pa_cons (pe_ix ix_list (pe_fld (pv 0) rfl) pe_int (fun _ _ => rfl)) pa_nil)))), ?_⟩
  have gA := hA.gr
  obtain ⟨np, dx, R, Ls, hp, hR⟩ := hA
  have hl := hR.length
  have hb := ok.below_len
  have ht := ok.top_len
  obtain ⟨below, top, many, may⟩ := s
  simp only at hp hR hl hb ht
  refine ⟨_, rfl, p, CR, dx, _, _, rfl, hp, T.cl, T.n0, frd0, ?_⟩
  refine ⟨_, _, rfl, .inl (SqL.of hR.at_), ?_⟩
  rw [List.length_map, List.length_reverse, hl, List.length_cons]
  refine ⟨_, _, rfl, rfl, _, rfl, ?_⟩
  cases below with
  | cons nx bl => exact iteTd (decide_eq_true (by simp only [List.length_cons]; omega)) ((qn rfl).gr gA).now
  | nil =>
  refine iteFd (by decide) ?_
  obtain ⟨T0, Lb, rfl⟩ := hR.cons
  obtain rfl : Lb = [] := List.eq_nil_of_length_eq_zero (by simpa using hl)
  obtain ⟨xs, hT0, hd0, lx⟩ := hR.topAt
  refine ⟨_, rfl, p, CR, dx, _, _, rfl, hp, T.cl, T.n0, frd0, ?_⟩
  refine ⟨R, _, 0, .ref T0, rfl, rfl, SqL.of hR.at_, rfl, ?_⟩
  refine tupD hT0 hd0 fun H' x g hx => qy (docOf top) x H' rfl (gA.trans g) ?_
  rw [docOf_data]; exact hx
end
end LW
set_option maxHeartbeats 4000000
namespace LW
open PySem PySem.Spec PyProof.Rows L2
section
variable {P : Program} {w : World} {K : PySem.W.Frag} {mg : Str → Option Value} {base : Heap} {f : Addr} {fd : FuncData} {CR DT : Addr}
abbrev n_Reading_take : List Str := ["self", "sign"]
theorem sc_Reading_take : FnScope n_Reading_take ["self", "sign"] (defScope s_Reading_take) := ⟨rfl, rfl, rfl, by decide +kernel, rfl, by decide +kernel, by decide +kernel⟩
theorem dig_in (c : Nat) : (!(Builtin.Str.occurrences ("01234" : Str) ⟨#[c]⟩ 0 ("01234" : Str).length 1).isEmpty) = digR c := by
  rw [PySem.StrLaws.found_one]
  have : ("01234" : Str).cps.toList = [48, 49, 50, 51, 52] := by decide
  rw [this, Bool.eq_iff_iff]
  unfold digR
  simp only [List.mem_cons, List.not_mem_nil, or_false, decide_eq_true_eq, Bool.and_eq_true]
  omega
theorem dig_int {c : Nat} (h : digR c = true) : PySem.intText? ⟨#[c]⟩ = some ((c - 48 : Nat) : Int) := by
  unfold digR at h
  simp only [Bool.and_eq_true, decide_eq_true_eq] at h
  have : c = 48 ∨ c = 49 ∨ c = 50 ∨ c = 51 ∨ c = 52 := by omega
  rcases this with rfl | rfl | rfl | rfl | rfl <;> decide +kernel
theorem ok_rdTake {n : Nat} {tD : Tok} (T : RdTxt K mg CR) (F : Fun K "take" "Reading.take" s_Reading_take f fd) (B : XC K mg "BadText" DT)
    (f_open : Mt P w K mg base (XA.CXA P w) n CR "open_row" ["self"] (spRdOp K CR DT openR)) (f_close : Mt P w K mg base (XA.CXA P w) n CR "close_row" ["self"] (spRdOp K CR DT closeR)) (f_add : Mt P w K mg base (XA.CXA P w) n CR "add_tree" ["self", "label"] (spRdAdd K CR DT))
    (i_D : mg "DIGITS" = some (.str "01234" tD)) (m_int : mg "int" = none) : FnOk P w K mg base (XA.CXA P w) (n + 1) f fd ["self", "sign"] (spRdTake K CR DT) := by
  refine F.okA sc_Reading_take (fun vs H Q E h => ?_) (fun cdv A0 outer s0 H vs Q E hr tk h => ?_)
  · obtain ⟨_, _, _, _, rfl, _⟩ := h; rfl
  obtain ⟨p, s, H0, c, rfl, hA, ok, qy, qn⟩ := h
  have nd := sc_Reading_take.nd
  refine ⟨_, pss_one (ps_if (pt_cmpR op_eq (pv 1) pe_str (nomark _))
      (pss_one (ps_expr (pe_mt0 (pv 0) T.cl f_open hr (XA.pass_in tk fun _ _ _ _ h => h))))
      (pss_one (ps_if (pt_cmpR op_eq (pv 1) pe_str (nomark _))
        (pss_one (ps_expr (pe_mt0 (pv 0) T.cl f_close hr (XA.pass_in tk fun _ _ _ _ h => h))))
        (pss_one (ps_if (pt_cmpR op_in_str (pv 1) (pe_glob (v := .str "01234") rfl i_D ⟨_, rfl⟩) rfl)
          (pss_one (ps_expr (pe_mt (pv 0) T.cl f_add hr (XA.pass_in tk fun _ _ _ _ h => h) (pa_cons (pe_callTy call_int_str (by rfl) m_int b_int (pa_cons (pv 1) pa_nil)) pa_nil))))
          (pss_one (ps_raiseC B rfl tk rfl))))))), ?_⟩
  have gA := hA.gr
  obtain ⟨dx, R, Ls, hp, hR⟩ := hA.ex
  have e0 : ∀ d : Nat, decide (V.str ⟨#[c]⟩ = V.str ⟨#[d]⟩) = decide (c = d) := fun d => by
    rw [Bool.eq_iff_iff]; simp
  refine ⟨_, rfl, rfl, _, rfl, ?_⟩
  rw [show (Str.ofString "(") = ⟨#[40]⟩ from by decide, e0]
  by_cases c1 : c = 40
  · refine iteTd (decide_eq_true c1) ?_
    have es : stepR s c = openR s := by unfold stepR; rw [if_pos c1]
    rw [es] at qy qn
    exact ⟨_, rfl, p, dx, _, rfl, hp, frdM _ (by decide +kernel), p, s, H0, rfl, hA, ok, qy, qn⟩
  refine iteFd (decide_eq_false c1) ?_
  refine ⟨_, rfl, rfl, _, rfl, ?_⟩
  rw [show (Str.ofString ")") = ⟨#[41]⟩ from by decide, e0]
  by_cases c2 : c = 41
  · refine iteTd (decide_eq_true c2) ?_
    have es : stepR s c = closeR s := by unfold stepR; rw [if_neg c1, if_pos c2]
    rw [es] at qy qn
    exact ⟨_, rfl, p, dx, _, rfl, hp, frdM _ (by decide +kernel), p, s, H0, rfl, hA, ok, qy, qn⟩
  refine iteFd (decide_eq_false c2) ?_
  refine ⟨_, rfl, _, _, rfl, rfl, _, rfl, ?_⟩
  rw [dig_in]
  cases c3 : digR c with
  | false =>
    have es : stepR s c = none := by unfold stepR; rw [if_neg c1, if_neg c2, c3]; rfl
    exact iteF ((qn es).gr gA).now
  | true =>
    refine iteT ?_
    have es : stepR s c = addR s ((c - 48 : Nat) : Int) := by unfold stepR; rw [if_neg c1, if_neg c2, c3]; rfl
    rw [es] at qy qn
    refine ⟨_, rfl, p, dx, _, rfl, hp, frdM _ (by decide +kernel), _, rfl, _, _, rfl, dig_int c3, (by decide : (1 : Nat) ≤ 640), ?_⟩
    exact ⟨p, s, H0, _, rfl, hA, ok, qy, qn⟩
end
end LW
set_option maxHeartbeats 4000000
namespace LW
open PySem PySem.Spec PyProof.Rows L2
section
variable {P : Program} {w : World} {K : PySem.W.Frag} {mg : Str → Option Value} {base : Heap} {f : Addr} {fd : FuncData} {CR DT : Addr}
abbrev n_Reading___init__ : List Str := ["self"]
theorem sc_Reading___init__ : FnScope n_Reading___init__ ["self"] (defScope s_Reading___init__) := ⟨rfl, rfl, rfl, by decide +kernel, rfl, by decide +kernel, by decide +kernel⟩
theorem ok_rdInit {n : Nat} (T : RdTxt K mg CR) (F : Fun K "__init__" "Reading.__init__" s_Reading___init__ f fd) : FnOk P w K mg base CX0 (n + 1) f fd ["self"] (spRdInit K CR) := by
  refine F.ok sc_Reading___init__ (fun vs H Q E h => ?_) (fun cdv A0 outer s0 H vs Q E hr h => ?_)
  · obtain ⟨_, _, _, rfl, _⟩ := h; rfl
  obtain ⟨p, dx, H0, rfl, g0, np, hp, q⟩ := h
  have nd := sc_Reading___init__.nd
  refine ⟨_, pss_cons (ps_fld (pv 0) (pe_lst (pa_cons (pe_lst pa_nil) pa_nil)) rfl)
    (pss_cons (ps_fld (pv 0) pe_int rfl)
    (pss_one (ps_fld (pv 0) pe_bl rfl))), ?_⟩
  refine ⟨(by decide : (0 : Nat) ≤ sizeLine), fun T0 nT => ⟨(by decide : (1 : Nat) ≤ sizeLine), fun R nR => ?_⟩⟩
  have hT1 : (upd H T0 (.lst [])) T0 = some (.lst []) := upd_same
  have g1 : Gr [] H (upd H T0 (.lst [])) := Gr.new nT
  generalize (upd H T0 (.lst [])) = H1 at nR hT1 g1 ⊢
  have hT2 : (upd H1 R (.lst [V.ref T0])) T0 = some (.lst []) := (Gr.new (m := []) nR).lst (by simp) hT1
  have hR2 : (upd H1 R (.lst [V.ref T0])) R = some (.lst [V.ref T0]) := upd_same
  have g2 : Gr [] H (upd H1 R (.lst [V.ref T0])) := g1.trans (Gr.new nR)
  have ne : R ≠ T0 := fun z => by rw [z, hT1] at nR; cases nR
  have nR0 : H0 R = none := g0.free _ (g1.free _ nR)
  have nT0 : H0 T0 = none := g0.free _ nT
  generalize (upd H1 R (.lst [V.ref T0])) = H2 at hT2 hR2 g2 ⊢
  clear hT1 g1 nR
  have hp2 := g2.keep _ _ (by simp) hp (fun _ z => by cases z)
  refine ⟨_, rfl, p, CR, dx, [], rfl, hp2, T.cl, T.n0, (by decide : (0 : Nat) < 1000), ?_⟩
  obtain ⟨w3, b3, hp3⟩ := fld_putM (C := CR) (dx := dx) "rows" (V.ref R) hp2
  have h3 : RdRows K H0 H2 R [T0] [[]] := ⟨g0.trans g2, nR0, hR2, ⟨nT0, ⟨[], hT2, .nil⟩, trivial⟩, by simp [ne]⟩
  have h4 := h3.gra w3 b3 ((g0.trans g2).put0 np)
  generalize (upd H2 p (.ins CR dx (putF "rows" (V.ref R) []))) = H3 at w3 hp3 h4 ⊢
  refine ⟨_, rfl, p, CR, dx, _, rfl, hp3, T.cl, T.n1, (by show (1 : Nat) < 1000; decide), ?_⟩
  obtain ⟨w5, b5, hp5⟩ := fld_putM (C := CR) (dx := dx) "many" (V.int 0) hp3
  have h5 := h4.gra w5 b5 (h4.gr.put0 np)
  generalize (upd H3 p (.ins CR dx (putF "many" (V.int 0) (putF "rows" (V.ref R) [])))) = H5 at w5 hp5 h5 ⊢
  refine ⟨_, rfl, p, CR, dx, _, rfl, hp5, T.cl, T.n2, (by show (2 : Nat) < 1000; decide), ?_⟩
  obtain ⟨w6, b6, hp6⟩ := fld_putM (C := CR) (dx := dx) "may_open" (V.bl false) hp5
  exact q _ ⟨np, dx, R, [T0], hp6, h5.gra w6 b6 (h5.gr.put0 np)⟩
end
end LW
set_option maxHeartbeats 2000000
namespace LW
open PySem PySem.Spec PyProof.Rows L2
abbrev NEnt := NestedKey × Addr × Value
def nD (P : Program) (w : World) (a : Addr) (xs : List NEnt) (ep : Nat) : Heap → Prop := fun h => ∃ o es, h.get? a = some o ∧ o.ExactDict ∧ o.data = Data.dict es ep ∧ es.toList = xs.map (entryOfKey (nestedKind P w)) ∧ (xs.map (·.1)).Nodup
def keyOkN (k : NestedKey) : Prop := k.depth ≤ 8 ∧ ∃ ks, k = .tup ks
def NDict (P : Program) (w : World) (K : PySem.W.Frag) (H : Hp) (d : Addr) (kvs : List (NestedKey × V)) : Prop := ∃ (xs : List NEnt) (ep : Nat), H d = some (.ext (nD P w d xs ep)) ∧ (d == sysModules) = false ∧ Paired (fun p q => p.1 = q.1 ∧ (Dp K H (.ref q.2.1) p.1.data ∧ keyOkN p.1) ∧ L2.RelV p.2 q.2.2) kvs xs ∧ kvs.length ≤ sizeLine
def valN (kvs : List (NestedKey × V)) (k : NestedKey) : Option V := (kvs.find? fun p => decide (p.1 = k)).map (·.2)
def putN (kvs : List (NestedKey × V)) (k : NestedKey) (v : V) : List (NestedKey × V) := if (valN kvs k).isSome then kvs.map fun p => if p.1 = k then (p.1, v) else p else kvs ++ [(k, v)]
theorem NDict.gr {P : Program} {w : World} {K : PySem.W.Frag} {H H' : Hp} {d : Addr} {kvs : List (NestedKey × V)} (h : NDict P w K H d kvs) (g : Gr [] H H') : NDict P w K H' d kvs := by
  obtain ⟨xs, ep, h1, h2, h3, h4⟩ := h
  refine ⟨xs, ep, g.keep _ _ (by simp) h1 (fun _ z => by cases z), h2, ?_, h4⟩
  clear h1 h2 h4
  induction h3 with
  | nil => exact .nil
  | cons a b ih => exact .cons ⟨a.1, ⟨a.2.1.1.gr g, a.2.1.2⟩, a.2.2⟩ ih
section
variable {X : Cx}
mutual
theorem nested_of {pins : List (Addr × Obj)} {σ : L2.St} {H : Hp} {s : Shared} (I : Inv X pins σ H s) : ∀ (k : NestedKey) (v : V) (u : Value), Dp X.K H v k.data → L2.RelV v u → NestedIs s.heap k u
  | .none, v, u, h, r => by
    rw [show NestedKey.none.data = PyData.none from by simp [NestedKey.data]] at h
    cases h
    obtain rfl : u = .none := r
    exact .none
  | .num i, v, u, h, r => by
    rw [show (NestedKey.num i).data = PyData.int i from by simp [NestedKey.data]] at h
    cases h
    obtain ⟨t, rfl⟩ := r
    exact .int i t
  | .text x, v, u, h, r => by
    rw [show (NestedKey.text x).data = PyData.str x from by simp [NestedKey.data]] at h
    cases h
    obtain ⟨t, rfl⟩ := r
    exact .text x t
  | .tup ks, v, u, h, r => by
    rw [show (NestedKey.tup ks).data = PyData.tuple (NestedKey.datas ks) from by simp [NestedKey.data]] at h
    cases h with
    | tup hs ha =>
      obtain ⟨its, rv, pt, _⟩ := I.tuple hs
      obtain ⟨o, ho, hc, n, hd⟩ := pt
      cases (show u = .ref _ from r)
      exact .tup ho hc hd (nested_all I ks _ _ ha (by simpa using rv))
theorem nested_all {pins : List (Addr × Obj)} {σ : L2.St} {H : Hp} {s : Shared} (I : Inv X pins σ H s) : ∀ (ks : List NestedKey) (vs : List V) (us : List Value), DpAll X.K H vs (NestedKey.datas ks) → Vals vs us → NestedAll s.heap ks us
  | [], vs, us, h, r => by
    rw [show NestedKey.datas [] = [] from by simp [NestedKey.datas]] at h
    cases h
    cases r
    exact .nil
  | k :: ks, vs, us, h, r => by
    rw [show NestedKey.datas (k :: ks) = k.data :: NestedKey.datas ks from by simp [NestedKey.datas]] at h
    cases h with
    | cons h1 h2 =>
      cases r with
      | cons r1 r2 => exact .cons (nested_of I k _ _ h1 r1) (nested_all I ks _ _ h2 r2)
end
def rNotInN (P : Program) (w : World) (K : PySem.W.Frag) : R2 := fun x y H Q => ∃ (a d : Addr) (k : NestedKey) (kvs : List (NestedKey × V)), x = .ref a ∧ y = .ref d ∧ Dp K H (.ref a) k.data ∧ keyOkN k ∧ NDict P w K H d kvs ∧ Q (.bl (valN kvs k).isNone) H
def rIxN (P : Program) (w : World) (K : PySem.W.Frag) : R2 := fun x y H Q => ∃ (d a : Addr) (k : NestedKey) (kvs : List (NestedKey × V)) (v : V), x = .ref d ∧ y = .ref a ∧ Dp K H (.ref a) k.data ∧ keyOkN k ∧ NDict P w K H d kvs ∧ valN kvs k = some v ∧ Q v H
def rSetN (P : Program) (w : World) (K : PySem.W.Frag) : V → V → V → Hp → (Hp → Prop) → Prop := fun o i v H Q => ∃ (d a : Addr) (k : NestedKey) (kvs : List (NestedKey × V)), o = .ref d ∧ i = .ref a ∧ Dp K H (.ref a) k.data ∧ keyOkN k ∧ NDict P w K H d kvs ∧ kvs.length < sizeLine ∧ ∀ o', Gr [d] H (upd H d o') → NDict P w K (upd H d o') d (putN kvs k v) → Q (upd H d o')
mutual
theorem key_pure : ∀ k : NestedKey, pure1 k.data = true
  | .none => by simp [NestedKey.data, pure1]
  | .num i => by simp [NestedKey.data, pure1]
  | .text x => by simp [NestedKey.data, pure1]
  | .tup ks => by
    rw [show (NestedKey.tup ks).data = PyData.tuple (NestedKey.datas ks) from by simp [NestedKey.data]]
    exact keys_pure ks
theorem keys_pure : ∀ ks : List NestedKey, pureAll (NestedKey.datas ks) = true
  | [] => by simp [NestedKey.datas, pureAll]
  | k :: ks => by
    rw [show NestedKey.datas (k :: ks) = k.data :: NestedKey.datas ks from by simp [NestedKey.datas], pureAll, key_pure k, keys_pure ks]; rfl
end
mutual
theorem dp_ext {K : PySem.W.Frag} {H : Hp} {d : Addr} {p : Heap → Prop} {o : HO} (e : H d = some (.ext p)) : ∀ (x : PyData) (v : V), Dp K H v x → Dp K (upd H d o) v x
  | .none, _, h => by cases h; exact .non
  | .bool b, _, h => by cases h; exact .bl b
  | .int i, _, h => by cases h; exact .int i
  | .str x, _, h => by cases h; exact .str x
  | .list ds, _, h => by
    cases h with
    | lst hs ha =>
      refine .lst ?_ (dpAll_ext e ds _ ha)
      rcases hs with (z | ⟨o', z⟩) | z
      · exact .inl (.inl (by rw [upd_ne (fun w => by rw [w, e] at z; cases z)]; exact z))
      · exact .inl (.inr ⟨o', by rw [upd_ne (fun w => by rw [w, e] at z; cases z)]; exact z⟩)
      · exact .inr z
  | .tuple ds, _, h => by
    cases h with
    | tup hs ha =>
      refine .tup ?_ (dpAll_ext e ds _ ha)
      rcases hs with (z | ⟨o', z⟩) | z
      · exact .inl (.inl (by rw [upd_ne (fun w => by rw [w, e] at z; cases z)]; exact z))
      · exact .inl (.inr ⟨o', by rw [upd_ne (fun w => by rw [w, e] at z; cases z)]; exact z⟩)
      · exact .inr z
  | .dict _, _, h => by cases h
theorem dpAll_ext {K : PySem.W.Frag} {H : Hp} {d : Addr} {p : Heap → Prop} {o : HO} (e : H d = some (.ext p)) : ∀ (xs : List PyData) (vs : List V), DpAll K H vs xs → DpAll K (upd H d o) vs xs
  | [], _, h => by cases h; exact .nil
  | x :: xs, _, h => by
    cases h with
    | cons h1 h2 => exact .cons (dp_ext e x _ h1) (dpAll_ext e xs _ h2)
end
def tDNewN (P : Program) (w : World) (K : PySem.W.Frag) : TE := fun σ H Q => ∀ (p : Addr) (o : HO), H p = none → NDict P w K (upd H p o) p [] → (∀ ps, o ≠ .tbl ps) → Q (.ref p) (upd H p o)
end
end LW
set_option maxHeartbeats 1000000
namespace LW
open PySem PySem.Spec PyProof.Rows L2
section
variable {X : Cx}
def rInN (P : Program) (w : World) (K : PySem.W.Frag) : R2 := fun x y H Q => ∃ (a d : Addr) (k : NestedKey) (kvs : List (NestedKey × V)), x = .ref a ∧ y = .ref d ∧ Dp K H (.ref a) k.data ∧ keyOkN k ∧ NDict P w K H d kvs ∧ Q (.bl (valN kvs k).isSome) H
def tDcN (P : Program) (w : World) (K : PySem.W.Frag) (wi : TI) (g : TG) (tt : TT) (tk tv : TE) (vs : List Nat) : TE := fun τ G Q => wi τ G fun J G1 => ∀ D o, G1 D = none → NDict P w K (upd G1 D o) D [] → (∀ ps, o ≠ .tbl ps) → ∃ W : Nat → Nat → Hp → Prop,
  (∃ m, W 0 m (upd G1 D o)) ∧ ∀ i m G', W i m G' → (J.stop i G' ∧ Q (.ref D) G') ∨
    (J.go i G' ∧ ∃ Nx : Hp → Prop, (∀ G2, Nx G2 → ∃ m', m' < m ∧ W (i + 1) m' G2) ∧ ∀ x G2, J.yld i G' x G2 → g x (wipe τ vs) G2 fun τ2 G3 => wipe τ2 vs = wipe τ vs ∧ tt τ2 G3 fun b G4 =>
      if b = true then tk τ2 G4 fun y G5 => tv τ2 G5 fun z G6 => ∃ kvs kk tp, y = .ref tp ∧ Dp K G6 (.ref tp) kk.data ∧ keyOkN kk ∧ NDict P w K G6 D kvs ∧ kvs.length < sizeLine ∧ ∀ o', Gr [D] G6 (upd G6 D o') → NDict P w K (upd G6 D o') D (putN kvs kk z) → Nx (upd G6 D o') else Nx G4)
end
def ItN (P : Program) (w : World) (d : Addr) (xs : List NEnt) (ep : Nat) : It :=
  ⟨fun i H => H d = some (.ext (nD P w d xs ep)) ∧ i < xs.length, fun i H x H' => H' = H ∧ ∃ y, xs[i]? = some y ∧ x = .ref y.2.1, fun i H => H d = some (.ext (nD P w d xs ep)) ∧ xs.length ≤ i⟩
def iKeysN (P : Program) (w : World) (td : TE) : TI := fun σ H R => td σ H fun x H1 => ∃ d xs ep, x = .ref d ∧ (d == sysModules) = false ∧ H1 d = some (.ext (nD P w d xs ep)) ∧ R (ItN P w d xs ep) H1
end LW
set_option maxHeartbeats 1000000
namespace LW
open PySem PySem.Spec PyProof.Rows L2
section
variable {X : Cx} {o e f : Expr} {td ty tx : TE} {apos cpos : Pos}
def tDGetN (P : Program) (w : World) (K : PySem.W.Frag) (td ty tx : TE) : TE := fun σ H Q => td σ H fun x H1 => ∃ d kv0, x = .ref d ∧ NDict P w K H1 d kv0 ∧ ty σ H1 fun y H2 => tx σ H2 fun z H3 => ∃ (a : Addr) (k : NestedKey) (kvs : List (NestedKey × V)), y = .ref a ∧ Dp K H3 (.ref a) k.data ∧ keyOkN k ∧ NDict P w K H3 d kvs ∧ Q ((valN kvs k).getD z) H3
end
def ItiN (P : Program) (w : World) (d : Addr) (xs : List NEnt) (ep : Nat) (vs : List V) : It :=
  ⟨fun i H => H d = some (.ext (nD P w d xs ep)) ∧ i < xs.length, fun i H x H' => ∃ (T : Addr) (y : NEnt) (v : V), xs[i]? = some y ∧ vs[i]? = some v ∧ x = .ref T ∧ H T = none ∧ H' = upd H T (.tup [.ref y.2.1, v]), fun i H => H d = some (.ext (nD P w d xs ep)) ∧ xs.length ≤ i⟩
def iItemsN (P : Program) (w : World) (K : PySem.W.Frag) (td : TE) : TI := fun σ H R => td σ H fun x H1 => ∃ d kvs, x = .ref d ∧ NDict P w K H1 d kvs ∧ ∀ xs ep, H1 d = some (.ext (nD P w d xs ep)) → xs.length = kvs.length → (∀ (i : Nat) (y : NEnt), xs[i]? = some y → ∃ p : NestedKey × V, kvs[i]? = some p ∧ Dp K H1 (.ref y.2.1) p.1.data ∧ keyOkN p.1) → R (ItiN P w d xs ep (kvs.map (·.2))) H1
end LW
set_option maxHeartbeats 1000000
namespace LW
open PySem PySem.Spec PyProof.Rows L2 GenW
abbrev gens3 (t0 i0 t1 i1 t2 i2 : Expr) : List Comprehension := [⟨t0, i0, [], 0⟩, ⟨t1, i1, [], 0⟩, ⟨t2, i2, [], 0⟩]
def midTurn (e tg iter iter' : Expr) (d : Nat) (it acc : Value) (env : Env) : Sem Fin := do
  standAt iter.pos
  match ← pyNext it with
  | none => pure (.done .next)
  | some v =>
    letOwnedTupleGo tg it v
    assign tg env v
    let mut ok := true
    for c in ([] : List Expr) do
      if ok then ok ← isTrue c env (eval c env)
    if ok then
      let x ← eval iter' env
      standAt iter'.pos
      let x ← foldedSetIterable iter' env x
      let _ ← runOwn (.compStart e (d + 1) (← holding [x] (pyIter x)) acc env) env
    again (.compLoop e d it acc env)
def lastTurn (e elt tg iter : Expr) (d : Nat) (it acc : Value) (env : Env) : Sem Fin := do
  standAt iter.pos
  match ← pyNext it with
  | none => pure (.done .next)
  | some v =>
    letOwnedTupleGo tg it v
    assign tg env v
    let mut ok := true
    for c in ([] : List Expr) do
      if ok then ok ← isTrue c env (eval c env)
    if ok then
      (do let v ← eval elt env; standAt elt.pos; let _ ← yieldOut env v)
    again (.compLoop e d it acc env)
section
variable {elt t0 i0 t1 i1 t2 i2 : Expr} {scope : Scope} {pos : Pos} {it acc : Value} {env : Env}
end
section
variable {X : Cx} {pins : List (Addr × Obj)} {σ : L2.St} {H : Hp} {s : Shared}
end
structure Wk (X : Cx) (pins : List (Addr × Obj)) (tg : Expr) (J : It) (fp : List Addr) (it : Addr) (tn : Nat → Heap → Prop) : Prop where
  T : Turn X.prog X.w X.K tg J fp it tn
  st : ∀ H : Hp, (∀ b ∈ fp, H b = none) → ∀ b ∈ fp, FpOk X pins H b
section
variable {X : Cx} {A : Around} {R : GenEnd} {Y : Protocol} {n : Nat} {s₀ : Shared} {fs : List Frame} {s : Shared} {e tg tg' iter iter' elt : Expr} {d : Nat} {it : Addr} {env : Env}
  {hh : Value → Sem Unit} {pins : List (Addr × Obj)} {σ : L2.St} {H : Hp} {J : It} {fp : List Addr} {tn : Nat → Heap → Prop} {i : Nat} {g : TG} {wi : TI}
structure Waits (c : Code) (f : Frame) : Prop where
  ex : ∃ k l p, f = .ret k none false l c p [] ∧ k (.ok .next) = .pure (.again c)
end
end LW
set_option maxHeartbeats 1000000
namespace LW
open PySem PySem.Spec PyProof.Rows L2 GenW
def GL2 (J : It) (g : TG) (te : TE) (c : Bool) (Q : VK) (E : Nat → L2.St → Hp → Prop) (W : Nat → Nat → L2.St → Hp → Prop) : Prop := ∀ i m σ H, W i m σ H →
  (J.stop i H ∧ ∃ m', m' < m ∧ E m' σ H) ∨ (J.go i H ∧ ∀ x H', J.yld i H x H' → g x σ H' fun σ2 H2 => te σ2 H2 fun y H3 => ∃ b, y = .bl b ∧ if b = c then ∃ m', m' < m ∧ W (i + 1) m' σ2 H3 else Q (.bl (!c)) H3)
def GL1 (J : It) (g : TG) (wi2 : TI) (g2 : TG) (te : TE) (c : Bool) (Q : VK) (E : Nat → L2.St → Hp → Prop) (W : Nat → Nat → L2.St → Hp → Prop) : Prop := ∀ i m σ H, W i m σ H →
  (J.stop i H ∧ ∃ m', m' < m ∧ E m' σ H) ∨ (J.go i H ∧ ∀ x H', J.yld i H x H' → g x σ H' fun σ2 H2 => wi2 σ2 H2 fun J2 H3 => ∃ W2 : Nat → Nat → L2.St → Hp → Prop, (∃ m', m' < m ∧ W2 0 m' σ2 H3) ∧ GL2 J2 g2 te c Q (W (i + 1)) W2)
def GL0 (J : It) (g0 : TG) (wi1 : TI) (g1 : TG) (wi2 : TI) (g2 : TG) (te : TE) (c : Bool) (vs : List Nat) (σ : L2.St) (Q : VK) (W : Nat → Nat → Hp → Prop) : Prop := ∀ i m H, W i m H →
  (J.stop i H ∧ Q (.bl c) H) ∨ (J.go i H ∧ ∀ x H', J.yld i H x H' → g0 x (wipe σ vs) H' fun σ2 H2 => wi1 σ2 H2 fun J1 H3 => ∃ W1 : Nat → Nat → L2.St → Hp → Prop, (∃ m', m' < m ∧ W1 0 m' σ2 H3) ∧ GL1 J1 g1 wi2 g2 te c Q (fun m' σ' H' => wipe σ' vs = wipe σ vs ∧ W (i + 1) m' H') W1)
section
variable {X : Cx} {pins : List (Addr × Obj)} {σ : L2.St} {H : Hp} {s : Shared}
abbrev gX (X : Cx) (A : Around) (s : Shared) (H : Hp) (scope : Scope) (env : Env) (fp : List Addr) (a : Addr) (go : Obj) : Cx := gblk X A s H scope env fp [(a, go)]
end
end LW
set_option maxHeartbeats 1000000
namespace LW
open PySem PySem.Spec PyProof.Rows L2 GenW
section
variable {M : Model} {A : Around} {E : Value → Shared → Prop} {s : Shared}
end
def tGen3 (P : Addr) (wi : TI) (g : TG) (wi1 : TI) (g1 : TG) (wi2 : TI) (g2 : TG) (te : TE) (c : Bool) (vs : List Nat) : TE := fun σ H Q => wi σ H fun J H1 => GxR.TabG H1 P ∧ ∀ H2, GxR.Tabbed P H1 H2 → ∃ W : Nat → Nat → Hp → Prop, (∃ m, W 0 m H2) ∧ GL0 J g wi1 g1 wi2 g2 te c vs σ Q W
section
variable {X : Cx} {pins : List (Addr × Obj)} {σ : L2.St} {H : Hp} {s : Shared}
end
end LW
set_option maxHeartbeats 2000000
namespace LW
open PySem PySem.Spec PyProof.Rows L2
def numsF : Nat → List NestedKey → List (NestedKey × V)
  | _, [] => []
  | o, k :: ks => (k, natV o) :: numsF (o + 1) ks
structure ClTxt (K : PySem.W.Frag) (mg : Str → Option Value) (C : Addr) : Prop where
  cl : Cls K C
  n0 : NoAttr K C "steps"
  n1 : NoAttr K C "most"
  n2 : NoAttr K C "kinds"
  n3 : NoAttr K C "numbers"
  n4 : NoAttr K C "rules"
  gC : mg "Closure" = some (.ref C)
def clMeths : List Str := ["number_of", "explore", "join_kinds", "least_document"]
def fsCl (sp : Addr) (most : Nat) (kl nd rl : Addr) : List (Str × V) := [("steps", .ref sp), ("most", natV most), ("kinds", .ref kl), ("numbers", .ref nd), ("rules", .ref rl)]
section
variable {sp kl nd rl : Addr} {most : Nat}
end
structure ClAt (P : Program) (w : World) (K : PySem.W.Frag) (C : Addr) (H : Hp) (p sp : Addr) (most : Nat) (kl nd rl : Addr) (kf : Doc → NestedKey) (reps : List Doc) (rules : List R4) : Prop where
  ins : ∃ dx, H p = some (.ins C dx (fsCl sp most kl nd rl))
  kinds : ∃ ks, H kl = some (.lst ks) ∧ DpAll K H ks (reps.map fun d => (kf d).data)
  nums : NDict P w K H nd (numsF 0 (reps.map kf))
  rls : ∃ rs, H rl = some (.lst rs) ∧ DpAll K H rs (rules.map quadD)
  ne : [p, kl, nd, rl].Nodup
  nodup : (reps.map kf).Nodup
  few : reps.length ≤ most ∧ most ≤ 1000
  lab : ∀ d ∈ reps, d.lab = true
section
variable {P : Program} {w : World} {K : PySem.W.Frag} {C : Addr} {H H' : Hp} {p sp kl nd rl : Addr} {most : Nat} {kf : Doc → NestedKey} {reps : List Doc} {rules : List R4}
theorem NDict.gra {m : List Addr} {d : Addr} {kvs : List (NestedKey × V)} (h : NDict P w K H d kvs) (g : Gr m H H') (hd : d ∉ m) (hm : ∀ (x : PyData) (v : V), pure1 x = true → Dp K H v x → Dp K H' v x) : NDict P w K H' d kvs := by
  obtain ⟨xs, ep, h1, h2, h3, h4⟩ := h
  refine ⟨xs, ep, g.keep _ _ hd h1 (fun _ z => by cases z), h2, ?_, h4⟩
  clear h1 h2 h4
  induction h3 with
  | nil => exact .nil
  | cons a b ih => exact .cons ⟨a.1, ⟨hm _ _ (key_pure _) a.2.1.1, a.2.1.2⟩, a.2.2⟩ ih
theorem ClAt.gr (h : ClAt P w K C H p sp most kl nd rl kf reps rules) (g : Gr [] H H') : ClAt P w K C H' p sp most kl nd rl kf reps rules where
  ins := let ⟨dx, e⟩ := h.ins; ⟨dx, g.keep _ _ (by simp) e fun _ z => by cases z⟩
  kinds := let ⟨ks, e1, e2⟩ := h.kinds; ⟨ks, g.lst (by simp) e1, e2.gr g⟩
  nums := h.nums.gr g
  rls := let ⟨rs, e1, e2⟩ := h.rls; ⟨rs, g.lst (by simp) e1, e2.gr g⟩
  ne := h.ne
  nodup := h.nodup
  few := h.few
  lab := h.lab
theorem ClAt.gra {m : List Addr} (h : ClAt P w K C H p sp most kl nd rl kf reps rules) (g : Gr m H H') (hm : Apart m H) (np : p ∉ m) (nd' : nd ∉ m) : ClAt P w K C H' p sp most kl nd rl kf reps rules where
  ins := let ⟨dx, e⟩ := h.ins; ⟨dx, g.keep _ _ np e fun _ z => by cases z⟩
  kinds := let ⟨ks, e1, e2⟩ := h.kinds; ⟨ks, g.lstA hm e1, dpAll_gra g hm _ _ e2⟩
  nums := h.nums.gra g nd' fun x v _ hx => dp_gra g hm x v hx
  rls := let ⟨rs, e1, e2⟩ := h.rls; ⟨rs, g.lstA hm e1, dpAll_gra g hm _ _ e2⟩
  ne := h.ne
  nodup := h.nodup
  few := h.few
  lab := h.lab
end
def spClNum (P : Program) (w : World) (K : PySem.W.Frag) (C DT : Addr) : Sp := fun vs H Q E => ∃ (p sp : Addr) (most : Nat) (kl nd rl : Addr) (kf : Doc → NestedKey) (reps : List Doc) (rules : List R4) (kv : V) (d : Doc), vs = [.ref p, kv] ∧ ClAt P w K C H p sp most kl nd rl kf reps rules ∧ Dp K H kv (kf d).data ∧ keyOkN (kf d) ∧ d.lab = true ∧
  ((∃ i, (reps.map kf)[i]? = some (kf d) ∧ Q (natV i) H) ∨ (kf d ∉ reps.map kf ∧ ((reps.length = most ∧ XE0 E DT H) ∨ (reps.length < most ∧ ∀ H', Gr [kl, nd] H H' → ClAt P w K C H' p sp most kl nd rl kf (reps ++ [d]) rules → Q (natV reps.length) H'))))
end LW
set_option maxHeartbeats 2000000
namespace LW
open PySem PySem.Spec PyProof.Rows L2
def ownO : HO → Bool
  | .lst _ => true
  | .ext _ => true
  | .ins .. => true
  | _ => false
def Own (m : List Addr) (H : Hp) : Prop := ∀ b ∈ m, ∀ o, H b = some o → ownO o = true
def XEM (E : XK) (C : Addr) (m : List Addr) (H : Hp) : Prop := ∀ H' t, Gr m H H' → H' t = some (.tup []) → E (.ref C) (some t) H'
theorem XEM.step {E : XK} {C : Addr} {m : List Addr} {H H1 : Hp} (h : XEM E C m H) (g : Gr m H H1) : XEM E C m H1 := fun H' t g' e => h H' t (g.trans g') e
def spAftG (K : PySem.W.Frag) (sp : Addr) (sm : List Addr) (kf : Doc → NestedKey) (SI : List Addr → Nat → Hp → Prop) (lim : Nat) : Sp := fun vs H Q _ => ∃ (cm : List Addr) (n l : Nat) (va vb : V) (k r : Doc), vs = [.ref sp, natV l, va, vb] ∧ l < 5 ∧ SI cm n H ∧ n < lim ∧ (∀ b ∈ cm, H b ≠ none) ∧ Dp K H va (kf k).data ∧ Dp K H vb (kf r).data ∧
  ∀ H' x, Gr sm H H' → SI cm (n + 1) H' → Dp K H' x (kf (.cons (l : Int) k r)).data → Q x H'
structure StepI (P : Program) (w : World) (K : PySem.W.Frag) (mg : Str → Option Value) (base : Heap) (lev : Nat) (CB sp : Addr) (sm : List Addr) (kf : Doc → NestedKey) (SI : List Addr → Nat → Hp → Prop) (lim : Nat) : Prop where
  cl : Cls K CB
  nE : NoAttr K CB "empty"
  ins : ∀ {cm n H}, SI cm n H → ∃ dx fs ev, H sp = some (.ins CB dx fs) ∧ fs.lookup ("after" : Str) = none ∧ fs.lookup ("empty" : Str) = some ev ∧ Dp K H ev (kf .nil).data
  apart : ∀ {cm n H}, SI cm n H → Apart sm H ∧ (∀ b ∈ sm, H b ≠ none ∧ b ∉ cm)
  keep : ∀ {cm n H H'}, SI cm n H → Gr cm H H' → Own cm H → SI cm n H'
  grow : ∀ {cm n H b}, SI cm n H → H b = none → SI (b :: cm) n H
  cong : ∀ l k r k' r', kf k = kf k' → kf r = kf r' → kf (.cons l k r) = kf (.cons l k' r')
  ok : ∀ d, keyOkN (kf d)
  after : Mt P w K mg base CX0 lev CB "after" ["self", "label", "inside", "rest"] (spAftG K sp sm kf SI lim)
def RlOk (kf : Doc → NestedKey) (reps : List Doc) (u : R4) : Prop := u.2.1 < 5 ∧ ∃ dq dx dy, reps[u.1]? = some dq ∧ reps[u.2.2.1]? = some dx ∧ reps[u.2.2.2]? = some dy ∧ kf dq = kf (.cons (u.2.1 : Int) dx dy)
theorem RlOk.more {kf : Doc → NestedKey} {reps more : List Doc} {u : R4} (h : RlOk kf reps u) : RlOk kf (reps ++ more) u := by
  obtain ⟨h1, dq, dx, dy, e1, e2, e3, e4⟩ := h
  have ap : ∀ {i : Nat} {d : Doc}, reps[i]? = some d → (reps ++ more)[i]? = some d := fun {i d} e => by
    rw [List.getElem?_append_left (List.getElem?_eq_some_iff.mp e).1]; exact e
  exact ⟨h1, dq, dx, dy, ap e1, ap e2, ap e3, e4⟩
def tooMany (kf : Doc → NestedKey) (most : Nat) : Prop := ∃ ds : List Doc, ds.length = most + 1 ∧ (ds.map kf).Nodup ∧ ∀ d ∈ ds, d.lab = true
def clM (kl dl rl : Addr) (sm : List Addr) : List Addr := kl :: dl :: rl :: sm
def spClJoin (P : Program) (w : World) (K : PySem.W.Frag) (C DT sp : Addr) (sm : List Addr) (kf : Doc → NestedKey) (SI : List Addr → Nat → Hp → Prop) (lim : Nat) : Sp := fun vs H Q E => ∃ (p : Addr) (most : Nat) (kl dl rl : Addr) (reps : List Doc) (rules : List R4) (n x y : Nat), vs = [.ref p, natV x, natV y] ∧ ClAt P w K C H p sp most kl dl rl kf reps rules ∧ SI [rl, dl, kl, p] n H ∧ n + 5 ≤ lim ∧ x < reps.length ∧ y < reps.length ∧ rules.length + 5 ≤ 90000 ∧
  (tooMany kf most → XEM E DT (clM kl dl rl sm) H) ∧ ∀ H' more rls, Gr (clM kl dl rl sm) H H' → ClAt P w K C H' p sp most kl dl rl kf (reps ++ more) (rules ++ rls) → SI [rl, dl, kl, p] (n + 5) H' → rls.length = 5 → (∀ u ∈ rls, RlOk kf (reps ++ more) u) → (∀ l < 5, ∃ q, (q, l, x, y) ∈ rls) → Q .non H'
section
variable {P : Program} {w : World} {K : PySem.W.Frag} {C : Addr} {H H' : Hp} {p sp kl dl rl : Addr} {most : Nat} {kf : Doc → NestedKey} {reps : List Doc} {rules : List R4}
theorem ClAt.own (h : ClAt P w K C H p sp most kl dl rl kf reps rules) : Own [rl, dl, kl, p] H := fun b hb o e => by
  obtain ⟨dx, h1⟩ := h.ins
  obtain ⟨ks, h2, _⟩ := h.kinds
  obtain ⟨xs, ep0, h3, _⟩ := h.nums
  obtain ⟨rs, h4, _⟩ := h.rls
  simp only [List.mem_cons, List.not_mem_nil, or_false] at hb
  rcases hb with rfl | rfl | rfl | rfl
  · rw [h4] at e; cases e; rfl
  · rw [h3] at e; cases e; rfl
  · rw [h2] at e; cases e; rfl
  · rw [h1] at e; cases e; rfl
theorem ClAt.there (h : ClAt P w K C H p sp most kl dl rl kf reps rules) : ∀ b ∈ [rl, dl, kl, p], H b ≠ none := fun b hb z => by
  obtain ⟨dx, h1⟩ := h.ins
  obtain ⟨ks, h2, _⟩ := h.kinds
  obtain ⟨xs, ep0, h3, _⟩ := h.nums
  obtain ⟨rs, h4, _⟩ := h.rls
  simp only [List.mem_cons, List.not_mem_nil, or_false] at hb
  rcases hb with rfl | rfl | rfl | rfl
  · rw [h4] at z; cases z
  · rw [h3] at z; cases z
  · rw [h2] at z; cases z
  · rw [h1] at z; cases z
end
end LW
namespace LW
open PySem PySem.Spec PyProof.Rows L2
def Joined (rules : List R4) (x y : Nat) : Prop := ∀ l < 5, ∃ q, (q, l, x, y) ∈ rules
theorem Joined.app {rules more : List R4} {x y : Nat} (h : Joined rules x y) : Joined (rules ++ more) x y := fun l hl => let ⟨q, hq⟩ := h l hl; ⟨q, List.mem_append_left _ hq⟩
structure ClDone (kf : Doc → NestedKey) (reps : List Doc) (rules : List R4) : Prop where
  rl : ∀ u ∈ rules, RlOk kf reps u
  all : ∀ x y, x < reps.length → y < reps.length → Joined rules x y
def spClExpl (P : Program) (w : World) (K : PySem.W.Frag) (C DT sp : Addr) (sm : List Addr) (kf : Doc → NestedKey) (SI : List Addr → Nat → Hp → Prop) (lim : Nat) : Sp := fun vs H Q E => ∃ (p : Addr) (most : Nat) (kl dl rl : Addr) (reps : List Doc) (n : Nat), vs = [.ref p] ∧ ClAt P w K C H p sp most kl dl rl kf reps [] ∧ SI [rl, dl, kl, p] n H ∧ n + 5 * (most * most) ≤ lim ∧ 5 * (most * most) ≤ 90000 ∧
  (tooMany kf most → XEM E DT (clM kl dl rl sm) H) ∧ ∀ H' more rules n', Gr (clM kl dl rl sm) H H' → ClAt P w K C H' p sp most kl dl rl kf (reps ++ more) rules → SI [rl, dl, kl, p] n' H' → n' ≤ n + 5 * (most * most) → ClDone kf (reps ++ more) rules → rules.length ≤ 5 * (most * most) → Q .non H'
end LW
namespace LW
open PySem PySem.Spec PyProof.Rows L2
def gc1 (sp : Addr) : List (Str × V) := [("steps", .ref sp)]
def gc2 (sp : Addr) (most : Nat) : List (Str × V) := [("steps", .ref sp), ("most", natV most)]
def gc3 (sp : Addr) (most : Nat) (kl : Addr) : List (Str × V) := [("steps", .ref sp), ("most", natV most), ("kinds", .ref kl)]
def gc4 (sp : Addr) (most : Nat) (kl dl : Addr) : List (Str × V) := [("steps", .ref sp), ("most", natV most), ("kinds", .ref kl), ("numbers", .ref dl)]
def spClosure (P : Program) (w : World) (K : PySem.W.Frag) (C DT sp : Addr) (sm : List Addr) (kf : Doc → NestedKey) (SI : List Addr → Nat → Hp → Prop) (lim : Nat) : Sp := fun vs H Q E => ∃ (p dx : Addr) (most n : Nat), vs = [.ref p, .ref sp, natV most] ∧ H p = some (.ins C dx []) ∧ SI [p] n H ∧ 1 ≤ most ∧ most ≤ 1000 ∧ n + 5 * (most * most) ≤ lim ∧ 5 * (most * most) ≤ 90000 ∧
  (tooMany kf most → XEM E DT (p :: sm) H) ∧ ∀ H' kl dl rl more rules n', Gr (p :: sm) H H' → ClAt P w K C H' p sp most kl dl rl kf (.nil :: more) rules → SI [rl, dl, kl, p] n' H' → ClDone kf (.nil :: more) rules → rules.length ≤ 5 * (most * most) → Q .non H'
end LW
set_option maxHeartbeats 2000000
namespace LW
open PySem PySem.Spec PyProof.Rows L2
def setOfD (d : PyData) (n : Int) : Bool := match d with
  | .tuple ds => ds.all (belowD · n) && risL ds
  | _ => false
def spRisingN (K : PySem.W.Frag) (T : Addr) : Sp := fun vs H Q _ => ∃ (ns : List Int) (v : V), vs = [v] ∧ Dp K H v (.tuple (ns.map PyData.int)) ∧ GxR.TabG H T ∧ ns.length < 2 ^ 61 ∧ ∀ H', Gr [] H H' → Q (.bl (risL (ns.map PyData.int))) H'
def fewT (d : PyData) : Prop := ∀ ds, d = .tuple ds → ds.length < 2 ^ 61
def spIsSet (K : PySem.W.Frag) (T1 T2 : Addr) : Sp := fun vs H Q _ => ∃ (d : PyData) (n : Int) (v : V), vs = [v, .int n] ∧ Dp K H v d ∧ fewT d ∧ GxR.TabG H T1 ∧ GxR.TabG H T2 ∧ ∀ H', Gr [] H H' → Q (.bl (setOfD d n)) H'
end LW
namespace LW
open PySem PySem.Spec PyProof.Rows L2
def pairD (n m : Int) (d : PyData) : Bool := match d with
  | .tuple [x, y] => setOfD x n && setOfD y m
  | _ => false
def pairsD (n m : Int) (d : PyData) : Bool := match d with
  | .tuple ds => decide (ds.length ≤ 150) && ds.all (pairD n m)
  | _ => false
def fewP (d : PyData) : Prop := ∀ ds, d = .tuple ds → ds.length < 2 ^ 40 ∧ ∀ x y, PyData.tuple [x, y] ∈ ds → fewT x ∧ fewT y
def spArePairs (K : PySem.W.Frag) (T1 T2 T3 : Addr) : Sp := fun vs H Q _ => ∃ (v sv tv : V) (d : PyData) (s t : Sch), vs = [v, sv, tv] ∧ Dp K H v d ∧ Dp K H sv (schD s) ∧ Dp K H tv (schD t) ∧ fewP d ∧ GxR.TabG H T1 ∧ GxR.TabG H T2 ∧ GxR.TabG H T3 ∧ ∀ H', Gr [] H H' → Q (.bl (pairsD s.length t.length d)) H'
end LW
namespace LW
open PySem PySem.Spec PyProof.Rows L2
def spIsSetL (K : PySem.W.Frag) : Sp := fun vs H Q _ => ∃ (d : PyData) (n : Int) (v : V), vs = [v, .int n] ∧ Dp K H v d ∧ (∀ ds, d = .tuple ds → ds.length ≤ 1000000) ∧ Q (.bl (setOfD d n)) H
def setSoFar (ds : List PyData) (n : Int) (i : Nat) : Prop := (ds.take i).all (belowD · n) = true ∧ risL (ds.take i) = true
end LW
set_option maxHeartbeats 2000000
namespace LW
open PySem PySem.Spec PyProof.Rows L2
structure GoodT (m : Trn) : Prop where
  ok : TrnOk m
  sok : StsOk m.sts.length m.looks.length m.sts
  pre : TrPre m.data
def spDoubler (K : PySem.W.Frag) : Sp := fun vs H Q _ => ∃ (bx cl : Addr), vs = [.ref bx] ∧ BoxAt H bx cl ∧ ∀ (m : Trn) (v : V) H', GoodT m → Gr [bx] H H' → BoxAt H' bx cl → Dp K H' v m.data → Q v H'
def wrapT : Nat → Tm
  | 0 => .ref true 0 .nil
  | k + 1 => .node 0 (wrapT k) .nil
def nodesT (b : Int) : Nat → Tm → Tm
  | 0, e => e
  | k + 1, e => .node b .nil (nodesT b k e)
def doubM (e t : Tm) : Trn := ⟨[(true, [])], [plainS e t]⟩
end LW
namespace LW
open PySem PySem.Spec PyProof.Rows L2
def spGreat17 (K : PySem.W.Frag) : Sp := fun vs H Q _ => ∃ (bx cl : Addr), vs = [.ref bx] ∧ BoxAt H bx cl ∧ ∀ (d : Doc) (v : V) H', d.ok → Gr [bx] H H' → BoxAt H' bx cl → Dp K H' v d.data → Q v H'
def timesD (e : Doc) : Nat → Doc
  | 0 => .nil
  | k + 1 => e.app (timesD e k)
end LW
set_option maxHeartbeats 2000000
namespace XA
open PySem PySem.Spec PyProof.Rows L2
def wC0 (K : PySem.W.Frag) (c : Value) (ts : Addr → Value → Option Addr → TS) (D : Ends) : WX := fun cls d τ J => PySem.W.exmOne K cls c = some true ∧
  ∀ a, J a = none → ts a cls d D τ J
section
variable {X : Cx} {x : Str} {c : Value} {body suite : List Stmt} {b₀ : Stmt} {np pos pos' : Pos} {tb : WX → TS} {ts : Addr → Value → Option Addr → TS}
end
end XA
set_option maxHeartbeats 2000000
namespace LW
open PySem PySem.Spec PyProof.Rows L2
section
variable {X : Cx}
def rEqM (K : PySem.W.Frag) : R2 := fun x y H Q => ∃ d e, Dp K H x d ∧ Dp K H y e ∧ d.canLay0 = true ∧ e.canLay0 = true ∧ min d.depth e.depth ≤ 64 ∧ Q (.bl (PyData.eqv d e)) H
def rNeM (K : PySem.W.Frag) : R2 := fun x y H Q => ∃ d e, Dp K H x d ∧ Dp K H y e ∧ d.canLay0 = true ∧ e.canLay0 = true ∧ min d.depth e.depth ≤ 64 ∧ Q (.bl (!PyData.eqv d e)) H
end
def Doc.kds : Doc → List Doc
  | .nil => []
  | .cons _ .nil r => r.kds
  | .cons _ (.cons b l s) r => .cons b l s :: r.kds
def layer : List Doc → List Doc := List.flatMap Doc.kds
def sizeL (l : List Doc) : Nat := (l.map Doc.size).sum
def lenL (l : List Doc) : Nat := (l.map Doc.len).sum
def depL (l : List Doc) : Nat := (l.map Doc.dep).foldr max 0
def layerN : Nat → List Doc → List Doc
  | 0, l => l
  | k + 1, l => layer (layerN k l)
def spLWithin (K : PySem.W.Frag) : Sp := fun vs H Q _ => ∃ (v : V) (d : Doc), vs = [v] ∧ Dp K H v d.data ∧ d.size ≤ 5000 ∧ ∀ H', Gr [] H H' → Q (.bl (decide (d.size ≤ 300) && decide (d.dep ≤ 30))) H'
end LW
namespace LW
open PySem PySem.Spec PyProof.Rows L2
end LW
set_option maxHeartbeats 2000000
namespace LW
open PySem PySem.Spec PyProof.Rows L2
def kidsD : Doc → List Doc
  | .nil => []
  | .cons _ k r => k :: kidsD r
def nkids (e : Doc) : List Doc := (kidsD e).filter fun k => decide (k ≠ .nil)
def szs (L : List Doc) : Nat := (L.map Doc.size).sum
def lens (L : List Doc) : Nat := (L.map fun e : Doc => e.ts.length).sum
def mdep : List Doc → Nat
  | [] => 0
  | e :: L => max e.dep (mdep L)
theorem nkids_cons (a : Int) (k r : Doc) : nkids (.cons a k r) = if k = .nil then nkids r else k :: nkids r := by
  unfold nkids
  rw [kidsD, List.filter_cons]
  by_cases h : k = .nil
  · rw [if_pos h, if_neg (by simpa using h)]
  · rw [if_neg h, if_pos (by simpa using h)]
theorem szs_cons (e : Doc) (L : List Doc) : szs (e :: L) = e.size + szs L := by unfold szs; rw [List.map_cons, List.sum_cons]
theorem size_split : ∀ e : Doc, e.size = e.ts.length + szs (nkids e)
  | .nil => rfl
  | .cons a k r => by
    have ih := size_split r
    rw [nkids_cons]
    simp only [Doc.size, Doc.ts, List.length_cons]
    by_cases h : k = .nil
    · rw [if_pos h, h]
      simp only [Doc.size]; omega
    · rw [if_neg h, szs_cons]; omega
theorem szs_app (A B : List Doc) : szs (A ++ B) = szs A + szs B := by unfold szs; rw [List.map_append, List.sum_append]
theorem szs_next : ∀ L : List Doc, szs L = lens L + szs (L.flatMap nkids)
  | [] => rfl
  | e :: L => by
    have h := size_split e
    have ih := szs_next L
    rw [List.flatMap_cons, szs_app]
    unfold szs lens at ih ⊢
    rw [List.map_cons, List.sum_cons, List.map_cons, List.sum_cons]
    unfold szs at h
    omega
theorem mdep_app : ∀ A B : List Doc, mdep (A ++ B) = max (mdep A) (mdep B)
  | [], B => by simp [mdep]
  | e :: A, B => by rw [List.cons_append, mdep, mdep, mdep_app A B]; omega
theorem dep_split : ∀ e : Doc, e.dep = if e = .nil then 0 else 1 + mdep (nkids e)
  | .nil => rfl
  | .cons a k r => by
    have ih := dep_split r
    rw [if_neg (by simp)]
    have e1 : mdep (nkids (.cons a k r)) = max k.dep (mdep (nkids r)) := by
      rw [nkids_cons]
      by_cases h : k = .nil
      · rw [if_pos h, h]
        simp only [Doc.dep]; omega
      · rw [if_neg h, mdep]
    rw [e1]
    simp only [Doc.dep]
    by_cases h : r = .nil
    · subst h
      have : mdep (nkids .nil) = 0 := rfl
      rw [this]
      simp only [Doc.dep]; omega
    · rw [if_neg h] at ih
      omega
theorem nkids_nil {e : Doc} (h : e = .nil) : nkids e = [] := by subst h; rfl
theorem mdep_next : ∀ L : List Doc, mdep L = if L.any (fun e => decide (e ≠ .nil)) = true then 1 + mdep (L.flatMap nkids) else 0
  | [] => rfl
  | e :: L => by
    have h := dep_split e
    have ih := mdep_next L
    rw [mdep, List.flatMap_cons, mdep_app, List.any_cons]
    have nn : L.any (fun e => decide (e ≠ .nil)) = false → L.flatMap nkids = [] := fun hn => by
      refine List.flatMap_eq_nil_iff.mpr fun x hx => nkids_nil ?_
      have := List.any_eq_false.mp hn x hx
      simpa using this
    by_cases he : e = .nil
    · subst he
      have e1 : nkids .nil = [] := rfl
      rw [e1]
      simp only [ne_eq, not_true_eq_false, decide_false, Bool.false_or, mdep, Doc.dep, Nat.zero_max]
      exact ih
    · rw [if_neg he] at h
      rw [show decide (e ≠ .nil) = true by simpa using he, Bool.true_or, if_pos rfl]
      cases hn : L.any (fun e => decide (e ≠ .nil)) with
      | true =>
        rw [hn, if_pos rfl] at ih
        omega
      | false =>
        rw [hn, if_neg (by simp)] at ih
        rw [nn hn]
        have : mdep [] = 0 := rfl
        omega
theorem nkids_ne {e k : Doc} (h : k ∈ nkids e) : k ≠ .nil := by
  have := (List.mem_filter.mp h).2
  simpa using this
def spLook17 (K : PySem.W.Frag) : Sp := fun vs H Q _ => ∃ (v : V) (d : Doc), vs = [v] ∧ Dp K H v d.data ∧ d.size ≤ 5000 ∧ d.dep ≤ 100 ∧ ∀ H' x, Gr [] H H' → Dp K H' x (msD (msOf d)) → Q x H'
structure LkAt (d : Doc) (k many deep : Nat) (L : List Doc) : Prop where
  size : many + szs L = d.size
  dep : d.dep = k + mdep L
  deep : deep = k
  ne : 1 ≤ k → L ≠ [] ∧ ∀ e ∈ L, e ≠ .nil
theorem LkAt.start (d : Doc) : LkAt d 0 0 0 [d] := ⟨by simp [szs], by simp [mdep], rfl, fun h => absurd h (by decide)⟩
theorem LkAt.next {d : Doc} {k many deep : Nat} {L : List Doc} (h : LkAt d k many deep L) : (L.flatMap nkids = [] → many + lens L = d.size ∧ (if L.any (fun e => decide (e ≠ .nil)) = true then k + 1 else deep) = d.dep) ∧ (L.flatMap nkids ≠ [] → LkAt d (k + 1) (many + lens L) (if L.any (fun e => decide (e ≠ .nil)) = true then k + 1 else deep) (L.flatMap nkids)) := by
  have hs := szs_next L
  have hd := mdep_next L
  have h1 := h.size
  have h2 := h.dep
  have h3 := h.deep
  constructor
  · intro hn
    rw [hn] at hs hd
    have z1 : szs [] = 0 := rfl
    have z2 : mdep [] = 0 := rfl
    refine ⟨by omega, ?_⟩
    by_cases ha : L.any (fun e => decide (e ≠ .nil)) = true
    · rw [if_pos ha] at hd ⊢; omega
    · rw [if_neg ha] at hd ⊢; omega
  · intro hn
    have ha : L.any (fun e => decide (e ≠ .nil)) = true := by
      cases ha : L.any (fun e => decide (e ≠ .nil)) with
      | true => rfl
      | false =>
        refine absurd ?_ hn
        refine List.flatMap_eq_nil_iff.mpr fun x hx => nkids_nil ?_
        have := List.any_eq_false.mp ha x hx
        simpa using this
    rw [if_pos ha] at hd ⊢
    refine ⟨by omega, by omega, rfl, fun _ => ⟨hn, fun e he => ?_⟩⟩
    obtain ⟨x, _, hx⟩ := List.mem_flatMap.mp he
    exact nkids_ne hx
end LW
set_option maxHeartbeats 2000000
namespace LW
open PySem PySem.Spec PyProof.Rows L2
def isDocD (d : PyData) : Prop := ∃ e : Doc, e.lab = true ∧ d = e.data
def spIsDocL (K : PySem.W.Frag) (k : Nat) : Sp := fun vs H Q _ => ∃ (d : PyData) (v : V), vs = [v] ∧ Dp K H v d ∧ d.depth < k ∧ ∀ b : Bool, (b = true ↔ isDocD d) → Q (.bl b) H
def docSoFar (ts : List PyData) (i : Nat) : Prop := ∃ e : Doc, e.lab = true ∧ ts.take i = e.ts
theorem docSoFar.next {ts : List PyData} {i : Nat} {a : Int} {k : Doc} (h : docSoFar ts i) (e : ts[i]? = some (.tuple [.int a, k.data])) (h0 : 0 ≤ a) (h5 : a < 5) (hk : k.lab = true) : docSoFar ts (i + 1) := by
  obtain ⟨d, hl, ed⟩ := h
  refine ⟨d.app (.cons a k .nil), ?_, ?_⟩
  · rw [Doc.app_lab, hl]
    simp only [Doc.lab, hk, Bool.and_true, Bool.true_and, decide_eq_true_eq, Bool.and_eq_true]
    exact ⟨h0, h5⟩
  · rw [List.take_add_one, e, ed, Doc.app_ts]; rfl
end LW
set_option maxHeartbeats 2000000
namespace LW
open PySem PySem.Spec PyProof.Rows L2
def inLb (Lb : List Nat) : Doc → Prop
  | .nil => True
  | .cons a k r => (∃ l ∈ Lb, a = (l : Int)) ∧ inLb Lb k ∧ inLb Lb r
abbrev U3 := Nat × Nat × Nat
section
variable {vw : Doc → PyData} {Lb : List Nat} {rs : List Doc}
def docU (rs : List Doc) (u : U3) : Doc := .cons (u.1 : Int) (rs.getD u.2.1 .nil) (rs.getD u.2.2 .nil)
def okU (Lb : List Nat) (n : Nat) (u : U3) : Prop := u.1 ∈ Lb ∧ u.2.1 < n ∧ u.2.2 < n
def entU (vw : Doc → PyData) (rs : List Doc) (u : U3) : PyData := .tuple [.int ((docU rs u).size : Int), .int (u.1 : Int), .int (u.2.1 : Int), .int (u.2.2 : Int), vw (docU rs u)]
structure RkOk (vw : Doc → PyData) (Lb : List Nat) (rs : List Doc) : Prop where
  nil : rs[0]? = some .nil
  nd : (rs.map vw).Nodup
  lb : ∀ d ∈ rs, inLb Lb d
  lst : ∀ (i : Nat) (d : Doc), rs[i]? = some d → ∀ e, inLb Lb e → vw e ∉ (rs.take i).map vw → leD d e
  dep : ∀ (i : Nat) (d : Doc), rs[i]? = some d → d.dep ≤ i
theorem RkOk.own (h : RkOk vw Lb rs) {i : Nat} {d e : Doc} (hd : rs[i]? = some d) (he : inLb Lb e) (ev : vw e = vw d) : leD d e := by
  refine h.lst i d hd e he fun z => ?_
  rw [ev] at z
  obtain ⟨d', hd', e'⟩ := List.mem_map.mp z
  obtain ⟨j, hj⟩ := List.mem_iff_getElem?.mp hd'
  have hj2 := (List.getElem?_eq_some_iff.mp hj).1
  rw [List.length_take] at hj2
  rw [List.getElem?_take, if_pos (by omega)] at hj
  have q1 : (rs.map vw)[j]? = some (vw d) := by rw [List.getElem?_map, hj, ← e']; rfl
  have q2 : (rs.map vw)[i]? = some (vw d) := by rw [List.getElem?_map, hd]; rfl
  obtain ⟨l1, g1⟩ := List.getElem?_eq_some_iff.mp q1
  obtain ⟨l2, g2⟩ := List.getElem?_eq_some_iff.mp q2
  have := (List.getElem_inj h.nd).mp (g1.trans g2.symm)
  omega
theorem RkOk.inj (h : RkOk vw Lb rs) {i j : Nat} {d e : Doc} (hd : rs[i]? = some d) (he : rs[j]? = some e) (ev : vw d = vw e) : i = j := by
  have q1 : (rs.map vw)[i]? = some (vw d) := by rw [List.getElem?_map, hd]; rfl
  have q2 : (rs.map vw)[j]? = some (vw d) := by rw [List.getElem?_map, he, ev]; rfl
  obtain ⟨l1, g1⟩ := List.getElem?_eq_some_iff.mp q1
  obtain ⟨l2, g2⟩ := List.getElem?_eq_some_iff.mp q2
  exact (List.getElem_inj h.nd).mp (g1.trans g2.symm)
theorem RkOk.mono (h : RkOk vw Lb rs) {i j : Nat} {d e : Doc} (hd : rs[i]? = some d) (he : rs[j]? = some e) (hij : i ≤ j) : leD d e := by
  rcases Nat.lt_or_ge i j with hl | hl
  · refine h.lst i d hd e (h.lb e (List.mem_of_getElem? he)) fun z => ?_
    obtain ⟨d', hd', e'⟩ := List.mem_map.mp z
    obtain ⟨k, hk⟩ := List.mem_iff_getElem?.mp hd'
    have hk2 := (List.getElem?_eq_some_iff.mp hk).1
    rw [List.length_take] at hk2
    rw [List.getElem?_take, if_pos (by omega)] at hk
    have := h.inj hk he e'
    omega
  · obtain rfl : i = j := by omega
    rw [hd] at he; cases he
    exact leD_refl _
theorem docU_at {u : U3} {d e : Doc} (hd : rs[u.2.1]? = some d) (he : rs[u.2.2]? = some e) : docU rs u = .cons (u.1 : Int) d e := by
  unfold docU
  rw [List.getD_eq_getElem?_getD, List.getD_eq_getElem?_getD, hd, he]; rfl
theorem okU_at {n : Nat} {u : U3} (h : okU Lb rs.length u) : ∃ d e, rs[u.2.1]? = some d ∧ rs[u.2.2]? = some e := ⟨_, _, List.getElem?_eq_getElem h.2.1, List.getElem?_eq_getElem h.2.2⟩
theorem docU_lb (h : RkOk vw Lb rs) {u : U3} (hu : okU Lb rs.length u) : inLb Lb (docU rs u) := by
  obtain ⟨d, e, hd, he⟩ := okU_at (n := 0) hu
  rw [docU_at hd he]
  exact ⟨⟨u.1, hu.1, rfl⟩, h.lb _ (List.mem_of_getElem? hd), h.lb _ (List.mem_of_getElem? he)⟩
theorem cand_below (h : RkOk vw Lb rs) (cong : ∀ (l : Int) (k r k' r' : Doc), vw k = vw k' → vw r = vw r' → vw (.cons l k r) = vw (.cons l k' r')) {c : Doc}
    (hmin : ∀ u, okU Lb rs.length u → vw (docU rs u) ∉ rs.map vw → leD c (docU rs u)) : ∀ e, inLb Lb e → vw e ∉ rs.map vw → leD c e
  | .nil, _, hv => absurd (List.mem_map.mpr ⟨Doc.nil, List.mem_of_getElem? h.nil, rfl⟩) hv
  | .cons a k r, he, hv => by
    obtain ⟨⟨l, hl, ea⟩, hk, hr⟩ := he
    by_cases h1 : vw k ∈ rs.map vw
    · by_cases h2 : vw r ∈ rs.map vw
      · obtain ⟨dk, hdk, ek⟩ := List.mem_map.mp h1
        obtain ⟨dr, hdr, er⟩ := List.mem_map.mp h2
        obtain ⟨i, hi⟩ := List.mem_iff_getElem?.mp hdk
        obtain ⟨j, hj⟩ := List.mem_iff_getElem?.mp hdr
        have hu : okU Lb rs.length (l, i, j) := ⟨hl, (List.getElem?_eq_some_iff.mp hi).1, (List.getElem?_eq_some_iff.mp hj).1⟩
        have ed : docU rs (l, i, j) = .cons (l : Int) dk dr := docU_at hi hj
        have := hmin (l, i, j) hu (by rw [ed, cong _ _ _ _ _ ek er, ← ea]; exact hv)
        rw [ed] at this
        rw [ea]
        exact leD_trans this (leD_cons' (h.own hi hk ek.symm) (h.own hj hr er.symm))
      · exact leD_trans (cand_below h cong hmin r hr h2) (leD_size (by simp only [Doc.size]; omega))
    · exact leD_trans (cand_below h cong hmin k hk h1) (leD_size (by simp only [Doc.size]; omega))
theorem RkOk.step (h : RkOk vw Lb rs) (cong : ∀ (l : Int) (k r k' r' : Doc), vw k = vw k' → vw r = vw r' → vw (.cons l k r) = vw (.cons l k' r')) {u : U3} (hu : okU Lb rs.length u) (hv : vw (docU rs u) ∉ rs.map vw)
    (hmin : ∀ u', okU Lb rs.length u' → vw (docU rs u') ∉ rs.map vw → leD (docU rs u) (docU rs u')) : RkOk vw Lb (rs ++ [docU rs u]) where
  nil := by
    have : 0 < rs.length := (List.getElem?_eq_some_iff.mp h.nil).1
    rw [List.getElem?_append_left this]; exact h.nil
  nd := by
    rw [List.map_append, List.nodup_append]
    refine ⟨h.nd, by simp, fun a ha b hb e => ?_⟩
    simp only [List.map_cons, List.map_nil, List.mem_singleton] at hb
    rw [e, hb] at ha
    exact hv ha
  lb := fun d hd => by
    rcases List.mem_append.mp hd with hd | hd
    · exact h.lb d hd
    · rw [List.mem_singleton.mp hd]; exact docU_lb h hu
  lst := fun i d hd e he hz => by
    rcases Nat.lt_or_ge i rs.length with hi | hi
    · rw [List.getElem?_append_left hi] at hd
      rw [List.take_append_of_le_length (by omega)] at hz
      exact h.lst i d hd e he hz
    · have hl := (List.getElem?_eq_some_iff.mp hd).1
      rw [List.length_append, List.length_singleton] at hl
      obtain rfl : i = rs.length := by omega
      rw [List.getElem?_append_right (Nat.le_refl _), Nat.sub_self] at hd
      cases hd
      rw [List.take_append_of_le_length (Nat.le_refl _), List.take_length] at hz
      exact cand_below h cong hmin e he hz
  dep := fun i d hd => by
    rcases Nat.lt_or_ge i rs.length with hi | hi
    · rw [List.getElem?_append_left hi] at hd
      exact h.dep i d hd
    · have hl := (List.getElem?_eq_some_iff.mp hd).1
      rw [List.length_append, List.length_singleton] at hl
      obtain rfl : i = rs.length := by omega
      rw [List.getElem?_append_right (Nat.le_refl _), Nat.sub_self] at hd
      cases hd
      obtain ⟨d1, d2, e1, e2⟩ := okU_at (n := 0) hu
      have q1 := h.dep _ _ e1
      have q2 := h.dep _ _ e2
      obtain ⟨_, u1, u2⟩ := hu
      rw [docU_at e1 e2]
      simp only [Doc.dep]; omega
theorem RkOk.start (vw : Doc → PyData) (Lb : List Nat) : RkOk vw Lb [.nil] :=
  ⟨rfl, by simp, fun d hd => by rw [List.mem_singleton.mp hd]; exact True.intro, fun i d hd e he hz => by
    cases i with
    | zero =>
      cases hd
      cases e with
      | nil => exact leD_refl _
      | cons a k r => exact leD_size (by simp only [Doc.size]; omega)
    | succ i => simp at hd, fun i d hd => by
    cases i with
    | zero => cases hd; exact Nat.le_refl _
    | succ i => simp at hd⟩
end
end LW
set_option maxHeartbeats 2000000
namespace LW
open PySem PySem.Spec PyProof.Rows L2
structure VwOk (vw : Doc → PyData) : Prop where
  cong : ∀ (l : Int) (k r k' r' : Doc), vw k = vw k' → vw r = vw r' → vw (.cons l k r) = vw (.cons l k' r')
  al : ∀ d e, PySem.W.alike (vw d) (vw e) = true
  pu : ∀ d, pure1 (vw d) = true
  cl : ∀ d, (vw d).canLay0 = true
  dp : ∀ d, (vw d).depth ≤ 50
  eq : ∀ d e, PyData.eqv (vw d) (vw e) = true ↔ vw d = vw e
section
variable {vw : Doc → PyData} {rs : List Doc}
theorem VwOk.sh (h : VwOk vw) (d : Doc) : SeqAt.shaped (vw d) = true := by
  unfold SeqAt.shaped
  rw [h.cl, Bool.true_and]
  exact decide_eq_true (by have := h.dp d; omega)
theorem VwOk.any (h : VwOk vw) (rs : List Doc) (d : Doc) : ((rs.map vw).any fun z => PyData.eqv z (vw d)) = true ↔ vw d ∈ rs.map vw := by
  rw [List.any_eq_true]
  constructor
  · rintro ⟨x, hx, e⟩
    obtain ⟨d', hd', rfl⟩ := List.mem_map.mp hx
    rw [h.eq] at e
    rw [← e]; exact hx
  · exact fun hm => ⟨vw d, hm, (h.eq _ _).mpr rfl⟩
end
def docO (d : Doc) : PyData := if d.size ≤ 40 then d.data else .none
def szO (d : Doc) : PyData := .int (d.size : Int)
structure Lsf (K : PySem.W.Frag) (H0 H : Hp) (Ls : List LD) : Prop where
  gr : Gr [] H0 H
  ls : ∀ L ∈ Ls, H0 L.a = none ∧ H L.a = some (.lst L.xs) ∧ DpAll K H L.xs L.ds ∧ pureAll L.ds = true
  nd : (Ls.map LD.a).Nodup
section
variable {K : PySem.W.Frag} {H0 H H' : Hp} {Ls A B : List LD} {p : Addr} {xs : List V} {ds : List PyData} {x : V} {d : PyData}
theorem Lsf.nil (K : PySem.W.Frag) (H : Hp) : Lsf K H H [] := ⟨Gr.refl H, by simp, by simp⟩
theorem Lsf.step (h : Lsf K H0 H Ls) (g : Gr [] H H') : Lsf K H0 H' Ls := ⟨h.gr.trans g, fun L hL => let ⟨e1, e2, e3, e4⟩ := h.ls L hL; ⟨e1, g.lst (by simp) e2, e3.gr g, e4⟩, h.nd⟩
theorem Lsf.app (h : Lsf K H0 H (A ++ ⟨p, xs, ds⟩ :: B)) (hx : Dp K H x d) (hd : pure1 d = true) : Lsf K H0 (upd H p (.lst (xs ++ [x]))) (A ++ ⟨p, xs ++ [x], ds ++ [d]⟩ :: B) := by
  obtain ⟨e0, e1, e2, e3⟩ := h.ls ⟨p, xs, ds⟩ (by simp)
  have e1 : H p = some (.lst xs) := e1
  have gw : Gr [p] H (upd H p (.lst (xs ++ [x]))) := Gr.put e1 (fun _ z => by cases z) (by simp)
  have wl : ∀ b ∈ [p], ∃ ys, H b = some (.lst ys) := fun b hb => by rw [List.mem_singleton.mp hb]; exact ⟨_, e1⟩
  have nd := h.nd
  rw [List.map_append, List.map_cons, List.nodup_append, List.nodup_cons] at nd
  obtain ⟨n1, ⟨n2, n3⟩, n4⟩ := nd
  have keep : ∀ L, L ∈ A ++ B → H0 L.a = none ∧ (upd H p (.lst (xs ++ [x]))) L.a = some (.lst L.xs) ∧ DpAll K (upd H p (.lst (xs ++ [x]))) L.xs L.ds ∧ pureAll L.ds = true := fun L hL => by
    have hL' : L ∈ A ++ ⟨p, xs, ds⟩ :: B := by
      rcases List.mem_append.mp hL with z | z
      · exact List.mem_append_left _ z
      · exact List.mem_append_right _ (List.mem_cons_of_mem _ z)
    obtain ⟨f1, f2, f3, f4⟩ := h.ls L hL'
    have ne : L.a ≠ p := fun z => by
      rcases List.mem_append.mp hL with y | y
      · exact n4 L.a (List.mem_map_of_mem y) p (List.mem_cons_self ..) z
      · refine n2 ?_
        show p ∈ _
        rw [← z]
        exact List.mem_map_of_mem (f := LD.a) y
    exact ⟨f1, gw.lst (by simpa using ne) f2, dpAll_grm gw wl _ _ f4 f3, f4⟩
  refine ⟨h.gr.put0 e0, fun L hL => ?_, ?_⟩
  · rcases List.mem_append.mp hL with z | z
    · exact keep L (List.mem_append_left _ z)
    · rcases List.mem_cons.mp z with rfl | z
      · exact ⟨e0, upd_same, (dpAll_grm gw wl _ _ e3 e2).append (.cons (dp_grm gw wl _ _ hd hx) .nil), by rw [pureAll_app, e3, pureAll, hd]; rfl⟩
      · exact keep L (List.mem_append_right _ z)
  · have := h.nd
    rw [List.map_append, List.map_cons] at this ⊢
    exact this
theorem Lsf.at (h : Lsf K H0 H (A ++ ⟨p, xs, ds⟩ :: B)) : H p = some (.lst xs) ∧ DpAll K H xs ds ∧ H0 p = none := let ⟨e0, e1, e2, _⟩ := h.ls ⟨p, xs, ds⟩ (by simp); ⟨e1, e2, e0⟩
end
def lbD (Lb : List Nat) : PyData := .tuple (Lb.map fun l : Nat => PyData.int (l : Int))
def spBeginG (K : PySem.W.Frag) (wd : PyData) (vw : Doc → PyData) : Sp := fun vs H Q _ => ∃ v : V, vs = [v] ∧ Dp K H v wd ∧ ∀ H' x, Gr [] H H' → Dp K H' x (vw .nil) → Q x H'
def spFollowG (K : PySem.W.Frag) (wd : PyData) (vw : Doc → PyData) : Sp := fun vs H Q _ => ∃ (wv kv rv : V) (a : Nat) (k r : Doc), vs = [wv, natV a, kv, rv] ∧ a < 5 ∧ Dp K H wv wd ∧ Dp K H kv (vw k) ∧ Dp K H rv (vw r) ∧ ∀ H' x, Gr [] H H' → Dp K H' x (vw (.cons (a : Int) k r)) → Q x H'
structure Ranked (vw : Doc → PyData) (Lb : List Nat) (most : Nat) (rs : List Doc) : Prop where
  ok : RkOk vw Lb rs
  few : rs.length ≤ most + 2
  fin : rs.length = most + 2 ∨ ∀ e, inLb Lb e → vw e ∈ rs.map vw
def spRanked (K : PySem.W.Frag) (wd : PyData) (vw : Doc → PyData) : Sp := fun vs H Q _ => ∃ (wv lv : V) (Lb : List Nat) (most : Nat), vs = [wv, lv, natV most] ∧ Dp K H wv wd ∧ Dp K H lv (lbD Lb) ∧ (∀ l ∈ Lb, l < 5) ∧ Lb.length ≤ 3 ∧ most ≤ 28 ∧
  ∀ H' t vl dl sl xs ys zs rs, Ranked vw Lb most rs → H' t = some (.tup [.ref vl, .ref dl, .ref sl]) → Lsf K H H' [⟨sl, zs, rs.map szO⟩, ⟨dl, ys, rs.map docO⟩, ⟨vl, xs, rs.map vw⟩] → Q (.ref t) H'
end LW
set_option maxHeartbeats 2000000
namespace LW
open PySem PySem.Spec PyProof.Rows L2
section
variable {K : PySem.W.Frag} {H H' : Hp} {m : List Addr}
theorem own_not (h : Own m H) {a : Addr} {o : HO} (e : H a = some o) (n : ownO o = false) : a ∉ m := fun z => by
  have := h a z o e
  rw [n] at this; cases this
mutual
theorem dp_own (g : Gr m H H') (hm : Own m H) : ∀ (d : PyData) (v : V), pure1 d = true → Dp K H v d → Dp K H' v d
  | .none, _, _, h => by cases h; exact .non
  | .bool b, _, _, h => by cases h; exact .bl b
  | .int i, _, _, h => by cases h; exact .int i
  | .str x, _, _, h => by cases h; exact .str x
  | .list ds, _, p, h => nomatch p
  | .tuple ds, _, p, h => by
    cases h with
    | tup hs ha =>
      refine .tup ?_ (dpAll_own g hm ds _ p ha)
      rcases hs with (e | ⟨o, e⟩) | e
      · exact .inl (.inl (g.tup (own_not hm e rfl) e))
      · exact .inl (.inr ⟨o, g.keep _ _ (own_not hm e rfl) e fun _ z => by cases z⟩)
      · exact .inr e
  | .dict _, _, _, h => by cases h
theorem dpAll_own (g : Gr m H H') (hm : Own m H) : ∀ (ds : List PyData) (vs : List V), pureAll ds = true → DpAll K H vs ds → DpAll K H' vs ds
  | [], _, _, h => by cases h; exact .nil
  | d :: ds, _, p, h => by
    have p' : pure1 d = true ∧ pureAll ds = true := by
      have q : (pure1 d && pureAll ds) = true := p
      simpa using q
    cases h with
    | cons h1 h2 => exact .cons (dp_own g hm d _ p'.1 h1) (dpAll_own g hm ds _ p'.2 h2)
end
theorem StepsAv.own {C p rl rw_ st : Addr} {s : Sch} {n : Nat} {av : List Addr} (h : StepsAv K C H p rl rw_ st s n av) (g : Gr av H H') (hm : Own av H) (np : p ∉ av) (rp : ∀ a, pureAll ((ofLabel a (rulesFrom 0 s)).map bitD) = true) : StepsAv K C H' p rl rw_ st s n av where
  ins := let ⟨dx, e⟩ := h.ins; ⟨dx, g.keep _ _ np e fun _ z => by cases z⟩
  rules := by
    obtain ⟨z, H0, ls, e, f⟩ := h.rules
    exact ⟨z, H0, ls, ⟨g.lst z e.at_, e.len, e.nd, e.out, e.new, fun a l el => by
      obtain ⟨xs, h1, h2⟩ := e.row a l el
      exact ⟨xs, g.lst (f l (List.mem_of_getElem? el)) h1, dpAll_own g hm _ _ (rp a) h2⟩⟩, f⟩
  rows := by
    obtain ⟨z, kvs, e, l, f⟩ := h.rows
    refine ⟨z, kvs, g.keep _ _ z e (fun _ z => by cases z), l, fun a x v q => ?_⟩
    obtain ⟨l, xs, e1, nl, e2, e3⟩ := f a x v q
    exact ⟨l, xs, e1, nl, g.lst nl e2, dpAll_own g hm _ _ (ent_pureL _) e3⟩
  steps := let ⟨z, kvs, e, l, f⟩ := h.steps; ⟨z, kvs, g.keep _ _ z e (fun _ z => by cases z), l, f⟩
  ne := h.ne
end
structure BtTxt (K : PySem.W.Frag) (mg : Str → Option Value) (C : Addr) : Prop where
  cl : Cls K C
  n0 : NoAttr K C "left"
  n1 : NoAttr K C "right"
  n2 : NoAttr K C "empty"
  gC : mg "Both" = some (.ref C)
structure BtA where
  b : Addr
  pl : Addr
  pr : Addr
  rl1 : Addr
  rw1 : Addr
  st1 : Addr
  rl2 : Addr
  rw2 : Addr
  st2 : Addr
  ee : Addr
def BtA.sm (A : BtA) : List Addr := [A.rw1, A.st1, A.rw2, A.st2]
def fsB (A : BtA) : List (Str × V) := [("left", .ref A.pl), ("right", .ref A.pr), ("empty", .ref A.ee)]
def kfB (s t : Sch) (d : Doc) : NestedKey := .tup [.num (setB s d), .num (setB t d)]
theorem kfB_eq {s t : Sch} {d e : Doc} : kfB s t d = kfB s t e ↔ setB s d = setB s e ∧ setB t d = setB t e := by
  unfold kfB
  constructor
  · intro h
    simp only [NestedKey.tup.injEq, List.cons.injEq, NestedKey.num.injEq] at h
    omega
  · rintro ⟨h1, h2⟩; rw [h1, h2]
structure BtAt (K : PySem.W.Frag) (CB CS : Addr) (A : BtA) (s t : Sch) (av : List Addr) (n : Nat) (H : Hp) : Prop where
  ins : ∃ dx, H A.b = some (.ins CB dx (fsB A))
  L : StepsAv K CS H A.pl A.rl1 A.rw1 A.st1 s n av
  R : StepsAv K CS H A.pr A.rl2 A.rw2 A.st2 t n av
  e : H A.ee = some (.tup [natV (emptyB s), natV (emptyB t)])
  nd : A.sm.Nodup
  out : A.b ∉ av ∧ A.pl ∉ av ∧ A.pr ∉ av
section
variable {K : PySem.W.Frag} {CB CS : Addr} {A : BtA} {s t : Sch} {av : List Addr} {n : Nat} {H H' : Hp}
theorem BtAt.apart (h : BtAt K CB CS A s t av n H) : Apart A.sm H := fun b hb o e => by
  have h1 := h.L.apart
  have h2 := h.R.apart
  simp only [BtA.sm, List.mem_cons, List.not_mem_nil, or_false] at hb
  rcases hb with rfl | rfl | rfl | rfl
  · exact h1 _ (by simp) o e
  · exact h1 _ (by simp) o e
  · exact h2 _ (by simp) o e
  · exact h2 _ (by simp) o e
theorem BtAt.keep (h : BtAt K CB CS A s t av n H) (g : Gr av H H') (ow : Own av H) : BtAt K CB CS A s t av n H' where
  ins := let ⟨dx, e⟩ := h.ins; ⟨dx, g.keep _ _ h.out.1 e fun _ z => by cases z⟩
  L := h.L.own g ow h.out.2.1 (fun _ => bit_pureL _)
  R := h.R.own g ow h.out.2.2 (fun _ => bit_pureL _)
  e := g.tup (own_not ow h.e rfl) h.e
  nd := h.nd
  out := h.out
end
end LW
namespace LW
open PySem PySem.Spec PyProof.Rows L2
def fb_1 (pl : Addr) : List (Str × V) := [("left", .ref pl)]
def fb_2 (pl pr : Addr) : List (Str × V) := [("left", .ref pl), ("right", .ref pr)]
def spBothI (K : PySem.W.Frag) (CB CS : Addr) : Sp := fun vs H Q _ => ∃ (p dx : Addr) (sv tv : V) (s t : Sch), vs = [.ref p, sv, tv] ∧ H p = some (.ins CB dx []) ∧ Dp K H sv (schD s) ∧ Dp K H tv (schD t) ∧ SchOk s ∧ SchOk t ∧
  ∀ H' A, A.b = p → Gr [p] H H' → BtAt K CB CS A s t [] 0 H' → (∀ x ∈ A.sm, H x = none) → Q .non H'
end LW
set_option maxHeartbeats 2000000
namespace LW
open PySem PySem.Spec PyProof.Rows L2
def viewD (s t : Sch) (d : Doc) : PyData := .tuple [natsD (LB.mems (setB s d) s.length), natsD (LB.mems (setB t d) t.length)]
def whatD (s t : Sch) : PyData := .tuple [schD s, schD t]
def spBegin (K : PySem.W.Frag) : Sp := fun vs H Q _ => ∃ (v : V) (s t : Sch), vs = [v] ∧ Dp K H v (whatD s t) ∧ SchOk s ∧ SchOk t ∧ ∀ H' x, Gr [] H H' → Dp K H' x (viewD s t .nil) → Q x H'
def spFollowV (K : PySem.W.Frag) : Sp := fun vs H Q _ => ∃ (wv kv rv : V) (s t : Sch) (a : Nat) (k r : Doc), vs = [wv, natV a, kv, rv] ∧ Dp K H wv (whatD s t) ∧ SchOk s ∧ SchOk t ∧ Dp K H kv (viewD s t k) ∧ Dp K H rv (viewD s t r) ∧ ∀ H' x, Gr [] H H' → Dp K H' x (viewD s t (.cons (a : Int) k r)) → Q x H'
def badP (s t : Sch) (d : Doc) : Bool := (setB s d).testBit 0 && !(setB t d).testBit 0
def spBadV (K : PySem.W.Frag) : Sp := fun vs H Q _ => ∃ (wv pv' : V) (s t : Sch) (d : Doc), vs = [wv, pv'] ∧ SchOk s ∧ SchOk t ∧ Dp K H pv' (viewD s t d) ∧ Q (.bl (badP s t d)) H
def spIsBad (K : PySem.W.Frag) : Sp := fun vs H Q _ => ∃ (v : V) (s t : Sch) (d : Doc), vs = [v] ∧ Dp K H v (kfB s t d).data ∧ Q (.bl (badP s t d)) H
end LW
namespace LW
open PySem PySem.Spec PyProof.Rows L2
def spLabels (K : PySem.W.Frag) : Sp := fun vs H Q _ => ∃ (bx cl : Addr), vs = [.ref bx] ∧ BoxAt H bx cl ∧ ∀ H' x (a b c : Nat), a < 5 → b < 5 → c < 5 → a ≠ b → c ≠ a → c ≠ b → (∀ l < 5, l ≠ a → l ≠ b → c ≤ l) → Gr [bx] H H' → BoxAt H' bx cl → Dp K H' x (.tuple [.int (a : Int), .int (b : Int), .int (c : Int)]) → Q x H'
end LW
set_option maxHeartbeats 2000000
namespace LW
open PySem PySem.Spec PyProof.Rows L2
def endsN (n : Nat) : List Bool := (List.range n).map fun q => decide (q = 0)
section
variable {kf : Doc → NestedKey} {more : List Doc} {rules : List R4}
end
end LW
set_option maxHeartbeats 2000000
namespace LW
open PySem PySem.Spec PyProof.Rows L2 LamX NdefX
def LamO (P : Addr) (ps : Array Value) : HO := .ext fun h => h.get? P = some { cls := .none, data := .fields ps }
def LamT (P : Addr) (q : Str) (H : Hp) : Prop := ∃ ps : Array Value, H P = some (LamO P ps) ∧ TriplesOk ps.toList ∧ ∀ (pos : Pos) (cv : Value), codeAmong pos ps.toList = some cv → ∃ c, cv = .ref c ∧ c ≠ P ∧ H c = some (CodeO c q)
theorem lamO_ne {P : Addr} {ps qs : Array Value} : LamO P ps ≠ .tbl qs := fun z => by
  unfold LamO at z
  cases z
def NoExt (m : List Addr) (H : Hp) : Prop := ∀ b ∈ m, ∀ φ, H b ≠ some (.ext φ)
theorem LamT.gr {P : Addr} {q : Str} {m : List Addr} {H H' : Hp} (h : LamT P q H) (g : Gr m H H') (hm : NoExt m H) : LamT P q H' := by
  obtain ⟨ps, h1, h2, h3⟩ := h
  refine ⟨ps, g.keep _ _ (fun z => hm _ z _ h1) h1 fun _ => lamO_ne, h2, fun pos cv hc => ?_⟩
  obtain ⟨c, e1, n, e2⟩ := h3 pos cv hc
  exact ⟨c, e1, n, g.keep _ _ (fun z => hm _ z _ e2) e2 fun _ => codeO_ne _⟩
theorem LamT.gr0 {P : Addr} {q : Str} {H H' : Hp} (h : LamT P q H) (g : Gr [] H H') : LamT P q H' := h.gr g fun _ z => by cases z
theorem LamT.grl {P a : Addr} {q : Str} {H H' : Hp} {xs : List V} (h : LamT P q H) (g : Gr [a] H H') (e : H a = some (.lst xs)) : LamT P q H' := h.gr g fun b z φ ez => by
  rw [List.mem_singleton.mp z, e] at ez; cases ez
theorem LamT.not {P a : Addr} {q : Str} {H : Hp} {o : HO} (h : LamT P q H) (e : H a = some o) (n : ∀ φ, o ≠ .ext φ) : a ∉ [P] := fun z => by
  obtain ⟨ps, h1, _⟩ := h
  rw [List.mem_singleton.mp z] at e
  exact n _ (Option.some.inj (e.symm.trans h1))
theorem LamT.sqL {P a : Addr} {q : Str} {K : PySem.W.Frag} {H H' : Hp} {xs : List V} (h : LamT P q H) (g : Gr [P] H H') (e : SqL K H a xs) : SqL K H' a xs := by
  rcases e with (e | ⟨o, e⟩) | e
  · exact .inl (.inl (g.lst (h.not e fun _ z => by cases z) e))
  · exact .inl (.inr ⟨o, g.keep _ _ (h.not e fun _ z => by cases z) e fun _ z => by cases z⟩)
  · exact .inr e
theorem LamT.sqT {P a : Addr} {q : Str} {K : PySem.W.Frag} {H H' : Hp} {xs : List V} (h : LamT P q H) (g : Gr [P] H H') (e : SqT K H a xs) : SqT K H' a xs := by
  rcases e with (e | ⟨o, e⟩) | e
  · exact .inl (.inl (g.tup (h.not e fun _ z => by cases z) e))
  · exact .inl (.inr ⟨o, g.keep _ _ (h.not e fun _ z => by cases z) e fun _ z => by cases z⟩)
  · exact .inr e
mutual
theorem dp_grL {K : PySem.W.Frag} {H H' : Hp} {P : Addr} {q : Str} (hT : LamT P q H) (g : Gr [P] H H') : ∀ (d : PyData) (v : V), Dp K H v d → Dp K H' v d
  | .none, _, h => by cases h; exact .non
  | .bool b, _, h => by cases h; exact .bl b
  | .int i, _, h => by cases h; exact .int i
  | .str x, _, h => by cases h; exact .str x
  | .list ds, _, h => by
    cases h with
    | lst hs ha => exact .lst (hT.sqL g hs) (dpAll_grL hT g ds _ ha)
  | .tuple ds, _, h => by
    cases h with
    | tup hs ha => exact .tup (hT.sqT g hs) (dpAll_grL hT g ds _ ha)
  | .dict _, _, h => by cases h
theorem dpAll_grL {K : PySem.W.Frag} {H H' : Hp} {P : Addr} {q : Str} (hT : LamT P q H) (g : Gr [P] H H') : ∀ (ds : List PyData) (vs : List V), DpAll K H vs ds → DpAll K H' vs ds
  | [], _, h => by cases h; exact .nil
  | d :: ds, _, h => by
    cases h with
    | cons h1 h2 => exact .cons (dp_grL hT g d _ h1) (dpAll_grL hT g ds _ h2)
end
structure LF where
  qual : Str
  params : Arguments
  body : Expr
  scope : Scope
  cl : List (Str × Addr)
  c : Addr
abbrev LF.nf (F : LF) : NF := ⟨"<lambda>", F.qual, F.params, [], F.scope, F.cl, F.c⟩
def LamF (f : Addr) (F : LF) : HO := .ext fun h => ∃ pm ctv : Value, h.get? f = some (PySem.W.kla_obj "<lambda>" F.qual F.params F.body F.scope F.cl pm F.c ctv)
section
variable {X : Cx} {pins : List (Addr × Obj)} {σ : L2.St} {H : Hp} {s : Shared}
end
end LW
set_option maxHeartbeats 2000000
namespace LW
open PySem PySem.Spec PyProof.Rows L2 LamX NdefX
section
variable {X : Cx} {pins : List (Addr × Obj)} {σ : L2.St} {H : Hp} {s : Shared}
abbrev lamQ (X : Cx) : Str := X.env.qual ++ "<lambda>"
def tLamE (P : Addr) (q : Str) (mk : Addr → LF) : TE := fun σ H Q => LamT P q H ∧ ∀ (f c' : Addr) (H1 : Hp), Gr [P] H H1 → LamT P q H1 → H1 f = some (LamF f (mk c')) → H1 c' = some (CodeO c' q) → Q (.ref f) H1
end
section
variable {CX : CXT} {P : Program} {w : World} {K : PySem.W.Frag} {mg : Str → Option Value} {base : Heap} {N ps fr : List Str} {F : LF} {f : Addr} {k : Nat} {A : Around} {outer : List Env} {s : Shared} {H : Hp} {E : XK} {us : List Value} {vs : List V} {ws : List (Option V)} {Q : VK} {tb : TE}
end
end LW
set_option maxHeartbeats 2000000
namespace LW
open PySem PySem.Spec PyProof.Rows L2 LamX NdefX
section
variable {X : Cx} {pins : List (Addr × Obj)} {σ : L2.St} {H : Hp} {s s' : Shared}
structure Away (X : Cx) (pins : List (Addr × Obj)) (H : Hp) (b : Addr) : Prop where
  new : H b = none
  loc : b ≠ X.env.locals
  old : X.s_0.heap.objs.size ≤ b
  cel : ∀ x c, X.env.cells.lookup x = some c → c ≠ b
  pin : ∀ p ∈ X.pn ++ pins, p.1 ≠ b
  fr : b ∉ frs X.stack
end
def tMinLam (K : PySem.W.Frag) (P : Addr) (q : Str) (N : List Str) (js : List Nat) (t : TA) (tb : TE) : TE := fun σ H Q => t σ H fun vs H1 => ∃ (a : Addr) (xs : List V) (d : PyData) (ks : List PyData), vs = [.ref a] ∧ SqL K H1 a xs ∧ xs.length = ks.length + 1 ∧ PySem.W.AlikeAll (d :: ks) ∧ PyData.depthAll (d :: ks) ≤ 60 ∧ LamT P q H1 ∧
  ∀ H2, Gr [P] H1 H2 → LamT P q H2 → (∀ (i : Nat) (x : V) (k : PyData), xs[i]? = some x → (d :: ks)[i]? = some k → tb (startF N [x] (js.map (slotAt σ))) H2 fun y H3 => H3 = H2 ∧ Dp K H2 y k) ∧
    ∀ (i : Nat) (x : V) (k : PyData), xs[i]? = some x → (d :: ks)[i]? = some k → (∀ k' ∈ d :: ks, PySem.W.dataLt k' k = false) → Q x H2
section
variable {prog : Program} {w : World} {A : Around} {E : Value → Shared → Prop} {s : Shared}
end
section
variable {X : Cx}
end
end LW
set_option maxHeartbeats 2000000
namespace LW
open PySem PySem.Spec PyProof.Rows L2
section
variable {K : PySem.W.Frag} {C : Addr} {H H' : Hp} {P p sl ol dl fl : Addr} {q : Str} {sz : List (Option Nat)} {os : List Addr} {ord : List (List V)} {dep : List Nat} {fst : List (Option Rl)}
theorem LamT.lst {a : Addr} {xs : List V} (h : LamT P q H) (g : Gr [P] H H') (e : H a = some (.lst xs)) : H' a = some (.lst xs) := g.lst (h.not e fun _ z => by cases z) e
theorem LamT.ins {a dx : Addr} {fs : List (Str × V)} (h : LamT P q H) (g : Gr [P] H H') (e : H a = some (.ins C dx fs)) : H' a = some (.ins C dx fs) := g.keep _ _ (h.not e fun _ z => by cases z) e fun _ z => by cases z
theorem LsAt.grL (h : LsAt K C H p sl ol dl fl sz os ord dep fst) (hT : LamT P q H) (g : Gr [P] H H') : LsAt K C H' p sl ol dl fl sz os ord dep fst where
  ins := let ⟨dx, e⟩ := h.ins; ⟨dx, hT.ins g e⟩
  sizes := hT.lst g h.sizes
  orders := hT.lst g h.orders
  each := fun i a e => let ⟨e1, e2⟩ := h.each i a e; ⟨e1, hT.lst g e2⟩
  deps := hT.lst g h.deps
  firsts := let ⟨fs, e1, e2⟩ := h.firsts; ⟨fs, hT.lst g e1, dpAll_grL hT g _ _ e2⟩
  ne := h.ne
  len := h.len
theorem LsGood.grL {ends : List Bool} {rules : List R4} {D : Nat → Doc} (h : LsGood K C H p ends rules sz D dep fst) (hT : LamT P q H) (g : Gr [P] H H') : LsGood K C H' p ends rules sz D dep fst :=
  let ⟨sl, ol, dl, fl, os, ord, h1, h2⟩ := h.at_
  ⟨⟨sl, ol, dl, fl, os, ord, h1.grL hT g, h2⟩, h.ok⟩
end
def XEL (E : XK) (C P : Addr) (q : Str) (H : Hp) : Prop := ∀ H' t, Gr [P] H H' → LamT P q H' → H' t = some (.tup []) → E (.ref C) (some t) H'
theorem XEL.gr {E : XK} {C P : Addr} {q : Str} {H H1 : Hp} (h : XEL E C P q H) (g : Gr [P] H H1) : XEL E C P q H1 := fun H' t g' hT e => h H' t (g.trans g') hT e
def spLsOf (K : PySem.W.Frag) (C : Addr) (P : Addr) (lq : Str) : Sp := fun vs H Q _ => ∃ (p l : Addr) (ends : List Bool) (rules : List R4) (sz : List (Option Nat)) (D : Nat → Doc) (dep : List Nat) (fst : List (Option Rl)) (ns : List Nat), vs = [.ref p, .ref l] ∧ LsGood K C H p ends rules sz D dep fst ∧ H l = some (.lst (ns.map natV)) ∧ ns ≠ [] ∧ ns.length ≤ 1000 ∧ (∀ q ∈ ns, sz.getD q none ≠ none) ∧ LamT P lq H ∧
  ∀ H' q, Gr [P] H H' → LamT P lq H' → q ∈ ns → (∀ q' ∈ ns, ∀ k k', sz.getD q none = some k → sz.getD q' none = some k' → k ≤ k' ∧ (k ≤ 300 → k' ≤ 300 → leD (D q) (D q'))) → Q (natV q) H'
def ofKinds (kf : Doc → NestedKey) (reps : List Doc) (ns : List Nat) (e : Doc) : Prop := ∃ q ∈ ns, ∃ dq : Doc, reps[q]? = some dq ∧ kf dq = kf e
def spClLeast (P : Program) (w : World) (K : PySem.W.Frag) (C DT PT : Addr) (lq : Str) (kf : Doc → NestedKey) : Sp := fun vs H Q E => ∃ (p l sp : Addr) (most : Nat) (kl dl rl : Addr) (more : List Doc) (rules : List R4) (ns : List Nat) (L : Doc), vs = [.ref p, .ref l] ∧ ClAt P w K C H p sp most kl dl rl kf (.nil :: more) rules ∧ ClDone kf (.nil :: more) rules ∧ rules.length ≤ 90000 ∧ H l = some (.lst (ns.map natV)) ∧ ns ≠ [] ∧ ns.length ≤ 1000 ∧ (∀ q ∈ ns, q < more.length + 1) ∧ LamT PT lq H ∧
  L.lab = true ∧ ofKinds kf (.nil :: more) ns L ∧ (∀ e, e.lab = true → ofKinds kf (.nil :: more) ns e → leD L e) ∧ ((300 < L.size ∨ 30 < L.dep) → XEL E DT PT lq H) ∧ (L.size ≤ 300 → L.dep ≤ 30 → ∀ H' x, Gr [PT] H H' → LamT PT lq H' → Dp K H' x L.data → Q x H')
end LW
set_option maxHeartbeats 2000000
namespace LW
open PySem PySem.Spec PyProof.Rows L2
theorem FnOk.ex {P : Program} {w : World} {K : PySem.W.Frag} {mg : Str → Option Value} {base : Heap} {CX : CXT} {k : Nat} {f : Addr} {fd : FuncData} {ps : List Str} {ι : Type} {c : ι → Prop} {sp : ι → Sp} (F : ∀ i, c i → FnOk P w K mg base CX k f fd ps (sp i)) : FnOk P w K mg base CX k f fd ps (fun vs H Q E => ∃ i, c i ∧ sp i vs H Q E) :=
  ⟨fun vs H Q E h => let ⟨i, ci, h⟩ := h; (F i ci).1 vs H Q E h, fun A outer s H args us vs Q E a1 a2 a3 a4 h => let ⟨i, ci, h⟩ := h; (F i ci).2 A outer s H args us vs Q E a1 a2 a3 a4 h⟩
structure BtI where
  A : BtA
  s : Sch
  t : Sch
def BtI.ok (i : BtI) : Prop := SchOk i.s ∧ SchOk i.t
def spClosureB (P : Program) (w : World) (K : PySem.W.Frag) (C DT CB CS : Addr) : Sp := fun vs H Q E => ∃ i : BtI, i.ok ∧ spClosure P w K C DT i.A.b i.A.sm (kfB i.s i.t) (BtAt K CB CS i.A i.s i.t) 90000 vs H Q E
def spClLeastB (P : Program) (w : World) (K : PySem.W.Frag) (C DT PT : Addr) (lq : Str) : Sp := fun vs H Q E => ∃ i : BtI, i.ok ∧ spClLeast P w K C DT PT lq (kfB i.s i.t) vs H Q E
structure KindsOf (s t : Sch) (reps : List Doc) : Prop where
  nodup : (reps.map (kfB s t)).Nodup
  lab : ∀ d ∈ reps, d.lab = true
  all : ∀ e, e.lab = true → ∃ d ∈ reps, kfB s t d = kfB s t e
  nil : reps[0]? = some .nil
def LeastBad (s t : Sch) (L : Doc) : Prop := L.lab = true ∧ badP s t L = true ∧ ∀ e, e.lab = true → badP s t e = true → leD L e
def spWithin (K : PySem.W.Frag) (T1 T2 T3 DB DT PT : Addr) (lq : Str) : Sp := fun vs H Q E => ∃ (v1 v2 : V) (d1 d2 : PyData), vs = [v1, v2] ∧ Dp K H v1 d1 ∧ Dp K H v2 d2 ∧ fewSc d1 ∧ fewSc d2 ∧ GxR.TabG H T1 ∧ GxR.TabG H T2 ∧ GxR.TabG H T3 ∧ LamT PT lq H ∧
  ((schemaD d1 = false ∧ XE0 E DB H) ∨ ∃ s, d1 = schD s ∧ SchOk s ∧ ((schemaD d2 = false ∧ XE0 E DB H) ∨ ∃ t, d2 = schD t ∧ SchOk t ∧
    (tooMany (kfB s t) 60 → XE0 E DT H) ∧
    ((∃ e : Doc, e.lab = true ∧ badP s t e = true) → ∃ L, LeastBad s t L ∧ ((300 < L.size ∨ 30 < L.dep) → XEL E DT PT lq H) ∧ (L.size ≤ 300 → L.dep ≤ 30 → ∀ H' x, Gr [PT] H H' → LamT PT lq H' → Dp K H' x (.tuple [.str "no", L.data]) → Q x H')) ∧
    ((∀ e : Doc, e.lab = true → badP s t e = false) → ∀ H' x reps, Gr [] H H' → KindsOf s t reps → Dp K H' x (.tuple [.str "yes", .tuple (reps.map (viewD s t))]) → Q x H')))
end LW
namespace LW
open PySem PySem.Spec PyProof.Rows L2
def ToldL (K : PySem.W.Frag) (Q : VK) (P : Addr) (q : Str) (H : Hp) (d : PyData) : Prop := ∀ H' x, Gr [P] H H' → LamT P q H' → Dp K H' x d → Q x H'
def spTold09 (K : PySem.W.Frag) (T1 T2 T3 PT : Addr) (lq : Str) : Sp := fun vs H Q _ => ∃ (v1 v2 : V) (s t : Sch), vs = [v1, v2] ∧ Dp K H v1 (schD s) ∧ Dp K H v2 (schD t) ∧ SchOk s ∧ SchOk t ∧ GxR.TabG H T1 ∧ GxR.TabG H T2 ∧ GxR.TabG H T3 ∧ LamT PT lq H ∧
  (tooMany (kfB s t) 60 → Told K Q H (.str "much")) ∧
  ((∃ e : Doc, e.lab = true ∧ badP s t e = true) → ∃ L, LeastBad s t L ∧ ((300 < L.size ∨ 30 < L.dep) → ToldL K Q PT lq H (.str "much")) ∧ (L.size ≤ 300 → L.dep ≤ 30 → ToldL K Q PT lq H (.tuple [.str "no", L.data]))) ∧
  ((∀ e : Doc, e.lab = true → badP s t e = false) → ∀ reps, KindsOf s t reps → Told K Q H (.tuple [.str "yes", .tuple (reps.map (viewD s t))]))
end LW
set_option maxHeartbeats 2000000
namespace LW
open PySem PySem.Spec PyProof.Rows L2
structure VuOk {ι : Type} (dat : ι → PyData) : Prop where
  pu : ∀ d, pure1 (dat d) = true
  cl : ∀ d, (dat d).canLay0 = true
  dp : ∀ d, (dat d).depth ≤ 50
  eq : ∀ d e, PyData.eqv (dat d) (dat e) = true ↔ dat d = dat e
section
variable {ι : Type} {dat : ι → PyData}
theorem VuOk.sh (h : VuOk dat) (d : ι) : SeqAt.shaped (dat d) = true := by
  unfold SeqAt.shaped
  rw [h.cl, Bool.true_and]
  exact decide_eq_true (by have := h.dp d; omega)
theorem VuOk.lay (h : VuOk dat) (us : List ι) : (PyData.list (us.map dat)).canLay0 = true := by
  rw [PyData.canLay0]
  exact canAll_iff.mpr fun x hx => by obtain ⟨d, _, rfl⟩ := List.mem_map.mp hx; exact h.cl d
theorem VuOk.any (h : VuOk dat) (us : List ι) (d : ι) : ((us.map dat).any fun z => PyData.eqv z (dat d)) = true ↔ dat d ∈ us.map dat := by
  rw [List.any_eq_true]
  constructor
  · rintro ⟨x, hx, e⟩
    obtain ⟨d', hd', rfl⟩ := List.mem_map.mp hx
    rw [h.eq] at e
    rw [← e]; exact hx
  · exact fun hm => ⟨dat d, hm, (h.eq _ _).mpr rfl⟩
end
def spBeginI {ι : Type} (K : PySem.W.Frag) (wd : PyData) (dat : ι → PyData) (b0 : ι) : Sp := fun vs H Q _ => ∃ v : V, vs = [v] ∧ Dp K H v wd ∧ ∀ H' x, Gr [] H H' → Dp K H' x (dat b0) → Q x H'
def spFollowI {ι : Type} (K : PySem.W.Frag) (wd : PyData) (dat : ι → PyData) (fo : Nat → ι → ι → ι) : Sp := fun vs H Q _ => ∃ (wv kv rv : V) (a : Nat) (k r : ι), vs = [wv, natV a, kv, rv] ∧ a < 5 ∧ Dp K H wv wd ∧ Dp K H kv (dat k) ∧ Dp K H rv (dat r) ∧ ∀ H' x, Gr [] H H' → Dp K H' x (dat (fo a k r)) → Q x H'
def spBadI {ι : Type} (K : PySem.W.Frag) (wd : PyData) (dat : ι → PyData) (bd : ι → Bool) : Sp := fun vs H Q _ => ∃ (wv pv' : V) (d : ι), vs = [wv, pv'] ∧ Dp K H wv wd ∧ Dp K H pv' (dat d) ∧ Q (.bl (bd d)) H
structure RightP {ι : Type} (dat : ι → PyData) (b0 : ι) (fo : Nat → ι → ι → ι) (bd : ι → Bool) (Lb : List Nat) (us : List ι) : Prop where
  beg : dat b0 ∈ us.map dat
  good : ∀ u ∈ us, bd u = false
  clo : ∀ l ∈ Lb, ∀ k ∈ us, ∀ r ∈ us, dat (fo l k r) ∈ us.map dat
def spRight {ι : Type} (K : PySem.W.Frag) (wd : PyData) (dat : ι → PyData) (b0 : ι) (fo : Nat → ι → ι → ι) (bd : ι → Bool) : Sp := fun vs H Q _ => ∃ (wv lv vv : V) (Lb : List Nat) (us : List ι), vs = [wv, lv, vv] ∧ Dp K H wv wd ∧ Dp K H lv (lbD Lb) ∧ (∀ l ∈ Lb, l < 5) ∧ Dp K H vv (.tuple (us.map dat)) ∧ us.length ≤ 10000 ∧
  ∀ H' b, Gr [] H H' → (b = true ↔ RightP dat b0 fo bd Lb us) → Q (.bl b) H'
structure OnceOf {ι : Type} (dat : ι → PyData) (us os : List ι) : Prop where
  sub : ∀ o ∈ os, o ∈ us
  all : ∀ u ∈ us, dat u ∈ os.map dat
end LW
set_option maxHeartbeats 2000000
namespace LW
open PySem PySem.Spec PyProof.Rows L2
structure Uni (s : Sch) (m lo : Nat) (x y : Nat → Nat) : Prop where
  len : s.length = m + 1
  fin : s[m]? = some (true, [])
  at_ : ∀ k, k < m → s[k]? = some (false, [(lo, x k, y k)])
  up : ∀ k, k < m → (k < x k ∧ x k ≤ m) ∧ k < y k ∧ y k ≤ m
section
variable {s : Sch} {m lo : Nat} {x y : Nat → Nat} {L : Nat → Doc}
theorem uni_only (h : Uni s m lo x y) (hm : L m = .nil) (hk : ∀ k, k < m → L k = .cons (lo : Int) (L (x k)) (L (y k))) : ∀ (e : Doc) (k : Nat), k ≤ m → accS s e k = true → e = L k
  | .nil, k, hkm, he => by
    rcases Nat.lt_or_ge k m with hlt | hge
    · have : (endsS s).getD k false = true := he
      rw [endsS, List.getD_eq_getElem?_getD, List.getElem?_map, h.at_ k hlt] at this
      cases this
    · have : k = m := by omega
      rw [this, hm]
  | .cons a c d, k, hkm, he => by
    have ih1 := uni_only h hm hk c
    have ih2 := uni_only h hm hk d
    obtain ⟨l, x', y', hm', rfl, f1, f2⟩ := acc_cons.mp he
    obtain ⟨i, st, g1, g2, g3⟩ := rulesFrom_mem.mp hm'
    have : i = k := by dsimp only at g2; omega
    subst this
    rcases Nat.lt_or_ge i m with hlt | hge
    · rw [h.at_ i hlt] at g1; cases g1
      have := List.mem_singleton.mp g3
      obtain ⟨u1, u2⟩ := h.up i hlt
      simp only [Prod.mk.injEq] at this
      obtain ⟨rfl, rfl, rfl⟩ := this
      rw [hk i hlt, ← ih1 _ u1.2 f1, ← ih2 _ u2.2 f2]
    · have : i = m := by omega
      subst this
      rw [h.fin] at g1; cases g1
      simp at g3
end
def noneS : Sch := [(false, [])]
def nnD : Doc → Prop
  | .nil => True
  | .cons a k r => 0 ≤ a ∧ nnD k ∧ nnD r
theorem bit_acc (s : Sch) : ∀ (d : Doc) (q : Nat), nnD d → (setB s d).testBit q = accS s d q
  | .nil, q, _ => by
    rw [Bool.eq_iff_iff]
    show (emptyB s).testBit q = true ↔ (endsS s).getD q false = true
    rw [emptyB_bit, endsS, List.getD_eq_getElem?_getD, List.getElem?_map]
    cases e : s[q]? with
    | none => simp
    | some st => simp
  | .cons a k r, q, ⟨h0, hk, hr⟩ => by
    rw [Bool.eq_iff_iff]
    show (afterB s a.toNat (setB s k) (setB s r)).testBit q = true ↔ accR (endsS s) (rulesFrom 0 s) (.cons a k r) q = true
    rw [afterB_bit, acc_cons]
    constructor
    · rintro ⟨st, e, u, hu, h1, h2, h3⟩
      rw [bit_acc s k _ hk] at h2
      rw [bit_acc s r _ hr] at h3
      exact ⟨u.1, u.2.1, u.2.2, rulesFrom_mem.mpr ⟨q, st, e, by simp, hu⟩, by omega, h2, h3⟩
    · rintro ⟨l, x, y, hm, hl, h2, h3⟩
      obtain ⟨i, st, e1, e2, e3⟩ := rulesFrom_mem.mp hm
      have : i = q := by dsimp only at e2; omega
      subst this
      exact ⟨st, e1, (l, x, y), e3, by show l = a.toNat; omega, by rw [bit_acc s k _ hk]; exact h2, by rw [bit_acc s r _ hr]; exact h3⟩
def nrm : Doc → Doc
  | .nil => .nil
  | .cons a k r => .cons (a.toNat : Int) (nrm k) (nrm r)
theorem nrm_nn : ∀ d, nnD (nrm d)
  | .nil => True.intro
  | .cons _ k r => ⟨by omega, nrm_nn k, nrm_nn r⟩
theorem nrm_set (s : Sch) : ∀ d, setB s (nrm d) = setB s d
  | .nil => rfl
  | .cons a k r => by
    show afterB s ((a.toNat : Int).toNat) (setB s (nrm k)) (setB s (nrm r)) = afterB s a.toNat (setB s k) (setB s r)
    rw [nrm_set s k, nrm_set s r, Int.toNat_natCast]
theorem nrm_kf (s t : Sch) (d : Doc) : kfB s t (nrm d) = kfB s t d := by rw [kfB_eq]; exact ⟨nrm_set s d, nrm_set t d⟩
theorem noneS_set (d : Doc) : setB noneS d = 0 := by
  have h := setB_lt noneS d
  have b : ∀ q, (setB noneS d).testBit q = false := fun q => by
    rw [← nrm_set, bit_acc _ _ _ (nrm_nn d)]
    cases d with
    | nil => cases q <;> rfl
    | cons a k r =>
      cases e : accS noneS (nrm (.cons a k r)) q with
      | false => rfl
      | true =>
        obtain ⟨l, x', y', hm', _⟩ := acc_cons.mp e
        cases hm'
  exact Nat.eq_of_testBit_eq fun q => by rw [b q, Nat.zero_testBit]
theorem pigeon {α : Type} [DecidableEq α] {l : List α} {n : Nat} {g : Nat → α} (nd : l.Nodup) (h : ∀ a ∈ l, ∃ i < n, a = g i) : l.length ≤ n := by
  have := List.Nodup.length_le_of_subset nd (l₂ := (List.range n).map g) fun a ha => by
    obtain ⟨i, hi, rfl⟩ := h a ha
    exact List.mem_map_of_mem (List.mem_range.mpr hi)
  rwa [List.length_map, List.length_range] at this
section
variable {s : Sch} {m lo : Nat} {x y : Nat → Nat} {L : Nat → Doc}
theorem Uni.few (h : Uni s m lo x y) (hok : SchOk s) (hm : L m = .nil) (hk : ∀ k, k < m → L k = .cons (lo : Int) (L (x k)) (L (y k))) (h58 : m ≤ 57) : ¬ tooMany (kfB s noneS) 60 := fun ⟨ds, hl, nd, _⟩ => by
  have := pigeon (n := m + 2) (g := fun i => if i = 0 then NestedKey.tup [.num 0, .num 0] else kfB s noneS (L (i - 1))) nd fun a ha => by
    obtain ⟨d, hd, rfl⟩ := List.mem_map.mp ha
    by_cases hz : setB s d = 0
    · exact ⟨0, by omega, by rw [if_pos rfl, kfB, hz, noneS_set]; rfl⟩
    · obtain ⟨q, hq⟩ : ∃ q, (setB s d).testBit q = true := by
        refine Classical.byContradiction fun hn => hz (Nat.eq_of_testBit_eq fun q => ?_)
        rw [Nat.zero_testBit]
        cases e : (setB s d).testBit q with
        | false => rfl
        | true => exact absurd ⟨q, e⟩ hn
      have hqm : q ≤ m := by
        have h1 := setB_lt s d
        rcases Nat.lt_or_ge q s.length with hq' | hq'
        · have := h.len; omega
        · rw [Nat.testBit_lt_two_pow (Nat.lt_of_lt_of_le h1 (Nat.pow_le_pow_right (by omega) hq'))] at hq; cases hq
      rw [← nrm_set, bit_acc s _ _ (nrm_nn d)] at hq
      refine ⟨q + 1, by omega, ?_⟩
      rw [if_neg (by omega), Nat.add_sub_cancel, ← nrm_kf, ← uni_only h hm hk (nrm d) q hqm hq]
  rw [List.length_map] at this
  omega
end
end LW
set_option maxHeartbeats 2000000
namespace LW
open PySem PySem.Spec PyProof.Rows L2
structure FnG (P : Program) (w : World) (K : PySem.W.Frag) (mg : Str → Option Value) (base : Heap) (k : Nat) (name : Str) (ps : List Str) (sp : Sp) : Prop where
  len : ∀ vs H Q E, sp vs H Q E → vs.length = ps.length
  ex : ∃ f fd, (∀ A, Room k A → A.guards = some [] → FnAt P w K mg base CX0 A f fd ps sp) ∧ mg name = some (.ref f) ∧ PySem.W.keepIn K (.ref f) = true ∧ Binds K fd ps []
theorem FnG.mono {P : Program} {w : World} {K : PySem.W.Frag} {mg : Str → Option Value} {base : Heap} {j k : Nat} {name : Str} {ps : List Str} {sp : Sp} (F : FnG P w K mg base j name ps sp) (h : j ≤ k) : FnG P w K mg base k name ps sp := by
  obtain ⟨f, fd, G, m, kk, b⟩ := F.ex
  exact ⟨F.len, f, fd, fun A hr hg => G A (hr.mono h) hg, m, kk, b⟩
section
variable {X : Cx} {k : Nat} {x : Str} {ps : List Str} {sp : Sp} {p pos : Pos} {e : Expr} {es : List Expr} {t : TA}
end
end LW
set_option maxHeartbeats 2000000
namespace LW
open PySem PySem.Spec PyProof.Rows L2
section
variable {s : Sch} {m lo : Nat} {x y : Nat → Nat}
end
def dblSL (lo m : Nat) : Sch := ((List.range m).map fun k => (false, [(lo, k + 1, k + 1)])) ++ [(true, [])]
def stpS (lo m : Nat) : Sch := ((List.range m).map fun k => (false, [(lo, k + 1, m)])) ++ [(true, [])]
def ahdS (lo m : Nat) : Sch := (false, [(lo, m + 1, 1)]) :: mvS 1 (stpS lo m)
def dblL (lo : Nat) : Nat → Doc
  | 0 => .nil
  | m + 1 => .cons (lo : Int) (dblL lo m) (dblL lo m)
def towL (lo : Nat) : Nat → Doc
  | 0 => .nil
  | m + 1 => .cons (lo : Int) (towL lo m) .nil
def dueL (lo m : Nat) : Doc := .cons (lo : Int) .nil (towL lo m)
def ahdL (lo m k : Nat) : Doc := if k = 0 then dueL lo m else towL lo (m + 1 - k)
def paperD (L : Doc) : PyData := if L.size ≤ 300 ∧ L.dep ≤ 30 then .tuple [.str "no", L.data] else .str "much"
section
variable {K : PySem.W.Frag} {T1 T2 T3 PT : Addr} {lq : Str} {H : Hp} {Q : VK} {E : XK} {v u : V} {s : Sch} {m lo : Nat} {x y : Nat → Nat} {L : Nat → Doc}
end
section
variable {K : PySem.W.Frag} {bx cl P : Addr} {q : Str} {H H' : Hp}
theorem BoxAt.grL (h : BoxAt H bx cl) (hT : LamT P q H) (g : Gr [P] H H') : BoxAt H' bx cl := by
  obtain ⟨ns, b0, b1, b2, h1, h2, h3, h4⟩ := h
  exact ⟨ns, b0, b1, b2, hT.lst g h1, hT.lst g h2, h3, h4⟩
theorem notBL {o : HO} {b : Addr} (hB : BoxAt H bx cl) (hT : LamT P q H) (e : H b = some o) (n1 : ∀ xs, o ≠ .lst xs) (n2 : ∀ φ, o ≠ .ext φ) : b ∉ [bx, P] := fun z => by
  rcases List.mem_cons.mp z with z | z
  · obtain ⟨ys, ey⟩ := hB.lst bx (List.mem_singleton.mpr rfl)
    rw [z, ey] at e
    exact n1 _ (Option.some.inj e).symm
  · exact hT.not e n2 z
mutual
theorem dp_grBL (hB : BoxAt H bx cl) (hT : LamT P q H) (g : Gr [bx, P] H H') : ∀ (d : PyData) (v : V), pure1 d = true → Dp K H v d → Dp K H' v d
  | .none, _, _, h => by cases h; exact .non
  | .bool b, _, _, h => by cases h; exact .bl b
  | .int i, _, _, h => by cases h; exact .int i
  | .str x, _, _, h => by cases h; exact .str x
  | .list ds, _, p, h => nomatch p
  | .tuple ds, _, p, h => by
    cases h with
    | tup hs ha =>
      refine .tup ?_ (dpAll_grBL hB hT g ds _ p ha)
      rcases hs with (e | ⟨o, e⟩) | e
      · exact .inl (.inl (g.tup (notBL hB hT e (fun _ z => by cases z) fun _ z => by cases z) e))
      · exact .inl (.inr ⟨o, g.keep _ _ (notBL hB hT e (fun _ z => by cases z) fun _ z => by cases z) e fun _ z => by cases z⟩)
      · exact .inr e
  | .dict _, _, _, h => by cases h
theorem dpAll_grBL (hB : BoxAt H bx cl) (hT : LamT P q H) (g : Gr [bx, P] H H') : ∀ (ds : List PyData) (vs : List V), pureAll ds = true → DpAll K H vs ds → DpAll K H' vs ds
  | [], _, _, h => by cases h; exact .nil
  | d :: ds, _, p, h => by
    have p' : pure1 d = true ∧ pureAll ds = true := by
      have q : (pure1 d && pureAll ds) = true := p
      simpa using q
    cases h with
    | cons h1 h2 => exact .cons (dp_grBL hB hT g d _ p'.1 h1) (dpAll_grBL hB hT g ds _ p'.2 h2)
end
end
structure FrL (K : PySem.W.Frag) (bx cl PT : Addr) (lq : Str) (Ts : List Addr) (H : Hp) (vs : List V) (ds : List PyData) : Prop where
  fr : Fr K bx cl Ts H vs ds []
  lam : LamT PT lq H
section
variable {K : PySem.W.Frag} {bx cl PT : Addr} {lq : Str} {Ts : List Addr} {H H' : Hp} {vs : List V} {ds : List PyData} {v x : V} {d : PyData}
theorem FrL.gr (h : FrL K bx cl PT lq Ts H vs ds) (g : Gr [] H H') : FrL K bx cl PT lq Ts H' vs ds := ⟨h.fr.gr g, h.lam.gr0 g⟩
theorem FrL.grl (h : FrL K bx cl PT lq Ts H vs ds) (g : Gr [PT] H H') (hT : LamT PT lq H') : FrL K bx cl PT lq Ts H' vs ds :=
  ⟨⟨h.fr.box.grL h.lam g, dpAll_grL h.lam g _ _ h.fr.da, h.fr.pu, h.fr.tb.gr g, by simp, by simp⟩, hT⟩
theorem FrL.push (h : FrL K bx cl PT lq Ts H vs ds) (hx : Dp K H x d) (hp : pure1 d = true) : FrL K bx cl PT lq Ts H (x :: vs) (d :: ds) := ⟨h.fr.push hx hp, h.lam⟩
theorem FrL.pop (h : FrL K bx cl PT lq Ts H (x :: vs) (d :: ds)) : FrL K bx cl PT lq Ts H vs ds := ⟨h.fr.pop, h.lam⟩
end
def spChains (K : PySem.W.Frag) (Ts : List Addr) (PT : Addr) (lq : Str) : Sp := fun vs H Q _ => ∃ (bx cl : Addr) (lo : Nat), vs = [.ref bx, natV lo] ∧ lo < 5 ∧ BoxAt H bx cl ∧ Tbs Ts H ∧ LamT PT lq H ∧ ∀ H', Gr [bx, PT] H H' → BoxAt H' bx cl → LamT PT lq H' → Q (.bl true) H'
end LW
set_option maxHeartbeats 2000000
namespace LW
open PySem PySem.Spec PyProof.Rows L2
theorem natsD_inj {ns ms : List Nat} (h : natsD ns = natsD ms) : ns = ms := by
  unfold natsD at h
  have h : (ns.map fun n : Nat => PyData.int (n : Int)) = ms.map fun n : Nat => PyData.int (n : Int) := by injection h
  have inj : ∀ (ns ms : List Nat), (ns.map fun n : Nat => PyData.int (n : Int)) = (ms.map fun n : Nat => PyData.int (n : Int)) → ns = ms := fun ns => by
    induction ns with
    | nil => intro ms h; cases ms with
      | nil => rfl
      | cons _ _ => cases h
    | cons n ns ih =>
      intro ms h
      cases ms with
      | nil => cases h
      | cons m ms =>
        rw [List.map_cons, List.map_cons, List.cons.injEq, PyData.int.injEq] at h
        rw [ih ms h.2, show n = m by omega]
  exact inj ns ms h
theorem mems_inj {x y n : Nat} (hx : x < 2 ^ n) (hy : y < 2 ^ n) (h : LB.mems x n = LB.mems y n) : x = y := by
  refine Nat.eq_of_testBit_eq fun q => ?_
  have hh : (LB.mems x n).contains q = (LB.mems y n).contains q := by rw [h]
  rw [mems_contains, mems_contains] at hh
  rcases Nat.lt_or_ge q n with hq | hq
  · rw [decide_eq_true hq, Bool.true_and, Bool.true_and] at hh
    exact hh
  · rw [Nat.testBit_lt_two_pow (Nat.lt_of_lt_of_le hx (Nat.pow_le_pow_right (by omega) hq)), Nat.testBit_lt_two_pow (Nat.lt_of_lt_of_le hy (Nat.pow_le_pow_right (by omega) hq))]
theorem view_eq {s t : Sch} {d e : Doc} : viewD s t d = viewD s t e ↔ setB s d = setB s e ∧ setB t d = setB t e := by
  unfold viewD
  constructor
  · intro h
    have h : [natsD (LB.mems (setB s d) s.length), natsD (LB.mems (setB t d) t.length)] = [natsD (LB.mems (setB s e) s.length), natsD (LB.mems (setB t e) t.length)] := by injection h
    simp only [List.cons.injEq, and_true] at h
    exact ⟨mems_inj (setB_lt s d) (setB_lt s e) (natsD_inj h.1), mems_inj (setB_lt t d) (setB_lt t e) (natsD_inj h.2)⟩
  · rintro ⟨h1, h2⟩; rw [h1, h2]
theorem view_kf {s t : Sch} {d e : Doc} : viewD s t d = viewD s t e ↔ kfB s t d = kfB s t e := by rw [view_eq, kfB_eq]
def prD (p : List Nat × List Nat) : PyData := .tuple [natsD p.1, natsD p.2]
def viewP (s t : Sch) (d : Doc) : List Nat × List Nat := (LB.mems (setB s d) s.length, LB.mems (setB t d) t.length)
def usesAB (a b : Nat) (s : Sch) : Prop := ∀ st ∈ s, ∀ r ∈ st.2, r.1 = a ∨ r.1 = b
def rel (a b c : Nat) : Doc → Doc
  | .nil => .nil
  | .cons l k r => .cons ((if l.toNat = a then a else if l.toNat = b then b else c : Nat) : Int) (rel a b c k) (rel a b c r)
section
variable {a b c : Nat} {s t : Sch}
theorem rel_in : ∀ d, inLb [a, b, c] (rel a b c d)
  | .nil => True.intro
  | .cons l k r => ⟨⟨(if l.toNat = a then a else if l.toNat = b then b else c : Nat), (by
      by_cases h1 : l.toNat = a
      · rw [if_pos h1]; simp
      · rw [if_neg h1]
        by_cases h2 : l.toNat = b
        · rw [if_pos h2]; simp
        · rw [if_neg h2]; simp), rfl⟩, rel_in k, rel_in r⟩
theorem after_no {l x y : Nat} (hs : usesAB a b s) (h1 : l ≠ a) (h2 : l ≠ b) : afterB s l x y = 0 := by
  refine Nat.eq_of_testBit_eq fun q => ?_
  rw [Nat.zero_testBit]
  cases e : (afterB s l x y).testBit q with
  | false => rfl
  | true =>
    obtain ⟨st, hst, r, hr, hl, _⟩ := (afterB_bit s l x y q).mp e
    rcases hs st (List.mem_of_getElem? hst) r hr with h | h
    · exact absurd (hl.symm.trans h) h1
    · exact absurd (hl.symm.trans h) h2
theorem rel_set (hs : usesAB a b s) (hca : c ≠ a) (hcb : c ≠ b) : ∀ d, setB s (rel a b c d) = setB s d
  | .nil => rfl
  | .cons l k r => by
    show afterB s (((if l.toNat = a then a else if l.toNat = b then b else c : Nat) : Int).toNat) (setB s (rel a b c k)) (setB s (rel a b c r)) = afterB s l.toNat (setB s k) (setB s r)
    rw [rel_set hs hca hcb k, rel_set hs hca hcb r, Int.toNat_natCast]
    by_cases h1 : l.toNat = a
    · rw [if_pos h1, h1]
    · rw [if_neg h1]
      by_cases h2 : l.toNat = b
      · rw [if_pos h2, h2]
      · rw [if_neg h2, after_no hs hca hcb, after_no hs h1 h2]
structure TwoL (a b c : Nat) (s t : Sch) : Prop where
  s : usesAB a b s
  t : usesAB a b t
  ca : c ≠ a
  cb : c ≠ b
  least : ∀ l < 5, l ≠ a → l ≠ b → c ≤ l
theorem TwoL.kf (h : TwoL a b c s t) (d : Doc) : kfB s t (rel a b c d) = kfB s t d := by rw [kfB_eq]; exact ⟨rel_set h.s h.ca h.cb d, rel_set h.t h.ca h.cb d⟩
theorem TwoL.few (h : TwoL a b c s t) {rs : List Doc} (hc : ∀ e, inLb [a, b, c] e → viewD s t e ∈ rs.map (viewD s t)) {n : Nat} (hl : rs.length ≤ n) : ¬ tooMany (kfB s t) n := fun ⟨ds, hd, nd, _⟩ => by
  have := pigeon (n := rs.length) (g := fun i => kfB s t (rs.getD i .nil)) nd fun x hx => by
    obtain ⟨d, _, rfl⟩ := List.mem_map.mp hx
    obtain ⟨e, he, ev⟩ := List.mem_map.mp (hc _ (rel_in (a := a) (b := b) (c := c) d))
    obtain ⟨i, hi⟩ := List.mem_iff_getElem?.mp he
    refine ⟨i, (List.getElem?_eq_some_iff.mp hi).1, ?_⟩
    rw [List.getD_eq_getElem?_getD, hi, ← h.kf d]
    exact (view_kf.mp ev).symm
  rw [List.length_map] at this
  omega
def firstBad (s t : Sch) (rs : List Doc) : List Nat := (List.range rs.length).filter fun k => badP s t (rs.getD k .nil)
structure PaperOf (s t : Sch) (rs : List Doc) (d : PyData) : Prop where
  yes : firstBad s t rs = [] → ∃ reps, KindsOf s t reps ∧ d = .tuple [.str "yes", .tuple (reps.map (viewD s t))]
  no : ∀ k ks, firstBad s t rs = k :: ks → ∃ L, rs[k]? = some L ∧ d = paperD L
end
end LW
set_option maxHeartbeats 2000000
namespace LW
open PySem PySem.Spec PyProof.Rows L2
abbrev STI := Sch × Sch
def spRanked09 (K : PySem.W.Frag) : Sp := fun vs H Q E => ∃ i : STI, (SchOk i.1 ∧ SchOk i.2) ∧ spRanked K (whatD i.1 i.2) (viewD i.1 i.2) vs H Q E
def spRight09 (K : PySem.W.Frag) : Sp := fun vs H Q E => ∃ i : STI, (SchOk i.1 ∧ SchOk i.2) ∧ spRight K (whatD i.1 i.2) (viewD i.1 i.2) Doc.nil (fun (a : Nat) k r => Doc.cons (a : Int) k r) (badP i.1 i.2) vs H Q E
section
variable {K : PySem.W.Frag} {s t : Sch}
end
end LW
set_option maxHeartbeats 2000000
namespace LW
open PySem PySem.Spec PyProof.Rows L2
abbrev Mk2 := Nat × Nat
def mkD (n m : Nat) (u : Mk2) : PyData := .tuple [natsD (LB.mems u.1 n), natsD (LB.mems u.2 m)]
end LW
namespace LW
open PySem PySem.Spec PyProof.Rows L2
abbrev foM (s t : Sch) (a : Nat) (u v : Mk2) : Mk2 := (afterB s a u.1 v.1, afterB t a u.2 v.2)
abbrev b0M (s t : Sch) : Mk2 := (emptyB s, emptyB t)
def bdM (u : Mk2) : Bool := u.1.testBit 0 && !u.2.testBit 0
def spFollowM (K : PySem.W.Frag) : Sp := fun vs H Q _ => ∃ (wv kv rv : V) (s t : Sch) (a : Nat) (u v : Mk2), vs = [wv, natV a, kv, rv] ∧ Dp K H wv (whatD s t) ∧ SchOk s ∧ SchOk t ∧ Dp K H kv (mkD s.length t.length u) ∧ Dp K H rv (mkD s.length t.length v) ∧ ∀ H' x, Gr [] H H' → Dp K H' x (mkD s.length t.length (foM s t a u v)) → Q x H'
def spBadM (K : PySem.W.Frag) : Sp := fun vs H Q _ => ∃ (wv pv' : V) (s t : Sch) (u : Mk2), vs = [wv, pv'] ∧ SchOk s ∧ SchOk t ∧ Dp K H pv' (mkD s.length t.length u) ∧ Q (.bl (bdM u)) H
section
variable {K : PySem.W.Frag} {s t : Sch}
end
end LW
namespace LW
open PySem PySem.Spec PyProof.Rows L2
def spSizeW (K : PySem.W.Frag) (n : Nat) : Sp := fun vs H Q _ => ∃ (d : Doc) (v : V), vs = [v] ∧ Dp K H v d.data ∧ d.dep < n ∧ d.size ≤ 20000 ∧ ∀ H', Gr [] H H' → Q (.int d.size) H'
end LW
set_option maxHeartbeats 2000000
namespace LW
open PySem PySem.Spec PyProof.Rows L2
def rNotInDT (K : PySem.W.Frag) : R2 := fun x y H Q => ∃ d ds, Dp K H x d ∧ Dp K H y (.tuple ds) ∧ SeqAt.shaped d = true ∧ SeqAt.shaped (.tuple ds) = true ∧ Q (.bl (!ds.any fun z => PyData.eqv z d)) H
def dueP (s t : Sch) (Lb : List Nat) (d : PyData) : Prop := (∃ L : Doc, d = .tuple [.str "no", L.data] ∧ L.ok ∧ badP s t L = true) ∨
  (∃ us : List Mk2, d = .tuple [.str "yes", .tuple (us.map (mkD s.length t.length))] ∧ us.length ≤ 150 ∧ RightP (mkD s.length t.length) (b0M s t) (foM s t) bdM Lb us)
structure FewQ (d : PyData) : Prop where
  word : ∀ x y, d = .tuple [x, y] → SeqAt.shaped x = true ∧ x.canLay0 = true
  deep : ∀ x y, d = .tuple [x, y] → y.depth < 80
  doc : ∀ x (L : Doc), d = .tuple [x, L.data] → L.size ≤ 900 ∧ L.dep < 70
  pairs : ∀ x ps, d = .tuple [x, .tuple ps] → ps.length ≤ 1000000 ∧ ∀ u v, PyData.tuple [u, v] ∈ ps → (∀ es, u = .tuple es → es.length ≤ 1000000) ∧ (∀ es, v = .tuple es → es.length ≤ 1000000)
def spDue (K : PySem.W.Frag) : Sp := fun vs H Q _ => ∃ (sv tv pv' lv : V) (s t : Sch) (d : PyData) (Lb : List Nat), vs = [sv, tv, pv', lv] ∧ Dp K H sv (schD s) ∧ Dp K H tv (schD t) ∧ SchOk s ∧ SchOk t ∧ Dp K H pv' d ∧ Dp K H lv (lbD Lb) ∧ (∀ l ∈ Lb, l < 5) ∧ FewQ d ∧ ∀ H' b, Gr [] H H' → (b = true ↔ dueP s t Lb d) → Q (.bl b) H'
abbrev STJ := Sch × Sch
def spRightM (K : PySem.W.Frag) : Sp := fun vs H Q E => ∃ i : STJ, (SchOk i.1 ∧ SchOk i.2) ∧ spRight K (whatD i.1 i.2) (mkD i.1.length i.2.length) (b0M i.1 i.2) (foM i.1 i.2) bdM vs H Q E
end LW
set_option maxHeartbeats 2000000
namespace LW
open PySem PySem.Spec PyProof.Rows L2
def W0 (n B : Nat) (P0 : Nat → Hp → Prop) : Nat → Nat → Hp → Prop := fun i m H => m = (n - i) * (B + 1) + 1 ∧ i ≤ n ∧ P0 i H
def W1 (z n B : Nat) (P1 : Nat → L2.St → Hp → Prop) : Nat → Nat → L2.St → Hp → Prop := fun i m σ H => m = z + (n - i) * (B + 1) + 1 ∧ i ≤ n ∧ P1 i σ H
def W2 (z n : Nat) (P2 : Nat → L2.St → Hp → Prop) : Nat → Nat → L2.St → Hp → Prop := fun i m σ H => m = z + (n - i) + 1 ∧ i ≤ n ∧ P2 i σ H
section
variable {J : It} {n : Nat} {G : Hp → Prop} {Y : Nat → Hp → V → Hp → Prop} {g g0 g1 g2 : TG} {wi1 wi2 : TI} {te : TE} {c : Bool} {vs : List Nat} {σ : L2.St} {Q : VK} {H1 : Hp}
theorem gl0 (w : Walk J n G Y) (B : Nat) (P0 : Nat → Hp → Prop) (h0 : P0 0 H1) (hG : ∀ i H, i ≤ n → P0 i H → G H)
    (hs : ∀ i x H H', i < n → P0 i H → Y i H x H' → g0 x (wipe σ vs) H' fun σ2 H2 => wi1 σ2 H2 fun J1 H3 => ∃ W1 : Nat → Nat → L2.St → Hp → Prop, (∃ m', m' < (n - i) * (B + 1) + 1 ∧ W1 0 m' σ2 H3) ∧ GL1 J1 g1 wi2 g2 te c Q (fun m' σ' H' => wipe σ' vs = wipe σ vs ∧ W0 n B P0 (i + 1) m' H') W1)
    (hd : ∀ H, P0 n H → Q (.bl c) H) : ∃ W : Nat → Nat → Hp → Prop, (∃ m, W 0 m H1) ∧ GL0 J g0 wi1 g1 wi2 g2 te c vs σ Q W := by
  refine ⟨W0 n B P0, ⟨_, rfl, Nat.zero_le _, h0⟩, ?_⟩
  rintro i m H ⟨rfl, hi, p⟩
  have q := hG i H hi p
  by_cases hlt : i < n
  · exact .inr ⟨w.goes i H hlt q, fun x H' y => hs i x H H' hlt p (w.yields i H x H' hlt q y)⟩
  · obtain rfl : i = n := by omega
    exact .inl ⟨w.stops H q, hd H p⟩
theorem gl1 {E : Nat → L2.St → Hp → Prop} {L : Nat} (w : Walk J n G Y) (z B : Nat) (hL : z + n * (B + 1) + 2 ≤ L) (P1 : Nat → L2.St → Hp → Prop) (h0 : P1 0 σ H1) (hG : ∀ i σ H, i ≤ n → P1 i σ H → G H)
    (hs : ∀ i x σ H H', i < n → P1 i σ H → Y i H x H' → g1 x σ H' fun σ2 H2 => wi2 σ2 H2 fun J2 H3 => ∃ V2 : Nat → Nat → L2.St → Hp → Prop, (∃ m', m' < z + (n - i) * (B + 1) + 1 ∧ V2 0 m' σ2 H3) ∧ GL2 J2 g2 te c Q (W1 z n B P1 (i + 1)) V2)
    (hd : ∀ σ H, P1 n σ H → E z σ H) : ∃ W : Nat → Nat → L2.St → Hp → Prop, (∃ m', m' < L ∧ W 0 m' σ H1) ∧ GL1 J g1 wi2 g2 te c Q E W := by
  refine ⟨W1 z n B P1, ⟨_, by rw [Nat.sub_zero]; omega, rfl, Nat.zero_le _, h0⟩, ?_⟩
  rintro i m σ H ⟨rfl, hi, p⟩
  have q := hG i σ H hi p
  by_cases hlt : i < n
  · exact .inr ⟨w.goes i H hlt q, fun x H' y => hs i x σ H H' hlt p (w.yields i H x H' hlt q y)⟩
  · obtain rfl : i = n := by omega
    exact .inl ⟨w.stops H q, z, by omega, hd σ H p⟩
theorem gl2 {E : Nat → L2.St → Hp → Prop} {L : Nat} (w : Walk J n G Y) (z : Nat) (hL : z + n + 2 ≤ L) (P2 : Nat → L2.St → Hp → Prop) (h0 : P2 0 σ H1) (hG : ∀ i σ H, i ≤ n → P2 i σ H → G H)
    (hs : ∀ i x σ H H', i < n → P2 i σ H → Y i H x H' → g2 x σ H' fun σ2 H2 => te σ2 H2 fun y H3 => ∃ b, y = .bl b ∧ if b = c then ∃ m', m' < z + (n - i) + 1 ∧ W2 z n P2 (i + 1) m' σ2 H3 else Q (.bl (!c)) H3)
    (hd : ∀ σ H, P2 n σ H → E z σ H) : ∃ W : Nat → Nat → L2.St → Hp → Prop, (∃ m', m' < L ∧ W 0 m' σ H1) ∧ GL2 J g2 te c Q E W := by
  refine ⟨W2 z n P2, ⟨_, by omega, rfl, Nat.zero_le _, h0⟩, ?_⟩
  rintro i m σ H ⟨rfl, hi, p⟩
  have q := hG i σ H hi p
  by_cases hlt : i < n
  · exact .inr ⟨w.goes i H hlt q, fun x H' y => hs i x σ H H' hlt p (w.yields i H x H' hlt q y)⟩
  · obtain rfl : i = n := by omega
    exact .inl ⟨w.stops H q, z, by omega, hd σ H p⟩
end
def spAftJ (K : PySem.W.Frag) {ι : Type} (sp : Addr) (sm : List Addr) (kf : ι → NestedKey) (fo : Nat → ι → ι → ι) (SI : List Addr → Nat → Hp → Prop) (lim : Nat) : Sp := fun vs H Q _ => ∃ (cm : List Addr) (n l : Nat) (va vb : V) (k r : ι), vs = [.ref sp, natV l, va, vb] ∧ l < 5 ∧ SI cm n H ∧ n < lim ∧ (∀ b ∈ cm, H b ≠ none) ∧ Dp K H va (kf k).data ∧ Dp K H vb (kf r).data ∧
  ∀ H' x, Gr sm H H' → SI cm (n + 1) H' → Dp K H' x (kf (fo l k r)).data → Q x H'
structure StepJ (P : Program) (w : World) (K : PySem.W.Frag) (mg : Str → Option Value) (base : Heap) (lev : Nat) {ι : Type} (CB sp : Addr) (sm : List Addr) (kf : ι → NestedKey) (e0 : ι) (fo : Nat → ι → ι → ι) (SI : List Addr → Nat → Hp → Prop) (lim : Nat) : Prop where
  cl : Cls K CB
  nE : NoAttr K CB "empty"
  ins : ∀ {cm n H}, SI cm n H → ∃ dx fs ev, H sp = some (.ins CB dx fs) ∧ fs.lookup ("after" : Str) = none ∧ fs.lookup ("empty" : Str) = some (.ref ev) ∧ Dp K H (.ref ev) (kf e0).data
  apart : ∀ {cm n H}, SI cm n H → Apart sm H
  keep : ∀ {cm n H H'}, SI cm n H → Gr [] H H' → SI cm n H'
  ok : ∀ d, keyOkN (kf d)
  after : Mt P w K mg base CX0 lev CB "after" ["self", "label", "inside", "rest"] (spAftJ K sp sm kf fo SI lim)
def knownN {ι : Type} (kf : ι → NestedKey) (us : List ι) : List (NestedKey × V) := us.map fun u => (kf u, .bl true)
def closedJ {ι : Type} (kf : ι → NestedKey) (e0 : ι) (fo : Nat → ι → ι → ι) (us : List ι) : Prop := (∃ u ∈ us, kf u = kf e0) ∧ ∀ l < 5, ∀ k ∈ us, ∀ r ∈ us, ∃ u ∈ us, kf u = kf (fo l k r)
def spClosed (P : Program) (w : World) (K : PySem.W.Frag) {ι : Type} (sp : Addr) (sm : List Addr) (kf : ι → NestedKey) (e0 : ι) (fo : Nat → ι → ι → ι) (SI : List Addr → Nat → Hp → Prop) (lim : Nat) (T : Addr) : Sp := fun vs H Q _ => ∃ (n : Nat) (kn : Addr) (us : List ι), vs = [.ref sp, .ref kn] ∧ SI [] n H ∧ NDict P w K H kn (knownN kf us) ∧ kn ∉ sm ∧ n + 5 * (us.length * us.length) ≤ lim ∧ GxR.TabG H T ∧
  ∀ H' b, Gr sm H H' → (b = true ↔ closedJ kf e0 fo us) → Q (.bl b) H'
end LW
namespace LW
open PySem PySem.Spec PyProof.Rows L2
end LW
set_option maxHeartbeats 2000000
namespace LW
open PySem PySem.Spec PyProof.Rows L2
def nkD (u : Mk2) : PyData := .tuple [.int (u.1 : Int), .int (u.2 : Int)]
def kfM (u : Mk2) : NestedKey := .tup [.num u.1, .num u.2]
def spIsBadM (K : PySem.W.Frag) : Sp := fun vs H Q _ => ∃ (v : V) (u : Mk2), vs = [v] ∧ Dp K H v (kfM u).data ∧ Q (.bl (bdM u)) H
def spClosedB (P : Program) (w : World) (K : PySem.W.Frag) (CB CS T : Addr) : Sp := fun vs H Q E => ∃ i : BtI, i.ok ∧ spClosed P w K i.A.b i.A.sm kfM (b0M i.s i.t) (foM i.s i.t) (BtAt K CB CS i.A i.s i.t) 90000 T vs H Q E
def goodM (s t : Sch) (us : List Mk2) : Prop := (∀ u ∈ us, bdM u = false) ∧ closedJ kfM (b0M s t) (foM s t) us
def spShows (K : PySem.W.Frag) (T1 T2 : Addr) : Sp := fun vs H Q _ => ∃ (sv tv pv' : V) (s t : Sch) (us ws : List Mk2), vs = [sv, tv, pv'] ∧ Dp K H sv (schD s) ∧ Dp K H tv (schD t) ∧ SchOk s ∧ SchOk t ∧ Dp K H pv' (.tuple (us.map (mkD s.length t.length))) ∧ (∀ u ∈ us, u.1 < 2 ^ s.length ∧ u.2 < 2 ^ t.length) ∧ us.length ≤ 1000000 ∧ ws.length ≤ 130 ∧ (∀ u ∈ us, u ∈ ws) ∧ GxR.TabG H T1 ∧ GxR.TabG H T2 ∧
  ∀ H' b, Gr [] H H' → (b = true ↔ goodM s t us) → Q (.bl b) H'
def insM (ds : List Mk2) (u : Mk2) : List Mk2 := if u ∈ ds then ds else ds ++ [u]
end LW
set_option maxHeartbeats 2000000
namespace LW
open PySem PySem.Spec PyProof.Rows L2
def inAll (Lb : List Nat) (s : Sch) : Prop := ∀ st ∈ s, ∀ r ∈ st.2, r.1 ∈ Lb
section
variable {Lb : List Nat} {s t : Sch} {rs : List Doc}
def Small (s t : Sch) : Prop := ¬ tooMany (kfB s t) 60 ∧ ((∃ e : Doc, e.lab = true ∧ badP s t e = true) → ∃ L, LeastBad s t L ∧ L.size ≤ 300 ∧ L.dep ≤ 30)
def PapE (s t : Sch) (d : PyData) : Prop := ∃ (b : Bool) (y : PyData), d = .tuple [.str (if b = true then "yes" else "no"), y] ∧ (b = true ↔ ∀ e : Doc, e.lab = true → badP s t e = false)
def spEqual (K : PySem.W.Frag) (T1 T2 T3 PT : Addr) (lq : Str) : Sp := fun vs H Q _ => ∃ (v1 v2 : V) (s t : Sch), vs = [v1, v2] ∧ Dp K H v1 (schD s) ∧ Dp K H v2 (schD t) ∧ SchOk s ∧ SchOk t ∧ GxR.TabG H T1 ∧ GxR.TabG H T2 ∧ GxR.TabG H T3 ∧ LamT PT lq H ∧ Small s t ∧ Small t s ∧
  ∀ H' b, Gr [PT] H H' → LamT PT lq H' → (b = true ↔ ∀ e : Doc, e.lab = true → badP s t e = false ∧ badP t s e = false) → Q (.bl b) H'
structure AgainOf (s same : Sch) (hm : List Nat) : Prop where
  len : same.length = hm.length + 1
  zero : hm[0]? = some 0
  st : ∀ (j h : Nat), hm[j]? = some h → ∃ (e : Bool) (rs0 rs : List Rl), s[h]? = some (e, rs0) ∧ same[j]? = some (e, rs) ∧ (∀ r ∈ rs, r.2.1 = hm.length ∨ ∃ r0 ∈ rs0, r.1 = r0.1 ∧ hm[r.2.1]? = some r0.2.1 ∧ hm[r.2.2]? = some r0.2.2) ∧ (∀ r0 ∈ rs0, ∃ r ∈ rs, r.1 = r0.1 ∧ hm[r.2.1]? = some r0.2.1 ∧ hm[r.2.2]? = some r0.2.2)
  dead : ∃ rs, same[hm.length]? = some (false, rs) ∧ ∀ r ∈ rs, r.2.1 = hm.length
end
end LW
set_option maxHeartbeats 2000000
namespace LW
open PySem PySem.Spec PyProof.Rows L2
def spNearS (K : PySem.W.Frag) : Sp := fun vs H Q _ => ∃ (bx cl : Addr) (lv sv : V) (a b c : Nat) (s : Sch) (m : Nat), vs = [.ref bx, lv, sv] ∧ BoxAt H bx cl ∧ Dp K H lv (lbD [a, b, c]) ∧ a < 5 ∧ b < 5 ∧ Dp K H sv (schD s) ∧ SchOk s ∧ (∀ st ∈ s, goodS [(a : Int), (b : Int)] s.length m st) ∧ m ≤ 29 ∧
  ∀ (s' : Sch) (v : V) H', SchOk s' → s'.length = s.length → (∀ st ∈ s', goodS [(a : Int), (b : Int)] s'.length (m + 1) st) → Gr [bx] H H' → BoxAt H' bx cl → Dp K H' v (schD s') → Q v H'
def spNearG (K : PySem.W.Frag) : Sp := fun vs H Q _ => ∃ (bx cl : Addr) (lv sv : V) (a b c : Nat) (ls : List Int) (s : Sch) (m : Nat), vs = [.ref bx, lv, sv] ∧ BoxAt H bx cl ∧ Dp K H lv (lbD [a, b, c]) ∧ (a : Int) ∈ ls ∧ (b : Int) ∈ ls ∧ (∀ x ∈ ls, 0 ≤ x ∧ x < 5) ∧ Dp K H sv (schD s) ∧ SchOk s ∧ (∀ st ∈ s, goodS ls s.length m st) ∧ m ≤ 29 ∧
  ∀ (s' : Sch) (v : V) H', SchOk s' → s'.length = s.length → (∀ st ∈ s', goodS ls s'.length (m + 1) st) → Gr [bx] H H' → BoxAt H' bx cl → Dp K H' v (schD s') → Q v H'
section
variable {K : PySem.W.Frag} {H : Hp}
end
end LW
set_option maxHeartbeats 2000000
namespace LW
open PySem PySem.Spec PyProof.Rows L2
def spAgain (K : PySem.W.Frag) : Sp := fun vs H Q _ => ∃ (bx cl : Addr) (lv sv : V) (a b c : Nat) (s : Sch), vs = [.ref bx, lv, sv] ∧ BoxAt H bx cl ∧ Dp K H lv (lbD [a, b, c]) ∧ a < 5 ∧ b < 5 ∧ c < 5 ∧ Dp K H sv (schD s) ∧ SchOk s ∧ (∀ st ∈ s, goodS [(a : Int), (b : Int)] s.length 3 st) ∧ s.length ≤ 3 ∧
  ∀ (same : Sch) (hm : List Nat) (v : V) H', SchOk same → AgainOf s same hm → same.length ≤ 6 → (∀ st ∈ same, goodS [(a : Int), (b : Int), (c : Int)] same.length 4 st) → Gr [bx] H H' → BoxAt H' bx cl → Dp K H' v (schD same) → Q v H'
section
variable {K : PySem.W.Frag} {bx cl : Addr} {Ts : List Addr} {H H' : Hp} {vs : List V} {ds : List PyData} {Ls : List LD} {x : V} {d : PyData}
abbrev LN (p : Addr) (ns : List Nat) : LD := ⟨p, ns.map natV, ns.map fun n : Nat => PyData.int (n : Int)⟩
theorem Fr.n0 {p : Addr} {ns : List Nat} (h : Fr K bx cl Ts H vs ds (LN p ns :: Ls)) : H p = some (.lst (ns.map natV)) := h.l0.1
end
def plc (hh : List Nat) (x : Nat) : List Nat := (List.range hh.length).filter fun j => decide (hh.getD j 0 = x)
def AgR (hh : List Nat) (r r0 : Rl) : Prop := r.1 = r0.1 ∧ hh[r.2.1]? = some r0.2.1 ∧ hh[r.2.2]? = some r0.2.2
def AgSt (hh : List Nat) (st0 st : Bool × List Rl) : Prop := st.1 = st0.1 ∧ (∀ r ∈ st.2, r.2.1 = hh.length ∨ ∃ r0 ∈ st0.2, AgR hh r r0) ∧ (∀ r0 ∈ st0.2, ∃ r ∈ st.2, AgR hh r r0)
def unl (s t : Sch) (d : Doc) : Bool := (setB s d).testBit 0 != (setB t d).testBit 0
end LW
set_option maxHeartbeats 1000000
namespace LW
open PySem PySem.Spec PyProof.Rows L2
section
variable {α : Type} [DecidableEq α]
def getT (x : α) : List (α × Nat) → Nat
  | [] => 0
  | p :: l => if p.1 = x then p.2 else getT x l
def addT (x : α) (m : Nat) : List (α × Nat) → List (α × Nat)
  | [] => [(x, m)]
  | p :: l => if p.1 = x then (p.1, p.2 + m) :: l else p :: addT x m l
def wsum (l : List (α × Nat)) (f : α → Nat) : Nat := (l.map fun e => e.2 * f e.1).sum
omit [DecidableEq α] in
end
def ndT {α : Type} (kf : α → NestedKey) (l : List (α × Nat)) : List (NestedKey × V) := l.map fun p => (kf p.1, natV p.2)
section
variable {α : Type} [DecidableEq α] {kf : α → NestedKey}
end
def docsN (ls : List Int) (n : Nat) : List Doc := (tabD ls n).getD n []
def dsum (s : Sch) (ls : List Int) (n : Nat) (f : Nat → Nat) : Nat := ((docsN ls n).map fun d => f (setB s d)).sum
def five5 : List Int := [0, 1, 2, 3, 4]
def catL : Nat → List Nat
  | 0 => [1]
  | n + 1 => catL n ++ [5 * ((List.range (n + 1)).map fun i => (catL n).getD i 0 * (catL n).getD (n - i) 0).sum]
end LW
set_option maxHeartbeats 1000000
namespace LW
open PySem PySem.Spec PyProof.Rows L2
theorem forW {J : It} {n : Nat} {G : Hp → Prop} {Y : Nat → Hp → V → Hp → Prop} (wk : Walk J n G Y) {g : TG} {tb : TS} {D : Ends} {σ : L2.St} {H : Hp} (Pv : Nat → L2.St → Hp → Prop) (h0 : Pv 0 σ H) (hG : ∀ i σ H, i ≤ n → Pv i σ H → G H)
    (hs : ∀ i x σ H H', i < n → Pv i σ H → Y i H x H' → g x σ H' fun σ2 H2 => tb { nx := Pv (i + 1), rt := D.rt, bk := D.nx, ct := Pv (i + 1) } σ2 H2) (hd : ∀ σ H, Pv n σ H → D.nx σ H) :
    ∃ W : Nat → Nat → L2.St → Hp → Prop, (∃ m, W 0 m σ H) ∧ ∀ i m σ H, W i m σ H → (J.stop i H ∧ D.nx σ H) ∨ (J.go i H ∧ ∃ N : L2.St → Hp → Prop, (∀ σ' H', N σ' H' → ∃ m', m' < m ∧ W (i + 1) m' σ' H') ∧ ∀ x H', J.yld i H x H' → g x σ H' fun σ2 H2 => tb { nx := N, rt := D.rt, bk := D.nx, ct := N } σ2 H2) := by
  refine ⟨fun i m σ H => m = n - i ∧ i ≤ n ∧ Pv i σ H, ⟨_, rfl, Nat.zero_le _, h0⟩, ?_⟩
  rintro i m σ H ⟨rfl, le, p⟩
  have g' := hG i σ H le p
  by_cases lt : i < n
  · exact .inr ⟨wk.goes i H lt g', Pv (i + 1), fun σ' H' p' => ⟨n - (i + 1), by omega, rfl, lt, p'⟩, fun x H' y => hs i x σ H H' lt p (wk.yields i H x H' lt g' y)⟩
  · obtain rfl : i = n := by omega
    exact .inl ⟨wk.stops H g', hd σ H p⟩
structure TlTxt (K : PySem.W.Frag) (mg : Str → Option Value) (C : Addr) : Prop where
  cl : Cls K C
  n0 : NoAttr K C "steps"
  n1 : NoAttr K C "sizes"
  n2 : NoAttr K C "sets"
  gC : mg "Tally" = some (.ref C)
def tlMeths : List Str := ["allowed", "grow", "pairs", "note"]
def fsTl (sp zl td : Addr) : List (Str × V) := [("steps", .ref sp), ("sizes", .ref zl), ("sets", .ref td)]
section
variable {sp zl td : Addr}
end
def setK (ks : List Nat) : List (Key × V) := ks.map fun x => (Sum.inl ((x : Nat) : Int), V.bl true)
def addS (x : Nat) (ks : List Nat) : List Nat := if x ∈ ks then ks else ks ++ [x]
theorem few_nums {ks : List Nat} {n : Nat} (nd : ks.Nodup) (h : ∀ x ∈ ks, x < n) : ks.length ≤ n := pigeon (n := n) (g := fun i => i) nd fun a ha => ⟨a, h a ha, rfl⟩
abbrev TbL := List (Nat × Nat)
structure TabOk (s : Sch) (ls : List Int) (i : Nat) (T : TbL) : Prop where
  nd : (T.map (·.1)).Nodup
  lt : ∀ e ∈ T, e.1 < 2 ^ s.length
  sum : ∀ f, wsum T f = dsum s ls i f
theorem TabOk.len {s : Sch} {ls : List Int} {i : Nat} {T : TbL} (h : TabOk s ls i T) : T.length ≤ 2 ^ s.length := by
  have := few_nums h.nd (n := 2 ^ s.length) fun x hx => by
    obtain ⟨e, he, rfl⟩ := List.mem_map.mp hx
    exact h.lt e he
  rwa [List.length_map] at this
def pairS (Ts : List TbL) (n : Nat) (i : Nat) (F : Mk2 → Nat) : Nat := wsum (Ts.getD i []) fun K => wsum (Ts.getD (n - i) []) fun R => F (K, R)
def pairsS (Ts : List TbL) (n k : Nat) (F : Mk2 → Nat) : Nat := ((List.range k).map fun i => pairS Ts n i F).sum
def b0N (X : Nat) : Nat := if X.testBit 0 = true then 1 else 0
structure PairsOk (Ts : List TbL) (Pt : List (Mk2 × Nat)) : Prop where
  nd : (Pt.map (·.1)).Nodup
  lt : ∀ e ∈ Pt, e.1.1 < 256 ∧ e.1.2 < 256
  sum : ∀ F, wsum Pt F = pairsS Ts (Ts.length - 1) Ts.length F
def spTlNote (K : PySem.W.Frag) (CT : Addr) : Sp := fun vs H Q _ => ∃ (p sp zl td dx : Addr) (x : Nat) (ks : List Nat), vs = [.ref p, natV x] ∧ H p = some (.ins CT dx (fsTl sp zl td)) ∧ H td = some (.dK (setK ks)) ∧ (addS x ks).length ≤ 256 ∧ ks.length ≤ 256 ∧ Q .non (upd H td (.dK (setK (addS x ks))))
def spTlAllowed (K : PySem.W.Frag) (CT : Addr) : Sp := fun vs H Q _ => ∃ (p sp zl td dx d : Addr) (i : Nat) (xs : List V) (T : TbL), vs = [.ref p, natV i] ∧ H p = some (.ins CT dx (fsTl sp zl td)) ∧ H zl = some (.lst xs) ∧ xs[i]? = some (.ref d) ∧ H d = some (.dK (rowK T)) ∧ T.length ≤ 1000 ∧ ∀ H', Gr [] H H' → Q (natV (wsum T b0N)) H'
structure Rows8 (H : Hp) (zl : Addr) (ds : List Addr) (Ts : List TbL) : Prop where
  zl : H zl = some (.lst (ds.map V.ref))
  len : ds.length = Ts.length
  at_ : ∀ (i : Nat) (d : Addr), ds[i]? = some d → H d = some (.dK (rowK (Ts.getD i [])))
def spTlPairs (P : Program) (w : World) (K : PySem.W.Frag) (CT : Addr) : Sp := fun vs H Q _ => ∃ (p sp zl td dx : Addr) (ds : List Addr) (Ts : List TbL), vs = [.ref p] ∧ H p = some (.ins CT dx (fsTl sp zl td)) ∧ Rows8 H zl ds Ts ∧ 1 ≤ Ts.length ∧ Ts.length ≤ 20 ∧ (∀ T ∈ Ts, (T.map (·.1)).Nodup ∧ ∀ e ∈ T, e.1 < 256 ∧ e.2 ≤ 1000000000) ∧
  ∀ H' d Pt, Gr [] H H' → H d = none → NDict P w K H' d (ndT kfM Pt) → PairsOk Ts Pt → Q (.ref d) H'
structure TlA where
  p : Addr
  sp : Addr
  rl : Addr
  rw_ : Addr
  st : Addr
  zl : Addr
  td : Addr
structure TlAt (K : PySem.W.Frag) (CT CS : Addr) (H : Hp) (A : TlA) (s : Sch) (n : Nat) (ds : List Addr) (Ts : List TbL) (ks : List Nat) : Prop where
  ins : ∃ dx, H A.p = some (.ins CT dx (fsTl A.sp A.zl A.td))
  rows : Rows8 H A.zl ds Ts
  sets : H A.td = some (.dK (setK ks))
  nt : A.td ∉ ds
  knd : ks.Nodup
  klt : ∀ x ∈ ks, x < 2 ^ s.length
  sts : StepsAv K CS H A.sp A.rl A.rw_ A.st s n [A.zl]
  tabs : ∀ (i : Nat) (T : TbL), Ts[i]? = some T → TabOk s five5 i T
def TlA.mut (A : TlA) : List Addr := [A.rw_, A.st, A.td, A.zl]
def spTlGrow (K : PySem.W.Frag) (CT CS : Addr) : Sp := fun vs H Q _ => ∃ (A : TlA) (s : Sch) (n : Nat) (ds : List Addr) (Ts : List TbL) (ks : List Nat), vs = [.ref A.p] ∧ TlAt K CT CS H A s n ds Ts ks ∧ SchOk s ∧ s.length ≤ 8 ∧ 1 ≤ Ts.length ∧ Ts.length ≤ 8 ∧ n + 327680 ≤ 9000000 ∧
  ∀ H' d T ks', Gr A.mut H H' → TlAt K CT CS H' A s (n + 327680) (ds ++ [d]) (Ts ++ [T]) ks' → Q .non H'
def spTlInit (K : PySem.W.Frag) (CT CS : Addr) : Sp := fun vs H Q _ => ∃ (p dx sp rl rw_ st : Addr) (s : Sch), vs = [.ref p, .ref sp] ∧ H p = some (.ins CT dx []) ∧ StepsAt K CS H sp rl rw_ st s 0 ∧ SchOk s ∧
  ∀ H' zl td d ks, Gr [p] H H' → TlAt K CT CS H' ⟨p, sp, rl, rw_, st, zl, td⟩ s 0 [d] [[(emptyB s, 1)]] ks → H zl = none → H td = none → Q .non H'
def cntS (s : Sch) (n : Nat) : List Nat := (List.range (n + 1)).map fun i => dsum s five5 i b0N
def spCounted (K : PySem.W.Frag) (T1 T2 T3 : Addr) : Sp := fun vs H Q _ => ∃ (v : V) (s : Sch) (most : Nat), vs = [v, natV most] ∧ Dp K H v (schD s) ∧ SchOk s ∧ s.length ≤ 8 ∧ most ≤ 8 ∧ GxR.TabG H T1 ∧ GxR.TabG H T2 ∧ GxR.TabG H T3 ∧
  ∀ H' p, Gr [] H H' → H p = none → H' p = some (.lst ((cntS s most).map natV)) → Q (.ref p) H'
section
variable {K : PySem.W.Frag} {CT CS : Addr} {H H' : Hp} {A : TlA} {s : Sch} {n : Nat} {ds : List Addr} {Ts : List TbL} {ks : List Nat}
theorem Rows8.keep {zl : Addr} {m : List Addr} (h : Rows8 H zl ds Ts) (g : Gr m H H') (hz : zl ∉ m) (hd : ∀ d ∈ ds, d ∉ m) : Rows8 H' zl ds Ts :=
  ⟨g.lst hz h.zl, h.len, fun i d e => g.keep _ _ (hd d (List.mem_of_getElem? e)) (h.at_ i d e) fun _ z => by cases z⟩
theorem TlAt.kinds (h : TlAt K CT CS H A s n ds Ts ks) : (∃ dx, H A.p = some (.ins CT dx (fsTl A.sp A.zl A.td))) ∧ (∃ dx, H A.sp = some (.ins CS dx (fsS s A.rl A.rw_ A.st))) ∧ (∃ k, H A.rw_ = some (.dT k)) ∧ (∃ k, H A.st = some (.dT k)) ∧ (∃ xs, H A.zl = some (.lst xs)) ∧ (∃ k, H A.td = some (.dK k)) ∧ ∀ d ∈ ds, ∃ k, H d = some (.dK k) :=
  ⟨h.ins, h.sts.ins, let ⟨_, k, e, _⟩ := h.sts.rows; ⟨k, e⟩, let ⟨_, k, e, _⟩ := h.sts.steps; ⟨k, e⟩, ⟨_, h.rows.zl⟩, ⟨_, h.sets⟩, fun d hd => by
    obtain ⟨i, hi⟩ := List.getElem?_of_mem hd
    exact ⟨_, h.rows.at_ i d hi⟩⟩
theorem TlAt.gr {m : List Addr} (h : TlAt K CT CS H A s n ds Ts ks) (g : Gr m H H') (hm : Apart m H) (hn : ∀ b ∈ m, b ≠ A.p ∧ b ≠ A.sp ∧ b ≠ A.rw_ ∧ b ≠ A.st ∧ b ≠ A.td ∧ b ∉ ds) : TlAt K CT CS H' A s n ds Ts ks := by
  obtain ⟨dx, e⟩ := h.ins
  exact ⟨⟨dx, g.keep _ _ (fun z => (hn _ z).1 rfl) e (fun _ z => by cases z)⟩, h.rows.keep g (hm.not h.rows.zl rfl) fun d hd z => (hn d z).2.2.2.2.2 hd, g.keep _ _ (fun z => (hn _ z).2.2.2.2.1 rfl) h.sets (fun _ z => by cases z), h.nt, h.knd, h.klt, h.sts.gr g hm (fun z => (hn _ z).2.1 rfl) (fun z => (hn _ z).2.2.1 rfl) (fun z => (hn _ z).2.2.2.1 rfl), h.tabs⟩
theorem TlAt.gr0 (h : TlAt K CT CS H A s n ds Ts ks) (g : Gr [] H H') : TlAt K CT CS H' A s n ds Ts ks := h.gr g .nil (by simp)
theorem TlAt.after {k : Nat} (h : TlAt K CT CS H A s n ds Ts ks) (g : Gr [A.rw_, A.st] H H') (hS : StepsAv K CS H' A.sp A.rl A.rw_ A.st s k [A.zl]) : TlAt K CT CS H' A s k ds Ts ks := by
  obtain ⟨⟨dx, e1⟩, ⟨_, e2⟩, ⟨_, e3⟩, ⟨_, e4⟩, ⟨_, e5⟩, ⟨_, e6⟩, e7⟩ := h.kinds
  have no : ∀ {a : Addr} {o : HO}, H a = some o → (∀ k, o ≠ .dT k) → a ∉ [A.rw_, A.st] := fun {a o} e z m => by
    simp only [List.mem_cons, List.not_mem_nil, or_false] at m
    rcases m with rfl | rfl
    · rw [e3] at e; cases e; exact z _ rfl
    · rw [e4] at e; cases e; exact z _ rfl
  exact ⟨⟨dx, g.keep _ _ (no e1 (fun _ z => by cases z)) e1 (fun _ z => by cases z)⟩, h.rows.keep g (no e5 (fun _ z => by cases z)) (fun d hd => by obtain ⟨_, e⟩ := e7 d hd; exact no e (fun _ z => by cases z)), g.keep _ _ (no h.sets (fun _ z => by cases z)) h.sets (fun _ z => by cases z), h.nt, h.knd, h.klt, hS, h.tabs⟩
theorem TlAt.few (h : TlAt K CT CS H A s n ds Ts ks) (l8 : s.length ≤ 8) : ks.length ≤ 256 := by
  have := few_nums h.knd h.klt
  exact Nat.le_trans this (Nat.pow_le_pow_right (by decide) l8)
theorem TlAt.mono {k : Nat} (h : TlAt K CT CS H A s n ds Ts ks) (le : n ≤ k) : TlAt K CT CS H A s k ds Ts ks := ⟨h.ins, h.rows, h.sets, h.nt, h.knd, h.klt, h.sts.mono le, h.tabs⟩
end
def stepF (s : Sch) (f : Nat → Nat) (k : Nat) (u : Mk2) : Nat := ((List.range k).map fun l => f (afterB s l u.1 u.2)).sum
end LW
set_option maxHeartbeats 4000000
namespace LW
open PySem PySem.Spec PyProof.Rows L2
section
variable {P : Program} {w : World} {K : PySem.W.Frag} {mg : Str → Option Value} {base : Heap} {f : Addr} {fd : FuncData} {CR DT : Addr}
abbrev n_read : List Str := ["text", "reading", "sign"]
theorem sc_read : FnScope n_read ["text"] (defScope s_read) := ⟨rfl, rfl, rfl, by decide +kernel, rfl, by decide +kernel, by decide +kernel⟩
theorem ok_read {n : Nat} (T : RdTxt K mg CR) (F : Fun K "read" "read" s_read f fd) (k_Reading : Kl P w K mg base CX0 n CR "Reading" ["self"] (spRdInit K CR)) (f_take : Mt P w K mg base (XA.CXA P w) (n + 1) CR "take" ["self", "sign"] (spRdTake K CR DT)) (f_document : Mt P w K mg base (XA.CXA P w) (n + 1) CR "document" ["self"] (spRdDoc K CR DT)) : FnOk P w K mg base (XA.CXA P w) (n + 2) f fd ["text"] (spRead K DT) := by
  refine F.okA sc_read (fun vs H Q E h => ?_) (fun cdv A0 outer s0 H vs Q E hr tk h => ?_)
  · obtain ⟨_, rfl, _⟩ := h; rfl
  obtain ⟨z, rfl, hz, qy, qn⟩ := h
  have nd := sc_read.nd
  refine ⟨_, pss_cons (ps_set (i := 1) nd rfl (.inl rfl) (pe_kl0 k_Reading hr rfl pass0))
    (pss_cons (ps_for (passes_of rfl) rfl (pi_str (pv 0)) (pg_name (i := 2) nd rfl (.inl rfl))
      (pss_one (ps_expr (pe_mt (pv 1) T.cl f_take hr (XA.pass_in tk fun _ _ _ _ h => h) (pa_cons (pv 2) pa_nil)))))
    (pss_one (ps_ret (pe_mt0 (pv 1) T.cl f_document hr (XA.pass_in tk fun _ _ _ _ h => h))))), ?_⟩
  refine fun p dx np ndx ne => ?_
  obtain ⟨g1, hp, a1⟩ := made_new (C := CR) np ndx ne
  generalize (upd (upd H dx (.own p)) p (.ins CR dx [])) = H1 at g1 hp a1 ⊢
  refine ⟨p, dx, H, rfl, g1, np, hp, fun H2 hA => ⟨rfl, ?_⟩⟩
  dsimp only [gName]
  refine st_normS (t := tSeq _ _) (σ' := [some (.str z), some (.ref p), none]) rfl ?_
  refine ⟨_, rfl, _, rfl, forW walk_str (fun i σ H' => ∃ (y2 : Option V) (s : RdSt), σ = [some (.str z), some (.ref p), y2] ∧ runR rd0S (z.cps.toList.take i) = some s ∧ RdAt K CR H p s H') ⟨none, rd0S, rfl, rfl, hA⟩ (fun _ _ _ _ _ => trivial) (fun i x σ H3 H4 hi hP hx => ?_) (fun σ H3 hP => ?_)⟩
  · obtain ⟨y2, s, rfl, hrun, hA3⟩ := hP
    obtain ⟨rfl, c, hc, rfl⟩ := hx
    obtain ⟨dx3, R3, Ls3, hp3, _⟩ := hA3.ex
    have hc' : z.cps.toList[i]? = some c := by rw [Array.getElem?_toList]; exact hc
    have hs := runR_snoc hc' rd0S
    rw [hrun] at hs
    dsimp only [gName]
    refine st_normS (t := tDrop _) (σ' := [some (.str z), some (.ref p), some (.str ⟨#[c]⟩)]) rfl ?_
    refine ⟨_, rfl, p, dx3, _, rfl, hp3, frdM _ (by decide +kernel), _, rfl, p, s, H, c, rfl, hA3, run_ok rdOk0 hrun, fun s' H' es hA' => ?_, fun es => ?_⟩
    · exact ⟨_, s', rfl, by rw [hs]; exact es, hA'⟩
    · refine qn ?_
      unfold readD
      rw [runR_none (i := i + 1) (by rw [hs]; exact es)]; rfl
  · obtain ⟨y2, s, rfl, hrun, hA3⟩ := hP
    obtain ⟨dx3, R3, Ls3, hp3, _⟩ := hA3.ex
    rw [List.take_of_length_le (Nat.le_of_eq Array.length_toList)] at hrun
    have hrd : readD z = finR s := by unfold readD; rw [hrun]; rfl
    refine ⟨_, rfl, p, dx3, _, rfl, hp3, frdM _ (by decide +kernel), p, s, H, rfl, hA3, run_ok rdOk0 hrun, fun d v H' e g hd => qy d v H' (by rw [hrd]; exact e) g hd, fun e => qn (by rw [hrd]; exact e)⟩
end
end LW
set_option maxHeartbeats 4000000
namespace LW
open PySem PySem.Spec PyProof.Rows L2
section
variable {P : Program} {w : World} {K : PySem.W.Frag} {mg : Str → Option Value} {base : Heap} {f : Addr} {fd : FuncData}
theorem sc_law_take : FnScope ["box", "m", "at", "cell", "told"] ["box", "m"] (defScope s__law_take) := ⟨rfl, rfl, rfl, by decide +kernel, rfl, by decide +kernel, by decide +kernel⟩
theorem ok_take (F : Fun K "_law_take" "_law_take" s__law_take f fd) (ml : mg "len" = none) (mi : mg "int" = none) : FnOk P w K mg base CX0 1 f fd ["box", "m"] spTake := by
  refine F.ok sc_law_take (fun vs H Q E h => ?_) (fun cdv A outer s H vs Q E hr h => ?_)
  · obtain ⟨bx, cl, m, rfl, _⟩ := h; rfl
  obtain ⟨bx, cl, m, rfl, hm, hm2, hB, q⟩ := h
  have nd := sc_law_take.nd
  refine ⟨_, Evl.pss_cut (ps_if (pt_cmpR op_eq (pe_ix ix_list (pv 0) pe_int (fun _ _ => rfl)) pe_int (nomark _))
      (pss_cons (ps_set (i := 2) nd rfl (.inl rfl) (pe_ix ix_list (pv 0) pe_int (fun _ _ => rfl)))
      (pss_cons (ps_set (i := 3) nd rfl (.inl rfl) pe_int)
      (Evl.pss_cut (ps_if (pt_cmpR op_lt (pv 2) (pe_callB call_len_seq (by rfl) ml PySem.boot_len (pa_cons (pe_ix ix_list (pv 0) pe_int (fun _ _ => rfl)) pa_nil)) (nomark _))
        (pss_cons (ps_set (i := 3) nd rfl (.inl rfl) (pe_ix ix_list (pe_ix ix_list (pv 0) pe_int (fun _ _ => rfl)) (pv 2) (fun _ _ => rfl)))
        (pss_one (ps_asg (pe_ifExp (pt_cmpR op_ge (pv 3) (pe_op op_pow pe_int pe_int) (nomark _)) pe_int (pe_un un_neg pe_int)) (pg_sub (pv 0) pe_int set_list)))) pss_nil)
      (pss_cons (ps_asg (pe_op op_add (pv 2) pe_int) (pg_sub (pv 0) pe_int set_list))
      (pss_cons (ps_asg (pv 3) (pg_sub (pv 0) pe_int set_list))
      (pss_one (ps_if (pt_cmpR op_eq (pe_ix ix_list (pv 0) pe_int (fun _ _ => rfl)) pe_int (nomark _)) (pss_one (ps_ret pe_int)) pss_nil))))))) pss_nil)
    (pss_cons (ps_if (pt_cmpR op_gt (pe_ix ix_list (pv 0) pe_int (fun _ _ => rfl)) pe_int (nomark _))
      (pss_cons (ps_set (i := 4) nd rfl (.inl rfl) (pe_op op_mod (pe_callTy call_int1 (by rfl) mi b_int (pa_cons (pe_ix ix_list (pv 0) pe_int (fun _ _ => rfl)) pa_nil)) (pv 1)))
      (pss_cons (ps_asg (pe_op op_fdiv (pe_ix ix_list (pv 0) pe_int (fun _ _ => rfl)) (pv 1)) (pg_sub (pv 0) pe_int set_list))
      (pss_cons (ps_asg (pe_ifExp (pt_cmpR op_gt (pe_ix ix_list (pv 0) pe_int (fun _ _ => rfl)) pe_int (nomark _)) (pe_op op_sub (pe_ix ix_list (pv 0) pe_int (fun _ _ => rfl)) pe_int) pe_int) (pg_sub (pv 0) pe_int set_list))
      (pss_one (ps_ret (pv 4)))))) pss_nil)
    (pss_cons (ps_asg (pe_op op_add (pe_ix ix_list (pv 0) pe_int (fun _ _ => rfl)) pe_int) (pg_sub (pv 0) pe_int set_list))
    (pss_cons (ps_asg (pe_op op_mod (pe_callTy call_int1 (by rfl) mi b_int (pa_cons (pe_op op_add (pe_op op_mul (pe_ix ix_list (pv 0) pe_int (fun _ _ => rfl)) pe_int) (pe_op op_mul pe_int (pe_op op_add (pe_ix ix_list (pv 0) pe_int (fun _ _ => rfl)) pe_int))) pa_nil)) pe_int) (pg_sub (pv 0) pe_int set_list))
    (pss_one (ps_ret (pe_op op_mod (pe_op op_mod (pe_callTy call_int1 (by rfl) mi b_int (pa_cons (pe_op op_add (pe_op op_fdiv (pe_ix ix_list (pv 0) pe_int (fun _ _ => rfl)) pe_int) (pe_ix ix_list (pv 0) pe_int (fun _ _ => rfl))) pa_nil)) pe_int) (pv 1))))))), ?_⟩
  obtain ⟨ns, b0, b1, b2, hb, hc, hne, h2⟩ := hB
  have hbx : ∀ {b0 b1 b2 : Int}, (upd H bx (bxL b0 b1 b2 cl)) bx = some (.lst [.int b0, .int b1, .int b2, .ref cl]) := upd_same
  have hcl : ∀ {b0 b1 b2 : Int}, (upd H bx (bxL b0 b1 b2 cl)) cl = some (.lst (ns.map V.int)) := by intro _ _ _; rw [upd_ne hne]; exact hc
  have fin : ∀ {b0 b1 b2 t : Int}, 0 ≤ b2 → 0 ≤ t → t < m → Q (.int t) (upd H bx (bxL b0 b1 b2 cl)) := fun {b0 b1 b2 t} h2 h3 h4 => q t _ h3 h4 (Gr.put hb (fun _ z => by cases z) (by simp)) ⟨ns, b0, b1, b2, upd_same, hcl, hne, h2⟩
  have start : H = upd H bx (bxL b0 b1 b2 cl) := by
    funext b
    unfold upd
    split
    · rename_i e; rw [e]; exact hb
    · rfl
  rw [start]
  refine ⟨fun σ' H' => ∃ y2 y3 y4 b0 b1 b2, σ' = [some (.ref bx), some (.int m), y2, y3, y4] ∧ H' = upd H bx (bxL b0 b1 b2 cl) ∧ 0 ≤ b2, ?_, ?_⟩
  · refine ⟨_, rfl, bx, _, 1, _, rfl, rfl, SqL.of hbx, atI_nat (j := 1) rfl, rfl, _, rfl, ?_⟩
    refine ite2 (fun c => ?_) (fun c => ⟨none, none, none, b0, b1, b2, rfl, rfl, h2⟩)
    refine ⟨_, rfl, bx, _, 2, _, rfl, rfl, SqL.of hbx, atI_nat (j := 2) rfl, ?_⟩
    refine ⟨fun σ' H' => ∃ c3 b1, σ' = [some (.ref bx), some (.int m), some (.int b2), some (.int c3), none] ∧ H' = upd H bx (bxL b0 b1 b2 cl), ?_, ?_⟩
    · refine ⟨_, rfl, _, rfl, bx, _, 3, _, rfl, rfl, SqL.of hbx, atI_nat (j := 3) rfl, cl, _, rfl, .inl (SqL.of hcl), _, _, rfl, rfl, _, rfl, ?_⟩
      refine ite2 (fun c => ?_) (fun c => ⟨0, b1, rfl, rfl⟩)
      have hlt : b2.toNat < ns.length := by
        have := of_decide_eq_true c
        rw [List.length_map] at this
        omega
      have e2 : b2 = ((b2.toNat : Nat) : Int) := by omega
      refine ⟨_, rfl, bx, _, 3, _, rfl, rfl, SqL.of hbx, atI_nat (j := 3) rfl, _, rfl, cl, _, b2, .int ns[b2.toNat], rfl, rfl, SqL.of hcl, ?_, ?_⟩
      · have := atI_nat (xs := ns.map V.int) (j := b2.toNat) (v := .int ns[b2.toNat]) (by simp [hlt])
        rw [← e2] at this
        exact this
      refine ⟨_, rfl, _, _, rfl, rfl, ⟨by decide, by decide, by decide⟩, _, _, rfl, rfl, _, rfl, ?_⟩
      refine ite2 (fun c => ?_) (fun c => ?_)
      · refine ⟨_, rfl, bx, _, 1, 1, rfl, rfl, hbx, rfl, ns[b2.toNat], 60, rfl, ?_⟩
        rw [upd_upd]; rfl
      · refine ⟨_, rfl, _, rfl, bx, _, 1, 1, rfl, rfl, hbx, rfl, ns[b2.toNat], -9, rfl, ?_⟩
        rw [upd_upd]; rfl
    · rintro σ' H' ⟨c3, b1, rfl, rfl⟩
      refine ⟨_, rfl, _, _, rfl, rfl, _, rfl, bx, _, 2, 2, rfl, rfl, hbx, rfl, ?_⟩
      rw [upd_upd]
      refine ⟨_, rfl, _, rfl, bx, _, 0, 0, rfl, rfl, upd_same, rfl, ?_⟩
      rw [upd_upd]
      refine ⟨_, rfl, bx, _, 1, _, rfl, rfl, SqL.of upd_same, atI_nat (j := 1) rfl, rfl, _, rfl, ?_⟩
      refine ite2 (fun c => ?_) (fun c => ⟨_, _, _, c3, b1, b2 + 1, rfl, rfl, by omega⟩)
      exact fin (by omega) (Int.le_refl 0) hm
  · rintro σ' H' ⟨y2, y3, y4, b0, b1, b2, rfl, rfl, h2⟩
    refine ⟨_, rfl, bx, _, 1, _, rfl, rfl, SqL.of hbx, atI_nat (j := 1) rfl, _, _, rfl, rfl, _, rfl, ?_⟩
    refine ite2 (fun c => ?_) (fun c => ?_)
    · refine ⟨_, rfl, bx, _, 0, _, rfl, rfl, SqL.of hbx, atI_nat (j := 0) rfl, .inl ⟨_, rfl, ?_⟩⟩
      refine ⟨_, rfl, _, _, rfl, rfl, hm, ?_⟩
      refine ⟨_, rfl, bx, _, 0, _, rfl, rfl, SqL.of hbx, atI_nat (j := 0) rfl, _, rfl, _, _, rfl, rfl, ⟨hm, hm2⟩, _, rfl, bx, _, 0, 0, rfl, rfl, hbx, rfl, ?_⟩
      rw [upd_upd]
      refine ⟨_, rfl, bx, _, 0, _, rfl, rfl, SqL.of upd_same, atI_nat (j := 0) rfl, _, _, rfl, rfl, _, rfl, ?_⟩
      have hmod : 0 ≤ b0 % m ∧ b0 % m < m := ⟨Int.emod_nonneg _ (by omega), Int.emod_lt_of_pos _ hm⟩
      refine ite2 (fun c => ?_) (fun c => ?_)
      · refine ⟨_, rfl, bx, _, 1, _, rfl, rfl, SqL.of upd_same, atI_nat (j := 1) rfl, _, _, rfl, rfl, ?_⟩
        refine ⟨_, rfl, bx, _, 1, 1, rfl, rfl, upd_same, rfl, ?_⟩
        rw [upd_upd]
        exact ⟨_, rfl, fin h2 hmod.1 hmod.2⟩
      · refine ⟨_, rfl, bx, _, 1, 1, rfl, rfl, upd_same, rfl, ?_⟩
        rw [upd_upd]
        exact ⟨_, rfl, fin h2 hmod.1 hmod.2⟩
    · refine ⟨_, rfl, bx, _, 1, _, rfl, rfl, SqL.of hbx, atI_nat (j := 1) rfl, _, _, rfl, rfl, _, rfl, bx, _, 1, 1, rfl, rfl, hbx, rfl, ?_⟩
      rw [upd_upd]
      refine ⟨_, rfl, bx, _, 0, _, rfl, rfl, SqL.of upd_same, atI_nat (j := 0) rfl, _, _, rfl, rfl, .inr ⟨by decide, by decide⟩, ?_⟩
      refine ⟨_, rfl, bx, _, 1, _, rfl, rfl, SqL.of upd_same, atI_nat (j := 1) rfl, _, _, rfl, rfl, _, _, rfl, rfl, .inl ⟨by decide, by decide⟩, _, _, rfl, rfl, .inl ⟨_, rfl, ?_⟩⟩
      refine ⟨_, _, rfl, rfl, lt_pos (by decide), _, rfl, bx, _, 0, 0, rfl, rfl, upd_same, rfl, ?_⟩
      rw [upd_upd]
      refine ⟨_, rfl, bx, _, 0, _, rfl, rfl, SqL.of upd_same, atI_nat (j := 0) rfl, _, _, rfl, rfl, ⟨by decide, by decide⟩, ?_⟩
      refine ⟨_, rfl, bx, _, 0, _, rfl, rfl, SqL.of upd_same, atI_nat (j := 0) rfl, _, _, rfl, rfl, .inl ⟨_, rfl, ?_⟩⟩
      refine ⟨_, _, rfl, rfl, lt_pos (by decide), _, rfl, _, _, rfl, rfl, hm, ?_⟩
      exact fin h2 (Int.emod_nonneg _ (by omega)) (Int.emod_lt_of_pos _ hm)
end
end LW
set_option maxHeartbeats 4000000
namespace LW
open PySem PySem.Spec PyProof.Rows L2
section
variable {P : Program} {w : World} {K : PySem.W.Frag} {mg : Str → Option Value} {base : Heap} {f : Addr} {fd : FuncData}
theorem sc_law_pick : FnScope ["box", "menu"] ["box", "menu"] (defScope s__law_pick) := ⟨rfl, rfl, rfl, by decide +kernel, rfl, by decide +kernel, by decide +kernel⟩
theorem ok_pick (F : Fun K "_law_pick" "_law_pick" s__law_pick f fd) (f1 : Fn P w K mg base CX0 1 "_law_take" ["box", "m"] spTake) (ml : mg "len" = none) : FnOk P w K mg base CX0 2 f fd ["box", "menu"] spPick := by
  refine F.ok sc_law_pick (fun vs H Q E h => ?_) (fun cdv A outer s H vs Q E hr h => ?_)
  · obtain ⟨bx, cl, m, ls, rfl, _⟩ := h; rfl
  obtain ⟨bx, cl, m, ls, rfl, hm, hne, h0, hl, hB, q⟩ := h
  refine ⟨_, pss_one (ps_ret (pe_ix ix_list (pv 1) (pe_fn f1 hr rfl pass0 (pa_cons (pv 0) (pa_cons (pe_callB call_len_seq (by rfl) ml PySem.boot_len (pa_cons (pv 1) pa_nil)) pa_nil))) (fun _ _ => rfl))), ?_⟩
  refine ⟨_, rfl, _, rfl, _, rfl, m, _, rfl, .inl (SqL.of hm), bx, cl, _, rfl, ?_, ?_, hB, fun t H' ht0 ht g hB' => ?_⟩
  · rw [List.length_map]; omega
  · rw [List.length_map]; omega
  · rw [List.length_map] at ht
    have hlt : t.toNat < ls.length := by omega
    have e : t = ((t.toNat : Nat) : Int) := by omega
    refine ⟨m, _, t, .int ls[t.toNat], rfl, rfl, SqL.of (g.lst (by simpa using hne) hm), ?_, q _ _ (List.getElem_mem hlt) g hB'⟩
    have := atI_nat (xs := ls.map V.int) (j := t.toNat) (v := .int ls[t.toNat]) (by simp [hlt])
    rw [← e] at this
    exact this
theorem ok_pickD (F : Fun K "_law_pick" "_law_pick" s__law_pick f fd) (f1 : Fn P w K mg base CX0 1 "_law_take" ["box", "m"] spTake) (ml : mg "len" = none) : FnOk P w K mg base CX0 2 f fd ["box", "menu"] (spPickD K) := by
  refine F.ok sc_law_pick (fun vs H Q E h => ?_) (fun cdv A outer s H vs Q E hr h => ?_)
  · obtain ⟨_, _, _, _, _, rfl, _⟩ := h; rfl
  obtain ⟨bx, cl, m, xs, ds, rfl, hB, hne, hm, hx, hp, h0, hl, q⟩ := h
  have lx := hx.length
  refine ⟨_, pss_one (ps_ret (pe_ix ix_list (pv 1) (pe_fn f1 hr rfl pass0 (pa_cons (pv 0) (pa_cons (pe_callB call_len_seq (by rfl) ml PySem.boot_len (pa_cons (pv 1) pa_nil)) pa_nil))) (fun _ _ => rfl))), ?_⟩
  refine ⟨_, rfl, _, rfl, _, rfl, m, _, rfl, .inl (SqL.of hm), bx, cl, _, rfl, by omega, by omega, hB, fun t H' ht0 ht g hB' => ?_⟩
  have hlt : t.toNat < xs.length := by omega
  have e : t = ((t.toNat : Nat) : Int) := by omega
  have ex := List.getElem?_eq_getElem hlt
  obtain ⟨d, hd, hxd⟩ := hx.get ex
  have hmem := List.mem_of_getElem? hd
  exact ⟨m, _, t, _, rfl, rfl, SqL.of (g.lst (by simpa using hne) hm), atI_eq ex e, q d _ H' hmem (dp_grm g hB.lst d _ (pureAll_iff.mp hp d hmem) hxd) g hB'⟩
end
end LW
set_option maxHeartbeats 4000000
namespace LW
open PySem PySem.Spec PyProof.Rows L2
section
variable {P : Program} {w : World} {K : PySem.W.Frag} {mg : Str → Option Value} {base : Heap} {f : Addr} {fd : FuncData}
theorem sc_law_size : FnScope ["d", "tree"] ["d"] (defScope s__law_size) := ⟨rfl, rfl, rfl, by decide +kernel, rfl, by decide +kernel, by decide +kernel⟩
theorem ok_sizeL {n : Nat} (F : Fun K "_law_size" "_law_size" s__law_size f fd) (G : Fn P w K mg base CX0 n "_law_size" ["d"] (spSizeL K n)) (ms : mg "sum" = none) : FnOk P w K mg base CX0 (n + 1) f fd ["d"] (spSizeL K (n + 1)) := by
  refine F.ok sc_law_size (fun vs H Q E h => ?_) (fun cdv A outer s H vs Q E hr h => ?_)
  · obtain ⟨d, v, rfl, _⟩ := h; rfl
  obtain ⟨d, v, rfl, hd, hn, hz, q⟩ := h
  have nd := sc_law_size.nd
  refine ⟨_, pss_one (ps_ret (pe_callB (cr_sum rfl) (by rfl) ms b_sum (pa_cons
    (pe_lc (own := [("tree", 1)]) (g := gName 1) (tt := tYes) rfl nd (pi_tup (pv 0)) (blkOk_by (N := ["d", "tree"]) (sc := defScope s__law_size) (own := [("tree", 1)]) (by decide +kernel))
          (fun s H C cl fp => pg_name (i := 1) nd rfl (.inl rfl)) (fun s H C cl fp => pts_nil)
          (fun s H C cl fp => pe_op op_add pe_int (pe_fn G hr rfl pass0 (pa_cons (pe_ix (r := rIxT K) ix_tup (pv 1) pe_int (fun _ _ => rfl)) pa_nil)))) pa_nil))), ?_⟩
  obtain ⟨a, vs, rfl, hs, ha⟩ := hd.tupI
  have hvl : vs.length = d.len := by rw [ha.length, Doc.ts_length]
  have hls := Doc.len_size d
  refine ⟨_, rfl, a, rfl, ⟨vs, hs⟩, fun D hD => lc_tup (xs := vs) (fun i H4 => Gr [] H H4 ∧ H4 D = some (.lst ((d.szs i).map V.int))) ?_ (fun i H4 _ hP => hP.1.sqT hs) (fun i x H4 hx hP => ?_) (fun H4 hP => ?_)⟩
  · exact ⟨Gr.new hD, upd_same⟩
  · obtain ⟨g, hDl⟩ := hP
    obtain ⟨dt, hdt, hxd⟩ := ha.get hx
    obtain ⟨lb, k, hat, rfl⟩ := Doc.ts_get i d dt hdt
    obtain ⟨tp, xs', rfl, hst, hall⟩ := hxd.tupI
    obtain ⟨v1, v2, rfl, h1, h2⟩ := dpAll_two hall
    obtain ⟨hk1, hk2⟩ := Doc.at_size i d lb k hat
    have hi : i < vs.length := (List.getElem?_eq_some_iff.mp hx).1
    refine ⟨rfl, _, rfl, tp, _, 1, v2, rfl, rfl, g.sqT hst, atI_nat (j := 1) rfl, k, v2, rfl, h2.gr g, by omega, by omega, fun H5 g5 => ?_⟩
    refine ⟨_, _, rfl, rfl, _, g5.lst (by simp) hDl, ?_, (g.trans g5).put0 hD, ?_⟩
    · rw [List.length_map, Doc.szs_len i d (by omega)]
      exact small1000 (by omega)
    · rw [upd_same, Doc.szs_succ i d lb k hat, List.map_append]
      rfl
  · obtain ⟨g, hDl⟩ := hP
    rw [hvl] at hDl
    refine ⟨D, _, rfl, SqL.of hDl, ?_⟩
    rw [Doc.szs_sum]
    exact q H4 g
theorem sizeL_any (F : Fun K "_law_size" "_law_size" s__law_size f fd) (m : mg "_law_size" = some (.ref f)) (b : Binds K fd ["d"] []) (ms : mg "sum" = none) : ∀ n : Nat, Fn P w K mg base CX0 n "_law_size" ["d"] (spSizeL K n)
  | 0 => ⟨f, fd, sizeL_none, m, F.kp, b⟩
  | n + 1 => ⟨f, fd, ok_sizeL F (sizeL_any F m b ms n) ms, m, F.kp, b⟩
end
end LW
set_option maxHeartbeats 4000000
namespace LW
open PySem PySem.Spec PyProof.Rows L2
section
variable {P : Program} {w : World} {K : PySem.W.Frag} {mg : Str → Option Value} {base : Heap} {f : Addr} {fd : FuncData}
abbrev n_law_class : List Str := ["e", "kinds"]
theorem sc_law_class : FnScope n_law_class ["e"] (defScope s__law_class) := ⟨rfl, rfl, rfl, by decide +kernel, rfl, by decide +kernel, by decide +kernel⟩
theorem ok_classT {D0 D1 D2 D3 D4 : Addr} (F : Fun K "_law_class" "_law_class" s__law_class f fd) (m_isinstance : mg "isinstance" = none) (m_ValueError : mg "ValueError" = none) (g0 : mg "BadDocument" = some (.ref D0)) (g1 : mg "BadSchema" = some (.ref D1)) (g2 : mg "BadTransformation" = some (.ref D2)) (g3 : mg "BadText" = some (.ref D3)) (g4 : mg "TooMuch" = some (.ref D4)) :
    XA.FnE P w K mg base 3 f fd ["e"] (spClassT K D0 D1 D2 D3 D4) := by
  refine XA.fnE_of F sc_law_class (fun a cls d vs H Q E h => ?_) (fun cdv A outer s H vs Q E a oe cls d hh hr h => ?_)
  · obtain ⟨_, _, rfl, _⟩ := h; rfl
  obtain ⟨C, i, rfl, rfl, hC, q⟩ := h
  have nd := sc_law_class.nd
  have hu65 : (A.deeper (envOfC "_law_class" (defScope s__law_class) s.heap.objs.size f cdv)).units + 65 < cLine := by have := hr.un; omega
  refine ⟨_, pss_cons (ps_set (i := 1) nd rfl (.inl rfl) (pe_lst (pa_cons (pe_callB (XA.call_isX hC.e hh) (by rfl) m_isinstance b_isinstance (pa_cons (pv 0) (pa_cons (pe_glob (v := .ref D0) rfl g0 rfl) pa_nil))) (pa_cons (pe_callB (XA.call_isX hC.e hh) (by rfl) m_isinstance b_isinstance (pa_cons (pv 0) (pa_cons (pe_glob (v := .ref D1) rfl g1 rfl) pa_nil))) (pa_cons (pe_callB (XA.call_isX hC.e hh) (by rfl) m_isinstance b_isinstance (pa_cons (pv 0) (pa_cons (pe_glob (v := .ref D2) rfl g2 rfl) pa_nil))) (pa_cons (pe_callB (XA.call_isX hC.e hh) (by rfl) m_isinstance b_isinstance (pa_cons (pv 0) (pa_cons (pe_glob (v := .ref D3) rfl g3 rfl) pa_nil))) (pa_cons (pe_callB (XA.call_isX hC.e hh) (by rfl) m_isinstance b_isinstance (pa_cons (pv 0) (pa_cons (pe_glob (v := .ref D4) rfl g4 rfl) pa_nil))) pa_nil)))))))
    (pss_cons (ps_if (PW.pt (pw_or (pt_cmpR op_ne (pe_bm PySem.F.plainAttrs_list PySem.F.slot_list_count PySem.F.type_list_count (XA.mt_countD hu65) (pv 1) (pa_cons pe_bl pa_nil)) pe_int (nomark _)) (pw_or1 (pt_not (pt_val (pe_callB (XA.call_isX hC.e hh) (by rfl) m_isinstance b_isinstance (pa_cons (pv 0) (pa_cons (pe_bltn (v := .ty "ValueError") (by rfl) m_ValueError b_ValueError rfl) pa_nil))))))))
      (pss_one (ps_ret pe_str))
      pss_nil)
    (pss_one (ps_ret (pe_ix ix_list (pe_lst (pa_cons pe_str (pa_cons pe_str (pa_cons pe_str (pa_cons pe_str (pa_cons pe_str pa_nil)))))) (pe_bm PySem.F.plainAttrs_list PySem.F.slot_list_index PySem.F.type_list_index (mt_indexD hu65) (pv 1) (pa_cons pe_bl pa_nil)) (fun _ _ => rfl))))), ?_⟩
  have rf : ∀ (D : Addr) (u : Value), L2.RelV (.ref D) u → u = .ref D := fun D u r => by cases r; rfl
  refine ⟨_, rfl, .ref D0, .ref D0, _, rfl, rf D0, hC.k0, ?_⟩
  refine ⟨_, rfl, .ref D1, .ref D1, _, rfl, rf D1, hC.k1, ?_⟩
  refine ⟨_, rfl, .ref D2, .ref D2, _, rfl, rf D2, hC.k2, ?_⟩
  refine ⟨_, rfl, .ref D3, .ref D3, _, rfl, rf D3, hC.k3, ?_⟩
  refine ⟨_, rfl, .ref D4, .ref D4, _, rfl, rf D4, hC.k4, ?_⟩
  refine ⟨(by decide : (5 : Nat) ≤ sizeLine), fun kp nkp => ?_⟩
  have hk : Dp K (upd H kp (.lst [.bl (decide (i = 0)), .bl (decide (i = 1)), .bl (decide (i = 2)), .bl (decide (i = 3)), .bl (decide (i = 4))])) (.ref kp) (.list (kindsD i)) := .lst (SqL.of upd_same) (.cons (.bl _) (.cons (.bl _) (.cons (.bl _) (.cons (.bl _) (.cons (.bl _) .nil)))))
  have g1 := Gr.new (m := []) (o := .lst [.bl (decide (i = 0)), .bl (decide (i = 1)), .bl (decide (i = 2)), .bl (decide (i = 3)), .bl (decide (i = 4))]) nkp
  have hks : SqL K (upd H kp (.lst [.bl (decide (i = 0)), .bl (decide (i = 1)), .bl (decide (i = 2)), .bl (decide (i = 3)), .bl (decide (i = 4))])) kp [.bl (decide (i = 0)), .bl (decide (i = 1)), .bl (decide (i = 2)), .bl (decide (i = 3)), .bl (decide (i = 4))] := SqL.of upd_same
  generalize (upd H kp (.lst [.bl (decide (i = 0)), .bl (decide (i = 1)), .bl (decide (i = 2)), .bl (decide (i = 3)), .bl (decide (i = 4))])) = H1 at hk hks g1 ⊢
  have shp : SeqAt.shaped (.list (kindsD i)) = true := rfl
  have shb : SeqAt.shaped (.bool true) = true := rfl
  refine ⟨_, rfl, .inl ⟨rfl, _, hks⟩, kp, .bl true, .bool true, kindsD i, rfl, rfl, hk, .bl true, shp, shb, ?_⟩
  rw [kinds_count hC.lt]
  refine ⟨rfl, _, rfl, iteFd (by decide) ?_⟩
  refine ⟨_, rfl, .ty "ValueError", .type "ValueError", _, rfl, fun u r => by cases r; rfl, hC.v, _, rfl, iteF ?_⟩
  refine ⟨(by decide : (5 : Nat) ≤ sizeLine), fun lp nlp => ?_⟩
  have g2 := Gr.new (m := []) (o := .lst [.str "document", .str "schema", .str "transformation", .str "text", .str "much"]) nlp
  have hks2 := g2.sqL hks
  have hkD : Dp K _ (.ref kp) (.list (kindsD i)) := .lst hks2 (.cons (.bl _) (.cons (.bl _) (.cons (.bl _) (.cons (.bl _) (.cons (.bl _) .nil)))))
  have hnm : SqL K (upd H1 lp (.lst [.str "document", .str "schema", .str "transformation", .str "text", .str "much"])) lp [.str "document", .str "schema", .str "transformation", .str "text", .str "much"] := SqL.of upd_same
  generalize (upd H1 lp (.lst [.str "document", .str "schema", .str "transformation", .str "text", .str "much"])) = H2 at hks2 hkD hnm g2 ⊢
  have hz : (kindsD i)[i]? = some (.bool true) := by
    have := hC.lt
    have : i = 0 ∨ i = 1 ∨ i = 2 ∨ i = 3 ∨ i = 4 := by omega
    rcases this with rfl | rfl | rfl | rfl | rfl <;> rfl
  have hbef : ∀ (m : Nat) (z' : PyData), m < i → (kindsD i)[m]? = some z' → z'.eqv (.bool true) = false := fun m z' hm hz' => by
    have := hC.lt
    have : i = 0 ∨ i = 1 ∨ i = 2 ∨ i = 3 ∨ i = 4 := by omega
    have : m = 0 ∨ m = 1 ∨ m = 2 ∨ m = 3 := by omega
    rcases this with rfl | rfl | rfl | rfl <;> (simp only [kindsD, List.getElem?_cons_zero, List.getElem?_cons_succ, Option.some.injEq] at hz'; subst hz'; rw [decide_eq_false (by omega)]; rfl)
  have hat : atI ([.str "document", .str "schema", .str "transformation", .str "text", .str "much"] : List V) (i : Int) = some (.str (clsN i)) := by
    have := hC.lt
    have : i = 0 ∨ i = 1 ∨ i = 2 ∨ i = 3 ∨ i = 4 := by omega
    rcases this with rfl | rfl | rfl | rfl | rfl <;> rfl
  refine ⟨_, rfl, .inl ⟨rfl, _, hks2⟩, kp, .bl true, .bool true, kindsD i, i, .bool true, rfl, rfl, hkD, .bl true, shp, shb, hz, rfl, hbef, ?_⟩
  refine ⟨lp, _, _, _, rfl, rfl, hnm, hat, ?_⟩
  exact q _ (g1.trans g2)
end
end LW
set_option maxHeartbeats 4000000
namespace LW
open PySem PySem.Spec PyProof.Rows L2
section
variable {P : Program} {w : World} {K : PySem.W.Frag} {mg : Str → Option Value} {base : Heap} {f : Addr} {fd : FuncData}
theorem sc_law_box : FnScope ["script", "x"] ["script"] (defScope s__law_box) := ⟨rfl, rfl, rfl, by decide +kernel, rfl, by decide +kernel, by decide +kernel⟩
theorem ok_box (F : Fun K "_law_box" "_law_box" s__law_box f fd) (mi : mg "int" = none) (ma : mg "abs" = none) : FnOk P w K mg base CX0 1 f fd ["script"] (spBox K) := by
  refine F.ok sc_law_box (fun vs H Q E h => ?_) (fun cdv A outer s H vs Q E hr h => ?_)
  · obtain ⟨_, _, rfl, _⟩ := h; rfl
  obtain ⟨a, ns, rfl, hS, hl, q⟩ := h
  have nd := sc_law_box.nd
  refine ⟨_, pss_one (ps_ret (pe_lst (pa_cons pe_int (pa_cons pe_int (pa_cons pe_int (pa_cons
    (pe_lc (own := [("x", 1)]) (g := gName 1) (tt := tYes) rfl nd (pi_list (pv 0)) (blkOk_by (N := ["script", "x"]) (sc := defScope s__law_box) (own := [("x", 1)]) (by decide +kernel))
      (fun s H C cl fp => pg_name (i := 1) nd rfl (.inl rfl)) (fun s H C cl fp => pts_nil)
      (fun s H C cl fp => pe_callB call_abs (by rfl) ma b_abs (pa_cons (pe_callTy call_int1 (by rfl) mi b_int (pa_cons (pv 1) pa_nil)) pa_nil))) pa_nil)))))), ?_⟩
  refine ⟨_, rfl, a, rfl, ⟨_, hS⟩, fun D nD => lc_list (xs := ns.map V.int) (fun n H5 => Gr [] H H5 ∧ ∃ us : List Int, H5 D = some (.lst (us.map V.int)) ∧ us.length = n) ⟨Gr.new nD, [], upd_same, rfl⟩ (fun n H5 _ hP => hP.1.sqL hS) (fun n z H5 hz hP => ?_) (fun H5 hP => ?_)⟩
  · obtain ⟨g, us, hD, hu⟩ := hP
    obtain ⟨i, hi, rfl⟩ : ∃ i, ns[n]? = some i ∧ z = .int i := by
      rw [List.getElem?_map] at hz
      cases e : ns[n]? with
      | none => rw [e] at hz; cases hz
      | some a => rw [e] at hz; cases hz; exact ⟨_, rfl, rfl⟩
    have hn : n < ns.length := (List.getElem?_eq_some_iff.mp hi).1
    refine ⟨rfl, _, rfl, .inl ⟨_, rfl, _, rfl, _, hD, small4 (by rw [List.length_map]; omega), g.put0 nD, us ++ [if i < 0 then -i else i], ?_, by rw [List.length_append, hu]; rfl⟩⟩
    rw [upd_same, List.map_append]
    rfl
  · obtain ⟨g, us, hD, hu⟩ := hP
    refine ⟨(by decide : (4 : Nat) ≤ sizeLine), fun bx nb => ?_⟩
    have gb : Gr [] H5 (upd H5 bx (.lst [.int 0, .int 0, .int 0, .ref D])) := Gr.new nb
    refine q bx D _ (g.trans gb) ⟨us, 0, 0, 0, upd_same, gb.lst (by simp) hD, fun e => ?_, Int.le_refl 0⟩ (g.free _ nb) nD
    rw [e, nb] at hD
    cases hD
end
end LW
set_option maxHeartbeats 4000000
namespace LW
open PySem PySem.Spec PyProof.Rows L2
section
variable {P : Program} {w : World} {K : PySem.W.Frag} {mg : Str → Option Value} {base : Heap} {f : Addr} {fd : FuncData}
theorem sc_law_document : FnScope ["box", "labels", "most", "deep", "trees", "left", "k", "kids"] ["box", "labels", "most", "deep"] (defScope s__law_document) := ⟨rfl, rfl, rfl, by decide +kernel, rfl, by decide +kernel, by decide +kernel⟩
theorem ok_docL {n : Nat} (F : Fun K "_law_document" "_law_document" s__law_document f fd) (G : Fn P w K mg base CX0 (n + 41) "_law_document" ["box", "labels", "most", "deep"] (spDocL K n)) (ft : Fn P w K mg base CX0 1 "_law_take" ["box", "m"] spTake)
    (fp : Fn P w K mg base CX0 2 "_law_pick" ["box", "menu"] spPick) (fs : Fn P w K mg base CX0 40 "_law_size" ["d"] (spSizeL K 40)) (mr : mg "range" = none) (mt : mg "tuple" = none) :
    FnOk P w K mg base CX0 (n + 42) f fd ["box", "labels", "most", "deep"] (spDocL K (n + 1)) := by
  refine F.ok sc_law_document (fun vs H Q E h => ?_) (fun cdv A outer s H vs Q E hr h => ?_)
  · obtain ⟨_, _, _, _, _, _, rfl, _⟩ := h; rfl
  obtain ⟨bx, cl, ll, ls, most, deep, rfl, hB, hll, hlb, hl0, hl1, hls, hm, hd1, hdn, hd30, q⟩ := h
  have nd := sc_law_document.nd
  refine ⟨_, pss_cons (ps_set (i := 4) nd rfl (.inl rfl) (pe_lst pa_nil))
    (pss_cons (ps_set (i := 5) nd rfl (.inl rfl) (pv 2))
    (Evl.pss_cut (ps_for PassesOwn.never rfl (pi_range1 rfl mr (pa_cons (pv 2) pa_nil)) (pg_name (i := 6) nd rfl (.inl rfl))
      (pss_cons (ps_if (PW.pt (pw_or (pt_cmpR op_le (pv 5) pe_int (nomark _)) (pw_or1 (pt_cmpR op_eq (pe_fn ft (hr.mono (by omega)) rfl pass0 (pa_cons (pv 0) (pa_cons pe_int pa_nil))) pe_int (nomark _))))) (pss_one ps_break) pss_nil)
      (pss_cons (ps_set (i := 7) nd rfl (.inl rfl) (pe_tup pa_nil))
      (Evl.pss_cut (ps_if (pt_cmpR op_gt (pv 3) pe_int (nomark _)) (pss_one (ps_set (i := 7) nd rfl (.inl rfl) (pe_fn G hr rfl pass0 (pa_cons (pv 0) (pa_cons (pv 1) (pa_cons (pe_fn ft (hr.mono (by omega)) rfl pass0 (pa_cons (pv 0) (pa_cons (pv 5) pa_nil))) (pa_cons (pe_op op_sub (pv 3) pe_int) pa_nil))))))) pss_nil)
      (pss_cons (ps_expr (pe_bm PySem.F.plainAttrs_list PySem.F.slot_list_append PySem.F.type_list_append mt_append (pv 4) (pa_cons (pe_tup (pa_cons (pe_fn fp (hr.mono (by omega)) rfl pass0 (pa_cons (pv 0) (pa_cons (pv 1) pa_nil))) (pa_cons (pv 7) pa_nil))) pa_nil)))
      (pss_one (ps_set (i := 5) nd rfl (.inl rfl) (pe_op op_sub (pe_op op_sub (pv 5) pe_int) (pe_fn fs (hr.mono (by omega)) rfl pass0 (pa_cons (pv 7) pa_nil))))))))))
    (pss_one (ps_ret (pe_callTy call_tuple_of (by rfl) mt b_tuple (pa_cons (pv 4) pa_nil)))))), ?_⟩
  refine ⟨Nat.zero_le _, fun tl nt => ?_⟩
  refine ⟨_, rfl, ?_⟩
  obtain ⟨ntb, ntc⟩ := hB.ne nt
  have ntl : ll ≠ tl := fun z => by rw [← z, hll] at nt; cases nt
  refine ⟨fun σ H' => ∃ (d : Doc) (xs : List V) (y6 y7 : Option V), σ = [some (.ref bx), some (.ref ll), some (.int most), some (.int deep), some (.ref tl), some (.int ((most : Int) - d.size)), y6, y7] ∧ Gr [bx] H H' ∧ BoxAt H' bx cl ∧ H' tl = some (.lst xs) ∧
    DpAll K H' xs d.ts ∧ d.lab = true ∧ d.size ≤ most ∧ d.dep ≤ deep, ?_, ?_⟩
  · refine ⟨_, rfl, _, rfl, by omega, by omega, for_range (n := (most : Int).toNat) (fun i σ H' => ∃ (d : Doc) (xs : List V) (y6 y7 : Option V), σ = [some (.ref bx), some (.ref ll), some (.int most), some (.int deep), some (.ref tl), some (.int ((most : Int) - d.size)), y6, y7] ∧ Gr [bx] H H' ∧ BoxAt H' bx cl ∧ H' tl = some (.lst xs) ∧
      DpAll K H' xs d.ts ∧ d.lab = true ∧ d.size ≤ most ∧ d.dep ≤ deep) ⟨.nil, [], none, none, by simp [Doc.size]; rfl, Gr.new nt, hB.put ntb ntc, upd_same, .nil, rfl, Nat.zero_le _, Nat.zero_le _⟩ (fun i σ H' hi hP => ?_) (fun σ H' hP => hP)⟩
    obtain ⟨d, xs, y6, y7, rfl, g, hB', htl, hda, hlab, hsz, hdp⟩ := hP
    have wtl : ∀ b ∈ [bx], ∃ ys, H' b = some (.lst ys) := hB'.lst
    refine ⟨_, rfl, _, _, rfl, rfl, _, rfl, ?_⟩
    refine ite2 (fun c => iteT ⟨d, xs, _, _, rfl, g, hB', htl, hda, hlab, hsz, hdp⟩) (fun c => ?_)
    have hleft : 0 < (most : Int) - d.size := by
      have := of_decide_eq_false (Bool.eq_false_iff.mpr c)
      omega
    refine ⟨_, rfl, bx, cl, 4, rfl, by decide, by decide, hB', fun t1 H1 _ _ g1 hB1 => ?_⟩
    have htl1 : H1 tl = some (.lst xs) := g1.lst (by simpa using ntb) htl
    have hda1 : DpAll K H1 xs d.ts := dpAll_grm g1 hB'.lst d.ts xs (pure_doc d) hda
    have hll1 : H1 ll = some (.lst (ls.map V.int)) := (g.trans g1).lst (by simpa using hlb) hll
    refine ⟨rfl, _, rfl, ?_⟩
    refine ite2 (fun c => ⟨d, xs, _, _, rfl, g.trans g1, hB1, htl1, hda1, hlab, hsz, hdp⟩) (fun c => ?_)
    refine ⟨Nat.zero_le _, fun kp nk => ?_⟩
    have gk : Gr [] H1 (upd H1 kp (.tup [])) := Gr.new nk
    refine ⟨fun σ' H2 => ∃ (k : Doc) (v : V), σ' = [some (.ref bx), some (.ref ll), some (.int most), some (.int deep), some (.ref tl), some (.int ((most : Int) - d.size)), some (.int (0 + i)), some v] ∧ Gr [bx] H1 H2 ∧ BoxAt H2 bx cl ∧ Dp K H2 v k.data ∧
      k.lab = true ∧ (k.size : Int) < (most : Int) - d.size ∧ 1 + k.dep ≤ deep, ?_, ?_⟩
    · refine ⟨_, rfl, _, _, rfl, rfl, _, rfl, ?_⟩
      refine ite2 (fun c => ?_) (fun c => ⟨.nil, .ref kp, rfl, gk.any, hB1.gr gk, .tup (SqT.of upd_same) .nil, rfl, by simpa [Doc.size] using hleft, by simpa [Doc.dep] using hd1⟩)
      have hdeep : 1 < deep := by
        have := of_decide_eq_true c
        omega
      refine ⟨_, rfl, _, rfl, _, rfl, _, rfl, bx, cl, _, rfl, hleft, by omega, hB1.gr gk, fun t2 H2 ht0 ht2 g2 hB2 => ?_⟩
      refine ⟨_, rfl, _, _, rfl, rfl, bx, cl, ll, ls, t2.toNat, deep - 1, ?_, hB2, g2.lst (by simpa using hlb) (gk.lst (by simp) hll1), hlb, hl0, hl1, hls, by omega, by omega, by omega, by omega, fun k v H3 hk1 hk2 hk3 g3 hB3 hkv => ?_⟩
      · have e1 : ((t2.toNat : Nat) : Int) = t2 := by omega
        have e2 : ((deep - 1 : Nat) : Int) = (deep : Int) - 1 := by omega
        rw [e1, e2]
        rfl
      · exact ⟨k, v, rfl, gk.any.trans (g2.trans g3), hB3, hkv, hk1, by omega, by omega⟩
    · rintro σ' H2 ⟨k, v, rfl, g2, hB2, hkv, hk1, hk2, hk3⟩
      have htl2 : H2 tl = some (.lst xs) := g2.lst (by simpa using ntb) htl1
      have hll2 : H2 ll = some (.lst (ls.map V.int)) := g2.lst (by simpa using hlb) hll1
      have hda2 : DpAll K H2 xs d.ts := dpAll_grm g2 hB1.lst d.ts xs (pure_doc d) hda1
      have hxl : xs.length ≤ 300 := by
        have h1 := hda2.length
        have h2 := Doc.len_size d
        rw [Doc.ts_length] at h1
        omega
      refine ⟨_, rfl, .inl ⟨rfl, _, SqL.of htl2⟩, _, rfl, _, rfl, bx, cl, ll, ls, rfl, hll2, hlb, hl0, hl1, hB2, fun a H3 ha g3 hB3 => ?_⟩
      have htl3 : H3 tl = some (.lst xs) := g3.lst (by simpa using ntb) htl2
      have hda3 : DpAll K H3 xs d.ts := dpAll_grm g3 hB2.lst d.ts xs (pure_doc d) hda2
      have hkv3 : Dp K H3 v k.data := doc_grb g3 hB2.lst hkv
      refine ⟨_, rfl, len2, fun tp np => ?_⟩
      have gp : Gr [] H3 (upd H3 tp (.tup [.int a, v])) := Gr.new np
      obtain ⟨_, _⟩ := hB3.ne np
      have htl4 := gp.lst (by simp) htl3
      refine ⟨tl, xs, _, rfl, rfl, htl4, small1000 (by omega), ?_⟩
      have gw : Gr [tl] (upd H3 tp (.tup [.int a, v])) (upd (upd H3 tp (.tup [.int a, v])) tl (.lst (xs ++ [.ref tp]))) := Gr.put htl4 (fun _ z => by cases z) (by simp)
      have wl : ∀ b ∈ [tl], ∃ ys, (upd H3 tp (.tup [.int a, v])) b = some (.lst ys) := fun b hb => by rw [List.mem_singleton.mp hb]; exact ⟨_, htl4⟩
      have hkv5 := doc_grb (d := k) gw wl (hkv3.gr gp)
      have hB5 := (hB3.gr gp).put (o := .lst (xs ++ [.ref tp])) ntb ntc
      refine ⟨_, rfl, _, _, rfl, rfl, _, rfl, k, v, rfl, hkv5, by omega, by omega, fun H6 g6 => ⟨_, _, rfl, rfl, ?_⟩⟩
      have hax := hls a ha
      refine ⟨d.app (.cons a k .nil), xs ++ [.ref tp], some (.int (0 + i)), some v, ?_, ?_, hB5.gr g6, g6.lst (by simp) upd_same, ?_, ?_, ?_, ?_⟩
      · show [some (V.ref bx), some (.ref ll), some (.int most), some (.int deep), some (.ref tl), some (.int ((most : Int) - d.size - 1 - k.size)), some (.int (0 + i)), some v] = _
        have e : (most : Int) - d.size - 1 - k.size = (most : Int) - ((d.app (.cons a k .nil)).size : Nat) := by
          rw [Doc.app_size]
          simp only [Doc.size]
          omega
        rw [e]
      · exact ((g.trans (g1.trans (g2.trans (g3.trans gp.any)))).put0 nt).trans g6.any
      · rw [Doc.app_ts]
        refine (DpAll.append (dpAll_grm gw wl d.ts xs (pure_doc d) (hda3.gr gp)) ?_).gr g6
        refine .cons (.tup (SqT.of ?_) (.cons (.int a) (.cons hkv5 .nil))) .nil
        rw [upd_ne (fun z => by rw [z, htl3] at np; cases np), upd_same]
      · rw [Doc.app_lab, hlab]
        simp [Doc.lab, hk1, hax.1, hax.2]
      · rw [Doc.app_size]
        simp only [Doc.size]
        omega
      · rw [Doc.app_dep]
        simp only [Doc.dep]
        omega
  · rintro σ H' ⟨d, xs, y6, y7, rfl, g, hB', htl, hda, hlab, hsz, hdp⟩
    refine ⟨_, rfl, tl, xs, rfl, .inl ⟨SqL.of htl, fun l nl => ?_⟩⟩
    exact q d _ _ hlab hsz hdp (g.trans (Gr.new nl)) (hB'.gr (Gr.new nl)) (.tup (SqT.of upd_same) (hda.gr (Gr.new nl)))
end
end LW
set_option maxHeartbeats 2000000
namespace LW
open PySem PySem.Spec PyProof.Rows L2
mutual
theorem doc_of_form : ∀ (d : PyData) (n : Nat), n ≤ 31 → formD d n = true → ∃ L : Doc, d = L.data ∧ L.lab = true ∧ n + L.dep ≤ 31
  | .tuple ts, n, hn, h => by
    rw [formD, Bool.and_eq_true, Bool.or_eq_true, decide_eq_true_eq] at h
    rcases h.1 with he | hle
    · have : ts = [] := List.isEmpty_iff.mp he
      subst this
      exact ⟨.nil, rfl, rfl, by simpa [Doc.dep] using hn⟩
    · obtain ⟨L, e, hl, hd⟩ := docs_of_form ts n hle h.2
      exact ⟨L, by rw [e]; rfl, hl, hd⟩
  | .none, _, _, h => by rw [formD] at h; cases h; all_goals nofun
  | .bool _, _, _, h => by rw [formD] at h; cases h; all_goals nofun
  | .int _, _, _, h => by rw [formD] at h; cases h; all_goals nofun
  | .str _, _, _, h => by rw [formD] at h; cases h; all_goals nofun
  | .list _, _, _, h => by rw [formD] at h; cases h; all_goals nofun
  | .dict _, _, _, h => by rw [formD] at h; cases h; all_goals nofun
theorem docs_of_form : ∀ (ts : List PyData) (n : Nat), n ≤ 30 → formAll ts n = true → ∃ L : Doc, ts = L.ts ∧ L.lab = true ∧ n + L.dep ≤ 31
  | [], n, hn, _ => ⟨.nil, rfl, rfl, by simp [Doc.dep]; omega⟩
  | t :: ts, n, hn, h => by
    rw [formAll, Bool.and_eq_true] at h
    obtain ⟨R, er, hr, hdr⟩ := docs_of_form ts n hn h.2
    match t, h.1 with
    | .tuple [x, k], h1 =>
      rw [formT, Bool.and_eq_true] at h1
      obtain ⟨L, e, hl, hd⟩ := doc_of_form k (n + 1) (by omega) h1.2
      obtain ⟨a, rfl, a0, a5⟩ := belowD_int h1.1
      refine ⟨.cons a L R, by rw [er, e]; rfl, ?_, by simp only [Doc.dep]; omega⟩
      simp only [Doc.lab, hl, hr, Bool.and_true, Bool.and_eq_true, decide_eq_true_eq]
      exact ⟨a0, a5⟩
end
abbrev all5 : List Nat := [0, 1, 2, 3, 4]
structure FewT (n m : Nat) (d : PyData) : Prop where
  word : ∀ x y, d = .tuple [x, y] → x.depth ≤ 64 ∧ x.canLay0 = true
  pairs : ∀ x ps, d = .tuple [x, .tuple ps] → ps.length ≤ 1000000 ∧ ∀ u v, PyData.tuple [u, v] ∈ ps → (∀ es, u = .tuple es → es.length ≤ 1000000) ∧ (∀ es, v = .tuple es → es.length ≤ 1000000)
  dist : ∀ x (us : List Mk2), d = .tuple [x, .tuple (us.map (mkD n m))] → (∀ u ∈ us, u.1 < 2 ^ n ∧ u.2 < 2 ^ m) → ∃ ws : List Mk2, ws.length ≤ 130 ∧ ∀ u ∈ us, u ∈ ws
def spTakes (K : PySem.W.Frag) (Ts : List Addr) : Sp := fun vs H Q _ => ∃ (sv tv pv' : V) (s t : Sch) (d : PyData), vs = [sv, tv, pv'] ∧ Dp K H sv (schD s) ∧ Dp K H tv (schD t) ∧ SchOk s ∧ SchOk t ∧ Dp K H pv' d ∧ FewT s.length t.length d ∧ Tbs Ts H ∧ ∀ H' b, Gr [] H H' → (b = true ↔ dueP s t all5 d) → Q (.bl b) H'
end LW
set_option maxHeartbeats 2000000
namespace LW
open PySem PySem.Spec PyProof.Rows L2 HT
section
variable {prog : Program} {w : World} {A : Around} {E : Value → Shared → Prop} {s : Shared}
end
section
variable {X : Cx}
def tRevT (K : PySem.W.Frag) (te : TE) : TE := fun σ H Q => te σ H fun x H1 => ∃ a xs, x = .ref a ∧ SqT K H1 a xs ∧ ∀ p, H1 p = none → Q (.ref p) (upd H1 p (.tup xs.reverse))
end
end LW
set_option maxHeartbeats 4000000
namespace LW
open PySem PySem.Spec PyProof.Rows L2
theorem mul_empty (l : Addr) (items : Array Value) (n : Nat) (dd : Option Addr) (sl : Array (Option Value)) (x : Int) (u : Tok) (c0 : (decide (x < -(2 ^ 63)) || decide (x ≥ 2 ^ 63)) = false) (hi : items.isEmpty = true) :
    Meets (Builtin.«tuple.__mul__» ⟨[.ref l, .int x u], []⟩) (fun _ R s => s.heap.get? l = some { cls := .type "tuple", dict := dd, data := .seq items n, slots := sl } ∧ R (.ok (.ret (Value.ref l))) s) :=
  .of_wp fun prog w A R s h => by
    obtain ⟨hp, g, d, tk, os⟩ := s
    obtain ⟨hl, h⟩ := h
    have f1 := AutoSeq1.idx_int
    have c1 : (items.isEmpty || x == 1) = true := by rw [hi]; rfl
    wp_walk using wpAny_loadPart' hl
    repeat (first
      | (refine wpAny_ite_false (decide_eq_false (by rw [c0]; exact Bool.false_ne_true)) ?_; wp_walk using wpAny_loadPart' hl)
      | (refine wpAny_ite_true (decide_eq_true c1) ?_; wp_walk using wpAny_loadPart' hl))
    first
      | exact ⟨_, rfl, h⟩
      | exact h
def rRepX (K : PySem.W.Frag) : R2 := fun x y H Q => ∃ (l : Addr) (k : Nat) (xs : List V), x = .ref l ∧ y = .int (k : Int) ∧ SqT K H l xs ∧ k ≤ 1000 ∧ xs.length ≤ 1000 ∧ ((k = 1 ∨ xs = []) → Q (.ref l) H) ∧ (k ≠ 1 → xs ≠ [] → ∀ p, H p = none → Q (.ref p) (upd H p (.tup (List.replicate k xs).flatten)))
theorem op_repX {X : Cx} : OpR X (binaryOp .Mult) (rRepX X.K) := by
  intro pins s σ H x y v u Q I rx ry h
  obtain ⟨l, k, xs, rfl, rfl, hT, hk, hz, q1, q2⟩ := h
  by_cases hne : xs = []
  · subst hne
    cases rx
    obtain ⟨t, rfl⟩ := ry
    obtain ⟨its, r, ⟨⟨cls, dd, data, sl⟩, ho, hc, n, hd⟩, hs⟩ := I.tuple hT
    simp only at hc hd
    subst hc hd
    have hle : its.length = 0 := r.length.symm
    have hi : its.toArray.isEmpty = true := by
      cases its with
      | nil => rfl
      | cons a b => simp at hle
    have c0 : (decide (((k : Nat) : Int) < -(2 ^ 63)) || decide (((k : Nat) : Int) ≥ 2 ^ 63)) = false := by
      rw [Bool.or_eq_false_iff]
      exact ⟨decide_eq_false (by omega), decide_eq_false (by omega)⟩
    refine wpAny_binaryOp_repeat_ref (T := "tuple") (U := "int") (by decide) ⟨_, ho, rfl⟩ (fun s' => typeIs_int s' _ t) noFill_tuple_mul F.fills_int_mul F.slot_int_rmul repeat_tuple F.slot_int_index.lookup
      (call_meets F.slot_int_rmul (typeIs_int s _ t) F.entry_int_rmul (F.args_int_rmul_2 _ _) (int_rmul_tuple _ t l its.toArray n dd sl) ⟨ho, rfl, ⟨_, ho, rfl⟩, ?_⟩)
    exact call_meets PySem.F.slot_tuple_mul ⟨_, ho, rfl⟩ PySem.F.entry_tuple_mul (PySem.F.args_tuple_mul_2 _ _) (mul_empty l its.toArray n dd sl _ t c0 hi) ⟨ho, ⟨.ref l, H, I, rfl, q1 (.inr rfl)⟩⟩
  · exact op_repA pins s σ H _ _ v u Q I rx ry ⟨l, k, xs, rfl, rfl, hT, hne, hk, hz, fun h => q1 (.inl h), fun h => q2 h hne⟩
section
variable {K : PySem.W.Frag} {H : Hp}
theorem flat_nil {α : Type} : ∀ k : Nat, (List.replicate k ([] : List α)).flatten = []
  | 0 => rfl
  | k + 1 => by rw [List.replicate_succ, List.flatten_cons, flat_nil k]; rfl
theorem dpAll_flat {xs : List V} {ds : List PyData} (h : DpAll K H xs ds) : ∀ k : Nat, DpAll K H (List.replicate k xs).flatten (List.replicate k ds).flatten
  | 0 => .nil
  | k + 1 => by
    rw [List.replicate_succ, List.replicate_succ, List.flatten_cons, List.flatten_cons]
    exact h.append (dpAll_flat h k)
theorem repX_data {v : V} {ds : List PyData} {k : Nat} {Q : VK} (hv : Dp K H v (.tuple ds)) (hk : k ≤ 1000) (hz : ds.length ≤ 1000) (h : ∀ H' x, Gr [] H H' → Dp K H' x (.tuple (List.replicate k ds).flatten) → Q x H') : rRepX K v (.int (k : Int)) H Q := by
  obtain ⟨a, xs, rfl, hs, ha⟩ := hv.tupI
  have l1 := ha.length
  refine ⟨a, k, xs, rfl, rfl, hs, hk, by omega, fun z => ?_, fun _ _ p np => ?_⟩
  · refine h H _ (Gr.refl H) ?_
    rcases z with rfl | rfl
    · rw [show (List.replicate 1 ds).flatten = ds by simp]; exact hv
    · cases ha
      rw [flat_nil]; exact hv
  · exact h _ _ (Gr.new np) (.tup (SqT.of upd_same) ((dpAll_flat ha k).gr (Gr.new np)))
end
end LW
namespace LW
open PySem PySem.Spec PyProof.Rows L2
section
variable {σ : L2.St} {H : Hp}
end
end LW
set_option maxHeartbeats 2000000
namespace LW
open PySem PySem.Spec PyProof.Rows L2
theorem depthsLe {k : Nat} : ∀ {xs : List PyData}, (∀ x ∈ xs, x.depth ≤ k) → PyData.depthAll xs ≤ k
  | [], _ => by simp [PyData.depthAll]
  | x :: xs, h => by
    rw [PyData.depthAll]
    have h1 := h x (List.mem_cons_self ..)
    have h2 := depthsLe (xs := xs) fun y hy => h y (List.mem_cons_of_mem _ hy)
    omega
theorem depth_tup {k : Nat} {xs : List PyData} (h : ∀ x ∈ xs, x.depth ≤ k) : (PyData.tuple xs).depth ≤ k + 1 := by
  rw [PyData.depth]
  have := depthsLe h
  omega
structure ElOk (e : PyData) : Prop where
  dp : e.depth ≤ 10
  nt : ∀ (a : Int) (k : PyData), e ≠ .tuple [.int a, k]
  fw : ∀ u v, e = .tuple [u, v] → (∀ es, u = .tuple es → es.length ≤ 100) ∧ (∀ es, v = .tuple es → es.length ≤ 100)
  pu : pure1 e = true
def RowS (d : PyData) : Prop := ∃ xs, d = .tuple xs ∧ xs.length ≤ 100 ∧ ∀ x ∈ xs, x.depth ≤ 3 ∧ pure1 x = true
theorem RowS.pure {d : PyData} (h : RowS d) : pure1 d = true := by
  obtain ⟨xs, rfl, _, h⟩ := h
  rw [pure1_tup]
  exact pureAll_iff.mpr fun x hx => (h x hx).2
theorem RowS.two {x y : PyData} (hx : RowS x) (hy : RowS y) : ElOk (.tuple [x, y]) := by
  have pp := pure_two hx.pure hy.pure
  obtain ⟨xs, rfl, lx, dx⟩ := hx
  obtain ⟨ys, rfl, ly, dy⟩ := hy
  refine ⟨?_, fun a k e => ?_, fun u v e => ?_, pp⟩
  · have := depth_tup (k := 4) (xs := [.tuple xs, .tuple ys]) fun z hz => by
      simp only [List.mem_cons, List.not_mem_nil, or_false] at hz
      rcases hz with rfl | rfl
      · exact depth_tup fun z hz => (dx z hz).1
      · exact depth_tup fun z hz => (dy z hz).1
    omega
  · injection e with e
    simp only [List.cons.injEq] at e
    cases e.1
  · injection e with e
    simp only [List.cons.injEq, and_true] at e
    obtain ⟨rfl, rfl⟩ := e
    exact ⟨fun es z => by cases z; exact lx, fun es z => by cases z; exact ly⟩
theorem ElOk.one {x : PyData} (h : x.depth ≤ 8) (p : pure1 x = true) : ElOk (.tuple [x]) := ⟨by have := depth_tup (k := 8) (xs := [x]) (by simpa using h); omega, fun a k e => by injection e with e; simp at e, fun u v e => by injection e with e; simp at e, by rw [pure1_tup, pureAll, p]; rfl⟩
theorem RowS.dep {x : PyData} (h : RowS x) : x.depth ≤ 8 := by
  obtain ⟨xs, rfl, _, dx⟩ := h
  have := depth_tup fun z hz => (dx z hz).1
  omega
def PapOk (n m : Nat) (us : List Mk2) (r : PyData) : Prop := ∃ ps, r = .tuple ps ∧ ps.length ≤ 200 ∧ (∀ e ∈ ps, ElOk e) ∧ (ps.length ≤ 100 ∨ ∀ e ∈ ps, ∃ u ∈ us, e = mkD n m u)
theorem PapOk.pure {n m : Nat} {us : List Mk2} {r : PyData} (h : PapOk n m us r) : pure1 r = true := by
  obtain ⟨ps, rfl, _, h, _⟩ := h
  rw [pure1_tup]
  exact pureAll_iff.mpr fun x hx => (h x hx).pu
theorem str_shaped {a : Str} (h : PyData.strOk a = true) : SeqAt.shaped (.str a) = true := by
  unfold SeqAt.shaped
  simp [PyData.canLay0, PyData.depth, h]
def odd9 : List PyData := [.str "x", .int 7, .tuple [], .tuple [.tuple [], .tuple [], .tuple []], .tuple [.tuple []], .tuple [.tuple [.int 0, .int 0], .tuple []], .tuple [.tuple [], .tuple [.int 9]], .tuple [.str "", .tuple []], .tuple [.tuple [.int (-1)], .tuple []], .tuple [.tuple [], .int 5], .tuple [.tuple [.bool true], .tuple []]]
def odd4 (A B : PyData) : List PyData := [.tuple [B, A], .tuple [A, B, .tuple []], .tuple [A], .int 0, .str "", .tuple [], .tuple [.str "", .int 1], .tuple [A, .int 7]]
def more5 (z : Int) : List PyData := [.tuple [.int z], .tuple [.int 0], .tuple [.str ""], .tuple [.tuple []], .tuple [.int (-1)], .tuple [.bool false], .tuple [.bool true]]
def odd5 (as bs ms : List PyData) : List PyData := [.tuple [.tuple (as ++ ms), .tuple bs], .tuple [.tuple as, .tuple (bs ++ ms)], .tuple [.tuple (ms ++ as), .tuple bs], .tuple [.tuple as, .tuple (ms ++ bs)], .tuple [.tuple as.reverse, .tuple bs], .tuple [.tuple (as ++ as), .tuple bs]]
def Sh (k : Nat) (xs : List PyData) : Prop := xs.length ≤ k ∧ ∀ x ∈ xs, x.depth ≤ 3 ∧ pure1 x = true
theorem Sh.app {a b : Nat} {xs ys : List PyData} (h : Sh a xs) (h' : Sh b ys) : Sh (a + b) (xs ++ ys) := ⟨by rw [List.length_append]; have := h.1; have := h'.1; omega, fun x hx => (List.mem_append.mp hx).elim (h.2 x) (h'.2 x)⟩
theorem Sh.row {k : Nat} {xs : List PyData} (h : Sh k xs) (hk : k ≤ 100) : RowS (.tuple xs) := ⟨xs, rfl, Nat.le_trans h.1 hk, h.2⟩
def spTurn10 (K : PySem.W.Frag) : Sp := fun vs H Q _ => ∃ (bx cl : Addr) (sv tv pv' : V) (s t : Sch) (us : List Mk2), vs = [.ref bx, sv, tv, pv'] ∧ BoxAt H bx cl ∧ Dp K H sv (schD s) ∧ Dp K H tv (schD t) ∧ s.length ≤ 30 ∧ t.length ≤ 30 ∧ Dp K H pv' (.tuple (us.map (mkD s.length t.length))) ∧ us ≠ [] ∧ us.length ≤ 12 ∧
  ∀ H' x r, Gr [bx] H H' → BoxAt H' bx cl → Dp K H' x r → PapOk s.length t.length us r → Q x H'
end LW
set_option maxHeartbeats 2000000
namespace LW
open PySem PySem.Spec PyProof.Rows L2
structure Pap (n m : Nat) (d : PyData) : Prop where
  q : FewQ d
  t : FewT n m d
  p : pure1 d = true
structure WordOk (x : PyData) : Prop where
  sh : SeqAt.shaped x = true
  ly : x.canLay0 = true
  dp : x.depth ≤ 64
  pu : pure1 x = true
structure OddY (y : PyData) : Prop where
  dp : y.depth ≤ 70
  sz : szD y ≤ 60
  pr : ∀ ps, y = .tuple ps → ps.length ≤ 100 ∧ ∀ u v, PyData.tuple [u, v] ∈ ps → (∀ es, u = .tuple es → es.length ≤ 400) ∧ (∀ es, v = .tuple es → es.length ≤ 400)
  pu : pure1 y = true
def rowJ (a : Nat) : Nat → Doc
  | 0 => .nil
  | m + 1 => .cons (a : Int) .nil (rowJ a m)
def noneL (a : Nat) (n : Nat) (T : PyData) : List PyData := [.tuple [.tuple [.int 5, .tuple []]], .tuple [.int 1], .int 4, .str "", .tuple [.tuple [.str "1", .tuple []]], .tuple [.tuple [.int 1, .int 1]], .tuple (List.replicate n (.tuple [.int (a : Int), .tuple []])), T, .tuple [.tuple [.bool false, .tuple []]]]
def lastL (W : PyData) : List PyData := [.tuple [], .tuple [.str "yes"], .tuple [.str "maybe", W], .tuple [.str "no", .tuple [], .tuple []], .tuple [W, .str "yes"], .tuple [.int 3, .int 4], .tuple [.str "yes", .str ""], .tuple [.str "yes", .int 5], .tuple [.str "no", .int 5], .tuple [.str "no", W], .tuple [.str "yess", W], .tuple [.str "", W]]
section
variable {K : PySem.W.Frag} {σ : L2.St} {H0 : Hp} {bx cl : Addr}
theorem BXs.nilA {Pr : PyData → Prop} : BXs K σ H0 bx cl tNil (fun ds => ds.length = 0 ∧ ∀ d ∈ ds, Pr d) := fun H1 Q g hB k => k H1 [] [] (Gr.refl _) hB .nil rfl ⟨rfl, by simp⟩
theorem BXs.consA {t : TE} {ts : TA} {Pr : PyData → Prop} {n : Nat} (h : BX K σ H0 bx cl t Pr) (hs : BXs K σ H0 bx cl ts (fun ds => ds.length = n ∧ ∀ d ∈ ds, Pr d)) : BXs K σ H0 bx cl (tCons t ts) (fun ds => ds.length = n + 1 ∧ ∀ d ∈ ds, Pr d) := fun H1 Q g hB k =>
  h H1 _ g hB fun H2 x d g2 hB2 hx hp hP => hs H2 _ (g.trans g2) hB2 fun H3 xs ds g3 hB3 hxs hps ⟨hl, hPs⟩ => k H3 (x :: xs) (d :: ds) (g2.trans g3) hB3 (.cons (dp_grm g3 hB2.lst _ _ hp hx) hxs) (by rw [pureAll, hp, hps]; rfl) ⟨by rw [List.length_cons, hl], fun e he => by
    rcases List.mem_cons.mp he with rfl | he
    · exact hP
    · exact hPs e he⟩
end
end LW
set_option maxHeartbeats 2000000
namespace LW
open PySem PySem.Spec PyProof.Rows L2
def repS (z : Str) (k : Nat) : Str := ⟨(List.replicate k z.cps).foldl (· ++ ·) #[]⟩
def rMulS : R2 := fun x y H Q => ∃ (z : Str) (k : Nat), x = .str z ∧ y = .int (k : Int) ∧ k ≤ 1000 ∧ z.length ≤ 1000 ∧ Q (.str (repS z k)) H
theorem op_mul_str {X : Cx} : OpR X (binaryOp .Mult) rMulS := by
  intro pins s σ H x y v u Q I rx ry h
  obtain ⟨z, k, rfl, rfl, hk, hz, q⟩ := h
  obtain ⟨t, rfl⟩ := rx
  obtain ⟨t', rfl⟩ := ry
  have hr : (decide ((k : Int) < -(2 ^ 63 : Int)) || decide ((k : Int) ≥ 2 ^ 63)) = false := by
    rw [decide_eq_false (by omega), decide_eq_false (by omega)]; rfl
  have hm : z.length * k ≤ 1000 * 1000 := Nat.mul_le_mul hz hk
  have hq : ∀ w : Str, w = repS z k → ∀ t u, EP X pins σ Q (.str w t) { s with toks := u } := fun w e t u => ⟨.str w, H, I.tok _, ⟨_, rfl⟩, by rw [e]; exact q⟩
  have hlen : (repS z k).length = z.length * k := by
    unfold repS
    have : ∀ (m : Nat) (acc : Array Nat), ((List.replicate m z.cps).foldl (· ++ ·) acc).size = acc.size + z.cps.size * m := by
      intro m
      induction m with
      | zero => intro acc; simp
      | succ m ih => intro acc; rw [List.replicate_succ, List.foldl_cons, ih, Array.size_append, Nat.mul_succ]; omega
    show ((List.replicate k z.cps).foldl (· ++ ·) #[]).size = _
    rw [this]; simp [Str.length]
  refine PySem.P.mul_str hr (fun h1 h2 => ?_) (fun h1 h2 => ?_) ?_
  · have : (z.length : Int) ≤ (2 ^ 63 - 1) / (k : Int) := Int.le_ediv_of_mul_le (by omega) (by
      have : (z.length : Int) * (k : Int) = ((z.length * k : Nat) : Int) := by push_cast; rfl
      omega)
    omega
  · unfold Builtin.Str.tooLong
    rw [Int.toNat_natCast]
    exact decide_eq_false (by have := sizeLine_eq; omega)
  · split
    · next h1 =>
      have : k = 0 := by omega
      subst this
      exact ⟨by decide, hq _ rfl _ _⟩
    · split
      · next h1 h2 =>
        refine hq z ?_ _ _
        rw [Bool.or_eq_true, beq_iff_eq, beq_iff_eq] at h2
        rcases h2 with h2 | h2
        · obtain rfl : k = 1 := by omega
          unfold repS
          simp
        · apply str_ext
          have h3 := hlen
          rw [h2, Nat.zero_mul] at h3
          have e1 : z.cps.toList = [] := List.eq_nil_of_length_eq_zero (by rw [Array.length_toList]; exact h2)
          have e2 : (repS z k).cps.toList = [] := List.eq_nil_of_length_eq_zero (by rw [Array.length_toList]; exact h3)
          rw [e1, e2]
      · next h1 h2 =>
        refine ⟨?_, hq _ (by unfold repS; rw [Int.toNat_natCast]) _ _⟩
        rw [Int.toNat_natCast]
        show (repS z k).length ≤ sizeLine
        rw [hlen]
        have := sizeLine_eq; omega
theorem cutS_to (z : Str) {k : Nat} (h : k ≤ z.length) : (cutS z none (some (k : Int))).length = k := by
  unfold cutS
  rw [HT.sIx_nat, HT.sIx_none]
  show (List.toArray _).size = k
  rw [List.size_toArray, List.length_take, List.length_drop, Array.length_toList]
  have : z.cps.size = z.length := rfl
  omega
theorem cutS_from (z : Str) (k : Nat) : (cutS z (some (k : Int)) none).length = z.length - k := by
  unfold cutS
  rw [HT.sIx_nat, HT.sIx_none]
  show (List.toArray _).size = _
  rw [List.size_toArray, List.length_take, List.length_drop, Array.length_toList]
  have : z.cps.size = z.length := rfl
  omega
theorem textT_small {d : Doc} (h : d.lab = true) : (textT d).length ≤ 3 * d.size := by rw [textT_len]; exact texts_len d h
def rdDue (z : Str) : PyData := match readD z with
  | some d => d.data
  | none => .none
def rdTold (z : Str) : PyData := match readD z with
  | some d => d.data
  | none => .str "text"
theorem rdTold_show (z : Str) : (rdTold z).showable = true ∧ (rdTold z).depth ≤ 64 ∧ (rdTold z).shown.length ≤ sizeLine := by
  unfold rdTold
  split
  next d e => exact Doc.data_show (read_ok e)
  · decide +kernel
def spPickS : Sp := fun vs H Q _ => ∃ (bx cl : Addr) (z : Str), vs = [.ref bx, .str z] ∧ BoxAt H bx cl ∧ 0 < z.length ∧ z.length ≤ 1000 ∧ ∀ c H', Gr [bx] H H' → BoxAt H' bx cl → Q (.str ⟨#[c]⟩) H'
def spLRead (K : PySem.W.Frag) : Sp := fun vs H Q _ => ∃ z : Str, vs = [.str z] ∧ z.length ≤ 58 ∧ ∀ H' v, Gr [] H H' → Dp K H' v (rdDue z) → Q v H'
def spTold02 (K : PySem.W.Frag) : Sp := fun vs H Q _ => ∃ z : Str, vs = [.str z] ∧ z.length ≤ 5000 ∧ ∀ H' v, Gr [] H H' → Dp K H' v (rdTold z) → Q v H'
def catS (l : List Str) : Str := ⟨(l.flatMap fun p => p.cps.toList).toArray⟩
theorem catS_app (l : List Str) (x : Str) : catS (l ++ [x]) = catS l ++ x := by
  apply str_ext
  show (List.flatMap _ _).toArray.toList = ((List.flatMap _ _).toArray ++ x.cps).toList
  rw [Array.toList_append]
  simp
theorem catS_text (d : Doc) : catS (textTs d) = textT d := str_ext (by rw [textT_codes]; rfl)
theorem catS_len {l : List Str} {n : Nat} : (catS (l.take n)).length ≤ (l.map (·.length)).sum := by
  have h : ∀ m : List Str, (catS m).length = (m.map (·.length)).sum := by
    intro m
    induction m with
    | nil => rfl
    | cons x m ih =>
      rw [List.map_cons, List.sum_cons, ← ih]
      show (List.toArray _).size = x.cps.size + (List.toArray _).size
      simp
  rw [h]
  induction l generalizing n with
  | nil => simp
  | cons x l ih =>
    cases n with
    | zero => simp
    | succ n => rw [List.take_succ_cons, List.map_cons, List.map_cons, List.sum_cons, List.sum_cons]; have := ih (n := n); omega
theorem atI_natG {α : Type} {xs : List α} {j : Nat} {v : α} (h : xs[j]? = some v) : atI xs (j : Int) = some v := by
  have hlt := (List.getElem?_eq_some_iff.mp h).1
  unfold atI ixN
  rw [if_pos (by omega), if_pos (by omega), Int.toNat_natCast]
  exact h
def mayK (l : List Nat) : Nat → Bool
  | 0 => false
  | j + 1 => match l[j]? with
    | some c => digR c
    | none => false
theorem may_step {l : List Nat} {s s' : RdSt} {c : Nat} {k : Nat} (hc : l[k]? = some c) (e : stepR s c = some s') : s'.may = mayK l (k + 1) := by
  show _ = (match l[k]? with | some c => digR c | none => false)
  rw [hc]
  unfold stepR at e
  split at e
  · next h => subst h; unfold openR at e; split at e <;> cases e; rfl
  split at e
  · next h1 h => subst h; unfold closeR at e; split at e; cases e; split at e; cases e; split at e <;> cases e; rfl
  split at e
  · next h =>
    unfold addR at e
    split at e <;> cases e
    exact h.symm
  · cases e
theorem near_add {s : RdSt} {k : Nat} {a : Int} (h : NearR k s) (hk : k ≤ 57) : addR s a = some ⟨s.below, s.top ++ [(a, .nil)], s.many + 1, true⟩ := by
  unfold addR
  rw [if_neg]
  have := h.m; have := h.b
  split at this <;> omega
section
variable {K : PySem.W.Frag} {H0 H : Hp} {R : Addr} {Ls : List Addr} {rows : List (List Tr)}
theorem RdRows.lastN {T : Addr} (h : RdRows K H0 H R (T :: Ls) rows) : atI ((T :: Ls).reverse.map V.ref) (((Ls.length + 1 : Nat) : Int) - 1) = some (.ref T) := by
  rw [List.reverse_cons, List.map_append]
  have e : (((Ls.length + 1 : Nat) : Int) - 1) = ((Ls.length : Nat) : Int) := by omega
  rw [e]
  refine atI_nat ?_
  rw [List.getElem?_append_right (by simp)]
  simp
end
end LW
set_option maxHeartbeats 4000000
namespace LW
open PySem PySem.Spec PyProof.Rows L2
section
variable {P : Program} {w : World} {K : PySem.W.Frag} {mg : Str → Option Value} {base : Heap} {f : Addr} {fd : FuncData}
theorem sc_law_pickS : FnScope ["box", "menu"] ["box", "menu"] (defScope s__law_pick) := ⟨rfl, rfl, rfl, by decide +kernel, rfl, by decide +kernel, by decide +kernel⟩
theorem ok_pickS (F : Fun K "_law_pick" "_law_pick" s__law_pick f fd) (f1 : Fn P w K mg base CX0 1 "_law_take" ["box", "m"] spTake) (ml : mg "len" = none) : FnOk P w K mg base CX0 2 f fd ["box", "menu"] spPickS := by
  refine F.ok sc_law_pickS (fun vs H Q E h => ?_) (fun cdv A outer s H vs Q E hr h => ?_)
  · obtain ⟨_, _, _, rfl, _⟩ := h; rfl
  obtain ⟨bx, cl, z, rfl, hB, h0, hl, q⟩ := h
  refine ⟨_, pss_one (ps_ret (pe_ix ix_str (pv 1) (pe_fn f1 hr rfl pass0 (pa_cons (pv 0) (pa_cons (pe_callB call_len_str (by rfl) ml PySem.boot_len (pa_cons (pv 1) pa_nil)) pa_nil))) (fun _ _ => rfl))), ?_⟩
  refine ⟨_, rfl, _, rfl, _, rfl, z, rfl, (by have := sizeLine_eq; omega), bx, cl, _, rfl, by omega, by omega, hB, fun t H' ht0 ht g hB' => ?_⟩
  have hlt : t.toNat < z.cps.toList.length := by rw [Array.length_toList]; have : z.cps.size = z.length := rfl; omega
  have e : t = ((t.toNat : Nat) : Int) := by omega
  exact ⟨z, t, z.cps.toList[t.toNat], rfl, rfl, (by have := sizeLine_eq; omega), (by
    unfold atI ixN
    rw [if_pos ht0, if_pos (by omega)]
    exact List.getElem?_eq_getElem hlt), q _ H' g hB'⟩
end
end LW
set_option maxHeartbeats 4000000
namespace LW
open PySem PySem.Spec PyProof.Rows L2
section
variable {P : Program} {w : World} {K : PySem.W.Frag} {mg : Str → Option Value} {base : Heap} {f : Addr} {fd : FuncData}
abbrev n_law_text : List Str := ["d", "out", "label", "kids"]
theorem sc_law_text : FnScope n_law_text ["d"] (defScope s__law_text) := ⟨rfl, rfl, rfl, by decide +kernel, rfl, by decide +kernel, by decide +kernel⟩
theorem ok_ltext {n : Nat} (F : Fun K "_law_text" "_law_text" s__law_text f fd) (G : Fn P w K mg base CX0 n "_law_text" ["d"] (spTextOf K n)) (m_str : mg "str" = none) : FnOk P w K mg base CX0 (n + 1) f fd ["d"] (spTextOf K (n + 1)) := by
  refine F.ok sc_law_text (fun vs H Q E h => ?_) (fun cdv A0 outer s0 H vs Q E hr h => ?_)
  · obtain ⟨_, _, rfl, _⟩ := h; rfl
  obtain ⟨v, d, rfl, hd, hl, hk, hz, q⟩ := h
  have nd := sc_law_text.nd
  refine ⟨_, pss_cons (ps_set (i := 1) nd rfl (.inl rfl) pe_str)
    (pss_cons (ps_for PassesOwn.never rfl (pi_tup (pv 0)) (pg_tup rfl (pgs_cons (pg_name (i := 2) nd rfl (.inl rfl)) (pgs_cons (pg_name (i := 3) nd rfl (.inl rfl)) pgs_nil)))
      (pss_cons (ps_set (i := 1) nd rfl (.inl rfl) (pe_op op_add_str (pv 1) (pe_callTy call_str_int (by rfl) m_str b_str (pa_cons (pv 2) pa_nil))))
      (pss_one (ps_if (pt_truth (pv 3) (by intro _; rfl))
        (pss_one (ps_set (i := 1) nd rfl (.inl rfl) (pe_op op_add_str (pe_op op_add_str (pe_op op_add_str (pv 1) pe_str) (pe_fn G hr rfl pass0 (pa_cons (pv 3) pa_nil))) pe_str)))
        pss_nil))))
    (pss_one (ps_ret (pv 1)))), ?_⟩
  have hln := Doc.len_size d
  obtain ⟨da, dxs, rfl, hds, hda⟩ := hd.tupI
  have ldx := hda.length
  rw [Doc.ts_length] at ldx
  have htl := texts_len d hl
  have hcl := fun m : Nat => catS_len (l := textTs d) (n := m)
  refine ⟨_, rfl, da, rfl, ⟨dxs, hds⟩, for_tup (xs := dxs) (fun i σ H' => ∃ y2 y3 : Option V, σ = [some (.ref da), some (.str (catS ((textTs d).take i))), y2, y3] ∧ Gr [] H H') ⟨none, none, rfl, Gr.refl H⟩ (fun i σ H' _ hP => ?_) (fun i x σ H' hx hP => ?_) (fun σ H' hP => ?_)⟩
  · obtain ⟨_, _, rfl, g⟩ := hP
    exact g.sqT hds
  · obtain ⟨y2, y3, rfl, g⟩ := hP
    have hi : i < d.len := by have := (List.getElem?_eq_some_iff.mp hx).1; omega
    obtain ⟨lb, kd, hat, hts⟩ := Doc.at_of i d hi
    obtain ⟨x', hx', hxd⟩ := hda.at hts
    rw [hx'] at hx
    cases hx
    obtain ⟨tp, v1, v2, rfl, hst', h1, h2⟩ := dp_two (hxd.gr g)
    have := h1.intI; subst this
    obtain ⟨hk1, hk2⟩ := Doc.at_size _ d lb kd hat
    obtain ⟨b0, b5, bl⟩ := Doc.lab_at _ d lb kd hat hl
    have hlog : lb.natAbs.log2 < 1920 := Nat.lt_of_le_of_lt (Nat.log2_le_self _) (by omega)
    have hat2 := textTs_at i d lb kd hat
    have esum : catS ((textTs d).take (i + 1)) = catS ((textTs d).take i) ++ treeS lb kd (textTs kd) := by
      rw [List.take_add_one, hat2]; exact catS_app _ _
    have hc1 := hcl i
    have hc2 := hcl (i + 1)
    rw [esum, Str.length_append] at hc2
    have hb := sizeLine_eq
    have hn := numT_len (a := lb) ⟨b0, b5⟩
    have hkl := textT_small bl
    refine ⟨tp, _, rfl, hst', rfl, .int lb, [v2], rfl, v2, [], rfl, rfl, ?_⟩
    dsimp only [gName]
    refine st_normS (t := tSeq _ _) (σ' := [some (.ref da), some (.str (catS ((textTs d).take i))), some (.int lb), some v2]) rfl ?_
    refine ⟨_, rfl, _, rfl, lb, rfl, hlog, _, numT lb, rfl, rfl, by omega, ?_⟩
    dsimp only [gName]
    refine st_normS (t := tIfS _ _ _) (σ' := [some (.ref da), some (.str (catS ((textTs d).take i) ++ numT lb)), some (.int lb), some v2]) rfl ?_
    obtain ⟨ka, kxs, rfl, hks, hka⟩ := h2.tupI
    have lkx := hka.length
    rw [Doc.ts_length] at lkx
    refine ⟨_, rfl, !kxs.isEmpty, .inr (.inl ⟨kxs, hks, rfl⟩), ?_⟩
    cases kd with
    | nil =>
      have : kxs = [] := List.eq_nil_of_length_eq_zero (by rw [lkx]; rfl)
      subst this
      exact iteF ⟨_, _, by rw [esum]; rfl, g⟩
    | cons a1 k1 r1 =>
      have hne : (!kxs.isEmpty) = true := by
        cases kxs with
        | nil => simp [Doc.len] at lkx
        | cons _ _ => rfl
      rw [hne]
      refine iteT ?_
      have e1 : (("(" : Str)).length = 1 := rfl
      have e2 : ((")" : Str)).length = 1 := rfl
      refine ⟨_, rfl, _, _, rfl, rfl, by rw [Str.length_append]; omega, _, rfl, _, _, rfl, h2, bl, by omega, by omega, fun H2 g2 => ?_⟩
      refine ⟨_, _, rfl, rfl, by rw [Str.length_append, Str.length_append]; omega, _, _, rfl, rfl, by rw [Str.length_append, Str.length_append, Str.length_append]; omega, ?_⟩
      refine ⟨some (.int lb), some (.ref ka), ?_, g.trans g2⟩
      rw [esum]
      show [some (.ref da), some (V.str _), _, _] = _
      have : catS ((textTs d).take i) ++ numT lb ++ ("(" : Str) ++ textT (.cons a1 k1 r1) ++ (")" : Str) = catS ((textTs d).take i) ++ treeS lb (.cons a1 k1 r1) (textTs (.cons a1 k1 r1)) := by
        apply str_ext
        show ((((_ ++ _) ++ _) ++ _) ++ _ : Array Nat).toList = (_ ++ ((((#[] ++ _) ++ _) ++ _) ++ _) : Array Nat).toList
        simp only [Array.toList_append, List.append_assoc]
        rfl
      rw [this]
  · obtain ⟨y2, y3, rfl, g⟩ := hP
    refine ⟨_, rfl, ?_⟩
    rw [ldx, ← textTs_len d, List.take_length, catS_text]
    exact q H' g
theorem ltext_any (F : Fun K "_law_text" "_law_text" s__law_text f fd) (m : mg "_law_text" = some (.ref f)) (kp : PySem.W.keepIn K (.ref f) = true) (b : Binds K fd ["d"] []) (m_str : mg "str" = none) : ∀ n, Fn P w K mg base CX0 n "_law_text" ["d"] (spTextOf K n)
  | 0 => ⟨f, fd, ⟨fun vs H Q E h => by obtain ⟨_, _, _, _, _, h, _⟩ := h; exact absurd h (Nat.not_lt_zero _), fun A outer s H args us vs Q E _ _ _ _ h => by obtain ⟨_, _, _, _, _, h, _⟩ := h; exact absurd h (Nat.not_lt_zero _)⟩, m, kp, b⟩
  | n + 1 => ⟨f, fd, ok_ltext F (ltext_any F m kp b m_str n) m_str, m, kp, b⟩
end
end LW
set_option maxHeartbeats 4000000
namespace LW
open PySem PySem.Spec PyProof.Rows L2
section
variable {P : Program} {w : World} {K : PySem.W.Frag} {mg : Str → Option Value} {base : Heap} {f : Addr} {fd : FuncData}
abbrev n_law_read : List Str := ["text", "stack", "k", "sign", "kids", "label"]
theorem sc_law_read : FnScope n_law_read ["text"] (defScope s__law_read) := ⟨rfl, rfl, rfl, by decide +kernel, rfl, by decide +kernel, by decide +kernel⟩
theorem ok_lread {n : Nat} (F : Fun K "_law_read" "_law_read" s__law_read f fd) (m_range : mg "range" = none) (m_len : mg "len" = none) (m_int : mg "int" = none) (m_tuple : mg "tuple" = none) : FnOk P w K mg base CX0 (n + 1) f fd ["text"] (spLRead K) := by
  refine F.ok sc_law_read (fun vs H Q E h => ?_) (fun cdv A0 outer s0 H vs Q E hr h => ?_)
  · obtain ⟨_, rfl, _⟩ := h; rfl
  obtain ⟨z, rfl, hz, q⟩ := h
  have nd := sc_law_read.nd
  refine ⟨_, pss_cons (ps_set (i := 1) nd rfl (.inl rfl) (pe_lst (pa_cons (pe_lst pa_nil) pa_nil)))
    (pss_cons (ps_for PassesOwn.never rfl (pi_range1 rfl m_range (pa_cons (pe_callB call_len_str (by rfl) m_len PySem.boot_len (pa_cons (pv 0) pa_nil)) pa_nil)) (pg_name (i := 2) nd rfl (.inl rfl))
      (pss_cons (ps_set (i := 3) nd rfl (.inl rfl) (pe_ix ix_str (pv 0) (pv 2) (fun _ _ => rfl)))
      (pss_one (ps_if (pt_cmpR op_in_str (pv 3) pe_str rfl)
        (pss_one (ps_expr (pe_bm PySem.F.plainAttrs_list PySem.F.slot_list_append PySem.F.type_list_append mt_append (pe_ix ix_list (pv 1) (pe_op op_sub (pe_callB call_len_seq (by rfl) m_len PySem.boot_len (pa_cons (pv 1) pa_nil)) pe_int) (fun _ _ => rfl)) (pa_cons (pe_tup (pa_cons (pe_callTy call_int_str (by rfl) m_int b_int (pa_cons (pv 3) pa_nil)) (pa_cons (pe_tup pa_nil) pa_nil))) pa_nil))))
        (pss_one (ps_if (pt_cmpR op_eq (pv 3) pe_str (nomark _))
          (pss_cons (ps_if (PW.pt (pw_or (pt_cmpR op_eq (pv 2) pe_int (nomark _)) (pw_or1 (pt_cmpR op_notin_str (pe_ix ix_str (pv 0) (pe_op op_sub (pv 2) pe_int) (fun _ _ => rfl)) pe_str rfl))))
            (pss_one (ps_ret pe_non))
            pss_nil)
          (pss_one (ps_expr (pe_bm PySem.F.plainAttrs_list PySem.F.slot_list_append PySem.F.type_list_append mt_append (pv 1) (pa_cons (pe_lst pa_nil) pa_nil)))))
          (pss_one (ps_if (pt_cmpR op_eq (pv 3) pe_str (nomark _))
            (pss_cons (ps_if (PW.pt (pw_or (pt_cmpR op_lt (pe_callB call_len_seq (by rfl) m_len PySem.boot_len (pa_cons (pv 1) pa_nil)) pe_int (nomark _)) (pw_or1 (pt_not (pt_truth (pe_ix ix_list (pv 1) (pe_op op_sub (pe_callB call_len_seq (by rfl) m_len PySem.boot_len (pa_cons (pv 1) pa_nil)) pe_int) (fun _ _ => rfl)) (by intro _; rfl))))))
              (pss_one (ps_ret pe_non))
              pss_nil)
            (pss_cons (ps_set (i := 4) nd rfl (.inl rfl) (pe_callTy call_tuple_of (by rfl) m_tuple b_tuple (pa_cons (pe_bm0 PySem.F.plainAttrs_list PySem.F.slot_list_pop PySem.F.type_list_pop mt_pop (pv 1)) pa_nil)))
            (pss_cons (ps_set (i := 5) nd rfl (.inl rfl) (pe_ix ix_tup (pe_bm0 PySem.F.plainAttrs_list PySem.F.slot_list_pop PySem.F.type_list_pop mt_pop (pe_ix ix_list (pv 1) (pe_op op_sub (pe_callB call_len_seq (by rfl) m_len PySem.boot_len (pa_cons (pv 1) pa_nil)) pe_int) (fun _ _ => rfl))) pe_int (fun _ _ => rfl)))
            (pss_one (ps_expr (pe_bm PySem.F.plainAttrs_list PySem.F.slot_list_append PySem.F.type_list_append mt_append (pe_ix ix_list (pv 1) (pe_op op_sub (pe_callB call_len_seq (by rfl) m_len PySem.boot_len (pa_cons (pv 1) pa_nil)) pe_int) (fun _ _ => rfl)) (pa_cons (pe_tup (pa_cons (pv 5) (pa_cons (pv 4) pa_nil))) pa_nil)))))))
            (pss_one (ps_ret pe_non))))))))))
    (pss_one (ps_ret (pe_ifExp (pt_cmpR op_eq (pe_callB call_len_seq (by rfl) m_len PySem.boot_len (pa_cons (pv 1) pa_nil)) pe_int (nomark _)) (pe_callTy call_tuple_of (by rfl) m_tuple b_tuple (pa_cons (pe_ix ix_list (pv 1) pe_int (fun _ _ => rfl)) pa_nil)) pe_non)))), ?_⟩
  refine ⟨(by decide : (0 : Nat) ≤ sizeLine), fun T0 nT => ⟨(by decide : (1 : Nat) ≤ sizeLine), fun R nR => ?_⟩⟩
  have hT1 : (upd H T0 (.lst [])) T0 = some (.lst []) := upd_same
  have g1 : Gr [] H (upd H T0 (.lst [])) := Gr.new nT
  generalize (upd H T0 (.lst [])) = H1 at nR hT1 g1 ⊢
  have hT2 : (upd H1 R (.lst [V.ref T0])) T0 = some (.lst []) := (Gr.new (m := []) nR).lst (by simp) hT1
  have hR2 : (upd H1 R (.lst [V.ref T0])) R = some (.lst [V.ref T0]) := upd_same
  have g2 : Gr [] H (upd H1 R (.lst [V.ref T0])) := g1.trans (Gr.new nR)
  have ne : R ≠ T0 := fun z => by rw [z, hT1] at nR; cases nR
  have h2 : RdRows K H (upd H1 R (.lst [V.ref T0])) R [T0] [[]] := ⟨g2, g1.free _ nR, hR2, ⟨nT, ⟨[], hT2, .nil⟩, trivial⟩, by simp [ne]⟩
  generalize (upd H1 R (.lst [V.ref T0])) = H2 at h2 ⊢
  clear hT2 hR2 g1 g2 hT1 nR
  have hlz : z.cps.toList.length = z.length := by rw [Array.length_toList]; rfl
  have bz := sizeLine_eq
  have bad : ∀ {H' : Hp}, readD z = none → Gr [] H H' → Q .non H' := fun e g => q _ _ g (by unfold rdDue; rw [e]; exact .non)
  refine ⟨_, rfl, _, rfl, by omega, _, rfl, by omega, by omega, for_range (n := ((z.length : Nat) : Int).toNat) (fun i σ H' => ∃ (y2 y3 y4 y5 : Option V) (s : RdSt) (Ls : List Addr), σ = [some (.str z), some (.ref R), y2, y3, y4, y5] ∧ runR rd0S (z.cps.toList.take i) = some s ∧ NearR i s ∧ s.may = mayK z.cps.toList i ∧ RdRows K H H' R Ls (s.top :: s.below)) ⟨none, none, none, none, rd0S, [T0], rfl, rfl, near0, rfl, h2⟩ (fun i σ H3 hi hP => ?_) (fun σ H3 hP => ?_)⟩
  · obtain ⟨y2, y3, y4, y5, s, Ls, rfl, hrun, near, hmay, hR⟩ := hP
    rw [Int.toNat_natCast] at hi
    have ok := run_ok rdOk0 hrun
    have hc : ∃ c, z.cps.toList[i]? = some c := ⟨_, List.getElem?_eq_getElem (by omega)⟩
    obtain ⟨c, hc⟩ := hc
    have hs := runR_snoc hc rd0S
    rw [hrun] at hs
    have hs' : runR rd0S (z.cps.toList.take (i + 1)) = stepR s c := hs
    have dead : stepR s c = none → readD z = none := fun es => by
      unfold readD
      rw [runR_none (i := i + 1) (by rw [hs']; exact es)]; rfl
    rw [Int.zero_add]
    dsimp only [gName]
    refine st_normS (t := tSeq _ _) (σ' := [some (.str z), some (.ref R), some (natV i), y3, y4, y5]) rfl ?_
    refine ⟨_, rfl, _, rfl, z, _, c, rfl, rfl, by omega, atI_natG hc, ?_⟩
    dsimp only [gName]
    refine st_normS (t := tIfS _ _ _) (σ' := [some (.str z), some (.ref R), some (natV i), some (.str ⟨#[c]⟩), y4, y5]) rfl ?_
    have e0 : ∀ d : Nat, decide (V.str ⟨#[c]⟩ = V.str ⟨#[d]⟩) = decide (c = d) := fun d => by
      rw [Bool.eq_iff_iff]; simp
    have hl := hR.length
    have hb := ok.below_len
    have ht := ok.top_len
    have hnb := near.b
    have hnm := near.m
    refine ⟨_, rfl, _, _, rfl, rfl, _, rfl, ?_⟩
    rw [dig_in]
    cases c3 : digR c with
    | true =>
      refine iteT ?_
      have c3' : 48 ≤ c ∧ c ≤ 52 := by
        unfold digR at c3
        simpa [Bool.and_eq_true, decide_eq_true_eq] using c3
      have es : stepR s c = addR s ((c - 48 : Nat) : Int) := by unfold stepR; rw [if_neg (by omega), if_neg (by omega), c3]; rfl
      rw [near_add near (by omega)] at es
      obtain ⟨T1, Lb, rfl⟩ := hR.cons
      refine ⟨_, rfl, _, rfl, _, _, rfl, .inl (SqL.of hR.at_), ?_⟩
      rw [List.length_map, List.length_reverse]
      refine ⟨_, _, rfl, rfl, R, _, _, .ref T1, rfl, rfl, SqL.of hR.at_, by rw [List.length_cons]; exact hR.lastN, ?_⟩
      obtain ⟨xs, hT1, hd1, lx⟩ := hR.topAt
      refine ⟨.inl ⟨rfl, _, SqL.of hT1⟩, _, rfl, _, _, rfl, dig_int c3, (by decide : (1 : Nat) ≤ 640), (by decide : (0 : Nat) ≤ sizeLine), fun e1 ne1 => ⟨len2, fun tp ntp => ?_⟩⟩
      have ge : Gr [] H3 (upd H3 e1 (.tup [])) := Gr.new ne1
      have he1 : Dp K (upd H3 e1 (.tup [])) (.ref e1) (.tuple []) := .tup (SqT.of upd_same) .nil
      generalize (upd H3 e1 (.tup [])) = H4 at ntp ge he1 ⊢
      have gt : Gr [] H4 (upd H4 tp (.tup [.int ((c - 48 : Nat) : Int), .ref e1])) := Gr.new ntp
      have ht2 : Dp K (upd H4 tp (.tup [.int ((c - 48 : Nat) : Int), .ref e1])) (.ref tp) (trD (((c - 48 : Nat) : Int), .nil)) := mk2 (.int _) he1 ntp
      generalize (upd H4 tp (.tup [.int ((c - 48 : Nat) : Int), .ref e1])) = H5 at gt ht2 ⊢
      have h5 := hR.more (ge.trans gt)
      have hT5 := (ge.trans gt).lst (by simp) hT1
      refine ⟨T1, _, _, rfl, rfl, hT5, small1000 (by omega), ?_⟩
      exact ⟨_, _, _, _, _, _, rfl, by rw [hs']; exact es, near_step near es, may_step hc es, h5.app hT5 ht2⟩
    | false =>
    refine iteF ?_
    refine ⟨_, rfl, rfl, _, rfl, ?_⟩
    rw [show (Str.ofString "(") = ⟨#[40]⟩ from by decide, e0]
    by_cases c1 : c = 40
    · refine iteTd (decide_eq_true c1) ?_
      have es : stepR s c = openR s := by unfold stepR; rw [if_pos c1]
      have push : s.may = true → (∃ (y2 y3 y4 y5 : Option V) (s : RdSt) (Ls : List Addr), True) ∧ openR s = some ⟨s.top :: s.below, [], s.many, false⟩ := fun m => ⟨⟨none, none, none, none, s, Ls, trivial⟩, by unfold openR; rw [m]; rfl⟩
      refine ⟨_, rfl, rfl, _, rfl, ?_⟩
      cases i with
      | zero =>
        refine iteTd (by rfl) (iteT (bad (dead ?_) hR.gr))
        rw [es]; unfold openR; rw [hmay]; rfl
      | succ j =>
      refine iteFd (decide_eq_false (by simp only [V.int.injEq]; omega)) ?_
      have hcj : ∃ d, z.cps.toList[j]? = some d := ⟨_, List.getElem?_eq_getElem (by omega)⟩
      obtain ⟨d, hcj⟩ := hcj
      have hmay' : s.may = digR d := by rw [hmay]; show (match z.cps.toList[j]? with | some c => digR c | none => false) = _; rw [hcj]
      refine ⟨_, rfl, _, rfl, _, _, rfl, rfl, z, _, d, rfl, rfl, by omega, by rw [show (((j + 1 : Nat) : Int) - 1) = ((j : Nat) : Int) from by omega]; exact atI_natG hcj, ?_⟩
      refine ⟨_, _, rfl, rfl, _, rfl, ?_⟩
      rw [dig_in]
      cases c4 : digR d with
      | false =>
        refine iteT (bad (dead ?_) hR.gr)
        rw [es]; unfold openR; rw [hmay', c4]; rfl
      | true =>
      refine iteF ?_
      have eo := (push (by rw [hmay', c4])).2
      refine ⟨_, rfl, .inl ⟨rfl, _, SqL.of hR.at_⟩, (by decide : (0 : Nat) ≤ sizeLine), fun L nL => ?_⟩
      have gL : Gr [] H3 (upd H3 L (.lst [])) := Gr.new nL
      refine ⟨R, _, .ref L, rfl, rfl, gL.lst (by simp) hR.at_, ?_, ?_⟩
      · rw [List.length_map, List.length_reverse, hl, List.length_cons]; exact small1000 (by omega)
      exact ⟨_, _, _, _, _, _, rfl, by rw [hs', es]; exact eo, near_step near (by rw [es]; exact eo), may_step hc (by rw [es]; exact eo), hR.push nL⟩
    refine iteFd (decide_eq_false c1) ?_
    refine ⟨_, rfl, rfl, _, rfl, ?_⟩
    rw [show (Str.ofString ")") = ⟨#[41]⟩ from by decide, e0]
    by_cases c2 : c = 41
    · refine iteTd (decide_eq_true c2) ?_
      have es : stepR s c = closeR s := by unfold stepR; rw [if_neg c1, if_pos c2]
      refine ⟨_, rfl, _, _, rfl, .inl (SqL.of hR.at_), ?_⟩
      rw [List.length_map, List.length_reverse, hl, List.length_cons]
      refine ⟨_, _, rfl, rfl, _, rfl, ?_⟩
      obtain ⟨below, top, many, may⟩ := s
      simp only at hl hR hb ht
      cases below with
      | nil => exact iteTd (by rfl) (iteT (bad (dead (by rw [es]; rfl)) hR.gr))
      | cons nx bl =>
      refine iteFd (decide_eq_false (by simp only [List.length_cons]; omega)) ?_
      obtain ⟨T1, Lb, rfl⟩ := hR.cons
      obtain ⟨xs, hT1, hd1, lx⟩ := hR.topAt
      refine ⟨_, rfl, _, rfl, _, _, rfl, .inl (SqL.of hR.at_), ?_⟩
      rw [List.length_map, List.length_reverse]
      refine ⟨_, _, rfl, rfl, R, _, _, .ref T1, rfl, rfl, SqL.of hR.at_, by rw [List.length_cons]; exact hR.lastN, ?_⟩
      refine ⟨_, .inl ⟨_, SqL.of hT1, rfl⟩, ?_⟩
      cases top with
      | nil =>
        obtain rfl : xs = [] := List.eq_nil_of_length_eq_zero lx
        exact iteT (bad (dead (by rw [es]; simp [closeR])) hR.gr)
      | cons t0 tr =>
      obtain ⟨x0, xr, rfl⟩ : ∃ x0 xr, xs = x0 :: xr := by
        cases xs with
        | nil => cases lx
        | cons a b => exact ⟨a, b, rfl⟩
      refine iteF ?_
      obtain ⟨hn0, hn1, hlow⟩ := ok.low
      have hnx : nx.length ≤ 300 := ok.row_len (List.mem_cons_self ..)
      have en0 := List.dropLast_concat_getLast hn0
      have hlast : nx.getLast? = some (nx.getLast hn0) := List.getLast?_eq_some_getLast hn0
      generalize nx.getLast hn0 = t at en0 hlast
      generalize hn : nx.dropLast = n0 at en0
      have hcl : closeR ⟨nx :: bl, t0 :: tr, many, may⟩ = some ⟨bl, n0 ++ [(t.1, docOf (t0 :: tr))], many, false⟩ := by
        unfold closeR
        simp only
        rw [if_neg (by simp), hlast, hn]
      subst en0
      have hat := hR.at_
      rw [List.reverse_cons, List.map_append] at hat
      refine ⟨_, rfl, .inl ⟨rfl, _, SqL.of hat⟩, R, _, .ref T1, rfl, rfl, hat, by simp, ?_⟩
      rw [show (Lb.reverse.map V.ref ++ [T1].map V.ref).dropLast = Lb.reverse.map V.ref from List.dropLast_concat]
      obtain ⟨h1, ⟨ys, hT4, hd4⟩⟩ := hR.poprow
      generalize (upd H3 R (.lst (Lb.reverse.map V.ref))) = H4 at h1 hT4 hd4 ⊢
      clear hR hT1 hd1 hat
      refine ⟨T1, ys, rfl, .inl ⟨SqL.of hT4, fun l nl => ?_⟩⟩
      have g2 : Gr [] H4 (upd H4 l (.tup ys)) := Gr.new nl
      have hkx : Dp K (upd H4 l (.tup ys)) (.ref l) (.tuple ((t0 :: tr).map trD)) := .tup (SqT.of upd_same) (hd4.gr g2)
      generalize hkv : V.ref l = kx at hkx ⊢
      clear hkv
      generalize (upd H4 l (.tup ys)) = H5 at g2 hkx ⊢
      have h2 := h1.more g2
      clear h1 hT4 hd4 g2
      dsimp only [gName]
      refine st_normS (t := tSeq _ _) (σ' := [some (.str z), some (.ref R), some (natV i), some (.str ⟨#[c]⟩), some kx, y5]) rfl ?_
      obtain ⟨L1, Lc, rfl⟩ := h2.cons
      obtain ⟨xs1, x1, hL1, h3, hx1⟩ := h2.poptree
      refine ⟨_, rfl, _, rfl, _, _, rfl, .inl (SqL.of h2.at_), ?_⟩
      rw [List.length_map, List.length_reverse]
      refine ⟨_, _, rfl, rfl, R, _, _, .ref L1, rfl, rfl, SqL.of h2.at_, by rw [List.length_cons]; exact h2.lastN, ?_⟩
      refine ⟨.inl ⟨rfl, _, SqL.of hL1⟩, L1, _, x1, rfl, rfl, hL1, by simp, ?_⟩
      rw [List.dropLast_concat]
      have hkx3 : Dp K (upd H5 L1 (.lst xs1)) kx (.tuple ((t0 :: tr).map trD)) := dp_grm (gr1 hL1) (wl1 hL1) _ _ (by rw [← docOf_data]; exact doc_pure1 _) hkx
      generalize (upd H5 L1 (.lst xs1)) = H6 at h3 hx1 hkx3 ⊢
      clear h2 hL1 hkx
      obtain ⟨tp, v1, v2, rfl, htp, d1, d2⟩ := dp_two hx1
      have := d1.intI; subst this
      refine ⟨tp, _, 0, .int t.1, rfl, rfl, htp, rfl, ?_⟩
      dsimp only [gName]
      refine st_normS (t := tDrop _) (σ' := [some (.str z), some (.ref R), some (natV i), some (.str ⟨#[c]⟩), some kx, some (.int t.1)]) rfl ?_
      obtain ⟨xs3, hL3, hd3, lx3⟩ := h3.topAt
      refine ⟨_, rfl, _, rfl, _, _, rfl, .inl (SqL.of h3.at_), ?_⟩
      rw [List.length_map, List.length_reverse]
      refine ⟨_, _, rfl, rfl, R, _, _, .ref L1, rfl, rfl, SqL.of h3.at_, by rw [List.length_cons]; exact h3.lastN, ?_⟩
      refine ⟨.inl ⟨rfl, _, SqL.of hL3⟩, _, rfl, _, rfl, len2, fun np2 nnp => ?_⟩
      have gt : Gr [] H6 (upd H6 np2 (.tup [.int t.1, kx])) := Gr.new nnp
      have ht4 : Dp K (upd H6 np2 (.tup [.int t.1, kx])) (.ref np2) (trD (t.1, docOf (t0 :: tr))) := mk2 (.int t.1) (by rw [docOf_data]; exact hkx3) nnp
      have h4 := h3.more gt
      have hL4 := gt.lst (by simp) hL3
      generalize (upd H6 np2 (.tup [.int t.1, kx])) = H7 at h4 hL4 ht4 ⊢
      simp only [List.length_append, List.length_singleton] at hnx
      refine ⟨L1, _, _, rfl, rfl, hL4, small1000 (by omega), ?_⟩
      exact ⟨_, _, _, _, _, _, rfl, by rw [hs', es]; exact hcl, near_step near (by rw [es]; exact hcl), may_step hc (by rw [es]; exact hcl), h4.app hL4 ht4⟩
    refine iteFd (decide_eq_false c2) ?_
    exact bad (dead (by unfold stepR; rw [if_neg c1, if_neg c2, c3]; rfl)) hR.gr
  · obtain ⟨y2, y3, y4, y5, s, Ls, rfl, hrun, near, hmay, hR⟩ := hP
    rw [Int.toNat_natCast, List.take_of_length_le (by omega)] at hrun
    have hrd : readD z = finR s := by unfold readD; rw [hrun]; rfl
    have hl := hR.length
    obtain ⟨T1, Lb, rfl⟩ := hR.cons
    refine ⟨_, rfl, _, _, rfl, .inl (SqL.of hR.at_), ?_⟩
    rw [List.length_map, List.length_reverse, hl, List.length_cons]
    refine ⟨rfl, _, rfl, ?_⟩
    obtain ⟨below, top, many, may⟩ := s
    cases below with
    | cons nx bl =>
      refine iteFd (decide_eq_false (by simp only [List.length_cons, V.int.injEq]; omega)) ?_
      exact bad (by rw [hrd]; rfl) hR.gr
    | nil =>
      refine iteTd (by rfl) ?_
      obtain rfl : Lb = [] := List.eq_nil_of_length_eq_zero (by simpa using hl)
      obtain ⟨xs, hT1, hd1, lx⟩ := hR.topAt
      refine ⟨_, rfl, R, _, 0, .ref T1, rfl, rfl, SqL.of hR.at_, rfl, ?_⟩
      refine tupD hT1 hd1 fun H' x g hx => q H' x (hR.gr.trans g) ?_
      unfold rdDue
      rw [hrd]
      show Dp K H' x (docOf top).data
      rw [docOf_data]; exact hx
end
end LW
set_option maxHeartbeats 4000000
namespace LW
open PySem PySem.Spec PyProof.Rows L2
section
variable {P : Program} {w : World} {K : PySem.W.Frag} {mg : Str → Option Value} {base : Heap} {f : Addr} {fd : FuncData}
theorem sc_law_told : FnScope ["text", "e"] ["text"] (defScope s__law_told) := ⟨rfl, rfl, rfl, by decide +kernel, rfl, by decide +kernel, by decide +kernel⟩
theorem ok_told02 {n : Nat} {D0 D1 D2 D3 D4 DL : Addr} (F : Fun K "_law_told" "_law_told" s__law_told f fd) (f_read : Fn P w K mg base (XA.CXA P w) (n + 3) "read" ["text"] (spRead K D3))
    {fc : Addr} {fdc : FuncData} (f_class : XA.FnE P w K mg base 3 fc fdc ["e"] (spClassT K D0 D1 D2 D3 D4)) (m_class : mg "_law_class" = some (.ref fc)) (kc : PySem.W.keepIn K (.ref fc) = true) (bc : Binds K fdc ["e"] [])
    (C3 : ClsF K D0 D1 D2 D3 D4 D3 3) (gl : mg "LeafwardError" = some (.ref DL)) (x3 : PySem.W.exmOne K (.ref D3) (.ref DL) = some true) :
    FnOk P w K mg base CX0 (n + 4) f fd ["text"] (spTold02 K) := by
  refine F.ok sc_law_told (fun vs H Q E h => ?_) (fun cdv A outer s0 H vs Q E hr h => ?_)
  · obtain ⟨_, rfl, _⟩ := h; rfl
  obtain ⟨z, rfl, hz, q⟩ := h
  have nd := sc_law_told.nd
  obtain ⟨fa, fda, okA, mgA, kpA, bA⟩ := f_read
  have hr3 : Room 3 (A.deeper (envOfC "_law_told" (defScope s__law_told) s0.heap.objs.size f cdv)) := hr.mono (by omega)
  refine ⟨_, pss_one (XA.ps_tryA (i := 1) (c := .ref DL) rfl rfl nd rfl rfl ⟨rfl, rfl, .inl gl⟩ (fun W pn xe tk ow => pss_one (ps_ret (pe_callS okA hr rfl mgA kpA bA (fun σ => XA.pass_at tk σ) (pa_cons (pv 0) pa_nil))))
    (fun a oe cls d pn hz hf => pss_one (ps_ret (XA.pe_fnE f_class ⟨hr3.dp, hr3.un⟩ ⟨rfl, oe, List.mem_cons_self .., hz, hf⟩ rfl m_class kc bc (pa_cons (pv 1) pa_nil))))), ?_⟩
  refine ⟨_, rfl, z, rfl, hz, fun d v H' e g hd => q H' v g (by unfold rdTold; rw [e]; exact hd), fun e => ?_⟩
  exact fun H' t g ht => ⟨x3, fun a na => ⟨_, rfl, D3, 3, rfl, rfl, C3, fun H2 g2 => q H2 _ (g.trans g2) (by unfold rdTold; rw [e]; exact .str _)⟩⟩
end
end LW
set_option maxHeartbeats 2000000
namespace LW
open PySem PySem.Spec PyProof.Rows L2
def row3 : Nat → Doc
  | 0 => .nil
  | n + 1 => .cons 3 .nil (row3 n)
theorem row3_one : ∀ n, (List.replicate n [(PyData.tuple [.int 3, .tuple []])]).flatten = (row3 n).ts
  | 0 => rfl
  | n + 1 => by rw [List.replicate_succ, List.flatten_cons, row3_one n, row3, Doc.ts]; rfl
theorem row3_lab : ∀ n, (row3 n).lab = true
  | 0 => rfl
  | n + 1 => by rw [row3, Doc.lab, row3_lab n]; rfl
theorem row3_size : ∀ n, (row3 n).size = n
  | 0 => rfl
  | n + 1 => by rw [row3, Doc.size, row3_size n]; show 1 + 0 + n = _; omega
theorem row3_dep : ∀ n, (row3 n).dep ≤ 1
  | 0 => Nat.zero_le _
  | n + 1 => by
    have := row3_dep n
    rw [row3, Doc.dep]; show max (1 + 0) _ ≤ 1; omega
theorem row3_text {n : Nat} (h : n = 299 ∨ n = 300) : textT (row3 n) = repS "3" n := by
  rcases h with rfl | rfl <;> decide +kernel
theorem row3_told {n : Nat} (h : n = 299 ∨ n = 300) : rdTold (repS "3" n) = (row3 n).data := by
  have ho : (row3 n).ok := ⟨row3_lab n, by rw [row3_size]; omega, by have := row3_dep n; omega⟩
  unfold rdTold
  rw [← row3_text h, read_text ho]
theorem row3_much : rdTold (repS "3" 301) = .str "text" := by
  have : (readD (repS "3" 301)).isNone = true := by decide +kernel
  unfold rdTold
  rw [Option.isNone_iff_eq_none.mp this]
def chR : Nat → Doc
  | 0 => .cons 2 .nil .nil
  | n + 1 => .cons 1 (chR n) .nil
def depS (n : Nat) : Str := repS "1(" n ++ ("2" : Str) ++ repS ")" n
theorem chR_ok {n : Nat} (h : n = 28 ∨ n = 29) : (chR n).ok ∧ textT (chR n) = depS n := by
  rcases h with rfl | rfl <;> exact ⟨⟨by decide +kernel, by decide +kernel, by decide +kernel⟩, by decide +kernel⟩
theorem depS_told {n : Nat} (h : n = 28 ∨ n = 29) : rdTold (depS n) = (chR n).data := by
  unfold rdTold
  rw [← (chR_ok h).2, read_text (chR_ok h).1]
theorem depS_much : rdTold (depS 30) = .str "text" := by
  have : (readD (depS 30)).isNone = true := by decide +kernel
  unfold rdTold
  rw [Option.isNone_iff_eq_none.mp this]
theorem repS_len (z : Str) (k : Nat) : (repS z k).length = z.length * k := by
  unfold repS
  have : ∀ (m : Nat) (acc : Array Nat), ((List.replicate m z.cps).foldl (· ++ ·) acc).size = acc.size + z.cps.size * m := by
    intro m
    induction m with
    | zero => intro acc; simp
    | succ m ih => intro acc; rw [List.replicate_succ, List.foldl_cons, ih, Array.size_append, Nat.mul_succ]; omega
  show ((List.replicate k z.cps).foldl (· ++ ·) #[]).size = _
  rw [this]; simp [Str.length]
theorem kit_str {K : PySem.W.Frag} (x : Str) : PySem.W.kitOne K (.type (tyD (.str x))) (.type "str") = some true := by
  have h : kitB "str" "str" = some true := by decide +kernel
  exact kit_ty h
theorem cutH {R : Hp → Prop} {H : Hp} {G : Prop} (cont : ∀ H', Gr [] H H' → R H') (k : (∀ H', Gr [] H H' → R H') → G) : G := k cont
def spLaw02 (K : PySem.W.Frag) (T : Addr) : Sp := fun vs H Q _ => ∃ (a : Addr) (ns : List Int), vs = [.ref a] ∧ SqL K H a (ns.map V.int) ∧ ns.length ≤ 63 ∧ GxR.TabG H T ∧ ∀ H', Q (.bl true) H'
section
variable {K : PySem.W.Frag} {σ : L2.St} {H0 : Hp} {bx cl : Addr}
theorem BX.pickS {bi si : Nat} {z : Str} (hb : σ[bi]? = some (some (.ref bx))) (hs : σ[si]? = some (some (.str z))) (h0 : 0 < z.length) (h1 : z.length ≤ 1000) : BX K σ H0 bx cl (tCall spPickS [] E0 (tCons (tVar bi) (tCons (tVar si) tNil))) (fun d => ∃ y : Str, d = .str y ∧ y.length ≤ 2) := fun H1 Q g hB k =>
  ⟨_, hb, _, hs, bx, cl, z, rfl, hB, h0, h1, fun c H2 g2 hB2 => k H2 _ _ g2 hB2 (.str _) rfl ⟨_, rfl, (Nat.le_succ 1 : (1 : Nat) ≤ 2)⟩⟩
theorem BX.strS {y : Str} (h : y.length ≤ 2) : BX K σ H0 bx cl (tC (.str y)) (fun d => ∃ y : Str, d = .str y ∧ y.length ≤ 2) := BX.str.imp fun d e => ⟨y, e, h⟩
end
end LW
set_option maxHeartbeats 4000000
namespace LW
open PySem PySem.Spec PyProof.Rows L2
section
variable {P : Program} {w : World} {K : PySem.W.Frag} {mg : Str → Option Value} {base : Heap} {f : Addr} {fd : FuncData}
abbrev n_law : List Str := ["script", "box", "d", "text", "at", "signs", "put", "other", "due", "many", "long", "deep", "told"]
theorem sc_law : FnScope n_law ["script"] (defScope s_law) := ⟨rfl, rfl, rfl, by decide +kernel, rfl, by decide +kernel, by decide +kernel⟩
theorem ok_law02 {T CD : Addr} (F : Fun K "law" "law" s_law f fd) (f__law_box : Fn P w K mg base CX0 99 "_law_box" ["script"] (spBox K)) (f__law_take : Fn P w K mg base CX0 99 "_law_take" ["box", "m"] spTake) (f__law_pick : Fn P w K mg base CX0 99 "_law_pick" ["box", "menu"] (spPickD K)) (f__law_pickS : Fn P w K mg base CX0 99 "_law_pick" ["box", "menu"] spPickS)
    (f__law_document : Fn P w K mg base CX0 99 "_law_document" ["box", "labels", "most", "deep"] (spDocL K 6)) (f__law_text : Fn P w K mg base CX0 99 "_law_text" ["d"] (spTextOf K 40)) (f_written : Fn P w K mg base (XA.CXA P w) 99 "written" ["d"] (spWrittenX K T CD)) (f__law_told : Fn P w K mg base CX0 99 "_law_told" ["text"] (spTold02 K)) (f__law_read : Fn P w K mg base CX0 99 "_law_read" ["text"] (spLRead K))
    (m_len : mg "len" = none) (m_isinstance : mg "isinstance" = none) (m_str : mg "str" = none) (m_tuple : mg "tuple" = none) (m_repr : mg "repr" = none) :
    FnAt P w K mg base CX0 callerA f fd ["script"] (spLaw02 K T) := by
  have hr0 : Room (99 + 1) callerA := ⟨by decide, by decide, by decide⟩
  refine okAt hr0 F sc_law (fun vs H Q E h => ?_) (fun cdv outer s0 H vs Q E h => ?_)
  · obtain ⟨_, _, rfl, _⟩ := h; rfl
  obtain ⟨a, ns, rfl, hS, hlen, hT, q⟩ := h
  have nd := sc_law.nd
  have hr : Room 99 (callerA.deeper (envOfC "law" (defScope s_law) s0.heap.objs.size f cdv)) := hr0.deeper _
  have hg : (callerA.deeper (envOfC "law" (defScope s_law) s0.heap.objs.size f cdv)).guards = some [] := rfl
  have hu66 : (callerA.deeper (envOfC "law" (defScope s_law) s0.heap.objs.size f cdv)).units + 66 < cLine := by have := hr.un; omega
  refine ⟨_, pss_cons (ps_set (i := 1) nd rfl (.inl rfl) (pe_fn f__law_box hr rfl pass0 (pa_cons (pv 0) pa_nil)))
    (pss_cons (ps_set (i := 2) nd rfl (.inl rfl) (pe_fn f__law_document hr rfl pass0 (pa_cons (pv 1) (pa_cons (pe_lst (pa_cons pe_int (pa_cons pe_int (pa_cons pe_int (pa_cons pe_int (pa_cons pe_int pa_nil)))))) (pa_cons pe_int (pa_cons pe_int pa_nil))))))
    (pss_cons (ps_set (i := 3) nd rfl (.inl rfl) (pe_fn f__law_text hr rfl pass0 (pa_cons (pv 2) pa_nil)))
    (pss_cons (ps_if (PW.pt (pw_or (pt_cmpR op_ne (pe_fn f_written hr rfl passA0 (pa_cons (pv 2) pa_nil)) (pv 3) (nomark _)) (pw_or (pt_not (pt_val (pe_callB call_isi (by rfl) m_isinstance b_isinstance (pa_cons (pe_fn f_written hr rfl passA0 (pa_cons (pv 2) pa_nil)) (pa_cons (pe_bltn (v := .ty "str") (by rfl) m_str b_str rfl) pa_nil))))) (pw_or1 (pt_cmpR op_ne (pe_callB (r := rReprA K) (call_reprA hg hu66) (by rfl) m_repr b_repr (pa_cons (pe_fn f__law_told hr rfl pass0 (pa_cons (pv 3) pa_nil)) pa_nil)) (pe_callB (r := rReprA K) (call_reprA hg hu66) (by rfl) m_repr b_repr (pa_cons (pv 2) pa_nil)) (nomark _))))))
      (pss_one (ps_ret pe_bl))
      pss_nil)
    (pss_cons (ps_set (i := 4) nd rfl (.inl rfl) (pe_fn f__law_take hr rfl pass0 (pa_cons (pv 1) (pa_cons (pe_op op_add (pe_callB call_len_str (by rfl) m_len PySem.boot_len (pa_cons (pv 3) pa_nil)) pe_int) pa_nil))))
    (pss_cons (ps_set (i := 5) nd rfl (.inl rfl) pe_str)
    (pss_cons (ps_set (i := 6) nd rfl (.inl rfl) (pe_fn f__law_pick hr rfl pass0 (pa_cons (pv 1) (pa_cons (pe_lst (pa_cons pe_str (pa_cons pe_str (pa_cons pe_str (pa_cons pe_str (pa_cons pe_str (pa_cons pe_str (pa_cons pe_str (pa_cons pe_str (pa_cons pe_str (pa_cons (pe_fn f__law_pickS hr rfl pass0 (pa_cons (pv 1) (pa_cons (pv 5) pa_nil))) (pa_cons (pe_fn f__law_pickS hr rfl pass0 (pa_cons (pv 1) (pa_cons (pv 5) pa_nil))) pa_nil)))))))))))) pa_nil))))
    (pss_cons (ps_set (i := 7) nd rfl (.inl rfl) (pe_op op_add_str (pe_op op_add_str (pe_slice sl_str (pv 3) po_none (po_some (pv 4))) (pv 6)) (pe_slice sl_str (pv 3) (po_some (pe_op op_add (pv 4) (pe_fn f__law_take hr rfl pass0 (pa_cons (pv 1) (pa_cons pe_int pa_nil))))) po_none)))
    (pss_cons (ps_set (i := 8) nd rfl (.inl rfl) (pe_fn f__law_read hr rfl pass0 (pa_cons (pv 7) pa_nil)))
    (pss_cons (ps_if (pt_cmpR op_ne (pe_callB (r := rReprA K) (call_reprA hg hu66) (by rfl) m_repr b_repr (pa_cons (pe_fn f__law_told hr rfl pass0 (pa_cons (pv 7) pa_nil)) pa_nil)) (pe_callB (r := rReprA K) (call_reprA hg hu66) (by rfl) m_repr b_repr (pa_cons (pe_ifExp (pt_cmpR op_isN (pv 8) pe_non (nomark _)) pe_str (pv 8)) pa_nil)) (nomark _))
      (pss_one (ps_ret pe_bl))
      pss_nil)
    (pss_cons (ps_set (i := 9) nd rfl (.inl rfl) (pe_op op_add pe_int (pe_fn f__law_take hr rfl pass0 (pa_cons (pv 1) (pa_cons pe_int pa_nil)))))
    (pss_cons (ps_set (i := 10) nd rfl (.inl rfl) (pe_fn f__law_told hr rfl pass0 (pa_cons (pe_op op_mul_str pe_str (pv 9)) pa_nil)))
    (pss_cons (ps_if (pt_cmpR op_ne (pe_callB (r := rReprA K) (call_reprA hg hu66) (by rfl) m_repr b_repr (pa_cons (pv 10) pa_nil)) (pe_callB (r := rReprA K) (call_reprA hg hu66) (by rfl) m_repr b_repr (pa_cons (pe_ifExp (pt_cmpR op_le (pv 9) pe_int (nomark _)) (pe_op op_repX (pe_tup (pa_cons (pe_tup (pa_cons pe_int (pa_cons (pe_tup pa_nil) pa_nil))) pa_nil)) (pv 9)) pe_str) pa_nil)) (nomark _))
      (pss_one (ps_ret pe_bl))
      pss_nil)
    (pss_cons (ps_set (i := 11) nd rfl (.inl rfl) (pe_op op_add pe_int (pe_fn f__law_take hr rfl pass0 (pa_cons (pv 1) (pa_cons pe_int pa_nil)))))
    (pss_cons (ps_set (i := 12) nd rfl (.inl rfl) (pe_fn f__law_told hr rfl pass0 (pa_cons (pe_op op_add_str (pe_op op_add_str (pe_op op_mul_str pe_str (pe_op op_sub (pv 11) pe_int)) pe_str) (pe_op op_mul_str pe_str (pe_op op_sub (pv 11) pe_int))) pa_nil)))
    (pss_cons (ps_if (pt_cmpR op_gt (pv 11) pe_int (nomark _))
      (pss_one (ps_ret (pe_cmpR (op_eqD hr.units) (pv 12) pe_str (nomark _))))
      pss_nil)
    (pss_one (ps_ret (pe_and (pe_callB call_isi (by rfl) m_isinstance b_isinstance (pa_cons (pv 12) (pa_cons (pe_bltn (v := .ty "tuple") (by rfl) m_tuple b_tuple rfl) pa_nil))) (pe_one (pe_cmpR op_eq (pe_fn f_written hr rfl passA0 (pa_cons (pv 12) pa_nil)) (pe_op op_add_str (pe_op op_add_str (pe_op op_mul_str pe_str (pe_op op_sub (pv 11) pe_int)) pe_str) (pe_op op_mul_str pe_str (pe_op op_sub (pv 11) pe_int))) (nomark _))))))))))))))))))))), ?_⟩
  refine ⟨_, rfl, a, ns, rfl, hS, by omega, fun bx cl H1 g1 hB1 nbx ncl => ?_⟩
  refine ⟨_, rfl, (by decide : (5 : Nat) ≤ sizeLine), fun l0 n0 => ?_⟩
  have g0 := Gr.new (m := []) (o := .lst [.int 0, .int 1, .int 2, .int 3, .int 4]) n0
  have hB0 := hB1.gr g0
  refine ⟨bx, cl, l0, [0, 1, 2, 3, 4], 12, 5, rfl, hB0, upd_same, (hB1.ne n0).1, by decide, by decide, by decide, by decide, by decide, by decide, by decide, fun d dv H2 dl dz dp g2 hB2 hd2 => ?_⟩
  have g02 : Gr [bx] H H2 := g1.any.trans (g0.any.trans g2)
  have dok : d.ok := ⟨dl, by omega, by omega⟩
  have bz := sizeLine_eq
  have tl := textT_small dl
  refine ⟨_, rfl, dv, d, rfl, hd2, dl, by omega, by omega, fun H3 g3 => ?_⟩
  have hd3 := hd2.gr g3
  have hB3 := hB2.gr g3
  have g03 : Gr [bx] H H3 := g02.trans g3.any
  have nd2 : (L2.start n_law [V.ref a]) = [some (.ref a), none, none, none, none, none, none, none, none, none, none, none, none] := rfl
  refine ⟨_, rfl, d.data, dv, rfl, hd3, g03.tab _ hT, .inr ⟨d, rfl, dok, fun H4 g4 => ?_⟩⟩
  refine ⟨_, rfl, rfl, _, rfl, iteFd (by simp) ?_⟩
  refine ⟨_, rfl, d.data, dv, rfl, hd3.gr g4, (g03.trans g4.any).tab _ hT, .inr ⟨d, rfl, dok, fun H5 g5 => ?_⟩⟩
  have ts : Dp K H5 (.str (textT d)) (.str (textT d)) := .str _
  refine ⟨_, _, _, _, _, rfl, .ty "str", ts.ty, kit_str _, _, rfl, iteF ?_⟩
  have g05 := g03.trans (g4.any.trans g5.any)
  refine ⟨_, rfl, textT d, rfl, by omega, fun H6 v6 g6 hv6 => ?_⟩
  have et : rdTold (textT d) = d.data := by unfold rdTold; rw [read_text dok]
  rw [et] at hv6
  have sh := Doc.data_show dok
  have hd6 := ((hd3.gr g4).gr g5).gr g6
  refine ⟨d.data, v6, rfl, hv6, sh.1, sh.2.1, sh.2.2, _, rfl, d.data, dv, rfl, hd6, sh.1, sh.2.1, sh.2.2, ?_⟩
  refine ⟨rfl, _, rfl, iteFd (by simp) ?_⟩
  have g06 := g05.trans g6.any
  have hB6 := ((hB3.gr g4).gr g5).gr g6
  refine ⟨_, rfl, _, rfl, textT d, rfl, by omega, _, _, rfl, rfl, bx, cl, _, rfl, by omega, by omega, hB6, fun t H7 t0 tm g7 hB7 => ?_⟩
  obtain ⟨at_, rfl⟩ : ∃ k : Nat, t = (k : Int) := ⟨t.toNat, by omega⟩
  have hat : at_ ≤ (textT d).length := by omega
  have g07 := g06.trans g7
  clear g3 g4 g5 g6 hv6 hd6 hd3 hd2 t0 tm g1 g0 g2 g02 g03 g05 g06 hB0 hB1 hB2 hB3 hB6
  refine st_normS (t := tSeq _ _) (σ' := [some (.ref a), some (.ref bx), some dv, some (.str (textT d)), some (natV at_), none, none, none, none, none, none, none, none]) rfl ?_
  refine BX.set (K := K) (P := (· = PyData.str " !#$&'()*+,-./0123456789:;<=>?@ABCDEFGHIJKLMNOPQRSTUVWXYZ[]^_`abcdefghijklmnopqrstuvwxyz{|}~")) BX.str hB7 fun H8 sx sd g8 hB8 hsx _ es => ?_
  subst es
  cases hsx
  refine st_normS (t := tSeq _ _) (σ' := [some (.ref a), some (.ref bx), some dv, some (.str (textT d)), some (natV at_), some (.str " !#$&'()*+,-./0123456789:;<=>?@ABCDEFGHIJKLMNOPQRSTUVWXYZ[]^_`abcdefghijklmnopqrstuvwxyz{|}~"), none, none, none, none, none, none, none]) rfl ?_
  have hsl : 0 < (" !#$&'()*+,-./0123456789:;<=>?@ABCDEFGHIJKLMNOPQRSTUVWXYZ[]^_`abcdefghijklmnopqrstuvwxyz{|}~" : Str).length ∧ (" !#$&'()*+,-./0123456789:;<=>?@ABCDEFGHIJKLMNOPQRSTUVWXYZ[]^_`abcdefghijklmnopqrstuvwxyz{|}~" : Str).length ≤ 1000 := by decide +kernel
  have pick := BX.pickL (K := K) (H0 := H8) (bx := bx) (cl := cl) (bi := 1) (σ := [some (.ref a), some (.ref bx), some dv, some (.str (textT d)), some (natV at_), some (.str " !#$&'()*+,-./0123456789:;<=>?@ABCDEFGHIJKLMNOPQRSTUVWXYZ[]^_`abcdefghijklmnopqrstuvwxyz{|}~"), none, none, none, none, none, none, none]) rfl
    (BXs.consA (BX.strS (y := "") (by decide)) (BXs.consA (BX.strS (y := "0") (by decide)) (BXs.consA (BX.strS (y := "(") (by decide)) (BXs.consA (BX.strS (y := ")") (by decide)) (BXs.consA (BX.strS (y := "()") (by decide)) (BXs.consA (BX.strS (y := "\n") (by decide)) (BXs.consA (BX.strS (y := "\t") (by decide)) (BXs.consA (BX.strS (y := "4") (by decide)) (BXs.consA (BX.strS (y := "(1") (by decide)) (BXs.consA (BX.pickS (bi := 1) (si := 5) rfl rfl hsl.1 hsl.2) (BXs.consA (BX.pickS (bi := 1) (si := 5) rfl rfl hsl.1 hsl.2) BXs.nilA)))))))))))
    (fun ds h => by have := h.1; omega)
  refine BX.set pick hB8 fun H9 px pd g9 hB9 hpx _ ep => ?_
  obtain ⟨ds, ⟨_, hall⟩, hmem⟩ := ep
  obtain ⟨pu, rfl, hpu⟩ := hall pd hmem
  cases hpx
  clear hall hmem pick hsl
  refine st_normS (t := tSeq _ _) (σ' := [some (.ref a), some (.ref bx), some dv, some (.str (textT d)), some (natV at_), some (.str " !#$&'()*+,-./0123456789:;<=>?@ABCDEFGHIJKLMNOPQRSTUVWXYZ[]^_`abcdefghijklmnopqrstuvwxyz{|}~"), some (.str pu), none, none, none, none, none, none]) rfl ?_
  generalize (V.str " !#$&'()*+,-./0123456789:;<=>?@ABCDEFGHIJKLMNOPQRSTUVWXYZ[]^_`abcdefghijklmnopqrstuvwxyz{|}~") = sv
  have g09 := g07.trans (g8.trans g9)
  clear g7 g8 g9 hB7 hB8 g07
  have l1 : (cutS (textT d) none (some (at_ : Int))).length = at_ := cutS_to _ hat
  refine ⟨_, rfl, _, rfl, at_, rfl, textT d, rfl, by omega, _, rfl, _, _, rfl, rfl, by rw [l1]; omega, ?_⟩
  refine ⟨_, rfl, _, rfl, _, rfl, bx, cl, 2, rfl, by decide, by decide, hB9, fun t2 H10 t0 tm g10 hB10 => ?_⟩
  obtain ⟨k2, rfl⟩ : ∃ k : Nat, t2 = (k : Int) := ⟨t2.toNat, by omega⟩
  refine ⟨_, _, rfl, rfl, ((at_ + k2 : Nat) : Int), (by show V.int ((at_ : Int) + (k2 : Int)) = _; rw [Int.natCast_add]), textT d, rfl, by omega, ?_⟩
  have l2 : (cutS (textT d) (some ((at_ + k2 : Nat) : Int)) none).length = (textT d).length - (at_ + k2) := cutS_from _ _
  refine ⟨_, _, rfl, rfl, by rw [Str.length_append, l1, l2]; omega, ?_⟩
  have lo : (cutS (textT d) none (some (at_ : Int)) ++ pu ++ cutS (textT d) (some ((at_ + k2 : Nat) : Int)) none).length ≤ 58 := by
    rw [Str.length_append, Str.length_append, l1, l2]; omega
  generalize (cutS (textT d) none (some (at_ : Int)) ++ pu ++ cutS (textT d) (some ((at_ + k2 : Nat) : Int)) none) = ot at lo ⊢
  have g010 := g09.trans g10
  clear g10 g09 hB9 l1 l2 t0 tm
  refine st_normS (t := tSeq _ _) (σ' := [some (.ref a), some (.ref bx), some dv, some (.str (textT d)), some (natV at_), some sv, some (.str pu), some (.str ot), none, none, none, none, none]) rfl ?_
  refine ⟨_, rfl, ot, rfl, lo, fun H11 v11 g11 hv11 => ?_⟩
  refine st_normS (t := tSeq _ _) (σ' := [some (.ref a), some (.ref bx), some dv, some (.str (textT d)), some (natV at_), some sv, some (.str pu), some (.str ot), some v11, none, none, none, none]) rfl ?_
  refine ⟨_, rfl, ot, rfl, by omega, fun H12 v12 g12 hv12 => ?_⟩
  have sh2 := rdTold_show ot
  have g012 := g010.trans (g11.any.trans g12.any)
  have hB12 := (hB10.gr g11).gr g12
  have hv11' := hv11.gr g12
  refine ⟨rdTold ot, v12, rfl, hv12, sh2.1, sh2.2.1, sh2.2.2, ?_⟩
  have key : ∃ u : V, Dp K H12 u (rdTold ot) ∧ (v11 = .non ∧ u = .str "text" ∨ v11 ≠ .non ∧ u = v11) := by
    unfold rdDue at hv11'
    unfold rdTold
    cases e : readD ot with
    | none =>
      rw [e] at hv11'
      cases hv11'
      exact ⟨_, .str _, .inl ⟨rfl, rfl⟩⟩
    | some dd =>
      rw [e] at hv11'
      exact ⟨v11, hv11', .inr ⟨fun z => (by obtain ⟨_, _, z', _⟩ := Dp.tupI hv11'; rw [z] at z'; cases z'), rfl⟩⟩
  obtain ⟨u, hu, hcase⟩ := key
  refine ⟨_, rfl, rfl, _, rfl, ?_⟩
  refine' (fun {R : Prop} (cont : R) (k : R → _) => k cont) ?c fun cont => ?k
  case k =>
    rcases hcase with ⟨e1, e2⟩ | ⟨e1, e2⟩
    · refine iteTd (decide_eq_true e1) ⟨rdTold ot, .str "text", rfl, by rw [← e2]; exact hu, sh2.1, sh2.2.1, sh2.2.2, rfl, _, rfl, iteFd (by simp) ?_⟩
      exact cont
    · refine iteFd (decide_eq_false e1) ⟨_, rfl, rdTold ot, v11, rfl, by rw [← e2]; exact hu, sh2.1, sh2.2.1, sh2.2.2, rfl, _, rfl, iteFd (by simp) ?_⟩
      exact cont
  clear hcase hu hv11 hv12 hv11' u
  refine ⟨_, rfl, bx, cl, 3, rfl, by decide, by decide, hB12, fun t3 H13 t0 tm g13 hB13 => ?_⟩
  obtain ⟨k3, rfl⟩ : ∃ k : Nat, t3 = (k : Int) := ⟨t3.toNat, by omega⟩
  refine ⟨_, _, rfl, rfl, ?_⟩
  have e3 : V.int ((299 : Int) + (k3 : Int)) = V.int ((299 + k3 : Nat) : Int) := by rw [Int.natCast_add]; rfl
  dsimp only
  rw [e3]
  have hk3 : k3 < 3 := by omega
  have g013 := g012.trans g13
  clear t0 tm g12 g11 g012 g13 hB12 hB10
  refine st_normS (t := tSeq _ _) (σ' := [some (.ref a), some (.ref bx), some dv, some (.str (textT d)), some (natV at_), some sv, some (.str pu), some (.str ot), some v11, some (natV (299 + k3)), none, none, none]) rfl ?_
  have lr : (repS "3" (299 + k3)).length ≤ 5000 := by rw [repS_len, show ("3" : Str).length = 1 from rfl]; omega
  refine ⟨_, rfl, "3", 299 + k3, rfl, rfl, by omega, by decide, _, rfl, lr, fun H14 v14 g14 hv14 => ?_⟩
  refine st_normS (t := tSeq _ _) (σ' := [some (.ref a), some (.ref bx), some dv, some (.str (textT d)), some (natV at_), some sv, some (.str pu), some (.str ot), some v11, some (natV (299 + k3)), some v14, none, none]) rfl ?_
  have sh3 := rdTold_show (repS "3" (299 + k3))
  refine ⟨_, rfl, _, v14, rfl, hv14, sh3.1, sh3.2.1, sh3.2.2, ?_⟩
  refine ⟨_, rfl, _, _, rfl, rfl, _, rfl, ?_⟩
  have hB14 := hB13.gr g14
  have g014 := g013.trans g14.any
  refine' cutH (H := H14) ?c2 fun cont => ?k2
  case k2 =>
    by_cases c3 : k3 = 2
    · have em3 : rdTold (repS "3" (299 + k3)) = .str "text" := by rw [c3]; exact row3_much
      refine iteFd (decide_eq_false (by omega)) ?_
      rw [em3] at sh3 ⊢
      refine ⟨.str "text", .str "text", rfl, .str _, sh3.1, sh3.2.1, sh3.2.2, rfl, _, rfl, iteFd (by simp) ?_⟩
      exact cont H14 (Gr.refl _)
    · have hn : 299 + k3 = 299 ∨ 299 + k3 = 300 := by omega
      refine iteTd (decide_eq_true (by omega)) ?_
      refine ⟨(by decide : (0 : Nat) ≤ sizeLine), fun ep nep => ⟨len2, fun tp ntp => ⟨len1, fun lp nlp => ?_⟩⟩⟩
      have ge : Gr [] H14 (upd H14 ep (.tup [])) := Gr.new nep
      have he : Dp K (upd H14 ep (.tup [])) (.ref ep) (.tuple []) := .tup (SqT.of upd_same) .nil
      generalize (upd H14 ep (.tup [])) = H15 at ntp nlp ge he ⊢
      have gt : Gr [] H15 (upd H15 tp (.tup [.int 3, .ref ep])) := Gr.new ntp
      have htp : Dp K (upd H15 tp (.tup [.int 3, .ref ep])) (.ref tp) (.tuple [.int 3, .tuple []]) := mk2 (.int 3) he ntp
      generalize (upd H15 tp (.tup [.int 3, .ref ep])) = H16 at nlp gt htp ⊢
      have gl : Gr [] H16 (upd H16 lp (.tup [.ref tp])) := Gr.new nlp
      have hlp : Dp K (upd H16 lp (.tup [.ref tp])) (.ref lp) (.tuple [.tuple [.int 3, .tuple []]]) := mk1 htp nlp
      generalize (upd H16 lp (.tup [.ref tp])) = H17 at gl hlp ⊢
      refine ⟨_, rfl, repX_data hlp (by omega) (by simp) fun H18 x18 g18 hx18 => ?_⟩
      rw [row3_one] at hx18
      rw [row3_told hn] at sh3 ⊢
      refine ⟨(row3 (299 + k3)).data, x18, rfl, hx18, sh3.1, sh3.2.1, sh3.2.2, rfl, _, rfl, iteFd (by simp) ?_⟩
      have gg := ge.trans (gt.trans (gl.trans g18))
      exact cont H18 gg
  intro H19 g19
  have hB19 := hB14.gr g19
  have g019 := g014.trans g19.any
  clear hB14 hB13 g19 g014 g013 g14 hv14 sh3 sh2 sh lr lo
  refine ⟨_, rfl, bx, cl, 3, rfl, by decide, by decide, hB19, fun t4 H20 t0 tm g20 hB20 => ?_⟩
  obtain ⟨k4, rfl⟩ : ∃ k : Nat, t4 = (k : Int) := ⟨t4.toNat, by omega⟩
  refine ⟨_, _, rfl, rfl, ?_⟩
  clear e3
  have e4 : V.int ((29 : Int) + (k4 : Int)) = V.int ((29 + k4 : Nat) : Int) := by rw [Int.natCast_add]; rfl
  dsimp only
  rw [e4]
  have hk4 : k4 < 3 := by omega
  have g020 := g019.trans g20
  clear t0 tm g20 g019 hB19
  refine st_normS (t := tSeq _ _) (σ' := [some (.ref a), some (.ref bx), some dv, some (.str (textT d)), some (natV at_), some sv, some (.str pu), some (.str ot), some v11, some (natV (299 + k3)), some v14, some (natV (29 + k4)), none]) rfl ?_
  have em : V.int (((29 + k4 : Nat) : Int) - 1) = V.int ((28 + k4 : Nat) : Int) := by rw [show (((29 + k4 : Nat) : Int) - 1) = ((28 + k4 : Nat) : Int) from by omega]
  have la : (repS "1(" (28 + k4)).length ≤ 200 := by rw [repS_len, show ("1(" : Str).length = 2 from rfl]; omega
  have lb : (repS ")" (28 + k4)).length ≤ 200 := by rw [repS_len, show (")" : Str).length = 1 from rfl]; omega
  have lc : ("2" : Str).length = 1 := rfl
  have ld : (repS "1(" (28 + k4) ++ ("2" : Str)).length ≤ 201 := by rw [Str.length_append]; omega
  have le : (depS (28 + k4)).length ≤ 401 := by unfold depS; rw [Str.length_append]; omega
  refine ⟨_, rfl, _, _, rfl, rfl, "1(", 28 + k4, rfl, em, by omega, by decide, ?_⟩
  refine ⟨_, _, rfl, rfl, by omega, ?_⟩
  refine ⟨_, rfl, _, _, rfl, rfl, ")", 28 + k4, rfl, em, by omega, by decide, ?_⟩
  refine ⟨_, _, rfl, rfl, by omega, depS (28 + k4), rfl, by omega, fun H21 v21 g21 hv21 => ?_⟩
  refine st_normS (t := tSeq _ _) (σ' := [some (.ref a), some (.ref bx), some dv, some (.str (textT d)), some (natV at_), some sv, some (.str pu), some (.str ot), some v11, some (natV (299 + k3)), some v14, some (natV (29 + k4)), some v21]) rfl ?_
  have g021 := g020.trans g21.any
  refine ⟨_, rfl, _, _, rfl, rfl, _, rfl, ?_⟩
  by_cases c4 : k4 = 2
  · subst c4
    refine iteTd (by decide) ?_
    rw [depS_much] at hv21
    have st : SeqAt.shaped (.str "text") = true := str_shaped (by decide +kernel)
    exact ⟨_, rfl, .str "text", .str "text", hv21, .str _, st, st, by rw [show PyData.eqv (.str "text") (.str "text") = true from by decide +kernel]; exact q _⟩
  refine iteFd (decide_eq_false (by omega)) ?_
  have hn : 28 + k4 = 28 ∨ 28 + k4 = 29 := by omega
  rw [depS_told hn] at hv21
  have co := chR_ok hn
  refine ⟨_, rfl, _, _, _, _, _, rfl, .ty "tuple", hv21.ty, kit_tup _, _, rfl, ?_⟩
  refine iteT ?_
  refine ⟨_, rfl, (chR (28 + k4)).data, v21, rfl, hv21, g021.tab _ hT, .inr ⟨chR (28 + k4), rfl, co.1, fun H22 g22 => ?_⟩⟩
  refine ⟨_, rfl, _, _, rfl, rfl, "1(", 28 + k4, rfl, em, by omega, by decide, ?_⟩
  refine ⟨_, _, rfl, rfl, by omega, ?_⟩
  refine ⟨_, rfl, _, _, rfl, rfl, ")", 28 + k4, rfl, em, by omega, by decide, ?_⟩
  refine ⟨_, _, rfl, rfl, by omega, rfl, ?_⟩
  rw [co.2]
  have : decide (V.str (depS (28 + k4)) = V.str (repS "1(" (28 + k4) ++ ("2" : Str) ++ repS ")" (28 + k4))) = true := decide_eq_true rfl
  rw [this]
  exact q _
end
end LW
set_option maxHeartbeats 4000000
namespace LW
open PySem PySem.Spec PyProof.Rows L2
structure Df (K : PySem.W.Frag) (mg : Str → Option Value) (x y : Str) (ps : List Str) (st : Stmt) (f : Addr) (fd : FuncData) : Prop where
  F : Fun K y y st f fd
  m : mg x = some (.ref f)
  b : Binds K fd ps []
theorem Df.fn {P : Program} {w : World} {K : PySem.W.Frag} {mg : Str → Option Value} {base : Heap} {x y : Str} {ps : List Str} {st : Stmt} {f : Addr} {fd : FuncData} {CX : CXT} (D : Df K mg x y ps st f fd) {k : Nat} {sp : Sp} (h : FnOk P w K mg base CX k f fd ps sp) : Fn P w K mg base CX k x ps sp := ⟨f, fd, h, D.m, D.F.kp, D.b⟩
structure Dm (K : PySem.W.Frag) (C : Addr) (x ql : Str) (ps : List Str) (st : Stmt) (f : Addr) (fd : FuncData) : Prop where
  F : Fun K x ql st f fd
  m : Meth K C x f
  b : Binds K fd ps []
theorem Dm.mt {P : Program} {w : World} {K : PySem.W.Frag} {mg : Str → Option Value} {base : Heap} {C : Addr} {x ql : Str} {ps : List Str} {st : Stmt} {f : Addr} {fd : FuncData} (D : Dm K C x ql ps st f fd) {k : Nat} {sp : Sp} (h : FnOk P w K mg base CX0 k f fd ps sp) : Mt P w K mg base CX0 k C x ps sp := ⟨f, fd, h, D.m, D.b⟩
section
variable {P : Program} {w : World} {K : PySem.W.Frag} {mg : Str → Option Value} {base : Heap} {f : Addr} {fd : FuncData}
theorem docL_any (F : Fun K "_law_document" "_law_document" s__law_document f fd) (m : mg "_law_document" = some (.ref f)) (b : Binds K fd ["box", "labels", "most", "deep"] []) (ft : Fn P w K mg base CX0 1 "_law_take" ["box", "m"] spTake) (fp : Fn P w K mg base CX0 2 "_law_pick" ["box", "menu"] spPick) (fs : Fn P w K mg base CX0 40 "_law_size" ["d"] (spSizeL K 40)) (mr : mg "range" = none) (mt : mg "tuple" = none) :
    ∀ n : Nat, Fn P w K mg base CX0 (n + 41) "_law_document" ["box", "labels", "most", "deep"] (spDocL K n)
  | 0 => ⟨f, fd, docL_none, m, F.kp, b⟩
  | n + 1 => ⟨f, fd, ok_docL F (docL_any F m b ft fp fs mr mt n) ft fp fs mr mt, m, F.kp, b⟩
end
theorem law_fn {P : Program} {w : World} {K : PySem.W.Frag} {mg : Str → Option Value} {base : Heap} {E0 E1 E2 E3 E4 E5 y0 T0 C : Addr} {t_LABELS t_MOST_NESTED t_MOST_TREES t_DIGITS : Tok}
    {f0 : Addr} {g0 : FuncData} (D0 : Df K mg "is_below" "is_below" ["worth", "limit"] s_is_below f0 g0)
    {f1 : Addr} {g1 : FuncData} (D1 : Df K mg "is_tuple_of" "is_tuple_of" ["worth", "many"] s_is_tuple_of f1 g1)
    {f2 : Addr} {g2 : FuncData} (D2 : Df K mg "is_tree" "is_tree" ["tree"] s_is_tree f2 g2)
    {f3 : Addr} {g3 : FuncData} (D3 : Df K mg "is_document" "is_document" ["d"] s_is_document f3 g3)
    {f4 : Addr} {g4 : FuncData} (D4 : Df K mg "check_document" "check_document" ["d"] s_check_document f4 g4)
    {f5 : Addr} {g5 : FuncData} (D5 : Df K mg "text_of" "text_of" ["d"] s_text_of f5 g5)
    {f6 : Addr} {g6 : FuncData} (D6 : Df K mg "tree_text" "tree_text" ["label", "kids"] s_tree_text f6 g6)
    {f7 : Addr} {g7 : FuncData} (D7 : Df K mg "written" "written" ["d"] s_written f7 g7)
    {f8 : Addr} {g8 : FuncData} (D8 : Df K mg "read" "read" ["text"] s_read f8 g8)
    {f9 : Addr} {g9 : FuncData} (D9 : Df K mg "_law_take" "_law_take" ["box", "m"] s__law_take f9 g9)
    {f10 : Addr} {g10 : FuncData} (D10 : Df K mg "_law_pick" "_law_pick" ["box", "menu"] s__law_pick f10 g10)
    {f11 : Addr} {g11 : FuncData} (D11 : Df K mg "_law_size" "_law_size" ["d"] s__law_size f11 g11)
    {f12 : Addr} {g12 : FuncData} (D12 : Df K mg "_law_class" "_law_class" ["e"] s__law_class f12 g12)
    {f13 : Addr} {g13 : FuncData} (D13 : Df K mg "_law_box" "_law_box" ["script"] s__law_box f13 g13)
    {f14 : Addr} {g14 : FuncData} (D14 : Df K mg "_law_document" "_law_document" ["box", "labels", "most", "deep"] s__law_document f14 g14)
    {f15 : Addr} {g15 : FuncData} (D15 : Df K mg "_law_text" "_law_text" ["d"] s__law_text f15 g15)
    {f16 : Addr} {g16 : FuncData} (D16 : Df K mg "_law_read" "_law_read" ["text"] s__law_read f16 g16)
    {f17 : Addr} {g17 : FuncData} (D17 : Df K mg "_law_told" "_law_told" ["text"] s__law_told f17 g17)
    {f18 : Addr} {g18 : FuncData} (D18 : Df K mg "law" "law" ["script"] s_law f18 g18)
    {e1 : Addr} {h1 : FuncData} (M1 : Dm K C "take" "Reading.take" ["self", "sign"] s_Reading_take e1 h1)
    {e2 : Addr} {h2 : FuncData} (M2 : Dm K C "add_tree" "Reading.add_tree" ["self", "label"] s_Reading_add_tree e2 h2)
    {e3 : Addr} {h3 : FuncData} (M3 : Dm K C "open_row" "Reading.open_row" ["self"] s_Reading_open_row e3 h3)
    {e4 : Addr} {h4 : FuncData} (M4 : Dm K C "close_row" "Reading.close_row" ["self"] s_Reading_close_row e4 h4)
    {e5 : Addr} {h5 : FuncData} (M5 : Dm K C "document" "Reading.document" ["self"] s_Reading_document e5 h5)
    {e0 : Addr} {h0 : FuncData} (I0 : Fun K "__init__" "Reading.__init__" s_Reading___init__ e0 h0) (I1 : Mk K C e0) (I2 : Binds K h0 ["self"] []) (Tx : RdTxt K mg C)
    (hc0 : g3.code = .ref y0) (TB0 : GxR.TabB base mg y0 T0)
    (gl0 : mg "BadDocument" = some (.ref E0)) (gl1 : mg "BadSchema" = some (.ref E1)) (gl2 : mg "BadTransformation" = some (.ref E2)) (gl3 : mg "BadText" = some (.ref E3)) (gl4 : mg "TooMuch" = some (.ref E4)) (gl5 : mg "LeafwardError" = some (.ref E5))
    (B0 : XC K mg "BadDocument" E0) (C0 : ClsF K E0 E1 E2 E3 E4 E0 0) (x0 : PySem.W.exmOne K (.ref E0) (.ref E5) = some true) (xs0 : PySem.W.exmOne K (.ref E0) (.ref E0) = some true) (B3 : XC K mg "BadText" E3) (C3 : ClsF K E0 E1 E2 E3 E4 E3 3) (x3 : PySem.W.exmOne K (.ref E3) (.ref E5) = some true) (xs3 : PySem.W.exmOne K (.ref E3) (.ref E3) = some true)
    (m_ValueError : mg "ValueError" = none) (m_abs : mg "abs" = none) (m_all : mg "all" = none) (m_bool : mg "bool" = none) (m_int : mg "int" = none) (m_isinstance : mg "isinstance" = none) (m_len : mg "len" = none) (m_range : mg "range" = none) (m_repr : mg "repr" = none) (m_str : mg "str" = none) (m_sum : mg "sum" = none) (m_tuple : mg "tuple" = none)
    (i_LABELS : mg "LABELS" = some (.int 5 t_LABELS)) (i_MOST_NESTED : mg "MOST_NESTED" = some (.int 30 t_MOST_NESTED)) (i_MOST_TREES : mg "MOST_TREES" = some (.int 300 t_MOST_TREES)) (i_DIGITS : mg "DIGITS" = some (.str "01234" t_DIGITS)) :
    FnAt P w K mg base CX0 callerA f18 g18 ["script"] (spLaw02 K T0) := by
  have is_below := D0.fn (P := P) (w := w) (base := base) (ok_is_below (k := 0) D0.F m_isinstance m_int m_bool)
  have is_tuple_of := D1.fn (P := P) (w := w) (base := base) (ok_is_tuple_of (k := 0) D1.F m_isinstance m_tuple m_len)
  have is_tree := D2.fn (ok_is_tree D2.F is_tuple_of is_below i_LABELS)
  have is_document := D3.fn (ok_is_document D3.F hc0 TB0 is_tree m_isinstance m_tuple m_len m_all i_MOST_NESTED i_MOST_TREES)
  have check_documentX := D4.fn (ok_checkDX D4.F is_document B0)
  have texts := text_any (P := P) (w := w) (base := base) D5.F D5.m D5.b D6.F D6.m D6.b m_str 31
  have written := D7.fn (ok_writtenX D7.F (check_documentX.mono (by decide)) (texts.mono (by decide)))
  have Reading_open : Mt P w K mg base (XA.CXA P w) 1 C "open_row" ["self"] (spRdOp K C E3 openR) := ⟨_, _, ok_rdOpen (n := 0) Tx M3.F B3, M3.m, M3.b⟩
  have Reading_close : Mt P w K mg base (XA.CXA P w) 1 C "close_row" ["self"] (spRdOp K C E3 closeR) := ⟨_, _, ok_rdClose (n := 0) Tx M4.F B3 m_len m_tuple, M4.m, M4.b⟩
  have Reading_add : Mt P w K mg base (XA.CXA P w) 1 C "add_tree" ["self", "label"] (spRdAdd K C E3) := ⟨_, _, ok_rdAdd (n := 0) Tx M2.F B3 m_len i_MOST_TREES i_MOST_NESTED, M2.m, M2.b⟩
  have Reading_doc : Mt P w K mg base (XA.CXA P w) 1 C "document" ["self"] (spRdDoc K C E3) := ⟨_, _, ok_rdDoc (n := 0) Tx M5.F B3 m_len m_tuple, M5.m, M5.b⟩
  have Reading_take : Mt P w K mg base (XA.CXA P w) 2 C "take" ["self", "sign"] (spRdTake K C E3) := ⟨_, _, ok_rdTake (n := 1) Tx M1.F B3 Reading_open Reading_close Reading_add i_DIGITS m_int, M1.m, M1.b⟩
  have Reading_new : Kl P w K mg base CX0 1 C "Reading" ["self"] (spRdInit K C) := ⟨_, _, ok_rdInit (n := 0) Tx I0, I1, Tx.gC, I2⟩
  have read := D8.fn (ok_read (n := 1) Tx D8.F Reading_new Reading_take (Reading_doc.mono (by decide)))
  have l_take := D9.fn (P := P) (w := w) (base := base) (ok_take D9.F m_len m_int)
  have l_pick := D10.fn (ok_pick D10.F l_take m_len)
  have l_pickD := D10.fn (ok_pickD D10.F l_take m_len)
  have l_size := sizeL_any (P := P) (w := w) (base := base) D11.F D11.m D11.b m_sum 40
  have l_class := ok_classT (P := P) (w := w) (base := base) D12.F m_isinstance m_ValueError gl0 gl1 gl2 gl3 gl4
  have l_box := D13.fn (P := P) (w := w) (base := base) (ok_box D13.F m_int m_abs)
  have l_document := docL_any D14.F D14.m D14.b l_take l_pick l_size m_range m_tuple 6
  have l_pickS := D10.fn (ok_pickS D10.F l_take m_len)
  have l_text := ltext_any (P := P) (w := w) (base := base) D15.F D15.m D15.F.kp D15.b m_str 40
  have l_read := D16.fn (P := P) (w := w) (base := base) (ok_lread (n := 0) D16.F m_range m_len m_int m_tuple)
  have l_told := D17.fn (ok_told02 (n := 4) D17.F (read.mono (by decide)) l_class D12.m D12.F.kp D12.b C3 gl5 x3)
  exact ok_law02 D18.F (l_box.mono (by decide)) (l_take.mono (by decide)) (l_pickD.mono (by decide)) (l_pickS.mono (by decide)) (l_document.mono (by decide)) (l_text.mono (by decide)) (written.mono (by decide)) (l_told.mono (by decide)) (l_read.mono (by decide)) m_len m_isinstance m_str m_tuple m_repr
theorem law_at {l : PySem.W.OpenLaw} {w : World} {K : PySem.W.Frag} {h : Heap} {mg mb : Str → Option Value} {mean : ExcName → Option Value} {fa E0 E1 E2 E3 E4 E5 y0 T0 C : Addr} {q : Program} {loose : List Str} {t_LABELS t_MOST_NESTED t_MOST_TREES t_DIGITS : Tok} (X : K.In h) (Tp : PyProof.Rows.Top q loose mean mg mb h) (hfa : mg "law" = some (.ref fa))
    {f0 : Addr} {od0 an0 : Option Addr} {sl0 : Array (Option Value)} {oc0 kV0 dc0 pm0 cd0 ct0 : Value}
    {f1 : Addr} {od1 an1 : Option Addr} {sl1 : Array (Option Value)} {oc1 kV1 dc1 pm1 cd1 ct1 : Value}
    {f2 : Addr} {od2 an2 : Option Addr} {sl2 : Array (Option Value)} {oc2 kV2 dc2 pm2 cd2 ct2 : Value}
    {f3 : Addr} {od3 an3 : Option Addr} {sl3 : Array (Option Value)} {oc3 kV3 dc3 pm3 cd3 ct3 : Value}
    {f4 : Addr} {od4 an4 : Option Addr} {sl4 : Array (Option Value)} {oc4 kV4 dc4 pm4 cd4 ct4 : Value}
    {f5 : Addr} {od5 an5 : Option Addr} {sl5 : Array (Option Value)} {oc5 kV5 dc5 pm5 cd5 ct5 : Value}
    {f6 : Addr} {od6 an6 : Option Addr} {sl6 : Array (Option Value)} {oc6 kV6 dc6 pm6 cd6 ct6 : Value}
    {f7 : Addr} {od7 an7 : Option Addr} {sl7 : Array (Option Value)} {oc7 kV7 dc7 pm7 cd7 ct7 : Value}
    {f8 : Addr} {od8 an8 : Option Addr} {sl8 : Array (Option Value)} {oc8 kV8 dc8 pm8 cd8 ct8 : Value}
    {f9 : Addr} {od9 an9 : Option Addr} {sl9 : Array (Option Value)} {oc9 kV9 dc9 pm9 cd9 ct9 : Value}
    {f10 : Addr} {od10 an10 : Option Addr} {sl10 : Array (Option Value)} {oc10 kV10 dc10 pm10 cd10 ct10 : Value}
    {f11 : Addr} {od11 an11 : Option Addr} {sl11 : Array (Option Value)} {oc11 kV11 dc11 pm11 cd11 ct11 : Value}
    {f12 : Addr} {od12 an12 : Option Addr} {sl12 : Array (Option Value)} {oc12 kV12 dc12 pm12 cd12 ct12 : Value}
    {f13 : Addr} {od13 an13 : Option Addr} {sl13 : Array (Option Value)} {oc13 kV13 dc13 pm13 cd13 ct13 : Value}
    {f14 : Addr} {od14 an14 : Option Addr} {sl14 : Array (Option Value)} {oc14 kV14 dc14 pm14 cd14 ct14 : Value}
    {f15 : Addr} {od15 an15 : Option Addr} {sl15 : Array (Option Value)} {oc15 kV15 dc15 pm15 cd15 ct15 : Value}
    {f16 : Addr} {od16 an16 : Option Addr} {sl16 : Array (Option Value)} {oc16 kV16 dc16 pm16 cd16 ct16 : Value}
    {f17 : Addr} {od17 an17 : Option Addr} {sl17 : Array (Option Value)} {oc17 kV17 dc17 pm17 cd17 ct17 : Value}
    {f18 : Addr} {od18 an18 : Option Addr} {sl18 : Array (Option Value)} {oc18 kV18 dc18 pm18 cd18 ct18 : Value}
    {f100 : Addr} {od100 an100 : Option Addr} {sl100 : Array (Option Value)} {oc100 kV100 dc100 pm100 cd100 ct100 : Value}
    {f101 : Addr} {od101 an101 : Option Addr} {sl101 : Array (Option Value)} {oc101 kV101 dc101 pm101 cd101 ct101 : Value}
    {f102 : Addr} {od102 an102 : Option Addr} {sl102 : Array (Option Value)} {oc102 kV102 dc102 pm102 cd102 ct102 : Value}
    {f103 : Addr} {od103 an103 : Option Addr} {sl103 : Array (Option Value)} {oc103 kV103 dc103 pm103 cd103 ct103 : Value}
    {f104 : Addr} {od104 an104 : Option Addr} {sl104 : Array (Option Value)} {oc104 kV104 dc104 pm104 cd104 ct104 : Value}
    {f105 : Addr} {od105 an105 : Option Addr} {sl105 : Array (Option Value)} {oc105 kV105 dc105 pm105 cd105 ct105 : Value}
    (a0 : PySem.W.nsIn K mainGlobals "is_below" = some (some (.ref f0))) (l0 : K.lookup f0 = some ⟨oc0, od0, .func (PySem.W.fnOf "is_below" "is_below" (defArgs s_is_below) (defBody s_is_below) (defScope s_is_below) .none kV0 dc0 pm0 an0 cd0 ct0), sl0⟩) (c0 : PySem.W.codeIn K cd0 "is_below" = true) (k0 : PySem.W.keepIn K (.ref f0) = true)
    (a1 : PySem.W.nsIn K mainGlobals "is_tuple_of" = some (some (.ref f1))) (l1 : K.lookup f1 = some ⟨oc1, od1, .func (PySem.W.fnOf "is_tuple_of" "is_tuple_of" (defArgs s_is_tuple_of) (defBody s_is_tuple_of) (defScope s_is_tuple_of) .none kV1 dc1 pm1 an1 cd1 ct1), sl1⟩) (c1 : PySem.W.codeIn K cd1 "is_tuple_of" = true) (k1 : PySem.W.keepIn K (.ref f1) = true)
    (a2 : PySem.W.nsIn K mainGlobals "is_tree" = some (some (.ref f2))) (l2 : K.lookup f2 = some ⟨oc2, od2, .func (PySem.W.fnOf "is_tree" "is_tree" (defArgs s_is_tree) (defBody s_is_tree) (defScope s_is_tree) .none kV2 dc2 pm2 an2 cd2 ct2), sl2⟩) (c2 : PySem.W.codeIn K cd2 "is_tree" = true) (k2 : PySem.W.keepIn K (.ref f2) = true)
    (a3 : PySem.W.nsIn K mainGlobals "is_document" = some (some (.ref f3))) (l3 : K.lookup f3 = some ⟨oc3, od3, .func (PySem.W.fnOf "is_document" "is_document" (defArgs s_is_document) (defBody s_is_document) (defScope s_is_document) .none kV3 dc3 pm3 an3 cd3 ct3), sl3⟩) (c3 : PySem.W.codeIn K cd3 "is_document" = true) (k3 : PySem.W.keepIn K (.ref f3) = true)
    (a4 : PySem.W.nsIn K mainGlobals "check_document" = some (some (.ref f4))) (l4 : K.lookup f4 = some ⟨oc4, od4, .func (PySem.W.fnOf "check_document" "check_document" (defArgs s_check_document) (defBody s_check_document) (defScope s_check_document) .none kV4 dc4 pm4 an4 cd4 ct4), sl4⟩) (c4 : PySem.W.codeIn K cd4 "check_document" = true) (k4 : PySem.W.keepIn K (.ref f4) = true)
    (a5 : PySem.W.nsIn K mainGlobals "text_of" = some (some (.ref f5))) (l5 : K.lookup f5 = some ⟨oc5, od5, .func (PySem.W.fnOf "text_of" "text_of" (defArgs s_text_of) (defBody s_text_of) (defScope s_text_of) .none kV5 dc5 pm5 an5 cd5 ct5), sl5⟩) (c5 : PySem.W.codeIn K cd5 "text_of" = true) (k5 : PySem.W.keepIn K (.ref f5) = true)
    (a6 : PySem.W.nsIn K mainGlobals "tree_text" = some (some (.ref f6))) (l6 : K.lookup f6 = some ⟨oc6, od6, .func (PySem.W.fnOf "tree_text" "tree_text" (defArgs s_tree_text) (defBody s_tree_text) (defScope s_tree_text) .none kV6 dc6 pm6 an6 cd6 ct6), sl6⟩) (c6 : PySem.W.codeIn K cd6 "tree_text" = true) (k6 : PySem.W.keepIn K (.ref f6) = true)
    (a7 : PySem.W.nsIn K mainGlobals "written" = some (some (.ref f7))) (l7 : K.lookup f7 = some ⟨oc7, od7, .func (PySem.W.fnOf "written" "written" (defArgs s_written) (defBody s_written) (defScope s_written) .none kV7 dc7 pm7 an7 cd7 ct7), sl7⟩) (c7 : PySem.W.codeIn K cd7 "written" = true) (k7 : PySem.W.keepIn K (.ref f7) = true)
    (a8 : PySem.W.nsIn K mainGlobals "read" = some (some (.ref f8))) (l8 : K.lookup f8 = some ⟨oc8, od8, .func (PySem.W.fnOf "read" "read" (defArgs s_read) (defBody s_read) (defScope s_read) .none kV8 dc8 pm8 an8 cd8 ct8), sl8⟩) (c8 : PySem.W.codeIn K cd8 "read" = true) (k8 : PySem.W.keepIn K (.ref f8) = true)
    (a9 : PySem.W.nsIn K mainGlobals "_law_take" = some (some (.ref f9))) (l9 : K.lookup f9 = some ⟨oc9, od9, .func (PySem.W.fnOf "_law_take" "_law_take" (defArgs s__law_take) (defBody s__law_take) (defScope s__law_take) .none kV9 dc9 pm9 an9 cd9 ct9), sl9⟩) (c9 : PySem.W.codeIn K cd9 "_law_take" = true) (k9 : PySem.W.keepIn K (.ref f9) = true)
    (a10 : PySem.W.nsIn K mainGlobals "_law_pick" = some (some (.ref f10))) (l10 : K.lookup f10 = some ⟨oc10, od10, .func (PySem.W.fnOf "_law_pick" "_law_pick" (defArgs s__law_pick) (defBody s__law_pick) (defScope s__law_pick) .none kV10 dc10 pm10 an10 cd10 ct10), sl10⟩) (c10 : PySem.W.codeIn K cd10 "_law_pick" = true) (k10 : PySem.W.keepIn K (.ref f10) = true)
    (a11 : PySem.W.nsIn K mainGlobals "_law_size" = some (some (.ref f11))) (l11 : K.lookup f11 = some ⟨oc11, od11, .func (PySem.W.fnOf "_law_size" "_law_size" (defArgs s__law_size) (defBody s__law_size) (defScope s__law_size) .none kV11 dc11 pm11 an11 cd11 ct11), sl11⟩) (c11 : PySem.W.codeIn K cd11 "_law_size" = true) (k11 : PySem.W.keepIn K (.ref f11) = true)
    (a12 : PySem.W.nsIn K mainGlobals "_law_class" = some (some (.ref f12))) (l12 : K.lookup f12 = some ⟨oc12, od12, .func (PySem.W.fnOf "_law_class" "_law_class" (defArgs s__law_class) (defBody s__law_class) (defScope s__law_class) .none kV12 dc12 pm12 an12 cd12 ct12), sl12⟩) (c12 : PySem.W.codeIn K cd12 "_law_class" = true) (k12 : PySem.W.keepIn K (.ref f12) = true)
    (a13 : PySem.W.nsIn K mainGlobals "_law_box" = some (some (.ref f13))) (l13 : K.lookup f13 = some ⟨oc13, od13, .func (PySem.W.fnOf "_law_box" "_law_box" (defArgs s__law_box) (defBody s__law_box) (defScope s__law_box) .none kV13 dc13 pm13 an13 cd13 ct13), sl13⟩) (c13 : PySem.W.codeIn K cd13 "_law_box" = true) (k13 : PySem.W.keepIn K (.ref f13) = true)
    (a14 : PySem.W.nsIn K mainGlobals "_law_document" = some (some (.ref f14))) (l14 : K.lookup f14 = some ⟨oc14, od14, .func (PySem.W.fnOf "_law_document" "_law_document" (defArgs s__law_document) (defBody s__law_document) (defScope s__law_document) .none kV14 dc14 pm14 an14 cd14 ct14), sl14⟩) (c14 : PySem.W.codeIn K cd14 "_law_document" = true) (k14 : PySem.W.keepIn K (.ref f14) = true)
    (a15 : PySem.W.nsIn K mainGlobals "_law_text" = some (some (.ref f15))) (l15 : K.lookup f15 = some ⟨oc15, od15, .func (PySem.W.fnOf "_law_text" "_law_text" (defArgs s__law_text) (defBody s__law_text) (defScope s__law_text) .none kV15 dc15 pm15 an15 cd15 ct15), sl15⟩) (c15 : PySem.W.codeIn K cd15 "_law_text" = true) (k15 : PySem.W.keepIn K (.ref f15) = true)
    (a16 : PySem.W.nsIn K mainGlobals "_law_read" = some (some (.ref f16))) (l16 : K.lookup f16 = some ⟨oc16, od16, .func (PySem.W.fnOf "_law_read" "_law_read" (defArgs s__law_read) (defBody s__law_read) (defScope s__law_read) .none kV16 dc16 pm16 an16 cd16 ct16), sl16⟩) (c16 : PySem.W.codeIn K cd16 "_law_read" = true) (k16 : PySem.W.keepIn K (.ref f16) = true)
    (a17 : PySem.W.nsIn K mainGlobals "_law_told" = some (some (.ref f17))) (l17 : K.lookup f17 = some ⟨oc17, od17, .func (PySem.W.fnOf "_law_told" "_law_told" (defArgs s__law_told) (defBody s__law_told) (defScope s__law_told) .none kV17 dc17 pm17 an17 cd17 ct17), sl17⟩) (c17 : PySem.W.codeIn K cd17 "_law_told" = true) (k17 : PySem.W.keepIn K (.ref f17) = true)
    (a18 : PySem.W.nsIn K mainGlobals "law" = some (some (.ref f18))) (l18 : K.lookup f18 = some ⟨oc18, od18, .func (PySem.W.fnOf "law" "law" (defArgs s_law) (defBody s_law) (defScope s_law) .none kV18 dc18 pm18 an18 cd18 ct18), sl18⟩) (c18 : PySem.W.codeIn K cd18 "law" = true) (k18 : PySem.W.keepIn K (.ref f18) = true)
    (a100 : PySem.W.findIn K (.ref C) "__init__" = some (some (.ref f100))) (j100 : PySem.W.isFn K (.ref f100) = true) (l100 : K.lookup f100 = some ⟨oc100, od100, .func (PySem.W.fnOf "__init__" "Reading.__init__" (defArgs s_Reading___init__) (defBody s_Reading___init__) (defScope s_Reading___init__) .none kV100 dc100 pm100 an100 cd100 ct100), sl100⟩) (c100 : PySem.W.codeIn K cd100 "Reading.__init__" = true) (k100 : PySem.W.keepIn K (.ref f100) = true)
    (a101 : PySem.W.findIn K (.ref C) "take" = some (some (.ref f101))) (j101 : PySem.W.isFn K (.ref f101) = true) (l101 : K.lookup f101 = some ⟨oc101, od101, .func (PySem.W.fnOf "take" "Reading.take" (defArgs s_Reading_take) (defBody s_Reading_take) (defScope s_Reading_take) .none kV101 dc101 pm101 an101 cd101 ct101), sl101⟩) (c101 : PySem.W.codeIn K cd101 "Reading.take" = true) (k101 : PySem.W.keepIn K (.ref f101) = true)
    (a102 : PySem.W.findIn K (.ref C) "add_tree" = some (some (.ref f102))) (j102 : PySem.W.isFn K (.ref f102) = true) (l102 : K.lookup f102 = some ⟨oc102, od102, .func (PySem.W.fnOf "add_tree" "Reading.add_tree" (defArgs s_Reading_add_tree) (defBody s_Reading_add_tree) (defScope s_Reading_add_tree) .none kV102 dc102 pm102 an102 cd102 ct102), sl102⟩) (c102 : PySem.W.codeIn K cd102 "Reading.add_tree" = true) (k102 : PySem.W.keepIn K (.ref f102) = true)
    (a103 : PySem.W.findIn K (.ref C) "open_row" = some (some (.ref f103))) (j103 : PySem.W.isFn K (.ref f103) = true) (l103 : K.lookup f103 = some ⟨oc103, od103, .func (PySem.W.fnOf "open_row" "Reading.open_row" (defArgs s_Reading_open_row) (defBody s_Reading_open_row) (defScope s_Reading_open_row) .none kV103 dc103 pm103 an103 cd103 ct103), sl103⟩) (c103 : PySem.W.codeIn K cd103 "Reading.open_row" = true) (k103 : PySem.W.keepIn K (.ref f103) = true)
    (a104 : PySem.W.findIn K (.ref C) "close_row" = some (some (.ref f104))) (j104 : PySem.W.isFn K (.ref f104) = true) (l104 : K.lookup f104 = some ⟨oc104, od104, .func (PySem.W.fnOf "close_row" "Reading.close_row" (defArgs s_Reading_close_row) (defBody s_Reading_close_row) (defScope s_Reading_close_row) .none kV104 dc104 pm104 an104 cd104 ct104), sl104⟩) (c104 : PySem.W.codeIn K cd104 "Reading.close_row" = true) (k104 : PySem.W.keepIn K (.ref f104) = true)
    (a105 : PySem.W.findIn K (.ref C) "document" = some (some (.ref f105))) (j105 : PySem.W.isFn K (.ref f105) = true) (l105 : K.lookup f105 = some ⟨oc105, od105, .func (PySem.W.fnOf "document" "Reading.document" (defArgs s_Reading_document) (defBody s_Reading_document) (defScope s_Reading_document) .none kV105 dc105 pm105 an105 cd105 ct105), sl105⟩) (c105 : PySem.W.codeIn K cd105 "Reading.document" = true) (k105 : PySem.W.keepIn K (.ref f105) = true)
    (aC : PySem.W.nsIn K mainGlobals "Reading" = some (some (.ref C))) (pg : PySem.W.plainGet K C Str.empty = true) (hd : PySem.W.hasDictIn K C = true) (po : PySem.W.plainOver K C = true) (sa : PySem.W.findIn K (.ref C) "__setattr__" = some (some (.builtin "object.__setattr__"))) (mk : PySem.W.makesIn K C = true) (kc : PySem.W.keepIn K (.ref C) = true) (nF0 : PySem.W.findIn K (.ref C) "rows" = some none) (nF1 : PySem.W.findIn K (.ref C) "many" = some none) (nF2 : PySem.W.findIn K (.ref C) "may_open" = some none)
    (n0 : PySem.W.nsIn K mainGlobals "BadDocument" = some (some (.ref E0)))
    (n1 : PySem.W.nsIn K mainGlobals "BadSchema" = some (some (.ref E1)))
    (n2 : PySem.W.nsIn K mainGlobals "BadTransformation" = some (some (.ref E2)))
    (n3 : PySem.W.nsIn K mainGlobals "BadText" = some (some (.ref E3)))
    (n4 : PySem.W.nsIn K mainGlobals "TooMuch" = some (some (.ref E4)))
    (n5 : PySem.W.nsIn K mainGlobals "LeafwardError" = some (some (.ref E5)))
    (r0q : PySem.W.excIn K E0 [.type "ValueError", .type "Exception", .type "BaseException", .type "object"] "ValueError.__new__" = true)
    (r0k : PySem.W.keepIn K (.ref E0) = true)
    (r0b : PySem.W.subIn K (.ref E0) (.type "BaseException") = some true)
    (r0t : PySem.W.typeIn K (.ref E0) = some (.type "type"))
    (r0g : PySem.W.findIn K (.ref E0) "__getattribute__" = some (some (.builtin "BaseException.__getattribute__")))
    (r0h : PySem.W.findIn K (.ref E0) "__getattr__" = some none)
    (r0d : PySem.W.hasDictIn K E0 = true)
    (r0a : PySem.W.findIn K (.ref E0) "__class__" = some (some (.builtin "object.__class__")))
    (r0m : PySem.W.mroIn K E0 (.type "object") = some true)
    (r0s : PySem.W.findIn K (.ref E0) "__str__" = some (some (.builtin "BaseException.__str__")))
    (r0u0 : PySem.W.kitOne K (.ref E0) (.ref E0) = some true)
    (r0u1 : PySem.W.kitOne K (.ref E0) (.ref E1) = some false)
    (r0u2 : PySem.W.kitOne K (.ref E0) (.ref E2) = some false)
    (r0u3 : PySem.W.kitOne K (.ref E0) (.ref E3) = some false)
    (r0u4 : PySem.W.kitOne K (.ref E0) (.ref E4) = some false)
    (r0v : PySem.W.kitOne K (.ref E0) (.type "ValueError") = some true)
    (r0x : PySem.W.exmOne K (.ref E0) (.ref E5) = some true)
    (r0w : PySem.W.exmOne K (.ref E0) (.ref E0) = some true)
    (r3q : PySem.W.excIn K E3 [.type "ValueError", .type "Exception", .type "BaseException", .type "object"] "ValueError.__new__" = true)
    (r3k : PySem.W.keepIn K (.ref E3) = true)
    (r3b : PySem.W.subIn K (.ref E3) (.type "BaseException") = some true)
    (r3t : PySem.W.typeIn K (.ref E3) = some (.type "type"))
    (r3g : PySem.W.findIn K (.ref E3) "__getattribute__" = some (some (.builtin "BaseException.__getattribute__")))
    (r3h : PySem.W.findIn K (.ref E3) "__getattr__" = some none)
    (r3d : PySem.W.hasDictIn K E3 = true)
    (r3a : PySem.W.findIn K (.ref E3) "__class__" = some (some (.builtin "object.__class__")))
    (r3m : PySem.W.mroIn K E3 (.type "object") = some true)
    (r3s : PySem.W.findIn K (.ref E3) "__str__" = some (some (.builtin "BaseException.__str__")))
    (r3u0 : PySem.W.kitOne K (.ref E3) (.ref E0) = some false)
    (r3u1 : PySem.W.kitOne K (.ref E3) (.ref E1) = some false)
    (r3u2 : PySem.W.kitOne K (.ref E3) (.ref E2) = some false)
    (r3u3 : PySem.W.kitOne K (.ref E3) (.ref E3) = some true)
    (r3u4 : PySem.W.kitOne K (.ref E3) (.ref E4) = some false)
    (r3v : PySem.W.kitOne K (.ref E3) (.type "ValueError") = some true)
    (r3x : PySem.W.exmOne K (.ref E3) (.ref E5) = some true)
    (r3w : PySem.W.exmOne K (.ref E3) (.ref E3) = some true)
    (qn : PySem.W.specialIn K (.builtin "object.__class__") "__get__" = some (some (.builtin "getset_descriptor.__get__"))) (qt : PySem.W.takesIn K (.builtin "object.__class__") = some true)
    (z_ValueError : PySem.W.nsIn K mainGlobals "ValueError" = some none) (z_abs : PySem.W.nsIn K mainGlobals "abs" = some none) (z_all : PySem.W.nsIn K mainGlobals "all" = some none) (z_bool : PySem.W.nsIn K mainGlobals "bool" = some none) (z_int : PySem.W.nsIn K mainGlobals "int" = some none) (z_isinstance : PySem.W.nsIn K mainGlobals "isinstance" = some none) (z_len : PySem.W.nsIn K mainGlobals "len" = some none) (z_range : PySem.W.nsIn K mainGlobals "range" = some none) (z_repr : PySem.W.nsIn K mainGlobals "repr" = some none) (z_str : PySem.W.nsIn K mainGlobals "str" = some none) (z_sum : PySem.W.nsIn K mainGlobals "sum" = some none) (z_tuple : PySem.W.nsIn K mainGlobals "tuple" = some none)
    (i_LABELS : PySem.W.nsIn K mainGlobals "LABELS" = some (some (.int 5 t_LABELS))) (i_MOST_NESTED : PySem.W.nsIn K mainGlobals "MOST_NESTED" = some (some (.int 30 t_MOST_NESTED))) (i_MOST_TREES : PySem.W.nsIn K mainGlobals "MOST_TREES" = some (some (.int 300 t_MOST_TREES))) (i_DIGITS : PySem.W.nsIn K mainGlobals "DIGITS" = some (some (.str "01234" t_DIGITS)))
    (ht0 : PySem.W.tabIn K "is_document" = some (y0, T0)) (hT0 : K.lookup T0 = none) (hq0 : ((recsOf q).find? (fun e => e.name == ("is_document" : Str))).isSome = true) : LawHere l w K 63 "script" mg fa h := by
  have G := Tp.g
  have e := hfa.symm.trans (PySem.W.mg_of X G a18)
  cases e
  have F0 := fun_mk (st := s_is_below) l0 c0 k0
  have D0 : Df K mg "is_below" "is_below" ["worth", "limit"] s_is_below _ _ := ⟨F0, PySem.W.mg_of X G a0, F0.binds fun _ _ _ _ _ _ us hl => match us, hl with | [_, _], _ => rfl⟩
  have F1 := fun_mk (st := s_is_tuple_of) l1 c1 k1
  have D1 : Df K mg "is_tuple_of" "is_tuple_of" ["worth", "many"] s_is_tuple_of _ _ := ⟨F1, PySem.W.mg_of X G a1, F1.binds fun _ _ _ _ _ _ us hl => match us, hl with | [_, _], _ => rfl⟩
  have F2 := fun_mk (st := s_is_tree) l2 c2 k2
  have D2 : Df K mg "is_tree" "is_tree" ["tree"] s_is_tree _ _ := ⟨F2, PySem.W.mg_of X G a2, F2.binds fun _ _ _ _ _ _ us hl => match us, hl with | [_], _ => rfl⟩
  have F3 := fun_mk (st := s_is_document) l3 c3 k3
  have D3 : Df K mg "is_document" "is_document" ["d"] s_is_document _ _ := ⟨F3, PySem.W.mg_of X G a3, F3.binds fun _ _ _ _ _ _ us hl => match us, hl with | [_], _ => rfl⟩
  have F4 := fun_mk (st := s_check_document) l4 c4 k4
  have D4 : Df K mg "check_document" "check_document" ["d"] s_check_document _ _ := ⟨F4, PySem.W.mg_of X G a4, F4.binds fun _ _ _ _ _ _ us hl => match us, hl with | [_], _ => rfl⟩
  have F5 := fun_mk (st := s_text_of) l5 c5 k5
  have D5 : Df K mg "text_of" "text_of" ["d"] s_text_of _ _ := ⟨F5, PySem.W.mg_of X G a5, F5.binds fun _ _ _ _ _ _ us hl => match us, hl with | [_], _ => rfl⟩
  have F6 := fun_mk (st := s_tree_text) l6 c6 k6
  have D6 : Df K mg "tree_text" "tree_text" ["label", "kids"] s_tree_text _ _ := ⟨F6, PySem.W.mg_of X G a6, F6.binds fun _ _ _ _ _ _ us hl => match us, hl with | [_, _], _ => rfl⟩
  have F7 := fun_mk (st := s_written) l7 c7 k7
  have D7 : Df K mg "written" "written" ["d"] s_written _ _ := ⟨F7, PySem.W.mg_of X G a7, F7.binds fun _ _ _ _ _ _ us hl => match us, hl with | [_], _ => rfl⟩
  have F8 := fun_mk (st := s_read) l8 c8 k8
  have D8 : Df K mg "read" "read" ["text"] s_read _ _ := ⟨F8, PySem.W.mg_of X G a8, F8.binds fun _ _ _ _ _ _ us hl => match us, hl with | [_], _ => rfl⟩
  have F9 := fun_mk (st := s__law_take) l9 c9 k9
  have D9 : Df K mg "_law_take" "_law_take" ["box", "m"] s__law_take _ _ := ⟨F9, PySem.W.mg_of X G a9, F9.binds fun _ _ _ _ _ _ us hl => match us, hl with | [_, _], _ => rfl⟩
  have F10 := fun_mk (st := s__law_pick) l10 c10 k10
  have D10 : Df K mg "_law_pick" "_law_pick" ["box", "menu"] s__law_pick _ _ := ⟨F10, PySem.W.mg_of X G a10, F10.binds fun _ _ _ _ _ _ us hl => match us, hl with | [_, _], _ => rfl⟩
  have F11 := fun_mk (st := s__law_size) l11 c11 k11
  have D11 : Df K mg "_law_size" "_law_size" ["d"] s__law_size _ _ := ⟨F11, PySem.W.mg_of X G a11, F11.binds fun _ _ _ _ _ _ us hl => match us, hl with | [_], _ => rfl⟩
  have F12 := fun_mk (st := s__law_class) l12 c12 k12
  have D12 : Df K mg "_law_class" "_law_class" ["e"] s__law_class _ _ := ⟨F12, PySem.W.mg_of X G a12, F12.binds fun _ _ _ _ _ _ us hl => match us, hl with | [_], _ => rfl⟩
  have F13 := fun_mk (st := s__law_box) l13 c13 k13
  have D13 : Df K mg "_law_box" "_law_box" ["script"] s__law_box _ _ := ⟨F13, PySem.W.mg_of X G a13, F13.binds fun _ _ _ _ _ _ us hl => match us, hl with | [_], _ => rfl⟩
  have F14 := fun_mk (st := s__law_document) l14 c14 k14
  have D14 : Df K mg "_law_document" "_law_document" ["box", "labels", "most", "deep"] s__law_document _ _ := ⟨F14, PySem.W.mg_of X G a14, F14.binds fun _ _ _ _ _ _ us hl => match us, hl with | [_, _, _, _], _ => rfl⟩
  have F15 := fun_mk (st := s__law_text) l15 c15 k15
  have D15 : Df K mg "_law_text" "_law_text" ["d"] s__law_text _ _ := ⟨F15, PySem.W.mg_of X G a15, F15.binds fun _ _ _ _ _ _ us hl => match us, hl with | [_], _ => rfl⟩
  have F16 := fun_mk (st := s__law_read) l16 c16 k16
  have D16 : Df K mg "_law_read" "_law_read" ["text"] s__law_read _ _ := ⟨F16, PySem.W.mg_of X G a16, F16.binds fun _ _ _ _ _ _ us hl => match us, hl with | [_], _ => rfl⟩
  have F17 := fun_mk (st := s__law_told) l17 c17 k17
  have D17 : Df K mg "_law_told" "_law_told" ["text"] s__law_told _ _ := ⟨F17, PySem.W.mg_of X G a17, F17.binds fun _ _ _ _ _ _ us hl => match us, hl with | [_], _ => rfl⟩
  have F18 := fun_mk (st := s_law) l18 c18 k18
  have D18 : Df K mg "law" "law" ["script"] s_law _ _ := ⟨F18, PySem.W.mg_of X G a18, F18.binds fun _ _ _ _ _ _ us hl => match us, hl with | [_], _ => rfl⟩
  have F100 := fun_mk (st := s_Reading___init__) l100 c100 k100
  have BB100 : Binds K _ ["self"] [] := F100.binds fun _ _ _ _ _ _ us hl => match us, hl with | [_], _ => rfl
  have F101 := fun_mk (st := s_Reading_take) l101 c101 k101
  have BB101 : Binds K _ ["self", "sign"] [] := F101.binds fun _ _ _ _ _ _ us hl => match us, hl with | [_, _], _ => rfl
  have M1 : Dm K C "take" "Reading.take" ["self", "sign"] s_Reading_take _ _ := ⟨F101, ⟨a101, j101, k101⟩, BB101⟩
  have F102 := fun_mk (st := s_Reading_add_tree) l102 c102 k102
  have BB102 : Binds K _ ["self", "label"] [] := F102.binds fun _ _ _ _ _ _ us hl => match us, hl with | [_, _], _ => rfl
  have M2 : Dm K C "add_tree" "Reading.add_tree" ["self", "label"] s_Reading_add_tree _ _ := ⟨F102, ⟨a102, j102, k102⟩, BB102⟩
  have F103 := fun_mk (st := s_Reading_open_row) l103 c103 k103
  have BB103 : Binds K _ ["self"] [] := F103.binds fun _ _ _ _ _ _ us hl => match us, hl with | [_], _ => rfl
  have M3 : Dm K C "open_row" "Reading.open_row" ["self"] s_Reading_open_row _ _ := ⟨F103, ⟨a103, j103, k103⟩, BB103⟩
  have F104 := fun_mk (st := s_Reading_close_row) l104 c104 k104
  have BB104 : Binds K _ ["self"] [] := F104.binds fun _ _ _ _ _ _ us hl => match us, hl with | [_], _ => rfl
  have M4 : Dm K C "close_row" "Reading.close_row" ["self"] s_Reading_close_row _ _ := ⟨F104, ⟨a104, j104, k104⟩, BB104⟩
  have F105 := fun_mk (st := s_Reading_document) l105 c105 k105
  have BB105 : Binds K _ ["self"] [] := F105.binds fun _ _ _ _ _ _ us hl => match us, hl with | [_], _ => rfl
  have M5 : Dm K C "document" "Reading.document" ["self"] s_Reading_document _ _ := ⟨F105, ⟨a105, j105, k105⟩, BB105⟩
  have Tx : RdTxt K mg C := ⟨⟨pg, hd, po, sa⟩, nF0, nF1, nF2, PySem.W.mg_of X G aC⟩
  obtain ⟨dd0, hdd0⟩ := Option.isSome_iff_exists.mp hq0
  obtain ⟨CC0, hP0⟩ := PySem.W.tab_of Tp X hdd0 ht0
  have hc0 := PySem.W.law_code X G ht0 (PySem.W.mg_of X G a3) (X _ _ l3) rfl
  have four : ∀ R : Addr × Addr → Prop, R (y0, T0) → ∀ p ∈ ([(y0, T0)] : List (Addr × Addr)), R p := fun R r0 p hp => by
    rw [List.mem_singleton.mp hp]
    exact r0
  refine ⟨PySem.W.fnOf "law" "law" (defArgs s_law) (defBody s_law) (defScope s_law) .none kV18 dc18 pm18 an18 cd18 ct18, [(y0, T0)], spLaw02 K T0, four _ hP0, four _ hT0, four _ CC0, fun s u => .of_eq rfl, fun H a ns hl hH hS => ⟨a, ns, rfl, hS, hl, ⟨#[], hH (y0, T0) (.head _), trivial⟩, fun _ => rfl⟩, fun base _ _ hTB => ?_⟩
  have tt0 := hTB (y0, T0) (.head _)
  have B0 : XC K mg "BadDocument" E0 := ⟨PySem.W.mg_of X G n0, r0q, r0k, r0b, r0t⟩
  have C0 : ClsF K E0 E1 E2 E3 E4 E0 0 := ⟨by decide, ⟨r0g, r0h, r0b, r0d, r0a, qn, qt, r0m⟩, r0s, r0u0, r0u1, r0u2, r0u3, r0u4, r0v⟩
  have B3 : XC K mg "BadText" E3 := ⟨PySem.W.mg_of X G n3, r3q, r3k, r3b, r3t⟩
  have C3 : ClsF K E0 E1 E2 E3 E4 E3 3 := ⟨by decide, ⟨r3g, r3h, r3b, r3d, r3a, qn, qt, r3m⟩, r3s, r3u0, r3u1, r3u2, r3u3, r3u4, r3v⟩
  exact law_fn D0 D1 D2 D3 D4 D5 D6 D7 D8 D9 D10 D11 D12 D13 D14 D15 D16 D17 D18 M1 M2 M3 M4 M5 F100 ⟨mk, a100, j100, kc⟩ BB100 Tx hc0 ⟨tt0.code, tt0.bm, tt0.gP⟩  (PySem.W.mg_of X G n0) (PySem.W.mg_of X G n1) (PySem.W.mg_of X G n2) (PySem.W.mg_of X G n3) (PySem.W.mg_of X G n4) (PySem.W.mg_of X G n5) B0 C0 r0x r0w B3 C3 r3x r3w (PySem.W.mg_none_of X G z_ValueError) (PySem.W.mg_none_of X G z_abs) (PySem.W.mg_none_of X G z_all) (PySem.W.mg_none_of X G z_bool) (PySem.W.mg_none_of X G z_int) (PySem.W.mg_none_of X G z_isinstance) (PySem.W.mg_none_of X G z_len) (PySem.W.mg_none_of X G z_range) (PySem.W.mg_none_of X G z_repr) (PySem.W.mg_none_of X G z_str) (PySem.W.mg_none_of X G z_sum) (PySem.W.mg_none_of X G z_tuple) (PySem.W.mg_of X G i_LABELS) (PySem.W.mg_of X G i_MOST_NESTED) (PySem.W.mg_of X G i_MOST_TREES) (PySem.W.mg_of X G i_DIGITS) 
end LW
open PySem PySem.W PyProof.Rows
set_option maxRecDepth 100000 in
set_option maxHeartbeats 0 in
theorem PySem.Challenge.cw_leafward_k02_texts_of_documents_holds : PySem.Challenge.rw_leafward_k02_texts_of_documents.Holds := by
  w_on; refine LW.head ?_
  k_fill
  refine LW.walk_here (l := PySem.Challenge.rw_leafward_k02_texts_of_documents) (n := 63) (x := "script") rfl (by decide) rfl (fun w h Y => PySem.W.kIn_of Y) ?F
  case F =>
    intro w lo mean mg mb fa h Y KX T hmg
    refine' LW.law_at (y0 := 112) (T0 := 110) KX T hmg ?a0 ?l0 ?c0 ?k0 ?a1 ?l1 ?c1 ?k1 ?a2 ?l2 ?c2 ?k2 ?a3 ?l3 ?c3 ?k3 ?a4 ?l4 ?c4 ?k4 ?a5 ?l5 ?c5 ?k5 ?a6 ?l6 ?c6 ?k6 ?a7 ?l7 ?c7 ?k7 ?a8 ?l8 ?c8 ?k8 ?a9 ?l9 ?c9 ?k9 ?a10 ?l10 ?c10 ?k10 ?a11 ?l11 ?c11 ?k11 ?a12 ?l12 ?c12 ?k12 ?a13 ?l13 ?c13 ?k13 ?a14 ?l14 ?c14 ?k14 ?a15 ?l15 ?c15 ?k15 ?a16 ?l16 ?c16 ?k16 ?a17 ?l17 ?c17 ?k17 ?a18 ?l18 ?c18 ?k18 ?a100 ?j100 ?l100 ?c100 ?k100 ?a101 ?j101 ?l101 ?c101 ?k101 ?a102 ?j102 ?l102 ?c102 ?k102 ?a103 ?j103 ?l103 ?c103 ?k103 ?a104 ?j104 ?l104 ?c104 ?k104 ?a105 ?j105 ?l105 ?c105 ?k105 ?aC ?pg ?hd ?po ?sa ?mk ?kc ?nF0 ?nF1 ?nF2 ?n0 ?n1 ?n2 ?n3 ?n4 ?n5 ?r0q ?r0k ?r0b ?r0t ?r0g ?r0h ?r0d ?r0a ?r0m ?r0s ?r0u0 ?r0u1 ?r0u2 ?r0u3 ?r0u4 ?r0v ?r0x ?r0w ?r3q ?r3k ?r3b ?r3t ?r3g ?r3h ?r3d ?r3a ?r3m ?r3s ?r3u0 ?r3u1 ?r3u2 ?r3u3 ?r3u4 ?r3v ?r3x ?r3w ?qn ?qt ?z0 ?z1 ?z2 ?z3 ?z4 ?z5 ?z6 ?z7 ?z8 ?z9 ?z10 ?z11 ?i0 ?i1 ?i2 ?i3 ?ht0 ?hT0 ?hq0
    (case aC => k_is)
    (case a0 => k_is); (case l0 => k_is); (case c0 => k_is); (case k0 => k_is)
    (case a1 => k_is); (case l1 => k_is); (case c1 => k_is); (case k1 => k_is)
    (case a2 => k_is); (case l2 => k_is); (case c2 => k_is); (case k2 => k_is)
    (case a3 => k_is); (case l3 => k_is); (case c3 => k_is); (case k3 => k_is)
    (case a4 => k_is); (case l4 => k_is); (case c4 => k_is); (case k4 => k_is)
    (case a5 => k_is); (case l5 => k_is); (case c5 => k_is); (case k5 => k_is)
    (case a6 => k_is); (case l6 => k_is); (case c6 => k_is); (case k6 => k_is)
    (case a7 => k_is); (case l7 => k_is); (case c7 => k_is); (case k7 => k_is)
    (case a8 => k_is); (case l8 => k_is); (case c8 => k_is); (case k8 => k_is)
    (case a9 => k_is); (case l9 => k_is); (case c9 => k_is); (case k9 => k_is)
    (case a10 => k_is); (case l10 => k_is); (case c10 => k_is); (case k10 => k_is)
    (case a11 => k_is); (case l11 => k_is); (case c11 => k_is); (case k11 => k_is)
    (case a12 => k_is); (case l12 => k_is); (case c12 => k_is); (case k12 => k_is)
    (case a13 => k_is); (case l13 => k_is); (case c13 => k_is); (case k13 => k_is)
    (case a14 => k_is); (case l14 => k_is); (case c14 => k_is); (case k14 => k_is)
    (case a15 => k_is); (case l15 => k_is); (case c15 => k_is); (case k15 => k_is)
    (case a16 => k_is); (case l16 => k_is); (case c16 => k_is); (case k16 => k_is)
    (case a17 => k_is); (case l17 => k_is); (case c17 => k_is); (case k17 => k_is)
    (case a18 => k_is); (case l18 => k_is); (case c18 => k_is); (case k18 => k_is)
    (case a100 => k_is); (case j100 => k_is); (case l100 => k_is); (case c100 => k_is); (case k100 => k_is)
    (case a101 => k_is); (case j101 => k_is); (case l101 => k_is); (case c101 => k_is); (case k101 => k_is)
    (case a102 => k_is); (case j102 => k_is); (case l102 => k_is); (case c102 => k_is); (case k102 => k_is)
    (case a103 => k_is); (case j103 => k_is); (case l103 => k_is); (case c103 => k_is); (case k103 => k_is)
    (case a104 => k_is); (case j104 => k_is); (case l104 => k_is); (case c104 => k_is); (case k104 => k_is)
    (case a105 => k_is); (case j105 => k_is); (case l105 => k_is); (case c105 => k_is); (case k105 => k_is)
    (case pg => k_is); (case hd => k_is); (case po => k_is); (case sa => k_is); (case mk => k_is); (case kc => k_is); (case nF0 => k_is); (case nF1 => k_is); (case nF2 => k_is)
    (case n0 => k_is); (case n1 => k_is); (case n2 => k_is); (case n3 => k_is); (case n4 => k_is); (case n5 => k_is); (case r0q => kernel_rfl); (case r0k => k_is); (case r0b => k_is); (case r0t => k_is); (case r0g => k_is); (case r0h => k_is); (case r0d => k_is); (case r0a => k_is); (case r0m => k_is); (case r0s => k_is); (case r0u0 => kernel_rfl); (case r0u1 => kernel_rfl); (case r0u2 => kernel_rfl); (case r0u3 => kernel_rfl); (case r0u4 => kernel_rfl); (case r0v => kernel_rfl); (case r0x => kernel_rfl); (case r0w => kernel_rfl); (case r3q => kernel_rfl); (case r3k => k_is); (case r3b => k_is); (case r3t => k_is); (case r3g => k_is); (case r3h => k_is); (case r3d => k_is); (case r3a => k_is); (case r3m => k_is); (case r3s => k_is); (case r3u0 => kernel_rfl); (case r3u1 => kernel_rfl); (case r3u2 => kernel_rfl); (case r3u3 => kernel_rfl); (case r3u4 => kernel_rfl); (case r3v => kernel_rfl); (case r3x => kernel_rfl); (case r3w => kernel_rfl); (case qn => k_is); (case qt => k_is)
    (case z0 => k_is); (case z1 => k_is); (case z2 => k_is); (case z3 => k_is); (case z4 => k_is); (case z5 => k_is); (case z6 => k_is); (case z7 => k_is); (case z8 => k_is); (case z9 => k_is); (case z10 => k_is); (case z11 => k_is)
    (case i0 => k_is); (case i1 => k_is); (case i2 => k_is); (case i3 => k_is)
    (case ht0 => kernel_rfl); (case hT0 => kernel_rfl); (case hq0 => decide +kernel)
