import PyProof.Rows.All
import Wide.All
import OpenK.AllK
import Wide.FinOn
import HandS.AnyAll
import HandS.Base
import HandS.Call
import HandS.CallLocal
import HandS.Comp
import HandS.Conv
import HandS.Dict
import HandS.DictComp
import HandS.EndTab
import HandS.Ends
import HandS.Exc
import HandS.ExcCtx
import HandS.ExcIs
import HandS.ExcOwn
import HandS.Flow
import HandS.ForMost
import HandS.GenOver
import HandS.HeadHook1
import HandS.HeadHook2
import HandS.HeadHook3
import HandS.HeadHook4
import HandS.HeadWalk
import HandS.HotCalls
import HandS.Iter
import HandS.List
import HandS.More
import HandS.RaiseMore
import HandS.Star
import HandS.Strs
import HandS.Text
import HandS.Walk
import HandS.WordsExc
import HandS.Zip
import KE.GoesEnum
import KE.GoesMore
import KE.KExcIs
import KE.KExcSuper
import KE.KFromBytes
import KE.KIsAll
import KE.KNest
import KE.KNestM
import KE.KRevSl
import KE.KSuper
import PyProof.EqAt
import PyProof.EqKinds
import PyProof.GenQ
import PyProof.GenRules
import PyProof.ReprRoads
import PyProof.Rows.RegFStrParts
import PyProof.Rows.SetFrom
import PyProof.TupleCall
import PySem.Challenge.RW_justfreed_k00_error_classes
set_option Elab.async false
set_option linter.all false
set_option maxRecDepth 100000
set_option maxHeartbeats 4000000
/-! any(..), all(..) of a generator expression whose element is any expression that raises nothing (calls of defs, further generator expressions within them) -/
namespace GA
open PySem PySem.Spec PyProof.Rows L2 GxR GenW

/-- the context of a generator expression's element; s, H: the state at the expression's making -/
abbrev gcx (X : Cx) (A : Around) (s : Shared) (H : Hp) (cenv : Env) (fp : List Addr) : Cx :=
  { X with A := A, s_0 := s, H_0 := H, env := cenv, outer := X.stack, stack := cenv :: X.stack, ex := fp, fn := fun _ => false, pn := [], xe := fun _ _ => False }

theorem regen {X : Cx} {pins : List (Addr × Obj)} {σ : L2.St} {H : Hp} {s s' : Shared} (I : Inv X pins σ H s) (ho : s'.os = s.os) (hh : s'.heap = s.heap) (hb : AllBare s'.gens) : Inv X pins σ H s' := by
  obtain ⟨h', g', d', t', o'⟩ := s'
  have e1 : o' = s.os := ho
  have e2 : h' = s.heap := hh
  subst e1 e2
  exact ⟨I.ok, I.os, hb, I.base, I.loc, I.cell, I.free, I.freeC, I.pin, I.hok, I.len⟩
theorem bare_set {gs : Array GenState} {g : Nat} {x : GenState} (h : AllBare gs) (hx : x.bare = true) : AllBare (gs.setIfInBounds g x) := by
  intro y hy
  obtain ⟨i, hi, rfl⟩ := Array.mem_iff_getElem.mp hy
  by_cases e : g = i
  · subst e
    have hi' : g < gs.size := by simpa using hi
    rw [Array.getElem_setIfInBounds_self]
    exact hx
  · have hi' : i < gs.size := by simpa using hi
    rw [Array.getElem_setIfInBounds_ne hi' e]
    exact h _ (Array.getElem_mem hi')

theorem gen_start {X : Cx} {pins : List (Addr × Obj)} {σ : L2.St} {H : Hp} {s s' : Shared} {scope : Scope} {own : List (Str × Nat)} {fp : List Addr} {A : Around} {cenv : Env} {a : Addr} {go : Obj}
    (I : Inv X pins σ H s) (ok : BlkOk X.N X.env.scope scope own) (hN : X.N.Nodup) (nc : ∀ y ∈ scope.names, y.2 ≠ .cell)
    (hfp : ∀ b ∈ fp, FpOk X pins H b ∧ b < s.heap.objs.size)
    (hsc : cenv.scope = scope) (hL : cenv.locals = s.heap.objs.size) (hgl : cenv.globals = X.env.globals) (hbl : cenv.builtins = builtinsNs) (hcl : cenv.cells = cloFrom X.env.cells scope.names []) (hfr : cenv.frame = some cenv.locals)
    (fr : A.frames = some (cenv :: X.stack)) (hd : X.calm = true → A.handled = none)
    (os : s'.os = s.os) (bare : AllBare s'.gens) (kp : ∀ b o, s.heap.get? b = some o → s'.heap.get? b = some o) (ns : ∃ m, s'.heap.Ns cenv.locals m)
    (ha : s'.heap.get? a = some go) (haC : s.heap.objs.size < a) (hgo : ∀ v, go.data ≠ .cell v) :
    Inv (gcx X A s H cenv fp) [(a, go)] (wipe σ (own.map (·.2))) H s' := by
  have hfree : ∀ y ∈ scope.names, y.2 = .free → ∃ c, X.env.cells.lookup y.1 = some c := fun y hy e => by
    rcases ok.free y hy e with k | k
    · exact I.ok.has _ (.inl k)
    · exact I.ok.has _ (.inr k)
  have cm : ∀ {y c}, cenv.cells.lookup y = some c → X.env.cells.lookup y = some c ∧ c < s.heap.objs.size := fun {y c} e => by
    rw [hcl] at e
    rcases cloFrom_mem (PySem.mem_of_lookup e) with hm | ⟨h1, rfl⟩
    · cases hm
    · obtain ⟨c, hc⟩ := hfree _ h1 rfl
      rw [hc]
      obtain ⟨w, z⟩ := I.cell _ _ hc
      exact ⟨rfl, z.lt⟩
  have look : ∀ {y}, scope.names.lookup y = some .free → ∃ c, cenv.cells.lookup y = some c ∧ X.env.cells.lookup y = some c := fun {y} hl => by
    have hy : (y, NameKind.free) ∈ scope.names := PySem.mem_of_lookup hl
    obtain ⟨c', e'⟩ := mem_lookup (cloFrom_has (cells := X.env.cells) (acc := []) hy)
    rw [← hcl] at e'
    exact ⟨c', e', (cm e').1⟩
  have okG : (gcx X A s H cenv fp).Ok := by
    refine ⟨I.ok.mod, by show cenv.scope.kind = _; rw [hsc]; exact ok.kind, by show cenv.globals = _; rw [hgl]; exact I.ok.glob, hbl, by show s.heap.objs.size ≤ cenv.locals; rw [hL]; exact Nat.le_refl _,
      fun y z c e1 e2 => I.ok.inj y z c (cm e1).1 (cm e2).1, fun y hy => ?_, fun y c z e => ?_, hd, fr, .inr ⟨rfl, hfr⟩, fun b hb => ⟨?_, fun y c e z => ?_⟩, I.bs, Nat.le_trans I.ok.bsz I.sz, fun b o e hb => ?_, fun b hb z => ?_, I.stack, I.stkFree⟩
    · show ∃ c, cenv.cells.lookup y = some c
      rcases hy with hy | hy
      · have hy : cenv.scope.names.lookup y = some .cell := hy
        rw [hsc] at hy
        exact absurd rfl (nc _ (PySem.mem_of_lookup hy))
      · have hy : cenv.scope.names.lookup y = some .free := hy
        rw [hsc] at hy
        obtain ⟨c, h1, _⟩ := look hy
        exact ⟨c, h1⟩
    · exact absurd z (by simp)
    · show b ≠ cenv.locals
      rw [hL]; exact Nat.ne_of_lt (hfp b hb).2
    · exact (hfp b hb).1.2.2.2.2.1 y c (cm e).1 z
    · rcases (hfp b hb).1.2.2.2.1 with z | z
      · exact I.ok.noex b o e z
      · exact absurd (Nat.lt_of_lt_of_le (Heap.lt_size e) (Nat.le_trans I.ok.bsz z)) (Nat.lt_irrefl _)
    · rcases List.mem_cons.mp (I.stkSub b z) with z | z
      · exact (hfp b hb).1.2.1 z
      · exact (hfp b hb).1.2.2.1 z
  obtain ⟨mC, hnC⟩ := ns
  refine ⟨okG, os, bare, Un.kept kp, ⟨mC, hnC, fun i y av e1 e2 e3 => ?_⟩, fun y c e => ?_, ?_, fun y c e => I.freeC y c (cm e).1, fun p hp => ?_, I.hok.kept kp, by rw [wipe_length]; exact I.len⟩
  · obtain ⟨e2, hne⟩ := wipe_some e2
    have hfr2 : scope.names.lookup y = some .free := by
      have key : ∀ k, cenv.scope.names.lookup y = some k → k = .local ∨ k = .cell ∨ k = .free → scope.names.lookup y = some .free := fun k hk hk' => by
        rw [hsc] at hk
        have no : ¬ (k = .local ∨ k = .cell) := fun hh => by
          rcases ok.own _ (PySem.mem_of_lookup hk) hh with e' | e'
          · obtain ⟨p, hp, hpy⟩ := List.mem_map.mp e'
            have e3 := ok.ix p hp
            have : p.1 = y := hpy
            rw [this] at e3
            exact hne (List.mem_map.mpr ⟨p, hp, nodup_ix hN e3 e1⟩)
          · exact e' (List.mem_of_getElem? e1)
        rcases hk' with rfl | rfl | rfl
        · exact absurd (.inl rfl) no
        · exact absurd (.inr rfl) no
        · exact hk
      have e3 : Vis cenv.scope y := e3
      rcases e3 with e3 | e3 | e3
      · exact key _ e3 (.inl rfl)
      · exact key _ e3 (.inr (.inl rfl))
      · exact key _ e3 (.inr (.inr rfl))
    obtain ⟨m, hn, hl⟩ := I.loc
    have hvis : Vis X.env.scope y := (ok.free _ (PySem.mem_of_lookup hfr2) rfl).elim (fun k => .inr (.inl k)) (fun k => .inr (.inr k))
    obtain ⟨w, r, q⟩ := hl i y av e1 e2 hvis
    have hk2 : cenv.kindOf y = some .free := by
      show cenv.scope.names.lookup y = _
      rw [hsc]; exact hfr2
    refine ⟨w, r, .inr ⟨.inr hk2, ?_⟩⟩
    obtain ⟨c, h1, h2⟩ := look hfr2
    rcases q with ⟨k, _⟩ | ⟨_, c', e', z⟩
    · have k : X.env.scope.names.lookup y = some .local := k
      rcases ok.free _ (PySem.mem_of_lookup hfr2) rfl with k' | k' <;> rw [show X.env.scope.names.lookup y = _ from k'] at k <;> cases k
    · rw [h2] at e'; cases e'
      exact ⟨c, h1, z.keeps kp⟩
  · obtain ⟨w, z⟩ := I.cell y c (cm e).1
    exact ⟨w, z.keeps kp⟩
  · show H cenv.locals = none
    rw [hL]; exact I.hok.fresh (Nat.le_refl _)
  · have hp' : p ∈ [(a, go)] := hp
    rw [List.mem_singleton.mp hp']
    refine ⟨ha, I.hok.fresh (Nat.le_of_lt haC), ?_, fun z => ?_, hgo⟩
    · show a ≠ cenv.locals
      rw [hL]; exact Nat.ne_of_gt haC
    · rcases List.mem_cons.mp (I.stkSub a z) with z | z
      · rw [z] at haC
        exact absurd (Nat.lt_trans haC I.lt) (Nat.lt_irrefl _)
      · exact I.nofs (Nat.le_of_lt haC) z

/-- what the reading of any, all says of the turns: sb the answer that ends it early (all: false, any: true) -/
def tGenW (sb : Bool) (J : It) (g : TG) (te : TE) (vs : List Nat) (σ : L2.St) (Q : VK) (W : Nat → Nat → Hp → Prop) : Prop := ∀ i m H, W i m H →
  (J.stop i H ∧ Q (.bl (!sb)) H) ∨ (J.go i H ∧ ∃ Nx : Hp → Prop, (∀ H', Nx H' → ∃ m', m' < m ∧ W (i + 1) m' H') ∧ ∀ x H', J.yld i H x H' → g x (wipe σ vs) H' fun σ2 H2 => wipe σ2 vs = wipe σ vs ∧ te σ2 H2 fun y H3 =>
    ∃ b : Bool, y = .bl b ∧ if b = sb then Q (.bl sb) H3 else Nx H3)
def tGen (sb : Bool) (P : Addr) (wi : TI) (g : TG) (te : TE) (vs : List Nat) : TE := fun σ H Q => wi σ H fun J H1 => TabG H1 P ∧ ∀ H2, Tabbed P H1 H2 → ∃ W : Nat → Nat → Hp → Prop, (∃ m, W 0 m H2) ∧ tGenW sb J g te vs σ Q W

section
variable {X : Cx} {pins : List (Addr × Obj)} {σ : L2.St} {elt tg iter : Expr} {scope : Scope} {own : List (Str × Nat)} {gpos : Pos} {g : TG} {te : TE} {sb : Bool} {J : It} {fp : List Addr} {it : Addr} {tn : Nat → Heap → Prop} {Q : VK} {W : Nat → Nat → Hp → Prop} {s3 : Shared} {H3 : Hp} {cenv : Env} {a : Addr} {go : Obj} {gi : Nat}

abbrev gCode (elt tg iter : Expr) (scope : Scope) (gpos : Pos) (it : Addr) (cenv : Env) : Code := .compLoop (.GeneratorExp elt [⟨tg, iter, [], 0⟩] scope gpos) 0 (.ref it) .none cenv
abbrev gArd (X : Cx) (elt tg iter : Expr) (scope : Scope) (gpos : Pos) (it : Addr) (cenv : Env) : Around := X.A.in1.in1.over (gCode elt tg iter scope gpos it cenv) []

/-- what is handed out: a truth; if it does not end the walk, the generator goes on -/
def gY (G : Cx) (pa : List (Addr × Obj)) (σ' : L2.St) (tn : Nat → Heap → Prop) (fp : List Addr) (W : Nat → Nat → Hp → Prop) (sb : Bool) (Q : VK) : Protocol := fun n s₀ v s kap =>
  ∃ i H' b, v = .bool b ∧ Inv G pa σ' H' s ∧ tn i s.heap ∧ (∀ b ∈ fp, H' b = none) ∧ (if b = sb then Q (.bl sb) H' else ∃ m, W i m H' ∧ m < n ∧ ∀ s'', Inv G pa σ' H' s'' → tn i s''.heap → kap (.send .none) s'')
def gP (X : Cx) (pins : List (Addr × Obj)) (σ : L2.St) (sb : Bool) (Q : VK) : Nat → Shared → Shared → Prop := fun _ _ s₁ => ∃ H', Inv X pins σ H' s₁ ∧ Q (.bl (!sb)) H'
def gR (X : Cx) (pins : List (Addr × Obj)) (σ : L2.St) (sb : Bool) (Q : VK) : GenEnd := fun n s₀ r s₁ => r = .ok .next ∧ gP X pins σ sb Q n s₀ s₁

theorem seg_gloop (hc : X.calm = true) (I3 : Inv X pins σ H3 s3) (f3 : ∀ b ∈ fp, FpOk X pins H3 b) (hco : cenv.scope.isCoroutine = false) (T : Turn X.prog X.w X.K tg J fp it tn)
    (hpa : ∀ b ∈ fp, b ≠ a)
    (pg : PG (gcx X (gArd X elt tg iter scope gpos it cenv) s3 H3 cenv fp) tg g) (pe : PE (gcx X (gArd X elt tg iter scope gpos it cenv) s3 H3 cenv fp) elt te)
    (turn : tGenW sb J g te (own.map (·.2)) σ Q W) :
    ∀ (n i m : Nat) (H' : Hp) (s₀ s : Shared), W i m H' → m < n → Inv (gcx X (gArd X elt tg iter scope gpos it cenv) s3 H3 cenv fp) [(a, go)] (wipe σ (own.map (·.2))) H' s → tn i s.heap → (∀ b ∈ fp, H' b = none) →
      Seg (model X.prog X.w) X.A.in1.in1 (gR X pins σ sb Q) (gY (gcx X (gArd X elt tg iter scope gpos it cenv) s3 H3 cenv fp) [(a, go)] (wipe σ (own.map (·.2))) tn fp W sb Q) n s₀
        (gCode elt tg iter scope gpos it cenv) ((model X.prog X.w).den (gCode elt tg iter scope gpos it cenv)) [] s := by
  have stat : ∀ {σ' : L2.St} {H' : Hp} {s' : Shared}, Inv (gcx X (gArd X elt tg iter scope gpos it cenv) s3 H3 cenv fp) [(a, go)] σ' H' s' → (∀ b ∈ fp, H' b = none) → ∀ b ∈ fp, FpOk (gcx X (gArd X elt tg iter scope gpos it cenv) s3 H3 cenv fp) [(a, go)] H' b := fun {σ' H' s'} I' hn b hb =>
    ⟨hn b hb, (I'.ok.exf b hb).1, I'.ok.exfs b hb, .inl hb, fun x c e => (I'.ok.exf b hb).2 x c e, fun p hp => by
      have hp' : p ∈ [(a, go)] := hp
      rw [List.mem_singleton.mp hp']
      exact (hpa b hb).symm⟩
  have back : ∀ {pa' : List (Addr × Obj)} {σ' : L2.St} {H' : Hp} {s' : Shared}, Inv (gcx X (gArd X elt tg iter scope gpos it cenv) s3 H3 cenv fp) pa' σ' H' s' → Inv X pins σ H' s' := fun {pa' σ' H' s'} I' =>
    I3.call' (ch := fp) I'.os I'.base I'.hok I'.bare fun b hb => ⟨(f3 b hb).2.2.2.1, (f3 b hb).2.1, (f3 b hb).2.2.2.2.1, (f3 b hb).2.2.2.2.2⟩
  intro n
  induction n with
  | zero => intro i m H' s₀ s _ hm; omega
  | succ n ih =>
    intro i m H' s₀ s w hm I st hn
    show Seg _ X.A.in1.in1 _ _ _ s₀ _ ((compTurn (.GeneratorExp elt [⟨tg, iter, [], 0⟩] scope gpos) 0 (.ref it) .none cenv).onRaise (leaving cenv)) [] s
    rw [compTurn_gen, Sem.onRaise_eq_wrap]
    refine seg_bind_wrap (wpAny_standAt ?_)
    rcases turn i m H' w with ⟨stop, q⟩ | ⟨go', Nx, hNx, step⟩
    · refine seg_bind_wrap (thnF (T.done (gcx X (gArd X elt tg iter scope gpos it cenv) s3 H3 cenv fp) rfl rfl rfl hc i _ s _ H' (fun _ _ => False) I (stat I hn) st stop) fun r s6 ⟨hr, I6⟩ => ?_)
      subst hr
      exact seg_end (.ok .next) ⟨rfl, H', back I6, q⟩
    · refine seg_bind_wrap (thnF (T.item (gcx X (gArd X elt tg iter scope gpos it cenv) s3 H3 cenv fp) rfl rfl rfl hc i _ s _ H' (fun _ _ => False) I (stat I hn) st go') fun r s6 ⟨u, hr, h6⟩ => ?_)
      subst hr
      refine seg_bind_wrap (thnF h6 fun _ s7 ⟨x, H7, I7, r7, y7, st7, n7⟩ => ?_)
      have I7' := I7.pinned (stat I7 n7) (T.obj _ _ st7)
      refine seg_bind_wrap (thnF (pg.run _ s7 _ H7 x u _ I7' r7 (step x H7 y7)) fun _ s8 ⟨σ8, H8, I8, hw8, q8⟩ => ?_)
      refine seg_bind_wrap (wpAny_tests_nil ?_)
      simp only [if_true]
      have hy : ∀ v, yieldOut cenv v = yieldValue v := fun v => by simp only [yieldOut, hco, Bool.false_eq_true, if_false]
      simp only [hy]
      rw [Sem.bind_eq_wrap', Sem.bind_eq_wrap', Sem.wrap_wrap, Sem.wrap_wrap]
      refine seg_wrap (thnF (pe.run _ s8 σ8 H8 _ I8 q8) fun yv s10 ⟨y, H10, I10, r10, b, eb, q10⟩ => ?_)
      subst eb
      have ev : yv = Value.bool b := r10
      subst ev
      have pin' : ∀ c ∈ fp, ∀ o, s7.heap.get? c = some o → s10.heap.get? c = some o ∧ H10 c = none := fun c hc o e =>
        let z := I10.pin (c, o) (List.mem_append_right _ (List.mem_append_right _ (mem_pinsAt hc e)))
        ⟨z.1, z.2.1⟩
      have hl : (wipe σ (own.map (·.2))).length = σ8.length := by rw [← hw8, wipe_length]
      have I11 : Inv (gcx X (gArd X elt tg iter scope gpos it cenv) s3 H3 cenv fp) [(a, go)] (wipe σ (own.map (·.2))) H10 s10 := (I10.unpinned).weak hl (fun j v e => by
        rw [← hw8] at e
        exact (wipe_some e).1)
      have st11 : tn (i + 1) s10.heap := T.keep _ _ _ st7 fun c hc o e => (pin' c hc o e).1
      have n11 : ∀ c ∈ fp, H10 c = none := fun c hc => by
        obtain ⟨o, e, _⟩ := T.obj _ _ st7 c hc
        exact (pin' c hc o e).2
      refine seg_at (seg_yield rfl rfl rfl ⟨i + 1, H10, b, rfl, I11, st11, n11, ?_⟩)
      by_cases hb : b = sb
      · rw [if_pos hb] at q10 ⊢
        exact q10
      · rw [if_neg hb] at q10 ⊢
        obtain ⟨m', hm', w'⟩ := hNx H10 q10
        exact ⟨m', w', by omega, fun s'' I'' st'' => seg_again rfl (ih (i + 1) m' H10 s'' s'' w' (by omega) I'' st'' n11)⟩

/-- the generator sleeps, n: what is left to hand out at most -/
def Asleep (X : Cx) (pins : List (Addr × Obj)) (σ : L2.St) (G : Cx) (pa : List (Addr × Obj)) (σ' : L2.St) (tn : Nat → Heap → Prop) (fp : List Addr) (W : Nat → Nat → Hp → Prop) (sb : Bool) (Q : VK) (gi : Nat) (n : Nat) (s : Shared) : Prop :=
  ∃ i m H' gs, Inv G pa σ' H' s ∧ tn i s.heap ∧ (∀ b ∈ fp, H' b = none) ∧ W i m H' ∧ m < n ∧ s.gens[gi]? = some gs ∧
    ∀ s'', Inv G pa σ' H' s'' → tn i s''.heap → gs.Goes (model X.prog X.w) X.A.in1.in1 (gR X pins σ sb Q) (gY G pa σ' tn fp W sb Q) n (.send .none) s''

theorem size_of_some {α : Type} {xs : Array α} {i : Nat} {x : α} (h : xs[i]? = some x) : i < xs.size := by
  rcases Nat.lt_or_ge i xs.size with h' | h'
  · exact h'
  · rw [Array.getElem?_eq_none h'] at h; cases h

/-- one draw: the generator is woken -/
theorem gen_next {G : Cx} {σ' : L2.St} {n : Nat} {s : Shared} {Qn : Option Value → Shared → Prop} {E : Value → Shared → Prop} (hh : X.A.handled = none) (hroom : X.A.depth < recursionLimit)
    (hg : ∀ h : Heap, h.get? a = some go → h.IsGen a gi) (back : ∀ {pa' : List (Addr × Obj)} {σ' : L2.St} {H' : Hp} {s' : Shared}, Inv G pa' σ' H' s' → Inv X pins σ H' s')
    (h : Asleep X pins σ G [(a, go)] σ' tn fp W sb Q gi n s)
    (hEnd : ∀ H' s', Inv X pins σ H' s' → Q (.bl (!sb)) H' → Qn none s')
    (hEarly : ∀ H' s', Inv X pins σ H' s' → Q (.bl sb) H' → Qn (some (.bool sb)) s')
    (hOn : ∀ s', (∃ k, n = k + 1 ∧ Asleep X pins σ G [(a, go)] σ' tn fp W sb Q gi k s') → Qn (some (.bool (!sb))) s') :
    wpAny (model X.prog X.w) X.A.in1 (pyNext (.ref a)) Qn E s := by
  obtain ⟨i, m, H', gs, I, st, hn, w, hm, hgs, hgo⟩ := h
  cases n with
  | zero => omega
  | succ k =>
  have hgen : s.heap.IsGen a gi := hg _ (I.pin (a, go) (List.mem_append_right _ (List.mem_singleton.mpr rfl))).1
  have hlt : gi + 1 ≤ s.gens.size := size_of_some hgs
  have I' : Inv G [(a, go)] σ' H' (s.setGen gi .running) := regen I rfl rfl (bare_set I.bare rfl)
  refine wpAny_gsz (n := gi + 1) hlt (wpAny_pyNext_genexpQ (P := gP X pins σ sb Q) hh I.nolimit hroom hgen hgs (hgo _ I' st) (fun v s₁ gs' hb hv => ?_) (fun s₁ hp h' hk => ?_))
  · obtain ⟨i', H1, b, rfl, I1, st1, n1, q⟩ := hv
    intro hsz
    have hlt1 : gi < s₁.gens.size := by
      have e : (s₁.setGen gi gs').gens.size = s₁.gens.size := by simp [Shared.setGen]
      rw [e] at hsz
      exact hsz
    have I2 : Inv G [(a, go)] σ' H1 (s₁.setGen gi gs') := regen I1 rfl rfl (bare_set I1.bare hb)
    by_cases hbs : b = sb
    · rw [if_pos hbs] at q
      subst hbs
      exact hEarly H1 _ (back I2) q
    · rw [if_neg hbs] at q
      obtain ⟨m', w', hm', kap⟩ := q
      have eb : b = !sb := by cases b <;> cases sb <;> simp_all
      subst eb
      refine hOn _ ⟨k, rfl, i', m', H1, gs', I2, st1, n1, w', hm', ?_, fun s'' I'' st'' => kap s'' I'' st''⟩
      simp [Shared.setGen, hlt1]
  · obtain ⟨H1, I1, q⟩ := hp
    intro hsz
    exact hEnd H1 _ (regen (I1.kept (t' := s₁.toks) hk) rfl rfl (bare_set I1.bare rfl)) q

theorem all_gloop {G : Cx} {σ' : L2.St} {R : Result → Shared → Prop} (hh : X.A.handled = none) (hroom : X.A.depth < recursionLimit)
    (hg : ∀ h : Heap, h.get? a = some go → h.IsGen a gi) (back : ∀ {pa' : List (Addr × Obj)} {σ' : L2.St} {H' : Hp} {s' : Shared}, Inv G pa' σ' H' s' → Inv X pins σ H' s')
    (hR : ∀ b H' s', Inv X pins σ H' s' → Q (.bl b) H' → R (.ok (.ret (.bool b))) s') :
    ∀ (n : Nat) (s : Shared), Asleep X pins σ G [(a, go)] σ' tn fp W false Q gi n s → codeAny (model X.prog X.w) X.A (.builtin "all.loop" ⟨[.ref a], []⟩) R s := by
  intro n
  induction n with
  | zero => intro s h; obtain ⟨_, _, _, _, _, _, _, _, hm, _⟩ := h; omega
  | succ k ih =>
    intro s h
    refine codeAny_builtin F.entry_all_loop ?_
    rw [Around.under_plainId F.plain_all_loop _]
    show wpAny _ X.A.in1 (pyNext (.ref a) >>= _) _ _ s
    refine wpAny_bind (gen_next hh hroom hg back h (fun H' s' I q => ?_) (fun H' s' I q => ?_) (fun s' hs => ?_))
    · exact wpAny_bind (wpAny_rule (wpAny_pure (hR true H' s' I q)))
    · refine wpAny_bind (wpAny_holding (wpAny_truthy_bool ?_))
      refine wpAny_bind (wpAny_letGo ?_)
      simp only [Bool.false_eq_true, if_false]
      exact wpAny_bind (wpAny_rule (wpAny_pure (hR false H' s' I q)))
    · obtain ⟨k', hk, hs⟩ := hs
      cases hk
      refine wpAny_bind (wpAny_holding (wpAny_truthy_bool ?_))
      refine wpAny_bind (wpAny_letGo ?_)
      simp only [Bool.not_false, if_true]
      exact wpAny_pure ⟨plainId_quiet F.plain_all_loop _, ih s' hs⟩
theorem any_gloop {G : Cx} {σ' : L2.St} {R : Result → Shared → Prop} (hh : X.A.handled = none) (hroom : X.A.depth < recursionLimit)
    (hg : ∀ h : Heap, h.get? a = some go → h.IsGen a gi) (back : ∀ {pa' : List (Addr × Obj)} {σ' : L2.St} {H' : Hp} {s' : Shared}, Inv G pa' σ' H' s' → Inv X pins σ H' s')
    (hR : ∀ b H' s', Inv X pins σ H' s' → Q (.bl b) H' → R (.ok (.ret (.bool b))) s') :
    ∀ (n : Nat) (s : Shared), Asleep X pins σ G [(a, go)] σ' tn fp W true Q gi n s → codeAny (model X.prog X.w) X.A (.builtin "any.loop" ⟨[.ref a], []⟩) R s := by
  intro n
  induction n with
  | zero => intro s h; obtain ⟨_, _, _, _, _, _, _, _, hm, _⟩ := h; omega
  | succ k ih =>
    intro s h
    refine codeAny_builtin F.entry_any_loop ?_
    rw [Around.under_plainId F.plain_any_loop _]
    show wpAny _ X.A.in1 (pyNext (.ref a) >>= _) _ _ s
    refine wpAny_bind (gen_next hh hroom hg back h (fun H' s' I q => ?_) (fun H' s' I q => ?_) (fun s' hs => ?_))
    · exact wpAny_bind (wpAny_rule (wpAny_pure (hR false H' s' I q)))
    · refine wpAny_bind (wpAny_holding (wpAny_truthy_bool ?_))
      refine wpAny_bind (wpAny_letGo ?_)
      simp only [if_true]
      exact wpAny_bind (wpAny_rule (wpAny_pure (hR true H' s' I q)))
    · obtain ⟨k', hk, hs⟩ := hs
      cases hk
      refine wpAny_bind (wpAny_holding (wpAny_truthy_bool ?_))
      refine wpAny_bind (wpAny_letGo ?_)
      simp only [Bool.not_true, Bool.false_eq_true, if_false]
      exact wpAny_pure ⟨plainId_quiet F.plain_any_loop _, ih s' hs⟩

/-- the generator is made and sleeps -/
def GMadeG (X : Cx) (pins : List (Addr × Obj)) (σ : L2.St) (sb : Bool) (Q : VK) (a : Addr) (s5 : Shared) : Prop :=
  ∃ (go : Obj) (gi : Nat) (G : Cx) (σ' : L2.St) (tn : Nat → Heap → Prop) (fp : List Addr) (W : Nat → Nat → Hp → Prop) (n : Nat),
    (∀ h : Heap, h.get? a = some go → h.IsGen a gi) ∧ s5.heap.IsGen a gi ∧ (∀ (pa' : List (Addr × Obj)) (σ' : L2.St) (H' : Hp) (s' : Shared), Inv G pa' σ' H' s' → Inv X pins σ H' s') ∧
      Asleep X pins σ G [(a, go)] σ' tn fp W sb Q gi n s5

theorem gArd_frames {X : Cx} {elt tg iter : Expr} {scope : Scope} {gpos : Pos} {it : Addr} {cenv : Env} (h : X.A.frames = some X.stack) : (gArd X elt tg iter scope gpos it cenv).frames = some (cenv :: X.stack) := by
  show pushEnvs [cenv] (pushEnvs [] X.A.frames) = _
  rw [h]
  rfl
theorem gArd_room {X : Cx} {elt tg iter : Expr} {scope : Scope} {gpos : Pos} {it : Addr} {cenv : Env} {k : Nat} (r : Room (k + 1) X.A) : Room k (gArd X elt tg iter scope gpos it cenv) := by
  have hd : (gArd X elt tg iter scope gpos it cenv).depth = X.A.depth + 1 := rfl
  have hu : (gArd X elt tg iter scope gpos it cenv).units = X.A.units + 1 + 1 + 3 := rfl
  refine ⟨r.hd, ?_, ?_⟩
  · have := r.dp
    rw [hd]; omega
  · have := r.un
    rw [hu]; omega

theorem gen_made {c P : Addr} {wi : TI} {k : Nat} {s : Shared} {H : Hp} {Q' : Value → Shared → Prop}
    (hr : Room (k + 1) X.A) (hc : X.calm = true) (hN : X.N.Nodup) (TB : TabB X.base X.mg c P) (hcode : X.env.code = .ref c) (hi : PI X tg iter wi) (ok : BlkOk X.N X.env.scope scope own) (nc : ∀ y ∈ scope.names, y.2 ≠ .cell)
    (hco : scope.isCoroutine = false) (hdot : scope.names.lookup (".0" : Str) = some NameKind.local)
    (hg : ∀ (A : Around) (s : Shared) (H : Hp) (C : Addr) (cl : List (Str × Addr)) (code : Value) (fp : List Addr), Room k A → PG (gcx X A s H (genEnv scope cl C code builtinsNs X.env) fp) tg g)
    (he : ∀ (A : Around) (s : Shared) (H : Hp) (C : Addr) (cl : List (Str × Addr)) (code : Value) (fp : List Addr), Room k A → PE (gcx X A s H (genEnv scope cl C code builtinsNs X.env) fp) elt te)
    (hs : ∀ v, genFold iter X.env v = pure v) (I : Inv X pins σ H s) (h : tGen sb P wi g te (own.map (·.2)) σ H Q)
    (hQ : ∀ a s5, GMadeG X pins σ sb Q a s5 → Q' (.ref a) s5) :
    wpAny (model X.prog X.w) X.A (eval (.GeneratorExp elt [⟨tg, iter, [], 0⟩] scope gpos) X.env) Q' X.xe s := by
  have hfree : ∀ y ∈ scope.names, y.2 = .free → ∃ c, X.env.cells.lookup y.1 = some c := fun y hy e => by
    rcases ok.free y hy e with k | k
    · exact I.ok.has _ (.inl k)
    · exact I.ok.has _ (.inr k)
  refine wpAny_GeneratorExp_make hco (closure_ok hfree) nc hdot ok.kind (by have := hr.dp; omega) ?_ hs
  refine thn (hi.run pins s σ H _ I h) fun xv s1 hx => thn hx fun itv s2 h2 => ?_
  obtain ⟨it, fp, tn, J, H2, e, I2, T, st2, f2, ⟨ps, hP, ht⟩, hq⟩ := h2
  subst e
  refine ⟨I2.nolimit, ?_⟩
  have hPs : s2.heap.get? P = some { cls := .none, data := .fields ps } := I2.hok P _ hP
  have cd : PySem.W.CodeHd s2.heap c P := TB.code.keeps fun b u e => I2.bk b u e
  have fpP : ∀ b ∈ fp, b ≠ P := fun b hb z => by
    have q := (f2 b hb).1
    rw [z, hP] at q
    cases q
  have fpL : ∀ b ∈ fp, b < s2.heap.objs.size := fun b hb => by
    obtain ⟨o, e, _⟩ := T.obj _ _ st2 b hb
    exact Heap.lt_size e
  have cont : ∀ (code : Value) (h3 : Heap) (tk : Nat) (more : Array Value), Heap.ExtBut P s2.heap h3 → s2.heap.objs.size ≤ h3.objs.size → h3.get? P = some { cls := .none, data := .fields (ps ++ more) } → TriplesOk (ps ++ more).toList →
      wpAny (model X.prog X.w) X.A (builtinsFor X.env.globals X.env.builtins) (fun bi s₄ =>
        ∀ h', h'.Ns s₄.heap.objs.size (fun y => if y = ".0" then some (.ref it) else none) → Heap.SameBut s₄.heap.objs.size (s₄.heap.push { cls := .type "frame", data := .dict #[] }) h' →
          Q' (.ref h'.objs.size) { s₄ with
            gens := s₄.gens.push (.fresh (.compStart (.GeneratorExp elt [⟨tg, iter, [], 0⟩] scope gpos) 0 (.ref it) .none (genEnv scope (cloFrom X.env.cells scope.names []) s₄.heap.objs.size code bi X.env))),
            toks := s₄.toks + 1 + 1 + 1,
            heap := h'.push { cls := .type "generator", data := .fields #[.int s₄.gens.size 0, .str "<genexpr>" (s₄.toks + 1), .str (X.env.qual ++ "<genexpr>") (s₄.toks + 1 + 1)] } }) X.xe { s2 with heap := h3, toks := tk } := by
    intro code h3 tk more hx hge hP3 ht3
    have J3 : Inv X pins σ (upd H2 P (.tbl (ps ++ more))) { s2 with heap := h3, toks := tk } := inv_tab (more := more) (h' := h3) (g' := s2.gens) (d' := s2.drawn) (t' := tk) I2 hP (fun b o hb e => hx b o hb e) hP3 I2.bare
    obtain ⟨bm, ob, e1, e2, e3, e4, e5, e6, e7, e8⟩ := TB.bm
    have hglob : ({ s2 with heap := h3, toks := tk } : Shared).heap.Ns X.env.globals X.mg := by rw [J3.ok.glob]; exact J3.mod.glob.keeps J3.bk
    refine wpAny_builtinsFor (m := X.mg) hglob e1 e2 (J3.bk _ _ e5) e6 e7 e8 ?_
    intro h' hn' hs'
    obtain ⟨W, ⟨m0, w0⟩, turn⟩ := hq (upd H2 P (.tbl (ps ++ more))) ⟨⟨_, upd_same, ht3⟩, fun b hb => upd_ne hb⟩
    generalize hH3 : upd H2 P (.tbl (ps ++ more)) = H3 at J3 w0
    have hsz : h'.objs.size = h3.objs.size + 1 := by rw [hs'.1, Heap.size_push]
    have f3 : ∀ b ∈ fp, FpOk X pins H3 b ∧ b < h3.objs.size := fun b hb => by
      refine ⟨⟨?_, (f2 b hb).2⟩, Nat.lt_of_lt_of_le (fpL b hb) hge⟩
      rw [← hH3, upd_ne (fpP b hb)]
      exact (f2 b hb).1
    have st3 : tn 0 h3 := T.keep _ _ _ st2 fun b hb o e => hx b o (fpP b hb) e
    generalize hgo : ({ cls := .type "generator", data := .fields #[.int s2.gens.size 0, .str "<genexpr>" (tk + 1), .str (X.env.qual ++ "<genexpr>") (tk + 1 + 1)] } : Obj) = go
    have hgo0 : go.data = .fields #[.int s2.gens.size 0, .str "<genexpr>" (tk + 1), .str (X.env.qual ++ "<genexpr>") (tk + 1 + 1)] := by rw [← hgo]
    have hgoc : go.cls = .type "generator" := by rw [← hgo]
    have hgos : go.slots = #[] := by rw [← hgo]
    have kp : ∀ b o, h3.get? b = some o → (h'.push go).get? b = some o := fun b o e => Heap.get?_push_of_some _ (hs'.extBut b o (Nat.ne_of_lt (Heap.lt_size e)) (Heap.get?_push_of_some _ e))
    have hga : (h'.push go).get? h'.objs.size = some go := by
      rw [← hgo]
      exact Heap.get?_push_size _ rfl
    have hgen : ∀ h : Heap, h.get? h'.objs.size = some go → h.IsGen h'.objs.size s2.gens.size := fun h e => ⟨go, _, _, e, hgoc, hgo0, hgos⟩
    have st5 : tn 0 (h'.push go) := T.keep _ _ _ st3 fun b _ o e => kp b o e
    have hpa : ∀ b ∈ fp, b ≠ h'.objs.size := fun b hb => by
      have h1 : b < h3.objs.size := (f3 b hb).2
      have h2 : h'.objs.size = h3.objs.size + 1 := hsz
      have h3 : b < h'.objs.size := by rw [h2]; exact Nat.lt_succ_of_lt h1
      exact Nat.ne_of_lt h3
    have nfp : ∀ b ∈ fp, H3 b = none := fun b hb => (f3 b hb).1.1
    have rm := gArd_room (X := X) (elt := elt) (tg := tg) (iter := iter) (scope := scope) (gpos := gpos) (it := it) (cenv := genEnv scope (cloFrom X.env.cells scope.names []) h3.objs.size code builtinsNs X.env) hr
    have IG := gen_start (cenv := genEnv scope (cloFrom X.env.cells scope.names []) h3.objs.size code builtinsNs X.env) (A := gArd X elt tg iter scope gpos it (genEnv scope (cloFrom X.env.cells scope.names []) h3.objs.size code builtinsNs X.env)) (s' := { s2 with
            gens := s2.gens.push (.fresh (.compStart (.GeneratorExp elt [⟨tg, iter, [], 0⟩] scope gpos) 0 (.ref it) .none (genEnv scope (cloFrom X.env.cells scope.names []) h3.objs.size code builtinsNs X.env))),
            toks := tk + 1 + 1 + 1, heap := h'.push go }) (a := h'.objs.size) (go := go) J3 ok hN nc f3 rfl rfl rfl rfl rfl rfl (gArd_frames J3.ok.frames) (fun _ => hr.hd) rfl (AllBare.push I2.bare rfl) kp ⟨_, hn'.push _⟩ hga
            (by show h3.objs.size < h'.objs.size; omega) (fun v q => by rw [hgo0] at q; cases q)
    refine hQ _ _ ⟨go, s2.gens.size, gcx X (gArd X elt tg iter scope gpos it (genEnv scope (cloFrom X.env.cells scope.names []) h3.objs.size code builtinsNs X.env)) { s2 with heap := h3, toks := tk } H3 (genEnv scope (cloFrom X.env.cells scope.names []) h3.objs.size code builtinsNs X.env) fp,
      wipe σ (own.map (·.2)), tn, fp, W, m0 + 1, hgen, hgen _ hga, fun pa' σ' H' s' I' => J3.call' (ch := fp) I'.os I'.base I'.hok I'.bare fun b hb => ⟨(f3 b hb).1.2.2.2.1, (f3 b hb).1.2.1, (f3 b hb).1.2.2.2.2.1, (f3 b hb).1.2.2.2.2.2⟩,
      0, m0, H3, _, IG, st5, nfp, w0, Nat.lt_succ_self _, Array.getElem?_push_size .., fun s'' I'' st'' => ⟨rfl, ?_⟩⟩
    have loop := seg_gloop (Q := Q) (W := W) (sb := sb) (own := own) hc J3 (fun b hb => (f3 b hb).1) (cenv := genEnv scope (cloFrom X.env.cells scope.names []) h3.objs.size code builtinsNs X.env) hco T hpa
      (hg _ _ _ _ _ _ _ rm) (he _ _ _ _ _ _ _ rm) turn (m0 + 1) 0 m0 H3 s'' s'' w0 (Nat.lt_succ_self _) I'' st'' nfp
    show Seg _ X.A.in1.in1 _ _ _ s'' _ ((compStart (.GeneratorExp elt [⟨tg, iter, [], 0⟩] scope gpos) 0 (.ref it) .none _).onRaise (leaving _)) [] s''
    unfold compStart
    rw [Sem.onRaise_eq_wrap]
    show Seg _ X.A.in1.in1 _ _ _ s'' _ ((ask >>= _).wrap _ _ _ _) [] s''
    refine seg_bind_wrap (wpAny_askSetting ?_)
    split
    · exact seg_again rfl loop
    · refine seg_bind_wrap (wpAny_rule ?_)
      show Seg _ X.A.in1.in1 _ _ _ s'' _ ((standAt iter.pos >>= _).wrap _ _ _ _) [] s''
      exact seg_bind_wrap (wpAny_standAt (seg_bind_wrap (T.self _ 0 s'' _ _ st'' (seg_again rfl loop))))
  cases hf : codeAmong gpos ps.toList with
  | none =>
    refine wpAny_genexprCodeX hcode (cd.code hPs ht) (cd.tab hPs) hf fun c' h' tk hx hge hlt hco' _ htab' _ => ?_
    obtain ⟨o1, vs, f1, tf, fl, tg1, inF, tx, tt, op, _, _, _, _, _, _, _, _, _, htr, _⟩ := hco'
    exact cont _ h' tk _ hx (Nat.le_trans hge (Nat.le_of_lt hlt)) htab'.2 htr
  | some cv =>
    refine wpAny_genexprCode_hit hcode (cd.code hPs ht) hf ?_
    have e0 : ps ++ (#[] : Array Value) = ps := by simp
    exact cont cv s2.heap s2.toks #[] (Heap.ExtBut.refl _ _) (Nat.le_refl _) (by rw [e0]; exact hPs) (by rw [e0]; exact ht)

/-- all(elt for tg in iter) -/
theorem pe_allG {c P : Addr} {wi : TI} {k : Nat} {p pos : Pos}
    (hr : Room (k + 1) X.A) (hgl : Gl X "all") (hm : X.mg "all" = none) (hc : X.calm = true) (hN : X.N.Nodup) (TB : TabB X.base X.mg c P) (hcode : X.env.code = .ref c) (hi : PI X tg iter wi) (ok : BlkOk X.N X.env.scope scope own) (nc : ∀ y ∈ scope.names, y.2 ≠ .cell)
    (hco : scope.isCoroutine = false) (hdot : scope.names.lookup (".0" : Str) = some NameKind.local)
    (hg : ∀ (A : Around) (s : Shared) (H : Hp) (C : Addr) (cl : List (Str × Addr)) (code : Value) (fp : List Addr), Room k A → PG (gcx X A s H (genEnv scope cl C code builtinsNs X.env) fp) tg g)
    (he : ∀ (A : Around) (s : Shared) (H : Hp) (C : Addr) (cl : List (Str × Addr)) (code : Value) (fp : List Addr), Room k A → PE (gcx X A s H (genEnv scope cl C code builtinsNs X.env) fp) elt te)
    (hs : ∀ v, genFold iter X.env v = pure v := by intro _; rfl)
    (hst : starEach [.GeneratorExp elt [⟨tg, iter, [], 0⟩] scope gpos] X.env = (false, eval (.GeneratorExp elt [⟨tg, iter, [], 0⟩] scope gpos) X.env) :: starEach [] X.env := by rfl) :
    PE X (.Call (.Name "all" p) [.GeneratorExp elt [⟨tg, iter, [], 0⟩] scope gpos] [] pos) (tGen false P wi g te (own.map (·.2))) := by
  refine ⟨fun pins s σ H Q I h => ?_⟩
  refine wpAny_Call_Name_kw (ld_blt I hgl hm (show bootBuiltins "all" = some (.builtin "all") by decide +kernel) ?_)
  refine PyProof.Rows.callWith_builtin1 ?_ hst (by rfl)
  rw [hst]
  show wpAny _ _ (spliced ((false, eval (.GeneratorExp elt [⟨tg, iter, [], 0⟩] scope gpos) X.env) :: backTo pos (starEach [] X.env))) _ _ s
  refine Calls.spliced_cons (gen_made hr hc hN TB hcode hi ok nc hco hdot hg he hs I h fun a s5 hG => ?_)
  obtain ⟨go, gi, G, σ', tn, fp, W, n, hgn, hg5, back, hA⟩ := hG
  refine Calls.spliced_nil ?_
  refine call_function_tree F.kind_all F.plain_all F.entry_all (F.args_all1 _) ?_
  unfold Builtin.«all»
  refine wpAny_bind (m := oneArg "all" _) (wpAny_pure ?_)
  refine wpAny_bind (wpAny_pyIter_gen hg5 ?_)
  exact wpAny_pure ⟨plainId_quiet F.plain_all_loop _, all_gloop (Q := Q) hr.hd hr.depth hgn (fun {pa' σ' H' s'} I' => back pa' σ' H' s' I') (fun b H' s' I' q => ⟨.bl b, H', I', rfl, q⟩) n s5 hA⟩
/-- any(elt for tg in iter) -/
theorem pe_anyG {c P : Addr} {wi : TI} {k : Nat} {p pos : Pos}
    (hr : Room (k + 1) X.A) (hgl : Gl X "any") (hm : X.mg "any" = none) (hc : X.calm = true) (hN : X.N.Nodup) (TB : TabB X.base X.mg c P) (hcode : X.env.code = .ref c) (hi : PI X tg iter wi) (ok : BlkOk X.N X.env.scope scope own) (nc : ∀ y ∈ scope.names, y.2 ≠ .cell)
    (hco : scope.isCoroutine = false) (hdot : scope.names.lookup (".0" : Str) = some NameKind.local)
    (hg : ∀ (A : Around) (s : Shared) (H : Hp) (C : Addr) (cl : List (Str × Addr)) (code : Value) (fp : List Addr), Room k A → PG (gcx X A s H (genEnv scope cl C code builtinsNs X.env) fp) tg g)
    (he : ∀ (A : Around) (s : Shared) (H : Hp) (C : Addr) (cl : List (Str × Addr)) (code : Value) (fp : List Addr), Room k A → PE (gcx X A s H (genEnv scope cl C code builtinsNs X.env) fp) elt te)
    (hs : ∀ v, genFold iter X.env v = pure v := by intro _; rfl)
    (hst : starEach [.GeneratorExp elt [⟨tg, iter, [], 0⟩] scope gpos] X.env = (false, eval (.GeneratorExp elt [⟨tg, iter, [], 0⟩] scope gpos) X.env) :: starEach [] X.env := by rfl) :
    PE X (.Call (.Name "any" p) [.GeneratorExp elt [⟨tg, iter, [], 0⟩] scope gpos] [] pos) (tGen true P wi g te (own.map (·.2))) := by
  refine ⟨fun pins s σ H Q I h => ?_⟩
  refine wpAny_Call_Name_kw (ld_blt I hgl hm (show bootBuiltins "any" = some (.builtin "any") by decide +kernel) ?_)
  refine PyProof.Rows.callWith_builtin1 ?_ hst (by rfl)
  rw [hst]
  show wpAny _ _ (spliced ((false, eval (.GeneratorExp elt [⟨tg, iter, [], 0⟩] scope gpos) X.env) :: backTo pos (starEach [] X.env))) _ _ s
  refine Calls.spliced_cons (gen_made hr hc hN TB hcode hi ok nc hco hdot hg he hs I h fun a s5 hG => ?_)
  obtain ⟨go, gi, G, σ', tn, fp, W, n, hgn, hg5, back, hA⟩ := hG
  refine Calls.spliced_nil ?_
  refine call_function_tree F.kind_any F.plain_any F.entry_any (F.args_any1 _) ?_
  unfold Builtin.«any»
  refine wpAny_bind (m := oneArg "any" _) (wpAny_pure ?_)
  refine wpAny_bind (wpAny_pyIter_gen hg5 ?_)
  exact wpAny_pure ⟨plainId_quiet F.plain_any_loop _, any_gloop (Q := Q) hr.hd hr.depth hgn (fun {pa' σ' H' s'} I' => back pa' σ' H' s' I') (fun b H' s' I' q => ⟨.bl b, H', I', rfl, q⟩) n s5 hA⟩
end
end GA
set_option Elab.async false
set_option linter.all false
set_option maxRecDepth 100000
set_option maxHeartbeats 4000000
namespace JF
open PySem PySem.Spec PyProof.Rows L2
def topS (i : Nat) : Stmt := PySem.Challenge.pw_justfreed_k00_error_classes.main.body.getD i (.Pass ⟨0, 0, 0, 0⟩)
abbrev sWell : Stmt := topS 88
abbrev sDraw : Stmt := topS 89
/-! ### the well of draws -/
/-- a well at p, its drawn tops at q; b bounds how often it was drawn from -/
def WellAt (q : Addr) (b : Nat) (H : Hp) (p : Addr) : Prop := ∃ (m c : Int) (ts : List Int), p ≠ q ∧ H p = some (.lst [.ref q, .int m, .int c]) ∧ H q = some (.lst (ts.map V.int)) ∧ 0 ≤ m ∧ m < 2147483648 ∧ 0 ≤ c ∧ c ≤ b ∧ ts.length ≤ 63 ∧ ∀ t ∈ ts, 0 ≤ t
def spWell (K : PySem.W.Frag) : Sp := fun vs H Q _ => ∃ (a : Addr) (ns : List Int), vs = [.ref a] ∧ SqL K H a (ns.map V.int) ∧ ns.length ≤ 63 ∧ ∀ (H' : Hp) (p q : Addr), Same H H' → H p = none → H q = none → WellAt q 0 H' p → Q (.ref p) H'
theorem same_upd {H : Hp} {p : Addr} {o : HO} (h : H p = none) : Same H (upd H p o) := fun b x e => by
  rw [upd_ne (ne_of_none e h)]
  exact e
section
variable {P : Program} {w : World} {K : PySem.W.Frag} {mg : Str → Option Value} {base : Heap}
theorem scWell : FnScope ["script", "mix", "cell"] ["script"] (defScope sWell) := ⟨rfl, rfl, rfl, by decide +kernel, rfl, by decide +kernel, by decide +kernel⟩
theorem ok_well {f : Addr} {fd : FuncData} (F : Fun K "_law_well" "_law_well" sWell f fd) (mi : mg "int" = none) (ma : mg "abs" = none) : FnOk P w K mg base CX0 1 f fd ["script"] (spWell K) := by
  refine F.ok scWell (fun vs H Q E h => ?_) (fun cdv A outer s H vs Q E hr h => ?_)
  · obtain ⟨a, ns, rfl, _⟩ := h
    rfl
  · obtain ⟨a, ns, rfl, hS, hlen, k⟩ := h
    have hcell : ∀ {X : Cx} {t : TE}, True := fun {_ _} => trivial
    refine ⟨_, pss_cons (ps_set (i := 1) scWell.nd rfl (.inl rfl) pe_int)
      (pss_cons (ps_for PassesOwn.never rfl (pi_list (pv 0)) (pg_name (i := 2) scWell.nd rfl (.inl rfl))
        (pss_one (ps_set (i := 1) scWell.nd rfl (.inl rfl)
          (pe_op op_mod (pe_callTy call_int1 (by rfl) mi (by decide +kernel) (pa_cons (pe_op op_add (pe_op op_add (pe_op op_mul (pv 1) pe_int)
            (pe_op op_mod (pe_callB call_abs (by rfl) ma (by decide +kernel) (pa_cons (pe_callTy call_int1 (by rfl) mi (by decide +kernel) (pa_cons (pv 2) pa_nil)) pa_nil)) pe_int)) pe_int) pa_nil)) pe_int))))
      (pss_one (ps_ret (pe_lst (pa_cons (pe_lc (own := [("cell", 2)]) (g := gName 2) rfl scWell.nd (pi_list (pv 0)) (blkOk_by (N := ["script", "mix", "cell"]) (sc := defScope sWell) (by decide +kernel))
          (fun _ _ _ _ _ => pg_name (i := 2) scWell.nd rfl (Or.inl rfl))
          (fun _ _ _ _ _ => pts_one (pt_cmpR op_ge (pe_callB call_abs (by rfl) ma (by decide +kernel) (pa_cons (pe_callTy call_int1 (by rfl) mi (by decide +kernel) (pa_cons (pv 2) pa_nil)) pa_nil)) (pe_op op_pow pe_int pe_int) (nomark _)))
          (fun _ _ _ _ _ => pe_op op_sub (pe_callB call_abs (by rfl) ma (by decide +kernel) (pa_cons (pe_callTy call_int1 (by rfl) mi (by decide +kernel) (pa_cons (pv 2) pa_nil)) pa_nil)) (pe_op op_pow pe_int pe_int)))
        (pa_cons (pv 1) (pa_cons pe_int pa_nil))))))), ?_⟩
    refine ⟨.ref a, rfl, a, rfl, ⟨_, hS⟩, for_list (xs := ns.map V.int) (fun i σ H' => H' = H ∧ ∃ (m : Int) (c : Option V), σ = [some (.ref a), some (.int m), c] ∧ 0 ≤ m ∧ m < 2147483648) ⟨rfl, 3, none, rfl, by decide, by decide⟩ (fun i σ H' _ ⟨e, _⟩ => by rw [e]; exact hS) ?_ ?_⟩
    · rintro i x σ H' hx ⟨rfl, m, c, rfl, h0, h1⟩
      obtain ⟨z, hz, rfl⟩ : ∃ z, ns[i]? = some z ∧ V.int z = x := by
        rw [List.getElem?_map] at hx
        cases e : ns[i]? with
        | none => rw [e] at hx; cases hx
        | some z => rw [e] at hx; exact ⟨z, rfl, Option.some.inj hx⟩
      refine ⟨_, rfl, _, _, rfl, rfl, .inr ⟨by decide, by decide⟩, _, rfl, .inl ⟨_, rfl, _, rfl, _, _, rfl, rfl, (by show (0 : Int) < 2147483587; decide), _, _, rfl, rfl, _, _, rfl, rfl, .inl ⟨_, rfl, _, _, rfl, rfl, (by show (0 : Int) < 2147483629; decide), ?_⟩⟩⟩
      refine ⟨rfl, _, _, rfl, Int.emod_nonneg _ (by decide), Int.lt_trans (Int.emod_lt_of_pos _ (by decide)) (by decide)⟩
    · rintro σ H' ⟨rfl, m, c, rfl, h0, h1⟩
      refine ⟨.ref a, rfl, a, rfl, ⟨_, hS⟩, fun D hD => lc_list (xs := ns.map V.int) (fun i H2 => ∃ ts : List Int, H2 = upd H' D (.lst (ts.map V.int)) ∧ ts.length ≤ i ∧ ∀ t ∈ ts, 0 ≤ t) ⟨[], rfl, Nat.le_refl _, by simp⟩ (fun i H2 _ ⟨ts, e, _⟩ => by rw [e]; exact (same_upd hD).seq hS) ?_ ?_⟩
      · rintro i x H2 hx ⟨ts, rfl, hl, ht⟩
        obtain ⟨z, hz, rfl⟩ : ∃ z, ns[i]? = some z ∧ V.int z = x := by
          rw [List.getElem?_map] at hx
          cases e : ns[i]? with
          | none => rw [e] at hx; cases hx
          | some z => rw [e] at hx; exact ⟨z, rfl, Option.some.inj hx⟩
        have hi : i < ns.length := (List.getElem?_eq_some_iff.mp hz).1
        refine ⟨rfl, _, rfl, .inl ⟨_, rfl, _, rfl, _, _, rfl, rfl, ⟨by decide, by decide, by decide⟩, _, _, rfl, rfl, _, rfl, ite2 (fun e => ?_) (fun e => ?_)⟩⟩
        · refine ⟨_, rfl, .inl ⟨_, rfl, _, rfl, _, _, rfl, rfl, ⟨by decide, by decide, by decide⟩, _, _, rfl, rfl, _, upd_same, ?_, ts ++ [(if z < 0 then -z else z) - 10 ^ (18 : Int).toNat], ?_, ?_, ?_⟩⟩
          · rw [List.length_map]
            exact small1000 (by omega)
          · rw [upd_upd, List.map_append]
            rfl
          · rw [List.length_append]
            show ts.length + 1 ≤ i + 1
            omega
          · intro t hm
            rcases List.mem_append.mp hm with q | q
            · exact ht t q
            · rw [List.mem_singleton.mp q]
              have e2 := of_decide_eq_true e
              have e3 : ((10 : Int) ^ (18 : Int).toNat) = 1000000000000000000 := by decide
              rw [e3] at e2 ⊢
              omega
        · exact ⟨ts, rfl, by omega, ht⟩
      · rintro H2 ⟨ts, rfl, hl, ht⟩
        rw [List.length_map] at hl
        refine ⟨_, rfl, (by show 3 ≤ sizeLine; decide), fun p hp => ?_⟩
        have hpD : p ≠ D := fun e => by rw [e, upd_same] at hp; cases hp
        have hp0 : H' p = none := by rw [upd_ne hpD] at hp; exact hp
        refine k _ p D ((same_upd hD).trans (same_upd hp)) hp0 hD ⟨m, 0, ts, hpD, upd_same, by rw [upd_ne hpD.symm, upd_same], h0, h1, Int.le_refl _, Int.le_refl _, by omega, ht⟩

/-- a draw below many; all but the well's own two lists stands as it stood -/
def spDraw : Sp := fun vs H Q _ => ∃ (p q : Addr) (b : Nat) (many : Int), vs = [.ref p, .int many] ∧ WellAt q b H p ∧ 0 < many ∧ many < 1073741824 ∧ b < 1000000 ∧
  ∀ (H' : Hp) (r : Int), 0 ≤ r → r < many → (∀ x o, H x = some o → x ≠ p → x ≠ q → H' x = some o) → WellAt q (b + 1) H' p → Q (.int r) H'
theorem scDraw : FnScope ["well", "many", "top"] ["well", "many"] (defScope sDraw) := ⟨rfl, rfl, rfl, by decide +kernel, rfl, by decide +kernel, by decide +kernel⟩
theorem dpInts {K : PySem.W.Frag} {H : Hp} : ∀ ts : List Int, DpAll K H (ts.map V.int) (ts.map PyData.int)
  | [] => .nil
  | t :: r => .cons (.int t) (dpInts r)
theorem ints_lay : ∀ ts : List Int, PyData.canLayAll0 (ts.map PyData.int) = true ∧ PyData.depthAll (ts.map PyData.int) ≤ 1
  | [] => by simp [PyData.canLayAll0, PyData.depthAll]
  | t :: r => by
    obtain ⟨h1, h2⟩ := ints_lay r
    simp only [List.map_cons, PyData.canLayAll0, PyData.depthAll, PyData.canLay0, PyData.depth, h1, Bool.and_self, true_and]
    omega
theorem ints_shaped (ts : List Int) : SeqAt.shaped (.list (ts.map PyData.int)) = true := by
  obtain ⟨h1, h2⟩ := ints_lay ts
  unfold SeqAt.shaped
  simp only [PyData.canLay0, PyData.depth, h1, Bool.true_and, decide_eq_true_eq]
  exact decide_eq_true (by omega)
theorem eqv_nil (t : Int) (r : List Int) : PyData.eqv (.list ((t :: r).map PyData.int)) (.list []) = false := by
  simp [PyData.eqv, PyData.eqvAll]
theorem six0 (n : Nat) : seqIndex? 0 (n + 1) = some 0 := by simp [seqIndex?]
theorem ix0 (n : Nat) : ixN (n + 1) 0 = some 0 := by
  unfold ixN
  rw [if_pos (by omega), if_pos (by omega)]
  rfl
theorem ok_draw {f : Addr} {fd : FuncData} (F : Fun K "_law_draw" "_law_draw" sDraw f fd) (mi : mg "int" = none) : FnOk P w K mg base CX0 1 f fd ["well", "many"] spDraw := by
  refine F.ok scDraw (fun vs H Q E h => ?_) (fun cdv A outer s H vs Q E hr h => ?_)
  · obtain ⟨p, q, b, many, rfl, _⟩ := h
    rfl
  · obtain ⟨p, q, b, many, rfl, ⟨m, c, ts, hpq, hp, hq, m0, m1, c0, cb, hl, ht⟩, hm0, hm1, hb, k⟩ := h
    refine ⟨_, pss_cons (ps_if (pt_cmpR (op_neD hr.units) (pe_ix ix_list (pv 0) pe_int (fun _ _ => rfl)) (pe_lst pa_nil) (nomark _))
        (pss_cons (ps_set (i := 2) scDraw.nd rfl (.inl rfl) (pe_callTy call_int1 (by rfl) mi (by decide +kernel) (pa_cons (pe_ix ix_list (pe_ix ix_list (pv 0) pe_int (fun _ _ => rfl)) pe_int (fun _ _ => rfl)) pa_nil)))
        (pss_cons (ps_if (pt_cmpR op_lt (pv 2) (pv 1) (nomark _))
          (pss_one (ps_expr (pe_bm PySem.F.plainAttrs_list PySem.F.slot_list_pop PySem.F.type_list_pop mt_popAt (pe_ix ix_list (pv 0) pe_int (fun _ _ => rfl)) (pa_cons pe_int pa_nil))))
          (pss_one (ps_asg (pe_op op_fdiv (pv 2) (pv 1)) (pg_sub (pe_ix ix_list (pv 0) pe_int (fun _ _ => rfl)) pe_int set_list))))
        (pss_one (ps_ret (pe_op op_mod (pe_callTy call_int1 (by rfl) mi (by decide +kernel) (pa_cons (pv 2) pa_nil)) (pv 1))))))
        pss_nil)
      (pss_cons (ps_asg (pe_op op_add (pe_ix ix_list (pv 0) pe_int (fun _ _ => rfl)) pe_int) (pg_sub (pv 0) pe_int set_list))
      (pss_cons (ps_asg (pe_op op_mod (pe_callTy call_int1 (by rfl) mi (by decide +kernel) (pa_cons (pe_op op_add (pe_op op_add (pe_op op_mul (pe_ix ix_list (pv 0) pe_int (fun _ _ => rfl)) pe_int)
          (pe_op op_mul (pe_op op_mul pe_int (pe_ix ix_list (pv 0) pe_int (fun _ _ => rfl))) (pe_ix ix_list (pv 0) pe_int (fun _ _ => rfl)))) pe_int) pa_nil)) pe_int) (pg_sub (pv 0) pe_int set_list))
      (pss_one (ps_ret (pe_op op_mod (pe_op op_fdiv (pe_op op_mod (pe_callTy call_int1 (by rfl) mi (by decide +kernel) (pa_cons (pe_op op_mul (pe_ix ix_list (pv 0) pe_int (fun _ _ => rfl)) (pe_ix ix_list (pv 0) pe_int (fun _ _ => rfl))) pa_nil)) pe_int) pe_int) (pv 1)))))), ?_⟩
    have hP : SqL K H p [.ref q, .int m, .int c] := SqL.of hp
    refine ⟨_, rfl, p, _, _, _, rfl, rfl, hP, atI_nat (j := 0) rfl, Nat.zero_le _, fun e he => ?_⟩
    have hpe : p ≠ e := ne_of_none hp he
    have hqe : q ≠ e := ne_of_none hq he
    have s1 : Same H (upd H e (.lst [])) := same_upd he
    refine ⟨.list (ts.map PyData.int), .list [], .lst (SqL.of (s1 _ _ hq)) (dpInts ts), .lst (SqL.of upd_same) .nil, ints_shaped ts, (by decide +kernel), _, rfl, ?_⟩
    cases ts with
    | nil =>
      have e0 : PyData.eqv (.list (([] : List Int).map PyData.int)) (.list []) = true := by decide +kernel
      rw [e0]
      refine iteF ?_
      have hP1 : SqL K (upd H e (.lst [])) p [.ref q, .int m, .int c] := SqL.of (s1 _ _ hp)
      refine ⟨_, rfl, p, _, _, _, rfl, rfl, hP1, atI_nat (j := 2) rfl, _, _, rfl, rfl, _, rfl, p, _, _, 2, rfl, rfl, s1 _ _ hp, rfl, ?_⟩
      have hP2 : SqL K (upd (upd H e (.lst [])) p (.lst [.ref q, .int m, .int (c + 1)])) p [.ref q, .int m, .int (c + 1)] := SqL.of upd_same
      refine ⟨_, rfl, p, _, _, _, rfl, rfl, hP2, atI_nat (j := 1) rfl, _, _, rfl, rfl, .inr ⟨by decide, by decide⟩, _, rfl, p, _, _, _, rfl, rfl, hP2, atI_nat (j := 2) rfl, _, _, rfl, rfl, .inl ⟨by decide, by decide⟩,
        _, rfl, p, _, _, _, rfl, rfl, hP2, atI_nat (j := 2) rfl, _, _, rfl, rfl, .inr ⟨by omega, by omega⟩, _, _, rfl, rfl, _, _, rfl, rfl, .inl ⟨_, rfl, _, _, rfl, rfl, (by show (0 : Int) < 2147483647; decide), _, rfl, p, _, _, 1, rfl, rfl, upd_same, rfl, ?_⟩⟩
      rw [upd_upd]
      have hP3 : SqL K (upd (upd H e (.lst [])) p (.lst [.ref q, .int ((m * 48271 + 30011 * (c + 1) * (c + 1) + 17) % 2147483647), .int (c + 1)])) p [.ref q, .int ((m * 48271 + 30011 * (c + 1) * (c + 1) + 17) % 2147483647), .int (c + 1)] := SqL.of upd_same
      refine ⟨_, rfl, p, _, _, _, rfl, rfl, hP3, atI_nat (j := 1) rfl, _, rfl, p, _, _, _, rfl, rfl, hP3, atI_nat (j := 1) rfl, _, _, rfl, rfl, .inl ⟨by omega, by omega⟩, .inl ⟨_, rfl, _, _, rfl, rfl, (by show (0 : Int) < 2147483629; decide), _, _, rfl, rfl, ⟨by decide, by decide⟩, _, rfl, _, _, rfl, rfl, hm0, ?_⟩⟩
      refine k _ _ (Int.emod_nonneg _ (by omega)) (Int.emod_lt_of_pos _ hm0) (fun x o hx h1 h2 => by rw [upd_ne h1]; exact s1 _ _ hx) ⟨((m * 48271 + 30011 * (c + 1) * (c + 1) + 17) % 2147483647), c + 1, [], hpq, upd_same, by rw [upd_ne hpq.symm]; exact s1 _ _ hq, by omega, by omega, by omega, by omega, by decide, by simp⟩
    | cons t r =>
      rw [eqv_nil]
      refine iteT ?_
      have hP1 : SqL K (upd H e (.lst [])) p [.ref q, .int m, .int c] := SqL.of (s1 _ _ hp)
      have hQ1 : SqL K (upd H e (.lst [])) q ((t :: r).map V.int) := SqL.of (s1 _ _ hq)
      have t0 : 0 ≤ t := ht t List.mem_cons_self
      have hl' : r.length + 1 ≤ 63 := hl
      refine ⟨_, rfl, p, _, _, _, rfl, rfl, hP1, atI_nat (j := 0) rfl, q, _, _, _, rfl, rfl, hQ1, atI_nat (j := 0) rfl, .inl ⟨_, rfl, ?_⟩⟩
      refine ⟨_, rfl, _, rfl, _, _, rfl, rfl, _, rfl, ite2 (fun e1 => ?_) (fun e1 => ?_)⟩
      · refine ⟨_, rfl, p, _, _, _, rfl, rfl, hP1, atI_nat (j := 0) rfl, .inl ⟨rfl, _, hQ1⟩, q, _, 0, 0, _, rfl, rfl, s1 _ _ hq, by decide, by decide, by rw [List.length_map]; exact six0 _, rfl, ?_⟩
        refine ⟨_, rfl, .inl ⟨_, rfl, _, rfl, _, _, rfl, rfl, hm0, ?_⟩⟩
        refine k _ _ (Int.emod_nonneg _ (by omega)) (Int.emod_lt_of_pos _ hm0) (fun x o hx h1 h2 => by rw [upd_ne h2]; exact s1 _ _ hx) ⟨m, c, r, hpq, by rw [upd_ne hpq]; exact s1 _ _ hp, by rw [upd_same]; rfl, m0, m1, c0, by omega, by omega, fun x hx => ht x (List.mem_cons_of_mem _ hx)⟩
      · refine ⟨_, rfl, _, rfl, _, _, rfl, rfl, ⟨hm0, hm1⟩, _, rfl, p, _, _, _, rfl, rfl, hP1, atI_nat (j := 0) rfl, q, _, _, 0, rfl, rfl, s1 _ _ hq, by rw [List.length_map]; exact ix0 _, ?_⟩
        refine ⟨_, rfl, .inl ⟨_, rfl, _, rfl, _, _, rfl, rfl, hm0, ?_⟩⟩
        refine k _ _ (Int.emod_nonneg _ (by omega)) (Int.emod_lt_of_pos _ hm0) (fun x o hx h1 h2 => by rw [upd_ne h2]; exact s1 _ _ hx) ⟨m, c, t / many :: r, hpq, by rw [upd_ne hpq]; exact s1 _ _ hp, by rw [upd_same]; rfl, m0, m1, c0, by omega, hl, fun x hx => ?_⟩
        rcases List.mem_cons.mp hx with z | z
        · rw [z]; exact Int.ediv_nonneg t0 (Int.le_of_lt hm0)
        · exact ht x (List.mem_cons_of_mem _ z)
end
end JF
set_option Elab.async false
set_option linter.all false
set_option maxRecDepth 100000
set_option maxHeartbeats 4000000
/-! data that a pure def reads and makes; heaps that only grow; defs whose code object is known -/
namespace JF
open PySem PySem.Spec PyProof.Rows L2 GxR GA

/-! ### any, all over a walk -/
theorem gen_it {sb : Bool} {J : It} {n : Nat} {G : Hp → Prop} {Y : Nat → Hp → V → Hp → Prop} (w : Walk J n G Y) {g : TG} {te : TE} {vs : List Nat} {σ : L2.St} {H : Hp} {Q : VK} (Pv : Nat → Hp → Prop) (h0 : Pv 0 H) (hG : ∀ i H, i ≤ n → Pv i H → G H)
    (hs : ∀ i x H H', i < n → Pv i H → Y i H x H' → g x (wipe σ vs) H' fun σ2 H2 => wipe σ2 vs = wipe σ vs ∧ te σ2 H2 fun y H3 => ∃ b : Bool, y = .bl b ∧ if b = sb then Q (.bl sb) H3 else Pv (i + 1) H3) (hd : ∀ H, Pv n H → Q (.bl (!sb)) H) :
    ∃ W : Nat → Nat → Hp → Prop, (∃ m, W 0 m H) ∧ tGenW sb J g te vs σ Q W := by
  refine ⟨fun i m H => m = n - i ∧ i ≤ n ∧ Pv i H, ⟨n, by simp, Nat.zero_le _, h0⟩, ?_⟩
  rintro i m H ⟨rfl, hi, p⟩
  have q := hG i H hi p
  by_cases hlt : i < n
  · exact .inr ⟨w.goes i H hlt q, Pv (i + 1), fun H' p' => ⟨n - (i + 1), by omega, rfl, hlt, p'⟩, fun x H' y => hs i x H H' hlt p (w.yields i H x H' hlt q y)⟩
  · have e : i = n := by omega
    subst e
    exact .inl ⟨w.stops H q, hd H p⟩

/-! ### heaps that only grow; the tables of code objects at T may have grown -/
def TbOk (T : List Addr) (H : Hp) : Prop := ∀ P ∈ T, TabG H P
structure Ex (T : List Addr) (H H' : Hp) : Prop where
  tb : TbOk T H → TbOk T H'
  keep : ∀ b o, H b = some o → b ∉ T → H' b = some o
theorem Ex.refl {T : List Addr} {H : Hp} : Ex T H H := ⟨id, fun _ _ e _ => e⟩
theorem Ex.trans {T : List Addr} {H H1 H2 : Hp} (a : Ex T H H1) (b : Ex T H1 H2) : Ex T H H2 := ⟨fun h => b.tb (a.tb h), fun c o e n => b.keep c o (a.keep c o e n) n⟩
theorem TabG.upd {H : Hp} {P p : Addr} {o : HO} (h : TabG H P) (n : H p = none) : TabG (upd H p o) P := by
  obtain ⟨ps, e, t⟩ := h
  exact ⟨ps, by rw [upd_ne (ne_of_none e n)]; exact e, t⟩
theorem Ex.new {T : List Addr} {H : Hp} {p : Addr} {o : HO} (n : H p = none) : Ex T H (upd H p o) :=
  ⟨fun h P hP => TabG.upd (h P hP) n, fun b x e _ => by rw [upd_ne (ne_of_none e n)]; exact e⟩
theorem Ex.tabbed {T : List Addr} {H H' : Hp} {P : Addr} (hP : P ∈ T) (h : Tabbed P H H') : Ex T H H' :=
  ⟨fun t Pz hz => by
    by_cases e : Pz = P
    · rw [e]; exact h.1
    · obtain ⟨ps, q, r⟩ := t Pz hz
      exact ⟨ps, by rw [h.2 _ e]; exact q, r⟩,
   fun b o e n => by rw [h.2 b (fun z => n (z ▸ hP))]; exact e⟩
theorem TbOk.seqN {T : List Addr} {H : Hp} {a : Addr} {o : HO} (t : TbOk T H) (h : H a = some o) (n : ∀ ps, o ≠ .tbl ps) : a ∉ T := fun z => by
  obtain ⟨ps, e, _⟩ := t a z
  rw [h] at e
  exact n ps (Option.some.inj e)
theorem Ex.sqL {K : PySem.W.Frag} {T : List Addr} {H H' : Hp} {a : Addr} {xs : List V} (x : Ex T H H') (t : TbOk T H) (h : SqL K H a xs) : SqL K H' a xs := by
  rcases h with (h | ⟨o, h⟩) | h
  · exact .inl (.inl (x.keep _ _ h (t.seqN h fun _ z => by cases z)))
  · exact .inl (.inr ⟨o, x.keep _ _ h (t.seqN h fun _ z => by cases z)⟩)
  · exact .inr h
theorem Ex.sqT {K : PySem.W.Frag} {T : List Addr} {H H' : Hp} {a : Addr} {xs : List V} (x : Ex T H H') (t : TbOk T H) (h : SqT K H a xs) : SqT K H' a xs := by
  rcases h with (h | ⟨o, h⟩) | h
  · exact .inl (.inl (x.keep _ _ h (t.seqN h fun _ z => by cases z)))
  · exact .inl (.inr ⟨o, x.keep _ _ h (t.seqN h fun _ z => by cases z)⟩)
  · exact .inr h

/-! ### data: none, truths, ints, texts, lists, tuples; any dict is .dict [] -/
mutual
inductive Rp (K : PySem.W.Frag) (H : Hp) : V → PyData → Prop
  | non : Rp K H .non .none
  | bl (b : Bool) : Rp K H (.bl b) (.bool b)
  | int (i : Int) : Rp K H (.int i) (.int i)
  | str (x : Str) : x.length ≤ 65536 → Rp K H (.str x) (.str x)
  | lst {a : Addr} {xs : List V} {ds : List PyData} : SqL K H a xs → RpAll K H xs ds → Rp K H (.ref a) (.list ds)
  | tup {a : Addr} {xs : List V} {ds : List PyData} : SqT K H a xs → RpAll K H xs ds → Rp K H (.ref a) (.tuple ds)
  | dic {a : Addr} {kvs : List (Key × V)} : H a = some (.dK kvs) → Rp K H (.ref a) (.dict [])
inductive RpAll (K : PySem.W.Frag) (H : Hp) : List V → List PyData → Prop
  | nil : RpAll K H [] []
  | cons {v : V} {vs : List V} {d : PyData} {ds : List PyData} : Rp K H v d → RpAll K H vs ds → RpAll K H (v :: vs) (d :: ds)
end
section
variable {K : PySem.W.Frag} {T : List Addr} {H H' : Hp}
theorem RpAll.len : ∀ {vs : List V} {ds : List PyData}, RpAll K H vs ds → vs.length = ds.length
  | _, _, .nil => rfl
  | _, _, .cons _ t => by rw [List.length_cons, List.length_cons, t.len]
theorem RpAll.get : ∀ {vs : List V} {ds : List PyData} {i : Nat} {v : V}, RpAll K H vs ds → vs[i]? = some v → ∃ d, ds[i]? = some d ∧ Rp K H v d
  | _, _, _, _, .nil, h => by simp at h
  | _, _, 0, v, .cons r _, h => by
    have e : _ = v := Option.some.inj h
    subst e
    exact ⟨_, rfl, r⟩
  | _, _, i + 1, v, .cons _ t, h => RpAll.get (i := i) (v := v) t h
theorem RpAll.getD : ∀ {vs : List V} {ds : List PyData} {i : Nat} {d : PyData}, RpAll K H vs ds → ds[i]? = some d → ∃ v, vs[i]? = some v ∧ Rp K H v d
  | _, _, _, _, .nil, h => by simp at h
  | _, _, 0, d, .cons r _, h => by
    have e : _ = d := Option.some.inj h
    subst e
    exact ⟨_, rfl, r⟩
  | _, _, i + 1, d, .cons _ t, h => RpAll.getD (i := i) (d := d) t h
mutual
theorem Rp.ex (x : Ex T H H') (t : TbOk T H) : ∀ {v : V} {d : PyData}, Rp K H v d → Rp K H' v d
  | _, _, .non => .non
  | _, _, .bl b => .bl b
  | _, _, .int i => .int i
  | _, _, .str s h => .str s h
  | _, _, .lst h r => .lst (x.sqL t h) (RpAll.ex x t r)
  | _, _, .tup h r => .tup (x.sqT t h) (RpAll.ex x t r)
  | _, _, .dic h => .dic (x.keep _ _ h (t.seqN h fun _ z => by cases z))
theorem RpAll.ex (x : Ex T H H') (t : TbOk T H) : ∀ {vs : List V} {ds : List PyData}, RpAll K H vs ds → RpAll K H' vs ds
  | _, _, .nil => .nil
  | _, _, .cons r s => .cons (Rp.ex x t r) (RpAll.ex x t s)
end
/-- the name of a datum's type -/
def tyN : PyData → String
  | .none => "NoneType"
  | .bool _ => "bool"
  | .int _ => "int"
  | .str _ => "str"
  | .list _ => "list"
  | .tuple _ => "tuple"
  | .dict _ => "dict"
theorem Rp.ty {v : V} {d : PyData} (r : Rp K H v d) : TyB K H v (tyN d) := by
  cases r with
  | non => exact .non
  | bl b => exact .bl b
  | int i => exact .int i
  | str x _ => exact .str x
  | lst h _ => exact .lst h
  | tup h _ => exact .tup h
  | dic h => exact .dK h
end
/-- type(x) is T, asked of a datum -/
theorem ty_dec (d : PyData) (s : String) : decide (tyN d = s) = (tyN d == s) := by
  by_cases h : tyN d = s
  · rw [decide_eq_true h, h]; simp
  · rw [decide_eq_false h]; exact (beq_eq_false_iff_ne.mpr h).symm

/-! ### any, all with pure elements -/
def genR {α : Type} (sb : Bool) (xs : List α) (b : α → Bool) : Bool := if sb then xs.any b else xs.all b
theorem genR_found {α : Type} {sb : Bool} {xs : List α} {b : α → Bool} {a : α} (h : a ∈ xs) (e : b a = sb) : genR sb xs b = sb := by
  cases sb with
  | true => exact List.any_eq_true.mpr ⟨a, h, e⟩
  | false =>
    show xs.all b = false
    cases q : xs.all b with
    | false => rfl
    | true => rw [List.all_eq_true.mp q a h] at e; cases e
theorem genR_end {α : Type} {sb : Bool} {xs : List α} {b : α → Bool} (h : ∀ a ∈ xs, b a = !sb) : genR sb xs b = !sb := by
  cases sb with
  | true =>
    show xs.any b = false
    cases q : xs.any b with
    | false => rfl
    | true =>
      obtain ⟨a, ha, e⟩ := List.any_eq_true.mp q
      rw [h a ha] at e; cases e
  | false => exact List.all_eq_true.mpr h
theorem gen_bools {T : List Addr} {α : Type} {sb : Bool} {J : It} {n : Nat} {G : Hp → Prop} {Y : Nat → Hp → V → Hp → Prop} (w : Walk J n G Y) {g : TG} {te : TE} {vs : List Nat} {σ : L2.St} {H : Hp} {Q : VK} (xs : List α) (hn : xs.length = n) (b : α → Bool)
    (hG : ∀ H', Ex T H H' → G H')
    (hs : ∀ i x a H' H2, Ex T H H' → xs[i]? = some a → Y i H' x H2 → ∀ Q' : VK, (∀ H3, Ex T H H3 → Q' (.bl (b a)) H3) → g x (wipe σ vs) H2 fun σ2 H3 => wipe σ2 vs = wipe σ vs ∧ te σ2 H3 Q')
    (hd : ∀ H', Ex T H H' → Q (.bl (genR sb xs b)) H') : ∃ W : Nat → Nat → Hp → Prop, (∃ m, W 0 m H) ∧ tGenW sb J g te vs σ Q W := by
  refine gen_it w (fun i H' => Ex T H H' ∧ ∀ a ∈ xs.take i, b a = !sb) ⟨Ex.refl, by simp⟩ (fun i H' _ p => hG H' p.1) (fun i x H' H2 hi p y => ?_) (fun H' p => ?_)
  · have hi' : i < xs.length := by omega
    refine hs i x xs[i] H' H2 p.1 (List.getElem?_eq_getElem hi') y _ fun H3 x3 => ⟨b xs[i], rfl, ?_⟩
    by_cases hb : b xs[i] = sb
    · rw [if_pos hb]
      have := hd H3 x3
      rw [genR_found (List.getElem_mem hi') hb] at this
      exact this
    · rw [if_neg hb]
      refine ⟨x3, fun a ha => ?_⟩
      rw [List.take_succ, List.getElem?_eq_getElem hi'] at ha
      rcases List.mem_append.mp ha with z | z
      · exact p.2 a z
      · have e : a = xs[i] := by simpa using z
        rw [e]
        cases q : b xs[i] <;> cases sb <;> simp_all
  · have := hd H' p.1
    rw [genR_end (fun a ha => p.2 a (by rw [List.take_of_length_le (by omega)]; exact ha))] at this
    exact this
/-- over a text -/
theorem gen_signs {T : List Addr} {sb : Bool} {g : TG} {te : TE} {vs : List Nat} {σ : L2.St} {H : Hp} {Q : VK} (z : Str) (b : Nat → Bool)
    (hs : ∀ c H', Ex T H H' → ∀ Q' : VK, (∀ H3, Ex T H H3 → Q' (.bl (b c)) H3) → g (.str ⟨#[c]⟩) (wipe σ vs) H' fun σ2 H3 => wipe σ2 vs = wipe σ vs ∧ te σ2 H3 Q')
    (hd : ∀ H', Ex T H H' → Q (.bl (genR sb z.cps.toList b)) H') : ∃ W : Nat → Nat → Hp → Prop, (∃ m, W 0 m H) ∧ tGenW sb (Its z) g te vs σ Q W :=
  gen_bools (T := T) walk_str z.cps.toList (by simp) b (fun _ _ => trivial) (fun i x a H' H2 e ha y Q' hq => by
    obtain ⟨rfl, c, hc, rfl⟩ := y
    have e2 : z.cps.toList[i]? = some c := by simpa using hc
    rw [e2] at ha
    cases ha
    exact hs _ _ e Q' hq) hd
/-- over a tuple of data -/
theorem gen_tup {K : PySem.W.Frag} {T : List Addr} {sb : Bool} {g : TG} {te : TE} {vs : List Nat} {σ : L2.St} {H : Hp} {Q : VK} {a : Addr} {xs : List V} {ds : List PyData} (t : TbOk T H) (hx : SqT K H a xs) (r : RpAll K H xs ds) (b : PyData → Bool)
    (hs : ∀ v d H', Ex T H H' → d ∈ ds → Rp K H' v d → ∀ Q' : VK, (∀ H3, Ex T H H3 → Q' (.bl (b d)) H3) → g v (wipe σ vs) H' fun σ2 H3 => wipe σ2 vs = wipe σ vs ∧ te σ2 H3 Q')
    (hd : ∀ H', Ex T H H' → Q (.bl (genR sb ds b)) H') : ∃ W : Nat → Nat → Hp → Prop, (∃ m, W 0 m H) ∧ tGenW sb (Itt K a) g te vs σ Q W :=
  gen_bools (T := T) walk_tup ds (by rw [r.len]) b (fun _ e => e.sqT t hx) (fun i x d H' H2 e hd y Q' hq => by
    obtain ⟨rfl, hv⟩ := y
    obtain ⟨d', hd', rd⟩ := r.get hv
    rw [hd] at hd'
    cases hd'
    exact hs _ _ _ e (List.mem_of_getElem? hd) (rd.ex e t) Q' hq) hd
/-- over a list of data -/
theorem gen_lst {K : PySem.W.Frag} {T : List Addr} {sb : Bool} {g : TG} {te : TE} {vs : List Nat} {σ : L2.St} {H : Hp} {Q : VK} {a : Addr} {xs : List V} {ds : List PyData} (t : TbOk T H) (hx : SqL K H a xs) (r : RpAll K H xs ds) (b : PyData → Bool)
    (hs : ∀ v d H', Ex T H H' → d ∈ ds → Rp K H' v d → ∀ Q' : VK, (∀ H3, Ex T H H3 → Q' (.bl (b d)) H3) → g v (wipe σ vs) H' fun σ2 H3 => wipe σ2 vs = wipe σ vs ∧ te σ2 H3 Q')
    (hd : ∀ H', Ex T H H' → Q (.bl (genR sb ds b)) H') : ∃ W : Nat → Nat → Hp → Prop, (∃ m, W 0 m H) ∧ tGenW sb (Itl K a) g te vs σ Q W :=
  gen_bools (T := T) walk_list ds (by rw [r.len]) b (fun _ e => e.sqL t hx) (fun i x d H' H2 e hd y Q' hq => by
    obtain ⟨rfl, hv⟩ := y
    obtain ⟨d', hd', rd⟩ := r.get hv
    rw [hd] at hd'
    cases hd'
    exact hs _ _ _ e (List.mem_of_getElem? hd) (rd.ex e t) Q' hq) hd

/-! ### a def whose code object is at c -/
structure FunC (K : PySem.W.Frag) (x qual : Str) (st : Stmt) (f : Addr) (fd : FuncData) (c : Addr) : Prop where
  ex : ∃ (oc : Value) (od : Option Addr) (kV doc pm : Value) (an : Option Addr) (ct : Value) (osl : Array (Option Value)),
    fd = PySem.W.fnOf x qual (defArgs st) (defBody st) (defScope st) .none kV doc pm an (.ref c) ct ∧ K.lookup f = some ⟨oc, od, .func fd, osl⟩ ∧ PySem.W.codeIn K (.ref c) qual = true
  kp : PySem.W.keepIn K (.ref f) = true
section
variable {P : Program} {w : World} {K : PySem.W.Frag} {mg : Str → Option Value} {base : Heap}
theorem FunC.ok {x qual : Str} {st : Stmt} {f c : Addr} {fd : FuncData} {N ps : List Str} {k : Nat} {sp : Sp} (F : FunC K x qual st f fd c) (S : FnScope N ps (defScope st)) (len : ∀ vs H Q E, sp vs H Q E → vs.length = ps.length)
    (hbody : ∀ (A : Around) (outer : List Env) (s : Shared) (H : Hp) (vs : List V) (Q : VK) (E : XK), Room k (A.deeper (envOfC qual (defScope st) s.heap.objs.size f (.ref c))) → sp vs H Q E →
      ∃ t, PSs (cxOf CX0 P w K mg base N qual (defScope st) f (.ref c) A outer s H E).nox (defBody st) t ∧ t { nx := fun _ H' => Q .non H', rt := Q } (start N vs) H) : FnOk P w K mg base CX0 (k + 1) f fd ps sp := by
  obtain ⟨oc, od, kV, doc, pm, an, ct, osl, rfl, lk, hcd⟩ := F.ex
  refine fn_of lk hcd S len fun A outer s H vs Q E hr hsp => ?_
  obtain ⟨t, h, q⟩ := hbody A outer s H vs Q E hr hsp
  exact ⟨t, h.nox, q⟩
theorem FunC.binds {x qual : Str} {st : Stmt} {f c : Addr} {fd : FuncData} {ps : List Str} (F : FunC K x qual st f fd c)
    (h : ∀ (kV doc pm : Value) (an : Option Addr) (ct : Value) (us : List Value), us.length = ps.length → bindArgs (PySem.W.fnOf x qual (defArgs st) (defBody st) (defScope st) .none kV doc pm an (.ref c) ct) ⟨us, []⟩ = pure (ps.zip us)) : Binds K fd ps [] := by
  obtain ⟨oc, od, kV, doc, pm, an, ct, osl, rfl, lk, hcd⟩ := F.ex
  exact .all (h kV doc pm an ct)
end
end JF
set_option Elab.async false
set_option linter.all false
set_option maxRecDepth 100000
set_option maxHeartbeats 4000000
namespace JF
open PySem PySem.Spec PyProof.Rows L2 GxR GA
/-- the built-in names that the text does not store -/
structure BI (mg : Str → Option Value) : Prop where
  type : mg "type" = none
  int : mg "int" = none
  str : mg "str" = none
  tuple : mg "tuple" = none
  len : mg "len" = none
  all : mg "all" = none
  any : mg "any" = none
abbrev sIsInteger : Stmt := topS 37
abbrev sIsNumber : Stmt := topS 38
abbrev sIsRegister : Stmt := topS 39
abbrev sIsNext : Stmt := topS 40
abbrev sCell : Stmt := topS 41
abbrev sName : Stmt := topS 42
abbrev sLow : Stmt := topS 43
abbrev sHigh : Stmt := topS 44
abbrev sField : Stmt := topS 45
/-! ### what they tell -/
def isI (lo hi : Int) : PyData → Bool
  | .int i => decide (lo ≤ i) && decide (i ≤ hi)
  | _ => false
def spInt (K : PySem.W.Frag) : Sp := fun vs H Q _ => ∃ (v : V) (d : PyData) (lo hi : Int), vs = [v, .int lo, .int hi] ∧ Rp K H v d ∧ Q (.bl (isI lo hi d)) H
/-- a def of one datum that tells a truth -/
def spIs (K : PySem.W.Frag) (T : List Addr) (f : PyData → Bool) : Sp := fun vs H Q _ => ∃ (v : V) (d : PyData), vs = [v] ∧ Rp K H v d ∧ TbOk T H ∧ ∀ H', Ex T H H' → Q (.bl (f d)) H'
def isNumber : PyData → Bool := isI (-1000000000000) 1000000000000
def isRegister : PyData → Bool := isI 0 31
def isNext : PyData → Bool := isI 0 59
section
variable {P : Program} {w : World} {K : PySem.W.Frag} {mg : Str → Option Value} {base : Heap} {T : List Addr}
theorem scInteger : FnScope ["thing", "low", "high"] ["thing", "low", "high"] (defScope sIsInteger) := ⟨rfl, rfl, rfl, by decide +kernel, rfl, by decide +kernel, by decide +kernel⟩
theorem ok_integer {f : Addr} {fd : FuncData} (F : Fun K "is_integer" "is_integer" sIsInteger f fd) (B : BI mg) : FnOk P w K mg base CX0 1 f fd ["thing", "low", "high"] (spInt K) := by
  refine F.ok scInteger (fun vs H Q E h => ?_) (fun cdv A outer s H vs Q E hr h => ?_)
  · obtain ⟨v, d, lo, hi, rfl, _⟩ := h
    rfl
  · obtain ⟨v, d, lo, hi, rfl, r, k⟩ := h
    refine ⟨_, pss_one (ps_ret (pe_and (pe_cmpR op_isTy (pe_callTy call_type1 (by rfl) B.type (by decide +kernel) (pa_cons (pv 0) pa_nil)) (pe_bltn (v := .ty "int") (by rfl) B.int (by decide +kernel) rfl) (nomark _))
      (pe_one (pe_chain op_le op_le (pv 1) (pv 0) (pv 2))))), ?_⟩
    refine ⟨v, rfl, v, tyN d, rfl, r.ty, _, _, rfl, rfl, _, rfl, ite2 (fun e => ?_) (fun e => ?_)⟩
    · cases r with
      | int i =>
        refine ⟨_, rfl, _, rfl, _, _, rfl, rfl, _, rfl, ite2 (fun e1 => ?_) (fun e1 => ?_)⟩
        · refine ⟨_, rfl, _, _, rfl, rfl, ?_⟩
          have e2 : isI lo hi (.int i) = decide (i ≤ hi) := by simp [isI, of_decide_eq_true e1]
          show Q (.bl (decide (i ≤ hi))) H
          rw [← e2]
          exact k
        · have e2 : isI lo hi (.int i) = false := by
            have e3 : ¬ lo ≤ i := fun z => e1 (decide_eq_true z)
            simp [isI, e3]
          show Q (.bl false) H
          rw [← e2]
          exact k
      | non => exact absurd (of_decide_eq_true e) (by simp [tyN])
      | bl b => exact absurd (of_decide_eq_true e) (by simp [tyN])
      | str x _ => exact absurd (of_decide_eq_true e) (by simp [tyN])
      | lst h q => exact absurd (of_decide_eq_true e) (by simp [tyN])
      | tup h q => exact absurd (of_decide_eq_true e) (by simp [tyN])
      | dic h => exact absurd (of_decide_eq_true e) (by simp [tyN])
    · have e2 : isI lo hi d = false := by
        cases d <;> first | rfl | exact absurd (decide_eq_true (by rfl)) e
      show Q (.bl false) H
      rw [← e2]
      exact k
theorem scNumber : FnScope ["thing"] ["thing"] (defScope sIsNumber) := ⟨rfl, rfl, rfl, by decide +kernel, rfl, by decide +kernel, by decide +kernel⟩
theorem ok_number {f g : Addr} {fd gd : FuncData} {t : Tok} (F : Fun K "is_number" "is_number" sIsNumber f fd) (G : FnOk P w K mg base CX0 1 g gd ["thing", "low", "high"] (spInt K)) (mG : mg "is_integer" = some (.ref g)) (kG : PySem.W.keepIn K (.ref g) = true) (bG : Binds K gd ["thing", "low", "high"] [])
    (mN : mg "GREATEST_NUMBER" = some (.int 1000000000000 t)) : FnOk P w K mg base CX0 2 f fd ["thing"] (spIs K T isNumber) := by
  refine F.ok scNumber (fun vs H Q E h => ?_) (fun cdv A outer s H vs Q E hr h => ?_)
  · obtain ⟨v, d, rfl, _⟩ := h
    rfl
  · obtain ⟨v, d, rfl, r, tb, k⟩ := h
    refine ⟨_, pss_one (ps_ret (pe_call G hr rfl mG kG bG .nil pass0 (pa_cons (pv 0) (pa_cons (pe_un un_neg (pe_glob (v := .int 1000000000000) rfl mN ⟨_, rfl⟩)) (pa_cons (pe_glob (v := .int 1000000000000) rfl mN ⟨_, rfl⟩) pa_nil))))), ?_⟩
    exact ⟨v, rfl, _, rfl, v, d, _, _, rfl, r, k _ Ex.refl⟩
theorem scRegister : FnScope ["thing"] ["thing"] (defScope sIsRegister) := ⟨rfl, rfl, rfl, by decide +kernel, rfl, by decide +kernel, by decide +kernel⟩
theorem ok_register {f g : Addr} {fd gd : FuncData} (F : Fun K "is_register" "is_register" sIsRegister f fd) (G : FnOk P w K mg base CX0 1 g gd ["thing", "low", "high"] (spInt K)) (mG : mg "is_integer" = some (.ref g)) (kG : PySem.W.keepIn K (.ref g) = true) (bG : Binds K gd ["thing", "low", "high"] []) {t : Tok} (mR : mg "REGISTERS" = some (.int 32 t)) :
    FnOk P w K mg base CX0 2 f fd ["thing"] (spIs K T isRegister) := by
  refine F.ok scRegister (fun vs H Q E h => ?_) (fun cdv A outer s H vs Q E hr h => ?_)
  · obtain ⟨v, d, rfl, _⟩ := h
    rfl
  · obtain ⟨v, d, rfl, r, tb, k⟩ := h
    refine ⟨_, pss_one (ps_ret (pe_call G hr rfl mG kG bG .nil pass0 (pa_cons (pv 0) (pa_cons pe_int (pa_cons (pe_op op_sub (pe_glob (v := .int 32) rfl mR ⟨_, rfl⟩) pe_int) pa_nil))))), ?_⟩
    exact ⟨v, rfl, _, _, rfl, rfl, v, d, 0, 31, rfl, r, k _ Ex.refl⟩
theorem scNext : FnScope ["thing"] ["thing"] (defScope sIsNext) := ⟨rfl, rfl, rfl, by decide +kernel, rfl, by decide +kernel, by decide +kernel⟩
theorem ok_next {f g : Addr} {fd gd : FuncData} (F : Fun K "is_next" "is_next" sIsNext f fd) (G : FnOk P w K mg base CX0 1 g gd ["thing", "low", "high"] (spInt K)) (mG : mg "is_integer" = some (.ref g)) (kG : PySem.W.keepIn K (.ref g) = true) (bG : Binds K gd ["thing", "low", "high"] []) :
    FnOk P w K mg base CX0 2 f fd ["thing"] (spIs K T isNext) := by
  refine F.ok scNext (fun vs H Q E h => ?_) (fun cdv A outer s H vs Q E hr h => ?_)
  · obtain ⟨v, d, rfl, _⟩ := h
    rfl
  · obtain ⟨v, d, rfl, r, tb, k⟩ := h
    refine ⟨_, pss_one (ps_ret (pe_call G hr rfl mG kG bG .nil pass0 (pa_cons (pv 0) (pa_cons pe_int (pa_cons pe_int pa_nil))))), ?_⟩
    exact ⟨v, rfl, v, d, _, _, rfl, r, k _ Ex.refl⟩
/-! ### names -/
def digit (c : Nat) : Bool := decide (c ∈ (Str.ofString "0123456789").cps.toList)
def nameSign (c : Nat) : Bool := decide (c ∈ (Str.ofString "abcdefghijklmnopqrstuvwxyzABCDEFGHIJKLMNOPQRSTUVWXYZ0123456789").cps.toList)
/-- r or t, and figures alone behind -/
def asCell (z : Str) : Bool := match z.cps.toList with
  | [] => false
  | c :: r => decide (c ∈ (Str.ofString "rt").cps.toList) && r.all digit
theorem cut_tail (z : Str) : (cutS z (some 1) none).cps.toList = z.cps.toList.drop 1 := by
  unfold cutS
  rw [show HT.sIx z.length 0 (some 1) = min 1 z.length from HT.sIx_nat z.length 0 1, HT.sIx_none]
  have hl : z.length = z.cps.toList.length := by simp [Str.length]
  show ((z.cps.toList.drop (min 1 z.length)).take (z.length - min 1 z.length)) = z.cps.toList.drop 1
  rw [hl]
  cases z.cps.toList with
  | nil => rfl
  | cons c r =>
    have e1 : min 1 (c :: r).length = 1 := by rw [List.length_cons]; omega
    rw [e1]
    show List.take ((c :: r).length - 1) r = r
    rw [List.length_cons, Nat.add_sub_cancel]
    exact List.take_length
theorem scCell : FnScope ["name", "sign"] ["name"] (defScope sCell) := ⟨rfl, rfl, rfl, by decide +kernel, rfl, by decide +kernel, by decide +kernel⟩
def spCellN (T : List Addr) : Sp := fun vs H Q _ => ∃ (z : Str), vs = [.str z] ∧ 0 < z.length ∧ z.length ≤ 1000 ∧ TbOk T H ∧ ∀ H', Ex T H H' → Q (.bl (asCell z)) H'
theorem ok_cell {f c Pt : Addr} {fd : FuncData} {t : Tok} (F : FunC K "reads_as_cell" "reads_as_cell" sCell f fd c) (B : BI mg) (TB : TabB base mg c Pt) (hT : Pt ∈ T) (mD : mg "DIGITS" = some (.str "0123456789" t)) :
    FnOk P w K mg base CX0 3 f fd ["name"] (spCellN T) := by
  refine F.ok scCell (fun vs H Q E h => ?_) (fun A outer s H vs Q E hr h => ?_)
  · obtain ⟨z, rfl, _⟩ := h
    rfl
  · obtain ⟨z, rfl, hz, hz2, tb, k⟩ := h
    refine ⟨_, pss_one (ps_ret (pe_and (pe_cmpR op_in_sign (pe_item_str (pv 0) pe_int (fun _ _ => rfl)) pe_str rfl)
      (pe_one (pe_allG (own := [("sign", 1)]) (g := gName 1) (k := 1) hr rfl B.all rfl scCell.nd TB rfl (pi_str (pe_slice sl_str (pv 0) (po_some pe_int) po_none)) (blkOk_by (N := ["name", "sign"]) (sc := defScope sCell) (by decide +kernel)) (by decide +kernel) rfl (by decide +kernel)
        (fun _ _ _ _ _ _ _ _ => pg_name (i := 1) scCell.nd rfl (.inl rfl))
        (fun _ _ _ _ _ _ _ _ => pe_cmpR op_in_sign (pv 1) (pe_glob (v := .str "0123456789") rfl mD ⟨_, rfl⟩) rfl))))), ?_⟩
    obtain ⟨c0, r0, e0⟩ : ∃ c0 r0, z.cps.toList = c0 :: r0 := by
      cases q : z.cps.toList with
      | nil => exact absurd (show 0 < z.cps.toList.length by simpa [Str.length] using hz) (by rw [q]; simp)
      | cons c0 r0 => exact ⟨c0, r0, rfl⟩
    have hc0 : z.cps[(0 : Int).toNat]? = some c0 := by
      have : z.cps.toList[0]? = some c0 := by rw [e0]; rfl
      simpa using this
    have hzi : (0 : Int) < z.length := by exact_mod_cast hz
    refine ⟨_, rfl, z, 0, c0, rfl, rfl, Int.le_refl _, by decide, hzi, hc0, c0, _, rfl, rfl, _, rfl, ite2 (fun e => ?_) (fun e => ?_)⟩
    · refine ⟨_, rfl, 1, rfl, z, rfl, Nat.le_trans hz2 (by decide), _, rfl, tb Pt hT, fun H2 ht => ?_⟩
      have x2 : Ex T H H2 := Ex.tabbed hT ht
      refine gen_signs (T := T) _ digit (fun c1 H3 x3 Q' hq => ⟨rfl, _, rfl, c1, _, rfl, rfl, hq _ x3⟩) (fun H3 x3 => ?_)
      have e2 : genR false (cutS z (some 1) none).cps.toList digit = asCell z := by
        have e3 : (cutS z (some 1) none).cps.toList = r0 := by
          rw [cut_tail, e0]
          rfl
        rw [e3]
        unfold asCell
        rw [e0]
        show _ = (decide (c0 ∈ (Str.ofString "rt").cps.toList) && r0.all digit)
        rw [e]
        rfl
      show Q (.bl (genR false (cutS z (some 1) none).cps.toList digit)) H3
      rw [e2]
      exact k _ (x2.trans x3)
    · have e2 : asCell z = false := by
        unfold asCell
        rw [e0]
        show (decide (c0 ∈ (Str.ofString "rt").cps.toList) && r0.all digit) = false
        cases q : decide (c0 ∈ (Str.ofString "rt").cps.toList) with
        | true => exact absurd q e
        | false => rfl
      show Q (.bl false) H
      rw [← e2]
      exact k _ Ex.refl

def wordsV : List V := (["case", "drop", "entry", "free", "fun", "give", "hold", "in", "into", "kind", "number"] : List Str).map V.str
def firstIn (fs z : Str) : Bool := match z.cps.toList with
  | [] => false
  | c :: _ => decide (c ∈ fs.cps.toList)
/-- a name that begins with one of the signs -/
def isName (fs : Str) : PyData → Bool
  | .str z => (decide (1 ≤ z.length) && decide (z.length ≤ 10)) && (firstIn fs z && z.cps.toList.all nameSign) && (!inV (.str z) wordsV && !asCell z)
  | _ => false
def spName (K : PySem.W.Frag) (T : List Addr) : Sp := fun vs H Q _ => ∃ (v : V) (d : PyData) (fs : Str), vs = [v, .str fs] ∧ Rp K H v d ∧ TbOk T H ∧ ∀ H', Ex T H H' → Q (.bl (isName fs d)) H'
theorem scName : FnScope ["thing", "first_signs", "sign"] ["thing", "first_signs"] (defScope sName) := ⟨rfl, rfl, rfl, by decide +kernel, rfl, by decide +kernel, by decide +kernel⟩
theorem ok_name {f c Pt g pW : Addr} {fd gd : FuncData} {t : Tok} (F : FunC K "is_name" "is_name" sName f fd c) (B : BI mg) (TB : TabB base mg c Pt) (hT : Pt ∈ T) (mS : mg "NAME_SIGNS" = some (.str "abcdefghijklmnopqrstuvwxyzABCDEFGHIJKLMNOPQRSTUVWXYZ0123456789" t))
    (mW : mg "WORDS" = some (.ref pW)) (hW : ∀ H, SqT K H pW wordsV)
    (G : FnOk P w K mg base CX0 3 g gd ["name"] (spCellN T)) (mG : mg "reads_as_cell" = some (.ref g)) (kG : PySem.W.keepIn K (.ref g) = true) (bG : Binds K gd ["name"] []) :
    FnOk P w K mg base CX0 4 f fd ["thing", "first_signs"] (spName K T) := by
  refine F.ok scName (fun vs H Q E h => ?_) (fun A outer s H vs Q E hr h => ?_)
  · obtain ⟨v, d, fs, rfl, _⟩ := h
    rfl
  · obtain ⟨v, d, fs, rfl, r, tb, k⟩ := h
    refine ⟨_, pss_cons (ps_if (PW.pt (pw_or (pt_cmpR op_notTyB (pe_callTy call_type1 (by rfl) B.type (by decide +kernel) (pa_cons (pv 0) pa_nil)) (pe_bltn (v := .ty "str") (by rfl) B.str (by decide +kernel) rfl) (nomark _))
        (pw_or1 (pt_not (pt_chain op_le op_le pe_int (pe_callB call_len_str (by rfl) B.len PySem.boot_len (pa_cons (pv 0) pa_nil)) pe_int))))) (pss_one (ps_ret pe_bl)) pss_nil)
      (pss_cons (ps_if (PW.pt (pw_or (pt_cmpR op_notIn_sign (pe_item_str (pv 0) pe_int (fun _ _ => rfl)) (pv 1) rfl)
        (pw_or1 (pt_val (pe_anyG (own := [("sign", 2)]) (g := gName 2) (k := 2) hr rfl B.any rfl scName.nd TB rfl (pi_str (pv 0)) (blkOk_by (N := ["thing", "first_signs", "sign"]) (sc := defScope sName) (by decide +kernel)) (by decide +kernel) rfl (by decide +kernel)
          (fun _ _ _ _ _ _ _ _ => pg_name (i := 2) scName.nd rfl (.inl rfl))
          (fun _ _ _ _ _ _ _ _ => pe_cmpR op_notIn_sign (pv 2) (pe_glob (v := .str "abcdefghijklmnopqrstuvwxyzABCDEFGHIJKLMNOPQRSTUVWXYZ0123456789") rfl mS ⟨_, rfl⟩) rfl)))))) (pss_one (ps_ret pe_bl)) pss_nil)
      (pss_one (ps_ret (pe_and (pe_cmpR op_notIn_seq (pv 0) (pe_glob (v := .ref pW) rfl mW rfl) rfl) (pe_one (pe_not (pe_call G hr rfl mG kG bG .nil pass0 (pa_cons (pv 0) pa_nil)))))))), ?_⟩
    refine ⟨v, rfl, v, tyN d, rfl, r.ty, _, _, rfl, rfl, _, rfl, ite2 (fun e => ?_) (fun e => ?_)⟩
    · refine iteT ?_
      have e2 : isName fs d = false := by
        cases d <;> first | rfl | exact absurd e (by simp [tyN])
      show Q (.bl false) H
      rw [← e2]
      exact k _ Ex.refl
    · cases r with
      | str z hz =>
        have hzl : z.length ≤ sizeLine := Nat.le_trans hz (by decide)
        have cut : ∀ b : Bool, (decide (1 ≤ z.length) && decide (z.length ≤ 10)) = b → isName fs (.str z) = (b && (firstIn fs z && z.cps.toList.all nameSign) && (!inV (.str z) wordsV && !asCell z)) := fun b hb => by
          show ((decide (1 ≤ z.length) && decide (z.length ≤ 10)) && (firstIn fs z && z.cps.toList.all nameSign) && (!inV (.str z) wordsV && !asCell z)) = _
          rw [hb]
        have no : (decide (1 ≤ z.length) && decide (z.length ≤ 10)) = false → Q (.bl false) H := fun hb => by
          have := k H Ex.refl
          rw [cut _ hb] at this
          exact this
        refine ⟨_, rfl, z, rfl, hzl, _, _, rfl, rfl, _, rfl, ite2 (fun e1 => ?_) (fun e1 => ?_)⟩
        · refine ⟨_, _, rfl, rfl, _, rfl, ?_⟩
          have g1 : 1 ≤ z.length := by have := of_decide_eq_true e1; omega
          show if (!decide ((z.length : Int) ≤ 10)) = true then _ else _
          cases e2 : decide ((z.length : Int) ≤ 10) with
          | false =>
            refine iteT ?_
            refine no ?_
            have : ¬ z.length ≤ 10 := fun q => by
              have h2 : (z.length : Int) ≤ 10 := by omega
              rw [decide_eq_true h2] at e2; cases e2
            rw [decide_eq_false this, Bool.and_false]
          | true =>
            refine iteF ?_
            have g2 : z.length ≤ 10 := by have := of_decide_eq_true e2; omega
            have g0 : (decide (1 ≤ z.length) && decide (z.length ≤ 10)) = true := by rw [decide_eq_true g1, decide_eq_true g2]; rfl
            obtain ⟨c0, r0, e0⟩ : ∃ c0 r0, z.cps.toList = c0 :: r0 := by
              cases q : z.cps.toList with
              | nil => exact absurd (show 1 ≤ z.cps.toList.length by simpa [Str.length] using g1) (by rw [q]; simp)
              | cons c0 r0 => exact ⟨c0, r0, rfl⟩
            have hc0 : z.cps[(0 : Int).toNat]? = some c0 := by
              have : z.cps.toList[0]? = some c0 := by rw [e0]; rfl
              simpa using this
            have hzi : (0 : Int) < z.length := by exact_mod_cast g1
            have hf : firstIn fs z = decide (c0 ∈ fs.cps.toList) := by unfold firstIn; rw [e0]
            refine ⟨_, rfl, z, 0, c0, rfl, rfl, Int.le_refl _, by decide, hzi, hc0, _, rfl, c0, fs, rfl, rfl, _, rfl, ?_⟩
            cases e3 : decide (c0 ∈ fs.cps.toList) with
            | false =>
              refine iteT (iteT ?_)
              have := k H Ex.refl
              rw [cut _ g0, hf, e3] at this
              exact this
            | true =>
              refine iteF ⟨_, rfl, z, rfl, tb Pt hT, fun H2 ht => ?_⟩
              have x2 : Ex T H H2 := Ex.tabbed hT ht
              refine gen_signs (T := T) z (fun c => !nameSign c) (fun c1 H3 x3 Q' hq => ⟨rfl, _, rfl, c1, _, rfl, rfl, hq _ x3⟩) (fun H3 x3 => ⟨_, rfl, ?_⟩)
              have ea : genR true z.cps.toList (fun c => !nameSign c) = !(z.cps.toList.all nameSign) := by
                show z.cps.toList.any (fun c => !nameSign c) = _
                rw [List.not_all_eq_any_not]
              rw [ea]
              cases e4 : z.cps.toList.all nameSign with
              | false =>
                refine iteT ?_
                have := k H3 (x2.trans x3)
                rw [cut _ g0, hf, e3, e4] at this
                exact this
              | true =>
                refine iteF ?_
                have hk : isName fs (.str z) = (!inV (.str z) wordsV && !asCell z) := by
                  rw [cut _ g0, hf, e3, e4]
                  simp
                refine ⟨_, rfl, pW, wordsV, rfl, .inr (hW _), rfl, rfl, _, rfl, ?_⟩
                show if (!inV (V.str z) wordsV) = true then _ else _
                cases e5 : inV (V.str z) wordsV with
                | true =>
                  refine iteF ?_
                  have := k H3 (x2.trans x3)
                  rw [hk, e5] at this
                  exact this
                | false =>
                  refine iteT ⟨_, rfl, z, rfl, g1, by omega, (x2.trans x3).tb tb, fun H4 x4 => ⟨_, rfl, ?_⟩⟩
                  have := k H4 ((x2.trans x3).trans x4)
                  rw [hk, e5] at this
                  exact this
        · refine ⟨_, rfl, iteT (no ?_)⟩
          have : ¬ 1 ≤ z.length := fun q => e1 (decide_eq_true (by omega))
          rw [decide_eq_false this, Bool.false_and]
      | non => exact absurd (by simp [tyN]) e
      | bl b => exact absurd (by simp [tyN]) e
      | int x => exact absurd (by simp [tyN]) e
      | lst h q => exact absurd (by simp [tyN]) e
      | tup h q => exact absurd (by simp [tyN]) e
      | dic h => exact absurd (by simp [tyN]) e

abbrev lowSigns : Str := "abcdefghijklmnopqrstuvwxyz"
abbrev highSigns : Str := "ABCDEFGHIJKLMNOPQRSTUVWXYZ"

theorem scLow : FnScope ["thing"] ["thing"] (defScope sLow) := ⟨rfl, rfl, rfl, by decide +kernel, rfl, by decide +kernel, by decide +kernel⟩
theorem ok_low {f g : Addr} {fd gd : FuncData} {t : Tok} (F : Fun K "is_low_name" "is_low_name" sLow f fd) (G : FnOk P w K mg base CX0 4 g gd ["thing", "first_signs"] (spName K T)) (mG : mg "is_name" = some (.ref g)) (kG : PySem.W.keepIn K (.ref g) = true) (bG : Binds K gd ["thing", "first_signs"] [])
    (mS : mg "SMALL_LETTERS" = some (.str lowSigns t)) : FnOk P w K mg base CX0 5 f fd ["thing"] (spIs K T (isName lowSigns)) := by
  refine F.ok scLow (fun vs H Q E h => ?_) (fun cdv A outer s H vs Q E hr h => ?_)
  · obtain ⟨v, d, rfl, _⟩ := h
    rfl
  · obtain ⟨v, d, rfl, r, tb, k⟩ := h
    refine ⟨_, pss_one (ps_ret (pe_call G hr rfl mG kG bG .nil pass0 (pa_cons (pv 0) (pa_cons (pe_glob (v := .str lowSigns) rfl mS ⟨_, rfl⟩) pa_nil)))), ?_⟩
    exact ⟨v, rfl, v, d, _, rfl, r, tb, k⟩

theorem scHigh : FnScope ["thing"] ["thing"] (defScope sHigh) := ⟨rfl, rfl, rfl, by decide +kernel, rfl, by decide +kernel, by decide +kernel⟩
theorem ok_high {f g : Addr} {fd gd : FuncData} {t : Tok} (F : Fun K "is_high_name" "is_high_name" sHigh f fd) (G : FnOk P w K mg base CX0 4 g gd ["thing", "first_signs"] (spName K T)) (mG : mg "is_name" = some (.ref g)) (kG : PySem.W.keepIn K (.ref g) = true) (bG : Binds K gd ["thing", "first_signs"] [])
    (mS : mg "CAPITAL_LETTERS" = some (.str highSigns t)) : FnOk P w K mg base CX0 5 f fd ["thing"] (spIs K T (isName highSigns)) := by
  refine F.ok scHigh (fun vs H Q E h => ?_) (fun cdv A outer s H vs Q E hr h => ?_)
  · obtain ⟨v, d, rfl, _⟩ := h
    rfl
  · obtain ⟨v, d, rfl, r, tb, k⟩ := h
    refine ⟨_, pss_one (ps_ret (pe_call G hr rfl mG kG bG .nil pass0 (pa_cons (pv 0) (pa_cons (pe_glob (v := .str highSigns) rfl mS ⟨_, rfl⟩) pa_nil)))), ?_⟩
    exact ⟨v, rfl, v, d, _, rfl, r, tb, k⟩

def isHigh : PyData → Bool := isName highSigns
def isLow : PyData → Bool := isName lowSigns
/-- a field's word -/
def isField (d : PyData) : Bool := isHigh d || (match d with | .str z => decide (z = "number") | _ => false)
theorem scField : FnScope ["thing"] ["thing"] (defScope sField) := ⟨rfl, rfl, rfl, by decide +kernel, rfl, by decide +kernel, by decide +kernel⟩
theorem ok_field {f g : Addr} {fd gd : FuncData} (F : Fun K "is_field_word" "is_field_word" sField f fd) (B : BI mg) (G : FnOk P w K mg base CX0 5 g gd ["thing"] (spIs K T isHigh)) (mG : mg "is_high_name" = some (.ref g)) (kG : PySem.W.keepIn K (.ref g) = true) (bG : Binds K gd ["thing"] []) :
    FnOk P w K mg base CX0 6 f fd ["thing"] (spIs K T isField) := by
  refine F.ok scField (fun vs H Q E h => ?_) (fun cdv A outer s H vs Q E hr h => ?_)
  · obtain ⟨v, d, rfl, _⟩ := h
    rfl
  · obtain ⟨v, d, rfl, r, tb, k⟩ := h
    refine ⟨_, pss_one (ps_ret (pe_or (pe_call G hr rfl mG kG bG .nil pass0 (pa_cons (pv 0) pa_nil)) (pe_one (pe_and (pe_cmpR op_isTyB (pe_callTy call_type1 (by rfl) B.type (by decide +kernel) (pa_cons (pv 0) pa_nil)) (pe_bltn (v := .ty "str") (by rfl) B.str (by decide +kernel) rfl) (nomark _))
      (pe_one (pe_cmpR op_eq (pv 0) pe_str (nomark _))))))), ?_⟩
    refine ⟨v, rfl, v, d, rfl, r, tb, fun H1 x1 => ⟨_, rfl, ?_⟩⟩
    cases e : isHigh d with
    | true =>
      refine iteT ?_
      have := k H1 x1
      unfold isField at this
      rw [e] at this
      exact this
    | false =>
      refine iteF ⟨v, rfl, v, tyN d, rfl, (r.ex x1 tb).ty, _, _, rfl, rfl, _, rfl, ite2 (fun e1 => ?_) (fun e1 => ?_)⟩
      · cases r with
        | str z hz =>
          refine ⟨_, rfl, rfl, ?_⟩
          have := k H1 x1
          unfold isField at this
          rw [e] at this
          have e2 : decide (V.str z = V.str "number") = decide (z = "number") := by
            by_cases q : z = "number"
            · rw [decide_eq_true q, q]; exact decide_eq_true rfl
            · rw [decide_eq_false q]; exact decide_eq_false fun h => q (V.str.inj h)
          show Q (.bl (decide (V.str z = V.str "number"))) H1
          rw [e2]
          exact this
        | non => exact absurd (of_decide_eq_true e1) (by simp [tyN])
        | bl b => exact absurd (of_decide_eq_true e1) (by simp [tyN])
        | int x => exact absurd (of_decide_eq_true e1) (by simp [tyN])
        | lst h q => exact absurd (of_decide_eq_true e1) (by simp [tyN])
        | tup h q => exact absurd (of_decide_eq_true e1) (by simp [tyN])
        | dic h => exact absurd (of_decide_eq_true e1) (by simp [tyN])
      · have := k H1 x1
        have e2 : isField d = false := by
          unfold isField
          rw [e]
          cases d <;> first | rfl | exact absurd (decide_eq_true (by simp [tyN])) e1
        rw [e2] at this
        exact this
end
end JF
set_option Elab.async false
set_option linter.all false
set_option maxRecDepth 100000
set_option maxHeartbeats 4000000
namespace JF
open PySem PySem.Spec PyProof.Rows L2 GxR GA
abbrev sTupleOf : Stmt := topS 46
abbrev sPair : Stmt := topS 47
/-- a def that tells a truth of each datum of D -/
def spIsD (K : PySem.W.Frag) (T : List Addr) (D : PyData → Prop) (f : PyData → Bool) : Sp := fun vs H Q _ => ∃ (v : V) (d : PyData), vs = [v] ∧ Rp K H v d ∧ D d ∧ TbOk T H ∧ ∀ H', Ex T H H' → Q (.bl (f d)) H'
/-- the def at g may be called so -/
structure IsDef (P : Program) (w : World) (K : PySem.W.Frag) (mg : Str → Option Value) (base : Heap) (T : List Addr) (k : Nat) (g : Addr) (D : PyData → Prop) (f : PyData → Bool) : Prop where
  ex : ∃ (gd : FuncData) (p : Str), FnOk P w K mg base CX0 k g gd [p] (spIsD K T D f) ∧ PySem.W.keepIn K (.ref g) = true ∧ Binds K gd [p] []
theorem spIs_D {P : Program} {w : World} {K : PySem.W.Frag} {mg : Str → Option Value} {base : Heap} {T : List Addr} {k : Nat} {g : Addr} {gd : FuncData} {ps : List Str} {D : PyData → Prop} {f : PyData → Bool} (G : FnOk P w K mg base CX0 k g gd ps (spIs K T f)) : FnOk P w K mg base CX0 k g gd ps (spIsD K T D f) :=
  G.imp fun vs H Q E ⟨v, d, e, r, _, tb, q⟩ => ⟨v, d, e, r, tb, q⟩
theorem spD_is {P : Program} {w : World} {K : PySem.W.Frag} {mg : Str → Option Value} {base : Heap} {T : List Addr} {k : Nat} {g : Addr} {gd : FuncData} {ps : List Str} {f : PyData → Bool} (G : FnOk P w K mg base CX0 k g gd ps (spIsD K T (fun _ => True) f)) : FnOk P w K mg base CX0 k g gd ps (spIs K T f) :=
  G.imp fun vs H Q E ⟨v, d, e, r, tb, q⟩ => ⟨v, d, e, r, trivial, tb, q⟩
/-- a tuple of least to most entries all of which fit -/
def isTup (lo hi : Int) (f : PyData → Bool) : PyData → Bool
  | .tuple ds => (decide (lo ≤ (ds.length : Int)) && decide ((ds.length : Int) ≤ hi)) && ds.all f
  | _ => false
def inTup (D : PyData → Prop) : PyData → Prop
  | .tuple ds => ∀ d ∈ ds, D d
  | _ => True
def spTupleOf (P : Program) (w : World) (K : PySem.W.Frag) (mg : Str → Option Value) (base : Heap) (T : List Addr) (k : Nat) : Sp := fun vs H Q _ => ∃ (v : V) (d : PyData) (lo hi : Int) (g : Addr) (D : PyData → Prop) (f : PyData → Bool), vs = [v, .int lo, .int hi, .ref g] ∧ Rp K H v d ∧ inTup D d ∧
  IsDef P w K mg base T k g D f ∧ TbOk T H ∧ ∀ H', Ex T H H' → Q (.bl (isTup lo hi f d)) H'
section
variable {P : Program} {w : World} {K : PySem.W.Frag} {mg : Str → Option Value} {base : Heap} {T : List Addr}
theorem scTupleOf : FnScope ["thing", "least", "most", "fits", "part"] ["thing", "least", "most", "fits"] (defScope sTupleOf) := ⟨rfl, rfl, rfl, by decide +kernel, rfl, by decide +kernel, by decide +kernel⟩
theorem ok_tuple_of {f c Pt : Addr} {fd : FuncData} (k : Nat) (F : FunC K "is_tuple_of" "is_tuple_of" sTupleOf f fd c) (B : BI mg) (TB : TabB base mg c Pt) (hT : Pt ∈ T) :
    FnOk P w K mg base CX0 (k + 2) f fd ["thing", "least", "most", "fits"] (spTupleOf P w K mg base T k) := by
  refine F.ok scTupleOf (fun vs H Q E h => ?_) (fun A outer s H vs Q E hr h => ?_)
  · obtain ⟨v, d, lo, hi, g, D, f, rfl, _⟩ := h
    rfl
  · obtain ⟨v, d, lo, hi, g, D, ff, rfl, r, inD, ⟨gd, p, G, kG, bG⟩, tb, q⟩ := h
    refine ⟨_, pss_one (ps_ret (pe_and (pe_cmpR op_isTyB (pe_callTy call_type1 (by rfl) B.type (by decide +kernel) (pa_cons (pv 0) pa_nil)) (pe_bltn (v := .ty "tuple") (by rfl) B.tuple (by decide +kernel) rfl) (nomark _))
      (pe_and (pe_chain op_le op_le (pv 1) (pe_callB call_len_seq (by rfl) B.len PySem.boot_len (pa_cons (pv 0) pa_nil)) (pv 2))
      (pe_one (pe_allG (own := [("part", 4)]) (g := gName 4) (k := k) hr rfl B.all rfl scTupleOf.nd TB rfl (pi_tup (pv 0)) (blkOk_by (N := ["thing", "least", "most", "fits", "part"]) (sc := defScope sTupleOf) (by decide +kernel)) (by decide +kernel) rfl (by decide +kernel)
        (fun _ _ _ _ _ _ _ _ => pg_name (i := 4) scTupleOf.nd rfl (.inl rfl))
        (fun _ _ _ _ _ _ _ hr2 => pe_callL (i := 3) G hr2 rfl (.inr (.inr rfl)) kG bG .nil pass0 (pa_cons (pv 4) pa_nil))))))), ?_⟩
    refine ⟨v, rfl, v, tyN d, rfl, r.ty, _, _, rfl, rfl, _, rfl, ite2 (fun e => ?_) (fun e => ?_)⟩
    · cases r with
      | @tup a xs ds hs rs =>
        have hl := rs.len
        have cut : ∀ b : Bool, (decide (lo ≤ (ds.length : Int)) && decide ((ds.length : Int) ≤ hi)) = b → isTup lo hi ff (.tuple ds) = (b && ds.all ff) := fun b hb => by
          show ((decide (lo ≤ (ds.length : Int)) && decide ((ds.length : Int) ≤ hi)) && ds.all ff) = _
          rw [hb]
        refine ⟨_, rfl, _, rfl, a, xs, rfl, .inr hs, _, _, rfl, rfl, _, rfl, ite2 (fun e1 => ?_) (fun e1 => ?_)⟩
        · refine ⟨_, rfl, _, _, rfl, rfl, _, rfl, ?_⟩
          rw [hl] at e1
          have g1 := e1
          show if decide ((xs.length : Int) ≤ hi) = true then _ else _
          rw [hl]
          cases e2 : decide ((ds.length : Int) ≤ hi) with
          | false =>
            refine iteF ?_
            have := q H Ex.refl
            rw [cut false (by rw [e2, Bool.and_false])] at this
            exact this
          | true =>
            refine iteT ⟨_, rfl, a, rfl, ⟨_, hs⟩, tb Pt hT, fun H2 ht => ?_⟩
            have x2 : Ex T H H2 := Ex.tabbed hT ht
            refine gen_tup (T := T) (x2.tb tb) (x2.sqT tb hs) (rs.ex x2 tb) ff (fun v1 d1 H3 x3 hd1 r1 Q' hq => ⟨rfl, rfl, v1, rfl, v1, d1, rfl, r1, inD d1 hd1, x3.tb (x2.tb tb), fun H4 x4 => hq H4 (x3.trans x4)⟩) (fun H3 x3 => ?_)
            have := q H3 (x2.trans x3)
            rw [cut true (by rw [e2, g1]; rfl)] at this
            exact this
        · refine ⟨_, rfl, iteF ?_⟩
          rw [hl] at e1
          have := q H Ex.refl
          rw [cut false (by cases z : decide (lo ≤ (ds.length : Int)) <;> first | rfl | exact absurd z e1)] at this
          exact this
      | non => exact absurd (of_decide_eq_true e) (by simp [tyN])
      | bl b => exact absurd (of_decide_eq_true e) (by simp [tyN])
      | int x => exact absurd (of_decide_eq_true e) (by simp [tyN])
      | str x _ => exact absurd (of_decide_eq_true e) (by simp [tyN])
      | lst h q => exact absurd (of_decide_eq_true e) (by simp [tyN])
      | dic h => exact absurd (of_decide_eq_true e) (by simp [tyN])
    · have e2 : isTup lo hi ff d = false := by
        cases d <;> first | rfl | exact absurd (decide_eq_true (by simp [tyN])) e
      have := q H Ex.refl
      rw [e2] at this
      exact this
/-- a pair whose entries fit -/
def isPair (f g : PyData → Bool) : PyData → Bool
  | .tuple [a, b] => f a && g b
  | _ => false
def inPair (D E : PyData → Prop) : PyData → Prop
  | .tuple [a, b] => D a ∧ E b
  | _ => True
def spPair (P : Program) (w : World) (K : PySem.W.Frag) (mg : Str → Option Value) (base : Heap) (T : List Addr) (k : Nat) : Sp := fun vs H Q _ => ∃ (v : V) (d : PyData) (g1 g2 : Addr) (D1 D2 : PyData → Prop) (f1 f2 : PyData → Bool), vs = [v, .ref g1, .ref g2] ∧ Rp K H v d ∧ inPair D1 D2 d ∧
  IsDef P w K mg base T k g1 D1 f1 ∧ IsDef P w K mg base T k g2 D2 f2 ∧ TbOk T H ∧ ∀ H', Ex T H H' → Q (.bl (isPair f1 f2 d)) H'
theorem scPair : FnScope ["thing", "fits_first", "fits_second"] ["thing", "fits_first", "fits_second"] (defScope sPair) := ⟨rfl, rfl, rfl, by decide +kernel, rfl, by decide +kernel, by decide +kernel⟩
theorem ok_pair {f : Addr} {fd : FuncData} (k : Nat) (F : Fun K "is_pair" "is_pair" sPair f fd) (B : BI mg) : FnOk P w K mg base CX0 (k + 1) f fd ["thing", "fits_first", "fits_second"] (spPair P w K mg base T k) := by
  refine F.ok scPair (fun vs H Q E h => ?_) (fun cdv A outer s H vs Q E hr h => ?_)
  · obtain ⟨v, d, g1, g2, D1, D2, f1, f2, rfl, _⟩ := h
    rfl
  · obtain ⟨v, d, g1, g2, D1, D2, f1, f2, rfl, r, inD, ⟨gd1, p1, G1, kG1, bG1⟩, ⟨gd2, p2, G2, kG2, bG2⟩, tb, q⟩ := h
    refine ⟨_, pss_one (ps_ret (pe_and (pe_cmpR op_isTyB (pe_callTy call_type1 (by rfl) B.type (by decide +kernel) (pa_cons (pv 0) pa_nil)) (pe_bltn (v := .ty "tuple") (by rfl) B.tuple (by decide +kernel) rfl) (nomark _))
      (pe_and (pe_cmpR op_eq (pe_callB call_len_seq (by rfl) B.len PySem.boot_len (pa_cons (pv 0) pa_nil)) pe_int (nomark _))
      (pe_and (pe_callL (i := 1) G1 hr rfl (.inl rfl) kG1 bG1 .nil pass0 (pa_cons (pe_ix ix_tup (pv 0) pe_int (fun _ _ => rfl)) pa_nil))
      (pe_one (pe_callL (i := 2) G2 hr rfl (.inl rfl) kG2 bG2 .nil pass0 (pa_cons (pe_ix ix_tup (pv 0) pe_int (fun _ _ => rfl)) pa_nil))))))), ?_⟩
    refine ⟨v, rfl, v, tyN d, rfl, r.ty, _, _, rfl, rfl, _, rfl, ite2 (fun e => ?_) (fun e => ?_)⟩
    · cases r with
      | @tup a xs ds hs rs =>
        have hl := rs.len
        refine ⟨_, rfl, a, xs, rfl, .inr hs, rfl, _, rfl, ite2 (fun e1 => ?_) (fun e1 => ?_)⟩
        · have e2 : ds.length = 2 := by
            have := V.int.inj (of_decide_eq_true e1)
            omega
          obtain ⟨d1, d2, rfl⟩ : ∃ d1 d2, ds = [d1, d2] := by
            match ds, e2 with
            | [d1, d2], _ => exact ⟨d1, d2, rfl⟩
          cases rs with
          | cons r1 rs =>
          cases rs with
          | cons r2 rs =>
          cases rs
          refine ⟨rfl, _, rfl, a, _, _, _, rfl, rfl, hs, atI_nat (j := 0) rfl, _, d1, rfl, r1, inD.1, tb, fun H1 x1 => ⟨_, rfl, ?_⟩⟩
          cases e3 : f1 d1 with
          | false =>
            refine iteF ?_
            have := q H1 x1
            have e4 : isPair f1 f2 (.tuple [d1, d2]) = false := by show (f1 d1 && f2 d2) = false; rw [e3]; rfl
            rw [e4] at this
            exact this
          | true =>
            refine iteT ⟨rfl, _, rfl, a, _, _, _, rfl, rfl, x1.sqT tb hs, atI_nat (j := 1) rfl, _, d2, rfl, r2.ex x1 tb, inD.2, x1.tb tb, fun H2 x2 => ?_⟩
            have := q H2 (x1.trans x2)
            have e4 : isPair f1 f2 (.tuple [d1, d2]) = f2 d2 := by show (f1 d1 && f2 d2) = f2 d2; rw [e3]; rfl
            rw [e4] at this
            exact this
        · have e2 : isPair f1 f2 (.tuple ds) = false := by
            match ds, hl with
            | [], _ => rfl
            | [_], _ => rfl
            | [a1, b1], hl => exact absurd (decide_eq_true (by rw [hl]; rfl)) e1
            | _ :: _ :: _ :: _, _ => rfl
          have := q H Ex.refl
          rw [e2] at this
          exact this
      | non => exact absurd (of_decide_eq_true e) (by simp [tyN])
      | bl b => exact absurd (of_decide_eq_true e) (by simp [tyN])
      | int x => exact absurd (of_decide_eq_true e) (by simp [tyN])
      | str x _ => exact absurd (of_decide_eq_true e) (by simp [tyN])
      | lst h q => exact absurd (of_decide_eq_true e) (by simp [tyN])
      | dic h => exact absurd (of_decide_eq_true e) (by simp [tyN])
    · have e2 : isPair f1 f2 d = false := by
        cases d <;> first | rfl | exact absurd (decide_eq_true (by simp [tyN])) e
      have := q H Ex.refl
      rw [e2] at this
      exact this
end
end JF
set_option Elab.async false
set_option linter.all false
set_option maxRecDepth 100000
set_option maxHeartbeats 4000000
/-! list comprehensions of three clauses without tests -/
namespace L3
open PySem PySem.Spec PyProof.Rows L2
section
variable (elt t0 i0 t1 i1 t2 i2 : Expr) (scope : Scope) (pos : Pos)
abbrev lc3 : Expr := .ListComp elt [⟨t0, i0, [], 0⟩, ⟨t1, i1, [], 0⟩, ⟨t2, i2, [], 0⟩] scope pos
theorem turn0 (it acc : Value) (env : Env) : compTurn (lc3 elt t0 i0 t1 i1 t2 i2 scope pos) 0 it acc env = (do
      standAt i0.pos
      match ← pyNext it with
      | none => pure (.done .next)
      | some v =>
        letOwnedTupleGo t0 it v
        assign t0 env v
        let mut ok := true
        for c in ([] : List Expr) do
          if ok then ok ← isTrue c env (eval c env)
        if ok then
          let x ← eval i1 env
          standAt i1.pos
          let x ← foldedSetIterable i1 env x
          let _ ← runOwn (.compStart (lc3 elt t0 i0 t1 i1 t2 i2 scope pos) 1 (← holding [x] (pyIter x)) acc env) env
        again (.compLoop (lc3 elt t0 i0 t1 i1 t2 i2 scope pos) 0 it acc env)) := by rfl
theorem turn1 (it acc : Value) (env : Env) : compTurn (lc3 elt t0 i0 t1 i1 t2 i2 scope pos) 1 it acc env = (do
      standAt i1.pos
      match ← pyNext it with
      | none => pure (.done .next)
      | some v =>
        letOwnedTupleGo t1 it v
        assign t1 env v
        let mut ok := true
        for c in ([] : List Expr) do
          if ok then ok ← isTrue c env (eval c env)
        if ok then
          let x ← eval i2 env
          standAt i2.pos
          let x ← foldedSetIterable i2 env x
          let _ ← runOwn (.compStart (lc3 elt t0 i0 t1 i1 t2 i2 scope pos) 2 (← holding [x] (pyIter x)) acc env) env
        again (.compLoop (lc3 elt t0 i0 t1 i1 t2 i2 scope pos) 1 it acc env)) := by rfl
theorem turn2 (it acc : Value) (env : Env) : compTurn (lc3 elt t0 i0 t1 i1 t2 i2 scope pos) 2 it acc env = (do
      standAt i2.pos
      match ← pyNext it with
      | none => pure (.done .next)
      | some v =>
        letOwnedTupleGo t2 it v
        assign t2 env v
        let mut ok := true
        for c in ([] : List Expr) do
          if ok then ok ← isTrue c env (eval c env)
        if ok then
          (do let _ ← call (.builtin "list.append") [acc, ← eval elt env])
        again (.compLoop (lc3 elt t0 i0 t1 i1 t2 i2 scope pos) 2 it acc env)) := by rfl
end
/-- what is left of a turn behind its target's store -/
abbrev BodyT := (Shared → Prop) → Shared → Prop
def LoopRule (prog : Program) (w : World) (A : Around) (C : Expr) (idx : Nat) (t : Expr) (acc : Value) (env : Env) (BT : BodyT) : Prop :=
  ∀ (it : Value) (R : Result → Shared → Prop) (I : Nat → Shared → Prop),
    (∀ n s, I n s → wpAny (model prog w) A (pyNext it) (fun r s₁ => match r with
      | none => R (.ok .next) s₁
      | some v => wpAny (model prog w) A (letOwnedTupleGo t it v) (fun _ s₁' => wpAny (model prog w) A (assign t env v) (fun _ s₂ => BT (fun s5 => ∃ m, m < n ∧ I m s5) s₂) (fun _ _ => False) s₁') (fun _ _ => False) s₁) (fun _ _ => False) s) →
    ∀ n s, I n s → codeAny (model prog w) A (.compLoop C idx it acc env) R s
def btIn (prog : Program) (w : World) (A : Around) (elt : Expr) (acc : Value) (env : Env) : BodyT := fun Φ s =>
  wpAny (model prog w) A (eval elt env) (fun x s₄ => wpAny (model prog w) A (call (.builtin "list.append") [acc, x]) (fun _ s₅ => Φ s₅) (fun _ _ => False) s₄) (fun _ _ => False) s
def btOut (prog : Program) (w : World) (A : Around) (C : Expr) (idx : Nat) (i : Expr) (acc : Value) (env : Env) : BodyT := fun Φ s =>
  wpAny (model prog w) A (eval i env) (fun x s₄ => wpAny (model prog w) A (pyIter x) (fun it1 s₅ => codeAny (model prog w) A (.compStart C idx it1 acc env) (fun r s' => match r with
    | .ok _ => Φ s'
    | .error _ => False) s₅) (fun _ _ => False) s₄) (fun _ _ => False) s
section
variable {prog : Program} {w : World} {A : Around} {elt t0 i0 t1 i1 t2 i2 : Expr} {scope : Scope} {pos : Pos} {acc : Value} {env : Env}
theorem fls {α : Type} {t : Sem α} {Q : α → Shared → Prop} {M : Model} {E : Value → Shared → Prop} {s : Shared} (h : wpAny M A t Q (fun _ _ => False) s) : wpAny M A t Q E s := wpAny_mono h (fun _ _ q => q) fun _ _ z => False.elim z
theorem loop2 : LoopRule prog w A (lc3 elt t0 i0 t1 i1 t2 i2 scope pos) 2 t2 acc env (btIn prog w A elt acc env) := by
  intro it R I turn n s h
  refine codeAny_loop rfl I (fun n s hI => ?_) n h
  show wpAny _ A ((compTurn (lc3 elt t0 i0 t1 i1 t2 i2 scope pos) 2 it acc env).onRaise (fun x => do noteFrame x env; theTreesLotGoes x)) _ _ s
  refine wpAny_noted ?_
  rw [turn2]
  refine wpAny_bind (wpAny_standAt (wpAny_bind (thnF (turn n s hI) (fun r s₁ h₁ => ?_))))
  cases r with
  | none => exact wpAny_pure h₁
  | some v =>
    refine wpAny_bind (thnF h₁ (fun _ s₁' h₁' => ?_))
    refine wpAny_bind (thnF h₁' (fun _ s₂ h₂ => wpAny_bind (wpAny_tests_nil ?_)))
    simp only [if_true]
    exact wpAny_bind (wpAny_bind (thnF h₂ (fun x s₄ h₄ => wpAny_bind (thnF h₄ (fun _ s₅ h₅ => wpAny_pure (wpAny_pure ⟨rfl, h₅⟩))))))
theorem loop1 (hs : ∀ x, foldedSetIterable i2 env x = pure x) : LoopRule prog w A (lc3 elt t0 i0 t1 i1 t2 i2 scope pos) 1 t1 acc env (btOut prog w A (lc3 elt t0 i0 t1 i1 t2 i2 scope pos) 2 i2 acc env) := by
  intro it R I turn n s h
  refine codeAny_loop rfl I (fun n s hI => ?_) n h
  show wpAny _ A ((compTurn (lc3 elt t0 i0 t1 i1 t2 i2 scope pos) 1 it acc env).onRaise (fun x => do noteFrame x env; theTreesLotGoes x)) _ _ s
  refine wpAny_noted ?_
  rw [turn1]
  refine wpAny_bind (wpAny_standAt (wpAny_bind (thnF (turn n s hI) (fun r s₁ h₁ => ?_))))
  cases r with
  | none => exact wpAny_pure h₁
  | some v =>
    refine wpAny_bind (thnF h₁ (fun _ s₁' h₁' => ?_))
    refine wpAny_bind (thnF h₁' (fun _ s₂ h₂ => wpAny_bind (wpAny_tests_nil ?_)))
    simp only [if_true]
    refine wpAny_bind (thnF h₂ (fun x s₄ h₄ => ?_))
    refine wpAny_bind (wpAny_standAt (wpAny_bind (wpAny_of_eq (hs x) (wpAny_bind (wpAny_holding (thnF h₄ (fun it1 s₅ h₅ => ?_)))))))
    refine wpAny_bind (wpAny_runOwn ?_)
    rw [Around.mark_none]
    refine codeAny_mono h₅ fun r s' hr => ?_
    cases r with
    | ok f => first | exact wpAny_pure ⟨rfl, hr⟩ | exact wpAny_bind (wpAny_pure (wpAny_pure ⟨rfl, hr⟩))
    | error e => exact hr.elim
theorem loop0 (hs : ∀ x, foldedSetIterable i1 env x = pure x) : LoopRule prog w A (lc3 elt t0 i0 t1 i1 t2 i2 scope pos) 0 t0 acc env (btOut prog w A (lc3 elt t0 i0 t1 i1 t2 i2 scope pos) 1 i1 acc env) := by
  intro it R I turn n s h
  refine codeAny_loop rfl I (fun n s hI => ?_) n h
  show wpAny _ A ((compTurn (lc3 elt t0 i0 t1 i1 t2 i2 scope pos) 0 it acc env).onRaise (fun x => do noteFrame x env; theTreesLotGoes x)) _ _ s
  refine wpAny_noted ?_
  rw [turn0]
  refine wpAny_bind (wpAny_standAt (wpAny_bind (thnF (turn n s hI) (fun r s₁ h₁ => ?_))))
  cases r with
  | none => exact wpAny_pure h₁
  | some v =>
    refine wpAny_bind (thnF h₁ (fun _ s₁' h₁' => ?_))
    refine wpAny_bind (thnF h₁' (fun _ s₂ h₂ => wpAny_bind (wpAny_tests_nil ?_)))
    simp only [if_true]
    refine wpAny_bind (thnF h₂ (fun x s₄ h₄ => ?_))
    refine wpAny_bind (wpAny_standAt (wpAny_bind (wpAny_of_eq (hs x) (wpAny_bind (wpAny_holding (thnF h₄ (fun it1 s₅ h₅ => ?_)))))))
    refine wpAny_bind (wpAny_runOwn ?_)
    rw [Around.mark_none]
    refine codeAny_mono h₅ fun r s' hr => ?_
    cases r with
    | ok f => first | exact wpAny_pure ⟨rfl, hr⟩ | exact wpAny_bind (wpAny_pure (wpAny_pure ⟨rfl, hr⟩))
    | error e => exact hr.elim
/-- a later clause's start -/
theorem start1 {R : Result → Shared → Prop} {it : Value} {s : Shared} (h0 : codeAny (model prog w) A (.compLoop (lc3 elt t0 i0 t1 i1 t2 i2 scope pos) 1 it acc env) R s)
    (h : wpAny (model prog w) A (pyIter it) (fun it' s' => codeAny (model prog w) A (.compLoop (lc3 elt t0 i0 t1 i1 t2 i2 scope pos) 1 it' acc env) R s') (notedBy (model prog w) A env fun x s' => R (.error x) s') s) :
    codeAny (model prog w) A (.compStart (lc3 elt t0 i0 t1 i1 t2 i2 scope pos) 1 it acc env) R s := by
  refine codeAny_of_tree ?_
  show wpAny _ _ ((compStart (lc3 elt t0 i0 t1 i1 t2 i2 scope pos) 1 it acc env).onRaise (fun x => do noteFrame x env; standAt theWindowsPlace)) _ _ s
  refine wpAny_notedAt ?_
  unfold compStart
  show wpAny _ _ (ask >>= _) _ _ s
  refine wpAny_bind (wpAny_askSetting (wpAny_ite ?_))
  split
  · first
      | exact wpAny_bind (wpAny_pure (wpAny_pure (And.intro rfl h0)))
      | exact wpAny_pure (And.intro rfl h0)
  · refine wpAny_bind (wpAny_rule ?_)
    show wpAny _ _ (standAt i1.pos >>= _) _ _ s
    exact wpAny_bind (wpAny_standAt (wpAny_bind (wpAny_mono h (fun it' s' h' => wpAny_pure (And.intro rfl h')) fun _ _ x => x)))
theorem start2 {R : Result → Shared → Prop} {it : Value} {s : Shared} (h0 : codeAny (model prog w) A (.compLoop (lc3 elt t0 i0 t1 i1 t2 i2 scope pos) 2 it acc env) R s)
    (h : wpAny (model prog w) A (pyIter it) (fun it' s' => codeAny (model prog w) A (.compLoop (lc3 elt t0 i0 t1 i1 t2 i2 scope pos) 2 it' acc env) R s') (notedBy (model prog w) A env fun x s' => R (.error x) s') s) :
    codeAny (model prog w) A (.compStart (lc3 elt t0 i0 t1 i1 t2 i2 scope pos) 2 it acc env) R s := by
  refine codeAny_of_tree ?_
  show wpAny _ _ ((compStart (lc3 elt t0 i0 t1 i1 t2 i2 scope pos) 2 it acc env).onRaise (fun x => do noteFrame x env; standAt theWindowsPlace)) _ _ s
  refine wpAny_notedAt ?_
  unfold compStart
  show wpAny _ _ (ask >>= _) _ _ s
  refine wpAny_bind (wpAny_askSetting (wpAny_ite ?_))
  split
  · first
      | exact wpAny_bind (wpAny_pure (wpAny_pure (And.intro rfl h0)))
      | exact wpAny_pure (And.intro rfl h0)
  · refine wpAny_bind (wpAny_rule ?_)
    show wpAny _ _ (standAt i2.pos >>= _) _ _ s
    exact wpAny_bind (wpAny_standAt (wpAny_bind (wpAny_mono h (fun it' s' h' => wpAny_pure (And.intro rfl h')) fun _ _ x => x)))
end
theorem set_set_none (σ : L2.St) (i : Nat) : (σ.set i none).set i none = σ.set i none := by rw [List.set_set]
theorem wipe_set (σ : L2.St) (i : Nat) : ∀ vs : List Nat, wipe (σ.set i none) vs = (wipe σ vs).set i none
  | [] => rfl
  | v :: vs => by
    unfold wipe
    rw [wipe_set σ i vs]
    by_cases h : i = v
    · rw [h]
    · rw [List.set_comm _ _ h]
theorem wipe_wipe (σ : L2.St) : ∀ vs : List Nat, wipe (wipe σ vs) vs = wipe σ vs
  | [] => rfl
  | v :: vs => by
    show (wipe ((wipe σ vs).set v none) vs).set v none = (wipe σ vs).set v none
    rw [wipe_set, wipe_wipe σ vs, List.set_set]
/-- all slots but those of vs know what they knew -/
def Kept (vs : List Nat) (σ σ' : L2.St) : Prop := σ'.length = σ.length ∧ ∀ (j : Nat) (v : V), j ∉ vs → σ[j]? = some (some v) → σ'[j]? = some (some v)
abbrev TBd := L2.St → Hp → (Hp → Prop) → Prop
def BodyOk (X : Cx) (BT : BodyT) (tb : TBd) (vs : List Nat) : Prop := ∀ (pins : List (Addr × Obj)) (s : Shared) (σ : L2.St) (H : Hp) (Φ : Hp → Prop) (Ψ : Shared → Prop), L2.Inv X pins σ H s → tb σ H Φ → (∀ s' σ' H', L2.Inv X pins σ' H' s' → Kept vs σ σ' → Φ H' → Ψ s') → BT Ψ s
def tBdIn (D : Addr) (te : TE) : TBd := fun σ H Φ => te σ H fun y H7 => ∃ acc, H7 D = some (.lst acc) ∧ acc.length < sizeLine ∧ Φ (upd H7 D (.lst (acc ++ [y])))
def tTurns (J : It) (g : TG) (vs : List Nat) (tb : TBd) (σ : L2.St) (Φ : Hp → Prop) (W : Nat → Nat → Hp → Prop) : Prop := ∀ i m H, W i m H →
  (J.stop i H ∧ Φ H) ∨ (J.go i H ∧ ∃ Nx : Hp → Prop, (∀ H', Nx H' → ∃ m', m' < m ∧ W (i + 1) m' H') ∧ ∀ x H', J.yld i H x H' → g x (wipe σ vs) H' fun σ2 H2 => wipe σ2 vs = wipe σ vs ∧ tb σ2 H2 Nx)
def tBdOut (wi : TI) (g : TG) (vs : List Nat) (tb : TBd) : TBd := fun σ H Φ => wi σ H fun J H4 => ∃ W : Nat → Nat → Hp → Prop, (∃ m, W 0 m H4) ∧ tTurns J g vs tb σ Φ W
section
variable {X : Cx}
theorem body_in {elt : Expr} {D : Addr} {te : TE} (pe : PE X elt te) (hx : X.xe = fun _ _ => False) : BodyOk X (btIn X.prog X.w X.A elt (.ref D) X.env) (tBdIn D te) [] := by
  intro pins s σ H Φ Ψ I h hq
  have p := pe.run pins s σ H _ I h
  rw [hx] at p
  refine thnF p fun v s4 ⟨y, H7, I7, r7, acc, hD, hz, φ⟩ => ?_
  exact app_ok I7 hD hz r7 fun s5 I5 => hq s5 σ _ I5 ⟨rfl, fun _ _ _ e => e⟩ φ
theorem clause_loop {C : Expr} {idx : Nat} {t : Expr} {acc : Value} {BT : BodyT} {tb : TBd} {vs0 vs : List Nat} {J : It} {fp : List Addr} {it : Addr} {tn : Nat → Heap → Prop} {g : TG} {pins : List (Addr × Obj)} {σ : L2.St} {Φ : Hp → Prop} {W : Nat → Nat → Hp → Prop} {R : Result → Shared → Prop}
    (hc : X.calm = true) (hx : X.xe = fun _ _ => False) (HL : LoopRule X.prog X.w X.A C idx t acc X.env BT) (hB : BodyOk X BT tb vs0) (hv : ∀ i ∈ vs0, i ∈ vs) (T : Turn X.prog X.w X.K t J fp it tn) (pg : PG X t g)
    (stat : ∀ H' : Hp, (∀ b ∈ fp, H' b = none) → ∀ b ∈ fp, FpOk X pins H' b) (turn : tTurns J g vs tb σ Φ W)
    (hR : ∀ s' σ' H', L2.Inv X pins σ' H' s' → Kept vs σ σ' → Φ H' → R (.ok .next) s') :
    ∀ (m : Nat) (H : Hp) (s : Shared), W 0 m H → L2.Inv X pins σ H s → tn 0 s.heap → (∀ b ∈ fp, H b = none) → codeAny (model X.prog X.w) X.A (.compLoop C idx (.ref it) acc X.env) R s := by
  intro m0 H0 s0 w0 I0 st0 n0
  refine HL (.ref it) R (fun n s' => ∃ i H', L2.Inv X pins (wipe σ vs) H' s' ∧ tn i s'.heap ∧ (∀ b ∈ fp, H' b = none) ∧ W i n H') ?_ m0 s0 ⟨0, H0, I0.weak (wipe_length _ _) (fun j v e => (wipe_some e).1), st0, n0, w0⟩
  rintro n s5 ⟨i, H5, I5, st5, n5, w5⟩
  rcases turn i n H5 w5 with ⟨stop, φ⟩ | ⟨go, Nx, hNx, step⟩
  · refine thnF (T.done X rfl rfl rfl hc i pins s5 (wipe σ vs) H5 (fun _ _ => False) I5 (stat H5 n5) st5 stop) fun r s6 ⟨hr, I6⟩ => ?_
    subst hr
    exact hR s6 _ H5 I6 ⟨wipe_length _ _, fun j v hj e => by rw [wipe_out hj]; exact e⟩ φ
  · refine thnF (T.item X rfl rfl rfl hc i pins s5 (wipe σ vs) H5 (fun _ _ => False) I5 (stat H5 n5) st5 go) fun r s6 ⟨u, hr, h6⟩ => ?_
    subst hr
    refine thnF h6 fun _ s7 ⟨x, H7, I7, r7, y7, st7, n7⟩ => ?_
    have I7' := I7.pinned (stat H7 n7) (T.obj _ _ st7)
    have pgr := pg.run _ s7 _ H7 x u _ I7' r7 (step x H7 y7)
    rw [hx] at pgr
    refine thnF pgr fun _ s8 ⟨σ8, H8, I8, hw8, q8⟩ => ?_
    refine hB _ s8 σ8 H8 Nx _ I8 q8 fun s' σ' H' I' kk nx => ?_
    obtain ⟨m', hm, w'⟩ := hNx H' nx
    have pin' : ∀ b ∈ fp, ∀ o, s7.heap.get? b = some o → s'.heap.get? b = some o ∧ H' b = none := fun b hb o e =>
      let z := I'.pin (b, o) (List.mem_append_right _ (List.mem_append_right _ (mem_pinsAt hb e)))
      ⟨z.1, z.2.1⟩
    refine ⟨m', hm, i + 1, H', I'.unpinned.weak ?_ ?_, T.keep _ _ _ st7 fun b hb o e => (pin' b hb o e).1, fun b hb => ?_, w'⟩
    · have e1 : (wipe σ8 vs).length = (wipe σ vs).length := by rw [hw8]
      rw [wipe_length] at e1
      rw [← e1]; exact kk.1.symm
    · intro j v e
      rw [← hw8] at e
      obtain ⟨e1, e2⟩ := wipe_some e
      exact kk.2 j v (fun z => e2 (hv j z)) e1
    · obtain ⟨o, e, _⟩ := T.obj _ _ st7 b hb
      exact (pin' b hb o e).2
theorem body_out {C : Expr} {idx : Nat} {t i : Expr} {acc : Value} {BT : BodyT} {tb : TBd} {vs0 vs : List Nat} {g : TG} {wi : TI}
    (hc : X.calm = true) (hx : X.xe = fun _ _ => False) (HL : LoopRule X.prog X.w X.A C idx t acc X.env BT) (hB : BodyOk X BT tb vs0) (hv : ∀ i ∈ vs0, i ∈ vs) (pi : PI X t i wi) (pg : PG X t g)
    (hst : ∀ (R : Result → Shared → Prop) (it : Value) (s : Shared), codeAny (model X.prog X.w) X.A (.compLoop C idx it acc X.env) R s → wpAny (model X.prog X.w) X.A (pyIter it) (fun it' s' => codeAny (model X.prog X.w) X.A (.compLoop C idx it' acc X.env) R s') (notedBy (model X.prog X.w) X.A X.env fun x s' => R (.error x) s') s →
      codeAny (model X.prog X.w) X.A (.compStart C idx it acc X.env) R s) :
    BodyOk X (btOut X.prog X.w X.A C idx i acc X.env) (tBdOut wi g vs tb) vs := by
  intro pins s σ H Φ Ψ I h hq
  have p := pi.run pins s σ H _ I h
  rw [hx] at p
  refine thnF p fun xv s4 hx4 => thnF hx4 fun itv s5 h5 => ?_
  obtain ⟨it1, fp1, tn1, J1, H4, e1, I4, T1, st1, f1, W1, ⟨m1, w1⟩, turn1⟩ := h5
  subst e1
  have loop := clause_loop (R := fun r s' => match r with | .ok _ => Ψ s' | .error _ => False) hc hx HL hB hv T1 pg (fun H' hn b hb => ⟨hn b hb, (f1 b hb).2⟩) turn1 (fun s' σ' H' I' k φ => hq s' σ' H' I' k φ) m1 H4 s5 w1 I4 st1 fun b hb => (f1 b hb).1
  exact hst _ _ _ loop (T1.self X.A 0 _ _ _ st1 loop)
end
section
variable {X : Cx} {elt t0 i0 t1 i1 t2 i2 : Expr} {scope : Scope} {own : List (Str × Nat)} {vs1 vs2 : List Nat} {pos pos' : Pos} {w0 w1 w2 : TI} {g0 g1 g2 : TG} {te : TE}
/-- [elt for t0 in i0 for t1 in i1 for t2 in i2] -/
def tLc3 (w0 : TI) (g0 : TG) (w1 : TI) (g1 : TG) (w2 : TI) (g2 : TG) (te : TE) (vs vs1 vs2 : List Nat) : TE := fun σ H Q => w0 σ H fun J H1 => ∀ D, H1 D = none → ∃ W : Nat → Nat → Hp → Prop, (∃ m, W 0 m (upd H1 D (.lst []))) ∧
  tTurns J g0 vs (tBdOut w1 g1 vs1 (tBdOut w2 g2 vs2 (tBdIn D te))) σ (fun H' => Q (.ref D) H') W
theorem lc3_core {pins : List (Addr × Obj)} {s : Shared} {σ : L2.St} {H : Hp} {Q : VK} {use : Option (Value → Sem Unit)} {Qf : Value → Shared → Prop}
    (hc : X.calm = true) (hN : X.N.Nodup) (I : L2.Inv X pins σ H s) (hi : PI X t0 i0 w0) (ok : BlkOk X.N X.env.scope scope own) (hv1 : ∀ i ∈ vs1, i ∈ own.map (·.2)) (hv2 : ∀ i ∈ vs2, i ∈ vs1)
    (hg : ∀ (s : Shared) (H : Hp) (C : Addr) (cl : List (Str × Addr)) (fp : List Addr), PG (X.blk s H scope (compEnvC scope cl C X.env) fp) t0 g0)
    (hi1 : ∀ (s : Shared) (H : Hp) (C : Addr) (cl : List (Str × Addr)) (fp : List Addr), PI (X.blk s H scope (compEnvC scope cl C X.env) fp) t1 i1 w1)
    (hg1 : ∀ (s : Shared) (H : Hp) (C : Addr) (cl : List (Str × Addr)) (fp : List Addr), PG (X.blk s H scope (compEnvC scope cl C X.env) fp) t1 g1)
    (hi2 : ∀ (s : Shared) (H : Hp) (C : Addr) (cl : List (Str × Addr)) (fp : List Addr), PI (X.blk s H scope (compEnvC scope cl C X.env) fp) t2 i2 w2)
    (hg2 : ∀ (s : Shared) (H : Hp) (C : Addr) (cl : List (Str × Addr)) (fp : List Addr), PG (X.blk s H scope (compEnvC scope cl C X.env) fp) t2 g2)
    (he : ∀ (s : Shared) (H : Hp) (C : Addr) (cl : List (Str × Addr)) (fp : List Addr), PE (X.blk s H scope (compEnvC scope cl C X.env) fp) elt te) (hs : ∀ x, foldedSetIterable i0 X.env x = pure x)
    (hs1 : ∀ env x, foldedSetIterable i1 env x = pure x) (hs2 : ∀ env x, foldedSetIterable i2 env x = pure x)
    (h : tLc3 w0 g0 w1 g1 w2 g2 te (own.map (·.2)) vs1 vs2 σ H Q)
    (hRR : ∀ D C s' m H', L2.Inv X pins σ H' s' → Q (.ref D) H' → s'.heap.Ns C m → FpOk X pins H' C → compPost (model X.prog X.w) X.A X.xe use Qf (.ref D) C (.ok .next) s') :
    wpAny (model X.prog X.w) X.A (comprehension (lc3 elt t0 i0 t1 i1 t2 i2 scope pos) scope X.env pos' (newList []) false (eval i0 X.env) use) Qf X.xe s := by
  have hfree : ∀ y ∈ scope.names, y.2 = .free → ∃ c, X.env.cells.lookup y.1 = some c := fun y hy e => by
    rcases ok.free y hy e with k | k
    · exact I.ok.has _ (.inl k)
    · exact I.ok.has _ (.inr k)
  refine wpAny_comprehension_free (use := use) rfl hs (closure_ok hfree) ok.kind (fun y hy e => by rw [ok.uniq y hy, e])
    (thn (hi.run pins s σ H _ I h) fun xv s1 hx => thn hx fun itv s2 h2 => ?_)
  obtain ⟨it, fp, tn, J, H2, e, I2, T, st2, f2, q⟩ := h2
  subst e
  refine wpAny_newObj_type (newEnv_comp ?_) (by show 0 ≤ sizeLine; decide)
  generalize hD : s2.heap.objs.size = D
  have hDn : H2 D = none := I2.hok.fresh (Nat.le_of_eq hD)
  obtain ⟨W, ⟨m0, w0⟩, turn⟩ := q D hDn
  generalize hs3 : ({ s2 with heap := s2.heap.push { cls := .type "list", data := .seq ([] : List Value).toArray } } : Shared) = s3
  have I3 : L2.Inv X pins σ (upd H2 D (.lst [])) s3 := by
    rw [← hs3]
    refine I2.laid (t' := s2.toks) (fun b o e => Heap.get?_push_of_some _ e) (Nat.le_of_eq hD) ⟨Nat.zero_le _, [], 0, .nil, ?_⟩
    rw [← hD]
    exact Heap.get?_push_size _ rfl
  have h3 : s3.heap = s2.heap.push { cls := .type "list", data := .seq ([] : List Value).toArray } := by rw [← hs3]
  have sz : ∀ b ∈ fp, b < s2.heap.objs.size := fun b hb => by
    obtain ⟨o, e, _⟩ := T.obj _ _ st2 b hb
    exact Heap.lt_size e
  have f3 : ∀ b ∈ fp, FpOk X pins (upd H2 D (.lst [])) b ∧ b < s3.heap.objs.size := fun b hb => by
    have hlt := sz b hb
    refine ⟨⟨?_, (f2 b hb).2⟩, by rw [h3, Heap.size_push]; exact Nat.lt_succ_of_lt hlt⟩
    rw [upd_ne (by rw [← hD]; exact Nat.ne_of_lt hlt)]
    exact (f2 b hb).1
  have st3 : tn 0 s3.heap := T.keep _ _ _ st2 fun b _ o e => by rw [h3]; exact Heap.get?_push_of_some _ e
  have I4 := block_start I3 ok hN f3
  have pg := hg s3 (upd H2 D (.lst [])) s3.heap.objs.size (cellsFrom (s3.heap.objs.size + 1) scope.names (cloFrom X.env.cells scope.names [])) fp
  have pe := he s3 (upd H2 D (.lst [])) s3.heap.objs.size (cellsFrom (s3.heap.objs.size + 1) scope.names (cloFrom X.env.cells scope.names [])) fp
  have pi1 := hi1 s3 (upd H2 D (.lst [])) s3.heap.objs.size (cellsFrom (s3.heap.objs.size + 1) scope.names (cloFrom X.env.cells scope.names [])) fp
  have pg1 := hg1 s3 (upd H2 D (.lst [])) s3.heap.objs.size (cellsFrom (s3.heap.objs.size + 1) scope.names (cloFrom X.env.cells scope.names [])) fp
  have pi2 := hi2 s3 (upd H2 D (.lst [])) s3.heap.objs.size (cellsFrom (s3.heap.objs.size + 1) scope.names (cloFrom X.env.cells scope.names [])) fp
  have pg2 := hg2 s3 (upd H2 D (.lst [])) s3.heap.objs.size (cellsFrom (s3.heap.objs.size + 1) scope.names (cloFrom X.env.cells scope.names [])) fp
  show codeAny _ _ (.compStart (lc3 elt t0 i0 t1 i1 t2 i2 scope pos) 0 (.ref it) (.ref D) (compEnvC scope (cellsFrom (s3.heap.objs.size + 1) scope.names (cloFrom X.env.cells scope.names [])) s3.heap.objs.size X.env)) (compPost (model X.prog X.w) X.A X.xe use Qf (.ref D) s3.heap.objs.size) { s3 with heap := pushCells (s3.heap.push { cls := .type "dict", data := .dict #[] }) scope.names }
  have nfp : ∀ b ∈ fp, (upd H2 D (.lst [])) b = none := fun b hb => (f3 b hb).1.1
  generalize hce : compEnvC scope (cellsFrom (s3.heap.objs.size + 1) scope.names (cloFrom X.env.cells scope.names [])) s3.heap.objs.size X.env = ce at I4 pg pe pi1 pg1 pi2 pg2 ⊢
  have cL : ce.locals = s3.heap.objs.size := by subst hce; rfl
  generalize hH3 : upd H2 D (.lst []) = H3 at I3 I4 pg pe pi1 pg1 pi2 pg2 w0 nfp f3
  generalize hs4 : ({ s3 with heap := pushCells (s3.heap.push { cls := .type "dict", data := .dict #[] }) scope.names } : Shared) = s4 at I4 ⊢
  have st4 : tn 0 s4.heap := T.keep _ _ _ st3 fun b _ o e => by rw [← hs4]; exact pushCells_keeps _ _ _ _ (Heap.get?_push_of_some _ e)
  have stat : ∀ H' : Hp, (∀ b ∈ fp, H' b = none) → ∀ b ∈ fp, FpOk (X.blk s3 H3 scope ce fp) [] H' b := fun H' hn b hb =>
    ⟨hn b hb, (I4.ok.exf b hb).1, I4.ok.exfs b hb, .inl hb, fun x c e => (I4.ok.exf b hb).2 x c e, fun p hp => absurd (show p ∈ ([] : List (Addr × Obj)) ++ [] from hp) (by simp)⟩
  have b2 := body_in (D := D) pe rfl
  have b1 := body_out (X := X.blk s3 H3 scope ce fp) (acc := .ref D) (vs := vs2) hc rfl (loop2 (elt := elt) (t0 := t0) (i0 := i0) (t1 := t1) (i1 := i1) (t2 := t2) (i2 := i2) (scope := scope) (pos := pos)) b2 (fun i z => by simp at z) pi2 pg2 (fun R it s h1 h2 => start2 h1 h2)
  have b0 := body_out (X := X.blk s3 H3 scope ce fp) (acc := .ref D) (vs := vs1) hc rfl (loop1 (elt := elt) (t0 := t0) (i0 := i0) (t1 := t1) (i1 := i1) (t2 := t2) (i2 := i2) (scope := scope) (pos := pos) (hs2 ce)) b1 hv2 pi1 pg1 (fun R it s h1 h2 => start1 h1 h2)
  have w0' : W 0 m0 H3 := w0
  have loop := clause_loop (X := X.blk s3 H3 scope ce fp) (R := compPost (model X.prog X.w) X.A X.xe use Qf (.ref D) s3.heap.objs.size) (pins := []) (σ := wipe σ (own.map (·.2))) hc rfl (loop0 (elt := elt) (t0 := t0) (i0 := i0) (t1 := t1) (i1 := i1) (t2 := t2) (i2 := i2) (scope := scope) (pos := pos) (acc := .ref D) (hs1 ce)) b0 hv1 T pg stat
    (Φ := fun H' => Q (.ref D) H') (W := W) (fun i m H hW => by
      have := turn i m H hW
      rcases this with z | ⟨z1, Nx, z2, z3⟩
      · exact .inl z
      · refine .inr ⟨z1, Nx, z2, fun x H' hy => ?_⟩
        have e2 : wipe (wipe σ (own.map (·.2))) (own.map (·.2)) = wipe σ (own.map (·.2)) := wipe_wipe _ _
        rw [e2]
        exact z3 x H' hy) (fun s6 σ' H5 I6 _ qq => ?_) m0 H3 s4 w0' I4 st4 nfp
  · exact codeAny_compStart_list loop (T.self X.A 0 _ _ _ st4 loop)
  · have I7 : L2.Inv X pins σ H5 s6 := I3.call' (ch := fp) I6.os I6.base I6.hok I6.bare fun b hb => ⟨(f3 b hb).1.2.2.2.1, (f3 b hb).1.2.1, (f3 b hb).1.2.2.2.2.1, (f3 b hb).1.2.2.2.2.2⟩
    have nC : H5 s3.heap.objs.size = none := by
      have z : H5 ce.locals = none := I6.free
      rw [cL] at z
      exact z
    obtain ⟨m, hn, _⟩ := I6.loc
    have hn : s6.heap.Ns ce.locals m := hn
    rw [cL] at hn
    exact hRR D s3.heap.objs.size s6 m H5 I7 qq hn (I3.fpOk (Nat.le_refl _) nC)

/-- name = [..] on one line, the name a local -/
theorem ps_setLc3 {i : Nat} {y : Str} {py spos : Pos} (hc : X.calm = true) (hN : X.N.Nodup) (hy : X.N[i]? = some y) (hyl : X.env.scope.names.lookup y = some .local)
    (hsw : swapsWith (lc3 elt t0 i0 t1 i1 t2 i2 scope pos) (some (.Name y py)) spos.line X.env = pure true) (hi : PI X t0 i0 w0) (ok : BlkOk X.N X.env.scope scope own) (hv1 : ∀ i ∈ vs1, i ∈ own.map (·.2)) (hv2 : ∀ i ∈ vs2, i ∈ vs1)
    (hg : ∀ (s : Shared) (H : Hp) (C : Addr) (cl : List (Str × Addr)) (fp : List Addr), PG (X.blk s H scope (compEnvC scope cl C X.env) fp) t0 g0)
    (hi1 : ∀ (s : Shared) (H : Hp) (C : Addr) (cl : List (Str × Addr)) (fp : List Addr), PI (X.blk s H scope (compEnvC scope cl C X.env) fp) t1 i1 w1)
    (hg1 : ∀ (s : Shared) (H : Hp) (C : Addr) (cl : List (Str × Addr)) (fp : List Addr), PG (X.blk s H scope (compEnvC scope cl C X.env) fp) t1 g1)
    (hi2 : ∀ (s : Shared) (H : Hp) (C : Addr) (cl : List (Str × Addr)) (fp : List Addr), PI (X.blk s H scope (compEnvC scope cl C X.env) fp) t2 i2 w2)
    (hg2 : ∀ (s : Shared) (H : Hp) (C : Addr) (cl : List (Str × Addr)) (fp : List Addr), PG (X.blk s H scope (compEnvC scope cl C X.env) fp) t2 g2)
    (he : ∀ (s : Shared) (H : Hp) (C : Addr) (cl : List (Str × Addr)) (fp : List Addr), PE (X.blk s H scope (compEnvC scope cl C X.env) fp) elt te) (hs : ∀ x, foldedSetIterable i0 X.env x = pure x := by intro _; rfl)
    (hs1 : ∀ env x, foldedSetIterable i1 env x = pure x := by intro _ _; rfl) (hs2 : ∀ env x, foldedSetIterable i2 env x = pure x := by intro _ _; rfl) :
    PS X (.Assign [.Name y py] (lc3 elt t0 i0 t1 i1 t2 i2 scope pos) spos) (tAsg (tLc3 w0 g0 w1 g1 w2 g2 te (own.map (·.2)) vs1 vs2) (gName i)) := by
  refine ⟨fun pins s σ H D I h => ?_⟩
  rw [exec_Assign_Name_used _ _ _ _ hsw]
  refine wpAny_bind (wpAny_standAt (wpAny_bind ?_))
  show wpAny _ X.A (do let _ ← comprehension (lc3 elt t0 i0 t1 i1 t2 i2 scope pos) scope X.env (firstIterPos [⟨t0, i0, [], 0⟩, ⟨t1, i1, [], 0⟩, ⟨t2, i2, [], 0⟩] pos) (newList []) false (eval i0 X.env) (some (assign (.Name y py) X.env))) _ _ s
  have h : tLc3 w0 g0 w1 g1 w2 g2 te (own.map (·.2)) vs1 vs2 σ H (fun x H1 => gName i x σ H1 D.nx) := h
  refine wpAny_bind (thn (lc3_core (Qf := fun _ s' => SP X pins D .next s') hc hN I hi ok hv1 hv2 hg hi1 hg1 hi2 hg2 he hs hs1 hs2 h fun L C s' m H' I' q hn f => ?_) fun _ s' hq => wpAny_pure (wpAny_pure hq))
  show wpAny _ _ (assign (.Name y py) X.env (.ref L)) _ _ _
  refine wpAny_assign_Name (store_ok2 (v := V.ref L) I' hN hy (.inl hyl) rfl (fun s2 I2 ⟨a, sb, ha⟩ => ?_) (.inr hyl))
  obtain ⟨f0, f1, f2, f3, f4, f5⟩ := f
  have haC : C ≠ a := by
    rcases ha with z | z
    · rw [z]; exact f1
    · exact fun e => f4 y a z e.symm
  refine ⟨m, hn.sameBut sb haC, fun h3 sb3 => ?_⟩
  exact ⟨_, H', I2.turned (t' := s2.toks) (fun b o hb e => (sb3.2 b hb).trans e) f0 f1 f3 f4 f5, q⟩
end
end L3
set_option Elab.async false
set_option linter.all false
set_option maxRecDepth 100000
set_option maxHeartbeats 4000000
/-! len(set(xs)), xs a list of any texts -/
namespace SL
open PySem PySem.Spec PyProof.Rows L2
/-- the texts met so far, each once -/
def addTo (seen : List Str) (x : Str) : List Str := if seen.any (· == x) then seen else seen ++ [x]
def met : List Str → List Str → List Str
  | seen, [] => seen
  | seen, x :: r => met (addTo seen x) r
def uniq (xs : List Str) : List Str := met [] xs
def upTo (xs : List Str) (i : Nat) : List Str := met [] (xs.take i)
theorem met_snoc : ∀ (xs : List Str) (seen : List Str) (x : Str), met seen (xs ++ [x]) = addTo (met seen xs) x
  | [], _, _ => rfl
  | y :: r, seen, x => met_snoc r (addTo seen y) x
theorem upTo_succ {xs : List Str} {i : Nat} (h : i < xs.length) : upTo xs (i + 1) = addTo (upTo xs i) xs[i] := by
  unfold upTo
  rw [List.take_succ, List.getElem?_eq_getElem h]
  exact met_snoc _ _ _
theorem addTo_len (seen : List Str) (x : Str) : (addTo seen x).length = if seen.any (· == x) then seen.length else seen.length + 1 := by
  unfold addTo
  cases seen.any (· == x) <;> simp
theorem addTo_any (seen : List Str) (x k : Str) : (seen.any (· == k) || decide (k = x)) = (addTo seen x).any (· == k) := by
  unfold addTo
  cases q : seen.any (· == x) with
  | true =>
    rw [if_pos rfl]
    by_cases e : k = x
    · subst e
      rw [q, Bool.true_or]
    · rw [decide_eq_false e, Bool.or_false]
  | false =>
    rw [if_neg (by simp), List.any_append]
    have e1 : ([x].any fun y => y == k) = decide (k = x) := by
      by_cases e : k = x
      · rw [e]; simp
      · have : (x == k) = false := by simpa using fun h : x = k => e h.symm
        simp [this, e]
    rw [e1]
theorem upTo_le (xs : List Str) : ∀ i, (upTo xs i).length ≤ i
  | 0 => by simp [upTo, met]
  | i + 1 => by
    by_cases h : i < xs.length
    · rw [upTo_succ h, addTo_len]
      have := upTo_le xs i
      split <;> omega
    · have e : upTo xs (i + 1) = upTo xs i := by
        unfold upTo
        rw [List.take_of_length_le (by omega), List.take_of_length_le (by omega)]
      rw [e]
      have := upTo_le xs i
      omega
section
variable {prog : Program} {w : World} {A : Around} {E : Value → Shared → Prop}
/-- the set at D holds just the texts of seen -/
abbrev Holds (prog : Program) (w : World) (h : Heap) (D : Addr) (seen : List Str) : Prop := h.SetOf (PySem.strKind prog w) D (fun k => seen.any (· == k)) seen.length
theorem fill {I D : Addr} {fp wr : List Addr} {G : Array GenState → Array GenState → Prop} {Pz : Nat → Value → Prop} {Sz : Nat → Shared → Prop} {R : Result → Shared → Prop} {xs : List Str} (Wk : WalksS prog w A.in1 I fp wr G xs.length Pz Sz) (nD : D ∉ fp) (hsz : xs.length < 4000)
    (hv : ∀ i v, Pz i v → ∃ y t, xs[i]? = some y ∧ v = .str y t) (s0 : Shared) (hR : ∀ s', Moved (D :: wr) G s0 s' → Holds prog w s'.heap D (uniq xs) → R (.ok (.ret .none)) s') :
    ∀ (left i : Nat) (s : Shared), i + left = xs.length → Sz i s → Moved (D :: wr) G s0 s → Holds prog w s.heap D (upTo xs i) → codeAny (model prog w) A (.builtin "set.update.loop" ⟨[.ref D, .ref I], []⟩) R s := by
  have nW : D ∉ wr := fun q => nD (Wk.sub _ q)
  have up : ∀ b ∈ wr, b ∈ D :: wr := fun _ q => List.mem_cons_of_mem _ q
  have stay : ∀ {s s' : Shared} {seen : List Str}, Moved wr G s s' → Holds prog w s.heap D seen → Holds prog w s'.heap D seen := fun {s s' seen} mv ⟨o, es, ep, tb, ho, q⟩ => ⟨o, es, ep, tb, mv.heap D _ nW ho, q⟩
  intro left
  induction left with
  | zero =>
    intro i s hi st mv hH
    have ei : i = xs.length := by omega
    refine codeAny_builtin F.entry_set_update_loop ?_
    rw [Around.under_plainId F.plain_set_update_loop _]
    show wpAny _ A.in1 (pyNext (.ref I) >>= _) _ _ s
    rw [ei] at st
    refine wpAny_bind (Wk.done s _ _ st fun s' m2 => ?_)
    have hH2 := stay m2 hH
    have eu : upTo xs i = uniq xs := by
      unfold upTo uniq
      rw [ei, List.take_length]
    rw [eu] at hH2
    exact wpAny_pure (hR s' (mv.trans Wk.gtrans (m2.mono up)) hH2)
  | succ left ih =>
    intro i s hi st mv hH
    have lt : i < xs.length := by omega
    refine codeAny_builtin F.entry_set_update_loop ?_
    rw [Around.under_plainId F.plain_set_update_loop _]
    show wpAny _ A.in1 (pyNext (.ref I) >>= _) _ _ s
    refine wpAny_bind (Wk.item i s _ _ lt st fun v s' hP st2 m2 => ?_)
    obtain ⟨y, t, hy, rfl⟩ := hv i v hP
    have ey : xs[i] = y := by
      rw [List.getElem?_eq_getElem lt] at hy
      exact Option.some.inj hy
    have hH2 := stay m2 hH
    show wpAny _ A.in1 (holding [Value.str y t] (setAdd D (.str y t)) >>= _) _ _ s'
    refine wpAny_bind (wpAny_holding ?_)
    unfold setAdd
    refine wpAny_holding (wpAny_bind ((PySem.strKind prog w).pyHash (k := y) (strKind_is _ _ _ _) ?_))
    have room : (upTo xs i).length + 1 < scanBound := by
      have := upTo_le xs i
      unfold scanBound
      omega
    refine wpAny_setAddHashed_of (knd := PySem.strKind prog w) (s := { s' with toks := s'.toks + 1 }) (strKind_is _ _ _ _) rfl hH2 room fun h3 sb3 hH3 => ?_
    have hH4 : Holds prog w h3 D (upTo xs (i + 1)) := by
      refine SetOf_congr hH3 (fun k => ?_) ?_
      · rw [upTo_succ lt, ey]
        exact addTo_any _ _ _
      · rw [upTo_succ lt, ey, addTo_len]
    have keep : ∀ b o, b ≠ D → s'.heap.get? b = some o → h3.get? b = some o := fun b o nb e => (sb3.2 b nb).trans e
    refine wpAny_pure ⟨plainId_quiet F.plain_set_update_loop _, ih (i + 1) _ (by omega) (Wk.frame _ s' h3 _ st2 (Nat.le_succ _) fun b hb o e => keep b o (fun q => nD (q ▸ hb)) e) ?_ hH4⟩
    exact mv.trans Wk.gtrans ((m2.mono up).then_heap (Nat.le_succ _) fun b o nb e => keep b o (fun q => nb (q ▸ List.mem_cons_self)) e)

abbrev freshSet (b : Bool) : Obj := { cls := .type "set", dict := none, data := .set #[] 0 (.fresh 0 0 b) }
theorem strs_get : ∀ {us : List Value} {xs : List Str}, StrsAre us xs → ∀ (i : Nat) (v : Value), us[i]? = some v → ∃ y t, xs[i]? = some y ∧ v = .str y t
  | _, _, .nil, i, v, h => by simp at h
  | _, _, .cons y t r, 0, v, h => by
    have e : _ = v := Option.some.inj h
    exact ⟨y, t, rfl, e.symm⟩
  | _, _, .cons y t r, i + 1, v, h => strs_get r i v h
theorem set_of {l : Addr} {items : Array Value} {xs : List Str} {Q : Value → Shared → Prop} {s : Shared} (calm : A.handled = none) (hl : s.heap.IsList l items) (hx : StrsAre items.toList xs) (few : xs.length < 4000)
    (next : ∀ (h' : Heap) (tk : Nat), Holds prog w h' s.heap.objs.size (uniq xs) → (∀ b o, b < s.heap.objs.size → s.heap.get? b = some o → h'.get? b = some o) → Q (.ref s.heap.objs.size) { s with heap := h', toks := tk }) :
    wpAny (model prog w) A (call (.type "set") [.ref l]) Q E s := by
  generalize hD : s.heap.objs.size = D at next ⊢
  have nItems : items.size = xs.length := by
    have : ∀ {us : List Value} {ys : List Str}, StrsAre us ys → us.length = ys.length := fun r => by
      induction r with
      | nil => rfl
      | cons _ _ _ ih => rw [List.length_cons, List.length_cons, ih]
    have := this hx
    simpa using this
  obtain ⟨_, _, hmro⟩ := PySem.F.called_set.mro
  have hmade := PySem.F.called_set.made
  have hsub := PySem.F.called_set.sub
  have notT := PySem.F.called_set.notType
  have canC := PySem.F.called_set.canCreate
  have typC := PySem.F.typeCall_set_1 (.ref l)
  refine wpAny_call (codeAny_of_tree ?_)
  show wpAny _ _ (callAny (.type "set") _) _ _ _
  refine wpAny_pure ⟨Code.quiet_builtin _ (by decide +kernel), codeAny_builtin PySem.F.entry_type_call ?_⟩
  rw [Around.under_plain (weight_type_call_type "set" [.ref l] []) rfl]
  repeat (any_goals (first | assumption | wp_step))
  -- set.__new__
  refine codeAny_mono (code_set_new_1 (.ref l) (E := E) (Q₁ := fun v s1 => ∃ b : Bool, v = .ref D ∧ s1 = { s with heap := s.heap.push (freshSet b) }) fun b => ⟨b, by rw [hD], rfl⟩) fun r s1 hr => ?_
  rcases r with e | fl
  · exact hr
  · cases fl with
    | ret v =>
      obtain ⟨b, rfl, rfl⟩ := hr
      have atD : (s.heap.push (freshSet b)).get? D = some (freshSet b) := by rw [← hD]; exact Heap.get?_push_size _ rfl
      have tyD : Shared.TypeIs { s with heap := s.heap.push (freshSet b) } (.ref D) "set" := ⟨_, atD, rfl⟩
      have iniL := PySem.F.called_set.init.lookup
      have iniB := PySem.F.called_set.init.bind (.ref D)
      repeat (any_goals (first | assumption | wp_step))
      -- set.__init__
      refine codeAny_mono (codeAny_call_builtin (R := wants (fun v s2 => v = .none ∧ ∃ h' tk, s2 = { s with heap := h', toks := tk } ∧ Holds prog w h' D (uniq xs) ∧ ∀ c o, c < D → s.heap.get? c = some o → h'.get? c = some o) E)
        PySem.F.called_set.init.plain PySem.F.entry_set_init (check_set_init_1 tyD ?_)) fun r2 s2 hr2 => ?_
      · obtain ⟨⟨lc, ld, lda, lsl⟩, hol, hcl, nl, hdl⟩ := id hl
        simp only at hcl hdl
        subst hcl hdl
        have atL : (s.heap.push (freshSet b)).get? l = some { cls := .type "list", dict := ld, data := .seq items nl, slots := lsl } := Heap.get?_push_of_some _ hol
        have isL : (s.heap.push (freshSet b)).IsList l items := ⟨_, atL, rfl, nl, rfl⟩
        have f1 := PySem.F.sub_list_set
        have f2 := PySem.F.sub_list_frozenset
        have f3 : (Value.type "list" == Value.type "dict") = false := by decide
        unfold Builtin.«set.__init__» noKeywords Builtin.Frozenset.updateFrom
        generalize hPI : pyIter = PI
        wp_walk
        subst hPI
        refine wpAny_pyIter_list isL ?_
        refine wpAny_bind (wpAny_runValue ?_)
        have lD : l < D := by rw [← hD]; exact Heap.lt_size hol
        have szI : (s.heap.push (freshSet b)).objs.size = D + 1 := by rw [Heap.size_push, hD]
        have neI : l ≠ (s.heap.push (freshSet b)).objs.size := by rw [szI]; exact Nat.ne_of_lt (Nat.lt_succ_of_lt lD)
        have nD : D ∉ [(s.heap.push (freshSet b)).objs.size, l] := by
          rw [szI]
          intro q
          rcases List.mem_cons.mp q with q | q
          · exact Nat.ne_of_lt (Nat.lt_succ_self _) q
          · rcases List.mem_cons.mp q with q | q
            · exact Nat.ne_of_gt lD q
            · cases q
        have Wk := (Walks.list (prog := prog) (w := w) (A := A.in1.in1.in1) (by simp [calm]) (s.heap.push (freshSet b)).objs.size l neI items).toS
        rw [nItems] at Wk
        refine fill Wk nD few (fun i v q => strs_get hx i v (by rw [Array.getElem?_toList]; exact q)) _ (fun s3 mv hH => ?_) xs.length 0 _ (Nat.zero_add _) ⟨⟨_, Heap.get?_push_size _ rfl, rfl, rfl⟩, isL.push _⟩ (Moved.refl fun _ => rfl) ?_
        · obtain ⟨h3, g3, d3, k3, o3⟩ := s3
          have q1 : g3 = s.gens := mv.gens
          have q2 : d3 = s.drawn := mv.drawn
          have q3 : o3 = s.os := mv.os
          subst q1 q2 q3
          show wpAny _ _ _ _ _ _
          refine wpAny_pure ?_
          show wpAny _ _ (ret Value.none) _ _ _
          refine wpAny_pure ⟨rfl, h3, k3, rfl, hH, fun c o hc e => ?_⟩
          refine mv.heap c o (fun q => ?_) (Heap.get?_push_of_some _ (Heap.get?_push_of_some _ e))
          rcases List.mem_cons.mp q with q | q
          · exact Nat.ne_of_lt hc q
          · rcases List.mem_cons.mp q with q | q
            · rw [szI] at q
              exact Nat.ne_of_lt (Nat.lt_succ_of_lt hc) q
            · cases q
        · have at2 : ((s.heap.push (freshSet b)).push { cls := .type "list_iterator", data := .fields #[.ref l, .int 0 0] }).get? D = some (freshSet b) := Heap.get?_push_of_some _ atD
          exact SetOf_congr ((setObjOf_fresh (knd := PySem.strKind prog w) b).setOf at2 (by unfold scanBound; omega)) (fun _ => rfl) rfl
      · rcases r2 with e | fl2
        · exact hr2
        · cases fl2 with
          | ret v2 =>
            obtain ⟨rfl, h3, k3, rfl, hH, kk⟩ := hr2
            repeat (any_goals (first | assumption | wp_step))
            exact next _ _ hH kk
          | _ => exact hr2.elim
    | _ => exact hr.elim
end
/-- len(set(xs)), a list of texts -/
def tLenU (K : PySem.W.Frag) (ta : TE) : TE := fun σ H Q => ta σ H fun x H1 => ∃ (l : Addr) (xs : List Str), x = .ref l ∧ SqL K H1 l (xs.map V.str) ∧ xs.length < 4000 ∧ Q (.int ((uniq xs).length : Nat)) H1
theorem pe_lenU {X : Cx} {a : Expr} {ta : TE} {p p2 q pos : Pos} (hg : Gl X "len") (hm : X.mg "len" = none) (hg2 : Gl X "set") (hm2 : X.mg "set" = none) (ha : PE X a ta) (hc : X.calm = true := by rfl)
    (na : starEach [a] X.env = (false, eval a X.env) :: starEach [] X.env := by rfl) : PE X (.Call (.Name "len" p) [.Call (.Name "set" p2) [a] [] q] [] pos) (tLenU X.K ta) := by
  refine ⟨fun pins s σ H Q I h => ?_⟩
  refine Call_ (ld_blt I hg hm boot_len (PyProof.Rows.callWith_builtin1 (PyProof.Rows.args_cons ?_ rfl) rfl rfl))
  refine Call_ (ld_blt I hg2 hm2 boot_set (PyProof.Rows.callWith_type1 (PyProof.Rows.args_cons (thn (ha.run pins s σ H _ I h) fun v s1 hv => PyProof.Rows.args_nil ?_) na) na rfl))
  obtain ⟨x, H1, I1, r1, l, xs, rfl, hq, few, k⟩ := hv
  cases r1
  obtain ⟨its, rv, pl, hz⟩ := I1.list hq
  refine set_of (I1.ok.hd hc) pl.isList (by simpa using strsAre_of rv) few fun h3 tk hH kk => ?_
  refine PyProof.Rows.args_nil ?_
  obtain ⟨o, es, ep, t, ho, hex, hd, _, _, _, hf, hn⟩ := hH
  have I2 : L2.Inv X pins σ H1 { s1 with heap := h3, toks := tk } := I1.kept fun b o e => kk b o (Heap.lt_size e) e
  have le : (uniq xs).length ≤ xs.length := by
    have := upTo_le xs xs.length
    unfold upTo at this
    rw [List.take_length] at this
    exact this
  exact call_len_set ho hex hd hf (by rw [hn]; omega) ⟨.int ((uniq xs).length : Nat), H1, I2.tok _, ⟨_, by rw [hn]⟩, k⟩
end SL
set_option Elab.async false
set_option linter.all false
set_option maxRecDepth 100000
set_option maxHeartbeats 4000000
namespace JF
open PySem PySem.Spec PyProof.Rows L2 GxR GA
/-- the turns of a clause, over a walk -/
theorem turns_it {J : It} {n : Nat} {G : Hp → Prop} {Y : Nat → Hp → V → Hp → Prop} (w : Walk J n G Y) {g : TG} {vs : List Nat} {tb : L3.TBd} {σ : L2.St} {H : Hp} {Φ : Hp → Prop} (Pv : Nat → Hp → Prop) (h0 : Pv 0 H) (hG : ∀ i H, i ≤ n → Pv i H → G H)
    (hs : ∀ i x H H', i < n → Pv i H → Y i H x H' → g x (wipe σ vs) H' fun σ2 H2 => wipe σ2 vs = wipe σ vs ∧ tb σ2 H2 (Pv (i + 1))) (hd : ∀ H, Pv n H → Φ H) :
    ∃ W : Nat → Nat → Hp → Prop, (∃ m, W 0 m H) ∧ L3.tTurns J g vs tb σ Φ W := by
  refine ⟨fun i m H => m = n - i ∧ i ≤ n ∧ Pv i H, ⟨n, by simp, Nat.zero_le _, h0⟩, ?_⟩
  rintro i m H ⟨rfl, hi, p⟩
  have q := hG i H hi p
  by_cases hlt : i < n
  · exact .inr ⟨w.goes i H hlt q, Pv (i + 1), fun H' p' => ⟨n - (i + 1), by omega, rfl, hlt, p'⟩, fun x H' y => hs i x H H' hlt p (w.yields i H x H' hlt q y)⟩
  · have e : i = n := by omega
    subst e
    exact .inl ⟨w.stops H q, hd H p⟩
/-! ### kinds as they are read -/
abbrev Mk' := Str × List Str
abbrev Kd := Str × List Mk'
section
variable (K : PySem.W.Frag) (H : Hp)
def FieldsAt (v : V) (fs : List Str) : Prop := ∃ a, v = .ref a ∧ SqT K H a (fs.map V.str)
def MakerAt (v : V) (m : Mk') : Prop := ∃ a vf, v = .ref a ∧ SqT K H a [.str m.1, vf] ∧ FieldsAt K H vf m.2
def MakersAt (v : V) (ms : List Mk') : Prop := ∃ a xs, v = .ref a ∧ SqT K H a xs ∧ Paired (MakerAt K H) xs ms
def KindAt (v : V) (k : Kd) : Prop := ∃ a vm, v = .ref a ∧ SqT K H a [.str k.1, vm] ∧ MakersAt K H vm k.2
def KindsAt (v : V) (ks : List Kd) : Prop := ∃ a xs, v = .ref a ∧ SqT K H a xs ∧ Paired (KindAt K H) xs ks
end
section
variable {K : PySem.W.Frag} {H H' : Hp} {T : List Addr}
theorem paired_get {α β : Type} {F : α → β → Prop} : ∀ {xs : List α} {ys : List β} {i : Nat} {x : α}, Paired F xs ys → xs[i]? = some x → ∃ y, ys[i]? = some y ∧ F x y
  | _, _, _, _, .nil, h => by simp at h
  | _, _, 0, x, .cons r _, h => by
    have e : _ = x := Option.some.inj h
    subst e
    exact ⟨_, rfl, r⟩
  | _, _, i + 1, x, .cons _ t, h => paired_get (i := i) (x := x) t h
theorem paired_imp {α β : Type} {F G : α → β → Prop} (f : ∀ a b, F a b → G a b) : ∀ {xs : List α} {ys : List β}, Paired F xs ys → Paired G xs ys
  | _, _, .nil => .nil
  | _, _, .cons r t => .cons (f _ _ r) (paired_imp f t)
theorem paired_len {α β : Type} {F : α → β → Prop} {xs : List α} {ys : List β} (r : Paired F xs ys) : xs.length = ys.length := Paired.length r
/-- what reads sequences alone is as in H at any heap that reads them alike -/
theorem FieldsAt.to (q : ∀ a xs, SqT K H a xs → SqT K H' a xs) {v : V} {fs : List Str} (h : FieldsAt K H v fs) : FieldsAt K H' v fs := by
  obtain ⟨a, e, h⟩ := h
  exact ⟨a, e, q _ _ h⟩
theorem MakerAt.to (q : ∀ a xs, SqT K H a xs → SqT K H' a xs) {v : V} {m : Mk'} (h : MakerAt K H v m) : MakerAt K H' v m := by
  obtain ⟨a, vf, e, h1, h2⟩ := h
  exact ⟨a, vf, e, q _ _ h1, h2.to q⟩
theorem MakersAt.to (q : ∀ a xs, SqT K H a xs → SqT K H' a xs) {v : V} {ms : List Mk'} (h : MakersAt K H v ms) : MakersAt K H' v ms := by
  obtain ⟨a, xs, e, h1, h2⟩ := h
  exact ⟨a, xs, e, q _ _ h1, paired_imp (fun _ _ z => z.to q) h2⟩
theorem KindAt.to (q : ∀ a xs, SqT K H a xs → SqT K H' a xs) {v : V} {k : Kd} (h : KindAt K H v k) : KindAt K H' v k := by
  obtain ⟨a, vf, e, h1, h2⟩ := h
  exact ⟨a, vf, e, q _ _ h1, h2.to q⟩
theorem KindsAt.to (q : ∀ a xs, SqT K H a xs → SqT K H' a xs) {v : V} {ks : List Kd} (h : KindsAt K H v ks) : KindsAt K H' v ks := by
  obtain ⟨a, xs, e, h1, h2⟩ := h
  exact ⟨a, xs, e, q _ _ h1, paired_imp (fun _ _ z => z.to q) h2⟩
theorem sqT_new {p : Addr} {o : HO} (n : H p = none) : ∀ a xs, SqT K H a xs → SqT K (upd H p o) a xs := fun a xs h => by
  rcases h with (h | ⟨ob, h⟩) | h
  · exact .inl (.inl (by rw [upd_ne (ne_of_none h n)]; exact h))
  · exact .inl (.inr ⟨ob, by rw [upd_ne (ne_of_none h n)]; exact h⟩)
  · exact .inr h
end
/-! ### what is_kinds tells -/
def isFields : PyData → Bool := isTup 0 4 isField
def isMaker : PyData → Bool := isPair isHigh isFields
def isMakers : PyData → Bool := isTup 1 6 isMaker
def isKind : PyData → Bool := isPair isHigh isMakers
def strOf : PyData → Str
  | .str z => z
  | _ => ""
def itemsOf : PyData → List PyData
  | .tuple ds => ds
  | _ => []
def fstOf (d : PyData) : PyData := (itemsOf d).getD 0 .none
def sndOf (d : PyData) : PyData := (itemsOf d).getD 1 .none
def fieldsOf (d : PyData) : List Str := (itemsOf d).map strOf
def makerOf (d : PyData) : Mk' := (strOf (fstOf d), fieldsOf (sndOf d))
def makersOf (d : PyData) : List Mk' := (itemsOf d).map makerOf
def kindOf' (d : PyData) : Kd := (strOf (fstOf d), makersOf (sndOf d))
def kindsOf (d : PyData) : List Kd := (itemsOf d).map kindOf'
def kNames (ks : List Kd) : List Str := ks.map (·.1)
def kMakers (ks : List Kd) : List Str := ks.flatMap fun k => k.2.map (·.1)
def kWords (ks : List Kd) : List Str := ks.flatMap fun k => k.2.flatMap (·.2)
/-- unlike names, fields of kinds -/
def goodK (ks : List Kd) : Bool := !(decide ((SL.uniq (kNames ks)).length < (kNames ks).length) || decide ((SL.uniq (kMakers ks)).length < (kMakers ks).length)) && (kWords ks).all fun w => decide (w = "number") || inV (.str w) ((kNames ks).map V.str)
def isKinds (d : PyData) : Bool := isTup 1 6 isKind d && goodK (kindsOf d)
section
variable {K : PySem.W.Frag} {H : Hp}
theorem isHigh_str {d : PyData} (h : isHigh d = true) : ∃ z, d = .str z := by
  cases d <;> first | exact ⟨_, rfl⟩ | cases h
theorem isField_str {d : PyData} (h : isField d = true) : ∃ z, d = .str z := by
  cases d <;> first | exact ⟨_, rfl⟩ | cases h
theorem rp_str {v : V} {z : Str} (r : Rp K H v (.str z)) : v = .str z := by cases r; rfl
theorem strs_of : ∀ {xs : List V} {ds : List PyData}, RpAll K H xs ds → ds.all isField = true → xs = (ds.map strOf).map V.str
  | _, _, .nil, _ => rfl
  | _, _, .cons r t, h => by
    rw [List.all_cons, Bool.and_eq_true] at h
    obtain ⟨z, rfl⟩ := isField_str h.1
    rw [strs_of t h.2, rp_str r]
    rfl
theorem isTup_true {lo hi : Int} {f : PyData → Bool} {d : PyData} (h : isTup lo hi f d = true) : ∃ ds, d = .tuple ds ∧ lo ≤ (ds.length : Int) ∧ (ds.length : Int) ≤ hi ∧ ds.all f = true := by
  cases d with
  | tuple ds =>
    have h : ((decide (lo ≤ (ds.length : Int)) && decide ((ds.length : Int) ≤ hi)) && ds.all f) = true := h
    simp only [Bool.and_eq_true, decide_eq_true_eq] at h
    exact ⟨ds, rfl, h.1.1, h.1.2, h.2⟩
  | _ => cases h
theorem isPair_true {f g : PyData → Bool} {d : PyData} (h : isPair f g d = true) : ∃ a b, d = .tuple [a, b] ∧ f a = true ∧ g b = true := by
  cases d with
  | tuple ds =>
    match ds, h with
    | [a, b], h =>
      have h : (f a && g b) = true := h
      rw [Bool.and_eq_true] at h
      exact ⟨a, b, rfl, h.1, h.2⟩
  | _ => cases h
theorem fieldsAt {v : V} {d : PyData} (r : Rp K H v d) (h : isFields d = true) : FieldsAt K H v (fieldsOf d) := by
  obtain ⟨ds, rfl, _, _, ha⟩ := isTup_true h
  cases r with
  | @tup a xs _ hs rs => exact ⟨a, rfl, by rw [strs_of rs ha] at hs; exact hs⟩
theorem makerAt {v : V} {d : PyData} (r : Rp K H v d) (h : isMaker d = true) : MakerAt K H v (makerOf d) := by
  obtain ⟨a, b, rfl, h1, h2⟩ := isPair_true h
  obtain ⟨z, rfl⟩ := isHigh_str h1
  cases r with
  | @tup p xs _ hs rs =>
    cases rs with
    | cons r1 rs =>
    cases rs with
    | cons r2 rs =>
    cases rs
    exact ⟨p, _, rfl, by rw [rp_str r1] at hs; exact hs, fieldsAt r2 h2⟩
theorem makersAll : ∀ {xs : List V} {ds : List PyData}, RpAll K H xs ds → ds.all isMaker = true → Paired (MakerAt K H) xs (ds.map makerOf)
  | _, _, .nil, _ => .nil
  | _, _, .cons r t, h => by
    rw [List.all_cons, Bool.and_eq_true] at h
    exact .cons (makerAt r h.1) (makersAll t h.2)
theorem makersAt {v : V} {d : PyData} (r : Rp K H v d) (h : isMakers d = true) : MakersAt K H v (makersOf d) := by
  obtain ⟨ds, rfl, _, _, ha⟩ := isTup_true h
  cases r with
  | @tup a xs _ hs rs => exact ⟨a, xs, rfl, hs, makersAll rs ha⟩
theorem kindAt {v : V} {d : PyData} (r : Rp K H v d) (h : isKind d = true) : KindAt K H v (kindOf' d) := by
  obtain ⟨a, b, rfl, h1, h2⟩ := isPair_true h
  obtain ⟨z, rfl⟩ := isHigh_str h1
  cases r with
  | @tup p xs _ hs rs =>
    cases rs with
    | cons r1 rs =>
    cases rs with
    | cons r2 rs =>
    cases rs
    exact ⟨p, _, rfl, by rw [rp_str r1] at hs; exact hs, makersAt r2 h2⟩
theorem kindsAll : ∀ {xs : List V} {ds : List PyData}, RpAll K H xs ds → ds.all isKind = true → Paired (KindAt K H) xs (ds.map kindOf')
  | _, _, .nil, _ => .nil
  | _, _, .cons r t, h => by
    rw [List.all_cons, Bool.and_eq_true] at h
    exact .cons (kindAt r h.1) (kindsAll t h.2)
theorem kindsAt {v : V} {d : PyData} (r : Rp K H v d) (h : isTup 1 6 isKind d = true) : KindsAt K H v (kindsOf d) := by
  obtain ⟨ds, rfl, _, _, ha⟩ := isTup_true h
  cases r with
  | @tup a xs _ hs rs => exact ⟨a, xs, rfl, hs, kindsAll rs ha⟩
end
abbrev sFields : Stmt := topS 48
abbrev sMaker : Stmt := topS 49
abbrev sMakers : Stmt := topS 50
abbrev sKind : Stmt := topS 51
section
variable {P : Program} {w : World} {K : PySem.W.Frag} {mg : Str → Option Value} {base : Heap} {T : List Addr}
theorem in_any (d : PyData) : inTup (fun _ => True) d := by cases d <;> first | trivial | exact fun _ _ => trivial
theorem in_any2 (d : PyData) : inPair (fun _ => True) (fun _ => True) d := by
  unfold inPair
  split <;> trivial
theorem IsDef.of {k j : Nat} {g : Addr} {gd : FuncData} {f : PyData → Bool} (G : FnOk P w K mg base CX0 j g gd ["thing"] (spIs K T f)) (h : j ≤ k) (kG : PySem.W.keepIn K (.ref g) = true) (bG : Binds K gd ["thing"] []) : IsDef P w K mg base T k g (fun _ => True) f :=
  ⟨gd, "thing", spIs_D (G.mono h), kG, bG⟩

theorem scFields : FnScope ["thing"] ["thing"] (defScope sFields) := ⟨rfl, rfl, rfl, by decide +kernel, rfl, by decide +kernel, by decide +kernel⟩
theorem ok_fields {f g e : Addr} {fd gd : FuncData} (F : Fun K "are_fields" "are_fields" sFields f fd) (G : FnOk P w K mg base CX0 8 g gd ["thing", "least", "most", "fits"] (spTupleOf P w K mg base T 6)) (mG : mg "is_tuple_of" = some (.ref g)) (kG : PySem.W.keepIn K (.ref g) = true) (bG : Binds K gd ["thing", "least", "most", "fits"] [])
    (mE : mg "is_field_word" = some (.ref e)) (E : IsDef P w K mg base T 6 e (fun _ => True) isField) : FnOk P w K mg base CX0 9 f fd ["thing"] (spIs K T isFields) := by
  refine F.ok scFields (fun vs H Q E h => ?_) (fun cdv A outer s H vs Q E' hr h => ?_)
  · obtain ⟨v, d, rfl, _⟩ := h
    rfl
  · obtain ⟨v, d, rfl, r, tb, k⟩ := h
    refine ⟨_, pss_one (ps_ret (pe_call G hr rfl mG kG bG .nil pass0 (pa_cons (pv 0) (pa_cons pe_int (pa_cons pe_int (pa_cons (pe_glob (v := .ref e) rfl mE rfl) pa_nil)))))), ?_⟩
    exact ⟨v, rfl, v, d, _, _, e, _, _, rfl, r, in_any d, E, tb, k⟩

theorem scMaker : FnScope ["thing"] ["thing"] (defScope sMaker) := ⟨rfl, rfl, rfl, by decide +kernel, rfl, by decide +kernel, by decide +kernel⟩
theorem ok_maker {f g e1 e2 : Addr} {fd gd : FuncData} (F : Fun K "is_maker" "is_maker" sMaker f fd) (G : FnOk P w K mg base CX0 10 g gd ["thing", "fits_first", "fits_second"] (spPair P w K mg base T 9)) (mG : mg "is_pair" = some (.ref g)) (kG : PySem.W.keepIn K (.ref g) = true) (bG : Binds K gd ["thing", "fits_first", "fits_second"] [])
    (m1 : mg "is_high_name" = some (.ref e1)) (E1 : IsDef P w K mg base T 9 e1 (fun _ => True) isHigh) (m2 : mg "are_fields" = some (.ref e2)) (E2 : IsDef P w K mg base T 9 e2 (fun _ => True) isFields) : FnOk P w K mg base CX0 11 f fd ["thing"] (spIs K T isMaker) := by
  refine F.ok scMaker (fun vs H Q E h => ?_) (fun cdv A outer s H vs Q E' hr h => ?_)
  · obtain ⟨v, d, rfl, _⟩ := h
    rfl
  · obtain ⟨v, d, rfl, r, tb, k⟩ := h
    refine ⟨_, pss_one (ps_ret (pe_call G hr rfl mG kG bG .nil pass0 (pa_cons (pv 0) (pa_cons (pe_glob (v := .ref e1) rfl m1 rfl) (pa_cons (pe_glob (v := .ref e2) rfl m2 rfl) pa_nil))))), ?_⟩
    exact ⟨v, rfl, v, d, e1, e2, _, _, _, _, rfl, r, in_any2 d, E1, E2, tb, k⟩

theorem scMakers : FnScope ["thing"] ["thing"] (defScope sMakers) := ⟨rfl, rfl, rfl, by decide +kernel, rfl, by decide +kernel, by decide +kernel⟩
theorem ok_makers {f g e : Addr} {fd gd : FuncData} (F : Fun K "are_makers" "are_makers" sMakers f fd) (G : FnOk P w K mg base CX0 13 g gd ["thing", "least", "most", "fits"] (spTupleOf P w K mg base T 11)) (mG : mg "is_tuple_of" = some (.ref g)) (kG : PySem.W.keepIn K (.ref g) = true) (bG : Binds K gd ["thing", "least", "most", "fits"] [])
    (mE : mg "is_maker" = some (.ref e)) (E : IsDef P w K mg base T 11 e (fun _ => True) isMaker) : FnOk P w K mg base CX0 14 f fd ["thing"] (spIs K T isMakers) := by
  refine F.ok scMakers (fun vs H Q E h => ?_) (fun cdv A outer s H vs Q E' hr h => ?_)
  · obtain ⟨v, d, rfl, _⟩ := h
    rfl
  · obtain ⟨v, d, rfl, r, tb, k⟩ := h
    refine ⟨_, pss_one (ps_ret (pe_call G hr rfl mG kG bG .nil pass0 (pa_cons (pv 0) (pa_cons pe_int (pa_cons pe_int (pa_cons (pe_glob (v := .ref e) rfl mE rfl) pa_nil)))))), ?_⟩
    exact ⟨v, rfl, v, d, _, _, e, _, _, rfl, r, in_any d, E, tb, k⟩

theorem scKind : FnScope ["thing"] ["thing"] (defScope sKind) := ⟨rfl, rfl, rfl, by decide +kernel, rfl, by decide +kernel, by decide +kernel⟩
theorem ok_kind {f g e1 e2 : Addr} {fd gd : FuncData} (F : Fun K "is_kind" "is_kind" sKind f fd) (G : FnOk P w K mg base CX0 15 g gd ["thing", "fits_first", "fits_second"] (spPair P w K mg base T 14)) (mG : mg "is_pair" = some (.ref g)) (kG : PySem.W.keepIn K (.ref g) = true) (bG : Binds K gd ["thing", "fits_first", "fits_second"] [])
    (m1 : mg "is_high_name" = some (.ref e1)) (E1 : IsDef P w K mg base T 14 e1 (fun _ => True) isHigh) (m2 : mg "are_makers" = some (.ref e2)) (E2 : IsDef P w K mg base T 14 e2 (fun _ => True) isMakers) : FnOk P w K mg base CX0 16 f fd ["thing"] (spIs K T isKind) := by
  refine F.ok scKind (fun vs H Q E h => ?_) (fun cdv A outer s H vs Q E' hr h => ?_)
  · obtain ⟨v, d, rfl, _⟩ := h
    rfl
  · obtain ⟨v, d, rfl, r, tb, k⟩ := h
    refine ⟨_, pss_one (ps_ret (pe_call G hr rfl mG kG bG .nil pass0 (pa_cons (pv 0) (pa_cons (pe_glob (v := .ref e1) rfl m1 rfl) (pa_cons (pe_glob (v := .ref e2) rfl m2 rfl) pa_nil))))), ?_⟩
    exact ⟨v, rfl, v, d, e1, e2, _, _, _, _, rfl, r, in_any2 d, E1, E2, tb, k⟩
end
end JF
set_option Elab.async false
set_option linter.all false
set_option maxRecDepth 100000
set_option maxHeartbeats 4000000
namespace JF
open PySem PySem.Spec PyProof.Rows L2 GxR GA
theorem pg_two {X : Cx} {K : PySem.W.Frag} {i j k : Nat} {x y : Str} {p q pos : Pos} (hK : X.K = K) (hc : X.calm = true) (hN : X.N.Nodup) (hi : X.N[i]? = some x) (hj : X.N[j]? = some y) (hx : X.env.scope.names.lookup x = some .local) (hy : X.env.scope.names.lookup y = some .local) :
    PG X (.Tuple [.Name x p, .Name y q] k pos) (gTup K 2 (gCons (gName i) (gCons (gName j) gNil))) := by
  rw [← hK]
  exact pg_tup hc (pgs_cons (pg_name hN hi (.inl hx) (.inr hx)) (pgs_cons (pg_name hN hj (.inl hy) (.inr hy)) pgs_nil))
theorem pi_nm {X : Cx} {K : PySem.W.Frag} {tg : Expr} {i : Nat} {x : Str} {pos : Pos} (hK : X.K = K) (hN : X.N[i]? = some x) (hx : X.env.scope.names.lookup x = some .local) (hd : (x == ("__debug__" : Str)) = false) (hcd : (x == ("__classdict__" : Str)) = false) : PI X tg (.Name x pos) (iTup K (tVar i)) := by
  rw [← hK]
  exact pi_tup (pv i hN (.inl hx) hd hcd)
theorem op_inK {X : Cx} {K : PySem.W.Frag} (h : X.K = K) : OpR X (compareOp .In) (rIn K false) := by
  rw [← h]
  exact op_in_seq
theorem lcB_it {J : It} {n : Nat} {G : Hp → Prop} {Y : Nat → Hp → V → Hp → Prop} (w : Walk J n G Y) {g : TG} {tt : TT} {vs : List Nat} {σ : L2.St} {Hs : Hp} {Qd : Hp → Prop} {B : L2.St → Bool → Hp → (Hp → Prop) → Prop} (Pv : Nat → Hp → Prop) (h0 : Pv 0 Hs) (hG : ∀ i H, i ≤ n → Pv i H → G H)
    (hs : ∀ i x H H', i < n → Pv i H → Y i H x H' → g x (wipe σ vs) H' fun σ2 H2 => wipe σ2 vs = wipe σ vs ∧ tt σ2 H2 fun b H3 => B σ2 b H3 (Pv (i + 1))) (hd : ∀ H, Pv n H → Qd H) :
    ∃ W : Nat → Nat → Hp → Prop, (∃ m, W 0 m Hs) ∧ ∀ i m H, W i m H →
      (J.stop i H ∧ Qd H) ∨ (J.go i H ∧ ∃ Nx : Hp → Prop, (∀ H', Nx H' → ∃ m', m' < m ∧ W (i + 1) m' H') ∧ ∀ x H', J.yld i H x H' → g x (wipe σ vs) H' fun σ2 H2 => wipe σ2 vs = wipe σ vs ∧ tt σ2 H2 fun b H3 => B σ2 b H3 Nx) := by
  refine ⟨fun i m H => m = n - i ∧ i ≤ n ∧ Pv i H, ⟨n, by simp, Nat.zero_le _, h0⟩, ?_⟩
  rintro i m H ⟨rfl, hi, p⟩
  have q := hG i H hi p
  by_cases hlt : i < n
  · refine .inr ⟨w.goes i H hlt q, Pv (i + 1), fun H' p' => ⟨n - (i + 1), by omega, rfl, hlt, p'⟩, fun x H' y => hs i x H H' hlt p (w.yields i H x H' hlt q y)⟩
  · have e : i = n := by omega
    subst e
    exact .inl ⟨w.stops H q, hd H p⟩
theorem drop_at {α : Type} {l : List α} {i : Nat} {x : α} (h : l[i]? = some x) : l.drop i = x :: l.drop (i + 1) := by
  obtain ⟨hi, rfl⟩ := List.getElem?_eq_some_iff.mp h
  exact List.drop_eq_getElem_cons hi
theorem len_of_app {α : Type} {xs ys zs : List α} (h : xs ++ ys = zs) : xs.length ≤ zs.length := by
  rw [← h, List.length_append]; omega
theorem yesT {σ : L2.St} {H : Hp} {A B : Bool → Hp → Prop} (h : A true H) : tYes σ H fun b H3 => if b = true then A b H3 else B b H3 := by
  show if true = true then A true H else B true H
  rw [if_pos rfl]
  exact h
theorem wipe_setN (σ : L2.St) (i : Nat) (a : Option V) : ∀ vs : List Nat, i ∉ vs → wipe (σ.set i a) vs = (wipe σ vs).set i a
  | [], _ => rfl
  | v :: vs, h => by
    have h1 : i ≠ v := fun e => h (e ▸ List.mem_cons_self ..)
    have h2 : i ∉ vs := fun e => h (List.mem_cons_of_mem _ e)
    show (wipe (σ.set i a) vs).set v none = ((wipe σ vs).set v none).set i a
    rw [wipe_setN σ i a vs h2, List.set_comm _ _ h1]
theorem wipe_in (σ : L2.St) (i : Nat) (a : Option V) : ∀ vs : List Nat, i ∈ vs → wipe (σ.set i a) vs = wipe σ vs
  | v :: vs, h => by
    show (wipe (σ.set i a) vs).set v none = (wipe σ vs).set v none
    by_cases h2 : i ∈ vs
    · rw [wipe_in σ i a vs h2]
    · have h1 : i = v := by
        rcases List.mem_cons.mp h with e | e
        · exact e
        · exact absurd e h2
      subst h1
      rw [wipe_setN σ i a vs h2, List.set_set]
theorem lt10 {i m : Nat} (h : i < 10) (e : 10 = m) : i < m := e ▸ h
theorem g_two {K : PySem.W.Frag} {b : Addr} {x y : V} {σ : L2.St} {vs : List Nat} {i j : Nat} {H : Hp} {C : L2.St → Hp → Prop} (hb : SqT K H b [x, y]) (hi : i ∈ vs) (hj : j ∈ vs) (hij : i ≠ j) (li : i < σ.length) (lj : j < σ.length)
    (h : ∀ σ2 : L2.St, σ2.length = σ.length → (∀ n, n ∉ vs → σ2[n]? = σ[n]?) → σ2[i]? = some (some x) → σ2[j]? = some (some y) → C σ2 H) :
    gTup K 2 (gCons (gName i) (gCons (gName j) gNil)) (.ref b) (wipe σ vs) H fun σ2 H2 => wipe σ2 vs = wipe σ vs ∧ C σ2 H2 := by
  refine ⟨b, _, rfl, hb, rfl, _, _, rfl, _, _, rfl, rfl, ?_, h _ ?_ (fun n hn => ?_) ?_ ?_⟩
  · rw [wipe_in _ _ _ _ hj, wipe_in _ _ _ _ hi, L3.wipe_wipe]
  · rw [List.length_set, List.length_set, wipe_length]
  · rw [List.getElem?_set_ne (fun e : j = n => hn (e ▸ hj)), List.getElem?_set_ne (fun e : i = n => hn (e ▸ hi)), wipe_out hn]
  · rw [List.getElem?_set_ne hij.symm]
    exact List.getElem?_set_self (by rw [wipe_length]; exact li)
  · exact List.getElem?_set_self (by rw [List.length_set, wipe_length]; exact lj)
theorem g_one {x : V} {σ : L2.St} {vs : List Nat} {i : Nat} {H : Hp} {C : L2.St → Hp → Prop} (hi : i ∈ vs) (li : i < σ.length)
    (h : ∀ σ2 : L2.St, σ2.length = σ.length → (∀ n, n ∉ vs → σ2[n]? = σ[n]?) → σ2[i]? = some (some x) → C σ2 H) :
    gName i x (wipe σ vs) H fun σ2 H2 => wipe σ2 vs = wipe σ vs ∧ C σ2 H2 := by
  refine ⟨?_, h _ ?_ (fun n hn => ?_) ?_⟩
  · rw [wipe_in _ _ _ _ hi, L3.wipe_wipe]
  · rw [List.length_set, wipe_length]
  · rw [List.getElem?_set_ne (fun e : i = n => hn (e ▸ hi)), wipe_out hn]
  · exact List.getElem?_set_self (by rw [wipe_length]; exact li)
abbrev sKinds : Stmt := topS 52
theorem flat_len {α β : Type} (f : α → List β) (c : Nat) : ∀ l : List α, (∀ x ∈ l, (f x).length ≤ c) → (l.flatMap f).length ≤ l.length * c
  | [], _ => by simp
  | x :: l, h => by
    rw [List.flatMap_cons, List.length_append, List.length_cons, Nat.succ_mul]
    have h1 := h x (List.mem_cons_self ..)
    have h2 := flat_len f c l fun y hy => h y (List.mem_cons_of_mem _ hy)
    omega
/-- at most six kinds of six makers of four fields -/
structure Few (ks : List Kd) : Prop where
  kn : ks.length ≤ 6
  ms : ∀ k ∈ ks, k.2.length ≤ 6
  fs : ∀ k ∈ ks, ∀ m ∈ k.2, m.2.length ≤ 4
theorem few_of {d : PyData} (h : isTup 1 6 isKind d = true) : Few (kindsOf d) := by
  obtain ⟨ds, rfl, _, h6, ha⟩ := isTup_true h
  have mk : ∀ x ∈ ds, isKind x = true := fun x hx => List.all_eq_true.mp ha x hx
  refine ⟨by show (ds.map kindOf').length ≤ 6; rw [List.length_map]; omega, fun k hk => ?_, fun k hk m hm => ?_⟩
  · obtain ⟨x, hx, rfl⟩ := List.mem_map.mp (show k ∈ ds.map kindOf' from hk)
    obtain ⟨a, b, rfl, _, h2⟩ := isPair_true (mk x hx)
    obtain ⟨es, rfl, _, g6, _⟩ := isTup_true h2
    show (es.map makerOf).length ≤ 6
    rw [List.length_map]; omega
  · obtain ⟨x, hx, rfl⟩ := List.mem_map.mp (show k ∈ ds.map kindOf' from hk)
    obtain ⟨a, b, rfl, _, h2⟩ := isPair_true (mk x hx)
    obtain ⟨es, rfl, _, _, he⟩ := isTup_true h2
    obtain ⟨y, hy, rfl⟩ := List.mem_map.mp (show m ∈ es.map makerOf from hm)
    obtain ⟨a2, b2, rfl, _, g2⟩ := isPair_true (List.all_eq_true.mp he y hy)
    obtain ⟨fs, rfl, _, f4, _⟩ := isTup_true g2
    show (fs.map strOf).length ≤ 4
    rw [List.length_map]; omega
theorem Few.makers {ks : List Kd} (h : Few ks) : (kMakers ks).length ≤ 36 := by
  have := flat_len (fun k : Kd => k.2.map (·.1)) 6 ks fun k hk => by rw [List.length_map]; exact h.ms k hk
  have h6 := h.kn
  unfold kMakers
  omega
theorem Few.words {ks : List Kd} (h : Few ks) : (kWords ks).length ≤ 144 := by
  have := flat_len (fun k : Kd => k.2.flatMap (·.2)) 24 ks fun k hk => by
    have := flat_len (fun m : Mk' => m.2) 4 k.2 fun m hm => h.fs k hk m hm
    have h6 := h.ms k hk
    omega
  have h6 := h.kn
  unfold kWords
  omega
section
variable {P : Program} {w : World} {K : PySem.W.Frag} {mg : Str → Option Value} {base : Heap} {T : List Addr}
theorem scKinds : FnScope ["thing", "names", "makers", "words", "name", "_", "made", "maker", "fields", "word"] ["thing"] (defScope sKinds) := ⟨rfl, rfl, rfl, by decide +kernel, rfl, by decide +kernel, by decide +kernel⟩
theorem ok_kinds {f c Pt g e : Addr} {fd gd : FuncData} (F : FunC K "is_kinds" "is_kinds" sKinds f fd c) (B : BI mg) (Bs : mg "set" = none) (TB : TabB base mg c Pt) (hT : Pt ∈ T)
    (G : FnOk P w K mg base CX0 18 g gd ["thing", "least", "most", "fits"] (spTupleOf P w K mg base T 16)) (mG : mg "is_tuple_of" = some (.ref g)) (kG : PySem.W.keepIn K (.ref g) = true) (bG : Binds K gd ["thing", "least", "most", "fits"] [])
    (mE : mg "is_kind" = some (.ref e)) (E : IsDef P w K mg base T 16 e (fun _ => True) isKind) : FnOk P w K mg base CX0 19 f fd ["thing"] (spIs K T isKinds) := by
  refine F.ok scKinds (fun vs H Q E h => ?_) (fun A outer s H vs Q E' hr h => ?_)
  · obtain ⟨v, d, rfl, _⟩ := h
    rfl
  · obtain ⟨v, d, rfl, r, tb, k⟩ := h
    refine ⟨_, pss_cons (ps_if (pt_not (pt_val (pe_call G hr rfl mG kG bG .nil pass0 (pa_cons (pv 0) (pa_cons pe_int (pa_cons pe_int (pa_cons (pe_glob (v := .ref e) rfl mE rfl) pa_nil))))))) (pss_one (ps_ret pe_bl)) pss_nil)
      (pss_cons (ps_set (i := 1) scKinds.nd rfl (.inr rfl) (pe_lc (own := [("name", 4), ("_", 5)]) (by rfl) scKinds.nd (pi_tup (pv 0)) (blkOk_by (N := ["thing", "names", "makers", "words", "name", "_", "made", "maker", "fields", "word"]) (sc := defScope sKinds) (by decide +kernel))
        (fun _ _ _ _ _ => pg_two (K := K) (i := 4) (j := 5) rfl rfl scKinds.nd rfl rfl rfl rfl) (fun _ _ _ _ _ => pts_nil) (fun _ _ _ _ _ => pv 4)))
      (pss_cons (ps_setLc2 (i := 2) (own := [("_", 5), ("made", 6), ("maker", 7)]) (vs1 := [7, 5]) (by rfl) scKinds.nd rfl rfl (sw_true rfl rfl rfl (by decide +kernel)) (pi_tup (pv 0)) (blkOk_by (N := ["thing", "names", "makers", "words", "name", "_", "made", "maker", "fields", "word"]) (sc := defScope sKinds) (by decide +kernel)) (by decide)
        (fun _ _ _ _ _ => pg_two (K := K) (i := 5) (j := 6) rfl rfl scKinds.nd rfl rfl rfl rfl) (fun _ _ _ _ _ => pts_nil)
        (fun _ _ _ _ _ => pi_nm (K := K) (i := 6) rfl rfl rfl rfl rfl)
        (fun _ _ _ _ _ => pg_two (K := K) (i := 7) (j := 5) rfl rfl scKinds.nd rfl rfl rfl rfl) (fun _ _ _ _ _ => pts_nil) (fun _ _ _ _ _ => pv 7))
      (pss_cons (L3.ps_setLc3 (i := 3) (own := [("_", 5), ("made", 6), ("fields", 8), ("word", 9)]) (vs1 := [5, 8, 9]) (vs2 := [9]) (by rfl) scKinds.nd rfl rfl (sw_true rfl rfl rfl (by decide +kernel)) (pi_tup (pv 0)) (blkOk_by (N := ["thing", "names", "makers", "words", "name", "_", "made", "maker", "fields", "word"]) (sc := defScope sKinds) (by decide +kernel)) (by decide) (by decide)
        (fun _ _ _ _ _ => pg_two (K := K) (i := 5) (j := 6) rfl rfl scKinds.nd rfl rfl rfl rfl)
        (fun _ _ _ _ _ => pi_nm (K := K) (i := 6) rfl rfl rfl rfl rfl)
        (fun _ _ _ _ _ => pg_two (K := K) (i := 5) (j := 8) rfl rfl scKinds.nd rfl rfl rfl rfl)
        (fun _ _ _ _ _ => pi_nm (K := K) (i := 8) rfl rfl rfl rfl rfl)
        (fun _ _ _ _ _ => pg_name (i := 9) scKinds.nd rfl (.inl rfl))
        (fun _ _ _ _ _ => pv 9))
      (pss_cons (ps_if (PW.pt (pw_or (pt_cmpR op_lt (SL.pe_lenU rfl B.len rfl Bs (pv 1)) (pe_callB call_len_seq (by rfl) B.len PySem.boot_len (pa_cons (pv 1) pa_nil)) (nomark _))
        (pw_or1 (pt_cmpR op_lt (SL.pe_lenU rfl B.len rfl Bs (pv 2)) (pe_callB call_len_seq (by rfl) B.len PySem.boot_len (pa_cons (pv 2) pa_nil)) (nomark _))))) (pss_one (ps_ret pe_bl)) pss_nil)
      (pss_one (ps_ret (pe_allG (own := [("word", 9)]) (g := gName 9) (k := 17) hr rfl B.all rfl scKinds.nd TB rfl (pi_list (pv 3)) (blkOk_by (N := ["thing", "names", "makers", "words", "name", "_", "made", "maker", "fields", "word"]) (sc := defScope sKinds) (by decide +kernel)) (by decide +kernel) rfl (by decide +kernel)
        (fun _ _ _ _ _ _ _ _ => pg_name (i := 9) scKinds.nd rfl (.inl rfl))
        (fun _ _ _ _ _ _ _ _ => pe_or (pe_cmpR op_eq (pv 9) pe_str (nomark _)) (pe_one (pe_cmpR (op_inK (K := K) rfl) (pv 9) (pv 1) rfl)))))))))), ?_⟩
    refine ⟨v, rfl, v, d, 1, 6, e, _, _, rfl, r, in_any d, E, tb, fun H1 x1 => ?_⟩
    refine ⟨_, rfl, ?_⟩
    show if (!isTup 1 6 isKind d) = true then _ else _
    cases e1 : isTup 1 6 isKind d with
    | false =>
      refine iteT ?_
      have := k H1 x1
      have e2 : isKinds d = false := by unfold isKinds; rw [e1]; rfl
      rw [e2] at this
      exact this
    | true =>
      refine iteF ?_
      have few := few_of e1
      have kk := k
      have e2 : isKinds d = goodK (kindsOf d) := by unfold isKinds; rw [e1]; rfl
      rw [e2] at kk
      obtain ⟨a, xs, rfl, hs, pr⟩ := kindsAt (r.ex x1 tb) e1
      generalize kindsOf d = ks at few kk pr
      have ln : xs.length = ks.length := paired_len pr
      refine ⟨_, rfl, a, rfl, ⟨xs, hs⟩, fun D hD => lcB_it walk_tup (fun i H' => ∃ acc : List Str, H' = upd H1 D (.lst (acc.map V.str)) ∧ acc ++ kNames (ks.drop i) = kNames ks) ⟨[], rfl, rfl⟩ (fun i H' _ ⟨acc, e, _⟩ => e ▸ sqT_new hD _ _ hs) (fun i x H' H2 hi ⟨acc, e, ea⟩ y => ?_) (fun H' ⟨acc, e, ea⟩ => ?_)⟩
      · obtain ⟨rfl, hx⟩ := y
        obtain ⟨kd, hk, b, vm, rfl, hb, _⟩ := paired_get pr hx
        subst e
        have bd : acc.length ≤ 6 := by
          have := len_of_app ea
          unfold kNames at this
          rw [List.length_map] at this
          exact Nat.le_trans this few.kn
        rw [drop_at hk] at ea
        exact g_two (sqT_new hD _ _ hb) (by decide) (by decide) (by decide) (lt10 (by decide) rfl) (lt10 (by decide) rfl) fun σ2 _ _ g4 _ => yesT ⟨_, g4, acc.map V.str, upd_same, by rw [List.length_map]; exact small1000 (by omega), acc ++ [kd.1], by rw [upd_upd, List.map_append]; rfl, by rw [← ea]; simp [kNames]⟩
      rw [ln, List.drop_length] at ea
      have ea : acc = kNames ks := by rw [← ea]; simp [kNames]
      subst ea
      subst e
      have x2 : Ex T H1 (upd H1 D (.lst ((kNames ks).map V.str))) := Ex.new hD
      have hsD : SqL K (upd H1 D (.lst ((kNames ks).map V.str))) D ((kNames ks).map V.str) := .inl (.inl upd_same)
      have q2 : ∀ b ys, SqT K H1 b ys → SqT K (upd H1 D (.lst ((kNames ks).map V.str))) b ys := sqT_new hD
      generalize upd H1 D (.lst ((kNames ks).map V.str)) = H2 at x2 hsD q2
      have pr2 : Paired (KindAt K H2) xs ks := paired_imp (fun _ _ z => z.to q2) pr
      have hs2 := q2 _ _ hs
      clear pr hs q2 hD
      -- makers
      refine ⟨_, rfl, a, rfl, ⟨xs, hs2⟩, fun D2 hD2 => lcB_it walk_tup (fun i H' => ∃ acc : List Str, H' = upd H2 D2 (.lst (acc.map V.str)) ∧ acc ++ kMakers (ks.drop i) = kMakers ks) ⟨[], rfl, rfl⟩ (fun i H' _ ⟨acc, e, _⟩ => e ▸ sqT_new hD2 _ _ hs2) (fun i x H' H3 hi ⟨acc, e, ea⟩ y => ?_) (fun H' ⟨acc, e, ea⟩ => ?_)⟩
      · obtain ⟨rfl, hx⟩ := y
        obtain ⟨kd, hk, b, vm, rfl, hb, c2, ms, rfl, hc2, pm⟩ := paired_get pr2 hx
        subst e
        rw [drop_at hk] at ea
        have lm : ms.length = kd.2.length := paired_len pm
        refine g_two (sqT_new hD2 _ _ hb) (by decide) (by decide) (by decide) (lt10 (by decide) rfl) (lt10 (by decide) rfl) fun σ2 l2 _ _ g6 => yesT ⟨_, g6, c2, rfl, ⟨ms, sqT_new hD2 _ _ hc2⟩, lcB_it walk_tup (fun j H' => ∃ acc : List Str, H' = upd H2 D2 (.lst (acc.map V.str)) ∧ acc ++ ((kd.2.drop j).map (·.1) ++ kMakers (ks.drop (i + 1))) = kMakers ks) ⟨acc, rfl, ea⟩ (fun j H' _ ⟨acc, e, _⟩ => e ▸ sqT_new hD2 _ _ hc2) (fun j x2 H' H4 hj ⟨acc, e, ea⟩ y => ?_) (fun H' ⟨acc, e, ea⟩ => ⟨acc, e, ?_⟩)⟩
        · obtain ⟨rfl, hx2⟩ := y
          obtain ⟨mk, hm, b3, vf, rfl, hb3, _⟩ := paired_get pm hx2
          subst e
          have bd : acc.length ≤ 36 := Nat.le_trans (len_of_app ea) few.makers
          rw [drop_at hm] at ea
          exact g_two (sqT_new hD2 _ _ hb3) (by decide) (by decide) (by decide) (by rw [l2]; exact lt10 (by decide) rfl) (by rw [l2]; exact lt10 (by decide) rfl) fun σ3 _ _ g7 _ => yesT ⟨_, g7, acc.map V.str, upd_same, by rw [List.length_map]; exact small1000 (by omega), acc ++ [mk.1], by rw [upd_upd, List.map_append]; rfl, by rw [← ea]; simp⟩
        · rw [lm, List.drop_length] at ea
          simpa using ea
      rw [ln, List.drop_length] at ea
      have ea : acc = kMakers ks := by rw [← ea]; simp [kMakers]
      subst ea
      subst e
      have x3 : Ex T H2 (upd H2 D2 (.lst ((kMakers ks).map V.str))) := Ex.new hD2
      have hsM : SqL K (upd H2 D2 (.lst ((kMakers ks).map V.str))) D2 ((kMakers ks).map V.str) := .inl (.inl upd_same)
      have q3 : ∀ b ys, SqT K H2 b ys → SqT K (upd H2 D2 (.lst ((kMakers ks).map V.str))) b ys := sqT_new hD2
      generalize upd H2 D2 (.lst ((kMakers ks).map V.str)) = H3 at x3 hsM q3
      have pr3 : Paired (KindAt K H3) xs ks := paired_imp (fun _ _ z => z.to q3) pr2
      have hs3 := q3 _ _ hs2
      have tb2 : TbOk T H2 := (x1.trans x2).tb tb
      have hsD3 := x3.sqL tb2 hsD
      have tb3 : TbOk T H3 := x3.tb tb2
      clear pr2 hs2 q3 hD2 hsD
      -- words
      refine ⟨_, rfl, a, rfl, ⟨xs, hs3⟩, fun D3 hD3 => turns_it walk_tup (fun i H' => ∃ acc : List Str, H' = upd H3 D3 (.lst (acc.map V.str)) ∧ acc ++ kWords (ks.drop i) = kWords ks) ⟨[], rfl, rfl⟩ (fun i H' _ ⟨acc, e, _⟩ => e ▸ sqT_new hD3 _ _ hs3) (fun i x H' H4 hi ⟨acc, e, ea⟩ y => ?_) (fun H' ⟨acc, e, ea⟩ => ?_)⟩
      · obtain ⟨rfl, hx⟩ := y
        obtain ⟨kd, hk, b, vm, rfl, hb, c2, ms, rfl, hc2, pm⟩ := paired_get pr3 hx
        subst e
        rw [drop_at hk] at ea
        have lm : ms.length = kd.2.length := paired_len pm
        refine g_two (sqT_new hD3 _ _ hb) (by decide) (by decide) (by decide) (lt10 (by decide) rfl) (lt10 (by decide) rfl) fun σ2 l2 _ _ g6 => ⟨_, g6, c2, rfl, ⟨ms, sqT_new hD3 _ _ hc2⟩, turns_it walk_tup (fun j H' => ∃ acc : List Str, H' = upd H3 D3 (.lst (acc.map V.str)) ∧ acc ++ ((kd.2.drop j).flatMap (·.2) ++ kWords (ks.drop (i + 1))) = kWords ks) ⟨acc, rfl, ea⟩ (fun j H' _ ⟨acc, e, _⟩ => e ▸ sqT_new hD3 _ _ hc2) (fun j x2 H' H4 hj ⟨acc, e, ea⟩ y => ?_) (fun H' ⟨acc, e, ea⟩ => ⟨acc, e, ?_⟩)⟩
        · obtain ⟨rfl, hx2⟩ := y
          obtain ⟨mk, hm, b3, vf, rfl, hb3, c4, rfl, hc4⟩ := paired_get pm hx2
          subst e
          rw [drop_at hm] at ea
          refine g_two (sqT_new hD3 _ _ hb3) (by decide) (by decide) (by decide) (by rw [l2]; exact lt10 (by decide) rfl) (by rw [l2]; exact lt10 (by decide) rfl) fun σ3 l3 _ _ g8 => ⟨_, g8, c4, rfl, ⟨_, sqT_new hD3 _ _ hc4⟩, turns_it walk_tup (fun l H' => ∃ acc : List Str, H' = upd H3 D3 (.lst (acc.map V.str)) ∧ acc ++ (mk.2.drop l ++ ((kd.2.drop (j + 1)).flatMap (·.2) ++ kWords (ks.drop (i + 1)))) = kWords ks) ⟨acc, rfl, by rw [← ea]; simp⟩ (fun j H' _ ⟨acc, e, _⟩ => e ▸ sqT_new hD3 _ _ hc4) (fun l x4 H' H4 hl ⟨acc, e, ea⟩ y => ?_) (fun H' ⟨acc, e, ea⟩ => ⟨acc, e, ?_⟩)⟩
          · obtain ⟨rfl, hx4⟩ := y
            rw [List.getElem?_map] at hx4
            obtain ⟨wd, hw, rfl⟩ := Option.map_eq_some_iff.mp hx4
            subst e
            have bd : acc.length ≤ 144 := Nat.le_trans (len_of_app ea) few.words
            rw [drop_at hw] at ea
            exact g_one (by decide) (by rw [l3, l2]; exact lt10 (by decide) rfl) fun σ4 _ _ g9 => ⟨_, g9, acc.map V.str, upd_same, by rw [List.length_map]; exact small1000 (by omega), acc ++ [wd], by rw [upd_upd, List.map_append]; rfl, by rw [← ea]; simp⟩
          · rw [List.length_map, List.drop_length] at ea
            simpa using ea
        · rw [lm, List.drop_length] at ea
          simpa using ea
      rw [ln, List.drop_length] at ea
      have ea : acc = kWords ks := by rw [← ea]; simp [kWords]
      subst ea
      subst e
      have x4 : Ex T H3 (upd H3 D3 (.lst ((kWords ks).map V.str))) := Ex.new hD3
      have hsW : SqL K (upd H3 D3 (.lst ((kWords ks).map V.str))) D3 ((kWords ks).map V.str) := .inl (.inl upd_same)
      generalize upd H3 D3 (.lst ((kWords ks).map V.str)) = H4 at x4 hsW
      have hsD4 := x4.sqL tb3 hsD3
      have hsM4 := x4.sqL tb3 hsM
      have tb4 : TbOk T H4 := x4.tb tb3
      have xx : Ex T H H4 := ((x1.trans x2).trans x3).trans x4
      have nn : (kNames ks).length ≤ 6 := by unfold kNames; rw [List.length_map]; exact few.kn
      have nm := few.makers
      refine ⟨_, rfl, D, kNames ks, rfl, hsD4, by omega, _, rfl, D, _, rfl, .inl hsD4, _, _, rfl, rfl, _, rfl, ?_⟩
      have li1 : ((kNames ks).map V.str).length = (kNames ks).length := List.length_map ..
      have li2 : ((kMakers ks).map V.str).length = (kMakers ks).length := List.length_map ..
      have no : (decide ((SL.uniq (kNames ks)).length < (kNames ks).length) || decide ((SL.uniq (kMakers ks)).length < (kMakers ks).length)) = true → goodK ks = false := fun z => by unfold goodK; rw [z]; rfl
      have yes : (decide ((SL.uniq (kNames ks)).length < (kNames ks).length) || decide ((SL.uniq (kMakers ks)).length < (kMakers ks).length)) = false → goodK ks = ((kWords ks).all fun w => decide (w = "number") || inV (.str w) ((kNames ks).map V.str)) := fun z => by unfold goodK; rw [z]; rfl
      have end0 : goodK ks = false → Q (.bl false) H4 := fun z => by
        have := kk H4 xx
        rw [z] at this
        exact this
      rw [li1]
      refine ite2 (fun g1 => iteT (end0 (no ?_))) (fun g1 => ?_)
      · have g1 := of_decide_eq_true g1
        rw [decide_eq_true (show (SL.uniq (kNames ks)).length < (kNames ks).length by omega), Bool.true_or]
      have g1 : ¬ (SL.uniq (kNames ks)).length < (kNames ks).length := fun z => g1 (decide_eq_true (by omega))
      refine ⟨_, rfl, D2, kMakers ks, rfl, hsM4, by omega, _, rfl, D2, _, rfl, .inl hsM4, _, _, rfl, rfl, _, rfl, ?_⟩
      rw [li2]
      refine ite2 (fun g2 => end0 (no ?_)) (fun g2 => ?_)
      · have g2 := of_decide_eq_true g2
        rw [decide_eq_true (show (SL.uniq (kMakers ks)).length < (kMakers ks).length by omega), Bool.or_true]
      have g2 : ¬ (SL.uniq (kMakers ks)).length < (kMakers ks).length := fun z => g2 (decide_eq_true (by omega))
      have gg := yes (by rw [decide_eq_false g1, decide_eq_false g2]; rfl)
      rw [gg] at kk
      refine ⟨_, rfl, D3, rfl, ⟨_, hsW⟩, tb4 Pt hT, fun H5 ht => ?_⟩
      have x5 : Ex T H4 H5 := Ex.tabbed hT ht
      have hsW5 := x5.sqL tb4 hsW
      have hsD5 := x5.sqL tb4 hsD4
      have tb5 := x5.tb tb4
      refine gen_bools (T := T) walk_list (kWords ks) (List.length_map ..).symm (fun w => decide (w = "number") || inV (.str w) ((kNames ks).map V.str)) (fun _ e => e.sqL tb5 hsW5) (fun i x wd H6 H7 x6 hw y Q' hq => ?_) (fun H6 x6 => kk H6 (xx.trans (x5.trans x6)))
      obtain ⟨rfl, hx⟩ := y
      rw [List.getElem?_map, hw] at hx
      cases hx
      refine ⟨rfl, _, rfl, rfl, _, rfl, ite2 (fun e => ?_) (fun e => ?_)⟩
      · have e := V.str.inj (of_decide_eq_true e)
        have := hq _ x6
        rw [decide_eq_true e, Bool.true_or] at this
        exact this
      · have e : ¬ wd = "number" := fun z => e (decide_eq_true (by rw [z]))
        have := hq _ x6
        rw [decide_eq_false e, Bool.false_or] at this
        exact ⟨_, rfl, _, rfl, D, _, rfl, .inl (x6.sqL tb5 hsD5), rfl, List.all_eq_true.mpr (fun z hz => by obtain ⟨u, _, rfl⟩ := List.mem_map.mp hz; rfl), this⟩
end
end JF
set_option Elab.async false
set_option linter.all false
set_option maxRecDepth 100000
set_option maxHeartbeats 4000000
namespace JF
open PySem PySem.Spec PyProof.Rows L2 GxR GA
abbrev sMakeArgs : Stmt := topS 56
abbrev sCallArgs : Stmt := topS 57
abbrev sBranch : Stmt := topS 58
abbrev sBranches : Stmt := topS 59
abbrev sBegins : Stmt := topS 61
abbrev sParts : Stmt := topS 62
abbrev sRow : Stmt := topS 63
abbrev sFunction : Stmt := topS 64
abbrev sFunctions : Stmt := topS 65
abbrev sProgram : Stmt := topS 66
def isMakeArgs : PyData → Bool := isTup 0 4 isRegister
def isCallArgs : PyData → Bool := isTup 0 8 isRegister
def isBranch : PyData → Bool := isPair isMakeArgs isNext
def isBranches : PyData → Bool := isTup 1 6 isBranch
/-- what stands behind a row's word, or none where there is no such word -/
def formOf (z : Str) : Option (List (PyData → Bool)) :=
  if z = "number" then some [isRegister, isNumber, isNext]
  else if z = "add" then some [isRegister, isRegister, isRegister, isNext]
  else if z = "sub" then some [isRegister, isRegister, isRegister, isNext]
  else if z = "less" then some [isRegister, isRegister, isNext, isNext]
  else if z = "make" then some [isRegister, isHigh, isMakeArgs, isNext]
  else if z = "match" then some [isRegister, isBranches]
  else if z = "call" then some [isRegister, isLow, isCallArgs, isNext]
  else if z = "give" then some [isRegister]
  else none
def fitAll : List (PyData → Bool) → List PyData → Bool
  | f :: fs, d :: ds => f d && fitAll fs ds
  | _, _ => true
def isRow : PyData → Bool
  | .tuple (.str z :: ds) => match formOf z with
    | some fs => decide (ds.length = fs.length) && fitAll fs ds
    | none => false
  | _ => false
def isFunction : PyData → Bool
  | .tuple [a, b, c, d] => (isLow a && isTup 0 8 isField b) && (isField c && isTup 1 60 isRow d)
  | _ => false
def isFunctions : PyData → Bool := isTup 1 12 isFunction
def isProgram : PyData → Bool := isPair isKinds isFunctions
section
variable {P : Program} {w : World} {K : PySem.W.Frag} {mg : Str → Option Value} {base : Heap} {T : List Addr}
theorem scMakeArgs : FnScope ["thing"] ["thing"] (defScope sMakeArgs) := ⟨rfl, rfl, rfl, by decide +kernel, rfl, by decide +kernel, by decide +kernel⟩
theorem ok_make_args {f g e : Addr} {fd gd : FuncData} (F : Fun K "are_make_args" "are_make_args" sMakeArgs f fd) (G : FnOk P w K mg base CX0 4 g gd ["thing", "least", "most", "fits"] (spTupleOf P w K mg base T 2)) (mG : mg "is_tuple_of" = some (.ref g)) (kG : PySem.W.keepIn K (.ref g) = true) (bG : Binds K gd ["thing", "least", "most", "fits"] [])
    (mE : mg "is_register" = some (.ref e)) (E : IsDef P w K mg base T 2 e (fun _ => True) isRegister) : FnOk P w K mg base CX0 5 f fd ["thing"] (spIs K T isMakeArgs) := by
  refine F.ok scMakeArgs (fun vs H Q E h => ?_) (fun cdv A outer s H vs Q E' hr h => ?_)
  · obtain ⟨v, d, rfl, _⟩ := h
    rfl
  · obtain ⟨v, d, rfl, r, tb, k⟩ := h
    refine ⟨_, pss_one (ps_ret (pe_call G hr rfl mG kG bG .nil pass0 (pa_cons (pv 0) (pa_cons pe_int (pa_cons pe_int (pa_cons (pe_glob (v := .ref e) rfl mE rfl) pa_nil)))))), ?_⟩
    exact ⟨v, rfl, v, d, _, _, e, _, _, rfl, r, in_any d, E, tb, k⟩
theorem scCallArgs : FnScope ["thing"] ["thing"] (defScope sCallArgs) := ⟨rfl, rfl, rfl, by decide +kernel, rfl, by decide +kernel, by decide +kernel⟩
theorem ok_call_args {f g e : Addr} {fd gd : FuncData} (F : Fun K "are_call_args" "are_call_args" sCallArgs f fd) (G : FnOk P w K mg base CX0 4 g gd ["thing", "least", "most", "fits"] (spTupleOf P w K mg base T 2)) (mG : mg "is_tuple_of" = some (.ref g)) (kG : PySem.W.keepIn K (.ref g) = true) (bG : Binds K gd ["thing", "least", "most", "fits"] [])
    (mE : mg "is_register" = some (.ref e)) (E : IsDef P w K mg base T 2 e (fun _ => True) isRegister) : FnOk P w K mg base CX0 5 f fd ["thing"] (spIs K T isCallArgs) := by
  refine F.ok scCallArgs (fun vs H Q E h => ?_) (fun cdv A outer s H vs Q E' hr h => ?_)
  · obtain ⟨v, d, rfl, _⟩ := h
    rfl
  · obtain ⟨v, d, rfl, r, tb, k⟩ := h
    refine ⟨_, pss_one (ps_ret (pe_call G hr rfl mG kG bG .nil pass0 (pa_cons (pv 0) (pa_cons pe_int (pa_cons pe_int (pa_cons (pe_glob (v := .ref e) rfl mE rfl) pa_nil)))))), ?_⟩
    exact ⟨v, rfl, v, d, _, _, e, _, _, rfl, r, in_any d, E, tb, k⟩
theorem scBranch : FnScope ["thing"] ["thing"] (defScope sBranch) := ⟨rfl, rfl, rfl, by decide +kernel, rfl, by decide +kernel, by decide +kernel⟩
theorem ok_branch {f g e1 e2 : Addr} {fd gd : FuncData} (F : Fun K "is_branch" "is_branch" sBranch f fd) (G : FnOk P w K mg base CX0 6 g gd ["thing", "fits_first", "fits_second"] (spPair P w K mg base T 5)) (mG : mg "is_pair" = some (.ref g)) (kG : PySem.W.keepIn K (.ref g) = true) (bG : Binds K gd ["thing", "fits_first", "fits_second"] [])
    (m1 : mg "are_make_args" = some (.ref e1)) (E1 : IsDef P w K mg base T 5 e1 (fun _ => True) isMakeArgs) (m2 : mg "is_next" = some (.ref e2)) (E2 : IsDef P w K mg base T 5 e2 (fun _ => True) isNext) : FnOk P w K mg base CX0 7 f fd ["thing"] (spIs K T isBranch) := by
  refine F.ok scBranch (fun vs H Q E h => ?_) (fun cdv A outer s H vs Q E' hr h => ?_)
  · obtain ⟨v, d, rfl, _⟩ := h
    rfl
  · obtain ⟨v, d, rfl, r, tb, k⟩ := h
    refine ⟨_, pss_one (ps_ret (pe_call G hr rfl mG kG bG .nil pass0 (pa_cons (pv 0) (pa_cons (pe_glob (v := .ref e1) rfl m1 rfl) (pa_cons (pe_glob (v := .ref e2) rfl m2 rfl) pa_nil))))), ?_⟩
    exact ⟨v, rfl, v, d, e1, e2, _, _, _, _, rfl, r, in_any2 d, E1, E2, tb, k⟩
theorem scBranches : FnScope ["thing"] ["thing"] (defScope sBranches) := ⟨rfl, rfl, rfl, by decide +kernel, rfl, by decide +kernel, by decide +kernel⟩
theorem ok_branches {f g e : Addr} {fd gd : FuncData} (F : Fun K "are_branches" "are_branches" sBranches f fd) (G : FnOk P w K mg base CX0 9 g gd ["thing", "least", "most", "fits"] (spTupleOf P w K mg base T 7)) (mG : mg "is_tuple_of" = some (.ref g)) (kG : PySem.W.keepIn K (.ref g) = true) (bG : Binds K gd ["thing", "least", "most", "fits"] [])
    (mE : mg "is_branch" = some (.ref e)) (E : IsDef P w K mg base T 7 e (fun _ => True) isBranch) : FnOk P w K mg base CX0 10 f fd ["thing"] (spIs K T isBranches) := by
  refine F.ok scBranches (fun vs H Q E h => ?_) (fun cdv A outer s H vs Q E' hr h => ?_)
  · obtain ⟨v, d, rfl, _⟩ := h
    rfl
  · obtain ⟨v, d, rfl, r, tb, k⟩ := h
    refine ⟨_, pss_one (ps_ret (pe_call G hr rfl mG kG bG .nil pass0 (pa_cons (pv 0) (pa_cons pe_int (pa_cons pe_int (pa_cons (pe_glob (v := .ref e) rfl mE rfl) pa_nil)))))), ?_⟩
    exact ⟨v, rfl, v, d, _, _, e, _, _, rfl, r, in_any d, E, tb, k⟩
theorem scFunctions : FnScope ["thing"] ["thing"] (defScope sFunctions) := ⟨rfl, rfl, rfl, by decide +kernel, rfl, by decide +kernel, by decide +kernel⟩
theorem ok_functions {f g e : Addr} {fd gd : FuncData} (F : Fun K "are_functions" "are_functions" sFunctions f fd) (G : FnOk P w K mg base CX0 17 g gd ["thing", "least", "most", "fits"] (spTupleOf P w K mg base T 15)) (mG : mg "is_tuple_of" = some (.ref g)) (kG : PySem.W.keepIn K (.ref g) = true) (bG : Binds K gd ["thing", "least", "most", "fits"] [])
    (mE : mg "is_function" = some (.ref e)) (E : IsDef P w K mg base T 15 e (fun _ => True) isFunction) : FnOk P w K mg base CX0 18 f fd ["thing"] (spIs K T isFunctions) := by
  refine F.ok scFunctions (fun vs H Q E h => ?_) (fun cdv A outer s H vs Q E' hr h => ?_)
  · obtain ⟨v, d, rfl, _⟩ := h
    rfl
  · obtain ⟨v, d, rfl, r, tb, k⟩ := h
    refine ⟨_, pss_one (ps_ret (pe_call G hr rfl mG kG bG .nil pass0 (pa_cons (pv 0) (pa_cons pe_int (pa_cons pe_int (pa_cons (pe_glob (v := .ref e) rfl mE rfl) pa_nil)))))), ?_⟩
    exact ⟨v, rfl, v, d, _, _, e, _, _, rfl, r, in_any d, E, tb, k⟩
theorem scProgram : FnScope ["thing"] ["thing"] (defScope sProgram) := ⟨rfl, rfl, rfl, by decide +kernel, rfl, by decide +kernel, by decide +kernel⟩
theorem ok_program {f g e1 e2 : Addr} {fd gd : FuncData} (F : Fun K "is_program" "is_program" sProgram f fd) (G : FnOk P w K mg base CX0 20 g gd ["thing", "fits_first", "fits_second"] (spPair P w K mg base T 19)) (mG : mg "is_pair" = some (.ref g)) (kG : PySem.W.keepIn K (.ref g) = true) (bG : Binds K gd ["thing", "fits_first", "fits_second"] [])
    (m1 : mg "is_kinds" = some (.ref e1)) (E1 : IsDef P w K mg base T 19 e1 (fun _ => True) isKinds) (m2 : mg "are_functions" = some (.ref e2)) (E2 : IsDef P w K mg base T 19 e2 (fun _ => True) isFunctions) : FnOk P w K mg base CX0 21 f fd ["thing"] (spIs K T isProgram) := by
  refine F.ok scProgram (fun vs H Q E h => ?_) (fun cdv A outer s H vs Q E' hr h => ?_)
  · obtain ⟨v, d, rfl, _⟩ := h
    rfl
  · obtain ⟨v, d, rfl, r, tb, k⟩ := h
    refine ⟨_, pss_one (ps_ret (pe_call G hr rfl mG kG bG .nil pass0 (pa_cons (pv 0) (pa_cons (pe_glob (v := .ref e1) rfl m1 rfl) (pa_cons (pe_glob (v := .ref e2) rfl m2 rfl) pa_nil))))), ?_⟩
    exact ⟨v, rfl, v, d, e1, e2, _, _, _, _, rfl, r, in_any2 d, E1, E2, tb, k⟩
/-! ### rows -/
theorem walk_zipT {a b : Addr} {xs ys : List V} (hl : ys.length = xs.length) : Walk (RZ.ItzT K a b) xs.length (fun H => SqT K H a xs ∧ SqT K H b ys) (YPair (fun i => xs[i]?) (fun i => ys[i]?)) := by
  refine ⟨fun i H hi q => ⟨xs, ys, xs[i], ys[i]'(by omega), q.1, q.2, by simp [hi], by simp [show i < ys.length by omega]⟩, fun H q => ⟨xs, ys, q.1, q.2, .inl (Nat.le_refl _)⟩, fun i H v H' _ q y => ?_⟩
  obtain ⟨T, x, z, h1, h2, h3, h4, h5⟩ := y
  exact ⟨T, x, z, h1, h2, h3, h4 xs q.1, h5 ys q.2⟩
/-- the module's table of forms -/
structure Forms (w : World) (K : PySem.W.Frag) (T : List Addr) (pR : Addr) (S : Addr → Option Sp) : Prop where
  dict : ∃ es n, KDict K w pR es n ∧ ∀ z v, PySem.W.nsIn K pR z = some (some v) → K.lookup pR = some ⟨.type "dict", none, .dict es n, #[]⟩ ∧ PySem.W.KeysLit w.params es.toList
  none : ∀ z, formOf z = none → PySem.W.nsIn K pR z = some none
  some : ∀ z fs, formOf z = some fs → ∃ (pF : Addr) (gs : List Addr), PySem.W.nsIn K pR z = some (some (.ref pF)) ∧ (∀ H, SqT K H pF (gs.map V.ref)) ∧ Paired (fun g f => S g = some (spIsD K T (fun _ => True) f)) gs fs
theorem form_pos {z : Str} {fs : List (PyData → Bool)} (h : formOf z = some fs) : 0 < fs.length := by
  unfold formOf at h
  repeat (first | (split at h; (first | (cases h; decide) | skip)) | cases h)
theorem fitAll_take : ∀ (fs : List (PyData → Bool)) (ds : List PyData) (i : Nat) (f : PyData → Bool) (d : PyData), fs[i]? = some f → ds[i]? = some d → f d = false → fitAll fs ds = false
  | g :: fs, e :: ds, 0, f, d, h1, h2, h3 => by
    cases h1
    cases h2
    show (_ && _) = false
    rw [h3]; rfl
  | g :: fs, e :: ds, i + 1, f, d, h1, h2, h3 => by
    show (_ && fitAll fs ds) = false
    rw [fitAll_take fs ds i f d h1 h2 h3, Bool.and_false]
theorem fitAll_all : ∀ (fs : List (PyData → Bool)) (ds : List PyData), (∀ (i : Nat) (f : PyData → Bool) (d : PyData), fs[i]? = some f → ds[i]? = some d → f d = true) → fitAll fs ds = true
  | [], _, _ => by unfold fitAll; rfl
  | _ :: _, [], _ => rfl
  | f :: fs, d :: ds, h => by
    show (f d && fitAll fs ds) = true
    rw [h 0 f d rfl rfl, fitAll_all fs ds fun i f d h1 h2 => h (i + 1) f d h1 h2]; rfl
theorem cut_one (x : V) (xs : List V) : cutV (x :: xs) (some 1) none = xs := by
  unfold cutV
  rw [show HT.sIx (x :: xs).length 0 (some 1) = min 1 (x :: xs).length from HT.sIx_nat _ 0 1, HT.sIx_none]
  have e : min 1 (x :: xs).length = 1 := by rw [List.length_cons]; omega
  rw [e]
  show List.take ((x :: xs).length - 1) xs = xs
  rw [List.length_cons, Nat.add_sub_cancel]
  exact List.take_length
/-- a tuple that begins with a text -/
def beginsWord : PyData → Bool
  | .tuple (.str _ :: _) => true
  | _ => false
theorem scBegins : FnScope ["thing"] ["thing"] (defScope sBegins) := ⟨rfl, rfl, rfl, by decide +kernel, rfl, by decide +kernel, by decide +kernel⟩
theorem ok_begins {f : Addr} {fd : FuncData} (F : Fun K "begins_with_word" "begins_with_word" sBegins f fd) (B : BI mg) : FnOk P w K mg base CX0 1 f fd ["thing"] (spIs K T beginsWord) := by
  refine F.ok scBegins (fun vs H Q E h => ?_) (fun cdv A' outer s H vs Q E' hr h => ?_)
  · obtain ⟨v, d, rfl, _⟩ := h
    rfl
  · obtain ⟨v, d, rfl, r, tb, k⟩ := h
    refine ⟨_, pss_one (ps_ret (pe_and (pe_cmpR op_isTy (pe_callTy call_type1 (by rfl) B.type (by decide +kernel) (pa_cons (pv 0) pa_nil)) (pe_bltn (v := .ty "tuple") (by rfl) B.tuple (by decide +kernel) rfl) (nomark _))
      (pe_and (pe_cmpR op_gt (pe_callB call_len_seq (by rfl) B.len PySem.boot_len (pa_cons (pv 0) pa_nil)) pe_int (nomark _))
        (pe_one (pe_cmpR op_isTy (pe_callTy call_type1 (by rfl) B.type (by decide +kernel) (pa_cons (pe_ix ix_tup (pv 0) pe_int (fun _ _ => rfl)) pa_nil)) (pe_bltn (v := .ty "str") (by rfl) B.str (by decide +kernel) rfl) (nomark _)))))), ?_⟩
    have go : ∀ b, beginsWord d = b → Q (.bl b) H := fun b e => by
      have := k H Ex.refl
      rw [e] at this
      exact this
    refine ⟨v, rfl, v, tyN d, rfl, r.ty, _, _, rfl, rfl, _, rfl, ite2 (fun e => ?_) (fun e => ?_)⟩
    · cases r with
      | @tup a xs ds hs rs =>
        refine ⟨_, rfl, a, xs, rfl, .inr hs, _, _, rfl, rfl, _, rfl, ite2 (fun e1 => ?_) (fun e1 => ?_)⟩
        · cases rs with
          | nil => exact absurd (of_decide_eq_true e1) (by show ¬ (0 : Int) < ((0 : Nat) : Int); decide)
          | @cons x0 xr d0 dr r0 rr =>
            refine ⟨_, rfl, a, _, _, _, rfl, rfl, hs, atI_nat (j := 0) rfl, x0, tyN d0, rfl, r0.ty, _, _, rfl, rfl, ?_⟩
            cases d0 <;> exact go _ (by first | rfl | decide)
        · cases rs with
          | nil => exact go _ rfl
          | @cons x0 xr d0 dr r0 rr => exact absurd (decide_eq_true (by rw [List.length_cons]; omega)) e1
      | non => exact absurd (of_decide_eq_true e) (by simp [tyN])
      | bl b => exact absurd (of_decide_eq_true e) (by simp [tyN])
      | int x => exact absurd (of_decide_eq_true e) (by simp [tyN])
      | str x h => exact absurd (of_decide_eq_true e) (by simp [tyN])
      | lst h q => exact absurd (of_decide_eq_true e) (by simp [tyN])
      | dic h => exact absurd (of_decide_eq_true e) (by simp [tyN])
    · refine go _ ?_
      cases d <;> first | rfl | exact absurd (decide_eq_true (by rfl)) e
/-- has_parts, of a tuple and a tuple of defs -/
def spParts (K : PySem.W.Frag) (T : List Addr) (S : Addr → Option Sp) : Sp := fun vs H Q _ => ∃ (v : V) (d0 : PyData) (dr : List PyData) (pF : Addr) (gs : List Addr) (fs : List (PyData → Bool)), vs = [v, .ref pF] ∧ Rp K H v (.tuple (d0 :: dr)) ∧
  (∀ H, SqT K H pF (gs.map V.ref)) ∧ Paired (fun g f => S g = some (spIsD K T (fun _ => True) f)) gs fs ∧ TbOk T H ∧ ∀ H', Ex T H H' → Q (.bl (decide (dr.length = fs.length) && fitAll fs dr)) H'
theorem scParts : FnScope ["thing", "form", "fits", "part"] ["thing", "form"] (defScope sParts) := ⟨rfl, rfl, rfl, by decide +kernel, rfl, by decide +kernel, by decide +kernel⟩
theorem ok_parts {f : Addr} {fd : FuncData} {S : Addr → Option Sp} (F : Fun K "has_parts" "has_parts" sParts f fd) (B : BI mg) (Bz : mg "zip" = none) (A : ∀ f sp, S f = some sp → Held P w K mg base 10 f sp) :
    FnOk P w K mg base CX0 11 f fd ["thing", "form"] (spParts K T S) := by
  refine F.ok scParts (fun vs H Q E h => ?_) (fun cdv A' outer s H vs Q E' hr h => ?_)
  · obtain ⟨v, d0, dr, pF, gs, fs, rfl, _⟩ := h
    rfl
  · obtain ⟨v, d0, dr, pF, gs, fs, rfl, r, hF, pg, tb, k⟩ := h
    refine ⟨_, pss_cons (ps_if (pt_cmpR op_ne (pe_callB call_len_seq (by rfl) B.len PySem.boot_len (pa_cons (pv 0) pa_nil)) (pe_op op_add (pe_callB call_len_seq (by rfl) B.len PySem.boot_len (pa_cons (pv 1) pa_nil)) pe_int) (nomark _)) (pss_one (ps_ret pe_bl)) pss_nil)
      (pss_cons (ps_for PassesOwn.never rfl (RZ.pi_zipA rfl Bz (pa_cons (pv 1) (pa_cons (pe_slice sl_tup (pv 0) (po_some pe_int) po_none) pa_nil))) (pg_two (i := 2) (j := 3) rfl rfl scParts.nd rfl rfl rfl rfl)
        (pss_one (ps_if (pt_not (pt_val (pe_callA (i := 2) A hr rfl (.inl rfl) (pa_cons (pv 3) pa_nil)))) (pss_one (ps_ret pe_bl)) pss_nil)))
      (pss_one (ps_ret pe_bl))), ?_⟩
    have no : (decide (dr.length = fs.length) && fitAll fs dr) = false → ∀ H', Ex T H H' → Q (.bl false) H' := fun e H' x => by
      have := k H' x
      rw [e] at this
      exact this
    cases r with
    | @tup a xs ds hs rs =>
      cases rs with
      | @cons x0 xr _ _ r0 rr =>
        have hl := rr.len
        have lg : gs.length = fs.length := paired_len pg
        refine ⟨_, rfl, a, _, rfl, .inr hs, _, rfl, pF, _, rfl, .inr (hF _), _, _, rfl, rfl, rfl, _, rfl, ite2 (fun e3 => ?_) (fun e3 => ?_)⟩
        · refine no ?_ H Ex.refl
          rw [decide_eq_false (fun q => ?_), Bool.false_and]
          have : xr.length = gs.length := by omega
          simp [this] at e3
        · have hlen : dr.length = fs.length := by
            have e3 : ¬ (!decide (V.int (((x0 :: xr).length : Nat) : Int) = V.int (((gs.map V.ref).length : Nat) + 1 : Int))) = true := e3
            simp at e3
            omega
          have hne : ¬ (HT.sIx (x0 :: xr).length 0 (some 1) = 0 ∧ HT.sIx (x0 :: xr).length (x0 :: xr).length none = (x0 :: xr).length) := fun q => by
            have := q.1
            rw [show HT.sIx (x0 :: xr).length 0 (some 1) = min 1 (x0 :: xr).length from HT.sIx_nat _ 0 1, List.length_cons] at this
            omega
          refine ⟨_, rfl, _, rfl, 1, rfl, a, _, rfl, hs, hne, fun p hp => ⟨pF, p, _, xr, rfl, .inr ⟨hF _, .inl (.inl (by rw [cut_one]; exact upd_same)), ?_⟩⟩⟩
          rw [cut_one]
          have x1 : Ex T H (upd H p (.tup xr)) := Ex.new hp
          have hxr : SqT K (upd H p (.tup xr)) p xr := .inl (.inl upd_same)
          generalize upd H p (.tup xr) = H1 at x1 hxr
          have tb1 := x1.tb tb
          have rr1 := rr.ex x1 tb
          refine for_it (walk_zipT (xs := gs.map V.ref) (by rw [List.length_map]; omega)) (fun i σ H' => σ.length = 4 ∧ Ex T H1 H' ∧ ∀ j < i, ∀ (f : PyData → Bool) (d : PyData), fs[j]? = some f → dr[j]? = some d → f d = true) ⟨rfl, Ex.refl, fun j hj => absurd hj (Nat.not_lt_zero j)⟩
            (fun i σ H' _ q => ⟨hF _, q.2.1.sqT tb1 hxr⟩) (fun i x σ H' H2 hi q y => ?_) (fun σ H' q => ?_)
          · obtain ⟨Tp, u, v2, rfl, hT, rfl, hu, hv⟩ := y
            obtain ⟨q5, qx, qa⟩ := q
            have hu : (gs.map V.ref)[i]? = some u := hu
            have hv : xr[i]? = some v2 := hv
            rw [List.getElem?_map] at hu
            obtain ⟨gg, hg, rfl⟩ := Option.map_eq_some_iff.mp hu
            obtain ⟨ff, hff, hS⟩ := paired_get pg hg
            obtain ⟨dd, hdd, rd⟩ := rr1.get hv
            have x2 : Ex T H' (upd H' Tp (.tup [.ref gg, v2])) := Ex.new hT
            have rd2 := rd.ex (qx.trans x2) tb1
            have tb2 := (qx.trans x2).tb tb1
            have hTp : SqT K (upd H' Tp (.tup [.ref gg, v2])) Tp [.ref gg, v2] := .inl (.inl upd_same)
            generalize upd H' Tp (.tup [.ref gg, v2]) = H3 at x2 rd2 tb2 hTp
            refine ⟨Tp, _, rfl, hTp, rfl, _, _, rfl, _, _, rfl, rfl, gg, _, ?_, hS, _, ?_, v2, dd, rfl, rd2, trivial, tb2, fun H4 x4 => ⟨_, rfl, ?_⟩⟩
            · rw [List.getElem?_set_ne (by decide)]
              exact List.getElem?_set_self (by rw [q5]; decide)
            · exact List.getElem?_set_self (by rw [List.length_set, q5]; decide)
            · show if (!ff dd) = true then _ else _
              cases e5 : ff dd with
              | false =>
                refine iteT (no ?_ H4 (x1.trans (qx.trans (x2.trans x4))))
                rw [fitAll_take fs dr i ff dd hff hdd e5, Bool.and_false]
              | true =>
                refine iteF ⟨by rw [List.length_set, List.length_set]; exact q5, qx.trans (x2.trans x4), fun j hj f' d' h1 h2 => ?_⟩
                rcases Nat.lt_succ_iff_lt_or_eq.mp hj with z | z
                · exact qa j z f' d' h1 h2
                · subst z
                  rw [hff] at h1
                  rw [hdd] at h2
                  cases h1
                  cases h2
                  exact e5
          · obtain ⟨_, qx, qa⟩ := q
            have := k H' (x1.trans qx)
            rw [decide_eq_true hlen, fitAll_all fs dr fun i f d h1 h2 => qa i (by
                rw [List.length_map, lg]
                exact (List.getElem?_eq_some_iff.mp h1).1) f d h1 h2] at this
            exact this
theorem scRow : FnScope ["thing"] ["thing"] (defScope sRow) := ⟨rfl, rfl, rfl, by decide +kernel, rfl, by decide +kernel, by decide +kernel⟩
theorem ok_row {f pR gB gH : Addr} {fd gdB gdH : FuncData} {S : Addr → Option Sp} (F : Fun K "is_row" "is_row" sRow f fd) (mR : mg "ROW_FORMS" = some (.ref pR)) (Fm : Forms w K T pR S)
    (GB : FnOk P w K mg base CX0 11 gB gdB ["thing"] (spIs K T beginsWord)) (mB : mg "begins_with_word" = some (.ref gB)) (kB : PySem.W.keepIn K (.ref gB) = true) (bB : Binds K gdB ["thing"] [])
    (GH : FnOk P w K mg base CX0 11 gH gdH ["thing", "form"] (spParts K T S)) (mH : mg "has_parts" = some (.ref gH)) (kH : PySem.W.keepIn K (.ref gH) = true) (bH : Binds K gdH ["thing", "form"] []) :
    FnOk P w K mg base CX0 12 f fd ["thing"] (spIs K T isRow) := by
  obtain ⟨es, n, D, Dk⟩ := Fm.dict
  refine F.ok scRow (fun vs H Q E h => ?_) (fun cdv A' outer s H vs Q E' hr h => ?_)
  · obtain ⟨v, d, rfl, _⟩ := h
    rfl
  · obtain ⟨v, d, rfl, r, tb, k⟩ := h
    refine ⟨_, pss_one (ps_ret (pe_and (pe_call GB hr rfl mB kB bB .nil pass0 (pa_cons (pv 0) pa_nil))
      (pe_and (pe_cmpR (op_in_kd D) (pe_ix ix_tup (pv 0) pe_int (fun _ _ => rfl)) (pe_glob (v := .ref pR) rfl mR rfl) rfl)
        (pe_one (pe_call GH hr rfl mH kH bH .nil pass0 (pa_cons (pv 0) (pa_cons (pe_ix ix_kdict (pe_glob (v := .ref pR) rfl mR rfl) (pe_ix ix_tup (pv 0) pe_int (fun _ _ => rfl)) (fun _ _ => rfl)) pa_nil))))))), ?_⟩
    refine ⟨v, rfl, v, d, rfl, r, tb, fun H1 x1 => ⟨_, rfl, ?_⟩⟩
    have no : isRow d = false → ∀ H', Ex T H H' → Q (.bl false) H' := fun e H' x => by
      have := k H' x
      rw [e] at this
      exact this
    cases e : beginsWord d with
    | false =>
      refine iteF (no ?_ H1 x1)
      match d, e with
      | .none, _ => rfl
      | .bool _, _ => rfl
      | .int _, _ => rfl
      | .str _, _ => rfl
      | .list _, _ => rfl
      | .dict _, _ => rfl
      | .tuple [], _ => rfl
      | .tuple (.none :: _), _ => rfl
      | .tuple (.bool _ :: _), _ => rfl
      | .tuple (.int _ :: _), _ => rfl
      | .tuple (.list _ :: _), _ => rfl
      | .tuple (.tuple _ :: _), _ => rfl
      | .tuple (.dict _ :: _), _ => rfl
    | true =>
      refine iteT ?_
      have r1 := r.ex x1 tb
      obtain ⟨z, dr, rfl⟩ : ∃ z dr, d = .tuple (.str z :: dr) := by
        match d, e with
        | .tuple (.str z :: dr), _ => exact ⟨z, dr, rfl⟩
      have r1' := r1
      cases r1 with
      | @tup a xs ds hs rs =>
        cases rs with
        | @cons x0 xr d0 _ r0 rr =>
          cases r0 with
          | str z hz =>
            cases hf : formOf z with
            | none =>
              refine ⟨_, rfl, a, _, _, _, rfl, rfl, hs, atI_nat (j := 0) rfl, z, none, rfl, rfl, Fm.none z hf, _, rfl, iteF (no ?_ H1 x1)⟩
              show (match formOf z with | some fs => _ | none => false) = false
              rw [hf]
            | some fs =>
              obtain ⟨pF, gs, hn, hF, pg⟩ := Fm.some z fs hf
              refine ⟨_, rfl, a, _, _, _, rfl, rfl, hs, atI_nat (j := 0) rfl, z, _, rfl, rfl, hn, _, rfl, iteT ?_⟩
              refine ⟨_, rfl, _, rfl, a, _, _, _, rfl, rfl, hs, atI_nat (j := 0) rfl, pR, z, .ref pF, rfl, rfl, ⟨es, n, .ref pF, (Dk z _ hn).1, (Dk z _ hn).2, hn, rfl⟩, ?_⟩
              refine ⟨_, _, _, pF, gs, fs, rfl, r1', hF, pg, x1.tb tb, fun H2 x2 => ?_⟩
              have := k H2 (x1.trans x2)
              have hR : isRow (.tuple (.str z :: dr)) = (decide (dr.length = fs.length) && fitAll fs dr) := by
                show (match formOf z with | some fs => decide (dr.length = fs.length) && fitAll fs dr | none => false) = _
                rw [hf]
              rw [hR] at this
              exact this
end
end JF
set_option Elab.async false
set_option linter.all false
set_option maxRecDepth 100000
set_option maxHeartbeats 4000000
namespace JF
open PySem PySem.Spec PyProof.Rows L2 GxR GA
section
variable {P : Program} {w : World} {K : PySem.W.Frag} {mg : Str → Option Value} {base : Heap} {T : List Addr}
theorem pg_four {X : Cx} {K : PySem.W.Frag} {i j l m k : Nat} {x y z u : Str} {p q r t pos : Pos} (hK : X.K = K) (hc : X.calm = true) (hN : X.N.Nodup) (hi : X.N[i]? = some x) (hj : X.N[j]? = some y) (hl : X.N[l]? = some z) (hm : X.N[m]? = some u)
    (hx : X.env.scope.names.lookup x = some .local) (hy : X.env.scope.names.lookup y = some .local) (hz : X.env.scope.names.lookup z = some .local) (hu : X.env.scope.names.lookup u = some .local) :
    PG X (.Tuple [.Name x p, .Name y q, .Name z r, .Name u t] k pos) (gTup K 4 (gCons (gName i) (gCons (gName j) (gCons (gName l) (gCons (gName m) gNil))))) := by
  rw [← hK]
  exact pg_tup hc (pgs_cons (pg_name hN hi (.inl hx) (.inr hx)) (pgs_cons (pg_name hN hj (.inl hy) (.inr hy)) (pgs_cons (pg_name hN hl (.inl hz) (.inr hz)) (pgs_cons (pg_name hN hm (.inl hu) (.inr hu)) pgs_nil))))
theorem scFunction : FnScope ["thing", "name", "params", "result", "rows"] ["thing"] (defScope sFunction) := ⟨rfl, rfl, rfl, by decide +kernel, rfl, by decide +kernel, by decide +kernel⟩
theorem ok_function {f g gL gF gR : Addr} {fd gd gdL gdF : FuncData} (F : Fun K "is_function" "is_function" sFunction f fd) (B : BI mg)
    (GL : FnOk P w K mg base CX0 14 gL gdL ["thing"] (spIs K T isLow)) (mL : mg "is_low_name" = some (.ref gL)) (kL : PySem.W.keepIn K (.ref gL) = true) (bL : Binds K gdL ["thing"] [])
    (GF : FnOk P w K mg base CX0 14 gF gdF ["thing"] (spIs K T isField)) (mF : mg "is_field_word" = some (.ref gF)) (kF : PySem.W.keepIn K (.ref gF) = true) (bF : Binds K gdF ["thing"] []) (EF : IsDef P w K mg base T 6 gF (fun _ => True) isField)
    (mR : mg "is_row" = some (.ref gR)) (ER : IsDef P w K mg base T 12 gR (fun _ => True) isRow)
    (G1 : FnOk P w K mg base CX0 14 g gd ["thing", "least", "most", "fits"] (spTupleOf P w K mg base T 6)) (G2 : FnOk P w K mg base CX0 14 g gd ["thing", "least", "most", "fits"] (spTupleOf P w K mg base T 12))
    (mG : mg "is_tuple_of" = some (.ref g)) (kG : PySem.W.keepIn K (.ref g) = true) (bG : Binds K gd ["thing", "least", "most", "fits"] []) : FnOk P w K mg base CX0 15 f fd ["thing"] (spIs K T isFunction) := by
  refine F.ok scFunction (fun vs H Q E h => ?_) (fun cdv A' outer s H vs Q E' hr h => ?_)
  · obtain ⟨v, d, rfl, _⟩ := h
    rfl
  · obtain ⟨v, d, rfl, r, tb, k⟩ := h
    refine ⟨_, pss_cons (ps_if (PW.pt (pw_or (pt_cmpR op_notTyB (pe_callTy call_type1 (by rfl) B.type (by decide +kernel) (pa_cons (pv 0) pa_nil)) (pe_bltn (v := .ty "tuple") (by rfl) B.tuple (by decide +kernel) rfl) (nomark _))
        (pw_or1 (pt_cmpR op_ne (pe_callB call_len_seq (by rfl) B.len PySem.boot_len (pa_cons (pv 0) pa_nil)) pe_int (nomark _))))) (pss_one (ps_ret pe_bl)) pss_nil)
      (pss_cons (ps_asg (pv 0) (pg_four (i := 1) (j := 2) (l := 3) (m := 4) rfl rfl scFunction.nd rfl rfl rfl rfl rfl rfl rfl rfl))
      (pss_cons (ps_if (PW.pt (pw_or (pt_not (pt_val (pe_call GL hr rfl mL kL bL .nil pass0 (pa_cons (pv 1) pa_nil))))
        (pw_or1 (pt_not (pt_val (pe_call G1 hr rfl mG kG bG .nil pass0 (pa_cons (pv 2) (pa_cons pe_int (pa_cons pe_int (pa_cons (pe_glob (v := .ref gF) rfl mF rfl) pa_nil)))))))))) (pss_one (ps_ret pe_bl)) pss_nil)
      (pss_one (ps_ret (pe_and (pe_call GF hr rfl mF kF bF .nil pass0 (pa_cons (pv 3) pa_nil)) (pe_one (pe_call G2 hr rfl mG kG bG .nil pass0 (pa_cons (pv 4) (pa_cons pe_int (pa_cons pe_int (pa_cons (pe_glob (v := .ref gR) rfl mR rfl) pa_nil))))))))))), ?_⟩
    have no : isFunction d = false → ∀ H', Ex T H H' → Q (.bl false) H' := fun e H' x => by
      have := k H' x
      rw [e] at this
      exact this
    refine ⟨v, rfl, v, tyN d, rfl, r.ty, _, _, rfl, rfl, _, rfl, ite2 (fun e => ?_) (fun e => ?_)⟩
    · refine iteT (no ?_ H Ex.refl)
      cases d <;> first | rfl | exact absurd e (by simp [tyN])
    · cases r with
      | @tup a xs ds hs rs =>
        have hl := rs.len
        refine ⟨_, rfl, a, xs, rfl, .inr hs, rfl, _, rfl, ite2 (fun e1 => ?_) (fun e1 => ?_)⟩
        · refine no ?_ H Ex.refl
          match ds, hl with
          | [], _ => rfl
          | [_], _ => rfl
          | [_, _], _ => rfl
          | [_, _, _], _ => rfl
          | [_, _, _, _], hl =>
            rw [hl] at e1
            exact absurd e1 (by simp)
          | _ :: _ :: _ :: _ :: _ :: _, _ => rfl
        · have e2 : ds.length = 4 := by
            simp at e1
            omega
          obtain ⟨a1, a2, a3, a4, rfl⟩ : ∃ a b c d, ds = [a, b, c, d] := by
            match ds, e2 with
            | [a, b, c, d], _ => exact ⟨a, b, c, d, rfl⟩
          cases rs with
          | @cons v1 _ _ _ r1 rs =>
          cases rs with
          | @cons v2 _ _ _ r2 rs =>
          cases rs with
          | @cons v3 _ _ _ r3 rs =>
          cases rs with
          | @cons v4 _ _ _ r4 rs =>
          cases rs
          have hF : isFunction (.tuple [a1, a2, a3, a4]) = ((isLow a1 && isTup 0 8 isField a2) && (isField a3 && isTup 1 60 isRow a4)) := rfl
          refine ⟨_, rfl, a, _, rfl, hs, rfl, _, _, rfl, _, _, rfl, _, _, rfl, _, _, rfl, rfl, ?_⟩
          refine ⟨_, rfl, v1, a1, rfl, r1, tb, fun H1 x1 => ⟨_, rfl, ?_⟩⟩
          show if (!isLow a1) = true then _ else _
          cases e3 : isLow a1 with
          | false =>
            refine iteT (iteT (no ?_ H1 x1))
            rw [hF, e3]; rfl
          | true =>
            refine iteF ⟨_, rfl, v2, a2, 0, 8, gF, _, _, rfl, r2.ex x1 tb, in_any a2, EF, x1.tb tb, fun H2 x2 => ⟨_, rfl, ?_⟩⟩
            show if (!isTup 0 8 isField a2) = true then _ else _
            cases e4 : isTup 0 8 isField a2 with
            | false =>
              refine iteT (no ?_ H2 (x1.trans x2))
              rw [hF, e3, e4]; rfl
            | true =>
              have x12 := x1.trans x2
              refine iteF ⟨_, rfl, v3, a3, rfl, r3.ex x12 tb, x12.tb tb, fun H3 x3 => ⟨_, rfl, ?_⟩⟩
              have x13 := x12.trans x3
              cases e5 : isField a3 with
              | false =>
                refine iteF (no ?_ H3 x13)
                rw [hF, e3, e4, e5]; rfl
              | true =>
                refine iteT ⟨_, rfl, v4, a4, 1, 60, gR, _, _, rfl, r4.ex x13 tb, in_any a4, ER, x13.tb tb, fun H4 x4 => ?_⟩
                have := k H4 (x13.trans x4)
                rw [hF, e3, e4, e5] at this
                exact this
      | non => exact absurd (by simp [tyN]) e
      | bl b => exact absurd (by simp [tyN]) e
      | int x => exact absurd (by simp [tyN]) e
      | str x h => exact absurd (by simp [tyN]) e
      | lst h q => exact absurd (by simp [tyN]) e
      | dic h => exact absurd (by simp [tyN]) e
end
end JF
set_option Elab.async false
set_option linter.all false
set_option maxRecDepth 100000
set_option maxHeartbeats 4000000
/-! an error class over an own class over ValueError: its __init__ says super().__init__(text) and stores one field -/
namespace SI
open PySem PySem.W PySem.Calls PyProof.Rows PySem.HandSPX
/-! ### the method-wrapper of ValueError.__init__, called -/
theorem mw_call {prog : Program} {w : World} {A : Around} {E : Value → Shared → Prop} {h : Heap} {g : Array GenState} {d : Drawn} {t : Nat} {os : OsState} {nm q : Str} {C N u e t0 : Addr} {bs bm : List Value} {hdct : Bool} {sn : List Str} {sub : List Value} {ab : Bool} {col : Option Bool} {dd : Option Addr} {k0 k1 k2 k3 k5 : Option Value} {rest : List Value} {Q : Value → Shared → Prop}
    (hC : h.get? C = some (excClassObj nm q C N bs bm hdct sn sub ab col dd k0 k1 k2 k3 k5 "ValueError.__new__")) (he : h.get? e = some (excO C t0)) (hu : h.get? u = some (kxs_mw "ValueError.__init__" e)) (hz : rest.length ≤ sizeLine)
    (hq : ∀ h' t1, (∀ b o, b ≠ e → h.get? b = some o → h'.get? b = some o) → h'.get? e = some (excO C t1) → Q .none ⟨h', g, d, t, os⟩) : wpAny (model prog w) A (call (.ref u) rest) Q E ⟨h, g, d, t, os⟩ := by
  refine wpAny_call (codeAny_of_tree (?_ : wpAny _ A.in1 (callAny (.ref u) ⟨rest, []⟩) _ _ _)); simp only [callAny]
  refine wpAny_bind (wpAny_load hu ?_); simp only [kxs_mw, (by decide : (Value.type "method-wrapper" == Value.type "method" || Value.type "method-wrapper" == Value.type "builtin_function_or_method" || Value.type "method-wrapper" == Value.type "method-wrapper") = true), if_true]
  refine KFB.if_so (by decide) (wpAny_bind (check_bound_init F.excBase_ValueError.toExcCallFacts hC he rfl (wpAny_bind (wpAny_pure (wpAny_pure ⟨plainId_quiet F.excBase_ValueError.init.plain _, codeAny_builtin F.excBase_ValueError.initEntry ?_⟩)))))
  exact exc_init_tree (cls := .ref C) (t0 := t0) (dv := none) (c2 := .none) (c3 := .none) (b4 := .bool false) he hz fun h' k he' _ => hq h' _ k he'

/-! ### the text of __init__ -/
def iA (f : Str) (p1 p2 : Pos) : Arguments := { posonlyargs := [], args := [{ arg := "self", annotation := none, pos := p1 }, { arg := f, annotation := none, pos := p2 }], vararg := none, kwonlyargs := [], kw_defaults := [], kwarg := none, defaults := [] }
def iB (f msg : Str) (q1 q2 q3 q4 q5 q6 q7 q8 q9 q10 : Pos) : List Stmt :=
  [.Expr (.Call (.Attribute (.Call (.Name "super" q1) [] [] q2) "__init__" q3) [.Constant (.str msg) 0 q4] [] q5) q6, .Assign [.Attribute (.Name "self" q7) f q8] (.Name f q9) q10]
def iS (f : Str) : Scope := { kind := .function, names := [(PySem.Str.ofString "self", .local), (f, .local), (PySem.Str.ofString "__class__", .free), (PySem.Str.ofString "super", .globalImplicit)], isGenerator := false, isCoroutine := false, more := [] }
/-- how the call of super().__init__ is read -/
def MEq (env : Env) (msg : Str) (q1 q2 q3 q4 q5 : Pos) : Prop := ∃ pl : Sem Bool, eval (.Call (.Attribute (.Call (.Name "super" q1) [] [] q2) "__init__" q3) [.Constant (.str msg) 0 q4] [] q5) env = (do
  let o ← attributeBase (.Call (.Name "super" q1) [] [] q2) "__init__" env (eval (.Call (.Name "super" q1) [] [] q2) env)
  standAt q3.atName
  let (m, first) ← holding [o] (getMethod o "__init__" pl)
  callWith q5 m first (backTo q5 (starEach [.Constant (.str msg) 0 q4] env)) [])
/-- a field's name is none of the others -/
structure Nm (f : Str) : Prop where
  a : (("self" : Str) == f) = false
  b : (("super" : Str) == f) = false
  c : (("__class__" : Str) == f) = false
  d : (f == ("self" : Str)) = false
  e : (f == ("__debug__" : Str)) = false
structure OwnTxt (prog : Program) (K : Frag) (mg : Str → Option Value) (x f msg : Str) (C fI : Addr) (fd : FuncData) : Prop where
  nf : Nm f
  gC : mg x = some (.ref C)
  cls : ∃ nm q N bs bm sn sub ab col dd k0 k1 k2 k3 k5, K.lookup C = some (excClassObj nm q C N bs bm true sn sub ab col dd k0 k1 k2 k3 k5 "ValueError.__new__") ∧ refsVE bm = true
  sa : findIn K (.ref C) "__setattr__" = some (some (.builtin "object.__setattr__"))
  ga : findIn K (.ref C) "__getattribute__" = some (some (.builtin "BaseException.__getattribute__"))
  gg : findIn K (.ref C) "__getattr__" = some none
  noN : findIn K (.ref C) f = some none
  iC : findIn K (.ref C) "__init__" = some (some (.ref fI))
  tC : typeIn K (.ref fI) = some (.type "function")
  kC : keepIn K (.ref C) = true
  exC : subIn K (.ref C) (.type "BaseException") = some true
  veC : subIn K (.ref C) (.type "ValueError") = some true
  tyC : typeIn K (.ref C) = some (.type "type")
  hdC : hasDictIn K C = true
  mrC : mroIn K C (.ref C) = some true
  supC : ks_superIn K C C "__init__" = some (some (.builtin "ValueError.__init__"))
  opq : nsIn K cStatics "thirdparty.any" = some none
  noS : mg "super" = none
  top : (prog.main.scope.names.lookup ("super" : Str)).isSome = false
  fn : ∃ (qual : Str) (oc ccl cl : Value) (od cdd cld : Option Addr) (kV doc pm : Value) (an : Option Addr) (cda cc : Addr) (ct : Value) (osl ccs csl : Array (Option Value)) (vs : Array Value) (file : Str) (tf : Tok) (p1 p2 q1 q2 q3 q4 q5 q6 q7 q8 q9 q10 : Pos),
    fd = ksFn "__init__" qual (iA f p1 p2) (iB f msg q1 q2 q3 q4 q5 q6 q7 q8 q9 q10) (iS f) .none kV doc pm an (.ref cda) ct cc ∧ K.lookup fI = some ⟨oc, od, .func fd, osl⟩ ∧ (∀ L, MEq (callEnv fd L fI) msg q1 q2 q3 q4 q5) ∧ codeIn K (.ref cda) qual = true ∧
    K.lookup cda = some ⟨ccl, cdd, .fields vs, ccs⟩ ∧ vs[2]? = some (.str file tf) ∧ ((prog.main.file : Str) == file) = true ∧ K.lookup cc = some ⟨cl, cld, .cell (some (.ref C)), csl⟩
/-- what __init__ leaves of a fresh exception at x -/
structure Done (h h' : Heap) (x C dx t1 : Addr) (f : Str) (v : Value) : Prop where
  keep : ∀ b o, b ≠ x → h.get? b = some o → h'.get? b = some o
  obj : h'.get? x = some { cls := .ref C, dict := some dx, data := .fields #[.ref t1, .none, .none, .none, .bool false, .none] }
  big : h.objs.size ≤ dx
  ne : dx ≠ x
  ns : h'.Ns1 dx (fun y => if y = f then some v else none)
section
variable {prog : Program} {w : World} {A : Around} {E : Value → Shared → Prop} {R : Result → Shared → Prop} {s : Shared} {K : Frag} {mg : Str → Option Value} {x f msg : Str} {C fI : Addr} {fd : FuncData}
theorem own_init (T : OwnTxt prog K mg x f msg C fI fd) {e t0 : Addr} {v : Value} {args : Args} (hb : bindArgs fd args = pure [(("self" : Str), .ref e), (f, v)]) (X : K.In s.heap) (G : s.heap.Ns mainGlobals mg) (Bl : ∃ mb, s.heap.Ns builtinsNs mb ∧ mb "super" = some (.type "super")) (hlim : s.heap.NoLimit) (hx : s.heap.get? e = some (excO C t0)) (hnK : K.lookup e = none) (hroom : A.depth < recursionLimit)
    (hq : ∀ h' tk t1 dx, Done s.heap h' e C dx t1 f v → R (.ok (.ret .none)) { s with heap := h', toks := tk }) : codeAny (model prog w) A (.call (.ref fI) args) R s := by
  obtain ⟨qual, oc, ccl, cl, od, cdd, cld, kV, doc, pm, an, cda, cc, ct, osl, ccs, csl, vs, file, tf, p1, p2, q1, q2, q3, q4, q5, q6, q7, q8, q9, q10, rfl, ho, hme, hcd, hcode, hvs, hfile, hcell⟩ := T.fn
  obtain ⟨nm, q, N, bs, bm, sn, sub, ab, col, dd, k0, k1, k2, k3, k5, hC, hbm⟩ := T.cls
  have nf := T.nf
  have hne : e ≠ C := fun z => by
    rw [z, hC] at hnK
    cases hnK
  have ff : (f == f) = true := by simp
  have hcl : clsIn K C = some { name := nm, bases := bs, mro := .ref C :: bm, ns := N, qualname := q, hasDict := true, slotNames := sn, subclasses := sub, abstract := ab, collection := col, hasDel := false } := by unfold clsIn; rw [hC] <;> rfl
  refine ks_codeAny_call_defAt (fd := ksFn "__init__" qual (iA f p1 p2) (iB f msg q1 q2 q3 q4 q5 q6 q7 q8 q9 q10) (iS f) .none kV doc pm an (.ref cda) ct cc) (body := iB f msg q1 q2 q3 q4 q5 q6 q7 q8 q9 q10) (binds := [("self", .ref e), (f, v)]) hroom (X _ _ ho) rfl hlim (codeRec_of X hcd) rfl (BindsTo.of_eq hb) ?cell ?loc (fun h₁ hns k => ?_) rfl rfl rfl
  case cell =>
    intro y hy
    have hy : y ∈ [(PySem.Str.ofString "self", NameKind.local), (f, .local), (PySem.Str.ofString "__class__", .free), (PySem.Str.ofString "super", .globalImplicit)] := hy
    simp only [List.mem_cons, List.not_mem_nil, or_false] at hy
    rcases hy with rfl | rfl | rfl | rfl <;> simp
  case loc =>
    intro y hy
    simp only [List.mem_cons, List.not_mem_nil, or_false] at hy
    rcases hy with rfl | rfl
    · rfl
    · show List.lookup f [(PySem.Str.ofString "self", NameKind.local), (f, .local), (PySem.Str.ofString "__class__", .free), (PySem.Str.ofString "super", .globalImplicit)] = some .local
      simp [List.lookup, nf.d]
  have X₁ := X.keeps k
  have ks1 : (iS f).names.lookup ("super" : Str) = some .globalImplicit := by simp [iS, List.lookup, nf.b]; decide
  have ks2 : (iS f).names.lookup ("__class__" : Str) = some .free := by simp [iS, List.lookup, nf.c]; decide
  have ks3 : (iS f).names.lookup ("self" : Str) = some .local := by simp [iS, List.lookup]
  have ks4 : (iS f).names.lookup f = some .local := by simp [iS, List.lookup, nf.d]
  obtain ⟨mb, hbl, hsu⟩ := Bl
  obtain ⟨pl, hme⟩ := hme s.heap.objs.size
  refine ks_wpAt_execs_cons (ks_wpAt_Expr_any (ks_wpAt_MethodCall (pl := pl) (ks_wpAt_super_base ks1 ks2 (by decide) rfl (X₁ _ _ ho) rfl rfl rfl (X₁ _ _ hcode) rfl hvs hfile T.top ?_) hme))
  refine ks_loadName_global rfl ks1 (Calls.loadGlobal_builtin (mb := mb) (G.keeps k) T.noS (hbl.keeps k) hsu ⟨rfl, wpAny_loadName_free rfl ks2 rfl ⟨_, X₁ _ _ hcell, rfl⟩ (wpAny_loadName_local (v := .ref e) rfl ks3 hns (by simp [List.lookup, nf.a]) ?_)⟩)
  have hC1 := X₁ _ _ hC
  have hx1 := k _ _ hx
  refine ks_wpAny_isType_cls hC1 rfl ⟨rfl, ks_wpAny_call_super hC1 rfl hx1 rfl (fun c z => by cases z) (looks_mroIn X₁ T.mrC) (fun h₂ ho2 k2 => ?_)⟩
  have k12 : ∀ b o, s.heap.get? b = some o → h₂.get? b = some o := fun b o z => k2 b o (k b o z)
  have X₂ := X.keeps k12
  have hx2 := k12 _ _ hx
  have I2 : InstAt h₂ e (excO C t0) C none := ⟨hx2, rfl, rfl, trivial⟩
  have hal : alongIn K "__init__" (((Value.ref C :: bm).dropWhile (· != .ref C)).drop 1) = some (some (.builtin "ValueError.__init__")) := by
    have z := T.supC
    unfold ks_superIn at z
    rw [hcl] at z
    exact z
  refine kxs_getMethod kxs_ValueError ho2 (looks_opaque X₂ T.opq) (l₀ := Value.ref C :: bm) (fun A Q E s k q => wpAny_bind ((looks_clsIn X₂ hcl) A _ E s k (wpAny_pure q))) rfl X₂ hal (I2.type.andThen (looks_subIn X₂ T.veC)) hne (by decide) ?_
  refine kxs_callWith (i := "ValueError.__init__") (x := e) rfl (Calls.evalArgs_plain (Calls.spliced_cons ?_))
  show wpAny _ _ (eval (Expr.Constant (Const.str msg) 0 q4) _) _ _ _
  refine Calls.Constant_str (Calls.spliced_nil ⟨Heap.get?_push_at rfl rfl, ?_⟩)
  have k13 : ∀ b o, s.heap.get? b = some o → (h₂.push (kxs_mw "ValueError.__init__" e)).get? b = some o := fun b o z => Heap.get?_push_of_some _ (k12 b o z)
  refine mw_call (k13 _ _ (X _ _ hC)) (k13 _ _ hx) (Heap.get?_push_at rfl rfl) (by show 1 ≤ sizeLine; rw [sizeLine_eq]; omega) (fun h₃ t1 k3 hx3 => ?_)
  have hxL : s.heap.objs.size ≠ e := Nat.ne_of_gt (Heap.lt_size hx)
  have k14 : ∀ b o, b ≠ e → s.heap.get? b = some o → h₃.get? b = some o := fun b o hb z => k3 b o hb (k13 b o z)
  have X₃ : K.In h₃ := fun b o z => k14 b o (fun y => by rw [y, hnK] at z; cases z) (X b o z)
  have hL3 : h₃.Ns s.heap.objs.size (fun y => [((PySem.Str.ofString "self"), Value.ref e), (f, v)].reverse.lookup y) := hns.at fun o z => k3 _ o hxL (Heap.get?_push_of_some _ (k2 _ o z))
  refine wpAt_of_wpAny (wpAny_execs_cons (plainObj_wpAny_Assign_Attribute ?_))
  refine wpAny_Name (wpAny_loadName_local (v := v) rfl ks4 hL3 (by simp [List.lookup]) (wpAny_Name (wpAny_loadName_local (v := .ref e) rfl ks3 hL3 (by simp [List.lookup, nf.a]) ?_) (by decide))) nf.e
  refine set_plain X₃ (ox := excO C t1) (od := none) ⟨hx3, rfl, rfl, trivial⟩ T.sa ?_
  refine exc_osa X₃ hx3 hcl (show refsVE (.ref C :: bm) = true from hbm) rfl T.noN (fun h₄ tk₄ dx k4 dn dne hx4 hn4 => ?_)
  refine wpAny_execs_nil (hq h₄ tk₄ t1 dx ⟨fun b o hb z => k4 b o hb (k14 b o hb z), hx4, ?_, dne, hn4⟩)
  exact Nat.le_of_lt (Nat.lt_of_lt_of_le hL3.lt dn)
/-- such an error, made -/
structure Made (h h' : Heap) (e C d : Addr) (f : Str) (v : Value) : Prop where
  keep : ∀ b o, h.get? b = some o → h'.get? b = some o
  new : h.objs.size ≤ e
  obj : ∃ oe vs, h'.get? e = some oe ∧ oe.cls = .ref C ∧ oe.dict = some d ∧ oe.data = .fields vs ∧ vs[1]? = some .none ∧ vs[2]? = some .none
  big : h.objs.size ≤ d
  ne : d ≠ e
  ns : h'.Ns1 d (fun y => if y = f then some v else none)
theorem own_made (T : OwnTxt prog K mg x f msg C fI fd) {v : Value} (hb : ∀ e, bindArgs fd ⟨[.ref e, v], []⟩ = pure [(("self" : Str), .ref e), (f, v)]) (X : K.In s.heap) (G : s.heap.Ns mainGlobals mg) (Bl : ∃ mb, s.heap.Ns builtinsNs mb ∧ mb "super" = some (.type "super")) (hlim : s.heap.NoLimit) (hroom : A.depth + 1 < recursionLimit)
    (hq : ∀ h' tk e d, Made s.heap h' e C d f v → R (.ok (.ret (.ref e))) { s with heap := h', toks := tk }) : codeAny (model prog w) A (.call (.ref C) ⟨[v], []⟩) R s := by
  obtain ⟨nm, q, N, bs, bm, sn, sub, ab, col, dd, k0, k1, k2, k3, k5, hC, hbm⟩ := T.cls
  obtain ⟨hp, g, dr, tk, os⟩ := s
  have kk : ∀ b o, hp.get? b = some o → ((hp.push (kdv_tup [v])).push (excO C hp.objs.size)).get? b = some o := fun b o z => Heap.get?_push_of_some _ (Heap.get?_push_of_some _ z)
  have at1 : ((hp.push (kdv_tup [v])).push (excO C hp.objs.size)).get? (hp.objs.size + 1) = some (excO C hp.objs.size) := by heap_get
  have notK : K.lookup (hp.objs.size + 1) = none := by
    cases z : K.lookup (hp.objs.size + 1) with
    | none => rfl
    | some o => exact absurd (Nat.lt_of_succ_lt (Heap.lt_size (show hp.get? (hp.objs.size + 1) = some o from X _ _ z))) (Nat.lt_irrefl _)
  obtain ⟨mb, hbl, hsu⟩ := Bl
  refine call_own F.excBase_ValueError (fun Y => refsVE_contains Y bm hbm) (X _ _ hC) (looks_findIn X T.iC) (fun self => bind_fn X self T.tC) (by rw [sizeLine_eq]; exact (by decide : 1 ≤ 16777216)) ?_
  refine own_init (s := ⟨(hp.push (kdv_tup [v])).push (excO C hp.objs.size), g, dr, tk, os⟩) T (hb _) (X.keeps kk) (G.keeps kk) ⟨mb, hbl.keeps kk, hsu⟩ (hlim.keeps kk) at1 notK hroom fun h' tk' t1 dx D => ?_
  have old : ∀ b o, hp.get? b = some o → h'.get? b = some o := fun b o z => D.keep b o (Nat.ne_of_lt (Nat.lt_succ_of_lt (Heap.lt_size z))) (kk b o z)
  have big : hp.objs.size + 1 + 1 ≤ dx := by
    have z := D.big
    first
      | exact z
      | (rw [Heap.size_push, Heap.size_push] at z; exact z)
  exact ⟨rfl, hq h' tk' (hp.objs.size + 1) dx ⟨old, Nat.le_succ _, ⟨_, _, D.obj, rfl, rfl, rfl, rfl, rfl⟩, Nat.le_trans (Nat.le_trans (Nat.le_succ _) (Nat.le_succ _)) big, D.ne, D.ns⟩⟩
end
end SI
set_option Elab.async false
set_option linter.all false
set_option maxRecDepth 100000
set_option maxHeartbeats 4000000
/-! the errors of SupInit: raised, their field read -/
namespace SI
open PySem PySem.Spec PyProof.Rows L2 PySem.HandSPX
theorem relO_one {f y : Str} {v : V} {u : Value} (r : RelV v u) : RelO (List.lookup y [(f, v)]) (if y = f then some u else none) := by
  by_cases h : y = f
  · subst h
    rw [if_pos rfl, show List.lookup y [(y, v)] = some v by simp [List.lookup]]
    exact r
  · have h2 : (y == f) = false := by simpa using h
    rw [if_neg h, show List.lookup y [(f, v)] = none by simp [List.lookup, h2]]
    trivial
section
variable {X : Cx} {pins : List (Addr × Obj)} {σ : L2.St} {H : Hp} {s : Shared}
theorem bl_super (I : L2.Inv X pins σ H s) : ∃ mb, s.heap.Ns builtinsNs mb ∧ mb "super" = some (.type "super") := by
  obtain ⟨mb, h1, h2⟩ := I.mod.blt
  exact ⟨mb, h1.keeps I.bk, (h2 _ (by decide)).trans PyProof.Rows.Boot.«super»⟩
variable {x f msg : Str} {C fI : Addr} {fd : FuncData}
/-- what stands behind the making: the error at e, its dict at d -/
theorem made_inv {hp h' : Heap} {g : Array GenState} {dr : Drawn} {tk tk' : Nat} {os : OsState} {e d : Addr} {v : V} {u : Value} (I : L2.Inv X pins σ H ⟨hp, g, dr, tk, os⟩) (M : Made hp h' e C d f u) (r : RelV v u) :
    L2.Inv X pins σ (upd H d (.xd [(f, v)])) ⟨h', g, dr, tk', os⟩ :=
  I.laid (t' := tk') M.keep M.big ⟨_, M.ns, fun y => relO_one r⟩
/-- C(a) -/
def tMk (C : Addr) (f : Str) (ta : TA) : L2.St → Hp → XK → Prop := fun σ H Q => ta σ H fun vs H1 => ∃ y, vs = [y] ∧ ∀ d, H1 d = none → Q (.ref C) (some d) (upd H1 d (.xd [(f, y)]))
theorem pmk_supN {a : Expr} {ta : TA} {p pos : Pos} {k : Nat} (T : OwnTxt X.prog X.K X.mg x f msg C fI fd) (hb : ∀ e v, bindArgs fd ⟨[.ref e, v], []⟩ = pure [(("self" : Str), .ref e), (f, v)]) (hr : Room (k + 1) X.A) (hg : Gl X x) (ha : PA X [a] ta) (hdb : (x == ("__debug__" : Str)) = false := by decide)
    (hs : starEach [a] X.env = (false, eval a X.env) :: starEach [] X.env := by rfl) : L2N.PMk X (.Call (.Name x p) [a] [] pos) (tMk C f ta) := by
  intro pins s σ H Q I h
  refine wpAny_Call_Name_kw (ld_glob I hg T.gC ?_ hdb)
  refine PySem.W.callWith_K (h₀ := X.base) I.ok.mod.kin T.kC (thn (ha.run pos pins s σ H _ I h) fun us s1 hh => ?_) hs (by rfl)
  obtain ⟨vs, H1, I1, r1, y, rfl, q⟩ := hh
  refine ⟨I1.kIn, ?_⟩
  obtain ⟨u, rfl, ry⟩ := vals1 r1
  obtain ⟨hp, g, dr, tk, os⟩ := s1
  show wpAny _ _ (call (.ref C) [u]) _ _ _
  refine wpAny_call (own_made T (hb · u) I1.kIn (I1.mod.glob.keeps I1.bk) (bl_super I1) I1.nolimit (by have := hr.dp; omega) fun h' tk' e d M => ?_)
  show L2N.MkP X pins σ Q (.ref e) ⟨h', g, dr, tk', os⟩
  obtain ⟨oe, fv, hoe, hc, hd, hdat, h1⟩ := M.obj
  obtain ⟨G', c1, c2⟩ := restrict h' fun b => decide (b ≠ e)
  have gk : ∀ b, b ≠ e → G'.get? b = h'.get? b := fun b z => c1 b (decide_eq_true z)
  have ge : G'.get? e = none := c2 e (by simp)
  have M' : L2.Inv X pins σ (upd H1 d (.xd [(f, y)])) ⟨G', g, dr, tk', os⟩ :=
    I1.laid (t' := tk') (fun b o z => (gk b (Nat.ne_of_lt (Nat.lt_of_lt_of_le (Heap.lt_size z) M.new))).trans (M.keep b o z)) M.big ⟨_, M.ns.at fun o z => (gk d M.ne).trans z, fun y' => relO_one ry⟩
  refine ⟨e, oe, fv, ⟨G', g, dr, tk', os⟩, _, .ref C, some d, rfl, M', fun b o z => ?_, ge, hoe, ⟨hc, hd, fun ws z => by rw [hdat] at z; cases z; exact h1.2⟩, hdat, h1.1, ?_, rfl, I1.bare, raises_own T.exC T.tyC, q d (I1.hok.fresh M.big)⟩
  · by_cases hbe : b = e
    · subst hbe
      cases (show G'.get? b = some o from z).symm.trans ge
    · exact (gk b hbe).symm.trans z
  · rw [upd_ne (Ne.symm M.ne)]
    exact I1.hok.fresh M.new
theorem old_mk {e : Expr} {t : L2.St → Hp → XK → Prop} (h : L2N.PMk X e t) : L2.PMk X e t := fun pins s σ H Q I q =>
  wpAny_mono (h pins s σ H Q I q) (fun _ _ ⟨a, oe, vs, sI, H', cls, d, e, J, k, hne, ha, hz, r⟩ => ⟨a, oe, vs, sI, H', cls, d, e, J, k, hne, ha, hz.zc, r⟩) fun _ _ x => x
theorem pmk_sup {a : Expr} {ta : TA} {p pos : Pos} {k : Nat} (T : OwnTxt X.prog X.K X.mg x f msg C fI fd) (hb : ∀ e v, bindArgs fd ⟨[.ref e, v], []⟩ = pure [(("self" : Str), .ref e), (f, v)]) (hr : Room (k + 1) X.A) (hg : Gl X x) (ha : PA X [a] ta) (hdb : (x == ("__debug__" : Str)) = false := by decide)
    (hs : starEach [a] X.env = (false, eval a X.env) :: starEach [] X.env := by rfl) : L2.PMk X (.Call (.Name x p) [a] [] pos) (tMk C f ta) := old_mk (pmk_supN T hb hr hg ha hdb hs)
/-- C(a).f -/
def tFieldOf (f : Str) (ta : TA) : TE := fun σ H Q => ta σ H fun vs H1 => ∃ y, vs = [y] ∧ ∀ d, H1 d = none → Q y (upd H1 d (.xd [(f, y)]))
theorem pe_field_of {a : Expr} {ta : TA} {p pos pos2 : Pos} {k : Nat} (T : OwnTxt X.prog X.K X.mg x f msg C fI fd) (hb : ∀ e v, bindArgs fd ⟨[.ref e, v], []⟩ = pure [(("self" : Str), .ref e), (f, v)]) (hr : Room (k + 1) X.A) (hg : Gl X x) (ha : PA X [a] ta) (hdb : (x == ("__debug__" : Str)) = false := by decide)
    (hs : starEach [a] X.env = (false, eval a X.env) :: starEach [] X.env := by rfl) (hbase : attributeBase (.Call (.Name x p) [a] [] pos) f X.env (eval (.Call (.Name x p) [a] [] pos) X.env) = eval (.Call (.Name x p) [a] [] pos) X.env := by rfl) :
    PE X (.Attribute (.Call (.Name x p) [a] [] pos) f pos2) (tFieldOf f ta) := by
  refine ⟨fun pins s σ H Q I h => ?_⟩
  refine attr_of hbase ?_
  refine wpAny_Call_Name_kw (ld_glob I hg T.gC ?_ hdb)
  refine PySem.W.callWith_K (h₀ := X.base) I.ok.mod.kin T.kC (thn (ha.run pos pins s σ H _ I h) fun us s1 hh => ?_) hs (by rfl)
  obtain ⟨vs, H1, I1, r1, y, rfl, q⟩ := hh
  refine ⟨I1.kIn, ?_⟩
  obtain ⟨u, rfl, ry⟩ := vals1 r1
  obtain ⟨hp, g, dr, tk, os⟩ := s1
  show wpAny _ _ (call (.ref C) [u]) _ _ _
  refine wpAny_call (own_made T (hb · u) I1.kIn (I1.mod.glob.keeps I1.bk) (bl_super I1) I1.nolimit (by have := hr.dp; omega) fun h' tk' e d M => ?_)
  obtain ⟨oe, fv, hoe, hc, hd, hdat, h1⟩ := M.obj
  have J := made_inv (tk' := tk') I1 M ry
  obtain ⟨od, ho, hl⟩ := lookIn_ns M.ns
  have IA : PySem.W.InstAt h' e oe C (some od) := ⟨hoe, hc, by unfold PySem.W.notCls; rw [hdat] <;> rfl, by rw [hd]; exact ho⟩
  exact HandSPX.exc_get J.kIn IA T.ga T.gg T.exC (PySem.W.findObj_own T.hdC T.noN rfl (by rw [hl, if_pos rfl])) (handed_of ry) ⟨y, _, J.tok _, ry, q d (I1.hok.fresh M.big)⟩
/-- e.f, e the error that the suite holds -/
def tFieldHeld (C : Addr) (f : Str) (a : Addr) (cls : Value) (d : Option Addr) (te : TE) : TE := fun σ H Q => te σ H fun x H1 => x = .ref a ∧ cls = .ref C ∧ ∃ (dd : Addr) (v : V), d = some dd ∧ H1 dd = some (.xd [(f, v)]) ∧ Q v H1
theorem pe_field_held {a : Addr} {oe : Obj} {cls : Value} {d : Option Addr} {pn : List (Addr × Obj)} {e : Expr} {te : TE} {pos : Pos} (T : OwnTxt X.prog X.K X.mg x f msg C fI fd) (hz : Zc cls d oe) (hf : ∃ vs, oe.data = .fields vs) (he : PE (X.suite a ((a, oe) :: pn)) e te)
    (hbase : attributeBase e f X.env (eval e X.env) = eval e X.env := by rfl) : PE (X.suite a ((a, oe) :: pn)) (.Attribute e f pos) (tFieldHeld C f a cls d te) := by
  refine ⟨fun pins s σ H Q I h => attr_of hbase (thn (he.run pins s σ H _ I h) fun u s1 hh => ?_)⟩
  obtain ⟨x1, H1, I1, rx, rfl, rfl, dd, v, rfl, ea, q⟩ := hh
  obtain rfl : u = Value.ref a := rx
  obtain ⟨hat, _⟩ := I1.pin (a, oe) (List.mem_append_left _ List.mem_cons_self)
  obtain ⟨vs, hd⟩ := hf
  obtain ⟨mA, hns, hr⟩ := (show ObjOk X.prog X.w H1 s1.heap dd (.xd [(f, v)]) from I1.hok dd _ ea)
  obtain ⟨od, ho, hl⟩ := lookIn_ns hns
  obtain ⟨u, hu, ru⟩ := RelO.some_of (v := v) (o := mA f) (by rw [← show List.lookup f [(f, v)] = some v by simp [List.lookup]]; exact hr f)
  have IA : PySem.W.InstAt s1.heap a oe C (some od) := ⟨hat, hz.1, by unfold PySem.W.notCls; rw [hd] <;> rfl, by rw [hz.2]; exact ho⟩
  exact HandSPX.exc_get I1.kIn IA T.ga T.gg T.exC (PySem.W.findObj_own T.hdC T.noN rfl (by rw [hl, hu])) (handed_of ru) ⟨v, H1, I1.tok _, ru, q⟩
end
end SI
set_option Elab.async false
set_option linter.all false
set_option maxRecDepth 100000
set_option maxHeartbeats 4000000
namespace SI
open PySem PySem.W PySem.Calls PyProof.Rows PySem.HandSPX
section
variable {prog : Program} {w : World} {A : Around} {R : Result → Shared → Prop} {h : Heap} {g : Array GenState} {d : Drawn} {t : Nat} {os : OsState}
variable {nm q : Str} {C N : Addr} {bs bm bmB : List Value} {hdct : Bool} {sn : List Str} {sub : List Value} {ab : Bool} {col : Option Bool} {dd : Option Addr} {k0 k1 k2 k3 k5 : Option Value} {B newId initId : String}
theorem check_newK {M : Model} {A : Around} {E : Value → Shared → Prop} (F : ExcBaseFacts B newId initId bmB) (hT : ∀ X : String, bm.contains (.type X) = bmB.contains (.type X)) {kws : List (Str × Value)} {Q : Unit → Shared → Prop}
    (hC : h.get? C = some (excClassObj nm q C N bs bm hdct sn sub ab col dd k0 k1 k2 k3 k5 newId)) (hq : Q () ⟨h, g, d, t, os⟩) : wpAny M A (checkBuiltinCall newId ⟨[.ref C], kws⟩) Q E ⟨h, g, d, t, os⟩ := by
  have has : (Value.ref C :: bm).contains (.type B) = true := (List.contains_cons ..).trans (by rw [hT, F.hasB, Bool.or_true])
  have star := F.noStar
  simp only [checkBuiltinCall, F.newKind, F.newSplit, F.newRow]
  repeat (first | with_reducible refine wpAny_loadPart_at hC ?_ | (refine wpAny_isSubtype_exc hC ?_; rw [has]) | refine wpAny_staticBase_exc hC ?_ | refine wpAny_madeBy_exc hC ?_ | (simp only [bne_self_eq_false, Bool.false_eq_true, if_false]; done) | wp_step)
  exact hq
theorem new_ownK (F : ExcBaseFacts B newId initId bmB) (hT : ∀ X : String, bm.contains (.type X) = bmB.contains (.type X)) {kws : List (Str × Value)}
    (hC : h.get? C = some (excClassObj nm q C N bs bm hdct sn sub ab col dd k0 k1 k2 k3 k5 newId))
    (hq : R (.ok (.ret (.ref (h.objs.size + 1)))) ⟨(h.push (kdv_tup [])).push (excO C h.objs.size), g, d, t, os⟩) : codeAny (model prog w) A (.builtin newId ⟨[.ref C], kws⟩) R ⟨h, g, d, t, os⟩ := by
  have ends := F.ends
  have has : (Value.ref C :: bm).contains (.type B) = true := (List.contains_cons ..).trans (by rw [hT, F.hasB, Bool.or_true])
  have noA : (Value.ref C :: bm).contains (.type "AttributeError") = false := (List.contains_cons ..).trans (by rw [hT, F.noAttr]; rfl)
  have noM : (Value.ref C :: bm).contains (.type "NameError") = false := (List.contains_cons ..).trans (by rw [hT, F.noName]; rfl)
  refine codeAny_builtinAt F.entry ?_; unfold Builtin.«BaseException.__new__»
  refine _root_.PySem.wpAt_bind (?_ : _root_.PySem.wpAt _ _ _ (stack >>= _) _ _ _)
  refine _root_.PySem.wpAt_bind (_root_.PySem.wpAt_stack fun p below => _root_.PySem.wpAt_of_wpAny ?_)
  wp_walk
  refine _root_.PySem.wpAt_of_wpAny ?_; rw [F.owner]
  repeat (first | (with_reducible refine wpAny_madeHere_exc F.canon hC ?_) | (with_reducible refine wpAny_loadPart_at hC ?_) | (with_reducible refine wpAny_isSubtype_exc hC ?_; first | rw [has] | rw [noA] | rw [noM]) | wp_step)
  show R _ _
  rw [Heap.size_push]; exact hq
theorem type_callK (F : ExcBaseFacts B newId initId bmB) (hT : ∀ X : String, bm.contains (.type X) = bmB.contains (.type X)) {kws : List (Str × Value)} {fI : Addr} {E : Value → Shared → Prop} {Q : Fin → Shared → Prop}
    (hC : h.get? C = some (excClassObj nm q C N bs bm hdct sn sub ab col dd k0 k1 k2 k3 k5 newId))
    (hi : Looks (model prog w) h (typeLookup (.ref C) "__init__") (some (.ref fI))) (hb : ∀ self, Looks (model prog w) h (bindSpecial (.ref fI) self) (.ref fI, [self]))
    (hq : codeAny (model prog w) A (.call (.ref fI) ⟨[.ref (h.objs.size + 1)], kws⟩)
      (fun r s' => match r with | .ok (.ret v) => v = .none ∧ Q (.done (.ret (.ref (h.objs.size + 1)))) s' | .ok _ => False | .error e => E e s') ⟨(h.push (kdv_tup [])).push (excO C h.objs.size), g, d, t, os⟩) :
    wpAny (model prog w) A (Builtin.«type.__call__» ⟨[.ref C], kws⟩) Q E ⟨h, g, d, t, os⟩ := by
  repeat (first | (with_reducible refine wpAny_loadPart_at hC ?_) | (with_reducible refine wpAny_madeBy_exc hC ?_) | wp_step)
  refine codeAny_call_builtin_code (Code.quiet_builtin _ F.quiet) (check_newK F hT hC (new_ownK F hT hC ?_))
  show wpAny _ _ _ _ _ _
  have up : ∀ b o, h.get? b = some o → ((h.push (kdv_tup [])).push (excO C h.objs.size)).get? b = some o := fun b o z => Heap.get?_push_of_some _ (Heap.get?_push_of_some _ z)
  have hC1 := up _ _ hC
  have at1 : ((h.push (kdv_tup [])).push (excO C h.objs.size)).get? (h.objs.size + 1) = some (excO C h.objs.size) := by heap_get
  have self : (Value.ref C :: bm).contains (.ref C) = true := by simp
  have hi1 := hi.keeps up
  have hb1 := (hb (.ref (h.objs.size + 1))).keeps up
  unfold isInstance
  repeat (first | (with_reducible refine wpAny_loadPart_at at1 ?_) | (with_reducible refine wpAny_isSubtype_exc hC1 ?_; rw [self]) | wp_step)
  show wpAny _ _ (typeLookup (.ref C) _) _ _ _
  refine hi1.at (wpAny_holding (wpAny_bind (hb1.at (wpAny_bind (wpAny_call (codeAny_mono hq fun r s' z => ?_))))))
  rcases r with e | (v | _ | _ | _) <;> first | exact z | exact z.elim | (obtain ⟨rfl, z⟩ := z; first | exact wpAny_pure (wpAny_pure z) | (wp_walk; exact z))
theorem check_callK {M : Model} {A : Around} {E : Value → Shared → Prop} {kws : List (Str × Value)} {Q : Unit → Shared → Prop} (hC : h.get? C = some (excClassObj nm q C N bs bm hdct sn sub ab col dd k0 k1 k2 k3 k5 newId)) (hq : Q () ⟨h, g, d, t, os⟩) :
    wpAny M A (checkBuiltinCall "type.__call__" ⟨[.ref C], kws⟩) Q E ⟨h, g, d, t, os⟩ := by
  have f3 := tc_sub
  have isT : (⟨h, g, d, t, os⟩ : Shared).TypeIs (.ref C) "type" := ⟨_, hC, rfl⟩
  simp only [checkBuiltinCall, tc_kind, tc_split]
  repeat (any_goals (first | assumption | (with_reducible refine wpAny_loadPart_at hC ?_) | (with_reducible refine wpAny_onRaise ?_) | (with_reducible refine wpAny_map ?_) | wp_step))
theorem call_ownK (F : ExcBaseFacts B newId initId bmB) (hT : ∀ X : String, bm.contains (.type X) = bmB.contains (.type X)) {kws : List (Str × Value)} {fI : Addr}
    (hC : h.get? C = some (excClassObj nm q C N bs bm hdct sn sub ab col dd k0 k1 k2 k3 k5 newId))
    (hi : Looks (model prog w) h (typeLookup (.ref C) "__init__") (some (.ref fI))) (hb : ∀ self, Looks (model prog w) h (bindSpecial (.ref fI) self) (.ref fI, [self]))
    (hq : codeAny (model prog w) (A.under (.builtin "type.__call__" ⟨[.ref C], kws⟩)) (.call (.ref fI) ⟨[.ref (h.objs.size + 1)], kws⟩) (InitBack (h.objs.size + 1) R) ⟨(h.push (kdv_tup [])).push (excO C h.objs.size), g, d, t, os⟩) :
    codeAny (model prog w) A (.call (.ref C) ⟨[], kws⟩) R ⟨h, g, d, t, os⟩ := by
  have f1 := tc_lookup
  have f2 := tc_bind (.ref C)
  have isT : (⟨h, g, d, t, os⟩ : Shared).TypeIs (.ref C) "type" := ⟨_, hC, rfl⟩
  refine codeAny_of_tree (?_ : wpAny _ _ (callAny (.ref C) _) _ _ _)
  repeat (any_goals (first | assumption | (with_reducible refine wpAny_loadPart_at hC ?_) | wp_step))
  refine ⟨rfl, codeAny_call_builtin_at (Code.quiet_builtin _ (by decide +kernel)) entry_typeCall ?_⟩
  show wpAny _ _ (checkBuiltinCall "type.__call__" ⟨[.ref C], kws⟩) _ _ _
  refine check_callK hC (type_callK F hT hC hi hb (codeAny_mono hq fun r s' z => ?_))
  rcases r with e | (v | _ | _ | _) <;> exact z
end
end SI
set_option Elab.async false
set_option linter.all false
set_option maxRecDepth 100000
set_option maxHeartbeats 4000000
namespace SI
section
open PySem PySem.W PySem.Calls PyProof.Rows PySem.HandSPX
variable {prog : Program} {w : World} {A : Around} {R : Result → Shared → Prop} {s : Shared} {K : Frag} {mg : Str → Option Value} {x f msg : Str} {C fI : Addr} {fd : FuncData}
theorem own_madeK (T : OwnTxt prog K mg x f msg C fI fd) {v : Value} {kws : List (Str × Value)} (hb : ∀ e, bindArgs fd ⟨[.ref e], kws⟩ = pure [(("self" : Str), .ref e), (f, v)]) (X : K.In s.heap) (G : s.heap.Ns mainGlobals mg) (Bl : ∃ mb, s.heap.Ns builtinsNs mb ∧ mb "super" = some (.type "super")) (hlim : s.heap.NoLimit) (hroom : A.depth + 1 < recursionLimit)
    (hq : ∀ h' tk e d, Made s.heap h' e C d f v → R (.ok (.ret (.ref e))) { s with heap := h', toks := tk }) : codeAny (model prog w) A (.call (.ref C) ⟨[], kws⟩) R s := by
  obtain ⟨nm, q, N, bs, bm, sn, sub, ab, col, dd, k0, k1, k2, k3, k5, hC, hbm⟩ := T.cls
  obtain ⟨hp, g, dr, tk, os⟩ := s
  have kk : ∀ b o, hp.get? b = some o → ((hp.push (kdv_tup [])).push (excO C hp.objs.size)).get? b = some o := fun b o z => Heap.get?_push_of_some _ (Heap.get?_push_of_some _ z)
  have at1 : ((hp.push (kdv_tup [])).push (excO C hp.objs.size)).get? (hp.objs.size + 1) = some (excO C hp.objs.size) := by heap_get
  have notK : K.lookup (hp.objs.size + 1) = none := by
    cases z : K.lookup (hp.objs.size + 1) with
    | none => rfl
    | some o => exact absurd (Nat.lt_of_succ_lt (Heap.lt_size (show hp.get? (hp.objs.size + 1) = some o from X _ _ z))) (Nat.lt_irrefl _)
  obtain ⟨mb, hbl, hsu⟩ := Bl
  refine call_ownK F.excBase_ValueError (fun Y => refsVE_contains Y bm hbm) (X _ _ hC) (looks_findIn X T.iC) (fun self => bind_fn X self T.tC) ?_
  refine own_init (s := ⟨(hp.push (kdv_tup [])).push (excO C hp.objs.size), g, dr, tk, os⟩) T (hb _) (X.keeps kk) (G.keeps kk) ⟨mb, hbl.keeps kk, hsu⟩ (hlim.keeps kk) at1 notK hroom fun h' tk' t1 dx D => ?_
  have old : ∀ b o, hp.get? b = some o → h'.get? b = some o := fun b o z => D.keep b o (Nat.ne_of_lt (Nat.lt_succ_of_lt (Heap.lt_size z))) (kk b o z)
  have big : hp.objs.size + 1 + 1 ≤ dx := by
    have z := D.big
    first
      | exact z
      | (rw [Heap.size_push, Heap.size_push] at z; exact z)
  exact ⟨rfl, hq h' tk' (hp.objs.size + 1) dx ⟨old, Nat.le_succ _, ⟨_, _, D.obj, rfl, rfl, rfl, rfl, rfl⟩, Nat.le_trans (Nat.le_trans (Nat.le_succ _) (Nat.le_succ _)) big, D.ne, D.ns⟩⟩
end
section
open PySem PySem.Spec PyProof.Rows L2 PySem.HandSPX
variable {X : Cx} {x f msg : Str} {C fI : Addr} {fd : FuncData}
/-- C(f=a).f -/
theorem pe_field_ofK {a : Expr} {ta : TA} {p kp pos pos2 : Pos} {k : Nat} (T : OwnTxt X.prog X.K X.mg x f msg C fI fd) (hb : ∀ e v, bindArgs fd ⟨[.ref e], [(f, v)]⟩ = pure [(("self" : Str), .ref e), (f, v)]) (hr : Room (k + 1) X.A) (hg : Gl X x) (ha : PK X [⟨some f, a, kp⟩] ta) (hdb : (x == ("__debug__" : Str)) = false := by decide)
    (hbase : attributeBase (.Call (.Name x p) [] [⟨some f, a, kp⟩] pos) f X.env (eval (.Call (.Name x p) [] [⟨some f, a, kp⟩] pos) X.env) = eval (.Call (.Name x p) [] [⟨some f, a, kp⟩] pos) X.env := by rfl) :
    PE X (.Attribute (.Call (.Name x p) [] [⟨some f, a, kp⟩] pos) f pos2) (tFieldOf f ta) := by
  refine ⟨fun pins s σ H Q I h => ?_⟩
  refine attr_of hbase (wpAny_Call_Name_kw (ld_glob I hg T.gC ?_ hdb))
  refine PySem.W.callWith_KW0 (h₀ := X.base) I.ok.mod.kin T.kC (by rfl) (thn (ha.run pos pins s σ H _ I h) fun us s1 hh => ?_) (by rfl)
  obtain ⟨vs, H1, I1, r1, y, rfl, q⟩ := hh
  refine ⟨I1.kIn, ?_⟩
  obtain ⟨u, rfl, ry⟩ := vals1 r1
  obtain ⟨hp, g, dr, tk, os⟩ := s1
  show wpAny _ _ (call (.ref C) [] [(f, u)]) _ _ _
  refine wpAny_call (own_madeK T (hb · u) I1.kIn (I1.mod.glob.keeps I1.bk) (bl_super I1) I1.nolimit (by have := hr.dp; omega) fun h' tk' e d M => ?_)
  obtain ⟨oe, fv, hoe, hc, hd, hdat, h1⟩ := M.obj
  have J := made_inv (tk' := tk') I1 M ry
  obtain ⟨od, ho, hl⟩ := lookIn_ns M.ns
  have IA : PySem.W.InstAt h' e oe C (some od) := ⟨hoe, hc, by unfold PySem.W.notCls; rw [hdat] <;> rfl, by rw [hd]; exact ho⟩
  exact HandSPX.exc_get J.kIn IA T.ga T.gg T.exC (PySem.W.findObj_own T.hdC T.noN rfl (by rw [hl, if_pos rfl])) (handed_of ry) ⟨y, _, J.tok _, ry, q d (I1.hok.fresh M.big)⟩
end
end SI
set_option Elab.async false
set_option linter.all false
set_option maxRecDepth 100000
set_option maxHeartbeats 4000000
namespace JF
open PySem PySem.Spec PyProof.Rows L2 GxR GA
abbrev sNeed : Stmt := topS 67
def bmVE : List Value := [.type "ValueError", .type "Exception", .type "BaseException", .type "object"]
/-- an error class without own __init__ -/
structure ErrC (K : PySem.W.Frag) (mg : Str → Option Value) (x : Str) (C : Addr) : Prop where
  gC : mg x = some (.ref C)
  kC : PySem.W.keepIn K (.ref C) = true
  ex : PySem.W.excIn K C [.type "ValueError", .type "Exception", .type "BaseException", .type "object"] "ValueError.__new__" = true
  exC : PySem.W.subIn K (.ref C) (.type "BaseException") = some true
  tyC : PySem.W.typeIn K (.ref C) = some (.type "type")
/-- a def of one datum that goes on or raises -/
def spNeed (K : PySem.W.Frag) (T : List Addr) (C : Addr) : Sp := fun vs H Q E => ∃ (v : V) (d : PyData), vs = [v] ∧ Rp K H v d ∧ TbOk T H ∧ (isProgram d = true → ∀ H', Ex T H H' → Q .non H') ∧ (isProgram d = false → ∀ H', Ex T H H' → E (.ref C) none H')
section
variable {P : Program} {w : World} {K : PySem.W.Frag} {mg : Str → Option Value} {base : Heap} {T : List Addr}
theorem scNeed : FnScope ["program"] ["program"] (defScope sNeed) := ⟨rfl, rfl, rfl, by decide +kernel, rfl, by decide +kernel, by decide +kernel⟩
theorem ok_need {f g C : Addr} {fd gd : FuncData} (FN : Fun K "need_program" "need_program" sNeed f fd) (G : FnOk P w K mg base CX0 21 g gd ["thing"] (spIs K T isProgram)) (mG : mg "is_program" = some (.ref g)) (kG : PySem.W.keepIn K (.ref g) = true) (bG : Binds K gd ["thing"] [])
    (EC : ErrC K mg "BadProgram" C) : FnOk P w K mg base (L2.CX P w) 22 f fd ["program"] (spNeed K T C) := by
  refine FN.okX scNeed (fun vs H Q E h => ?_) (fun cdv A outer s H vs Q E hr h => ?_)
  · obtain ⟨v, d, rfl, _⟩ := h
    rfl
  · obtain ⟨v, d, rfl, r, tb, k1, k2⟩ := h
    refine ⟨_, pss_one (ps_if (pt_not (pt_val (pe_call G hr rfl mG kG bG .nil pass0 (pa_cons (pv 0) pa_nil)))) (pss_one (ps_raise rfl (takes_of rfl rfl rfl rfl) (pmk_own F.excBase_ValueError EC.ex EC.gC EC.kC (raises_own EC.exC EC.tyC) rfl))) pss_nil), ?_⟩
    refine ⟨v, rfl, v, d, rfl, r, tb, fun H1 x1 => ⟨_, rfl, ?_⟩⟩
    show if (!isProgram d) = true then _ else _
    cases e : isProgram d with
    | true => exact iteF (k1 e H1 x1)
    | false => exact iteT (k2 e H1 x1)
end
end JF
set_option Elab.async false
set_option linter.all false
set_option maxRecDepth 100000
set_option maxHeartbeats 4000000
/-! enumerate(tuple) -/
namespace ET
open PySem PySem.Spec PyProof.Rows L2
section
open PySem.W
theorem meets_newT {v : Value} {o : Obj} {Hh : Heap → Prop} (B : Begins v o Hh) : Meets (Builtin.«enumerate.__new__» ⟨[.type "enumerate", v], []⟩) (fun _ R s => Hh s.heap ∧
    R (.ok (.ret (.ref (s.heap.push o).objs.size))) { s with heap := (s.heap.push o).push { cls := .type "enumerate", data := .fields #[.none, .bool false, .ref s.heap.objs.size, rawInt 0, .none, .none] } }) :=
  .of_wp fun prog w A R s ⟨h1, h⟩ => by
    obtain ⟨hp, g, d, tk, os⟩ := s
    have sub := sub_enumerate
    have go : ∀ {A' : Around} {E : Value → Shared → Prop} {Q : Value → Shared → Prop}, Q (.ref hp.objs.size) ⟨hp.push o, g, d, tk, os⟩ → wpAny (model prog w) A' (pyIter v) Q E ⟨hp, g, d, tk, os⟩ := fun q => B.iter prog w _ _ ⟨hp, g, d, tk, os⟩ _ h1 q
    wp_walk using go
    refine wpAny_stack_any fun st => wpAny_pure ?_
    split
    · rename_i c _ _ _ _ _
      cases (c == Value.type "enumerate") <;> (wp_walk using go; exact ⟨_, rfl, h⟩)
    · wp_walk using go; exact ⟨_, rfl, h⟩
theorem call_enumT {prog : Program} {w : World} {A : Around} {E : Value → Shared → Prop} {s : Shared} {t : Addr} {items : Array Value} {Q : Value → Shared → Prop} (ht : s.heap.IsTuple t items)
    (h : ∀ h', IsEnum h' (s.heap.objs.size + 1) s.heap.objs.size 0 .none → h'.IsTupleIter s.heap.objs.size t 0 → h'.objs.size = s.heap.objs.size + 2 → (∀ b o, s.heap.get? b = some o → h'.get? b = some o) → Q (.ref (s.heap.objs.size + 1)) { s with heap := h' }) :
    wpAny (model prog w) A (call (.type "enumerate") [.ref t]) Q E s := by
  refine callType_new F.called_enumerate (by decide) (F.typeCall_enumerate_1 _) (F.newCall_enumerate_1 _) (fun obj => F.args_object_init_2 obj _) F.entry_enumerate_new (meets_newT (begins_tuple t items)) ⟨ht, (?_ : _ ∧ _)⟩
  have hz : (s.heap.push { cls := .type "tuple_iterator", data := .fields #[.ref t, .int 0 0] }).objs.size = s.heap.objs.size + 1 := Heap.size_push ..
  rw [hz]
  have he : IsEnum ((s.heap.push { cls := .type "tuple_iterator", data := .fields #[.ref t, .int 0 0] }).push { cls := .type "enumerate", data := .fields #[.none, .bool false, .ref s.heap.objs.size, rawInt 0, .none, .none] }) (s.heap.objs.size + 1) s.heap.objs.size 0 .none := by
    have z := Heap.get?_push_size (s.heap.push { cls := .type "tuple_iterator", data := .fields #[.ref t, .int 0 0] }) (o := { cls := .type "enumerate", data := .fields #[.none, .bool false, .ref s.heap.objs.size, rawInt 0, .none, .none] }) rfl
    rw [hz] at z; exact z
  exact ⟨⟨_, he, rfl⟩, h _ he ⟨_, Heap.get?_push_of_some _ (Heap.get?_push_size _ rfl), rfl, rfl⟩ (by rw [Heap.size_push, hz]) fun b o x => Heap.get?_push_of_some _ (Heap.get?_push_of_some _ x)⟩
end
/-- the tuple at a, each item in a new pair behind its place -/
def IteT (K : PySem.W.Frag) (a : Addr) : It :=
  ⟨fun i H => ∃ (xs : List V) (x : V), SqT K H a xs ∧ xs[i]? = some x, fun i H v H' => ∃ T x, v = .ref T ∧ H T = none ∧ H' = upd H T (.tup [.int (i : Nat), x]) ∧ ∀ xs, SqT K H a xs → xs[i]? = some x, fun i H => ∃ xs : List V, SqT K H a xs ∧ xs.length = i⟩
theorem turn_enumT {P : Program} {w : World} {K : PySem.W.Frag} {elts : List Expr} {kk : Nat} {tpos : Pos} (a e it : Addr) (hai : a ≠ it) (hae : a ≠ e) :
    Turn P w K (.Tuple elts kk tpos) (IteT K a) [e, it] e (fun i h => (∃ old, IsEnum h e it ((i : Nat) : Int) old) ∧ h.IsTupleIter it a i ∧ e ≠ it) where
  mem := by simp
  obj := fun i h st b hb => by
    obtain ⟨⟨old, he⟩, ⟨o, ho, hc, hd⟩, _⟩ := st
    rcases (show b = e ∨ b = it by simpa using hb) with z | z
    · rw [z]; exact ⟨_, he, fun v q => nomatch q⟩
    · rw [z]; exact ⟨o, ho, fun v q => by rw [hd] at q; cases q⟩
  keep := fun i h h' st k => ⟨⟨st.1.choose, k e (by simp) _ st.1.choose_spec⟩, st.2.1.at fun o q => k it (by simp) o q, st.2.2⟩
  item := by
    intro X hP hw hK hc i pins s σ H E I hf st hg
    subst hP hw hK
    obtain ⟨⟨old, he⟩, hit, hne⟩ := st
    obtain ⟨xs, x, hq, hx⟩ := hg
    obtain ⟨its, rv, p, hz⟩ := I.tuple hq
    obtain ⟨u, hu, ru⟩ := rv.get hx
    have hel : e < s.heap.objs.size := Heap.lt_size he
    have hil : it < s.heap.objs.size := by obtain ⟨_, q, _⟩ := hit; exact Heap.lt_size q
    have hlt : i < its.toArray.size := by
      have := (List.getElem?_eq_some_iff.mp hu).1
      simpa using this
    have D : Draws X.prog X.w X.A.in1 it [it, a] its.toArray.size (fun i v => its.toArray[i]? = some v) (fun i h => h.IsTupleIter it a i ∧ h.IsTuple a its.toArray) := Draws.tuple (A := X.A.in1) (show X.A.in1.handled = none from I.ok.hd hc) it a hai its.toArray
    refine wpAny_pyNext_enum_itemD D he ⟨hit, p⟩ hlt hne (by simp [hne, Ne.symm hae]) fun y h' tk hy ho hst hT hsz hk => ?_
    obtain rfl : u = y := by
      rw [List.getElem?_toArray, hu] at hy
      exact Option.some.inj hy
    refine ⟨_, rfl, wpAny_letOwnedTupleGo_enum (s := { s with heap := h', toks := tk + 1 }) ho fun h'' he' sb => ?_⟩
    have at2 : h''.get? s.heap.objs.size = some { cls := .type "tuple", data := .seq #[.int i tk, u] } := (sb.2 _ (Nat.ne_of_gt hel)).trans hT
    have new : ObjOk X.prog X.w (upd H s.heap.objs.size (.tup [.int (i : Nat), x])) h'' s.heap.objs.size (.tup [.int (i : Nat), x]) := ⟨by show 2 ≤ sizeLine; decide, [.int i tk, u], .cons ⟨_, rfl⟩ (.cons ru .nil), ⟨_, at2, rfl, _, rfl⟩⟩
    have J : L2.Inv X pins σ (upd H s.heap.objs.size (.tup [.int (i : Nat), x])) { s with heap := h'', toks := tk + 1 } :=
      I.turnedNew (ch := [e, it]) (fun b ob hb q => (sb.2 b (fun z => hb (by simp [z]))).trans (hk b ob (fun z => hb (by simp [z])) (fun z => hb (by simp [z])) q)) hf (Nat.le_refl _) new
    refine ⟨.ref s.heap.objs.size, _, J, rfl, ⟨_, x, rfl, I.hok.fresh (Nat.le_refl _), rfl, fun ys hy => by rw [I.tuple_inj hy hq]; exact hx⟩, ⟨⟨u, by rw [show ((i + 1 : Nat) : Int) = (i : Int) + 1 by omega]; exact he'⟩, hst.1.at fun o q => (sb.2 it (Ne.symm hne)).trans q, hne⟩, fun b hb => ?_⟩
    have hb' : b < s.heap.objs.size := by
      rcases (show b = e ∨ b = it by simpa using hb) with z | z
      · rw [z]; exact hel
      · rw [z]; exact hil
    rw [upd_ne (Nat.ne_of_lt hb')]; exact (hf b hb).1
  done := by
    intro X hP hw hK hc i pins s σ H E I hf st hg
    subst hP hw hK
    obtain ⟨⟨old, he⟩, hit, hne⟩ := st
    obtain ⟨xs, hq, hx⟩ := hg
    obtain ⟨its, rv, p, hz⟩ := I.tuple hq
    have D : Draws X.prog X.w X.A.in1 it [it, a] its.toArray.size (fun i v => its.toArray[i]? = some v) (fun i h => h.IsTupleIter it a i ∧ h.IsTuple a its.toArray) := Draws.tuple (A := X.A.in1) (show X.A.in1.handled = none from I.ok.hd hc) it a hai its.toArray
    obtain ⟨f0, f1, f2, f3, f4, f5⟩ := hf it (by simp)
    have hn : its.toArray.size = i := by
      have := rv.length
      simp; omega
    exact wpAny_pyNext_enum_endD D he ⟨by rw [hn]; exact hit, p⟩ fun h' eb => ⟨rfl, I.turned (t' := s.toks) (fun b o hb q => eb b o hb q) f0 f1 f3 f4 f5⟩
  self := fun A i s Q E st h => wpAny_pyIter_enum st.1.choose_spec h
def iEnumT (K : PySem.W.Frag) (ta : TA) : TI := fun σ H R => ta σ H fun vs H1 => ∃ a xs, vs = [.ref a] ∧ SqT K H1 a xs ∧ R (IteT K a) H1
theorem pi_enumT {X : Cx} {e : Expr} {ta : TA} {p pos tpos : Pos} {elts : List Expr} {kk : Nat} (hg : Gl X "enumerate") (hm : X.mg "enumerate" = none) (ha : PA X [e] ta) (hs : starEach [e] X.env = [(false, eval e X.env)] := by rfl) :
    PI X (.Tuple elts kk tpos) (.Call (.Name "enumerate" p) [e] [] pos) (iEnumT X.K ta) := by
  refine ⟨fun pins s σ H R I h => Call_ (ld_blt I hg hm boot_enumerate (PyProof.Rows.callWith_type1 (thn (ha.run pos pins s σ H _ I h) fun us s1 ⟨vs, H1, I1, r1, q1⟩ => ?_) hs rfl))⟩
  obtain ⟨a, xs, rfl, hq, q⟩ := q1
  obtain ⟨u, rfl, ru⟩ := vals1 r1
  obtain rfl : u = Value.ref a := ru
  obtain ⟨its, rv, p', hz⟩ := I1.tuple hq
  have al : a < s1.heap.objs.size := by
    obtain ⟨o, ho, _⟩ := id p'
    exact Heap.lt_size ho
  refine call_enumT p' fun h' he hit hsz hk => wpAny_pyIter_enum he ?_
  refine ⟨s1.heap.objs.size + 1, [s1.heap.objs.size + 1, s1.heap.objs.size], _, _, H1, rfl, (I1.kept (t' := s1.toks) hk : L2.Inv X pins σ H1 { s1 with heap := h' }), turn_enumT a (s1.heap.objs.size + 1) s1.heap.objs.size (Nat.ne_of_lt al) (Nat.ne_of_lt (Nat.lt_succ_of_lt al)), ⟨⟨.none, he⟩, hit, Nat.succ_ne_self _⟩, fun b hb => ?_, q⟩
  have hle : s1.heap.objs.size ≤ b := by
    rcases (show b = s1.heap.objs.size + 1 ∨ b = s1.heap.objs.size by simpa using hb) with z | z
    · rw [z]; exact Nat.le_succ _
    · rw [z]; exact Nat.le_refl _
  exact I1.fpOk hle (I1.hok.fresh hle)
theorem walk_enumT {K : PySem.W.Frag} {a : Addr} {xs : List V} : Walk (IteT K a) xs.length (fun H => SqT K H a xs) (YPair (fun i => some (.int (i : Nat))) (fun i => xs[i]?)) :=
  ⟨fun i _ hi q => ⟨xs, xs[i], q, by simp [hi]⟩, fun _ q => ⟨xs, q, rfl⟩, fun i H v H' _ q ⟨T, x, h1, h2, h3, h4⟩ => ⟨T, .int (i : Nat), x, h1, h2, h3, rfl, h4 xs q⟩⟩
end ET
set_option Elab.async false
set_option linter.all false
set_option maxRecDepth 100000
set_option maxHeartbeats 4000000
namespace JF
open PySem PySem.Spec PyProof.Rows L2 GxR GA
abbrev sMbn : Stmt := topS 21
/-- for each maker its name, its kind's name, its place, its fields -/
abbrev Ent := Str × Str × Nat × List Str
def kEnts (k : Kd) : List Ent := k.2.zipIdx.map fun p => (p.1.1, k.1, p.2, p.1.2)
def ents (ks : List Kd) : List Ent := ks.flatMap kEnts
theorem ents_makers (ks : List Kd) : (ents ks).map (·.1) = kMakers ks := by
  unfold ents kMakers
  rw [List.map_flatMap]
  congr 1
  funext k
  unfold kEnts
  rw [List.map_map]
  show k.2.zipIdx.map (fun p => p.1.1) = _
  rw [show (fun p : Mk' × Nat => p.1.1) = (fun m : Mk' => m.1) ∘ Prod.fst from rfl, ← List.map_map, List.zipIdx_map_fst]
def EntAt (K : PySem.W.Frag) (H : Hp) (kv : Key × V) (e : Ent) : Prop := kv.1 = .inr e.1 ∧ ∃ t vf, kv.2 = .ref t ∧ SqT K H t [.str e.2.1, .int (e.2.2.1 : Nat), vf] ∧ FieldsAt K H vf e.2.2.2
/-- the dict of makers at D -/
def MkAt (K : PySem.W.Frag) (H : Hp) (D : Addr) (es : List Ent) : Prop := ∃ kvs : List (Key × V), H D = some (.dK kvs) ∧ Paired (EntAt K H) kvs es
section
variable {P : Program} {w : World} {K : PySem.W.Frag} {mg : Str → Option Value} {base : Heap} {T : List Addr} {H H' : Hp} {D : Addr} {es : List Ent}
theorem EntAt.to (q : ∀ a xs, SqT K H a xs → SqT K H' a xs) {kv : Key × V} {e : Ent} (h : EntAt K H kv e) : EntAt K H' kv e := by
  obtain ⟨h1, t, vf, h2, h3, h4⟩ := h
  exact ⟨h1, t, vf, h2, q _ _ h3, h4.to q⟩
theorem sqT_dict {kvs kvs' : List (Key × V)} (h : H D = some (.dK kvs)) : ∀ a xs, SqT K H a xs → SqT K (upd H D (.dK kvs')) a xs := fun a xs q => by
  have ne : ∀ {o : HO}, H a = some o → (∀ z, o ≠ .dK z) → a ≠ D := fun {o} e n z => by
    subst z
    rw [h] at e
    exact n _ (Option.some.inj e).symm
  rcases q with (q | ⟨ob, q⟩) | q
  · exact .inl (.inl (by rw [upd_ne (ne q fun _ z => by cases z)]; exact q))
  · exact .inl (.inr ⟨ob, by rw [upd_ne (ne q fun _ z => by cases z)]; exact q⟩)
  · exact .inr q
theorem Ex.upd {H0 : Hp} {o : HO} (x : Ex T H0 H) (n : H0 D = none) : Ex T H0 (upd H D o) :=
  ⟨fun t P hP => by
    obtain ⟨ps, e, r⟩ := x.tb t P hP
    have hne : P ≠ D := fun z => by
      obtain ⟨ps0, e0, _⟩ := t P hP
      rw [z, n] at e0
      cases e0
    exact ⟨ps, by rw [upd_ne hne]; exact e, r⟩,
   fun b ob e hb => by rw [upd_ne (ne_of_none e n)]; exact x.keep b ob e hb⟩
theorem put_new {kvs : List (Key × V)} {k : Key} {v : V} (h : ∀ kv ∈ kvs, kv.1 ≠ k) : putK kvs k v = kvs ++ [(k, v)] := by
  unfold putK
  rw [if_neg]
  intro z
  obtain ⟨kv, hkv, e⟩ := List.any_eq_true.mp z
  exact h kv hkv (of_decide_eq_true e)
theorem paired_app {α β : Type} {F : α → β → Prop} : ∀ {xs xs' : List α} {ys ys' : List β}, Paired F xs ys → Paired F xs' ys' → Paired F (xs ++ xs') (ys ++ ys')
  | _, _, _, _, .nil, t => t
  | _, _, _, _, .cons r s, t => .cons r (paired_app s t)
theorem paired_mem {α β : Type} {F : α → β → Prop} : ∀ {xs : List α} {ys : List β} {x : α}, Paired F xs ys → x ∈ xs → ∃ y ∈ ys, F x y
  | _, _, _, .nil, h => by cases h
  | _, _, _, .cons r t, h => by
    rcases List.mem_cons.mp h with e | e
    · subst e; exact ⟨_, List.mem_cons_self .., r⟩
    · obtain ⟨y, hy, f⟩ := paired_mem t e
      exact ⟨y, List.mem_cons_of_mem _ hy, f⟩
/-- a maker is put in -/
theorem MkAt.put {m : Ent} {t : Addr} {vf : V} (h : MkAt K H D es) (nm : m.1 ∉ es.map (·.1)) (ht : SqT K H t [.str m.2.1, .int (m.2.2.1 : Nat), vf]) (hf : FieldsAt K H vf m.2.2.2) (few : es.length < sizeLine) :
    ∃ kvs : List (Key × V), H D = some (.dK kvs) ∧ kvs.length < sizeLine ∧ MkAt K (upd H D (.dK (putK kvs (.inr m.1) (.ref t)))) D (es ++ [m]) := by
  obtain ⟨kvs, hD, pr⟩ := h
  have hp : putK kvs (.inr m.1) (.ref t) = kvs ++ [(.inr m.1, .ref t)] := put_new fun kv hkv z => by
    obtain ⟨e, he, h1, _⟩ := paired_mem pr hkv
    rw [h1] at z
    exact nm (List.mem_map.mpr ⟨e, he, Sum.inr.inj z⟩)
  refine ⟨kvs, hD, by rw [paired_len pr]; exact few, kvs ++ [(.inr m.1, .ref t)], by rw [hp]; exact upd_same, ?_⟩
  have q : ∀ a xs, SqT K H a xs → SqT K (L2.upd H D (.dK (putK kvs (.inr m.1) (.ref t)))) a xs := sqT_dict hD
  exact paired_app (paired_imp (fun _ _ z => z.to q) pr) (.cons ⟨rfl, t, vf, rfl, q _ _ ht, hf.to q⟩ .nil)
end
def spMbn (K : PySem.W.Frag) (T : List Addr) : Sp := fun vs H Q _ => ∃ (v : V) (ks : List Kd), vs = [v] ∧ KindsAt K H v ks ∧ (kMakers ks).Nodup ∧ (kMakers ks).length ≤ 1000 ∧ TbOk T H ∧ ∀ p H', H p = none → Ex T H H' → MkAt K H' p (ents ks) → Q (.ref p) H'
section
variable {P : Program} {w : World} {K : PySem.W.Frag} {mg : Str → Option Value} {base : Heap} {T : List Addr}
theorem pg_ixpair {X : Cx} {K : PySem.W.Frag} {i j l k k2 : Nat} {x y z : Str} {p q r pos pos2 : Pos} (hK : X.K = K) (hc : X.calm = true) (hN : X.N.Nodup) (hi : X.N[i]? = some x) (hj : X.N[j]? = some y) (hl : X.N[l]? = some z)
    (hx : X.env.scope.names.lookup x = some .local) (hy : X.env.scope.names.lookup y = some .local) (hz : X.env.scope.names.lookup z = some .local) :
    PG X (.Tuple [.Name x p, .Tuple [.Name y q, .Name z r] k2 pos2] k pos) (gTup K 2 (gCons (gName i) (gCons (gTup K 2 (gCons (gName j) (gCons (gName l) gNil))) gNil))) := by
  rw [← hK]
  exact pg_tup hc (pgs_cons (pg_name hN hi (.inl hx) (.inr hx)) (pgs_cons (pg_two rfl hc hN hj hl hy hz) pgs_nil))
theorem scMbn : FnScope ["kinds", "makers", "kind", "made", "index", "maker", "fields"] ["kinds"] (defScope sMbn) := ⟨rfl, rfl, rfl, by decide +kernel, rfl, by decide +kernel, by decide +kernel⟩
theorem ok_mbn {f : Addr} {fd : FuncData} (FN : Fun K "makers_by_name" "makers_by_name" sMbn f fd) (Be : mg "enumerate" = none) : FnOk P w K mg base CX0 1 f fd ["kinds"] (spMbn K T) := by
  refine FN.ok scMbn (fun vs H Q E h => ?_) (fun cdv A outer s H vs Q E hr h => ?_)
  · obtain ⟨v, ks, rfl, _⟩ := h
    rfl
  · obtain ⟨v, ks, rfl, hk, nd, few, tb, k⟩ := h
    have hu := hu_of hr
    refine ⟨_, pss_cons (ps_set (i := 1) scMbn.nd rfl (.inl rfl) pe_dnewK)
      (pss_cons (ps_for PassesOwn.never rfl (pi_tup (pv 0)) (pg_two (K := K) (i := 2) (j := 3) rfl rfl scMbn.nd rfl rfl rfl rfl)
        (pss_one (ps_for PassesOwn.never rfl (ET.pi_enumT rfl Be (pa_cons (pv 3) pa_nil)) (pg_ixpair (K := K) (i := 4) (j := 5) (l := 6) rfl rfl scMbn.nd rfl rfl rfl rfl rfl rfl)
          (pss_one (ps_dput hu (pv 1) (pv 5) (pe_tup (pa_cons (pv 2) (pa_cons (pv 4) (pa_cons (pv 6) pa_nil)))) rfl)))))
      (pss_one (ps_ret (pv 1)))), ?_⟩
    obtain ⟨a, xs, rfl, hs, pr⟩ := hk
    intro D hD
    have x1 : Ex T H (upd H D (.dK [])) := Ex.new hD
    have m1 : MkAt K (upd H D (.dK [])) D [] := ⟨[], upd_same, .nil⟩
    generalize upd H D (.dK []) = H1 at x1 m1
    have nd' : ((ents ks).map (·.1)).Nodup := by rw [ents_makers]; exact nd
    have few' : (ents ks).length ≤ 1000 := by rw [← List.length_map (f := (·.1)), ents_makers]; exact few
    refine ⟨_, rfl, a, rfl, ⟨xs, x1.sqT tb hs⟩, for_it walk_tup (fun i σ H' => σ.length = 7 ∧ σ[1]? = some (some (.ref D)) ∧ Ex T H H' ∧ ∃ acc, MkAt K H' D acc ∧ acc ++ ents (ks.drop i) = ents ks) ⟨rfl, rfl, x1, [], m1, rfl⟩ (fun i σ H' _ q => q.2.2.1.sqT tb hs) (fun i x σ H' H2 hi q y => ?_) (fun σ H' q => ?_)⟩
    · obtain ⟨rfl, hx⟩ := y
      obtain ⟨q7, q1, qx, acc, qm, qa⟩ := q
      obtain ⟨kd, hk, b, vm, rfl, hb, c2, ms, rfl, hc2, pm⟩ := paired_get pr hx
      have lm : ms.length = kd.2.length := paired_len pm
      have le : (kEnts kd).length = kd.2.length := by unfold kEnts; rw [List.length_map, List.length_zipIdx]
      rw [drop_at hk] at qa
      refine ⟨b, _, rfl, qx.sqT tb hb, rfl, _, _, rfl, _, _, rfl, rfl, .ref c2, by rw [List.getElem?_set_self (by rw [List.length_set, q7]; decide)], c2, ms, rfl, qx.sqT tb hc2, ?_⟩
      refine for_it ET.walk_enumT (fun j σ H' => σ.length = 7 ∧ σ[1]? = some (some (.ref D)) ∧ σ[2]? = some (some (.str kd.1)) ∧ Ex T H H' ∧ ∃ acc, MkAt K H' D acc ∧ acc ++ ((kEnts kd).drop j ++ ents (ks.drop (i + 1))) = ents ks) ⟨by rw [List.length_set, List.length_set, q7], by rw [List.getElem?_set_ne (by decide), List.getElem?_set_ne (by decide)]; exact q1, by rw [List.getElem?_set_ne (by decide)]; exact List.getElem?_set_self (by rw [q7]; decide), qx, acc, qm, qa⟩
        (fun j σ H' _ q => q.2.2.2.1.sqT tb hc2) (fun j x σ H' H3 hj q y => ?_) (fun σ H' q => ?_)
      · obtain ⟨Tp, u, v2, rfl, hT, rfl, hu2, hv⟩ := y
        cases hu2
        have hv : ms[j]? = some v2 := hv
        obtain ⟨r7, r1, r2, rx, acc2, rm, ra⟩ := q
        obtain ⟨mk, hm, b3, vf, rfl, hb3, hfl⟩ := paired_get pm hv
        have hke : (kEnts kd)[j]? = some (mk.1, kd.1, j, mk.2) := by
          unfold kEnts
          rw [List.getElem?_map, List.getElem?_zipIdx, hm]
          simp
        rw [drop_at hke] at ra
        have x2 : Ex T H (upd H' Tp (.tup [.int (j : Nat), .ref b3])) := rx.trans (Ex.new hT)
        have hTp : SqT K (upd H' Tp (.tup [.int (j : Nat), .ref b3])) Tp [.int (j : Nat), .ref b3] := .inl (.inl upd_same)
        have m2 : MkAt K (upd H' Tp (.tup [.int (j : Nat), .ref b3])) D acc2 := by
          obtain ⟨kvs, hkv, pk⟩ := rm
          exact ⟨kvs, by rw [upd_ne (ne_of_none hkv hT)]; exact hkv, paired_imp (fun _ _ z => z.to (sqT_new hT)) pk⟩
        generalize upd H' Tp (.tup [.int (j : Nat), .ref b3]) = H4 at x2 hTp m2
        refine ⟨Tp, _, rfl, hTp, rfl, _, _, rfl, _, _, rfl, b3, _, rfl, x2.sqT tb hb3, rfl, _, _, rfl, _, _, rfl, rfl, rfl, ?_⟩
        refine ⟨.str kd.1, ?_, .int (j : Nat), ?_, vf, ?_, by show 3 ≤ sizeLine; decide, fun p hp => ⟨.ref D, ?_, .str mk.1, ?_, D, ?_⟩⟩
        · rw [List.getElem?_set_ne (by decide), List.getElem?_set_ne (by decide), List.getElem?_set_ne (by decide)]; exact r2
        · rw [List.getElem?_set_ne (by decide), List.getElem?_set_ne (by decide)]; exact List.getElem?_set_self (by rw [r7]; decide)
        · exact List.getElem?_set_self (by rw [List.length_set, List.length_set, r7]; decide)
        · rw [List.getElem?_set_ne (by decide), List.getElem?_set_ne (by decide), List.getElem?_set_ne (by decide)]; exact r1
        · rw [List.getElem?_set_ne (by decide)]; exact List.getElem?_set_self (by rw [List.length_set, r7]; decide)
        · have x3 : Ex T H (upd H4 p (.tup [.str kd.1, .int (j : Nat), vf])) := x2.trans (Ex.new hp)
          have hp2 : SqT K (upd H4 p (.tup [.str kd.1, .int (j : Nat), vf])) p [.str kd.1, .int (j : Nat), vf] := .inl (.inl upd_same)
          have m3 : MkAt K (upd H4 p (.tup [.str kd.1, .int (j : Nat), vf])) D acc2 := by
            obtain ⟨kvs, hkv, pk⟩ := m2
            exact ⟨kvs, by rw [upd_ne (ne_of_none hkv hp)]; exact hkv, paired_imp (fun _ _ z => z.to (sqT_new hp)) pk⟩
          generalize upd H4 p (.tup [.str kd.1, .int (j : Nat), vf]) = H5 at x3 hp2 m3
          have nm : mk.1 ∉ acc2.map (·.1) := fun z => by
            have e := congrArg (List.map (fun e : Ent => e.1)) ra
            rw [List.map_append] at e
            rw [← e] at nd'
            exact (List.nodup_append.mp nd').2.2 _ z _ (by simp) rfl
          obtain ⟨kvs, hkv, hlen, m4⟩ := MkAt.put (m := (mk.1, kd.1, j, mk.2)) m3 nm hp2 (hfl.to fun a xs q => x3.sqT tb q) (small1000 (Nat.le_trans (len_of_app ra) few'))
          refine ⟨_, rfl, .inl ⟨kvs, .inr mk.1, hkv, rfl, hlen, rfl⟩, by rw [List.length_set, List.length_set, List.length_set, r7], ?_, ?_, x3.upd hD, acc2 ++ [(mk.1, kd.1, j, mk.2)], m4, by rw [← ra]; simp⟩
          · rw [List.getElem?_set_ne (by decide), List.getElem?_set_ne (by decide), List.getElem?_set_ne (by decide)]; exact r1
          · rw [List.getElem?_set_ne (by decide), List.getElem?_set_ne (by decide), List.getElem?_set_ne (by decide)]; exact r2
      · obtain ⟨r7, r1, r2, rx, acc2, rm, ra⟩ := q
        rw [lm, ← le, List.drop_length] at ra
        exact ⟨r7, r1, rx, acc2, rm, by simpa using ra⟩
    · obtain ⟨q7, q1, qx, acc, qm, qa⟩ := q
      rw [paired_len pr, List.drop_length] at qa
      have e : acc = ents ks := by rw [← qa]; simp [ents]
      subst e
      exact ⟨_, q1, k D H' hD qx qm⟩
end
end JF
set_option Elab.async false
set_option linter.all false
set_option maxRecDepth 100000
set_option maxHeartbeats 4000000
namespace JF
open PySem PySem.Spec PyProof.Rows L2 GxR GA
def inCls (s : Stmt) (i : Nat) : Stmt := match s with
  | .ClassDef (body := b) .. => b.getD i (.Pass ⟨0, 0, 0, 0⟩)
  | _ => .Pass ⟨0, 0, 0, 0⟩
abbrev sTabInit : Stmt := inCls (topS 22) 0
/-- a function: its name, params, result, rows -/
abbrev Fd := Str × List Str × Str × List PyData
def RestAt (K : PySem.W.Frag) (H : Hp) (vp vr : V) (f : Fd) : Prop := FieldsAt K H vp f.2.1 ∧ ∃ c xs, vr = .ref c ∧ SqT K H c xs ∧ RpAll K H xs f.2.2.2
def FnAt (K : PySem.W.Frag) (H : Hp) (v : V) (f : Fd) : Prop := ∃ a vp vr, v = .ref a ∧ SqT K H a [.str f.1, vp, .str f.2.2.1, vr] ∧ RestAt K H vp vr f
def FnsAt (K : PySem.W.Frag) (H : Hp) (v : V) (fs : List Fd) : Prop := ∃ a xs, v = .ref a ∧ SqT K H a xs ∧ Paired (FnAt K H) xs fs
def KdAt (K : PySem.W.Frag) (H : Hp) (kv : Key × V) (k : Kd) : Prop := kv.1 = .inr k.1 ∧ MakersAt K H kv.2 k.2
def FdAt (K : PySem.W.Frag) (H : Hp) (kv : Key × V) (f : Fd) : Prop := kv.1 = .inr f.1 ∧ ∃ t vp vr, kv.2 = .ref t ∧ SqT K H t [vp, .str f.2.2.1, vr] ∧ RestAt K H vp vr f
structure TabAt (K : PySem.W.Frag) (H : Hp) (x C : Addr) (ks : List Kd) (fs : List Fd) : Prop where
  ex : ∃ (dx dk dm df : Addr) (kk kf : List (Key × V)), H x = some (.ins C dx [("kinds", .ref dk), ("makers", .ref dm), ("functions", .ref df)]) ∧ H dk = some (.dK kk) ∧ Paired (KdAt K H) kk ks ∧ MkAt K H dm (ents ks) ∧ H df = some (.dK kf) ∧ Paired (FdAt K H) kf fs
section
variable {K : PySem.W.Frag} {T : List Addr} {H H' : Hp} {D : Addr}
theorem RestAt.ex {vp vr : V} {f : Fd} (x : Ex T H H') (t : TbOk T H) (h : RestAt K H vp vr f) : RestAt K H' vp vr f := by
  obtain ⟨h1, c, xs, h2, h3, h4⟩ := h
  exact ⟨h1.to fun _ _ q => x.sqT t q, c, xs, h2, x.sqT t h3, h4.ex x t⟩
theorem FnAt.ex {v : V} {f : Fd} (x : Ex T H H') (t : TbOk T H) (h : FnAt K H v f) : FnAt K H' v f := by
  obtain ⟨a, vp, vr, e, h1, h2⟩ := h
  exact ⟨a, vp, vr, e, x.sqT t h1, h2.ex x t⟩
theorem FnsAt.ex {v : V} {fs : List Fd} (x : Ex T H H') (t : TbOk T H) (h : FnsAt K H v fs) : FnsAt K H' v fs := by
  obtain ⟨a, xs, e, h1, h2⟩ := h
  exact ⟨a, xs, e, x.sqT t h1, paired_imp (fun _ _ z => z.ex x t) h2⟩
theorem KindsAt.ex {v : V} {ks : List Kd} (x : Ex T H H') (t : TbOk T H) (h : KindsAt K H v ks) : KindsAt K H' v ks := h.to fun _ _ q => x.sqT t q
theorem KdAt.ex {kv : Key × V} {k : Kd} (x : Ex T H H') (t : TbOk T H) (h : KdAt K H kv k) : KdAt K H' kv k := ⟨h.1, h.2.to fun _ _ q => x.sqT t q⟩
theorem FdAt.ex {kv : Key × V} {f : Fd} (x : Ex T H H') (t : TbOk T H) (h : FdAt K H kv f) : FdAt K H' kv f := by
  obtain ⟨h1, tt, vp, vr, h2, h3, h4⟩ := h
  exact ⟨h1, tt, vp, vr, h2, x.sqT t h3, h4.ex x t⟩
theorem dk_keep {kvs : List (Key × V)} (x : Ex T H H') (t : TbOk T H) (h : H D = some (.dK kvs)) : H' D = some (.dK kvs) := x.keep _ _ h (t.seqN h fun _ z => by cases z)
theorem MkAt.ex {es : List Ent} (x : Ex T H H') (t : TbOk T H) (h : MkAt K H D es) : MkAt K H' D es := by
  obtain ⟨kvs, h1, h2⟩ := h
  exact ⟨kvs, dk_keep x t h1, paired_imp (fun _ _ z => z.to fun _ _ q => x.sqT t q) h2⟩
theorem TabAt.ex' {x C : Addr} {ks : List Kd} {fs : List Fd} (e : Ex T H H') (t : TbOk T H) (h : TabAt K H x C ks fs) : TabAt K H' x C ks fs := by
  obtain ⟨dx, dk, dm, df, kk, kf, h1, h2, h3, h4, h5, h6⟩ := h.ex
  exact ⟨dx, dk, dm, df, kk, kf, e.keep _ _ h1 (t.seqN h1 fun _ z => by cases z), dk_keep e t h2, paired_imp (fun _ _ z => z.ex e t) h3, h4.ex e t, dk_keep e t h5, paired_imp (fun _ _ z => z.ex e t) h6⟩
/-- what is new now was new before -/
theorem Ex.fresh (x : Ex T H H') (t : TbOk T H) (n : H' D = none) : H D = none := by
  cases e : H D with
  | none => rfl
  | some o =>
    by_cases hD : D ∈ T
    · obtain ⟨ps, z, _⟩ := x.tb t D hD
      rw [n] at z; cases z
    · have := x.keep D o e hD
      rw [n] at this; cases this
/-- readings are kept where an object that is no tuple is changed -/
theorem sqT_at {o o' : HO} (h : H D = some o) (n1 : ∀ z, o ≠ .tup z) (n2 : ∀ ob z, o ≠ .frz ob z) : ∀ a xs, SqT K H a xs → SqT K (upd H D o') a xs := fun a xs q => by
  have ne : ∀ {o2 : HO}, H a = some o2 → o ≠ o2 → a ≠ D := fun {o2} e n z => by
    subst z
    rw [h] at e
    exact n (Option.some.inj e)
  rcases q with (q | ⟨ob, q⟩) | q
  · exact .inl (.inl (by rw [upd_ne (ne q (n1 _))]; exact q))
  · exact .inl (.inr ⟨ob, by rw [upd_ne (ne q (n2 _ _))]; exact q⟩)
  · exact .inr q
end
theorem g_four {K : PySem.W.Frag} {b : Addr} {x y z u : V} {σ : L2.St} {vs : List Nat} {i j l m : Nat} {H : Hp} {C : L2.St → Hp → Prop} (hb : SqT K H b [x, y, z, u]) (hi : i ∈ vs) (hj : j ∈ vs) (hl : l ∈ vs) (hm : m ∈ vs) (d1 : i ≠ j) (d2 : i ≠ l) (d3 : i ≠ m) (d4 : j ≠ l) (d5 : j ≠ m) (d6 : l ≠ m)
    (li : i < σ.length) (lj : j < σ.length) (ll : l < σ.length) (lm : m < σ.length)
    (h : ∀ σ2 : L2.St, σ2.length = σ.length → (∀ n, n ∉ vs → σ2[n]? = σ[n]?) → σ2[i]? = some (some x) → σ2[j]? = some (some y) → σ2[l]? = some (some z) → σ2[m]? = some (some u) → C σ2 H) :
    gTup K 4 (gCons (gName i) (gCons (gName j) (gCons (gName l) (gCons (gName m) gNil)))) (.ref b) (wipe σ vs) H fun σ2 H2 => wipe σ2 vs = wipe σ vs ∧ C σ2 H2 := by
  refine ⟨b, _, rfl, hb, rfl, _, _, rfl, _, _, rfl, _, _, rfl, _, _, rfl, rfl, ?_, h _ ?_ (fun n hn => ?_) ?_ ?_ ?_ ?_⟩
  · rw [wipe_in _ _ _ _ hm, wipe_in _ _ _ _ hl, wipe_in _ _ _ _ hj, wipe_in _ _ _ _ hi, L3.wipe_wipe]
  · simp only [List.length_set, wipe_length]
  · rw [List.getElem?_set_ne (fun e : m = n => hn (e ▸ hm)), List.getElem?_set_ne (fun e : l = n => hn (e ▸ hl)), List.getElem?_set_ne (fun e : j = n => hn (e ▸ hj)), List.getElem?_set_ne (fun e : i = n => hn (e ▸ hi)), wipe_out hn]
  · rw [List.getElem?_set_ne d3.symm, List.getElem?_set_ne d2.symm, List.getElem?_set_ne d1.symm]
    exact List.getElem?_set_self (by rw [wipe_length]; exact li)
  · rw [List.getElem?_set_ne d5.symm, List.getElem?_set_ne d4.symm]
    exact List.getElem?_set_self (by rw [List.length_set, wipe_length]; exact lj)
  · rw [List.getElem?_set_ne d6.symm]
    exact List.getElem?_set_self (by rw [List.length_set, List.length_set, wipe_length]; exact ll)
  · exact List.getElem?_set_self (by rw [List.length_set, List.length_set, List.length_set, wipe_length]; exact lm)
theorem put2 {v u : V} : putF ("makers" : Str) v [(("kinds" : Str), u)] = [(("kinds" : Str), u), (("makers" : Str), v)] := by
  unfold putF
  rw [if_neg (by decide)]
  rfl
theorem put3 {v u t : V} : putF ("functions" : Str) t [(("kinds" : Str), u), (("makers" : Str), v)] = [(("kinds" : Str), u), (("makers" : Str), v), (("functions" : Str), t)] := by
  unfold putF
  rw [if_neg (by decide)]
  unfold putF
  rw [if_neg (by decide)]
  rfl
theorem sqL_at {K : PySem.W.Frag} {H : Hp} {D : Addr} {o o' : HO} (h : H D = some o) (n1 : ∀ z, o ≠ .lst z) (n2 : ∀ ob z, o ≠ .frz ob z) : ∀ a xs, SqL K H a xs → SqL K (upd H D o') a xs := fun a xs q => by
  have ne : ∀ {o2 : HO}, H a = some o2 → o ≠ o2 → a ≠ D := fun {o2} e n z => by
    subst z
    rw [h] at e
    exact n (Option.some.inj e)
  rcases q with (q | ⟨ob, q⟩) | q
  · exact .inl (.inl (by rw [upd_ne (ne q (n1 _))]; exact q))
  · exact .inl (.inr ⟨ob, by rw [upd_ne (ne q (n2 _ _))]; exact q⟩)
  · exact .inr q
mutual
theorem rp1_at {K : PySem.W.Frag} {H : Hp} {D : Addr} {o o' : HO} (h : H D = some o) (n1 : ∀ z, o ≠ .tup z) (n2 : ∀ ob z, o ≠ .frz ob z) (n3 : ∀ z, o ≠ .lst z) (n4 : ∀ z, o ≠ .dK z) : ∀ {v : V} {d : PyData}, Rp K H v d → Rp K (upd H D o') v d
  | _, _, .non => .non
  | _, _, .bl b => .bl b
  | _, _, .int i => .int i
  | _, _, .str s z => .str s z
  | _, _, .lst q r => .lst (sqL_at h n3 n2 _ _ q) (rp_at h n1 n2 n3 n4 r)
  | _, _, .tup q r => .tup (sqT_at h n1 n2 _ _ q) (rp_at h n1 n2 n3 n4 r)
  | _, _, .dic q => .dic (by rw [upd_ne (fun z => by rw [z, h] at q; exact n4 _ (Option.some.inj q))]; exact q)
theorem rp_at {K : PySem.W.Frag} {H : Hp} {D : Addr} {o o' : HO} (h : H D = some o) (n1 : ∀ z, o ≠ .tup z) (n2 : ∀ ob z, o ≠ .frz ob z) (n3 : ∀ z, o ≠ .lst z) (n4 : ∀ z, o ≠ .dK z) : ∀ {vs : List V} {ds : List PyData}, RpAll K H vs ds → RpAll K (upd H D o') vs ds
  | _, _, .nil => .nil
  | _, _, .cons r s => .cons (rp1_at h n1 n2 n3 n4 r) (rp_at h n1 n2 n3 n4 s)
end
mutual
theorem rp1_dict {K : PySem.W.Frag} {H : Hp} {D : Addr} {kvs kvs' : List (Key × V)} (h : H D = some (.dK kvs)) : ∀ {v : V} {d : PyData}, Rp K H v d → Rp K (upd H D (.dK kvs')) v d
  | _, _, .non => .non
  | _, _, .bl b => .bl b
  | _, _, .int i => .int i
  | _, _, .str s z => .str s z
  | _, _, .lst q r => .lst (sqL_at h (fun _ z => by cases z) (fun _ _ z => by cases z) _ _ q) (rp_dict h r)
  | _, _, .tup q r => .tup (sqT_dict h _ _ q) (rp_dict h r)
  | _, _, .dic (a := a) q => by
    by_cases e : a = D
    · subst e; exact .dic upd_same
    · exact .dic (by rw [upd_ne e]; exact q)
theorem rp_dict {K : PySem.W.Frag} {H : Hp} {D : Addr} {kvs kvs' : List (Key × V)} (h : H D = some (.dK kvs)) : ∀ {vs : List V} {ds : List PyData}, RpAll K H vs ds → RpAll K (upd H D (.dK kvs')) vs ds
  | _, _, .nil => .nil
  | _, _, .cons r s => .cons (rp1_dict h r) (rp_dict h s)
end
def spTabInit (K : PySem.W.Frag) (T : List Addr) (C : Addr) : Sp := fun vs H Q _ => ∃ (H1 : Hp) (x dx a : Addr) (vk vf : V) (ks : List Kd) (fs : List Fd), vs = [.ref x, .ref a] ∧ H = upd (upd H1 dx (.own x)) x (.ins C dx []) ∧ H1 x = none ∧ H1 dx = none ∧ dx ≠ x ∧
  SqT K H1 a [vk, vf] ∧ KindsAt K H1 vk ks ∧ FnsAt K H1 vf fs ∧ (kNames ks).Nodup ∧ (kMakers ks).Nodup ∧ (fs.map (·.1)).Nodup ∧ ks.length ≤ 1000 ∧ (kMakers ks).length ≤ 1000 ∧ fs.length ≤ 1000 ∧ TbOk T H1 ∧ ∀ H', Ex T H1 H' → TabAt K H' x C ks fs → Q .non H'
section
variable {P : Program} {w : World} {K : PySem.W.Frag} {mg : Str → Option Value} {base : Heap} {T : List Addr}
theorem scTabInit : FnScope ["self", "program", "kinds", "functions", "kind", "makers", "name", "params", "result", "rows"] ["self", "program"] (defScope sTabInit) := ⟨rfl, rfl, rfl, by decide +kernel, rfl, by decide +kernel, by decide +kernel⟩
theorem ok_tab_init {f g C : Addr} {fd gd : FuncData} (FN : Fun K "__init__" "Tables.__init__" sTabInit f fd) (cC : Cls K C) (n1 : NoAttr K C "kinds") (n2 : NoAttr K C "makers") (n3 : NoAttr K C "functions")
    (G : FnOk P w K mg base CX0 1 g gd ["kinds"] (spMbn K T)) (mG : mg "makers_by_name" = some (.ref g)) (kG : PySem.W.keepIn K (.ref g) = true) (bG : Binds K gd ["kinds"] []) : FnOk P w K mg base CX0 2 f fd ["self", "program"] (spTabInit K T C) := by
  refine FN.ok scTabInit (fun vs H Q E h => ?_) (fun cdv A outer s H vs Q E hr h => ?_)
  · obtain ⟨H1, x, dx, a, vk, vf, ks, fs, rfl, _⟩ := h
    rfl
  · obtain ⟨H1, x, dx, a, vk, vf, ks, fs, rfl, rfl, hx, hdx, hne, ha, hk, hf, nk, nm, nf, lk, lm, lf, tb, k⟩ := h
    refine ⟨_, pss_cons (ps_asg (pv 1) (pg_two (K := K) (i := 2) (j := 3) rfl rfl scTabInit.nd rfl rfl rfl rfl))
      (pss_cons (ps_fld (pv 0) (pe_dc (own := [("kind", 4), ("makers", 5)]) (by rfl) scTabInit.nd (pi_tup (pv 2)) (blkOk_by (N := ["self", "program", "kinds", "functions", "kind", "makers", "name", "params", "result", "rows"]) (sc := defScope sTabInit) (by decide +kernel))
        (fun _ _ _ _ _ => pg_two (K := K) (i := 4) (j := 5) rfl rfl scTabInit.nd rfl rfl rfl rfl) (fun _ _ _ _ _ => pts_nil) (fun _ _ _ _ _ => pv 4) (fun _ _ _ _ _ => pv 5)) rfl)
      (pss_cons (ps_fld (pv 0) (pe_call G hr rfl mG kG bG .nil pass0 (pa_cons (pv 2) pa_nil)) rfl)
      (pss_one (ps_fld (pv 0) (pe_dc (own := [("name", 6), ("params", 7), ("result", 8), ("rows", 9)]) (by rfl) scTabInit.nd (pi_tup (pv 3)) (blkOk_by (N := ["self", "program", "kinds", "functions", "kind", "makers", "name", "params", "result", "rows"]) (sc := defScope sTabInit) (by decide +kernel))
        (fun _ _ _ _ _ => pg_four (K := K) (i := 6) (j := 7) (l := 8) (m := 9) rfl rfl scTabInit.nd rfl rfl rfl rfl rfl rfl rfl rfl) (fun _ _ _ _ _ => pts_nil) (fun _ _ _ _ _ => pv 6) (fun _ _ _ _ _ => pe_tup (pa_cons (pv 7) (pa_cons (pv 8) (pa_cons (pv 9) pa_nil))))) rfl)))), ?_⟩
    have x0 : Ex T H1 (upd (upd H1 dx (.own x)) x (.ins C dx [])) := (Ex.new hdx).upd hx
    have hx0 : (upd (upd H1 dx (.own x)) x (.ins C dx [])) x = some (.ins C dx []) := upd_same
    generalize upd (upd H1 dx (.own x)) x (.ins C dx []) = Hc at x0 hx0
    refine ⟨_, rfl, a, _, rfl, x0.sqT tb ha, rfl, _, _, rfl, _, _, rfl, rfl, ?_⟩
    obtain ⟨ak, xk, rfl, hsk, pk⟩ := hk
    obtain ⟨af, xf, rfl, hsf, pf⟩ := hf
    -- self.kinds
    refine ⟨_, rfl, ak, rfl, ⟨xk, x0.sqT tb hsk⟩, fun D hD => dc_tup (fun i H' => Ex T Hc H' ∧ ∃ (kvs : List (Key × V)) (acc : List Kd), H' D = some (.dK kvs) ∧ Paired (KdAt K H') kvs acc ∧ acc ++ ks.drop i = ks) ⟨Ex.new hD, [], [], upd_same, .nil, rfl⟩ (fun i H' _ q => (x0.trans q.1).sqT tb hsk) (fun i v H' hv q => ?_) (fun H' q => ?_)⟩
    · obtain ⟨qx, kvs, acc, qd, qp, qa⟩ := q
      obtain ⟨kd, hkd, b, vm, rfl, hb, hm⟩ := paired_get pk hv
      rw [drop_at hkd] at qa
      refine g_two ((x0.trans qx).sqT tb hb) (by decide) (by decide) (by decide) (lt10 (by decide) rfl) (lt10 (by decide) rfl) fun σ2 _ _ g4 g5 => yesT ⟨_, g4, _, g5, kvs, .inr kd.1, rfl, qd, ?_, qx.upd hD, kvs ++ [(.inr kd.1, vm)], acc ++ [kd], ?_, ?_, by rw [List.append_assoc]; exact qa⟩
      · rw [paired_len qp]
        exact small1000 (Nat.le_trans (len_of_app qa) lk)
      · rw [upd_same, put_new fun kv hkv z => ?_]
        obtain ⟨k0, hk0, e0, _⟩ := paired_mem qp hkv
        rw [e0] at z
        have e := congrArg (List.map (fun k : Kd => k.1)) qa
        rw [List.map_append] at e
        have nk : (ks.map (fun k : Kd => k.1)).Nodup := nk
        rw [← e] at nk
        exact (List.nodup_append.mp nk).2.2 _ (List.mem_map.mpr ⟨k0, hk0, rfl⟩) kd.1 (by simp) (Sum.inr.inj z)
      · exact paired_app (paired_imp (fun _ _ z => ⟨z.1, z.2.to (sqT_dict qd)⟩) qp) (.cons ⟨rfl, hm.to fun a xs z => sqT_dict qd _ _ ((x0.trans qx).sqT tb z)⟩ .nil)
    obtain ⟨qx, kk, acc, qd, qp, qa⟩ := q
    rw [paired_len pk, List.drop_length, List.append_nil] at qa
    subst qa
    have hx1 := qx.keep _ _ hx0 ((x0.tb tb).seqN hx0 fun _ z => by cases z)
    refine ⟨_, rfl, x, C, dx, _, rfl, hx1, cC, n1, by decide, ?_⟩
    have hDx : D ≠ x := fun z => by rw [z, hx1] at qd; cases qd
    have X2 : Ex T H1 (upd H' x (.ins C dx [("kinds", .ref D)])) := (x0.trans qx).upd hx
    have hx2 : (upd H' x (.ins C dx [("kinds", .ref D)])) x = some (.ins C dx [("kinds", .ref D)]) := upd_same
    have hd2 : (upd H' x (.ins C dx [("kinds", .ref D)])) D = some (.dK kk) := by rw [upd_ne hDx]; exact qd
    have pk2 : Paired (KdAt K (upd H' x (.ins C dx [("kinds", .ref D)]))) kk acc := paired_imp (fun _ _ z => ⟨z.1, z.2.to (sqT_at hx1 (fun _ z => by cases z) (fun _ _ z => by cases z))⟩) qp
    show tSeq _ _ _ _ (upd H' x (.ins C dx [("kinds", .ref D)]))
    generalize upd H' x (.ins C dx [("kinds", .ref D)]) = H2 at X2 hx2 hd2 pk2
    -- self.makers
    refine ⟨_, rfl, .ref ak, acc, rfl, ⟨ak, xk, rfl, X2.sqT tb hsk, paired_imp (fun _ _ z => z.to fun _ _ q => X2.sqT tb q) pk⟩, nm, lm, X2.tb tb, fun p H3 hp e3 m3 => ?_⟩
    have tb2 := X2.tb tb
    have hx3 := e3.keep _ _ hx2 (tb2.seqN hx2 fun _ z => by cases z)
    refine ⟨_, rfl, x, C, dx, _, rfl, hx3, cC, n2, by show 1 < 1000; decide, ?_⟩
    have X4 : Ex T H1 (upd H3 x (.ins C dx [("kinds", .ref D), ("makers", .ref p)])) := (X2.trans e3).upd hx
    have hx4 : (upd H3 x (.ins C dx [("kinds", .ref D), ("makers", .ref p)])) x = some (.ins C dx [("kinds", .ref D), ("makers", .ref p)]) := upd_same
    have hd4 : (upd H3 x (.ins C dx [("kinds", .ref D), ("makers", .ref p)])) D = some (.dK kk) := by rw [upd_ne hDx]; exact dk_keep e3 tb2 hd2
    have pk4 : Paired (KdAt K (upd H3 x (.ins C dx [("kinds", .ref D), ("makers", .ref p)]))) kk acc := paired_imp (fun _ _ z => ⟨z.1, z.2.to fun _ _ q => sqT_at hx3 (fun _ z => by cases z) (fun _ _ z => by cases z) _ _ (e3.sqT tb2 q)⟩) pk2
    have m4 : MkAt K (upd H3 x (.ins C dx [("kinds", .ref D), ("makers", .ref p)])) p (ents acc) := by
      obtain ⟨kvs, h1, h2⟩ := m3
      exact ⟨kvs, by rw [upd_ne (fun z => by rw [z, hx3] at h1; cases h1)]; exact h1, paired_imp (fun _ _ z => z.to (sqT_at hx3 (fun _ z => by cases z) (fun _ _ z => by cases z))) h2⟩
    rw [put2]
    generalize upd H3 x (.ins C dx [("kinds", .ref D), ("makers", .ref p)]) = H4 at X4 hx4 hd4 pk4 m4
    have tb4 := X4.tb tb
    -- self.functions
    refine ⟨_, rfl, af, rfl, ⟨xf, X4.sqT tb hsf⟩, fun D2 hD2 => dc_tup (fun i H' => Ex T H4 H' ∧ ∃ (kvs : List (Key × V)) (acc : List Fd), H' D2 = some (.dK kvs) ∧ Paired (FdAt K H') kvs acc ∧ acc ++ fs.drop i = fs) ⟨Ex.new hD2, [], [], upd_same, .nil, rfl⟩ (fun i H' _ q => (X4.trans q.1).sqT tb hsf) (fun i v H' hv q => ?_) (fun H' q => ?_)⟩
    · obtain ⟨qx, kvs, acc2, qd, qp, qa⟩ := q
      obtain ⟨fn, hfn, b, vp, vr, rfl, hb, hre⟩ := paired_get pf hv
      rw [drop_at hfn] at qa
      refine g_four ((X4.trans qx).sqT tb hb) (by decide) (by decide) (by decide) (by decide) (by decide) (by decide) (by decide) (by decide) (by decide) (by decide) (lt10 (by decide) rfl) (lt10 (by decide) rfl) (lt10 (by decide) rfl) (lt10 (by decide) rfl) fun σ2 _ _ g6 g7 g8 g9 => yesT ⟨_, g6, _, g7, _, g8, _, g9, by show 3 ≤ sizeLine; decide, fun p2 hp2 => ?_⟩
      have hne2 : D2 ≠ p2 := ne_of_none qd hp2
      refine ⟨kvs, .inr fn.1, rfl, by rw [upd_ne hne2]; exact qd, ?_, ?_⟩
      · rw [paired_len qp]
        exact small1000 (Nat.le_trans (len_of_app qa) lf)
      have x5 : Ex T H4 (upd H' p2 (.tup [vp, .str fn.2.2.1, vr])) := qx.trans (Ex.new hp2)
      have hp5 : SqT K (upd H' p2 (.tup [vp, .str fn.2.2.1, vr])) p2 [vp, .str fn.2.2.1, vr] := .inl (.inl upd_same)
      have qd5 : (upd H' p2 (.tup [vp, .str fn.2.2.1, vr])) D2 = some (.dK kvs) := by rw [upd_ne hne2]; exact qd
      have qp5 : Paired (FdAt K (upd H' p2 (.tup [vp, .str fn.2.2.1, vr]))) kvs acc2 := paired_imp (fun _ _ z => z.ex (Ex.new (T := T) hp2) (qx.tb tb4)) qp
      generalize upd H' p2 (.tup [vp, .str fn.2.2.1, vr]) = H5 at x5 hp5 qd5 qp5
      refine ⟨x5.upd hD2, kvs ++ [(.inr fn.1, .ref p2)], acc2 ++ [fn], ?_, ?_, by rw [List.append_assoc]; exact qa⟩
      · rw [upd_same, put_new fun kv hkv z => ?_]
        obtain ⟨k0, hk0, e0, _⟩ := paired_mem qp hkv
        rw [e0] at z
        have e := congrArg (List.map (fun k : Fd => k.1)) qa
        rw [List.map_append] at e
        rw [← e] at nf
        exact (List.nodup_append.mp nf).2.2 _ (List.mem_map.mpr ⟨k0, hk0, rfl⟩) fn.1 (by simp) (Sum.inr.inj z)
      · refine paired_app (paired_imp (fun kv k z => ?_) qp5) (.cons ⟨rfl, p2, vp, vr, rfl, sqT_dict qd5 _ _ hp5, ?_⟩ .nil)
        · obtain ⟨z1, t, vp', vr', z2, z3, z4, c, xs, z5, z6, z7⟩ := z
          exact ⟨z1, t, vp', vr', z2, sqT_dict qd5 _ _ z3, z4.to (sqT_dict qd5), c, xs, z5, sqT_dict qd5 _ _ z6, rp_dict qd5 z7⟩
        · have e6 : Ex T H1 (upd H5 D2 (.dK (putK kvs (.inr fn.1) (.ref p2)))) := X4.trans (x5.upd hD2)
          exact hre.ex e6 tb
    · obtain ⟨qx, kf, acc2, qd, qp, qa⟩ := q
      rw [paired_len pf, List.drop_length, List.append_nil] at qa
      subst qa
      have hx5 := qx.keep _ _ hx4 (tb4.seqN hx4 fun _ z => by cases z)
      refine ⟨_, rfl, x, C, dx, _, rfl, hx5, cC, n3, by show 2 < 1000; decide, ?_⟩
      rw [put3]
      have hD2x : D2 ≠ x := fun z => by rw [z, hx5] at qd; cases qd
      have X6 : Ex T H1 (upd H' x (.ins C dx [("kinds", .ref D), ("makers", .ref p), ("functions", .ref D2)])) := (X4.trans qx).upd hx
      have keep : ∀ a xs, SqT K H' a xs → SqT K (upd H' x (.ins C dx [("kinds", .ref D), ("makers", .ref p), ("functions", .ref D2)])) a xs := sqT_at hx5 (fun _ z => by cases z) (fun _ _ z => by cases z)
      have m6 := m4.ex qx tb4
      refine k _ X6 ⟨dx, D, p, D2, kk, kf, upd_same, ?_, ?_, ?_, ?_, ?_⟩
      · rw [upd_ne hDx]; exact dk_keep qx tb4 hd4
      · exact paired_imp (fun _ _ z => ⟨z.1, z.2.to fun _ _ q => keep _ _ (qx.sqT tb4 q)⟩) pk4
      · obtain ⟨kvs, h1, h2⟩ := m6
        exact ⟨kvs, by rw [upd_ne (fun z => by rw [z, hx5] at h1; cases h1)]; exact h1, paired_imp (fun _ _ z => z.to keep) h2⟩
      · rw [upd_ne hD2x]; exact qd
      · refine paired_imp (fun kv k z => ?_) qp
        obtain ⟨z1, t, vp', vr', z2, z3, z4, c, xs, z5, z6, z7⟩ := z
        exact ⟨z1, t, vp', vr', z2, keep _ _ z3, z4.to keep, c, xs, z5, keep _ _ z6, rp_at hx5 (fun _ z => by cases z) (fun _ _ z => by cases z) (fun _ z => by cases z) (fun _ z => by cases z) z7⟩
end
end JF
set_option Elab.async false
set_option linter.all false
set_option maxRecDepth 100000
set_option maxHeartbeats 4000000
namespace JF
open PySem PySem.Spec PyProof.Rows L2 GxR GA
abbrev sNexts : Stmt := topS 23
abbrev sNamed : Stmt := topS 24
abbrev sReads : Stmt := topS 26
abbrev sMany : Stmt := topS 76
abbrev sBehind : Stmt := topS 81
abbrev sWReads : Stmt := topS 85
/-- the row ("give", r) -/
def GiveAt (K : PySem.W.Frag) (H : Hp) (v : V) (r : Int) : Prop := ∃ a, v = .ref a ∧ SqT K H a [.str "give", .int r]
theorem pe_never {X : Cx} {e : Expr} : PE X e (fun _ _ _ => False) := ⟨fun _ _ _ _ _ _ h => h.elim⟩
section
variable {P : Program} {w : World} {K : PySem.W.Frag} {mg : Str → Option Value} {base : Heap} {T : List Addr}
def spNexts (K : PySem.W.Frag) : Sp := fun vs H Q _ => ∃ (v : V) (r : Int), vs = [v] ∧ GiveAt K H v r ∧ ∀ p, H p = none → Q (.ref p) (upd H p (.lst []))
theorem scNexts : FnScope ["row"] ["row"] (defScope sNexts) := ⟨rfl, rfl, rfl, by decide +kernel, rfl, by decide +kernel, by decide +kernel⟩
theorem ok_nexts {f : Addr} {fd : FuncData} (FN : Fun K "nexts" "nexts" sNexts f fd) : FnOk P w K mg base CX0 1 f fd ["row"] (spNexts K) := by
  refine FN.ok scNexts (fun vs H Q E h => ?_) (fun cdv A outer s H vs Q E hr h => ?_)
  · obtain ⟨v, r, rfl, _⟩ := h
    rfl
  · obtain ⟨v, r, rfl, ⟨a, rfl, ha⟩, k⟩ := h
    refine ⟨_, pss_cons (ps_if (pt_cmpR op_eq (pe_ix ix_tup (pv 0) pe_int (fun _ _ => rfl)) pe_str (nomark _)) (pss_one (ps_ret (pe_lst pa_nil))) pss_nil) pss_never, ?_⟩
    exact ⟨_, rfl, a, _, _, _, rfl, rfl, ha, atI_nat (j := 0) rfl, rfl, _, rfl, iteT ⟨by show 0 ≤ sizeLine; decide, fun p hp => k p hp⟩⟩
def spNamed (K : PySem.W.Frag) : Sp := fun vs H Q _ => ∃ (t v : V) (r : Int), vs = [t, v] ∧ GiveAt K H v r ∧ Q (.bl true) H
theorem scNamed : FnScope ["tables", "row"] ["tables", "row"] (defScope sNamed) := ⟨rfl, rfl, rfl, by decide +kernel, rfl, by decide +kernel, by decide +kernel⟩
theorem ok_named {f : Addr} {fd : FuncData} (FN : Fun K "is_named" "is_named" sNamed f fd) : FnOk P w K mg base CX0 1 f fd ["tables", "row"] (spNamed K) := by
  refine FN.ok scNamed (fun vs H Q E h => ?_) (fun cdv A outer s H vs Q E hr h => ?_)
  · obtain ⟨t, v, r, rfl, _⟩ := h
    rfl
  · obtain ⟨t, v, r, rfl, ⟨a, rfl, ha⟩, k⟩ := h
    refine ⟨_, pss_cons (ps_if (pt_cmpR op_eq (pe_ix ix_tup (pv 1) pe_int (fun _ _ => rfl)) pe_str (nomark _)) pss_never pss_nil)
      (pss_one (ps_ret (pe_or (pe_cmpR op_ne (pe_ix ix_tup (pv 1) pe_int (fun _ _ => rfl)) pe_str (nomark _)) (pe_one pe_never)))), ?_⟩
    exact ⟨_, rfl, a, _, _, _, rfl, rfl, ha, atI_nat (j := 0) rfl, rfl, _, rfl, iteF ⟨_, rfl, a, _, _, _, rfl, rfl, ha, atI_nat (j := 0) rfl, rfl, _, rfl, iteT k⟩⟩
def spMany (K : PySem.W.Frag) (T : List Addr) : Sp := fun vs H Q _ => ∃ (t v : V) (r : Int), vs = [t, v] ∧ GiveAt K H v r ∧ TbOk T H ∧ ∀ H', Ex T H H' → Q (.bl false) H'
theorem scMany : FnScope ["tables", "row"] ["tables", "row"] (defScope sMany) := ⟨rfl, rfl, rfl, by decide +kernel, rfl, by decide +kernel, by decide +kernel⟩
theorem ok_many {f : Addr} {fd : FuncData} (FN : Fun K "has_wrong_many" "has_wrong_many" sMany f fd) : FnOk P w K mg base CX0 1 f fd ["tables", "row"] (spMany K T) := by
  refine FN.ok scMany (fun vs H Q E h => ?_) (fun cdv A outer s H vs Q E hr h => ?_)
  · obtain ⟨t, v, r, rfl, _⟩ := h
    rfl
  · obtain ⟨t, v, r, rfl, ⟨a, rfl, ha⟩, tb, k⟩ := h
    refine ⟨_, pss_cons (ps_if (pt_cmpR op_in_seq (pe_ix ix_tup (pv 1) pe_int (fun _ _ => rfl)) (pe_tup (pa_cons pe_str (pa_cons pe_str pa_nil))) rfl) pss_never pss_nil)
      (pss_one (ps_ret (pe_and (pe_cmpR op_eq (pe_ix ix_tup (pv 1) pe_int (fun _ _ => rfl)) pe_str (nomark _)) (pe_one pe_never)))), ?_⟩
    refine ⟨_, rfl, a, _, _, _, rfl, rfl, ha, atI_nat (j := 0) rfl, by show 2 ≤ sizeLine; decide, fun p hp => ⟨p, _, rfl, .inr (.inl (.inl upd_same)), rfl, rfl, _, rfl, iteF ?_⟩⟩
    have x1 : Ex T H (upd H p (.tup [.str "make", .str "call"])) := Ex.new hp
    exact ⟨_, rfl, a, _, _, _, rfl, rfl, x1.sqT tb ha, atI_nat (j := 0) rfl, rfl, _, rfl, iteF (k _ x1)⟩
/-- the row reads r, which is to be res -/
def spReads (K : PySem.W.Frag) (T : List Addr) : Sp := fun vs H Q _ => ∃ (t v : V) (r : Int) (res : Str), vs = [t, v, .str res] ∧ GiveAt K H v r ∧ TbOk T H ∧ ∀ H' l q, Ex T H H' → SqL K H' l [.ref q] → SqT K H' q [.int r, .str res] → Q (.ref l) H'
theorem scReads : FnScope ["tables", "row", "result"] ["tables", "row", "result"] (defScope sReads) := ⟨rfl, rfl, rfl, by decide +kernel, rfl, by decide +kernel, by decide +kernel⟩
theorem ok_reads {f : Addr} {fd : FuncData} (FN : Fun K "reads" "reads" sReads f fd) : FnOk P w K mg base CX0 1 f fd ["tables", "row", "result"] (spReads K T) := by
  refine FN.ok scReads (fun vs H Q E h => ?_) (fun cdv A outer s H vs Q E hr h => ?_)
  · obtain ⟨t, v, r, res, rfl, _⟩ := h
    rfl
  · obtain ⟨t, v, r, res, rfl, ⟨a, rfl, ha⟩, tb, k⟩ := h
    refine ⟨_, pss_cons (ps_if (pt_cmpR op_in_seq (pe_ix ix_tup (pv 1) pe_int (fun _ _ => rfl)) (pe_tup (pa_cons pe_str (pa_cons pe_str pa_nil))) rfl) pss_never pss_nil)
      (pss_cons (ps_if (pt_cmpR op_eq (pe_ix ix_tup (pv 1) pe_int (fun _ _ => rfl)) pe_str (nomark _)) pss_never pss_nil)
      (pss_cons (ps_if (pt_cmpR op_in_seq (pe_ix ix_tup (pv 1) pe_int (fun _ _ => rfl)) (pe_tup (pa_cons pe_str (pa_cons pe_str pa_nil))) rfl) pss_never pss_nil)
      (pss_cons (ps_if (pt_cmpR op_eq (pe_ix ix_tup (pv 1) pe_int (fun _ _ => rfl)) pe_str (nomark _)) (pss_one (ps_ret (pe_lst (pa_cons (pe_tup (pa_cons (pe_ix ix_tup (pv 1) pe_int (fun _ _ => rfl)) (pa_cons (pv 2) pa_nil))) pa_nil)))) pss_nil) pss_never))), ?_⟩
    refine ⟨_, rfl, a, _, _, _, rfl, rfl, ha, atI_nat (j := 0) rfl, by show 2 ≤ sizeLine; decide, fun p hp => ⟨p, _, rfl, .inr (.inl (.inl upd_same)), rfl, rfl, _, rfl, iteF ?_⟩⟩
    have x1 : Ex T H (upd H p (.tup [.str "add", .str "sub"])) := Ex.new hp
    generalize upd H p (.tup [.str "add", .str "sub"]) = H1 at x1
    refine ⟨_, rfl, a, _, _, _, rfl, rfl, x1.sqT tb ha, atI_nat (j := 0) rfl, rfl, _, rfl, iteF ?_⟩
    refine ⟨_, rfl, a, _, _, _, rfl, rfl, x1.sqT tb ha, atI_nat (j := 0) rfl, by show 2 ≤ sizeLine; decide, fun p2 hp2 => ⟨p2, _, rfl, .inr (.inl (.inl upd_same)), rfl, rfl, _, rfl, iteF ?_⟩⟩
    have x2 : Ex T H (upd H1 p2 (.tup [.str "make", .str "call"])) := x1.trans (Ex.new hp2)
    generalize upd H1 p2 (.tup [.str "make", .str "call"]) = H2 at x2
    refine ⟨_, rfl, a, _, _, _, rfl, rfl, x2.sqT tb ha, atI_nat (j := 0) rfl, rfl, _, rfl, iteT ?_⟩
    refine ⟨_, rfl, a, _, _, _, rfl, rfl, x2.sqT tb ha, atI_nat (j := 1) rfl, _, rfl, by show 2 ≤ sizeLine; decide, fun q hq => ⟨by show 1 ≤ sizeLine; decide, fun l hl => ?_⟩⟩
    refine k _ l q (x2.trans ((Ex.new hq).trans (Ex.new hl))) (.inl (.inl upd_same)) (sqT_new hl _ _ (.inl (.inl upd_same)))
end
end JF
set_option Elab.async false
set_option linter.all false
set_option maxRecDepth 100000
set_option maxHeartbeats 4000000
namespace JF
open PySem PySem.Spec PyProof.Rows L2 GxR GA
section
variable {P : Program} {w : World} {K : PySem.W.Frag} {mg : Str → Option Value} {base : Heap} {T : List Addr}
def spBehind (K : PySem.W.Frag) (T : List Addr) : Sp := fun vs H Q _ => ∃ (t v hv : V) (r : Int), vs = [t, v, hv] ∧ GiveAt K H v r ∧ TbOk T H ∧ ∀ H' l, Ex T H H' → SqL K H' l [] → Q (.ref l) H'
theorem scBehind : FnScope ["tables", "row", "has", "fields", "goto"] ["tables", "row", "has"] (defScope sBehind) := ⟨rfl, rfl, rfl, by decide +kernel, rfl, by decide +kernel, by decide +kernel⟩
theorem ok_behind {f g : Addr} {fd gd : FuncData} (FN : Fun K "words_behind" "words_behind" sBehind f fd) (G : FnOk P w K mg base CX0 1 g gd ["row"] (spNexts K)) (mG : mg "nexts" = some (.ref g)) (kG : PySem.W.keepIn K (.ref g) = true) (bG : Binds K gd ["row"] []) :
    FnOk P w K mg base CX0 2 f fd ["tables", "row", "has"] (spBehind K T) := by
  refine FN.ok scBehind (fun vs H Q E h => ?_) (fun cdv A outer s H vs Q E hr h => ?_)
  · obtain ⟨t, v, hv, r, rfl, _⟩ := h
    rfl
  · obtain ⟨t, v, hv, r, rfl, ⟨a, rfl, ha⟩, tb, k⟩ := h
    refine ⟨_, pss_cons (ps_if (pt_cmpR op_eq (pe_ix ix_tup (pv 1) pe_int (fun _ _ => rfl)) pe_str (nomark _)) pss_never pss_nil)
      (pss_cons (ps_if (pt_cmpR op_in_seq (pe_ix ix_tup (pv 1) pe_int (fun _ _ => rfl)) (pe_tup (pa_cons pe_str (pa_cons pe_str pa_nil))) rfl)
        (pss_one (ps_ret (pe_lc (own := [("goto", 4)]) (g := gName 4) (by rfl) scBehind.nd (pi_list (pe_call G hr rfl mG kG bG .nil pass0 (pa_cons (pv 1) pa_nil))) (blkOk_by (N := ["tables", "row", "has", "fields", "goto"]) (sc := defScope sBehind) (by decide +kernel))
          (fun _ _ _ _ _ => pg_name (i := 4) scBehind.nd rfl (.inl rfl)) (fun _ _ _ _ _ => pts_nil) (fun _ _ _ _ _ => pe_tup (pa_cons (pv 4) (pa_cons (pv 2) pa_nil)))))) pss_nil) pss_never), ?_⟩
    refine ⟨_, rfl, a, _, _, _, rfl, rfl, ha, atI_nat (j := 0) rfl, rfl, _, rfl, iteF ?_⟩
    refine ⟨_, rfl, a, _, _, _, rfl, rfl, ha, atI_nat (j := 0) rfl, by show 2 ≤ sizeLine; decide, fun p hp => ⟨p, _, rfl, .inr (.inl (.inl upd_same)), rfl, rfl, _, rfl, iteT ?_⟩⟩
    have x1 : Ex T H (upd H p (.tup [.str "less", .str "give"])) := Ex.new hp
    generalize upd H p (.tup [.str "less", .str "give"]) = H1 at x1
    refine ⟨_, rfl, .ref a, r, rfl, ⟨a, rfl, x1.sqT tb ha⟩, fun p2 hp2 => ⟨p2, rfl, ⟨[], .inl (.inl upd_same)⟩, fun D hD => ?_⟩⟩
    have x2 : Ex T H (upd H1 p2 (.lst [])) := x1.trans (Ex.new hp2)
    have hl : SqL K (upd H1 p2 (.lst [])) p2 [] := .inl (.inl upd_same)
    generalize upd H1 p2 (.lst []) = H2 at x2 hl hD
    have x3 : Ex T H2 (upd H2 D (.lst [])) := Ex.new hD
    refine lc_it (walk_list (xs := [])) (fun i H' => H' = upd H2 D (.lst [])) rfl (fun i H' _ e => e ▸ x3.sqL (x2.tb tb) hl) (fun i x H' H3 hi _ _ => absurd hi (Nat.not_lt_zero i)) (fun H' e => ?_)
    subst e
    exact k _ D (x2.trans x3) (.inl (.inl upd_same))
def spWReads (K : PySem.W.Frag) : Sp := fun vs H Q _ => ∃ (l d q : Addr) (r : Int) (res : Str) (kvs : List (Key × V)), vs = [.ref l, .ref d] ∧ SqL K H l [.ref q] ∧ SqT K H q [.int r, .str res] ∧ H d = some (.dK kvs) ∧
  (valV kvs (.inl r) = none → Q (.str "unset") H) ∧ (∀ wd : Str, valV kvs (.inl r) = some (.str wd) → if wd = res then Q .non H else Q (.str "unfit") H) ∧ (valV kvs (.inl r) = none ∨ ∃ wd : Str, valV kvs (.inl r) = some (.str wd))
theorem scWReads : FnScope ["reading", "has", "r", "word"] ["reading", "has"] (defScope sWReads) := ⟨rfl, rfl, rfl, by decide +kernel, rfl, by decide +kernel, by decide +kernel⟩
theorem ok_wreads {f : Addr} {fd : FuncData} (FN : Fun K "wrong_reads" "wrong_reads" sWReads f fd) : FnOk P w K mg base CX0 1 f fd ["reading", "has"] (spWReads K) := by
  refine FN.ok scWReads (fun vs H Q E h => ?_) (fun cdv A outer s H vs Q E hr h => ?_)
  · obtain ⟨l, d, q, r, res, kvs, rfl, _⟩ := h
    rfl
  · obtain ⟨l, d, q, r, res, kvs, rfl, hl, hq, hd, k1, k2, k3⟩ := h
    have hu := hu_of hr
    refine ⟨_, pss_cons (ps_for PassesOwn.never rfl (pi_list (pv 0)) (pg_two (K := K) (i := 2) (j := 3) rfl rfl scWReads.nd rfl rfl rfl rfl)
      (pss_cons (ps_if (pt_cmp (pc_dnotin hu (pv 2) (pv 1)) rfl) (pss_one (ps_ret pe_str)) pss_nil)
      (pss_one (ps_if (pt_cmpR op_ne (pe_dget hu (pv 1) (pv 2) (fun _ _ => rfl)) (pv 3) (nomark _)) (pss_one (ps_ret pe_str)) pss_nil))))
      (pss_one (ps_ret pe_non)), ?_⟩
    refine ⟨_, rfl, l, rfl, ⟨_, hl⟩, for_it walk_list (fun i σ H' => H' = H ∧ σ[1]? = some (some (.ref d)) ∧ σ.length = 4 ∧ (0 < i → ∃ wd : Str, valV kvs (.inl r) = some (.str wd) ∧ wd = res)) ⟨rfl, rfl, rfl, fun z => absurd z (Nat.lt_irrefl 0)⟩ (fun i σ H' _ e => e.1 ▸ hl) (fun i x σ H' H3 hi p y => ?_) (fun σ H' p => ?_)⟩
    · obtain ⟨rfl, p1, p4, _⟩ := p
      obtain ⟨rfl, hx⟩ := y
      obtain rfl : i = 0 := by
        have hi : i < 1 := hi
        omega
      cases hx
      have s2 : ((σ.set 2 (some (.int r))).set 3 (some (.str res)))[2]? = some (some (.int r)) := by
        rw [List.getElem?_set_ne (by decide)]; exact List.getElem?_set_self (by rw [p4]; decide)
      have s3 : ((σ.set 2 (some (.int r))).set 3 (some (.str res)))[3]? = some (some (.str res)) := List.getElem?_set_self (by rw [List.length_set, p4]; decide)
      have s1 : ((σ.set 2 (some (.int r))).set 3 (some (.str res)))[1]? = some (some (.ref d)) := by
        rw [List.getElem?_set_ne (by decide), List.getElem?_set_ne (by decide)]; exact p1
      have s4 : ((σ.set 2 (some (.int r))).set 3 (some (.str res))).length = 4 := by rw [List.length_set, List.length_set, p4]
      refine ⟨q, _, rfl, hq, rfl, _, _, rfl, _, _, rfl, rfl, ?_⟩
      generalize (σ.set 2 (some (.int r))).set 3 (some (.str res)) = σ' at s1 s2 s3 s4
      refine ⟨_, s2, _, s1, d, _, rfl, DGet.k (k := .inl r) hd, _, rfl, ?_⟩
      rcases k3 with e | ⟨wd, e⟩
      · rw [e]
        exact iteT (k1 e)
      · rw [e]
        refine iteF ⟨_, s1, _, s2, d, .str wd, rfl, e ▸ DGet.k (k := .inl r) hd, _, s3, rfl, _, rfl, ?_⟩
        have := k2 wd e
        by_cases z : wd = res
        · rw [show decide (V.str wd = V.str res) = true from decide_eq_true (by rw [z])]
          exact iteF ⟨rfl, s1, s4, fun _ => ⟨wd, rfl, z⟩⟩
        · rw [if_neg z] at this
          rw [show decide (V.str wd = V.str res) = false from decide_eq_false (fun y => z (V.str.inj y))]
          exact iteT this
    · obtain ⟨rfl, _, _, p⟩ := p
      obtain ⟨wd, e, z⟩ := p (Nat.one_pos)
      have := k2 wd e
      rw [if_pos z] at this
      exact this
end
end JF
set_option Elab.async false
set_option linter.all false
set_option maxRecDepth 100000
set_option maxHeartbeats 4000000
namespace JF
open PySem PySem.Spec PyProof.Rows L2 GxR GA
abbrev sWordsAt : Stmt := topS 79
/-- what the params bring -/
def parKv (ps : List Str) : List (Key × V) := ps.zipIdx.map fun p => (.inl (p.2 : Nat), .str p.1)
theorem parKv_keys {ps : List Str} {kv : Key × V} (h : kv ∈ parKv ps) : ∃ i, i < ps.length ∧ kv.1 = .inl ((i : Nat) : Int) := by
  obtain ⟨p, hp, rfl⟩ := List.mem_map.mp h
  obtain ⟨x, i⟩ := p
  have := List.mem_zipIdx hp
  exact ⟨i, by omega, rfl⟩
theorem parKv_succ {ps : List Str} {j : Nat} {p : Str} (h : ps[j]? = some p) : putK (parKv (ps.take j)) (.inl ((j : Nat) : Int)) (.str p) = parKv (ps.take (j + 1)) := by
  have hj := (List.getElem?_eq_some_iff.mp h).1
  have hl : (ps.take j).length = j := by rw [List.length_take]; omega
  rw [put_new fun kv hkv z => ?_]
  · rw [List.take_succ, h]
    unfold parKv
    rw [Option.toList_some, List.zipIdx_append, List.map_append, hl]
    simp
  · obtain ⟨i, hi, e⟩ := parKv_keys hkv
    rw [e] at z
    have := Sum.inl.inj z
    omega
section
variable {P : Program} {w : World} {K : PySem.W.Frag} {mg : Str → Option Value} {base : Heap} {T : List Addr}
def spWordsAt (K : PySem.W.Frag) (T : List Addr) : Sp := fun vs H Q _ => ∃ (t : V) (f : Addr) (nm res : Str) (vp vr vrow : V) (c : Addr) (ps : List Str) (r : Int), vs = [t, .ref f] ∧ SqT K H f [.str nm, vp, .str res, .ref c] ∧ FieldsAt K H vp ps ∧ SqT K H c [vrow] ∧ GiveAt K H vrow r ∧ ps.length ≤ 1000 ∧ TbOk T H ∧
  ∀ H' d e, Ex T H H' → H' d = some (.dK [(.inl 0, .ref e)]) → H' e = some (.dK (parKv ps)) → Q (.ref d) H'
theorem scWordsAt : FnScope ["tables", "function", "_", "params", "rows", "words", "waiting", "index", "leading", "goto", "has", "met", "r", "word"] ["tables", "function"] (defScope sWordsAt) := ⟨rfl, rfl, rfl, by decide +kernel, rfl, by decide +kernel, by decide +kernel⟩
theorem ok_words_at {f g : Addr} {fd gd : FuncData} (FN : Fun K "words_at" "words_at" sWordsAt f fd) (Be : mg "enumerate" = none) (G : FnOk P w K mg base CX0 2 g gd ["tables", "row", "has"] (spBehind K T)) (mG : mg "words_behind" = some (.ref g)) (kG : PySem.W.keepIn K (.ref g) = true) (bG : Binds K gd ["tables", "row", "has"] []) :
    FnOk P w K mg base CX0 3 f fd ["tables", "function"] (spWordsAt K T) := by
  refine FN.ok scWordsAt (fun vs H Q E h => ?_) (fun cdv A outer s H vs Q E hr h => ?_)
  · obtain ⟨t, fa, nm, res, vp, vr, vrow, c, ps, r, rfl, _⟩ := h
    rfl
  · obtain ⟨t, fa, nm, res, vp, vr, vrow, c, ps, r, rfl, hf, ⟨pa, rfl, hp⟩, hc, hg, few, tb, k⟩ := h
    have hu := hu_of hr
    refine ⟨_, pss_cons (ps_asg (pv 1) (pg_four (K := K) (i := 2) (j := 3) (l := 2) (m := 4) rfl rfl scWordsAt.nd rfl rfl rfl rfl rfl rfl rfl rfl))
      (pss_cons (ps_set (i := 5) scWordsAt.nd rfl (.inl rfl) (pe_disp (pps_cons pe_int (pe_dc (own := [("r", 12), ("word", 13)]) (by rfl) scWordsAt.nd (ET.pi_enumT rfl Be (pa_cons (pv 3) pa_nil)) (blkOk_by (N := ["tables", "function", "_", "params", "rows", "words", "waiting", "index", "leading", "goto", "has", "met", "r", "word"]) (sc := defScope sWordsAt) (by decide +kernel))
          (fun _ _ _ _ _ => pg_two (K := K) (i := 12) (j := 13) rfl rfl scWordsAt.nd rfl rfl rfl rfl) (fun _ _ _ _ _ => pts_nil) (fun _ _ _ _ _ => pv 12) (fun _ _ _ _ _ => pv 13)) pps_nil) rfl rfl (by decide) (by decide)))
      (pss_cons (ps_set (i := 6) scWordsAt.nd rfl (.inl rfl) (pe_lst (pa_cons pe_int pa_nil)))
      (pss_cons (ps_while PassesOwn.never (pt_truth (pv 6) (fun _ => rfl))
        (pss_cons (ps_set (i := 7) scWordsAt.nd rfl (.inl rfl) (pe_bm0 PySem.F.plainAttrs_list PySem.F.slot_list_pop PySem.F.type_list_pop mt_pop (pv 6)))
        (pss_cons (ps_set (i := 8) scWordsAt.nd rfl (.inl rfl) (pe_call G hr rfl mG kG bG .nil pass0 (pa_cons (pv 0) (pa_cons (pe_ix ix_tup (pv 4) (pv 7) (fun _ _ => rfl)) (pa_cons (pe_dget hu (pv 5) (pv 7) (fun _ _ => rfl)) pa_nil)))))
        (pss_one (ps_for PassesOwn.never rfl (pi_list (pv 8)) (pg_two (K := K) (i := 9) (j := 10) rfl rfl scWordsAt.nd rfl rfl rfl rfl) pss_never)))))
      (pss_one (ps_ret (pv 5)))))), ?_⟩
    refine ⟨.ref fa, rfl, fa, _, rfl, hf, rfl, _, _, rfl, _, _, rfl, _, _, rfl, _, _, rfl, rfl, fun d hd => ?_⟩
    have x1 : Ex T H (upd H d (.dK [])) := Ex.new hd
    have hd1 : (upd H d (.dK [])) d = some (.dK []) := upd_same
    generalize upd H d (.dK []) = H1 at x1 hd1
    have tb1 := x1.tb tb
    have hp1 := x1.sqT tb hp
    have lp : (ps.map V.str).length = ps.length := List.length_map ..
    refine ⟨.ref pa, rfl, pa, _, rfl, hp1, fun e he => lcB_it ET.walk_enumT (fun j H' => Ex T H1 H' ∧ H' e = some (.dK (parKv (ps.take j)))) ⟨Ex.new he, upd_same⟩ (fun j H' _ q => q.1.sqT tb1 hp1) (fun j x H' H2 hj q y => ?_) (fun H' q => ?_)⟩
    · obtain ⟨Tp, u, v2, rfl, hT, rfl, hu2, hv⟩ := y
      cases hu2
      have hv : (ps.map V.str)[j]? = some v2 := hv
      rw [List.getElem?_map] at hv
      obtain ⟨p, hpj, rfl⟩ := Option.map_eq_some_iff.mp hv
      obtain ⟨qx, qd⟩ := q
      have hne : e ≠ Tp := ne_of_none qd hT
      refine g_two (.inl (.inl upd_same)) (by decide) (by decide) (by decide) (by show 12 < 14; decide) (by show 13 < 14; decide) fun σ2 _ _ g12 g13 => yesT ⟨_, g12, _, g13, parKv (ps.take j), .inl ((j : Nat) : Int), rfl, by rw [upd_ne hne]; exact qd, ?_, (qx.trans (Ex.new hT)).upd he, ?_⟩
      · unfold parKv
        rw [List.length_map, List.length_zipIdx, List.length_take]
        exact small1000 (by omega)
      · rw [upd_same, parKv_succ hpj]
    obtain ⟨qx, qd⟩ := q
    rw [lp, List.take_length] at qd
    have hdk := dk_keep qx tb1 hd1
    have hed : e ≠ d := fun z => by rw [z, hd1] at he; cases he
    refine ⟨hdk, [(.inl 0, .ref e)], rfl, by show 1 ≤ 15; decide, ?_⟩
    have x3 : Ex T H (upd H' d (.dK [(.inl 0, .ref e)])) := (x1.trans qx).upd hd
    have hd3 : (upd H' d (.dK [(.inl 0, .ref e)])) d = some (.dK [(.inl 0, .ref e)]) := upd_same
    have he3 : (upd H' d (.dK [(.inl 0, .ref e)])) e = some (.dK (parKv ps)) := by rw [upd_ne hed]; exact qd
    show gName 5 (.ref d) _ (upd H' d (.dK [(.inl 0, .ref e)])) _
    generalize upd H' d (.dK [(.inl 0, .ref e)]) = H3 at x3 hd3 he3
    have tb3 := x3.tb tb
    refine ⟨by show 1 ≤ sizeLine; decide, fun l hl => ?_⟩
    refine ⟨fun m σ H' => σ.length = 14 ∧ σ[0]? = some (some t) ∧ σ[4]? = some (some (.ref c)) ∧ σ[5]? = some (some (.ref d)) ∧ σ[6]? = some (some (.ref l)) ∧ Ex T H3 H' ∧ ((m = 1 ∧ H' l = some (.lst [.int 0])) ∨ (m = 0 ∧ H' l = some (.lst []))), ⟨1, rfl, rfl, rfl, rfl, rfl, Ex.new hl, .inl ⟨rfl, upd_same⟩⟩, ?_⟩
    rintro m σ H' ⟨s14, s0, s4, s5, s6, x4, q⟩
    rcases q with ⟨rfl, q⟩ | ⟨rfl, q⟩
    · refine ⟨_, s6, true, .inl ⟨[.int 0], .inl (.inl q), rfl⟩, iteT ⟨fun σ' H'' => σ'.length = 14 ∧ σ'[0]? = some (some t) ∧ σ'[4]? = some (some (.ref c)) ∧ σ'[5]? = some (some (.ref d)) ∧ σ'[6]? = some (some (.ref l)) ∧ Ex T H3 H'' ∧ H'' l = some (.lst []), fun σ' H'' h => ⟨0, by decide, h.1, h.2.1, h.2.2.1, h.2.2.2.1, h.2.2.2.2.1, h.2.2.2.2.2.1, .inr ⟨rfl, h.2.2.2.2.2.2⟩⟩, ?_⟩⟩
      refine ⟨_, s6, .inl ⟨rfl, _, .inl (.inl q)⟩, l, [.int 0], .int 0, rfl, rfl, q, rfl, ?_⟩
      have x5 : Ex T H3 (upd H' l (.lst [])) := x4.upd hl
      have q5 : (upd H' l (.lst [])) l = some (.lst []) := upd_same
      show gName 7 (.int 0) _ (upd H' l (.lst [])) _
      generalize upd H' l (.lst []) = H5 at x5 q5
      have t7 : (σ.set 7 (some (.int 0)))[7]? = some (some (.int 0)) := List.getElem?_set_self (by rw [s14]; decide)
      have t0 : (σ.set 7 (some (.int 0)))[0]? = some (some t) := by rw [List.getElem?_set_ne (by decide)]; exact s0
      have t4 : (σ.set 7 (some (.int 0)))[4]? = some (some (.ref c)) := by rw [List.getElem?_set_ne (by decide)]; exact s4
      have t5 : (σ.set 7 (some (.int 0)))[5]? = some (some (.ref d)) := by rw [List.getElem?_set_ne (by decide)]; exact s5
      have t6 : (σ.set 7 (some (.int 0)))[6]? = some (some (.ref l)) := by rw [List.getElem?_set_ne (by decide)]; exact s6
      have t14 : (σ.set 7 (some (.int 0))).length = 14 := by rw [List.length_set, s14]
      show tSeq _ _ _ (σ.set 7 (some (.int 0))) H5
      generalize σ.set 7 (some (.int 0)) = σ5 at t7 t0 t4 t5 t6 t14
      have xx := x3.trans x5
      obtain ⟨ra, rfl, hra⟩ := hg
      refine ⟨_, t0, _, t4, _, t7, c, _, _, _, rfl, rfl, xx.sqT tb hc, atI_nat (j := 0) rfl, _, t5, _, t7, d, .ref e, rfl, DGet.k (k := .inl 0) (dk_keep x5 tb3 hd3), t, .ref ra, .ref e, r, rfl, ⟨ra, rfl, xx.sqT tb hra⟩, xx.tb tb, fun H6 l2 x6 hl2 => ?_⟩
      have t8 : (σ5.set 8 (some (.ref l2)))[8]? = some (some (.ref l2)) := List.getElem?_set_self (by rw [t14]; decide)
      refine ⟨_, t8, l2, rfl, ⟨[], hl2⟩, for_it (walk_list (xs := [])) (fun i σ' H'' => σ' = σ5.set 8 (some (.ref l2)) ∧ H'' = H6) ⟨rfl, rfl⟩ (fun i σ' H'' _ z => z.2 ▸ hl2) (fun i x σ' H'' H7 hi _ _ => absurd hi (Nat.not_lt_zero i)) (fun σ' H'' z => ?_)⟩
      obtain ⟨rfl, rfl⟩ := z
      refine ⟨by rw [List.length_set, t14], ?_, ?_, ?_, ?_, x5.trans x6, x6.keep _ _ q5 ((xx.tb tb).seqN q5 fun _ z => by cases z)⟩
      · rw [List.getElem?_set_ne (by decide)]; exact t0
      · rw [List.getElem?_set_ne (by decide)]; exact t4
      · rw [List.getElem?_set_ne (by decide)]; exact t5
      · rw [List.getElem?_set_ne (by decide)]; exact t6
    · refine ⟨_, s6, false, .inl ⟨[], .inl (.inl q), rfl⟩, iteF ⟨_, s5, k H' d e (x3.trans x4) (dk_keep x4 tb3 hd3) (dk_keep x4 tb3 he3)⟩⟩
end
end JF
set_option Elab.async false
set_option linter.all false
set_option maxRecDepth 100000
set_option maxHeartbeats 4000000
namespace JF
open PySem PySem.Spec PyProof.Rows L2 GxR GA
abbrev sWWords : Stmt := topS 84
section
variable {P : Program} {w : World} {K : PySem.W.Frag} {mg : Str → Option Value} {base : Heap} {T : List Addr}
/-- a function of one row that gives r -/
def One (f : Fd) (r : Int) : Prop := f.2.2.2 = [.tuple [.str "give", .int r]]
/-- the word of what is wrong, told of row 0 -/
def TellAt (K : PySem.W.Frag) (H : Hp) (v : V) (o : Option Str) : Prop := match o with
  | none => v = .non
  | some z => ∃ q, v = .ref q ∧ SqT K H q [.str z, .int 0]
/-- what reading r as res tells where the params bring what they bring -/
def readTell (ps : List Str) (r : Int) (res : Str) : Option Str := match valV (parKv ps) (.inl r) with
  | some (.str wd) => if wd = res then none else some "unfit"
  | _ => some "unset"
theorem par_val (ps : List Str) (r : Int) : valV (parKv ps) (.inl r) = none ∨ ∃ wd : Str, valV (parKv ps) (.inl r) = some (.str wd) := by
  unfold valV
  cases h : (parKv ps).find? fun kv => decide (kv.1 = .inl r) with
  | none => exact .inl rfl
  | some kv =>
    obtain ⟨p, hp, rfl⟩ := List.mem_map.mp (List.mem_of_find?_eq_some h)
    exact .inr ⟨p.1, rfl⟩
def spWWords (K : PySem.W.Frag) (T : List Addr) : Sp := fun vs H Q _ => ∃ (t v : V) (f : Fd) (r : Int), vs = [t, v] ∧ FnAt K H v f ∧ One f r ∧ f.2.1.length ≤ 1000 ∧ TbOk T H ∧ ∀ H' u, Ex T H H' → TellAt K H' u (readTell f.2.1 r f.2.2.1) → Q u H'
theorem one_row {H : Hp} {xs : List V} {r : Int} (h : RpAll K H xs [.tuple [.str "give", .int r]]) : ∃ v, xs = [v] ∧ GiveAt K H v r := by
  cases h with
  | cons h1 h2 =>
    cases h2
    cases h1 with
    | @tup a ys _ hs rs =>
      cases rs with
      | cons r1 rs =>
      cases rs with
      | cons r2 rs =>
      cases rs
      cases r1
      cases r2
      exact ⟨_, rfl, a, rfl, hs⟩
theorem scWWords : FnScope ["tables", "function", "_", "result", "rows", "words", "index", "row", "word"] ["tables", "function"] (defScope sWWords) := ⟨rfl, rfl, rfl, by decide +kernel, rfl, by decide +kernel, by decide +kernel⟩
theorem ok_wwords {f g1 g2 g3 : Addr} {fd gd1 gd2 gd3 : FuncData} (FN : Fun K "wrong_words" "wrong_words" sWWords f fd) (Be : mg "enumerate" = none)
    (G1 : FnOk P w K mg base CX0 3 g1 gd1 ["tables", "function"] (spWordsAt K T)) (m1 : mg "words_at" = some (.ref g1)) (k1 : PySem.W.keepIn K (.ref g1) = true) (b1 : Binds K gd1 ["tables", "function"] [])
    (G2 : FnOk P w K mg base CX0 3 g2 gd2 ["tables", "row", "result"] (spReads K T)) (m2 : mg "reads" = some (.ref g2)) (k2 : PySem.W.keepIn K (.ref g2) = true) (b2 : Binds K gd2 ["tables", "row", "result"] [])
    (G3 : FnOk P w K mg base CX0 3 g3 gd3 ["reading", "has"] (spWReads K)) (m3 : mg "wrong_reads" = some (.ref g3)) (k3 : PySem.W.keepIn K (.ref g3) = true) (b3 : Binds K gd3 ["reading", "has"] []) :
    FnOk P w K mg base CX0 4 f fd ["tables", "function"] (spWWords K T) := by
  refine FN.ok scWWords (fun vs H Q E h => ?_) (fun cdv A outer s H vs Q E hr h => ?_)
  · obtain ⟨t, v, fn, r, rfl, _⟩ := h
    rfl
  · obtain ⟨t, v, ⟨nm, ps, res, rows⟩, r, rfl, ⟨fa, vp, vr, rfl, hf, hp, c, xs, rfl, hc, hrs⟩, one, few, tb, k⟩ := h
    have one : rows = [.tuple [.str "give", .int r]] := one
    subst one
    obtain ⟨vrow, rfl, ra, rfl, hra⟩ := one_row hrs
    have hu := hu_of hr
    refine ⟨_, pss_cons (ps_asg (pv 1) (pg_four (K := K) (i := 2) (j := 2) (l := 3) (m := 4) rfl rfl scWWords.nd rfl rfl rfl rfl rfl rfl rfl rfl))
      (pss_cons (ps_set (i := 5) scWWords.nd rfl (.inl rfl) (pe_call G1 hr rfl m1 k1 b1 .nil pass0 (pa_cons (pv 0) (pa_cons (pv 1) pa_nil))))
      (pss_cons (ps_for PassesOwn.never rfl (ET.pi_enumT rfl Be (pa_cons (pv 4) pa_nil)) (pg_two (K := K) (i := 6) (j := 7) rfl rfl scWWords.nd rfl rfl rfl rfl)
        (pss_cons (ps_set (i := 8) scWWords.nd rfl (.inl rfl) (pe_call G3 hr rfl m3 k3 b3 .nil pass0 (pa_cons (pe_call G2 hr rfl m2 k2 b2 .nil pass0 (pa_cons (pv 0) (pa_cons (pv 7) (pa_cons (pv 3) pa_nil)))) (pa_cons (pe_dget hu (pv 5) (pv 6) (fun _ _ => rfl)) pa_nil))))
        (pss_cons (ps_if (pt_cmpR op_eq (pe_ix ix_tup (pv 7) pe_int (fun _ _ => rfl)) pe_str (nomark _)) pss_never pss_nil)
        (pss_one (ps_if (pt_cmpR op_notN (pv 8) pe_non (nomark _)) (pss_one (ps_ret (pe_tup (pa_cons (pv 8) (pa_cons (pv 6) pa_nil))))) pss_nil)))))
      (pss_one (ps_ret pe_non)))), ?_⟩
    refine ⟨.ref fa, rfl, fa, _, rfl, hf, rfl, _, _, rfl, _, _, rfl, _, _, rfl, _, _, rfl, rfl, ?_⟩
    refine ⟨_, rfl, _, rfl, t, fa, nm, res, vp, .non, .ref ra, c, ps, r, rfl, hf, hp, hc, ⟨ra, rfl, hra⟩, few, tb, fun H1 d e x1 hd he => ?_⟩
    have tb1 := x1.tb tb
    have hc1 := x1.sqT tb hc
    refine ⟨_, rfl, c, _, rfl, hc1, for_it ET.walk_enumT (fun i σ H' => Ex T H1 H' ∧ σ.length = 9 ∧ σ[0]? = some (some t) ∧ σ[3]? = some (some (.str res)) ∧ σ[5]? = some (some (.ref d)) ∧ (0 < i → readTell ps r res = none)) ⟨Ex.refl, rfl, rfl, rfl, rfl, fun z => absurd z (Nat.lt_irrefl 0)⟩ (fun i σ H' _ q => q.1.sqT tb1 hc1) (fun i x σ H' H2 hi q y => ?_) (fun σ H' q => ?_)⟩
    · obtain ⟨Tp, u, v2, rfl, hT, rfl, hu2, hv⟩ := y
      obtain rfl : i = 0 := by
        have hi : i < 1 := hi
        omega
      cases hu2
      cases hv
      obtain ⟨qx, q9, q0, q3, q5, _⟩ := q
      have x2 : Ex T H1 (upd H' Tp (.tup [.int ((0 : Nat) : Int), .ref ra])) := qx.trans (Ex.new hT)
      have hTp : SqT K (upd H' Tp (.tup [.int ((0 : Nat) : Int), .ref ra])) Tp [.int ((0 : Nat) : Int), .ref ra] := .inl (.inl upd_same)
      generalize upd H' Tp (.tup [.int ((0 : Nat) : Int), .ref ra]) = H2 at x2 hTp
      refine ⟨Tp, _, rfl, hTp, rfl, _, _, rfl, _, _, rfl, rfl, ?_⟩
      have s6 : ((σ.set 6 (some (.int ((0 : Nat) : Int)))).set 7 (some (.ref ra)))[6]? = some (some (.int 0)) := by rw [List.getElem?_set_ne (by decide)]; exact List.getElem?_set_self (by rw [q9]; decide)
      have s7 : ((σ.set 6 (some (.int ((0 : Nat) : Int)))).set 7 (some (.ref ra)))[7]? = some (some (.ref ra)) := List.getElem?_set_self (by rw [List.length_set, q9]; decide)
      have s0 : ((σ.set 6 (some (.int ((0 : Nat) : Int)))).set 7 (some (.ref ra)))[0]? = some (some t) := by rw [List.getElem?_set_ne (by decide), List.getElem?_set_ne (by decide)]; exact q0
      have s3 : ((σ.set 6 (some (.int ((0 : Nat) : Int)))).set 7 (some (.ref ra)))[3]? = some (some (.str res)) := by rw [List.getElem?_set_ne (by decide), List.getElem?_set_ne (by decide)]; exact q3
      have s5 : ((σ.set 6 (some (.int ((0 : Nat) : Int)))).set 7 (some (.ref ra)))[5]? = some (some (.ref d)) := by rw [List.getElem?_set_ne (by decide), List.getElem?_set_ne (by decide)]; exact q5
      have s9 : ((σ.set 6 (some (.int ((0 : Nat) : Int)))).set 7 (some (.ref ra))).length = 9 := by rw [List.length_set, List.length_set, q9]
      generalize (σ.set 6 (some (.int ((0 : Nat) : Int)))).set 7 (some (.ref ra)) = σ1 at s6 s7 s0 s3 s5 s9
      have tb2 := x2.tb tb1
      have xx := x1.trans x2
      refine ⟨_, s0, _, s7, _, s3, t, .ref ra, r, res, rfl, ⟨ra, rfl, xx.sqT tb hra⟩, tb2, fun H3 l q x3 hl hq => ?_⟩
      have xxx := xx.trans x3
      have tb3 := x3.tb tb2
      have hd3 := dk_keep (x2.trans x3) tb1 hd
      have he3 := dk_keep (x2.trans x3) tb1 he
      have hra3 := xxx.sqT tb hra
      have ret : ∀ (z : Str), readTell ps r res = some z → ∀ p, H3 p = none → Q (.ref p) (upd H3 p (.tup [.str z, .int 0])) := fun z hz p hp => k _ _ (xxx.trans (Ex.new hp)) (by show TellAt K _ _ (readTell ps r res); rw [hz]; exact ⟨p, rfl, .inl (.inl upd_same)⟩)
      have w8 : ∀ u : V, (σ1.set 8 (some u))[8]? = some (some u) := fun u => List.getElem?_set_self (by rw [s9]; decide)
      have w7 : ∀ u : V, (σ1.set 8 (some u))[7]? = some (some (.ref ra)) := fun u => by rw [List.getElem?_set_ne (by decide)]; exact s7
      have w6 : ∀ u : V, (σ1.set 8 (some u))[6]? = some (some (.int 0)) := fun u => by rw [List.getElem?_set_ne (by decide)]; exact s6
      refine ⟨_, s5, _, s6, d, .ref e, rfl, DGet.k (k := .inl 0) hd3, l, e, q, r, res, parKv ps, rfl, hl, hq, he3, fun e0 => ?_, fun wd e0 => ?_, par_val ps r⟩
      · have hz : readTell ps r res = some ("unset" : Str) := by unfold readTell; rw [e0]
        exact ⟨_, w7 _, ra, _, _, _, rfl, rfl, hra3, atI_nat (j := 0) rfl, rfl, _, rfl, iteF ⟨_, w8 _, rfl, _, rfl, iteT ⟨_, w8 _, _, w6 _, by show 2 ≤ sizeLine; decide, fun p hp => ret _ hz p hp⟩⟩⟩
      · by_cases hw : wd = res
        · have hz : readTell ps r res = none := by unfold readTell; rw [e0]; exact if_pos hw
          rw [if_pos hw]
          refine ⟨_, w7 _, ra, _, _, _, rfl, rfl, hra3, atI_nat (j := 0) rfl, rfl, _, rfl, iteF ⟨_, w8 _, rfl, _, rfl, iteF ⟨x2.trans x3, by rw [List.length_set]; exact s9, ?_, ?_, ?_, fun _ => hz⟩⟩⟩
          · rw [List.getElem?_set_ne (by decide)]; exact s0
          · rw [List.getElem?_set_ne (by decide)]; exact s3
          · rw [List.getElem?_set_ne (by decide)]; exact s5
        · have hz : readTell ps r res = some ("unfit" : Str) := by unfold readTell; rw [e0]; exact if_neg hw
          rw [if_neg hw]
          exact ⟨_, w7 _, ra, _, _, _, rfl, rfl, hra3, atI_nat (j := 0) rfl, rfl, _, rfl, iteF ⟨_, w8 _, rfl, _, rfl, iteT ⟨_, w8 _, _, w6 _, by show 2 ≤ sizeLine; decide, fun p hp => ret _ hz p hp⟩⟩⟩
    · obtain ⟨qx, _, _, _, _, q⟩ := q
      have hz := q Nat.one_pos
      exact k _ _ (x1.trans qx) (by show TellAt K _ _ (readTell ps r res); rw [hz]; rfl)
end
end JF
set_option Elab.async false
set_option linter.all false
set_option maxRecDepth 100000
set_option maxHeartbeats 4000000
namespace JF
open PySem PySem.Spec PyProof.Rows L2 GxR GA
abbrev sReached : Stmt := topS 78
section
variable {P : Program} {w : World} {K : PySem.W.Frag} {mg : Str → Option Value} {base : Heap} {T : List Addr}
theorem sw_dict {kx vx : Expr} {gs : List Comprehension} {scope : Scope} {pos py : Pos} {y : Str} {l : Nat} {env : Env} (hk : env.scope.kind = .function) (hy : env.scope.names.lookup y = some .local) (hl : (py.line == pos.line) = true)
    (ha : (scope.names.any fun (n, k) => n == y && (k == .local || k == .cell)) = false) : swapsWith (.DictComp kx vx gs scope pos) (some (.Name y py)) l env = pure true := by
  have h1 : env.kindOf y = some .local := hy
  have h2 : env.blockKind = .function := by unfold Env.blockKind; rw [hk]; rfl
  unfold swapsWith; simp only [h2, h1, ha, Expr.pos, hl]; rfl
/-- name = {k: v for ..} on one line, the name a local -/
theorem ps_setDc {X : Cx} {i : Nat} {y : Str} {py : Pos} {kx vx tg iter : Expr} {ifs : List Expr} {scope : Scope} {own : List (Str × Nat)} {pos spos : Pos} {wi : TI} {g : TG} {tt : TT} {tk tv : TE} (hc : X.calm = true) (hN : X.N.Nodup) (hy : X.N[i]? = some y) (hyl : X.env.scope.names.lookup y = some .local)
    (hsw : swapsWith (.DictComp kx vx [⟨tg, iter, ifs, 0⟩] scope pos) (some (.Name y py)) spos.line X.env = pure true) (hi : PI X tg iter wi) (ok : BlkOk X.N X.env.scope scope own)
    (hg : ∀ (s : Shared) (H : Hp) (C : Addr) (cl : List (Str × Addr)) (fp : List Addr), PG (X.blk s H scope (compEnvC scope cl C X.env) fp) tg g) (ht : ∀ (s : Shared) (H : Hp) (C : Addr) (cl : List (Str × Addr)) (fp : List Addr), PTs (X.blk s H scope (compEnvC scope cl C X.env) fp) ifs tt)
    (hk : ∀ (s : Shared) (H : Hp) (C : Addr) (cl : List (Str × Addr)) (fp : List Addr), PE (X.blk s H scope (compEnvC scope cl C X.env) fp) kx tk) (he : ∀ (s : Shared) (H : Hp) (C : Addr) (cl : List (Str × Addr)) (fp : List Addr), PE (X.blk s H scope (compEnvC scope cl C X.env) fp) vx tv)
    (hs : ∀ x, foldedSetIterable iter X.env x = pure x := by intro _; rfl) : PS X (.Assign [.Name y py] (.DictComp kx vx [⟨tg, iter, ifs, 0⟩] scope pos) spos) (tAsg (tDc wi g tt tk tv (own.map (·.2))) (gName i)) := by
  refine ⟨fun pins s σ H D I h => ?_⟩
  rw [exec_Assign_Name_used _ _ _ _ hsw]
  refine wpAny_bind (wpAny_standAt (wpAny_bind (?_ : wpAny _ X.A (do let _ ← comprehension (.DictComp kx vx [⟨tg, iter, ifs, 0⟩] scope pos) scope X.env (firstIterPos [⟨tg, iter, ifs, 0⟩] pos) newDict false (eval iter X.env) (some (assign (.Name y py) X.env))) _ _ s)))
  have h : tDc wi g tt tk tv (own.map (·.2)) σ H (fun x H1 => gName i x σ H1 D.nx) := h
  refine wpAny_bind (thn (dc_core (Qf := fun _ s' => SP X pins D .next s') hc hN I hi ok hg ht hk he hs h fun L C s' m H' I' q hn fp => (?_ : wpAny _ _ (assign (.Name y py) X.env (.ref L)) _ _ _)) fun _ s' hq => wpAny_pure (wpAny_pure hq))
  refine wpAny_assign_Name (store_ok2 (v := V.ref L) I' hN hy (.inl hyl) rfl (fun s2 I2 ⟨a, sb, ha⟩ => ?_) (.inr hyl))
  obtain ⟨f0, f1, f2, f3, f4, f5⟩ := fp
  have apart : C ≠ a := by
    rcases ha with z | z
    · rw [z]; exact f1
    · exact fun e => f4 y a z e.symm
  exact ⟨m, hn.sameBut sb apart, fun h3 sb3 => ⟨_, H', I2.turned (t' := s2.toks) (fun b o hb e => (sb3.2 b hb).trans e) f0 f1 f3 f4 f5, q⟩⟩
/-- of one row that leads nowhere -/
def spReached (K : PySem.W.Frag) (T : List Addr) : Sp := fun vs H Q _ => ∃ (L B e : Addr), vs = [.ref L, .ref B] ∧ SqL K H L [.ref e] ∧ SqL K H e [] ∧ SqL K H B [.int 0] ∧ TbOk T H ∧ ∀ H' d, Ex T H H' → H' d = some (.dK [(.inl 0, .bl true)]) → Q (.ref d) H'
theorem scReached : FnScope ["leads", "begins", "row", "found", "waiting", "goto"] ["leads", "begins"] (defScope sReached) := ⟨rfl, rfl, rfl, by decide +kernel, rfl, by decide +kernel, by decide +kernel⟩
theorem ok_reached {f : Addr} {fd : FuncData} (FN : Fun K "reached" "reached" sReached f fd) (Bl : mg "list" = none) : FnOk P w K mg base CX0 1 f fd ["leads", "begins"] (spReached K T) := by
  refine FN.ok scReached (fun vs H Q E h => ?_) (fun cdv A outer s H vs Q E hr h => ?_)
  · obtain ⟨L, B, e, rfl, _⟩ := h
    rfl
  · obtain ⟨L, B, e, rfl, hL, he, hB, tb, k⟩ := h
    have hu := hu_of hr
    refine ⟨_, pss_cons (ps_setDc (i := 3) (own := [("row", 2)]) (g := gName 2) (by rfl) scReached.nd rfl rfl (sw_dict rfl rfl rfl (by decide +kernel)) (pi_list (pv 1)) (blkOk_by (N := ["leads", "begins", "row", "found", "waiting", "goto"]) (sc := defScope sReached) (by decide +kernel))
        (fun _ _ _ _ _ => pg_name (i := 2) scReached.nd rfl (.inl rfl)) (fun _ _ _ _ _ => pts_nil) (fun _ _ _ _ _ => pv 2) (fun _ _ _ _ _ => pe_bl))
      (pss_cons (ps_set (i := 4) scReached.nd rfl (.inl rfl) (pe_callTy call_list_of (by rfl) Bl (by decide +kernel) (pa_cons (pv 1) pa_nil)))
      (pss_cons (ps_while PassesOwn.never (pt_truth (pv 4) (fun _ => rfl))
        (pss_cons (ps_set (i := 2) scReached.nd rfl (.inl rfl) (pe_bm0 PySem.F.plainAttrs_list PySem.F.slot_list_pop PySem.F.type_list_pop mt_pop (pv 4)))
        (pss_one (ps_for PassesOwn.never rfl (pi_list (pe_ix ix_list (pv 0) (pv 2) (fun _ _ => rfl))) (pg_name (i := 5) scReached.nd rfl (.inl rfl)) pss_never))))
      (pss_one (ps_ret (pv 3))))), ?_⟩
    refine ⟨_, rfl, B, rfl, ⟨_, hB⟩, fun d hd => lcB_it (walk_list (xs := [.int 0])) (fun j H' => H' = upd H d (.dK (if j = 0 then [] else [(.inl 0, .bl true)]))) rfl (fun j H' _ q => q ▸ (Ex.new (T := T) hd).sqL tb hB) (fun j x H' H2 hj q y => ?_) (fun H' q => ?_)⟩
    · obtain ⟨rfl, hx⟩ := y
      obtain rfl : j = 0 := by
        have hj : j < 1 := hj
        omega
      cases hx
      subst q
      refine g_one (by decide) (by show 2 < 6; decide) fun σ2 _ _ g2 => yesT ⟨_, g2, [], .inl 0, rfl, upd_same, by decide, ?_⟩
      rw [upd_upd]; rfl
    have q : H' = upd H d (.dK [(.inl 0, .bl true)]) := q
    have x1 : Ex T H (upd H d (.dK [(.inl 0, .bl true)])) := Ex.new hd
    have hd1 : (upd H d (.dK [(.inl 0, .bl true)])) d = some (.dK [(.inl 0, .bl true)]) := upd_same
    rw [← q] at x1 hd1
    clear q
    have tb1 := x1.tb tb
    refine ⟨_, rfl, B, _, rfl, .inl (x1.sqL tb hB), fun l hl => ?_⟩
    refine ⟨fun m σ H2 => σ.length = 6 ∧ σ[0]? = some (some (.ref L)) ∧ σ[3]? = some (some (.ref d)) ∧ σ[4]? = some (some (.ref l)) ∧ Ex T H' H2 ∧ ((m = 1 ∧ H2 l = some (.lst [.int 0])) ∨ (m = 0 ∧ H2 l = some (.lst []))), ⟨1, rfl, rfl, rfl, rfl, Ex.new hl, .inl ⟨rfl, upd_same⟩⟩, ?_⟩
    rintro m σ H2 ⟨s6, s0, s3, s4, x2, q⟩
    rcases q with ⟨rfl, q⟩ | ⟨rfl, q⟩
    · refine ⟨_, s4, true, .inl ⟨[.int 0], .inl (.inl q), rfl⟩, iteT ⟨fun σ' H3 => σ'.length = 6 ∧ σ'[0]? = some (some (.ref L)) ∧ σ'[3]? = some (some (.ref d)) ∧ σ'[4]? = some (some (.ref l)) ∧ Ex T H' H3 ∧ H3 l = some (.lst []), fun σ' H3 h => ⟨0, by decide, h.1, h.2.1, h.2.2.1, h.2.2.2.1, h.2.2.2.2.1, .inr ⟨rfl, h.2.2.2.2.2⟩⟩, ?_⟩⟩
      refine ⟨_, s4, .inl ⟨rfl, _, .inl (.inl q)⟩, l, [.int 0], .int 0, rfl, rfl, q, rfl, ?_⟩
      have x5 : Ex T H' (upd H2 l (.lst [])) := x2.upd hl
      have q5 : (upd H2 l (.lst [])) l = some (.lst []) := upd_same
      show gName 2 (.int 0) _ (upd H2 l (.lst [])) _
      generalize upd H2 l (.lst []) = H5 at x5 q5
      have t2 : (σ.set 2 (some (.int 0)))[2]? = some (some (.int 0)) := List.getElem?_set_self (by rw [s6]; decide)
      have t0 : (σ.set 2 (some (.int 0)))[0]? = some (some (.ref L)) := by rw [List.getElem?_set_ne (by decide)]; exact s0
      have t3 : (σ.set 2 (some (.int 0)))[3]? = some (some (.ref d)) := by rw [List.getElem?_set_ne (by decide)]; exact s3
      have t4 : (σ.set 2 (some (.int 0)))[4]? = some (some (.ref l)) := by rw [List.getElem?_set_ne (by decide)]; exact s4
      have xx := x1.trans x5
      have he5 := xx.sqL tb he
      refine ⟨_, t0, _, t2, L, _, _, _, rfl, rfl, xx.sqL tb hL, atI_nat (j := 0) rfl, e, rfl, ⟨[], he5⟩, for_it (walk_list (xs := [])) (fun i σ' H3 => σ' = σ.set 2 (some (.int 0)) ∧ H3 = H5) ⟨rfl, rfl⟩ (fun i σ' H3 _ z => z.2 ▸ he5) (fun i x σ' H3 H7 hi _ _ => absurd hi (Nat.not_lt_zero i)) (fun σ' H3 z => ?_)⟩
      obtain ⟨rfl, rfl⟩ := z
      exact ⟨by rw [List.length_set, s6], t0, t3, t4, x5, q5⟩
    · exact ⟨_, s4, false, .inl ⟨[], .inl (.inl q), rfl⟩, iteF ⟨_, s3, k _ d (x1.trans x2) (dk_keep x2 tb1 hd1)⟩⟩
end
end JF
set_option Elab.async false
set_option linter.all false
set_option maxRecDepth 100000
set_option maxHeartbeats 4000000
namespace JF
open PySem PySem.Spec PyProof.Rows L2 GxR GA
theorem ix_tupK {X : Cx} {K : PySem.W.Frag} (h : X.K = K) : IxR X (rIxT K) := by
  rw [← h]
  exact ix_tup
abbrev sWays : Stmt := topS 77
section
variable {P : Program} {w : World} {K : PySem.W.Frag} {mg : Str → Option Value} {base : Heap} {T : List Addr}
def spWays (K : PySem.W.Frag) (T : List Addr) : Sp := fun vs H Q _ => ∃ (c : Addr) (v : V) (r : Int), vs = [.ref c] ∧ SqT K H c [v] ∧ GiveAt K H v r ∧ TbOk T H ∧ ∀ H', Ex T H H' → Q .non H'
abbrev nWays : List Str := ["rows", "ahead", "behind", "index", "gotos", "goto", "come_to", "ending", "row", "_"]
theorem scWays : FnScope nWays ["rows"] (defScope sWays) := ⟨rfl, rfl, rfl, by decide +kernel, rfl, by decide +kernel, by decide +kernel⟩
theorem ok_ways {f g1 g2 : Addr} {fd gd1 gd2 : FuncData} (FN : Fun K "wrong_ways" "wrong_ways" sWays f fd) (B : BI mg) (Be : mg "enumerate" = none) (Br : mg "range" = none)
    (G1 : FnOk P w K mg base CX0 1 g1 gd1 ["row"] (spNexts K)) (m1 : mg "nexts" = some (.ref g1)) (k1 : PySem.W.keepIn K (.ref g1) = true) (b1 : Binds K gd1 ["row"] [])
    (G2 : FnOk P w K mg base CX0 1 g2 gd2 ["leads", "begins"] (spReached K T)) (m2 : mg "reached" = some (.ref g2)) (k2 : PySem.W.keepIn K (.ref g2) = true) (b2 : Binds K gd2 ["leads", "begins"] []) :
    FnOk P w K mg base CX0 2 f fd ["rows"] (spWays K T) := by
  refine FN.ok scWays (fun vs H Q E h => ?_) (fun cdv A outer s H vs Q E hr h => ?_)
  · obtain ⟨c, v, r, rfl, _⟩ := h
    rfl
  · obtain ⟨c, v, r, rfl, hc, ⟨ra, rfl, hra⟩, tb, k⟩ := h
    have hu := hu_of hr
    refine ⟨_, pss_cons (ps_setLc (i := 1) (own := [("row", 8)]) (g := gName 8) (by rfl) scWays.nd rfl rfl (sw_true rfl rfl rfl (by decide +kernel)) (pi_tup (pv 0)) (blkOk_by (N := nWays) (sc := defScope sWays) (by decide +kernel))
        (fun _ _ _ _ _ => pg_name (i := 8) scWays.nd rfl (.inl rfl)) (fun _ _ _ _ _ => pts_nil) (fun _ _ _ _ _ => pe_call G1 hr rfl m1 k1 b1 .nil pass0 (pa_cons (pv 8) pa_nil)))
      (pss_cons (ps_setLc (i := 2) (own := [("_", 9)]) (g := gName 9) (by rfl) scWays.nd rfl rfl (sw_true rfl rfl rfl (by decide +kernel)) (pi_tup (pv 0)) (blkOk_by (N := nWays) (sc := defScope sWays) (by decide +kernel))
        (fun _ _ _ _ _ => pg_name (i := 9) scWays.nd rfl (.inl rfl)) (fun _ _ _ _ _ => pts_nil) (fun _ _ _ _ _ => pe_lst pa_nil))
      (pss_cons (ps_for PassesOwn.never rfl (pi_enum rfl Be (pa_cons (pv 1) pa_nil)) (pg_two (K := K) (i := 3) (j := 4) rfl rfl scWays.nd rfl rfl rfl rfl)
        (pss_one (ps_for PassesOwn.never rfl (pi_list (pv 4)) (pg_name (i := 5) scWays.nd rfl (.inl rfl)) pss_never)))
      (pss_cons (ps_set (i := 6) scWays.nd rfl (.inl rfl) (pe_call G2 hr rfl m2 k2 b2 .nil pass0 (pa_cons (pv 1) (pa_cons (pe_lst (pa_cons pe_int pa_nil)) pa_nil))))
      (pss_cons (ps_set (i := 7) scWays.nd rfl (.inl rfl) (pe_call G2 hr rfl m2 k2 b2 .nil pass0 (pa_cons (pv 2) (pa_cons (pe_lc (own := [("index", 3), ("row", 8)]) (by rfl) scWays.nd (ET.pi_enumT rfl Be (pa_cons (pv 0) pa_nil)) (blkOk_by (N := nWays) (sc := defScope sWays) (by decide +kernel))
          (fun _ _ _ _ _ => pg_two (K := K) (i := 3) (j := 8) rfl rfl scWays.nd rfl rfl rfl rfl) (fun _ _ _ _ _ => pts_one (pt_cmpR op_eq (pe_ix (ix_tupK (K := K) rfl) (pv 8) pe_int (fun _ _ => rfl)) pe_str (nomark _))) (fun _ _ _ _ _ => pv 3)) pa_nil))))
      (pss_cons (ps_for PassesOwn.never rfl (pi_range1 rfl Br (pa_cons (pe_callB call_len_seq (by rfl) B.len PySem.boot_len (pa_cons (pv 0) pa_nil)) pa_nil)) (pg_name (i := 3) scWays.nd rfl (.inl rfl))
        (pss_one (ps_if (pt_cmp (pc_dnotin hu (pv 3) (pv 6)) rfl) (pss_one (ps_ret (pe_tup (pa_cons pe_str (pa_cons (pv 3) pa_nil))))) pss_nil)))
      (pss_cons (ps_for PassesOwn.never rfl (pi_range1 rfl Br (pa_cons (pe_callB call_len_seq (by rfl) B.len PySem.boot_len (pa_cons (pv 0) pa_nil)) pa_nil)) (pg_name (i := 3) scWays.nd rfl (.inl rfl))
        (pss_one (ps_if (pt_cmp (pc_dnotin hu (pv 3) (pv 7)) rfl) (pss_one (ps_ret (pe_tup (pa_cons pe_str (pa_cons (pv 3) pa_nil))))) pss_nil)))
      (pss_one (ps_ret pe_non)))))))), ?_⟩
    -- ahead
    refine ⟨_, rfl, c, rfl, ⟨_, hc⟩, fun L1 hL1 => lcB_it (walk_tup (xs := [.ref ra])) (fun j H' => Ex T H H' ∧ (j = 0 → H' L1 = some (.lst [])) ∧ (0 < j → ∃ e, H' L1 = some (.lst [.ref e]) ∧ SqL K H' e [])) ⟨Ex.new hL1, fun _ => upd_same, fun z => absurd z (Nat.lt_irrefl 0)⟩ (fun j H' _ q => q.1.sqT tb hc) (fun j x H' H2 hj q y => ?_) (fun H2 q => ?_)⟩
    · obtain ⟨rfl, hx⟩ := y
      obtain rfl : j = 0 := by
        have hj : j < 1 := hj
        omega
      cases hx
      obtain ⟨qx, q0, _⟩ := q
      have q0 := q0 rfl
      refine g_one (by decide) (by show 8 < 10; decide) fun σ2 _ _ g8 => yesT ⟨_, g8, .ref ra, r, rfl, ⟨ra, rfl, qx.sqT tb hra⟩, fun p hp => ⟨[], by rw [upd_ne (ne_of_none q0 hp)]; exact q0, by show 0 < sizeLine; rw [sizeLine_eq]; omega, (qx.trans (Ex.new hp)).upd hL1, fun z => absurd z (by decide), fun _ => ⟨p, upd_same, .inl (.inl ?_)⟩⟩⟩
      rw [upd_ne (fun z => ne_of_none q0 hp z.symm)]; exact upd_same
    obtain ⟨x2, _, q⟩ := q
    obtain ⟨e1, hL2, he1⟩ := q Nat.one_pos
    have tb2 := x2.tb tb
    -- behind
    refine ⟨_, rfl, c, rfl, ⟨_, x2.sqT tb hc⟩, fun L2' hLb => lcB_it (walk_tup (xs := [.ref ra])) (fun j H' => Ex T H2 H' ∧ (j = 0 → H' L2' = some (.lst [])) ∧ (0 < j → ∃ e, H' L2' = some (.lst [.ref e]) ∧ SqL K H' e [])) ⟨Ex.new hLb, fun _ => upd_same, fun z => absurd z (Nat.lt_irrefl 0)⟩ (fun j H' _ q => (x2.trans q.1).sqT tb hc) (fun j x H' H3 hj q y => ?_) (fun H3 q => ?_)⟩
    · obtain ⟨rfl, hx⟩ := y
      obtain rfl : j = 0 := by
        have hj : j < 1 := hj
        omega
      cases hx
      obtain ⟨qx, q0, _⟩ := q
      have q0 := q0 rfl
      refine g_one (by decide) (by show 9 < 10; decide) fun σ2 _ _ g9 => yesT ⟨by show 0 ≤ sizeLine; exact Nat.zero_le _, fun p hp => ⟨[], by rw [upd_ne (ne_of_none q0 hp)]; exact q0, by show 0 < sizeLine; rw [sizeLine_eq]; omega, (qx.trans (Ex.new hp)).upd hLb, fun z => absurd z (by decide), fun _ => ⟨p, upd_same, .inl (.inl ?_)⟩⟩⟩
      rw [upd_ne (fun z => ne_of_none q0 hp z.symm)]; exact upd_same
    obtain ⟨x3, _, q⟩ := q
    obtain ⟨e2, hB3, he2⟩ := q Nat.one_pos
    have tb3 := x3.tb tb2
    have hL3 := x3.sqL tb2 (.inl (.inl hL2) : SqL K H2 L1 [.ref e1])
    have he13 := x3.sqL tb2 he1
    -- behind[goto].append(index)
    refine ⟨_, rfl, L1, _, rfl, hL3, for_it walk_enum (fun i σ H' => Ex T H3 H' ∧ σ.length = 10 ∧ σ[0]? = some (some (.ref c)) ∧ σ[1]? = some (some (.ref L1)) ∧ σ[2]? = some (some (.ref L2'))) ⟨Ex.refl, rfl, rfl, rfl, rfl⟩ (fun i σ H' _ q => q.1.sqL tb3 hL3) (fun i x σ H' H4 hi q y => ?_) (fun σ H4 q => ?_)⟩
    · obtain ⟨Tp, u, v2, rfl, hT, rfl, hu2, hv⟩ := y
      obtain rfl : i = 0 := by
        have hi : i < 1 := hi
        omega
      cases hu2
      cases hv
      obtain ⟨qx, q10, q0, q1, q2⟩ := q
      have x5 : Ex T H3 (upd H' Tp (.tup [.int ((0 : Nat) : Int), .ref e1])) := qx.trans (Ex.new hT)
      have hTp : SqT K (upd H' Tp (.tup [.int ((0 : Nat) : Int), .ref e1])) Tp [.int ((0 : Nat) : Int), .ref e1] := .inl (.inl upd_same)
      generalize upd H' Tp (.tup [.int ((0 : Nat) : Int), .ref e1]) = H5 at x5 hTp
      have he5 := x5.sqL tb3 he13
      refine ⟨Tp, _, rfl, hTp, rfl, _, _, rfl, _, _, rfl, rfl, _, List.getElem?_set_self (by rw [List.length_set, q10]; decide), e1, rfl, ⟨[], he5⟩, for_it (walk_list (xs := [])) (fun i σ' H6 => σ' = (σ.set 3 (some (.int ((0 : Nat) : Int)))).set 4 (some (.ref e1)) ∧ H6 = H5) ⟨rfl, rfl⟩ (fun i σ' H6 _ z => z.2 ▸ he5) (fun i x σ' H6 H7 hi _ _ => absurd hi (Nat.not_lt_zero i)) (fun σ' H6 z => ?_)⟩
      obtain ⟨rfl, rfl⟩ := z
      refine ⟨x5, by rw [List.length_set, List.length_set, q10], ?_, ?_, ?_⟩
      · rw [List.getElem?_set_ne (by decide), List.getElem?_set_ne (by decide)]; exact q0
      · rw [List.getElem?_set_ne (by decide), List.getElem?_set_ne (by decide)]; exact q1
      · rw [List.getElem?_set_ne (by decide), List.getElem?_set_ne (by decide)]; exact q2
    obtain ⟨x4, s10, s0, s1, s2⟩ := q
    have tb4 := x4.tb tb3
    have X4 := (x2.trans x3).trans x4
    have hL4 := x4.sqL tb3 hL3
    have he14 := x4.sqL tb3 he13
    have hB4 := x4.sqL tb3 (.inl (.inl hB3) : SqL K H3 L2' [.ref e2])
    have he24 := x4.sqL tb3 he2
    -- come_to
    refine ⟨_, s1, by show 1 ≤ sizeLine; decide, fun b hb => ?_⟩
    have xb : Ex T H4 (upd H4 b (.lst [.int 0])) := Ex.new hb
    refine ⟨L1, b, e1, rfl, xb.sqL tb4 hL4, xb.sqL tb4 he14, .inl (.inl upd_same), xb.tb tb4, fun H5 d1 x5 hd1 => ?_⟩
    have x45 := xb.trans x5
    clear xb x5
    have tb5 := x45.tb tb4
    have t0 : (σ.set 6 (some (.ref d1)))[0]? = some (some (.ref c)) := by rw [List.getElem?_set_ne (by decide)]; exact s0
    have t2 : (σ.set 6 (some (.ref d1)))[2]? = some (some (.ref L2')) := by rw [List.getElem?_set_ne (by decide)]; exact s2
    have t6 : (σ.set 6 (some (.ref d1)))[6]? = some (some (.ref d1)) := List.getElem?_set_self (by rw [s10]; decide)
    have t10 : (σ.set 6 (some (.ref d1))).length = 10 := by rw [List.length_set, s10]
    show tSeq _ _ _ (σ.set 6 (some (.ref d1))) H5
    generalize σ.set 6 (some (.ref d1)) = σ5 at t0 t2 t6 t10
    have hc5 := (X4.trans x45).sqT tb hc
    have hra5 := (X4.trans x45).sqT tb hra
    -- ending
    refine ⟨_, t2, _, t0, c, _, rfl, hc5, fun L3 hL3' => lcB_it ET.walk_enumT (fun j H' => Ex T H5 H' ∧ H' L3 = some (.lst (if j = 0 then [] else [.int 0]))) ⟨Ex.new hL3', upd_same⟩ (fun j H' _ q => q.1.sqT tb5 hc5) (fun j x H' H6 hj q y => ?_) (fun H6 q => ?_)⟩
    · obtain ⟨Tp, u, v2, rfl, hT, rfl, hu2, hv⟩ := y
      obtain rfl : j = 0 := by
        have hj : j < 1 := hj
        omega
      cases hu2
      cases hv
      obtain ⟨qx, qd⟩ := q
      have hne : L3 ≠ Tp := ne_of_none qd hT
      have x6 : Ex T H5 (upd H' Tp (.tup [.int ((0 : Nat) : Int), .ref ra])) := qx.trans (Ex.new hT)
      refine g_two (.inl (.inl upd_same)) (by decide) (by decide) (by decide) (by rw [t10]; decide) (by rw [t10]; decide) fun σ2 _ _ g3 g8 => ⟨_, g8, ra, _, _, _, rfl, rfl, x6.sqT tb5 hra5, atI_nat (j := 0) rfl, rfl, _, rfl, iteT ⟨_, g3, [], by rw [upd_ne hne]; exact qd, by show 0 < sizeLine; rw [sizeLine_eq]; omega, x6.upd hL3', upd_same⟩⟩
    obtain ⟨x6, hL6⟩ := q
    have x56 : Ex T H4 H6 := x45.trans x6
    have hL6 : H6 L3 = some (.lst [.int 0]) := hL6
    refine ⟨L2', L3, e2, rfl, x56.sqL tb4 hB4, x56.sqL tb4 he24, .inl (.inl hL6), x56.tb tb4, fun H7 d2 x7 hd2 => ?_⟩
    have hd17 := dk_keep (x6.trans x7) tb5 hd1
    have X7 := (X4.trans x56).trans x7
    have hc7 := X7.sqT tb hc
    have u0 : (σ5.set 7 (some (.ref d2)))[0]? = some (some (.ref c)) := by rw [List.getElem?_set_ne (by decide)]; exact t0
    have u6 : (σ5.set 7 (some (.ref d2)))[6]? = some (some (.ref d1)) := by rw [List.getElem?_set_ne (by decide)]; exact t6
    have u7 : (σ5.set 7 (some (.ref d2)))[7]? = some (some (.ref d2)) := List.getElem?_set_self (by rw [t10]; decide)
    have u10 : (σ5.set 7 (some (.ref d2))).length = 10 := by rw [List.length_set, t10]
    show tSeq _ _ _ (σ5.set 7 (some (.ref d2))) H7
    generalize σ5.set 7 (some (.ref d2)) = σ7 at u0 u6 u7 u10
    have at1 : DGet H7 d1 (V.int 0) (some (.bl true)) := DGet.k (k := .inl 0) hd17
    have at2 : DGet H7 d2 (V.int 0) (some (.bl true)) := DGet.k (k := .inl 0) hd2
    refine ⟨_, u0, c, _, rfl, .inr hc7, _, rfl, (by decide : (-(2 ^ 62) : Int) ≤ ((1 : Nat) : Int)), (by decide : ((1 : Nat) : Int) < 2 ^ 62), for_range (lo := 0) (n := 1) (fun i σ' H' => H' = H7 ∧ σ'.length = 10 ∧ σ'[0]? = some (some (.ref c)) ∧ σ'[6]? = some (some (.ref d1)) ∧ σ'[7]? = some (some (.ref d2))) ⟨rfl, u10, u0, u6, u7⟩ (fun i σ' H' hi q => ?_) (fun σ' H' q => ?_)⟩
    · obtain ⟨rfl, q10, q0, q6, q7⟩ := q
      obtain rfl : i = 0 := by omega
      exact ⟨_, List.getElem?_set_self (by rw [q10]; decide), _, by rw [List.getElem?_set_ne (by decide)]; exact q6, d1, _, rfl, at1, _, rfl, iteF ⟨rfl, by rw [List.length_set, q10], by rw [List.getElem?_set_ne (by decide)]; exact q0, by rw [List.getElem?_set_ne (by decide)]; exact q6, by rw [List.getElem?_set_ne (by decide)]; exact q7⟩⟩
    obtain ⟨rfl, q10, q0, q6, q7⟩ := q
    refine ⟨_, q0, c, _, rfl, .inr hc7, _, rfl, (by decide : (-(2 ^ 62) : Int) ≤ ((1 : Nat) : Int)), (by decide : ((1 : Nat) : Int) < 2 ^ 62), for_range (lo := 0) (n := 1) (fun i σ'' H'' => H'' = H' ∧ σ''.length = 10 ∧ σ''[7]? = some (some (.ref d2))) ⟨rfl, q10, q7⟩ (fun i σ'' H'' hi q => ?_) (fun σ'' H'' q => ?_)⟩
    · obtain ⟨rfl, q10, q7⟩ := q
      obtain rfl : i = 0 := by omega
      exact ⟨_, List.getElem?_set_self (by rw [q10]; decide), _, by rw [List.getElem?_set_ne (by decide)]; exact q7, d2, _, rfl, at2, _, rfl, iteF ⟨rfl, by rw [List.length_set, q10], by rw [List.getElem?_set_ne (by decide)]; exact q7⟩⟩
    · obtain ⟨rfl, _, _⟩ := q
      exact k _ X7
end
end JF
set_option Elab.async false
set_option linter.all false
set_option maxRecDepth 100000
set_option maxHeartbeats 4000000
namespace JF
open PySem PySem.Spec PyProof.Rows L2 GxR GA
abbrev sAlone : Stmt := topS 75
abbrev sWFun : Stmt := topS 74
section
variable {P : Program} {w : World} {K : PySem.W.Frag} {mg : Str → Option Value} {base : Heap} {T : List Addr}
def spAlone (K : PySem.W.Frag) (T : List Addr) : Sp := fun vs H Q _ => ∃ (t : V) (c : Addr) (v : V) (r : Int), vs = [t, .ref c] ∧ SqT K H c [v] ∧ GiveAt K H v r ∧ TbOk T H ∧ ∀ H', Ex T H H' → Q .non H'
theorem scAlone : FnScope ["tables", "rows", "index", "row", "goto"] ["tables", "rows"] (defScope sAlone) := ⟨rfl, rfl, rfl, by decide +kernel, rfl, by decide +kernel, by decide +kernel⟩
theorem ok_alone {f cd Pt g1 g2 g3 : Addr} {fd gd1 gd2 gd3 : FuncData} (FN : FunC K "wrong_alone" "wrong_alone" sAlone f fd cd) (B : BI mg) (Be : mg "enumerate" = none) (TB : TabB base mg cd Pt) (hT : Pt ∈ T)
    (G1 : FnOk P w K mg base CX0 2 g1 gd1 ["row"] (spNexts K)) (m1 : mg "nexts" = some (.ref g1)) (k1 : PySem.W.keepIn K (.ref g1) = true) (b1 : Binds K gd1 ["row"] [])
    (G2 : FnOk P w K mg base CX0 2 g2 gd2 ["tables", "row"] (spNamed K)) (m2 : mg "is_named" = some (.ref g2)) (k2 : PySem.W.keepIn K (.ref g2) = true) (b2 : Binds K gd2 ["tables", "row"] [])
    (G3 : FnOk P w K mg base CX0 2 g3 gd3 ["tables", "row"] (spMany K T)) (m3 : mg "has_wrong_many" = some (.ref g3)) (k3 : PySem.W.keepIn K (.ref g3) = true) (b3 : Binds K gd3 ["tables", "row"] []) :
    FnOk P w K mg base CX0 3 f fd ["tables", "rows"] (spAlone K T) := by
  refine FN.ok scAlone (fun vs H Q E h => ?_) (fun A outer s H vs Q E hr h => ?_)
  · obtain ⟨t, c, v, r, rfl, _⟩ := h
    rfl
  · obtain ⟨t, c, v, r, rfl, hc, ⟨ra, rfl, hra⟩, tb, k⟩ := h
    refine ⟨_, pss_cons (ps_for PassesOwn.never rfl (ET.pi_enumT rfl Be (pa_cons (pv 1) pa_nil)) (pg_two (K := K) (i := 2) (j := 3) rfl rfl scAlone.nd rfl rfl rfl rfl)
        (pss_cons (ps_if (pt_val (pe_anyG (own := [("goto", 4)]) (g := gName 4) (k := 1) hr rfl B.any rfl scAlone.nd TB rfl (pi_list (pe_call G1 hr rfl m1 k1 b1 .nil pass0 (pa_cons (pv 3) pa_nil))) (blkOk_by (N := ["tables", "rows", "index", "row", "goto"]) (sc := defScope sAlone) (by decide +kernel)) (by decide +kernel) rfl (by decide +kernel)
            (fun _ _ _ _ _ _ _ _ => pg_name (i := 4) scAlone.nd rfl (.inl rfl))
            (fun _ _ _ _ _ _ _ _ => pe_never))) (pss_one (ps_ret (pe_tup (pa_cons pe_str (pa_cons (pv 2) pa_nil))))) pss_nil)
        (pss_cons (ps_if (pt_not (pt_val (pe_call G2 hr rfl m2 k2 b2 .nil pass0 (pa_cons (pv 0) (pa_cons (pv 3) pa_nil))))) (pss_one (ps_ret (pe_tup (pa_cons pe_str (pa_cons (pv 2) pa_nil))))) pss_nil)
        (pss_one (ps_if (pt_val (pe_call G3 hr rfl m3 k3 b3 .nil pass0 (pa_cons (pv 0) (pa_cons (pv 3) pa_nil)))) (pss_one (ps_ret (pe_tup (pa_cons pe_str (pa_cons (pv 2) pa_nil))))) pss_nil)))))
      (pss_one (ps_ret pe_non)), ?_⟩
    refine ⟨_, rfl, c, _, rfl, hc, for_it ET.walk_enumT (fun i σ H' => Ex T H H' ∧ σ.length = 5 ∧ σ[0]? = some (some t)) ⟨Ex.refl, rfl, rfl⟩ (fun i σ H' _ q => q.1.sqT tb hc) (fun i x σ H' H2 hi q y => ?_) (fun σ H' q => k _ q.1)⟩
    obtain ⟨Tp, u, v2, rfl, hT', rfl, hu2, hv⟩ := y
    obtain rfl : i = 0 := by
      have hi : i < 1 := hi
      omega
    cases hu2
    cases hv
    obtain ⟨qx, q5, q0⟩ := q
    have x2 : Ex T H (upd H' Tp (.tup [.int ((0 : Nat) : Int), .ref ra])) := qx.trans (Ex.new hT')
    have hTp : SqT K (upd H' Tp (.tup [.int ((0 : Nat) : Int), .ref ra])) Tp [.int ((0 : Nat) : Int), .ref ra] := .inl (.inl upd_same)
    generalize upd H' Tp (.tup [.int ((0 : Nat) : Int), .ref ra]) = H2 at x2 hTp
    refine ⟨Tp, _, rfl, hTp, rfl, _, _, rfl, _, _, rfl, rfl, ?_⟩
    have s3 : ((σ.set 2 (some (.int ((0 : Nat) : Int)))).set 3 (some (.ref ra)))[3]? = some (some (.ref ra)) := List.getElem?_set_self (by rw [List.length_set, q5]; decide)
    have s0 : ((σ.set 2 (some (.int ((0 : Nat) : Int)))).set 3 (some (.ref ra)))[0]? = some (some t) := by rw [List.getElem?_set_ne (by decide), List.getElem?_set_ne (by decide)]; exact q0
    have s5 : ((σ.set 2 (some (.int ((0 : Nat) : Int)))).set 3 (some (.ref ra))).length = 5 := by rw [List.length_set, List.length_set, q5]
    generalize (σ.set 2 (some (.int ((0 : Nat) : Int)))).set 3 (some (.ref ra)) = σ1 at s3 s0 s5
    refine ⟨_, s3, .ref ra, r, rfl, ⟨ra, rfl, x2.sqT tb hra⟩, fun p hp => ⟨p, rfl, ⟨[], .inl (.inl upd_same)⟩, ?_⟩⟩
    have x3 : Ex T H (upd H2 p (.lst [])) := x2.trans (Ex.new hp)
    have hl : SqL K (upd H2 p (.lst [])) p [] := .inl (.inl upd_same)
    generalize upd H2 p (.lst []) = H3 at x3 hl
    have tb3 := x3.tb tb
    refine ⟨tb3 Pt hT, fun H4 ht => ?_⟩
    have x4 : Ex T H3 H4 := Ex.tabbed hT ht
    have tb4 := x4.tb tb3
    have hl4 := x4.sqL tb3 hl
    refine gen_bools (T := T) (walk_list (xs := [])) ([] : List Nat) rfl (fun _ => false) (fun _ e => e.sqL tb4 hl4) (fun i x a H' H2 e ha _ _ _ => by cases ha) (fun H5 x5 => ?_)
    have xx : Ex T H H5 := x3.trans (x4.trans x5)
    refine ⟨false, rfl, iteF ⟨_, s0, _, s3, t, .ref ra, r, rfl, ⟨ra, rfl, xx.sqT tb hra⟩, true, rfl, iteF ⟨_, s0, _, s3, t, .ref ra, r, rfl, ⟨ra, rfl, xx.sqT tb hra⟩, xx.tb tb, fun H6 x6 => ⟨false, rfl, iteF ⟨xx.trans x6, s5, s0⟩⟩⟩⟩⟩
/-- what is wrong in a function -/
def FoundAt (K : PySem.W.Frag) (H : Hp) (v : V) (nm : Str) (o : Option Str) : Prop := match o with
  | none => v = .non
  | some z => ∃ q, v = .ref q ∧ SqT K H q [.str z, .str nm, .int 0]
def spWFun (K : PySem.W.Frag) (T : List Addr) : Sp := fun vs H Q _ => ∃ (t v : V) (f : Fd) (r : Int), vs = [t, v] ∧ FnAt K H v f ∧ One f r ∧ f.2.1.length ≤ 1000 ∧ TbOk T H ∧ ∀ H' u, Ex T H H' → FoundAt K H' u f.1 (readTell f.2.1 r f.2.2.1) → Q u H'
theorem scWFun : FnScope ["tables", "function", "name", "_", "rows", "found", "word", "row"] ["tables", "function"] (defScope sWFun) := ⟨rfl, rfl, rfl, by decide +kernel, rfl, by decide +kernel, by decide +kernel⟩
theorem ok_wfun {f g1 g2 g3 : Addr} {fd gd1 gd2 gd3 : FuncData} (FN : Fun K "wrong_function" "wrong_function" sWFun f fd)
    (G1 : FnOk P w K mg base CX0 4 g1 gd1 ["tables", "rows"] (spAlone K T)) (m1 : mg "wrong_alone" = some (.ref g1)) (k1 : PySem.W.keepIn K (.ref g1) = true) (b1 : Binds K gd1 ["tables", "rows"] [])
    (G2 : FnOk P w K mg base CX0 4 g2 gd2 ["rows"] (spWays K T)) (m2 : mg "wrong_ways" = some (.ref g2)) (k2 : PySem.W.keepIn K (.ref g2) = true) (b2 : Binds K gd2 ["rows"] [])
    (G3 : FnOk P w K mg base CX0 4 g3 gd3 ["tables", "function"] (spWWords K T)) (m3 : mg "wrong_words" = some (.ref g3)) (k3 : PySem.W.keepIn K (.ref g3) = true) (b3 : Binds K gd3 ["tables", "function"] []) :
    FnOk P w K mg base CX0 5 f fd ["tables", "function"] (spWFun K T) := by
  refine FN.ok scWFun (fun vs H Q E h => ?_) (fun cdv A outer s H vs Q E hr h => ?_)
  · obtain ⟨t, v, fn, r, rfl, _⟩ := h
    rfl
  · obtain ⟨t, v, ⟨nm, ps, res, rows⟩, r, rfl, ⟨fa, vp, vr, rfl, hf, hp, c, xs, rfl, hc, hrs⟩, one, few, tb, k⟩ := h
    have one : rows = [.tuple [.str "give", .int r]] := one
    subst one
    obtain ⟨vrow, rfl, hg⟩ := one_row hrs
    obtain ⟨ra, rfl, hra⟩ := hg
    refine ⟨_, pss_cons (ps_asg (pv 1) (pg_four (K := K) (i := 2) (j := 3) (l := 3) (m := 4) rfl rfl scWFun.nd rfl rfl rfl rfl rfl rfl rfl rfl))
      (pss_cons (ps_set (i := 5) scWFun.nd rfl (.inl rfl) (pe_call G1 hr rfl m1 k1 b1 .nil pass0 (pa_cons (pv 0) (pa_cons (pv 4) pa_nil))))
      (pss_cons (ps_if (pt_cmpR op_isN (pv 5) pe_non (nomark _)) (pss_one (ps_set (i := 5) scWFun.nd rfl (.inl rfl) (pe_call G2 hr rfl m2 k2 b2 .nil pass0 (pa_cons (pv 4) pa_nil)))) pss_nil)
      (pss_cons (ps_if (pt_cmpR op_isN (pv 5) pe_non (nomark _)) (pss_one (ps_set (i := 5) scWFun.nd rfl (.inl rfl) (pe_call G3 hr rfl m3 k3 b3 .nil pass0 (pa_cons (pv 0) (pa_cons (pv 1) pa_nil))))) pss_nil)
      (pss_cons (ps_if (pt_cmpR op_isN (pv 5) pe_non (nomark _)) (pss_one (ps_ret pe_non)) pss_nil)
      (pss_cons (ps_asg (pv 5) (pg_two (K := K) (i := 6) (j := 7) rfl rfl scWFun.nd rfl rfl rfl rfl))
      (pss_one (ps_ret (pe_tup (pa_cons (pv 6) (pa_cons (pv 2) (pa_cons (pv 7) pa_nil))))))))))), ?_⟩
    refine ⟨.ref fa, rfl, fa, _, rfl, hf, rfl, _, _, rfl, _, _, rfl, _, _, rfl, _, _, rfl, rfl, ?_⟩
    refine ⟨_, rfl, _, rfl, t, c, .ref ra, r, rfl, hc, ⟨ra, rfl, hra⟩, tb, fun H1 x1 => ?_⟩
    refine ⟨_, rfl, rfl, _, rfl, iteT ?_⟩
    refine ⟨_, rfl, c, .ref ra, r, rfl, x1.sqT tb hc, ⟨ra, rfl, x1.sqT tb hra⟩, x1.tb tb, fun H2 x2 => ?_⟩
    have x12 := x1.trans x2
    refine ⟨_, rfl, rfl, _, rfl, iteT ?_⟩
    refine ⟨_, rfl, _, rfl, t, .ref fa, (nm, ps, res, [.tuple [.str "give", .int r]]), r, rfl, ⟨fa, vp, .ref c, rfl, x12.sqT tb hf, hp.to fun _ _ q => x12.sqT tb q, c, _, rfl, x12.sqT tb hc, hrs.ex x12 tb⟩, rfl, few, x12.tb tb, fun H3 u x3 ht => ?_⟩
    have x13 := x12.trans x3
    have ht : TellAt K H3 u (readTell ps r res) := ht
    cases hz : readTell ps r res with
    | none =>
      rw [hz] at ht
      obtain rfl : u = .non := ht
      exact ⟨_, rfl, rfl, _, rfl, iteT (k _ _ x13 (by show FoundAt K _ _ nm (readTell ps r res); rw [hz]; rfl))⟩
    | some z =>
      rw [hz] at ht
      obtain ⟨q, rfl, hq⟩ := ht
      exact ⟨_, rfl, rfl, _, rfl, iteF ⟨_, rfl, q, _, rfl, hq, rfl, _, _, rfl, _, _, rfl, rfl, _, rfl, _, rfl, _, rfl, by show 3 ≤ sizeLine; decide, fun p hp2 => k _ _ (x13.trans (Ex.new hp2)) (by show FoundAt K _ _ nm (readTell ps r res); rw [hz]; exact ⟨p, rfl, .inl (.inl upd_same)⟩)⟩⟩
end
end JF
set_option Elab.async false
set_option linter.all false
set_option maxRecDepth 100000
set_option maxHeartbeats 4000000
namespace JF
open PySem PySem.Spec PyProof.Rows L2 GxR GA
abbrev sHeads : Stmt := topS 73
theorem g_nm {K : PySem.W.Frag} {b : Addr} {x y z u : V} {σ : L2.St} {vs : List Nat} {i j : Nat} {H : Hp} {C : L2.St → Hp → Prop} (hb : SqT K H b [x, y, z, u]) (hi : i ∈ vs) (hj : j ∈ vs) (d : i ≠ j) (li : i < σ.length)
    (h : ∀ σ2 : L2.St, σ2.length = σ.length → (∀ n, n ∉ vs → σ2[n]? = σ[n]?) → σ2[i]? = some (some x) → C σ2 H) :
    gTup K 4 (gCons (gName i) (gCons (gName j) (gCons (gName j) (gCons (gName j) gNil)))) (.ref b) (wipe σ vs) H fun σ2 H2 => wipe σ2 vs = wipe σ vs ∧ C σ2 H2 := by
  refine ⟨b, _, rfl, hb, rfl, _, _, rfl, _, _, rfl, _, _, rfl, _, _, rfl, rfl, ?_, h _ ?_ (fun n hn => ?_) ?_⟩
  · rw [wipe_in _ _ _ _ hj, wipe_in _ _ _ _ hj, wipe_in _ _ _ _ hj, wipe_in _ _ _ _ hi, L3.wipe_wipe]
  · simp only [List.length_set, wipe_length]
  · rw [List.getElem?_set_ne (fun e : j = n => hn (e ▸ hj)), List.getElem?_set_ne (fun e : j = n => hn (e ▸ hj)), List.getElem?_set_ne (fun e : j = n => hn (e ▸ hj)), List.getElem?_set_ne (fun e : i = n => hn (e ▸ hi)), wipe_out hn]
  · rw [List.getElem?_set_ne d.symm, List.getElem?_set_ne d.symm, List.getElem?_set_ne d.symm]
    exact List.getElem?_set_self (by rw [wipe_length]; exact li)
/-- a word that may stand for a param or a result -/
def okWord (ks : List Kd) (wd : Str) : Bool := decide (wd = "number") || decide (wd ∈ kNames ks)
def headTell (ks : List Kd) (ps : List Str) (res : Str) : Option Str := if (ps ++ [res]).all (okWord ks) = true then none else some ("kind" : Str)
section
variable {P : Program} {w : World} {K : PySem.W.Frag} {mg : Str → Option Value} {base : Heap} {T : List Addr}
theorem kk_some {H : Hp} {wd : Str} : ∀ {kk : List (Key × V)} {ks : List Kd}, Paired (KdAt K H) kk ks → (valV kk (.inr wd)).isSome = decide (wd ∈ kNames ks)
  | _, _, .nil => rfl
  | _, _, @Paired.cons _ _ _ a b as bs r t => by
    by_cases e : b.1 = wd
    · rw [valV_pos (by rw [r.1, e])]
      exact (decide_eq_true (by rw [← e]; exact List.mem_cons_self ..)).symm
    · have h1 : valV (a :: as) (.inr wd) = valV as (.inr wd) := by
        unfold valV
        rw [List.find?_cons_of_neg]
        rw [r.1]
        simpa using e
      rw [h1, kk_some t]
      have : (wd ∈ kNames (b :: bs)) ↔ (wd ∈ kNames bs) := by
        show wd ∈ b.1 :: kNames bs ↔ _
        rw [List.mem_cons]
        exact ⟨fun z => z.resolve_left (fun y => e y.symm), .inr⟩
      simp only [this]
def spHeads (K : PySem.W.Frag) (T : List Addr) (C : Addr) : Sp := fun vs H Q _ => ∃ (x F : Addr) (v : V) (ks : List Kd) (f : Fd), vs = [.ref x, .ref F] ∧ TabAt K H x C ks [f] ∧ SqT K H F [v] ∧ FnAt K H v f ∧ f.2.1.length ≤ 1000 ∧ TbOk T H ∧ ∀ H' u, Ex T H H' → FoundAt K H' u f.1 (headTell ks f.2.1 f.2.2.1) → Q u H'
abbrev nHeads : List Str := ["tables", "functions", "name", "_", "names", "index", "params", "result", "word"]
theorem scHeads : FnScope nHeads ["tables", "functions"] (defScope sHeads) := ⟨rfl, rfl, rfl, by decide +kernel, rfl, by decide +kernel, by decide +kernel⟩
theorem ok_heads {f C : Addr} {fd : FuncData} (FN : Fun K "wrong_heads" "wrong_heads" sHeads f fd) (Be : mg "enumerate" = none) (cC : Cls K C) (nC : NoAttr K C "kinds") : FnOk P w K mg base CX0 1 f fd ["tables", "functions"] (spHeads K T C) := by
  refine FN.ok scHeads (fun vs H Q E h => ?_) (fun cdv A outer s H vs Q E hr h => ?_)
  · obtain ⟨x, Fa, v, ks, fn, rfl, _⟩ := h
    rfl
  · obtain ⟨x, Fa, v, ks, ⟨nm, ps, res, rows⟩, rfl, ht, hF, ⟨fa, vp, vr, rfl, hf, hp, c, xs, rfl, hc, hrs⟩, few, tb, k⟩ := h
    obtain ⟨pa, rfl, hpa⟩ := hp
    have hu := hu_of hr
    refine ⟨_, pss_cons (ps_setLc (i := 4) (own := [("name", 2), ("_", 3)]) (by rfl) scHeads.nd rfl rfl (sw_true rfl rfl rfl (by decide +kernel)) (pi_tup (pv 1)) (blkOk_by (N := nHeads) (sc := defScope sHeads) (by decide +kernel))
        (fun _ _ _ _ _ => pg_four (K := K) (i := 2) (j := 3) (l := 3) (m := 3) rfl rfl scHeads.nd rfl rfl rfl rfl rfl rfl rfl rfl) (fun _ _ _ _ _ => pts_nil) (fun _ _ _ _ _ => pv 2))
      (pss_cons (ps_for PassesOwn.never rfl (pi_enum rfl Be (pa_cons (pv 4) pa_nil)) (pg_two (K := K) (i := 5) (j := 2) rfl rfl scHeads.nd rfl rfl rfl rfl)
        (pss_one (ps_if (pt_cmpR op_in_seq (pv 2) (pe_slice sl_list (pv 4) po_none (po_some (pv 5))) rfl) (pss_one (ps_ret (pe_tup (pa_cons pe_str (pa_cons (pv 2) (pa_cons pe_int pa_nil)))))) pss_nil)))
      (pss_cons (ps_for PassesOwn.never rfl (pi_tup (pv 1)) (pg_four (K := K) (i := 2) (j := 6) (l := 7) (m := 3) rfl rfl scHeads.nd rfl rfl rfl rfl rfl rfl rfl rfl)
        (pss_one (ps_for PassesOwn.never rfl (pi_tup (pe_tup (StX.pa_star (pv 6) (pa_cons (pv 7) pa_nil)))) (pg_name (i := 8) scHeads.nd rfl (.inl rfl))
          (pss_one (ps_if (PW.pt (pw_and (pt_cmpR op_ne (pv 8) pe_str (nomark _)) (pw_and1 (pt_cmp (pc_dnotin hu (pv 8) (pe_fld (pv 0) rfl)) rfl)))) (pss_one (ps_ret (pe_tup (pa_cons pe_str (pa_cons (pv 2) (pa_cons pe_int pa_nil)))))) pss_nil)))))
      (pss_one (ps_ret pe_non)))), ?_⟩
    have k : ∀ H' u, Ex T H H' → FoundAt K H' u nm (headTell ks ps res) → Q u H' := k
    have few : ps.length ≤ 1000 := few
    have hf : SqT K H fa [.str nm, .ref pa, .str res, .ref c] := hf
    have hpa : SqT K H pa (ps.map V.str) := hpa
    -- names
    refine ⟨_, rfl, Fa, rfl, ⟨_, hF⟩, fun L hL => lcB_it (walk_tup (xs := [.ref fa])) (fun j H' => Ex T H H' ∧ H' L = some (.lst (if j = 0 then [] else [.str nm]))) ⟨Ex.new hL, upd_same⟩ (fun j H' _ q => q.1.sqT tb hF) (fun j v H' H2 hj q y => ?_) (fun H2 q => ?_)⟩
    · obtain ⟨rfl, hx⟩ := y
      obtain rfl : j = 0 := by
        have hj : j < 1 := hj
        omega
      cases hx
      obtain ⟨qx, qd⟩ := q
      exact g_nm (qx.sqT tb hf) (by decide) (by decide) (by decide) (by show 2 < 9; decide) fun σ2 _ _ g2 => yesT ⟨_, g2, [], qd, by show 0 < sizeLine; rw [sizeLine_eq]; omega, qx.upd hL, upd_same⟩
    obtain ⟨x2, hL2⟩ := q
    have hL2 : H2 L = some (.lst [.str nm]) := hL2
    have tb2 := x2.tb tb
    have sL2 : SqL K H2 L [.str nm] := .inl (.inl hL2)
    -- double names
    refine ⟨_, rfl, L, _, rfl, sL2, for_it walk_enum (fun i σ H' => Ex T H2 H' ∧ σ.length = 9 ∧ σ[0]? = some (some (.ref x)) ∧ σ[1]? = some (some (.ref Fa)) ∧ σ[4]? = some (some (.ref L))) ⟨Ex.refl, rfl, rfl, rfl, rfl⟩ (fun i σ H' _ q => q.1.sqL tb2 sL2) (fun i v σ H' H3 hi q y => ?_) (fun σ H3 q => ?_)⟩
    · obtain ⟨Tp, u, v2, rfl, hT, rfl, hu2, hv⟩ := y
      obtain rfl : i = 0 := by
        have hi : i < 1 := hi
        omega
      cases hu2
      cases hv
      obtain ⟨qx, q9, q0, q1, q4⟩ := q
      have x3 : Ex T H2 (upd H' Tp (.tup [.int ((0 : Nat) : Int), .str nm])) := qx.trans (Ex.new hT)
      have hTp : SqT K (upd H' Tp (.tup [.int ((0 : Nat) : Int), .str nm])) Tp [.int ((0 : Nat) : Int), .str nm] := .inl (.inl upd_same)
      generalize upd H' Tp (.tup [.int ((0 : Nat) : Int), .str nm]) = H4 at x3 hTp
      refine ⟨Tp, _, rfl, hTp, rfl, _, _, rfl, _, _, rfl, rfl, ?_⟩
      have s2 : ((σ.set 5 (some (.int ((0 : Nat) : Int)))).set 2 (some (.str nm)))[2]? = some (some (.str nm)) := List.getElem?_set_self (by rw [List.length_set, q9]; decide)
      have s5 : ((σ.set 5 (some (.int ((0 : Nat) : Int)))).set 2 (some (.str nm)))[5]? = some (some (.int 0)) := by rw [List.getElem?_set_ne (by decide)]; exact List.getElem?_set_self (by rw [q9]; decide)
      have s4 : ((σ.set 5 (some (.int ((0 : Nat) : Int)))).set 2 (some (.str nm)))[4]? = some (some (.ref L)) := by rw [List.getElem?_set_ne (by decide), List.getElem?_set_ne (by decide)]; exact q4
      have s1 : ((σ.set 5 (some (.int ((0 : Nat) : Int)))).set 2 (some (.str nm)))[1]? = some (some (.ref Fa)) := by rw [List.getElem?_set_ne (by decide), List.getElem?_set_ne (by decide)]; exact q1
      have s0 : ((σ.set 5 (some (.int ((0 : Nat) : Int)))).set 2 (some (.str nm)))[0]? = some (some (.ref x)) := by rw [List.getElem?_set_ne (by decide), List.getElem?_set_ne (by decide)]; exact q0
      have s9 : ((σ.set 5 (some (.int ((0 : Nat) : Int)))).set 2 (some (.str nm))).length = 9 := by rw [List.length_set, List.length_set, q9]
      exact ⟨_, s2, _, s4, _, s5, 0, rfl, L, _, rfl, x3.sqL tb2 sL2, fun p hp => ⟨p, _, rfl, .inl (.inl (.inl upd_same)), rfl, rfl, _, rfl, iteF ⟨x3.trans (Ex.new hp), s9, s0, s1, s4⟩⟩⟩
    obtain ⟨x3, s9, s0, s1, s4⟩ := q
    have X3 := x2.trans x3
    have hF3 := X3.sqT tb hF
    -- kinds
    refine ⟨_, s1, Fa, rfl, ⟨_, hF3⟩, for_it (walk_tup (xs := [.ref fa])) (fun i σ H' => Ex T H H' ∧ σ.length = 9 ∧ σ[0]? = some (some (.ref x)) ∧ (0 < i → headTell ks ps res = none)) ⟨X3, s9, s0, fun z => absurd z (Nat.lt_irrefl 0)⟩ (fun i σ H' _ q => q.1.sqT tb hF) (fun i v σ H' H4 hi q y => ?_) (fun σ H' q => k _ _ q.1 (by rw [q.2.2.2 Nat.one_pos]; rfl))⟩
    obtain ⟨rfl, hx⟩ := y
    obtain rfl : i = 0 := by
      have hi : i < 1 := hi
      omega
    cases hx
    obtain ⟨qx, q9, q0, _⟩ := q
    refine ⟨fa, _, rfl, qx.sqT tb hf, rfl, _, _, rfl, _, _, rfl, _, _, rfl, _, _, rfl, rfl, ?_⟩
    have t2 : ((((σ.set 2 (some (.str nm))).set 6 (some (.ref pa))).set 7 (some (.str res))).set 3 (some (.ref c)))[2]? = some (some (.str nm)) := by
      rw [List.getElem?_set_ne (by decide), List.getElem?_set_ne (by decide), List.getElem?_set_ne (by decide)]; exact List.getElem?_set_self (by rw [q9]; decide)
    have t6 : ((((σ.set 2 (some (.str nm))).set 6 (some (.ref pa))).set 7 (some (.str res))).set 3 (some (.ref c)))[6]? = some (some (.ref pa)) := by
      rw [List.getElem?_set_ne (by decide), List.getElem?_set_ne (by decide)]; exact List.getElem?_set_self (by rw [List.length_set, q9]; decide)
    have t7 : ((((σ.set 2 (some (.str nm))).set 6 (some (.ref pa))).set 7 (some (.str res))).set 3 (some (.ref c)))[7]? = some (some (.str res)) := by
      rw [List.getElem?_set_ne (by decide)]; exact List.getElem?_set_self (by rw [List.length_set, List.length_set, q9]; decide)
    have t0 : ((((σ.set 2 (some (.str nm))).set 6 (some (.ref pa))).set 7 (some (.str res))).set 3 (some (.ref c)))[0]? = some (some (.ref x)) := by
      rw [List.getElem?_set_ne (by decide), List.getElem?_set_ne (by decide), List.getElem?_set_ne (by decide), List.getElem?_set_ne (by decide)]; exact q0
    have t9 : ((((σ.set 2 (some (.str nm))).set 6 (some (.ref pa))).set 7 (some (.str res))).set 3 (some (.ref c))).length = 9 := by simp only [List.length_set, q9]
    generalize (((σ.set 2 (some (.str nm))).set 6 (some (.ref pa))).set 7 (some (.str res))).set 3 (some (.ref c)) = σ1 at t2 t6 t7 t0 t9
    refine ⟨_, t6, pa, _, rfl, .inl (qx.sqT tb hpa), _, t7, ?_, fun q hq => ?_⟩
    · show (ps.map V.str ++ [V.str res]).length ≤ sizeLine
      rw [List.length_append, List.length_map, sizeLine_eq]
      show ps.length + 1 ≤ _
      omega
    have e5 : ps.map V.str ++ [V.str res] = (ps ++ [res]).map V.str := by rw [List.map_append]; rfl
    have x5 : Ex T H (upd H4 q (.tup (ps.map V.str ++ [.str res]))) := qx.trans (Ex.new hq)
    have hq5 : SqT K (upd H4 q (.tup (ps.map V.str ++ [.str res]))) q ((ps ++ [res]).map V.str) := .inl (.inl (by rw [upd_same, e5]))
    refine ⟨q, rfl, ⟨_, hq5⟩, ?_⟩
    generalize upd H4 q (.tup (ps.map V.str ++ [.str res])) = H5 at x5 hq5
    have tb5 := x5.tb tb
    obtain ⟨dx, dk, dm, df, kk, kf, hx5, hk5, pk5, _, _, _⟩ := (ht.ex' x5 tb).ex
    refine for_it (walk_tup (xs := (ps ++ [res]).map V.str)) (fun j σ' H' => Ex T H5 H' ∧ σ'.length = 9 ∧ σ'[0]? = some (some (.ref x)) ∧ σ'[2]? = some (some (.str nm)) ∧ ∀ wd ∈ (ps ++ [res]).take j, okWord ks wd = true) ⟨Ex.refl, t9, t0, t2, fun wd h => by simp at h⟩ (fun j σ' H' _ q => q.1.sqT tb5 hq5) (fun j v σ' H' H6 hj q y => ?_) (fun σ' H' q => ?_)
    · obtain ⟨rfl, hx⟩ := y
      rw [List.getElem?_map] at hx
      obtain ⟨wd, hwd, rfl⟩ := Option.map_eq_some_iff.mp hx
      obtain ⟨rx, r9, r0, r2, ra⟩ := q
      have X6 := x5.trans rx
      have s8 : (σ'.set 8 (some (.str wd)))[8]? = some (some (.str wd)) := List.getElem?_set_self (by rw [r9]; decide)
      have s0 : (σ'.set 8 (some (.str wd)))[0]? = some (some (.ref x)) := by rw [List.getElem?_set_ne (by decide)]; exact r0
      have s2 : (σ'.set 8 (some (.str wd)))[2]? = some (some (.str nm)) := by rw [List.getElem?_set_ne (by decide)]; exact r2
      have s9 : (σ'.set 8 (some (.str wd))).length = 9 := by rw [List.length_set, r9]
      have more : okWord ks wd = true → ∀ w ∈ (ps ++ [res]).take (j + 1), okWord ks w = true := fun hw w h => by
        rw [List.take_succ, hwd, Option.toList_some] at h
        rcases List.mem_append.mp h with z | z
        · exact ra w z
        · rw [List.mem_singleton.mp z]; exact hw
      refine ⟨_, s8, rfl, _, rfl, ?_⟩
      by_cases e : wd = "number"
      · rw [show decide (V.str wd = V.str "number") = true from decide_eq_true (by rw [e])]
        exact iteF (iteF ⟨rx, s9, s0, s2, more (by unfold okWord; rw [decide_eq_true e]; rfl)⟩)
      · rw [show decide (V.str wd = V.str "number") = false from decide_eq_false fun z => e (V.str.inj z)]
        refine iteT ⟨_, s8, _, s0, x, C, dx, _, .ref dk, rfl, rx.keep _ _ hx5 (tb5.seqN hx5 fun _ z => by cases z), cC, nC, rfl, dk, _, rfl, DGet.k (k := .inr wd) (dk_keep rx tb5 hk5), _, rfl, ?_⟩
        rw [kk_some pk5]
        by_cases e2 : wd ∈ kNames ks
        · rw [decide_eq_true e2]
          exact iteF ⟨rx, s9, s0, s2, more (by unfold okWord; rw [decide_eq_true e2, Bool.or_true])⟩
        · rw [decide_eq_false e2]
          have hz : headTell ks ps res = some ("kind" : Str) := by
            unfold headTell
            rw [if_neg]
            intro z
            have := List.all_eq_true.mp z wd (List.mem_of_getElem? hwd)
            unfold okWord at this
            rw [decide_eq_false e, decide_eq_false e2] at this
            cases this
          exact iteT ⟨_, s2, by show 3 ≤ sizeLine; decide, fun p hp => k _ _ (X6.trans (Ex.new hp)) (by rw [hz]; exact ⟨p, rfl, .inl (.inl upd_same)⟩)⟩
    · obtain ⟨rx, r9, r0, _, ra⟩ := q
      refine ⟨x5.trans rx, r9, r0, fun _ => ?_⟩
      unfold headTell
      rw [if_pos]
      refine List.all_eq_true.mpr fun wd h => ra wd ?_
      rw [List.length_map, List.take_length]
      exact h
end
end JF
set_option Elab.async false
set_option linter.all false
set_option maxRecDepth 100000
set_option maxHeartbeats 4000000
namespace JF
open PySem PySem.Spec PyProof.Rows L2 GxR GA
abbrev sCheck : Stmt := topS 69
abbrev sChecked : Stmt := topS 70
abbrev sRegs : Stmt := topS 71
section
variable {K : PySem.W.Frag} {H : Hp}
theorem fnAt_of {v : V} {nm res : Str} {dp : PyData} {rows : List PyData} (r : Rp K H v (.tuple [.str nm, dp, .str res, .tuple rows])) (hp : isTup 0 8 isField dp = true) : FnAt K H v (nm, fieldsOf dp, res, rows) := by
  cases r with
  | @tup a xs _ hs rs =>
    cases rs with
    | cons r1 rs =>
    cases rs with
    | cons r2 rs =>
    cases rs with
    | cons r3 rs =>
    cases rs with
    | cons r4 rs =>
    cases rs
    obtain ⟨ds, rfl, _, _, ha⟩ := isTup_true hp
    cases r2 with
    | @tup a2 xs2 _ hs2 rs2 =>
    cases r4 with
    | @tup a4 xs4 _ hs4 rs4 =>
    rw [rp_str r1, rp_str r3] at hs
    exact ⟨a, .ref a2, .ref a4, rfl, hs, ⟨a2, rfl, by rw [strs_of rs2 ha] at hs2; exact hs2⟩, a4, xs4, rfl, hs4, rs4⟩
theorem FoundAt.ex {T : List Addr} {H' : Hp} {v : V} {nm : Str} {o : Option Str} (x : Ex T H H') (t : TbOk T H) (h : FoundAt K H v nm o) : FoundAt K H' v nm o := by
  cases o with
  | none => exact h
  | some z =>
    obtain ⟨q, e, hq⟩ := h
    exact ⟨q, e, x.sqT t hq⟩
end
/-- a program of one function of one row that gives r -/
structure OneP (d : PyData) (ks : List Kd) (nm res : Str) (ps : List Str) (r : Int) : Prop where
  ex : ∃ dk dp, d = .tuple [dk, .tuple [.tuple [.str nm, dp, .str res, .tuple [.tuple [.str "give", .int r]]]]] ∧ kindsOf dk = ks ∧ fieldsOf dp = ps
  prog : isProgram d = true
  nk : (kNames ks).Nodup
  nm : (kMakers ks).Nodup
def checkTell (ks : List Kd) (ps : List Str) (res : Str) (r : Int) : Option Str := match headTell ks ps res with
  | some z => some z
  | none => readTell ps r res
section
variable {P : Program} {w : World} {K : PySem.W.Frag} {mg : Str → Option Value} {base : Heap} {T : List Addr}
def spCheck (K : PySem.W.Frag) (T : List Addr) (cB : Addr) : Sp := fun vs H Q E => ∃ (v : V) (d : PyData), vs = [v] ∧ Rp K H v d ∧ TbOk T H ∧ (isProgram d = false → ∀ H', Ex T H H' → E (.ref cB) none H') ∧
  (isProgram d = true → ∃ ks nm res ps r, OneP d ks nm res ps r ∧ ∀ H' u, Ex T H H' → FoundAt K H' u nm (checkTell ks ps res r) → Q u H')
theorem scCheck : FnScope ["program", "tables", "_", "functions", "wrong", "function"] ["program"] (defScope sCheck) := ⟨rfl, rfl, rfl, by decide +kernel, rfl, by decide +kernel, by decide +kernel⟩
theorem ok_check {f gN gI gH gW C cB : Addr} {fd gdN gdI gdH gdW : FuncData} (FN : Fun K "check" "check" sCheck f fd)
    (GN : FnOk P w K mg base (L2.CX P w) 22 gN gdN ["program"] (spNeed K T cB)) (mN : mg "need_program" = some (.ref gN)) (kN : PySem.W.keepIn K (.ref gN) = true) (bN : Binds K gdN ["program"] [])
    (M : Mk K C gI) (GI : FnOk P w K mg base CX0 2 gI gdI ["self", "program"] (spTabInit K T C)) (mT : mg "Tables" = some (.ref C)) (bI : Binds K gdI ["self", "program"] [])
    (GH : FnOk P w K mg base CX0 22 gH gdH ["tables", "functions"] (spHeads K T C)) (mH : mg "wrong_heads" = some (.ref gH)) (kH : PySem.W.keepIn K (.ref gH) = true) (bH : Binds K gdH ["tables", "functions"] [])
    (GW : FnOk P w K mg base CX0 22 gW gdW ["tables", "function"] (spWFun K T)) (mW : mg "wrong_function" = some (.ref gW)) (kW : PySem.W.keepIn K (.ref gW) = true) (bW : Binds K gdW ["tables", "function"] []) :
    FnOk P w K mg base (L2.CX P w) 23 f fd ["program"] (spCheck K T cB) := by
  refine FN.okX scCheck (fun vs H Q E h => ?_) (fun cdv A outer s H vs Q E hr h => ?_)
  · obtain ⟨v, d, rfl, _⟩ := h
    rfl
  · obtain ⟨v, d, rfl, r, tb, k1, k2⟩ := h
    refine ⟨_, pss_cons (ps_expr (pe_callS GN hr rfl mN kN bN (fun σ => passAt (takes_of rfl rfl rfl rfl) σ) (pa_cons (pv 0) pa_nil)))
      (pss_cons (ps_set (i := 1) scCheck.nd rfl (.inl rfl) (pe_make M GI (hr.mono (by decide)) rfl mT bI .nil pass0 (pa_cons (pv 0) pa_nil)))
      (pss_cons (ps_asg (pv 0) (pg_two (K := K) (i := 2) (j := 3) rfl rfl scCheck.nd rfl rfl rfl rfl))
      (pss_cons (ps_set (i := 4) scCheck.nd rfl (.inl rfl) (pe_call GH hr rfl mH kH bH .nil pass0 (pa_cons (pv 1) (pa_cons (pv 3) pa_nil))))
      (pss_cons (ps_for (passes_of rfl) rfl (pi_tup (pv 3)) (pg_name (i := 5) scCheck.nd rfl (.inl rfl))
        (pss_one (ps_if (pt_cmpR op_isN (pv 4) pe_non (nomark _)) (pss_one (ps_set (i := 4) scCheck.nd rfl (.inl rfl) (pe_call GW hr rfl mW kW bW .nil pass0 (pa_cons (pv 1) (pa_cons (pv 5) pa_nil))))) pss_nil)))
      (pss_one (ps_ret (pv 4))))))), ?_⟩
    refine ⟨_, rfl, v, d, rfl, r, tb, fun hp H1 x1 => ?_, k1⟩
    obtain ⟨ks, nm, res, ps, rr, ⟨⟨dk, dp, rfl, hks, hps⟩, prog, nk, nm'⟩, k⟩ := k2 hp
    have hp2 : (isKinds dk && isFunctions (.tuple [.tuple [.str nm, dp, .str res, .tuple [.tuple [.str "give", .int rr]]]])) = true := hp
    rw [Bool.and_eq_true] at hp2
    have e1 : isTup 1 6 isKind dk = true := by
      have := hp2.1
      unfold isKinds at this
      rw [Bool.and_eq_true] at this
      exact this.1
    obtain ⟨ds, hds, _, _, hall⟩ := isTup_true hp2.2
    cases hds
    have hfun : isFunction (.tuple [.str nm, dp, .str res, .tuple [.tuple [.str "give", .int rr]]]) = true := List.all_eq_true.mp hall _ (List.mem_cons_self ..)
    have hfun : ((isLow (.str nm) && isTup 0 8 isField dp) && (isField (.str res) && isTup 1 60 isRow (.tuple [.tuple [.str "give", .int rr]]))) = true := hfun
    simp only [Bool.and_eq_true] at hfun
    have few := few_of e1
    have lps : ps.length ≤ 1000 := by
      obtain ⟨fs, rfl, _, f8, _⟩ := isTup_true hfun.1.2
      rw [← hps]
      show (fs.map strOf).length ≤ 1000
      rw [List.length_map]; omega
    cases r with
    | @tup a xs _ hs rs =>
    cases rs with
    | @cons vk _ _ _ rk rs =>
    cases rs with
    | @cons vf _ _ _ rf rs =>
    cases rs
    cases rf with
    | @tup F ys _ hF rs2 =>
    cases rs2 with
    | @cons v1 _ _ _ r1 rs2 =>
    cases rs2
    have hk1 := kindsAt (rk.ex x1 tb) e1
    rw [hks] at hk1
    have hf1 := fnAt_of (r1.ex x1 tb) hfun.1.2
    rw [hps] at hf1
    rw [hks] at few
    have tb1 := x1.tb tb
    have lm := few.makers
    have lk := few.kn
    refine ⟨_, rfl, fun x dx hx hdx hne => ⟨H1, x, dx, a, vk, .ref F, ks, [(nm, ps, res, [.tuple [.str "give", .int rr]])], rfl, rfl, hx, hdx, hne, x1.sqT tb hs, hk1, ⟨F, [v1], rfl, x1.sqT tb hF, .cons hf1 .nil⟩, nk, nm', by simp, by omega, by omega, by show 1 ≤ 1000; decide, tb1, fun H2 x2 ht => ⟨rfl, ?_⟩⟩⟩
    have x12 := x1.trans x2
    have tb2 := x2.tb tb1
    refine ⟨_, rfl, a, _, rfl, x12.sqT tb hs, rfl, _, _, rfl, _, _, rfl, rfl, ?_⟩
    refine ⟨_, rfl, _, rfl, x, F, v1, ks, _, rfl, ht, x12.sqT tb hF, hf1.ex x2 tb1, lps, tb2, fun H3 u x3 hu => ?_⟩
    have hu : FoundAt K H3 u nm (headTell ks ps res) := hu
    have x13 := x12.trans x3
    have tb3 := x3.tb tb2
    refine ⟨_, rfl, F, rfl, ⟨_, x13.sqT tb hF⟩, for_it (walk_tup (xs := [v1])) (fun i σ H' => Ex T H3 H' ∧ σ.length = 6 ∧ σ[1]? = some (some (.ref x)) ∧ (i = 0 → σ[4]? = some (some u)) ∧ (0 < i → ∃ u2, σ[4]? = some (some u2) ∧ FoundAt K H' u2 nm (checkTell ks ps res rr))) ⟨Ex.refl, rfl, rfl, fun _ => rfl, fun z => absurd z (Nat.lt_irrefl 0)⟩ (fun i σ H' _ q => (x13.trans q.1).sqT tb hF) (fun i w σ H' H4 hi q y => ?_) (fun σ H' q => ?_)⟩
    · obtain ⟨rfl, hw⟩ := y
      obtain rfl : i = 0 := by
        have hi : i < 1 := hi
        omega
      cases hw
      obtain ⟨qx, q6, q1, q4, _⟩ := q
      have q4 := q4 rfl
      have s5 : (σ.set 5 (some v1))[5]? = some (some v1) := List.getElem?_set_self (by rw [q6]; decide)
      have s4 : (σ.set 5 (some v1))[4]? = some (some u) := by rw [List.getElem?_set_ne (by decide)]; exact q4
      have s1 : (σ.set 5 (some v1))[1]? = some (some (.ref x)) := by rw [List.getElem?_set_ne (by decide)]; exact q1
      have s6 : (σ.set 5 (some v1)).length = 6 := by rw [List.length_set, q6]
      refine ⟨_, s4, rfl, _, rfl, ?_⟩
      cases hh : headTell ks ps res with
      | none =>
        rw [hh] at hu
        obtain rfl : u = .non := hu
        refine iteT ⟨_, s1, _, s5, .ref x, v1, _, rr, rfl, hf1.ex (x2.trans (x3.trans qx)) tb1, rfl, lps, qx.tb tb3, fun H5 u2 x5 h2 => ⟨qx.trans x5, by rw [List.length_set]; exact s6, by rw [List.getElem?_set_ne (by decide)]; exact s1, fun z => absurd z (by decide), fun _ => ⟨u2, List.getElem?_set_self (by rw [s6]; decide), ?_⟩⟩⟩
        unfold checkTell
        rw [hh]
        exact h2
      | some z =>
        rw [hh] at hu
        obtain ⟨q, rfl, hq⟩ := hu
        refine iteF ⟨qx, s6, s1, fun z => absurd z (by decide), fun _ => ⟨.ref q, s4, ?_⟩⟩
        unfold checkTell
        rw [hh]
        exact ⟨q, rfl, qx.sqT tb3 hq⟩
    · obtain ⟨qx, _, _, _, q⟩ := q
      obtain ⟨u2, s4, h2⟩ := q Nat.one_pos
      exact ⟨_, s4, k _ _ (x13.trans qx) h2⟩
end
end JF
set_option Elab.async false
set_option linter.all false
set_option maxRecDepth 100000
set_option maxHeartbeats 4000000
namespace JF
open PySem PySem.Spec PyProof.Rows L2 GxR GA
section
variable {P : Program} {w : World} {K : PySem.W.Frag} {mg : Str → Option Value} {base : Heap} {T : List Addr}
/-- what is raised with: at dx the dict of the error, its what -/
def WhatAt (K : PySem.W.Frag) (H : Hp) (dx : Addr) (nm z : Str) : Prop := ∃ q, H dx = some (.xd [("what", .ref q)]) ∧ SqT K H q [.str z, .str nm, .int 0]
def spChecked (K : PySem.W.Frag) (T : List Addr) (cB cN : Addr) : Sp := fun vs H Q E => ∃ (v : V) (d : PyData), vs = [v] ∧ Rp K H v d ∧ TbOk T H ∧ (isProgram d = false → ∀ H', Ex T H H' → E (.ref cB) none H') ∧
  (isProgram d = true → ∃ ks nm res ps r, OneP d ks nm res ps r ∧ (checkTell ks ps res r = none → ∀ H', Ex T H H' → Q .non H') ∧ ∀ z, checkTell ks ps res r = some z → ∀ H' dx, Ex T H H' → WhatAt K H' dx nm z → E (.ref cN) (some dx) H')
theorem scChecked : FnScope ["program", "what"] ["program"] (defScope sChecked) := ⟨rfl, rfl, rfl, by decide +kernel, rfl, by decide +kernel, by decide +kernel⟩
theorem ok_checked {f g cB cN fI : Addr} {fd gd fdI : FuncData} {msg : Str} (FN : Fun K "checked" "checked" sChecked f fd)
    (G : FnOk P w K mg base (L2.CX P w) 23 g gd ["program"] (spCheck K T cB)) (mG : mg "check" = some (.ref g)) (kG : PySem.W.keepIn K (.ref g) = true) (bG : Binds K gd ["program"] [])
    (TN : SI.OwnTxt P K mg "NotChecked" "what" msg cN fI fdI) (hb : ∀ e v, bindArgs fdI ⟨[.ref e, v], []⟩ = pure [(("self" : Str), .ref e), ("what", v)]) :
    FnOk P w K mg base (L2.CX P w) 24 f fd ["program"] (spChecked K T cB cN) := by
  refine FN.okX scChecked (fun vs H Q E h => ?_) (fun cdv A outer s H vs Q E hr h => ?_)
  · obtain ⟨v, d, rfl, _⟩ := h
    rfl
  · obtain ⟨v, d, rfl, r, tb, k1, k2⟩ := h
    refine ⟨_, pss_cons (ps_set (i := 1) scChecked.nd rfl (.inl rfl) (pe_callS G hr rfl mG kG bG (fun σ => passAt (takes_of rfl rfl rfl rfl) σ) (pa_cons (pv 0) pa_nil)))
      (pss_one (ps_if (pt_cmpR op_notN (pv 1) pe_non (nomark _)) (pss_one (ps_raise rfl (takes_of rfl rfl rfl rfl) (SI.pmk_sup (k := 22) TN hb hr rfl (pa_cons (pv 1) pa_nil)))) pss_nil)), ?_⟩
    refine ⟨_, rfl, v, d, rfl, r, tb, k1, fun hp => ?_⟩
    obtain ⟨ks, nm, res, ps, rr, o, q1, q2⟩ := k2 hp
    refine ⟨ks, nm, res, ps, rr, o, fun H' u x hu => ⟨_, rfl, rfl, _, rfl, ?_⟩⟩
    cases hz : checkTell ks ps res rr with
    | none =>
      rw [hz] at hu
      obtain rfl : u = .non := hu
      exact iteF (q1 hz H' x)
    | some z =>
      rw [hz] at hu
      obtain ⟨q, rfl, hq⟩ := hu
      exact iteT ⟨_, rfl, _, rfl, fun dx hdx => q2 z hz _ dx (x.trans (Ex.new hdx)) ⟨q, upd_same, sqT_new hdx _ _ hq⟩⟩
/-- registers, of what is not checked -/
def spRegs (K : PySem.W.Frag) (T : List Addr) (cB cN : Addr) : Sp := fun vs H Q E => ∃ (v : V) (d : PyData), vs = [v] ∧ Rp K H v d ∧ TbOk T H ∧ (isProgram d = false → ∀ H', Ex T H H' → E (.ref cB) none H') ∧
  (isProgram d = true → ∃ ks nm res ps r z, OneP d ks nm res ps r ∧ checkTell ks ps res r = some z ∧ ∀ H' dx, Ex T H H' → WhatAt K H' dx nm z → E (.ref cN) (some dx) H')
theorem scRegs : FnScope ["program", "tables", "_", "functions"] ["program"] (defScope sRegs) := ⟨rfl, rfl, rfl, by decide +kernel, rfl, by decide +kernel, by decide +kernel⟩
theorem ok_regs {f g cB cN : Addr} {fd gd : FuncData} (FN : Fun K "registers" "registers" sRegs f fd)
    (G : FnOk P w K mg base (L2.CX P w) 24 g gd ["program"] (spChecked K T cB cN)) (mG : mg "checked" = some (.ref g)) (kG : PySem.W.keepIn K (.ref g) = true) (bG : Binds K gd ["program"] []) :
    FnOk P w K mg base (L2.CX P w) 25 f fd ["program"] (spRegs K T cB cN) := by
  refine FN.okX scRegs (fun vs H Q E h => ?_) (fun cdv A outer s H vs Q E hr h => ?_)
  · obtain ⟨v, d, rfl, _⟩ := h
    rfl
  · obtain ⟨v, d, rfl, r, tb, k1, k2⟩ := h
    refine ⟨_, pss_cons (ps_expr (pe_callS G hr rfl mG kG bG (fun σ => passAt (takes_of rfl rfl rfl rfl) σ) (pa_cons (pv 0) pa_nil))) pss_never, ?_⟩
    refine ⟨_, rfl, v, d, rfl, r, tb, k1, fun hp => ?_⟩
    obtain ⟨ks, nm, res, ps, rr, z, o, hz, q⟩ := k2 hp
    refine ⟨ks, nm, res, ps, rr, o, fun e => ?_, fun z' e => ?_⟩
    · rw [hz] at e; cases e
    · rw [hz] at e
      cases e
      exact q
end
end JF
set_option Elab.async false
set_option linter.all false
set_option maxRecDepth 100000
set_option maxHeartbeats 4000000
/-! t[::-1] of a tuple; list.extend(tuple) -/
namespace TR
open PySem PySem.Spec PyProof.Rows L2
theorem adjust_rev (n : Nat) : Builtin.Slice.sliceAdjust none none (-1) (n : Int) = ((n : Int) - 1, -1) := by
  unfold Builtin.Slice.sliceAdjust
  simp
theorem places_rev (n : Nat) : Builtin.Slice.slicePlaces ((n : Int) - 1) (-1) (-1) = n := by
  unfold Builtin.Slice.slicePlaces
  simp
  split <;> omega
theorem pick_rev (xs : Array Value) : ((List.range xs.size).filterMap fun (k : Nat) => xs[(((xs.size : Nat) : Int) - 1 + (k : Int) * -1).toNat]?).toArray = xs.toList.reverse.toArray := by
  have h1 : ((List.range xs.size).filterMap fun (k : Nat) => xs[(((xs.size : Nat) : Int) - 1 + (k : Int) * -1).toNat]?) = ((List.range xs.size).map fun (k : Nat) => (((xs.size : Nat) : Int) - 1 + (k : Int) * -1).toNat).filterMap (xs[·]?) := by
    rw [List.filterMap_map]; rfl
  have h2 : ((List.range xs.size).map fun (k : Nat) => (((xs.size : Nat) : Int) - 1 + (k : Int) * -1).toNat) = (List.range xs.size).map fun k => xs.size - 1 - k := by
    refine List.map_congr_left fun k hk => ?_
    have := List.mem_range.mp hk
    omega
  rw [h1, h2, PySem.W.krv_range, List.filterMap_reverse, PySem.W.krv_all]
section
variable {prog : Program} {w : World} {A : Around} {E : Value → Shared → Prop} {s : Shared}
theorem applied_rev {sl : Addr} {t : Tok} {n : Nat} {Q : Int × Int × Nat → Shared → Prop} (hs : s.heap.IsSliceOf sl .none .none (.int (-1) t)) (h : Q ((n : Int) - 1, -1, n) s) :
    wpAny (model prog w) A (Builtin.Slice.sliceApplied (.ref sl) (pure (n : Int))) Q E s := by
  obtain ⟨os, hos, hcs, hds⟩ := id hs
  unfold Builtin.Slice.sliceApplied Builtin.Slice.sliceFields
  refine wpAny_bind (wpAny_bind (wpAny_field hos hds (x := .none) rfl (wpAny_bind (wpAny_field hos hds (x := .none) rfl (wpAny_bind (wpAny_field hos hds (x := .int (-1) t) rfl (wpAny_pure ?_)))))))
  refine wpAny_bind (HT.slicePart_ (.int (-1) t) ?_); show wpAny _ _ (if ((-1 : Int) == 0) = true then _ else _) _ _ s
  rw [if_neg (by decide)]
  refine wpAny_bind (HT.slicePart_ .none (wpAny_bind (HT.slicePart_ .none (wpAny_bind (wpAny_pure ?_)))))
  show wpAny _ _ (match Builtin.Slice.sliceAdjust none none (-1) (n : Int) with | (lo, hi) => pure (lo, (-1 : Int), Builtin.Slice.slicePlaces lo hi (-1))) _ _ s
  rw [adjust_rev]
  show wpAny _ _ (pure ((n : Int) - 1, (-1 : Int), Builtin.Slice.slicePlaces ((n : Int) - 1) (-1) (-1))) _ _ s
  rw [places_rev]; exact wpAny_pure h
theorem getItem_rev {t sl : Addr} {items : Array Value} {tk : Tok} {Q : Value → Shared → Prop} (ht : IsTup s.heap t items) (hs : s.heap.IsSliceOf sl .none .none (.int (-1) tk)) (h : Q (.ref s.heap.objs.size) { s with heap := s.heap.push { cls := .type "tuple", data := .seq items.toList.reverse.toArray } })
    (hsz : items.size ≤ sizeLine) : wpAny (model prog w) A (getItem (.ref t) (.ref sl)) Q E s := by
  have ok : sizeOk (.seq items.toList.reverse.toArray) := by
    show items.toList.reverse.toArray.size ≤ sizeLine
    rw [List.size_toArray, List.length_reverse, Array.length_toList]; exact hsz
  obtain ⟨os, hos, hcs, hds⟩ := id hs
  have isS : s.TypeIs (.ref sl) "slice" := ⟨os, hos, hcs⟩
  unfold getItem; try with_reducible refine wpAny_holding ?_
  first | refine wpAny_bind (wpAny_pure (wpAny_bind (wpAny_sequenceKey ht.typeIs (by decide) ?_))) | refine wpAny_bind (wpAny_sequenceKey ht.typeIs (by decide) ?_)
  refine wpAny_bind (wpAny_callSpecial?_slot (name := Str.ofString "__getitem__") ht.typeIs PyProof.Rows.slot_tuple_getitem (wpAny_call_entry PyProof.Rows.slot_tuple_getitem ht.typeIs entry_tuple_getitem (?_ : wpAny _ _ (Builtin.Tuple.tupleItemsOf (.ref t) >>= _) _ _ s) (args_tuple_getitem _ _)))
  refine wpAny_bind (PyProof.Rows.tupleItemsOf_ ht (wpAny_bind (wpAny_typeOf isS ?_))); rw [if_pos (by decide)]
  refine wpAny_bind (applied_rev hs ?_)
  have hno : ¬ ((((items.size : Nat) : Int) - 1 == 0 && (-1 : Int) == 1 && items.size == items.size) = true) := by
    rw [show ((-1 : Int) == 1) = false from rfl, Bool.and_false, Bool.false_and]; exact Bool.false_ne_true
  show wpAny _ _ (if (((items.size : Nat) : Int) - 1 == 0 && (-1 : Int) == 1 && items.size == items.size) = true then _ else _) _ _ s
  rw [if_neg hno, pick_rev]
  first
    | (exact wpAny_bind (m := Builtin.Tuple.tupleExact _) (wpAny_newObj_type (wpAny_pure ⟨_, rfl, wpAny_pure h⟩) ok))
    | (exact wpAny_bind (m := Builtin.Tuple.tupleExact _) (wpAny_newObj_type (wpAny_bind (wpAny_pure (wpAny_pure ⟨_, rfl, wpAny_pure h⟩))) ok))
    | (exact wpAny_bind (wpAny_bind (m := Builtin.Tuple.tupleExact _) (wpAny_newObj_type (wpAny_pure (wpAny_pure ⟨_, rfl, wpAny_pure h⟩)) ok)))
    | (exact wpAny_bind (wpAny_bind (m := Builtin.Tuple.tupleExact _) (wpAny_newObj_type (wpAny_pure ⟨_, rfl, wpAny_pure h⟩) ok)))
end
/-- t[::-1] -/
def tRevT (K : PySem.W.Frag) (te : TE) : TE := fun σ H Q => te σ H fun x H1 => ∃ a xs, x = .ref a ∧ SqT K H1 a xs ∧ ∀ p, H1 p = none → Q (.ref p) (upd H1 p (.tup xs.reverse))
theorem pe_revT {X : Cx} {e : Expr} {te : TE} {k : Nat} {p1 p2 p3 pos : Pos} (he : PE X e te) : PE X (.Subscript e (.Slice none none (some (.UnaryOp .USub (.Constant (.int 1) k p1) p2)) p3) pos) (tRevT X.K te) := by
  refine ⟨fun pins s σ H Q I h => Subscript_ (thn (he.run pins s σ H _ I h) fun v s1 ⟨x, H1, I1, r1, a, xs, ex, hx, q⟩ => ?_)⟩
  subst ex; cases r1
  have step : PO X (some (.UnaryOp .USub (.Constant (.int 1) k p1) p2)) (tPart (tUn (rU fun i => .int (-i)) (tC (.int 1)))) := po_some (pe_un un_neg pe_int)
  refine wpAny_Slice (thn (po_none.run pins s1 σ H1 (fun o H2 => o = none ∧ H2 = H1) I1 ⟨rfl, rfl⟩) fun vl s2 ⟨l, H2, I2, pl, el, e2⟩ => ?_); subst el e2
  refine thn (po_none.run pins s2 σ H2 (fun o H3 => o = none ∧ H3 = H2) I2 ⟨rfl, rfl⟩) fun vu s3 ⟨u, H3, I3, pu, eu, e3⟩ => ?_; subst eu e3
  refine thn (step.run pins s3 σ H3 (fun o H4 => o = some (-1) ∧ H4 = H3) I3 ⟨1, rfl, -1, rfl, rfl, rfl⟩) fun vs s4 ⟨o, H4, I4, ps, eo, e4⟩ => ?_; subst eo e4
  cases pl; cases pu
  cases ps with
  | int _ tk =>
  have I5 : L2.Inv X pins σ H4 { s4 with heap := s4.heap.push { cls := .type "slice", data := .fields #[.none, .none, .int (-1) tk] } } := I4.kept (t' := s4.toks) fun b ob q => Heap.get?_push_of_some _ q
  obtain ⟨its, r, ht, hz⟩ := I5.tuple hx
  have hlen := r.length
  show wpAny (model X.prog X.w) X.A (subscriptTail e (.Slice none none (some (.UnaryOp .USub (.Constant (.int 1) k p1) p2)) p3) (.ref a) (.ref s4.heap.objs.size)) (EP X pins σ Q) X.xe { s4 with heap := s4.heap.push { cls := .type "slice", data := .fields #[.none, .none, .int (-1) tk] } }
  refine tail_any (ops := [.ref a, .ref s4.heap.objs.size]) ht.typeIs (PyProof.Rows.slot_tuple_getitem.lookup) (getItem_rev ht (Heap.IsSliceOf.new _ .none .none (.int (-1) tk)) ?_ (by rw [List.size_toArray]; omega)) (by with_unfolding_all rfl)
  refine ⟨.ref _, _, I5.laid (t' := s4.toks) (o := .tup xs.reverse) (fun b ob q => Heap.get?_push_of_some _ q) (Nat.le_refl _) ⟨by rw [List.length_reverse]; exact hz, _, r.reverse, IsTup.new _ _⟩, rfl, q _ (I5.hok.fresh (Nat.le_refl _))⟩
section
open PySem.AutoSeq1
theorem ext_tup (l : Addr) (items : Array Value) (n : Nat) (b : Addr) (items2 : Array Value) (n2 : Nat) (dct : Option Addr) (sl : Array (Option Value)) (hs0 : ¬(!items.isEmpty && Builtin.List.listTooLong (items.size + items2.size)) = true) (hs1 : items.size ≤ sizeLine) (hs2 : items.size + items2.size ≤ sizeLine + 1) :
    Meets (Builtin.«list.extend» ⟨[.ref l, .ref b], []⟩) (fun _ R s => s.heap.get? l = some { cls := .type "list", dict := none, data := .seq items n, slots := #[] } ∧ s.heap.get? b = some { cls := .type "tuple", dict := dct, data := .seq items2 n2, slots := sl } ∧ R (.ok (.ret Value.none)) { s with heap := s.heap.update l (Obj.mapSeq fun x => x ++ items2), toks := s.toks }) :=
  .of_wp fun prog w A R s ⟨hl, hb, h⟩ => by
    obtain ⟨hp, g, d, tk, os⟩ := s
    have f2 := AutoSeq1.sub_tuple_tuple; have f3 := AutoSeq1.sub_list_list; have f4 := AutoSeq1.sub_tuple_list; have f5 := AutoSeq1.sub_list_tuple
    have hz' : (items ++ items2).size ≤ sizeLine + 1 := by rw [Array.size_append]; exact hs2
    wp_walk using (wpAny_updateSeq hl rfl (hz := hs1) (_hz' := hz')), wpAny_loadPart' hl, wpAny_loadPart' hb
    exact ⟨_, rfl, h⟩
end
/-- xs.extend(t), t a tuple -/
def rExtT (K : PySem.W.Frag) : V → List V → Hp → VK → Prop := fun x vs H Q => ∃ l b xs zs, x = .ref l ∧ vs = [.ref b] ∧ H l = some (.lst xs) ∧ H b = some (.tup zs) ∧ xs.length + zs.length ≤ sizeLine ∧ Q .non (upd H l (.lst (xs ++ zs)))
theorem mt_extT {X : Cx} : MtM X "list.extend" (rExtT X.K) := by
  intro pins s σ H x vs v us Q I rx rv h
  obtain ⟨l, b, xs, zs, rfl, rfl, hH, hB, hz, q⟩ := h
  cases rx
  obtain ⟨u, rfl, ru⟩ := rv.one
  cases ru
  obtain ⟨z, its, n, r, hl, e⟩ := I.lstM hH
  obtain ⟨z2, its2, r2, ⟨c0, dct, dt, sl⟩, e2, hc2, n2, hd2⟩ := (show ObjOk X.prog X.w H s.heap b (.tup zs) from I.hok b _ hB)
  replace hc2 : c0 = .type "tuple" := hc2
  replace hd2 : dt = .seq its2.toArray n2 := hd2
  subst hc2 hd2
  have l2 := r2.length
  have hsz : its.toArray.size + its2.toArray.size ≤ sizeLine := by rw [List.size_toArray, List.size_toArray]; omega
  have hlong : ¬ (!its.toArray.isEmpty && Builtin.List.listTooLong (its.toArray.size + its2.toArray.size)) = true := by rw [notLongL hsz, Bool.and_false]; exact Bool.false_ne_true
  refine call_meets PySem.F.slot_list_extend ⟨_, e, rfl⟩ PySem.F.entry_list_extend (PySem.F.args_list_extend_2 _ _) (ext_tup l its.toArray n b its2.toArray n2 dct sl hlong (by rw [List.size_toArray]; omega) (by omega)) ⟨e, e2, ?_⟩
  exact ⟨.non, _, I.lset (its' := its ++ its2) hH e (by simp) (r.append r2) (by rw [List.length_append]; omega), rfl, q⟩
end TR
set_option Elab.async false
set_option linter.all false
set_option maxRecDepth 100000
set_option maxHeartbeats 4000000
namespace JF
open PySem PySem.Spec PyProof.Rows L2 GxR GA
abbrev sFB : Stmt := topS 53
abbrev sSay : Stmt := topS 54
abbrev sTree : Stmt := topS 55
def entOf (es : List Ent) (z : Str) : Option Ent := es.find? fun e => decide (e.1 = z)
/-- the fields behind an entry that stands for the word -/
def behindOf (es : List Ent) (word : Str) (d : PyData) : Option (List Str) :=
  if word = "number" then (if isNumber d = true then some [] else none) else match d with
    | .str z => (match entOf es z with
      | some e => if e.2.1 = word then some e.2.2.2 else none
      | none => none)
    | _ => none
section
variable {P : Program} {w : World} {K : PySem.W.Frag} {mg : Str → Option Value} {base : Heap} {T : List Addr}
theorem ent_val {H : Hp} {z : Str} : ∀ {kvs : List (Key × V)} {es : List Ent}, Paired (EntAt K H) kvs es → (entOf es z = none ∧ valV kvs (.inr z) = none) ∨ ∃ e v, entOf es z = some e ∧ valV kvs (.inr z) = some v ∧ EntAt K H (.inr z, v) e
  | _, _, .nil => .inl ⟨rfl, rfl⟩
  | _, _, @Paired.cons _ _ _ a b as bs r t => by
    by_cases e : b.1 = z
    · refine .inr ⟨b, a.2, ?_, valV_pos (by rw [r.1, e]), ?_⟩
      · unfold entOf
        rw [List.find?_cons_of_pos]
        exact decide_eq_true e
      · obtain ⟨r1, r2⟩ := r
        exact ⟨by show Sum.inr z = _; rw [e], r2⟩
    · have h1 : valV (a :: as) (.inr z) = valV as (.inr z) := by
        unfold valV
        rw [List.find?_cons_of_neg]
        rw [r.1]
        simpa using e
      have h2 : entOf (b :: bs) z = entOf bs z := by
        unfold entOf
        rw [List.find?_cons_of_neg]
        simpa using e
      rw [h1, h2]
      exact ent_val t
/-- what tells the fields, or none -/
def OptAt (K : PySem.W.Frag) (H : Hp) (v : V) : Option (List Str) → Prop
  | none => v = .non
  | some fs => FieldsAt K H v fs
def spFB (K : PySem.W.Frag) (T : List Addr) : Sp := fun vs H Q _ => ∃ (m : Addr) (es : List Ent) (word : Str) (v : V) (d : PyData), vs = [.ref m, .str word, v] ∧ MkAt K H m es ∧ Rp K H v d ∧ TbOk T H ∧ ∀ H' u, Ex T H H' → OptAt K H' u (behindOf es word d) → Q u H'
theorem scFB : FnScope ["makers", "word", "entry", "kind", "_", "fields"] ["makers", "word", "entry"] (defScope sFB) := ⟨rfl, rfl, rfl, by decide +kernel, rfl, by decide +kernel, by decide +kernel⟩
theorem pg_three {X : Cx} {K : PySem.W.Frag} {i j l k : Nat} {x y z : Str} {p q r pos : Pos} (hK : X.K = K) (hc : X.calm = true) (hN : X.N.Nodup) (hi : X.N[i]? = some x) (hj : X.N[j]? = some y) (hl : X.N[l]? = some z)
    (hx : X.env.scope.names.lookup x = some .local) (hy : X.env.scope.names.lookup y = some .local) (hz : X.env.scope.names.lookup z = some .local) :
    PG X (.Tuple [.Name x p, .Name y q, .Name z r] k pos) (gTup K 3 (gCons (gName i) (gCons (gName j) (gCons (gName l) gNil)))) := by
  rw [← hK]
  exact pg_tup hc (pgs_cons (pg_name hN hi (.inl hx) (.inr hx)) (pgs_cons (pg_name hN hj (.inl hy) (.inr hy)) (pgs_cons (pg_name hN hl (.inl hz) (.inr hz)) pgs_nil)))
theorem ok_fb {f g : Addr} {fd gd : FuncData} (FN : Fun K "fields_behind" "fields_behind" sFB f fd) (B : BI mg) (G : FnOk P w K mg base CX0 2 g gd ["thing"] (spIs K T isNumber)) (mG : mg "is_number" = some (.ref g)) (kG : PySem.W.keepIn K (.ref g) = true) (bG : Binds K gd ["thing"] []) :
    FnOk P w K mg base CX0 3 f fd ["makers", "word", "entry"] (spFB K T) := by
  refine FN.ok scFB (fun vs H Q E h => ?_) (fun cdv A outer s H vs Q E hr h => ?_)
  · obtain ⟨m, es, word, v, d, rfl, _⟩ := h
    rfl
  · obtain ⟨m, es, word, v, d, rfl, hm, r, tb, k⟩ := h
    have hu := hu_of hr
    refine ⟨_, pss_cons (ps_if (pt_cmpR op_eq (pv 1) pe_str (nomark _)) (pss_one (ps_ret (pe_ifExp (pt_val (pe_call G hr rfl mG kG bG .nil pass0 (pa_cons (pv 2) pa_nil))) (pe_tup pa_nil) pe_non))) pss_nil)
      (pss_cons (ps_if (PW.pt (pw_or (pt_cmpR op_notTyB (pe_callTy call_type1 (by rfl) B.type (by decide +kernel) (pa_cons (pv 2) pa_nil)) (pe_bltn (v := .ty "str") (by rfl) B.str (by decide +kernel) rfl) (nomark _))
        (pw_or1 (pt_cmp (pc_dnotin hu (pv 2) (pv 0)) rfl)))) (pss_one (ps_ret pe_non)) pss_nil)
      (pss_cons (ps_asg (pe_dget hu (pv 0) (pv 2) (fun _ _ => rfl)) (pg_three (K := K) (i := 3) (j := 4) (l := 5) rfl rfl scFB.nd rfl rfl rfl rfl rfl rfl))
      (pss_one (ps_ret (pe_ifExp (pt_cmpR op_eq (pv 3) (pv 1) (nomark _)) (pv 5) pe_non))))), ?_⟩
    have no : behindOf es word d = none → Q .non H := fun e => k H .non Ex.refl (by rw [e]; rfl)
    refine ⟨_, rfl, rfl, _, rfl, ?_⟩
    by_cases hw : word = "number"
    · rw [show decide (V.str word = V.str "number") = true from decide_eq_true (by rw [hw])]
      refine iteT ⟨v, rfl, v, d, rfl, r, tb, fun H1 x1 => ⟨_, rfl, ?_⟩⟩
      cases hn : isNumber d with
      | true =>
        have e : behindOf es word d = some [] := by unfold behindOf; rw [if_pos hw, if_pos hn]
        exact iteT ⟨by show 0 ≤ sizeLine; exact Nat.zero_le _, fun p hp => k _ _ (x1.trans (Ex.new hp)) (by rw [e]; exact ⟨p, rfl, .inl (.inl upd_same)⟩)⟩
      | false =>
        have e : behindOf es word d = none := by
          unfold behindOf
          rw [if_pos hw, if_neg (by rw [hn]; exact Bool.false_ne_true)]
        exact iteF (k H1 .non x1 (by rw [e]; rfl))
    · rw [show decide (V.str word = V.str "number") = false from decide_eq_false (fun z => hw (V.str.inj z))]
      refine iteF ⟨v, rfl, v, tyN d, rfl, r.ty, _, _, rfl, rfl, _, rfl, ite2 (fun e => ?_) (fun e => ?_)⟩
      · refine iteT (no ?_)
        unfold behindOf
        rw [if_neg hw]
        cases d <;> first | rfl | exact absurd e (by simp [tyN])
      · cases r with
        | str z hz =>
          obtain ⟨kvs, hkv, pk⟩ := hm
          have hb : behindOf es word (.str z) = (match entOf es z with | some e => if e.2.1 = word then some e.2.2.2 else none | none => none) := by
            unfold behindOf
            rw [if_neg hw]
          refine ⟨_, rfl, _, rfl, m, _, rfl, DGet.k (k := .inr z) hkv, _, rfl, ?_⟩
          rcases ent_val (z := z) pk with ⟨h1, h2⟩ | ⟨e0, v0, h1, h2, h3⟩
          · rw [h2]
            refine iteT (no ?_)
            rw [hb, h1]
          · obtain ⟨_, t, vf, rfl, ht, hfl⟩ := h3
            rw [h2]
            refine iteF ⟨_, rfl, _, rfl, m, .ref t, rfl, h2 ▸ DGet.k (k := .inr z) hkv, t, _, rfl, ht, rfl, _, _, rfl, _, _, rfl, _, _, rfl, rfl, ?_⟩
            refine ⟨_, rfl, _, rfl, rfl, _, rfl, ?_⟩
            by_cases e2 : e0.2.1 = word
            · rw [show decide (V.str e0.2.1 = V.str word) = true from decide_eq_true (by rw [e2])]
              have e : behindOf es word (.str z) = some e0.2.2.2 := by rw [hb, h1]; exact if_pos e2
              exact iteT ⟨_, rfl, k H vf Ex.refl (by rw [e]; exact hfl)⟩
            · rw [show decide (V.str e0.2.1 = V.str word) = false from decide_eq_false (fun z => e2 (V.str.inj z))]
              exact iteF (no (by rw [hb, h1]; exact if_neg e2))
        | non => exact absurd (by simp [tyN]) e
        | bl b => exact absurd (by simp [tyN]) e
        | int x => exact absurd (by simp [tyN]) e
        | lst h q => exact absurd (by simp [tyN]) e
        | tup h q => exact absurd (by simp [tyN]) e
        | dic h => exact absurd (by simp [tyN]) e
end
end JF
set_option Elab.async false
set_option linter.all false
set_option maxRecDepth 100000
set_option maxHeartbeats 4000000
namespace JF
open PySem PySem.Spec PyProof.Rows L2 GxR GA
/-- the entries taken off, what is wanted first on top -/
def runS (es : List Ent) : List Str → List PyData → Bool
  | [], [] => true
  | _ :: _, [] => false
  | [], _ :: _ => false
  | w :: st, d :: ds => match behindOf es w d with
    | none => false
    | some fs => runS es (fs ++ st) ds
def isSay (es : List Ent) (kind : Str) : PyData → Bool
  | .tuple ds => decide (ds.length ≤ 400) && runS es [kind] ds
  | _ => false
theorem behind_few {es : List Ent} (h : ∀ e ∈ es, e.2.2.2.length ≤ 4) {w : Str} {d : PyData} {fs : List Str} (e : behindOf es w d = some fs) : fs.length ≤ 4 := by
  unfold behindOf at e
  split at e
  · split at e
    · cases e; simp
    · cases e
  · split at e
    · rename_i z
      cases hz : entOf es z with
      | none => rw [hz] at e; cases e
      | some x =>
        rw [hz] at e
        have e : (if x.2.1 = w then some x.2.2.2 else none) = some fs := e
        split at e
        · cases e
          exact h x (List.mem_of_find?_eq_some hz)
        · cases e
    · cases e
section
variable {P : Program} {w : World} {K : PySem.W.Frag} {mg : Str → Option Value} {base : Heap} {T : List Addr}
def spSay (K : PySem.W.Frag) (T : List Addr) : Sp := fun vs H Q _ => ∃ (m : Addr) (es : List Ent) (kind : Str) (v : V) (d : PyData), vs = [.ref m, .str kind, v] ∧ MkAt K H m es ∧ Rp K H v d ∧ (∀ e ∈ es, e.2.2.2.length ≤ 4) ∧ TbOk T H ∧ ∀ H', Ex T H H' → Q (.bl (isSay es kind d)) H'
theorem scSay : FnScope ["makers", "kind", "thing", "pending", "entry", "fields"] ["makers", "kind", "thing"] (defScope sSay) := ⟨rfl, rfl, rfl, by decide +kernel, rfl, by decide +kernel, by decide +kernel⟩
theorem ok_say {f g : Addr} {fd gd : FuncData} {tk : Tok} (FN : Fun K "are_sayings" "are_sayings" sSay f fd) (B : BI mg) (mM : mg "MOST_ENTRIES" = some (.int 400 tk)) (G : FnOk P w K mg base CX0 3 g gd ["makers", "word", "entry"] (spFB K T)) (mG : mg "fields_behind" = some (.ref g)) (kG : PySem.W.keepIn K (.ref g) = true) (bG : Binds K gd ["makers", "word", "entry"] []) :
    FnOk P w K mg base CX0 4 f fd ["makers", "kind", "thing"] (spSay K T) := by
  refine FN.ok scSay (fun vs H Q E h => ?_) (fun cdv A outer s H vs Q E hr h => ?_)
  · obtain ⟨m, es, kind, v, d, rfl, _⟩ := h
    rfl
  · obtain ⟨m, es, kind, v, d, rfl, hm, r, f4, tb, k⟩ := h
    refine ⟨_, pss_cons (ps_if (PW.pt (pw_or (pt_cmpR op_notTyB (pe_callTy call_type1 (by rfl) B.type (by decide +kernel) (pa_cons (pv 2) pa_nil)) (pe_bltn (v := .ty "tuple") (by rfl) B.tuple (by decide +kernel) rfl) (nomark _))
        (pw_or1 (pt_cmpR op_gt (pe_callB call_len_seq (by rfl) B.len PySem.boot_len (pa_cons (pv 2) pa_nil)) (pe_glob (v := .int 400) rfl mM ⟨_, rfl⟩) (nomark _))))) (pss_one (ps_ret pe_bl)) pss_nil)
      (pss_cons (ps_set (i := 3) scSay.nd rfl (.inl rfl) (pe_lst (pa_cons (pv 1) pa_nil)))
      (pss_cons (ps_for PassesOwn.never rfl (pi_tup (pv 2)) (pg_name (i := 4) scSay.nd rfl (.inl rfl))
        (pss_cons (ps_if (pt_not (pt_truth (pv 3) (fun _ => rfl))) (pss_one (ps_ret pe_bl)) pss_nil)
        (pss_cons (ps_set (i := 5) scSay.nd rfl (.inl rfl) (pe_call G hr rfl mG kG bG .nil pass0 (pa_cons (pv 0) (pa_cons (pe_bm0 PySem.F.plainAttrs_list PySem.F.slot_list_pop PySem.F.type_list_pop mt_pop (pv 3)) (pa_cons (pv 4) pa_nil)))))
        (pss_cons (ps_if (pt_cmpR op_isN (pv 5) pe_non (nomark _)) (pss_one (ps_ret pe_bl)) pss_nil)
        (pss_one (ps_expr (pe_bm PySem.F.plainAttrs_list PySem.F.slot_list_extend PySem.F.type_list_extend TR.mt_extT (pv 3) (pa_cons (TR.pe_revT (pv 5)) pa_nil))))))))
      (pss_one (ps_ret (pe_notT (pv 3)))))), ?_⟩
    have no : isSay es kind d = false → ∀ H', Ex T H H' → Q (.bl false) H' := fun e H' x => by
      have := k H' x
      rw [e] at this
      exact this
    refine ⟨v, rfl, v, tyN d, rfl, r.ty, _, _, rfl, rfl, _, rfl, ite2 (fun e => ?_) (fun e => ?_)⟩
    · refine iteT (no ?_ H Ex.refl)
      cases d <;> first | rfl | exact absurd e (by simp [tyN])
    · cases r with
      | @tup a xs ds hs rs =>
        have hl := rs.len
        refine ⟨_, rfl, a, xs, rfl, .inr hs, _, _, rfl, rfl, _, rfl, ?_⟩
        by_cases h4 : ds.length ≤ 400
        · rw [show decide ((400 : Int) < (xs.length : Int)) = false from decide_eq_false (by omega)]
          have hS : isSay es kind (.tuple ds) = runS es [kind] ds := by
            show (decide (ds.length ≤ 400) && runS es [kind] ds) = _
            rw [decide_eq_true h4, Bool.true_and]
          refine iteF ⟨_, rfl, by show 1 ≤ sizeLine; decide, fun p hp => ?_⟩
          have x1 : Ex T H (upd H p (.lst [.str kind])) := Ex.new hp
          refine ⟨_, rfl, a, rfl, ⟨xs, x1.sqT tb hs⟩, for_it (walk_tup (xs := xs)) (fun i σ H' => σ.length = 6 ∧ σ[0]? = some (some (.ref m)) ∧ σ[3]? = some (some (.ref p)) ∧ Ex T H H' ∧ ∃ st : List Str, H' p = some (.lst (st.reverse.map V.str)) ∧ st.length ≤ 1 + 4 * i ∧ runS es [kind] ds = runS es st (ds.drop i)) ⟨rfl, rfl, rfl, x1, [kind], upd_same, by simp, rfl⟩ (fun i σ H' _ q => q.2.2.2.1.sqT tb hs) (fun i w σ H' H2 hi q y => ?_) (fun σ H' q => ?_)⟩
          · obtain ⟨rfl, hw⟩ := y
            obtain ⟨q6, q0, q3, qx, st, qp, ql, qr⟩ := q
            obtain ⟨dd, hdd, rd⟩ := rs.get hw
            rw [drop_at hdd] at qr
            have s3 : (σ.set 4 (some w))[3]? = some (some (.ref p)) := by rw [List.getElem?_set_ne (by decide)]; exact q3
            have s0 : (σ.set 4 (some w))[0]? = some (some (.ref m)) := by rw [List.getElem?_set_ne (by decide)]; exact q0
            have s4 : (σ.set 4 (some w))[4]? = some (some w) := List.getElem?_set_self (by rw [q6]; decide)
            have s6 : (σ.set 4 (some w)).length = 6 := by rw [List.length_set, q6]
            show tSeq _ _ _ (σ.set 4 (some w)) H2
            generalize σ.set 4 (some w) = σ1 at s3 s0 s4 s6
            refine ⟨_, s3, !(st.reverse.map V.str).isEmpty, .inl ⟨_, .inl (.inl qp), rfl⟩, ?_⟩
            cases st with
            | nil => exact iteT (no (by rw [hS, qr]; rfl) _ qx)
            | cons wd st =>
              have ne : (!(((wd :: st).reverse.map V.str).isEmpty)) = true := by simp
              rw [ne]
              have e1 : (wd :: st).reverse.map V.str = st.reverse.map V.str ++ [V.str wd] := by simp
              rw [e1] at qp
              refine iteF ⟨_, s0, _, s3, .inl ⟨rfl, _, .inl (.inl qp)⟩, p, _, .str wd, rfl, rfl, qp, by simp, _, s4, ?_⟩
              rw [List.dropLast_concat]
              have x5 : Ex T H (upd H2 p (.lst (st.reverse.map V.str))) := qx.upd hp
              have qp5 : (upd H2 p (.lst (st.reverse.map V.str))) p = some (.lst (st.reverse.map V.str)) := upd_same
              generalize upd H2 p (.lst (st.reverse.map V.str)) = H5 at x5 qp5
              have tb5 := x5.tb tb
              refine ⟨m, es, wd, w, dd, rfl, hm.ex x5 tb, rd.ex x5 tb, tb5, fun H6 u x6 hu => ?_⟩
              have x56 := x5.trans x6
              have qp6 := x6.keep _ _ qp5 (tb5.seqN qp5 fun _ z => by cases z)
              have t5 : (σ1.set 5 (some u))[5]? = some (some u) := List.getElem?_set_self (by rw [s6]; decide)
              have t3 : (σ1.set 5 (some u))[3]? = some (some (.ref p)) := by rw [List.getElem?_set_ne (by decide)]; exact s3
              have t0 : (σ1.set 5 (some u))[0]? = some (some (.ref m)) := by rw [List.getElem?_set_ne (by decide)]; exact s0
              have t6 : (σ1.set 5 (some u)).length = 6 := by rw [List.length_set, s6]
              refine ⟨_, t5, rfl, _, rfl, ?_⟩
              cases hb : behindOf es wd dd with
              | none =>
                rw [hb] at hu
                obtain rfl : u = .non := hu
                refine iteT (no ?_ _ x56)
                rw [hS, qr]
                show (match behindOf es wd dd with | none => false | some fs => runS es (fs ++ st) (ds.drop (i + 1))) = false
                rw [hb]
              | some fs =>
                rw [hb] at hu
                obtain ⟨q, rfl, hq⟩ := hu
                have hfs := behind_few f4 hb
                have hi' : i < ds.length := by rw [← hl]; exact hi
                refine iteF ⟨_, t3, .inl ⟨rfl, _, .inl (.inl qp6)⟩, _, t5, q, _, rfl, hq, fun pr hpr => ⟨p, pr, _, _, rfl, rfl, by rw [upd_ne (ne_of_none qp6 hpr)]; exact qp6, upd_same, ?_, t6, t0, t3, ?_, fs ++ st, ?_, ?_, ?_⟩⟩
                · rw [List.length_map, List.length_reverse, List.length_reverse, List.length_map, sizeLine_eq]
                  rw [List.length_cons] at ql
                  omega
                · exact (x56.trans (Ex.new hpr)).upd hp
                · rw [upd_same, List.reverse_append, List.map_append, List.map_reverse (l := fs)]
                · rw [List.length_append]
                  rw [List.length_cons] at ql
                  omega
                · rw [qr]
                  show (match behindOf es wd dd with | none => false | some fs => runS es (fs ++ st) (ds.drop (i + 1))) = _
                  rw [hb]
          · obtain ⟨q6, q0, q3, qx, st, qp, ql, qr⟩ := q
            rw [hl, List.drop_length] at qr
            refine ⟨_, q3, !(st.reverse.map V.str).isEmpty, .inl ⟨_, .inl (.inl qp), rfl⟩, ?_⟩
            have := k H' qx
            rw [hS, qr] at this
            cases st with
            | nil => exact this
            | cons w st =>
              have ne : (!(((w :: st).reverse.map V.str).isEmpty)) = true := by simp
              rw [ne]
              exact this
        · rw [show decide ((400 : Int) < (xs.length : Int)) = true from decide_eq_true (by omega)]
          refine iteT (no ?_ H Ex.refl)
          show (decide (ds.length ≤ 400) && runS es [kind] ds) = false
          rw [decide_eq_false h4, Bool.false_and]
      | non => exact absurd (by simp [tyN]) e
      | bl b => exact absurd (by simp [tyN]) e
      | int x => exact absurd (by simp [tyN]) e
      | str x h => exact absurd (by simp [tyN]) e
      | lst h q => exact absurd (by simp [tyN]) e
      | dic h => exact absurd (by simp [tyN]) e
end
end JF
set_option Elab.async false
set_option linter.all false
set_option maxRecDepth 100000
set_option maxHeartbeats 4000000
namespace JF
open PySem PySem.Spec PyProof.Rows L2 GxR GA
theorem met_le : ∀ (xs seen : List Str), (SL.met seen xs).length ≤ seen.length + xs.length
  | [], seen => Nat.le_refl _
  | x :: r, seen => by
    show (SL.met (SL.addTo seen x) r).length ≤ _
    have h := met_le r (SL.addTo seen x)
    have := SL.addTo_len seen x
    rw [List.length_cons]
    split at this <;> omega
theorem met_full : ∀ (xs seen : List Str), seen.Nodup → (SL.met seen xs).length = seen.length + xs.length → (seen ++ xs).Nodup
  | [], seen, h, _ => by rw [List.append_nil]; exact h
  | x :: r, seen, h, e => by
    have e : (SL.met (SL.addTo seen x) r).length = seen.length + (r.length + 1) := e
    have h1 := met_le r (SL.addTo seen x)
    have h2 := SL.addTo_len seen x
    cases q : seen.any (· == x) with
    | true =>
      rw [q, if_pos rfl] at h2
      omega
    | false =>
      have h3 : SL.addTo seen x = seen ++ [x] := by
        unfold SL.addTo
        rw [q]; rfl
      have nx : x ∉ seen := fun z => by
        rw [List.any_eq_true.mpr ⟨x, z, by simp⟩] at q
        cases q
      rw [h3] at e
      have := met_full r (seen ++ [x]) (List.nodup_append.mpr ⟨h, by simp, fun a ha b hb z => nx (by rw [List.mem_singleton.mp hb] at z; rw [← z]; exact ha)⟩) (by rw [e, List.length_append]; simp; omega)
      rw [List.append_assoc] at this
      exact this
theorem uniq_nodup {xs : List Str} (h : ¬ (SL.uniq xs).length < xs.length) : xs.Nodup := by
  have h1 := met_le xs []
  have h2 := met_full xs [] List.nodup_nil (by
    have h1 : (SL.met [] xs).length ≤ 0 + xs.length := h1
    have h : ¬ (SL.met [] xs).length < xs.length := h
    show _ = 0 + xs.length
    omega)
  exact h2
theorem kinds_nodup {d : PyData} (h : isKinds d = true) : (kNames (kindsOf d)).Nodup ∧ (kMakers (kindsOf d)).Nodup := by
  unfold isKinds goodK at h
  simp only [Bool.and_eq_true, Bool.not_eq_true', Bool.or_eq_false_iff, decide_eq_false_iff_not] at h
  exact ⟨uniq_nodup h.2.1.1, uniq_nodup h.2.1.2⟩
theorem ents_few {ks : List Kd} (f : Few ks) : ∀ e ∈ ents ks, e.2.2.2.length ≤ 4 := fun e he => by
  obtain ⟨k, hk, h⟩ := List.mem_flatMap.mp he
  obtain ⟨p, hp, rfl⟩ := List.mem_map.mp h
  obtain ⟨m, i⟩ := p
  have := List.mem_zipIdx hp
  exact f.fs k hk m (by rw [this.2.2]; exact List.getElem_mem _)
theorem isKinds_tup {d : PyData} (h : isKinds d = true) : isTup 1 6 isKind d = true := by
  unfold isKinds at h
  simp only [Bool.and_eq_true] at h
  exact h.1
section
variable {P : Program} {w : World} {K : PySem.W.Frag} {mg : Str → Option Value} {base : Heap} {T : List Addr}
def isKindName (ks : List Kd) : PyData → Option Str
  | .str z => if z ∈ kNames ks then some z else none
  | _ => none
def spTree (K : PySem.W.Frag) (T : List Addr) (c1 c2 : Addr) : Sp := fun vs H Q E => ∃ (v1 v2 v3 : V) (d1 d2 d3 : PyData), vs = [v1, v2, v3] ∧ Rp K H v1 d1 ∧ Rp K H v2 d2 ∧ Rp K H v3 d3 ∧ TbOk T H ∧ (isKinds d1 = false → ∀ H', Ex T H H' → E (.ref c1) none H') ∧
  (isKinds d1 = true → isKindName (kindsOf d1) d2 = none → ∀ H', Ex T H H' → E (.ref c2) none H') ∧ ∀ z, isKinds d1 = true → isKindName (kindsOf d1) d2 = some z → ∀ H', Ex T H H' → Q (.bl (isSay (ents (kindsOf d1)) z d3)) H'
theorem scTree : FnScope ["kinds", "kind", "thing", "name", "_"] ["kinds", "kind", "thing"] (defScope sTree) := ⟨rfl, rfl, rfl, by decide +kernel, rfl, by decide +kernel, by decide +kernel⟩
theorem op_notInK {X : Cx} {K : PySem.W.Frag} (h : X.K = K) : OpR X (compareOp .NotIn) (rIn K true) := by
  rw [← h]
  exact op_notIn_seq
theorem inV_strs {z : Str} {xs : List Str} : inV (.str z) (xs.map V.str) = decide (z ∈ xs) := by
  unfold inV
  rw [List.any_map]
  by_cases h : z ∈ xs
  · rw [decide_eq_true h]
    refine List.any_eq_true.mpr ⟨z, h, ?_⟩
    show eqV (.str z) (.str z) = true
    unfold eqV; simp
  · rw [decide_eq_false h]
    refine List.any_eq_false.mpr fun y hy q => h ?_
    have q : eqV (.str y) (.str z) = true := q
    unfold eqV at q
    simp at q
    exact q ▸ hy
theorem ok_tree {f g1 g2 g3 c1 c2 : Addr} {fd gd1 gd2 gd3 : FuncData} (FN : Fun K "is_tree" "is_tree" sTree f fd) (B : BI mg) (E1 : ErrC K mg "BadKinds" c1) (E2 : ErrC K mg "BadKind" c2)
    (G1 : FnOk P w K mg base CX0 19 g1 gd1 ["thing"] (spIs K T isKinds)) (m1 : mg "is_kinds" = some (.ref g1)) (k1 : PySem.W.keepIn K (.ref g1) = true) (b1 : Binds K gd1 ["thing"] [])
    (G2 : FnOk P w K mg base CX0 19 g2 gd2 ["kinds"] (spMbn K T)) (m2 : mg "makers_by_name" = some (.ref g2)) (k2 : PySem.W.keepIn K (.ref g2) = true) (b2 : Binds K gd2 ["kinds"] [])
    (G3 : FnOk P w K mg base CX0 19 g3 gd3 ["makers", "kind", "thing"] (spSay K T)) (m3 : mg "are_sayings" = some (.ref g3)) (k3 : PySem.W.keepIn K (.ref g3) = true) (b3 : Binds K gd3 ["makers", "kind", "thing"] []) :
    FnOk P w K mg base (L2.CX P w) 20 f fd ["kinds", "kind", "thing"] (spTree K T c1 c2) := by
  refine FN.okX scTree (fun vs H Q E h => ?_) (fun cdv A outer s H vs Q E hr h => ?_)
  · obtain ⟨v1, v2, v3, d1, d2, d3, rfl, _⟩ := h
    rfl
  · obtain ⟨v1, v2, v3, d1, d2, d3, rfl, r1, r2, r3, tb, q1, q2, q3⟩ := h
    refine ⟨_, pss_cons (ps_if (pt_not (pt_val (pe_call G1 hr rfl m1 k1 b1 .nil pass0 (pa_cons (pv 0) pa_nil)))) (pss_one (ps_raise rfl (takes_of rfl rfl rfl rfl) (pmk_own F.excBase_ValueError E1.ex E1.gC E1.kC (raises_own E1.exC E1.tyC) rfl))) pss_nil)
      (pss_cons (ps_if (PW.pt (pw_or (pt_cmpR op_notTyB (pe_callTy call_type1 (by rfl) B.type (by decide +kernel) (pa_cons (pv 1) pa_nil)) (pe_bltn (v := .ty "str") (by rfl) B.str (by decide +kernel) rfl) (nomark _))
        (pw_or1 (pt_cmpR (op_notInK (K := K) rfl) (pv 1) (pe_lc (own := [("name", 3), ("_", 4)]) (by rfl) scTree.nd (pi_tup (pv 0)) (blkOk_by (N := ["kinds", "kind", "thing", "name", "_"]) (sc := defScope sTree) (by decide +kernel))
          (fun _ _ _ _ _ => pg_two (K := K) (i := 3) (j := 4) rfl rfl scTree.nd rfl rfl rfl rfl) (fun _ _ _ _ _ => pts_nil) (fun _ _ _ _ _ => pv 3)) rfl)))) (pss_one (ps_raise rfl (takes_of rfl rfl rfl rfl) (pmk_own F.excBase_ValueError E2.ex E2.gC E2.kC (raises_own E2.exC E2.tyC) rfl))) pss_nil)
      (pss_one (ps_ret (pe_call G3 hr rfl m3 k3 b3 .nil pass0 (pa_cons (pe_call G2 hr rfl m2 k2 b2 .nil pass0 (pa_cons (pv 0) pa_nil)) (pa_cons (pv 1) (pa_cons (pv 2) pa_nil))))))), ?_⟩
    refine ⟨_, rfl, v1, d1, rfl, r1, tb, fun H1 x1 => ⟨_, rfl, ?_⟩⟩
    show if (!isKinds d1) = true then _ else _
    cases e1 : isKinds d1 with
    | false => exact iteT (q1 e1 H1 x1)
    | true =>
      refine iteF ?_
      have q2 := q2 e1
      have q3 := fun z => q3 z e1
      have tb1 := x1.tb tb
      have r2' := r2.ex x1 tb
      refine ⟨v2, rfl, v2, tyN d2, rfl, r2'.ty, _, _, rfl, rfl, _, rfl, ite2 (fun e => ?_) (fun e => ?_)⟩
      · refine iteT (q2 ?_ H1 x1)
        cases d2 <;> first | rfl | exact absurd e (by simp [tyN])
      · cases d2 with
        | str z =>
          cases r2'
          have few := few_of (isKinds_tup e1)
          have nd := kinds_nodup e1
          obtain ⟨a, xs, rfl, hs, pr⟩ := kindsAt (r1.ex x1 tb) (isKinds_tup e1)
          generalize kindsOf d1 = ks at few nd pr q2 q3
          have ln : xs.length = ks.length := paired_len pr
          refine ⟨_, rfl, _, rfl, a, rfl, ⟨xs, hs⟩, fun D hD => lcB_it walk_tup (fun i H' => ∃ acc : List Str, H' = upd H1 D (.lst (acc.map V.str)) ∧ acc ++ kNames (ks.drop i) = kNames ks) ⟨[], rfl, rfl⟩ (fun i H' _ ⟨acc, e, _⟩ => e ▸ sqT_new hD _ _ hs) (fun i x H' H2 hi ⟨acc, e, ea⟩ y => ?_) (fun H' ⟨acc, e, ea⟩ => ?_)⟩
          · obtain ⟨rfl, hx⟩ := y
            obtain ⟨kd, hk, b, vm, rfl, hb, _⟩ := paired_get pr hx
            subst e
            have bd : acc.length ≤ 6 := by
              have := len_of_app ea
              unfold kNames at this
              rw [List.length_map] at this
              exact Nat.le_trans this few.kn
            rw [drop_at hk] at ea
            exact g_two (sqT_new hD _ _ hb) (by decide) (by decide) (by decide) (by show 3 < 5; decide) (by show 4 < 5; decide) fun σ2 _ _ g4 _ => yesT ⟨_, g4, acc.map V.str, upd_same, by rw [List.length_map]; exact small1000 (by omega), acc ++ [kd.1], by rw [upd_upd, List.map_append]; rfl, by rw [← ea]; simp [kNames]⟩
          · rw [ln, List.drop_length] at ea
            have ea : acc = kNames ks := by rw [← ea]; simp [kNames]
            subst ea
            subst e
            have x2 : Ex T H1 (upd H1 D (.lst ((kNames ks).map V.str))) := Ex.new hD
            have hsD : SqL K (upd H1 D (.lst ((kNames ks).map V.str))) D ((kNames ks).map V.str) := .inl (.inl upd_same)
            have pr2 : KindsAt K (upd H1 D (.lst ((kNames ks).map V.str))) (.ref a) ks := ⟨a, xs, rfl, sqT_new hD _ _ hs, paired_imp (fun _ _ z => z.to (sqT_new hD)) pr⟩
            have r3' := r3.ex (x1.trans x2) tb
            generalize upd H1 D (.lst ((kNames ks).map V.str)) = H2 at x2 hsD pr2 r3'
            have x12 := x1.trans x2
            refine ⟨D, _, rfl, .inl hsD, rfl, List.all_eq_true.mpr fun y hy => ?_, _, rfl, ?_⟩
            · obtain ⟨s, _, rfl⟩ := List.mem_map.mp hy
              rfl
            · show if (!inV (.str z) ((kNames ks).map V.str)) = true then _ else _
              rw [inV_strs]
              by_cases hz : z ∈ kNames ks
              · rw [decide_eq_true hz]
                refine iteF ?_
                have q3 := q3 z (by show (if z ∈ kNames ks then some z else none) = some z; rw [if_pos hz])
                refine ⟨_, rfl, .ref a, ks, rfl, pr2, nd.2, Nat.le_trans few.makers (by decide), x12.tb tb, fun p H3 hp x3 hm => ⟨_, rfl, _, rfl, p, ents ks, z, v3, d3, rfl, hm, r3'.ex x3 (x12.tb tb), ents_few few, (x12.trans x3).tb tb, fun H4 x4 => q3 H4 ((x12.trans x3).trans x4)⟩⟩
              · rw [decide_eq_false hz]
                exact iteT (q2 (by show (if z ∈ kNames ks then some z else none) = none; rw [if_neg hz]) _ x12)
        | _ => exact (by simp [tyN] at e)
end
end JF
set_option Elab.async false
set_option linter.all false
set_option maxRecDepth 100000
set_option maxHeartbeats 4000000
/-! isinstance of the handled error, asked by a def that the suite calls; a def's promise for one handled error. -/
namespace HP
open PySem PySem.Spec PyProof.Rows L2 L2H
/-- what a class of errors must say -/
structure EC (K : PySem.W.Frag) (D : Addr) : Prop where
  cl : (PySem.W.clsIn K D).isSome = true
  ga : PySem.W.findIn K (.ref D) "__getattribute__" = some (some (.builtin "BaseException.__getattribute__"))
  gt : PySem.W.findIn K (.ref D) "__getattr__" = some none
  sb : PySem.W.subIn K (.ref D) (.type "BaseException") = some true
  at' : PySem.W.findIn K (.ref D) "__class__" = some (some (.builtin "object.__class__"))
  sn : PySem.W.specialIn K (.builtin "object.__class__") "__get__" = some (some (.builtin "getset_descriptor.__get__"))
  tk : PySem.W.takesIn K (.builtin "object.__class__") = some true
  ob : PySem.W.mroIn K D (.type "object") = some true
/-- isinstance(e, c) of the error p of the class D, its dict d -/
def rIsP (K : PySem.W.Frag) (D : Addr) (d : Option Addr) (p : Addr) : List V → Hp → VK → Prop := fun xs H Q =>
  ∃ (c : V) (cv : Value) (b : Bool), xs = [.ref p, c] ∧ (∀ u, RelV c u → u = cv) ∧ PySem.W.kitOne K (.ref D) cv = some b ∧ (∀ dd, d = some dd → ∃ fs, H dd = some (.xd fs)) ∧ Q (.bl b) H
theorem dict_there {X : Cx} {pins : List (Addr × Obj)} {σ : L2.St} {H : Hp} {s : Shared} {a : Addr} {fs : List (Str × V)} (I : Inv X pins σ H s) (h : H a = some (.xd fs)) : ∃ o, s.heap.get? a = some o := by
  obtain ⟨_, ⟨_, _, _, e, _⟩, _⟩ := I.hok a _ h
  exact ⟨_, e⟩
theorem call_isP {X : Cx} {p : Addr × Obj} {D : Addr} {d : Option Addr} (hp : p ∈ X.pn) (C : EC X.K D) (hz : Zc (.ref D) d p.2) (hf : ∃ vs, p.2.data = .fields vs) : CallR X (.builtin "isinstance") (rIsP X.K D d p.1) := by
  intro pins s σ H xs us Q I r h
  obtain ⟨c, cv, b, rfl, hcv, e, hd, q⟩ := h
  cases r with
  | cons rx rr =>
    cases rr with
    | cons rt rr =>
      cases rr
      cases rx
      have ec := hcv _ rt
      subst ec
      have hget := (I.pin p (List.mem_append_left _ hp)).1
      obtain ⟨vs, hv⟩ := hf
      have J : ∃ od, PySem.W.InstAt s.heap p.1 p.2 D od := by
        obtain ⟨a, ⟨oc, od, oda, osl⟩⟩ := p
        obtain ⟨h1, h2⟩ := hz
        dsimp only at h1 h2 hv
        subst h1 h2 hv
        cases od with
        | none => exact ⟨none, hget, rfl, rfl, trivial⟩
        | some dd =>
          obtain ⟨fs, hfs⟩ := hd dd rfl
          obtain ⟨o, ho⟩ := dict_there I hfs
          exact ⟨some o, hget, rfl, rfl, ho⟩
      obtain ⟨od, J⟩ := J
      exact PySem.W.kia_one (PySem.W.kitx_exc C.cl C.ga C.gt C.sb C.at' C.sn C.tk C.ob) I.kIn J e (fun z => nomatch z) fun tk => ⟨.bl b, H, I.kept (t' := tk) fun _ _ z => z, rfl, q⟩
/-! ### a def's promise, called while p is handled -/
structure FnP (P : Program) (w : World) (K : PySem.W.Frag) (mg : Str → Option Value) (base : Heap) (CX : CXT) (k : Nat) (f : Addr) (fd : FuncData) (ps : List Str) (p : Addr × Obj) (sp : Sp) : Prop where
  len : ∀ vs H Q E, sp vs H Q E → vs.length = ps.length
  run : ∀ (A : Around) (outer : List Env) (s : Shared) (H : Hp) (args : Args) (us : List Value) (vs : List V) (Q : VK) (E : XK), RoomH k A ∧ Hot1 A p ∧ PinOk outer H s p → Env0 P w K mg base A outer s H → BindsTo s fd args (ps.zip us) → Vals vs us → sp vs H Q E →
    codeAny (model P w) A (.call (.ref f) args) (CR CX outer P w H s Q E) s
theorem fn_ofP {CX : CXT} {P : Program} {w : World} {K : PySem.W.Frag} {mg : Str → Option Value} {base : Heap} {k : Nat} {f : Addr} {x qual : Str} {st : Stmt} {fd : FuncData} {p : Addr × Obj} {N ps : List Str} {sp : Sp} (FN : Fun K x qual st f fd) (S : FnScope N ps (defScope st))
    (len : ∀ vs H Q E, sp vs H Q E → vs.length = ps.length)
    (hb : ∀ (cdv : Value) (A : Around) (outer : List Env) (s : Shared) (H : Hp) (vs : List V) (Q : VK) (E : XK), Hot1 A p → RoomH k (A.deeper (envOfC qual (defScope st) s.heap.objs.size f cdv)) → sp vs H Q E →
      ∃ t, PSs (cxH CX P w K mg base N qual (defScope st) f cdv A outer s H E p) (defBody st) t ∧ t { nx := fun _ H' => Q .non H', rt := Q } (L2.start N vs) H) : FnP P w K mg base CX (k + 1) f fd ps p sp := by
  obtain ⟨oc, od, kV, doc, pm, an, cdv, ct, osl, rfl, lk, hcd⟩ := FN.ex
  refine ⟨len, ?_⟩
  rintro A outer s H args us vs Q E ⟨room, hot, pin⟩ e0 bd r q
  have kp := fun b o e => (e0.bs b o e).1
  have KX : K.In s.heap := e0.mod.kin.keeps kp
  obtain ⟨t, ht, hq⟩ := hb cdv A outer s H vs Q E hot (room.deeper _) q
  have kinds : ∀ y ∈ ps.zip us, (defScope st).names.lookup y.1 = some .local ∨ ((defScope st).names.lookup y.1 = some .cell ∧ ((cellsFrom (s.heap.objs.size + 1) (defScope st).names []).lookup y.1).isSome = true) := by
    rintro ⟨n, v⟩ hy
    exact (S.par n (List.of_mem_zip hy).1).imp id fun z => ⟨z, PySem.W.cellsFrom_some _ _ _ (.inl z)⟩
  refine codeAny_call_function room.depth (KX _ _ lk) rfl S.co S.gen rfl (PySem.W.codeRec_of KX hcd) (bd _ _ _ _ (wpAny_newFunctionEnv_cells S.kind kinds ?_))
  rintro env rfl s1 x
  refine ⟨(e0.mod.nolimit.keeps kp).keeps x.toInCall.keep, codeAny_func (wpAny_mono (ht.run [] s1 _ H _ (inv_startH S pin e0 (len _ _ _ _ q) r x) hq) ?_ fun _ _ z => z)⟩
  rintro (_ | _ | _ | u) s2 z
  · obtain ⟨σ', H', J, q'⟩ := z
    exact ⟨.non, H', J.os, J.bare, J.base, J.hok, rfl, q'⟩
  · obtain ⟨_, _, _, n⟩ := z
    exact n.elim
  · obtain ⟨_, _, _, n⟩ := z
    exact n.elim
  · obtain ⟨v, σ', H', J, rv, q'⟩ := z
    exact ⟨v, H', J.os, J.bare, J.base, J.hok, rv, q'⟩
section
variable {X : Cx} {CX : CXT} {k : Nat} {f : Addr} {fd : FuncData} {ps : List Str} {sp : Sp} {E : L2.St → XK} {x : Str} {q pos : Pos} {e : Expr} {es : List Expr} {t : TA} {p : Addr × Obj}
theorem pe_callP (F : FnP X.prog X.w X.K X.mg X.base CX k f fd ps p sp) (hr : RoomH k X.A) (hot : Hot1 X.A p) (hp : p ∈ X.pn) (hg : Gl X x) (hm : X.mg x = some (.ref f)) (hk : PySem.W.keepIn X.K (.ref f) = true) (hb : Binds X.K fd ps []) (hx : ∀ σ, PassesAt CX X σ (E σ))
    (ha : PA X (e :: es) t) (hdb : (x == ("__debug__" : Str)) = false := by decide) (he : starEach (e :: es) X.env = (false, eval e X.env) :: starEach es X.env := by rfl) (hpl : (backTo pos (starEach es X.env)).any (·.1) = false := by rfl) :
    PE X (.Call (.Name x q) (e :: es) [] pos) (tCallS sp E t) := by
  constructor
  intro pins s σ H Q I h
  refine wpAny_Call_Name_kw (ld_glob I hg hm (PySem.W.callWith_K (h₀ := X.base) I.ok.mod.kin hk (thn (ha.run pos pins s σ H _ I h) ?_) he hpl) hdb)
  rintro us s1 ⟨vs, H1, J, r, z⟩
  have b := hb s1 us J.kIn (by rw [List.append_nil, ← r.length]; exact F.len _ _ _ _ z)
  rw [List.append_nil] at b
  obtain ⟨g1, g2, g3, g4, g5⟩ := J.pin p (List.mem_append_left _ hp)
  refine ⟨J.kIn, wpAny_call (codeAny_mono (F.run X.A X.stack s1 H1 ⟨us, []⟩ us vs Q (E σ) ⟨hr, hot, g1, g2, fun hm => (List.mem_cons.mp (J.stkSub p.1 hm)).elim g3 g4, g5⟩ J.env0 b r z) ?_)⟩
  rintro (err | fl) s2 y
  · exact hx σ pins H1 s1 err s2 J y
  · cases fl with
    | ret u => exact J.after y
    | _ => exact False.elim y
end
end HP
set_option Elab.async false
set_option linter.all false
set_option maxRecDepth 100000
set_option maxHeartbeats 4000000
namespace JF
open PySem PySem.Spec PyProof.Rows L2 GxR GA
abbrev sClasses : Stmt := topS 92
/-- a name that holds a class, and whether it stands above D -/
structure Over (K : PySem.W.Frag) (mg : Str → Option Value) (D : Addr) (x : Str) (b : Bool) : Prop where
  ex : ∃ c, mg x = some (.ref c) ∧ PySem.W.kitOne K (.ref D) (.ref c) = some b
def DictIn (d : Option Addr) (H : Hp) : Prop := ∀ dd, d = some dd → ∃ fs, H dd = some (.xd fs)
theorem DictIn.up {d : Option Addr} {H : Hp} {p : Addr} {o : HO} (h : DictIn d H) (n : H p = none) : DictIn d (upd H p o) := fun dd e => by
  obtain ⟨fs, hfs⟩ := h dd e
  exact ⟨fs, by rw [upd_ne (ne_of_none hfs n)]; exact hfs⟩
theorem Ex.noneB {T : List Addr} {H H' : Hp} {a : Addr} (x : Ex T H H') (t : TbOk T H) (n : H' a = none) : H a = none := by
  cases e : H a with
  | none => rfl
  | some o =>
    by_cases m : a ∈ T
    · obtain ⟨ps, q, _⟩ := x.tb t a m
      rw [n] at q
      cases q
    · rw [x.keep a o e m] at n
      cases n
theorem upd_none' {H : Hp} {p a : Addr} {o : HO} (h : upd H p o a = none) : H a = none := by
  unfold upd at h
  split at h
  · cases h
  · exact h
def tIsP (p : Addr) (d : Option Addr) (b : Bool) : TE := fun σ H Q => σ[0]? = some (some (.ref p)) ∧ DictIn d H ∧ Q (.bl b) H
theorem pe_isP {X : Cx} {p : Addr × Obj} {D : Addr} {d : Option Addr} {b : Bool} {x : Str} {q q1 q2 pos : Pos} (hp : p ∈ X.pn) (C : HP.EC X.K D) (hz : Zc (.ref D) d p.2) (hf : ∃ vs, p.2.data = .fields vs) (O : Over X.K X.mg D x b)
    (hg : Gl X "isinstance") (hm : X.mg "isinstance" = none) (hN : X.N[0]? = some ("e" : Str)) (hl : X.env.scope.names.lookup ("e" : Str) = some .local) (gx : Gl X x) (hd : (x == ("__debug__" : Str)) = false := by decide) :
    PE X (.Call (.Name "isinstance" q) [.Name "e" q1, .Name x q2] [] pos) (tIsP p.1 d b) := by
  obtain ⟨c, mc, kc⟩ := O.ex
  refine ⟨fun pins s σ H Q I h => (pe_callB (HP.call_isP hp C hz hf) hg hm boot_isinstance (pa_cons (pv 0 hN (.inl hl) (by decide) (by decide)) (pa_cons (pe_glob (v := .ref c) gx mc rfl hd) pa_nil))).run pins s σ H Q I ?_⟩
  exact ⟨_, h.1, .ref c, .ref c, b, rfl, fun _ r => r, kc, h.2.1, h.2.2⟩
section
variable {P : Program} {w : World} {K : PySem.W.Frag} {mg : Str → Option Value} {base : Heap} {T : List Addr}
def spCls (T : List Addr) (p : Addr) (d : Option Addr) (bs : List Bool) : Sp := fun vs H Q _ => vs = [.ref p] ∧ DictIn d H ∧ TbOk T H ∧ ∀ l H', H l = none → Ex T H H' → H' l = some (.lst (bs.map V.bl)) → Q (.ref l) H'
theorem scClasses : FnScope ["e", "told"] ["e"] (defScope sClasses) := ⟨rfl, rfl, rfl, by decide +kernel, rfl, by decide +kernel, by decide +kernel⟩
theorem ok_classes {f D : Addr} {fd : FuncData} {p : Addr × Obj} {d : Option Addr} {b0 b1 b2 b3 b4 b5 b6 b7 b8 b9 b10 b11 b12 b13 b14 b15 b16 b17 : Bool} (FN : Fun K "_law_classes" "_law_classes" sClasses f fd) (mi : mg "isinstance" = none) (C : HP.EC K D) (hz : Zc (.ref D) d p.2) (hf : ∃ vs, p.2.data = .fields vs)
    (O0 : Over K mg D "BadKinds" b0) (O1 : Over K mg D "BadKind" b1) (O2 : Over K mg D "BadProgram" b2) (O3 : Over K mg D "NotChecked" b3) (O4 : Over K mg D "BadArgs" b4) (O5 : Over K mg D "BadName" b5) (O6 : Over K mg D "BadLimit" b6) (O7 : Over K mg D "BadPlacing" b7) (O8 : Over K mg D "BadWay" b8)
    (O9 : Over K mg D "BadRow" b9) (O10 : Over K mg D "BadRegister" b10) (O11 : Over K mg D "NotRight" b11) (O12 : Over K mg D "NotLet" b12) (O13 : Over K mg D "BadLog" b13) (O14 : Over K mg D "HasTokens" b14) (O15 : Over K mg D "TooGreat" b15) (O16 : Over K mg D "BadText" b16) (O17 : Over K mg D "Unlike" b17) :
    HP.FnP P w K mg base CX0 1 f fd ["e"] p (spCls T p.1 d [b0, b1, b2, b3, b4, b5, b6, b7, b8, b9, b10, b11, b12, b13, b14, b15, b16, b17]) := by
  refine HP.fn_ofP FN scClasses (fun vs H Q E h => by rw [h.1]; rfl) (fun cdv A outer s H vs Q E hot hr h => ?_)
  obtain ⟨rfl, hd, tb, k⟩ := h
  have is : ∀ {x : Str} {b : Bool} {q q1 q2 pos : Pos}, Over K mg D x b → Gl (L2H.cxH CX0 P w K mg base ["e", "told"] "_law_classes" (defScope sClasses) f cdv A outer s H E p) x → (x == ("__debug__" : Str)) = false →
      PE (L2H.cxH CX0 P w K mg base ["e", "told"] "_law_classes" (defScope sClasses) f cdv A outer s H E p) (.Call (.Name "isinstance" q) [.Name "e" q1, .Name x q2] [] pos) (tIsP p.1 d b) :=
    fun O gx dx => pe_isP (X := L2H.cxH CX0 P w K mg base ["e", "told"] "_law_classes" (defScope sClasses) f cdv A outer s H E p) List.mem_cons_self C hz hf O (by rfl) mi rfl rfl gx dx
  refine ⟨_, pss_cons (ps_set (i := 1) scClasses.nd rfl (.inl rfl) (pe_lst (pa_cons (is O0 (by rfl) (by decide)) (pa_cons (is O1 (by rfl) (by decide)) (pa_cons (is O2 (by rfl) (by decide)) (pa_cons (is O3 (by rfl) (by decide)) pa_nil))))))
    (pss_cons (ps_set (i := 1) scClasses.nd rfl (.inl rfl) (pe_op op_cat (pv 1) (pe_lst (pa_cons (is O4 (by rfl) (by decide)) (pa_cons (is O5 (by rfl) (by decide)) (pa_cons (is O6 (by rfl) (by decide)) (pa_cons (is O7 (by rfl) (by decide)) pa_nil)))))))
    (pss_cons (ps_set (i := 1) scClasses.nd rfl (.inl rfl) (pe_op op_cat (pv 1) (pe_lst (pa_cons (is O8 (by rfl) (by decide)) (pa_cons (is O9 (by rfl) (by decide)) (pa_cons (is O10 (by rfl) (by decide)) (pa_cons (is O11 (by rfl) (by decide)) pa_nil)))))))
    (pss_cons (ps_set (i := 1) scClasses.nd rfl (.inl rfl) (pe_op op_cat (pv 1) (pe_lst (pa_cons (is O12 (by rfl) (by decide)) (pa_cons (is O13 (by rfl) (by decide)) (pa_cons (is O14 (by rfl) (by decide)) (pa_cons (is O15 (by rfl) (by decide)) pa_nil)))))))
    (pss_one (ps_ret (pe_op op_cat (pv 1) (pe_lst (pa_cons (is O16 (by rfl) (by decide)) (pa_cons (is O17 (by rfl) (by decide)) pa_nil))))))))), ?_⟩
  refine ⟨rfl, hd, rfl, hd, rfl, hd, rfl, hd, by show 4 ≤ sizeLine; decide, fun a1 h1 => ?_⟩
  have x1 : Ex T H (upd H a1 (.lst ([b0, b1, b2, b3].map V.bl))) := Ex.new h1
  have d1 := hd.up (o := .lst ([b0, b1, b2, b3].map V.bl)) h1
  have e1 : (upd H a1 (.lst ([b0, b1, b2, b3].map V.bl))) a1 = some (.lst ([b0, b1, b2, b3].map V.bl)) := upd_same
  revert d1 e1 x1
  show _ → _ → _ → tSeq _ _ _ _ (upd H a1 (.lst ([b0, b1, b2, b3].map V.bl)))
  generalize upd H a1 (.lst ([b0, b1, b2, b3].map V.bl)) = H1
  intro x1 d1 e1
  refine ⟨_, rfl, rfl, d1, rfl, d1, rfl, d1, rfl, d1, by show 4 ≤ sizeLine; decide, fun q1 hq1 => ⟨a1, q1, [b0, b1, b2, b3].map V.bl, [b4, b5, b6, b7].map V.bl, rfl, rfl, by rw [upd_ne (ne_of_none e1 hq1)]; exact e1, upd_same, by show 4 + 4 ≤ sizeLine; decide, fun a2 h2 => ?_⟩⟩
  have x2 : Ex T H (upd (upd H1 q1 (.lst ([b4, b5, b6, b7].map V.bl))) a2 (.lst ([b0, b1, b2, b3, b4, b5, b6, b7].map V.bl))) := (x1.trans (Ex.new hq1)).trans (Ex.new h2)
  have d2 := (d1.up (o := .lst ([b4, b5, b6, b7].map V.bl)) hq1).up (o := .lst ([b0, b1, b2, b3, b4, b5, b6, b7].map V.bl)) h2
  have e2 : (upd (upd H1 q1 (.lst ([b4, b5, b6, b7].map V.bl))) a2 (.lst ([b0, b1, b2, b3, b4, b5, b6, b7].map V.bl))) a2 = some (.lst ([b0, b1, b2, b3, b4, b5, b6, b7].map V.bl)) := upd_same
  revert d2 e2 x2
  show _ → _ → _ → tSeq _ _ _ _ (upd (upd H1 q1 (.lst ([b4, b5, b6, b7].map V.bl))) a2 (.lst ([b0, b1, b2, b3, b4, b5, b6, b7].map V.bl)))
  generalize upd (upd H1 q1 (.lst ([b4, b5, b6, b7].map V.bl))) a2 (.lst ([b0, b1, b2, b3, b4, b5, b6, b7].map V.bl)) = H2
  intro x2 d2 e2
  refine ⟨_, rfl, rfl, d2, rfl, d2, rfl, d2, rfl, d2, by show 4 ≤ sizeLine; decide, fun q2 hq2 => ⟨a2, q2, [b0, b1, b2, b3, b4, b5, b6, b7].map V.bl, [b8, b9, b10, b11].map V.bl, rfl, rfl, by rw [upd_ne (ne_of_none e2 hq2)]; exact e2, upd_same, by show 8 + 4 ≤ sizeLine; decide, fun a3 h3 => ?_⟩⟩
  have x3 : Ex T H (upd (upd H2 q2 (.lst ([b8, b9, b10, b11].map V.bl))) a3 (.lst ([b0, b1, b2, b3, b4, b5, b6, b7, b8, b9, b10, b11].map V.bl))) := (x2.trans (Ex.new hq2)).trans (Ex.new h3)
  have d3 := (d2.up (o := .lst ([b8, b9, b10, b11].map V.bl)) hq2).up (o := .lst ([b0, b1, b2, b3, b4, b5, b6, b7, b8, b9, b10, b11].map V.bl)) h3
  have e3 : (upd (upd H2 q2 (.lst ([b8, b9, b10, b11].map V.bl))) a3 (.lst ([b0, b1, b2, b3, b4, b5, b6, b7, b8, b9, b10, b11].map V.bl))) a3 = some (.lst ([b0, b1, b2, b3, b4, b5, b6, b7, b8, b9, b10, b11].map V.bl)) := upd_same
  revert d3 e3 x3
  show _ → _ → _ → tSeq _ _ _ _ (upd (upd H2 q2 (.lst ([b8, b9, b10, b11].map V.bl))) a3 (.lst ([b0, b1, b2, b3, b4, b5, b6, b7, b8, b9, b10, b11].map V.bl)))
  generalize upd (upd H2 q2 (.lst ([b8, b9, b10, b11].map V.bl))) a3 (.lst ([b0, b1, b2, b3, b4, b5, b6, b7, b8, b9, b10, b11].map V.bl)) = H3
  intro x3 d3 e3
  refine ⟨_, rfl, rfl, d3, rfl, d3, rfl, d3, rfl, d3, by show 4 ≤ sizeLine; decide, fun q3 hq3 => ⟨a3, q3, [b0, b1, b2, b3, b4, b5, b6, b7, b8, b9, b10, b11].map V.bl, [b12, b13, b14, b15].map V.bl, rfl, rfl, by rw [upd_ne (ne_of_none e3 hq3)]; exact e3, upd_same, by show 12 + 4 ≤ sizeLine; decide, fun a4 h4 => ?_⟩⟩
  have x4 : Ex T H (upd (upd H3 q3 (.lst ([b12, b13, b14, b15].map V.bl))) a4 (.lst ([b0, b1, b2, b3, b4, b5, b6, b7, b8, b9, b10, b11, b12, b13, b14, b15].map V.bl))) := (x3.trans (Ex.new hq3)).trans (Ex.new h4)
  have d4 := (d3.up (o := .lst ([b12, b13, b14, b15].map V.bl)) hq3).up (o := .lst ([b0, b1, b2, b3, b4, b5, b6, b7, b8, b9, b10, b11, b12, b13, b14, b15].map V.bl)) h4
  have e4 : (upd (upd H3 q3 (.lst ([b12, b13, b14, b15].map V.bl))) a4 (.lst ([b0, b1, b2, b3, b4, b5, b6, b7, b8, b9, b10, b11, b12, b13, b14, b15].map V.bl))) a4 = some (.lst ([b0, b1, b2, b3, b4, b5, b6, b7, b8, b9, b10, b11, b12, b13, b14, b15].map V.bl)) := upd_same
  revert d4 e4 x4
  show _ → _ → _ → tRet (tOp rCat (tVar 1) (tLst (tCons (tIsP p.fst d b16) (tCons (tIsP p.fst d b17) tNil)))) { nx := fun x H' => Q V.non H', rt := Q } _ (upd (upd H3 q3 (.lst ([b12, b13, b14, b15].map V.bl))) a4 (.lst ([b0, b1, b2, b3, b4, b5, b6, b7, b8, b9, b10, b11, b12, b13, b14, b15].map V.bl)))
  generalize upd (upd H3 q3 (.lst ([b12, b13, b14, b15].map V.bl))) a4 (.lst ([b0, b1, b2, b3, b4, b5, b6, b7, b8, b9, b10, b11, b12, b13, b14, b15].map V.bl)) = H4
  intro x4 d4 e4
  refine ⟨_, rfl, rfl, d4, rfl, d4, by show 2 ≤ sizeLine; decide, fun q4 hq4 => ⟨a4, q4, [b0, b1, b2, b3, b4, b5, b6, b7, b8, b9, b10, b11, b12, b13, b14, b15].map V.bl, [b16, b17].map V.bl, rfl, rfl, by rw [upd_ne (ne_of_none e4 hq4)]; exact e4, upd_same, by show 16 + 2 ≤ sizeLine; decide, fun a5 h5 => ?_⟩⟩
  have x5 : Ex T H (upd (upd H4 q4 (.lst ([b16, b17].map V.bl))) a5 (.lst ([b0, b1, b2, b3, b4, b5, b6, b7, b8, b9, b10, b11, b12, b13, b14, b15, b16, b17].map V.bl))) := (x4.trans (Ex.new hq4)).trans (Ex.new h5)
  refine k a5 _ ?_ x5 upd_same
  exact x4.noneB tb (upd_none' h5)
end
end JF
set_option Elab.async false
set_option linter.all false
set_option maxRecDepth 100000
set_option maxHeartbeats 4000000
namespace JF
open PySem PySem.Spec PyProof.Rows L2 GxR GA
abbrev sRaised : Stmt := topS 90
abbrev sRaisedMore : Stmt := topS 91
/-- C(e) of an error class without own __init__, its context none -/
theorem pmk_one {X : Cx} {C : Addr} {x : Str} {e : Expr} {ta : TE} {p pos : Pos} (EC : ErrC X.K X.mg x C) (hg : Gl X x) (he : PE X e ta) (hs : starEach [e] X.env = (false, eval e X.env) :: starEach [] X.env := by rfl) (hdb : (x == ("__debug__" : Str)) = false := by decide) :
    L2N.PMk X (.Call (.Name x p) [e] [] pos) (fun σ H Q => ta σ H fun _ H1 => Q (.ref C) none H1) := by
  intro pins s σ H Q I h
  refine wpAny_Call_Name_kw (ld_glob I hg EC.gC (PySem.W.callWith_K (h₀ := X.base) I.ok.mod.kin EC.kC ?_ hs (by rfl)) hdb)
  rw [hs]
  refine Calls.spliced_cons (thn (he.run pins s σ H _ I h) fun u s1 ⟨v, H1, J, r1, q1⟩ => Calls.spliced_nil ⟨J.kIn, ?_⟩)
  show wpAny _ _ (call (.ref C) [u]) _ _ _
  obtain ⟨bm, N, nm, qn, bs, hdct, sn, sub, ab, col, dd, k0, k1, k2, k3, k5, mN, hC, hN, hni, T⟩ := exc_obj J.kIn EC.ex
  exact wpAny_call_exc_subT F.excBase_ValueError T hC hN hni (fun h' e hm => L2N.mk_of J hm (raises_own EC.exC EC.tyC) q1 (J.hok.gone hm.new)) (by show 1 ≤ sizeLine; rw [sizeLine_eq]; omega)
theorem way_ifS {n : Nat} {c : Int} {yes rest : TS} {D : Ends} {σ : L2.St} {H : Hp} (h0 : σ[0]? = some (some (.int (n : Nat)))) (y : (n : Int) = c → yes { D with nx := rest D } σ H) (z : (n : Int) ≠ c → rest D σ H) :
    tSeq (tIfS (tTest (tOp rEq (tVar 0) (tC (V.int c)))) yes tNext) rest D σ H := by
  refine ⟨_, h0, rfl, _, rfl, ?_⟩
  by_cases h : (n : Int) = c
  · rw [decide_eq_true (show V.int (n : Nat) = V.int c by rw [h])]
    exact iteT (y h)
  · rw [decide_eq_false (show ¬ V.int (n : Nat) = V.int c from fun q => h (V.int.inj q))]
    exact iteF (z h)
section
variable {P : Program} {w : World} {K : PySem.W.Frag} {mg : Str → Option Value} {base : Heap} {T : List Addr}
/-- way's class and, where it has one, its field -/
def spRaised (Cs : Nat → Addr) (Fs : Nat → Option Str) (lo : Nat) : Sp := fun vs H _ E => ∃ (n : Nat) (v : V), vs = [.int (n : Nat), v] ∧ lo ≤ n ∧ n < 18 ∧ (Fs n = none → E (.ref (Cs n)) none H) ∧ ∀ f, Fs n = some f → ∀ d, H d = none → E (.ref (Cs n)) (some d) (upd H d (.xd [(f, v)]))
theorem scRaised : FnScope ["way", "value"] ["way", "value"] (defScope sRaised) := ⟨rfl, rfl, rfl, by decide +kernel, rfl, by decide +kernel, by decide +kernel⟩
theorem scRaisedMore : FnScope ["way", "value"] ["way", "value"] (defScope sRaisedMore) := ⟨rfl, rfl, rfl, by decide +kernel, rfl, by decide +kernel, by decide +kernel⟩
/-- the classes' table -/
def fieldAt : Nat → Option Str
  | 3 => some "what" | 11 => some "way" | 12 => some "index" | 16 => some "place" | _ => none
theorem FunX {x qual : Str} {st : Stmt} {f : Addr} {fd : FuncData} {N ps : List Str} {k : Nat} {sp : Sp} (FN : Fun K x qual st f fd) (S : FnScope N ps (defScope st)) (len : ∀ vs H Q E, sp vs H Q E → vs.length = ps.length)
    (hbody : ∀ (cdv : Value) (A : Around) (outer : List Env) (s : Shared) (H : Hp) (vs : List V) (Q : VK) (E : XK), Room k (A.deeper (envOfC qual (defScope st) s.heap.objs.size f cdv)) → sp vs H Q E →
      ∃ t, PSs (cxOf (L2N.CX P w) P w K mg base N qual (defScope st) f cdv A outer s H E) (defBody st) t ∧ t { nx := fun _ H' => Q .non H', rt := Q } (start N vs) H) : FnOk P w K mg base (L2N.CX P w) (k + 1) f fd ps sp := by
  obtain ⟨oc, od, kV, doc, pm, an, cdv, ct, osl, rfl, lk, hcd⟩ := FN.ex
  exact fn_of lk hcd S len (hbody cdv)
theorem ok_raisedMore {f : Addr} {fd : FuncData} {Cs : Nat → Addr} (FN : Fun K "_law_raised_more" "_law_raised_more" sRaisedMore f fd) (E9 : ErrC K mg "BadRow" (Cs 9)) (E10 : ErrC K mg "BadRegister" (Cs 10)) {m11 : Str} {i11 : Addr} {d11 : FuncData} (E11 : SI.OwnTxt P K mg "NotRight" "way" m11 (Cs 11) i11 d11) (h11 : ∀ e v, bindArgs d11 ⟨[.ref e, v], []⟩ = pure [(("self" : Str), .ref e), ("way", v)]) {m12 : Str} {i12 : Addr} {d12 : FuncData} (E12 : SI.OwnTxt P K mg "NotLet" "index" m12 (Cs 12) i12 d12) (h12 : ∀ e v, bindArgs d12 ⟨[.ref e, v], []⟩ = pure [(("self" : Str), .ref e), ("index", v)]) (E13 : ErrC K mg "BadLog" (Cs 13)) (E14 : ErrC K mg "HasTokens" (Cs 14)) (E15 : ErrC K mg "TooGreat" (Cs 15)) {m16 : Str} {i16 : Addr} {d16 : FuncData} (E16 : SI.OwnTxt P K mg "BadText" "place" m16 (Cs 16) i16 d16) (h16 : ∀ e v, bindArgs d16 ⟨[.ref e, v], []⟩ = pure [(("self" : Str), .ref e), ("place", v)]) (E17 : ErrC K mg "Unlike" (Cs 17)) :
    FnOk P w K mg base (L2N.CX P w) 2 f fd ["way", "value"] (spRaised Cs fieldAt 9) := by
  refine FunX FN scRaisedMore (fun vs H Q E h => ?_) (fun cdv A outer s H vs Q E hr h => ?_)
  · obtain ⟨n, v, rfl, _⟩ := h
    rfl
  · obtain ⟨n, v, rfl, lo, hi, k0, k1⟩ := h
    refine ⟨_, (pss_cons (ps_if (pt_cmpR op_eq (pv 0) pe_int (nomark _)) (pss_one (L2N.ps_raise rfl (L2N.takes_of rfl rfl rfl rfl) (pmk_one E9 (by rfl) (pv 1)))) pss_nil)
      (pss_cons (ps_if (pt_cmpR op_eq (pv 0) pe_int (nomark _)) (pss_one (L2N.ps_raise rfl (L2N.takes_of rfl rfl rfl rfl) (pmk_one E10 (by rfl) (pv 1)))) pss_nil)
      (pss_cons (ps_if (pt_cmpR op_eq (pv 0) pe_int (nomark _)) (pss_one (L2N.ps_raise rfl (L2N.takes_of rfl rfl rfl rfl) (SI.pmk_supN E11 h11 hr (by rfl) (pa_cons (pv 1) pa_nil)))) pss_nil)
      (pss_cons (ps_if (pt_cmpR op_eq (pv 0) pe_int (nomark _)) (pss_one (L2N.ps_raise rfl (L2N.takes_of rfl rfl rfl rfl) (SI.pmk_supN E12 h12 hr (by rfl) (pa_cons (pv 1) pa_nil)))) pss_nil)
      (pss_cons (ps_if (pt_cmpR op_eq (pv 0) pe_int (nomark _)) (pss_one (L2N.ps_raise rfl (L2N.takes_of rfl rfl rfl rfl) (pmk_one E13 (by rfl) (pv 1)))) pss_nil)
      (pss_cons (ps_if (pt_cmpR op_eq (pv 0) pe_int (nomark _)) (pss_one (L2N.ps_raise rfl (L2N.takes_of rfl rfl rfl rfl) (pmk_one E14 (by rfl) (pv 1)))) pss_nil)
      (pss_cons (ps_if (pt_cmpR op_eq (pv 0) pe_int (nomark _)) (pss_one (L2N.ps_raise rfl (L2N.takes_of rfl rfl rfl rfl) (pmk_one E15 (by rfl) (pv 1)))) pss_nil)
      (pss_cons (ps_if (pt_cmpR op_eq (pv 0) pe_int (nomark _)) (pss_one (L2N.ps_raise rfl (L2N.takes_of rfl rfl rfl rfl) (SI.pmk_supN E16 h16 hr (by rfl) (pa_cons (pv 1) pa_nil)))) pss_nil)
      (pss_cons (ps_if (pt_cmpR op_eq (pv 0) pe_int (nomark _)) (pss_one (L2N.ps_raise rfl (L2N.takes_of rfl rfl rfl rfl) (pmk_one E17 (by rfl) (pv 1)))) pss_nil)
      pss_nil))))))))), ?_⟩
    have nf : ∀ {c : Nat}, n = c → fieldAt c = none → E (.ref (Cs c)) none H := fun e q => e ▸ k0 (e ▸ q)
    have wf : ∀ {c : Nat} {f : Str}, n = c → fieldAt c = some f → ∀ d, H d = none → E (.ref (Cs c)) (some d) (upd H d (.xd [(f, v)])) := fun e q => e ▸ k1 _ (e ▸ q)
    refine way_ifS (c := 9) rfl (fun e => ⟨_, rfl, nf (c := 9) (by omega) rfl⟩) fun n9 => ?_
    refine way_ifS (c := 10) rfl (fun e => ⟨_, rfl, nf (c := 10) (by omega) rfl⟩) fun n10 => ?_
    refine way_ifS (c := 11) rfl (fun e => ⟨_, rfl, v, rfl, wf (c := 11) (by omega) rfl⟩) fun n11 => ?_
    refine way_ifS (c := 12) rfl (fun e => ⟨_, rfl, v, rfl, wf (c := 12) (by omega) rfl⟩) fun n12 => ?_
    refine way_ifS (c := 13) rfl (fun e => ⟨_, rfl, nf (c := 13) (by omega) rfl⟩) fun n13 => ?_
    refine way_ifS (c := 14) rfl (fun e => ⟨_, rfl, nf (c := 14) (by omega) rfl⟩) fun n14 => ?_
    refine way_ifS (c := 15) rfl (fun e => ⟨_, rfl, nf (c := 15) (by omega) rfl⟩) fun n15 => ?_
    refine way_ifS (c := 16) rfl (fun e => ⟨_, rfl, v, rfl, wf (c := 16) (by omega) rfl⟩) fun n16 => ?_
    refine way_ifS (c := 17) rfl (fun e => ⟨_, rfl, nf (c := 17) (by omega) rfl⟩) fun n17 => ?_
    omega
theorem ok_raised {f g : Addr} {fd gd : FuncData} {Cs : Nat → Addr} (FN : Fun K "_law_raised" "_law_raised" sRaised f fd) (E0 : ErrC K mg "BadKinds" (Cs 0)) (E1 : ErrC K mg "BadKind" (Cs 1)) (E2 : ErrC K mg "BadProgram" (Cs 2)) {m3 : Str} {i3 : Addr} {d3 : FuncData} (E3 : SI.OwnTxt P K mg "NotChecked" "what" m3 (Cs 3) i3 d3) (h3 : ∀ e v, bindArgs d3 ⟨[.ref e, v], []⟩ = pure [(("self" : Str), .ref e), ("what", v)]) (E4 : ErrC K mg "BadArgs" (Cs 4)) (E5 : ErrC K mg "BadName" (Cs 5)) (E6 : ErrC K mg "BadLimit" (Cs 6)) (E7 : ErrC K mg "BadPlacing" (Cs 7)) (E8 : ErrC K mg "BadWay" (Cs 8))
    (G : FnOk P w K mg base (L2N.CX P w) 2 g gd ["way", "value"] (spRaised Cs fieldAt 9)) (mG : mg "_law_raised_more" = some (.ref g)) (kG : PySem.W.keepIn K (.ref g) = true) (bG : Binds K gd ["way", "value"] []) :
    FnOk P w K mg base (L2N.CX P w) 3 f fd ["way", "value"] (spRaised Cs fieldAt 0) := by
  refine FunX FN scRaised (fun vs H Q E h => ?_) (fun cdv A outer s H vs Q E hr h => ?_)
  · obtain ⟨n, v, rfl, _⟩ := h
    rfl
  · obtain ⟨n, v, rfl, lo, hi, k0, k1⟩ := h
    refine ⟨_, (pss_cons (ps_if (pt_cmpR op_eq (pv 0) pe_int (nomark _)) (pss_one (L2N.ps_raise rfl (L2N.takes_of rfl rfl rfl rfl) (pmk_one E0 (by rfl) (pv 1)))) pss_nil)
      (pss_cons (ps_if (pt_cmpR op_eq (pv 0) pe_int (nomark _)) (pss_one (L2N.ps_raise rfl (L2N.takes_of rfl rfl rfl rfl) (pmk_one E1 (by rfl) (pv 1)))) pss_nil)
      (pss_cons (ps_if (pt_cmpR op_eq (pv 0) pe_int (nomark _)) (pss_one (L2N.ps_raise rfl (L2N.takes_of rfl rfl rfl rfl) (pmk_one E2 (by rfl) (pv 1)))) pss_nil)
      (pss_cons (ps_if (pt_cmpR op_eq (pv 0) pe_int (nomark _)) (pss_one (L2N.ps_raise rfl (L2N.takes_of rfl rfl rfl rfl) (SI.pmk_supN E3 h3 hr (by rfl) (pa_cons (pv 1) pa_nil)))) pss_nil)
      (pss_cons (ps_if (pt_cmpR op_eq (pv 0) pe_int (nomark _)) (pss_one (L2N.ps_raise rfl (L2N.takes_of rfl rfl rfl rfl) (pmk_one E4 (by rfl) (pv 1)))) pss_nil)
      (pss_cons (ps_if (pt_cmpR op_eq (pv 0) pe_int (nomark _)) (pss_one (L2N.ps_raise rfl (L2N.takes_of rfl rfl rfl rfl) (pmk_one E5 (by rfl) (pv 1)))) pss_nil)
      (pss_cons (ps_if (pt_cmpR op_eq (pv 0) pe_int (nomark _)) (pss_one (L2N.ps_raise rfl (L2N.takes_of rfl rfl rfl rfl) (pmk_one E6 (by rfl) (pv 1)))) pss_nil)
      (pss_cons (ps_if (pt_cmpR op_eq (pv 0) pe_int (nomark _)) (pss_one (L2N.ps_raise rfl (L2N.takes_of rfl rfl rfl rfl) (pmk_one E7 (by rfl) (pv 1)))) pss_nil)
      (pss_cons (ps_if (pt_cmpR op_eq (pv 0) pe_int (nomark _)) (pss_one (L2N.ps_raise rfl (L2N.takes_of rfl rfl rfl rfl) (pmk_one E8 (by rfl) (pv 1)))) pss_nil)
      (pss_one (ps_expr (pe_callS G hr rfl mG kG bG (fun σ => L2N.passAt (L2N.takes_of rfl rfl rfl rfl) σ) (pa_cons (pv 0) (pa_cons (pv 1) pa_nil)))))))))))))), ?_⟩
    have nf : ∀ {c : Nat}, n = c → fieldAt c = none → E (.ref (Cs c)) none H := fun e q => e ▸ k0 (e ▸ q)
    have wf : ∀ {c : Nat} {f : Str}, n = c → fieldAt c = some f → ∀ d, H d = none → E (.ref (Cs c)) (some d) (upd H d (.xd [(f, v)])) := fun e q => e ▸ k1 _ (e ▸ q)
    refine way_ifS (c := 0) rfl (fun e => ⟨_, rfl, nf (c := 0) (by omega) rfl⟩) fun n0 => ?_
    refine way_ifS (c := 1) rfl (fun e => ⟨_, rfl, nf (c := 1) (by omega) rfl⟩) fun n1 => ?_
    refine way_ifS (c := 2) rfl (fun e => ⟨_, rfl, nf (c := 2) (by omega) rfl⟩) fun n2 => ?_
    refine way_ifS (c := 3) rfl (fun e => ⟨_, rfl, v, rfl, wf (c := 3) (by omega) rfl⟩) fun n3 => ?_
    refine way_ifS (c := 4) rfl (fun e => ⟨_, rfl, nf (c := 4) (by omega) rfl⟩) fun n4 => ?_
    refine way_ifS (c := 5) rfl (fun e => ⟨_, rfl, nf (c := 5) (by omega) rfl⟩) fun n5 => ?_
    refine way_ifS (c := 6) rfl (fun e => ⟨_, rfl, nf (c := 6) (by omega) rfl⟩) fun n6 => ?_
    refine way_ifS (c := 7) rfl (fun e => ⟨_, rfl, nf (c := 7) (by omega) rfl⟩) fun n7 => ?_
    refine way_ifS (c := 8) rfl (fun e => ⟨_, rfl, nf (c := 8) (by omega) rfl⟩) fun n8 => ?_
    exact ⟨_, rfl, _, rfl, n, v, rfl, by omega, hi, k0, k1⟩
end
end JF
set_option Elab.async false
set_option linter.all false
set_option maxRecDepth 100000
set_option maxHeartbeats 4000000
/-! a, b = x, y while an error is handled -/
namespace HT
open PySem PySem.Spec PyProof.Rows HotX
section
variable {prog : Program} {w : World} {A : Around} {E : Value → Shared → Prop} {s : Shared}
theorem tup_end_hot {it t x1 : Addr} {i : Nat} {items : Array Value} {Q : Option Value → Shared → Prop} (hot : HotAt A x1 s.heap) (ne : x1 ≠ it) (hit : IsTupIter s.heap it t i) (ht : IsTup s.heap t items) (hx : items[i]? = none)
    (hQ : ∀ h', Heap.ExtBut it s.heap h' → Q none { s with heap := h' }) : wpAny (model prog w) A (pyNext (.ref it)) Q E s := by
  obtain ⟨hh, o1, vs1, h1, d1, c1⟩ := hot
  obtain ⟨o, ho, hc, hd⟩ := id hit
  obtain ⟨ol, hol, _, nl, hdl⟩ := ht
  unfold pyNext
  refine wpAny_bind (wpAny_attempt (wpAny_callSpecial?_slot (name := Str.ofString "__next__") hit.typeIs slot_tupleiter_next (wpAny_call_entry slot_tupleiter_next hit.typeIs entry_tupleiter_next ?_ (args_tupleiter_next _))))
  refine wpAny_bind (m := field (.ref it) 0) (wpAny_field ho hd (x := .ref t) rfl ?_)
  have nn : ¬ ((Value.ref t == Value.none) = true) := Bool.false_ne_true
  show wpAny _ _ (if (Value.ref t == Value.none) = true then _ else _) _ _ s
  rw [if_neg nn]
  refine wpAny_bind (m := field (.ref it) 1) (wpAny_field ho hd (x := .int i 0) rfl ?_)
  refine wpAny_bind (m := seqItems? (.ref t)) (wpAny_seqItems hol hdl ?_)
  simp only [Int.toNat_natCast, hx]
  refine wpAny_bind (wpAny_rule (wpAny_bind (wpAny_setField ho hd (by simp) ?_)))
  refine wpAny_bind (m := newExc (.type "StopIteration") []) ?_
  simp only [newExc, newTuple]
  refine wpAny_bind (wpAny_newObj_type ?_ (by size_fits))
  refine wpAny_bind (m := firstArgMember _ _) (wpAny_of_eq (a := Value.none) (by first | rfl | (simp only [firstArgMember]; rfl)) (wpAny_newObj_type ?_ (by size_fits)))
  have up : ∀ {b : Addr} {u : Obj}, b ≠ it → s.heap.get? b = some u → (s.heap.update it (Obj.mapFields fun x => x.setIfInBounds 0 Value.none)).get? b = some u := fun {b u} nb e => by
    rw [Heap.get?_update_other _ _ (Ne.symm nb)]
    exact e
  have at1 := Heap.get?_push_of_some { cls := .type "tuple", data := .seq #[] } (up ne h1)
  refine raiseNew_hot ⟨hh, o1, vs1, Heap.get?_push_of_some _ at1, d1, c1⟩ (Nat.ne_of_lt (Heap.lt_size at1)) (Heap.get?_push_size _ rfl) rfl (by first | (simp; done) | (simp; omega) | (simp only [Array.size_append]; simp; omega)) ?_
  refine wpAny_bind (wpAny_isInstance (T := "StopIteration") (b := true) ⟨_, Heap.get?_update_self _ (Heap.get?_push_size _ rfl) rfl, rfl⟩ isSubtype_stop (wpAny_pure (hQ _ fun b u nb e => ?_)))
  have e2 := Heap.get?_push_of_some { cls := .type "tuple", data := .seq #[] } (up nb e)
  rw [Heap.get?_update_other _ _ (Nat.ne_of_gt (Heap.lt_size e2))]
  exact Heap.get?_push_of_some _ e2
theorem unpackH {t x1 : Addr} {items : Array Value} {Q : List Value → Shared → Prop} (hot : HotAt A x1 s.heap) (ht : IsTup s.heap t items)
    (hQ : ∀ h', Heap.ExtBut s.heap.objs.size s.heap h' → Q items.toList { s with heap := h' }) : wpAny (model prog w) A (unpackItems (.ref t) items.size none) Q E s := by
  have old : ∀ {a : Addr} {o : Obj}, s.heap.get? a = some o → a ≠ s.heap.objs.size := fun e => Nat.ne_of_lt (Heap.lt_size e)
  have nt : t ≠ s.heap.objs.size := by
    obtain ⟨o, ho, _⟩ := ht
    exact old ho
  obtain ⟨hh, o1, vs1, h1, d1, c1⟩ := hot
  unfold unpackItems notIterableAtAll
  refine wpAny_bind (wpAny_bind (wpAny_specialOf ht.typeIs slot_tuple_iter.lookup (wpAny_pure ?_)))
  simp only [Bool.false_eq_true, if_false]
  refine wpAny_bind (wpAny_holding (iter_tuple ht (wpAny_bind (wpAny_holding (draw_tuple nt items.size 0 _ _ ⟨_, Heap.get?_push_size _ rfl, rfl, rfl⟩ (ht.push _) (by omega) fun g it1 sb => ?_)))))
  have all : List.take items.size (List.drop 0 items.toList) = items.toList := by
    rw [List.drop_zero]
    exact List.take_of_length_le (by simp)
  rw [all, if_neg (by simp)]
  refine wpAny_bind (wpAny_holding (tup_end_hot (x1 := x1) ⟨hh, o1, vs1, sb.extBut _ _ (old h1) (Heap.get?_push_of_some _ h1), d1, c1⟩ (old h1) it1 ((ht.push _).extBut sb.extBut nt) (by simp) fun g2 e2 => ?_))
  simp only [Option.isSome_none, Bool.false_eq_true, if_false]
  exact wpAny_pure (hQ g2 fun b o nb e => e2 b o nb (sb.extBut b o nb (Heap.get?_push_of_some _ e)))
end
open L2 L2H in
theorem ps_parH {X : L2.Cx} {i j : Nat} {x y : Str} {a b : Expr} {ta : TA} {px py pt pos : Pos} {kt k2 : Nat} {pt2 : Pos} (hot : HotC X) (hN : X.N.Nodup) (hi : X.N[i]? = some x) (hj : X.N[j]? = some y) (hij : i ≠ j) (hx : X.env.scope.names.lookup x = some .local) (hy : X.env.scope.names.lookup y = some .local)
    (ha : PA X [a, b] ta) (hw : swappedStores [.Tuple [.Name x px, .Name y py] kt pt] (.Tuple [a, b] k2 pt2) X.env = pure (some [x, y])) (hs : swapsWithSole [.Tuple [.Name x px, .Name y py] kt pt] (.Tuple [a, b] k2 pt2) pos.line X.env = pure false := by rfl) :
    PS X (.Assign [.Tuple [.Name x px, .Name y py] kt pt] (.Tuple [a, b] k2 pt2) pos) (tPar i j ta) := by
  constructor
  intro pins s σ H D I h
  refine Assign_Tuple_swapped (Tuple_ (thn (ha.run _ pins s σ H _ I h) ?_)) hs hw
  rintro us s1 ⟨vs, H1, J, r, v, w, rfl, q⟩
  obtain ⟨u1, u2, rfl, rv, rw'⟩ : ∃ u1 u2, us = [u1, u2] ∧ RelV v u1 ∧ RelV w u2 := by
    cases r with
    | cons p1 q1 =>
      cases q1 with
      | cons p2 q2 =>
        cases q2
        exact ⟨_, _, rfl, p1, p2⟩
  refine wpAny_newObj_type ?_ (by show 2 ≤ sizeLine; decide)
  have J2 : Inv X pins σ H1 { s1 with heap := s1.heap.push { cls := .type "tuple", data := .seq [u1, u2].toArray } } := J.kept (t' := s1.toks) fun b o e => Heap.get?_push_of_some _ e
  obtain ⟨x1, h1⟩ := hot.at J2
  refine unpackH (items := #[u1, u2]) h1 (IsTup.new s1.heap _) fun g eg => ?_
  have J3 := J2.kept (h' := g) (t' := s1.toks) fun b o e => eg b o (Nat.ne_of_lt (Heap.lt_size e)) e
  refine assignInOrder_cons (wpAny_bindName (store_ok J3 hN hj (.inl hy) rw' (fun s2 J4 => assignInOrder_cons (wpAny_bindName (store_ok J4 hN hi (.inl hx) rv (fun s3 J5 => assignInOrder_nil ?_) (.inr hx)))) (.inr hy)))
  rw [List.set_comm _ _ (Ne.symm hij)] at J5
  exact ⟨_, H1, J5, q⟩
end HT
set_option Elab.async false
set_option linter.all false
set_option maxRecDepth 100000
set_option maxHeartbeats 4000000
namespace JF
open PySem PySem.Spec PyProof.Rows L2 GxR GA
abbrev sWay : Stmt := topS 93
def bsOf (n : Nat) : List Bool := [0 == n, 1 == n, 2 == n, 3 == n, 4 == n, 5 == n, 6 == n, 7 == n, 8 == n, 9 == n, 10 == n, 11 == n, 12 == n, 13 == n, 14 == n, 15 == n, 16 == n, 17 == n]
/-- what is known of the eighteen classes -/
structure ClsTab (K : PySem.W.Frag) (Cs : Nat → Addr) (ce : Addr) : Prop where
  ec : ∀ n, n < 18 → HP.EC K (Cs n)
  ve : ∀ n, n < 18 → PySem.W.kitOne K (.ref (Cs n)) (.type "ValueError") = some true
  up : ∀ n, n < 18 → PySem.W.exmOne K (.ref (Cs n)) (.ref ce) = some true
section
variable {P : Program} {w : World} {K : PySem.W.Frag} {mg : Str → Option Value} {base : Heap} {T : List Addr}
theorem scWay : FnScope ["way", "value", "told", "under", "e", "k"] ["way", "value"] (defScope sWay) := ⟨rfl, rfl, rfl, by decide +kernel, rfl, by decide +kernel, by decide +kernel⟩
def spWay (T : List Addr) : Sp := fun vs H Q _ => ∃ (n : Nat) (v : V), vs = [.int (n : Nat), v] ∧ n < 18 ∧ TbOk T H ∧ ∀ H', Ex T H H' → Q (.bl true) H'
def tHeld (K : PySem.W.Frag) (T : List Addr) (Cs : Nat → Addr) (a : Addr) (cls : Value) (d : Option Addr) : TS := fun D σ H => ∃ n, n < 18 ∧ cls = .ref (Cs n) ∧
  tPar 2 3 (tCons (tCallS (spCls T a d (bsOf n)) (fun _ => E0) (tCons (tVar 4) tNil)) (tCons (tCB (HP.rIsP K (Cs n) d a) (tCons (tVar 4) (tCons (tC (.ty "ValueError")) tNil))) tNil)) D σ H
theorem noneN {X : Cx} : L2N.Takes X (fun _ _ _ _ => False) := fun _ _ ⟨_, _, _, _, _, _, _, _, _, _, _, _, _, _, _, _, w⟩ => w.elim
theorem held_read {Cs : Nat → Addr} {ce a : Addr} {d : Option Addr} {n : Nat} {D : Ends} {σ2 : L2.St} {H2 : Hp} (CT : ClsTab K Cs ce) (hn : n < 18) (tb : TbOk T H2) (hd : DictIn d H2) (l4 : σ2[4]? = some (some (.ref a)))
    (q : ∀ l H3, H2 l = none → Ex T H2 H3 → H3 l = some (.lst ((bsOf n).map V.bl)) → D.nx ((σ2.set 2 (some (.ref l))).set 3 (some (.bl true))) H3) : tHeld K T Cs a (.ref (Cs n)) d D σ2 H2 := by
  refine ⟨n, hn, rfl, _, l4, rfl, hd, tb, fun l H3 hl x3 h3 => ⟨_, l4, .ty "ValueError", .type "ValueError", true, rfl, fun _ r => r, CT.ve n hn, fun dd e => ?_, _, _, rfl, q l H3 hl x3 h3⟩⟩
  obtain ⟨fs, h⟩ := hd dd e
  exact ⟨fs, x3.keep _ _ h (tb.seqN h fun _ z => by cases z)⟩
theorem dpBools {H : Hp} : ∀ bs : List Bool, DpAll K H (bs.map V.bl) (bs.map PyData.bool)
  | [] => .nil
  | b :: r => .cons (.bl b) (dpBools r)
theorem eqv_bs : ∀ n, n < 18 → PyData.eqv (.list ((bsOf n).map PyData.bool)) (.list ((bsOf n).map PyData.bool)) = true ∧ SeqAt.shaped (.list ((bsOf n).map PyData.bool)) = true := by decide +kernel
theorem ok_way {f g1 g2 ce : Addr} {fd gd1 gd2 : FuncData} {Cs : Nat → Addr} (FN : Fun K "_law_way_right" "_law_way_right" sWay f fd) (mi : mg "isinstance" = none) (mv : mg "ValueError" = none) (mr : mg "range" = none) (CT : ClsTab K Cs ce) (mc : mg "CellError" = some (.ref ce))
    (G1 : FnOk P w K mg base (L2N.CX P w) 3 g1 gd1 ["way", "value"] (spRaised Cs fieldAt 0)) (m1 : mg "_law_raised" = some (.ref g1)) (k1 : PySem.W.keepIn K (.ref g1) = true) (b1 : Binds K gd1 ["way", "value"] [])
    (G2 : ∀ n, n < 18 → ∀ (p : Addr × Obj) (d : Option Addr), Zc (.ref (Cs n)) d p.2 → (∃ vs, p.2.data = .fields vs) → HP.FnP P w K mg base CX0 1 g2 gd2 ["e"] p (spCls T p.1 d (bsOf n))) (m2 : mg "_law_classes" = some (.ref g2)) (k2 : PySem.W.keepIn K (.ref g2) = true) (b2 : Binds K gd2 ["e"] []) :
    FnOk P w K mg base CX0 4 f fd ["way", "value"] (spWay T) := by
  refine FN.ok scWay (fun vs H Q E h => ?_) (fun cdv A outer s H vs Q E hr h => ?_)
  · obtain ⟨n, v, rfl, _⟩ := h
    rfl
  · obtain ⟨n, v, rfl, hn, tb, k⟩ := h
    have hu : (A.deeper (envOfC "_law_way_right" (defScope sWay) s.heap.objs.size f cdv)).units + 64 < cLine := by
      have := hr.un
      omega
    refine ⟨_, pss_cons (ps_par (i := 2) (j := 3) rfl scWay.nd rfl rfl (by decide) rfl rfl (pa_cons (pe_lst pa_nil) (pa_cons pe_bl pa_nil)) (by rfl))
      (pss_cons (L2N.ps_try_as (i := 4) (ts := tHeld K T Cs) rfl rfl scWay.nd rfl rfl (c := .ref ce) ⟨by rfl, by decide, .inl mc⟩ noneN
        (fun W pn xe tk _ => pss_one (ps_expr (pe_callS G1 hr rfl m1 k1 b1 (fun σ => L2N.passAt tk σ) (pa_cons (pv 0) (pa_cons (pv 1) pa_nil)))))
        (fun a oe cls d pn hz hf => pss_one ⟨fun pins s1 σ H1 D I h1 => ?_⟩))
      (pss_one (ps_ret (pe_and (pv 3) (pe_one (pe_cmpR (op_eqD hu) (pv 2) (pe_lc (own := [("k", 5)]) (by rfl) scWay.nd (pi_range1 (by rfl) mr (pa_cons pe_int pa_nil)) (blkOk_by (N := ["way", "value", "told", "under", "e", "k"]) (sc := defScope sWay) (by decide +kernel))
        (fun _ _ _ _ _ => pg_name (i := 5) scWay.nd rfl (.inl rfl)) (fun _ _ _ _ _ => pts_nil) (fun _ _ _ _ _ => pe_cmpR op_eq (pv 5) (pv 0) (nomark _))) (nomark _))))))), ?_⟩
    · obtain ⟨m, hm, rfl, q⟩ := h1
      obtain ⟨vs, hvs⟩ := hf
      have hot : L2H.Hot1 (A.deeper (envOfC "_law_way_right" (defScope sWay) s.heap.objs.size f cdv) |>.mark (some (.ref a))) (a, oe) := ⟨rfl, vs, hvs, hz.2.2 vs hvs⟩
      refine (HT.ps_parH (i := 2) (j := 3) ⟨(a, oe), hot, List.mem_cons_self⟩ scWay.nd rfl rfl (by decide) rfl rfl (pa_cons (HP.pe_callP (G2 m hm (a, oe) d hz.zc ⟨vs, hvs⟩) ⟨((L2H.roomH_of hr).mono (by decide : 1 ≤ 3)).dp, ((L2H.roomH_of hr).mono (by decide : 1 ≤ 3)).un⟩ hot List.mem_cons_self (by rfl) m2 k2 b2 (E := fun _ => E0) (fun _ _ _ _ _ _ _ h => h.elim) (pa_cons (pv 4) pa_nil))
        (pa_cons (pe_callB (HP.call_isP (p := (a, oe)) List.mem_cons_self (CT.ec m hm) hz.zc ⟨vs, hvs⟩) (by rfl) mi boot_isinstance (pa_cons (pv 4) (pa_cons (pe_bltn (v := .ty "ValueError") (by rfl) mv (by decide +kernel) rfl) pa_nil))) pa_nil)) (by rfl)).run pins s1 σ H1 D I q
    · have core : ∀ (d : Option Addr) (H2 : Hp) (D : Ends) (σ2 : L2.St), Ex T H H2 → DictIn d H2 → σ2.length = 6 → (∀ a l H3, Ex T H H3 → H3 l = some (.lst ((bsOf n).map V.bl)) → D.nx ((((σ2.set 4 (some (.ref a))).set 2 (some (.ref l))).set 3 (some (.bl true))).set 4 none) H3) →
          wAs K (.ref ce) 4 (tHeld K T Cs) (fun _ _ _ _ => False) D (.ref (Cs n)) d σ2 H2 := fun d H2 D σ2 x2 hd l6 q =>
        ⟨true, CT.up n hn, fun _ a ha => held_read CT hn (x2.tb tb) hd (List.getElem?_set_self (by rw [l6]; decide)) fun l H3 hl x3 h3 => q a l H3 (x2.trans x3) h3, fun z => by cases z⟩
      refine ⟨by show 0 ≤ sizeLine; decide, fun p hp => ⟨_, _, rfl, ?_⟩⟩
      have x1 : Ex T H (upd H p (.lst [])) := Ex.new hp
      revert x1
      show _ → tSeq _ _ _ _ (upd H p (.lst []))
      generalize upd H p (.lst []) = H1
      intro x1
      have fin : ∀ (a l : Addr) (H3 : Hp), Ex T H H3 → H3 l = some (.lst ((bsOf n).map V.bl)) → tRet
        (tAndV (tVar 3) (tOp (rEqD K) (tVar 2) (tLc (iRng1 (tCons (tC (V.int 18)) tNil)) (gName 5) tYes (tOp rEq (tVar 5) (tVar 0)) [5]))) { nx := fun x H' => Q V.non H', rt := Q }
        [some (.int (n : Nat)), some v, some (.ref l), some (.bl true), none, none] H3 := fun a l H3 x3 h3 => ?_
      · refine ⟨_, rfl, _, rfl, n, v, rfl, Nat.zero_le _, hn, fun _ => core none H1 _ _ x1 (fun _ z => by cases z) rfl fun a l H3 x3 h3 => fin a l H3 x3 h3, fun f _ d hd => core (some d) _ _ _ (x1.trans (Ex.new hd)) (fun dd z => by cases z; exact ⟨_, upd_same⟩) rfl fun a l H3 x3 h3 => fin a l H3 x3 h3⟩
      · refine ⟨_, rfl, true, rfl, iteT ⟨_, rfl, 18, rfl, by decide, by decide, fun D2 hD2 => lcB_it walk_range (fun i H' => H' = upd H3 D2 (.lst (((List.range i).map fun k => k == n).map V.bl))) rfl (fun _ _ _ _ => trivial) (fun i x H' H4 hi e y => ?_) (fun H' e => ?_)⟩⟩
        · obtain ⟨rfl, rfl⟩ := y
          subst e
          have hi : i < 18 := hi
          refine g_one (by decide) (by show 5 < 6; decide) fun σ2 _ keep g5 => yesT ⟨_, g5, _, (keep 0 (by decide)).trans rfl, rfl, _, upd_same, by rw [List.length_map, List.length_map, List.length_range]; exact small1000 (by omega), ?_⟩
          show upd _ D2 _ = _
          rw [upd_upd, List.range_succ, List.map_append, List.map_append]
          congr 3
          show [V.bl _] = [V.bl _]
          congr 2
          show decide (V.int (0 + (i : Int)) = V.int (n : Nat)) = (i == n)
          by_cases h : i = n
          · subst h
            simp
          · rw [show (i == n) = false by simpa using h]
            exact decide_eq_false fun z => h (by have := V.int.inj z; omega)
        · subst e
          have hl : (upd H3 D2 (.lst (((List.range (Int.toNat 18)).map fun k => k == n).map V.bl))) l = some (.lst ((bsOf n).map V.bl)) := by
            rw [upd_ne (ne_of_none h3 hD2)]
            exact h3
          have hD : (upd H3 D2 (.lst (((List.range (Int.toNat 18)).map fun k => k == n).map V.bl))) D2 = some (.lst ((bsOf n).map V.bl)) := upd_same
          refine ⟨.list ((bsOf n).map PyData.bool), .list ((bsOf n).map PyData.bool), .lst (.inl (.inl hl)) (dpBools _), .lst (.inl (.inl hD)) (dpBools _), (eqv_bs n hn).2, (eqv_bs n hn).2, ?_⟩
          rw [(eqv_bs n hn).1]
          exact k _ (x3.trans (Ex.new hD2))
end
end JF
set_option Elab.async false
set_option linter.all false
set_option maxRecDepth 100000
set_option maxHeartbeats 4000000
/-! a def's promise where no repr is under way; repr of data there -/
namespace HG
open PySem PySem.Spec PyProof.Rows L2
def Free (A : Around) : Prop := A.guards = some []
structure FnG (P : Program) (w : World) (K : PySem.W.Frag) (mg : Str → Option Value) (base : Heap) (CX : CXT) (k : Nat) (f : Addr) (fd : FuncData) (ps : List Str) (sp : Sp) : Prop where
  len : ∀ vs H Q E, sp vs H Q E → vs.length = ps.length
  run : ∀ (A : Around) (outer : List Env) (s : Shared) (H : Hp) (args : Args) (us : List Value) (vs : List V) (Q : VK) (E : XK), Room k A ∧ Free A → Env0 P w K mg base A outer s H → BindsTo s fd args (ps.zip us) → Vals vs us → sp vs H Q E →
    codeAny (model P w) A (.call (.ref f) args) (CR CX outer P w H s Q E) s
theorem fn_ofG {CX : CXT} {P : Program} {w : World} {K : PySem.W.Frag} {mg : Str → Option Value} {base : Heap} {k : Nat} {f : Addr} {x qual : Str} {st : Stmt} {fd : FuncData} {N ps : List Str} {sp : Sp} (FN : Fun K x qual st f fd) (S : FnScope N ps (defScope st))
    (len : ∀ vs H Q E, sp vs H Q E → vs.length = ps.length)
    (hb : ∀ (cdv : Value) (A : Around) (outer : List Env) (s : Shared) (H : Hp) (vs : List V) (Q : VK) (E : XK), Free (A.deeper (envOfC qual (defScope st) s.heap.objs.size f cdv)) → Room k (A.deeper (envOfC qual (defScope st) s.heap.objs.size f cdv)) → sp vs H Q E →
      ∃ t, PSs (cxOf CX P w K mg base N qual (defScope st) f cdv A outer s H E) (defBody st) t ∧ t { nx := fun _ H' => Q .non H', rt := Q } (L2.start N vs) H) : FnG P w K mg base CX (k + 1) f fd ps sp := by
  obtain ⟨oc, od, kV, doc, pm, an, cdv, ct, osl, rfl, lk, hcd⟩ := FN.ex
  refine ⟨len, ?_⟩
  rintro A outer s H args us vs Q E ⟨room, free⟩ e0 bd r q
  have kp := fun b o e => (e0.bs b o e).1
  have KX : K.In s.heap := e0.mod.kin.keeps kp
  obtain ⟨t, ht, hq⟩ := hb cdv A outer s H vs Q E free (room.deeper _) q
  have kinds : ∀ y ∈ ps.zip us, (defScope st).names.lookup y.1 = some .local ∨ ((defScope st).names.lookup y.1 = some .cell ∧ ((cellsFrom (s.heap.objs.size + 1) (defScope st).names []).lookup y.1).isSome = true) := by
    rintro ⟨n, v⟩ hy
    exact (S.par n (List.of_mem_zip hy).1).imp id fun z => ⟨z, PySem.W.cellsFrom_some _ _ _ (.inl z)⟩
  refine codeAny_call_function room.depth (KX _ _ lk) rfl S.co S.gen rfl (PySem.W.codeRec_of KX hcd) (bd _ _ _ _ (wpAny_newFunctionEnv_cells S.kind kinds ?_))
  rintro env rfl s1 x
  refine ⟨(e0.mod.nolimit.keeps kp).keeps x.toInCall.keep, codeAny_func (wpAny_mono (ht.run [] s1 _ H _ (inv_start S room.hd e0 (len _ _ _ _ q) r x) hq) ?_ fun _ _ z => z)⟩
  rintro (_ | _ | _ | u) s2 z
  · obtain ⟨σ', H', J, q'⟩ := z
    exact ⟨.non, H', J.os, J.bare, J.base, J.hok, rfl, q'⟩
  · obtain ⟨_, _, _, n⟩ := z
    exact n.elim
  · obtain ⟨_, _, _, n⟩ := z
    exact n.elim
  · obtain ⟨v, σ', H', J, rv, q'⟩ := z
    exact ⟨v, H', J.os, J.bare, J.base, J.hok, rv, q'⟩
section
variable {X : Cx} {CX : CXT} {k : Nat} {f : Addr} {fd : FuncData} {ps : List Str} {sp : Sp} {E : L2.St → XK} {x : Str} {q pos : Pos} {e : Expr} {es : List Expr} {t : TA}
theorem pe_callG (F : FnG X.prog X.w X.K X.mg X.base CX k f fd ps sp) (hr : Room k X.A) (fr : Free X.A) (hg : Gl X x) (hm : X.mg x = some (.ref f)) (hk : PySem.W.keepIn X.K (.ref f) = true) (hb : Binds X.K fd ps []) (hx : ∀ σ, PassesAt CX X σ (E σ))
    (ha : PA X (e :: es) t) (hdb : (x == ("__debug__" : Str)) = false := by decide) (he : starEach (e :: es) X.env = (false, eval e X.env) :: starEach es X.env := by rfl) (hpl : (backTo pos (starEach es X.env)).any (·.1) = false := by rfl) :
    PE X (.Call (.Name x q) (e :: es) [] pos) (tCallS sp E t) := by
  constructor
  intro pins s σ H Q I h
  refine wpAny_Call_Name_kw (ld_glob I hg hm (PySem.W.callWith_K (h₀ := X.base) I.ok.mod.kin hk (thn (ha.run pos pins s σ H _ I h) ?_) he hpl) hdb)
  rintro us s1 ⟨vs, H1, J, r, z⟩
  have b := hb s1 us J.kIn (by rw [List.append_nil, ← r.length]; exact F.len _ _ _ _ z)
  rw [List.append_nil] at b
  refine ⟨J.kIn, wpAny_call (codeAny_mono (F.run X.A X.stack s1 H1 ⟨us, []⟩ us vs Q (E σ) ⟨hr, fr⟩ J.env0 b r z) ?_)⟩
  rintro (err | fl) s2 y
  · exact hx σ pins H1 s1 err s2 J y
  · cases fl with
    | ret u => exact J.after y
    | _ => exact False.elim y
/-- repr(x) of data -/
def rRepr (K : PySem.W.Frag) : List V → Hp → VK → Prop := fun xs H Q => ∃ (a : Addr) (d : PyData), xs = [.ref a] ∧ Dp K H (.ref a) d ∧ d.showable = true ∧ d.hasDict = false ∧ d.depth ≤ 60 ∧ d.shown.length ≤ sizeLine ∧ Q (.str d.shown) H
theorem call_repr (fr : Free X.A) (hu : X.A.units + 64 < cLine) : CallR X (.builtin "repr") (rRepr X.K) := by
  intro pins s σ H xs us Q I r h
  obtain ⟨a, d, rfl, hd, h1, h2, h3, h4, q⟩ := h
  obtain ⟨u, rfl, ru⟩ := vals1 r
  obtain ⟨as, rd⟩ := Dp.reads I d _ _ hd ru
  obtain rfl : u = .ref a := ru
  exact repr_of_reads' rd h1 (fun e => by rw [h2] at e; cases e) fr (by omega) (fun _ _ e => e) (fun h' tk t' hk => ⟨.str d.shown, H, I.kept (t' := t') fun b o e => hk b o e, ⟨tk, rfl⟩, q⟩) h4
end
end HG
set_option Elab.async false
set_option linter.all false
set_option maxRecDepth 100000
set_option maxHeartbeats 4000000
namespace JF
open PySem PySem.Spec PyProof.Rows L2 GxR GA
abbrev sFieldsRight : Stmt := topS 94
section
variable {P : Program} {w : World} {K : PySem.W.Frag} {mg : Str → Option Value} {base : Heap} {T : List Addr}
mutual
theorem dpEx {H H' : Hp} (x : Ex T H H') (t : TbOk T H) : ∀ {v : V} {d : PyData}, Dp K H v d → Dp K H' v d
  | _, _, .non => .non
  | _, _, .bl b => .bl b
  | _, _, .int i => .int i
  | _, _, .str y => .str y
  | _, _, .lst h r => .lst (x.sqL t h) (dpAllEx x t r)
  | _, _, .tup h r => .tup (x.sqT t h) (dpAllEx x t r)
theorem dpAllEx {H H' : Hp} (x : Ex T H H') (t : TbOk T H) : ∀ {vs : List V} {ds : List PyData}, DpAll K H vs ds → DpAll K H' vs ds
  | _, _, .nil => .nil
  | _, _, .cons h r => .cons (dpEx x t h) (dpAllEx x t r)
end
theorem scFR : FnScope ["trouble", "number", "broken", "told"] ["trouble", "number", "broken"] (defScope sFieldsRight) := ⟨rfl, rfl, rfl, by decide +kernel, rfl, by decide +kernel, by decide +kernel⟩
def eight (a b c : PyData) : PyData := .list [a, a, b, b, c, c, b, b]
structure Shows (d : PyData) : Prop where
  sh : d.showable = true
  nd : d.hasDict = false
  dp : d.depth ≤ 60
  ln : d.shown.length ≤ sizeLine
def spFR (K : PySem.W.Frag) (T : List Addr) : Sp := fun vs H Q _ => ∃ (x y z : V) (a b c : PyData), vs = [x, y, z] ∧ Dp K H x a ∧ Dp K H y b ∧ Dp K H z c ∧ Shows (eight a b c) ∧ TbOk T H ∧ ∀ H', Ex T H H' → Q (.bl true) H'
theorem fld {f : Str} {i : Nat} {x : V} {σ : L2.St} {H : Hp} {Q : VK} (l : σ[i]? = some (some x)) (q : ∀ H', Ex T H H' → Q x H') : SI.tFieldOf f (tCons (tVar i) tNil) σ H Q := ⟨_, l, x, rfl, fun _ hd => q _ (Ex.new hd)⟩
theorem ok_fieldsR {f c1 c2 c3 c4 i1 i2 i3 i4 : Addr} {fd f1 f2 f3 f4 : FuncData} {n1 n2 n3 n4 : Str} (FN : Fun K "_law_fields_right" "_law_fields_right" sFieldsRight f fd) (mr : mg "repr" = none)
    (T1 : SI.OwnTxt P K mg "NotChecked" "what" n1 c1 i1 f1) (h1 : ∀ e v, bindArgs f1 ⟨[.ref e, v], []⟩ = pure [(("self" : Str), .ref e), ("what", v)]) (g1 : ∀ e v, bindArgs f1 ⟨[.ref e], [("what", v)]⟩ = pure [(("self" : Str), .ref e), ("what", v)])
    (T2 : SI.OwnTxt P K mg "BadText" "place" n2 c2 i2 f2) (h2 : ∀ e v, bindArgs f2 ⟨[.ref e, v], []⟩ = pure [(("self" : Str), .ref e), ("place", v)]) (g2 : ∀ e v, bindArgs f2 ⟨[.ref e], [("place", v)]⟩ = pure [(("self" : Str), .ref e), ("place", v)])
    (T3 : SI.OwnTxt P K mg "NotRight" "way" n3 c3 i3 f3) (h3 : ∀ e v, bindArgs f3 ⟨[.ref e, v], []⟩ = pure [(("self" : Str), .ref e), ("way", v)]) (g3 : ∀ e v, bindArgs f3 ⟨[.ref e], [("way", v)]⟩ = pure [(("self" : Str), .ref e), ("way", v)])
    (T4 : SI.OwnTxt P K mg "NotLet" "index" n4 c4 i4 f4) (h4 : ∀ e v, bindArgs f4 ⟨[.ref e, v], []⟩ = pure [(("self" : Str), .ref e), ("index", v)]) (g4 : ∀ e v, bindArgs f4 ⟨[.ref e], [("index", v)]⟩ = pure [(("self" : Str), .ref e), ("index", v)]) :
    HG.FnG P w K mg base CX0 2 f fd ["trouble", "number", "broken"] (spFR K T) := by
  refine HG.fn_ofG FN scFR (fun vs H Q E h => ?_) (fun cdv A outer s H vs Q E fr hr h => ?_)
  · obtain ⟨x, y, z, a, b, c, rfl, _⟩ := h
    rfl
  · obtain ⟨x, y, z0, a, b, c, rfl, ra, rb, rc, S, tb, k⟩ := h
    have hu : (A.deeper (envOfC "_law_fields_right" (defScope sFieldsRight) s.heap.objs.size f cdv)).units + 64 < cLine := by
      have := hr.un
      omega
    refine ⟨_, pss_cons (ps_set (i := 3) scFR.nd rfl (.inl rfl) (pe_lst (pa_cons (SI.pe_field_of T1 h1 hr (by rfl) (pa_cons (pv 0) pa_nil)) (pa_cons (SI.pe_field_ofK T1 g1 hr (by rfl) (pk_cons (pv 0) pk_nil))
        (pa_cons (SI.pe_field_of T2 h2 hr (by rfl) (pa_cons (pv 1) pa_nil)) (pa_cons (SI.pe_field_ofK T2 g2 hr (by rfl) (pk_cons (pv 1) pk_nil)) pa_nil))))))
      (pss_cons (ps_set (i := 3) scFR.nd rfl (.inl rfl) (pe_op op_cat (pv 3) (pe_lst (pa_cons (SI.pe_field_of T3 h3 hr (by rfl) (pa_cons (pv 2) pa_nil)) (pa_cons (SI.pe_field_ofK T3 g3 hr (by rfl) (pk_cons (pv 2) pk_nil))
        (pa_cons (SI.pe_field_of T4 h4 hr (by rfl) (pa_cons (pv 1) pa_nil)) (pa_cons (SI.pe_field_ofK T4 g4 hr (by rfl) (pk_cons (pv 1) pk_nil)) pa_nil)))))))
      (pss_one (ps_ret (pe_cmpR op_eq (pe_callB (HG.call_repr fr hu) (by rfl) mr boot_repr (pa_cons (pv 3) pa_nil))
        (pe_callB (HG.call_repr fr hu) (by rfl) mr boot_repr (pa_cons (pe_lst (pa_cons (pv 0) (pa_cons (pv 0) (pa_cons (pv 1) (pa_cons (pv 1) (pa_cons (pv 2) (pa_cons (pv 2) (pa_cons (pv 1) (pa_cons (pv 1) pa_nil))))))))) pa_nil)) (nomark _))))), ?_⟩
    refine ⟨_, rfl, x, rfl, fun d1 k1 => ⟨_, rfl, x, rfl, fun d2 k2 => ⟨_, rfl, y, rfl, fun d3 k3 => ⟨_, rfl, y, rfl, fun d4 k4 => ⟨by show 4 ≤ sizeLine; decide, fun p hp => ?_⟩⟩⟩⟩⟩
    have x4 := ((Ex.new (T := T) k1).trans (Ex.new k2)).trans ((Ex.new k3).trans (Ex.new (o := .xd [("place", y)]) k4))
    revert hp x4
    show ∀ (hp : (upd _ _ _) p = none), _ → tSeq _ _ _ _ (upd _ p (.lst [x, x, y, y]))
    generalize upd _ d4 (.xd [("place", y)]) = H4
    intro hp x4
    have y5 : Ex T H (upd H4 p (.lst [x, x, y, y])) := x4.trans (Ex.new hp)
    have e5 : (upd H4 p (.lst [x, x, y, y])) p = some (.lst [x, x, y, y]) := upd_same
    revert y5 e5
    show _ → _ → tSeq _ _ _ _ (upd H4 p (.lst [x, x, y, y]))
    generalize upd H4 p (.lst [x, x, y, y]) = G
    intro y5 e5
    have tb5 := y5.tb tb
    refine ⟨_, rfl, _, rfl, z0, rfl, fun e1 m1 => ⟨_, rfl, z0, rfl, fun e2 m2 => ⟨_, rfl, y, rfl, fun e3 m3 => ⟨_, rfl, y, rfl, fun e4 m4 => ⟨by show 4 ≤ sizeLine; decide, fun q hq => ?_⟩⟩⟩⟩⟩
    have z := ((Ex.new (T := T) m1).trans (Ex.new m2)).trans ((Ex.new m3).trans (Ex.new (o := .xd [("index", y)]) m4))
    revert hq z
    generalize upd _ e4 (.xd [("index", y)]) = G4
    intro hq z
    have e6 : G4 p = some (.lst [x, x, y, y]) := z.keep _ _ e5 (tb5.seqN e5 fun _ w => by cases w)
    refine ⟨p, q, [x, x, y, y], [z0, z0, y, y], rfl, rfl, by rw [upd_ne (ne_of_none e6 hq)]; exact e6, upd_same, by show 8 ≤ sizeLine; decide, fun r hr => ?_⟩
    have y6 : Ex T H (upd (upd G4 q (.lst [z0, z0, y, y])) r (.lst [x, x, y, y, z0, z0, y, y])) := ((y5.trans z).trans (Ex.new hq)).trans (Ex.new hr)
    have e7 : (upd (upd G4 q (.lst [z0, z0, y, y])) r (.lst [x, x, y, y, z0, z0, y, y])) r = some (.lst [x, x, y, y, z0, z0, y, y]) := upd_same
    revert y6 e7
    show _ → _ → tRet (tOp rEq (tCB (HG.rRepr K) (tCons (tVar 3) tNil)) (tCB (HG.rRepr K) (tCons (tLst (tCons (tVar 0) (tCons (tVar 0) (tCons (tVar 1) (tCons (tVar 1) (tCons (tVar 2) (tCons (tVar 2) (tCons (tVar 1) (tCons (tVar 1) tNil))))))))) tNil)))
      { nx := fun _ H' => Q V.non H', rt := Q } [some x, some y, some z0, some (.ref r)] (upd (upd G4 q (.lst [z0, z0, y, y])) r (.lst [x, x, y, y, z0, z0, y, y]))
    generalize upd (upd G4 q (.lst [z0, z0, y, y])) r (.lst [x, x, y, y, z0, z0, y, y]) = G5
    intro y6 e7
    have all : ∀ {H' : Hp}, Ex T H H' → DpAll K H' [x, x, y, y, z0, z0, y, y] [a, a, b, b, c, c, b, b] := fun w =>
      .cons (dpEx w tb ra) (.cons (dpEx w tb ra) (.cons (dpEx w tb rb) (.cons (dpEx w tb rb) (.cons (dpEx w tb rc) (.cons (dpEx w tb rc) (.cons (dpEx w tb rb) (.cons (dpEx w tb rb) .nil)))))))
    refine ⟨_, rfl, r, eight a b c, rfl, .lst (.inl (.inl e7)) (all y6), S.sh, S.nd, S.dp, S.ln, _, rfl, _, rfl, _, rfl, _, rfl, _, rfl, _, rfl, _, rfl, _, rfl, by show 8 ≤ sizeLine; decide, fun t ht => ⟨t, eight a b c, rfl, .lst (.inl (.inl upd_same)) (all (y6.trans (Ex.new ht))), S.sh, S.nd, S.dp, S.ln, rfl, ?_⟩⟩
    rw [decide_eq_true rfl]
    exact k _ (y6.trans (Ex.new ht))
end
end JF
set_option Elab.async false
set_option linter.all false
set_option maxRecDepth 100000
set_option maxHeartbeats 4000000
/-! a try of several clauses, some of which name the error -/
namespace TX
open PySem PySem.Spec PyProof.Rows L2
abbrev Suite := Addr → Value → Option Addr → TS
/-- a clause: its class, the slot of its name if it has one, its suite -/
structure Cl where
  cls : Value
  slot : Option Nat
  su : Suite
def Cl.ends (k : Cl) (D : Ends) : Ends := match k.slot with
  | none => D
  | some i => ⟨fun u G => D.nx (u.set i none) G, D.rt, fun u G => D.bk (u.set i none) G, fun u G => D.ct (u.set i none) G⟩
def Cl.st (k : Cl) (a : Addr) (u : L2.St) : L2.St := match k.slot with
  | none => u
  | some i => u.set i (some (.ref a))
def wMix (K : PySem.W.Frag) (Wo : WX) (D : Ends) : List Cl → WX
  | [] => Wo
  | k :: r => fun cl dd u G => ∃ yes : Bool, PySem.W.exmOne K cl k.cls = some yes ∧ (yes = true → ∀ a, G a = none → k.su a cl dd (k.ends D) (k.st a u) G) ∧ (yes = false → wMix K Wo D r cl dd u G)
inductive Clauses (X : Cx) : List ExceptHandler → List Cl → Prop
  | nil : Clauses X [] []
  | plain {x : Str} {c : Value} {su : Suite} {b₀ : Stmt} {more : List Stmt} {p1 p2 : Pos} {hds : List ExceptHandler} {l : List Cl} (nm : Names X x c)
      (ok : ∀ (a : Addr) (oe : Obj) (cl : Value) (dd : Option Addr) (pn : List (Addr × Obj)), Zc cl dd oe → (∃ vs, oe.data = .fields vs) → PSs (X.suite a ((a, oe) :: pn)) (b₀ :: more) (su a cl dd)) (r : Clauses X hds l) :
      Clauses X (.ExceptHandler (some (.Name x p1)) none (b₀ :: more) p2 :: hds) (⟨c, none, su⟩ :: l)
  | named {x n : Str} {c : Value} {i : Nat} {su : Suite} {b₀ : Stmt} {more : List Stmt} {p1 p2 : Pos} {hds : List ExceptHandler} {l : List Cl} (nm : Names X x c) (slot : X.N[i]? = some n) (loc : X.env.kindOf n = some .local)
      (ok : ∀ (a : Addr) (oe : Obj) (cl : Value) (dd : Option Addr) (pn : List (Addr × Obj)), Zc cl dd oe → (∃ vs, oe.data = .fields vs) → PSs (X.suite a ((a, oe) :: pn)) (b₀ :: more) (su a cl dd)) (r : Clauses X hds l) :
      Clauses X (.ExceptHandler (some (.Name x p1)) (some n) (b₀ :: more) p2 :: hds) (⟨c, some i, su⟩ :: l)
section
variable {X : Cx} {pins : List (Addr × Obj)} {u : L2.St} {G : Hp} {sI s : Shared} {B : Heap} {a : Addr} {cl : Value} {dd : Option Addr} {D : Ends} {Wo : WX}
/-- an error that flies is no frame of ours -/
theorem not_ours (hf : X.env.frame = some X.env.locals) (ff : s.heap.FunFrames B (X.env :: X.outer)) {oe : Obj} {vs : Array Value} (he : s.heap.get? a = some oe) (hv : oe.data = .fields vs) : a ≠ X.env.locals ∧ a ∉ X.fs := by
  have out : a ∉ frs (X.env :: X.outer) := fun m => by
    obtain ⟨_, o2, h2, no⟩ := ff.mem m
    rw [h2] at he
    cases he
    exact no _ hv
  constructor
  · intro z
    exact out (List.mem_filterMap.mpr ⟨X.env, List.mem_cons_self, by rw [hf, z]⟩)
  · intro m
    obtain ⟨en, hen, q⟩ := List.mem_filterMap.mp m
    exact out (List.mem_filterMap.mpr ⟨en, List.mem_cons_of_mem _ hen, q⟩)
theorem ask (hs : X.stack = X.env :: X.outer) (hf : X.env.frame = some X.env.locals) (nd : X.N.Nodup) (tk : Takes X Wo) (I : Inv X pins u G sI) (nb : ∀ b o, sI.heap.get? b = some o → b ∉ frs X.stack → B.get? b = some o)
    (up : sI.heap.UpToSlots s.heap) (fl : HandSPX.FlyingZ B (X.env :: X.outer) a (Zc cl dd) s.heap) (na : G a = none) (os : s.os = sI.os) (ag : AllBare s.gens) : ∀ {hds : List ExceptHandler} {l : List Cl}, Clauses X hds l → wMix X.K Wo D l cl dd u G →
      wpAny (model X.prog X.w) X.A (handleBy (.ref a) X.env hds) (SP X pins D) X.xe s := by
  have J : Inv X pins u G s := I.landed nb fl.1 up os ag
  have ok := I.ok
  obtain ⟨oe, vs, hoe, hz, hdat⟩ := fl.there
  obtain ⟨nL, nF⟩ := not_ours hf fl.2.2.1 hoe hdat
  have S := J.suite hoe hdat na nL nF
  -- the class is looked up, the question is put
  have put : ∀ {x : Str} {c : Value} {p1 : Pos} {yes : Bool} {Q : Bool → Shared → Prop} {E E2 : Value → Shared → Prop}, Names X x c → PySem.W.exmOne X.K cl c = some yes → Q yes s →
      wpAny (model X.prog X.w) (X.A.mark (some (.ref a))) (eval (.Name x p1) X.env) (fun v t => wpAny (model X.prog X.w) (X.A.mark (some (.ref a))) (excMatches (.ref a) v) Q E2 t) E s := by
    intro x c p1 yes Q E E2 nm h1 q
    have look : PySem.W.Looks (model X.prog X.w) s.heap (typeOf (.ref a)) cl := fun A Q E t k r => wpAny_typeOf_ref (k _ _ hoe) (by rw [hz.1]; exact r)
    have M := PySem.W.exm_one (M := model X.prog X.w) J.kIn look h1
    obtain ⟨hg, hdbg, hm | ⟨hm, hv, hnn⟩⟩ := nm
    · exact ld_glob (X := X.suite a ((a, oe) :: (X.pn ++ pins))) S hg hm (M.here q) hdbg
    · exact ld_blt (X := X.suite a ((a, oe) :: (X.pn ++ pins))) S hg hm hv (M.here q) hnn hdbg
  intro hds l hk
  induction hk with
  | nil =>
    intro no
    refine wpAny_handleBy_nil ?_
    obtain ⟨_, _, _, o1, v1, T1, oT1, t1, g1, _, g3, g4, _⟩ := id fl
    unfold PySem.passOn
    refine wpAny_bind (wpAny_field g1 g3 g4 ?_)
    rw [if_neg (show ¬ ((Value.ref T1 == Value.none) = true) from by simp)]
    have last : wpAny (model X.prog X.w) X.A (setFlight (.ref a) X.env.frame) (fun _ t => wpAny (model X.prog X.w) X.A (throw (.ref a) : Sem Flow) (SP X pins D) X.xe t) X.xe s := by
      rw [hf]
      refine HandSPX.setFlight_upZ fl fun g hg upg => wpAny_throw (tk _ _ ⟨a, B, sI, pins, u, G, cl, dd, rfl, I, nb, up.trans upg, .inr (.inr ?_), na, os, ag, no⟩)
      rw [hs]
      exact hg
    first
      | exact wpAny_bind (wpAny_pure (wpAny_bind last))
      | exact wpAny_bind last
  | plain nm okS r ih =>
    rintro ⟨yes, h1, hy, hn⟩
    refine wpAny_handleBy_cons (codeAny_handlers_test (put nm h1 ?_)) (by intro q; cases q)
    cases yes with
    | false => exact ih (hn rfl)
    | true =>
      refine codeAny_handlers_suite (HandSPX.lands_againZ fl fun g flg upg => ?_)
      obtain ⟨oe2, vs2, hoe2, hz2, hdat2⟩ := flg.there
      have S2 := (I.landed (s' := { s with heap := g }) nb flg.1 (up.trans upg) os ag).suite hoe2 hdat2 na nL nF
      refine wpAny_mono ((okS a oe2 cl dd (X.pn ++ pins) hz2 ⟨_, hdat2⟩).run [] _ _ G _ S2 (hy rfl a na)) (fun f t h => ?_) (fun _ _ z => z.elim)
      cases f with
      | next => exact let ⟨_, _, S3, q⟩ := h; ⟨_, _, S3.unsuite ok, q⟩
      | brk => exact let ⟨_, _, S3, q⟩ := h; ⟨_, _, S3.unsuite ok, q⟩
      | cont => exact let ⟨_, _, S3, q⟩ := h; ⟨_, _, S3.unsuite ok, q⟩
      | ret v => exact let ⟨_, _, _, S3, rv, q⟩ := h; ⟨_, _, _, S3.unsuite ok, rv, q⟩
  | named nm slot loc okS r ih =>
    rintro ⟨yes, h1, hy, hn⟩
    refine wpAny_handleBy_cons (codeAny_handlers_test (put nm h1 ?_)) (by intro q; cases q)
    cases yes with
    | false => exact ih (hn rfl)
    | true =>
      refine codeAny_handlers_suite_as (HandSPX.lands_againZ fl fun g flg upg => ?_)
      obtain ⟨oe2, vs2, hoe2, hz2, hdat2⟩ := flg.there
      have S2 := (I.landed (s' := { s with heap := g }) nb flg.1 (up.trans upg) os ag).suite hoe2 hdat2 na nL nF
      refine store_ok (X := X.suite a ((a, oe2) :: (X.pn ++ pins))) (v := .ref a) S2 nd slot (.inl loc) rfl (fun t S3 => ?_) (.inr loc)
      refine wpAny_mono ((okS a oe2 cl dd (X.pn ++ pins) hz2 ⟨_, hdat2⟩).run [] t _ G _ S3 (hy rfl a na)) (fun f t2 h => ?_) (fun _ _ z => z.elim)
      have bye : ∀ {p2 : Pos} {u6 : L2.St} {G6 : Hp} {Q : Shared → Prop}, Inv (X.suite a ((a, oe2) :: (X.pn ++ pins))) [] u6 G6 t2 → (∀ t7, Inv X pins (u6.set _ none) G6 t7 → Q t7) →
          wpAny (model X.prog X.w) X.A (do bindName X.env _ .none; unbindBehindTheSuite X.env _ p2) (fun _ t7 => Q t7) X.xe t2 := fun S6 q => gone_ok (S6.unsuite ok) nd slot loc q
      cases f with
      | next => exact let ⟨_, _, S3, q⟩ := h; bye S3 fun _ J7 => ⟨_, _, J7, q⟩
      | brk => exact let ⟨_, _, S3, q⟩ := h; bye S3 fun _ J7 => ⟨_, _, J7, q⟩
      | cont => exact let ⟨_, _, S3, q⟩ := h; bye S3 fun _ J7 => ⟨_, _, J7, q⟩
      | ret v => exact let ⟨_, _, _, S3, rv, q⟩ := h; bye S3 fun _ J7 => ⟨_, _, _, J7, rv, q⟩
def tTry (K : PySem.W.Frag) (Wo : WX) (l : List Cl) (tb : WX → TS) : TS := fun D u G => tb (wMix K Wo D l) D u G
theorem ps_try_mix {body : List Stmt} {h₀ : ExceptHandler} {hds : List ExceptHandler} {l : List Cl} {pos : Pos} {tb : WX → TS} (hs : X.stack = X.env :: X.outer) (hf : X.env.frame = some X.env.locals) (nd : X.N.Nodup) (tk : Takes X Wo)
    (hb : ∀ (W : WX) (pn : List (Addr × Obj)) (xe : Value → Shared → Prop), Takes (X.tr pn xe) W → PassesOwn (model X.prog X.w) X.A X.env xe → PSs (X.tr pn xe) body (tb W)) (hk : Clauses X (h₀ :: hds) l) :
    PS X (.Try body (h₀ :: hds) [] [] pos) (tTry X.K Wo l tb) := by
  constructor
  intro pins s u G D I h
  have fr : X.A.frames = some (X.env :: X.outer) := by rw [I.ok.frames, hs]
  refine wpAny_Try_except (wpAny_mono ((hb (wMix X.K Wo D l) (X.pn ++ pins) (fun e s1 => wpAny (model X.prog X.w) X.A (noteFrame e X.env) (fun _ s2 => wpAny (model X.prog X.w) X.A (setFlight e none) (fun _ s3 => wpAny (model X.prog X.w) X.A (handleBy e X.env (h₀ :: hds)) (SP X pins D) X.xe s3) X.xe s2) X.xe s1)
    (fun v t air => ?_) PassesOwn.looking).run [] s u G D (I.toTry _) h) (fun f t h2 => ?_) (fun _ _ z => z))
  · obtain ⟨a, B, sI, _, u2, G2, cl, dd, rfl, J, nb, up, sky, na, os, ag, q⟩ := air
    rw [show (X.tr (X.pn ++ pins) _).stack = X.env :: X.outer from hs] at sky
    exact Sky.land Zc.steady fr hf sky fun g fl upg => ask (s := { t with heap := g }) hs hf nd tk (J.ofTry I.ok) nb (up.trans upg) fl na os ag hk q
  · cases f with
    | next => exact let ⟨_, _, J, q⟩ := h2; wpAny_execs_nil ⟨_, _, J.ofTry I.ok, q⟩
    | brk => exact let ⟨_, _, J, q⟩ := h2; ⟨_, _, J.ofTry I.ok, q⟩
    | cont => exact let ⟨_, _, J, q⟩ := h2; ⟨_, _, J.ofTry I.ok, q⟩
    | ret v => exact let ⟨_, _, _, J, rv, q⟩ := h2; ⟨_, _, _, J.ofTry I.ok, rv, q⟩
end
end TX
set_option Elab.async false
set_option linter.all false
set_option maxRecDepth 100000
set_option maxHeartbeats 4000000
/-! displays of data while a list at L is being filled -/
namespace JF
open PySem PySem.Spec PyProof.Rows L2 GxR GA
/-- the heap without L -/
def era (L : Addr) (H : Hp) : Hp := fun b => if b = L then none else H b
section
variable {K : PySem.W.Frag} {T : List Addr} {L : Addr} {H H' H2 : Hp}
theorem era_ne {b : Addr} (n : b ≠ L) : era L H b = H b := if_neg n
theorem era_some {b : Addr} {o : HO} (h : era L H b = some o) : b ≠ L ∧ H b = some o := by
  by_cases n : b = L
  · rw [show era L H b = none from if_pos n] at h
    cases h
  · rw [era_ne n] at h
    exact ⟨n, h⟩
theorem tb_era (n : L ∉ T) (t : TbOk T H) : TbOk T (era L H) := fun P hP => by
  obtain ⟨ps, e, r⟩ := t P hP
  exact ⟨ps, by rw [era_ne (fun z => n (by rw [← z]; exact hP))]; exact e, r⟩
theorem tb_unera (t : TbOk T (era L H)) : TbOk T H := fun P hP => by
  obtain ⟨ps, e, r⟩ := t P hP
  exact ⟨ps, (era_some e).2, r⟩
/-- all but L only grows -/
structure Off (T : List Addr) (L : Addr) (H H' : Hp) : Prop where
  ex : Ex T (era L H) (era L H')
  at' : ∀ o, H L = some o → H' L = some o
theorem Off.refl : Off T L H H := ⟨Ex.refl, fun _ h => h⟩
theorem Off.trans (a : Off T L H H') (b : Off T L H' H2) : Off T L H H2 := ⟨a.ex.trans b.ex, fun o h => b.at' o (a.at' o h)⟩
theorem Off.of (n : L ∉ T) (x : Ex T H H') : Off T L H H' :=
  ⟨⟨fun t => tb_era n (x.tb (tb_unera t)), fun b o e hb => by
    obtain ⟨n2, h⟩ := era_some e
    rw [era_ne n2]
    exact x.keep b o h hb⟩, fun o h => x.keep L o h n⟩
/-- L itself is filled on -/
theorem Ex.fill {o : HO} : Ex T (era L H) (era L (L2.upd H L o)) := by
  have e : era L (L2.upd H L o) = era L H := by
    funext b
    by_cases h : b = L
    · rw [show era L H b = none from if_pos h]
      exact if_pos h
    · rw [era_ne h, era_ne h, upd_ne h]
  rw [e]
  exact Ex.refl
theorem rd_mono {G H : Hp} (m : ∀ b o, G b = some o → H b = some o) {a : Addr} {o : HO} (h : Rd G a o) : Rd H a o := by
  rcases h with h | ⟨u, h⟩
  · exact .inl (m _ _ h)
  · exact .inr ⟨u, m _ _ h⟩
mutual
theorem Rp.mono {G H : Hp} (m : ∀ b o, G b = some o → H b = some o) : ∀ {v : V} {d : PyData}, Rp K G v d → Rp K H v d
  | _, _, .non => .non
  | _, _, .bl b => .bl b
  | _, _, .int i => .int i
  | _, _, .str s h => .str s h
  | _, _, .lst h r => .lst (h.imp (rd_mono m) id) (RpAll.mono m r)
  | _, _, .tup h r => .tup (h.imp (rd_mono m) id) (RpAll.mono m r)
  | _, _, .dic h => .dic (m _ _ h)
theorem RpAll.mono {G H : Hp} (m : ∀ b o, G b = some o → H b = some o) : ∀ {vs : List V} {ds : List PyData}, RpAll K G vs ds → RpAll K H vs ds
  | _, _, .nil => .nil
  | _, _, .cons r s => .cons (Rp.mono m r) (RpAll.mono m s)
end
theorem Rp.un {v : V} {d : PyData} (r : Rp K (era L H) v d) : Rp K H v d := r.mono fun _ _ e => (era_some e).2
theorem sqT_era {q : Addr} {xs ys : List V} (hL : H L = some (.lst ys)) (h : SqT K H q xs) : SqT K (era L H) q xs := by
  rcases h with (h | ⟨u, h⟩) | h
  · exact .inl (.inl (by rw [era_ne (fun z => by rw [z, hL] at h; cases h)]; exact h))
  · exact .inl (.inr ⟨u, by rw [era_ne (fun z => by rw [z, hL] at h; cases h)]; exact h⟩)
  · exact .inr h
mutual
theorem Rp.dp : ∀ {v : V} {d : PyData}, Rp K H v d → d.hasDict = false → Dp K H v d
  | _, _, .non, _ => .non
  | _, _, .bl b, _ => .bl b
  | _, _, .int i, _ => .int i
  | _, _, .str s _, _ => .str s
  | _, _, .lst h r, n => .lst h (RpAll.dp r n)
  | _, _, .tup h r, n => .tup h (RpAll.dp r n)
  | _, _, .dic _, n => by cases n
theorem RpAll.dp : ∀ {vs : List V} {ds : List PyData}, RpAll K H vs ds → PyData.hasDictAll ds = false → DpAll K H vs ds
  | _, _, .nil, _ => .nil
  | _, _, .cons r s, n => by
    have n' : (PyData.hasDict _ || PyData.hasDictAll _) = false := n
    rw [Bool.or_eq_false_iff] at n'
    exact .cons (Rp.dp r n'.1) (RpAll.dp s n'.2)
end
end
abbrev Pr := Addr → L2.St → Hp → Prop
structure Stays (K : PySem.W.Frag) (T : List Addr) (pre : Pr) : Prop where
  go : ∀ L σ G G', Ex T G G' → TbOk T G → pre L σ G → pre L σ G'
def tDat (K : PySem.W.Frag) (T : List Addr) (pre : Pr) (d : PyData) : TE := fun σ H Q => ∃ L, L ∉ T ∧ H L ≠ none ∧ TbOk T H ∧ pre L σ (era L H) ∧ ∀ v H', Off T L H H' → Rp K (era L H') v d → Q v H'
def tDats (K : PySem.W.Frag) (T : List Addr) (pre : Pr) (ds : List PyData) : TA := fun σ H Q => ∃ L, L ∉ T ∧ H L ≠ none ∧ TbOk T H ∧ pre L σ (era L H) ∧ ∀ vs H', Off T L H H' → RpAll K (era L H') vs ds → Q vs H'
theorem pe_weak {X : Cx} {e : Expr} {t t' : TE} (h : PE X e t) (w : ∀ σ H Q, t' σ H Q → t σ H Q) : PE X e t' := ⟨fun pins s σ H Q I q => h.run pins s σ H Q I (w _ _ _ q)⟩
theorem pa_weak {X : Cx} {es : List Expr} {t t' : TA} (h : PA X es t) (w : ∀ σ H Q, t' σ H Q → t σ H Q) : PA X es t' := ⟨fun pos pins s σ H Q I q => h.run pos pins s σ H Q I (w _ _ _ q)⟩
theorem ne_none {H : Hp} {L : Addr} (h : H L ≠ none) : ∃ o, H L = some o := by
  cases e : H L with
  | none => exact absurd e h
  | some o => exact ⟨o, rfl⟩
theorem Off.ne {T : List Addr} {L : Addr} {H H' : Hp} (x : Off T L H H') (h : H L ≠ none) : H' L ≠ none := by
  obtain ⟨o, e⟩ := ne_none h
  rw [x.at' o e]
  simp
theorem Off.new {T : List Addr} {L p : Addr} {H : Hp} {o : HO} (h : H L ≠ none) (n : H p = none) : Off T L H (upd H p o) ∧ p ≠ L := by
  have np : p ≠ L := fun z => h (z ▸ n)
  refine ⟨⟨⟨fun t P hP => ?_, fun b u e hb => ?_⟩, fun u e => by rw [upd_ne (Ne.symm np)]; exact e⟩, np⟩
  · obtain ⟨ps, e, r⟩ := t P hP
    obtain ⟨n2, e2⟩ := era_some e
    exact ⟨ps, by rw [era_ne n2, upd_ne (ne_of_none e2 n)]; exact e2, r⟩
  · obtain ⟨n2, e2⟩ := era_some e
    rw [era_ne n2, upd_ne (ne_of_none e2 n)]
    exact e2
section
variable {X : Cx} {K : PySem.W.Frag} {T : List Addr} {pre : Pr}
theorem pd_nil : PA X [] (tDats K T pre []) := pa_weak pa_nil fun σ H Q ⟨L, _, _, _, _, q⟩ => q [] H Off.refl .nil
theorem pd_cons (St : Stays K T pre) {e : Expr} {es : List Expr} {d : PyData} {ds : List PyData} (he : PE X e (tDat K T pre d)) (ha : PA X es (tDats K T pre ds)) (hs : starEach (e :: es) X.env = (false, eval e X.env) :: starEach es X.env := by rfl) : PA X (e :: es) (tDats K T pre (d :: ds)) :=
  pa_weak (pa_cons he ha hs) fun σ H Q ⟨L, n, hL, t, p, q⟩ => ⟨L, n, hL, t, p, fun v H1 x1 r1 => by
    have t1 := tb_era n t
    exact ⟨L, n, x1.ne hL, tb_unera (x1.ex.tb t1), St.go _ _ _ _ x1.ex t1 p, fun vs H2 x2 r2 => q _ _ (x1.trans x2) (.cons (r1.ex x2.ex (x1.ex.tb t1)) r2)⟩⟩
theorem RpAll.few {H : Hp} {vs : List V} {ds : List PyData} (r : RpAll K H vs ds) (h : ds.length ≤ sizeLine) : vs.length ≤ sizeLine := by rw [r.len]; exact h
theorem pd_tup {es : List Expr} {ds : List PyData} {x1 : Nat} {pos : Pos} (ha : PA X es (tDats K T pre ds)) (h : ds.length ≤ sizeLine) : PE X (.Tuple es x1 pos) (tDat K T pre (.tuple ds)) :=
  pe_weak (pe_tup ha) fun σ H Q ⟨L, n, hL, t, p, q⟩ => ⟨L, n, hL, t, p, fun vs H1 x1 r1 => ⟨r1.few h, fun a ha => by
    obtain ⟨o, np⟩ := Off.new (T := T) (o := .tup vs) (x1.ne hL) ha
    exact q _ _ (x1.trans o) (.tup (.inl (.inl (by rw [era_ne np]; exact upd_same))) (r1.ex o.ex (x1.ex.tb (tb_era n t))))⟩⟩
theorem pd_lst {es : List Expr} {ds : List PyData} {pos : Pos} (ha : PA X es (tDats K T pre ds)) (h : ds.length ≤ sizeLine) : PE X (.List es pos) (tDat K T pre (.list ds)) :=
  pe_weak (pe_lst ha) fun σ H Q ⟨L, n, hL, t, p, q⟩ => ⟨L, n, hL, t, p, fun vs H1 x1 r1 => ⟨r1.few h, fun a ha => by
    obtain ⟨o, np⟩ := Off.new (T := T) (o := .lst vs) (x1.ne hL) ha
    exact q _ _ (x1.trans o) (.lst (.inl (.inl (by rw [era_ne np]; exact upd_same))) (r1.ex o.ex (x1.ex.tb (tb_era n t))))⟩⟩
theorem pd_c {e : Expr} {v : V} {d : PyData} (h : PE X e (tC v)) (r : ∀ H, Rp K H v d) : PE X e (tDat K T pre d) :=
  pe_weak h fun σ H Q ⟨L, n, hL, t, p, q⟩ => q _ _ Off.refl (r _)
theorem pd_var {e : Expr} {i : Nat} {d : PyData} (h : PE X e (tVar i)) (r : ∀ L σ G, pre L σ G → ∃ v, σ[i]? = some (some v) ∧ Rp K G v d) : PE X e (tDat K T pre d) :=
  pe_weak h fun σ H Q ⟨L, n, hL, t, p, q⟩ => by
    obtain ⟨v, e, k⟩ := r _ _ _ p
    exact ⟨v, e, q _ _ Off.refl k⟩
end
end JF
set_option Elab.async false
set_option linter.all false
set_option maxRecDepth 100000
set_option maxHeartbeats 4000000
namespace JF
open PySem PySem.Spec PyProof.Rows L2 GxR GA
abbrev sHand : Stmt := topS 95
def dKinds : PyData := .tuple [.tuple [.str "List", .tuple [.tuple [.str "End", .tuple []], .tuple [.str "Cell", .tuple [.str "number", .str "List"]]]]]
def dHead : PyData := .tuple [.str "List", .tuple [.tuple [.str "End", .tuple []], .tuple [.str "Cell", .tuple [.str "number", .str "List"]]]]
def dProg (nm : Str) (ps : List PyData) (res : Str) (r : Int) : PyData := .tuple [dKinds, .tuple [.tuple [.str nm, .tuple ps, .str res, .tuple [.tuple [.str "give", .int r]]]]]
def ksH : List Kd := [("List", [("End", []), ("Cell", ["number", "List"])])]
theorem one_of {nm res : Str} {ps : List PyData} {zs : List Str} {r : Int} (h : isLow (.str nm) = true) (hp : isTup 0 8 isField (.tuple ps) = true) (hr : isField (.str res) = true) (hw : isTup 1 60 isRow (.tuple [.tuple [.str "give", .int r]]) = true) (hz : fieldsOf (.tuple ps) = zs) :
    isProgram (dProg nm ps res r) = true ∧ OneP (dProg nm ps res r) ksH nm res zs r := by
  have hf : isFunction (.tuple [.str nm, .tuple ps, .str res, .tuple [.tuple [.str "give", .int r]]]) = true := by
    show ((isLow (.str nm) && isTup 0 8 isField (.tuple ps)) && (isField (.str res) && isTup 1 60 isRow (.tuple [.tuple [.str "give", .int r]]))) = true
    rw [h, hp, hr, hw]
    rfl
  have hP : isProgram (dProg nm ps res r) = true := by
    show (isKinds dKinds && isTup 1 12 isFunction (.tuple [.tuple [.str nm, .tuple ps, .str res, .tuple [.tuple [.str "give", .int r]]]])) = true
    rw [show isKinds dKinds = true by decide +kernel]
    unfold isTup
    simp [hf]
  exact ⟨hP, ⟨⟨dKinds, .tuple ps, rfl, by decide +kernel, hz⟩, hP, by decide +kernel, by decide +kernel⟩⟩
theorem pe_app {X : Cx} {K : PySem.W.Frag} {o e : Expr} {to : TE} {t : TA} {ap cp : Pos} (hK : X.K = K) (ho : PE X o to) (ha : PA X [e] t) (h1 : attributeBase o "append" X.env (eval o X.env) = eval o X.env := by rfl)
    (h2 : ((backTo cp (starEach [e] X.env)).all (fun x => !x.1) && (backToKw cp (keywordEach [] X.env)).all (fun x => x.1.isSome) && decide ([e].length + ([] : List Keyword).length + (if ([] : List Keyword).isEmpty then 0 else 1) < 30)) = true := by rfl)
    (h3 : (ap.endLine == cp.line) = true := by rfl) (h4 : starEach [e] X.env = (false, eval e X.env) :: starEach [] X.env := by rfl) (h5 : (backTo cp (starEach [] X.env)).any (·.1) = false := by rfl) : PE X (.Call (.Attribute o "append" ap) [e] [] cp) (tBM K "list" rAppend to t) := by
  subst hK
  exact pe_bm PySem.F.plainAttrs_list PySem.F.slot_list_append PySem.F.type_list_append mt_append ho ha h1 h2 h3 h4 h5
section
variable {P : Program} {w : World} {K : PySem.W.Frag} {mg : Str → Option Value} {base : Heap} {T : List Addr}
theorem scHand : FnScope ["name", "told", "kinds", "thing", "e", "some", "kind", "due"] ["name"] (defScope sHand) := ⟨rfl, rfl, rfl, by decide +kernel, rfl, by decide +kernel, by decide +kernel⟩
/-- what the classes of the errors are to one another -/
structure ExmH (K : PySem.W.Frag) (cN cB c1 c2 : Addr) : Prop where
  nn : PySem.W.exmOne K (.ref cN) (.ref cN) = some true
  bn : PySem.W.exmOne K (.ref cB) (.ref cN) = some false
  bb : PySem.W.exmOne K (.ref cB) (.ref cB) = some true
  kk : PySem.W.exmOne K (.ref c1) (.ref c1) = some true
  dk : PySem.W.exmOne K (.ref c2) (.ref c1) = some false
  dd : PySem.W.exmOne K (.ref c2) (.ref c2) = some true
def spHand (T : List Addr) : Sp := fun vs H Q _ => ∃ nm : Str, vs = [.str nm] ∧ isLow (.str nm) = true ∧ nm.length ≤ 10 ∧ PySem.PyData.strOk nm = true ∧ TbOk T H ∧ ∀ H', Ex T H H' → Q (.bl true) H'
def preH (K : PySem.W.Frag) (nm : Str) : Pr := fun _ σ G => σ[0]? = some (some (.str nm)) ∧ ∃ kv, σ[2]? = some (some kv) ∧ Rp K G kv dKinds
theorem stays_h {nm : Str} : Stays K T (preH K nm) := ⟨fun _ _ _ _ x t ⟨a, kv, b, r⟩ => ⟨a, kv, b, r.ex x t⟩⟩
theorem pd_head {X : Cx} {pre : Pr} {e i : Expr} {pos : Pos} (he : PE X e (tVar 2)) (hi : PE X i (tC (.int 0))) (hK : X.K = K) (r : ∀ L σ G, pre L σ G → ∃ v, σ[2]? = some (some v) ∧ Rp K G v dKinds) (hp : PlainIx i) : PE X (.Subscript e i pos) (tDat K T pre dHead) := by
  subst hK
  refine pe_weak (pe_ix ix_tup he hi hp) fun σ H Q ⟨L, n, hL, t, p, q⟩ => ?_
  obtain ⟨v, e2, k⟩ := r _ _ _ p
  cases k with
  | tup h rs =>
    cases rs with
    | cons r0 rr =>
      have h3 : SqT X.K H _ _ := h.imp (rd_mono fun _ _ e => (era_some e).2) id
      exact ⟨_, e2, _, _, _, _, rfl, rfl, h3, atI_nat (j := 0) rfl, q _ _ Off.refl r0⟩
structure InvH (K : PySem.W.Frag) (T : List Addr) (nm : Str) (L : Addr) (H0 : Hp) (told : List V) (σ : L2.St) (H : Hp) : Prop where
  len : σ.length = 8
  s0 : σ[0]? = some (some (.str nm))
  s1 : σ[1]? = some (some (.ref L))
  s2 : ∃ kv, σ[2]? = some (some kv) ∧ Rp K (era L H) kv dKinds
  hL : H L = some (.lst told)
  tb : TbOk T H
  ex : Ex T (era L H0) (era L H)
  nT : L ∉ T
section
variable {nm : Str} {L : Addr} {H0 H H' : Hp} {told : List V} {σ : L2.St}
theorem InvH.ne (I : InvH K T nm L H0 told σ H) : H L ≠ none := by rw [I.hL]; simp
theorem InvH.pre (I : InvH K T nm L H0 told σ H) : preH K nm L σ (era L H) := ⟨I.s0, I.s2⟩
theorem InvH.set (I : InvH K T nm L H0 told σ H) {i : Nat} (h : 2 < i) (x : Option V) : InvH K T nm L H0 told (σ.set i x) H :=
  ⟨by rw [List.length_set]; exact I.len, by rw [List.getElem?_set_ne (by omega)]; exact I.s0, by rw [List.getElem?_set_ne (by omega)]; exact I.s1, by
    obtain ⟨kv, e, r⟩ := I.s2
    exact ⟨kv, by rw [List.getElem?_set_ne (by omega)]; exact e, r⟩, I.hL, I.tb, I.ex, I.nT⟩
theorem InvH.off (I : InvH K T nm L H0 told σ H) (x : Off T L H H') : InvH K T nm L H0 told σ H' :=
  ⟨I.len, I.s0, I.s1, by
    obtain ⟨kv, e, r⟩ := I.s2
    exact ⟨kv, e, r.ex x.ex (tb_era I.nT I.tb)⟩, x.at' _ I.hL, tb_unera (x.ex.tb (tb_era I.nT I.tb)), I.ex.trans x.ex, I.nT⟩
theorem InvH.fill (I : InvH K T nm L H0 told σ H) (y : V) : InvH K T nm L H0 (told ++ [y]) σ (upd H L (.lst (told ++ [y]))) :=
  ⟨I.len, I.s0, I.s1, by
    obtain ⟨kv, e, r⟩ := I.s2
    exact ⟨kv, e, r.ex Ex.fill (tb_era I.nT I.tb)⟩, upd_same, tb_unera (Ex.fill.tb (tb_era I.nT I.tb)), I.ex.trans Ex.fill, I.nT⟩
theorem slot_set (h : σ.length = 8) {i : Nat} (hi : i < 8) (x : Option V) : (σ.set i x)[i]? = some x := List.getElem?_set_self (by omega)
end
def dTold (nm : Str) : PyData := .list [.tuple [.str "unset", .str nm, .int 0], .str "program", .tuple [.str "kind", .str nm, .int 0], .str "kinds", .str "kind", .bool true]
theorem told_shaped {nm : Str} (h : PySem.PyData.strOk nm = true) : SeqAt.shaped (dTold nm) = true := by
  unfold SeqAt.shaped dTold
  have e : PyData.canLay0 (.list [.tuple [.str "unset", .str nm, .int 0], .str "program", .tuple [.str "kind", .str nm, .int 0], .str "kinds", .str "kind", .bool true]) = (PyData.strOk "unset" && (PyData.strOk nm && true) && (PyData.strOk "program" && (PyData.strOk "kind" && (PyData.strOk nm && true) && (PyData.strOk "kinds" && (PyData.strOk "kind" && true))))) := by
    simp [PyData.canLay0, PyData.canLayAll0]
  rw [e, h]
  simp only [PyData.depth, PyData.depthAll]
  rw [show PyData.strOk "unset" = true by decide +kernel, show PyData.strOk "program" = true by decide +kernel, show PyData.strOk "kind" = true by decide +kernel, show PyData.strOk "kinds" = true by decide +kernel]
  rfl
theorem told_eqv {nm : Str} : PyData.eqv (dTold nm) (dTold nm) = true := by simp [dTold, PyData.eqv, PyData.eqvAll]
/-- an error's field, of what was told -/
def What (K : PySem.W.Frag) (L : Addr) (H : Hp) (q : Addr) (z nm : Str) : Prop := SqT K (era L H) q [.str z, .str nm, .int 0]
theorem What.ex {L q : Addr} {H H' : Hp} {z nm : Str} (h : What K L H q z nm) (x : Ex T (era L H) (era L H')) (t : TbOk T (era L H)) : What K L H' q z nm := x.sqT t h
theorem ok_hand {f cN cB c1 c2 fI aC aR aT aK : Addr} {fd fdI dC dR dT dK : FuncData} {msg : Str} (FN : Fun K "_law_by_hand" "_law_by_hand" sHand f fd) (TN : SI.OwnTxt P K mg "NotChecked" "what" msg cN fI fdI)
    (gB : mg "BadProgram" = some (.ref cB)) (g1 : mg "BadKinds" = some (.ref c1)) (g2 : mg "BadKind" = some (.ref c2)) (EX : ExmH K cN cB c1 c2)
    (GC : FnOk P w K mg base (L2.CX P w) 24 aC dC ["program"] (spChecked K T cB cN)) (mC : mg "checked" = some (.ref aC)) (kC : PySem.W.keepIn K (.ref aC) = true) (bC : Binds K dC ["program"] [])
    (GR : FnOk P w K mg base (L2.CX P w) 25 aR dR ["program"] (spRegs K T cB cN)) (mR : mg "registers" = some (.ref aR)) (kR : PySem.W.keepIn K (.ref aR) = true) (bR : Binds K dR ["program"] [])
    (GT : FnOk P w K mg base (L2.CX P w) 20 aT dT ["kinds", "kind", "thing"] (spTree K T c1 c2)) (mT : mg "is_tree" = some (.ref aT)) (kT : PySem.W.keepIn K (.ref aT) = true) (bT : Binds K dT ["kinds", "kind", "thing"] [])
    (GK : FnOk P w K mg base (L2.CX P w) 23 aK dK ["program"] (spCheck K T cB)) (mK : mg "check" = some (.ref aK)) (kK : PySem.W.keepIn K (.ref aK) = true) (bK : Binds K dK ["program"] []) :
    FnOk P w K mg base CX0 26 f fd ["name"] (spHand T) := by
  refine FN.ok scHand (fun vs H Q E h => ?_) (fun cdv A outer s H vs Q E hr h => ?_)
  · obtain ⟨nm, rfl, _⟩ := h
    rfl
  · obtain ⟨nm, rfl, low, l10, sok, tb, k⟩ := h
    have St : Stays K T (preH K nm) := stays_h
    have St0 : Stays K T (fun _ _ _ => True) := ⟨fun _ _ _ _ _ _ _ => trivial⟩
    have hN : ∀ L σ G, preH K nm L σ G → ∃ v, σ[0]? = some (some v) ∧ Rp K G v (.str nm) := fun _ _ _ p => ⟨_, p.1, .str _ (by omega)⟩
    have hK : ∀ L σ G, preH K nm L σ G → ∃ v, σ[2]? = some (some v) ∧ Rp K G v dKinds := fun _ _ _ p => p.2
    have hu : (A.deeper (envOfC "_law_by_hand" (defScope sHand) s.heap.objs.size f cdv)).units + 64 < cLine := by
      have := hr.un
      omega
    refine ⟨_, pss_cons (ps_par (i := 1) (j := 2) rfl scHand.nd rfl rfl (by decide) rfl rfl (pa_cons (pe_lst pa_nil) (pa_cons (pd_tup (pd_cons St0 (pd_tup (pd_cons St0 (pd_c (v := .str "List") pe_str (fun _ => .str _ (by decide +kernel))) (pd_cons St0 (pd_tup (pd_cons St0 (pd_tup (pd_cons St0 (pd_c (v := .str "End") pe_str (fun _ => .str _ (by decide +kernel))) (pd_cons St0 (pd_tup pd_nil (by show 0 ≤ sizeLine; decide)) pd_nil)) (by show 2 ≤ sizeLine; decide)) (pd_cons St0 (pd_tup (pd_cons St0 (pd_c (v := .str "Cell") pe_str (fun _ => .str _ (by decide +kernel))) (pd_cons St0 (pd_tup (pd_cons St0 (pd_c (v := .str "number") pe_str (fun _ => .str _ (by decide +kernel))) (pd_cons St0 (pd_c (v := .str "List") pe_str (fun _ => .str _ (by decide +kernel))) pd_nil)) (by show 2 ≤ sizeLine; decide)) pd_nil)) (by show 2 ≤ sizeLine; decide)) pd_nil)) (by show 2 ≤ sizeLine; decide)) pd_nil)) (by show 2 ≤ sizeLine; decide)) pd_nil) (by show 1 ≤ sizeLine; decide)) pa_nil)) (by rfl))
      (pss_cons (ps_for PassesOwn.never rfl (pi_list (pd_lst (pd_cons St (pd_tup (pd_cons St (pd_var (pv 2) hK) (pd_cons St (pd_tup (pd_cons St (pd_tup (pd_cons St (pd_var (pv 0) hN) (pd_cons St (pd_tup pd_nil (by show 0 ≤ sizeLine; decide)) (pd_cons St (pd_c (v := .str "number") pe_str (fun _ => .str _ (by decide +kernel))) (pd_cons St (pd_tup (pd_cons St (pd_tup (pd_cons St (pd_c (v := .str "give") pe_str (fun _ => .str _ (by decide +kernel))) (pd_cons St (pd_c (v := .int 3) pe_int (fun _ => .int _)) pd_nil)) (by show 2 ≤ sizeLine; decide)) pd_nil) (by show 1 ≤ sizeLine; decide)) pd_nil)))) (by show 4 ≤ sizeLine; decide)) pd_nil) (by show 1 ≤ sizeLine; decide)) pd_nil)) (by show 2 ≤ sizeLine; decide)) (pd_cons St (pd_tup (pd_cons St (pd_var (pv 2) hK) (pd_cons St (pd_tup pd_nil (by show 0 ≤ sizeLine; decide)) pd_nil)) (by show 2 ≤ sizeLine; decide)) pd_nil)) (by show 2 ≤ sizeLine; decide))) (pg_name (i := 3) scHand.nd rfl (.inl rfl)) (pss_one (TX.ps_try_mix rfl rfl scHand.nd takes_none5 (fun W pn xe tk _ => pss_one (ps_expr (pe_app (K := K) rfl (pv 1) (pa_cons (pe_callS GC (hr.mono (by decide)) (by rfl) mC kC bC (fun σ => passAt tk σ) (pa_cons (pv 3) pa_nil)) pa_nil)))) (TX.Clauses.named (i := 4) ⟨by rfl, by decide, .inl TN.gC⟩ rfl rfl (fun a oe cl dd pn hz hf => pss_one (ps_expr (pe_app (K := K) rfl (pv 1) (pa_cons (SI.pe_field_held TN hz hf (pv 4)) pa_nil)))) (TX.Clauses.plain ⟨by rfl, by decide, .inl gB⟩ (fun a oe cl dd pn hz hf => pss_one (ps_expr (pe_app (K := K) rfl (pv 1) (pa_cons pe_str pa_nil)))) .nil)))))
      (pss_cons (TX.ps_try_mix rfl rfl scHand.nd takes_none5 (fun W pn xe tk _ => pss_one (ps_expr (pe_app (K := K) rfl (pv 1) (pa_cons (pe_callS GR (hr.mono (by decide)) (by rfl) mR kR bR (fun σ => passAt tk σ) (pa_cons (pd_tup (pd_cons St (pd_var (pv 2) hK) (pd_cons St (pd_tup (pd_cons St (pd_tup (pd_cons St (pd_var (pv 0) hN) (pd_cons St (pd_tup (pd_cons St (pd_c (v := .str "Tree") pe_str (fun _ => .str _ (by decide +kernel))) pd_nil) (by show 1 ≤ sizeLine; decide)) (pd_cons St (pd_c (v := .str "List") pe_str (fun _ => .str _ (by decide +kernel))) (pd_cons St (pd_tup (pd_cons St (pd_tup (pd_cons St (pd_c (v := .str "give") pe_str (fun _ => .str _ (by decide +kernel))) (pd_cons St (pd_c (v := .int 0) pe_int (fun _ => .int _)) pd_nil)) (by show 2 ≤ sizeLine; decide)) pd_nil) (by show 1 ≤ sizeLine; decide)) pd_nil)))) (by show 4 ≤ sizeLine; decide)) pd_nil) (by show 1 ≤ sizeLine; decide)) pd_nil)) (by show 2 ≤ sizeLine; decide)) pa_nil)) pa_nil)))) (TX.Clauses.named (i := 4) ⟨by rfl, by decide, .inl TN.gC⟩ rfl rfl (fun a oe cl dd pn hz hf => pss_one (ps_expr (pe_app (K := K) rfl (pv 1) (pa_cons (SI.pe_field_held TN hz hf (pv 4)) pa_nil)))) .nil))
      (pss_cons (ps_for PassesOwn.never rfl (pi_list (pd_lst (pd_cons St (pd_tup (pd_cons St (pd_head (pv 2) pe_int rfl hK (fun _ _ => rfl)) (pd_cons St (pd_c (v := .str "List") pe_str (fun _ => .str _ (by decide +kernel))) pd_nil)) (by show 2 ≤ sizeLine; decide)) (pd_cons St (pd_tup (pd_cons St (pd_var (pv 2) hK) (pd_cons St (pd_c (v := .str "Cell") pe_str (fun _ => .str _ (by decide +kernel))) pd_nil)) (by show 2 ≤ sizeLine; decide)) (pd_cons St (pd_tup (pd_cons St (pd_var (pv 2) hK) (pd_cons St (pd_c (v := .str "List") pe_str (fun _ => .str _ (by decide +kernel))) pd_nil)) (by show 2 ≤ sizeLine; decide)) pd_nil))) (by show 3 ≤ sizeLine; decide))) (pg_two (K := K) (i := 5) (j := 6) rfl rfl scHand.nd rfl rfl rfl rfl) (pss_one (TX.ps_try_mix rfl rfl scHand.nd takes_none5 (fun W pn xe tk _ => pss_one (ps_expr (pe_app (K := K) rfl (pv 1) (pa_cons (pe_callS GT (hr.mono (by decide)) (by rfl) mT kT bT (fun σ => passAt tk σ) (pa_cons (pv 5) (pa_cons (pv 6) (pa_cons (pd_tup (pd_cons St (pd_c (v := .str "Cell") pe_str (fun _ => .str _ (by decide +kernel))) (pd_cons St (pd_c (v := .int 5) pe_int (fun _ => .int _)) (pd_cons St (pd_c (v := .str "End") pe_str (fun _ => .str _ (by decide +kernel))) pd_nil))) (by show 3 ≤ sizeLine; decide)) pa_nil)))) pa_nil)))) (TX.Clauses.plain ⟨by rfl, by decide, .inl g1⟩ (fun a oe cl dd pn hz hf => pss_one (ps_expr (pe_app (K := K) rfl (pv 1) (pa_cons pe_str pa_nil)))) (TX.Clauses.plain ⟨by rfl, by decide, .inl g2⟩ (fun a oe cl dd pn hz hf => pss_one (ps_expr (pe_app (K := K) rfl (pv 1) (pa_cons pe_str pa_nil)))) .nil)))))
      (pss_cons (ps_set (i := 7) scHand.nd rfl (.inl rfl) (pd_lst (pd_cons St (pd_tup (pd_cons St (pd_c (v := .str "unset") pe_str (fun _ => .str _ (by decide +kernel))) (pd_cons St (pd_var (pv 0) hN) (pd_cons St (pd_c (v := .int 0) pe_int (fun _ => .int _)) pd_nil))) (by show 3 ≤ sizeLine; decide)) (pd_cons St (pd_c (v := .str "program") pe_str (fun _ => .str _ (by decide +kernel))) (pd_cons St (pd_tup (pd_cons St (pd_c (v := .str "kind") pe_str (fun _ => .str _ (by decide +kernel))) (pd_cons St (pd_var (pv 0) hN) (pd_cons St (pd_c (v := .int 0) pe_int (fun _ => .int _)) pd_nil))) (by show 3 ≤ sizeLine; decide)) (pd_cons St (pd_c (v := .str "kinds") pe_str (fun _ => .str _ (by decide +kernel))) (pd_cons St (pd_c (v := .str "kind") pe_str (fun _ => .str _ (by decide +kernel))) (pd_cons St (pd_c (v := .bl true) pe_bl (fun _ => .bl _)) pd_nil)))))) (by show 6 ≤ sizeLine; decide)))
      (pss_one (ps_ret (pe_and (pe_cmpR (op_eqD hu) (pv 1) (pv 7) (nomark _)) (pe_one (pe_cmpR op_isN (pe_callS GK (hr.mono (by decide)) (by rfl) mK kK bK (fun σ => passAt takes_none5 σ) (pa_cons (pd_tup (pd_cons St (pd_var (pv 2) hK) (pd_cons St (pd_tup (pd_cons St (pd_tup (pd_cons St (pd_var (pv 0) hN) (pd_cons St (pd_tup (pd_cons St (pd_c (v := .str "List") pe_str (fun _ => .str _ (by decide +kernel))) pd_nil) (by show 1 ≤ sizeLine; decide)) (pd_cons St (pd_c (v := .str "List") pe_str (fun _ => .str _ (by decide +kernel))) (pd_cons St (pd_tup (pd_cons St (pd_tup (pd_cons St (pd_c (v := .str "give") pe_str (fun _ => .str _ (by decide +kernel))) (pd_cons St (pd_c (v := .int 0) pe_int (fun _ => .int _)) pd_nil)) (by show 2 ≤ sizeLine; decide)) pd_nil) (by show 1 ≤ sizeLine; decide)) pd_nil)))) (by show 4 ≤ sizeLine; decide)) pd_nil) (by show 1 ≤ sizeLine; decide)) pd_nil)) (by show 2 ≤ sizeLine; decide)) pa_nil)) pe_non (nomark _)))))))))), ?_⟩
    refine ⟨by show 0 ≤ sizeLine; decide, fun L hL => ?_⟩
    have nT : L ∉ T := fun z => by
      obtain ⟨ps, e, _⟩ := tb L z
      rw [hL] at e
      cases e
    have n1 : (upd H L (.lst [])) L ≠ none := by rw [upd_same]; simp
    have t1 : TbOk T (upd H L (.lst [])) := (Ex.new (T := T) hL).tb tb
    refine ⟨L, nT, n1, t1, trivial, fun kv H1 x1 rk => ⟨_, _, rfl, ?_⟩⟩
    have I : InvH K T nm L H [] [some (.str nm), some (.ref L), some kv, none, none, none, none, none] H1 :=
      ⟨rfl, rfl, rfl, ⟨kv, rfl, rk⟩, x1.at' _ upd_same, tb_unera (x1.ex.tb (tb_era nT t1)), (Ex.fill (T := T)).trans x1.ex, nT⟩
    revert I
    show _ → tSeq _ _ _ [some (.str nm), some (.ref L), some kv, none, none, none, none, none] H1
    generalize [some (V.str nm), some (.ref L), some kv, none, none, none, none, none] = σ
    intro I
    have P1 := one_of (nm := nm) (ps := []) (res := "number") (zs := []) (r := 3) low (by decide +kernel) (by decide +kernel) (by decide +kernel) rfl
    have P2 := one_of (nm := nm) (ps := [.str "Tree"]) (res := "List") (zs := ["Tree"]) (r := 0) low (by decide +kernel) (by decide +kernel) (by decide +kernel) rfl
    have P3 := one_of (nm := nm) (ps := [.str "List"]) (res := "List") (zs := ["List"]) (r := 0) low (by decide +kernel) (by decide +kernel) (by decide +kernel) rfl
    have tell1 : checkTell ksH [] "number" 3 = some "unset" := by decide +kernel
    have tell2 : checkTell ksH ["Tree"] "List" 0 = some "kind" := by decide +kernel
    have tell3 : checkTell ksH ["List"] "List" 0 = none := by decide +kernel
    have wf : ∀ {G : Hp} {q : Addr} {z : Str} {o : HO}, What K L G q z nm → TbOk T G → What K L (upd G L o) q z nm := fun h t => What.ex (T := T) h Ex.fill (tb_era nT t)
    -- the first loop
    refine ⟨L, nT, I.ne, I.tb, I.pre, fun v H2 x2 r2 => ?_⟩
    have I2 := I.off x2
    cases r2 with
    | @lst a xs _ hs rs =>
    obtain ⟨v1, v2, rfl, r1, r2⟩ : ∃ v1 v2, xs = [v1, v2] ∧ Rp K (era L H2) v1 (dProg nm [] "number" 3) ∧ Rp K (era L H2) v2 (.tuple [dKinds, .tuple []]) := by
      cases rs with
      | cons p1 q1 => cases q1 with
        | cons p2 q2 =>
          cases q2
          exact ⟨_, _, rfl, p1, p2⟩
    have un : ∀ {G : Hp} {b : Addr} {ys : List V}, SqL K (era L G) b ys → SqL K G b ys := fun h => h.imp (rd_mono fun _ _ e => (era_some e).2) id
    refine ⟨a, rfl, ⟨_, un hs⟩, for_it (walk_list (xs := [v1, v2])) (fun i σ G => ∃ told, InvH K T nm L H told σ G ∧ Ex T (era L H2) (era L G) ∧ match i with
        | 0 => told = []
        | 1 => ∃ q, told = [.ref q] ∧ What K L G q "unset" nm
        | _ => ∃ q, told = [.ref q, .str "program"] ∧ What K L G q "unset" nm) ⟨[], I2, Ex.refl, rfl⟩ (fun i σ G _ ⟨told, J, x, _⟩ => un (x.sqL (tb_era nT I2.tb) hs)) (fun i x σ G G2 hi ⟨told, J, xG, ht⟩ y => ?_) (fun σ G ⟨told, J, xG, ht⟩ => ?_)⟩
    · obtain ⟨rfl, hx⟩ := y
      have tG := tb_era nT I2.tb
      have J3 := J.set (i := 3) (by decide) (some x)
      have l3 := slot_set J.len (i := 3) (by decide) (some x)
      match i, hi, ht, hx with
      | 0, _, ht, hx =>
        cases hx
        subst ht
        refine ⟨.ref L, J3.s1, .inl ⟨rfl, _, .inl (.inl J3.hL)⟩, _, l3, _, dProg nm [] "number" 3, rfl, (r1.ex xG tG).un, J3.tb, (fun z => by rw [P1.1] at z; cases z), fun _ => ⟨ksH, nm, "number", [], 3, P1.2, (fun z => by rw [tell1] at z; cases z), fun z hz H4 dx x4 hw => ?_⟩⟩
        rw [tell1] at hz
        cases hz
        obtain ⟨q, hd, hq⟩ := hw
        have J4 := J3.off (Off.of nT x4)
        refine ⟨true, EX.nn, fun _ ae hae => ?_, fun z => nomatch z⟩
        have J5 := J4.set (i := 4) (by decide) (some (.ref ae))
        refine ⟨.ref L, J5.s1, .inl ⟨rfl, _, .inl (.inl J5.hL)⟩, .ref ae, slot_set J4.len (by decide) _, rfl, rfl, dx, .ref q, rfl, hd, L, [], _, rfl, rfl, J5.hL, by decide, ?_⟩
        have J6 := (J5.fill (.ref q)).set (i := 4) (by decide) none
        exact ⟨_, J6, xG.trans ((Off.of nT x4).ex.trans Ex.fill), q, rfl, wf (sqT_era J5.hL hq) J5.tb⟩
      | 1, _, ht, hx =>
        cases hx
        obtain ⟨q, rfl, hq⟩ := ht
        refine ⟨.ref L, J3.s1, .inl ⟨rfl, _, .inl (.inl J3.hL)⟩, _, l3, _, .tuple [dKinds, .tuple []], rfl, (r2.ex xG tG).un, J3.tb, fun _ H4 x4 => ?_, fun z => by rw [show isProgram (.tuple [dKinds, .tuple []]) = false by decide +kernel] at z; cases z⟩
        have J4 := J3.off (Off.of nT x4)
        refine ⟨false, EX.bn, (fun z => nomatch z), fun _ => ⟨true, EX.bb, fun _ ae hae => ?_, fun z => nomatch z⟩⟩
        refine ⟨.ref L, J4.s1, .inl ⟨rfl, _, .inl (.inl J4.hL)⟩, L, _, _, rfl, rfl, J4.hL, (by show 1 < sizeLine; decide), ?_⟩
        exact ⟨_, J4.fill _, xG.trans ((Off.of nT x4).ex.trans Ex.fill), q, rfl, wf (What.ex (T := T) hq (Off.of nT x4).ex (tb_era nT J3.tb)) J4.tb⟩
      | i + 2, hi, _, _ => exact absurd hi (by simp)
    · obtain ⟨q, rfl, hq⟩ := ht
      have tG := tb_era nT I2.tb
      -- registers
      refine ⟨.ref L, J.s1, .inl ⟨rfl, _, .inl (.inl J.hL)⟩, L, nT, J.ne, J.tb, J.pre, fun v5 H5 x5 r5 => ?_⟩
      have J5 := J.off x5
      have q5 := What.ex (T := T) hq x5.ex (tb_era nT J.tb)
      refine ⟨v5, dProg nm [.str "Tree"] "List" 0, rfl, r5.un, J5.tb, (fun z => by rw [P2.1] at z; cases z), fun _ => ⟨ksH, nm, "List", ["Tree"], 0, "kind", P2.2, tell2, fun H6 dx x6 hw => ?_⟩⟩
      obtain ⟨q2, hd2, hq2⟩ := hw
      have J6 := J5.off (Off.of nT x6)
      have q6 := What.ex (T := T) q5 (Off.of nT x6).ex (tb_era nT J5.tb)
      refine ⟨true, EX.nn, fun _ ae hae => ?_, fun z => nomatch z⟩
      have J7 := J6.set (i := 4) (by decide) (some (.ref ae))
      refine ⟨.ref L, J7.s1, .inl ⟨rfl, _, .inl (.inl J7.hL)⟩, .ref ae, slot_set J6.len (by decide) _, rfl, rfl, dx, .ref q2, rfl, hd2, L, _, _, rfl, rfl, J7.hL, (by show 2 < sizeLine; decide), ?_⟩
      have J8 : InvH K T nm L H [.ref q, .str "program", .ref q2] ((σ.set 4 (some (.ref ae))).set 4 none) (upd H6 L (.lst [.ref q, .str "program", .ref q2])) := (J7.fill (.ref q2)).set (i := 4) (by decide) none
      have w1 := wf (o := .lst [.ref q, .str "program", .ref q2]) q6 J7.tb
      have w2 := wf (o := .lst [.ref q, .str "program", .ref q2]) (sqT_era J7.hL hq2) J7.tb
      -- the second loop
      refine ⟨L, nT, J8.ne, J8.tb, J8.pre, fun v9 H9 x9 r9 => ?_⟩
      have J9 := J8.off x9
      have w19 := What.ex (T := T) w1 x9.ex (tb_era nT J8.tb)
      have w29 := What.ex (T := T) w2 x9.ex (tb_era nT J8.tb)
      have t9 := tb_era nT J9.tb
      cases r9 with
      | @lst b ys _ hs9 rs9 =>
      obtain ⟨u1, u2, u3, rfl, s1, s2, s3⟩ : ∃ u1 u2 u3, ys = [u1, u2, u3] ∧ Rp K (era L H9) u1 (.tuple [dHead, .str "List"]) ∧ Rp K (era L H9) u2 (.tuple [dKinds, .str "Cell"]) ∧ Rp K (era L H9) u3 (.tuple [dKinds, .str "List"]) := by
        cases rs9 with
        | cons p1 q1 => cases q1 with
          | cons p2 q2 => cases q2 with
            | cons p3 q3 =>
              cases q3
              exact ⟨_, _, _, rfl, p1, p2, p3⟩
      refine ⟨b, rfl, ⟨_, un hs9⟩, for_it (walk_list (xs := [u1, u2, u3])) (fun i σ G => InvH K T nm L H ([.ref q, .str "program", .ref q2] ++ ([.str "kinds", .str "kind", .bl true] : List V).take i) σ G ∧ Ex T (era L H9) (era L G)) ⟨J9, Ex.refl⟩ (fun i σ G _ ⟨_, x⟩ => un (x.sqL t9 hs9)) (fun i x σ G G2 hi ⟨JG, xG9⟩ y => ?_) (fun σ G ⟨JG, xG9⟩ => ?_)⟩
      · obtain ⟨rfl, hx⟩ := y
        have each : ∀ (d1 : PyData) (z : Str), Rp K (era L H9) x (.tuple [d1, .str z]) → ∃ c y1, x = .ref c ∧ SqT K G2 c [y1, .str z] ∧ Rp K (era L G2) y1 d1 ∧ z.length ≤ 65536 := fun d1 z r => by
          cases r.ex xG9 t9 with
          | tup h rr =>
            cases rr with
            | cons p1 rr => cases rr with
              | cons p2 rr =>
                cases rr
                cases p2 with
                | str _ hz => exact ⟨_, _, rfl, h.imp (rd_mono fun _ _ e => (era_some e).2) id, p1, hz⟩
        have kT1 : isKinds dKinds = true := by decide +kernel
        have kF1 : isKinds dHead = false := by decide +kernel
        match i, hi, hx, JG with
        | 0, _, hx, JG =>
          cases hx
          obtain ⟨c, y1, rfl, hc, ry, hz⟩ := each _ _ s1
          have K1 := (JG.set (i := 5) (by decide) (some y1)).set (i := 6) (by decide) (some (.str "List"))
          have l5 : ((σ.set 5 (some y1)).set 6 (some (.str "List")))[5]? = some (some y1) := by
            rw [List.getElem?_set_ne (by decide)]
            exact slot_set JG.len (by decide) _
          have l6 := slot_set (σ := σ.set 5 (some y1)) (by rw [List.length_set]; exact JG.len) (i := 6) (by decide) (some (.str "List"))
          refine ⟨c, _, rfl, hc, rfl, _, _, rfl, _, _, rfl, rfl, ?_⟩
          refine ⟨.ref L, K1.s1, .inl ⟨rfl, _, .inl (.inl K1.hL)⟩, y1, l5, _, l6, L, nT, K1.ne, K1.tb, K1.pre, fun v3 H5 x5 r5 => ?_⟩
          have K5 := K1.off x5
          refine ⟨y1, .str "List", v3, dHead, .str "List", _, rfl, (ry.ex x5.ex (tb_era nT K1.tb)).un, .str _ hz, r5.un, K5.tb, fun _ H6 x6 => ?_, (fun z => by rw [kF1] at z; cases z), fun z h1 => by rw [kF1] at h1; cases h1⟩
          have K6 := K5.off (Off.of nT x6)
          refine ⟨true, EX.kk, fun _ ae hae => ?_, fun z => nomatch z⟩
          refine ⟨.ref L, K6.s1, .inl ⟨rfl, _, .inl (.inl K6.hL)⟩, L, _, _, rfl, rfl, K6.hL, (by show 3 < sizeLine; decide), ?_⟩
          exact ⟨K6.fill _, xG9.trans (x5.ex.trans ((Off.of nT x6).ex.trans Ex.fill))⟩
        | 1, _, hx, JG =>
          cases hx
          obtain ⟨c, y1, rfl, hc, ry, hz⟩ := each _ _ s2
          have K1 := (JG.set (i := 5) (by decide) (some y1)).set (i := 6) (by decide) (some (.str "Cell"))
          have l5 : ((σ.set 5 (some y1)).set 6 (some (.str "Cell")))[5]? = some (some y1) := by
            rw [List.getElem?_set_ne (by decide)]
            exact slot_set JG.len (by decide) _
          have l6 := slot_set (σ := σ.set 5 (some y1)) (by rw [List.length_set]; exact JG.len) (i := 6) (by decide) (some (.str "Cell"))
          refine ⟨c, _, rfl, hc, rfl, _, _, rfl, _, _, rfl, rfl, ?_⟩
          refine ⟨.ref L, K1.s1, .inl ⟨rfl, _, .inl (.inl K1.hL)⟩, y1, l5, _, l6, L, nT, K1.ne, K1.tb, K1.pre, fun v3 H5 x5 r5 => ?_⟩
          have K5 := K1.off x5
          refine ⟨y1, .str "Cell", v3, dKinds, .str "Cell", _, rfl, (ry.ex x5.ex (tb_era nT K1.tb)).un, .str _ hz, r5.un, K5.tb, (fun z => by rw [kT1] at z; cases z), fun _ _ H6 x6 => ?_, fun z _ h2 => by rw [show isKindName (kindsOf dKinds) (.str "Cell") = none by decide +kernel] at h2; cases h2⟩
          have K6 := K5.off (Off.of nT x6)
          refine ⟨false, EX.dk, (fun z => nomatch z), fun _ => ⟨true, EX.dd, fun _ ae hae => ?_, fun z => nomatch z⟩⟩
          refine ⟨.ref L, K6.s1, .inl ⟨rfl, _, .inl (.inl K6.hL)⟩, L, _, _, rfl, rfl, K6.hL, (by show 4 < sizeLine; decide), ?_⟩
          exact ⟨K6.fill _, xG9.trans (x5.ex.trans ((Off.of nT x6).ex.trans Ex.fill))⟩
        | 2, _, hx, JG =>
          cases hx
          obtain ⟨c, y1, rfl, hc, ry, hz⟩ := each _ _ s3
          have K1 := (JG.set (i := 5) (by decide) (some y1)).set (i := 6) (by decide) (some (.str "List"))
          have l5 : ((σ.set 5 (some y1)).set 6 (some (.str "List")))[5]? = some (some y1) := by
            rw [List.getElem?_set_ne (by decide)]
            exact slot_set JG.len (by decide) _
          have l6 := slot_set (σ := σ.set 5 (some y1)) (by rw [List.length_set]; exact JG.len) (i := 6) (by decide) (some (.str "List"))
          refine ⟨c, _, rfl, hc, rfl, _, _, rfl, _, _, rfl, rfl, ?_⟩
          refine ⟨.ref L, K1.s1, .inl ⟨rfl, _, .inl (.inl K1.hL)⟩, y1, l5, _, l6, L, nT, K1.ne, K1.tb, K1.pre, fun v3 H5 x5 r5 => ?_⟩
          have K5 := K1.off x5
          refine ⟨y1, .str "List", v3, dKinds, .str "List", .tuple [.str "Cell", .int 5, .str "End"], rfl, (ry.ex x5.ex (tb_era nT K1.tb)).un, .str _ hz, r5.un, K5.tb, (fun z => by rw [kT1] at z; cases z), (fun _ h2 => by rw [show isKindName (kindsOf dKinds) (.str "List") = some "List" by decide +kernel] at h2; cases h2), fun z _ h2 H6 x6 => ?_⟩
          rw [show isKindName (kindsOf dKinds) (.str "List") = some "List" by decide +kernel] at h2
          cases h2
          rw [show isSay (ents (kindsOf dKinds)) "List" (.tuple [.str "Cell", .int 5, .str "End"]) = true by decide +kernel]
          have K6 := K5.off (Off.of nT x6)
          refine ⟨L, _, _, rfl, rfl, K6.hL, (by show 5 < sizeLine; decide), ?_⟩
          exact ⟨K6.fill _, xG9.trans (x5.ex.trans ((Off.of nT x6).ex.trans Ex.fill))⟩
        | i + 3, hi, _, _ => exact absurd hi (by simp)
      · have JG : InvH K T nm L H [.ref q, .str "program", .ref q2, .str "kinds", .str "kind", .bl true] σ G := JG
        have w3 := What.ex (T := T) w19 xG9 t9
        have w4 := What.ex (T := T) w29 xG9 t9
        -- due
        refine ⟨L, nT, JG.ne, JG.tb, JG.pre, fun v7 H7 x7 r7 => ?_⟩
        have K7 := (JG.off x7).set (i := 7) (by decide) (some v7)
        have l7 := slot_set JG.len (i := 7) (by decide) (some v7)
        have w5 := What.ex (T := T) w3 x7.ex (tb_era nT JG.tb)
        have w6 := What.ex (T := T) w4 x7.ex (tb_era nT JG.tb)
        have sqU : ∀ {c : Addr} {zs : List V}, SqT K (era L H7) c zs → SqT K H7 c zs := fun h => h.imp (rd_mono fun _ _ e => (era_some e).2) id
        refine ⟨.ref L, K7.s1, v7, l7, dTold nm, dTold nm, ?_, (Rp.un r7).dp rfl, told_shaped sok, told_shaped sok, _, rfl, ?_⟩
        · exact .lst (.inl (.inl K7.hL)) (.cons (.tup (sqU w5) (.cons (.str _) (.cons (.str _) (.cons (.int _) .nil)))) (.cons (.str _) (.cons (.tup (sqU w6) (.cons (.str _) (.cons (.str _) (.cons (.int _) .nil)))) (.cons (.str _) (.cons (.str _) (.cons (.bl _) .nil))))))
        · rw [told_eqv]
          refine iteT ⟨L, nT, K7.ne, K7.tb, K7.pre, fun v10 H10 x10 r10 => ?_⟩
          have K10 := K7.off x10
          refine ⟨v10, dProg nm [.str "List"] "List" 0, rfl, r10.un, K10.tb, (fun z => by rw [P3.1] at z; cases z), fun _ => ⟨ksH, nm, "List", ["List"], 0, P3.2, fun H11 u x11 hu => ?_⟩⟩
          rw [tell3] at hu
          obtain rfl : u = .non := hu
          have K11 := K10.off (Off.of nT x11)
          refine ⟨rfl, ?_⟩
          rw [decide_eq_true rfl]
          exact k _ ⟨fun _ => K11.tb, fun b o e nb => (era_some (K11.ex.keep b o (by rw [era_ne (fun z => by rw [z, hL] at e; cases e)]; exact e) nb)).2⟩
end
end JF
set_option Elab.async false
set_option linter.all false
set_option maxRecDepth 100000
set_option maxHeartbeats 4000000
/-! the names f0 .. f999999; what is shown of the fields -/
namespace JF
open PySem PySem.Spec PyProof.Rows L2 GxR GA TL
theorem ndig_cps (m : Nat) : (Str.ofString (toString (m : Int))).cps.toList = (Nat.toDigits 10 m).map Char.toNat := PySem.W.KIN.signs_num m
def nmOf (m : Nat) : Str := (Str.ofString "f") ++ Str.ofString (toString (m : Int))
theorem nm_cps (m : Nat) : (nmOf m).cps.toList = 102 :: numL m := by
  show ((Str.ofString "f").cps ++ (Str.ofString (toString (m : Int))).cps).toList = _
  rw [Array.toList_append, ndig_cps, show (Str.ofString "f").cps.toList = [102] by decide +kernel]
  rfl
theorem len_of (z : Str) : z.length = z.cps.toList.length := by simp [Str.length]
theorem six {m : Nat} (h : m < 1000000) : (numL m).length ≤ 6 := numL_len (by decide) (by simpa using h)
theorem nm_len {m : Nat} (h : m < 1000000) : (nmOf m).length ≤ 7 := by
  rw [len_of, nm_cps, List.length_cons]
  have := six h
  omega
theorem figs : ∀ c, c < 58 → 48 ≤ c → nameSign c = true := by decide +kernel
theorem nm_signs (m : Nat) : (nmOf m).cps.toList.all nameSign = true := by
  rw [nm_cps, List.all_cons, show nameSign 102 = true by decide +kernel, Bool.true_and, List.all_eq_true]
  intro c hc
  have := numL_digits m c hc
  exact figs c (by omega) (by omega)
def oddWord (z : Str) : Bool := match z.cps.toList[1]? with
  | some c => !(decide (48 ≤ c) && decide (c ≤ 57))
  | none => true
theorem nm_odd (m : Nat) : oddWord (nmOf m) = false := by
  have hn := numL_ne m
  unfold oddWord
  rw [nm_cps]
  cases e : numL m with
  | nil => exact absurd e hn
  | cons c r =>
    have := numL_digits m c (by rw [e]; exact List.mem_cons_self)
    show (!(decide (48 ≤ c) && decide (c ≤ 57))) = false
    rw [decide_eq_true this.1, decide_eq_true this.2]
    rfl
theorem nm_word (m : Nat) : inV (.str (nmOf m)) wordsV = false := by
  have all : (["case", "drop", "entry", "free", "fun", "give", "hold", "in", "into", "kind", "number"] : List Str).all oddWord = true := by decide +kernel
  unfold wordsV
  rw [inV_strs]
  refine decide_eq_false fun z => ?_
  have := List.all_eq_true.mp all _ z
  rw [nm_odd] at this
  cases this
theorem nm_low {m : Nat} (h : m < 1000000) : isLow (.str (nmOf m)) = true := by
  show ((decide (1 ≤ (nmOf m).length) && decide ((nmOf m).length ≤ 10)) && (firstIn lowSigns (nmOf m) && (nmOf m).cps.toList.all nameSign) && (!inV (.str (nmOf m)) wordsV && !asCell (nmOf m))) = true
  have l1 : 1 ≤ (nmOf m).length := by
    rw [len_of, nm_cps, List.length_cons]
    omega
  have l2 := nm_len h
  rw [decide_eq_true l1, decide_eq_true (show (nmOf m).length ≤ 10 by omega), nm_signs, nm_word]
  have f1 : firstIn lowSigns (nmOf m) = true := by
    unfold firstIn
    rw [nm_cps]
    show decide (102 ∈ lowSigns.cps.toList) = true
    decide +kernel
  have f2 : asCell (nmOf m) = false := by
    unfold asCell
    rw [nm_cps]
    show (decide (102 ∈ (Str.ofString "rt").cps.toList) && _) = false
    rw [show decide (102 ∈ (Str.ofString "rt").cps.toList) = false by decide +kernel]
    rfl
  rw [f1, f2]
  rfl
theorem nm_ok (m : Nat) : PySem.PyData.strOk (nmOf m) = true := by
  unfold PySem.PyData.strOk
  rw [← Array.all_toList, List.all_eq_true]
  intro c hc
  rw [nm_cps] at hc
  rcases List.mem_cons.mp hc with z | z
  · subst z
    decide
  · have := numL_digits m c z
    exact decide_eq_true (by omega)
theorem int_short {i : Int} (h0 : 0 ≤ i) (h1 : i < 1000000) : PyData.intsShort 13 (.int i) = true := by
  obtain ⟨m, rfl⟩ := Int.eq_ofNat_of_zero_le h0
  refine decide_eq_true ?_
  show (Str.ofString (toString (m : Int))).length ≤ 13
  rw [len_of, ndig_cps]
  have := six (m := m) (by omega)
  exact Nat.le_trans this (by decide)
theorem int_log {i : Int} (h0 : 0 ≤ i) (h1 : i < 1000000) : i.natAbs.log2 < 20 := by
  obtain ⟨m, rfl⟩ := Int.eq_ofNat_of_zero_le h0
  by_cases e : m = 0
  · subst e
    decide
  · exact (Nat.log2_lt e).mpr (by omega)
/-- small data -/
structure Sm (d : PyData) (k n : Nat) : Prop where
  lay : d.canLay0 = true
  dep : d.depth ≤ k
  wei : d.weight ≤ n
  sho : d.showable = true
  dic : d.hasDict = false
  fig : d.intsShort 13 = true
structure SmA (ds : List PyData) (k n : Nat) : Prop where
  lay : PyData.canLayAll0 ds = true
  dep : PyData.depthAll ds ≤ k
  wei : PyData.weightAll ds ≤ n
  sho : PyData.showableAll ds = true
  dic : PyData.hasDictAll ds = false
  fig : PyData.intsShortAll 13 ds = true
theorem SmA.nil {k : Nat} : SmA [] k 0 := ⟨rfl, Nat.zero_le _, Nat.le_refl _, rfl, rfl, rfl⟩
theorem SmA.cons {d : PyData} {ds : List PyData} {k a b : Nat} (x : Sm d k a) (y : SmA ds k b) : SmA (d :: ds) k (a + 1 + b) :=
  ⟨by show (_ && _) = true; rw [x.lay, y.lay]; rfl, Nat.max_le.mpr ⟨x.dep, y.dep⟩, by
    show PyData.weight d + 1 + PyData.weightAll ds ≤ _
    have := x.wei
    have := y.wei
    omega, by show (_ && _) = true; rw [x.sho, y.sho]; rfl, by show (_ || _) = false; rw [x.dic, y.dic]; rfl, by show (_ && _) = true; rw [x.fig, y.fig]; rfl⟩
theorem Sm.tup {ds : List PyData} {k n : Nat} (x : SmA ds k n) : Sm (.tuple ds) (k + 1) n := ⟨x.lay, Nat.succ_le_succ x.dep, x.wei, x.sho, x.dic, x.fig⟩
theorem Sm.lst {ds : List PyData} {k n : Nat} (x : SmA ds k n) : Sm (.list ds) (k + 1) n := ⟨x.lay, Nat.succ_le_succ x.dep, x.wei, x.sho, x.dic, x.fig⟩
theorem Sm.str {z : Str} {k : Nat} (h : PySem.PyData.strOk z = true) (l : z.length ≤ 10) : Sm (.str z) k 10 := ⟨h, Nat.zero_le _, l, rfl, rfl, rfl⟩
theorem Sm.int {i : Int} {k : Nat} (h0 : 0 ≤ i) (h1 : i < 1000000) : Sm (.int i) k 20 := by
  have := int_log h0 h1
  refine ⟨rfl, Nat.zero_le _, ?_, decide_eq_true (by omega), rfl, int_short h0 h1⟩
  show (if i == 0 then 0 else i.natAbs.log2 + 1) ≤ 20
  split <;> omega
theorem SmA.figs {k : Nat} : ∀ {ts : List Int}, (∀ t ∈ ts, 0 ≤ t ∧ t < 6) → SmA (ts.map PyData.int) k (21 * ts.length)
  | [], _ => SmA.nil
  | t :: r, h => by
    have a := h t List.mem_cons_self
    have := SmA.cons (k := k) (Sm.int a.1 (by omega)) (SmA.figs (k := k) fun x hx => h x (List.mem_cons_of_mem _ hx))
    rw [List.length_cons, Nat.mul_succ, Nat.add_comm]
    exact this
theorem shows_of {a b c : PyData} {x y z : Nat} (ha : Sm a 8 x) (hb : Sm b 8 y) (hc : Sm c 8 z) (hx : x ≤ 1000) (hy : y ≤ 1000) (hz : z ≤ 1000) : Shows (eight a b c) := by
  have all := Sm.lst (SmA.cons ha (SmA.cons ha (SmA.cons hb (SmA.cons hb (SmA.cons hc (SmA.cons hc (SmA.cons hb (SmA.cons hb SmA.nil))))))))
  refine ⟨all.sho, all.dic, Nat.le_trans all.dep (by decide), Nat.le_trans (shown_le13 (d := eight a b c) ?_ all.fig) (by rw [sizeLine_eq]; decide)⟩
  unfold PyData.layable0
  rw [show PyData.canLay0 (eight a b c) = true from all.lay, decide_eq_true (show PyData.depth (eight a b c) ≤ 64 from Nat.le_trans all.dep (by decide)), Bool.true_and, Bool.true_and]
  exact decide_eq_true (Nat.le_trans all.wei (by omega))
end JF
set_option Elab.async false
set_option linter.all false
set_option maxRecDepth 100000
set_option maxHeartbeats 4000000
namespace JF
open PySem PySem.Spec PyProof.Rows L2 GxR GA
abbrev sLaw : Stmt := topS 96
/-- all but the well's two lists stands as it stood -/
def Kp (p q : Addr) (H H' : Hp) : Prop := ∀ x o, H x = some o → x ≠ p → x ≠ q → H' x = some o
structure LH (T : List Addr) (p q : Addr) (b : Nat) (H : Hp) : Prop where
  w : WellAt q b H p
  tb : TbOk T H
section
variable {K : PySem.W.Frag} {T : List Addr} {p q : Addr} {b : Nat} {H H' : Hp}
theorem LH.off (h : LH T p q b H) {x : Addr} (n : H x = none) : x ≠ p ∧ x ≠ q := by
  obtain ⟨m, c, ts, _, hp, hq, _⟩ := h.w
  exact ⟨fun z => (by rw [z, hp] at n; cases n), fun z => (by rw [z, hq] at n; cases n)⟩
theorem LH.new (h : LH T p q b H) {x : Addr} {o : HO} (n : H x = none) : LH T p q b (upd H x o) := by
  obtain ⟨n1, n2⟩ := h.off n
  obtain ⟨m, c, ts, pq, hp, hq, r⟩ := h.w
  exact ⟨⟨m, c, ts, pq, by rw [upd_ne n1.symm]; exact hp, by rw [upd_ne n2.symm]; exact hq, r⟩, (Ex.new (T := T) n).tb h.tb⟩
theorem LH.draw (h : LH T p q b H) (k : Kp p q H H') (w : WellAt q (b + 1) H' p) : LH T p q (b + 1) H' := by
  obtain ⟨m, c, ts, pq, hp, hq, r⟩ := h.w
  refine ⟨w, fun P hP => ?_⟩
  obtain ⟨ps, e, t⟩ := h.tb P hP
  exact ⟨ps, k _ _ e (fun z => by rw [z, hp] at e; cases e) (fun z => by rw [z, hq] at e; cases e), t⟩
theorem LH.sqT (h : LH T p q b H) (k : Kp p q H H') {x : Addr} {xs : List V} (s : SqT K H x xs) : SqT K H' x xs := by
  obtain ⟨m, c, ts, pq, hp, hq, r⟩ := h.w
  rcases s with (s | ⟨u, s⟩) | s
  · exact .inl (.inl (k _ _ s (fun z => by rw [z, hp] at s; cases s) (fun z => by rw [z, hq] at s; cases s)))
  · exact .inl (.inr ⟨u, k _ _ s (fun z => by rw [z, hp] at s; cases s) (fun z => by rw [z, hq] at s; cases s)⟩)
  · exact .inr s
theorem LH.put (h : LH T p q b H) {x : Addr} {o : HO} (n1 : x ≠ p) (n2 : x ≠ q) (nT : x ∉ T) : LH T p q b (upd H x o) := by
  obtain ⟨m, c, ts, pq, hp, hq, r⟩ := h.w
  refine ⟨⟨m, c, ts, pq, by rw [upd_ne n1.symm]; exact hp, by rw [upd_ne n2.symm]; exact hq, r⟩, fun P hP => ?_⟩
  obtain ⟨ps, e, t⟩ := h.tb P hP
  exact ⟨ps, by rw [upd_ne (fun z => nT (by rw [← z]; exact hP))]; exact e, t⟩
theorem sqT_put {D x : Addr} {acc xs : List V} {o : HO} (hD : H D = some (.lst acc)) (s : SqT K H x xs) : SqT K (upd H D o) x xs := by
  rcases s with (s | ⟨u, s⟩) | s
  · exact .inl (.inl (by rw [upd_ne (fun z => by rw [z, hD] at s; cases s)]; exact s))
  · exact .inl (.inr ⟨u, by rw [upd_ne (fun z => by rw [z, hD] at s; cases s)]; exact s⟩)
  · exact .inr s
theorem LH.notT (h : LH T p q b H) {x : Addr} (n : H x = none) : x ∉ T := fun z => by
  obtain ⟨ps, e, _⟩ := h.tb x z
  rw [n] at e
  cases e
end
theorem atI_of {xs : List V} {r : Int} (h0 : 0 ≤ r) (h1 : r < xs.length) : ∃ v, atI xs r = some v ∧ v ∈ xs := by
  obtain ⟨j, rfl⟩ := Int.eq_ofNat_of_zero_le h0
  have hj : j < xs.length := by omega
  exact ⟨xs[j], atI_nat (j := j) (by simp [hj]), List.getElem_mem hj⟩
theorem pe_tupleOfK {X : Cx} {K : PySem.W.Frag} {a : Expr} {ta : TE} {p pos : Pos} (hK : X.K = K) (hg : Gl X "tuple") (hm : X.mg "tuple" = none) (ha : PE X a ta) (na : starEach [a] X.env = (false, eval a X.env) :: starEach [] X.env := by rfl) : PE X (.Call (.Name "tuple" p) [a] [] pos) (tThen ta (kTup K)) := by
  subst hK
  exact pe_tupleOf hg hm ha na
def falses : List Bool := List.replicate 18 false
/-- the suite of the law's own try -/
def tHeldL (T : List Addr) (ce : Addr) (a : Addr) (cls : Value) (d : Option Addr) : TS := fun D σ H => cls = .ref ce ∧ d = none ∧ tAsg (tCallS (spCls T a none falses) (fun _ => E0) (tCons (tVar 11) tNil)) (gName 10) D σ H
section
variable {P : Program} {w : World} {K : PySem.W.Frag} {mg : Str → Option Value} {base : Heap} {T : List Addr}
theorem scLaw : FnScope ["script", "well", "text", "number", "name", "trouble", "fault", "broken", "way", "value", "told", "e", "k"] ["script"] (defScope sLaw) := ⟨rfl, rfl, rfl, by decide +kernel, rfl, by decide +kernel, by decide +kernel⟩
def spLaw (K : PySem.W.Frag) (T : List Addr) : Sp := fun vs H Q _ => ∃ (a : Addr) (ns : List Int), vs = [.ref a] ∧ SqL K H a (ns.map V.int) ∧ ns.length ≤ 63 ∧ TbOk T H ∧ ∀ H', Q (.bl true) H'
theorem words_in (ws : List Str) (h : ws.all (fun z => decide (z.length ≤ 10) && PySem.PyData.strOk z) = true) {v : V} (m : v ∈ ws.map V.str) : ∃ z : Str, v = .str z ∧ z.length ≤ 10 ∧ PySem.PyData.strOk z = true := by
  obtain ⟨z, hz, e⟩ := List.mem_map.mp m
  have := List.all_eq_true.mp h z hz
  rw [Bool.and_eq_true] at this
  exact ⟨z, e.symm, of_decide_eq_true this.1, this.2⟩
def dTrouble (m : Nat) (z1 : Str) (n1 : Int) : PyData := .tuple [.str z1, .str (nmOf m), .int n1]
def dBroken (m : Nat) (ts : List Int) (z2 : Str) (n2 : Int) : PyData := .tuple [.str (nmOf m), .tuple (ts.map PyData.int), .tuple [.str z2, .int n2]]
theorem law_end {m : Nat} {z1 z2 : Str} {n1 n2 : Int} {ts : List Int} {t1 t2 t3 t4 : Addr} {G0 G' : Hp} (tb : TbOk T G0) (s1 : SqT K G0 t1 [.str z1, .str (nmOf m), .int n1]) (s2 : SqT K G0 t2 [.str z2, .int n2]) (s3 : SqT K G0 t3 (ts.map V.int)) (s4 : SqT K G0 t4 [.str (nmOf m), .ref t3, .ref t2]) (x : Ex T G0 G') :
    Dp K G' (.ref t1) (dTrouble m z1 n1) ∧ Dp K G' (.ref t4) (dBroken m ts z2 n2) ∧ (m < 1000000 → (0 ≤ n1 ∧ n1 < 60) → (0 ≤ n2 ∧ n2 < 16) → z1.length ≤ 10 → z2.length ≤ 10 → PySem.PyData.strOk z1 = true → PySem.PyData.strOk z2 = true → ts.length ≤ 4 → (∀ t ∈ ts, 0 ≤ t ∧ t < 6) → Shows (eight (dTrouble m z1 n1) (.int m) (dBroken m ts z2 n2))) := by
  refine ⟨.tup (x.sqT tb s1) (.cons (.str _) (.cons (.str _) (.cons (.int _) .nil))), .tup (x.sqT tb s4) (.cons (.str _) (.cons (.tup (x.sqT tb s3) (dpInts ts)) (.cons (.tup (x.sqT tb s2) (.cons (.str _) (.cons (.int _) .nil))) .nil))), fun hm h1 h2 l1 l2 o1 o2 l4 hts => ?_⟩
  have nl := nm_len hm
  have nm : ∀ k, Sm (.str (nmOf m)) k 10 := fun k => Sm.str (nm_ok m) (by omega)
  have a : Sm (dTrouble m z1 n1) 8 _ := Sm.tup (k := 7) (SmA.cons (Sm.str o1 l1) (SmA.cons (nm 7) (SmA.cons (Sm.int h1.1 (by omega)) SmA.nil)))
  have c : Sm (dBroken m ts z2 n2) 8 _ := Sm.tup (k := 7) (SmA.cons (nm 7) (SmA.cons (Sm.tup (k := 6) (SmA.figs hts)) (SmA.cons (Sm.tup (k := 6) (SmA.cons (Sm.str o2 l2) (SmA.cons (Sm.int h2.1 (by omega)) SmA.nil))) SmA.nil)))
  exact shows_of a (Sm.int (by omega) (by omega)) c (by decide) (by decide) (by omega)
theorem ok_law {f aW aD aY aF aH aC ce : Addr} {fd dW dD dY dF dH dC : FuncData} (FN : Fun K "law" "law" sLaw f fd) (ms : mg "str" = none) (mt : mg "tuple" = none) (mr : mg "range" = none) (EC : ErrC K mg "CellError" ce) (ex : PySem.W.exmOne K (.ref ce) (.ref ce) = some true)
    (GW : FnOk P w K mg base CX0 1 aW dW ["script"] (spWell K)) (mW : mg "_law_well" = some (.ref aW)) (kW : PySem.W.keepIn K (.ref aW) = true) (bW : Binds K dW ["script"] [])
    (GD : FnOk P w K mg base CX0 1 aD dD ["well", "many"] spDraw) (mD : mg "_law_draw" = some (.ref aD)) (kD : PySem.W.keepIn K (.ref aD) = true) (bD : Binds K dD ["well", "many"] [])
    (GY : FnOk P w K mg base CX0 4 aY dY ["way", "value"] (spWay T)) (mY : mg "_law_way_right" = some (.ref aY)) (kY : PySem.W.keepIn K (.ref aY) = true) (bY : Binds K dY ["way", "value"] [])
    (GF : HG.FnG P w K mg base CX0 2 aF dF ["trouble", "number", "broken"] (spFR K T)) (mF : mg "_law_fields_right" = some (.ref aF)) (kF : PySem.W.keepIn K (.ref aF) = true) (bF : Binds K dF ["trouble", "number", "broken"] [])
    (GH : FnOk P w K mg base CX0 26 aH dH ["name"] (spHand T)) (mH : mg "_law_by_hand" = some (.ref aH)) (kH : PySem.W.keepIn K (.ref aH) = true) (bH : Binds K dH ["name"] [])
    (GC : ∀ p : Addr × Obj, Zc (.ref ce) none p.2 → (∃ vs, p.2.data = .fields vs) → HP.FnP P w K mg base CX0 1 aC dC ["e"] p (spCls T p.1 none falses)) (mC : mg "_law_classes" = some (.ref aC)) (kC : PySem.W.keepIn K (.ref aC) = true) (bC : Binds K dC ["e"] []) :
    HG.FnG P w K mg base CX0 27 f fd ["script"] (spLaw K T) := by
  refine HG.fn_ofG FN scLaw (fun vs H Q E h => ?_) (fun cdv A outer s H vs Q E fr hr h => ?_)
  · obtain ⟨a, ns, rfl, _⟩ := h
    rfl
  · obtain ⟨a, ns, rfl, hS, l63, tb, k⟩ := h
    have hu : (A.deeper (envOfC "law" (defScope sLaw) s.heap.objs.size f cdv)).units + 64 < cLine := by
      have := hr.un
      omega
    have hu1 : (A.deeper (envOfC "law" (defScope sLaw) s.heap.objs.size f cdv)).units + 1 < cLine := by omega
    refine ⟨_, PSs.nox (pss_cons (ps_set (i := 1) scLaw.nd rfl (.inr rfl) (pe_call GW (hr.mono (by decide)) (by rfl) mW kW bW .nil pass0 (pa_cons (pv 0) pa_nil)))
      (pss_cons (ps_set (i := 2) scLaw.nd rfl (.inl rfl) (pe_ix ix_list (pe_lst (pa_cons pe_str (pa_cons pe_str (pa_cons pe_str (pa_cons pe_str (pa_cons pe_str pa_nil)))))) (pe_call GD (hr.mono (by decide)) (by rfl) mD kD bD .nil pass0 (pa_cons (pv 1) (pa_cons pe_int pa_nil))) (fun _ _ => rfl)))
      (pss_cons (ps_set (i := 3) scLaw.nd rfl (.inl rfl) (pe_call GD (hr.mono (by decide)) (by rfl) mD kD bD .nil pass0 (pa_cons (pv 1) (pa_cons (pe_ix ix_list (pe_lst (pa_cons pe_int (pa_cons (pe_op op_pow pe_int pe_int) pa_nil))) (pe_call GD (hr.mono (by decide)) (by rfl) mD kD bD .nil pass0 (pa_cons (pv 1) (pa_cons pe_int pa_nil))) (fun _ _ => rfl)) pa_nil))))
      (pss_cons (ps_set (i := 4) scLaw.nd rfl (.inl rfl) (pe_op op_add_str pe_str (pe_callTy call_str_int (by rfl) ms (by decide +kernel) (pa_cons (pv 3) pa_nil))))
      (pss_cons (ps_set (i := 5) scLaw.nd rfl (.inl rfl) (pe_tup (pa_cons (pe_ix ix_list (pe_lst (pa_cons pe_str (pa_cons pe_str (pa_cons pe_str (pa_cons pe_str (pa_cons pe_str (pa_cons pe_str pa_nil))))))) (pe_call GD (hr.mono (by decide)) (by rfl) mD kD bD .nil pass0 (pa_cons (pv 1) (pa_cons pe_int pa_nil))) (fun _ _ => rfl)) (pa_cons (pv 4) (pa_cons (pe_call GD (hr.mono (by decide)) (by rfl) mD kD bD .nil pass0 (pa_cons (pv 1) (pa_cons pe_int pa_nil))) pa_nil)))))
      (pss_cons (ps_set (i := 6) scLaw.nd rfl (.inl rfl) (pe_tup (pa_cons (pe_ix ix_list (pe_lst (pa_cons pe_str (pa_cons pe_str (pa_cons pe_str (pa_cons pe_str (pa_cons pe_str (pa_cons pe_str (pa_cons pe_str pa_nil)))))))) (pe_call GD (hr.mono (by decide)) (by rfl) mD kD bD .nil pass0 (pa_cons (pv 1) (pa_cons pe_int pa_nil))) (fun _ _ => rfl)) (pa_cons (pe_call GD (hr.mono (by decide)) (by rfl) mD kD bD .nil pass0 (pa_cons (pv 1) (pa_cons pe_int pa_nil))) pa_nil))))
      (pss_cons (ps_set (i := 7) scLaw.nd rfl (.inl rfl) (pe_tup (pa_cons (pv 4) (pa_cons (pe_tupleOfK (K := K) rfl (by rfl) mt (pe_lc (own := [("k", 12)]) (g := gName 12) (tt := tYes) (by rfl) scLaw.nd (pi_range1 (by rfl) mr (pa_cons (pe_call GD (hr.mono (by decide)) (by rfl) mD kD bD .nil pass0 (pa_cons (pv 1) (pa_cons pe_int pa_nil))) pa_nil)) (blkOk_by (N := ["script", "well", "text", "number", "name", "trouble", "fault", "broken", "way", "value", "told", "e", "k"]) (sc := defScope sLaw) (by decide +kernel)) (fun _ _ _ _ _ => pg_name (i := 12) scLaw.nd rfl (.inl rfl)) (fun _ _ _ _ _ => pts_nil) (fun _ _ _ _ _ => (pe_call GD (hr.mono (by decide)) (by rfl) mD kD bD .nil pass0 (pa_cons (pv 1) (pa_cons pe_int pa_nil)))))) (pa_cons (pv 6) pa_nil)))))
      (pss_cons (ps_for PassesOwn.never rfl (pi_range1 (by rfl) mr (pa_cons pe_int pa_nil)) (pg_name (i := 8) scLaw.nd rfl (.inl rfl)) (pss_cons (ps_set (i := 9) scLaw.nd rfl (.inl rfl) (pe_dget2 hu1 (pe_disp (pps_cons pe_int (pv 5) (pps_cons pe_int (pv 7) (pps_cons pe_int (pv 3) (pps_cons pe_int (pv 3) pps_nil)))) rfl rfl (by decide) (by decide)) (pv 8) (pv 2) ⟨by rfl, by rfl, by rfl, by rfl⟩)) (pss_one (ps_if (pt_not (pt_val (pe_call GY (hr.mono (by decide)) (by rfl) mY kY bY .nil pass0 (pa_cons (pv 8) (pa_cons (pv 9) pa_nil))))) (pss_one (ps_ret pe_bl)) pss_nil))))
      (pss_cons (ps_set (i := 10) scLaw.nd rfl (.inl rfl) (pe_lst (pa_cons pe_bl pa_nil)))
      (pss_cons (L2N.ps_try_as (i := 11) (ts := tHeldL T ce) rfl rfl scLaw.nd rfl rfl (c := .ref ce) ⟨by rfl, by decide, .inl EC.gC⟩ noneN
        (fun W pn xe tk _ => pss_one (L2N.ps_raise rfl tk (pmk_one EC (by rfl) (pv 2))))
        (fun a oe cls d pn hz hf => pss_one ⟨fun pins s1 σ H1 D I h1 => ?_⟩))
      (pss_one (ps_ret (pe_and (HG.pe_callG GF (hr.mono (by decide)) fr (by rfl) mF kF bF (E := fun _ => E0) (fun _ _ _ _ _ _ _ h => h.elim) (pa_cons (pv 5) (pa_cons (pv 3) (pa_cons (pv 7) pa_nil)))) (pe_and (pe_call GH hr (by rfl) mH kH bH .nil pass0 (pa_cons (pv 4) pa_nil)) (pe_one (pe_cmpR (op_eqD hu) (pv 10) (pe_op op_rep (pe_lst (pa_cons pe_bl pa_nil)) pe_int) (nomark _))))))))))))))))), ?_⟩
    · obtain ⟨rfl, rfl, q⟩ := h1
      rename_i a0
      obtain ⟨vs, hvs⟩ := hf
      have hot : L2H.Hot1 (A.deeper (envOfC "law" (defScope sLaw) s.heap.objs.size f cdv) |>.mark (some (.ref a))) (a, oe) := ⟨rfl, vs, hvs, hz.2.2 vs hvs⟩
      exact (ps_set (i := 10) scLaw.nd rfl (.inl rfl) (HP.pe_callP (GC (a, oe) hz.zc ⟨vs, hvs⟩) ⟨((L2H.roomH_of hr).mono (by decide : 1 ≤ 26)).dp, ((L2H.roomH_of hr).mono (by decide : 1 ≤ 26)).un⟩ hot List.mem_cons_self (by rfl) mC kC bC (E := fun _ => E0) (fun _ _ _ _ _ _ _ h => h.elim) (pa_cons (pv 11) pa_nil))).run pins s1 σ H1 D I q
    · refine ⟨_, rfl, a, ns, rfl, hS, l63, fun H1 p q sm np nq hw => ?_⟩
      have L1 : LH T p q 0 H1 := ⟨hw, fun P hP => by
        obtain ⟨ps, e, t⟩ := tb P hP
        exact ⟨ps, sm _ _ e, t⟩⟩
      -- text
      refine ⟨by show 5 ≤ sizeLine; decide, fun l hl => ⟨_, rfl, p, q, 0, 5, rfl, (L1.new hl).w, by decide, by decide, by decide, fun H2 r h0 h1 kp hw2 => ?_⟩⟩
      obtain ⟨v2, e2, _⟩ := atI_of (xs := [V.str "x", .str "cell", .str "a b", .str "", .str "0"]) h0 h1
      refine ⟨l, _, r, v2, rfl, rfl, .inl (.inl (kp _ _ upd_same (L1.off hl).1 (L1.off hl).2)), e2, ?_⟩
      have L2 := (L1.new hl).draw kp hw2
      -- number
      refine ⟨_, rfl, _, _, rfl, rfl, ⟨by decide, by decide, by decide⟩, by show 2 ≤ sizeLine; decide, fun l3 hl3 => ⟨_, rfl, p, q, 1, 2, rfl, (L2.new hl3).w, by decide, by decide, by decide, fun H3 r3 h30 h31 kp3 hw3 => ?_⟩⟩
      obtain ⟨v3, e3, m3⟩ := atI_of (xs := [V.int 3, .int (10 ^ (6 : Int).toNat)]) h30 h31
      have L3 := (L2.new hl3).draw kp3 hw3
      obtain ⟨many, rfl, mp, ml⟩ : ∃ many : Int, v3 = .int many ∧ 0 < many ∧ many ≤ 1000000 := by
        rcases List.mem_cons.mp m3 with z | z
        · exact ⟨_, z, by decide, by decide⟩
        · exact ⟨_, List.mem_singleton.mp z, by decide, by decide⟩
      refine ⟨l3, _, r3, _, rfl, rfl, .inl (.inl (kp3 _ _ upd_same (L2.off hl3).1 (L2.off hl3).2)), e3, p, q, 2, many, rfl, L3.w, mp, by omega, by decide, fun H4 n hn0 hn1 kp4 hw4 => ?_⟩
      have L4 := L3.draw kp4 hw4
      obtain ⟨m, rfl⟩ := Int.eq_ofNat_of_zero_le hn0
      have hm : m < 1000000 := by omega
      -- name
      refine ⟨_, rfl, (m : Int), rfl, Nat.lt_trans (int_log hn0 (by omega)) (by decide), "f", _, rfl, rfl, ?_, ?_⟩
      · show (Str.ofString "f").length + (Str.ofString (toString (m : Int))).length ≤ sizeLine
        rw [len_of, len_of, ndig_cps, show (Str.ofString "f").cps.toList.length = 1 by decide +kernel]
        have : ((Nat.toDigits 10 m).map Char.toNat).length ≤ 6 := six hm
        rw [sizeLine_eq]
        omega
      -- trouble
      refine ⟨by show 6 ≤ sizeLine; decide, fun l5 hl5 => ⟨_, rfl, p, q, 3, 6, rfl, (L4.new hl5).w, by decide, by decide, by decide, fun H5 r5 h50 h51 kp5 hw5 => ?_⟩⟩
      obtain ⟨v5, e5, m5⟩ := atI_of (xs := [V.str "double", .str "kind", .str "next", .str "many", .str "unset", .str "over"]) h50 h51
      have L5 := (L4.new hl5).draw kp5 hw5
      refine ⟨l5, _, r5, v5, rfl, rfl, .inl (.inl (kp5 _ _ upd_same (L4.off hl5).1 (L4.off hl5).2)), e5, _, rfl, _, rfl, p, q, 4, 60, rfl, L5.w, by decide, by decide, by decide, fun H6 n1 h60 h61 kp6 hw6 => ⟨by show 3 ≤ sizeLine; decide, fun t1 ht1 => ?_⟩⟩
      have L6 := (L5.draw kp6 hw6).new (o := .tup [v5, .str (nmOf m), .int n1]) ht1
      have S1 : SqT K (upd H6 t1 (.tup [v5, .str (nmOf m), .int n1])) t1 [v5, .str (nmOf m), .int n1] := .inl (.inl upd_same)
      -- fault
      refine ⟨by show 7 ≤ sizeLine; decide, fun l7 hl7 => ⟨_, rfl, p, q, 5, 7, rfl, (L6.new hl7).w, by decide, by decide, by decide, fun H7 r7 h70 h71 kp7 hw7 => ?_⟩⟩
      obtain ⟨v7, e7, m7⟩ := atI_of (xs := [V.str "hold", .str "drop", .str "use", .str "bind", .str "left", .str "free", .str "token"]) h70 h71
      have L7 := (L6.new hl7).draw kp7 hw7
      have S17 := (L6.new (o := .lst [V.str "hold", .str "drop", .str "use", .str "bind", .str "left", .str "free", .str "token"]) hl7).sqT kp7 (sqT_new hl7 _ _ S1)
      refine ⟨l7, _, r7, v7, rfl, rfl, .inl (.inl (kp7 _ _ upd_same (L6.off hl7).1 (L6.off hl7).2)), e7, _, rfl, p, q, 6, 16, rfl, L7.w, by decide, by decide, by decide, fun H8 n2 h80 h81 kp8 hw8 => ⟨by show 2 ≤ sizeLine; decide, fun t2 ht2 => ?_⟩⟩
      have L8 := (L7.draw kp8 hw8).new (o := .tup [v7, .int n2]) ht2
      have S18 : SqT K (upd H8 t2 (.tup [v7, .int n2])) t1 [v5, .str (nmOf m), .int n1] := sqT_new ht2 _ _ (L7.sqT kp8 S17)
      have S28 : SqT K (upd H8 t2 (.tup [v7, .int n2])) t2 [v7, .int n2] := .inl (.inl upd_same)
      -- broken
      refine ⟨_, rfl, _, rfl, p, q, 7, 5, rfl, L8.w, by decide, by decide, by decide, fun H9 r9 h90 h91 kp9 hw9 => ⟨r9, rfl, by omega, by omega, fun D hD => ?_⟩⟩
      have L9 := L8.draw kp9 hw9
      have S19 := L8.sqT kp9 S18
      have S29 := L8.sqT kp9 S28
      have nD := L9.off hD
      have nT := L9.notT hD
      refine lcB_it walk_range (fun i G => ∃ ts : List Int, G D = some (.lst (ts.map V.int)) ∧ ts.length = i ∧ (∀ t ∈ ts, 0 ≤ t ∧ t < 6) ∧ LH T p q (8 + i) G ∧ SqT K G t1 [v5, .str (nmOf m), .int n1] ∧ SqT K G t2 [v7, .int n2])
        ⟨[], upd_same, rfl, by simp, L9.new hD, sqT_new hD _ _ S19, sqT_new hD _ _ S29⟩ (fun _ _ _ _ => trivial) (fun i x G G2 hi ⟨ts, gD, hlen, hts, LG, s1, s2⟩ y => ?_) (fun G ⟨ts, gD, hlen, hts, LG, s1, s2⟩ => ?_)
      · obtain ⟨rfl, rfl⟩ := y
        have hi4 : i < 5 := by omega
        refine g_one (by decide) (by show 12 < 13; decide) fun σ2 _ keep g5 => yesT ⟨_, (keep 1 (by decide)).trans rfl, p, q, 8 + i, 6, rfl, LG.w, by decide, by decide, by omega, fun G3 t ht0 ht1 kpt hwt => ?_⟩
        have D3 := kpt _ _ gD nD.1 nD.2
        refine ⟨_, D3, by rw [List.length_map]; exact small1000 (by omega), ts ++ [t], by rw [upd_same, List.map_append]; rfl, by rw [List.length_append, hlen]; rfl, fun u hu => ?_, (LG.draw kpt hwt).put nD.1 nD.2 nT, sqT_put D3 (LG.sqT kpt s1), sqT_put D3 (LG.sqT kpt s2)⟩
        rcases List.mem_append.mp hu with z | z
        · exact hts u z
        · rw [List.mem_singleton.mp z]
          exact ⟨ht0, ht1⟩
      · refine .inl ⟨D, _, rfl, .inl (.inl gD), fun t3 ht3 => ⟨_, rfl, by show 3 ≤ sizeLine; decide, fun t4 ht4 => ?_⟩⟩
        have tb4 : TbOk T (upd (upd G t3 (.tup (ts.map V.int))) t4 (.tup [.str (nmOf m), .ref t3, .ref t2])) := ((LG.new ht3).new ht4).tb
        have S41 : SqT K (upd (upd G t3 (.tup (ts.map V.int))) t4 (.tup [.str (nmOf m), .ref t3, .ref t2])) t1 [v5, .str (nmOf m), .int n1] := sqT_new ht4 _ _ (sqT_new ht3 _ _ s1)
        have S42 : SqT K (upd (upd G t3 (.tup (ts.map V.int))) t4 (.tup [.str (nmOf m), .ref t3, .ref t2])) t2 [v7, .int n2] := sqT_new ht4 _ _ (sqT_new ht3 _ _ s2)
        have S43 : SqT K (upd (upd G t3 (.tup (ts.map V.int))) t4 (.tup [.str (nmOf m), .ref t3, .ref t2])) t3 (ts.map V.int) := sqT_new ht4 _ _ (.inl (.inl upd_same))
        have S44 : SqT K (upd (upd G t3 (.tup (ts.map V.int))) t4 (.tup [.str (nmOf m), .ref t3, .ref t2])) t4 [.str (nmOf m), .ref t3, .ref t2] := .inl (.inl upd_same)
        obtain ⟨z1, rfl, z1l, z1o⟩ : ∃ z1 : Str, v5 = .str z1 ∧ z1.length ≤ 10 ∧ PySem.PyData.strOk z1 = true := words_in ["double", "kind", "next", "many", "unset", "over"] (by decide +kernel) m5
        obtain ⟨z2, rfl, z2l, z2o⟩ : ∃ z2 : Str, v7 = .str z2 ∧ z2.length ≤ 10 ∧ PySem.PyData.strOk z2 = true := words_in ["hold", "drop", "use", "bind", "left", "free", "token"] (by decide +kernel) m7
        have l4 : ts.length ≤ 4 := by omega
        have fin := fun G' (xG : Ex T _ G') => law_end (K := K) (m := m) (z1 := z1) (z2 := z2) (n1 := n1) (n2 := n2) (ts := ts) tb4 S41 S42 S43 S44 xG
        revert tb4 fin
        show _ → _ → tSeq _ _ _ [some (.ref a), some (.ref p), some v2, some (.int m), some (.str (nmOf m)), some (.ref t1), some (.ref t2), some (.ref t4), none, none, none, none, none] (upd (upd G t3 (.tup (ts.map V.int))) t4 (.tup [.str (nmOf m), .ref t3, .ref t2]))
        generalize upd (upd G t3 (.tup (ts.map V.int))) t4 (.tup [.str (nmOf m), .ref t3, .ref t2]) = G0
        intro tb4 fin
        -- the loop over the ways
        refine ⟨18, rfl, by decide, by decide, for_it walk_range (fun i σ G => (∃ x8 x9, σ = [some (.ref a), some (.ref p), some v2, some (.int m), some (.str (nmOf m)), some (.ref t1), some (.ref t2), some (.ref t4), x8, x9, none, none, none]) ∧ Ex T G0 G) ⟨⟨none, none, rfl⟩, Ex.refl⟩ (fun _ _ _ _ _ => trivial) (fun i x σ G G2 hi ⟨⟨x8, x9, hσ⟩, xG⟩ y => ?_) (fun σ G ⟨⟨x8, x9, hσ⟩, xG⟩ => ?_)⟩
        · obtain ⟨rfl, rfl⟩ := y
          subst hσ
          refine fun pd hd => ⟨_, rfl, _, rfl, _, rfl, _, rfl, upd_same, [(.inl 3, .ref t1), (.inl 11, .ref t4), (.inl 12, .int m), (.inl 16, .int m)], rfl, (by show 4 ≤ 15; decide), pd, rfl, .inl ⟨_, .inl upd_same⟩, _, rfl, _, rfl, _, DGet.k (k := .inl (0 + (i : Int))) upd_same, ?_⟩
          rw [upd_upd]
          have xd := xG.trans (Ex.new (o := .dK (mergeK [] [(.inl 3, .ref t1), (.inl 11, .ref t4), (.inl 12, .int m), (.inl 16, .int m)])) hd)
          refine ⟨_, rfl, _, rfl, i, _, (congrArg (fun t : Int => [V.int t, _]) (Int.zero_add (i : Int))), hi, xd.tb tb4, fun G5 x5 => ⟨_, rfl, ite2 (fun z => by cases z) fun _ => ⟨⟨_, _, rfl⟩, xd.trans x5⟩⟩⟩
        · subst hσ
          refine ⟨by show 1 ≤ sizeLine; decide, fun l10 h10 => ⟨_, rfl, true, ex, fun _ ae hae => ⟨rfl, rfl, _, rfl, rfl, (fun dd z => by cases z), (xG.trans (Ex.new h10)).tb tb4, fun lt H5 hl5 x5 h5 => ?_⟩, fun z => by cases z⟩⟩
          have x15 := (xG.trans (Ex.new h10)).trans x5
          obtain ⟨d1, d2, sh⟩ := fin _ x15
          refine ⟨_, rfl, _, rfl, _, rfl, _, _, _, _, _, _, rfl, d1, .int _, d2, sh hm ⟨by omega, by omega⟩ ⟨by omega, by omega⟩ z1l z2l z1o z2o l4 hts, x15.tb tb4, fun H6 x6 => ⟨_, rfl, iteT ⟨_, rfl, nmOf m, rfl, nm_low hm, Nat.le_trans (nm_len hm) (by decide), nm_ok m, (x15.trans x6).tb tb4, fun H7 x7 => ⟨_, rfl, iteT ⟨_, rfl, by show 1 ≤ sizeLine; decide, fun l7 hl7' => ⟨l7, 18, [.bl false], rfl, rfl, upd_same, by decide, by decide, by decide, fun rr hrr => ?_⟩⟩⟩⟩⟩⟩
          have tb5 := x15.tb tb4
          have k7 : SqL K H7 lt (falses.map V.bl) := x7.sqL (x6.tb tb5) (x6.sqL tb5 (.inl (.inl h5)))
          have k8 : SqL K (upd (upd H7 l7 (.lst [.bl false])) rr (.lst (List.replicate (18 : Int).toNat [V.bl false]).flatten)) lt (falses.map V.bl) :=
            (Ex.new (T := T) hrr).sqL ((Ex.new (T := T) hl7').tb (x7.tb (x6.tb tb5))) ((Ex.new (T := T) hl7').sqL (x7.tb (x6.tb tb5)) k7)
          refine ⟨.list (falses.map PyData.bool), .list (falses.map PyData.bool), .lst k8 (dpBools _), .lst (.inl (.inl upd_same)) (dpBools falses), by decide +kernel, by decide +kernel, ?_⟩
          rw [show PyData.eqv (.list (falses.map PyData.bool)) (.list (falses.map PyData.bool)) = true by decide +kernel]
          exact k _
end
end JF
set_option Elab.async false
set_option linter.all false
set_option maxRecDepth 100000
set_option maxHeartbeats 4000000
/-! the end of a law whose promise asks that no repr is under way -/
namespace EG
open PySem PySem.Spec PyProof.Rows L2
section
variable {K : PySem.W.Frag} {g : Heap} {a : Addr} {vs : List Value} {ns : List Int} {tbs : List Addr}
/-- the script, unless it is written, and the tables -/
def trk (K : PySem.W.Frag) (tbs : List Addr) (a : Addr) (vs : List Value) (ns : List Int) : Hp := fun b =>
  if b ∈ tbs then some (.tbl #[]) else if b = a ∧ K.lookup a = none then some (.frz { cls := .type "list", data := .seq vs.toArray } (.lst (ns.map V.int))) else none
theorem trk_tab {b : Addr} (h : b ∈ tbs) : trk K tbs a vs ns b = some (.tbl #[]) := if_pos h
theorem trk_some {b : Addr} {u : HO} (h : trk K tbs a vs ns b = some u) : (b ∈ tbs ∧ u = .tbl #[]) ∨ (b = a ∧ K.lookup a = none ∧ u = .frz { cls := .type "list", data := .seq vs.toArray } (.lst (ns.map V.int))) := by
  unfold trk at h
  by_cases m : b ∈ tbs
  · rw [if_pos m] at h
    exact .inl ⟨m, (Option.some.inj h).symm⟩
  · rw [if_neg m] at h
    by_cases e : b = a ∧ K.lookup a = none
    · rw [if_pos e] at h
      exact .inr ⟨e.1, e.2, (Option.some.inj h).symm⟩
    · rw [if_neg e] at h
      cases h
end
theorem call_g {P : Program} {w : World} {K : PySem.W.Frag} {mg mb : Str → Option Value} {k : Nat} {fa a : Addr} {cs : List (Addr × Addr)} {fd : FuncData} {x : Str} {sp : Sp} {t : Shared} {vs : List Value} {ns : List Int}
    (inK : K.In t.heap) (gl : t.heap.Ns mainGlobals mg) (bl : t.heap.Ns builtinsNs mb) (bb : ∀ y : Str, y ≠ "__name__" → mb y = bootBuiltins y) (nl : t.heap.NoLimit) (ng : t.gens = #[])
    (tabE : ∀ c ∈ cs, t.heap.get? c.2 = some { cls := .none, data := .fields #[] }) (tabK : ∀ c ∈ cs, K.lookup c.2 = none) (tabC : ∀ c ∈ cs, PySem.W.CodeHd t.heap c.1 c.2)
    (bm : ∃ (m : Addr) (o : Obj), mg "__builtins__" = some (.ref m) ∧ m ≠ builtinsNs ∧ t.heap.get? m = some o ∧ o.cls = .type "module" ∧ o.dict = some builtinsNs ∧ o.data = .plain)
    (at' : t.heap.get? a = some { cls := .type "list", data := .seq vs.toArray }) (are : IntsAre vs ns) (few : ns.length ≤ sizeLine) (room : Room k callerA)
    (F : ∀ base : Heap, K.In base → base.Ns mainGlobals mg → (∀ c ∈ cs, GxR.TabB base mg c.1 c.2) → HG.FnG P w K mg base CX0 k fa fd [x] sp) (bnd : ∀ (u : Shared) (v : Value), BindsTo u fd ⟨[v], []⟩ [(x, v)])
    (ask : ∀ H : Hp, (∀ c ∈ cs, H c.2 = some (.tbl #[])) → SqL K H a (ns.map V.int) → sp [.ref a] H (fun v _ => v = .bl true) fun _ _ _ => False) :
    codeAny (model P w) callerA (.call (.ref fa) ⟨[.ref a], []⟩) (fun r t' => r = .ok (.ret (.bool true)) ∧ OldK t.heap t'.heap ∧ t'.os = t.os ∧ AllBare t'.gens) t := by
  have rel := vals_ints are
  have emp : ∀ b ∈ cs.map Prod.snd, t.heap.get? b = some { cls := .none, data := .fields #[] } := fun b m => by
    obtain ⟨c, hc, rfl⟩ := List.mem_map.mp m
    exact tabE c hc
  have low : ∀ c ∈ cs, c.2 ∈ cs.map Prod.snd := fun c hc => List.mem_map_of_mem hc
  have aOut : a ∉ cs.map Prod.snd := fun m => by
    have e := emp a m
    rw [at'] at e
    have d : (Data.seq vs.toArray : Data) = Data.fields #[] := congrArg Obj.data (Option.some.inj e)
    cases d
  have tabN : ∀ b ∈ cs.map Prod.snd, K.lookup b = none := fun b m => by
    obtain ⟨c, hc, rfl⟩ := List.mem_map.mp m
    exact tabK c hc
  -- what is tracked
  have seq : SqL K (trk K (cs.map Prod.snd) a vs ns) a (ns.map V.int) := by
    cases e : K.lookup a with
    | none => exact .inl (.inr ⟨_, (if_neg aOut).trans (if_pos ⟨rfl, e⟩)⟩)
    | some o =>
      have e2 := inK a o e
      rw [at'] at e2
      cases e2
      exact .inr ⟨_, vs.toArray, _, e, rfl, rfl, rfl, by rw [List.size_toArray, are.length]; exact few, by simpa using rel⟩
  have hok : HOk P w (trk K (cs.map Prod.snd) a vs ns) t.heap := fun b u e => by
    rcases trk_some e with ⟨m, rfl⟩ | ⟨rfl, _, rfl⟩
    · exact emp b m
    · exact ⟨at', by rw [List.length_map]; exact few, vs, _, rel, at'⟩
  have bare : ∀ {b : Addr} {o : Obj}, t.heap.get? b = some o → (∀ its n, o.data ≠ .seq its n) → o.data ≠ .fields #[] → trk K (cs.map Prod.snd) a vs ns b = none := fun {b o} e n1 n2 => by
    cases q : trk K (cs.map Prod.snd) a vs ns b with
    | none => rfl
    | some u =>
      rcases trk_some q with ⟨m, _⟩ | ⟨rfl, _, _⟩
      · rw [emp b m] at e
        cases e
        exact absurd rfl n2
      · rw [at'] at e
        cases e
        exact absurd rfl (n1 _ _)
  have hid : ∀ {b : Addr} {o : Obj}, t.heap.get? b = some o → trk K (cs.map Prod.snd) a vs ns b = none → (hidT t.heap (trk K (cs.map Prod.snd) a vs ns)).get? b = some o := fun e n => hidT_get e n
  have dct : ∀ {b : Addr} {f : Str → Option Value}, t.heap.Ns b f → (hidT t.heap (trk K (cs.map Prod.snd) a vs ns)).Ns b f := fun {b f} ⟨o, es, n, e, d, r⟩ =>
    ⟨o, es, n, hid e (bare e (fun _ _ z => by rw [d] at z; cases z) fun z => by rw [d] at z; cases z), d, r⟩
  have inB : K.In (hidT t.heap (trk K (cs.map Prod.snd) a vs ns)) := fun b o e => hid (inK b o e) (by
    cases q : trk K (cs.map Prod.snd) a vs ns b with
    | none => rfl
    | some u =>
      rcases trk_some q with ⟨m, _⟩ | ⟨rfl, n, _⟩
      · rw [tabN b m] at e
        cases e
      · rw [n] at e
        cases e)
  have mod : L2.Mod K mg (hidT t.heap (trk K (cs.map Prod.snd) a vs ns)) := ⟨inB, dct gl, ⟨mb, dct bl, bb⟩, let ⟨mc, h1, h2⟩ := nl; ⟨mc, dct h1, h2⟩⟩
  have tb : ∀ c ∈ cs, GxR.TabB (hidT t.heap (trk K (cs.map Prod.snd) a vs ns)) mg c.1 c.2 := fun c hc => by
    refine ⟨?_, ?_, fun z => ?_⟩
    · obtain ⟨o, us, fl, tf, fg, tg, inF, tx, tt, e1, r1, r2, r3, r⟩ := tabC c hc
      exact ⟨o, us, fl, tf, fg, tg, inF, tx, tt, hid e1 (bare e1 (fun _ _ z => by rw [r2] at z; cases z) fun z => by rw [r2] at z; cases z; simp at r3), r1, r2, r3, r⟩
    · obtain ⟨m, o, h1, h2, h3, h4, h5, h6⟩ := bm
      refine ⟨m, o, h1, h2, fun z => ?_, fun z => ?_, hid h3 (bare h3 (fun _ _ z => by rw [h6] at z; cases z) fun z => by rw [h6] at z; cases z), h4, h5, h6⟩
      · obtain ⟨o2, es, n, e, d, _⟩ := gl
        rw [z, e] at h3
        cases h3
        rw [d] at h6
        cases h6
      · rw [z, tabE c hc] at h3
        cases h3
        cases h6
    · obtain ⟨o2, es, n, e, d, _⟩ := gl
      rw [z, tabE c hc] at e
      cases e
      cases d
  have env : Env0 P w K mg (hidT t.heap (trk K (cs.map Prod.snd) a vs ns)) callerA [] t (trk K (cs.map Prod.snd) a vs ns) :=
    ⟨rfl, mod, fun b o e => of_hidT e, Nat.le_of_eq (hidT_size _ _), trivial, fun b m => absurd (show b ∈ ([] : List Addr) from m) List.not_mem_nil, hok, .of_eq ng⟩
  refine codeAny_mono ((F _ inB (dct gl) tb).run callerA [] t _ ⟨[.ref a], []⟩ [.ref a] [.ref a] _ _ ⟨room, rfl⟩ env (bnd t (.ref a)) (.cons rfl .nil) (ask _ (fun c hc => trk_tab (low c hc)) seq)) fun r t' h => ?_
  match r, h with
  | .error e, h => exact False.elim h
  | .ok .next, h => exact False.elim h
  | .ok .brk, h => exact False.elim h
  | .ok .cont, h => exact False.elim h
  | .ok (.ret u), ⟨v, G, os, ba, un, hokG, rv, q⟩ =>
    have q : v = .bl true := q
    subst q
    obtain rfl : u = Value.bool true := rv
    have old : ∀ b o, b ∉ cs.map Prod.snd → t.heap.get? b = some o → t'.heap.get? b = some o := fun b o nb e => by
      cases q : trk K (cs.map Prod.snd) a vs ns b with
      | none => exact un.keep b o e q (by intro z; exact absurd (show b ∈ ([] : List Addr) from z) (by simp)) (by simp)
      | some u =>
        rcases trk_some q with ⟨m, _⟩ | ⟨_, _, rfl⟩
        · exact absurd m nb
        · obtain ⟨e1, _⟩ := hok b _ q
          obtain ⟨e2, _⟩ := hokG b _ (un.frzs b _ _ q)
          rw [e] at e1
          cases e1
          exact e2
    have grew : ∀ c ∈ cs, ∃ more : Array Value, t'.heap.get? c.2 = some { cls := .none, data := .fields more } := fun c hc => by
      obtain ⟨more, z⟩ := un.tbls c.2 #[] (trk_tab (low c hc))
      exact ⟨_, hokG c.2 _ z⟩
    refine ⟨rfl, ⟨fun b o e => ?_, fun b o e => ?_⟩, os, ba⟩
    · by_cases m : b ∈ cs.map Prod.snd
      · obtain ⟨c, hc, rfl⟩ := List.mem_map.mp m
        obtain ⟨more, hm⟩ := grew c hc
        rw [tabE c hc] at e
        cases e
        exact .inr (.inl ⟨((tabC c hc).tab (tabE c hc)).isCodeTable, rfl, #[], more, rfl, by rw [Array.empty_append]; exact hm⟩)
      · exact .inl (old b o m e)
    · by_cases m : b ∈ cs.map Prod.snd
      · obtain ⟨c, hc, rfl⟩ := List.mem_map.mp m
        obtain ⟨more, hm⟩ := grew c hc
        exact ⟨_, hm⟩
      · exact ⟨o, old b o m e⟩
/-- what a law's end wants at the heap h that the head leaves -/
def Kept (l : PySem.W.OpenLaw) (w : World) (K : PySem.W.Frag) (k n : Nat) (x : Str) (mg : Str → Option Value) (fa : Addr) (h : Heap) : Prop :=
  ∃ (fd : FuncData) (cs : List (Addr × Addr)) (sp : Sp), ((∀ c ∈ cs, h.get? c.2 = some { cls := .none, data := .fields #[] }) ∧ (∀ c ∈ cs, K.lookup c.2 = none) ∧ ∀ c ∈ cs, PySem.W.CodeHd h c.1 c.2) ∧ (∀ (u : Shared) (v : Value), BindsTo u fd ⟨[v], []⟩ [(x, v)]) ∧
    (∀ (H : Hp) (a : Addr) (ns : List Int), ns.length ≤ n → (∀ c ∈ cs, H c.2 = some (.tbl #[])) → SqL K H a (ns.map V.int) → sp [.ref a] H (fun v _ => v = .bl true) fun _ _ _ => False) ∧
    ∀ base : Heap, K.In base → base.Ns mainGlobals mg → (∀ c ∈ cs, GxR.TabB base mg c.1 c.2) → HG.FnG l.prog w K mg base CX0 k fa fd [x] sp
theorem walk_g {l : PySem.W.OpenLaw} {n k : Nat} {q : Program} {loose : List Str} {XP : (Str → Option Value) → Heap → Prop} {YP : World → Heap → Prop} {d : DefRec} {K : Params → PySem.W.Frag} {x : Str}
    (most : l.most = some n) (fits : n ≤ sizeLine) (dfl : d.params.defaults = []) (room : Room k callerA) (inK : ∀ (w : World) (h : Heap), YP w h → (K w.params).In h)
    (F : ∀ (w : World) (mg mb : Str → Option Value) (fa : Addr) (h : Heap) (mean : ExcName → Option Value), Top q (PySem.W.looseW q loose) mean mg mb h → (K w.params).In h → mg d.name = some (.ref fa) → Kept l w (K w.params) k n x mg fa h) :
    PySem.W.WalkO q loose XP YP l.row.toRowW d [] (fun f vs => PySem.call f vs) := by
  refine Att.attach_callB most dfl fun w s₀ t mg mb fa o pm cd doc a vs ns G Y ho hd hcd hmg obj are len _ hg => ?_
  have KX := inK w _ Y
  obtain ⟨fd, cs, sp, ⟨h1, h2, h3⟩, h4, h5, h6⟩ := F w mg mb fa _ _ G.T KX hmg
  exact call_g KX G.T.g G.T.b G.T.builtins G.T.nolimit hg h1 h2 h3 G.T.bmain obj are (Nat.le_trans len fits) room h6 h4 fun H hH hS => h5 H a ns len hH hS
end EG
set_option Elab.async false
set_option linter.all false
set_option maxRecDepth 100000
set_option maxHeartbeats 4000000
/-! the facts of what the top leaves, from one look -/
namespace JF
open PySem PySem.Spec PyProof.Rows L2 GxR GA
section
variable {P : Program} {w : World} {K : PySem.W.Frag} {mg mb : Str → Option Value} {h : Heap}
def dD (x : Str) (st : Stmt) : He.DefD := ⟨(x, none), x, x, defArgs st, defBody st, defScope st, [], []⟩
theorem fun_of {x qual : Str} {st : Stmt} {f : Addr} {fd : FuncData} (F : FunD K x qual (defArgs st) (defBody st) (defScope st) [] [] f fd) : Fun K x qual st f fd := by
  obtain ⟨oc, od, dV, kV, doc, pm, an, cd, ct, sl, e, lk, c, d, _⟩ := F.ex
  rcases d with ⟨_, e2⟩ | ⟨n, _⟩
  · subst e2
    exact ⟨⟨oc, od, kV, doc, pm, an, cd, ct, sl, e, lk, c⟩, F.kp⟩
  · exact absurd rfl n
theorem func_of {x : Str} {st : Stmt} {fd : FuncData} (F : FunD K x x (defArgs st) (defBody st) (defScope st) [] [] (He.ga K x) fd) : FunC K x x st (He.ga K x) fd (He.codeOf K (x, none)) := by
  obtain ⟨oc, od, dV, kV, doc, pm, an, cd, ct, sl, e, lk, c, d, _⟩ := F.ex
  obtain ⟨c0, rfl⟩ := He.codeIn_ref c
  rcases d with ⟨_, e2⟩ | ⟨n, _⟩
  · subst e2
    have e3 : He.codeOf K (x, none) = c0 := He.codeOf_eq (p := (x, none)) (oc := oc) (od := od) (osl := sl) (fd := fd) lk (by rw [e])
    rw [e3]
    exact ⟨⟨oc, od, kV, doc, pm, an, ct, sl, e, lk, c⟩, F.kp⟩
  · exact absurd rfl n
/-- a def of the module -/
structure Dn (K : PySem.W.Frag) (mg : Str → Option Value) (x : Str) (st : Stmt) (fd : FuncData) : Prop where
  m : mg x = some (.ref (He.ga K x))
  F : Fun K x x st (He.ga K x) fd
theorem Dn.k {x : Str} {st : Stmt} {fd : FuncData} (D : Dn K mg x st fd) : PySem.W.keepIn K (.ref (He.ga K x)) = true := D.F.kp
theorem dn_of {fa : List He.Fa} {fn : List He.DefD} (X : K.In h) (G : h.Ns mainGlobals mg) (S : He.SaysD fa fn K) {x : Str} {st : Stmt} (i j : Nat) (hi : fn[i]? = some (dD x st)) (hj : fa[j]? = some (.glo x)) : ∃ fd, Dn K mg x st fd := by
  obtain ⟨fd, F⟩ := S.def_ i hi
  exact ⟨fd, He.glo_ok X G (S.fact j hj), fun_of F⟩
structure Dc (K : PySem.W.Frag) (mg : Str → Option Value) (x : Str) (st : Stmt) (fd : FuncData) : Prop where
  m : mg x = some (.ref (He.ga K x))
  F : FunC K x x st (He.ga K x) fd (He.codeOf K (x, none))
theorem dc_of {fa : List He.Fa} {fn : List He.DefD} (X : K.In h) (G : h.Ns mainGlobals mg) (S : He.SaysD fa fn K) {x : Str} {st : Stmt} (i j : Nat) (hi : fn[i]? = some (dD x st)) (hj : fa[j]? = some (.glo x)) : ∃ fd, Dc K mg x st fd := by
  obtain ⟨fd, F⟩ := S.def_ i hi
  exact ⟨fd, He.glo_ok X G (S.fact j hj), func_of F⟩
/-! ### the table of forms -/
theorem nsIn_out {a : Addr} {ks : List Str} {Q : Params} {z : Str} (d : He.dicW K a = some (He.keysIn Q ks)) (hz : z ∉ ks) : PySem.W.nsIn K a z = some none := by
  have key : ∀ (l : List DictEntry) (ks : List Str), l.map He.keyOf = He.keysIn Q ks → z ∉ ks → l.find? (·.key.isStr z) = none ∧ l.any (·.refKey) = false := by
    intro l
    induction l with
    | nil => exact fun _ _ _ => ⟨rfl, rfl⟩
    | cons e r ih =>
      intro ks h hz
      cases ks with
      | nil => cases h
      | cons k ks =>
        have h1 : He.keyOf e :: r.map He.keyOf = some (k, PyData.keyHash Q k) :: He.keysIn Q ks := h
        injection h1 with h2 h3
        obtain ⟨i1, i2⟩ := ih ks h3 fun m => hz (List.mem_cons_of_mem _ m)
        obtain ⟨eh, ek, ev⟩ := e
        unfold He.keyOf at h2
        cases ek with
        | str y t =>
          have h4 : (y, eh) = (k, PyData.keyHash Q k) := Option.some.inj h2
          have ey : y = k := (Prod.mk.inj h4).1
          subst ey
          have ny : (Value.str y t).isStr z = false := by
            show (y == z) = false
            exact beq_eq_false_iff_ne.mpr fun e => hz (by rw [← e]; exact List.mem_cons_self)
          exact ⟨by rw [List.find?_cons, ny]; exact i1, by rw [List.any_cons, i2]; rfl⟩
        | _ => cases h2
  unfold He.dicW at d
  unfold PySem.W.nsIn
  cases q : K.lookup a with
  | none => rw [q] at d; cases d
  | some o =>
    obtain ⟨oc, od, dt, sl⟩ := o
    rw [q] at d
    cases oc with
    | type c =>
      cases od with
      | none =>
        cases dt with
        | dict es n =>
          have d2 : (match decide (c = "dict") && (sl.isEmpty && !(a == sysModules)) with | true => some (es.toList.map He.keyOf) | false => none) = some (He.keysIn Q ks) := d
          cases hb : decide (c = "dict") && (sl.isEmpty && !(a == sysModules)) with
          | false => rw [hb] at d2; cases d2
          | true =>
            rw [hb] at d2
            obtain ⟨k1, k2⟩ := key es.toList ks (Option.some.inj d2) hz
            show (match es.toList.find? (·.key.isStr z) with | some e => some (some e.val) | none => if es.toList.any (·.refKey) then none else some none) = some none
            rw [k1]
            show (if es.toList.any (·.refKey) = true then none else some none) = some none
            rw [k2]
            rfl
        | _ => cases d
      | some _ => cases dt <;> cases d
    | _ => cases od <;> cases dt <;> cases d
def names8 : List Str := ["is_register", "is_number", "is_next", "is_high_name", "are_make_args", "are_branches", "is_low_name", "are_call_args"]
def fns8 : List (PyData → Bool) := [isRegister, isNumber, isNext, isHigh, isMakeArgs, isBranches, isLow, isCallArgs]
def S8 (K : PySem.W.Frag) (T : List Addr) : Addr → Option Sp := fun f => ((names8.map (He.ga K)).zip (fns8.map fun g => spIsD K T (fun _ => True) g)).lookup f
theorem lookup_zip {s : List Sp} : ∀ {l : List Addr} {s : List Sp} {i : Nat} {a : Addr} {sp : Sp}, l.Nodup → l[i]? = some a → s[i]? = some sp → (l.zip s).lookup a = some sp
  | [], _, i, a, sp, _, h, _ => by simp at h
  | _ :: _, [], i, a, sp, _, _, h => by simp at h
  | b :: l, t :: s, 0, a, sp, _, h1, h2 => by
    cases h1
    cases h2
    show (match b == b with | true => some t | false => (l.zip s).lookup b) = some t
    rw [beq_self_eq_true]
  | b :: l, t :: s, i + 1, a, sp, nd, h1, h2 => by
    have m : a ∈ l := List.mem_of_getElem? (i := i) h1
    have ne : (a == b) = false := beq_eq_false_iff_ne.mpr fun e => (List.nodup_cons.mp nd).1 (by rw [← e]; exact m)
    show (match a == b with | true => some t | false => (l.zip s).lookup a) = some sp
    rw [ne]
    exact lookup_zip (s := s) (l := l) (i := i) (List.nodup_cons.mp nd).2 h1 h2
theorem s8_at {T : List Addr} (nd : (names8.map (He.ga K)).Nodup) {x : Str} {g : PyData → Bool} (i : Nat) (h1 : names8[i]? = some x) (h2 : fns8[i]? = some g) : S8 K T (He.ga K x) = some (spIsD K T (fun _ => True) g) :=
  lookup_zip (s := []) (i := i) nd (by rw [List.getElem?_map, h1]; rfl) (by rw [List.getElem?_map, h2]; rfl)
theorem s8_inv {T : List Addr} {f : Addr} {sp : Sp} (h : S8 K T f = some sp) : ∃ (i : Nat) (x : Str) (g : PyData → Bool), names8[i]? = some x ∧ fns8[i]? = some g ∧ f = He.ga K x ∧ sp = spIsD K T (fun _ => True) g := by
  have inv : ∀ (l : List Str) (s : List (PyData → Bool)), ((l.map (He.ga K)).zip (s.map fun g => spIsD K T (fun _ => True) g)).lookup f = some sp → ∃ (i : Nat) (x : Str) (g : PyData → Bool), l[i]? = some x ∧ s[i]? = some g ∧ f = He.ga K x ∧ sp = spIsD K T (fun _ => True) g := by
    intro l
    induction l with
    | nil => intro s h; cases h
    | cons x l ih =>
      intro s h
      cases s with
      | nil => cases h
      | cons g s =>
        have h : (match f == He.ga K x with | true => some (spIsD K T (fun _ => True) g) | false => ((l.map (He.ga K)).zip (s.map fun g => spIsD K T (fun _ => True) g)).lookup f) = some sp := h
        cases e : f == He.ga K x with
        | true =>
          rw [e] at h
          exact ⟨0, x, g, rfl, rfl, beq_iff_eq.mp e, (Option.some.inj h).symm⟩
        | false =>
          rw [e] at h
          obtain ⟨i, y, g2, a, b, c, d⟩ := ih s h
          exact ⟨i + 1, y, g2, a, b, c, d⟩
  exact inv _ _ h
def formNames : List (Str × List Str) := [("number", ["is_register", "is_number", "is_next"]), ("add", ["is_register", "is_register", "is_register", "is_next"]), ("sub", ["is_register", "is_register", "is_register", "is_next"]),
  ("less", ["is_register", "is_register", "is_next", "is_next"]), ("make", ["is_register", "is_high_name", "are_make_args", "is_next"]), ("match", ["is_register", "are_branches"]), ("call", ["is_register", "is_low_name", "are_call_args", "is_next"]), ("give", ["is_register"])]
def pFa (K : PySem.W.Frag) (z : Str) : Addr := match PySem.W.nsIn K (He.ga K "ROW_FORMS") z with
  | some (some (.ref a)) => a
  | _ => 0
def tupIs (K : PySem.W.Frag) (a : Addr) (vs : List Value) : Bool := match K.lookup a with
  | some ⟨.type c, _, .seq its _, _⟩ => decide (c = "tuple") && (decide (its.size ≤ 10) && decide (its.toList = vs))
  | _ => false
theorem tupIs_ok {a : Addr} {gs : List Addr} (h : tupIs K a (gs.map Value.ref) = true) (H : Hp) : SqT K H a (gs.map V.ref) := by
  unfold tupIs at h
  cases q : K.lookup a with
  | none => rw [q] at h; cases h
  | some o =>
    obtain ⟨oc, od, dt, sl⟩ := o
    rw [q] at h
    cases oc with
    | type c =>
      cases dt with
      | seq its n =>
        obtain ⟨h1, h2⟩ := He.ba (show (decide (c = "tuple") && (decide (its.size ≤ 10) && decide (its.toList = gs.map Value.ref))) = true from h)
        obtain ⟨h3, h4⟩ := He.ba h2
        have rel : ∀ l : List Addr, Vals (l.map V.ref) (l.map Value.ref) := fun l => by
          induction l with
          | nil => exact .nil
          | cons x r ih => exact .cons rfl ih
        exact .inr ⟨_, its, n, q, congrArg Value.type (of_decide_eq_true h1), rfl, Nat.le_trans (of_decide_eq_true h3) (by decide), by rw [of_decide_eq_true h4]; exact rel gs⟩
      | _ => cases h
    | _ => cases dt <;> cases h
def formB (K : PySem.W.Frag) : Bool := formNames.all fun q => He.eqO (PySem.W.nsIn K (He.ga K "ROW_FORMS") q.1) (some (some (.ref (pFa K q.1)))) && tupIs K (pFa K q.1) ((q.2.map (He.ga K)).map Value.ref)
theorem forms_of {T : List Addr} (dw : He.dicW K (He.ga K "ROW_FORMS") = some (He.keysIn w.params ["number", "add", "sub", "less", "make", "match", "call", "give"])) (fb : formB K = true) (nd : (names8.map (He.ga K)).Nodup) : Forms w K T (He.ga K "ROW_FORMS") (S8 K T) := by
  obtain ⟨es, n, D⟩ := He.dicW_ok dw
  refine ⟨⟨es, n, D, fun _ _ _ => ⟨D.at_, D.lit⟩⟩, fun z hz => nsIn_out dw fun m => ?_, fun z fs hz => ?_⟩
  · have all : (["number", "add", "sub", "less", "make", "match", "call", "give"] : List Str).all (fun z => (formOf z).isSome) = true := by decide +kernel
    have := List.all_eq_true.mp all z m
    rw [hz] at this
    cases this
  · have one : ∀ (q : Str × List Str), q ∈ formNames → PySem.W.nsIn K (He.ga K "ROW_FORMS") q.1 = some (some (.ref (pFa K q.1))) ∧ ∀ H, SqT K H (pFa K q.1) ((q.2.map (He.ga K)).map V.ref) := fun q hq => by
      obtain ⟨h1, h2⟩ := He.ba (List.all_eq_true.mp fb q hq)
      exact ⟨He.eqO_ok h1, tupIs_ok h2⟩
    have r0 := s8_at (T := T) nd (x := "is_register") (g := isRegister) 0 rfl rfl
    have r1 := s8_at (T := T) nd (x := "is_number") (g := isNumber) 1 rfl rfl
    have r2 := s8_at (T := T) nd (x := "is_next") (g := isNext) 2 rfl rfl
    have r3 := s8_at (T := T) nd (x := "is_high_name") (g := isHigh) 3 rfl rfl
    have r4 := s8_at (T := T) nd (x := "are_make_args") (g := isMakeArgs) 4 rfl rfl
    have r5 := s8_at (T := T) nd (x := "are_branches") (g := isBranches) 5 rfl rfl
    have r6 := s8_at (T := T) nd (x := "is_low_name") (g := isLow) 6 rfl rfl
    have r7 := s8_at (T := T) nd (x := "are_call_args") (g := isCallArgs) 7 rfl rfl
    unfold formOf at hz
    split at hz
    · subst z; cases hz
      obtain ⟨a, b⟩ := one ("number", _) (List.mem_cons_self ..)
      exact ⟨_, _, a, b, .cons r0 (.cons r1 (.cons r2 .nil))⟩
    split at hz
    · subst z; cases hz
      obtain ⟨a, b⟩ := one ("add", _) (.tail _ (List.mem_cons_self ..))
      exact ⟨_, _, a, b, .cons r0 (.cons r0 (.cons r0 (.cons r2 .nil)))⟩
    split at hz
    · subst z; cases hz
      obtain ⟨a, b⟩ := one ("sub", _) (.tail _ (.tail _ (List.mem_cons_self ..)))
      exact ⟨_, _, a, b, .cons r0 (.cons r0 (.cons r0 (.cons r2 .nil)))⟩
    split at hz
    · subst z; cases hz
      obtain ⟨a, b⟩ := one ("less", _) (.tail _ (.tail _ (.tail _ (List.mem_cons_self ..))))
      exact ⟨_, _, a, b, .cons r0 (.cons r0 (.cons r2 (.cons r2 .nil)))⟩
    split at hz
    · subst z; cases hz
      obtain ⟨a, b⟩ := one ("make", _) (.tail _ (.tail _ (.tail _ (.tail _ (List.mem_cons_self ..)))))
      exact ⟨_, _, a, b, .cons r0 (.cons r3 (.cons r4 (.cons r2 .nil)))⟩
    split at hz
    · subst z; cases hz
      obtain ⟨a, b⟩ := one ("match", _) (.tail _ (.tail _ (.tail _ (.tail _ (.tail _ (List.mem_cons_self ..))))))
      exact ⟨_, _, a, b, .cons r0 (.cons r5 .nil)⟩
    split at hz
    · subst z; cases hz
      obtain ⟨a, b⟩ := one ("call", _) (.tail _ (.tail _ (.tail _ (.tail _ (.tail _ (.tail _ (List.mem_cons_self ..)))))))
      exact ⟨_, _, a, b, .cons r0 (.cons r6 (.cons r7 (.cons r2 .nil)))⟩
    split at hz
    · subst z; cases hz
      obtain ⟨a, b⟩ := one ("give", _) (.tail _ (.tail _ (.tail _ (.tail _ (.tail _ (.tail _ (.tail _ (List.mem_cons_self ..))))))))
      exact ⟨_, _, a, b, .cons r0 .nil⟩
    · cases hz
end
end JF
set_option Elab.async false
set_option linter.all false
set_option maxRecDepth 100000
set_option maxHeartbeats 4000000
namespace JF
open PySem PySem.Spec PyProof.Rows L2
theorem meq {env : Env} {msg : Str} {q1 q2 q3 q4 q5 : Pos} (hl : (q3.endLine == q5.line) = true) : SI.MEq env msg q1 q2 q3 q4 q5 := by
  refine ⟨plainOf (.Call (.Name "super" q1) [] [] q2) env, ?_⟩
  have e : eval (.Call (.Attribute (.Call (.Name "super" q1) [] [] q2) "__init__" q3) [.Constant (.str msg) 0 q4] [] q5) env = (do
      let o ← attributeBase (.Call (.Name "super" q1) [] [] q2) "__init__" env (eval (.Call (.Name "super" q1) [] [] q2) env)
      standAt q3.atName
      methodCall (.Call (.Name "super" q1) [] [] q2) "__init__" q3 q5 env o 1 (backTo q5 (starEach [.Constant (.str msg) 0 q4] env)) (backToKw q5 (keywordEach [] env))) := by
    rw [eval]
    rfl
  rw [e]
  have m : ∀ o, methodCall (.Call (.Name "super" q1) [] [] q2) "__init__" q3 q5 env o 1 (backTo q5 (starEach [.Constant (.str msg) 0 q4] env)) (backToKw q5 (keywordEach [] env)) = _ := fun o => mcall_line (by rfl) hl
  simp only [m]
  rfl
end JF
set_option Elab.async false
set_option linter.all false
set_option maxRecDepth 100000
set_option maxHeartbeats 4000000
namespace JF
open PySem PySem.Spec PyProof.Rows L2 GxR GA
section
variable {P : Program} {w : World} {K : PySem.W.Frag} {mg mb : Str → Option Value} {h : Heap}
/-- a class of errors as the model lays it -/
def ownB (K : PySem.W.Frag) (C : Addr) : Bool := match K.lookup C with
  | some ⟨.type t, _, .cls cd, sl⟩ => decide (t = "type") && (match cd.mro, sl.toList with
    | .ref D :: bm, [_, _, _, _, some (.builtin n), _] => decide (D = C) && (decide (n = "ValueError.__new__") && (!cd.hasDel && (cd.hasDict && PySem.HandSPX.refsVE bm)))
    | _, _ => false)
  | _ => false
theorem ownB_ok {C : Addr} (hb : ownB K C = true) : ∃ nm q N bs bm sn sub ab col dd k0 k1 k2 k3 k5, K.lookup C = some (excClassObj nm q C N bs bm true sn sub ab col dd k0 k1 k2 k3 k5 "ValueError.__new__") ∧ PySem.HandSPX.refsVE bm = true := by
  unfold ownB at hb
  split at hb
  · rename_i t dd cd sl lk
    obtain ⟨h0, hb⟩ := He.ba hb
    split at hb
    · rename_i D bm k0 k1 k2 k3 n k5 hm hs
      obtain ⟨h1, hb⟩ := He.ba hb
      obtain ⟨h2, hb⟩ := He.ba hb
      obtain ⟨h3, hb⟩ := He.ba hb
      obtain ⟨h4, h5⟩ := He.ba hb
      obtain ⟨a1, a2, a3, a4, a5, a6, a7, a8, a9, a10, a11⟩ := cd
      obtain ⟨items⟩ := sl
      simp only at hm hs h3 h4
      subst hm hs
      have e0 := of_decide_eq_true h0
      have e1 := of_decide_eq_true h1
      have e2 := of_decide_eq_true h2
      subst e0 e1 e2
      have e3 : a11 = false := by simpa using h3
      subst e3 h4
      exact ⟨_, _, _, _, _, _, _, _, _, _, _, _, _, _, _, lk, h5⟩
    · cases hb
  · cases hb
def initA (K : PySem.W.Frag) (x : Str) : Addr := He.ma K (He.ga K x) "__init__"
def ccOf (K : PySem.W.Frag) (x : Str) : Addr := match K.lookup (initA K x) with
  | some ⟨_, _, .func fd, _⟩ => (match fd.closure with
    | [(_, c)] => c
    | _ => 0)
  | _ => 0
def fileB (K : PySem.W.Frag) (cd : Value) (file : Str) : Bool := match cd with
  | .ref c => (match K.lookup c with
    | some ⟨_, _, .fields vs, _⟩ => (match (vs[2]? : Option Value) with
      | some (.str z _) => file == z
      | _ => false)
    | _ => false)
  | _ => false
def initB (K : PySem.W.Frag) (x qual file : Str) : Bool := (match K.lookup (initA K x) with
  | some ⟨_, _, .func fd, _⟩ => decide (fd.defaults = .none) && (PySem.W.codeIn K fd.code qual && fileB K fd.code file)
  | _ => false) && (match K.lookup (ccOf K x) with
  | some ⟨_, _, .cell (some (.ref D)), _⟩ => decide (D = He.ga K x)
  | _ => false)
def ownOk (K : PySem.W.Frag) (x f qual file : Str) : Bool := [ownB K (He.ga K x), He.eqO (PySem.W.findIn K (.ref (He.ga K x)) "__setattr__") (some (some (.builtin "object.__setattr__"))),
  He.eqO (PySem.W.findIn K (.ref (He.ga K x)) "__getattribute__") (some (some (.builtin "BaseException.__getattribute__"))), He.eqO (PySem.W.findIn K (.ref (He.ga K x)) "__getattr__") (some none),
  He.eqO (PySem.W.findIn K (.ref (He.ga K x)) f) (some none), He.eqO (PySem.W.findIn K (.ref (He.ga K x)) "__init__") (some (some (.ref (initA K x)))), decide (PySem.W.typeIn K (.ref (initA K x)) = some (.type "function")),
  PySem.W.keepIn K (.ref (He.ga K x)), decide (PySem.W.subIn K (.ref (He.ga K x)) (.type "BaseException") = some true), decide (PySem.W.subIn K (.ref (He.ga K x)) (.type "ValueError") = some true), decide (PySem.W.typeIn K (.ref (He.ga K x)) = some (.type "type")),
  PySem.W.hasDictIn K (He.ga K x), decide (PySem.W.mroIn K (He.ga K x) (.ref (He.ga K x)) = some true), He.eqO (PySem.W.ks_superIn K (He.ga K x) (He.ga K x) "__init__") (some (some (.builtin "ValueError.__init__"))), He.eqO (PySem.W.nsIn K cStatics "thirdparty.any") (some none), initB K x qual file].all id
def initW (K : PySem.W.Frag) (x qual : Str) (st : Stmt) : Prop := He.fnW K (x, some "__init__") = (some ("__init__", qual, defArgs st, .stmts (defBody st), defScope st, mainGlobals, [("__class__", ccOf K x)], builtinsNs) : He.FnW)
theorem all16 {b1 b2 b3 b4 b5 b6 b7 b8 b9 b10 b11 b12 b13 b14 b15 b16 : Bool} (h : [b1, b2, b3, b4, b5, b6, b7, b8, b9, b10, b11, b12, b13, b14, b15, b16].all id = true) :
    (b1 = true ∧ b2 = true ∧ b3 = true ∧ b4 = true ∧ b5 = true ∧ b6 = true ∧ b7 = true ∧ b8 = true) ∧ (b9 = true ∧ b10 = true ∧ b11 = true ∧ b12 = true ∧ b13 = true ∧ b14 = true ∧ b15 = true ∧ b16 = true) := by
  simp only [List.all_cons, List.all_nil, id_eq, Bool.and_true, Bool.and_eq_true] at h
  obtain ⟨a1, a2, a3, a4, a5, a6, a7, a8, a9, a10, a11, a12, a13, a14, a15, a16⟩ := h
  exact ⟨⟨a1, a2, a3, a4, a5, a6, a7, a8⟩, a9, a10, a11, a12, a13, a14, a15, a16⟩
theorem own_of {x f msg qual : Str} {st : Stmt} (nf : SI.Nm f) (gC : mg x = some (.ref (He.ga K x))) (noS : mg "super" = none) (top : (P.main.scope.names.lookup ("super" : Str)).isSome = false) (ok : ownOk K x f qual P.main.file = true) (iw : initW K x qual st)
    {p1 p2 q1 q2 q3 q4 q5 q6 q7 q8 q9 q10 : Pos} (ha : defArgs st = SI.iA f p1 p2) (hb : defBody st = SI.iB f msg q1 q2 q3 q4 q5 q6 q7 q8 q9 q10) (hs : defScope st = SI.iS f) (hl : (q3.endLine == q5.line) = true) (line : True := trivial) :
    ∃ fd, SI.OwnTxt P K mg x f msg (He.ga K x) (initA K x) fd ∧ ∃ (kV doc pm : Value) (an : Option Addr) (cd ct : Value) (cc : Addr), fd = PySem.W.ksFn "__init__" qual (SI.iA f p1 p2) (SI.iB f msg q1 q2 q3 q4 q5 q6 q7 q8 q9 q10) (SI.iS f) .none kV doc pm an cd ct cc := by
  obtain ⟨⟨b1, b2, b3, b4, b5, b6, b7, b8⟩, b9, b10, b11, b12, b13, b14, b15, b16⟩ := all16 ok
  unfold initW at iw
  obtain ⟨c1, c2⟩ := He.ba b16
  unfold He.fnW at iw
  have fA : He.fAd K (x, some "__init__") = initA K x := rfl
  rw [fA] at iw
  cases lk : K.lookup (initA K x) with
  | none => rw [lk] at c1; cases c1
  | some o =>
    obtain ⟨oc, od, dt, sl⟩ := o
    rw [lk] at c1 iw
    cases dt with
    | func fd =>
      obtain ⟨n1, n2, n3, n4, n5, n6, n7, n8, n9, n10, n11, n12, n13, n14, n15⟩ := fd
      have e2 : (some (n1, n2, n3, n4, n5, n6, n7, n15) : He.FnW) = (some ("__init__", qual, defArgs st, .stmts (defBody st), defScope st, mainGlobals, [("__class__", ccOf K x)], builtinsNs) : He.FnW) := iw
      simp only [Option.some.injEq, Prod.mk.injEq] at e2
      obtain ⟨h1, h2, h3, h4, h5, h6, h7, h8⟩ := e2
      rw [ha] at h3
      rw [hb] at h4
      rw [hs] at h5
      subst h1 h2 h3 h4 h5 h6 h7 h8
      obtain ⟨d1, d2⟩ := He.ba (show (decide (n8 = .none) && (PySem.W.codeIn K n13 n2 && fileB K n13 P.main.file)) = true from c1)
      obtain ⟨d3, d4⟩ := He.ba d2
      have e8 : n8 = .none := of_decide_eq_true d1
      subst e8
      obtain ⟨cda, rfl⟩ := He.codeIn_ref d3
      have d4 : (match K.lookup cda with
        | some ⟨_, _, .fields vs, _⟩ => (match (vs[2]? : Option Value) with
          | some (.str z _) => P.main.file == z
          | _ => false)
        | _ => false) = true := d4
      split at d4
      · rename_i ccl cdd vs ccs lc
        split at d4
        · rename_i file tf hv
          split at c2
          · rename_i cl cld D csl lcc
            have eD : D = He.ga K x := of_decide_eq_true c2
            subst eD
            refine ⟨_, ⟨nf, gC, ownB_ok b1, He.eqO_ok b2, He.eqO_ok b3, He.eqO_ok b4, He.eqO_ok b5, He.eqO_ok b6, of_decide_eq_true b7, b8, of_decide_eq_true b9, of_decide_eq_true b10, of_decide_eq_true b11, b12, of_decide_eq_true b13, He.eqO_ok b14, He.eqO_ok b15, noS, top, ?_⟩, n9, n10, n11, n12, .ref cda, n14, ccOf K x, rfl⟩
            exact ⟨n2, oc, ccl, cl, od, cdd, cld, n9, n10, n11, n12, cda, ccOf K x, n14, sl, ccs, csl, vs, file, tf, p1, p2, q1, q2, q3, q4, q5, q6, q7, q8, q9, q10, rfl, lk, fun L => meq hl, d3, lc, hv, d4, lcc⟩
          · cases c2
        · cases d4
      · cases d4
    | _ => cases c1
/-! ### what classes say -/
def cls19 : List Str := ["BadKinds", "BadKind", "BadProgram", "NotChecked", "BadArgs", "BadName", "BadLimit", "BadPlacing", "BadWay", "BadRow", "BadRegister", "NotRight", "NotLet", "BadLog", "HasTokens", "TooGreat", "BadText", "Unlike", "CellError"]
def Cs (K : PySem.W.Frag) (n : Nat) : Addr := He.ga K (cls19.getD n "")
def ecB (K : PySem.W.Frag) (D : Addr) : Bool := (PySem.W.clsIn K D).isSome && (He.eqO (PySem.W.findIn K (.ref D) "__getattribute__") (some (some (.builtin "BaseException.__getattribute__"))) && (He.eqO (PySem.W.findIn K (.ref D) "__getattr__") (some none) &&
  (decide (PySem.W.subIn K (.ref D) (.type "BaseException") = some true) && (He.eqO (PySem.W.findIn K (.ref D) "__class__") (some (some (.builtin "object.__class__"))) && (He.eqO (PySem.W.specialIn K (.builtin "object.__class__") "__get__") (some (some (.builtin "getset_descriptor.__get__"))) &&
  (decide (PySem.W.takesIn K (.builtin "object.__class__") = some true) && decide (PySem.W.mroIn K D (.type "object") = some true)))))))
theorem ecB_ok {D : Addr} (hb : ecB K D = true) : HP.EC K D := by
  obtain ⟨a, hb⟩ := He.ba hb
  obtain ⟨b, hb⟩ := He.ba hb
  obtain ⟨c, hb⟩ := He.ba hb
  obtain ⟨d, hb⟩ := He.ba hb
  obtain ⟨e, hb⟩ := He.ba hb
  obtain ⟨f, hb⟩ := He.ba hb
  obtain ⟨g, i⟩ := He.ba hb
  exact ⟨a, He.eqO_ok b, He.eqO_ok c, of_decide_eq_true d, He.eqO_ok e, He.eqO_ok f, of_decide_eq_true g, of_decide_eq_true i⟩
def clsB (K : PySem.W.Frag) : Bool := (List.range 19).all fun n => ecB K (Cs K n) && (decide (PySem.W.kitOne K (.ref (Cs K n)) (.type "ValueError") = some true) && (decide (PySem.W.exmOne K (.ref (Cs K n)) (.ref (Cs K 18)) = some true) &&
  (List.range 18).all fun i => decide (PySem.W.kitOne K (.ref (Cs K n)) (.ref (Cs K i)) = some (i == n))))
def tabNames : List Str := ["reads_as_cell", "is_name", "is_tuple_of", "is_kinds", "wrong_alone"]
def tabB (K : PySem.W.Frag) : Bool := tabNames.all fun x => decide (PySem.W.tabIn K x = some (He.cT K (x, none))) && (K.lookup (He.cT K (x, none)).2).isNone
end
end JF
set_option Elab.async false
set_option linter.all false
set_option maxRecDepth 100000
set_option maxHeartbeats 8000000
namespace JF
open PySem PySem.Spec PyProof.Rows L2 GxR GA
def fnL : List He.DefD := [dD "is_integer" sIsInteger, dD "is_number" sIsNumber, dD "is_register" sIsRegister, dD "is_next" sIsNext, dD "is_low_name" sLow, dD "is_high_name" sHigh,
  dD "is_field_word" sField, dD "is_pair" sPair, dD "are_fields" sFields, dD "is_maker" sMaker, dD "are_makers" sMakers, dD "is_kind" sKind,
  dD "are_make_args" sMakeArgs, dD "are_call_args" sCallArgs, dD "is_branch" sBranch, dD "are_branches" sBranches, dD "begins_with_word" sBegins, dD "has_parts" sParts,
  dD "is_row" sRow, dD "is_function" sFunction, dD "are_functions" sFunctions, dD "is_program" sProgram, dD "need_program" sNeed, dD "makers_by_name" sMbn,
  dD "nexts" sNexts, dD "is_named" sNamed, dD "has_wrong_many" sMany, dD "reads" sReads, dD "words_behind" sBehind, dD "wrong_reads" sWReads,
  dD "words_at" sWordsAt, dD "wrong_words" sWWords, dD "reached" sReached, dD "wrong_ways" sWays, dD "wrong_function" sWFun, dD "wrong_heads" sHeads,
  dD "check" sCheck, dD "checked" sChecked, dD "registers" sRegs, dD "fields_behind" sFB, dD "are_sayings" sSay, dD "is_tree" sTree,
  dD "_law_well" sWell, dD "_law_draw" sDraw, dD "_law_raised" sRaised, dD "_law_raised_more" sRaisedMore, dD "_law_classes" sClasses, dD "_law_way_right" sWay,
  dD "_law_fields_right" sFieldsRight, dD "_law_by_hand" sHand, dD "law" sLaw, dD "reads_as_cell" sCell, dD "is_name" sName, dD "is_tuple_of" sTupleOf,
  dD "is_kinds" sKinds, dD "wrong_alone" sAlone,
  ⟨("Tables", some "__init__"), "__init__", "Tables.__init__", defArgs sTabInit, defBody sTabInit, defScope sTabInit, [], []⟩]
def faL : List He.Fa := [.glo "is_integer", .glo "is_number", .glo "is_register", .glo "is_next", .glo "is_low_name", .glo "is_high_name",
  .glo "is_field_word", .glo "is_pair", .glo "are_fields", .glo "is_maker", .glo "are_makers", .glo "is_kind",
  .glo "are_make_args", .glo "are_call_args", .glo "is_branch", .glo "are_branches", .glo "begins_with_word", .glo "has_parts",
  .glo "is_row", .glo "is_function", .glo "are_functions", .glo "is_program", .glo "need_program", .glo "makers_by_name",
  .glo "nexts", .glo "is_named", .glo "has_wrong_many", .glo "reads", .glo "words_behind", .glo "wrong_reads",
  .glo "words_at", .glo "wrong_words", .glo "reached", .glo "wrong_ways", .glo "wrong_function", .glo "wrong_heads",
  .glo "check", .glo "checked", .glo "registers", .glo "fields_behind", .glo "are_sayings", .glo "is_tree",
  .glo "_law_well", .glo "_law_draw", .glo "_law_raised", .glo "_law_raised_more", .glo "_law_classes", .glo "_law_way_right",
  .glo "_law_fields_right", .glo "_law_by_hand", .glo "law", .glo "reads_as_cell", .glo "is_name", .glo "is_tuple_of",
  .glo "is_kinds", .glo "wrong_alone", .glo "BadKinds", .glo "BadKind", .glo "BadProgram", .glo "NotChecked",
  .glo "BadArgs", .glo "BadName", .glo "BadLimit", .glo "BadPlacing", .glo "BadWay", .glo "BadRow",
  .glo "BadRegister", .glo "NotRight", .glo "NotLet", .glo "BadLog", .glo "HasTokens", .glo "TooGreat",
  .glo "BadText", .glo "Unlike", .glo "CellError", .glo "Tables", .glo "WORDS", .glo "ROW_FORMS",
  .free "type", .free "int", .free "str", .free "tuple", .free "len", .free "all",
  .free "any", .free "zip", .free "set", .free "enumerate", .free "list", .free "range",
  .free "isinstance", .free "ValueError", .free "repr", .free "abs", .free "super", .int "GREATEST_NUMBER" 1000000000000,
  .int "REGISTERS" 32, .int "MOST_ENTRIES" 400, .str "DIGITS" "0123456789", .str "NAME_SIGNS" "abcdefghijklmnopqrstuvwxyzABCDEFGHIJKLMNOPQRSTUVWXYZ0123456789", .str "SMALL_LETTERS" "abcdefghijklmnopqrstuvwxyz", .str "CAPITAL_LETTERS" "ABCDEFGHIJKLMNOPQRSTUVWXYZ",
  .exc "BadKinds", .exc "BadKind", .exc "BadProgram", .exc "BadArgs", .exc "BadName", .exc "BadLimit",
  .exc "BadPlacing", .exc "BadWay", .exc "BadRow", .exc "BadRegister", .exc "BadLog", .exc "HasTokens",
  .exc "TooGreat", .exc "Unlike", .exc "CellError", .exm "NotChecked" "NotChecked" true, .exm "BadProgram" "NotChecked" false, .exm "BadProgram" "BadProgram" true,
  .exm "BadKinds" "BadKinds" true, .exm "BadKind" "BadKinds" false, .exm "BadKind" "BadKind" true, .exm "CellError" "CellError" true, .cls "Tables", .noat "Tables" "kinds",
  .noat "Tables" "makers", .noat "Tables" "functions", .mkr "Tables"]
def bits (K : PySem.W.Frag) (file : Str) : Bool := [clsB K, tabB K, formB K, decide ((names8.map (He.ga K)).Nodup), He.tupB K "WORDS" ((["case", "drop", "entry", "free", "fun", "give", "hold", "in", "into", "kind", "number"] : List Str).map He.Dv.str),
  ownOk K "NotChecked" "what" "NotChecked.__init__" file,
  ownOk K "NotRight" "way" "NotRight.__init__" file,
  ownOk K "NotLet" "index" "NotLet.__init__" file,
  ownOk K "BadText" "place" "BadText.__init__" file].all id
def iSt (i : Nat) : Stmt := inCls (topS i) 0
theorem all9 {b1 b2 b3 b4 b5 b6 b7 b8 b9 : Bool} (h : [b1, b2, b3, b4, b5, b6, b7, b8, b9].all id = true) : b1 = true ∧ b2 = true ∧ b3 = true ∧ b4 = true ∧ b5 = true ∧ b6 = true ∧ b7 = true ∧ b8 = true ∧ b9 = true := by
  simp only [List.all_cons, List.all_nil, id_eq, Bool.and_true, Bool.and_eq_true] at h
  exact h
theorem errC_of {K : PySem.W.Frag} {mg : Str → Option Value} {h : Heap} (X : K.In h) (G : h.Ns mainGlobals mg) (S : He.SaysD faL fnL K) {x : Str} (i j : Nat) (hi : faL[i]? = some (.glo x)) (hj : faL[j]? = some (.exc x)) : ErrC K mg x (He.ga K x) := by
  obtain ⟨a, b, c, d⟩ := He.exc_ok (S.fact j hj)
  exact ⟨He.glo_ok X G (S.fact i hi), b, a, c, d⟩
theorem assemble {l : PySem.W.OpenLaw} {w : World} {K : PySem.W.Frag} {mg mb : Str → Option Value} {h : Heap} {q : Program} {loose : List Str} {mean : ExcName → Option Value} {a0 : Addr} (T0 : Top q loose mean mg mb h) (X : K.In h) (S : He.SaysD faL fnL K)
    (top : (l.prog.main.scope.names.lookup ("super" : Str)).isSome = false) (bt : bits K l.prog.main.file = true) (dw : He.dicW K (He.ga K "ROW_FORMS") = some (He.keysIn w.params ["number", "add", "sub", "less", "make", "match", "call", "give"]))
    (w1 : initW K "NotChecked" "NotChecked.__init__" (iSt 5)) (w2 : initW K "NotRight" "NotRight.__init__" (iSt 13)) (w3 : initW K "NotLet" "NotLet.__init__" (iSt 14)) (w4 : initW K "BadText" "BadText.__init__" (iSt 18))
    (rec : tabNames.all (fun x => ((recsOf q).find? fun e => e.name == x).isSome) = true) (hl : mg ("law" : Str) = some (.ref a0)) : EG.Kept l w K 27 63 "script" mg a0 h := by
  have G := T0.g
  obtain ⟨bC, bT, bF, bN, bW, o1, o2, o3, o4⟩ := all9 bt
  obtain ⟨f_is_integer, D_is_integer⟩ := dn_of (x := "is_integer") (st := sIsInteger) X G S 0 0 rfl rfl
  obtain ⟨f_is_number, D_is_number⟩ := dn_of (x := "is_number") (st := sIsNumber) X G S 1 1 rfl rfl
  obtain ⟨f_is_register, D_is_register⟩ := dn_of (x := "is_register") (st := sIsRegister) X G S 2 2 rfl rfl
  obtain ⟨f_is_next, D_is_next⟩ := dn_of (x := "is_next") (st := sIsNext) X G S 3 3 rfl rfl
  obtain ⟨f_is_low_name, D_is_low_name⟩ := dn_of (x := "is_low_name") (st := sLow) X G S 4 4 rfl rfl
  obtain ⟨f_is_high_name, D_is_high_name⟩ := dn_of (x := "is_high_name") (st := sHigh) X G S 5 5 rfl rfl
  obtain ⟨f_is_field_word, D_is_field_word⟩ := dn_of (x := "is_field_word") (st := sField) X G S 6 6 rfl rfl
  obtain ⟨f_is_pair, D_is_pair⟩ := dn_of (x := "is_pair") (st := sPair) X G S 7 7 rfl rfl
  obtain ⟨f_are_fields, D_are_fields⟩ := dn_of (x := "are_fields") (st := sFields) X G S 8 8 rfl rfl
  obtain ⟨f_is_maker, D_is_maker⟩ := dn_of (x := "is_maker") (st := sMaker) X G S 9 9 rfl rfl
  obtain ⟨f_are_makers, D_are_makers⟩ := dn_of (x := "are_makers") (st := sMakers) X G S 10 10 rfl rfl
  obtain ⟨f_is_kind, D_is_kind⟩ := dn_of (x := "is_kind") (st := sKind) X G S 11 11 rfl rfl
  obtain ⟨f_are_make_args, D_are_make_args⟩ := dn_of (x := "are_make_args") (st := sMakeArgs) X G S 12 12 rfl rfl
  obtain ⟨f_are_call_args, D_are_call_args⟩ := dn_of (x := "are_call_args") (st := sCallArgs) X G S 13 13 rfl rfl
  obtain ⟨f_is_branch, D_is_branch⟩ := dn_of (x := "is_branch") (st := sBranch) X G S 14 14 rfl rfl
  obtain ⟨f_are_branches, D_are_branches⟩ := dn_of (x := "are_branches") (st := sBranches) X G S 15 15 rfl rfl
  obtain ⟨f_begins_with_word, D_begins_with_word⟩ := dn_of (x := "begins_with_word") (st := sBegins) X G S 16 16 rfl rfl
  obtain ⟨f_has_parts, D_has_parts⟩ := dn_of (x := "has_parts") (st := sParts) X G S 17 17 rfl rfl
  obtain ⟨f_is_row, D_is_row⟩ := dn_of (x := "is_row") (st := sRow) X G S 18 18 rfl rfl
  obtain ⟨f_is_function, D_is_function⟩ := dn_of (x := "is_function") (st := sFunction) X G S 19 19 rfl rfl
  obtain ⟨f_are_functions, D_are_functions⟩ := dn_of (x := "are_functions") (st := sFunctions) X G S 20 20 rfl rfl
  obtain ⟨f_is_program, D_is_program⟩ := dn_of (x := "is_program") (st := sProgram) X G S 21 21 rfl rfl
  obtain ⟨f_need_program, D_need_program⟩ := dn_of (x := "need_program") (st := sNeed) X G S 22 22 rfl rfl
  obtain ⟨f_makers_by_name, D_makers_by_name⟩ := dn_of (x := "makers_by_name") (st := sMbn) X G S 23 23 rfl rfl
  obtain ⟨f_nexts, D_nexts⟩ := dn_of (x := "nexts") (st := sNexts) X G S 24 24 rfl rfl
  obtain ⟨f_is_named, D_is_named⟩ := dn_of (x := "is_named") (st := sNamed) X G S 25 25 rfl rfl
  obtain ⟨f_has_wrong_many, D_has_wrong_many⟩ := dn_of (x := "has_wrong_many") (st := sMany) X G S 26 26 rfl rfl
  obtain ⟨f_reads, D_reads⟩ := dn_of (x := "reads") (st := sReads) X G S 27 27 rfl rfl
  obtain ⟨f_words_behind, D_words_behind⟩ := dn_of (x := "words_behind") (st := sBehind) X G S 28 28 rfl rfl
  obtain ⟨f_wrong_reads, D_wrong_reads⟩ := dn_of (x := "wrong_reads") (st := sWReads) X G S 29 29 rfl rfl
  obtain ⟨f_words_at, D_words_at⟩ := dn_of (x := "words_at") (st := sWordsAt) X G S 30 30 rfl rfl
  obtain ⟨f_wrong_words, D_wrong_words⟩ := dn_of (x := "wrong_words") (st := sWWords) X G S 31 31 rfl rfl
  obtain ⟨f_reached, D_reached⟩ := dn_of (x := "reached") (st := sReached) X G S 32 32 rfl rfl
  obtain ⟨f_wrong_ways, D_wrong_ways⟩ := dn_of (x := "wrong_ways") (st := sWays) X G S 33 33 rfl rfl
  obtain ⟨f_wrong_function, D_wrong_function⟩ := dn_of (x := "wrong_function") (st := sWFun) X G S 34 34 rfl rfl
  obtain ⟨f_wrong_heads, D_wrong_heads⟩ := dn_of (x := "wrong_heads") (st := sHeads) X G S 35 35 rfl rfl
  obtain ⟨f_check, D_check⟩ := dn_of (x := "check") (st := sCheck) X G S 36 36 rfl rfl
  obtain ⟨f_checked, D_checked⟩ := dn_of (x := "checked") (st := sChecked) X G S 37 37 rfl rfl
  obtain ⟨f_registers, D_registers⟩ := dn_of (x := "registers") (st := sRegs) X G S 38 38 rfl rfl
  obtain ⟨f_fields_behind, D_fields_behind⟩ := dn_of (x := "fields_behind") (st := sFB) X G S 39 39 rfl rfl
  obtain ⟨f_are_sayings, D_are_sayings⟩ := dn_of (x := "are_sayings") (st := sSay) X G S 40 40 rfl rfl
  obtain ⟨f_is_tree, D_is_tree⟩ := dn_of (x := "is_tree") (st := sTree) X G S 41 41 rfl rfl
  obtain ⟨f__law_well, D__law_well⟩ := dn_of (x := "_law_well") (st := sWell) X G S 42 42 rfl rfl
  obtain ⟨f__law_draw, D__law_draw⟩ := dn_of (x := "_law_draw") (st := sDraw) X G S 43 43 rfl rfl
  obtain ⟨f__law_raised, D__law_raised⟩ := dn_of (x := "_law_raised") (st := sRaised) X G S 44 44 rfl rfl
  obtain ⟨f__law_raised_more, D__law_raised_more⟩ := dn_of (x := "_law_raised_more") (st := sRaisedMore) X G S 45 45 rfl rfl
  obtain ⟨f__law_classes, D__law_classes⟩ := dn_of (x := "_law_classes") (st := sClasses) X G S 46 46 rfl rfl
  obtain ⟨f__law_way_right, D__law_way_right⟩ := dn_of (x := "_law_way_right") (st := sWay) X G S 47 47 rfl rfl
  obtain ⟨f__law_fields_right, D__law_fields_right⟩ := dn_of (x := "_law_fields_right") (st := sFieldsRight) X G S 48 48 rfl rfl
  obtain ⟨f__law_by_hand, D__law_by_hand⟩ := dn_of (x := "_law_by_hand") (st := sHand) X G S 49 49 rfl rfl
  obtain ⟨f_law, D_law⟩ := dn_of (x := "law") (st := sLaw) X G S 50 50 rfl rfl
  obtain ⟨f_reads_as_cell, D_reads_as_cell⟩ := dc_of (x := "reads_as_cell") (st := sCell) X G S 51 51 rfl rfl
  obtain ⟨f_is_name, D_is_name⟩ := dc_of (x := "is_name") (st := sName) X G S 52 52 rfl rfl
  obtain ⟨f_is_tuple_of, D_is_tuple_of⟩ := dc_of (x := "is_tuple_of") (st := sTupleOf) X G S 53 53 rfl rfl
  obtain ⟨f_is_kinds, D_is_kinds⟩ := dc_of (x := "is_kinds") (st := sKinds) X G S 54 54 rfl rfl
  obtain ⟨f_wrong_alone, D_wrong_alone⟩ := dc_of (x := "wrong_alone") (st := sAlone) X G S 55 55 rfl rfl
  obtain ⟨f_tab, D_tab0⟩ := S.def_ 56 (d := ⟨("Tables", some "__init__"), "__init__", "Tables.__init__", defArgs sTabInit, defBody sTabInit, defScope sTabInit, [], []⟩) rfl
  have D_tab : Fun K "__init__" "Tables.__init__" sTabInit (He.ma K (He.ga K "Tables") "__init__") f_tab := fun_of D_tab0
  have b_is_integer := D_is_integer.F.binds (ps := ["thing", "low", "high"]) fun _ _ _ _ _ _ us hu => match us, hu with | [_, _, _], _ => rfl
  have b_is_number := D_is_number.F.binds (ps := ["thing"]) fun _ _ _ _ _ _ us hu => match us, hu with | [_], _ => rfl
  have b_is_register := D_is_register.F.binds (ps := ["thing"]) fun _ _ _ _ _ _ us hu => match us, hu with | [_], _ => rfl
  have b_is_next := D_is_next.F.binds (ps := ["thing"]) fun _ _ _ _ _ _ us hu => match us, hu with | [_], _ => rfl
  have b_is_low_name := D_is_low_name.F.binds (ps := ["thing"]) fun _ _ _ _ _ _ us hu => match us, hu with | [_], _ => rfl
  have b_is_high_name := D_is_high_name.F.binds (ps := ["thing"]) fun _ _ _ _ _ _ us hu => match us, hu with | [_], _ => rfl
  have b_is_field_word := D_is_field_word.F.binds (ps := ["thing"]) fun _ _ _ _ _ _ us hu => match us, hu with | [_], _ => rfl
  have b_is_pair := D_is_pair.F.binds (ps := ["thing", "fits_first", "fits_second"]) fun _ _ _ _ _ _ us hu => match us, hu with | [_, _, _], _ => rfl
  have b_are_fields := D_are_fields.F.binds (ps := ["thing"]) fun _ _ _ _ _ _ us hu => match us, hu with | [_], _ => rfl
  have b_is_maker := D_is_maker.F.binds (ps := ["thing"]) fun _ _ _ _ _ _ us hu => match us, hu with | [_], _ => rfl
  have b_are_makers := D_are_makers.F.binds (ps := ["thing"]) fun _ _ _ _ _ _ us hu => match us, hu with | [_], _ => rfl
  have b_is_kind := D_is_kind.F.binds (ps := ["thing"]) fun _ _ _ _ _ _ us hu => match us, hu with | [_], _ => rfl
  have b_are_make_args := D_are_make_args.F.binds (ps := ["thing"]) fun _ _ _ _ _ _ us hu => match us, hu with | [_], _ => rfl
  have b_are_call_args := D_are_call_args.F.binds (ps := ["thing"]) fun _ _ _ _ _ _ us hu => match us, hu with | [_], _ => rfl
  have b_is_branch := D_is_branch.F.binds (ps := ["thing"]) fun _ _ _ _ _ _ us hu => match us, hu with | [_], _ => rfl
  have b_are_branches := D_are_branches.F.binds (ps := ["thing"]) fun _ _ _ _ _ _ us hu => match us, hu with | [_], _ => rfl
  have b_begins_with_word := D_begins_with_word.F.binds (ps := ["thing"]) fun _ _ _ _ _ _ us hu => match us, hu with | [_], _ => rfl
  have b_has_parts := D_has_parts.F.binds (ps := ["thing", "form"]) fun _ _ _ _ _ _ us hu => match us, hu with | [_, _], _ => rfl
  have b_is_row := D_is_row.F.binds (ps := ["thing"]) fun _ _ _ _ _ _ us hu => match us, hu with | [_], _ => rfl
  have b_is_function := D_is_function.F.binds (ps := ["thing"]) fun _ _ _ _ _ _ us hu => match us, hu with | [_], _ => rfl
  have b_are_functions := D_are_functions.F.binds (ps := ["thing"]) fun _ _ _ _ _ _ us hu => match us, hu with | [_], _ => rfl
  have b_is_program := D_is_program.F.binds (ps := ["thing"]) fun _ _ _ _ _ _ us hu => match us, hu with | [_], _ => rfl
  have b_need_program := D_need_program.F.binds (ps := ["program"]) fun _ _ _ _ _ _ us hu => match us, hu with | [_], _ => rfl
  have b_makers_by_name := D_makers_by_name.F.binds (ps := ["kinds"]) fun _ _ _ _ _ _ us hu => match us, hu with | [_], _ => rfl
  have b_nexts := D_nexts.F.binds (ps := ["row"]) fun _ _ _ _ _ _ us hu => match us, hu with | [_], _ => rfl
  have b_is_named := D_is_named.F.binds (ps := ["tables", "row"]) fun _ _ _ _ _ _ us hu => match us, hu with | [_, _], _ => rfl
  have b_has_wrong_many := D_has_wrong_many.F.binds (ps := ["tables", "row"]) fun _ _ _ _ _ _ us hu => match us, hu with | [_, _], _ => rfl
  have b_reads := D_reads.F.binds (ps := ["tables", "row", "result"]) fun _ _ _ _ _ _ us hu => match us, hu with | [_, _, _], _ => rfl
  have b_words_behind := D_words_behind.F.binds (ps := ["tables", "row", "has"]) fun _ _ _ _ _ _ us hu => match us, hu with | [_, _, _], _ => rfl
  have b_wrong_reads := D_wrong_reads.F.binds (ps := ["reading", "has"]) fun _ _ _ _ _ _ us hu => match us, hu with | [_, _], _ => rfl
  have b_words_at := D_words_at.F.binds (ps := ["tables", "function"]) fun _ _ _ _ _ _ us hu => match us, hu with | [_, _], _ => rfl
  have b_wrong_words := D_wrong_words.F.binds (ps := ["tables", "function"]) fun _ _ _ _ _ _ us hu => match us, hu with | [_, _], _ => rfl
  have b_reached := D_reached.F.binds (ps := ["leads", "begins"]) fun _ _ _ _ _ _ us hu => match us, hu with | [_, _], _ => rfl
  have b_wrong_ways := D_wrong_ways.F.binds (ps := ["rows"]) fun _ _ _ _ _ _ us hu => match us, hu with | [_], _ => rfl
  have b_wrong_function := D_wrong_function.F.binds (ps := ["tables", "function"]) fun _ _ _ _ _ _ us hu => match us, hu with | [_, _], _ => rfl
  have b_wrong_heads := D_wrong_heads.F.binds (ps := ["tables", "functions"]) fun _ _ _ _ _ _ us hu => match us, hu with | [_, _], _ => rfl
  have b_check := D_check.F.binds (ps := ["program"]) fun _ _ _ _ _ _ us hu => match us, hu with | [_], _ => rfl
  have b_checked := D_checked.F.binds (ps := ["program"]) fun _ _ _ _ _ _ us hu => match us, hu with | [_], _ => rfl
  have b_registers := D_registers.F.binds (ps := ["program"]) fun _ _ _ _ _ _ us hu => match us, hu with | [_], _ => rfl
  have b_fields_behind := D_fields_behind.F.binds (ps := ["makers", "word", "entry"]) fun _ _ _ _ _ _ us hu => match us, hu with | [_, _, _], _ => rfl
  have b_are_sayings := D_are_sayings.F.binds (ps := ["makers", "kind", "thing"]) fun _ _ _ _ _ _ us hu => match us, hu with | [_, _, _], _ => rfl
  have b_is_tree := D_is_tree.F.binds (ps := ["kinds", "kind", "thing"]) fun _ _ _ _ _ _ us hu => match us, hu with | [_, _, _], _ => rfl
  have b__law_well := D__law_well.F.binds (ps := ["script"]) fun _ _ _ _ _ _ us hu => match us, hu with | [_], _ => rfl
  have b__law_draw := D__law_draw.F.binds (ps := ["well", "many"]) fun _ _ _ _ _ _ us hu => match us, hu with | [_, _], _ => rfl
  have b__law_raised := D__law_raised.F.binds (ps := ["way", "value"]) fun _ _ _ _ _ _ us hu => match us, hu with | [_, _], _ => rfl
  have b__law_raised_more := D__law_raised_more.F.binds (ps := ["way", "value"]) fun _ _ _ _ _ _ us hu => match us, hu with | [_, _], _ => rfl
  have b__law_classes := D__law_classes.F.binds (ps := ["e"]) fun _ _ _ _ _ _ us hu => match us, hu with | [_], _ => rfl
  have b__law_way_right := D__law_way_right.F.binds (ps := ["way", "value"]) fun _ _ _ _ _ _ us hu => match us, hu with | [_, _], _ => rfl
  have b__law_fields_right := D__law_fields_right.F.binds (ps := ["trouble", "number", "broken"]) fun _ _ _ _ _ _ us hu => match us, hu with | [_, _, _], _ => rfl
  have b__law_by_hand := D__law_by_hand.F.binds (ps := ["name"]) fun _ _ _ _ _ _ us hu => match us, hu with | [_], _ => rfl
  have b_law := D_law.F.binds (ps := ["script"]) fun _ _ _ _ _ _ us hu => match us, hu with | [_], _ => rfl
  have b_reads_as_cell := D_reads_as_cell.F.binds (ps := ["name"]) fun _ _ _ _ _ us hu => match us, hu with | [_], _ => rfl
  have b_is_name := D_is_name.F.binds (ps := ["thing", "first_signs"]) fun _ _ _ _ _ us hu => match us, hu with | [_, _], _ => rfl
  have b_is_tuple_of := D_is_tuple_of.F.binds (ps := ["thing", "least", "most", "fits"]) fun _ _ _ _ _ us hu => match us, hu with | [_, _, _, _], _ => rfl
  have b_is_kinds := D_is_kinds.F.binds (ps := ["thing"]) fun _ _ _ _ _ us hu => match us, hu with | [_], _ => rfl
  have b_wrong_alone := D_wrong_alone.F.binds (ps := ["tables", "rows"]) fun _ _ _ _ _ us hu => match us, hu with | [_, _], _ => rfl
  have b_tab := D_tab.binds (ps := ["self", "program"]) fun _ _ _ _ _ _ us hu => match us, hu with | [_, _], _ => rfl
  have z_type : mg ("type" : Str) = none := He.free_ok X G (x := "type") (S.fact 78 rfl)
  have z_int : mg ("int" : Str) = none := He.free_ok X G (x := "int") (S.fact 79 rfl)
  have z_str : mg ("str" : Str) = none := He.free_ok X G (x := "str") (S.fact 80 rfl)
  have z_tuple : mg ("tuple" : Str) = none := He.free_ok X G (x := "tuple") (S.fact 81 rfl)
  have z_len : mg ("len" : Str) = none := He.free_ok X G (x := "len") (S.fact 82 rfl)
  have z_all : mg ("all" : Str) = none := He.free_ok X G (x := "all") (S.fact 83 rfl)
  have z_any : mg ("any" : Str) = none := He.free_ok X G (x := "any") (S.fact 84 rfl)
  have z_zip : mg ("zip" : Str) = none := He.free_ok X G (x := "zip") (S.fact 85 rfl)
  have z_set : mg ("set" : Str) = none := He.free_ok X G (x := "set") (S.fact 86 rfl)
  have z_enumerate : mg ("enumerate" : Str) = none := He.free_ok X G (x := "enumerate") (S.fact 87 rfl)
  have z_list : mg ("list" : Str) = none := He.free_ok X G (x := "list") (S.fact 88 rfl)
  have z_range : mg ("range" : Str) = none := He.free_ok X G (x := "range") (S.fact 89 rfl)
  have z_isinstance : mg ("isinstance" : Str) = none := He.free_ok X G (x := "isinstance") (S.fact 90 rfl)
  have z_ValueError : mg ("ValueError" : Str) = none := He.free_ok X G (x := "ValueError") (S.fact 91 rfl)
  have z_repr : mg ("repr" : Str) = none := He.free_ok X G (x := "repr") (S.fact 92 rfl)
  have z_abs : mg ("abs" : Str) = none := He.free_ok X G (x := "abs") (S.fact 93 rfl)
  have z_super : mg ("super" : Str) = none := He.free_ok X G (x := "super") (S.fact 94 rfl)
  have B : BI mg := ⟨z_type, z_int, z_str, z_tuple, z_len, z_all, z_any⟩
  obtain ⟨t_GREATEST_NUMBER, c_GREATEST_NUMBER⟩ := He.int_ok X G (x := "GREATEST_NUMBER") (S.fact 95 rfl)
  obtain ⟨t_REGISTERS, c_REGISTERS⟩ := He.int_ok X G (x := "REGISTERS") (S.fact 96 rfl)
  obtain ⟨t_MOST_ENTRIES, c_MOST_ENTRIES⟩ := He.int_ok X G (x := "MOST_ENTRIES") (S.fact 97 rfl)
  obtain ⟨t_DIGITS, c_DIGITS⟩ := He.str_ok X G (x := "DIGITS") (S.fact 98 rfl)
  obtain ⟨t_NAME_SIGNS, c_NAME_SIGNS⟩ := He.str_ok X G (x := "NAME_SIGNS") (S.fact 99 rfl)
  obtain ⟨t_SMALL_LETTERS, c_SMALL_LETTERS⟩ := He.str_ok X G (x := "SMALL_LETTERS") (S.fact 100 rfl)
  obtain ⟨t_CAPITAL_LETTERS, c_CAPITAL_LETTERS⟩ := He.str_ok X G (x := "CAPITAL_LETTERS") (S.fact 101 rfl)
  have g_BadKinds : mg ("BadKinds" : Str) = some (.ref (He.ga K "BadKinds")) := He.glo_ok X G (S.fact 56 rfl)
  have E_BadKinds : ErrC K mg "BadKinds" (He.ga K "BadKinds") := errC_of X G S 56 102 rfl rfl
  have g_BadKind : mg ("BadKind" : Str) = some (.ref (He.ga K "BadKind")) := He.glo_ok X G (S.fact 57 rfl)
  have E_BadKind : ErrC K mg "BadKind" (He.ga K "BadKind") := errC_of X G S 57 103 rfl rfl
  have g_BadProgram : mg ("BadProgram" : Str) = some (.ref (He.ga K "BadProgram")) := He.glo_ok X G (S.fact 58 rfl)
  have E_BadProgram : ErrC K mg "BadProgram" (He.ga K "BadProgram") := errC_of X G S 58 104 rfl rfl
  have g_NotChecked : mg ("NotChecked" : Str) = some (.ref (He.ga K "NotChecked")) := He.glo_ok X G (S.fact 59 rfl)
  have g_BadArgs : mg ("BadArgs" : Str) = some (.ref (He.ga K "BadArgs")) := He.glo_ok X G (S.fact 60 rfl)
  have E_BadArgs : ErrC K mg "BadArgs" (He.ga K "BadArgs") := errC_of X G S 60 105 rfl rfl
  have g_BadName : mg ("BadName" : Str) = some (.ref (He.ga K "BadName")) := He.glo_ok X G (S.fact 61 rfl)
  have E_BadName : ErrC K mg "BadName" (He.ga K "BadName") := errC_of X G S 61 106 rfl rfl
  have g_BadLimit : mg ("BadLimit" : Str) = some (.ref (He.ga K "BadLimit")) := He.glo_ok X G (S.fact 62 rfl)
  have E_BadLimit : ErrC K mg "BadLimit" (He.ga K "BadLimit") := errC_of X G S 62 107 rfl rfl
  have g_BadPlacing : mg ("BadPlacing" : Str) = some (.ref (He.ga K "BadPlacing")) := He.glo_ok X G (S.fact 63 rfl)
  have E_BadPlacing : ErrC K mg "BadPlacing" (He.ga K "BadPlacing") := errC_of X G S 63 108 rfl rfl
  have g_BadWay : mg ("BadWay" : Str) = some (.ref (He.ga K "BadWay")) := He.glo_ok X G (S.fact 64 rfl)
  have E_BadWay : ErrC K mg "BadWay" (He.ga K "BadWay") := errC_of X G S 64 109 rfl rfl
  have g_BadRow : mg ("BadRow" : Str) = some (.ref (He.ga K "BadRow")) := He.glo_ok X G (S.fact 65 rfl)
  have E_BadRow : ErrC K mg "BadRow" (He.ga K "BadRow") := errC_of X G S 65 110 rfl rfl
  have g_BadRegister : mg ("BadRegister" : Str) = some (.ref (He.ga K "BadRegister")) := He.glo_ok X G (S.fact 66 rfl)
  have E_BadRegister : ErrC K mg "BadRegister" (He.ga K "BadRegister") := errC_of X G S 66 111 rfl rfl
  have g_NotRight : mg ("NotRight" : Str) = some (.ref (He.ga K "NotRight")) := He.glo_ok X G (S.fact 67 rfl)
  have g_NotLet : mg ("NotLet" : Str) = some (.ref (He.ga K "NotLet")) := He.glo_ok X G (S.fact 68 rfl)
  have g_BadLog : mg ("BadLog" : Str) = some (.ref (He.ga K "BadLog")) := He.glo_ok X G (S.fact 69 rfl)
  have E_BadLog : ErrC K mg "BadLog" (He.ga K "BadLog") := errC_of X G S 69 112 rfl rfl
  have g_HasTokens : mg ("HasTokens" : Str) = some (.ref (He.ga K "HasTokens")) := He.glo_ok X G (S.fact 70 rfl)
  have E_HasTokens : ErrC K mg "HasTokens" (He.ga K "HasTokens") := errC_of X G S 70 113 rfl rfl
  have g_TooGreat : mg ("TooGreat" : Str) = some (.ref (He.ga K "TooGreat")) := He.glo_ok X G (S.fact 71 rfl)
  have E_TooGreat : ErrC K mg "TooGreat" (He.ga K "TooGreat") := errC_of X G S 71 114 rfl rfl
  have g_BadText : mg ("BadText" : Str) = some (.ref (He.ga K "BadText")) := He.glo_ok X G (S.fact 72 rfl)
  have g_Unlike : mg ("Unlike" : Str) = some (.ref (He.ga K "Unlike")) := He.glo_ok X G (S.fact 73 rfl)
  have E_Unlike : ErrC K mg "Unlike" (He.ga K "Unlike") := errC_of X G S 73 115 rfl rfl
  have g_CellError : mg ("CellError" : Str) = some (.ref (He.ga K "CellError")) := He.glo_ok X G (S.fact 74 rfl)
  have E_CellError : ErrC K mg "CellError" (He.ga K "CellError") := errC_of X G S 74 116 rfl rfl
  have g_Tables : mg ("Tables" : Str) = some (.ref (He.ga K "Tables")) := He.glo_ok X G (S.fact 75 rfl)
  have g_WORDS : mg ("WORDS" : Str) = some (.ref (He.ga K "WORDS")) := He.glo_ok X G (S.fact 76 rfl)
  have g_ROW_FORMS : mg ("ROW_FORMS" : Str) = some (.ref (He.ga K "ROW_FORMS")) := He.glo_ok X G (S.fact 77 rfl)
  obtain ⟨f_NotChecked, T_NotChecked, kV0, dc0, pm0, an0, cd0, ct0, cc0, e0⟩ := own_of (P := l.prog) (x := "NotChecked") (f := "what") (msg := "the program is not right") (qual := "NotChecked.__init__") (st := iSt 5) ⟨by decide, by decide, by decide, by decide, by decide⟩ g_NotChecked z_super top o1 w1 rfl rfl rfl rfl
  have h_NotChecked : ∀ e v, bindArgs f_NotChecked ⟨[.ref e, v], []⟩ = pure [(("self" : Str), .ref e), ("what", v)] := fun e v => by rw [e0]; rfl
  have k_NotChecked : ∀ e v, bindArgs f_NotChecked ⟨[.ref e], [("what", v)]⟩ = pure [(("self" : Str), .ref e), ("what", v)] := fun e v => by rw [e0]; rfl
  obtain ⟨f_NotRight, T_NotRight, kV1, dc1, pm1, an1, cd1, ct1, cc1, e1⟩ := own_of (P := l.prog) (x := "NotRight") (f := "way") (msg := "the placing is not right") (qual := "NotRight.__init__") (st := iSt 13) ⟨by decide, by decide, by decide, by decide, by decide⟩ g_NotRight z_super top o2 w2 rfl rfl rfl rfl
  have h_NotRight : ∀ e v, bindArgs f_NotRight ⟨[.ref e, v], []⟩ = pure [(("self" : Str), .ref e), ("way", v)] := fun e v => by rw [e1]; rfl
  have k_NotRight : ∀ e v, bindArgs f_NotRight ⟨[.ref e], [("way", v)]⟩ = pure [(("self" : Str), .ref e), ("way", v)] := fun e v => by rw [e1]; rfl
  obtain ⟨f_NotLet, T_NotLet, kV2, dc2, pm2, an2, cd2, ct2, cc2, e2⟩ := own_of (P := l.prog) (x := "NotLet") (f := "index") (msg := "the step is not let") (qual := "NotLet.__init__") (st := iSt 14) ⟨by decide, by decide, by decide, by decide, by decide⟩ g_NotLet z_super top o3 w3 rfl rfl rfl rfl
  have h_NotLet : ∀ e v, bindArgs f_NotLet ⟨[.ref e, v], []⟩ = pure [(("self" : Str), .ref e), ("index", v)] := fun e v => by rw [e2]; rfl
  have k_NotLet : ∀ e v, bindArgs f_NotLet ⟨[.ref e], [("index", v)]⟩ = pure [(("self" : Str), .ref e), ("index", v)] := fun e v => by rw [e2]; rfl
  obtain ⟨f_BadText, T_BadText, kV3, dc3, pm3, an3, cd3, ct3, cc3, e3⟩ := own_of (P := l.prog) (x := "BadText") (f := "place") (msg := "the text is not right") (qual := "BadText.__init__") (st := iSt 18) ⟨by decide, by decide, by decide, by decide, by decide⟩ g_BadText z_super top o4 w4 rfl rfl rfl rfl
  have h_BadText : ∀ e v, bindArgs f_BadText ⟨[.ref e, v], []⟩ = pure [(("self" : Str), .ref e), ("place", v)] := fun e v => by rw [e3]; rfl
  have k_BadText : ∀ e v, bindArgs f_BadText ⟨[.ref e], [("place", v)]⟩ = pure [(("self" : Str), .ref e), ("place", v)] := fun e v => by rw [e3]; rfl
  have cT := He.cls_ok (S.fact 124 rfl : (He.Fa.cls "Tables").ok K = true)
  have n1 := He.noat_ok (S.fact 125 rfl : (He.Fa.noat "Tables" "kinds").ok K = true)
  have n2 := He.noat_ok (S.fact 126 rfl : (He.Fa.noat "Tables" "makers").ok K = true)
  have n3 := He.noat_ok (S.fact 127 rfl : (He.Fa.noat "Tables" "functions").ok K = true)
  have M := He.mkr_ok (S.fact 128 rfl : (He.Fa.mkr "Tables").ok K = true)
  have EX : ExmH K (He.ga K "NotChecked") (He.ga K "BadProgram") (He.ga K "BadKinds") (He.ga K "BadKind") := ⟨He.exm_ok (S.fact 117 rfl), He.exm_ok (S.fact 118 rfl), He.exm_ok (S.fact 119 rfl), He.exm_ok (S.fact 120 rfl), He.exm_ok (S.fact 121 rfl), He.exm_ok (S.fact 122 rfl)⟩
  have xC : PySem.W.exmOne K (.ref (He.ga K "CellError")) (.ref (He.ga K "CellError")) = some true := He.exm_ok (S.fact 123 rfl)
  have cl : ∀ n, n < 19 → HP.EC K (Cs K n) ∧ PySem.W.kitOne K (.ref (Cs K n)) (.type "ValueError") = some true ∧ PySem.W.exmOne K (.ref (Cs K n)) (.ref (Cs K 18)) = some true ∧ ∀ i, i < 18 → PySem.W.kitOne K (.ref (Cs K n)) (.ref (Cs K i)) = some (i == n) := fun n hn => by
    obtain ⟨a, b⟩ := He.ba (List.all_eq_true.mp bC n (List.mem_range.mpr hn))
    obtain ⟨c, d⟩ := He.ba b
    obtain ⟨e, f⟩ := He.ba d
    exact ⟨ecB_ok a, of_decide_eq_true c, of_decide_eq_true e, fun i hi => of_decide_eq_true (List.all_eq_true.mp f i (List.mem_range.mpr hi))⟩
  have CT : ClsTab K (Cs K) (He.ga K "CellError") := ⟨fun n hn => (cl n (by omega)).1, fun n hn => (cl n (by omega)).2.1, fun n hn => (cl n (by omega)).2.2.1⟩
  have tabs : ∀ x ∈ tabNames, PySem.W.CodeHd h (He.cT K (x, none)).1 (He.cT K (x, none)).2 ∧ h.get? (He.cT K (x, none)).2 = some { cls := .none, data := .fields #[] } ∧ K.lookup (He.cT K (x, none)).2 = none := fun x hx => by
    obtain ⟨a, b⟩ := He.ba (List.all_eq_true.mp bT x hx)
    obtain ⟨d, hd⟩ := Option.isSome_iff_exists.mp (List.all_eq_true.mp rec x hx)
    obtain ⟨u, v⟩ := PySem.W.tab_of (x := x) T0 X hd (of_decide_eq_true a)
    exact ⟨u, v, Option.isNone_iff_eq_none.mp b⟩
  have lawA : He.ga K "law" = a0 := by
    have := D_law.m.symm.trans hl
    injection this with this
    injection this
  subst lawA
  have bl : ∀ (s : Shared) (v : Value), BindsTo s f_law ⟨[v], []⟩ [("script", v)] := by
    obtain ⟨oc, od, kV, doc, pm, an, cd, ct, sl, e, _⟩ := D_law.F.ex
    intro s v
    rw [e]
    exact .of_eq rfl
  refine ⟨f_law, tabNames.map fun x => He.cT K (x, none), spLaw K ((tabNames.map fun x => He.cT K (x, none)).map Prod.snd), ⟨fun c hc => ?_, fun c hc => ?_, fun c hc => ?_⟩, bl, fun H a ns hn hH hS => ⟨a, ns, rfl, hS, hn, fun P hP => ?_, fun _ => rfl⟩, fun base KB GB TB => ?_⟩
  · obtain ⟨x, hx, rfl⟩ := List.mem_map.mp hc
    exact (tabs x hx).2.1
  · obtain ⟨x, hx, rfl⟩ := List.mem_map.mp hc
    exact (tabs x hx).2.2
  · obtain ⟨x, hx, rfl⟩ := List.mem_map.mp hc
    exact (tabs x hx).1
  · obtain ⟨c, hc, rfl⟩ := List.mem_map.mp hP
    exact ⟨#[], hH c hc, by simp [TriplesOk]⟩
  · generalize hT : (tabNames.map fun x => He.cT K (x, none)).map Prod.snd = T
    have inT : ∀ x ∈ tabNames, (He.cT K (x, none)).2 ∈ T := fun x hx => by
      rw [← hT]
      exact List.mem_map_of_mem (List.mem_map_of_mem (f := fun x => He.cT K (x, none)) hx)
    have tb : ∀ x ∈ tabNames, GxR.TabB base mg (He.codeOf K (x, none)) (He.cT K (x, none)).2 := fun x hx => TB _ (List.mem_map_of_mem (f := fun x => He.cT K (x, none)) hx)
    have m0 : ("reads_as_cell" : Str) ∈ tabNames := List.mem_cons_self ..
    have m1 : ("is_name" : Str) ∈ tabNames := .tail _ (List.mem_cons_self ..)
    have m2 : ("is_tuple_of" : Str) ∈ tabNames := .tail _ (.tail _ (List.mem_cons_self ..))
    have m3 : ("is_kinds" : Str) ∈ tabNames := .tail _ (.tail _ (.tail _ (List.mem_cons_self ..)))
    have m4 : ("wrong_alone" : Str) ∈ tabNames := .tail _ (.tail _ (.tail _ (.tail _ (List.mem_cons_self ..))))
    have hW : ∀ H, SqT K H (He.ga K "WORDS") wordsV := fun H => He.tupB_ok bW H
    have q_int := ok_integer (P := l.prog) (w := w) (base := base) (mg := mg) D_is_integer.F B
    have q_num := ok_number (P := l.prog) (w := w) (base := base) (mg := mg) (T := T) D_is_number.F q_int D_is_integer.m D_is_integer.k b_is_integer c_GREATEST_NUMBER
    have q_reg := ok_register (P := l.prog) (w := w) (base := base) (mg := mg) (T := T) D_is_register.F q_int D_is_integer.m D_is_integer.k b_is_integer c_REGISTERS
    have q_next := ok_next (P := l.prog) (w := w) (base := base) (mg := mg) (T := T) D_is_next.F q_int D_is_integer.m D_is_integer.k b_is_integer
    have q_cell := ok_cell (P := l.prog) (w := w) (base := base) (mg := mg) (T := T) D_reads_as_cell.F B (tb _ m0) (inT _ m0) c_DIGITS
    have q_name := ok_name (P := l.prog) (w := w) (base := base) (mg := mg) (T := T) D_is_name.F B (tb _ m1) (inT _ m1) c_NAME_SIGNS g_WORDS hW q_cell D_reads_as_cell.m D_reads_as_cell.F.kp b_reads_as_cell
    have q_low := ok_low (P := l.prog) (w := w) (base := base) (mg := mg) (T := T) D_is_low_name.F q_name D_is_name.m D_is_name.F.kp b_is_name c_SMALL_LETTERS
    have q_high := ok_high (P := l.prog) (w := w) (base := base) (mg := mg) (T := T) D_is_high_name.F q_name D_is_name.m D_is_name.F.kp b_is_name c_CAPITAL_LETTERS
    have q_field := ok_field (P := l.prog) (w := w) (base := base) (mg := mg) (T := T) D_is_field_word.F B q_high D_is_high_name.m D_is_high_name.k b_is_high_name
    have q_tup := fun k => ok_tuple_of (P := l.prog) (w := w) (base := base) (mg := mg) (T := T) k D_is_tuple_of.F B (tb _ m2) (inT _ m2)
    have q_pair := fun k => ok_pair (P := l.prog) (w := w) (base := base) (mg := mg) (T := T) k D_is_pair.F B
    have q_fields := ok_fields (P := l.prog) (w := w) (base := base) (mg := mg) (T := T) D_are_fields.F (q_tup 6) D_is_tuple_of.m D_is_tuple_of.F.kp b_is_tuple_of D_is_field_word.m (IsDef.of (k := 6) (f := isField) q_field (by decide) D_is_field_word.k b_is_field_word)
    have q_maker := ok_maker (P := l.prog) (w := w) (base := base) (mg := mg) (T := T) D_is_maker.F (q_pair 9) D_is_pair.m D_is_pair.k b_is_pair D_is_high_name.m (IsDef.of (k := 9) (f := isHigh) q_high (by decide) D_is_high_name.k b_is_high_name) D_are_fields.m (IsDef.of (k := 9) (f := isFields) q_fields (by decide) D_are_fields.k b_are_fields)
    have q_makers := ok_makers (P := l.prog) (w := w) (base := base) (mg := mg) (T := T) D_are_makers.F (q_tup 11) D_is_tuple_of.m D_is_tuple_of.F.kp b_is_tuple_of D_is_maker.m (IsDef.of (k := 11) (f := isMaker) q_maker (by decide) D_is_maker.k b_is_maker)
    have q_kind := ok_kind (P := l.prog) (w := w) (base := base) (mg := mg) (T := T) D_is_kind.F (q_pair 14) D_is_pair.m D_is_pair.k b_is_pair D_is_high_name.m (IsDef.of (k := 14) (f := isHigh) q_high (by decide) D_is_high_name.k b_is_high_name) D_are_makers.m (IsDef.of (k := 14) (f := isMakers) q_makers (by decide) D_are_makers.k b_are_makers)
    have q_kinds := ok_kinds (P := l.prog) (w := w) (base := base) (mg := mg) (T := T) D_is_kinds.F B z_set (tb _ m3) (inT _ m3) (q_tup 16) D_is_tuple_of.m D_is_tuple_of.F.kp b_is_tuple_of D_is_kind.m (IsDef.of (k := 16) (f := isKind) q_kind (by decide) D_is_kind.k b_is_kind)
    have q_margs := ok_make_args (P := l.prog) (w := w) (base := base) (mg := mg) (T := T) D_are_make_args.F (q_tup 2) D_is_tuple_of.m D_is_tuple_of.F.kp b_is_tuple_of D_is_register.m (IsDef.of (k := 2) (f := isRegister) q_reg (by decide) D_is_register.k b_is_register)
    have q_cargs := ok_call_args (P := l.prog) (w := w) (base := base) (mg := mg) (T := T) D_are_call_args.F (q_tup 2) D_is_tuple_of.m D_is_tuple_of.F.kp b_is_tuple_of D_is_register.m (IsDef.of (k := 2) (f := isRegister) q_reg (by decide) D_is_register.k b_is_register)
    have q_branch := ok_branch (P := l.prog) (w := w) (base := base) (mg := mg) (T := T) D_is_branch.F (q_pair 5) D_is_pair.m D_is_pair.k b_is_pair D_are_make_args.m (IsDef.of (k := 5) (f := isMakeArgs) q_margs (by decide) D_are_make_args.k b_are_make_args) D_is_next.m (IsDef.of (k := 5) (f := isNext) q_next (by decide) D_is_next.k b_is_next)
    have q_branches := ok_branches (P := l.prog) (w := w) (base := base) (mg := mg) (T := T) D_are_branches.F (q_tup 7) D_is_tuple_of.m D_is_tuple_of.F.kp b_is_tuple_of D_is_branch.m (IsDef.of (k := 7) (f := isBranch) q_branch (by decide) D_is_branch.k b_is_branch)
    have q_begins := ok_begins (P := l.prog) (w := w) (base := base) (mg := mg) (T := T) D_begins_with_word.F B
    have nd8 := of_decide_eq_true bN
    have A8 : ∀ f sp, S8 K T f = some sp → Held l.prog w K mg base 10 f sp := fun f sp hs => by
      obtain ⟨i, x, g, h1, h2, rfl, rfl⟩ := s8_inv hs
      match i, h1, h2 with
      | 0, h1, h2 => cases h1; cases h2; exact ⟨_, _, (spIs_D (q_reg.mono (by decide))), D_is_register.k, b_is_register⟩
      | 1, h1, h2 => cases h1; cases h2; exact ⟨_, _, (spIs_D (q_num.mono (by decide))), D_is_number.k, b_is_number⟩
      | 2, h1, h2 => cases h1; cases h2; exact ⟨_, _, (spIs_D (q_next.mono (by decide))), D_is_next.k, b_is_next⟩
      | 3, h1, h2 => cases h1; cases h2; exact ⟨_, _, (spIs_D (q_high.mono (by decide))), D_is_high_name.k, b_is_high_name⟩
      | 4, h1, h2 => cases h1; cases h2; exact ⟨_, _, (spIs_D (q_margs.mono (by decide))), D_are_make_args.k, b_are_make_args⟩
      | 5, h1, h2 => cases h1; cases h2; exact ⟨_, _, (spIs_D (q_branches.mono (by decide))), D_are_branches.k, b_are_branches⟩
      | 6, h1, h2 => cases h1; cases h2; exact ⟨_, _, (spIs_D (q_low.mono (by decide))), D_is_low_name.k, b_is_low_name⟩
      | 7, h1, h2 => cases h1; cases h2; exact ⟨_, _, (spIs_D (q_cargs.mono (by decide))), D_are_call_args.k, b_are_call_args⟩
      | i + 8, h1, _ => exact absurd h1 (by simp [names8])
    have q_parts := ok_parts (P := l.prog) (w := w) (base := base) (mg := mg) (T := T) (S := S8 K T) D_has_parts.F B z_zip A8
    have q_row := ok_row (P := l.prog) (w := w) (base := base) (mg := mg) (T := T) (S := S8 K T) D_is_row.F g_ROW_FORMS (forms_of (w := w) (T := T) dw bF nd8) (q_begins.mono (by decide)) D_begins_with_word.m D_begins_with_word.k b_begins_with_word q_parts D_has_parts.m D_has_parts.k b_has_parts
    have q_function := ok_function (P := l.prog) (w := w) (base := base) (mg := mg) (T := T) D_is_function.F B (q_low.mono (by decide)) D_is_low_name.m D_is_low_name.k b_is_low_name (q_field.mono (by decide)) D_is_field_word.m D_is_field_word.k b_is_field_word (IsDef.of (k := 6) (f := isField) q_field (by decide) D_is_field_word.k b_is_field_word) D_is_row.m (IsDef.of (k := 12) (f := isRow) q_row (by decide) D_is_row.k b_is_row) ((q_tup 6).mono (by decide)) (q_tup 12) D_is_tuple_of.m D_is_tuple_of.F.kp b_is_tuple_of
    have q_functions := ok_functions (P := l.prog) (w := w) (base := base) (mg := mg) (T := T) D_are_functions.F (q_tup 15) D_is_tuple_of.m D_is_tuple_of.F.kp b_is_tuple_of D_is_function.m (IsDef.of (k := 15) (f := isFunction) q_function (by decide) D_is_function.k b_is_function)
    have q_program := ok_program (P := l.prog) (w := w) (base := base) (mg := mg) (T := T) D_is_program.F (q_pair 19) D_is_pair.m D_is_pair.k b_is_pair D_is_kinds.m (IsDef.of (k := 19) (f := isKinds) q_kinds (by decide) D_is_kinds.F.kp b_is_kinds) D_are_functions.m (IsDef.of (k := 19) (f := isFunctions) q_functions (by decide) D_are_functions.k b_are_functions)
    have q_need := ok_need (P := l.prog) (w := w) (base := base) (mg := mg) (T := T) D_need_program.F q_program D_is_program.m D_is_program.k b_is_program E_BadProgram
    have q_mbn := ok_mbn (P := l.prog) (w := w) (base := base) (mg := mg) (T := T) D_makers_by_name.F z_enumerate
    have q_tab := ok_tab_init (P := l.prog) (w := w) (base := base) (mg := mg) (T := T) D_tab cT n1 n2 n3 q_mbn D_makers_by_name.m D_makers_by_name.k b_makers_by_name
    have q_nexts := ok_nexts (P := l.prog) (w := w) (base := base) (mg := mg) D_nexts.F
    have q_named := ok_named (P := l.prog) (w := w) (base := base) (mg := mg) D_is_named.F
    have q_many := ok_many (P := l.prog) (w := w) (base := base) (mg := mg) (T := T) D_has_wrong_many.F
    have q_reads := ok_reads (P := l.prog) (w := w) (base := base) (mg := mg) (T := T) D_reads.F
    have q_behind := ok_behind (P := l.prog) (w := w) (base := base) (mg := mg) (T := T) D_words_behind.F q_nexts D_nexts.m D_nexts.k b_nexts
    have q_wreads := ok_wreads (P := l.prog) (w := w) (base := base) (mg := mg) D_wrong_reads.F
    have q_wat := ok_words_at (P := l.prog) (w := w) (base := base) (mg := mg) (T := T) D_words_at.F z_enumerate q_behind D_words_behind.m D_words_behind.k b_words_behind
    have q_wwords := ok_wwords (P := l.prog) (w := w) (base := base) (mg := mg) (T := T) D_wrong_words.F z_enumerate q_wat D_words_at.m D_words_at.k b_words_at (q_reads.mono (by decide)) D_reads.m D_reads.k b_reads (q_wreads.mono (by decide)) D_wrong_reads.m D_wrong_reads.k b_wrong_reads
    have q_reached := ok_reached (P := l.prog) (w := w) (base := base) (mg := mg) (T := T) D_reached.F z_list
    have q_ways := ok_ways (P := l.prog) (w := w) (base := base) (mg := mg) (T := T) D_wrong_ways.F B z_enumerate z_range q_nexts D_nexts.m D_nexts.k b_nexts q_reached D_reached.m D_reached.k b_reached
    have q_alone := ok_alone (P := l.prog) (w := w) (base := base) (mg := mg) (T := T) D_wrong_alone.F B z_enumerate (tb _ m4) (inT _ m4) (q_nexts.mono (by decide)) D_nexts.m D_nexts.k b_nexts (q_named.mono (by decide)) D_is_named.m D_is_named.k b_is_named (q_many.mono (by decide)) D_has_wrong_many.m D_has_wrong_many.k b_has_wrong_many
    have q_wfun := ok_wfun (P := l.prog) (w := w) (base := base) (mg := mg) (T := T) D_wrong_function.F (q_alone.mono (by decide)) D_wrong_alone.m D_wrong_alone.F.kp b_wrong_alone (q_ways.mono (by decide)) D_wrong_ways.m D_wrong_ways.k b_wrong_ways q_wwords D_wrong_words.m D_wrong_words.k b_wrong_words
    have q_heads := ok_heads (P := l.prog) (w := w) (base := base) (mg := mg) (T := T) D_wrong_heads.F z_enumerate cT n1
    have q_check := ok_check (P := l.prog) (w := w) (base := base) (mg := mg) (T := T) D_check.F q_need D_need_program.m D_need_program.k b_need_program M q_tab g_Tables b_tab (q_heads.mono (by decide)) D_wrong_heads.m D_wrong_heads.k b_wrong_heads (q_wfun.mono (by decide)) D_wrong_function.m D_wrong_function.k b_wrong_function
    have q_checked := ok_checked (P := l.prog) (w := w) (base := base) (mg := mg) (T := T) D_checked.F q_check D_check.m D_check.k b_check T_NotChecked h_NotChecked
    have q_regs := ok_regs (P := l.prog) (w := w) (base := base) (mg := mg) (T := T) D_registers.F q_checked D_checked.m D_checked.k b_checked
    have q_fb := ok_fb (P := l.prog) (w := w) (base := base) (mg := mg) (T := T) D_fields_behind.F B q_num D_is_number.m D_is_number.k b_is_number
    have q_say := ok_say (P := l.prog) (w := w) (base := base) (mg := mg) (T := T) D_are_sayings.F B c_MOST_ENTRIES q_fb D_fields_behind.m D_fields_behind.k b_fields_behind
    have q_tree := ok_tree (P := l.prog) (w := w) (base := base) (mg := mg) (T := T) D_is_tree.F B E_BadKinds E_BadKind q_kinds D_is_kinds.m D_is_kinds.F.kp b_is_kinds (q_mbn.mono (by decide)) D_makers_by_name.m D_makers_by_name.k b_makers_by_name (q_say.mono (by decide)) D_are_sayings.m D_are_sayings.k b_are_sayings
    have q_cls : ∀ n, n < 19 → ∀ (p : Addr × Obj) (d : Option Addr), Zc (.ref (Cs K n)) d p.2 → (∃ vs, p.2.data = .fields vs) → HP.FnP l.prog w K mg base CX0 1 (He.ga K "_law_classes") f__law_classes ["e"] p (spCls T p.1 d (bsOf n)) := fun n hn p d hz hf =>
      ok_classes (P := l.prog) (w := w) (base := base) (mg := mg) (T := T) (D := Cs K n) D__law_classes.F z_isinstance (cl n hn).1 hz hf ⟨_, g_BadKinds, (cl n hn).2.2.2 0 (by decide)⟩ ⟨_, g_BadKind, (cl n hn).2.2.2 1 (by decide)⟩ ⟨_, g_BadProgram, (cl n hn).2.2.2 2 (by decide)⟩ ⟨_, g_NotChecked, (cl n hn).2.2.2 3 (by decide)⟩ ⟨_, g_BadArgs, (cl n hn).2.2.2 4 (by decide)⟩ ⟨_, g_BadName, (cl n hn).2.2.2 5 (by decide)⟩ ⟨_, g_BadLimit, (cl n hn).2.2.2 6 (by decide)⟩ ⟨_, g_BadPlacing, (cl n hn).2.2.2 7 (by decide)⟩ ⟨_, g_BadWay, (cl n hn).2.2.2 8 (by decide)⟩ ⟨_, g_BadRow, (cl n hn).2.2.2 9 (by decide)⟩ ⟨_, g_BadRegister, (cl n hn).2.2.2 10 (by decide)⟩ ⟨_, g_NotRight, (cl n hn).2.2.2 11 (by decide)⟩ ⟨_, g_NotLet, (cl n hn).2.2.2 12 (by decide)⟩ ⟨_, g_BadLog, (cl n hn).2.2.2 13 (by decide)⟩ ⟨_, g_HasTokens, (cl n hn).2.2.2 14 (by decide)⟩ ⟨_, g_TooGreat, (cl n hn).2.2.2 15 (by decide)⟩ ⟨_, g_BadText, (cl n hn).2.2.2 16 (by decide)⟩ ⟨_, g_Unlike, (cl n hn).2.2.2 17 (by decide)⟩
    have q_more := ok_raisedMore (P := l.prog) (w := w) (base := base) (mg := mg) (Cs := Cs K) D__law_raised_more.F E_BadRow E_BadRegister T_NotRight h_NotRight T_NotLet h_NotLet E_BadLog E_HasTokens E_TooGreat T_BadText h_BadText E_Unlike
    have q_raised := ok_raised (P := l.prog) (w := w) (base := base) (mg := mg) (Cs := Cs K) D__law_raised.F E_BadKinds E_BadKind E_BadProgram T_NotChecked h_NotChecked E_BadArgs E_BadName E_BadLimit E_BadPlacing E_BadWay q_more D__law_raised_more.m D__law_raised_more.k b__law_raised_more
    have q_way := ok_way (P := l.prog) (w := w) (base := base) (mg := mg) (T := T) (Cs := Cs K) D__law_way_right.F z_isinstance z_ValueError z_range CT g_CellError q_raised D__law_raised.m D__law_raised.k b__law_raised (fun n hn => q_cls n (by omega)) D__law_classes.m D__law_classes.k b__law_classes
    have q_fr := ok_fieldsR (P := l.prog) (w := w) (base := base) (mg := mg) (T := T) D__law_fields_right.F z_repr T_NotChecked h_NotChecked k_NotChecked T_BadText h_BadText k_BadText T_NotRight h_NotRight k_NotRight T_NotLet h_NotLet k_NotLet
    have q_hand := ok_hand (P := l.prog) (w := w) (base := base) (mg := mg) (T := T) D__law_by_hand.F T_NotChecked g_BadProgram g_BadKinds g_BadKind EX q_checked D_checked.m D_checked.k b_checked q_regs D_registers.m D_registers.k b_registers q_tree D_is_tree.m D_is_tree.k b_is_tree q_check D_check.m D_check.k b_check
    have q_well := ok_well (P := l.prog) (w := w) (base := base) (mg := mg) D__law_well.F z_int z_abs
    have q_draw := ok_draw (P := l.prog) (w := w) (base := base) (mg := mg) D__law_draw.F z_int
    exact ok_law (P := l.prog) (w := w) (base := base) (mg := mg) (T := T) D_law.F z_str z_tuple z_range E_CellError xC q_well D__law_well.m D__law_well.k b__law_well q_draw D__law_draw.m D__law_draw.k b__law_draw q_way D__law_way_right.m D__law_way_right.k b__law_way_right q_fr D__law_fields_right.m D__law_fields_right.k b__law_fields_right q_hand D__law_by_hand.m D__law_by_hand.k b__law_by_hand (fun p hz hf => q_cls 18 (by decide) p none hz hf) D__law_classes.m D__law_classes.k b__law_classes
end JF
open PySem PySem.W PyProof.Rows
set_option Elab.async false
set_option linter.all false
set_option maxRecDepth 100000 in
set_option maxHeartbeats 0 in
theorem PySem.Challenge.cw_justfreed_k00_error_classes_holds : PySem.Challenge.rw_justfreed_k00_error_classes.Holds := by
  w_on; o_law; k_head; (case hw => w_witness2)
  k_fill
  refine EG.walk_g (l := PySem.Challenge.rw_justfreed_k00_error_classes) (n := 63) (k := 27) (x := "script") rfl (by decide) rfl ⟨rfl, by decide, by decide⟩ (fun w h Y => PySem.W.kIn_of Y) ?F
  case F =>
    intro w mg mb fa h mean T X hmg
    refine JF.assemble (l := PySem.Challenge.rw_justfreed_k00_error_classes) T X ?S ?top ?bt ?dw ?w1 ?w2 ?w3 ?w4 ?rec hmg
    case top => decide +kernel
    case rec => first | kernel_rfl | decide +kernel
    case w1 => (show _ = _; kernel_rfl)
    case w2 => (show _ = _; kernel_rfl)
    case w3 => (show _ = _; kernel_rfl)
    case w4 => (show _ = _; kernel_rfl)
    case dw => kernel_rfl
    case S => (show _ = _; kernel_rfl)
    case bt => kernel_rfl
