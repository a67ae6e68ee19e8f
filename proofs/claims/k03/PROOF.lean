import PyProof.Rows.All
import Wide.All
import OpenK.AllK
import Wide.FinOn
import HandS.AnyAll
import HandS.Base
import HandS.Call
import HandS.CallLocal
import HandS.Comp
import HandS.Conv
import HandS.Dict
import HandS.DictComp
import HandS.EndTab
import HandS.Exc
import HandS.ExcCtx
import HandS.ExcIs
import HandS.Flow
import HandS.ForMost
import HandS.GenOver
import HandS.HeadHook1
import HandS.HeadHook2
import HandS.HeadHook3
import HandS.HeadHook4
import HandS.HotCalls
import HandS.IsInst
import HandS.Iter
import HandS.List
import HandS.More
import HandS.Strs
import HandS.Style
import HandS.Text
import HandS.TupAny
import HandS.TupMul
import HandS.Walk
import HandS.Wide
import HandS.WordsExc
import KE.GoesEnum
import KE.GoesMore
import KE.KExcIs
import KE.KIsAll
import KE.KNest
import KE.KNestM
import KE.KRevSl
import KE.KxText
import PyProof.EqAt
import PyProof.EqKinds
import PyProof.GenQ
import PyProof.GenRules
import PyProof.ReprRoads
import PyProof.Rows.SetFrom
import PyProof.Rows.StrFit
import PyProof.TupleCall
import PySem.Challenge.RW_justfreed_k03_whole_sayings_judged
set_option Elab.async false
set_option linter.all false
set_option maxRecDepth 100000
set_option maxHeartbeats 4000000
/-! any(..), all(..) of a generator expression whose element is any expression that raises nothing (calls of defs, further generator expressions within them) -/
namespace GA
open PySem PySem.Spec PyProof.Rows L2 GxR GenW

/-- the context of a generator expression's element; s, H: the state at the expression's making -/
abbrev gcx (X : Cx) (A : Around) (s : Shared) (H : Hp) (cenv : Env) (fp : List Addr) : Cx :=
  { X with A := A, s_0 := s, H_0 := H, env := cenv, outer := X.stack, stack := cenv :: X.stack, ex := fp, fn := fun _ => false, pn := [], xe := fun _ _ => False }

theorem regen {X : Cx} {pins : List (Addr × Obj)} {σ : L2.St} {H : Hp} {s s' : Shared} (I : Inv X pins σ H s) (ho : s'.os = s.os) (hh : s'.heap = s.heap) (hb : AllBare s'.gens) : Inv X pins σ H s' := by
  obtain ⟨h', g', d', t', o'⟩ := s'
  have e1 : o' = s.os := ho
  have e2 : h' = s.heap := hh
  subst e1 e2
  exact ⟨I.ok, I.os, hb, I.base, I.loc, I.cell, I.free, I.freeC, I.pin, I.hok, I.len⟩
theorem bare_set {gs : Array GenState} {g : Nat} {x : GenState} (h : AllBare gs) (hx : x.bare = true) : AllBare (gs.setIfInBounds g x) := by
  intro y hy
  obtain ⟨i, hi, rfl⟩ := Array.mem_iff_getElem.mp hy
  by_cases e : g = i
  · subst e
    have hi' : g < gs.size := by simpa using hi
    rw [Array.getElem_setIfInBounds_self]
    exact hx
  · have hi' : i < gs.size := by simpa using hi
    rw [Array.getElem_setIfInBounds_ne hi' e]
    exact h _ (Array.getElem_mem hi')

theorem gen_start {X : Cx} {pins : List (Addr × Obj)} {σ : L2.St} {H : Hp} {s s' : Shared} {scope : Scope} {own : List (Str × Nat)} {fp : List Addr} {A : Around} {cenv : Env} {a : Addr} {go : Obj}
    (I : Inv X pins σ H s) (ok : BlkOk X.N X.env.scope scope own) (hN : X.N.Nodup) (nc : ∀ y ∈ scope.names, y.2 ≠ .cell)
    (hfp : ∀ b ∈ fp, FpOk X pins H b ∧ b < s.heap.objs.size)
    (hsc : cenv.scope = scope) (hL : cenv.locals = s.heap.objs.size) (hgl : cenv.globals = X.env.globals) (hbl : cenv.builtins = builtinsNs) (hcl : cenv.cells = cloFrom X.env.cells scope.names []) (hfr : cenv.frame = some cenv.locals)
    (fr : A.frames = some (cenv :: X.stack)) (hd : X.calm = true → A.handled = none)
    (os : s'.os = s.os) (bare : AllBare s'.gens) (kp : ∀ b o, s.heap.get? b = some o → s'.heap.get? b = some o) (ns : ∃ m, s'.heap.Ns cenv.locals m)
    (ha : s'.heap.get? a = some go) (haC : s.heap.objs.size < a) (hgo : ∀ v, go.data ≠ .cell v) :
    Inv (gcx X A s H cenv fp) [(a, go)] (wipe σ (own.map (·.2))) H s' := by
  have hfree : ∀ y ∈ scope.names, y.2 = .free → ∃ c, X.env.cells.lookup y.1 = some c := fun y hy e => by
    rcases ok.free y hy e with k | k
    · exact I.ok.has _ (.inl k)
    · exact I.ok.has _ (.inr k)
  have cm : ∀ {y c}, cenv.cells.lookup y = some c → X.env.cells.lookup y = some c ∧ c < s.heap.objs.size := fun {y c} e => by
    rw [hcl] at e
    rcases cloFrom_mem (PySem.mem_of_lookup e) with hm | ⟨h1, rfl⟩
    · cases hm
    · obtain ⟨c, hc⟩ := hfree _ h1 rfl
      rw [hc]
      obtain ⟨w, z⟩ := I.cell _ _ hc
      exact ⟨rfl, z.lt⟩
  have look : ∀ {y}, scope.names.lookup y = some .free → ∃ c, cenv.cells.lookup y = some c ∧ X.env.cells.lookup y = some c := fun {y} hl => by
    have hy : (y, NameKind.free) ∈ scope.names := PySem.mem_of_lookup hl
    obtain ⟨c', e'⟩ := mem_lookup (cloFrom_has (cells := X.env.cells) (acc := []) hy)
    rw [← hcl] at e'
    exact ⟨c', e', (cm e').1⟩
  have okG : (gcx X A s H cenv fp).Ok := by
    refine ⟨I.ok.mod, by show cenv.scope.kind = _; rw [hsc]; exact ok.kind, by show cenv.globals = _; rw [hgl]; exact I.ok.glob, hbl, by show s.heap.objs.size ≤ cenv.locals; rw [hL]; exact Nat.le_refl _,
      fun y z c e1 e2 => I.ok.inj y z c (cm e1).1 (cm e2).1, fun y hy => ?_, fun y c z e => ?_, hd, fr, .inr ⟨rfl, hfr⟩, fun b hb => ⟨?_, fun y c e z => ?_⟩, I.bs, Nat.le_trans I.ok.bsz I.sz, fun b o e hb => ?_, fun b hb z => ?_, I.stack, I.stkFree⟩
    · show ∃ c, cenv.cells.lookup y = some c
      rcases hy with hy | hy
      · have hy : cenv.scope.names.lookup y = some .cell := hy
        rw [hsc] at hy
        exact absurd rfl (nc _ (PySem.mem_of_lookup hy))
      · have hy : cenv.scope.names.lookup y = some .free := hy
        rw [hsc] at hy
        obtain ⟨c, h1, _⟩ := look hy
        exact ⟨c, h1⟩
    · exact absurd z (by simp)
    · show b ≠ cenv.locals
      rw [hL]; exact Nat.ne_of_lt (hfp b hb).2
    · exact (hfp b hb).1.2.2.2.2.1 y c (cm e).1 z
    · rcases (hfp b hb).1.2.2.2.1 with z | z
      · exact I.ok.noex b o e z
      · exact absurd (Nat.lt_of_lt_of_le (Heap.lt_size e) (Nat.le_trans I.ok.bsz z)) (Nat.lt_irrefl _)
    · rcases List.mem_cons.mp (I.stkSub b z) with z | z
      · exact (hfp b hb).1.2.1 z
      · exact (hfp b hb).1.2.2.1 z
  obtain ⟨mC, hnC⟩ := ns
  refine ⟨okG, os, bare, Un.kept kp, ⟨mC, hnC, fun i y av e1 e2 e3 => ?_⟩, fun y c e => ?_, ?_, fun y c e => I.freeC y c (cm e).1, fun p hp => ?_, I.hok.kept kp, by rw [wipe_length]; exact I.len⟩
  · obtain ⟨e2, hne⟩ := wipe_some e2
    have hfr2 : scope.names.lookup y = some .free := by
      have key : ∀ k, cenv.scope.names.lookup y = some k → k = .local ∨ k = .cell ∨ k = .free → scope.names.lookup y = some .free := fun k hk hk' => by
        rw [hsc] at hk
        have no : ¬ (k = .local ∨ k = .cell) := fun hh => by
          rcases ok.own _ (PySem.mem_of_lookup hk) hh with e' | e'
          · obtain ⟨p, hp, hpy⟩ := List.mem_map.mp e'
            have e3 := ok.ix p hp
            have : p.1 = y := hpy
            rw [this] at e3
            exact hne (List.mem_map.mpr ⟨p, hp, nodup_ix hN e3 e1⟩)
          · exact e' (List.mem_of_getElem? e1)
        rcases hk' with rfl | rfl | rfl
        · exact absurd (.inl rfl) no
        · exact absurd (.inr rfl) no
        · exact hk
      have e3 : Vis cenv.scope y := e3
      rcases e3 with e3 | e3 | e3
      · exact key _ e3 (.inl rfl)
      · exact key _ e3 (.inr (.inl rfl))
      · exact key _ e3 (.inr (.inr rfl))
    obtain ⟨m, hn, hl⟩ := I.loc
    have hvis : Vis X.env.scope y := (ok.free _ (PySem.mem_of_lookup hfr2) rfl).elim (fun k => .inr (.inl k)) (fun k => .inr (.inr k))
    obtain ⟨w, r, q⟩ := hl i y av e1 e2 hvis
    have hk2 : cenv.kindOf y = some .free := by
      show cenv.scope.names.lookup y = _
      rw [hsc]; exact hfr2
    refine ⟨w, r, .inr ⟨.inr hk2, ?_⟩⟩
    obtain ⟨c, h1, h2⟩ := look hfr2
    rcases q with ⟨k, _⟩ | ⟨_, c', e', z⟩
    · have k : X.env.scope.names.lookup y = some .local := k
      rcases ok.free _ (PySem.mem_of_lookup hfr2) rfl with k' | k' <;> rw [show X.env.scope.names.lookup y = _ from k'] at k <;> cases k
    · rw [h2] at e'; cases e'
      exact ⟨c, h1, z.keeps kp⟩
  · obtain ⟨w, z⟩ := I.cell y c (cm e).1
    exact ⟨w, z.keeps kp⟩
  · show H cenv.locals = none
    rw [hL]; exact I.hok.fresh (Nat.le_refl _)
  · have hp' : p ∈ [(a, go)] := hp
    rw [List.mem_singleton.mp hp']
    refine ⟨ha, I.hok.fresh (Nat.le_of_lt haC), ?_, fun z => ?_, hgo⟩
    · show a ≠ cenv.locals
      rw [hL]; exact Nat.ne_of_gt haC
    · rcases List.mem_cons.mp (I.stkSub a z) with z | z
      · rw [z] at haC
        exact absurd (Nat.lt_trans haC I.lt) (Nat.lt_irrefl _)
      · exact I.nofs (Nat.le_of_lt haC) z

/-- what the reading of any, all says of the turns: sb the answer that ends it early (all: false, any: true) -/
def tGenW (sb : Bool) (J : It) (g : TG) (te : TE) (vs : List Nat) (σ : L2.St) (Q : VK) (W : Nat → Nat → Hp → Prop) : Prop := ∀ i m H, W i m H →
  (J.stop i H ∧ Q (.bl (!sb)) H) ∨ (J.go i H ∧ ∃ Nx : Hp → Prop, (∀ H', Nx H' → ∃ m', m' < m ∧ W (i + 1) m' H') ∧ ∀ x H', J.yld i H x H' → g x (wipe σ vs) H' fun σ2 H2 => wipe σ2 vs = wipe σ vs ∧ te σ2 H2 fun y H3 =>
    ∃ b : Bool, y = .bl b ∧ if b = sb then Q (.bl sb) H3 else Nx H3)
def tGen (sb : Bool) (P : Addr) (wi : TI) (g : TG) (te : TE) (vs : List Nat) : TE := fun σ H Q => wi σ H fun J H1 => TabG H1 P ∧ ∀ H2, Tabbed P H1 H2 → ∃ W : Nat → Nat → Hp → Prop, (∃ m, W 0 m H2) ∧ tGenW sb J g te vs σ Q W

section
variable {X : Cx} {pins : List (Addr × Obj)} {σ : L2.St} {elt tg iter : Expr} {scope : Scope} {own : List (Str × Nat)} {gpos : Pos} {g : TG} {te : TE} {sb : Bool} {J : It} {fp : List Addr} {it : Addr} {tn : Nat → Heap → Prop} {Q : VK} {W : Nat → Nat → Hp → Prop} {s3 : Shared} {H3 : Hp} {cenv : Env} {a : Addr} {go : Obj} {gi : Nat}

abbrev gCode (elt tg iter : Expr) (scope : Scope) (gpos : Pos) (it : Addr) (cenv : Env) : Code := .compLoop (.GeneratorExp elt [⟨tg, iter, [], 0⟩] scope gpos) 0 (.ref it) .none cenv
abbrev gArd (X : Cx) (elt tg iter : Expr) (scope : Scope) (gpos : Pos) (it : Addr) (cenv : Env) : Around := X.A.in1.in1.over (gCode elt tg iter scope gpos it cenv) []

/-- what is handed out: a truth; if it does not end the walk, the generator goes on -/
def gY (G : Cx) (pa : List (Addr × Obj)) (σ' : L2.St) (tn : Nat → Heap → Prop) (fp : List Addr) (W : Nat → Nat → Hp → Prop) (sb : Bool) (Q : VK) : Protocol := fun n s₀ v s kap =>
  ∃ i H' b, v = .bool b ∧ Inv G pa σ' H' s ∧ tn i s.heap ∧ (∀ b ∈ fp, H' b = none) ∧ (if b = sb then Q (.bl sb) H' else ∃ m, W i m H' ∧ m < n ∧ ∀ s'', Inv G pa σ' H' s'' → tn i s''.heap → kap (.send .none) s'')
def gP (X : Cx) (pins : List (Addr × Obj)) (σ : L2.St) (sb : Bool) (Q : VK) : Nat → Shared → Shared → Prop := fun _ _ s₁ => ∃ H', Inv X pins σ H' s₁ ∧ Q (.bl (!sb)) H'
def gR (X : Cx) (pins : List (Addr × Obj)) (σ : L2.St) (sb : Bool) (Q : VK) : GenEnd := fun n s₀ r s₁ => r = .ok .next ∧ gP X pins σ sb Q n s₀ s₁

theorem seg_gloop (hc : X.calm = true) (I3 : Inv X pins σ H3 s3) (f3 : ∀ b ∈ fp, FpOk X pins H3 b) (hco : cenv.scope.isCoroutine = false) (T : Turn X.prog X.w X.K tg J fp it tn)
    (hpa : ∀ b ∈ fp, b ≠ a)
    (pg : PG (gcx X (gArd X elt tg iter scope gpos it cenv) s3 H3 cenv fp) tg g) (pe : PE (gcx X (gArd X elt tg iter scope gpos it cenv) s3 H3 cenv fp) elt te)
    (turn : tGenW sb J g te (own.map (·.2)) σ Q W) :
    ∀ (n i m : Nat) (H' : Hp) (s₀ s : Shared), W i m H' → m < n → Inv (gcx X (gArd X elt tg iter scope gpos it cenv) s3 H3 cenv fp) [(a, go)] (wipe σ (own.map (·.2))) H' s → tn i s.heap → (∀ b ∈ fp, H' b = none) →
      Seg (model X.prog X.w) X.A.in1.in1 (gR X pins σ sb Q) (gY (gcx X (gArd X elt tg iter scope gpos it cenv) s3 H3 cenv fp) [(a, go)] (wipe σ (own.map (·.2))) tn fp W sb Q) n s₀
        (gCode elt tg iter scope gpos it cenv) ((model X.prog X.w).den (gCode elt tg iter scope gpos it cenv)) [] s := by
  have stat : ∀ {σ' : L2.St} {H' : Hp} {s' : Shared}, Inv (gcx X (gArd X elt tg iter scope gpos it cenv) s3 H3 cenv fp) [(a, go)] σ' H' s' → (∀ b ∈ fp, H' b = none) → ∀ b ∈ fp, FpOk (gcx X (gArd X elt tg iter scope gpos it cenv) s3 H3 cenv fp) [(a, go)] H' b := fun {σ' H' s'} I' hn b hb =>
    ⟨hn b hb, (I'.ok.exf b hb).1, I'.ok.exfs b hb, .inl hb, fun x c e => (I'.ok.exf b hb).2 x c e, fun p hp => by
      have hp' : p ∈ [(a, go)] := hp
      rw [List.mem_singleton.mp hp']
      exact (hpa b hb).symm⟩
  have back : ∀ {pa' : List (Addr × Obj)} {σ' : L2.St} {H' : Hp} {s' : Shared}, Inv (gcx X (gArd X elt tg iter scope gpos it cenv) s3 H3 cenv fp) pa' σ' H' s' → Inv X pins σ H' s' := fun {pa' σ' H' s'} I' =>
    I3.call' (ch := fp) I'.os I'.base I'.hok I'.bare fun b hb => ⟨(f3 b hb).2.2.2.1, (f3 b hb).2.1, (f3 b hb).2.2.2.2.1, (f3 b hb).2.2.2.2.2⟩
  intro n
  induction n with
  | zero => intro i m H' s₀ s _ hm; omega
  | succ n ih =>
    intro i m H' s₀ s w hm I st hn
    show Seg _ X.A.in1.in1 _ _ _ s₀ _ ((compTurn (.GeneratorExp elt [⟨tg, iter, [], 0⟩] scope gpos) 0 (.ref it) .none cenv).onRaise (leaving cenv)) [] s
    rw [compTurn_gen, Sem.onRaise_eq_wrap]
    refine seg_bind_wrap (wpAny_standAt ?_)
    rcases turn i m H' w with ⟨stop, q⟩ | ⟨go', Nx, hNx, step⟩
    · refine seg_bind_wrap (thnF (T.done (gcx X (gArd X elt tg iter scope gpos it cenv) s3 H3 cenv fp) rfl rfl rfl hc i _ s _ H' (fun _ _ => False) I (stat I hn) st stop) fun r s6 ⟨hr, I6⟩ => ?_)
      subst hr
      exact seg_end (.ok .next) ⟨rfl, H', back I6, q⟩
    · refine seg_bind_wrap (thnF (T.item (gcx X (gArd X elt tg iter scope gpos it cenv) s3 H3 cenv fp) rfl rfl rfl hc i _ s _ H' (fun _ _ => False) I (stat I hn) st go') fun r s6 ⟨u, hr, h6⟩ => ?_)
      subst hr
      refine seg_bind_wrap (thnF h6 fun _ s7 ⟨x, H7, I7, r7, y7, st7, n7⟩ => ?_)
      have I7' := I7.pinned (stat I7 n7) (T.obj _ _ st7)
      refine seg_bind_wrap (thnF (pg.run _ s7 _ H7 x u _ I7' r7 (step x H7 y7)) fun _ s8 ⟨σ8, H8, I8, hw8, q8⟩ => ?_)
      refine seg_bind_wrap (wpAny_tests_nil ?_)
      simp only [if_true]
      have hy : ∀ v, yieldOut cenv v = yieldValue v := fun v => by simp only [yieldOut, hco, Bool.false_eq_true, if_false]
      simp only [hy]
      rw [Sem.bind_eq_wrap', Sem.bind_eq_wrap', Sem.wrap_wrap, Sem.wrap_wrap]
      refine seg_wrap (thnF (pe.run _ s8 σ8 H8 _ I8 q8) fun yv s10 ⟨y, H10, I10, r10, b, eb, q10⟩ => ?_)
      subst eb
      have ev : yv = Value.bool b := r10
      subst ev
      have pin' : ∀ c ∈ fp, ∀ o, s7.heap.get? c = some o → s10.heap.get? c = some o ∧ H10 c = none := fun c hc o e =>
        let z := I10.pin (c, o) (List.mem_append_right _ (List.mem_append_right _ (mem_pinsAt hc e)))
        ⟨z.1, z.2.1⟩
      have hl : (wipe σ (own.map (·.2))).length = σ8.length := by rw [← hw8, wipe_length]
      have I11 : Inv (gcx X (gArd X elt tg iter scope gpos it cenv) s3 H3 cenv fp) [(a, go)] (wipe σ (own.map (·.2))) H10 s10 := (I10.unpinned).weak hl (fun j v e => by
        rw [← hw8] at e
        exact (wipe_some e).1)
      have st11 : tn (i + 1) s10.heap := T.keep _ _ _ st7 fun c hc o e => (pin' c hc o e).1
      have n11 : ∀ c ∈ fp, H10 c = none := fun c hc => by
        obtain ⟨o, e, _⟩ := T.obj _ _ st7 c hc
        exact (pin' c hc o e).2
      refine seg_at (seg_yield rfl rfl rfl ⟨i + 1, H10, b, rfl, I11, st11, n11, ?_⟩)
      by_cases hb : b = sb
      · rw [if_pos hb] at q10 ⊢
        exact q10
      · rw [if_neg hb] at q10 ⊢
        obtain ⟨m', hm', w'⟩ := hNx H10 q10
        exact ⟨m', w', by omega, fun s'' I'' st'' => seg_again rfl (ih (i + 1) m' H10 s'' s'' w' (by omega) I'' st'' n11)⟩

/-- the generator sleeps, n: what is left to hand out at most -/
def Asleep (X : Cx) (pins : List (Addr × Obj)) (σ : L2.St) (G : Cx) (pa : List (Addr × Obj)) (σ' : L2.St) (tn : Nat → Heap → Prop) (fp : List Addr) (W : Nat → Nat → Hp → Prop) (sb : Bool) (Q : VK) (gi : Nat) (n : Nat) (s : Shared) : Prop :=
  ∃ i m H' gs, Inv G pa σ' H' s ∧ tn i s.heap ∧ (∀ b ∈ fp, H' b = none) ∧ W i m H' ∧ m < n ∧ s.gens[gi]? = some gs ∧
    ∀ s'', Inv G pa σ' H' s'' → tn i s''.heap → gs.Goes (model X.prog X.w) X.A.in1.in1 (gR X pins σ sb Q) (gY G pa σ' tn fp W sb Q) n (.send .none) s''

theorem size_of_some {α : Type} {xs : Array α} {i : Nat} {x : α} (h : xs[i]? = some x) : i < xs.size := by
  rcases Nat.lt_or_ge i xs.size with h' | h'
  · exact h'
  · rw [Array.getElem?_eq_none h'] at h; cases h

/-- one draw: the generator is woken -/
theorem gen_next {G : Cx} {σ' : L2.St} {n : Nat} {s : Shared} {Qn : Option Value → Shared → Prop} {E : Value → Shared → Prop} (hh : X.A.handled = none) (hroom : X.A.depth < recursionLimit)
    (hg : ∀ h : Heap, h.get? a = some go → h.IsGen a gi) (back : ∀ {pa' : List (Addr × Obj)} {σ' : L2.St} {H' : Hp} {s' : Shared}, Inv G pa' σ' H' s' → Inv X pins σ H' s')
    (h : Asleep X pins σ G [(a, go)] σ' tn fp W sb Q gi n s)
    (hEnd : ∀ H' s', Inv X pins σ H' s' → Q (.bl (!sb)) H' → Qn none s')
    (hEarly : ∀ H' s', Inv X pins σ H' s' → Q (.bl sb) H' → Qn (some (.bool sb)) s')
    (hOn : ∀ s', (∃ k, n = k + 1 ∧ Asleep X pins σ G [(a, go)] σ' tn fp W sb Q gi k s') → Qn (some (.bool (!sb))) s') :
    wpAny (model X.prog X.w) X.A.in1 (pyNext (.ref a)) Qn E s := by
  obtain ⟨i, m, H', gs, I, st, hn, w, hm, hgs, hgo⟩ := h
  cases n with
  | zero => omega
  | succ k =>
  have hgen : s.heap.IsGen a gi := hg _ (I.pin (a, go) (List.mem_append_right _ (List.mem_singleton.mpr rfl))).1
  have hlt : gi + 1 ≤ s.gens.size := size_of_some hgs
  have I' : Inv G [(a, go)] σ' H' (s.setGen gi .running) := regen I rfl rfl (bare_set I.bare rfl)
  refine wpAny_gsz (n := gi + 1) hlt (wpAny_pyNext_genexpQ (P := gP X pins σ sb Q) hh I.nolimit hroom hgen hgs (hgo _ I' st) (fun v s₁ gs' hb hv => ?_) (fun s₁ hp h' hk => ?_))
  · obtain ⟨i', H1, b, rfl, I1, st1, n1, q⟩ := hv
    intro hsz
    have hlt1 : gi < s₁.gens.size := by
      have e : (s₁.setGen gi gs').gens.size = s₁.gens.size := by simp [Shared.setGen]
      rw [e] at hsz
      exact hsz
    have I2 : Inv G [(a, go)] σ' H1 (s₁.setGen gi gs') := regen I1 rfl rfl (bare_set I1.bare hb)
    by_cases hbs : b = sb
    · rw [if_pos hbs] at q
      subst hbs
      exact hEarly H1 _ (back I2) q
    · rw [if_neg hbs] at q
      obtain ⟨m', w', hm', kap⟩ := q
      have eb : b = !sb := by cases b <;> cases sb <;> simp_all
      subst eb
      refine hOn _ ⟨k, rfl, i', m', H1, gs', I2, st1, n1, w', hm', ?_, fun s'' I'' st'' => kap s'' I'' st''⟩
      simp [Shared.setGen, hlt1]
  · obtain ⟨H1, I1, q⟩ := hp
    intro hsz
    exact hEnd H1 _ (regen (I1.kept (t' := s₁.toks) hk) rfl rfl (bare_set I1.bare rfl)) q

theorem all_gloop {G : Cx} {σ' : L2.St} {R : Result → Shared → Prop} (hh : X.A.handled = none) (hroom : X.A.depth < recursionLimit)
    (hg : ∀ h : Heap, h.get? a = some go → h.IsGen a gi) (back : ∀ {pa' : List (Addr × Obj)} {σ' : L2.St} {H' : Hp} {s' : Shared}, Inv G pa' σ' H' s' → Inv X pins σ H' s')
    (hR : ∀ b H' s', Inv X pins σ H' s' → Q (.bl b) H' → R (.ok (.ret (.bool b))) s') :
    ∀ (n : Nat) (s : Shared), Asleep X pins σ G [(a, go)] σ' tn fp W false Q gi n s → codeAny (model X.prog X.w) X.A (.builtin "all.loop" ⟨[.ref a], []⟩) R s := by
  intro n
  induction n with
  | zero => intro s h; obtain ⟨_, _, _, _, _, _, _, _, hm, _⟩ := h; omega
  | succ k ih =>
    intro s h
    refine codeAny_builtin F.entry_all_loop ?_
    rw [Around.under_plainId F.plain_all_loop _]
    show wpAny _ X.A.in1 (pyNext (.ref a) >>= _) _ _ s
    refine wpAny_bind (gen_next hh hroom hg back h (fun H' s' I q => ?_) (fun H' s' I q => ?_) (fun s' hs => ?_))
    · exact wpAny_bind (wpAny_rule (wpAny_pure (hR true H' s' I q)))
    · refine wpAny_bind (wpAny_holding (wpAny_truthy_bool ?_))
      refine wpAny_bind (wpAny_letGo ?_)
      simp only [Bool.false_eq_true, if_false]
      exact wpAny_bind (wpAny_rule (wpAny_pure (hR false H' s' I q)))
    · obtain ⟨k', hk, hs⟩ := hs
      cases hk
      refine wpAny_bind (wpAny_holding (wpAny_truthy_bool ?_))
      refine wpAny_bind (wpAny_letGo ?_)
      simp only [Bool.not_false, if_true]
      exact wpAny_pure ⟨plainId_quiet F.plain_all_loop _, ih s' hs⟩
theorem any_gloop {G : Cx} {σ' : L2.St} {R : Result → Shared → Prop} (hh : X.A.handled = none) (hroom : X.A.depth < recursionLimit)
    (hg : ∀ h : Heap, h.get? a = some go → h.IsGen a gi) (back : ∀ {pa' : List (Addr × Obj)} {σ' : L2.St} {H' : Hp} {s' : Shared}, Inv G pa' σ' H' s' → Inv X pins σ H' s')
    (hR : ∀ b H' s', Inv X pins σ H' s' → Q (.bl b) H' → R (.ok (.ret (.bool b))) s') :
    ∀ (n : Nat) (s : Shared), Asleep X pins σ G [(a, go)] σ' tn fp W true Q gi n s → codeAny (model X.prog X.w) X.A (.builtin "any.loop" ⟨[.ref a], []⟩) R s := by
  intro n
  induction n with
  | zero => intro s h; obtain ⟨_, _, _, _, _, _, _, _, hm, _⟩ := h; omega
  | succ k ih =>
    intro s h
    refine codeAny_builtin F.entry_any_loop ?_
    rw [Around.under_plainId F.plain_any_loop _]
    show wpAny _ X.A.in1 (pyNext (.ref a) >>= _) _ _ s
    refine wpAny_bind (gen_next hh hroom hg back h (fun H' s' I q => ?_) (fun H' s' I q => ?_) (fun s' hs => ?_))
    · exact wpAny_bind (wpAny_rule (wpAny_pure (hR false H' s' I q)))
    · refine wpAny_bind (wpAny_holding (wpAny_truthy_bool ?_))
      refine wpAny_bind (wpAny_letGo ?_)
      simp only [if_true]
      exact wpAny_bind (wpAny_rule (wpAny_pure (hR true H' s' I q)))
    · obtain ⟨k', hk, hs⟩ := hs
      cases hk
      refine wpAny_bind (wpAny_holding (wpAny_truthy_bool ?_))
      refine wpAny_bind (wpAny_letGo ?_)
      simp only [Bool.not_true, Bool.false_eq_true, if_false]
      exact wpAny_pure ⟨plainId_quiet F.plain_any_loop _, ih s' hs⟩

/-- the generator is made and sleeps -/
def GMadeG (X : Cx) (pins : List (Addr × Obj)) (σ : L2.St) (sb : Bool) (Q : VK) (a : Addr) (s5 : Shared) : Prop :=
  ∃ (go : Obj) (gi : Nat) (G : Cx) (σ' : L2.St) (tn : Nat → Heap → Prop) (fp : List Addr) (W : Nat → Nat → Hp → Prop) (n : Nat),
    (∀ h : Heap, h.get? a = some go → h.IsGen a gi) ∧ s5.heap.IsGen a gi ∧ (∀ (pa' : List (Addr × Obj)) (σ' : L2.St) (H' : Hp) (s' : Shared), Inv G pa' σ' H' s' → Inv X pins σ H' s') ∧
      Asleep X pins σ G [(a, go)] σ' tn fp W sb Q gi n s5

theorem gArd_frames {X : Cx} {elt tg iter : Expr} {scope : Scope} {gpos : Pos} {it : Addr} {cenv : Env} (h : X.A.frames = some X.stack) : (gArd X elt tg iter scope gpos it cenv).frames = some (cenv :: X.stack) := by
  show pushEnvs [cenv] (pushEnvs [] X.A.frames) = _
  rw [h]
  rfl
theorem gArd_room {X : Cx} {elt tg iter : Expr} {scope : Scope} {gpos : Pos} {it : Addr} {cenv : Env} {k : Nat} (r : Room (k + 1) X.A) : Room k (gArd X elt tg iter scope gpos it cenv) := by
  have hd : (gArd X elt tg iter scope gpos it cenv).depth = X.A.depth + 1 := rfl
  have hu : (gArd X elt tg iter scope gpos it cenv).units = X.A.units + 1 + 1 + 3 := rfl
  refine ⟨r.hd, ?_, ?_⟩
  · have := r.dp
    rw [hd]; omega
  · have := r.un
    rw [hu]; omega

theorem gen_made {c P : Addr} {wi : TI} {k : Nat} {s : Shared} {H : Hp} {Q' : Value → Shared → Prop}
    (hr : Room (k + 1) X.A) (hc : X.calm = true) (hN : X.N.Nodup) (TB : TabB X.base X.mg c P) (hcode : X.env.code = .ref c) (hi : PI X tg iter wi) (ok : BlkOk X.N X.env.scope scope own) (nc : ∀ y ∈ scope.names, y.2 ≠ .cell)
    (hco : scope.isCoroutine = false) (hdot : scope.names.lookup (".0" : Str) = some NameKind.local)
    (hg : ∀ (A : Around) (s : Shared) (H : Hp) (C : Addr) (cl : List (Str × Addr)) (code : Value) (fp : List Addr), Room k A → PG (gcx X A s H (genEnv scope cl C code builtinsNs X.env) fp) tg g)
    (he : ∀ (A : Around) (s : Shared) (H : Hp) (C : Addr) (cl : List (Str × Addr)) (code : Value) (fp : List Addr), Room k A → PE (gcx X A s H (genEnv scope cl C code builtinsNs X.env) fp) elt te)
    (hs : ∀ v, genFold iter X.env v = pure v) (I : Inv X pins σ H s) (h : tGen sb P wi g te (own.map (·.2)) σ H Q)
    (hQ : ∀ a s5, GMadeG X pins σ sb Q a s5 → Q' (.ref a) s5) :
    wpAny (model X.prog X.w) X.A (eval (.GeneratorExp elt [⟨tg, iter, [], 0⟩] scope gpos) X.env) Q' X.xe s := by
  have hfree : ∀ y ∈ scope.names, y.2 = .free → ∃ c, X.env.cells.lookup y.1 = some c := fun y hy e => by
    rcases ok.free y hy e with k | k
    · exact I.ok.has _ (.inl k)
    · exact I.ok.has _ (.inr k)
  refine wpAny_GeneratorExp_make hco (closure_ok hfree) nc hdot ok.kind (by have := hr.dp; omega) ?_ hs
  refine thn (hi.run pins s σ H _ I h) fun xv s1 hx => thn hx fun itv s2 h2 => ?_
  obtain ⟨it, fp, tn, J, H2, e, I2, T, st2, f2, ⟨ps, hP, ht⟩, hq⟩ := h2
  subst e
  refine ⟨I2.nolimit, ?_⟩
  have hPs : s2.heap.get? P = some { cls := .none, data := .fields ps } := I2.hok P _ hP
  have cd : PySem.W.CodeHd s2.heap c P := TB.code.keeps fun b u e => I2.bk b u e
  have fpP : ∀ b ∈ fp, b ≠ P := fun b hb z => by
    have q := (f2 b hb).1
    rw [z, hP] at q
    cases q
  have fpL : ∀ b ∈ fp, b < s2.heap.objs.size := fun b hb => by
    obtain ⟨o, e, _⟩ := T.obj _ _ st2 b hb
    exact Heap.lt_size e
  have cont : ∀ (code : Value) (h3 : Heap) (tk : Nat) (more : Array Value), Heap.ExtBut P s2.heap h3 → s2.heap.objs.size ≤ h3.objs.size → h3.get? P = some { cls := .none, data := .fields (ps ++ more) } → TriplesOk (ps ++ more).toList →
      wpAny (model X.prog X.w) X.A (builtinsFor X.env.globals X.env.builtins) (fun bi s₄ =>
        ∀ h', h'.Ns s₄.heap.objs.size (fun y => if y = ".0" then some (.ref it) else none) → Heap.SameBut s₄.heap.objs.size (s₄.heap.push { cls := .type "frame", data := .dict #[] }) h' →
          Q' (.ref h'.objs.size) { s₄ with
            gens := s₄.gens.push (.fresh (.compStart (.GeneratorExp elt [⟨tg, iter, [], 0⟩] scope gpos) 0 (.ref it) .none (genEnv scope (cloFrom X.env.cells scope.names []) s₄.heap.objs.size code bi X.env))),
            toks := s₄.toks + 1 + 1 + 1,
            heap := h'.push { cls := .type "generator", data := .fields #[.int s₄.gens.size 0, .str "<genexpr>" (s₄.toks + 1), .str (X.env.qual ++ "<genexpr>") (s₄.toks + 1 + 1)] } }) X.xe { s2 with heap := h3, toks := tk } := by
    intro code h3 tk more hx hge hP3 ht3
    have J3 : Inv X pins σ (upd H2 P (.tbl (ps ++ more))) { s2 with heap := h3, toks := tk } := inv_tab (more := more) (h' := h3) (g' := s2.gens) (d' := s2.drawn) (t' := tk) I2 hP (fun b o hb e => hx b o hb e) hP3 I2.bare
    obtain ⟨bm, ob, e1, e2, e3, e4, e5, e6, e7, e8⟩ := TB.bm
    have hglob : ({ s2 with heap := h3, toks := tk } : Shared).heap.Ns X.env.globals X.mg := by rw [J3.ok.glob]; exact J3.mod.glob.keeps J3.bk
    refine wpAny_builtinsFor (m := X.mg) hglob e1 e2 (J3.bk _ _ e5) e6 e7 e8 ?_
    intro h' hn' hs'
    obtain ⟨W, ⟨m0, w0⟩, turn⟩ := hq (upd H2 P (.tbl (ps ++ more))) ⟨⟨_, upd_same, ht3⟩, fun b hb => upd_ne hb⟩
    generalize hH3 : upd H2 P (.tbl (ps ++ more)) = H3 at J3 w0
    have hsz : h'.objs.size = h3.objs.size + 1 := by rw [hs'.1, Heap.size_push]
    have f3 : ∀ b ∈ fp, FpOk X pins H3 b ∧ b < h3.objs.size := fun b hb => by
      refine ⟨⟨?_, (f2 b hb).2⟩, Nat.lt_of_lt_of_le (fpL b hb) hge⟩
      rw [← hH3, upd_ne (fpP b hb)]
      exact (f2 b hb).1
    have st3 : tn 0 h3 := T.keep _ _ _ st2 fun b hb o e => hx b o (fpP b hb) e
    generalize hgo : ({ cls := .type "generator", data := .fields #[.int s2.gens.size 0, .str "<genexpr>" (tk + 1), .str (X.env.qual ++ "<genexpr>") (tk + 1 + 1)] } : Obj) = go
    have hgo0 : go.data = .fields #[.int s2.gens.size 0, .str "<genexpr>" (tk + 1), .str (X.env.qual ++ "<genexpr>") (tk + 1 + 1)] := by rw [← hgo]
    have hgoc : go.cls = .type "generator" := by rw [← hgo]
    have hgos : go.slots = #[] := by rw [← hgo]
    have kp : ∀ b o, h3.get? b = some o → (h'.push go).get? b = some o := fun b o e => Heap.get?_push_of_some _ (hs'.extBut b o (Nat.ne_of_lt (Heap.lt_size e)) (Heap.get?_push_of_some _ e))
    have hga : (h'.push go).get? h'.objs.size = some go := by
      rw [← hgo]
      exact Heap.get?_push_size _ rfl
    have hgen : ∀ h : Heap, h.get? h'.objs.size = some go → h.IsGen h'.objs.size s2.gens.size := fun h e => ⟨go, _, _, e, hgoc, hgo0, hgos⟩
    have st5 : tn 0 (h'.push go) := T.keep _ _ _ st3 fun b _ o e => kp b o e
    have hpa : ∀ b ∈ fp, b ≠ h'.objs.size := fun b hb => by
      have h1 : b < h3.objs.size := (f3 b hb).2
      have h2 : h'.objs.size = h3.objs.size + 1 := hsz
      have h3 : b < h'.objs.size := by rw [h2]; exact Nat.lt_succ_of_lt h1
      exact Nat.ne_of_lt h3
    have nfp : ∀ b ∈ fp, H3 b = none := fun b hb => (f3 b hb).1.1
    have rm := gArd_room (X := X) (elt := elt) (tg := tg) (iter := iter) (scope := scope) (gpos := gpos) (it := it) (cenv := genEnv scope (cloFrom X.env.cells scope.names []) h3.objs.size code builtinsNs X.env) hr
    have IG := gen_start (cenv := genEnv scope (cloFrom X.env.cells scope.names []) h3.objs.size code builtinsNs X.env) (A := gArd X elt tg iter scope gpos it (genEnv scope (cloFrom X.env.cells scope.names []) h3.objs.size code builtinsNs X.env)) (s' := { s2 with
            gens := s2.gens.push (.fresh (.compStart (.GeneratorExp elt [⟨tg, iter, [], 0⟩] scope gpos) 0 (.ref it) .none (genEnv scope (cloFrom X.env.cells scope.names []) h3.objs.size code builtinsNs X.env))),
            toks := tk + 1 + 1 + 1, heap := h'.push go }) (a := h'.objs.size) (go := go) J3 ok hN nc f3 rfl rfl rfl rfl rfl rfl (gArd_frames J3.ok.frames) (fun _ => hr.hd) rfl (AllBare.push I2.bare rfl) kp ⟨_, hn'.push _⟩ hga
            (by show h3.objs.size < h'.objs.size; omega) (fun v q => by rw [hgo0] at q; cases q)
    refine hQ _ _ ⟨go, s2.gens.size, gcx X (gArd X elt tg iter scope gpos it (genEnv scope (cloFrom X.env.cells scope.names []) h3.objs.size code builtinsNs X.env)) { s2 with heap := h3, toks := tk } H3 (genEnv scope (cloFrom X.env.cells scope.names []) h3.objs.size code builtinsNs X.env) fp,
      wipe σ (own.map (·.2)), tn, fp, W, m0 + 1, hgen, hgen _ hga, fun pa' σ' H' s' I' => J3.call' (ch := fp) I'.os I'.base I'.hok I'.bare fun b hb => ⟨(f3 b hb).1.2.2.2.1, (f3 b hb).1.2.1, (f3 b hb).1.2.2.2.2.1, (f3 b hb).1.2.2.2.2.2⟩,
      0, m0, H3, _, IG, st5, nfp, w0, Nat.lt_succ_self _, Array.getElem?_push_size .., fun s'' I'' st'' => ⟨rfl, ?_⟩⟩
    have loop := seg_gloop (Q := Q) (W := W) (sb := sb) (own := own) hc J3 (fun b hb => (f3 b hb).1) (cenv := genEnv scope (cloFrom X.env.cells scope.names []) h3.objs.size code builtinsNs X.env) hco T hpa
      (hg _ _ _ _ _ _ _ rm) (he _ _ _ _ _ _ _ rm) turn (m0 + 1) 0 m0 H3 s'' s'' w0 (Nat.lt_succ_self _) I'' st'' nfp
    show Seg _ X.A.in1.in1 _ _ _ s'' _ ((compStart (.GeneratorExp elt [⟨tg, iter, [], 0⟩] scope gpos) 0 (.ref it) .none _).onRaise (leaving _)) [] s''
    unfold compStart
    rw [Sem.onRaise_eq_wrap]
    show Seg _ X.A.in1.in1 _ _ _ s'' _ ((ask >>= _).wrap _ _ _ _) [] s''
    refine seg_bind_wrap (wpAny_askSetting ?_)
    split
    · exact seg_again rfl loop
    · refine seg_bind_wrap (wpAny_rule ?_)
      show Seg _ X.A.in1.in1 _ _ _ s'' _ ((standAt iter.pos >>= _).wrap _ _ _ _) [] s''
      exact seg_bind_wrap (wpAny_standAt (seg_bind_wrap (T.self _ 0 s'' _ _ st'' (seg_again rfl loop))))
  cases hf : codeAmong gpos ps.toList with
  | none =>
    refine wpAny_genexprCodeX hcode (cd.code hPs ht) (cd.tab hPs) hf fun c' h' tk hx hge hlt hco' _ htab' _ => ?_
    obtain ⟨o1, vs, f1, tf, fl, tg1, inF, tx, tt, op, _, _, _, _, _, _, _, _, _, htr, _⟩ := hco'
    exact cont _ h' tk _ hx (Nat.le_trans hge (Nat.le_of_lt hlt)) htab'.2 htr
  | some cv =>
    refine wpAny_genexprCode_hit hcode (cd.code hPs ht) hf ?_
    have e0 : ps ++ (#[] : Array Value) = ps := by simp
    exact cont cv s2.heap s2.toks #[] (Heap.ExtBut.refl _ _) (Nat.le_refl _) (by rw [e0]; exact hPs) (by rw [e0]; exact ht)

/-- all(elt for tg in iter) -/
theorem pe_allG {c P : Addr} {wi : TI} {k : Nat} {p pos : Pos}
    (hr : Room (k + 1) X.A) (hgl : Gl X "all") (hm : X.mg "all" = none) (hc : X.calm = true) (hN : X.N.Nodup) (TB : TabB X.base X.mg c P) (hcode : X.env.code = .ref c) (hi : PI X tg iter wi) (ok : BlkOk X.N X.env.scope scope own) (nc : ∀ y ∈ scope.names, y.2 ≠ .cell)
    (hco : scope.isCoroutine = false) (hdot : scope.names.lookup (".0" : Str) = some NameKind.local)
    (hg : ∀ (A : Around) (s : Shared) (H : Hp) (C : Addr) (cl : List (Str × Addr)) (code : Value) (fp : List Addr), Room k A → PG (gcx X A s H (genEnv scope cl C code builtinsNs X.env) fp) tg g)
    (he : ∀ (A : Around) (s : Shared) (H : Hp) (C : Addr) (cl : List (Str × Addr)) (code : Value) (fp : List Addr), Room k A → PE (gcx X A s H (genEnv scope cl C code builtinsNs X.env) fp) elt te)
    (hs : ∀ v, genFold iter X.env v = pure v := by intro _; rfl)
    (hst : starEach [.GeneratorExp elt [⟨tg, iter, [], 0⟩] scope gpos] X.env = (false, eval (.GeneratorExp elt [⟨tg, iter, [], 0⟩] scope gpos) X.env) :: starEach [] X.env := by rfl) :
    PE X (.Call (.Name "all" p) [.GeneratorExp elt [⟨tg, iter, [], 0⟩] scope gpos] [] pos) (tGen false P wi g te (own.map (·.2))) := by
  refine ⟨fun pins s σ H Q I h => ?_⟩
  refine wpAny_Call_Name_kw (ld_blt I hgl hm (show bootBuiltins "all" = some (.builtin "all") by decide +kernel) ?_)
  refine PyProof.Rows.callWith_builtin1 ?_ hst (by rfl)
  rw [hst]
  show wpAny _ _ (spliced ((false, eval (.GeneratorExp elt [⟨tg, iter, [], 0⟩] scope gpos) X.env) :: backTo pos (starEach [] X.env))) _ _ s
  refine Calls.spliced_cons (gen_made hr hc hN TB hcode hi ok nc hco hdot hg he hs I h fun a s5 hG => ?_)
  obtain ⟨go, gi, G, σ', tn, fp, W, n, hgn, hg5, back, hA⟩ := hG
  refine Calls.spliced_nil ?_
  refine call_function_tree F.kind_all F.plain_all F.entry_all (F.args_all1 _) ?_
  unfold Builtin.«all»
  refine wpAny_bind (m := oneArg "all" _) (wpAny_pure ?_)
  refine wpAny_bind (wpAny_pyIter_gen hg5 ?_)
  exact wpAny_pure ⟨plainId_quiet F.plain_all_loop _, all_gloop (Q := Q) hr.hd hr.depth hgn (fun {pa' σ' H' s'} I' => back pa' σ' H' s' I') (fun b H' s' I' q => ⟨.bl b, H', I', rfl, q⟩) n s5 hA⟩
/-- any(elt for tg in iter) -/
theorem pe_anyG {c P : Addr} {wi : TI} {k : Nat} {p pos : Pos}
    (hr : Room (k + 1) X.A) (hgl : Gl X "any") (hm : X.mg "any" = none) (hc : X.calm = true) (hN : X.N.Nodup) (TB : TabB X.base X.mg c P) (hcode : X.env.code = .ref c) (hi : PI X tg iter wi) (ok : BlkOk X.N X.env.scope scope own) (nc : ∀ y ∈ scope.names, y.2 ≠ .cell)
    (hco : scope.isCoroutine = false) (hdot : scope.names.lookup (".0" : Str) = some NameKind.local)
    (hg : ∀ (A : Around) (s : Shared) (H : Hp) (C : Addr) (cl : List (Str × Addr)) (code : Value) (fp : List Addr), Room k A → PG (gcx X A s H (genEnv scope cl C code builtinsNs X.env) fp) tg g)
    (he : ∀ (A : Around) (s : Shared) (H : Hp) (C : Addr) (cl : List (Str × Addr)) (code : Value) (fp : List Addr), Room k A → PE (gcx X A s H (genEnv scope cl C code builtinsNs X.env) fp) elt te)
    (hs : ∀ v, genFold iter X.env v = pure v := by intro _; rfl)
    (hst : starEach [.GeneratorExp elt [⟨tg, iter, [], 0⟩] scope gpos] X.env = (false, eval (.GeneratorExp elt [⟨tg, iter, [], 0⟩] scope gpos) X.env) :: starEach [] X.env := by rfl) :
    PE X (.Call (.Name "any" p) [.GeneratorExp elt [⟨tg, iter, [], 0⟩] scope gpos] [] pos) (tGen true P wi g te (own.map (·.2))) := by
  refine ⟨fun pins s σ H Q I h => ?_⟩
  refine wpAny_Call_Name_kw (ld_blt I hgl hm (show bootBuiltins "any" = some (.builtin "any") by decide +kernel) ?_)
  refine PyProof.Rows.callWith_builtin1 ?_ hst (by rfl)
  rw [hst]
  show wpAny _ _ (spliced ((false, eval (.GeneratorExp elt [⟨tg, iter, [], 0⟩] scope gpos) X.env) :: backTo pos (starEach [] X.env))) _ _ s
  refine Calls.spliced_cons (gen_made hr hc hN TB hcode hi ok nc hco hdot hg he hs I h fun a s5 hG => ?_)
  obtain ⟨go, gi, G, σ', tn, fp, W, n, hgn, hg5, back, hA⟩ := hG
  refine Calls.spliced_nil ?_
  refine call_function_tree F.kind_any F.plain_any F.entry_any (F.args_any1 _) ?_
  unfold Builtin.«any»
  refine wpAny_bind (m := oneArg "any" _) (wpAny_pure ?_)
  refine wpAny_bind (wpAny_pyIter_gen hg5 ?_)
  exact wpAny_pure ⟨plainId_quiet F.plain_any_loop _, any_gloop (Q := Q) hr.hd hr.depth hgn (fun {pa' σ' H' s'} I' => back pa' σ' H' s' I') (fun b H' s' I' q => ⟨.bl b, H', I', rfl, q⟩) n s5 hA⟩
end
end GA
set_option Elab.async false
set_option linter.all false
set_option maxRecDepth 100000
set_option maxHeartbeats 4000000
/-! data that a pure def reads and makes; heaps that only grow; defs whose code object is known -/
namespace JF
open PySem PySem.Spec PyProof.Rows L2 GxR GA

/-! ### any, all over a walk -/
theorem gen_it {sb : Bool} {J : It} {n : Nat} {G : Hp → Prop} {Y : Nat → Hp → V → Hp → Prop} (w : Walk J n G Y) {g : TG} {te : TE} {vs : List Nat} {σ : L2.St} {H : Hp} {Q : VK} (Pv : Nat → Hp → Prop) (h0 : Pv 0 H) (hG : ∀ i H, i ≤ n → Pv i H → G H)
    (hs : ∀ i x H H', i < n → Pv i H → Y i H x H' → g x (wipe σ vs) H' fun σ2 H2 => wipe σ2 vs = wipe σ vs ∧ te σ2 H2 fun y H3 => ∃ b : Bool, y = .bl b ∧ if b = sb then Q (.bl sb) H3 else Pv (i + 1) H3) (hd : ∀ H, Pv n H → Q (.bl (!sb)) H) :
    ∃ W : Nat → Nat → Hp → Prop, (∃ m, W 0 m H) ∧ tGenW sb J g te vs σ Q W := by
  refine ⟨fun i m H => m = n - i ∧ i ≤ n ∧ Pv i H, ⟨n, by simp, Nat.zero_le _, h0⟩, ?_⟩
  rintro i m H ⟨rfl, hi, p⟩
  have q := hG i H hi p
  by_cases hlt : i < n
  · exact .inr ⟨w.goes i H hlt q, Pv (i + 1), fun H' p' => ⟨n - (i + 1), by omega, rfl, hlt, p'⟩, fun x H' y => hs i x H H' hlt p (w.yields i H x H' hlt q y)⟩
  · have e : i = n := by omega
    subst e
    exact .inl ⟨w.stops H q, hd H p⟩

/-! ### heaps that only grow; the tables of code objects at T may have grown -/
def TbOk (T : List Addr) (H : Hp) : Prop := ∀ P ∈ T, TabG H P
structure Ex (T : List Addr) (H H' : Hp) : Prop where
  tb : TbOk T H → TbOk T H'
  keep : ∀ b o, H b = some o → b ∉ T → H' b = some o
theorem Ex.refl {T : List Addr} {H : Hp} : Ex T H H := ⟨id, fun _ _ e _ => e⟩
theorem Ex.trans {T : List Addr} {H H1 H2 : Hp} (a : Ex T H H1) (b : Ex T H1 H2) : Ex T H H2 := ⟨fun h => b.tb (a.tb h), fun c o e n => b.keep c o (a.keep c o e n) n⟩
theorem TabG.upd {H : Hp} {P p : Addr} {o : HO} (h : TabG H P) (n : H p = none) : TabG (upd H p o) P := by
  obtain ⟨ps, e, t⟩ := h
  exact ⟨ps, by rw [upd_ne (ne_of_none e n)]; exact e, t⟩
theorem Ex.new {T : List Addr} {H : Hp} {p : Addr} {o : HO} (n : H p = none) : Ex T H (upd H p o) :=
  ⟨fun h P hP => TabG.upd (h P hP) n, fun b x e _ => by rw [upd_ne (ne_of_none e n)]; exact e⟩
theorem Ex.tabbed {T : List Addr} {H H' : Hp} {P : Addr} (hP : P ∈ T) (h : Tabbed P H H') : Ex T H H' :=
  ⟨fun t Pz hz => by
    by_cases e : Pz = P
    · rw [e]; exact h.1
    · obtain ⟨ps, q, r⟩ := t Pz hz
      exact ⟨ps, by rw [h.2 _ e]; exact q, r⟩,
   fun b o e n => by rw [h.2 b (fun z => n (z ▸ hP))]; exact e⟩
theorem TbOk.seqN {T : List Addr} {H : Hp} {a : Addr} {o : HO} (t : TbOk T H) (h : H a = some o) (n : ∀ ps, o ≠ .tbl ps) : a ∉ T := fun z => by
  obtain ⟨ps, e, _⟩ := t a z
  rw [h] at e
  exact n ps (Option.some.inj e)
theorem Ex.sqL {K : PySem.W.Frag} {T : List Addr} {H H' : Hp} {a : Addr} {xs : List V} (x : Ex T H H') (t : TbOk T H) (h : SqL K H a xs) : SqL K H' a xs := by
  rcases h with (h | ⟨o, h⟩) | h
  · exact .inl (.inl (x.keep _ _ h (t.seqN h fun _ z => by cases z)))
  · exact .inl (.inr ⟨o, x.keep _ _ h (t.seqN h fun _ z => by cases z)⟩)
  · exact .inr h
theorem Ex.sqT {K : PySem.W.Frag} {T : List Addr} {H H' : Hp} {a : Addr} {xs : List V} (x : Ex T H H') (t : TbOk T H) (h : SqT K H a xs) : SqT K H' a xs := by
  rcases h with (h | ⟨o, h⟩) | h
  · exact .inl (.inl (x.keep _ _ h (t.seqN h fun _ z => by cases z)))
  · exact .inl (.inr ⟨o, x.keep _ _ h (t.seqN h fun _ z => by cases z)⟩)
  · exact .inr h

/-! ### data: none, truths, ints, texts, lists, tuples; any dict is .dict [] -/
mutual
inductive Rp (K : PySem.W.Frag) (H : Hp) : V → PyData → Prop
  | non : Rp K H .non .none
  | bl (b : Bool) : Rp K H (.bl b) (.bool b)
  | int (i : Int) : Rp K H (.int i) (.int i)
  | str (x : Str) : x.length ≤ 65536 → Rp K H (.str x) (.str x)
  | lst {a : Addr} {xs : List V} {ds : List PyData} : SqL K H a xs → RpAll K H xs ds → Rp K H (.ref a) (.list ds)
  | tup {a : Addr} {xs : List V} {ds : List PyData} : SqT K H a xs → RpAll K H xs ds → Rp K H (.ref a) (.tuple ds)
  | dic {a : Addr} {kvs : List (Key × V)} : H a = some (.dK kvs) → Rp K H (.ref a) (.dict [])
inductive RpAll (K : PySem.W.Frag) (H : Hp) : List V → List PyData → Prop
  | nil : RpAll K H [] []
  | cons {v : V} {vs : List V} {d : PyData} {ds : List PyData} : Rp K H v d → RpAll K H vs ds → RpAll K H (v :: vs) (d :: ds)
end
section
variable {K : PySem.W.Frag} {T : List Addr} {H H' : Hp}
theorem RpAll.len : ∀ {vs : List V} {ds : List PyData}, RpAll K H vs ds → vs.length = ds.length
  | _, _, .nil => rfl
  | _, _, .cons _ t => by rw [List.length_cons, List.length_cons, t.len]
theorem RpAll.get : ∀ {vs : List V} {ds : List PyData} {i : Nat} {v : V}, RpAll K H vs ds → vs[i]? = some v → ∃ d, ds[i]? = some d ∧ Rp K H v d
  | _, _, _, _, .nil, h => by simp at h
  | _, _, 0, v, .cons r _, h => by
    have e : _ = v := Option.some.inj h
    subst e
    exact ⟨_, rfl, r⟩
  | _, _, i + 1, v, .cons _ t, h => RpAll.get (i := i) (v := v) t h
theorem RpAll.getD : ∀ {vs : List V} {ds : List PyData} {i : Nat} {d : PyData}, RpAll K H vs ds → ds[i]? = some d → ∃ v, vs[i]? = some v ∧ Rp K H v d
  | _, _, _, _, .nil, h => by simp at h
  | _, _, 0, d, .cons r _, h => by
    have e : _ = d := Option.some.inj h
    subst e
    exact ⟨_, rfl, r⟩
  | _, _, i + 1, d, .cons _ t, h => RpAll.getD (i := i) (d := d) t h
mutual
theorem Rp.ex (x : Ex T H H') (t : TbOk T H) : ∀ {v : V} {d : PyData}, Rp K H v d → Rp K H' v d
  | _, _, .non => .non
  | _, _, .bl b => .bl b
  | _, _, .int i => .int i
  | _, _, .str s h => .str s h
  | _, _, .lst h r => .lst (x.sqL t h) (RpAll.ex x t r)
  | _, _, .tup h r => .tup (x.sqT t h) (RpAll.ex x t r)
  | _, _, .dic h => .dic (x.keep _ _ h (t.seqN h fun _ z => by cases z))
theorem RpAll.ex (x : Ex T H H') (t : TbOk T H) : ∀ {vs : List V} {ds : List PyData}, RpAll K H vs ds → RpAll K H' vs ds
  | _, _, .nil => .nil
  | _, _, .cons r s => .cons (Rp.ex x t r) (RpAll.ex x t s)
end
/-- the name of a datum's type -/
def tyN : PyData → String
  | .none => "NoneType"
  | .bool _ => "bool"
  | .int _ => "int"
  | .str _ => "str"
  | .list _ => "list"
  | .tuple _ => "tuple"
  | .dict _ => "dict"
theorem Rp.ty {v : V} {d : PyData} (r : Rp K H v d) : TyB K H v (tyN d) := by
  cases r with
  | non => exact .non
  | bl b => exact .bl b
  | int i => exact .int i
  | str x _ => exact .str x
  | lst h _ => exact .lst h
  | tup h _ => exact .tup h
  | dic h => exact .dK h
end
/-- type(x) is T, asked of a datum -/
theorem ty_dec (d : PyData) (s : String) : decide (tyN d = s) = (tyN d == s) := by
  by_cases h : tyN d = s
  · rw [decide_eq_true h, h]; simp
  · rw [decide_eq_false h]; exact (beq_eq_false_iff_ne.mpr h).symm

/-! ### any, all with pure elements -/
def genR {α : Type} (sb : Bool) (xs : List α) (b : α → Bool) : Bool := if sb then xs.any b else xs.all b
theorem genR_found {α : Type} {sb : Bool} {xs : List α} {b : α → Bool} {a : α} (h : a ∈ xs) (e : b a = sb) : genR sb xs b = sb := by
  cases sb with
  | true => exact List.any_eq_true.mpr ⟨a, h, e⟩
  | false =>
    show xs.all b = false
    cases q : xs.all b with
    | false => rfl
    | true => rw [List.all_eq_true.mp q a h] at e; cases e
theorem genR_end {α : Type} {sb : Bool} {xs : List α} {b : α → Bool} (h : ∀ a ∈ xs, b a = !sb) : genR sb xs b = !sb := by
  cases sb with
  | true =>
    show xs.any b = false
    cases q : xs.any b with
    | false => rfl
    | true =>
      obtain ⟨a, ha, e⟩ := List.any_eq_true.mp q
      rw [h a ha] at e; cases e
  | false => exact List.all_eq_true.mpr h
theorem gen_bools {T : List Addr} {α : Type} {sb : Bool} {J : It} {n : Nat} {G : Hp → Prop} {Y : Nat → Hp → V → Hp → Prop} (w : Walk J n G Y) {g : TG} {te : TE} {vs : List Nat} {σ : L2.St} {H : Hp} {Q : VK} (xs : List α) (hn : xs.length = n) (b : α → Bool)
    (hG : ∀ H', Ex T H H' → G H')
    (hs : ∀ i x a H' H2, Ex T H H' → xs[i]? = some a → Y i H' x H2 → ∀ Q' : VK, (∀ H3, Ex T H H3 → Q' (.bl (b a)) H3) → g x (wipe σ vs) H2 fun σ2 H3 => wipe σ2 vs = wipe σ vs ∧ te σ2 H3 Q')
    (hd : ∀ H', Ex T H H' → Q (.bl (genR sb xs b)) H') : ∃ W : Nat → Nat → Hp → Prop, (∃ m, W 0 m H) ∧ tGenW sb J g te vs σ Q W := by
  refine gen_it w (fun i H' => Ex T H H' ∧ ∀ a ∈ xs.take i, b a = !sb) ⟨Ex.refl, by simp⟩ (fun i H' _ p => hG H' p.1) (fun i x H' H2 hi p y => ?_) (fun H' p => ?_)
  · have hi' : i < xs.length := by omega
    refine hs i x xs[i] H' H2 p.1 (List.getElem?_eq_getElem hi') y _ fun H3 x3 => ⟨b xs[i], rfl, ?_⟩
    by_cases hb : b xs[i] = sb
    · rw [if_pos hb]
      have := hd H3 x3
      rw [genR_found (List.getElem_mem hi') hb] at this
      exact this
    · rw [if_neg hb]
      refine ⟨x3, fun a ha => ?_⟩
      rw [List.take_succ, List.getElem?_eq_getElem hi'] at ha
      rcases List.mem_append.mp ha with z | z
      · exact p.2 a z
      · have e : a = xs[i] := by simpa using z
        rw [e]
        cases q : b xs[i] <;> cases sb <;> simp_all
  · have := hd H' p.1
    rw [genR_end (fun a ha => p.2 a (by rw [List.take_of_length_le (by omega)]; exact ha))] at this
    exact this
/-- over a text -/
theorem gen_signs {T : List Addr} {sb : Bool} {g : TG} {te : TE} {vs : List Nat} {σ : L2.St} {H : Hp} {Q : VK} (z : Str) (b : Nat → Bool)
    (hs : ∀ c H', Ex T H H' → ∀ Q' : VK, (∀ H3, Ex T H H3 → Q' (.bl (b c)) H3) → g (.str ⟨#[c]⟩) (wipe σ vs) H' fun σ2 H3 => wipe σ2 vs = wipe σ vs ∧ te σ2 H3 Q')
    (hd : ∀ H', Ex T H H' → Q (.bl (genR sb z.cps.toList b)) H') : ∃ W : Nat → Nat → Hp → Prop, (∃ m, W 0 m H) ∧ tGenW sb (Its z) g te vs σ Q W :=
  gen_bools (T := T) walk_str z.cps.toList (by simp) b (fun _ _ => trivial) (fun i x a H' H2 e ha y Q' hq => by
    obtain ⟨rfl, c, hc, rfl⟩ := y
    have e2 : z.cps.toList[i]? = some c := by simpa using hc
    rw [e2] at ha
    cases ha
    exact hs _ _ e Q' hq) hd
/-- over a tuple of data -/
theorem gen_tup {K : PySem.W.Frag} {T : List Addr} {sb : Bool} {g : TG} {te : TE} {vs : List Nat} {σ : L2.St} {H : Hp} {Q : VK} {a : Addr} {xs : List V} {ds : List PyData} (t : TbOk T H) (hx : SqT K H a xs) (r : RpAll K H xs ds) (b : PyData → Bool)
    (hs : ∀ v d H', Ex T H H' → d ∈ ds → Rp K H' v d → ∀ Q' : VK, (∀ H3, Ex T H H3 → Q' (.bl (b d)) H3) → g v (wipe σ vs) H' fun σ2 H3 => wipe σ2 vs = wipe σ vs ∧ te σ2 H3 Q')
    (hd : ∀ H', Ex T H H' → Q (.bl (genR sb ds b)) H') : ∃ W : Nat → Nat → Hp → Prop, (∃ m, W 0 m H) ∧ tGenW sb (Itt K a) g te vs σ Q W :=
  gen_bools (T := T) walk_tup ds (by rw [r.len]) b (fun _ e => e.sqT t hx) (fun i x d H' H2 e hd y Q' hq => by
    obtain ⟨rfl, hv⟩ := y
    obtain ⟨d', hd', rd⟩ := r.get hv
    rw [hd] at hd'
    cases hd'
    exact hs _ _ _ e (List.mem_of_getElem? hd) (rd.ex e t) Q' hq) hd
/-- over a list of data -/
theorem gen_lst {K : PySem.W.Frag} {T : List Addr} {sb : Bool} {g : TG} {te : TE} {vs : List Nat} {σ : L2.St} {H : Hp} {Q : VK} {a : Addr} {xs : List V} {ds : List PyData} (t : TbOk T H) (hx : SqL K H a xs) (r : RpAll K H xs ds) (b : PyData → Bool)
    (hs : ∀ v d H', Ex T H H' → d ∈ ds → Rp K H' v d → ∀ Q' : VK, (∀ H3, Ex T H H3 → Q' (.bl (b d)) H3) → g v (wipe σ vs) H' fun σ2 H3 => wipe σ2 vs = wipe σ vs ∧ te σ2 H3 Q')
    (hd : ∀ H', Ex T H H' → Q (.bl (genR sb ds b)) H') : ∃ W : Nat → Nat → Hp → Prop, (∃ m, W 0 m H) ∧ tGenW sb (Itl K a) g te vs σ Q W :=
  gen_bools (T := T) walk_list ds (by rw [r.len]) b (fun _ e => e.sqL t hx) (fun i x d H' H2 e hd y Q' hq => by
    obtain ⟨rfl, hv⟩ := y
    obtain ⟨d', hd', rd⟩ := r.get hv
    rw [hd] at hd'
    cases hd'
    exact hs _ _ _ e (List.mem_of_getElem? hd) (rd.ex e t) Q' hq) hd

/-! ### a def whose code object is at c -/
structure FunC (K : PySem.W.Frag) (x qual : Str) (st : Stmt) (f : Addr) (fd : FuncData) (c : Addr) : Prop where
  ex : ∃ (oc : Value) (od : Option Addr) (kV doc pm : Value) (an : Option Addr) (ct : Value) (osl : Array (Option Value)),
    fd = PySem.W.fnOf x qual (defArgs st) (defBody st) (defScope st) .none kV doc pm an (.ref c) ct ∧ K.lookup f = some ⟨oc, od, .func fd, osl⟩ ∧ PySem.W.codeIn K (.ref c) qual = true
  kp : PySem.W.keepIn K (.ref f) = true
section
variable {P : Program} {w : World} {K : PySem.W.Frag} {mg : Str → Option Value} {base : Heap}
theorem FunC.ok {x qual : Str} {st : Stmt} {f c : Addr} {fd : FuncData} {N ps : List Str} {k : Nat} {sp : Sp} (F : FunC K x qual st f fd c) (S : FnScope N ps (defScope st)) (len : ∀ vs H Q E, sp vs H Q E → vs.length = ps.length)
    (hbody : ∀ (A : Around) (outer : List Env) (s : Shared) (H : Hp) (vs : List V) (Q : VK) (E : XK), Room k (A.deeper (envOfC qual (defScope st) s.heap.objs.size f (.ref c))) → sp vs H Q E →
      ∃ t, PSs (cxOf CX0 P w K mg base N qual (defScope st) f (.ref c) A outer s H E).nox (defBody st) t ∧ t { nx := fun _ H' => Q .non H', rt := Q } (start N vs) H) : FnOk P w K mg base CX0 (k + 1) f fd ps sp := by
  obtain ⟨oc, od, kV, doc, pm, an, ct, osl, rfl, lk, hcd⟩ := F.ex
  refine fn_of lk hcd S len fun A outer s H vs Q E hr hsp => ?_
  obtain ⟨t, h, q⟩ := hbody A outer s H vs Q E hr hsp
  exact ⟨t, h.nox, q⟩
theorem FunC.binds {x qual : Str} {st : Stmt} {f c : Addr} {fd : FuncData} {ps : List Str} (F : FunC K x qual st f fd c)
    (h : ∀ (kV doc pm : Value) (an : Option Addr) (ct : Value) (us : List Value), us.length = ps.length → bindArgs (PySem.W.fnOf x qual (defArgs st) (defBody st) (defScope st) .none kV doc pm an (.ref c) ct) ⟨us, []⟩ = pure (ps.zip us)) : Binds K fd ps [] := by
  obtain ⟨oc, od, kV, doc, pm, an, ct, osl, rfl, lk, hcd⟩ := F.ex
  exact .all (h kV doc pm an ct)
end
end JF
set_option Elab.async false
set_option linter.all false
set_option maxRecDepth 100000
set_option maxHeartbeats 4000000
namespace JF
open PySem PySem.Spec PyProof.Rows L2
def topS (i : Nat) : Stmt := PySem.Challenge.pw_justfreed_k03_whole_sayings_judged.main.body.getD i (.Pass ⟨0, 0, 0, 0⟩)
abbrev sWell : Stmt := topS 30
abbrev sDraw : Stmt := topS 31
/-! ### the well of draws -/
/-- a well at p, its drawn tops at q; b bounds how often it was drawn from -/
def WellAt (q : Addr) (b : Nat) (H : Hp) (p : Addr) : Prop := ∃ (m c : Int) (ts : List Int), p ≠ q ∧ H p = some (.lst [.ref q, .int m, .int c]) ∧ H q = some (.lst (ts.map V.int)) ∧ 0 ≤ m ∧ m < 2147483648 ∧ 0 ≤ c ∧ c ≤ b ∧ ts.length ≤ 63 ∧ ∀ t ∈ ts, 0 ≤ t
def spWell (K : PySem.W.Frag) : Sp := fun vs H Q _ => ∃ (a : Addr) (ns : List Int), vs = [.ref a] ∧ SqL K H a (ns.map V.int) ∧ ns.length ≤ 63 ∧ ∀ (H' : Hp) (p q : Addr), Same H H' → H p = none → H q = none → WellAt q 0 H' p → Q (.ref p) H'
theorem same_upd {H : Hp} {p : Addr} {o : HO} (h : H p = none) : Same H (upd H p o) := fun b x e => by
  rw [upd_ne (ne_of_none e h)]
  exact e
section
variable {P : Program} {w : World} {K : PySem.W.Frag} {mg : Str → Option Value} {base : Heap}
theorem scWell : FnScope ["script", "mix", "cell"] ["script"] (defScope sWell) := ⟨rfl, rfl, rfl, by decide +kernel, rfl, by decide +kernel, by decide +kernel⟩
theorem ok_well {f : Addr} {fd : FuncData} (F : Fun K "_law_well" "_law_well" sWell f fd) (mi : mg "int" = none) (ma : mg "abs" = none) : FnOk P w K mg base CX0 1 f fd ["script"] (spWell K) := by
  refine F.ok scWell (fun vs H Q E h => ?_) (fun cdv A outer s H vs Q E hr h => ?_)
  · obtain ⟨a, ns, rfl, _⟩ := h
    rfl
  · obtain ⟨a, ns, rfl, hS, hlen, k⟩ := h
    have hcell : ∀ {X : Cx} {t : TE}, True := fun {_ _} => trivial
    refine ⟨_, pss_cons (ps_set (i := 1) scWell.nd rfl (.inl rfl) pe_int)
      (pss_cons (ps_for PassesOwn.never rfl (pi_list (pv 0)) (pg_name (i := 2) scWell.nd rfl (.inl rfl))
        (pss_one (ps_set (i := 1) scWell.nd rfl (.inl rfl)
          (pe_op op_mod (pe_callTy call_int1 (by rfl) mi (by decide +kernel) (pa_cons (pe_op op_add (pe_op op_add (pe_op op_mul (pv 1) pe_int)
            (pe_op op_mod (pe_callB call_abs (by rfl) ma (by decide +kernel) (pa_cons (pe_callTy call_int1 (by rfl) mi (by decide +kernel) (pa_cons (pv 2) pa_nil)) pa_nil)) pe_int)) pe_int) pa_nil)) pe_int))))
      (pss_one (ps_ret (pe_lst (pa_cons (pe_lc (own := [("cell", 2)]) (g := gName 2) rfl scWell.nd (pi_list (pv 0)) (blkOk_by (N := ["script", "mix", "cell"]) (sc := defScope sWell) (by decide +kernel))
          (fun _ _ _ _ _ => pg_name (i := 2) scWell.nd rfl (Or.inl rfl))
          (fun _ _ _ _ _ => pts_one (pt_cmpR op_ge (pe_callB call_abs (by rfl) ma (by decide +kernel) (pa_cons (pe_callTy call_int1 (by rfl) mi (by decide +kernel) (pa_cons (pv 2) pa_nil)) pa_nil)) (pe_op op_pow pe_int pe_int) (nomark _)))
          (fun _ _ _ _ _ => pe_op op_sub (pe_callB call_abs (by rfl) ma (by decide +kernel) (pa_cons (pe_callTy call_int1 (by rfl) mi (by decide +kernel) (pa_cons (pv 2) pa_nil)) pa_nil)) (pe_op op_pow pe_int pe_int)))
        (pa_cons (pv 1) (pa_cons pe_int pa_nil))))))), ?_⟩
    refine ⟨.ref a, rfl, a, rfl, ⟨_, hS⟩, for_list (xs := ns.map V.int) (fun i σ H' => H' = H ∧ ∃ (m : Int) (c : Option V), σ = [some (.ref a), some (.int m), c] ∧ 0 ≤ m ∧ m < 2147483648) ⟨rfl, 3, none, rfl, by decide, by decide⟩ (fun i σ H' _ ⟨e, _⟩ => by rw [e]; exact hS) ?_ ?_⟩
    · rintro i x σ H' hx ⟨rfl, m, c, rfl, h0, h1⟩
      obtain ⟨z, hz, rfl⟩ : ∃ z, ns[i]? = some z ∧ V.int z = x := by
        rw [List.getElem?_map] at hx
        cases e : ns[i]? with
        | none => rw [e] at hx; cases hx
        | some z => rw [e] at hx; exact ⟨z, rfl, Option.some.inj hx⟩
      refine ⟨_, rfl, _, _, rfl, rfl, .inr ⟨by decide, by decide⟩, _, rfl, .inl ⟨_, rfl, _, rfl, _, _, rfl, rfl, (by show (0 : Int) < 2147483587; decide), _, _, rfl, rfl, _, _, rfl, rfl, .inl ⟨_, rfl, _, _, rfl, rfl, (by show (0 : Int) < 2147483629; decide), ?_⟩⟩⟩
      refine ⟨rfl, _, _, rfl, Int.emod_nonneg _ (by decide), Int.lt_trans (Int.emod_lt_of_pos _ (by decide)) (by decide)⟩
    · rintro σ H' ⟨rfl, m, c, rfl, h0, h1⟩
      refine ⟨.ref a, rfl, a, rfl, ⟨_, hS⟩, fun D hD => lc_list (xs := ns.map V.int) (fun i H2 => ∃ ts : List Int, H2 = upd H' D (.lst (ts.map V.int)) ∧ ts.length ≤ i ∧ ∀ t ∈ ts, 0 ≤ t) ⟨[], rfl, Nat.le_refl _, by simp⟩ (fun i H2 _ ⟨ts, e, _⟩ => by rw [e]; exact (same_upd hD).seq hS) ?_ ?_⟩
      · rintro i x H2 hx ⟨ts, rfl, hl, ht⟩
        obtain ⟨z, hz, rfl⟩ : ∃ z, ns[i]? = some z ∧ V.int z = x := by
          rw [List.getElem?_map] at hx
          cases e : ns[i]? with
          | none => rw [e] at hx; cases hx
          | some z => rw [e] at hx; exact ⟨z, rfl, Option.some.inj hx⟩
        have hi : i < ns.length := (List.getElem?_eq_some_iff.mp hz).1
        refine ⟨rfl, _, rfl, .inl ⟨_, rfl, _, rfl, _, _, rfl, rfl, ⟨by decide, by decide, by decide⟩, _, _, rfl, rfl, _, rfl, ite2 (fun e => ?_) (fun e => ?_)⟩⟩
        · refine ⟨_, rfl, .inl ⟨_, rfl, _, rfl, _, _, rfl, rfl, ⟨by decide, by decide, by decide⟩, _, _, rfl, rfl, _, upd_same, ?_, ts ++ [(if z < 0 then -z else z) - 10 ^ (18 : Int).toNat], ?_, ?_, ?_⟩⟩
          · rw [List.length_map]
            exact small1000 (by omega)
          · rw [upd_upd, List.map_append]
            rfl
          · rw [List.length_append]
            show ts.length + 1 ≤ i + 1
            omega
          · intro t hm
            rcases List.mem_append.mp hm with q | q
            · exact ht t q
            · rw [List.mem_singleton.mp q]
              have e2 := of_decide_eq_true e
              have e3 : ((10 : Int) ^ (18 : Int).toNat) = 1000000000000000000 := by decide
              rw [e3] at e2 ⊢
              omega
        · exact ⟨ts, rfl, by omega, ht⟩
      · rintro H2 ⟨ts, rfl, hl, ht⟩
        rw [List.length_map] at hl
        refine ⟨_, rfl, (by show 3 ≤ sizeLine; decide), fun p hp => ?_⟩
        have hpD : p ≠ D := fun e => by rw [e, upd_same] at hp; cases hp
        have hp0 : H' p = none := by rw [upd_ne hpD] at hp; exact hp
        refine k _ p D ((same_upd hD).trans (same_upd hp)) hp0 hD ⟨m, 0, ts, hpD, upd_same, by rw [upd_ne hpD.symm, upd_same], h0, h1, Int.le_refl _, Int.le_refl _, by omega, ht⟩

/-- a draw below many; all but the well's own two lists stands as it stood -/
def spDraw : Sp := fun vs H Q _ => ∃ (p q : Addr) (b : Nat) (many : Int), vs = [.ref p, .int many] ∧ WellAt q b H p ∧ 0 < many ∧ many < 1152921504606846976 ∧ b < 1000000 ∧
  ∀ (H' : Hp) (r : Int), 0 ≤ r → r < many → (∀ x o, H x = some o → x ≠ p → x ≠ q → H' x = some o) → WellAt q (b + 1) H' p → Q (.int r) H'
theorem scDraw : FnScope ["well", "many", "top"] ["well", "many"] (defScope sDraw) := ⟨rfl, rfl, rfl, by decide +kernel, rfl, by decide +kernel, by decide +kernel⟩
theorem dpInts {K : PySem.W.Frag} {H : Hp} : ∀ ts : List Int, DpAll K H (ts.map V.int) (ts.map PyData.int)
  | [] => .nil
  | t :: r => .cons (.int t) (dpInts r)
theorem ints_lay : ∀ ts : List Int, PyData.canLayAll0 (ts.map PyData.int) = true ∧ PyData.depthAll (ts.map PyData.int) ≤ 1
  | [] => by simp [PyData.canLayAll0, PyData.depthAll]
  | t :: r => by
    obtain ⟨h1, h2⟩ := ints_lay r
    simp only [List.map_cons, PyData.canLayAll0, PyData.depthAll, PyData.canLay0, PyData.depth, h1, Bool.and_self, true_and]
    omega
theorem ints_shaped (ts : List Int) : SeqAt.shaped (.list (ts.map PyData.int)) = true := by
  obtain ⟨h1, h2⟩ := ints_lay ts
  unfold SeqAt.shaped
  simp only [PyData.canLay0, PyData.depth, h1, Bool.true_and, decide_eq_true_eq]
  exact decide_eq_true (by omega)
theorem eqv_nil (t : Int) (r : List Int) : PyData.eqv (.list ((t :: r).map PyData.int)) (.list []) = false := by
  simp [PyData.eqv, PyData.eqvAll]
theorem six0 (n : Nat) : seqIndex? 0 (n + 1) = some 0 := by simp [seqIndex?]
theorem ix0 (n : Nat) : ixN (n + 1) 0 = some 0 := by
  unfold ixN
  rw [if_pos (by omega), if_pos (by omega)]
  rfl
theorem ok_draw {f : Addr} {fd : FuncData} (F : Fun K "_law_draw" "_law_draw" sDraw f fd) (mi : mg "int" = none) : FnOk P w K mg base CX0 1 f fd ["well", "many"] spDraw := by
  refine F.ok scDraw (fun vs H Q E h => ?_) (fun cdv A outer s H vs Q E hr h => ?_)
  · obtain ⟨p, q, b, many, rfl, _⟩ := h
    rfl
  · obtain ⟨p, q, b, many, rfl, ⟨m, c, ts, hpq, hp, hq, m0, m1, c0, cb, hl, ht⟩, hm0, hm1, hb, k⟩ := h
    refine ⟨_, pss_cons (ps_if (pt_cmpR (op_neD hr.units) (pe_ix ix_list (pv 0) pe_int (fun _ _ => rfl)) (pe_lst pa_nil) (nomark _))
        (pss_cons (ps_set (i := 2) scDraw.nd rfl (.inl rfl) (pe_callTy call_int1 (by rfl) mi (by decide +kernel) (pa_cons (pe_ix ix_list (pe_ix ix_list (pv 0) pe_int (fun _ _ => rfl)) pe_int (fun _ _ => rfl)) pa_nil)))
        (pss_cons (ps_if (pt_cmpR op_lt (pv 2) (pv 1) (nomark _))
          (pss_one (ps_expr (pe_bm PySem.F.plainAttrs_list PySem.F.slot_list_pop PySem.F.type_list_pop mt_popAt (pe_ix ix_list (pv 0) pe_int (fun _ _ => rfl)) (pa_cons pe_int pa_nil))))
          (pss_one (ps_asg (pe_op op_fdivW (pv 2) (pv 1)) (pg_sub (pe_ix ix_list (pv 0) pe_int (fun _ _ => rfl)) pe_int set_list))))
        (pss_one (ps_ret (pe_op op_mod (pe_callTy call_int1 (by rfl) mi (by decide +kernel) (pa_cons (pv 2) pa_nil)) (pv 1))))))
        pss_nil)
      (pss_cons (ps_asg (pe_op op_add (pe_ix ix_list (pv 0) pe_int (fun _ _ => rfl)) pe_int) (pg_sub (pv 0) pe_int set_list))
      (pss_cons (ps_asg (pe_op op_mod (pe_callTy call_int1 (by rfl) mi (by decide +kernel) (pa_cons (pe_op op_add (pe_op op_add (pe_op op_mul (pe_ix ix_list (pv 0) pe_int (fun _ _ => rfl)) pe_int)
          (pe_op op_mul (pe_op op_mul pe_int (pe_ix ix_list (pv 0) pe_int (fun _ _ => rfl))) (pe_ix ix_list (pv 0) pe_int (fun _ _ => rfl)))) pe_int) pa_nil)) pe_int) (pg_sub (pv 0) pe_int set_list))
      (pss_one (ps_ret (pe_op op_mod (pe_op op_fdiv (pe_op op_mod (pe_callTy call_int1 (by rfl) mi (by decide +kernel) (pa_cons (pe_op op_mul (pe_ix ix_list (pv 0) pe_int (fun _ _ => rfl)) (pe_ix ix_list (pv 0) pe_int (fun _ _ => rfl))) pa_nil)) pe_int) pe_int) (pv 1)))))), ?_⟩
    have hP : SqL K H p [.ref q, .int m, .int c] := SqL.of hp
    refine ⟨_, rfl, p, _, _, _, rfl, rfl, hP, atI_nat (j := 0) rfl, Nat.zero_le _, fun e he => ?_⟩
    have hpe : p ≠ e := ne_of_none hp he
    have hqe : q ≠ e := ne_of_none hq he
    have s1 : Same H (upd H e (.lst [])) := same_upd he
    refine ⟨.list (ts.map PyData.int), .list [], .lst (SqL.of (s1 _ _ hq)) (dpInts ts), .lst (SqL.of upd_same) .nil, ints_shaped ts, (by decide +kernel), _, rfl, ?_⟩
    cases ts with
    | nil =>
      have e0 : PyData.eqv (.list (([] : List Int).map PyData.int)) (.list []) = true := by decide +kernel
      rw [e0]
      refine iteF ?_
      have hP1 : SqL K (upd H e (.lst [])) p [.ref q, .int m, .int c] := SqL.of (s1 _ _ hp)
      refine ⟨_, rfl, p, _, _, _, rfl, rfl, hP1, atI_nat (j := 2) rfl, _, _, rfl, rfl, _, rfl, p, _, _, 2, rfl, rfl, s1 _ _ hp, rfl, ?_⟩
      have hP2 : SqL K (upd (upd H e (.lst [])) p (.lst [.ref q, .int m, .int (c + 1)])) p [.ref q, .int m, .int (c + 1)] := SqL.of upd_same
      refine ⟨_, rfl, p, _, _, _, rfl, rfl, hP2, atI_nat (j := 1) rfl, _, _, rfl, rfl, .inr ⟨by decide, by decide⟩, _, rfl, p, _, _, _, rfl, rfl, hP2, atI_nat (j := 2) rfl, _, _, rfl, rfl, .inl ⟨by decide, by decide⟩,
        _, rfl, p, _, _, _, rfl, rfl, hP2, atI_nat (j := 2) rfl, _, _, rfl, rfl, .inr ⟨by omega, by omega⟩, _, _, rfl, rfl, _, _, rfl, rfl, .inl ⟨_, rfl, _, _, rfl, rfl, (by show (0 : Int) < 2147483647; decide), _, rfl, p, _, _, 1, rfl, rfl, upd_same, rfl, ?_⟩⟩
      rw [upd_upd]
      have hP3 : SqL K (upd (upd H e (.lst [])) p (.lst [.ref q, .int ((m * 48271 + 30011 * (c + 1) * (c + 1) + 17) % 2147483647), .int (c + 1)])) p [.ref q, .int ((m * 48271 + 30011 * (c + 1) * (c + 1) + 17) % 2147483647), .int (c + 1)] := SqL.of upd_same
      refine ⟨_, rfl, p, _, _, _, rfl, rfl, hP3, atI_nat (j := 1) rfl, _, rfl, p, _, _, _, rfl, rfl, hP3, atI_nat (j := 1) rfl, _, _, rfl, rfl, .inl ⟨by omega, by omega⟩, .inl ⟨_, rfl, _, _, rfl, rfl, (by show (0 : Int) < 2147483629; decide), _, _, rfl, rfl, ⟨by decide, by decide⟩, _, rfl, _, _, rfl, rfl, hm0, ?_⟩⟩
      refine k _ _ (Int.emod_nonneg _ (by omega)) (Int.emod_lt_of_pos _ hm0) (fun x o hx h1 h2 => by rw [upd_ne h1]; exact s1 _ _ hx) ⟨((m * 48271 + 30011 * (c + 1) * (c + 1) + 17) % 2147483647), c + 1, [], hpq, upd_same, by rw [upd_ne hpq.symm]; exact s1 _ _ hq, by omega, by omega, by omega, by omega, by decide, by simp⟩
    | cons t r =>
      rw [eqv_nil]
      refine iteT ?_
      have hP1 : SqL K (upd H e (.lst [])) p [.ref q, .int m, .int c] := SqL.of (s1 _ _ hp)
      have hQ1 : SqL K (upd H e (.lst [])) q ((t :: r).map V.int) := SqL.of (s1 _ _ hq)
      have t0 : 0 ≤ t := ht t List.mem_cons_self
      have hl' : r.length + 1 ≤ 63 := hl
      refine ⟨_, rfl, p, _, _, _, rfl, rfl, hP1, atI_nat (j := 0) rfl, q, _, _, _, rfl, rfl, hQ1, atI_nat (j := 0) rfl, .inl ⟨_, rfl, ?_⟩⟩
      refine ⟨_, rfl, _, rfl, _, _, rfl, rfl, _, rfl, ite2 (fun e1 => ?_) (fun e1 => ?_)⟩
      · refine ⟨_, rfl, p, _, _, _, rfl, rfl, hP1, atI_nat (j := 0) rfl, .inl ⟨rfl, _, hQ1⟩, q, _, 0, 0, _, rfl, rfl, s1 _ _ hq, by decide, by decide, by rw [List.length_map]; exact six0 _, rfl, ?_⟩
        refine ⟨_, rfl, .inl ⟨_, rfl, _, rfl, _, _, rfl, rfl, hm0, ?_⟩⟩
        refine k _ _ (Int.emod_nonneg _ (by omega)) (Int.emod_lt_of_pos _ hm0) (fun x o hx h1 h2 => by rw [upd_ne h2]; exact s1 _ _ hx) ⟨m, c, r, hpq, by rw [upd_ne hpq]; exact s1 _ _ hp, by rw [upd_same]; rfl, m0, m1, c0, by omega, by omega, fun x hx => ht x (List.mem_cons_of_mem _ hx)⟩
      · refine ⟨_, rfl, _, rfl, _, _, rfl, rfl, wide_div (b := 60) hm0 (by omega) (by decide) (by decide), _, rfl, p, _, _, _, rfl, rfl, hP1, atI_nat (j := 0) rfl, q, _, _, 0, rfl, rfl, s1 _ _ hq, by rw [List.length_map]; exact ix0 _, ?_⟩
        refine ⟨_, rfl, .inl ⟨_, rfl, _, rfl, _, _, rfl, rfl, hm0, ?_⟩⟩
        refine k _ _ (Int.emod_nonneg _ (by omega)) (Int.emod_lt_of_pos _ hm0) (fun x o hx h1 h2 => by rw [upd_ne h2]; exact s1 _ _ hx) ⟨m, c, t / many :: r, hpq, by rw [upd_ne hpq]; exact s1 _ _ hp, by rw [upd_same]; rfl, m0, m1, c0, by omega, hl, fun x hx => ?_⟩
        rcases List.mem_cons.mp hx with z | z
        · rw [z]; exact Int.ediv_nonneg t0 (Int.le_of_lt hm0)
        · exact ht x (List.mem_cons_of_mem _ z)
end
end JF
set_option Elab.async false
set_option linter.all false
set_option maxRecDepth 100000
set_option maxHeartbeats 4000000
namespace JF
open PySem PySem.Spec PyProof.Rows L2 GxR GA
/-- the built-in names that the text does not store -/
structure BI (mg : Str → Option Value) : Prop where
  type : mg "type" = none
  int : mg "int" = none
  str : mg "str" = none
  tuple : mg "tuple" = none
  len : mg "len" = none
  all : mg "all" = none
  any : mg "any" = none
abbrev sIsInteger : Stmt := topS 13
abbrev sIsNumber : Stmt := topS 14
abbrev sCell : Stmt := topS 15
abbrev sName : Stmt := topS 16
abbrev sHigh : Stmt := topS 17
abbrev sField : Stmt := topS 18
/-! ### what they tell -/
def isI (lo hi : Int) : PyData → Bool
  | .int i => decide (lo ≤ i) && decide (i ≤ hi)
  | _ => false
def spInt (K : PySem.W.Frag) : Sp := fun vs H Q _ => ∃ (v : V) (d : PyData) (lo hi : Int), vs = [v, .int lo, .int hi] ∧ Rp K H v d ∧ Q (.bl (isI lo hi d)) H
/-- a def of one datum that tells a truth -/
def spIs (K : PySem.W.Frag) (T : List Addr) (f : PyData → Bool) : Sp := fun vs H Q _ => ∃ (v : V) (d : PyData), vs = [v] ∧ Rp K H v d ∧ TbOk T H ∧ ∀ H', Ex T H H' → Q (.bl (f d)) H'
def isNumber : PyData → Bool := isI (-1000000000000) 1000000000000
def isRegister : PyData → Bool := isI 0 31
def isNext : PyData → Bool := isI 0 59
section
variable {P : Program} {w : World} {K : PySem.W.Frag} {mg : Str → Option Value} {base : Heap} {T : List Addr}
theorem scInteger : FnScope ["thing", "low", "high"] ["thing", "low", "high"] (defScope sIsInteger) := ⟨rfl, rfl, rfl, by decide +kernel, rfl, by decide +kernel, by decide +kernel⟩
theorem ok_integer {f : Addr} {fd : FuncData} (F : Fun K "is_integer" "is_integer" sIsInteger f fd) (B : BI mg) : FnOk P w K mg base CX0 1 f fd ["thing", "low", "high"] (spInt K) := by
  refine F.ok scInteger (fun vs H Q E h => ?_) (fun cdv A outer s H vs Q E hr h => ?_)
  · obtain ⟨v, d, lo, hi, rfl, _⟩ := h
    rfl
  · obtain ⟨v, d, lo, hi, rfl, r, k⟩ := h
    refine ⟨_, pss_one (ps_ret (pe_and (pe_cmpR op_isTy (pe_callTy call_type1 (by rfl) B.type (by decide +kernel) (pa_cons (pv 0) pa_nil)) (pe_bltn (v := .ty "int") (by rfl) B.int (by decide +kernel) rfl) (nomark _))
      (pe_one (pe_chain op_le op_le (pv 1) (pv 0) (pv 2))))), ?_⟩
    refine ⟨v, rfl, v, tyN d, rfl, r.ty, _, _, rfl, rfl, _, rfl, ite2 (fun e => ?_) (fun e => ?_)⟩
    · cases r with
      | int i =>
        refine ⟨_, rfl, _, rfl, _, _, rfl, rfl, _, rfl, ite2 (fun e1 => ?_) (fun e1 => ?_)⟩
        · refine ⟨_, rfl, _, _, rfl, rfl, ?_⟩
          have e2 : isI lo hi (.int i) = decide (i ≤ hi) := by simp [isI, of_decide_eq_true e1]
          show Q (.bl (decide (i ≤ hi))) H
          rw [← e2]
          exact k
        · have e2 : isI lo hi (.int i) = false := by
            have e3 : ¬ lo ≤ i := fun z => e1 (decide_eq_true z)
            simp [isI, e3]
          show Q (.bl false) H
          rw [← e2]
          exact k
      | non => exact absurd (of_decide_eq_true e) (by simp [tyN])
      | bl b => exact absurd (of_decide_eq_true e) (by simp [tyN])
      | str x _ => exact absurd (of_decide_eq_true e) (by simp [tyN])
      | lst h q => exact absurd (of_decide_eq_true e) (by simp [tyN])
      | tup h q => exact absurd (of_decide_eq_true e) (by simp [tyN])
      | dic h => exact absurd (of_decide_eq_true e) (by simp [tyN])
    · have e2 : isI lo hi d = false := by
        cases d <;> first | rfl | exact absurd (decide_eq_true (by rfl)) e
      show Q (.bl false) H
      rw [← e2]
      exact k
theorem scNumber : FnScope ["thing"] ["thing"] (defScope sIsNumber) := ⟨rfl, rfl, rfl, by decide +kernel, rfl, by decide +kernel, by decide +kernel⟩
theorem ok_number {f g : Addr} {fd gd : FuncData} {t : Tok} (F : Fun K "is_number" "is_number" sIsNumber f fd) (G : FnOk P w K mg base CX0 1 g gd ["thing", "low", "high"] (spInt K)) (mG : mg "is_integer" = some (.ref g)) (kG : PySem.W.keepIn K (.ref g) = true) (bG : Binds K gd ["thing", "low", "high"] [])
    (mN : mg "GREATEST_NUMBER" = some (.int 1000000000000 t)) : FnOk P w K mg base CX0 2 f fd ["thing"] (spIs K T isNumber) := by
  refine F.ok scNumber (fun vs H Q E h => ?_) (fun cdv A outer s H vs Q E hr h => ?_)
  · obtain ⟨v, d, rfl, _⟩ := h
    rfl
  · obtain ⟨v, d, rfl, r, tb, k⟩ := h
    refine ⟨_, pss_one (ps_ret (pe_call G hr rfl mG kG bG .nil pass0 (pa_cons (pv 0) (pa_cons (pe_un un_neg (pe_glob (v := .int 1000000000000) rfl mN ⟨_, rfl⟩)) (pa_cons (pe_glob (v := .int 1000000000000) rfl mN ⟨_, rfl⟩) pa_nil))))), ?_⟩
    exact ⟨v, rfl, _, rfl, v, d, _, _, rfl, r, k _ Ex.refl⟩
/-! ### names -/
def digit (c : Nat) : Bool := decide (c ∈ (Str.ofString "0123456789").cps.toList)
def nameSign (c : Nat) : Bool := decide (c ∈ (Str.ofString "abcdefghijklmnopqrstuvwxyzABCDEFGHIJKLMNOPQRSTUVWXYZ0123456789").cps.toList)
/-- r or t, and figures alone behind -/
def asCell (z : Str) : Bool := match z.cps.toList with
  | [] => false
  | c :: r => decide (c ∈ (Str.ofString "rt").cps.toList) && r.all digit
theorem cut_tail (z : Str) : (cutS z (some 1) none).cps.toList = z.cps.toList.drop 1 := by
  unfold cutS
  rw [show HT.sIx z.length 0 (some 1) = min 1 z.length from HT.sIx_nat z.length 0 1, HT.sIx_none]
  have hl : z.length = z.cps.toList.length := by simp [Str.length]
  show ((z.cps.toList.drop (min 1 z.length)).take (z.length - min 1 z.length)) = z.cps.toList.drop 1
  rw [hl]
  cases z.cps.toList with
  | nil => rfl
  | cons c r =>
    have e1 : min 1 (c :: r).length = 1 := by rw [List.length_cons]; omega
    rw [e1]
    show List.take ((c :: r).length - 1) r = r
    rw [List.length_cons, Nat.add_sub_cancel]
    exact List.take_length
theorem scCell : FnScope ["name", "sign"] ["name"] (defScope sCell) := ⟨rfl, rfl, rfl, by decide +kernel, rfl, by decide +kernel, by decide +kernel⟩
def spCellN (T : List Addr) : Sp := fun vs H Q _ => ∃ (z : Str), vs = [.str z] ∧ 0 < z.length ∧ z.length ≤ 1000 ∧ TbOk T H ∧ ∀ H', Ex T H H' → Q (.bl (asCell z)) H'
theorem ok_cell {f c Pt : Addr} {fd : FuncData} {t : Tok} (F : FunC K "reads_as_cell" "reads_as_cell" sCell f fd c) (B : BI mg) (TB : TabB base mg c Pt) (hT : Pt ∈ T) (mD : mg "DIGITS" = some (.str "0123456789" t)) :
    FnOk P w K mg base CX0 3 f fd ["name"] (spCellN T) := by
  refine F.ok scCell (fun vs H Q E h => ?_) (fun A outer s H vs Q E hr h => ?_)
  · obtain ⟨z, rfl, _⟩ := h
    rfl
  · obtain ⟨z, rfl, hz, hz2, tb, k⟩ := h
    refine ⟨_, pss_one (ps_ret (pe_and (pe_cmpR op_in_sign (pe_item_str (pv 0) pe_int (fun _ _ => rfl)) pe_str rfl)
      (pe_one (pe_allG (own := [("sign", 1)]) (g := gName 1) (k := 1) hr rfl B.all rfl scCell.nd TB rfl (pi_str (pe_slice sl_str (pv 0) (po_some pe_int) po_none)) (blkOk_by (N := ["name", "sign"]) (sc := defScope sCell) (by decide +kernel)) (by decide +kernel) rfl (by decide +kernel)
        (fun _ _ _ _ _ _ _ _ => pg_name (i := 1) scCell.nd rfl (.inl rfl))
        (fun _ _ _ _ _ _ _ _ => pe_cmpR op_in_sign (pv 1) (pe_glob (v := .str "0123456789") rfl mD ⟨_, rfl⟩) rfl))))), ?_⟩
    obtain ⟨c0, r0, e0⟩ : ∃ c0 r0, z.cps.toList = c0 :: r0 := by
      cases q : z.cps.toList with
      | nil => exact absurd (show 0 < z.cps.toList.length by simpa [Str.length] using hz) (by rw [q]; simp)
      | cons c0 r0 => exact ⟨c0, r0, rfl⟩
    have hc0 : z.cps[(0 : Int).toNat]? = some c0 := by
      have : z.cps.toList[0]? = some c0 := by rw [e0]; rfl
      simpa using this
    have hzi : (0 : Int) < z.length := by exact_mod_cast hz
    refine ⟨_, rfl, z, 0, c0, rfl, rfl, Int.le_refl _, by decide, hzi, hc0, c0, _, rfl, rfl, _, rfl, ite2 (fun e => ?_) (fun e => ?_)⟩
    · refine ⟨_, rfl, 1, rfl, z, rfl, Nat.le_trans hz2 (by decide), _, rfl, tb Pt hT, fun H2 ht => ?_⟩
      have x2 : Ex T H H2 := Ex.tabbed hT ht
      refine gen_signs (T := T) _ digit (fun c1 H3 x3 Q' hq => ⟨rfl, _, rfl, c1, _, rfl, rfl, hq _ x3⟩) (fun H3 x3 => ?_)
      have e2 : genR false (cutS z (some 1) none).cps.toList digit = asCell z := by
        have e3 : (cutS z (some 1) none).cps.toList = r0 := by
          rw [cut_tail, e0]
          rfl
        rw [e3]
        unfold asCell
        rw [e0]
        show _ = (decide (c0 ∈ (Str.ofString "rt").cps.toList) && r0.all digit)
        rw [e]
        rfl
      show Q (.bl (genR false (cutS z (some 1) none).cps.toList digit)) H3
      rw [e2]
      exact k _ (x2.trans x3)
    · have e2 : asCell z = false := by
        unfold asCell
        rw [e0]
        show (decide (c0 ∈ (Str.ofString "rt").cps.toList) && r0.all digit) = false
        cases q : decide (c0 ∈ (Str.ofString "rt").cps.toList) with
        | true => exact absurd q e
        | false => rfl
      show Q (.bl false) H
      rw [← e2]
      exact k _ Ex.refl

def wordsV : List V := (["case", "drop", "entry", "free", "fun", "give", "hold", "in", "into", "kind", "number"] : List Str).map V.str
def firstIn (fs z : Str) : Bool := match z.cps.toList with
  | [] => false
  | c :: _ => decide (c ∈ fs.cps.toList)
/-- a name that begins with one of the signs -/
def isName (fs : Str) : PyData → Bool
  | .str z => (decide (1 ≤ z.length) && decide (z.length ≤ 10)) && (firstIn fs z && z.cps.toList.all nameSign) && (!inV (.str z) wordsV && !asCell z)
  | _ => false
def spName (K : PySem.W.Frag) (T : List Addr) : Sp := fun vs H Q _ => ∃ (v : V) (d : PyData) (fs : Str), vs = [v, .str fs] ∧ Rp K H v d ∧ TbOk T H ∧ ∀ H', Ex T H H' → Q (.bl (isName fs d)) H'
theorem scName : FnScope ["thing", "first_signs", "sign"] ["thing", "first_signs"] (defScope sName) := ⟨rfl, rfl, rfl, by decide +kernel, rfl, by decide +kernel, by decide +kernel⟩
theorem ok_name {f c Pt g pW : Addr} {fd gd : FuncData} {t : Tok} (F : FunC K "is_name" "is_name" sName f fd c) (B : BI mg) (TB : TabB base mg c Pt) (hT : Pt ∈ T) (mS : mg "NAME_SIGNS" = some (.str "abcdefghijklmnopqrstuvwxyzABCDEFGHIJKLMNOPQRSTUVWXYZ0123456789" t))
    (mW : mg "WORDS" = some (.ref pW)) (hW : ∀ H, SqT K H pW wordsV)
    (G : FnOk P w K mg base CX0 3 g gd ["name"] (spCellN T)) (mG : mg "reads_as_cell" = some (.ref g)) (kG : PySem.W.keepIn K (.ref g) = true) (bG : Binds K gd ["name"] []) :
    FnOk P w K mg base CX0 4 f fd ["thing", "first_signs"] (spName K T) := by
  refine F.ok scName (fun vs H Q E h => ?_) (fun A outer s H vs Q E hr h => ?_)
  · obtain ⟨v, d, fs, rfl, _⟩ := h
    rfl
  · obtain ⟨v, d, fs, rfl, r, tb, k⟩ := h
    refine ⟨_, pss_cons (ps_if (PW.pt (pw_or (pt_cmpR op_notTyB (pe_callTy call_type1 (by rfl) B.type (by decide +kernel) (pa_cons (pv 0) pa_nil)) (pe_bltn (v := .ty "str") (by rfl) B.str (by decide +kernel) rfl) (nomark _))
        (pw_or1 (pt_not (pt_chain op_le op_le pe_int (pe_callB call_len_str (by rfl) B.len PySem.boot_len (pa_cons (pv 0) pa_nil)) pe_int))))) (pss_one (ps_ret pe_bl)) pss_nil)
      (pss_cons (ps_if (PW.pt (pw_or (pt_cmpR op_notIn_sign (pe_item_str (pv 0) pe_int (fun _ _ => rfl)) (pv 1) rfl)
        (pw_or1 (pt_val (pe_anyG (own := [("sign", 2)]) (g := gName 2) (k := 2) hr rfl B.any rfl scName.nd TB rfl (pi_str (pv 0)) (blkOk_by (N := ["thing", "first_signs", "sign"]) (sc := defScope sName) (by decide +kernel)) (by decide +kernel) rfl (by decide +kernel)
          (fun _ _ _ _ _ _ _ _ => pg_name (i := 2) scName.nd rfl (.inl rfl))
          (fun _ _ _ _ _ _ _ _ => pe_cmpR op_notIn_sign (pv 2) (pe_glob (v := .str "abcdefghijklmnopqrstuvwxyzABCDEFGHIJKLMNOPQRSTUVWXYZ0123456789") rfl mS ⟨_, rfl⟩) rfl)))))) (pss_one (ps_ret pe_bl)) pss_nil)
      (pss_one (ps_ret (pe_and (pe_cmpR op_notIn_seq (pv 0) (pe_glob (v := .ref pW) rfl mW rfl) rfl) (pe_one (pe_not (pe_call G hr rfl mG kG bG .nil pass0 (pa_cons (pv 0) pa_nil)))))))), ?_⟩
    refine ⟨v, rfl, v, tyN d, rfl, r.ty, _, _, rfl, rfl, _, rfl, ite2 (fun e => ?_) (fun e => ?_)⟩
    · refine iteT ?_
      have e2 : isName fs d = false := by
        cases d <;> first | rfl | exact absurd e (by simp [tyN])
      show Q (.bl false) H
      rw [← e2]
      exact k _ Ex.refl
    · cases r with
      | str z hz =>
        have hzl : z.length ≤ sizeLine := Nat.le_trans hz (by decide)
        have cut : ∀ b : Bool, (decide (1 ≤ z.length) && decide (z.length ≤ 10)) = b → isName fs (.str z) = (b && (firstIn fs z && z.cps.toList.all nameSign) && (!inV (.str z) wordsV && !asCell z)) := fun b hb => by
          show ((decide (1 ≤ z.length) && decide (z.length ≤ 10)) && (firstIn fs z && z.cps.toList.all nameSign) && (!inV (.str z) wordsV && !asCell z)) = _
          rw [hb]
        have no : (decide (1 ≤ z.length) && decide (z.length ≤ 10)) = false → Q (.bl false) H := fun hb => by
          have := k H Ex.refl
          rw [cut _ hb] at this
          exact this
        refine ⟨_, rfl, z, rfl, hzl, _, _, rfl, rfl, _, rfl, ite2 (fun e1 => ?_) (fun e1 => ?_)⟩
        · refine ⟨_, _, rfl, rfl, _, rfl, ?_⟩
          have g1 : 1 ≤ z.length := by have := of_decide_eq_true e1; omega
          show if (!decide ((z.length : Int) ≤ 10)) = true then _ else _
          cases e2 : decide ((z.length : Int) ≤ 10) with
          | false =>
            refine iteT ?_
            refine no ?_
            have : ¬ z.length ≤ 10 := fun q => by
              have h2 : (z.length : Int) ≤ 10 := by omega
              rw [decide_eq_true h2] at e2; cases e2
            rw [decide_eq_false this, Bool.and_false]
          | true =>
            refine iteF ?_
            have g2 : z.length ≤ 10 := by have := of_decide_eq_true e2; omega
            have g0 : (decide (1 ≤ z.length) && decide (z.length ≤ 10)) = true := by rw [decide_eq_true g1, decide_eq_true g2]; rfl
            obtain ⟨c0, r0, e0⟩ : ∃ c0 r0, z.cps.toList = c0 :: r0 := by
              cases q : z.cps.toList with
              | nil => exact absurd (show 1 ≤ z.cps.toList.length by simpa [Str.length] using g1) (by rw [q]; simp)
              | cons c0 r0 => exact ⟨c0, r0, rfl⟩
            have hc0 : z.cps[(0 : Int).toNat]? = some c0 := by
              have : z.cps.toList[0]? = some c0 := by rw [e0]; rfl
              simpa using this
            have hzi : (0 : Int) < z.length := by exact_mod_cast g1
            have hf : firstIn fs z = decide (c0 ∈ fs.cps.toList) := by unfold firstIn; rw [e0]
            refine ⟨_, rfl, z, 0, c0, rfl, rfl, Int.le_refl _, by decide, hzi, hc0, _, rfl, c0, fs, rfl, rfl, _, rfl, ?_⟩
            cases e3 : decide (c0 ∈ fs.cps.toList) with
            | false =>
              refine iteT (iteT ?_)
              have := k H Ex.refl
              rw [cut _ g0, hf, e3] at this
              exact this
            | true =>
              refine iteF ⟨_, rfl, z, rfl, tb Pt hT, fun H2 ht => ?_⟩
              have x2 : Ex T H H2 := Ex.tabbed hT ht
              refine gen_signs (T := T) z (fun c => !nameSign c) (fun c1 H3 x3 Q' hq => ⟨rfl, _, rfl, c1, _, rfl, rfl, hq _ x3⟩) (fun H3 x3 => ⟨_, rfl, ?_⟩)
              have ea : genR true z.cps.toList (fun c => !nameSign c) = !(z.cps.toList.all nameSign) := by
                show z.cps.toList.any (fun c => !nameSign c) = _
                rw [List.not_all_eq_any_not]
              rw [ea]
              cases e4 : z.cps.toList.all nameSign with
              | false =>
                refine iteT ?_
                have := k H3 (x2.trans x3)
                rw [cut _ g0, hf, e3, e4] at this
                exact this
              | true =>
                refine iteF ?_
                have hk : isName fs (.str z) = (!inV (.str z) wordsV && !asCell z) := by
                  rw [cut _ g0, hf, e3, e4]
                  simp
                refine ⟨_, rfl, pW, wordsV, rfl, .inr (hW _), rfl, rfl, _, rfl, ?_⟩
                show if (!inV (V.str z) wordsV) = true then _ else _
                cases e5 : inV (V.str z) wordsV with
                | true =>
                  refine iteF ?_
                  have := k H3 (x2.trans x3)
                  rw [hk, e5] at this
                  exact this
                | false =>
                  refine iteT ⟨_, rfl, z, rfl, g1, by omega, (x2.trans x3).tb tb, fun H4 x4 => ⟨_, rfl, ?_⟩⟩
                  have := k H4 ((x2.trans x3).trans x4)
                  rw [hk, e5] at this
                  exact this
        · refine ⟨_, rfl, iteT (no ?_)⟩
          have : ¬ 1 ≤ z.length := fun q => e1 (decide_eq_true (by omega))
          rw [decide_eq_false this, Bool.false_and]
      | non => exact absurd (by simp [tyN]) e
      | bl b => exact absurd (by simp [tyN]) e
      | int x => exact absurd (by simp [tyN]) e
      | lst h q => exact absurd (by simp [tyN]) e
      | tup h q => exact absurd (by simp [tyN]) e
      | dic h => exact absurd (by simp [tyN]) e

abbrev lowSigns : Str := "abcdefghijklmnopqrstuvwxyz"
abbrev highSigns : Str := "ABCDEFGHIJKLMNOPQRSTUVWXYZ"

theorem scHigh : FnScope ["thing"] ["thing"] (defScope sHigh) := ⟨rfl, rfl, rfl, by decide +kernel, rfl, by decide +kernel, by decide +kernel⟩
theorem ok_high {f g : Addr} {fd gd : FuncData} {t : Tok} (F : Fun K "is_high_name" "is_high_name" sHigh f fd) (G : FnOk P w K mg base CX0 4 g gd ["thing", "first_signs"] (spName K T)) (mG : mg "is_name" = some (.ref g)) (kG : PySem.W.keepIn K (.ref g) = true) (bG : Binds K gd ["thing", "first_signs"] [])
    (mS : mg "CAPITAL_LETTERS" = some (.str highSigns t)) : FnOk P w K mg base CX0 5 f fd ["thing"] (spIs K T (isName highSigns)) := by
  refine F.ok scHigh (fun vs H Q E h => ?_) (fun cdv A outer s H vs Q E hr h => ?_)
  · obtain ⟨v, d, rfl, _⟩ := h
    rfl
  · obtain ⟨v, d, rfl, r, tb, k⟩ := h
    refine ⟨_, pss_one (ps_ret (pe_call G hr rfl mG kG bG .nil pass0 (pa_cons (pv 0) (pa_cons (pe_glob (v := .str highSigns) rfl mS ⟨_, rfl⟩) pa_nil)))), ?_⟩
    exact ⟨v, rfl, v, d, _, rfl, r, tb, k⟩

def isHigh : PyData → Bool := isName highSigns
def isLow : PyData → Bool := isName lowSigns
/-- a field's word -/
def isField (d : PyData) : Bool := isHigh d || (match d with | .str z => decide (z = "number") | _ => false)
theorem scField : FnScope ["thing"] ["thing"] (defScope sField) := ⟨rfl, rfl, rfl, by decide +kernel, rfl, by decide +kernel, by decide +kernel⟩
theorem ok_field {f g : Addr} {fd gd : FuncData} (F : Fun K "is_field_word" "is_field_word" sField f fd) (B : BI mg) (G : FnOk P w K mg base CX0 5 g gd ["thing"] (spIs K T isHigh)) (mG : mg "is_high_name" = some (.ref g)) (kG : PySem.W.keepIn K (.ref g) = true) (bG : Binds K gd ["thing"] []) :
    FnOk P w K mg base CX0 6 f fd ["thing"] (spIs K T isField) := by
  refine F.ok scField (fun vs H Q E h => ?_) (fun cdv A outer s H vs Q E hr h => ?_)
  · obtain ⟨v, d, rfl, _⟩ := h
    rfl
  · obtain ⟨v, d, rfl, r, tb, k⟩ := h
    refine ⟨_, pss_one (ps_ret (pe_or (pe_call G hr rfl mG kG bG .nil pass0 (pa_cons (pv 0) pa_nil)) (pe_one (pe_and (pe_cmpR op_isTyB (pe_callTy call_type1 (by rfl) B.type (by decide +kernel) (pa_cons (pv 0) pa_nil)) (pe_bltn (v := .ty "str") (by rfl) B.str (by decide +kernel) rfl) (nomark _))
      (pe_one (pe_cmpR op_eq (pv 0) pe_str (nomark _))))))), ?_⟩
    refine ⟨v, rfl, v, d, rfl, r, tb, fun H1 x1 => ⟨_, rfl, ?_⟩⟩
    cases e : isHigh d with
    | true =>
      refine iteT ?_
      have := k H1 x1
      unfold isField at this
      rw [e] at this
      exact this
    | false =>
      refine iteF ⟨v, rfl, v, tyN d, rfl, (r.ex x1 tb).ty, _, _, rfl, rfl, _, rfl, ite2 (fun e1 => ?_) (fun e1 => ?_)⟩
      · cases r with
        | str z hz =>
          refine ⟨_, rfl, rfl, ?_⟩
          have := k H1 x1
          unfold isField at this
          rw [e] at this
          have e2 : decide (V.str z = V.str "number") = decide (z = "number") := by
            by_cases q : z = "number"
            · rw [decide_eq_true q, q]; exact decide_eq_true rfl
            · rw [decide_eq_false q]; exact decide_eq_false fun h => q (V.str.inj h)
          show Q (.bl (decide (V.str z = V.str "number"))) H1
          rw [e2]
          exact this
        | non => exact absurd (of_decide_eq_true e1) (by simp [tyN])
        | bl b => exact absurd (of_decide_eq_true e1) (by simp [tyN])
        | int x => exact absurd (of_decide_eq_true e1) (by simp [tyN])
        | lst h q => exact absurd (of_decide_eq_true e1) (by simp [tyN])
        | tup h q => exact absurd (of_decide_eq_true e1) (by simp [tyN])
        | dic h => exact absurd (of_decide_eq_true e1) (by simp [tyN])
      · have := k H1 x1
        have e2 : isField d = false := by
          unfold isField
          rw [e]
          cases d <;> first | rfl | exact absurd (decide_eq_true (by simp [tyN])) e1
        rw [e2] at this
        exact this
end
end JF
set_option Elab.async false
set_option linter.all false
set_option maxRecDepth 100000
set_option maxHeartbeats 4000000
namespace JF
open PySem PySem.Spec PyProof.Rows L2 GxR GA
abbrev sTupleOf : Stmt := topS 19
abbrev sPair : Stmt := topS 20
/-- a def that tells a truth of each datum of D -/
def spIsD (K : PySem.W.Frag) (T : List Addr) (D : PyData → Prop) (f : PyData → Bool) : Sp := fun vs H Q _ => ∃ (v : V) (d : PyData), vs = [v] ∧ Rp K H v d ∧ D d ∧ TbOk T H ∧ ∀ H', Ex T H H' → Q (.bl (f d)) H'
/-- the def at g may be called so -/
structure IsDef (P : Program) (w : World) (K : PySem.W.Frag) (mg : Str → Option Value) (base : Heap) (T : List Addr) (k : Nat) (g : Addr) (D : PyData → Prop) (f : PyData → Bool) : Prop where
  ex : ∃ (gd : FuncData) (p : Str), FnOk P w K mg base CX0 k g gd [p] (spIsD K T D f) ∧ PySem.W.keepIn K (.ref g) = true ∧ Binds K gd [p] []
theorem spIs_D {P : Program} {w : World} {K : PySem.W.Frag} {mg : Str → Option Value} {base : Heap} {T : List Addr} {k : Nat} {g : Addr} {gd : FuncData} {ps : List Str} {D : PyData → Prop} {f : PyData → Bool} (G : FnOk P w K mg base CX0 k g gd ps (spIs K T f)) : FnOk P w K mg base CX0 k g gd ps (spIsD K T D f) :=
  G.imp fun vs H Q E ⟨v, d, e, r, _, tb, q⟩ => ⟨v, d, e, r, tb, q⟩
theorem spD_is {P : Program} {w : World} {K : PySem.W.Frag} {mg : Str → Option Value} {base : Heap} {T : List Addr} {k : Nat} {g : Addr} {gd : FuncData} {ps : List Str} {f : PyData → Bool} (G : FnOk P w K mg base CX0 k g gd ps (spIsD K T (fun _ => True) f)) : FnOk P w K mg base CX0 k g gd ps (spIs K T f) :=
  G.imp fun vs H Q E ⟨v, d, e, r, tb, q⟩ => ⟨v, d, e, r, trivial, tb, q⟩
/-- a tuple of least to most entries all of which fit -/
def isTup (lo hi : Int) (f : PyData → Bool) : PyData → Bool
  | .tuple ds => (decide (lo ≤ (ds.length : Int)) && decide ((ds.length : Int) ≤ hi)) && ds.all f
  | _ => false
def inTup (D : PyData → Prop) : PyData → Prop
  | .tuple ds => ∀ d ∈ ds, D d
  | _ => True
def spTupleOf (P : Program) (w : World) (K : PySem.W.Frag) (mg : Str → Option Value) (base : Heap) (T : List Addr) (k : Nat) : Sp := fun vs H Q _ => ∃ (v : V) (d : PyData) (lo hi : Int) (g : Addr) (D : PyData → Prop) (f : PyData → Bool), vs = [v, .int lo, .int hi, .ref g] ∧ Rp K H v d ∧ inTup D d ∧
  IsDef P w K mg base T k g D f ∧ TbOk T H ∧ ∀ H', Ex T H H' → Q (.bl (isTup lo hi f d)) H'
section
variable {P : Program} {w : World} {K : PySem.W.Frag} {mg : Str → Option Value} {base : Heap} {T : List Addr}
theorem scTupleOf : FnScope ["thing", "least", "most", "fits", "part"] ["thing", "least", "most", "fits"] (defScope sTupleOf) := ⟨rfl, rfl, rfl, by decide +kernel, rfl, by decide +kernel, by decide +kernel⟩
theorem ok_tuple_of {f c Pt : Addr} {fd : FuncData} (k : Nat) (F : FunC K "is_tuple_of" "is_tuple_of" sTupleOf f fd c) (B : BI mg) (TB : TabB base mg c Pt) (hT : Pt ∈ T) :
    FnOk P w K mg base CX0 (k + 2) f fd ["thing", "least", "most", "fits"] (spTupleOf P w K mg base T k) := by
  refine F.ok scTupleOf (fun vs H Q E h => ?_) (fun A outer s H vs Q E hr h => ?_)
  · obtain ⟨v, d, lo, hi, g, D, f, rfl, _⟩ := h
    rfl
  · obtain ⟨v, d, lo, hi, g, D, ff, rfl, r, inD, ⟨gd, p, G, kG, bG⟩, tb, q⟩ := h
    refine ⟨_, pss_one (ps_ret (pe_and (pe_cmpR op_isTyB (pe_callTy call_type1 (by rfl) B.type (by decide +kernel) (pa_cons (pv 0) pa_nil)) (pe_bltn (v := .ty "tuple") (by rfl) B.tuple (by decide +kernel) rfl) (nomark _))
      (pe_and (pe_chain op_le op_le (pv 1) (pe_callB call_len_seq (by rfl) B.len PySem.boot_len (pa_cons (pv 0) pa_nil)) (pv 2))
      (pe_one (pe_allG (own := [("part", 4)]) (g := gName 4) (k := k) hr rfl B.all rfl scTupleOf.nd TB rfl (pi_tup (pv 0)) (blkOk_by (N := ["thing", "least", "most", "fits", "part"]) (sc := defScope sTupleOf) (by decide +kernel)) (by decide +kernel) rfl (by decide +kernel)
        (fun _ _ _ _ _ _ _ _ => pg_name (i := 4) scTupleOf.nd rfl (.inl rfl))
        (fun _ _ _ _ _ _ _ hr2 => pe_callL (i := 3) G hr2 rfl (.inr (.inr rfl)) kG bG .nil pass0 (pa_cons (pv 4) pa_nil))))))), ?_⟩
    refine ⟨v, rfl, v, tyN d, rfl, r.ty, _, _, rfl, rfl, _, rfl, ite2 (fun e => ?_) (fun e => ?_)⟩
    · cases r with
      | @tup a xs ds hs rs =>
        have hl := rs.len
        have cut : ∀ b : Bool, (decide (lo ≤ (ds.length : Int)) && decide ((ds.length : Int) ≤ hi)) = b → isTup lo hi ff (.tuple ds) = (b && ds.all ff) := fun b hb => by
          show ((decide (lo ≤ (ds.length : Int)) && decide ((ds.length : Int) ≤ hi)) && ds.all ff) = _
          rw [hb]
        refine ⟨_, rfl, _, rfl, a, xs, rfl, .inr hs, _, _, rfl, rfl, _, rfl, ite2 (fun e1 => ?_) (fun e1 => ?_)⟩
        · refine ⟨_, rfl, _, _, rfl, rfl, _, rfl, ?_⟩
          rw [hl] at e1
          have g1 := e1
          show if decide ((xs.length : Int) ≤ hi) = true then _ else _
          rw [hl]
          cases e2 : decide ((ds.length : Int) ≤ hi) with
          | false =>
            refine iteF ?_
            have := q H Ex.refl
            rw [cut false (by rw [e2, Bool.and_false])] at this
            exact this
          | true =>
            refine iteT ⟨_, rfl, a, rfl, ⟨_, hs⟩, tb Pt hT, fun H2 ht => ?_⟩
            have x2 : Ex T H H2 := Ex.tabbed hT ht
            refine gen_tup (T := T) (x2.tb tb) (x2.sqT tb hs) (rs.ex x2 tb) ff (fun v1 d1 H3 x3 hd1 r1 Q' hq => ⟨rfl, rfl, v1, rfl, v1, d1, rfl, r1, inD d1 hd1, x3.tb (x2.tb tb), fun H4 x4 => hq H4 (x3.trans x4)⟩) (fun H3 x3 => ?_)
            have := q H3 (x2.trans x3)
            rw [cut true (by rw [e2, g1]; rfl)] at this
            exact this
        · refine ⟨_, rfl, iteF ?_⟩
          rw [hl] at e1
          have := q H Ex.refl
          rw [cut false (by cases z : decide (lo ≤ (ds.length : Int)) <;> first | rfl | exact absurd z e1)] at this
          exact this
      | non => exact absurd (of_decide_eq_true e) (by simp [tyN])
      | bl b => exact absurd (of_decide_eq_true e) (by simp [tyN])
      | int x => exact absurd (of_decide_eq_true e) (by simp [tyN])
      | str x _ => exact absurd (of_decide_eq_true e) (by simp [tyN])
      | lst h q => exact absurd (of_decide_eq_true e) (by simp [tyN])
      | dic h => exact absurd (of_decide_eq_true e) (by simp [tyN])
    · have e2 : isTup lo hi ff d = false := by
        cases d <;> first | rfl | exact absurd (decide_eq_true (by simp [tyN])) e
      have := q H Ex.refl
      rw [e2] at this
      exact this
/-- a pair whose entries fit -/
def isPair (f g : PyData → Bool) : PyData → Bool
  | .tuple [a, b] => f a && g b
  | _ => false
def inPair (D E : PyData → Prop) : PyData → Prop
  | .tuple [a, b] => D a ∧ E b
  | _ => True
def spPair (P : Program) (w : World) (K : PySem.W.Frag) (mg : Str → Option Value) (base : Heap) (T : List Addr) (k : Nat) : Sp := fun vs H Q _ => ∃ (v : V) (d : PyData) (g1 g2 : Addr) (D1 D2 : PyData → Prop) (f1 f2 : PyData → Bool), vs = [v, .ref g1, .ref g2] ∧ Rp K H v d ∧ inPair D1 D2 d ∧
  IsDef P w K mg base T k g1 D1 f1 ∧ IsDef P w K mg base T k g2 D2 f2 ∧ TbOk T H ∧ ∀ H', Ex T H H' → Q (.bl (isPair f1 f2 d)) H'
theorem scPair : FnScope ["thing", "fits_first", "fits_second"] ["thing", "fits_first", "fits_second"] (defScope sPair) := ⟨rfl, rfl, rfl, by decide +kernel, rfl, by decide +kernel, by decide +kernel⟩
theorem ok_pair {f : Addr} {fd : FuncData} (k : Nat) (F : Fun K "is_pair" "is_pair" sPair f fd) (B : BI mg) : FnOk P w K mg base CX0 (k + 1) f fd ["thing", "fits_first", "fits_second"] (spPair P w K mg base T k) := by
  refine F.ok scPair (fun vs H Q E h => ?_) (fun cdv A outer s H vs Q E hr h => ?_)
  · obtain ⟨v, d, g1, g2, D1, D2, f1, f2, rfl, _⟩ := h
    rfl
  · obtain ⟨v, d, g1, g2, D1, D2, f1, f2, rfl, r, inD, ⟨gd1, p1, G1, kG1, bG1⟩, ⟨gd2, p2, G2, kG2, bG2⟩, tb, q⟩ := h
    refine ⟨_, pss_one (ps_ret (pe_and (pe_cmpR op_isTyB (pe_callTy call_type1 (by rfl) B.type (by decide +kernel) (pa_cons (pv 0) pa_nil)) (pe_bltn (v := .ty "tuple") (by rfl) B.tuple (by decide +kernel) rfl) (nomark _))
      (pe_and (pe_cmpR op_eq (pe_callB call_len_seq (by rfl) B.len PySem.boot_len (pa_cons (pv 0) pa_nil)) pe_int (nomark _))
      (pe_and (pe_callL (i := 1) G1 hr rfl (.inl rfl) kG1 bG1 .nil pass0 (pa_cons (pe_ix ix_tup (pv 0) pe_int (fun _ _ => rfl)) pa_nil))
      (pe_one (pe_callL (i := 2) G2 hr rfl (.inl rfl) kG2 bG2 .nil pass0 (pa_cons (pe_ix ix_tup (pv 0) pe_int (fun _ _ => rfl)) pa_nil))))))), ?_⟩
    refine ⟨v, rfl, v, tyN d, rfl, r.ty, _, _, rfl, rfl, _, rfl, ite2 (fun e => ?_) (fun e => ?_)⟩
    · cases r with
      | @tup a xs ds hs rs =>
        have hl := rs.len
        refine ⟨_, rfl, a, xs, rfl, .inr hs, rfl, _, rfl, ite2 (fun e1 => ?_) (fun e1 => ?_)⟩
        · have e2 : ds.length = 2 := by
            have := V.int.inj (of_decide_eq_true e1)
            omega
          obtain ⟨d1, d2, rfl⟩ : ∃ d1 d2, ds = [d1, d2] := by
            match ds, e2 with
            | [d1, d2], _ => exact ⟨d1, d2, rfl⟩
          cases rs with
          | cons r1 rs =>
          cases rs with
          | cons r2 rs =>
          cases rs
          refine ⟨rfl, _, rfl, a, _, _, _, rfl, rfl, hs, atI_nat (j := 0) rfl, _, d1, rfl, r1, inD.1, tb, fun H1 x1 => ⟨_, rfl, ?_⟩⟩
          cases e3 : f1 d1 with
          | false =>
            refine iteF ?_
            have := q H1 x1
            have e4 : isPair f1 f2 (.tuple [d1, d2]) = false := by show (f1 d1 && f2 d2) = false; rw [e3]; rfl
            rw [e4] at this
            exact this
          | true =>
            refine iteT ⟨rfl, _, rfl, a, _, _, _, rfl, rfl, x1.sqT tb hs, atI_nat (j := 1) rfl, _, d2, rfl, r2.ex x1 tb, inD.2, x1.tb tb, fun H2 x2 => ?_⟩
            have := q H2 (x1.trans x2)
            have e4 : isPair f1 f2 (.tuple [d1, d2]) = f2 d2 := by show (f1 d1 && f2 d2) = f2 d2; rw [e3]; rfl
            rw [e4] at this
            exact this
        · have e2 : isPair f1 f2 (.tuple ds) = false := by
            match ds, hl with
            | [], _ => rfl
            | [_], _ => rfl
            | [a1, b1], hl => exact absurd (decide_eq_true (by rw [hl]; rfl)) e1
            | _ :: _ :: _ :: _, _ => rfl
          have := q H Ex.refl
          rw [e2] at this
          exact this
      | non => exact absurd (of_decide_eq_true e) (by simp [tyN])
      | bl b => exact absurd (of_decide_eq_true e) (by simp [tyN])
      | int x => exact absurd (of_decide_eq_true e) (by simp [tyN])
      | str x _ => exact absurd (of_decide_eq_true e) (by simp [tyN])
      | lst h q => exact absurd (of_decide_eq_true e) (by simp [tyN])
      | dic h => exact absurd (of_decide_eq_true e) (by simp [tyN])
    · have e2 : isPair f1 f2 d = false := by
        cases d <;> first | rfl | exact absurd (decide_eq_true (by simp [tyN])) e
      have := q H Ex.refl
      rw [e2] at this
      exact this
end
end JF
set_option Elab.async false
set_option linter.all false
set_option maxRecDepth 100000
set_option maxHeartbeats 4000000
/-! list comprehensions of three clauses without tests -/
namespace L3
open PySem PySem.Spec PyProof.Rows L2
section
variable (elt t0 i0 t1 i1 t2 i2 : Expr) (scope : Scope) (pos : Pos)
abbrev lc3 : Expr := .ListComp elt [⟨t0, i0, [], 0⟩, ⟨t1, i1, [], 0⟩, ⟨t2, i2, [], 0⟩] scope pos
theorem turn0 (it acc : Value) (env : Env) : compTurn (lc3 elt t0 i0 t1 i1 t2 i2 scope pos) 0 it acc env = (do
      standAt i0.pos
      match ← pyNext it with
      | none => pure (.done .next)
      | some v =>
        letOwnedTupleGo t0 it v
        assign t0 env v
        let mut ok := true
        for c in ([] : List Expr) do
          if ok then ok ← isTrue c env (eval c env)
        if ok then
          let x ← eval i1 env
          standAt i1.pos
          let x ← foldedSetIterable i1 env x
          let _ ← runOwn (.compStart (lc3 elt t0 i0 t1 i1 t2 i2 scope pos) 1 (← holding [x] (pyIter x)) acc env) env
        again (.compLoop (lc3 elt t0 i0 t1 i1 t2 i2 scope pos) 0 it acc env)) := by rfl
theorem turn1 (it acc : Value) (env : Env) : compTurn (lc3 elt t0 i0 t1 i1 t2 i2 scope pos) 1 it acc env = (do
      standAt i1.pos
      match ← pyNext it with
      | none => pure (.done .next)
      | some v =>
        letOwnedTupleGo t1 it v
        assign t1 env v
        let mut ok := true
        for c in ([] : List Expr) do
          if ok then ok ← isTrue c env (eval c env)
        if ok then
          let x ← eval i2 env
          standAt i2.pos
          let x ← foldedSetIterable i2 env x
          let _ ← runOwn (.compStart (lc3 elt t0 i0 t1 i1 t2 i2 scope pos) 2 (← holding [x] (pyIter x)) acc env) env
        again (.compLoop (lc3 elt t0 i0 t1 i1 t2 i2 scope pos) 1 it acc env)) := by rfl
theorem turn2 (it acc : Value) (env : Env) : compTurn (lc3 elt t0 i0 t1 i1 t2 i2 scope pos) 2 it acc env = (do
      standAt i2.pos
      match ← pyNext it with
      | none => pure (.done .next)
      | some v =>
        letOwnedTupleGo t2 it v
        assign t2 env v
        let mut ok := true
        for c in ([] : List Expr) do
          if ok then ok ← isTrue c env (eval c env)
        if ok then
          (do let _ ← call (.builtin "list.append") [acc, ← eval elt env])
        again (.compLoop (lc3 elt t0 i0 t1 i1 t2 i2 scope pos) 2 it acc env)) := by rfl
end
/-- what is left of a turn behind its target's store -/
abbrev BodyT := (Shared → Prop) → Shared → Prop
def LoopRule (prog : Program) (w : World) (A : Around) (C : Expr) (idx : Nat) (t : Expr) (acc : Value) (env : Env) (BT : BodyT) : Prop :=
  ∀ (it : Value) (R : Result → Shared → Prop) (I : Nat → Shared → Prop),
    (∀ n s, I n s → wpAny (model prog w) A (pyNext it) (fun r s₁ => match r with
      | none => R (.ok .next) s₁
      | some v => wpAny (model prog w) A (letOwnedTupleGo t it v) (fun _ s₁' => wpAny (model prog w) A (assign t env v) (fun _ s₂ => BT (fun s5 => ∃ m, m < n ∧ I m s5) s₂) (fun _ _ => False) s₁') (fun _ _ => False) s₁) (fun _ _ => False) s) →
    ∀ n s, I n s → codeAny (model prog w) A (.compLoop C idx it acc env) R s
def btIn (prog : Program) (w : World) (A : Around) (elt : Expr) (acc : Value) (env : Env) : BodyT := fun Φ s =>
  wpAny (model prog w) A (eval elt env) (fun x s₄ => wpAny (model prog w) A (call (.builtin "list.append") [acc, x]) (fun _ s₅ => Φ s₅) (fun _ _ => False) s₄) (fun _ _ => False) s
def btOut (prog : Program) (w : World) (A : Around) (C : Expr) (idx : Nat) (i : Expr) (acc : Value) (env : Env) : BodyT := fun Φ s =>
  wpAny (model prog w) A (eval i env) (fun x s₄ => wpAny (model prog w) A (pyIter x) (fun it1 s₅ => codeAny (model prog w) A (.compStart C idx it1 acc env) (fun r s' => match r with
    | .ok _ => Φ s'
    | .error _ => False) s₅) (fun _ _ => False) s₄) (fun _ _ => False) s
section
variable {prog : Program} {w : World} {A : Around} {elt t0 i0 t1 i1 t2 i2 : Expr} {scope : Scope} {pos : Pos} {acc : Value} {env : Env}
theorem fls {α : Type} {t : Sem α} {Q : α → Shared → Prop} {M : Model} {E : Value → Shared → Prop} {s : Shared} (h : wpAny M A t Q (fun _ _ => False) s) : wpAny M A t Q E s := wpAny_mono h (fun _ _ q => q) fun _ _ z => False.elim z
theorem loop2 : LoopRule prog w A (lc3 elt t0 i0 t1 i1 t2 i2 scope pos) 2 t2 acc env (btIn prog w A elt acc env) := by
  intro it R I turn n s h
  refine codeAny_loop rfl I (fun n s hI => ?_) n h
  show wpAny _ A ((compTurn (lc3 elt t0 i0 t1 i1 t2 i2 scope pos) 2 it acc env).onRaise (fun x => do noteFrame x env; theTreesLotGoes x)) _ _ s
  refine wpAny_noted ?_
  rw [turn2]
  refine wpAny_bind (wpAny_standAt (wpAny_bind (thnF (turn n s hI) (fun r s₁ h₁ => ?_))))
  cases r with
  | none => exact wpAny_pure h₁
  | some v =>
    refine wpAny_bind (thnF h₁ (fun _ s₁' h₁' => ?_))
    refine wpAny_bind (thnF h₁' (fun _ s₂ h₂ => wpAny_bind (wpAny_tests_nil ?_)))
    simp only [if_true]
    exact wpAny_bind (wpAny_bind (thnF h₂ (fun x s₄ h₄ => wpAny_bind (thnF h₄ (fun _ s₅ h₅ => wpAny_pure (wpAny_pure ⟨rfl, h₅⟩))))))
theorem loop1 (hs : ∀ x, foldedSetIterable i2 env x = pure x) : LoopRule prog w A (lc3 elt t0 i0 t1 i1 t2 i2 scope pos) 1 t1 acc env (btOut prog w A (lc3 elt t0 i0 t1 i1 t2 i2 scope pos) 2 i2 acc env) := by
  intro it R I turn n s h
  refine codeAny_loop rfl I (fun n s hI => ?_) n h
  show wpAny _ A ((compTurn (lc3 elt t0 i0 t1 i1 t2 i2 scope pos) 1 it acc env).onRaise (fun x => do noteFrame x env; theTreesLotGoes x)) _ _ s
  refine wpAny_noted ?_
  rw [turn1]
  refine wpAny_bind (wpAny_standAt (wpAny_bind (thnF (turn n s hI) (fun r s₁ h₁ => ?_))))
  cases r with
  | none => exact wpAny_pure h₁
  | some v =>
    refine wpAny_bind (thnF h₁ (fun _ s₁' h₁' => ?_))
    refine wpAny_bind (thnF h₁' (fun _ s₂ h₂ => wpAny_bind (wpAny_tests_nil ?_)))
    simp only [if_true]
    refine wpAny_bind (thnF h₂ (fun x s₄ h₄ => ?_))
    refine wpAny_bind (wpAny_standAt (wpAny_bind (wpAny_of_eq (hs x) (wpAny_bind (wpAny_holding (thnF h₄ (fun it1 s₅ h₅ => ?_)))))))
    refine wpAny_bind (wpAny_runOwn ?_)
    rw [Around.mark_none]
    refine codeAny_mono h₅ fun r s' hr => ?_
    cases r with
    | ok f => first | exact wpAny_pure ⟨rfl, hr⟩ | exact wpAny_bind (wpAny_pure (wpAny_pure ⟨rfl, hr⟩))
    | error e => exact hr.elim
theorem loop0 (hs : ∀ x, foldedSetIterable i1 env x = pure x) : LoopRule prog w A (lc3 elt t0 i0 t1 i1 t2 i2 scope pos) 0 t0 acc env (btOut prog w A (lc3 elt t0 i0 t1 i1 t2 i2 scope pos) 1 i1 acc env) := by
  intro it R I turn n s h
  refine codeAny_loop rfl I (fun n s hI => ?_) n h
  show wpAny _ A ((compTurn (lc3 elt t0 i0 t1 i1 t2 i2 scope pos) 0 it acc env).onRaise (fun x => do noteFrame x env; theTreesLotGoes x)) _ _ s
  refine wpAny_noted ?_
  rw [turn0]
  refine wpAny_bind (wpAny_standAt (wpAny_bind (thnF (turn n s hI) (fun r s₁ h₁ => ?_))))
  cases r with
  | none => exact wpAny_pure h₁
  | some v =>
    refine wpAny_bind (thnF h₁ (fun _ s₁' h₁' => ?_))
    refine wpAny_bind (thnF h₁' (fun _ s₂ h₂ => wpAny_bind (wpAny_tests_nil ?_)))
    simp only [if_true]
    refine wpAny_bind (thnF h₂ (fun x s₄ h₄ => ?_))
    refine wpAny_bind (wpAny_standAt (wpAny_bind (wpAny_of_eq (hs x) (wpAny_bind (wpAny_holding (thnF h₄ (fun it1 s₅ h₅ => ?_)))))))
    refine wpAny_bind (wpAny_runOwn ?_)
    rw [Around.mark_none]
    refine codeAny_mono h₅ fun r s' hr => ?_
    cases r with
    | ok f => first | exact wpAny_pure ⟨rfl, hr⟩ | exact wpAny_bind (wpAny_pure (wpAny_pure ⟨rfl, hr⟩))
    | error e => exact hr.elim
/-- a later clause's start -/
theorem start1 {R : Result → Shared → Prop} {it : Value} {s : Shared} (h0 : codeAny (model prog w) A (.compLoop (lc3 elt t0 i0 t1 i1 t2 i2 scope pos) 1 it acc env) R s)
    (h : wpAny (model prog w) A (pyIter it) (fun it' s' => codeAny (model prog w) A (.compLoop (lc3 elt t0 i0 t1 i1 t2 i2 scope pos) 1 it' acc env) R s') (notedBy (model prog w) A env fun x s' => R (.error x) s') s) :
    codeAny (model prog w) A (.compStart (lc3 elt t0 i0 t1 i1 t2 i2 scope pos) 1 it acc env) R s := by
  refine codeAny_of_tree ?_
  show wpAny _ _ ((compStart (lc3 elt t0 i0 t1 i1 t2 i2 scope pos) 1 it acc env).onRaise (fun x => do noteFrame x env; standAt theWindowsPlace)) _ _ s
  refine wpAny_notedAt ?_
  unfold compStart
  show wpAny _ _ (ask >>= _) _ _ s
  refine wpAny_bind (wpAny_askSetting (wpAny_ite ?_))
  split
  · first
      | exact wpAny_bind (wpAny_pure (wpAny_pure (And.intro rfl h0)))
      | exact wpAny_pure (And.intro rfl h0)
  · refine wpAny_bind (wpAny_rule ?_)
    show wpAny _ _ (standAt i1.pos >>= _) _ _ s
    exact wpAny_bind (wpAny_standAt (wpAny_bind (wpAny_mono h (fun it' s' h' => wpAny_pure (And.intro rfl h')) fun _ _ x => x)))
theorem start2 {R : Result → Shared → Prop} {it : Value} {s : Shared} (h0 : codeAny (model prog w) A (.compLoop (lc3 elt t0 i0 t1 i1 t2 i2 scope pos) 2 it acc env) R s)
    (h : wpAny (model prog w) A (pyIter it) (fun it' s' => codeAny (model prog w) A (.compLoop (lc3 elt t0 i0 t1 i1 t2 i2 scope pos) 2 it' acc env) R s') (notedBy (model prog w) A env fun x s' => R (.error x) s') s) :
    codeAny (model prog w) A (.compStart (lc3 elt t0 i0 t1 i1 t2 i2 scope pos) 2 it acc env) R s := by
  refine codeAny_of_tree ?_
  show wpAny _ _ ((compStart (lc3 elt t0 i0 t1 i1 t2 i2 scope pos) 2 it acc env).onRaise (fun x => do noteFrame x env; standAt theWindowsPlace)) _ _ s
  refine wpAny_notedAt ?_
  unfold compStart
  show wpAny _ _ (ask >>= _) _ _ s
  refine wpAny_bind (wpAny_askSetting (wpAny_ite ?_))
  split
  · first
      | exact wpAny_bind (wpAny_pure (wpAny_pure (And.intro rfl h0)))
      | exact wpAny_pure (And.intro rfl h0)
  · refine wpAny_bind (wpAny_rule ?_)
    show wpAny _ _ (standAt i2.pos >>= _) _ _ s
    exact wpAny_bind (wpAny_standAt (wpAny_bind (wpAny_mono h (fun it' s' h' => wpAny_pure (And.intro rfl h')) fun _ _ x => x)))
end
theorem set_set_none (σ : L2.St) (i : Nat) : (σ.set i none).set i none = σ.set i none := by rw [List.set_set]
theorem wipe_set (σ : L2.St) (i : Nat) : ∀ vs : List Nat, wipe (σ.set i none) vs = (wipe σ vs).set i none
  | [] => rfl
  | v :: vs => by
    unfold wipe
    rw [wipe_set σ i vs]
    by_cases h : i = v
    · rw [h]
    · rw [List.set_comm _ _ h]
theorem wipe_wipe (σ : L2.St) : ∀ vs : List Nat, wipe (wipe σ vs) vs = wipe σ vs
  | [] => rfl
  | v :: vs => by
    show (wipe ((wipe σ vs).set v none) vs).set v none = (wipe σ vs).set v none
    rw [wipe_set, wipe_wipe σ vs, List.set_set]
/-- all slots but those of vs know what they knew -/
def Kept (vs : List Nat) (σ σ' : L2.St) : Prop := σ'.length = σ.length ∧ ∀ (j : Nat) (v : V), j ∉ vs → σ[j]? = some (some v) → σ'[j]? = some (some v)
abbrev TBd := L2.St → Hp → (Hp → Prop) → Prop
def BodyOk (X : Cx) (BT : BodyT) (tb : TBd) (vs : List Nat) : Prop := ∀ (pins : List (Addr × Obj)) (s : Shared) (σ : L2.St) (H : Hp) (Φ : Hp → Prop) (Ψ : Shared → Prop), L2.Inv X pins σ H s → tb σ H Φ → (∀ s' σ' H', L2.Inv X pins σ' H' s' → Kept vs σ σ' → Φ H' → Ψ s') → BT Ψ s
def tBdIn (D : Addr) (te : TE) : TBd := fun σ H Φ => te σ H fun y H7 => ∃ acc, H7 D = some (.lst acc) ∧ acc.length < sizeLine ∧ Φ (upd H7 D (.lst (acc ++ [y])))
def tTurns (J : It) (g : TG) (vs : List Nat) (tb : TBd) (σ : L2.St) (Φ : Hp → Prop) (W : Nat → Nat → Hp → Prop) : Prop := ∀ i m H, W i m H →
  (J.stop i H ∧ Φ H) ∨ (J.go i H ∧ ∃ Nx : Hp → Prop, (∀ H', Nx H' → ∃ m', m' < m ∧ W (i + 1) m' H') ∧ ∀ x H', J.yld i H x H' → g x (wipe σ vs) H' fun σ2 H2 => wipe σ2 vs = wipe σ vs ∧ tb σ2 H2 Nx)
def tBdOut (wi : TI) (g : TG) (vs : List Nat) (tb : TBd) : TBd := fun σ H Φ => wi σ H fun J H4 => ∃ W : Nat → Nat → Hp → Prop, (∃ m, W 0 m H4) ∧ tTurns J g vs tb σ Φ W
section
variable {X : Cx}
theorem body_in {elt : Expr} {D : Addr} {te : TE} (pe : PE X elt te) (hx : X.xe = fun _ _ => False) : BodyOk X (btIn X.prog X.w X.A elt (.ref D) X.env) (tBdIn D te) [] := by
  intro pins s σ H Φ Ψ I h hq
  have p := pe.run pins s σ H _ I h
  rw [hx] at p
  refine thnF p fun v s4 ⟨y, H7, I7, r7, acc, hD, hz, φ⟩ => ?_
  exact app_ok I7 hD hz r7 fun s5 I5 => hq s5 σ _ I5 ⟨rfl, fun _ _ _ e => e⟩ φ
theorem clause_loop {C : Expr} {idx : Nat} {t : Expr} {acc : Value} {BT : BodyT} {tb : TBd} {vs0 vs : List Nat} {J : It} {fp : List Addr} {it : Addr} {tn : Nat → Heap → Prop} {g : TG} {pins : List (Addr × Obj)} {σ : L2.St} {Φ : Hp → Prop} {W : Nat → Nat → Hp → Prop} {R : Result → Shared → Prop}
    (hc : X.calm = true) (hx : X.xe = fun _ _ => False) (HL : LoopRule X.prog X.w X.A C idx t acc X.env BT) (hB : BodyOk X BT tb vs0) (hv : ∀ i ∈ vs0, i ∈ vs) (T : Turn X.prog X.w X.K t J fp it tn) (pg : PG X t g)
    (stat : ∀ H' : Hp, (∀ b ∈ fp, H' b = none) → ∀ b ∈ fp, FpOk X pins H' b) (turn : tTurns J g vs tb σ Φ W)
    (hR : ∀ s' σ' H', L2.Inv X pins σ' H' s' → Kept vs σ σ' → Φ H' → R (.ok .next) s') :
    ∀ (m : Nat) (H : Hp) (s : Shared), W 0 m H → L2.Inv X pins σ H s → tn 0 s.heap → (∀ b ∈ fp, H b = none) → codeAny (model X.prog X.w) X.A (.compLoop C idx (.ref it) acc X.env) R s := by
  intro m0 H0 s0 w0 I0 st0 n0
  refine HL (.ref it) R (fun n s' => ∃ i H', L2.Inv X pins (wipe σ vs) H' s' ∧ tn i s'.heap ∧ (∀ b ∈ fp, H' b = none) ∧ W i n H') ?_ m0 s0 ⟨0, H0, I0.weak (wipe_length _ _) (fun j v e => (wipe_some e).1), st0, n0, w0⟩
  rintro n s5 ⟨i, H5, I5, st5, n5, w5⟩
  rcases turn i n H5 w5 with ⟨stop, φ⟩ | ⟨go, Nx, hNx, step⟩
  · refine thnF (T.done X rfl rfl rfl hc i pins s5 (wipe σ vs) H5 (fun _ _ => False) I5 (stat H5 n5) st5 stop) fun r s6 ⟨hr, I6⟩ => ?_
    subst hr
    exact hR s6 _ H5 I6 ⟨wipe_length _ _, fun j v hj e => by rw [wipe_out hj]; exact e⟩ φ
  · refine thnF (T.item X rfl rfl rfl hc i pins s5 (wipe σ vs) H5 (fun _ _ => False) I5 (stat H5 n5) st5 go) fun r s6 ⟨u, hr, h6⟩ => ?_
    subst hr
    refine thnF h6 fun _ s7 ⟨x, H7, I7, r7, y7, st7, n7⟩ => ?_
    have I7' := I7.pinned (stat H7 n7) (T.obj _ _ st7)
    have pgr := pg.run _ s7 _ H7 x u _ I7' r7 (step x H7 y7)
    rw [hx] at pgr
    refine thnF pgr fun _ s8 ⟨σ8, H8, I8, hw8, q8⟩ => ?_
    refine hB _ s8 σ8 H8 Nx _ I8 q8 fun s' σ' H' I' kk nx => ?_
    obtain ⟨m', hm, w'⟩ := hNx H' nx
    have pin' : ∀ b ∈ fp, ∀ o, s7.heap.get? b = some o → s'.heap.get? b = some o ∧ H' b = none := fun b hb o e =>
      let z := I'.pin (b, o) (List.mem_append_right _ (List.mem_append_right _ (mem_pinsAt hb e)))
      ⟨z.1, z.2.1⟩
    refine ⟨m', hm, i + 1, H', I'.unpinned.weak ?_ ?_, T.keep _ _ _ st7 fun b hb o e => (pin' b hb o e).1, fun b hb => ?_, w'⟩
    · have e1 : (wipe σ8 vs).length = (wipe σ vs).length := by rw [hw8]
      rw [wipe_length] at e1
      rw [← e1]; exact kk.1.symm
    · intro j v e
      rw [← hw8] at e
      obtain ⟨e1, e2⟩ := wipe_some e
      exact kk.2 j v (fun z => e2 (hv j z)) e1
    · obtain ⟨o, e, _⟩ := T.obj _ _ st7 b hb
      exact (pin' b hb o e).2
theorem body_out {C : Expr} {idx : Nat} {t i : Expr} {acc : Value} {BT : BodyT} {tb : TBd} {vs0 vs : List Nat} {g : TG} {wi : TI}
    (hc : X.calm = true) (hx : X.xe = fun _ _ => False) (HL : LoopRule X.prog X.w X.A C idx t acc X.env BT) (hB : BodyOk X BT tb vs0) (hv : ∀ i ∈ vs0, i ∈ vs) (pi : PI X t i wi) (pg : PG X t g)
    (hst : ∀ (R : Result → Shared → Prop) (it : Value) (s : Shared), codeAny (model X.prog X.w) X.A (.compLoop C idx it acc X.env) R s → wpAny (model X.prog X.w) X.A (pyIter it) (fun it' s' => codeAny (model X.prog X.w) X.A (.compLoop C idx it' acc X.env) R s') (notedBy (model X.prog X.w) X.A X.env fun x s' => R (.error x) s') s →
      codeAny (model X.prog X.w) X.A (.compStart C idx it acc X.env) R s) :
    BodyOk X (btOut X.prog X.w X.A C idx i acc X.env) (tBdOut wi g vs tb) vs := by
  intro pins s σ H Φ Ψ I h hq
  have p := pi.run pins s σ H _ I h
  rw [hx] at p
  refine thnF p fun xv s4 hx4 => thnF hx4 fun itv s5 h5 => ?_
  obtain ⟨it1, fp1, tn1, J1, H4, e1, I4, T1, st1, f1, W1, ⟨m1, w1⟩, turn1⟩ := h5
  subst e1
  have loop := clause_loop (R := fun r s' => match r with | .ok _ => Ψ s' | .error _ => False) hc hx HL hB hv T1 pg (fun H' hn b hb => ⟨hn b hb, (f1 b hb).2⟩) turn1 (fun s' σ' H' I' k φ => hq s' σ' H' I' k φ) m1 H4 s5 w1 I4 st1 fun b hb => (f1 b hb).1
  exact hst _ _ _ loop (T1.self X.A 0 _ _ _ st1 loop)
end
section
variable {X : Cx} {elt t0 i0 t1 i1 t2 i2 : Expr} {scope : Scope} {own : List (Str × Nat)} {vs1 vs2 : List Nat} {pos pos' : Pos} {w0 w1 w2 : TI} {g0 g1 g2 : TG} {te : TE}
/-- [elt for t0 in i0 for t1 in i1 for t2 in i2] -/
def tLc3 (w0 : TI) (g0 : TG) (w1 : TI) (g1 : TG) (w2 : TI) (g2 : TG) (te : TE) (vs vs1 vs2 : List Nat) : TE := fun σ H Q => w0 σ H fun J H1 => ∀ D, H1 D = none → ∃ W : Nat → Nat → Hp → Prop, (∃ m, W 0 m (upd H1 D (.lst []))) ∧
  tTurns J g0 vs (tBdOut w1 g1 vs1 (tBdOut w2 g2 vs2 (tBdIn D te))) σ (fun H' => Q (.ref D) H') W
theorem lc3_core {pins : List (Addr × Obj)} {s : Shared} {σ : L2.St} {H : Hp} {Q : VK} {use : Option (Value → Sem Unit)} {Qf : Value → Shared → Prop}
    (hc : X.calm = true) (hN : X.N.Nodup) (I : L2.Inv X pins σ H s) (hi : PI X t0 i0 w0) (ok : BlkOk X.N X.env.scope scope own) (hv1 : ∀ i ∈ vs1, i ∈ own.map (·.2)) (hv2 : ∀ i ∈ vs2, i ∈ vs1)
    (hg : ∀ (s : Shared) (H : Hp) (C : Addr) (cl : List (Str × Addr)) (fp : List Addr), PG (X.blk s H scope (compEnvC scope cl C X.env) fp) t0 g0)
    (hi1 : ∀ (s : Shared) (H : Hp) (C : Addr) (cl : List (Str × Addr)) (fp : List Addr), PI (X.blk s H scope (compEnvC scope cl C X.env) fp) t1 i1 w1)
    (hg1 : ∀ (s : Shared) (H : Hp) (C : Addr) (cl : List (Str × Addr)) (fp : List Addr), PG (X.blk s H scope (compEnvC scope cl C X.env) fp) t1 g1)
    (hi2 : ∀ (s : Shared) (H : Hp) (C : Addr) (cl : List (Str × Addr)) (fp : List Addr), PI (X.blk s H scope (compEnvC scope cl C X.env) fp) t2 i2 w2)
    (hg2 : ∀ (s : Shared) (H : Hp) (C : Addr) (cl : List (Str × Addr)) (fp : List Addr), PG (X.blk s H scope (compEnvC scope cl C X.env) fp) t2 g2)
    (he : ∀ (s : Shared) (H : Hp) (C : Addr) (cl : List (Str × Addr)) (fp : List Addr), PE (X.blk s H scope (compEnvC scope cl C X.env) fp) elt te) (hs : ∀ x, foldedSetIterable i0 X.env x = pure x)
    (hs1 : ∀ env x, foldedSetIterable i1 env x = pure x) (hs2 : ∀ env x, foldedSetIterable i2 env x = pure x)
    (h : tLc3 w0 g0 w1 g1 w2 g2 te (own.map (·.2)) vs1 vs2 σ H Q)
    (hRR : ∀ D C s' m H', L2.Inv X pins σ H' s' → Q (.ref D) H' → s'.heap.Ns C m → FpOk X pins H' C → compPost (model X.prog X.w) X.A X.xe use Qf (.ref D) C (.ok .next) s') :
    wpAny (model X.prog X.w) X.A (comprehension (lc3 elt t0 i0 t1 i1 t2 i2 scope pos) scope X.env pos' (newList []) false (eval i0 X.env) use) Qf X.xe s := by
  have hfree : ∀ y ∈ scope.names, y.2 = .free → ∃ c, X.env.cells.lookup y.1 = some c := fun y hy e => by
    rcases ok.free y hy e with k | k
    · exact I.ok.has _ (.inl k)
    · exact I.ok.has _ (.inr k)
  refine wpAny_comprehension_free (use := use) rfl hs (closure_ok hfree) ok.kind (fun y hy e => by rw [ok.uniq y hy, e])
    (thn (hi.run pins s σ H _ I h) fun xv s1 hx => thn hx fun itv s2 h2 => ?_)
  obtain ⟨it, fp, tn, J, H2, e, I2, T, st2, f2, q⟩ := h2
  subst e
  refine wpAny_newObj_type (newEnv_comp ?_) (by show 0 ≤ sizeLine; decide)
  generalize hD : s2.heap.objs.size = D
  have hDn : H2 D = none := I2.hok.fresh (Nat.le_of_eq hD)
  obtain ⟨W, ⟨m0, w0⟩, turn⟩ := q D hDn
  generalize hs3 : ({ s2 with heap := s2.heap.push { cls := .type "list", data := .seq ([] : List Value).toArray } } : Shared) = s3
  have I3 : L2.Inv X pins σ (upd H2 D (.lst [])) s3 := by
    rw [← hs3]
    refine I2.laid (t' := s2.toks) (fun b o e => Heap.get?_push_of_some _ e) (Nat.le_of_eq hD) ⟨Nat.zero_le _, [], 0, .nil, ?_⟩
    rw [← hD]
    exact Heap.get?_push_size _ rfl
  have h3 : s3.heap = s2.heap.push { cls := .type "list", data := .seq ([] : List Value).toArray } := by rw [← hs3]
  have sz : ∀ b ∈ fp, b < s2.heap.objs.size := fun b hb => by
    obtain ⟨o, e, _⟩ := T.obj _ _ st2 b hb
    exact Heap.lt_size e
  have f3 : ∀ b ∈ fp, FpOk X pins (upd H2 D (.lst [])) b ∧ b < s3.heap.objs.size := fun b hb => by
    have hlt := sz b hb
    refine ⟨⟨?_, (f2 b hb).2⟩, by rw [h3, Heap.size_push]; exact Nat.lt_succ_of_lt hlt⟩
    rw [upd_ne (by rw [← hD]; exact Nat.ne_of_lt hlt)]
    exact (f2 b hb).1
  have st3 : tn 0 s3.heap := T.keep _ _ _ st2 fun b _ o e => by rw [h3]; exact Heap.get?_push_of_some _ e
  have I4 := block_start I3 ok hN f3
  have pg := hg s3 (upd H2 D (.lst [])) s3.heap.objs.size (cellsFrom (s3.heap.objs.size + 1) scope.names (cloFrom X.env.cells scope.names [])) fp
  have pe := he s3 (upd H2 D (.lst [])) s3.heap.objs.size (cellsFrom (s3.heap.objs.size + 1) scope.names (cloFrom X.env.cells scope.names [])) fp
  have pi1 := hi1 s3 (upd H2 D (.lst [])) s3.heap.objs.size (cellsFrom (s3.heap.objs.size + 1) scope.names (cloFrom X.env.cells scope.names [])) fp
  have pg1 := hg1 s3 (upd H2 D (.lst [])) s3.heap.objs.size (cellsFrom (s3.heap.objs.size + 1) scope.names (cloFrom X.env.cells scope.names [])) fp
  have pi2 := hi2 s3 (upd H2 D (.lst [])) s3.heap.objs.size (cellsFrom (s3.heap.objs.size + 1) scope.names (cloFrom X.env.cells scope.names [])) fp
  have pg2 := hg2 s3 (upd H2 D (.lst [])) s3.heap.objs.size (cellsFrom (s3.heap.objs.size + 1) scope.names (cloFrom X.env.cells scope.names [])) fp
  show codeAny _ _ (.compStart (lc3 elt t0 i0 t1 i1 t2 i2 scope pos) 0 (.ref it) (.ref D) (compEnvC scope (cellsFrom (s3.heap.objs.size + 1) scope.names (cloFrom X.env.cells scope.names [])) s3.heap.objs.size X.env)) (compPost (model X.prog X.w) X.A X.xe use Qf (.ref D) s3.heap.objs.size) { s3 with heap := pushCells (s3.heap.push { cls := .type "dict", data := .dict #[] }) scope.names }
  have nfp : ∀ b ∈ fp, (upd H2 D (.lst [])) b = none := fun b hb => (f3 b hb).1.1
  generalize hce : compEnvC scope (cellsFrom (s3.heap.objs.size + 1) scope.names (cloFrom X.env.cells scope.names [])) s3.heap.objs.size X.env = ce at I4 pg pe pi1 pg1 pi2 pg2 ⊢
  have cL : ce.locals = s3.heap.objs.size := by subst hce; rfl
  generalize hH3 : upd H2 D (.lst []) = H3 at I3 I4 pg pe pi1 pg1 pi2 pg2 w0 nfp f3
  generalize hs4 : ({ s3 with heap := pushCells (s3.heap.push { cls := .type "dict", data := .dict #[] }) scope.names } : Shared) = s4 at I4 ⊢
  have st4 : tn 0 s4.heap := T.keep _ _ _ st3 fun b _ o e => by rw [← hs4]; exact pushCells_keeps _ _ _ _ (Heap.get?_push_of_some _ e)
  have stat : ∀ H' : Hp, (∀ b ∈ fp, H' b = none) → ∀ b ∈ fp, FpOk (X.blk s3 H3 scope ce fp) [] H' b := fun H' hn b hb =>
    ⟨hn b hb, (I4.ok.exf b hb).1, I4.ok.exfs b hb, .inl hb, fun x c e => (I4.ok.exf b hb).2 x c e, fun p hp => absurd (show p ∈ ([] : List (Addr × Obj)) ++ [] from hp) (by simp)⟩
  have b2 := body_in (D := D) pe rfl
  have b1 := body_out (X := X.blk s3 H3 scope ce fp) (acc := .ref D) (vs := vs2) hc rfl (loop2 (elt := elt) (t0 := t0) (i0 := i0) (t1 := t1) (i1 := i1) (t2 := t2) (i2 := i2) (scope := scope) (pos := pos)) b2 (fun i z => by simp at z) pi2 pg2 (fun R it s h1 h2 => start2 h1 h2)
  have b0 := body_out (X := X.blk s3 H3 scope ce fp) (acc := .ref D) (vs := vs1) hc rfl (loop1 (elt := elt) (t0 := t0) (i0 := i0) (t1 := t1) (i1 := i1) (t2 := t2) (i2 := i2) (scope := scope) (pos := pos) (hs2 ce)) b1 hv2 pi1 pg1 (fun R it s h1 h2 => start1 h1 h2)
  have w0' : W 0 m0 H3 := w0
  have loop := clause_loop (X := X.blk s3 H3 scope ce fp) (R := compPost (model X.prog X.w) X.A X.xe use Qf (.ref D) s3.heap.objs.size) (pins := []) (σ := wipe σ (own.map (·.2))) hc rfl (loop0 (elt := elt) (t0 := t0) (i0 := i0) (t1 := t1) (i1 := i1) (t2 := t2) (i2 := i2) (scope := scope) (pos := pos) (acc := .ref D) (hs1 ce)) b0 hv1 T pg stat
    (Φ := fun H' => Q (.ref D) H') (W := W) (fun i m H hW => by
      have := turn i m H hW
      rcases this with z | ⟨z1, Nx, z2, z3⟩
      · exact .inl z
      · refine .inr ⟨z1, Nx, z2, fun x H' hy => ?_⟩
        have e2 : wipe (wipe σ (own.map (·.2))) (own.map (·.2)) = wipe σ (own.map (·.2)) := wipe_wipe _ _
        rw [e2]
        exact z3 x H' hy) (fun s6 σ' H5 I6 _ qq => ?_) m0 H3 s4 w0' I4 st4 nfp
  · exact codeAny_compStart_list loop (T.self X.A 0 _ _ _ st4 loop)
  · have I7 : L2.Inv X pins σ H5 s6 := I3.call' (ch := fp) I6.os I6.base I6.hok I6.bare fun b hb => ⟨(f3 b hb).1.2.2.2.1, (f3 b hb).1.2.1, (f3 b hb).1.2.2.2.2.1, (f3 b hb).1.2.2.2.2.2⟩
    have nC : H5 s3.heap.objs.size = none := by
      have z : H5 ce.locals = none := I6.free
      rw [cL] at z
      exact z
    obtain ⟨m, hn, _⟩ := I6.loc
    have hn : s6.heap.Ns ce.locals m := hn
    rw [cL] at hn
    exact hRR D s3.heap.objs.size s6 m H5 I7 qq hn (I3.fpOk (Nat.le_refl _) nC)

/-- name = [..] on one line, the name a local -/
theorem ps_setLc3 {i : Nat} {y : Str} {py spos : Pos} (hc : X.calm = true) (hN : X.N.Nodup) (hy : X.N[i]? = some y) (hyl : X.env.scope.names.lookup y = some .local)
    (hsw : swapsWith (lc3 elt t0 i0 t1 i1 t2 i2 scope pos) (some (.Name y py)) spos.line X.env = pure true) (hi : PI X t0 i0 w0) (ok : BlkOk X.N X.env.scope scope own) (hv1 : ∀ i ∈ vs1, i ∈ own.map (·.2)) (hv2 : ∀ i ∈ vs2, i ∈ vs1)
    (hg : ∀ (s : Shared) (H : Hp) (C : Addr) (cl : List (Str × Addr)) (fp : List Addr), PG (X.blk s H scope (compEnvC scope cl C X.env) fp) t0 g0)
    (hi1 : ∀ (s : Shared) (H : Hp) (C : Addr) (cl : List (Str × Addr)) (fp : List Addr), PI (X.blk s H scope (compEnvC scope cl C X.env) fp) t1 i1 w1)
    (hg1 : ∀ (s : Shared) (H : Hp) (C : Addr) (cl : List (Str × Addr)) (fp : List Addr), PG (X.blk s H scope (compEnvC scope cl C X.env) fp) t1 g1)
    (hi2 : ∀ (s : Shared) (H : Hp) (C : Addr) (cl : List (Str × Addr)) (fp : List Addr), PI (X.blk s H scope (compEnvC scope cl C X.env) fp) t2 i2 w2)
    (hg2 : ∀ (s : Shared) (H : Hp) (C : Addr) (cl : List (Str × Addr)) (fp : List Addr), PG (X.blk s H scope (compEnvC scope cl C X.env) fp) t2 g2)
    (he : ∀ (s : Shared) (H : Hp) (C : Addr) (cl : List (Str × Addr)) (fp : List Addr), PE (X.blk s H scope (compEnvC scope cl C X.env) fp) elt te) (hs : ∀ x, foldedSetIterable i0 X.env x = pure x := by intro _; rfl)
    (hs1 : ∀ env x, foldedSetIterable i1 env x = pure x := by intro _ _; rfl) (hs2 : ∀ env x, foldedSetIterable i2 env x = pure x := by intro _ _; rfl) :
    PS X (.Assign [.Name y py] (lc3 elt t0 i0 t1 i1 t2 i2 scope pos) spos) (tAsg (tLc3 w0 g0 w1 g1 w2 g2 te (own.map (·.2)) vs1 vs2) (gName i)) := by
  refine ⟨fun pins s σ H D I h => ?_⟩
  rw [exec_Assign_Name_used _ _ _ _ hsw]
  refine wpAny_bind (wpAny_standAt (wpAny_bind ?_))
  show wpAny _ X.A (do let _ ← comprehension (lc3 elt t0 i0 t1 i1 t2 i2 scope pos) scope X.env (firstIterPos [⟨t0, i0, [], 0⟩, ⟨t1, i1, [], 0⟩, ⟨t2, i2, [], 0⟩] pos) (newList []) false (eval i0 X.env) (some (assign (.Name y py) X.env))) _ _ s
  have h : tLc3 w0 g0 w1 g1 w2 g2 te (own.map (·.2)) vs1 vs2 σ H (fun x H1 => gName i x σ H1 D.nx) := h
  refine wpAny_bind (thn (lc3_core (Qf := fun _ s' => SP X pins D .next s') hc hN I hi ok hv1 hv2 hg hi1 hg1 hi2 hg2 he hs hs1 hs2 h fun L C s' m H' I' q hn f => ?_) fun _ s' hq => wpAny_pure (wpAny_pure hq))
  show wpAny _ _ (assign (.Name y py) X.env (.ref L)) _ _ _
  refine wpAny_assign_Name (store_ok2 (v := V.ref L) I' hN hy (.inl hyl) rfl (fun s2 I2 ⟨a, sb, ha⟩ => ?_) (.inr hyl))
  obtain ⟨f0, f1, f2, f3, f4, f5⟩ := f
  have haC : C ≠ a := by
    rcases ha with z | z
    · rw [z]; exact f1
    · exact fun e => f4 y a z e.symm
  refine ⟨m, hn.sameBut sb haC, fun h3 sb3 => ?_⟩
  exact ⟨_, H', I2.turned (t' := s2.toks) (fun b o hb e => (sb3.2 b hb).trans e) f0 f1 f3 f4 f5, q⟩
end
end L3
set_option Elab.async false
set_option linter.all false
set_option maxRecDepth 100000
set_option maxHeartbeats 4000000
/-! len(set(xs)), xs a list of any texts -/
namespace SL
open PySem PySem.Spec PyProof.Rows L2
/-- the texts met so far, each once -/
def addTo (seen : List Str) (x : Str) : List Str := if seen.any (· == x) then seen else seen ++ [x]
def met : List Str → List Str → List Str
  | seen, [] => seen
  | seen, x :: r => met (addTo seen x) r
def uniq (xs : List Str) : List Str := met [] xs
def upTo (xs : List Str) (i : Nat) : List Str := met [] (xs.take i)
theorem met_snoc : ∀ (xs : List Str) (seen : List Str) (x : Str), met seen (xs ++ [x]) = addTo (met seen xs) x
  | [], _, _ => rfl
  | y :: r, seen, x => met_snoc r (addTo seen y) x
theorem upTo_succ {xs : List Str} {i : Nat} (h : i < xs.length) : upTo xs (i + 1) = addTo (upTo xs i) xs[i] := by
  unfold upTo
  rw [List.take_succ, List.getElem?_eq_getElem h]
  exact met_snoc _ _ _
theorem addTo_len (seen : List Str) (x : Str) : (addTo seen x).length = if seen.any (· == x) then seen.length else seen.length + 1 := by
  unfold addTo
  cases seen.any (· == x) <;> simp
theorem addTo_any (seen : List Str) (x k : Str) : (seen.any (· == k) || decide (k = x)) = (addTo seen x).any (· == k) := by
  unfold addTo
  cases q : seen.any (· == x) with
  | true =>
    rw [if_pos rfl]
    by_cases e : k = x
    · subst e
      rw [q, Bool.true_or]
    · rw [decide_eq_false e, Bool.or_false]
  | false =>
    rw [if_neg (by simp), List.any_append]
    have e1 : ([x].any fun y => y == k) = decide (k = x) := by
      by_cases e : k = x
      · rw [e]; simp
      · have : (x == k) = false := by simpa using fun h : x = k => e h.symm
        simp [this, e]
    rw [e1]
theorem upTo_le (xs : List Str) : ∀ i, (upTo xs i).length ≤ i
  | 0 => by simp [upTo, met]
  | i + 1 => by
    by_cases h : i < xs.length
    · rw [upTo_succ h, addTo_len]
      have := upTo_le xs i
      split <;> omega
    · have e : upTo xs (i + 1) = upTo xs i := by
        unfold upTo
        rw [List.take_of_length_le (by omega), List.take_of_length_le (by omega)]
      rw [e]
      have := upTo_le xs i
      omega
section
variable {prog : Program} {w : World} {A : Around} {E : Value → Shared → Prop}
/-- the set at D holds just the texts of seen -/
abbrev Holds (prog : Program) (w : World) (h : Heap) (D : Addr) (seen : List Str) : Prop := h.SetOf (PySem.strKind prog w) D (fun k => seen.any (· == k)) seen.length
theorem fill {I D : Addr} {fp wr : List Addr} {G : Array GenState → Array GenState → Prop} {Pz : Nat → Value → Prop} {Sz : Nat → Shared → Prop} {R : Result → Shared → Prop} {xs : List Str} (Wk : WalksS prog w A.in1 I fp wr G xs.length Pz Sz) (nD : D ∉ fp) (hsz : xs.length < 4000)
    (hv : ∀ i v, Pz i v → ∃ y t, xs[i]? = some y ∧ v = .str y t) (s0 : Shared) (hR : ∀ s', Moved (D :: wr) G s0 s' → Holds prog w s'.heap D (uniq xs) → R (.ok (.ret .none)) s') :
    ∀ (left i : Nat) (s : Shared), i + left = xs.length → Sz i s → Moved (D :: wr) G s0 s → Holds prog w s.heap D (upTo xs i) → codeAny (model prog w) A (.builtin "set.update.loop" ⟨[.ref D, .ref I], []⟩) R s := by
  have nW : D ∉ wr := fun q => nD (Wk.sub _ q)
  have up : ∀ b ∈ wr, b ∈ D :: wr := fun _ q => List.mem_cons_of_mem _ q
  have stay : ∀ {s s' : Shared} {seen : List Str}, Moved wr G s s' → Holds prog w s.heap D seen → Holds prog w s'.heap D seen := fun {s s' seen} mv ⟨o, es, ep, tb, ho, q⟩ => ⟨o, es, ep, tb, mv.heap D _ nW ho, q⟩
  intro left
  induction left with
  | zero =>
    intro i s hi st mv hH
    have ei : i = xs.length := by omega
    refine codeAny_builtin F.entry_set_update_loop ?_
    rw [Around.under_plainId F.plain_set_update_loop _]
    show wpAny _ A.in1 (pyNext (.ref I) >>= _) _ _ s
    rw [ei] at st
    refine wpAny_bind (Wk.done s _ _ st fun s' m2 => ?_)
    have hH2 := stay m2 hH
    have eu : upTo xs i = uniq xs := by
      unfold upTo uniq
      rw [ei, List.take_length]
    rw [eu] at hH2
    exact wpAny_pure (hR s' (mv.trans Wk.gtrans (m2.mono up)) hH2)
  | succ left ih =>
    intro i s hi st mv hH
    have lt : i < xs.length := by omega
    refine codeAny_builtin F.entry_set_update_loop ?_
    rw [Around.under_plainId F.plain_set_update_loop _]
    show wpAny _ A.in1 (pyNext (.ref I) >>= _) _ _ s
    refine wpAny_bind (Wk.item i s _ _ lt st fun v s' hP st2 m2 => ?_)
    obtain ⟨y, t, hy, rfl⟩ := hv i v hP
    have ey : xs[i] = y := by
      rw [List.getElem?_eq_getElem lt] at hy
      exact Option.some.inj hy
    have hH2 := stay m2 hH
    show wpAny _ A.in1 (holding [Value.str y t] (setAdd D (.str y t)) >>= _) _ _ s'
    refine wpAny_bind (wpAny_holding ?_)
    unfold setAdd
    refine wpAny_holding (wpAny_bind ((PySem.strKind prog w).pyHash (k := y) (strKind_is _ _ _ _) ?_))
    have room : (upTo xs i).length + 1 < scanBound := by
      have := upTo_le xs i
      unfold scanBound
      omega
    refine wpAny_setAddHashed_of (knd := PySem.strKind prog w) (s := { s' with toks := s'.toks + 1 }) (strKind_is _ _ _ _) rfl hH2 room fun h3 sb3 hH3 => ?_
    have hH4 : Holds prog w h3 D (upTo xs (i + 1)) := by
      refine SetOf_congr hH3 (fun k => ?_) ?_
      · rw [upTo_succ lt, ey]
        exact addTo_any _ _ _
      · rw [upTo_succ lt, ey, addTo_len]
    have keep : ∀ b o, b ≠ D → s'.heap.get? b = some o → h3.get? b = some o := fun b o nb e => (sb3.2 b nb).trans e
    refine wpAny_pure ⟨plainId_quiet F.plain_set_update_loop _, ih (i + 1) _ (by omega) (Wk.frame _ s' h3 _ st2 (Nat.le_succ _) fun b hb o e => keep b o (fun q => nD (q ▸ hb)) e) ?_ hH4⟩
    exact mv.trans Wk.gtrans ((m2.mono up).then_heap (Nat.le_succ _) fun b o nb e => keep b o (fun q => nb (q ▸ List.mem_cons_self)) e)

abbrev freshSet (b : Bool) : Obj := { cls := .type "set", dict := none, data := .set #[] 0 (.fresh 0 0 b) }
theorem strs_get : ∀ {us : List Value} {xs : List Str}, StrsAre us xs → ∀ (i : Nat) (v : Value), us[i]? = some v → ∃ y t, xs[i]? = some y ∧ v = .str y t
  | _, _, .nil, i, v, h => by simp at h
  | _, _, .cons y t r, 0, v, h => by
    have e : _ = v := Option.some.inj h
    exact ⟨y, t, rfl, e.symm⟩
  | _, _, .cons y t r, i + 1, v, h => strs_get r i v h
theorem set_of {l : Addr} {items : Array Value} {xs : List Str} {Q : Value → Shared → Prop} {s : Shared} (calm : A.handled = none) (hl : s.heap.IsList l items) (hx : StrsAre items.toList xs) (few : xs.length < 4000)
    (next : ∀ (h' : Heap) (tk : Nat), Holds prog w h' s.heap.objs.size (uniq xs) → (∀ b o, b < s.heap.objs.size → s.heap.get? b = some o → h'.get? b = some o) → Q (.ref s.heap.objs.size) { s with heap := h', toks := tk }) :
    wpAny (model prog w) A (call (.type "set") [.ref l]) Q E s := by
  generalize hD : s.heap.objs.size = D at next ⊢
  have nItems : items.size = xs.length := by
    have : ∀ {us : List Value} {ys : List Str}, StrsAre us ys → us.length = ys.length := fun r => by
      induction r with
      | nil => rfl
      | cons _ _ _ ih => rw [List.length_cons, List.length_cons, ih]
    have := this hx
    simpa using this
  obtain ⟨_, _, hmro⟩ := PySem.F.called_set.mro
  have hmade := PySem.F.called_set.made
  have hsub := PySem.F.called_set.sub
  have notT := PySem.F.called_set.notType
  have canC := PySem.F.called_set.canCreate
  have typC := PySem.F.typeCall_set_1 (.ref l)
  refine wpAny_call (codeAny_of_tree ?_)
  show wpAny _ _ (callAny (.type "set") _) _ _ _
  refine wpAny_pure ⟨Code.quiet_builtin _ (by decide +kernel), codeAny_builtin PySem.F.entry_type_call ?_⟩
  rw [Around.under_plain (weight_type_call_type "set" [.ref l] []) rfl]
  repeat (any_goals (first | assumption | wp_step))
  -- set.__new__
  refine codeAny_mono (code_set_new_1 (.ref l) (E := E) (Q₁ := fun v s1 => ∃ b : Bool, v = .ref D ∧ s1 = { s with heap := s.heap.push (freshSet b) }) fun b => ⟨b, by rw [hD], rfl⟩) fun r s1 hr => ?_
  rcases r with e | fl
  · exact hr
  · cases fl with
    | ret v =>
      obtain ⟨b, rfl, rfl⟩ := hr
      have atD : (s.heap.push (freshSet b)).get? D = some (freshSet b) := by rw [← hD]; exact Heap.get?_push_size _ rfl
      have tyD : Shared.TypeIs { s with heap := s.heap.push (freshSet b) } (.ref D) "set" := ⟨_, atD, rfl⟩
      have iniL := PySem.F.called_set.init.lookup
      have iniB := PySem.F.called_set.init.bind (.ref D)
      repeat (any_goals (first | assumption | wp_step))
      -- set.__init__
      refine codeAny_mono (codeAny_call_builtin (R := wants (fun v s2 => v = .none ∧ ∃ h' tk, s2 = { s with heap := h', toks := tk } ∧ Holds prog w h' D (uniq xs) ∧ ∀ c o, c < D → s.heap.get? c = some o → h'.get? c = some o) E)
        PySem.F.called_set.init.plain PySem.F.entry_set_init (check_set_init_1 tyD ?_)) fun r2 s2 hr2 => ?_
      · obtain ⟨⟨lc, ld, lda, lsl⟩, hol, hcl, nl, hdl⟩ := id hl
        simp only at hcl hdl
        subst hcl hdl
        have atL : (s.heap.push (freshSet b)).get? l = some { cls := .type "list", dict := ld, data := .seq items nl, slots := lsl } := Heap.get?_push_of_some _ hol
        have isL : (s.heap.push (freshSet b)).IsList l items := ⟨_, atL, rfl, nl, rfl⟩
        have f1 := PySem.F.sub_list_set
        have f2 := PySem.F.sub_list_frozenset
        have f3 : (Value.type "list" == Value.type "dict") = false := by decide
        unfold Builtin.«set.__init__» noKeywords Builtin.Frozenset.updateFrom
        generalize hPI : pyIter = PI
        wp_walk
        subst hPI
        refine wpAny_pyIter_list isL ?_
        refine wpAny_bind (wpAny_runValue ?_)
        have lD : l < D := by rw [← hD]; exact Heap.lt_size hol
        have szI : (s.heap.push (freshSet b)).objs.size = D + 1 := by rw [Heap.size_push, hD]
        have neI : l ≠ (s.heap.push (freshSet b)).objs.size := by rw [szI]; exact Nat.ne_of_lt (Nat.lt_succ_of_lt lD)
        have nD : D ∉ [(s.heap.push (freshSet b)).objs.size, l] := by
          rw [szI]
          intro q
          rcases List.mem_cons.mp q with q | q
          · exact Nat.ne_of_lt (Nat.lt_succ_self _) q
          · rcases List.mem_cons.mp q with q | q
            · exact Nat.ne_of_gt lD q
            · cases q
        have Wk := (Walks.list (prog := prog) (w := w) (A := A.in1.in1.in1) (by simp [calm]) (s.heap.push (freshSet b)).objs.size l neI items).toS
        rw [nItems] at Wk
        refine fill Wk nD few (fun i v q => strs_get hx i v (by rw [Array.getElem?_toList]; exact q)) _ (fun s3 mv hH => ?_) xs.length 0 _ (Nat.zero_add _) ⟨⟨_, Heap.get?_push_size _ rfl, rfl, rfl⟩, isL.push _⟩ (Moved.refl fun _ => rfl) ?_
        · obtain ⟨h3, g3, d3, k3, o3⟩ := s3
          have q1 : g3 = s.gens := mv.gens
          have q2 : d3 = s.drawn := mv.drawn
          have q3 : o3 = s.os := mv.os
          subst q1 q2 q3
          show wpAny _ _ _ _ _ _
          refine wpAny_pure ?_
          show wpAny _ _ (ret Value.none) _ _ _
          refine wpAny_pure ⟨rfl, h3, k3, rfl, hH, fun c o hc e => ?_⟩
          refine mv.heap c o (fun q => ?_) (Heap.get?_push_of_some _ (Heap.get?_push_of_some _ e))
          rcases List.mem_cons.mp q with q | q
          · exact Nat.ne_of_lt hc q
          · rcases List.mem_cons.mp q with q | q
            · rw [szI] at q
              exact Nat.ne_of_lt (Nat.lt_succ_of_lt hc) q
            · cases q
        · have at2 : ((s.heap.push (freshSet b)).push { cls := .type "list_iterator", data := .fields #[.ref l, .int 0 0] }).get? D = some (freshSet b) := Heap.get?_push_of_some _ atD
          exact SetOf_congr ((setObjOf_fresh (knd := PySem.strKind prog w) b).setOf at2 (by unfold scanBound; omega)) (fun _ => rfl) rfl
      · rcases r2 with e | fl2
        · exact hr2
        · cases fl2 with
          | ret v2 =>
            obtain ⟨rfl, h3, k3, rfl, hH, kk⟩ := hr2
            repeat (any_goals (first | assumption | wp_step))
            exact next _ _ hH kk
          | _ => exact hr2.elim
    | _ => exact hr.elim
end
/-- len(set(xs)), a list of texts -/
def tLenU (K : PySem.W.Frag) (ta : TE) : TE := fun σ H Q => ta σ H fun x H1 => ∃ (l : Addr) (xs : List Str), x = .ref l ∧ SqL K H1 l (xs.map V.str) ∧ xs.length < 4000 ∧ Q (.int ((uniq xs).length : Nat)) H1
theorem pe_lenU {X : Cx} {a : Expr} {ta : TE} {p p2 q pos : Pos} (hg : Gl X "len") (hm : X.mg "len" = none) (hg2 : Gl X "set") (hm2 : X.mg "set" = none) (ha : PE X a ta) (hc : X.calm = true := by rfl)
    (na : starEach [a] X.env = (false, eval a X.env) :: starEach [] X.env := by rfl) : PE X (.Call (.Name "len" p) [.Call (.Name "set" p2) [a] [] q] [] pos) (tLenU X.K ta) := by
  refine ⟨fun pins s σ H Q I h => ?_⟩
  refine Call_ (ld_blt I hg hm boot_len (PyProof.Rows.callWith_builtin1 (PyProof.Rows.args_cons ?_ rfl) rfl rfl))
  refine Call_ (ld_blt I hg2 hm2 boot_set (PyProof.Rows.callWith_type1 (PyProof.Rows.args_cons (thn (ha.run pins s σ H _ I h) fun v s1 hv => PyProof.Rows.args_nil ?_) na) na rfl))
  obtain ⟨x, H1, I1, r1, l, xs, rfl, hq, few, k⟩ := hv
  cases r1
  obtain ⟨its, rv, pl, hz⟩ := I1.list hq
  refine set_of (I1.ok.hd hc) pl.isList (by simpa using strsAre_of rv) few fun h3 tk hH kk => ?_
  refine PyProof.Rows.args_nil ?_
  obtain ⟨o, es, ep, t, ho, hex, hd, _, _, _, hf, hn⟩ := hH
  have I2 : L2.Inv X pins σ H1 { s1 with heap := h3, toks := tk } := I1.kept fun b o e => kk b o (Heap.lt_size e) e
  have le : (uniq xs).length ≤ xs.length := by
    have := upTo_le xs xs.length
    unfold upTo at this
    rw [List.take_length] at this
    exact this
  exact call_len_set ho hex hd hf (by rw [hn]; omega) ⟨.int ((uniq xs).length : Nat), H1, I2.tok _, ⟨_, by rw [hn]⟩, k⟩
end SL
set_option Elab.async false
set_option linter.all false
set_option maxRecDepth 100000
set_option maxHeartbeats 4000000
namespace JF
open PySem PySem.Spec PyProof.Rows L2 GxR GA
/-- the turns of a clause, over a walk -/
theorem turns_it {J : It} {n : Nat} {G : Hp → Prop} {Y : Nat → Hp → V → Hp → Prop} (w : Walk J n G Y) {g : TG} {vs : List Nat} {tb : L3.TBd} {σ : L2.St} {H : Hp} {Φ : Hp → Prop} (Pv : Nat → Hp → Prop) (h0 : Pv 0 H) (hG : ∀ i H, i ≤ n → Pv i H → G H)
    (hs : ∀ i x H H', i < n → Pv i H → Y i H x H' → g x (wipe σ vs) H' fun σ2 H2 => wipe σ2 vs = wipe σ vs ∧ tb σ2 H2 (Pv (i + 1))) (hd : ∀ H, Pv n H → Φ H) :
    ∃ W : Nat → Nat → Hp → Prop, (∃ m, W 0 m H) ∧ L3.tTurns J g vs tb σ Φ W := by
  refine ⟨fun i m H => m = n - i ∧ i ≤ n ∧ Pv i H, ⟨n, by simp, Nat.zero_le _, h0⟩, ?_⟩
  rintro i m H ⟨rfl, hi, p⟩
  have q := hG i H hi p
  by_cases hlt : i < n
  · exact .inr ⟨w.goes i H hlt q, Pv (i + 1), fun H' p' => ⟨n - (i + 1), by omega, rfl, hlt, p'⟩, fun x H' y => hs i x H H' hlt p (w.yields i H x H' hlt q y)⟩
  · have e : i = n := by omega
    subst e
    exact .inl ⟨w.stops H q, hd H p⟩
/-! ### kinds as they are read -/
abbrev Mk' := Str × List Str
abbrev Kd := Str × List Mk'
section
variable (K : PySem.W.Frag) (H : Hp)
def FieldsAt (v : V) (fs : List Str) : Prop := ∃ a, v = .ref a ∧ SqT K H a (fs.map V.str)
def MakerAt (v : V) (m : Mk') : Prop := ∃ a vf, v = .ref a ∧ SqT K H a [.str m.1, vf] ∧ FieldsAt K H vf m.2
def MakersAt (v : V) (ms : List Mk') : Prop := ∃ a xs, v = .ref a ∧ SqT K H a xs ∧ Paired (MakerAt K H) xs ms
def KindAt (v : V) (k : Kd) : Prop := ∃ a vm, v = .ref a ∧ SqT K H a [.str k.1, vm] ∧ MakersAt K H vm k.2
def KindsAt (v : V) (ks : List Kd) : Prop := ∃ a xs, v = .ref a ∧ SqT K H a xs ∧ Paired (KindAt K H) xs ks
end
section
variable {K : PySem.W.Frag} {H H' : Hp} {T : List Addr}
theorem paired_get {α β : Type} {F : α → β → Prop} : ∀ {xs : List α} {ys : List β} {i : Nat} {x : α}, Paired F xs ys → xs[i]? = some x → ∃ y, ys[i]? = some y ∧ F x y
  | _, _, _, _, .nil, h => by simp at h
  | _, _, 0, x, .cons r _, h => by
    have e : _ = x := Option.some.inj h
    subst e
    exact ⟨_, rfl, r⟩
  | _, _, i + 1, x, .cons _ t, h => paired_get (i := i) (x := x) t h
theorem paired_imp {α β : Type} {F G : α → β → Prop} (f : ∀ a b, F a b → G a b) : ∀ {xs : List α} {ys : List β}, Paired F xs ys → Paired G xs ys
  | _, _, .nil => .nil
  | _, _, .cons r t => .cons (f _ _ r) (paired_imp f t)
theorem paired_len {α β : Type} {F : α → β → Prop} {xs : List α} {ys : List β} (r : Paired F xs ys) : xs.length = ys.length := Paired.length r
/-- what reads sequences alone is as in H at any heap that reads them alike -/
theorem FieldsAt.to (q : ∀ a xs, SqT K H a xs → SqT K H' a xs) {v : V} {fs : List Str} (h : FieldsAt K H v fs) : FieldsAt K H' v fs := by
  obtain ⟨a, e, h⟩ := h
  exact ⟨a, e, q _ _ h⟩
theorem MakerAt.to (q : ∀ a xs, SqT K H a xs → SqT K H' a xs) {v : V} {m : Mk'} (h : MakerAt K H v m) : MakerAt K H' v m := by
  obtain ⟨a, vf, e, h1, h2⟩ := h
  exact ⟨a, vf, e, q _ _ h1, h2.to q⟩
theorem MakersAt.to (q : ∀ a xs, SqT K H a xs → SqT K H' a xs) {v : V} {ms : List Mk'} (h : MakersAt K H v ms) : MakersAt K H' v ms := by
  obtain ⟨a, xs, e, h1, h2⟩ := h
  exact ⟨a, xs, e, q _ _ h1, paired_imp (fun _ _ z => z.to q) h2⟩
theorem KindAt.to (q : ∀ a xs, SqT K H a xs → SqT K H' a xs) {v : V} {k : Kd} (h : KindAt K H v k) : KindAt K H' v k := by
  obtain ⟨a, vf, e, h1, h2⟩ := h
  exact ⟨a, vf, e, q _ _ h1, h2.to q⟩
theorem KindsAt.to (q : ∀ a xs, SqT K H a xs → SqT K H' a xs) {v : V} {ks : List Kd} (h : KindsAt K H v ks) : KindsAt K H' v ks := by
  obtain ⟨a, xs, e, h1, h2⟩ := h
  exact ⟨a, xs, e, q _ _ h1, paired_imp (fun _ _ z => z.to q) h2⟩
theorem sqT_new {p : Addr} {o : HO} (n : H p = none) : ∀ a xs, SqT K H a xs → SqT K (upd H p o) a xs := fun a xs h => by
  rcases h with (h | ⟨ob, h⟩) | h
  · exact .inl (.inl (by rw [upd_ne (ne_of_none h n)]; exact h))
  · exact .inl (.inr ⟨ob, by rw [upd_ne (ne_of_none h n)]; exact h⟩)
  · exact .inr h
end
/-! ### what is_kinds tells -/
def isFields : PyData → Bool := isTup 0 4 isField
def isMaker : PyData → Bool := isPair isHigh isFields
def isMakers : PyData → Bool := isTup 1 6 isMaker
def isKind : PyData → Bool := isPair isHigh isMakers
def strOf : PyData → Str
  | .str z => z
  | _ => ""
def itemsOf : PyData → List PyData
  | .tuple ds => ds
  | _ => []
def fstOf (d : PyData) : PyData := (itemsOf d).getD 0 .none
def sndOf (d : PyData) : PyData := (itemsOf d).getD 1 .none
def fieldsOf (d : PyData) : List Str := (itemsOf d).map strOf
def makerOf (d : PyData) : Mk' := (strOf (fstOf d), fieldsOf (sndOf d))
def makersOf (d : PyData) : List Mk' := (itemsOf d).map makerOf
def kindOf' (d : PyData) : Kd := (strOf (fstOf d), makersOf (sndOf d))
def kindsOf (d : PyData) : List Kd := (itemsOf d).map kindOf'
def kNames (ks : List Kd) : List Str := ks.map (·.1)
def kMakers (ks : List Kd) : List Str := ks.flatMap fun k => k.2.map (·.1)
def kWords (ks : List Kd) : List Str := ks.flatMap fun k => k.2.flatMap (·.2)
/-- unlike names, fields of kinds -/
def goodK (ks : List Kd) : Bool := !(decide ((SL.uniq (kNames ks)).length < (kNames ks).length) || decide ((SL.uniq (kMakers ks)).length < (kMakers ks).length)) && (kWords ks).all fun w => decide (w = "number") || inV (.str w) ((kNames ks).map V.str)
def isKinds (d : PyData) : Bool := isTup 1 6 isKind d && goodK (kindsOf d)
section
variable {K : PySem.W.Frag} {H : Hp}
theorem isHigh_str {d : PyData} (h : isHigh d = true) : ∃ z, d = .str z := by
  cases d <;> first | exact ⟨_, rfl⟩ | cases h
theorem isField_str {d : PyData} (h : isField d = true) : ∃ z, d = .str z := by
  cases d <;> first | exact ⟨_, rfl⟩ | cases h
theorem rp_str {v : V} {z : Str} (r : Rp K H v (.str z)) : v = .str z := by cases r; rfl
theorem strs_of : ∀ {xs : List V} {ds : List PyData}, RpAll K H xs ds → ds.all isField = true → xs = (ds.map strOf).map V.str
  | _, _, .nil, _ => rfl
  | _, _, .cons r t, h => by
    rw [List.all_cons, Bool.and_eq_true] at h
    obtain ⟨z, rfl⟩ := isField_str h.1
    rw [strs_of t h.2, rp_str r]
    rfl
theorem isTup_true {lo hi : Int} {f : PyData → Bool} {d : PyData} (h : isTup lo hi f d = true) : ∃ ds, d = .tuple ds ∧ lo ≤ (ds.length : Int) ∧ (ds.length : Int) ≤ hi ∧ ds.all f = true := by
  cases d with
  | tuple ds =>
    have h : ((decide (lo ≤ (ds.length : Int)) && decide ((ds.length : Int) ≤ hi)) && ds.all f) = true := h
    simp only [Bool.and_eq_true, decide_eq_true_eq] at h
    exact ⟨ds, rfl, h.1.1, h.1.2, h.2⟩
  | _ => cases h
theorem isPair_true {f g : PyData → Bool} {d : PyData} (h : isPair f g d = true) : ∃ a b, d = .tuple [a, b] ∧ f a = true ∧ g b = true := by
  cases d with
  | tuple ds =>
    match ds, h with
    | [a, b], h =>
      have h : (f a && g b) = true := h
      rw [Bool.and_eq_true] at h
      exact ⟨a, b, rfl, h.1, h.2⟩
  | _ => cases h
theorem fieldsAt {v : V} {d : PyData} (r : Rp K H v d) (h : isFields d = true) : FieldsAt K H v (fieldsOf d) := by
  obtain ⟨ds, rfl, _, _, ha⟩ := isTup_true h
  cases r with
  | @tup a xs _ hs rs => exact ⟨a, rfl, by rw [strs_of rs ha] at hs; exact hs⟩
theorem makerAt {v : V} {d : PyData} (r : Rp K H v d) (h : isMaker d = true) : MakerAt K H v (makerOf d) := by
  obtain ⟨a, b, rfl, h1, h2⟩ := isPair_true h
  obtain ⟨z, rfl⟩ := isHigh_str h1
  cases r with
  | @tup p xs _ hs rs =>
    cases rs with
    | cons r1 rs =>
    cases rs with
    | cons r2 rs =>
    cases rs
    exact ⟨p, _, rfl, by rw [rp_str r1] at hs; exact hs, fieldsAt r2 h2⟩
theorem makersAll : ∀ {xs : List V} {ds : List PyData}, RpAll K H xs ds → ds.all isMaker = true → Paired (MakerAt K H) xs (ds.map makerOf)
  | _, _, .nil, _ => .nil
  | _, _, .cons r t, h => by
    rw [List.all_cons, Bool.and_eq_true] at h
    exact .cons (makerAt r h.1) (makersAll t h.2)
theorem makersAt {v : V} {d : PyData} (r : Rp K H v d) (h : isMakers d = true) : MakersAt K H v (makersOf d) := by
  obtain ⟨ds, rfl, _, _, ha⟩ := isTup_true h
  cases r with
  | @tup a xs _ hs rs => exact ⟨a, xs, rfl, hs, makersAll rs ha⟩
theorem kindAt {v : V} {d : PyData} (r : Rp K H v d) (h : isKind d = true) : KindAt K H v (kindOf' d) := by
  obtain ⟨a, b, rfl, h1, h2⟩ := isPair_true h
  obtain ⟨z, rfl⟩ := isHigh_str h1
  cases r with
  | @tup p xs _ hs rs =>
    cases rs with
    | cons r1 rs =>
    cases rs with
    | cons r2 rs =>
    cases rs
    exact ⟨p, _, rfl, by rw [rp_str r1] at hs; exact hs, makersAt r2 h2⟩
theorem kindsAll : ∀ {xs : List V} {ds : List PyData}, RpAll K H xs ds → ds.all isKind = true → Paired (KindAt K H) xs (ds.map kindOf')
  | _, _, .nil, _ => .nil
  | _, _, .cons r t, h => by
    rw [List.all_cons, Bool.and_eq_true] at h
    exact .cons (kindAt r h.1) (kindsAll t h.2)
theorem kindsAt {v : V} {d : PyData} (r : Rp K H v d) (h : isTup 1 6 isKind d = true) : KindsAt K H v (kindsOf d) := by
  obtain ⟨ds, rfl, _, _, ha⟩ := isTup_true h
  cases r with
  | @tup a xs _ hs rs => exact ⟨a, xs, rfl, hs, kindsAll rs ha⟩
end
abbrev sFields : Stmt := topS 21
abbrev sMaker : Stmt := topS 22
abbrev sMakers : Stmt := topS 23
abbrev sKind : Stmt := topS 24
section
variable {P : Program} {w : World} {K : PySem.W.Frag} {mg : Str → Option Value} {base : Heap} {T : List Addr}
theorem in_any (d : PyData) : inTup (fun _ => True) d := by cases d <;> first | trivial | exact fun _ _ => trivial
theorem in_any2 (d : PyData) : inPair (fun _ => True) (fun _ => True) d := by
  unfold inPair
  split <;> trivial
theorem IsDef.of {k j : Nat} {g : Addr} {gd : FuncData} {f : PyData → Bool} (G : FnOk P w K mg base CX0 j g gd ["thing"] (spIs K T f)) (h : j ≤ k) (kG : PySem.W.keepIn K (.ref g) = true) (bG : Binds K gd ["thing"] []) : IsDef P w K mg base T k g (fun _ => True) f :=
  ⟨gd, "thing", spIs_D (G.mono h), kG, bG⟩

theorem scFields : FnScope ["thing"] ["thing"] (defScope sFields) := ⟨rfl, rfl, rfl, by decide +kernel, rfl, by decide +kernel, by decide +kernel⟩
theorem ok_fields {f g e : Addr} {fd gd : FuncData} (F : Fun K "are_fields" "are_fields" sFields f fd) (G : FnOk P w K mg base CX0 8 g gd ["thing", "least", "most", "fits"] (spTupleOf P w K mg base T 6)) (mG : mg "is_tuple_of" = some (.ref g)) (kG : PySem.W.keepIn K (.ref g) = true) (bG : Binds K gd ["thing", "least", "most", "fits"] [])
    (mE : mg "is_field_word" = some (.ref e)) (E : IsDef P w K mg base T 6 e (fun _ => True) isField) : FnOk P w K mg base CX0 9 f fd ["thing"] (spIs K T isFields) := by
  refine F.ok scFields (fun vs H Q E h => ?_) (fun cdv A outer s H vs Q E' hr h => ?_)
  · obtain ⟨v, d, rfl, _⟩ := h
    rfl
  · obtain ⟨v, d, rfl, r, tb, k⟩ := h
    refine ⟨_, pss_one (ps_ret (pe_call G hr rfl mG kG bG .nil pass0 (pa_cons (pv 0) (pa_cons pe_int (pa_cons pe_int (pa_cons (pe_glob (v := .ref e) rfl mE rfl) pa_nil)))))), ?_⟩
    exact ⟨v, rfl, v, d, _, _, e, _, _, rfl, r, in_any d, E, tb, k⟩

theorem scMaker : FnScope ["thing"] ["thing"] (defScope sMaker) := ⟨rfl, rfl, rfl, by decide +kernel, rfl, by decide +kernel, by decide +kernel⟩
theorem ok_maker {f g e1 e2 : Addr} {fd gd : FuncData} (F : Fun K "is_maker" "is_maker" sMaker f fd) (G : FnOk P w K mg base CX0 10 g gd ["thing", "fits_first", "fits_second"] (spPair P w K mg base T 9)) (mG : mg "is_pair" = some (.ref g)) (kG : PySem.W.keepIn K (.ref g) = true) (bG : Binds K gd ["thing", "fits_first", "fits_second"] [])
    (m1 : mg "is_high_name" = some (.ref e1)) (E1 : IsDef P w K mg base T 9 e1 (fun _ => True) isHigh) (m2 : mg "are_fields" = some (.ref e2)) (E2 : IsDef P w K mg base T 9 e2 (fun _ => True) isFields) : FnOk P w K mg base CX0 11 f fd ["thing"] (spIs K T isMaker) := by
  refine F.ok scMaker (fun vs H Q E h => ?_) (fun cdv A outer s H vs Q E' hr h => ?_)
  · obtain ⟨v, d, rfl, _⟩ := h
    rfl
  · obtain ⟨v, d, rfl, r, tb, k⟩ := h
    refine ⟨_, pss_one (ps_ret (pe_call G hr rfl mG kG bG .nil pass0 (pa_cons (pv 0) (pa_cons (pe_glob (v := .ref e1) rfl m1 rfl) (pa_cons (pe_glob (v := .ref e2) rfl m2 rfl) pa_nil))))), ?_⟩
    exact ⟨v, rfl, v, d, e1, e2, _, _, _, _, rfl, r, in_any2 d, E1, E2, tb, k⟩

theorem scMakers : FnScope ["thing"] ["thing"] (defScope sMakers) := ⟨rfl, rfl, rfl, by decide +kernel, rfl, by decide +kernel, by decide +kernel⟩
theorem ok_makers {f g e : Addr} {fd gd : FuncData} (F : Fun K "are_makers" "are_makers" sMakers f fd) (G : FnOk P w K mg base CX0 13 g gd ["thing", "least", "most", "fits"] (spTupleOf P w K mg base T 11)) (mG : mg "is_tuple_of" = some (.ref g)) (kG : PySem.W.keepIn K (.ref g) = true) (bG : Binds K gd ["thing", "least", "most", "fits"] [])
    (mE : mg "is_maker" = some (.ref e)) (E : IsDef P w K mg base T 11 e (fun _ => True) isMaker) : FnOk P w K mg base CX0 14 f fd ["thing"] (spIs K T isMakers) := by
  refine F.ok scMakers (fun vs H Q E h => ?_) (fun cdv A outer s H vs Q E' hr h => ?_)
  · obtain ⟨v, d, rfl, _⟩ := h
    rfl
  · obtain ⟨v, d, rfl, r, tb, k⟩ := h
    refine ⟨_, pss_one (ps_ret (pe_call G hr rfl mG kG bG .nil pass0 (pa_cons (pv 0) (pa_cons pe_int (pa_cons pe_int (pa_cons (pe_glob (v := .ref e) rfl mE rfl) pa_nil)))))), ?_⟩
    exact ⟨v, rfl, v, d, _, _, e, _, _, rfl, r, in_any d, E, tb, k⟩

theorem scKind : FnScope ["thing"] ["thing"] (defScope sKind) := ⟨rfl, rfl, rfl, by decide +kernel, rfl, by decide +kernel, by decide +kernel⟩
theorem ok_kind {f g e1 e2 : Addr} {fd gd : FuncData} (F : Fun K "is_kind" "is_kind" sKind f fd) (G : FnOk P w K mg base CX0 15 g gd ["thing", "fits_first", "fits_second"] (spPair P w K mg base T 14)) (mG : mg "is_pair" = some (.ref g)) (kG : PySem.W.keepIn K (.ref g) = true) (bG : Binds K gd ["thing", "fits_first", "fits_second"] [])
    (m1 : mg "is_high_name" = some (.ref e1)) (E1 : IsDef P w K mg base T 14 e1 (fun _ => True) isHigh) (m2 : mg "are_makers" = some (.ref e2)) (E2 : IsDef P w K mg base T 14 e2 (fun _ => True) isMakers) : FnOk P w K mg base CX0 16 f fd ["thing"] (spIs K T isKind) := by
  refine F.ok scKind (fun vs H Q E h => ?_) (fun cdv A outer s H vs Q E' hr h => ?_)
  · obtain ⟨v, d, rfl, _⟩ := h
    rfl
  · obtain ⟨v, d, rfl, r, tb, k⟩ := h
    refine ⟨_, pss_one (ps_ret (pe_call G hr rfl mG kG bG .nil pass0 (pa_cons (pv 0) (pa_cons (pe_glob (v := .ref e1) rfl m1 rfl) (pa_cons (pe_glob (v := .ref e2) rfl m2 rfl) pa_nil))))), ?_⟩
    exact ⟨v, rfl, v, d, e1, e2, _, _, _, _, rfl, r, in_any2 d, E1, E2, tb, k⟩
end
end JF
set_option Elab.async false
set_option linter.all false
set_option maxRecDepth 100000
set_option maxHeartbeats 4000000
namespace JF
open PySem PySem.Spec PyProof.Rows L2 GxR GA
theorem pg_two {X : Cx} {K : PySem.W.Frag} {i j k : Nat} {x y : Str} {p q pos : Pos} (hK : X.K = K) (hc : X.calm = true) (hN : X.N.Nodup) (hi : X.N[i]? = some x) (hj : X.N[j]? = some y) (hx : X.env.scope.names.lookup x = some .local) (hy : X.env.scope.names.lookup y = some .local) :
    PG X (.Tuple [.Name x p, .Name y q] k pos) (gTup K 2 (gCons (gName i) (gCons (gName j) gNil))) := by
  rw [← hK]
  exact pg_tup hc (pgs_cons (pg_name hN hi (.inl hx) (.inr hx)) (pgs_cons (pg_name hN hj (.inl hy) (.inr hy)) pgs_nil))
theorem pi_nm {X : Cx} {K : PySem.W.Frag} {tg : Expr} {i : Nat} {x : Str} {pos : Pos} (hK : X.K = K) (hN : X.N[i]? = some x) (hx : X.env.scope.names.lookup x = some .local) (hd : (x == ("__debug__" : Str)) = false) (hcd : (x == ("__classdict__" : Str)) = false) : PI X tg (.Name x pos) (iTup K (tVar i)) := by
  rw [← hK]
  exact pi_tup (pv i hN (.inl hx) hd hcd)
theorem op_inK {X : Cx} {K : PySem.W.Frag} (h : X.K = K) : OpR X (compareOp .In) (rIn K false) := by
  rw [← h]
  exact op_in_seq
theorem lcB_it {J : It} {n : Nat} {G : Hp → Prop} {Y : Nat → Hp → V → Hp → Prop} (w : Walk J n G Y) {g : TG} {tt : TT} {vs : List Nat} {σ : L2.St} {Hs : Hp} {Qd : Hp → Prop} {B : L2.St → Bool → Hp → (Hp → Prop) → Prop} (Pv : Nat → Hp → Prop) (h0 : Pv 0 Hs) (hG : ∀ i H, i ≤ n → Pv i H → G H)
    (hs : ∀ i x H H', i < n → Pv i H → Y i H x H' → g x (wipe σ vs) H' fun σ2 H2 => wipe σ2 vs = wipe σ vs ∧ tt σ2 H2 fun b H3 => B σ2 b H3 (Pv (i + 1))) (hd : ∀ H, Pv n H → Qd H) :
    ∃ W : Nat → Nat → Hp → Prop, (∃ m, W 0 m Hs) ∧ ∀ i m H, W i m H →
      (J.stop i H ∧ Qd H) ∨ (J.go i H ∧ ∃ Nx : Hp → Prop, (∀ H', Nx H' → ∃ m', m' < m ∧ W (i + 1) m' H') ∧ ∀ x H', J.yld i H x H' → g x (wipe σ vs) H' fun σ2 H2 => wipe σ2 vs = wipe σ vs ∧ tt σ2 H2 fun b H3 => B σ2 b H3 Nx) := by
  refine ⟨fun i m H => m = n - i ∧ i ≤ n ∧ Pv i H, ⟨n, by simp, Nat.zero_le _, h0⟩, ?_⟩
  rintro i m H ⟨rfl, hi, p⟩
  have q := hG i H hi p
  by_cases hlt : i < n
  · refine .inr ⟨w.goes i H hlt q, Pv (i + 1), fun H' p' => ⟨n - (i + 1), by omega, rfl, hlt, p'⟩, fun x H' y => hs i x H H' hlt p (w.yields i H x H' hlt q y)⟩
  · have e : i = n := by omega
    subst e
    exact .inl ⟨w.stops H q, hd H p⟩
theorem drop_at {α : Type} {l : List α} {i : Nat} {x : α} (h : l[i]? = some x) : l.drop i = x :: l.drop (i + 1) := by
  obtain ⟨hi, rfl⟩ := List.getElem?_eq_some_iff.mp h
  exact List.drop_eq_getElem_cons hi
theorem len_of_app {α : Type} {xs ys zs : List α} (h : xs ++ ys = zs) : xs.length ≤ zs.length := by
  rw [← h, List.length_append]; omega
theorem yesT {σ : L2.St} {H : Hp} {A B : Bool → Hp → Prop} (h : A true H) : tYes σ H fun b H3 => if b = true then A b H3 else B b H3 := by
  show if true = true then A true H else B true H
  rw [if_pos rfl]
  exact h
theorem wipe_setN (σ : L2.St) (i : Nat) (a : Option V) : ∀ vs : List Nat, i ∉ vs → wipe (σ.set i a) vs = (wipe σ vs).set i a
  | [], _ => rfl
  | v :: vs, h => by
    have h1 : i ≠ v := fun e => h (e ▸ List.mem_cons_self ..)
    have h2 : i ∉ vs := fun e => h (List.mem_cons_of_mem _ e)
    show (wipe (σ.set i a) vs).set v none = ((wipe σ vs).set v none).set i a
    rw [wipe_setN σ i a vs h2, List.set_comm _ _ h1]
theorem wipe_in (σ : L2.St) (i : Nat) (a : Option V) : ∀ vs : List Nat, i ∈ vs → wipe (σ.set i a) vs = wipe σ vs
  | v :: vs, h => by
    show (wipe (σ.set i a) vs).set v none = (wipe σ vs).set v none
    by_cases h2 : i ∈ vs
    · rw [wipe_in σ i a vs h2]
    · have h1 : i = v := by
        rcases List.mem_cons.mp h with e | e
        · exact e
        · exact absurd e h2
      subst h1
      rw [wipe_setN σ i a vs h2, List.set_set]
theorem lt10 {i m : Nat} (h : i < 10) (e : 10 = m) : i < m := e ▸ h
theorem g_two {K : PySem.W.Frag} {b : Addr} {x y : V} {σ : L2.St} {vs : List Nat} {i j : Nat} {H : Hp} {C : L2.St → Hp → Prop} (hb : SqT K H b [x, y]) (hi : i ∈ vs) (hj : j ∈ vs) (hij : i ≠ j) (li : i < σ.length) (lj : j < σ.length)
    (h : ∀ σ2 : L2.St, σ2.length = σ.length → (∀ n, n ∉ vs → σ2[n]? = σ[n]?) → σ2[i]? = some (some x) → σ2[j]? = some (some y) → C σ2 H) :
    gTup K 2 (gCons (gName i) (gCons (gName j) gNil)) (.ref b) (wipe σ vs) H fun σ2 H2 => wipe σ2 vs = wipe σ vs ∧ C σ2 H2 := by
  refine ⟨b, _, rfl, hb, rfl, _, _, rfl, _, _, rfl, rfl, ?_, h _ ?_ (fun n hn => ?_) ?_ ?_⟩
  · rw [wipe_in _ _ _ _ hj, wipe_in _ _ _ _ hi, L3.wipe_wipe]
  · rw [List.length_set, List.length_set, wipe_length]
  · rw [List.getElem?_set_ne (fun e : j = n => hn (e ▸ hj)), List.getElem?_set_ne (fun e : i = n => hn (e ▸ hi)), wipe_out hn]
  · rw [List.getElem?_set_ne hij.symm]
    exact List.getElem?_set_self (by rw [wipe_length]; exact li)
  · exact List.getElem?_set_self (by rw [List.length_set, wipe_length]; exact lj)
theorem g_one {x : V} {σ : L2.St} {vs : List Nat} {i : Nat} {H : Hp} {C : L2.St → Hp → Prop} (hi : i ∈ vs) (li : i < σ.length)
    (h : ∀ σ2 : L2.St, σ2.length = σ.length → (∀ n, n ∉ vs → σ2[n]? = σ[n]?) → σ2[i]? = some (some x) → C σ2 H) :
    gName i x (wipe σ vs) H fun σ2 H2 => wipe σ2 vs = wipe σ vs ∧ C σ2 H2 := by
  refine ⟨?_, h _ ?_ (fun n hn => ?_) ?_⟩
  · rw [wipe_in _ _ _ _ hi, L3.wipe_wipe]
  · rw [List.length_set, wipe_length]
  · rw [List.getElem?_set_ne (fun e : i = n => hn (e ▸ hi)), wipe_out hn]
  · exact List.getElem?_set_self (by rw [wipe_length]; exact li)
abbrev sKinds : Stmt := topS 25
theorem flat_len {α β : Type} (f : α → List β) (c : Nat) : ∀ l : List α, (∀ x ∈ l, (f x).length ≤ c) → (l.flatMap f).length ≤ l.length * c
  | [], _ => by simp
  | x :: l, h => by
    rw [List.flatMap_cons, List.length_append, List.length_cons, Nat.succ_mul]
    have h1 := h x (List.mem_cons_self ..)
    have h2 := flat_len f c l fun y hy => h y (List.mem_cons_of_mem _ hy)
    omega
/-- at most six kinds of six makers of four fields -/
structure Few (ks : List Kd) : Prop where
  kn : ks.length ≤ 6
  ms : ∀ k ∈ ks, k.2.length ≤ 6
  fs : ∀ k ∈ ks, ∀ m ∈ k.2, m.2.length ≤ 4
theorem few_of {d : PyData} (h : isTup 1 6 isKind d = true) : Few (kindsOf d) := by
  obtain ⟨ds, rfl, _, h6, ha⟩ := isTup_true h
  have mk : ∀ x ∈ ds, isKind x = true := fun x hx => List.all_eq_true.mp ha x hx
  refine ⟨by show (ds.map kindOf').length ≤ 6; rw [List.length_map]; omega, fun k hk => ?_, fun k hk m hm => ?_⟩
  · obtain ⟨x, hx, rfl⟩ := List.mem_map.mp (show k ∈ ds.map kindOf' from hk)
    obtain ⟨a, b, rfl, _, h2⟩ := isPair_true (mk x hx)
    obtain ⟨es, rfl, _, g6, _⟩ := isTup_true h2
    show (es.map makerOf).length ≤ 6
    rw [List.length_map]; omega
  · obtain ⟨x, hx, rfl⟩ := List.mem_map.mp (show k ∈ ds.map kindOf' from hk)
    obtain ⟨a, b, rfl, _, h2⟩ := isPair_true (mk x hx)
    obtain ⟨es, rfl, _, _, he⟩ := isTup_true h2
    obtain ⟨y, hy, rfl⟩ := List.mem_map.mp (show m ∈ es.map makerOf from hm)
    obtain ⟨a2, b2, rfl, _, g2⟩ := isPair_true (List.all_eq_true.mp he y hy)
    obtain ⟨fs, rfl, _, f4, _⟩ := isTup_true g2
    show (fs.map strOf).length ≤ 4
    rw [List.length_map]; omega
theorem Few.makers {ks : List Kd} (h : Few ks) : (kMakers ks).length ≤ 36 := by
  have := flat_len (fun k : Kd => k.2.map (·.1)) 6 ks fun k hk => by rw [List.length_map]; exact h.ms k hk
  have h6 := h.kn
  unfold kMakers
  omega
theorem Few.words {ks : List Kd} (h : Few ks) : (kWords ks).length ≤ 144 := by
  have := flat_len (fun k : Kd => k.2.flatMap (·.2)) 24 ks fun k hk => by
    have := flat_len (fun m : Mk' => m.2) 4 k.2 fun m hm => h.fs k hk m hm
    have h6 := h.ms k hk
    omega
  have h6 := h.kn
  unfold kWords
  omega
section
variable {P : Program} {w : World} {K : PySem.W.Frag} {mg : Str → Option Value} {base : Heap} {T : List Addr}
theorem scKinds : FnScope ["thing", "names", "makers", "words", "name", "_", "made", "maker", "fields", "word"] ["thing"] (defScope sKinds) := ⟨rfl, rfl, rfl, by decide +kernel, rfl, by decide +kernel, by decide +kernel⟩
theorem ok_kinds {f c Pt g e : Addr} {fd gd : FuncData} (F : FunC K "is_kinds" "is_kinds" sKinds f fd c) (B : BI mg) (Bs : mg "set" = none) (TB : TabB base mg c Pt) (hT : Pt ∈ T)
    (G : FnOk P w K mg base CX0 18 g gd ["thing", "least", "most", "fits"] (spTupleOf P w K mg base T 16)) (mG : mg "is_tuple_of" = some (.ref g)) (kG : PySem.W.keepIn K (.ref g) = true) (bG : Binds K gd ["thing", "least", "most", "fits"] [])
    (mE : mg "is_kind" = some (.ref e)) (E : IsDef P w K mg base T 16 e (fun _ => True) isKind) : FnOk P w K mg base CX0 19 f fd ["thing"] (spIs K T isKinds) := by
  refine F.ok scKinds (fun vs H Q E h => ?_) (fun A outer s H vs Q E' hr h => ?_)
  · obtain ⟨v, d, rfl, _⟩ := h
    rfl
  · obtain ⟨v, d, rfl, r, tb, k⟩ := h
    refine ⟨_, pss_cons (ps_if (pt_not (pt_val (pe_call G hr rfl mG kG bG .nil pass0 (pa_cons (pv 0) (pa_cons pe_int (pa_cons pe_int (pa_cons (pe_glob (v := .ref e) rfl mE rfl) pa_nil))))))) (pss_one (ps_ret pe_bl)) pss_nil)
      (pss_cons (ps_set (i := 1) scKinds.nd rfl (.inr rfl) (pe_lc (own := [("name", 4), ("_", 5)]) (by rfl) scKinds.nd (pi_tup (pv 0)) (blkOk_by (N := ["thing", "names", "makers", "words", "name", "_", "made", "maker", "fields", "word"]) (sc := defScope sKinds) (by decide +kernel))
        (fun _ _ _ _ _ => pg_two (K := K) (i := 4) (j := 5) rfl rfl scKinds.nd rfl rfl rfl rfl) (fun _ _ _ _ _ => pts_nil) (fun _ _ _ _ _ => pv 4)))
      (pss_cons (ps_setLc2 (i := 2) (own := [("_", 5), ("made", 6), ("maker", 7)]) (vs1 := [7, 5]) (by rfl) scKinds.nd rfl rfl (sw_true rfl rfl rfl (by decide +kernel)) (pi_tup (pv 0)) (blkOk_by (N := ["thing", "names", "makers", "words", "name", "_", "made", "maker", "fields", "word"]) (sc := defScope sKinds) (by decide +kernel)) (by decide)
        (fun _ _ _ _ _ => pg_two (K := K) (i := 5) (j := 6) rfl rfl scKinds.nd rfl rfl rfl rfl) (fun _ _ _ _ _ => pts_nil)
        (fun _ _ _ _ _ => pi_nm (K := K) (i := 6) rfl rfl rfl rfl rfl)
        (fun _ _ _ _ _ => pg_two (K := K) (i := 7) (j := 5) rfl rfl scKinds.nd rfl rfl rfl rfl) (fun _ _ _ _ _ => pts_nil) (fun _ _ _ _ _ => pv 7))
      (pss_cons (L3.ps_setLc3 (i := 3) (own := [("_", 5), ("made", 6), ("fields", 8), ("word", 9)]) (vs1 := [5, 8, 9]) (vs2 := [9]) (by rfl) scKinds.nd rfl rfl (sw_true rfl rfl rfl (by decide +kernel)) (pi_tup (pv 0)) (blkOk_by (N := ["thing", "names", "makers", "words", "name", "_", "made", "maker", "fields", "word"]) (sc := defScope sKinds) (by decide +kernel)) (by decide) (by decide)
        (fun _ _ _ _ _ => pg_two (K := K) (i := 5) (j := 6) rfl rfl scKinds.nd rfl rfl rfl rfl)
        (fun _ _ _ _ _ => pi_nm (K := K) (i := 6) rfl rfl rfl rfl rfl)
        (fun _ _ _ _ _ => pg_two (K := K) (i := 5) (j := 8) rfl rfl scKinds.nd rfl rfl rfl rfl)
        (fun _ _ _ _ _ => pi_nm (K := K) (i := 8) rfl rfl rfl rfl rfl)
        (fun _ _ _ _ _ => pg_name (i := 9) scKinds.nd rfl (.inl rfl))
        (fun _ _ _ _ _ => pv 9))
      (pss_cons (ps_if (PW.pt (pw_or (pt_cmpR op_lt (SL.pe_lenU rfl B.len rfl Bs (pv 1)) (pe_callB call_len_seq (by rfl) B.len PySem.boot_len (pa_cons (pv 1) pa_nil)) (nomark _))
        (pw_or1 (pt_cmpR op_lt (SL.pe_lenU rfl B.len rfl Bs (pv 2)) (pe_callB call_len_seq (by rfl) B.len PySem.boot_len (pa_cons (pv 2) pa_nil)) (nomark _))))) (pss_one (ps_ret pe_bl)) pss_nil)
      (pss_one (ps_ret (pe_allG (own := [("word", 9)]) (g := gName 9) (k := 17) hr rfl B.all rfl scKinds.nd TB rfl (pi_list (pv 3)) (blkOk_by (N := ["thing", "names", "makers", "words", "name", "_", "made", "maker", "fields", "word"]) (sc := defScope sKinds) (by decide +kernel)) (by decide +kernel) rfl (by decide +kernel)
        (fun _ _ _ _ _ _ _ _ => pg_name (i := 9) scKinds.nd rfl (.inl rfl))
        (fun _ _ _ _ _ _ _ _ => pe_or (pe_cmpR op_eq (pv 9) pe_str (nomark _)) (pe_one (pe_cmpR (op_inK (K := K) rfl) (pv 9) (pv 1) rfl)))))))))), ?_⟩
    refine ⟨v, rfl, v, d, 1, 6, e, _, _, rfl, r, in_any d, E, tb, fun H1 x1 => ?_⟩
    refine ⟨_, rfl, ?_⟩
    show if (!isTup 1 6 isKind d) = true then _ else _
    cases e1 : isTup 1 6 isKind d with
    | false =>
      refine iteT ?_
      have := k H1 x1
      have e2 : isKinds d = false := by unfold isKinds; rw [e1]; rfl
      rw [e2] at this
      exact this
    | true =>
      refine iteF ?_
      have few := few_of e1
      have kk := k
      have e2 : isKinds d = goodK (kindsOf d) := by unfold isKinds; rw [e1]; rfl
      rw [e2] at kk
      obtain ⟨a, xs, rfl, hs, pr⟩ := kindsAt (r.ex x1 tb) e1
      generalize kindsOf d = ks at few kk pr
      have ln : xs.length = ks.length := paired_len pr
      refine ⟨_, rfl, a, rfl, ⟨xs, hs⟩, fun D hD => lcB_it walk_tup (fun i H' => ∃ acc : List Str, H' = upd H1 D (.lst (acc.map V.str)) ∧ acc ++ kNames (ks.drop i) = kNames ks) ⟨[], rfl, rfl⟩ (fun i H' _ ⟨acc, e, _⟩ => e ▸ sqT_new hD _ _ hs) (fun i x H' H2 hi ⟨acc, e, ea⟩ y => ?_) (fun H' ⟨acc, e, ea⟩ => ?_)⟩
      · obtain ⟨rfl, hx⟩ := y
        obtain ⟨kd, hk, b, vm, rfl, hb, _⟩ := paired_get pr hx
        subst e
        have bd : acc.length ≤ 6 := by
          have := len_of_app ea
          unfold kNames at this
          rw [List.length_map] at this
          exact Nat.le_trans this few.kn
        rw [drop_at hk] at ea
        exact g_two (sqT_new hD _ _ hb) (by decide) (by decide) (by decide) (lt10 (by decide) rfl) (lt10 (by decide) rfl) fun σ2 _ _ g4 _ => yesT ⟨_, g4, acc.map V.str, upd_same, by rw [List.length_map]; exact small1000 (by omega), acc ++ [kd.1], by rw [upd_upd, List.map_append]; rfl, by rw [← ea]; simp [kNames]⟩
      rw [ln, List.drop_length] at ea
      have ea : acc = kNames ks := by rw [← ea]; simp [kNames]
      subst ea
      subst e
      have x2 : Ex T H1 (upd H1 D (.lst ((kNames ks).map V.str))) := Ex.new hD
      have hsD : SqL K (upd H1 D (.lst ((kNames ks).map V.str))) D ((kNames ks).map V.str) := .inl (.inl upd_same)
      have q2 : ∀ b ys, SqT K H1 b ys → SqT K (upd H1 D (.lst ((kNames ks).map V.str))) b ys := sqT_new hD
      generalize upd H1 D (.lst ((kNames ks).map V.str)) = H2 at x2 hsD q2
      have pr2 : Paired (KindAt K H2) xs ks := paired_imp (fun _ _ z => z.to q2) pr
      have hs2 := q2 _ _ hs
      clear pr hs q2 hD
      -- makers
      refine ⟨_, rfl, a, rfl, ⟨xs, hs2⟩, fun D2 hD2 => lcB_it walk_tup (fun i H' => ∃ acc : List Str, H' = upd H2 D2 (.lst (acc.map V.str)) ∧ acc ++ kMakers (ks.drop i) = kMakers ks) ⟨[], rfl, rfl⟩ (fun i H' _ ⟨acc, e, _⟩ => e ▸ sqT_new hD2 _ _ hs2) (fun i x H' H3 hi ⟨acc, e, ea⟩ y => ?_) (fun H' ⟨acc, e, ea⟩ => ?_)⟩
      · obtain ⟨rfl, hx⟩ := y
        obtain ⟨kd, hk, b, vm, rfl, hb, c2, ms, rfl, hc2, pm⟩ := paired_get pr2 hx
        subst e
        rw [drop_at hk] at ea
        have lm : ms.length = kd.2.length := paired_len pm
        refine g_two (sqT_new hD2 _ _ hb) (by decide) (by decide) (by decide) (lt10 (by decide) rfl) (lt10 (by decide) rfl) fun σ2 l2 _ _ g6 => yesT ⟨_, g6, c2, rfl, ⟨ms, sqT_new hD2 _ _ hc2⟩, lcB_it walk_tup (fun j H' => ∃ acc : List Str, H' = upd H2 D2 (.lst (acc.map V.str)) ∧ acc ++ ((kd.2.drop j).map (·.1) ++ kMakers (ks.drop (i + 1))) = kMakers ks) ⟨acc, rfl, ea⟩ (fun j H' _ ⟨acc, e, _⟩ => e ▸ sqT_new hD2 _ _ hc2) (fun j x2 H' H4 hj ⟨acc, e, ea⟩ y => ?_) (fun H' ⟨acc, e, ea⟩ => ⟨acc, e, ?_⟩)⟩
        · obtain ⟨rfl, hx2⟩ := y
          obtain ⟨mk, hm, b3, vf, rfl, hb3, _⟩ := paired_get pm hx2
          subst e
          have bd : acc.length ≤ 36 := Nat.le_trans (len_of_app ea) few.makers
          rw [drop_at hm] at ea
          exact g_two (sqT_new hD2 _ _ hb3) (by decide) (by decide) (by decide) (by rw [l2]; exact lt10 (by decide) rfl) (by rw [l2]; exact lt10 (by decide) rfl) fun σ3 _ _ g7 _ => yesT ⟨_, g7, acc.map V.str, upd_same, by rw [List.length_map]; exact small1000 (by omega), acc ++ [mk.1], by rw [upd_upd, List.map_append]; rfl, by rw [← ea]; simp⟩
        · rw [lm, List.drop_length] at ea
          simpa using ea
      rw [ln, List.drop_length] at ea
      have ea : acc = kMakers ks := by rw [← ea]; simp [kMakers]
      subst ea
      subst e
      have x3 : Ex T H2 (upd H2 D2 (.lst ((kMakers ks).map V.str))) := Ex.new hD2
      have hsM : SqL K (upd H2 D2 (.lst ((kMakers ks).map V.str))) D2 ((kMakers ks).map V.str) := .inl (.inl upd_same)
      have q3 : ∀ b ys, SqT K H2 b ys → SqT K (upd H2 D2 (.lst ((kMakers ks).map V.str))) b ys := sqT_new hD2
      generalize upd H2 D2 (.lst ((kMakers ks).map V.str)) = H3 at x3 hsM q3
      have pr3 : Paired (KindAt K H3) xs ks := paired_imp (fun _ _ z => z.to q3) pr2
      have hs3 := q3 _ _ hs2
      have tb2 : TbOk T H2 := (x1.trans x2).tb tb
      have hsD3 := x3.sqL tb2 hsD
      have tb3 : TbOk T H3 := x3.tb tb2
      clear pr2 hs2 q3 hD2 hsD
      -- words
      refine ⟨_, rfl, a, rfl, ⟨xs, hs3⟩, fun D3 hD3 => turns_it walk_tup (fun i H' => ∃ acc : List Str, H' = upd H3 D3 (.lst (acc.map V.str)) ∧ acc ++ kWords (ks.drop i) = kWords ks) ⟨[], rfl, rfl⟩ (fun i H' _ ⟨acc, e, _⟩ => e ▸ sqT_new hD3 _ _ hs3) (fun i x H' H4 hi ⟨acc, e, ea⟩ y => ?_) (fun H' ⟨acc, e, ea⟩ => ?_)⟩
      · obtain ⟨rfl, hx⟩ := y
        obtain ⟨kd, hk, b, vm, rfl, hb, c2, ms, rfl, hc2, pm⟩ := paired_get pr3 hx
        subst e
        rw [drop_at hk] at ea
        have lm : ms.length = kd.2.length := paired_len pm
        refine g_two (sqT_new hD3 _ _ hb) (by decide) (by decide) (by decide) (lt10 (by decide) rfl) (lt10 (by decide) rfl) fun σ2 l2 _ _ g6 => ⟨_, g6, c2, rfl, ⟨ms, sqT_new hD3 _ _ hc2⟩, turns_it walk_tup (fun j H' => ∃ acc : List Str, H' = upd H3 D3 (.lst (acc.map V.str)) ∧ acc ++ ((kd.2.drop j).flatMap (·.2) ++ kWords (ks.drop (i + 1))) = kWords ks) ⟨acc, rfl, ea⟩ (fun j H' _ ⟨acc, e, _⟩ => e ▸ sqT_new hD3 _ _ hc2) (fun j x2 H' H4 hj ⟨acc, e, ea⟩ y => ?_) (fun H' ⟨acc, e, ea⟩ => ⟨acc, e, ?_⟩)⟩
        · obtain ⟨rfl, hx2⟩ := y
          obtain ⟨mk, hm, b3, vf, rfl, hb3, c4, rfl, hc4⟩ := paired_get pm hx2
          subst e
          rw [drop_at hm] at ea
          refine g_two (sqT_new hD3 _ _ hb3) (by decide) (by decide) (by decide) (by rw [l2]; exact lt10 (by decide) rfl) (by rw [l2]; exact lt10 (by decide) rfl) fun σ3 l3 _ _ g8 => ⟨_, g8, c4, rfl, ⟨_, sqT_new hD3 _ _ hc4⟩, turns_it walk_tup (fun l H' => ∃ acc : List Str, H' = upd H3 D3 (.lst (acc.map V.str)) ∧ acc ++ (mk.2.drop l ++ ((kd.2.drop (j + 1)).flatMap (·.2) ++ kWords (ks.drop (i + 1)))) = kWords ks) ⟨acc, rfl, by rw [← ea]; simp⟩ (fun j H' _ ⟨acc, e, _⟩ => e ▸ sqT_new hD3 _ _ hc4) (fun l x4 H' H4 hl ⟨acc, e, ea⟩ y => ?_) (fun H' ⟨acc, e, ea⟩ => ⟨acc, e, ?_⟩)⟩
          · obtain ⟨rfl, hx4⟩ := y
            rw [List.getElem?_map] at hx4
            obtain ⟨wd, hw, rfl⟩ := Option.map_eq_some_iff.mp hx4
            subst e
            have bd : acc.length ≤ 144 := Nat.le_trans (len_of_app ea) few.words
            rw [drop_at hw] at ea
            exact g_one (by decide) (by rw [l3, l2]; exact lt10 (by decide) rfl) fun σ4 _ _ g9 => ⟨_, g9, acc.map V.str, upd_same, by rw [List.length_map]; exact small1000 (by omega), acc ++ [wd], by rw [upd_upd, List.map_append]; rfl, by rw [← ea]; simp⟩
          · rw [List.length_map, List.drop_length] at ea
            simpa using ea
        · rw [lm, List.drop_length] at ea
          simpa using ea
      rw [ln, List.drop_length] at ea
      have ea : acc = kWords ks := by rw [← ea]; simp [kWords]
      subst ea
      subst e
      have x4 : Ex T H3 (upd H3 D3 (.lst ((kWords ks).map V.str))) := Ex.new hD3
      have hsW : SqL K (upd H3 D3 (.lst ((kWords ks).map V.str))) D3 ((kWords ks).map V.str) := .inl (.inl upd_same)
      generalize upd H3 D3 (.lst ((kWords ks).map V.str)) = H4 at x4 hsW
      have hsD4 := x4.sqL tb3 hsD3
      have hsM4 := x4.sqL tb3 hsM
      have tb4 : TbOk T H4 := x4.tb tb3
      have xx : Ex T H H4 := ((x1.trans x2).trans x3).trans x4
      have nn : (kNames ks).length ≤ 6 := by unfold kNames; rw [List.length_map]; exact few.kn
      have nm := few.makers
      refine ⟨_, rfl, D, kNames ks, rfl, hsD4, by omega, _, rfl, D, _, rfl, .inl hsD4, _, _, rfl, rfl, _, rfl, ?_⟩
      have li1 : ((kNames ks).map V.str).length = (kNames ks).length := List.length_map ..
      have li2 : ((kMakers ks).map V.str).length = (kMakers ks).length := List.length_map ..
      have no : (decide ((SL.uniq (kNames ks)).length < (kNames ks).length) || decide ((SL.uniq (kMakers ks)).length < (kMakers ks).length)) = true → goodK ks = false := fun z => by unfold goodK; rw [z]; rfl
      have yes : (decide ((SL.uniq (kNames ks)).length < (kNames ks).length) || decide ((SL.uniq (kMakers ks)).length < (kMakers ks).length)) = false → goodK ks = ((kWords ks).all fun w => decide (w = "number") || inV (.str w) ((kNames ks).map V.str)) := fun z => by unfold goodK; rw [z]; rfl
      have end0 : goodK ks = false → Q (.bl false) H4 := fun z => by
        have := kk H4 xx
        rw [z] at this
        exact this
      rw [li1]
      refine ite2 (fun g1 => iteT (end0 (no ?_))) (fun g1 => ?_)
      · have g1 := of_decide_eq_true g1
        rw [decide_eq_true (show (SL.uniq (kNames ks)).length < (kNames ks).length by omega), Bool.true_or]
      have g1 : ¬ (SL.uniq (kNames ks)).length < (kNames ks).length := fun z => g1 (decide_eq_true (by omega))
      refine ⟨_, rfl, D2, kMakers ks, rfl, hsM4, by omega, _, rfl, D2, _, rfl, .inl hsM4, _, _, rfl, rfl, _, rfl, ?_⟩
      rw [li2]
      refine ite2 (fun g2 => end0 (no ?_)) (fun g2 => ?_)
      · have g2 := of_decide_eq_true g2
        rw [decide_eq_true (show (SL.uniq (kMakers ks)).length < (kMakers ks).length by omega), Bool.or_true]
      have g2 : ¬ (SL.uniq (kMakers ks)).length < (kMakers ks).length := fun z => g2 (decide_eq_true (by omega))
      have gg := yes (by rw [decide_eq_false g1, decide_eq_false g2]; rfl)
      rw [gg] at kk
      refine ⟨_, rfl, D3, rfl, ⟨_, hsW⟩, tb4 Pt hT, fun H5 ht => ?_⟩
      have x5 : Ex T H4 H5 := Ex.tabbed hT ht
      have hsW5 := x5.sqL tb4 hsW
      have hsD5 := x5.sqL tb4 hsD4
      have tb5 := x5.tb tb4
      refine gen_bools (T := T) walk_list (kWords ks) (List.length_map ..).symm (fun w => decide (w = "number") || inV (.str w) ((kNames ks).map V.str)) (fun _ e => e.sqL tb5 hsW5) (fun i x wd H6 H7 x6 hw y Q' hq => ?_) (fun H6 x6 => kk H6 (xx.trans (x5.trans x6)))
      obtain ⟨rfl, hx⟩ := y
      rw [List.getElem?_map, hw] at hx
      cases hx
      refine ⟨rfl, _, rfl, rfl, _, rfl, ite2 (fun e => ?_) (fun e => ?_)⟩
      · have e := V.str.inj (of_decide_eq_true e)
        have := hq _ x6
        rw [decide_eq_true e, Bool.true_or] at this
        exact this
      · have e : ¬ wd = "number" := fun z => e (decide_eq_true (by rw [z]))
        have := hq _ x6
        rw [decide_eq_false e, Bool.false_or] at this
        exact ⟨_, rfl, _, rfl, D, _, rfl, .inl (x6.sqL tb5 hsD5), rfl, List.all_eq_true.mpr (fun z hz => by obtain ⟨u, _, rfl⟩ := List.mem_map.mp hz; rfl), this⟩
end
end JF
set_option Elab.async false
set_option linter.all false
set_option maxRecDepth 100000
set_option maxHeartbeats 4000000
namespace JF
open PySem PySem.Spec PyProof.Rows L2 GxR GA
def bmVE : List Value := [.type "ValueError", .type "Exception", .type "BaseException", .type "object"]
/-- an error class without own __init__ -/
structure ErrC (K : PySem.W.Frag) (mg : Str → Option Value) (x : Str) (C : Addr) : Prop where
  gC : mg x = some (.ref C)
  kC : PySem.W.keepIn K (.ref C) = true
  ex : PySem.W.excIn K C [.type "ValueError", .type "Exception", .type "BaseException", .type "object"] "ValueError.__new__" = true
  exC : PySem.W.subIn K (.ref C) (.type "BaseException") = some true
  tyC : PySem.W.typeIn K (.ref C) = some (.type "type")
end JF
set_option Elab.async false
set_option linter.all false
set_option maxRecDepth 100000
set_option maxHeartbeats 4000000
/-! enumerate(tuple) -/
namespace ET
open PySem PySem.Spec PyProof.Rows L2
section
open PySem.W
theorem meets_newT {v : Value} {o : Obj} {Hh : Heap → Prop} (B : Begins v o Hh) : Meets (Builtin.«enumerate.__new__» ⟨[.type "enumerate", v], []⟩) (fun _ R s => Hh s.heap ∧
    R (.ok (.ret (.ref (s.heap.push o).objs.size))) { s with heap := (s.heap.push o).push { cls := .type "enumerate", data := .fields #[.none, .bool false, .ref s.heap.objs.size, rawInt 0, .none, .none] } }) :=
  .of_wp fun prog w A R s ⟨h1, h⟩ => by
    obtain ⟨hp, g, d, tk, os⟩ := s
    have sub := sub_enumerate
    have go : ∀ {A' : Around} {E : Value → Shared → Prop} {Q : Value → Shared → Prop}, Q (.ref hp.objs.size) ⟨hp.push o, g, d, tk, os⟩ → wpAny (model prog w) A' (pyIter v) Q E ⟨hp, g, d, tk, os⟩ := fun q => B.iter prog w _ _ ⟨hp, g, d, tk, os⟩ _ h1 q
    wp_walk using go
    refine wpAny_stack_any fun st => wpAny_pure ?_
    split
    · rename_i c _ _ _ _ _
      cases (c == Value.type "enumerate") <;> (wp_walk using go; exact ⟨_, rfl, h⟩)
    · wp_walk using go; exact ⟨_, rfl, h⟩
theorem call_enumT {prog : Program} {w : World} {A : Around} {E : Value → Shared → Prop} {s : Shared} {t : Addr} {items : Array Value} {Q : Value → Shared → Prop} (ht : s.heap.IsTuple t items)
    (h : ∀ h', IsEnum h' (s.heap.objs.size + 1) s.heap.objs.size 0 .none → h'.IsTupleIter s.heap.objs.size t 0 → h'.objs.size = s.heap.objs.size + 2 → (∀ b o, s.heap.get? b = some o → h'.get? b = some o) → Q (.ref (s.heap.objs.size + 1)) { s with heap := h' }) :
    wpAny (model prog w) A (call (.type "enumerate") [.ref t]) Q E s := by
  refine callType_new F.called_enumerate (by decide) (F.typeCall_enumerate_1 _) (F.newCall_enumerate_1 _) (fun obj => F.args_object_init_2 obj _) F.entry_enumerate_new (meets_newT (begins_tuple t items)) ⟨ht, (?_ : _ ∧ _)⟩
  have hz : (s.heap.push { cls := .type "tuple_iterator", data := .fields #[.ref t, .int 0 0] }).objs.size = s.heap.objs.size + 1 := Heap.size_push ..
  rw [hz]
  have he : IsEnum ((s.heap.push { cls := .type "tuple_iterator", data := .fields #[.ref t, .int 0 0] }).push { cls := .type "enumerate", data := .fields #[.none, .bool false, .ref s.heap.objs.size, rawInt 0, .none, .none] }) (s.heap.objs.size + 1) s.heap.objs.size 0 .none := by
    have z := Heap.get?_push_size (s.heap.push { cls := .type "tuple_iterator", data := .fields #[.ref t, .int 0 0] }) (o := { cls := .type "enumerate", data := .fields #[.none, .bool false, .ref s.heap.objs.size, rawInt 0, .none, .none] }) rfl
    rw [hz] at z; exact z
  exact ⟨⟨_, he, rfl⟩, h _ he ⟨_, Heap.get?_push_of_some _ (Heap.get?_push_size _ rfl), rfl, rfl⟩ (by rw [Heap.size_push, hz]) fun b o x => Heap.get?_push_of_some _ (Heap.get?_push_of_some _ x)⟩
end
/-- the tuple at a, each item in a new pair behind its place -/
def IteT (K : PySem.W.Frag) (a : Addr) : It :=
  ⟨fun i H => ∃ (xs : List V) (x : V), SqT K H a xs ∧ xs[i]? = some x, fun i H v H' => ∃ T x, v = .ref T ∧ H T = none ∧ H' = upd H T (.tup [.int (i : Nat), x]) ∧ ∀ xs, SqT K H a xs → xs[i]? = some x, fun i H => ∃ xs : List V, SqT K H a xs ∧ xs.length = i⟩
theorem turn_enumT {P : Program} {w : World} {K : PySem.W.Frag} {elts : List Expr} {kk : Nat} {tpos : Pos} (a e it : Addr) (hai : a ≠ it) (hae : a ≠ e) :
    Turn P w K (.Tuple elts kk tpos) (IteT K a) [e, it] e (fun i h => (∃ old, IsEnum h e it ((i : Nat) : Int) old) ∧ h.IsTupleIter it a i ∧ e ≠ it) where
  mem := by simp
  obj := fun i h st b hb => by
    obtain ⟨⟨old, he⟩, ⟨o, ho, hc, hd⟩, _⟩ := st
    rcases (show b = e ∨ b = it by simpa using hb) with z | z
    · rw [z]; exact ⟨_, he, fun v q => nomatch q⟩
    · rw [z]; exact ⟨o, ho, fun v q => by rw [hd] at q; cases q⟩
  keep := fun i h h' st k => ⟨⟨st.1.choose, k e (by simp) _ st.1.choose_spec⟩, st.2.1.at fun o q => k it (by simp) o q, st.2.2⟩
  item := by
    intro X hP hw hK hc i pins s σ H E I hf st hg
    subst hP hw hK
    obtain ⟨⟨old, he⟩, hit, hne⟩ := st
    obtain ⟨xs, x, hq, hx⟩ := hg
    obtain ⟨its, rv, p, hz⟩ := I.tuple hq
    obtain ⟨u, hu, ru⟩ := rv.get hx
    have hel : e < s.heap.objs.size := Heap.lt_size he
    have hil : it < s.heap.objs.size := by obtain ⟨_, q, _⟩ := hit; exact Heap.lt_size q
    have hlt : i < its.toArray.size := by
      have := (List.getElem?_eq_some_iff.mp hu).1
      simpa using this
    have D : Draws X.prog X.w X.A.in1 it [it, a] its.toArray.size (fun i v => its.toArray[i]? = some v) (fun i h => h.IsTupleIter it a i ∧ h.IsTuple a its.toArray) := Draws.tuple (A := X.A.in1) (show X.A.in1.handled = none from I.ok.hd hc) it a hai its.toArray
    refine wpAny_pyNext_enum_itemD D he ⟨hit, p⟩ hlt hne (by simp [hne, Ne.symm hae]) fun y h' tk hy ho hst hT hsz hk => ?_
    obtain rfl : u = y := by
      rw [List.getElem?_toArray, hu] at hy
      exact Option.some.inj hy
    refine ⟨_, rfl, wpAny_letOwnedTupleGo_enum (s := { s with heap := h', toks := tk + 1 }) ho fun h'' he' sb => ?_⟩
    have at2 : h''.get? s.heap.objs.size = some { cls := .type "tuple", data := .seq #[.int i tk, u] } := (sb.2 _ (Nat.ne_of_gt hel)).trans hT
    have new : ObjOk X.prog X.w (upd H s.heap.objs.size (.tup [.int (i : Nat), x])) h'' s.heap.objs.size (.tup [.int (i : Nat), x]) := ⟨by show 2 ≤ sizeLine; decide, [.int i tk, u], .cons ⟨_, rfl⟩ (.cons ru .nil), ⟨_, at2, rfl, _, rfl⟩⟩
    have J : L2.Inv X pins σ (upd H s.heap.objs.size (.tup [.int (i : Nat), x])) { s with heap := h'', toks := tk + 1 } :=
      I.turnedNew (ch := [e, it]) (fun b ob hb q => (sb.2 b (fun z => hb (by simp [z]))).trans (hk b ob (fun z => hb (by simp [z])) (fun z => hb (by simp [z])) q)) hf (Nat.le_refl _) new
    refine ⟨.ref s.heap.objs.size, _, J, rfl, ⟨_, x, rfl, I.hok.fresh (Nat.le_refl _), rfl, fun ys hy => by rw [I.tuple_inj hy hq]; exact hx⟩, ⟨⟨u, by rw [show ((i + 1 : Nat) : Int) = (i : Int) + 1 by omega]; exact he'⟩, hst.1.at fun o q => (sb.2 it (Ne.symm hne)).trans q, hne⟩, fun b hb => ?_⟩
    have hb' : b < s.heap.objs.size := by
      rcases (show b = e ∨ b = it by simpa using hb) with z | z
      · rw [z]; exact hel
      · rw [z]; exact hil
    rw [upd_ne (Nat.ne_of_lt hb')]; exact (hf b hb).1
  done := by
    intro X hP hw hK hc i pins s σ H E I hf st hg
    subst hP hw hK
    obtain ⟨⟨old, he⟩, hit, hne⟩ := st
    obtain ⟨xs, hq, hx⟩ := hg
    obtain ⟨its, rv, p, hz⟩ := I.tuple hq
    have D : Draws X.prog X.w X.A.in1 it [it, a] its.toArray.size (fun i v => its.toArray[i]? = some v) (fun i h => h.IsTupleIter it a i ∧ h.IsTuple a its.toArray) := Draws.tuple (A := X.A.in1) (show X.A.in1.handled = none from I.ok.hd hc) it a hai its.toArray
    obtain ⟨f0, f1, f2, f3, f4, f5⟩ := hf it (by simp)
    have hn : its.toArray.size = i := by
      have := rv.length
      simp; omega
    exact wpAny_pyNext_enum_endD D he ⟨by rw [hn]; exact hit, p⟩ fun h' eb => ⟨rfl, I.turned (t' := s.toks) (fun b o hb q => eb b o hb q) f0 f1 f3 f4 f5⟩
  self := fun A i s Q E st h => wpAny_pyIter_enum st.1.choose_spec h
def iEnumT (K : PySem.W.Frag) (ta : TA) : TI := fun σ H R => ta σ H fun vs H1 => ∃ a xs, vs = [.ref a] ∧ SqT K H1 a xs ∧ R (IteT K a) H1
theorem pi_enumT {X : Cx} {e : Expr} {ta : TA} {p pos tpos : Pos} {elts : List Expr} {kk : Nat} (hg : Gl X "enumerate") (hm : X.mg "enumerate" = none) (ha : PA X [e] ta) (hs : starEach [e] X.env = [(false, eval e X.env)] := by rfl) :
    PI X (.Tuple elts kk tpos) (.Call (.Name "enumerate" p) [e] [] pos) (iEnumT X.K ta) := by
  refine ⟨fun pins s σ H R I h => Call_ (ld_blt I hg hm boot_enumerate (PyProof.Rows.callWith_type1 (thn (ha.run pos pins s σ H _ I h) fun us s1 ⟨vs, H1, I1, r1, q1⟩ => ?_) hs rfl))⟩
  obtain ⟨a, xs, rfl, hq, q⟩ := q1
  obtain ⟨u, rfl, ru⟩ := vals1 r1
  obtain rfl : u = Value.ref a := ru
  obtain ⟨its, rv, p', hz⟩ := I1.tuple hq
  have al : a < s1.heap.objs.size := by
    obtain ⟨o, ho, _⟩ := id p'
    exact Heap.lt_size ho
  refine call_enumT p' fun h' he hit hsz hk => wpAny_pyIter_enum he ?_
  refine ⟨s1.heap.objs.size + 1, [s1.heap.objs.size + 1, s1.heap.objs.size], _, _, H1, rfl, (I1.kept (t' := s1.toks) hk : L2.Inv X pins σ H1 { s1 with heap := h' }), turn_enumT a (s1.heap.objs.size + 1) s1.heap.objs.size (Nat.ne_of_lt al) (Nat.ne_of_lt (Nat.lt_succ_of_lt al)), ⟨⟨.none, he⟩, hit, Nat.succ_ne_self _⟩, fun b hb => ?_, q⟩
  have hle : s1.heap.objs.size ≤ b := by
    rcases (show b = s1.heap.objs.size + 1 ∨ b = s1.heap.objs.size by simpa using hb) with z | z
    · rw [z]; exact Nat.le_succ _
    · rw [z]; exact Nat.le_refl _
  exact I1.fpOk hle (I1.hok.fresh hle)
theorem walk_enumT {K : PySem.W.Frag} {a : Addr} {xs : List V} : Walk (IteT K a) xs.length (fun H => SqT K H a xs) (YPair (fun i => some (.int (i : Nat))) (fun i => xs[i]?)) :=
  ⟨fun i _ hi q => ⟨xs, xs[i], q, by simp [hi]⟩, fun _ q => ⟨xs, q, rfl⟩, fun i H v H' _ q ⟨T, x, h1, h2, h3, h4⟩ => ⟨T, .int (i : Nat), x, h1, h2, h3, rfl, h4 xs q⟩⟩
end ET
set_option Elab.async false
set_option linter.all false
set_option maxRecDepth 100000
set_option maxHeartbeats 4000000
namespace JF
open PySem PySem.Spec PyProof.Rows L2 GxR GA
abbrev sMbn : Stmt := topS 5
/-- for each maker its name, its kind's name, its place, its fields -/
abbrev Ent := Str × Str × Nat × List Str
def kEnts (k : Kd) : List Ent := k.2.zipIdx.map fun p => (p.1.1, k.1, p.2, p.1.2)
def ents (ks : List Kd) : List Ent := ks.flatMap kEnts
theorem ents_makers (ks : List Kd) : (ents ks).map (·.1) = kMakers ks := by
  unfold ents kMakers
  rw [List.map_flatMap]
  congr 1
  funext k
  unfold kEnts
  rw [List.map_map]
  show k.2.zipIdx.map (fun p => p.1.1) = _
  rw [show (fun p : Mk' × Nat => p.1.1) = (fun m : Mk' => m.1) ∘ Prod.fst from rfl, ← List.map_map, List.zipIdx_map_fst]
def EntAt (K : PySem.W.Frag) (H : Hp) (kv : Key × V) (e : Ent) : Prop := kv.1 = .inr e.1 ∧ ∃ t vf, kv.2 = .ref t ∧ SqT K H t [.str e.2.1, .int (e.2.2.1 : Nat), vf] ∧ FieldsAt K H vf e.2.2.2
/-- the dict of makers at D -/
def MkAt (K : PySem.W.Frag) (H : Hp) (D : Addr) (es : List Ent) : Prop := ∃ kvs : List (Key × V), H D = some (.dK kvs) ∧ Paired (EntAt K H) kvs es
section
variable {P : Program} {w : World} {K : PySem.W.Frag} {mg : Str → Option Value} {base : Heap} {T : List Addr} {H H' : Hp} {D : Addr} {es : List Ent}
theorem EntAt.to (q : ∀ a xs, SqT K H a xs → SqT K H' a xs) {kv : Key × V} {e : Ent} (h : EntAt K H kv e) : EntAt K H' kv e := by
  obtain ⟨h1, t, vf, h2, h3, h4⟩ := h
  exact ⟨h1, t, vf, h2, q _ _ h3, h4.to q⟩
theorem sqT_dict {kvs kvs' : List (Key × V)} (h : H D = some (.dK kvs)) : ∀ a xs, SqT K H a xs → SqT K (upd H D (.dK kvs')) a xs := fun a xs q => by
  have ne : ∀ {o : HO}, H a = some o → (∀ z, o ≠ .dK z) → a ≠ D := fun {o} e n z => by
    subst z
    rw [h] at e
    exact n _ (Option.some.inj e).symm
  rcases q with (q | ⟨ob, q⟩) | q
  · exact .inl (.inl (by rw [upd_ne (ne q fun _ z => by cases z)]; exact q))
  · exact .inl (.inr ⟨ob, by rw [upd_ne (ne q fun _ z => by cases z)]; exact q⟩)
  · exact .inr q
theorem Ex.upd {H0 : Hp} {o : HO} (x : Ex T H0 H) (n : H0 D = none) : Ex T H0 (upd H D o) :=
  ⟨fun t P hP => by
    obtain ⟨ps, e, r⟩ := x.tb t P hP
    have hne : P ≠ D := fun z => by
      obtain ⟨ps0, e0, _⟩ := t P hP
      rw [z, n] at e0
      cases e0
    exact ⟨ps, by rw [upd_ne hne]; exact e, r⟩,
   fun b ob e hb => by rw [upd_ne (ne_of_none e n)]; exact x.keep b ob e hb⟩
theorem put_new {kvs : List (Key × V)} {k : Key} {v : V} (h : ∀ kv ∈ kvs, kv.1 ≠ k) : putK kvs k v = kvs ++ [(k, v)] := by
  unfold putK
  rw [if_neg]
  intro z
  obtain ⟨kv, hkv, e⟩ := List.any_eq_true.mp z
  exact h kv hkv (of_decide_eq_true e)
theorem paired_app {α β : Type} {F : α → β → Prop} : ∀ {xs xs' : List α} {ys ys' : List β}, Paired F xs ys → Paired F xs' ys' → Paired F (xs ++ xs') (ys ++ ys')
  | _, _, _, _, .nil, t => t
  | _, _, _, _, .cons r s, t => .cons r (paired_app s t)
theorem paired_mem {α β : Type} {F : α → β → Prop} : ∀ {xs : List α} {ys : List β} {x : α}, Paired F xs ys → x ∈ xs → ∃ y ∈ ys, F x y
  | _, _, _, .nil, h => by cases h
  | _, _, _, .cons r t, h => by
    rcases List.mem_cons.mp h with e | e
    · subst e; exact ⟨_, List.mem_cons_self .., r⟩
    · obtain ⟨y, hy, f⟩ := paired_mem t e
      exact ⟨y, List.mem_cons_of_mem _ hy, f⟩
/-- a maker is put in -/
theorem MkAt.put {m : Ent} {t : Addr} {vf : V} (h : MkAt K H D es) (nm : m.1 ∉ es.map (·.1)) (ht : SqT K H t [.str m.2.1, .int (m.2.2.1 : Nat), vf]) (hf : FieldsAt K H vf m.2.2.2) (few : es.length < sizeLine) :
    ∃ kvs : List (Key × V), H D = some (.dK kvs) ∧ kvs.length < sizeLine ∧ MkAt K (upd H D (.dK (putK kvs (.inr m.1) (.ref t)))) D (es ++ [m]) := by
  obtain ⟨kvs, hD, pr⟩ := h
  have hp : putK kvs (.inr m.1) (.ref t) = kvs ++ [(.inr m.1, .ref t)] := put_new fun kv hkv z => by
    obtain ⟨e, he, h1, _⟩ := paired_mem pr hkv
    rw [h1] at z
    exact nm (List.mem_map.mpr ⟨e, he, Sum.inr.inj z⟩)
  refine ⟨kvs, hD, by rw [paired_len pr]; exact few, kvs ++ [(.inr m.1, .ref t)], by rw [hp]; exact upd_same, ?_⟩
  have q : ∀ a xs, SqT K H a xs → SqT K (L2.upd H D (.dK (putK kvs (.inr m.1) (.ref t)))) a xs := sqT_dict hD
  exact paired_app (paired_imp (fun _ _ z => z.to q) pr) (.cons ⟨rfl, t, vf, rfl, q _ _ ht, hf.to q⟩ .nil)
end
def spMbn (K : PySem.W.Frag) (T : List Addr) : Sp := fun vs H Q _ => ∃ (v : V) (ks : List Kd), vs = [v] ∧ KindsAt K H v ks ∧ (kMakers ks).Nodup ∧ (kMakers ks).length ≤ 1000 ∧ TbOk T H ∧ ∀ p H', H p = none → Ex T H H' → MkAt K H' p (ents ks) → Q (.ref p) H'
section
variable {P : Program} {w : World} {K : PySem.W.Frag} {mg : Str → Option Value} {base : Heap} {T : List Addr}
theorem pg_ixpair {X : Cx} {K : PySem.W.Frag} {i j l k k2 : Nat} {x y z : Str} {p q r pos pos2 : Pos} (hK : X.K = K) (hc : X.calm = true) (hN : X.N.Nodup) (hi : X.N[i]? = some x) (hj : X.N[j]? = some y) (hl : X.N[l]? = some z)
    (hx : X.env.scope.names.lookup x = some .local) (hy : X.env.scope.names.lookup y = some .local) (hz : X.env.scope.names.lookup z = some .local) :
    PG X (.Tuple [.Name x p, .Tuple [.Name y q, .Name z r] k2 pos2] k pos) (gTup K 2 (gCons (gName i) (gCons (gTup K 2 (gCons (gName j) (gCons (gName l) gNil))) gNil))) := by
  rw [← hK]
  exact pg_tup hc (pgs_cons (pg_name hN hi (.inl hx) (.inr hx)) (pgs_cons (pg_two rfl hc hN hj hl hy hz) pgs_nil))
theorem scMbn : FnScope ["kinds", "makers", "kind", "made", "index", "maker", "fields"] ["kinds"] (defScope sMbn) := ⟨rfl, rfl, rfl, by decide +kernel, rfl, by decide +kernel, by decide +kernel⟩
theorem ok_mbn {f : Addr} {fd : FuncData} (FN : Fun K "makers_by_name" "makers_by_name" sMbn f fd) (Be : mg "enumerate" = none) : FnOk P w K mg base CX0 1 f fd ["kinds"] (spMbn K T) := by
  refine FN.ok scMbn (fun vs H Q E h => ?_) (fun cdv A outer s H vs Q E hr h => ?_)
  · obtain ⟨v, ks, rfl, _⟩ := h
    rfl
  · obtain ⟨v, ks, rfl, hk, nd, few, tb, k⟩ := h
    have hu := hu_of hr
    refine ⟨_, pss_cons (ps_set (i := 1) scMbn.nd rfl (.inl rfl) pe_dnewK)
      (pss_cons (ps_for PassesOwn.never rfl (pi_tup (pv 0)) (pg_two (K := K) (i := 2) (j := 3) rfl rfl scMbn.nd rfl rfl rfl rfl)
        (pss_one (ps_for PassesOwn.never rfl (ET.pi_enumT rfl Be (pa_cons (pv 3) pa_nil)) (pg_ixpair (K := K) (i := 4) (j := 5) (l := 6) rfl rfl scMbn.nd rfl rfl rfl rfl rfl rfl)
          (pss_one (ps_dput hu (pv 1) (pv 5) (pe_tup (pa_cons (pv 2) (pa_cons (pv 4) (pa_cons (pv 6) pa_nil)))) rfl)))))
      (pss_one (ps_ret (pv 1)))), ?_⟩
    obtain ⟨a, xs, rfl, hs, pr⟩ := hk
    intro D hD
    have x1 : Ex T H (upd H D (.dK [])) := Ex.new hD
    have m1 : MkAt K (upd H D (.dK [])) D [] := ⟨[], upd_same, .nil⟩
    generalize upd H D (.dK []) = H1 at x1 m1
    have nd' : ((ents ks).map (·.1)).Nodup := by rw [ents_makers]; exact nd
    have few' : (ents ks).length ≤ 1000 := by rw [← List.length_map (f := (·.1)), ents_makers]; exact few
    refine ⟨_, rfl, a, rfl, ⟨xs, x1.sqT tb hs⟩, for_it walk_tup (fun i σ H' => σ.length = 7 ∧ σ[1]? = some (some (.ref D)) ∧ Ex T H H' ∧ ∃ acc, MkAt K H' D acc ∧ acc ++ ents (ks.drop i) = ents ks) ⟨rfl, rfl, x1, [], m1, rfl⟩ (fun i σ H' _ q => q.2.2.1.sqT tb hs) (fun i x σ H' H2 hi q y => ?_) (fun σ H' q => ?_)⟩
    · obtain ⟨rfl, hx⟩ := y
      obtain ⟨q7, q1, qx, acc, qm, qa⟩ := q
      obtain ⟨kd, hk, b, vm, rfl, hb, c2, ms, rfl, hc2, pm⟩ := paired_get pr hx
      have lm : ms.length = kd.2.length := paired_len pm
      have le : (kEnts kd).length = kd.2.length := by unfold kEnts; rw [List.length_map, List.length_zipIdx]
      rw [drop_at hk] at qa
      refine ⟨b, _, rfl, qx.sqT tb hb, rfl, _, _, rfl, _, _, rfl, rfl, .ref c2, by rw [List.getElem?_set_self (by rw [List.length_set, q7]; decide)], c2, ms, rfl, qx.sqT tb hc2, ?_⟩
      refine for_it ET.walk_enumT (fun j σ H' => σ.length = 7 ∧ σ[1]? = some (some (.ref D)) ∧ σ[2]? = some (some (.str kd.1)) ∧ Ex T H H' ∧ ∃ acc, MkAt K H' D acc ∧ acc ++ ((kEnts kd).drop j ++ ents (ks.drop (i + 1))) = ents ks) ⟨by rw [List.length_set, List.length_set, q7], by rw [List.getElem?_set_ne (by decide), List.getElem?_set_ne (by decide)]; exact q1, by rw [List.getElem?_set_ne (by decide)]; exact List.getElem?_set_self (by rw [q7]; decide), qx, acc, qm, qa⟩
        (fun j σ H' _ q => q.2.2.2.1.sqT tb hc2) (fun j x σ H' H3 hj q y => ?_) (fun σ H' q => ?_)
      · obtain ⟨Tp, u, v2, rfl, hT, rfl, hu2, hv⟩ := y
        cases hu2
        have hv : ms[j]? = some v2 := hv
        obtain ⟨r7, r1, r2, rx, acc2, rm, ra⟩ := q
        obtain ⟨mk, hm, b3, vf, rfl, hb3, hfl⟩ := paired_get pm hv
        have hke : (kEnts kd)[j]? = some (mk.1, kd.1, j, mk.2) := by
          unfold kEnts
          rw [List.getElem?_map, List.getElem?_zipIdx, hm]
          simp
        rw [drop_at hke] at ra
        have x2 : Ex T H (upd H' Tp (.tup [.int (j : Nat), .ref b3])) := rx.trans (Ex.new hT)
        have hTp : SqT K (upd H' Tp (.tup [.int (j : Nat), .ref b3])) Tp [.int (j : Nat), .ref b3] := .inl (.inl upd_same)
        have m2 : MkAt K (upd H' Tp (.tup [.int (j : Nat), .ref b3])) D acc2 := by
          obtain ⟨kvs, hkv, pk⟩ := rm
          exact ⟨kvs, by rw [upd_ne (ne_of_none hkv hT)]; exact hkv, paired_imp (fun _ _ z => z.to (sqT_new hT)) pk⟩
        generalize upd H' Tp (.tup [.int (j : Nat), .ref b3]) = H4 at x2 hTp m2
        refine ⟨Tp, _, rfl, hTp, rfl, _, _, rfl, _, _, rfl, b3, _, rfl, x2.sqT tb hb3, rfl, _, _, rfl, _, _, rfl, rfl, rfl, ?_⟩
        refine ⟨.str kd.1, ?_, .int (j : Nat), ?_, vf, ?_, by show 3 ≤ sizeLine; decide, fun p hp => ⟨.ref D, ?_, .str mk.1, ?_, D, ?_⟩⟩
        · rw [List.getElem?_set_ne (by decide), List.getElem?_set_ne (by decide), List.getElem?_set_ne (by decide)]; exact r2
        · rw [List.getElem?_set_ne (by decide), List.getElem?_set_ne (by decide)]; exact List.getElem?_set_self (by rw [r7]; decide)
        · exact List.getElem?_set_self (by rw [List.length_set, List.length_set, r7]; decide)
        · rw [List.getElem?_set_ne (by decide), List.getElem?_set_ne (by decide), List.getElem?_set_ne (by decide)]; exact r1
        · rw [List.getElem?_set_ne (by decide)]; exact List.getElem?_set_self (by rw [List.length_set, r7]; decide)
        · have x3 : Ex T H (upd H4 p (.tup [.str kd.1, .int (j : Nat), vf])) := x2.trans (Ex.new hp)
          have hp2 : SqT K (upd H4 p (.tup [.str kd.1, .int (j : Nat), vf])) p [.str kd.1, .int (j : Nat), vf] := .inl (.inl upd_same)
          have m3 : MkAt K (upd H4 p (.tup [.str kd.1, .int (j : Nat), vf])) D acc2 := by
            obtain ⟨kvs, hkv, pk⟩ := m2
            exact ⟨kvs, by rw [upd_ne (ne_of_none hkv hp)]; exact hkv, paired_imp (fun _ _ z => z.to (sqT_new hp)) pk⟩
          generalize upd H4 p (.tup [.str kd.1, .int (j : Nat), vf]) = H5 at x3 hp2 m3
          have nm : mk.1 ∉ acc2.map (·.1) := fun z => by
            have e := congrArg (List.map (fun e : Ent => e.1)) ra
            rw [List.map_append] at e
            rw [← e] at nd'
            exact (List.nodup_append.mp nd').2.2 _ z _ (by simp) rfl
          obtain ⟨kvs, hkv, hlen, m4⟩ := MkAt.put (m := (mk.1, kd.1, j, mk.2)) m3 nm hp2 (hfl.to fun a xs q => x3.sqT tb q) (small1000 (Nat.le_trans (len_of_app ra) few'))
          refine ⟨_, rfl, .inl ⟨kvs, .inr mk.1, hkv, rfl, hlen, rfl⟩, by rw [List.length_set, List.length_set, List.length_set, r7], ?_, ?_, x3.upd hD, acc2 ++ [(mk.1, kd.1, j, mk.2)], m4, by rw [← ra]; simp⟩
          · rw [List.getElem?_set_ne (by decide), List.getElem?_set_ne (by decide), List.getElem?_set_ne (by decide)]; exact r1
          · rw [List.getElem?_set_ne (by decide), List.getElem?_set_ne (by decide), List.getElem?_set_ne (by decide)]; exact r2
      · obtain ⟨r7, r1, r2, rx, acc2, rm, ra⟩ := q
        rw [lm, ← le, List.drop_length] at ra
        exact ⟨r7, r1, rx, acc2, rm, by simpa using ra⟩
    · obtain ⟨q7, q1, qx, acc, qm, qa⟩ := q
      rw [paired_len pr, List.drop_length] at qa
      have e : acc = ents ks := by rw [← qa]; simp [ents]
      subst e
      exact ⟨_, q1, k D H' hD qx qm⟩
end
end JF
set_option Elab.async false
set_option linter.all false
set_option maxRecDepth 100000
set_option maxHeartbeats 4000000
/-! t[::-1] of a tuple; list.extend(tuple) -/
namespace TR
open PySem PySem.Spec PyProof.Rows L2
theorem adjust_rev (n : Nat) : Builtin.Slice.sliceAdjust none none (-1) (n : Int) = ((n : Int) - 1, -1) := by
  unfold Builtin.Slice.sliceAdjust
  simp
theorem places_rev (n : Nat) : Builtin.Slice.slicePlaces ((n : Int) - 1) (-1) (-1) = n := by
  unfold Builtin.Slice.slicePlaces
  simp
  split <;> omega
theorem pick_rev (xs : Array Value) : ((List.range xs.size).filterMap fun (k : Nat) => xs[(((xs.size : Nat) : Int) - 1 + (k : Int) * -1).toNat]?).toArray = xs.toList.reverse.toArray := by
  have h1 : ((List.range xs.size).filterMap fun (k : Nat) => xs[(((xs.size : Nat) : Int) - 1 + (k : Int) * -1).toNat]?) = ((List.range xs.size).map fun (k : Nat) => (((xs.size : Nat) : Int) - 1 + (k : Int) * -1).toNat).filterMap (xs[·]?) := by
    rw [List.filterMap_map]; rfl
  have h2 : ((List.range xs.size).map fun (k : Nat) => (((xs.size : Nat) : Int) - 1 + (k : Int) * -1).toNat) = (List.range xs.size).map fun k => xs.size - 1 - k := by
    refine List.map_congr_left fun k hk => ?_
    have := List.mem_range.mp hk
    omega
  rw [h1, h2, PySem.W.krv_range, List.filterMap_reverse, PySem.W.krv_all]
section
variable {prog : Program} {w : World} {A : Around} {E : Value → Shared → Prop} {s : Shared}
theorem applied_rev {sl : Addr} {t : Tok} {n : Nat} {Q : Int × Int × Nat → Shared → Prop} (hs : s.heap.IsSliceOf sl .none .none (.int (-1) t)) (h : Q ((n : Int) - 1, -1, n) s) :
    wpAny (model prog w) A (Builtin.Slice.sliceApplied (.ref sl) (pure (n : Int))) Q E s := by
  obtain ⟨os, hos, hcs, hds⟩ := id hs
  unfold Builtin.Slice.sliceApplied Builtin.Slice.sliceFields
  refine wpAny_bind (wpAny_bind (wpAny_field hos hds (x := .none) rfl (wpAny_bind (wpAny_field hos hds (x := .none) rfl (wpAny_bind (wpAny_field hos hds (x := .int (-1) t) rfl (wpAny_pure ?_)))))))
  refine wpAny_bind (HT.slicePart_ (.int (-1) t) ?_); show wpAny _ _ (if ((-1 : Int) == 0) = true then _ else _) _ _ s
  rw [if_neg (by decide)]
  refine wpAny_bind (HT.slicePart_ .none (wpAny_bind (HT.slicePart_ .none (wpAny_bind (wpAny_pure ?_)))))
  show wpAny _ _ (match Builtin.Slice.sliceAdjust none none (-1) (n : Int) with | (lo, hi) => pure (lo, (-1 : Int), Builtin.Slice.slicePlaces lo hi (-1))) _ _ s
  rw [adjust_rev]
  show wpAny _ _ (pure ((n : Int) - 1, (-1 : Int), Builtin.Slice.slicePlaces ((n : Int) - 1) (-1) (-1))) _ _ s
  rw [places_rev]; exact wpAny_pure h
theorem getItem_rev {t sl : Addr} {items : Array Value} {tk : Tok} {Q : Value → Shared → Prop} (ht : IsTup s.heap t items) (hs : s.heap.IsSliceOf sl .none .none (.int (-1) tk)) (h : Q (.ref s.heap.objs.size) { s with heap := s.heap.push { cls := .type "tuple", data := .seq items.toList.reverse.toArray } })
    (hsz : items.size ≤ sizeLine) : wpAny (model prog w) A (getItem (.ref t) (.ref sl)) Q E s := by
  have ok : sizeOk (.seq items.toList.reverse.toArray) := by
    show items.toList.reverse.toArray.size ≤ sizeLine
    rw [List.size_toArray, List.length_reverse, Array.length_toList]; exact hsz
  obtain ⟨os, hos, hcs, hds⟩ := id hs
  have isS : s.TypeIs (.ref sl) "slice" := ⟨os, hos, hcs⟩
  unfold getItem; try with_reducible refine wpAny_holding ?_
  first | refine wpAny_bind (wpAny_pure (wpAny_bind (wpAny_sequenceKey ht.typeIs (by decide) ?_))) | refine wpAny_bind (wpAny_sequenceKey ht.typeIs (by decide) ?_)
  refine wpAny_bind (wpAny_callSpecial?_slot (name := Str.ofString "__getitem__") ht.typeIs PyProof.Rows.slot_tuple_getitem (wpAny_call_entry PyProof.Rows.slot_tuple_getitem ht.typeIs entry_tuple_getitem (?_ : wpAny _ _ (Builtin.Tuple.tupleItemsOf (.ref t) >>= _) _ _ s) (args_tuple_getitem _ _)))
  refine wpAny_bind (PyProof.Rows.tupleItemsOf_ ht (wpAny_bind (wpAny_typeOf isS ?_))); rw [if_pos (by decide)]
  refine wpAny_bind (applied_rev hs ?_)
  have hno : ¬ ((((items.size : Nat) : Int) - 1 == 0 && (-1 : Int) == 1 && items.size == items.size) = true) := by
    rw [show ((-1 : Int) == 1) = false from rfl, Bool.and_false, Bool.false_and]; exact Bool.false_ne_true
  show wpAny _ _ (if (((items.size : Nat) : Int) - 1 == 0 && (-1 : Int) == 1 && items.size == items.size) = true then _ else _) _ _ s
  rw [if_neg hno, pick_rev]
  first
    | (exact wpAny_bind (m := Builtin.Tuple.tupleExact _) (wpAny_newObj_type (wpAny_pure ⟨_, rfl, wpAny_pure h⟩) ok))
    | (exact wpAny_bind (m := Builtin.Tuple.tupleExact _) (wpAny_newObj_type (wpAny_bind (wpAny_pure (wpAny_pure ⟨_, rfl, wpAny_pure h⟩))) ok))
    | (exact wpAny_bind (wpAny_bind (m := Builtin.Tuple.tupleExact _) (wpAny_newObj_type (wpAny_pure (wpAny_pure ⟨_, rfl, wpAny_pure h⟩)) ok)))
    | (exact wpAny_bind (wpAny_bind (m := Builtin.Tuple.tupleExact _) (wpAny_newObj_type (wpAny_pure ⟨_, rfl, wpAny_pure h⟩) ok)))
end
/-- t[::-1] -/
def tRevT (K : PySem.W.Frag) (te : TE) : TE := fun σ H Q => te σ H fun x H1 => ∃ a xs, x = .ref a ∧ SqT K H1 a xs ∧ ∀ p, H1 p = none → Q (.ref p) (upd H1 p (.tup xs.reverse))
theorem pe_revT {X : Cx} {e : Expr} {te : TE} {k : Nat} {p1 p2 p3 pos : Pos} (he : PE X e te) : PE X (.Subscript e (.Slice none none (some (.UnaryOp .USub (.Constant (.int 1) k p1) p2)) p3) pos) (tRevT X.K te) := by
  refine ⟨fun pins s σ H Q I h => Subscript_ (thn (he.run pins s σ H _ I h) fun v s1 ⟨x, H1, I1, r1, a, xs, ex, hx, q⟩ => ?_)⟩
  subst ex; cases r1
  have step : PO X (some (.UnaryOp .USub (.Constant (.int 1) k p1) p2)) (tPart (tUn (rU fun i => .int (-i)) (tC (.int 1)))) := po_some (pe_un un_neg pe_int)
  refine wpAny_Slice (thn (po_none.run pins s1 σ H1 (fun o H2 => o = none ∧ H2 = H1) I1 ⟨rfl, rfl⟩) fun vl s2 ⟨l, H2, I2, pl, el, e2⟩ => ?_); subst el e2
  refine thn (po_none.run pins s2 σ H2 (fun o H3 => o = none ∧ H3 = H2) I2 ⟨rfl, rfl⟩) fun vu s3 ⟨u, H3, I3, pu, eu, e3⟩ => ?_; subst eu e3
  refine thn (step.run pins s3 σ H3 (fun o H4 => o = some (-1) ∧ H4 = H3) I3 ⟨1, rfl, -1, rfl, rfl, rfl⟩) fun vs s4 ⟨o, H4, I4, ps, eo, e4⟩ => ?_; subst eo e4
  cases pl; cases pu
  cases ps with
  | int _ tk =>
  have I5 : L2.Inv X pins σ H4 { s4 with heap := s4.heap.push { cls := .type "slice", data := .fields #[.none, .none, .int (-1) tk] } } := I4.kept (t' := s4.toks) fun b ob q => Heap.get?_push_of_some _ q
  obtain ⟨its, r, ht, hz⟩ := I5.tuple hx
  have hlen := r.length
  show wpAny (model X.prog X.w) X.A (subscriptTail e (.Slice none none (some (.UnaryOp .USub (.Constant (.int 1) k p1) p2)) p3) (.ref a) (.ref s4.heap.objs.size)) (EP X pins σ Q) X.xe { s4 with heap := s4.heap.push { cls := .type "slice", data := .fields #[.none, .none, .int (-1) tk] } }
  refine tail_any (ops := [.ref a, .ref s4.heap.objs.size]) ht.typeIs (PyProof.Rows.slot_tuple_getitem.lookup) (getItem_rev ht (Heap.IsSliceOf.new _ .none .none (.int (-1) tk)) ?_ (by rw [List.size_toArray]; omega)) (by with_unfolding_all rfl)
  refine ⟨.ref _, _, I5.laid (t' := s4.toks) (o := .tup xs.reverse) (fun b ob q => Heap.get?_push_of_some _ q) (Nat.le_refl _) ⟨by rw [List.length_reverse]; exact hz, _, r.reverse, IsTup.new _ _⟩, rfl, q _ (I5.hok.fresh (Nat.le_refl _))⟩
section
open PySem.AutoSeq1
theorem ext_tup (l : Addr) (items : Array Value) (n : Nat) (b : Addr) (items2 : Array Value) (n2 : Nat) (dct : Option Addr) (sl : Array (Option Value)) (hs0 : ¬(!items.isEmpty && Builtin.List.listTooLong (items.size + items2.size)) = true) (hs1 : items.size ≤ sizeLine) (hs2 : items.size + items2.size ≤ sizeLine + 1) :
    Meets (Builtin.«list.extend» ⟨[.ref l, .ref b], []⟩) (fun _ R s => s.heap.get? l = some { cls := .type "list", dict := none, data := .seq items n, slots := #[] } ∧ s.heap.get? b = some { cls := .type "tuple", dict := dct, data := .seq items2 n2, slots := sl } ∧ R (.ok (.ret Value.none)) { s with heap := s.heap.update l (Obj.mapSeq fun x => x ++ items2), toks := s.toks }) :=
  .of_wp fun prog w A R s ⟨hl, hb, h⟩ => by
    obtain ⟨hp, g, d, tk, os⟩ := s
    have f2 := AutoSeq1.sub_tuple_tuple; have f3 := AutoSeq1.sub_list_list; have f4 := AutoSeq1.sub_tuple_list; have f5 := AutoSeq1.sub_list_tuple
    have hz' : (items ++ items2).size ≤ sizeLine + 1 := by rw [Array.size_append]; exact hs2
    wp_walk using (wpAny_updateSeq hl rfl (hz := hs1) (_hz' := hz')), wpAny_loadPart' hl, wpAny_loadPart' hb
    exact ⟨_, rfl, h⟩
end
/-- xs.extend(t), t a tuple -/
def rExtT (K : PySem.W.Frag) : V → List V → Hp → VK → Prop := fun x vs H Q => ∃ l b xs zs, x = .ref l ∧ vs = [.ref b] ∧ H l = some (.lst xs) ∧ H b = some (.tup zs) ∧ xs.length + zs.length ≤ sizeLine ∧ Q .non (upd H l (.lst (xs ++ zs)))
theorem mt_extT {X : Cx} : MtM X "list.extend" (rExtT X.K) := by
  intro pins s σ H x vs v us Q I rx rv h
  obtain ⟨l, b, xs, zs, rfl, rfl, hH, hB, hz, q⟩ := h
  cases rx
  obtain ⟨u, rfl, ru⟩ := rv.one
  cases ru
  obtain ⟨z, its, n, r, hl, e⟩ := I.lstM hH
  obtain ⟨z2, its2, r2, ⟨c0, dct, dt, sl⟩, e2, hc2, n2, hd2⟩ := (show ObjOk X.prog X.w H s.heap b (.tup zs) from I.hok b _ hB)
  replace hc2 : c0 = .type "tuple" := hc2
  replace hd2 : dt = .seq its2.toArray n2 := hd2
  subst hc2 hd2
  have l2 := r2.length
  have hsz : its.toArray.size + its2.toArray.size ≤ sizeLine := by rw [List.size_toArray, List.size_toArray]; omega
  have hlong : ¬ (!its.toArray.isEmpty && Builtin.List.listTooLong (its.toArray.size + its2.toArray.size)) = true := by rw [notLongL hsz, Bool.and_false]; exact Bool.false_ne_true
  refine call_meets PySem.F.slot_list_extend ⟨_, e, rfl⟩ PySem.F.entry_list_extend (PySem.F.args_list_extend_2 _ _) (ext_tup l its.toArray n b its2.toArray n2 dct sl hlong (by rw [List.size_toArray]; omega) (by omega)) ⟨e, e2, ?_⟩
  exact ⟨.non, _, I.lset (its' := its ++ its2) hH e (by simp) (r.append r2) (by rw [List.length_append]; omega), rfl, q⟩
end TR
set_option Elab.async false
set_option linter.all false
set_option maxRecDepth 100000
set_option maxHeartbeats 4000000
namespace JF
open PySem PySem.Spec PyProof.Rows L2 GxR GA
section
variable {K : PySem.W.Frag} {T : List Addr} {H H' : Hp} {D : Addr}
theorem KindsAt.ex {v : V} {ks : List Kd} (x : Ex T H H') (t : TbOk T H) (h : KindsAt K H v ks) : KindsAt K H' v ks := h.to fun _ _ q => x.sqT t q
theorem dk_keep {kvs : List (Key × V)} (x : Ex T H H') (t : TbOk T H) (h : H D = some (.dK kvs)) : H' D = some (.dK kvs) := x.keep _ _ h (t.seqN h fun _ z => by cases z)
theorem MkAt.ex {es : List Ent} (x : Ex T H H') (t : TbOk T H) (h : MkAt K H D es) : MkAt K H' D es := by
  obtain ⟨kvs, h1, h2⟩ := h
  exact ⟨kvs, dk_keep x t h1, paired_imp (fun _ _ z => z.to fun _ _ q => x.sqT t q) h2⟩
end
end JF
set_option Elab.async false
set_option linter.all false
set_option maxRecDepth 100000
set_option maxHeartbeats 4000000
namespace JF
open PySem PySem.Spec PyProof.Rows L2 GxR GA
abbrev sFB : Stmt := topS 26
abbrev sSay : Stmt := topS 27
abbrev sTree : Stmt := topS 28
def entOf (es : List Ent) (z : Str) : Option Ent := es.find? fun e => decide (e.1 = z)
/-- the fields behind an entry that stands for the word -/
def behindOf (es : List Ent) (word : Str) (d : PyData) : Option (List Str) :=
  if word = "number" then (if isNumber d = true then some [] else none) else match d with
    | .str z => (match entOf es z with
      | some e => if e.2.1 = word then some e.2.2.2 else none
      | none => none)
    | _ => none
section
variable {P : Program} {w : World} {K : PySem.W.Frag} {mg : Str → Option Value} {base : Heap} {T : List Addr}
theorem ent_val {H : Hp} {z : Str} : ∀ {kvs : List (Key × V)} {es : List Ent}, Paired (EntAt K H) kvs es → (entOf es z = none ∧ valV kvs (.inr z) = none) ∨ ∃ e v, entOf es z = some e ∧ valV kvs (.inr z) = some v ∧ EntAt K H (.inr z, v) e
  | _, _, .nil => .inl ⟨rfl, rfl⟩
  | _, _, @Paired.cons _ _ _ a b as bs r t => by
    by_cases e : b.1 = z
    · refine .inr ⟨b, a.2, ?_, valV_pos (by rw [r.1, e]), ?_⟩
      · unfold entOf
        rw [List.find?_cons_of_pos]
        exact decide_eq_true e
      · obtain ⟨r1, r2⟩ := r
        exact ⟨by show Sum.inr z = _; rw [e], r2⟩
    · have h1 : valV (a :: as) (.inr z) = valV as (.inr z) := by
        unfold valV
        rw [List.find?_cons_of_neg]
        rw [r.1]
        simpa using e
      have h2 : entOf (b :: bs) z = entOf bs z := by
        unfold entOf
        rw [List.find?_cons_of_neg]
        simpa using e
      rw [h1, h2]
      exact ent_val t
/-- what tells the fields, or none -/
def OptAt (K : PySem.W.Frag) (H : Hp) (v : V) : Option (List Str) → Prop
  | none => v = .non
  | some fs => FieldsAt K H v fs
def spFB (K : PySem.W.Frag) (T : List Addr) : Sp := fun vs H Q _ => ∃ (m : Addr) (es : List Ent) (word : Str) (v : V) (d : PyData), vs = [.ref m, .str word, v] ∧ MkAt K H m es ∧ Rp K H v d ∧ TbOk T H ∧ ∀ H' u, Ex T H H' → OptAt K H' u (behindOf es word d) → Q u H'
theorem scFB : FnScope ["makers", "word", "entry", "kind", "_", "fields"] ["makers", "word", "entry"] (defScope sFB) := ⟨rfl, rfl, rfl, by decide +kernel, rfl, by decide +kernel, by decide +kernel⟩
theorem pg_three {X : Cx} {K : PySem.W.Frag} {i j l k : Nat} {x y z : Str} {p q r pos : Pos} (hK : X.K = K) (hc : X.calm = true) (hN : X.N.Nodup) (hi : X.N[i]? = some x) (hj : X.N[j]? = some y) (hl : X.N[l]? = some z)
    (hx : X.env.scope.names.lookup x = some .local) (hy : X.env.scope.names.lookup y = some .local) (hz : X.env.scope.names.lookup z = some .local) :
    PG X (.Tuple [.Name x p, .Name y q, .Name z r] k pos) (gTup K 3 (gCons (gName i) (gCons (gName j) (gCons (gName l) gNil)))) := by
  rw [← hK]
  exact pg_tup hc (pgs_cons (pg_name hN hi (.inl hx) (.inr hx)) (pgs_cons (pg_name hN hj (.inl hy) (.inr hy)) (pgs_cons (pg_name hN hl (.inl hz) (.inr hz)) pgs_nil)))
theorem ok_fb {f g : Addr} {fd gd : FuncData} (FN : Fun K "fields_behind" "fields_behind" sFB f fd) (B : BI mg) (G : FnOk P w K mg base CX0 2 g gd ["thing"] (spIs K T isNumber)) (mG : mg "is_number" = some (.ref g)) (kG : PySem.W.keepIn K (.ref g) = true) (bG : Binds K gd ["thing"] []) :
    FnOk P w K mg base CX0 3 f fd ["makers", "word", "entry"] (spFB K T) := by
  refine FN.ok scFB (fun vs H Q E h => ?_) (fun cdv A outer s H vs Q E hr h => ?_)
  · obtain ⟨m, es, word, v, d, rfl, _⟩ := h
    rfl
  · obtain ⟨m, es, word, v, d, rfl, hm, r, tb, k⟩ := h
    have hu := hu_of hr
    refine ⟨_, pss_cons (ps_if (pt_cmpR op_eq (pv 1) pe_str (nomark _)) (pss_one (ps_ret (pe_ifExp (pt_val (pe_call G hr rfl mG kG bG .nil pass0 (pa_cons (pv 2) pa_nil))) (pe_tup pa_nil) pe_non))) pss_nil)
      (pss_cons (ps_if (PW.pt (pw_or (pt_cmpR op_notTyB (pe_callTy call_type1 (by rfl) B.type (by decide +kernel) (pa_cons (pv 2) pa_nil)) (pe_bltn (v := .ty "str") (by rfl) B.str (by decide +kernel) rfl) (nomark _))
        (pw_or1 (pt_cmp (pc_dnotin hu (pv 2) (pv 0)) rfl)))) (pss_one (ps_ret pe_non)) pss_nil)
      (pss_cons (ps_asg (pe_dget hu (pv 0) (pv 2) (fun _ _ => rfl)) (pg_three (K := K) (i := 3) (j := 4) (l := 5) rfl rfl scFB.nd rfl rfl rfl rfl rfl rfl))
      (pss_one (ps_ret (pe_ifExp (pt_cmpR op_eq (pv 3) (pv 1) (nomark _)) (pv 5) pe_non))))), ?_⟩
    have no : behindOf es word d = none → Q .non H := fun e => k H .non Ex.refl (by rw [e]; rfl)
    refine ⟨_, rfl, rfl, _, rfl, ?_⟩
    by_cases hw : word = "number"
    · rw [show decide (V.str word = V.str "number") = true from decide_eq_true (by rw [hw])]
      refine iteT ⟨v, rfl, v, d, rfl, r, tb, fun H1 x1 => ⟨_, rfl, ?_⟩⟩
      cases hn : isNumber d with
      | true =>
        have e : behindOf es word d = some [] := by unfold behindOf; rw [if_pos hw, if_pos hn]
        exact iteT ⟨by show 0 ≤ sizeLine; exact Nat.zero_le _, fun p hp => k _ _ (x1.trans (Ex.new hp)) (by rw [e]; exact ⟨p, rfl, .inl (.inl upd_same)⟩)⟩
      | false =>
        have e : behindOf es word d = none := by
          unfold behindOf
          rw [if_pos hw, if_neg (by rw [hn]; exact Bool.false_ne_true)]
        exact iteF (k H1 .non x1 (by rw [e]; rfl))
    · rw [show decide (V.str word = V.str "number") = false from decide_eq_false (fun z => hw (V.str.inj z))]
      refine iteF ⟨v, rfl, v, tyN d, rfl, r.ty, _, _, rfl, rfl, _, rfl, ite2 (fun e => ?_) (fun e => ?_)⟩
      · refine iteT (no ?_)
        unfold behindOf
        rw [if_neg hw]
        cases d <;> first | rfl | exact absurd e (by simp [tyN])
      · cases r with
        | str z hz =>
          obtain ⟨kvs, hkv, pk⟩ := hm
          have hb : behindOf es word (.str z) = (match entOf es z with | some e => if e.2.1 = word then some e.2.2.2 else none | none => none) := by
            unfold behindOf
            rw [if_neg hw]
          refine ⟨_, rfl, _, rfl, m, _, rfl, DGet.k (k := .inr z) hkv, _, rfl, ?_⟩
          rcases ent_val (z := z) pk with ⟨h1, h2⟩ | ⟨e0, v0, h1, h2, h3⟩
          · rw [h2]
            refine iteT (no ?_)
            rw [hb, h1]
          · obtain ⟨_, t, vf, rfl, ht, hfl⟩ := h3
            rw [h2]
            refine iteF ⟨_, rfl, _, rfl, m, .ref t, rfl, h2 ▸ DGet.k (k := .inr z) hkv, t, _, rfl, ht, rfl, _, _, rfl, _, _, rfl, _, _, rfl, rfl, ?_⟩
            refine ⟨_, rfl, _, rfl, rfl, _, rfl, ?_⟩
            by_cases e2 : e0.2.1 = word
            · rw [show decide (V.str e0.2.1 = V.str word) = true from decide_eq_true (by rw [e2])]
              have e : behindOf es word (.str z) = some e0.2.2.2 := by rw [hb, h1]; exact if_pos e2
              exact iteT ⟨_, rfl, k H vf Ex.refl (by rw [e]; exact hfl)⟩
            · rw [show decide (V.str e0.2.1 = V.str word) = false from decide_eq_false (fun z => e2 (V.str.inj z))]
              exact iteF (no (by rw [hb, h1]; exact if_neg e2))
        | non => exact absurd (by simp [tyN]) e
        | bl b => exact absurd (by simp [tyN]) e
        | int x => exact absurd (by simp [tyN]) e
        | lst h q => exact absurd (by simp [tyN]) e
        | tup h q => exact absurd (by simp [tyN]) e
        | dic h => exact absurd (by simp [tyN]) e
end
end JF
set_option Elab.async false
set_option linter.all false
set_option maxRecDepth 100000
set_option maxHeartbeats 4000000
namespace JF
open PySem PySem.Spec PyProof.Rows L2 GxR GA
/-- the entries taken off, what is wanted first on top -/
def runS (es : List Ent) : List Str → List PyData → Bool
  | [], [] => true
  | _ :: _, [] => false
  | [], _ :: _ => false
  | w :: st, d :: ds => match behindOf es w d with
    | none => false
    | some fs => runS es (fs ++ st) ds
def isSay (es : List Ent) (kind : Str) : PyData → Bool
  | .tuple ds => decide (ds.length ≤ 400) && runS es [kind] ds
  | _ => false
theorem behind_few {es : List Ent} (h : ∀ e ∈ es, e.2.2.2.length ≤ 4) {w : Str} {d : PyData} {fs : List Str} (e : behindOf es w d = some fs) : fs.length ≤ 4 := by
  unfold behindOf at e
  split at e
  · split at e
    · cases e; simp
    · cases e
  · split at e
    · rename_i z
      cases hz : entOf es z with
      | none => rw [hz] at e; cases e
      | some x =>
        rw [hz] at e
        have e : (if x.2.1 = w then some x.2.2.2 else none) = some fs := e
        split at e
        · cases e
          exact h x (List.mem_of_find?_eq_some hz)
        · cases e
    · cases e
section
variable {P : Program} {w : World} {K : PySem.W.Frag} {mg : Str → Option Value} {base : Heap} {T : List Addr}
def spSay (K : PySem.W.Frag) (T : List Addr) : Sp := fun vs H Q _ => ∃ (m : Addr) (es : List Ent) (kind : Str) (v : V) (d : PyData), vs = [.ref m, .str kind, v] ∧ MkAt K H m es ∧ Rp K H v d ∧ (∀ e ∈ es, e.2.2.2.length ≤ 4) ∧ TbOk T H ∧ ∀ H', Ex T H H' → Q (.bl (isSay es kind d)) H'
theorem scSay : FnScope ["makers", "kind", "thing", "pending", "entry", "fields"] ["makers", "kind", "thing"] (defScope sSay) := ⟨rfl, rfl, rfl, by decide +kernel, rfl, by decide +kernel, by decide +kernel⟩
theorem ok_say {f g : Addr} {fd gd : FuncData} {tk : Tok} (FN : Fun K "are_sayings" "are_sayings" sSay f fd) (B : BI mg) (mM : mg "MOST_ENTRIES" = some (.int 400 tk)) (G : FnOk P w K mg base CX0 3 g gd ["makers", "word", "entry"] (spFB K T)) (mG : mg "fields_behind" = some (.ref g)) (kG : PySem.W.keepIn K (.ref g) = true) (bG : Binds K gd ["makers", "word", "entry"] []) :
    FnOk P w K mg base CX0 4 f fd ["makers", "kind", "thing"] (spSay K T) := by
  refine FN.ok scSay (fun vs H Q E h => ?_) (fun cdv A outer s H vs Q E hr h => ?_)
  · obtain ⟨m, es, kind, v, d, rfl, _⟩ := h
    rfl
  · obtain ⟨m, es, kind, v, d, rfl, hm, r, f4, tb, k⟩ := h
    refine ⟨_, pss_cons (ps_if (PW.pt (pw_or (pt_cmpR op_notTyB (pe_callTy call_type1 (by rfl) B.type (by decide +kernel) (pa_cons (pv 2) pa_nil)) (pe_bltn (v := .ty "tuple") (by rfl) B.tuple (by decide +kernel) rfl) (nomark _))
        (pw_or1 (pt_cmpR op_gt (pe_callB call_len_seq (by rfl) B.len PySem.boot_len (pa_cons (pv 2) pa_nil)) (pe_glob (v := .int 400) rfl mM ⟨_, rfl⟩) (nomark _))))) (pss_one (ps_ret pe_bl)) pss_nil)
      (pss_cons (ps_set (i := 3) scSay.nd rfl (.inl rfl) (pe_lst (pa_cons (pv 1) pa_nil)))
      (pss_cons (ps_for PassesOwn.never rfl (pi_tup (pv 2)) (pg_name (i := 4) scSay.nd rfl (.inl rfl))
        (pss_cons (ps_if (pt_not (pt_truth (pv 3) (fun _ => rfl))) (pss_one (ps_ret pe_bl)) pss_nil)
        (pss_cons (ps_set (i := 5) scSay.nd rfl (.inl rfl) (pe_call G hr rfl mG kG bG .nil pass0 (pa_cons (pv 0) (pa_cons (pe_bm0 PySem.F.plainAttrs_list PySem.F.slot_list_pop PySem.F.type_list_pop mt_pop (pv 3)) (pa_cons (pv 4) pa_nil)))))
        (pss_cons (ps_if (pt_cmpR op_isN (pv 5) pe_non (nomark _)) (pss_one (ps_ret pe_bl)) pss_nil)
        (pss_one (ps_expr (pe_bm PySem.F.plainAttrs_list PySem.F.slot_list_extend PySem.F.type_list_extend TR.mt_extT (pv 3) (pa_cons (TR.pe_revT (pv 5)) pa_nil))))))))
      (pss_one (ps_ret (pe_notT (pv 3)))))), ?_⟩
    have no : isSay es kind d = false → ∀ H', Ex T H H' → Q (.bl false) H' := fun e H' x => by
      have := k H' x
      rw [e] at this
      exact this
    refine ⟨v, rfl, v, tyN d, rfl, r.ty, _, _, rfl, rfl, _, rfl, ite2 (fun e => ?_) (fun e => ?_)⟩
    · refine iteT (no ?_ H Ex.refl)
      cases d <;> first | rfl | exact absurd e (by simp [tyN])
    · cases r with
      | @tup a xs ds hs rs =>
        have hl := rs.len
        refine ⟨_, rfl, a, xs, rfl, .inr hs, _, _, rfl, rfl, _, rfl, ?_⟩
        by_cases h4 : ds.length ≤ 400
        · rw [show decide ((400 : Int) < (xs.length : Int)) = false from decide_eq_false (by omega)]
          have hS : isSay es kind (.tuple ds) = runS es [kind] ds := by
            show (decide (ds.length ≤ 400) && runS es [kind] ds) = _
            rw [decide_eq_true h4, Bool.true_and]
          refine iteF ⟨_, rfl, by show 1 ≤ sizeLine; decide, fun p hp => ?_⟩
          have x1 : Ex T H (upd H p (.lst [.str kind])) := Ex.new hp
          refine ⟨_, rfl, a, rfl, ⟨xs, x1.sqT tb hs⟩, for_it (walk_tup (xs := xs)) (fun i σ H' => σ.length = 6 ∧ σ[0]? = some (some (.ref m)) ∧ σ[3]? = some (some (.ref p)) ∧ Ex T H H' ∧ ∃ st : List Str, H' p = some (.lst (st.reverse.map V.str)) ∧ st.length ≤ 1 + 4 * i ∧ runS es [kind] ds = runS es st (ds.drop i)) ⟨rfl, rfl, rfl, x1, [kind], upd_same, by simp, rfl⟩ (fun i σ H' _ q => q.2.2.2.1.sqT tb hs) (fun i w σ H' H2 hi q y => ?_) (fun σ H' q => ?_)⟩
          · obtain ⟨rfl, hw⟩ := y
            obtain ⟨q6, q0, q3, qx, st, qp, ql, qr⟩ := q
            obtain ⟨dd, hdd, rd⟩ := rs.get hw
            rw [drop_at hdd] at qr
            have s3 : (σ.set 4 (some w))[3]? = some (some (.ref p)) := by rw [List.getElem?_set_ne (by decide)]; exact q3
            have s0 : (σ.set 4 (some w))[0]? = some (some (.ref m)) := by rw [List.getElem?_set_ne (by decide)]; exact q0
            have s4 : (σ.set 4 (some w))[4]? = some (some w) := List.getElem?_set_self (by rw [q6]; decide)
            have s6 : (σ.set 4 (some w)).length = 6 := by rw [List.length_set, q6]
            show tSeq _ _ _ (σ.set 4 (some w)) H2
            generalize σ.set 4 (some w) = σ1 at s3 s0 s4 s6
            refine ⟨_, s3, !(st.reverse.map V.str).isEmpty, .inl ⟨_, .inl (.inl qp), rfl⟩, ?_⟩
            cases st with
            | nil => exact iteT (no (by rw [hS, qr]; rfl) _ qx)
            | cons wd st =>
              have ne : (!(((wd :: st).reverse.map V.str).isEmpty)) = true := by simp
              rw [ne]
              have e1 : (wd :: st).reverse.map V.str = st.reverse.map V.str ++ [V.str wd] := by simp
              rw [e1] at qp
              refine iteF ⟨_, s0, _, s3, .inl ⟨rfl, _, .inl (.inl qp)⟩, p, _, .str wd, rfl, rfl, qp, by simp, _, s4, ?_⟩
              rw [List.dropLast_concat]
              have x5 : Ex T H (upd H2 p (.lst (st.reverse.map V.str))) := qx.upd hp
              have qp5 : (upd H2 p (.lst (st.reverse.map V.str))) p = some (.lst (st.reverse.map V.str)) := upd_same
              generalize upd H2 p (.lst (st.reverse.map V.str)) = H5 at x5 qp5
              have tb5 := x5.tb tb
              refine ⟨m, es, wd, w, dd, rfl, hm.ex x5 tb, rd.ex x5 tb, tb5, fun H6 u x6 hu => ?_⟩
              have x56 := x5.trans x6
              have qp6 := x6.keep _ _ qp5 (tb5.seqN qp5 fun _ z => by cases z)
              have t5 : (σ1.set 5 (some u))[5]? = some (some u) := List.getElem?_set_self (by rw [s6]; decide)
              have t3 : (σ1.set 5 (some u))[3]? = some (some (.ref p)) := by rw [List.getElem?_set_ne (by decide)]; exact s3
              have t0 : (σ1.set 5 (some u))[0]? = some (some (.ref m)) := by rw [List.getElem?_set_ne (by decide)]; exact s0
              have t6 : (σ1.set 5 (some u)).length = 6 := by rw [List.length_set, s6]
              refine ⟨_, t5, rfl, _, rfl, ?_⟩
              cases hb : behindOf es wd dd with
              | none =>
                rw [hb] at hu
                obtain rfl : u = .non := hu
                refine iteT (no ?_ _ x56)
                rw [hS, qr]
                show (match behindOf es wd dd with | none => false | some fs => runS es (fs ++ st) (ds.drop (i + 1))) = false
                rw [hb]
              | some fs =>
                rw [hb] at hu
                obtain ⟨q, rfl, hq⟩ := hu
                have hfs := behind_few f4 hb
                have hi' : i < ds.length := by rw [← hl]; exact hi
                refine iteF ⟨_, t3, .inl ⟨rfl, _, .inl (.inl qp6)⟩, _, t5, q, _, rfl, hq, fun pr hpr => ⟨p, pr, _, _, rfl, rfl, by rw [upd_ne (ne_of_none qp6 hpr)]; exact qp6, upd_same, ?_, t6, t0, t3, ?_, fs ++ st, ?_, ?_, ?_⟩⟩
                · rw [List.length_map, List.length_reverse, List.length_reverse, List.length_map, sizeLine_eq]
                  rw [List.length_cons] at ql
                  omega
                · exact (x56.trans (Ex.new hpr)).upd hp
                · rw [upd_same, List.reverse_append, List.map_append, List.map_reverse (l := fs)]
                · rw [List.length_append]
                  rw [List.length_cons] at ql
                  omega
                · rw [qr]
                  show (match behindOf es wd dd with | none => false | some fs => runS es (fs ++ st) (ds.drop (i + 1))) = _
                  rw [hb]
          · obtain ⟨q6, q0, q3, qx, st, qp, ql, qr⟩ := q
            rw [hl, List.drop_length] at qr
            refine ⟨_, q3, !(st.reverse.map V.str).isEmpty, .inl ⟨_, .inl (.inl qp), rfl⟩, ?_⟩
            have := k H' qx
            rw [hS, qr] at this
            cases st with
            | nil => exact this
            | cons w st =>
              have ne : (!(((w :: st).reverse.map V.str).isEmpty)) = true := by simp
              rw [ne]
              exact this
        · rw [show decide ((400 : Int) < (xs.length : Int)) = true from decide_eq_true (by omega)]
          refine iteT (no ?_ H Ex.refl)
          show (decide (ds.length ≤ 400) && runS es [kind] ds) = false
          rw [decide_eq_false h4, Bool.false_and]
      | non => exact absurd (by simp [tyN]) e
      | bl b => exact absurd (by simp [tyN]) e
      | int x => exact absurd (by simp [tyN]) e
      | str x h => exact absurd (by simp [tyN]) e
      | lst h q => exact absurd (by simp [tyN]) e
      | dic h => exact absurd (by simp [tyN]) e
end
end JF
set_option Elab.async false
set_option linter.all false
set_option maxRecDepth 100000
set_option maxHeartbeats 4000000
namespace JF
open PySem PySem.Spec PyProof.Rows L2 GxR GA
theorem met_le : ∀ (xs seen : List Str), (SL.met seen xs).length ≤ seen.length + xs.length
  | [], seen => Nat.le_refl _
  | x :: r, seen => by
    show (SL.met (SL.addTo seen x) r).length ≤ _
    have h := met_le r (SL.addTo seen x)
    have := SL.addTo_len seen x
    rw [List.length_cons]
    split at this <;> omega
theorem met_full : ∀ (xs seen : List Str), seen.Nodup → (SL.met seen xs).length = seen.length + xs.length → (seen ++ xs).Nodup
  | [], seen, h, _ => by rw [List.append_nil]; exact h
  | x :: r, seen, h, e => by
    have e : (SL.met (SL.addTo seen x) r).length = seen.length + (r.length + 1) := e
    have h1 := met_le r (SL.addTo seen x)
    have h2 := SL.addTo_len seen x
    cases q : seen.any (· == x) with
    | true =>
      rw [q, if_pos rfl] at h2
      omega
    | false =>
      have h3 : SL.addTo seen x = seen ++ [x] := by
        unfold SL.addTo
        rw [q]; rfl
      have nx : x ∉ seen := fun z => by
        rw [List.any_eq_true.mpr ⟨x, z, by simp⟩] at q
        cases q
      rw [h3] at e
      have := met_full r (seen ++ [x]) (List.nodup_append.mpr ⟨h, by simp, fun a ha b hb z => nx (by rw [List.mem_singleton.mp hb] at z; rw [← z]; exact ha)⟩) (by rw [e, List.length_append]; simp; omega)
      rw [List.append_assoc] at this
      exact this
theorem uniq_nodup {xs : List Str} (h : ¬ (SL.uniq xs).length < xs.length) : xs.Nodup := by
  have h1 := met_le xs []
  have h2 := met_full xs [] List.nodup_nil (by
    have h1 : (SL.met [] xs).length ≤ 0 + xs.length := h1
    have h : ¬ (SL.met [] xs).length < xs.length := h
    show _ = 0 + xs.length
    omega)
  exact h2
theorem kinds_nodup {d : PyData} (h : isKinds d = true) : (kNames (kindsOf d)).Nodup ∧ (kMakers (kindsOf d)).Nodup := by
  unfold isKinds goodK at h
  simp only [Bool.and_eq_true, Bool.not_eq_true', Bool.or_eq_false_iff, decide_eq_false_iff_not] at h
  exact ⟨uniq_nodup h.2.1.1, uniq_nodup h.2.1.2⟩
theorem ents_few {ks : List Kd} (f : Few ks) : ∀ e ∈ ents ks, e.2.2.2.length ≤ 4 := fun e he => by
  obtain ⟨k, hk, h⟩ := List.mem_flatMap.mp he
  obtain ⟨p, hp, rfl⟩ := List.mem_map.mp h
  obtain ⟨m, i⟩ := p
  have := List.mem_zipIdx hp
  exact f.fs k hk m (by rw [this.2.2]; exact List.getElem_mem _)
theorem isKinds_tup {d : PyData} (h : isKinds d = true) : isTup 1 6 isKind d = true := by
  unfold isKinds at h
  simp only [Bool.and_eq_true] at h
  exact h.1
section
variable {P : Program} {w : World} {K : PySem.W.Frag} {mg : Str → Option Value} {base : Heap} {T : List Addr}
def isKindName (ks : List Kd) : PyData → Option Str
  | .str z => if z ∈ kNames ks then some z else none
  | _ => none
def spTree (K : PySem.W.Frag) (T : List Addr) (c1 c2 : Addr) : Sp := fun vs H Q E => ∃ (v1 v2 v3 : V) (d1 d2 d3 : PyData), vs = [v1, v2, v3] ∧ Rp K H v1 d1 ∧ Rp K H v2 d2 ∧ Rp K H v3 d3 ∧ TbOk T H ∧ (isKinds d1 = false → ∀ H', Ex T H H' → E (.ref c1) none H') ∧
  (isKinds d1 = true → isKindName (kindsOf d1) d2 = none → ∀ H', Ex T H H' → E (.ref c2) none H') ∧ ∀ z, isKinds d1 = true → isKindName (kindsOf d1) d2 = some z → ∀ H', Ex T H H' → Q (.bl (isSay (ents (kindsOf d1)) z d3)) H'
theorem scTree : FnScope ["kinds", "kind", "thing", "name", "_"] ["kinds", "kind", "thing"] (defScope sTree) := ⟨rfl, rfl, rfl, by decide +kernel, rfl, by decide +kernel, by decide +kernel⟩
theorem op_notInK {X : Cx} {K : PySem.W.Frag} (h : X.K = K) : OpR X (compareOp .NotIn) (rIn K true) := by
  rw [← h]
  exact op_notIn_seq
theorem inV_strs {z : Str} {xs : List Str} : inV (.str z) (xs.map V.str) = decide (z ∈ xs) := by
  unfold inV
  rw [List.any_map]
  by_cases h : z ∈ xs
  · rw [decide_eq_true h]
    refine List.any_eq_true.mpr ⟨z, h, ?_⟩
    show eqV (.str z) (.str z) = true
    unfold eqV; simp
  · rw [decide_eq_false h]
    refine List.any_eq_false.mpr fun y hy q => h ?_
    have q : eqV (.str y) (.str z) = true := q
    unfold eqV at q
    simp at q
    exact q ▸ hy
theorem ok_tree {f g1 g2 g3 c1 c2 : Addr} {fd gd1 gd2 gd3 : FuncData} (FN : Fun K "is_tree" "is_tree" sTree f fd) (B : BI mg) (E1 : ErrC K mg "BadKinds" c1) (E2 : ErrC K mg "BadKind" c2)
    (G1 : FnOk P w K mg base CX0 19 g1 gd1 ["thing"] (spIs K T isKinds)) (m1 : mg "is_kinds" = some (.ref g1)) (k1 : PySem.W.keepIn K (.ref g1) = true) (b1 : Binds K gd1 ["thing"] [])
    (G2 : FnOk P w K mg base CX0 19 g2 gd2 ["kinds"] (spMbn K T)) (m2 : mg "makers_by_name" = some (.ref g2)) (k2 : PySem.W.keepIn K (.ref g2) = true) (b2 : Binds K gd2 ["kinds"] [])
    (G3 : FnOk P w K mg base CX0 19 g3 gd3 ["makers", "kind", "thing"] (spSay K T)) (m3 : mg "are_sayings" = some (.ref g3)) (k3 : PySem.W.keepIn K (.ref g3) = true) (b3 : Binds K gd3 ["makers", "kind", "thing"] []) :
    FnOk P w K mg base (L2.CX P w) 20 f fd ["kinds", "kind", "thing"] (spTree K T c1 c2) := by
  refine FN.okX scTree (fun vs H Q E h => ?_) (fun cdv A outer s H vs Q E hr h => ?_)
  · obtain ⟨v1, v2, v3, d1, d2, d3, rfl, _⟩ := h
    rfl
  · obtain ⟨v1, v2, v3, d1, d2, d3, rfl, r1, r2, r3, tb, q1, q2, q3⟩ := h
    refine ⟨_, pss_cons (ps_if (pt_not (pt_val (pe_call G1 hr rfl m1 k1 b1 .nil pass0 (pa_cons (pv 0) pa_nil)))) (pss_one (ps_raise rfl (takes_of rfl rfl rfl rfl) (pmk_own F.excBase_ValueError E1.ex E1.gC E1.kC (raises_own E1.exC E1.tyC) rfl))) pss_nil)
      (pss_cons (ps_if (PW.pt (pw_or (pt_cmpR op_notTyB (pe_callTy call_type1 (by rfl) B.type (by decide +kernel) (pa_cons (pv 1) pa_nil)) (pe_bltn (v := .ty "str") (by rfl) B.str (by decide +kernel) rfl) (nomark _))
        (pw_or1 (pt_cmpR (op_notInK (K := K) rfl) (pv 1) (pe_lc (own := [("name", 3), ("_", 4)]) (by rfl) scTree.nd (pi_tup (pv 0)) (blkOk_by (N := ["kinds", "kind", "thing", "name", "_"]) (sc := defScope sTree) (by decide +kernel))
          (fun _ _ _ _ _ => pg_two (K := K) (i := 3) (j := 4) rfl rfl scTree.nd rfl rfl rfl rfl) (fun _ _ _ _ _ => pts_nil) (fun _ _ _ _ _ => pv 3)) rfl)))) (pss_one (ps_raise rfl (takes_of rfl rfl rfl rfl) (pmk_own F.excBase_ValueError E2.ex E2.gC E2.kC (raises_own E2.exC E2.tyC) rfl))) pss_nil)
      (pss_one (ps_ret (pe_call G3 hr rfl m3 k3 b3 .nil pass0 (pa_cons (pe_call G2 hr rfl m2 k2 b2 .nil pass0 (pa_cons (pv 0) pa_nil)) (pa_cons (pv 1) (pa_cons (pv 2) pa_nil))))))), ?_⟩
    refine ⟨_, rfl, v1, d1, rfl, r1, tb, fun H1 x1 => ⟨_, rfl, ?_⟩⟩
    show if (!isKinds d1) = true then _ else _
    cases e1 : isKinds d1 with
    | false => exact iteT (q1 e1 H1 x1)
    | true =>
      refine iteF ?_
      have q2 := q2 e1
      have q3 := fun z => q3 z e1
      have tb1 := x1.tb tb
      have r2' := r2.ex x1 tb
      refine ⟨v2, rfl, v2, tyN d2, rfl, r2'.ty, _, _, rfl, rfl, _, rfl, ite2 (fun e => ?_) (fun e => ?_)⟩
      · refine iteT (q2 ?_ H1 x1)
        cases d2 <;> first | rfl | exact absurd e (by simp [tyN])
      · cases d2 with
        | str z =>
          cases r2'
          have few := few_of (isKinds_tup e1)
          have nd := kinds_nodup e1
          obtain ⟨a, xs, rfl, hs, pr⟩ := kindsAt (r1.ex x1 tb) (isKinds_tup e1)
          generalize kindsOf d1 = ks at few nd pr q2 q3
          have ln : xs.length = ks.length := paired_len pr
          refine ⟨_, rfl, _, rfl, a, rfl, ⟨xs, hs⟩, fun D hD => lcB_it walk_tup (fun i H' => ∃ acc : List Str, H' = upd H1 D (.lst (acc.map V.str)) ∧ acc ++ kNames (ks.drop i) = kNames ks) ⟨[], rfl, rfl⟩ (fun i H' _ ⟨acc, e, _⟩ => e ▸ sqT_new hD _ _ hs) (fun i x H' H2 hi ⟨acc, e, ea⟩ y => ?_) (fun H' ⟨acc, e, ea⟩ => ?_)⟩
          · obtain ⟨rfl, hx⟩ := y
            obtain ⟨kd, hk, b, vm, rfl, hb, _⟩ := paired_get pr hx
            subst e
            have bd : acc.length ≤ 6 := by
              have := len_of_app ea
              unfold kNames at this
              rw [List.length_map] at this
              exact Nat.le_trans this few.kn
            rw [drop_at hk] at ea
            exact g_two (sqT_new hD _ _ hb) (by decide) (by decide) (by decide) (by show 3 < 5; decide) (by show 4 < 5; decide) fun σ2 _ _ g4 _ => yesT ⟨_, g4, acc.map V.str, upd_same, by rw [List.length_map]; exact small1000 (by omega), acc ++ [kd.1], by rw [upd_upd, List.map_append]; rfl, by rw [← ea]; simp [kNames]⟩
          · rw [ln, List.drop_length] at ea
            have ea : acc = kNames ks := by rw [← ea]; simp [kNames]
            subst ea
            subst e
            have x2 : Ex T H1 (upd H1 D (.lst ((kNames ks).map V.str))) := Ex.new hD
            have hsD : SqL K (upd H1 D (.lst ((kNames ks).map V.str))) D ((kNames ks).map V.str) := .inl (.inl upd_same)
            have pr2 : KindsAt K (upd H1 D (.lst ((kNames ks).map V.str))) (.ref a) ks := ⟨a, xs, rfl, sqT_new hD _ _ hs, paired_imp (fun _ _ z => z.to (sqT_new hD)) pr⟩
            have r3' := r3.ex (x1.trans x2) tb
            generalize upd H1 D (.lst ((kNames ks).map V.str)) = H2 at x2 hsD pr2 r3'
            have x12 := x1.trans x2
            refine ⟨D, _, rfl, .inl hsD, rfl, List.all_eq_true.mpr fun y hy => ?_, _, rfl, ?_⟩
            · obtain ⟨s, _, rfl⟩ := List.mem_map.mp hy
              rfl
            · show if (!inV (.str z) ((kNames ks).map V.str)) = true then _ else _
              rw [inV_strs]
              by_cases hz : z ∈ kNames ks
              · rw [decide_eq_true hz]
                refine iteF ?_
                have q3 := q3 z (by show (if z ∈ kNames ks then some z else none) = some z; rw [if_pos hz])
                refine ⟨_, rfl, .ref a, ks, rfl, pr2, nd.2, Nat.le_trans few.makers (by decide), x12.tb tb, fun p H3 hp x3 hm => ⟨_, rfl, _, rfl, p, ents ks, z, v3, d3, rfl, hm, r3'.ex x3 (x12.tb tb), ents_few few, (x12.trans x3).tb tb, fun H4 x4 => q3 H4 ((x12.trans x3).trans x4)⟩⟩
              · rw [decide_eq_false hz]
                exact iteT (q2 (by show (if z ∈ kNames ks then some z else none) = none; rw [if_neg hz]) _ x12)
        | _ => exact (by simp [tyN] at e)
end
end JF
set_option Elab.async false
set_option linter.all false
set_option maxRecDepth 100000
set_option maxHeartbeats 4000000
/-! displays of data while a list at L is being filled -/
namespace JF
open PySem PySem.Spec PyProof.Rows L2 GxR GA
/-- the heap without L -/
def era (L : Addr) (H : Hp) : Hp := fun b => if b = L then none else H b
section
variable {K : PySem.W.Frag} {T : List Addr} {L : Addr} {H H' H2 : Hp}
theorem era_ne {b : Addr} (n : b ≠ L) : era L H b = H b := if_neg n
theorem era_some {b : Addr} {o : HO} (h : era L H b = some o) : b ≠ L ∧ H b = some o := by
  by_cases n : b = L
  · rw [show era L H b = none from if_pos n] at h
    cases h
  · rw [era_ne n] at h
    exact ⟨n, h⟩
theorem tb_era (n : L ∉ T) (t : TbOk T H) : TbOk T (era L H) := fun P hP => by
  obtain ⟨ps, e, r⟩ := t P hP
  exact ⟨ps, by rw [era_ne (fun z => n (by rw [← z]; exact hP))]; exact e, r⟩
theorem tb_unera (t : TbOk T (era L H)) : TbOk T H := fun P hP => by
  obtain ⟨ps, e, r⟩ := t P hP
  exact ⟨ps, (era_some e).2, r⟩
/-- all but L only grows -/
structure Off (T : List Addr) (L : Addr) (H H' : Hp) : Prop where
  ex : Ex T (era L H) (era L H')
  at' : ∀ o, H L = some o → H' L = some o
theorem Off.refl : Off T L H H := ⟨Ex.refl, fun _ h => h⟩
theorem Off.trans (a : Off T L H H') (b : Off T L H' H2) : Off T L H H2 := ⟨a.ex.trans b.ex, fun o h => b.at' o (a.at' o h)⟩
theorem Off.of (n : L ∉ T) (x : Ex T H H') : Off T L H H' :=
  ⟨⟨fun t => tb_era n (x.tb (tb_unera t)), fun b o e hb => by
    obtain ⟨n2, h⟩ := era_some e
    rw [era_ne n2]
    exact x.keep b o h hb⟩, fun o h => x.keep L o h n⟩
/-- L itself is filled on -/
theorem Ex.fill {o : HO} : Ex T (era L H) (era L (L2.upd H L o)) := by
  have e : era L (L2.upd H L o) = era L H := by
    funext b
    by_cases h : b = L
    · rw [show era L H b = none from if_pos h]
      exact if_pos h
    · rw [era_ne h, era_ne h, upd_ne h]
  rw [e]
  exact Ex.refl
theorem rd_mono {G H : Hp} (m : ∀ b o, G b = some o → H b = some o) {a : Addr} {o : HO} (h : Rd G a o) : Rd H a o := by
  rcases h with h | ⟨u, h⟩
  · exact .inl (m _ _ h)
  · exact .inr ⟨u, m _ _ h⟩
mutual
theorem Rp.mono {G H : Hp} (m : ∀ b o, G b = some o → H b = some o) : ∀ {v : V} {d : PyData}, Rp K G v d → Rp K H v d
  | _, _, .non => .non
  | _, _, .bl b => .bl b
  | _, _, .int i => .int i
  | _, _, .str s h => .str s h
  | _, _, .lst h r => .lst (h.imp (rd_mono m) id) (RpAll.mono m r)
  | _, _, .tup h r => .tup (h.imp (rd_mono m) id) (RpAll.mono m r)
  | _, _, .dic h => .dic (m _ _ h)
theorem RpAll.mono {G H : Hp} (m : ∀ b o, G b = some o → H b = some o) : ∀ {vs : List V} {ds : List PyData}, RpAll K G vs ds → RpAll K H vs ds
  | _, _, .nil => .nil
  | _, _, .cons r s => .cons (Rp.mono m r) (RpAll.mono m s)
end
theorem Rp.un {v : V} {d : PyData} (r : Rp K (era L H) v d) : Rp K H v d := r.mono fun _ _ e => (era_some e).2
theorem sqT_era {q : Addr} {xs ys : List V} (hL : H L = some (.lst ys)) (h : SqT K H q xs) : SqT K (era L H) q xs := by
  rcases h with (h | ⟨u, h⟩) | h
  · exact .inl (.inl (by rw [era_ne (fun z => by rw [z, hL] at h; cases h)]; exact h))
  · exact .inl (.inr ⟨u, by rw [era_ne (fun z => by rw [z, hL] at h; cases h)]; exact h⟩)
  · exact .inr h
mutual
theorem Rp.dp : ∀ {v : V} {d : PyData}, Rp K H v d → d.hasDict = false → Dp K H v d
  | _, _, .non, _ => .non
  | _, _, .bl b, _ => .bl b
  | _, _, .int i, _ => .int i
  | _, _, .str s _, _ => .str s
  | _, _, .lst h r, n => .lst h (RpAll.dp r n)
  | _, _, .tup h r, n => .tup h (RpAll.dp r n)
  | _, _, .dic _, n => by cases n
theorem RpAll.dp : ∀ {vs : List V} {ds : List PyData}, RpAll K H vs ds → PyData.hasDictAll ds = false → DpAll K H vs ds
  | _, _, .nil, _ => .nil
  | _, _, .cons r s, n => by
    have n' : (PyData.hasDict _ || PyData.hasDictAll _) = false := n
    rw [Bool.or_eq_false_iff] at n'
    exact .cons (Rp.dp r n'.1) (RpAll.dp s n'.2)
end
end
abbrev Pr := Addr → L2.St → Hp → Prop
structure Stays (K : PySem.W.Frag) (T : List Addr) (pre : Pr) : Prop where
  go : ∀ L σ G G', Ex T G G' → TbOk T G → pre L σ G → pre L σ G'
def tDat (K : PySem.W.Frag) (T : List Addr) (pre : Pr) (d : PyData) : TE := fun σ H Q => ∃ L, L ∉ T ∧ H L ≠ none ∧ TbOk T H ∧ pre L σ (era L H) ∧ ∀ v H', Off T L H H' → Rp K (era L H') v d → Q v H'
def tDats (K : PySem.W.Frag) (T : List Addr) (pre : Pr) (ds : List PyData) : TA := fun σ H Q => ∃ L, L ∉ T ∧ H L ≠ none ∧ TbOk T H ∧ pre L σ (era L H) ∧ ∀ vs H', Off T L H H' → RpAll K (era L H') vs ds → Q vs H'
theorem pe_weak {X : Cx} {e : Expr} {t t' : TE} (h : PE X e t) (w : ∀ σ H Q, t' σ H Q → t σ H Q) : PE X e t' := ⟨fun pins s σ H Q I q => h.run pins s σ H Q I (w _ _ _ q)⟩
theorem pa_weak {X : Cx} {es : List Expr} {t t' : TA} (h : PA X es t) (w : ∀ σ H Q, t' σ H Q → t σ H Q) : PA X es t' := ⟨fun pos pins s σ H Q I q => h.run pos pins s σ H Q I (w _ _ _ q)⟩
theorem ne_none {H : Hp} {L : Addr} (h : H L ≠ none) : ∃ o, H L = some o := by
  cases e : H L with
  | none => exact absurd e h
  | some o => exact ⟨o, rfl⟩
theorem Off.ne {T : List Addr} {L : Addr} {H H' : Hp} (x : Off T L H H') (h : H L ≠ none) : H' L ≠ none := by
  obtain ⟨o, e⟩ := ne_none h
  rw [x.at' o e]
  simp
theorem Off.new {T : List Addr} {L p : Addr} {H : Hp} {o : HO} (h : H L ≠ none) (n : H p = none) : Off T L H (upd H p o) ∧ p ≠ L := by
  have np : p ≠ L := fun z => h (z ▸ n)
  refine ⟨⟨⟨fun t P hP => ?_, fun b u e hb => ?_⟩, fun u e => by rw [upd_ne (Ne.symm np)]; exact e⟩, np⟩
  · obtain ⟨ps, e, r⟩ := t P hP
    obtain ⟨n2, e2⟩ := era_some e
    exact ⟨ps, by rw [era_ne n2, upd_ne (ne_of_none e2 n)]; exact e2, r⟩
  · obtain ⟨n2, e2⟩ := era_some e
    rw [era_ne n2, upd_ne (ne_of_none e2 n)]
    exact e2
section
variable {X : Cx} {K : PySem.W.Frag} {T : List Addr} {pre : Pr}
theorem pd_nil : PA X [] (tDats K T pre []) := pa_weak pa_nil fun σ H Q ⟨L, _, _, _, _, q⟩ => q [] H Off.refl .nil
theorem pd_cons (St : Stays K T pre) {e : Expr} {es : List Expr} {d : PyData} {ds : List PyData} (he : PE X e (tDat K T pre d)) (ha : PA X es (tDats K T pre ds)) (hs : starEach (e :: es) X.env = (false, eval e X.env) :: starEach es X.env := by rfl) : PA X (e :: es) (tDats K T pre (d :: ds)) :=
  pa_weak (pa_cons he ha hs) fun σ H Q ⟨L, n, hL, t, p, q⟩ => ⟨L, n, hL, t, p, fun v H1 x1 r1 => by
    have t1 := tb_era n t
    exact ⟨L, n, x1.ne hL, tb_unera (x1.ex.tb t1), St.go _ _ _ _ x1.ex t1 p, fun vs H2 x2 r2 => q _ _ (x1.trans x2) (.cons (r1.ex x2.ex (x1.ex.tb t1)) r2)⟩⟩
theorem RpAll.few {H : Hp} {vs : List V} {ds : List PyData} (r : RpAll K H vs ds) (h : ds.length ≤ sizeLine) : vs.length ≤ sizeLine := by rw [r.len]; exact h
theorem pd_tup {es : List Expr} {ds : List PyData} {x1 : Nat} {pos : Pos} (ha : PA X es (tDats K T pre ds)) (h : ds.length ≤ sizeLine) : PE X (.Tuple es x1 pos) (tDat K T pre (.tuple ds)) :=
  pe_weak (pe_tup ha) fun σ H Q ⟨L, n, hL, t, p, q⟩ => ⟨L, n, hL, t, p, fun vs H1 x1 r1 => ⟨r1.few h, fun a ha => by
    obtain ⟨o, np⟩ := Off.new (T := T) (o := .tup vs) (x1.ne hL) ha
    exact q _ _ (x1.trans o) (.tup (.inl (.inl (by rw [era_ne np]; exact upd_same))) (r1.ex o.ex (x1.ex.tb (tb_era n t))))⟩⟩
theorem pd_lst {es : List Expr} {ds : List PyData} {pos : Pos} (ha : PA X es (tDats K T pre ds)) (h : ds.length ≤ sizeLine) : PE X (.List es pos) (tDat K T pre (.list ds)) :=
  pe_weak (pe_lst ha) fun σ H Q ⟨L, n, hL, t, p, q⟩ => ⟨L, n, hL, t, p, fun vs H1 x1 r1 => ⟨r1.few h, fun a ha => by
    obtain ⟨o, np⟩ := Off.new (T := T) (o := .lst vs) (x1.ne hL) ha
    exact q _ _ (x1.trans o) (.lst (.inl (.inl (by rw [era_ne np]; exact upd_same))) (r1.ex o.ex (x1.ex.tb (tb_era n t))))⟩⟩
theorem pd_c {e : Expr} {v : V} {d : PyData} (h : PE X e (tC v)) (r : ∀ H, Rp K H v d) : PE X e (tDat K T pre d) :=
  pe_weak h fun σ H Q ⟨L, n, hL, t, p, q⟩ => q _ _ Off.refl (r _)
theorem pd_var {e : Expr} {i : Nat} {d : PyData} (h : PE X e (tVar i)) (r : ∀ L σ G, pre L σ G → ∃ v, σ[i]? = some (some v) ∧ Rp K G v d) : PE X e (tDat K T pre d) :=
  pe_weak h fun σ H Q ⟨L, n, hL, t, p, q⟩ => by
    obtain ⟨v, e, k⟩ := r _ _ _ p
    exact ⟨v, e, q _ _ Off.refl k⟩
end
end JF
set_option Elab.async false
set_option linter.all false
set_option maxRecDepth 100000
set_option maxHeartbeats 4000000
/-! isinstance of the handled error, asked by a def that the suite calls; a def's promise for one handled error. -/
namespace HP
open PySem PySem.Spec PyProof.Rows L2 L2H
/-- what a class of errors must say -/
structure EC (K : PySem.W.Frag) (D : Addr) : Prop where
  cl : (PySem.W.clsIn K D).isSome = true
  ga : PySem.W.findIn K (.ref D) "__getattribute__" = some (some (.builtin "BaseException.__getattribute__"))
  gt : PySem.W.findIn K (.ref D) "__getattr__" = some none
  sb : PySem.W.subIn K (.ref D) (.type "BaseException") = some true
  at' : PySem.W.findIn K (.ref D) "__class__" = some (some (.builtin "object.__class__"))
  sn : PySem.W.specialIn K (.builtin "object.__class__") "__get__" = some (some (.builtin "getset_descriptor.__get__"))
  tk : PySem.W.takesIn K (.builtin "object.__class__") = some true
  ob : PySem.W.mroIn K D (.type "object") = some true
/-- isinstance(e, c) of the error p of the class D, its dict d -/
def rIsP (K : PySem.W.Frag) (D : Addr) (d : Option Addr) (p : Addr) : List V → Hp → VK → Prop := fun xs H Q =>
  ∃ (c : V) (cv : Value) (b : Bool), xs = [.ref p, c] ∧ (∀ u, RelV c u → u = cv) ∧ PySem.W.kitOne K (.ref D) cv = some b ∧ (∀ dd, d = some dd → ∃ fs, H dd = some (.xd fs)) ∧ Q (.bl b) H
theorem dict_there {X : Cx} {pins : List (Addr × Obj)} {σ : L2.St} {H : Hp} {s : Shared} {a : Addr} {fs : List (Str × V)} (I : Inv X pins σ H s) (h : H a = some (.xd fs)) : ∃ o, s.heap.get? a = some o := by
  obtain ⟨_, ⟨_, _, _, e, _⟩, _⟩ := I.hok a _ h
  exact ⟨_, e⟩
theorem call_isP {X : Cx} {p : Addr × Obj} {D : Addr} {d : Option Addr} (hp : p ∈ X.pn) (C : EC X.K D) (hz : Zc (.ref D) d p.2) (hf : ∃ vs, p.2.data = .fields vs) : CallR X (.builtin "isinstance") (rIsP X.K D d p.1) := by
  intro pins s σ H xs us Q I r h
  obtain ⟨c, cv, b, rfl, hcv, e, hd, q⟩ := h
  cases r with
  | cons rx rr =>
    cases rr with
    | cons rt rr =>
      cases rr
      cases rx
      have ec := hcv _ rt
      subst ec
      have hget := (I.pin p (List.mem_append_left _ hp)).1
      obtain ⟨vs, hv⟩ := hf
      have J : ∃ od, PySem.W.InstAt s.heap p.1 p.2 D od := by
        obtain ⟨a, ⟨oc, od, oda, osl⟩⟩ := p
        obtain ⟨h1, h2⟩ := hz
        dsimp only at h1 h2 hv
        subst h1 h2 hv
        cases od with
        | none => exact ⟨none, hget, rfl, rfl, trivial⟩
        | some dd =>
          obtain ⟨fs, hfs⟩ := hd dd rfl
          obtain ⟨o, ho⟩ := dict_there I hfs
          exact ⟨some o, hget, rfl, rfl, ho⟩
      obtain ⟨od, J⟩ := J
      exact PySem.W.kia_one (PySem.W.kitx_exc C.cl C.ga C.gt C.sb C.at' C.sn C.tk C.ob) I.kIn J e (fun z => nomatch z) fun tk => ⟨.bl b, H, I.kept (t' := tk) fun _ _ z => z, rfl, q⟩
/-! ### a def's promise, called while p is handled -/
structure FnP (P : Program) (w : World) (K : PySem.W.Frag) (mg : Str → Option Value) (base : Heap) (CX : CXT) (k : Nat) (f : Addr) (fd : FuncData) (ps : List Str) (p : Addr × Obj) (sp : Sp) : Prop where
  len : ∀ vs H Q E, sp vs H Q E → vs.length = ps.length
  run : ∀ (A : Around) (outer : List Env) (s : Shared) (H : Hp) (args : Args) (us : List Value) (vs : List V) (Q : VK) (E : XK), RoomH k A ∧ Hot1 A p ∧ PinOk outer H s p → Env0 P w K mg base A outer s H → BindsTo s fd args (ps.zip us) → Vals vs us → sp vs H Q E →
    codeAny (model P w) A (.call (.ref f) args) (CR CX outer P w H s Q E) s
theorem fn_ofP {CX : CXT} {P : Program} {w : World} {K : PySem.W.Frag} {mg : Str → Option Value} {base : Heap} {k : Nat} {f : Addr} {x qual : Str} {st : Stmt} {fd : FuncData} {p : Addr × Obj} {N ps : List Str} {sp : Sp} (FN : Fun K x qual st f fd) (S : FnScope N ps (defScope st))
    (len : ∀ vs H Q E, sp vs H Q E → vs.length = ps.length)
    (hb : ∀ (cdv : Value) (A : Around) (outer : List Env) (s : Shared) (H : Hp) (vs : List V) (Q : VK) (E : XK), Hot1 A p → RoomH k (A.deeper (envOfC qual (defScope st) s.heap.objs.size f cdv)) → sp vs H Q E →
      ∃ t, PSs (cxH CX P w K mg base N qual (defScope st) f cdv A outer s H E p) (defBody st) t ∧ t { nx := fun _ H' => Q .non H', rt := Q } (L2.start N vs) H) : FnP P w K mg base CX (k + 1) f fd ps p sp := by
  obtain ⟨oc, od, kV, doc, pm, an, cdv, ct, osl, rfl, lk, hcd⟩ := FN.ex
  refine ⟨len, ?_⟩
  rintro A outer s H args us vs Q E ⟨room, hot, pin⟩ e0 bd r q
  have kp := fun b o e => (e0.bs b o e).1
  have KX : K.In s.heap := e0.mod.kin.keeps kp
  obtain ⟨t, ht, hq⟩ := hb cdv A outer s H vs Q E hot (room.deeper _) q
  have kinds : ∀ y ∈ ps.zip us, (defScope st).names.lookup y.1 = some .local ∨ ((defScope st).names.lookup y.1 = some .cell ∧ ((cellsFrom (s.heap.objs.size + 1) (defScope st).names []).lookup y.1).isSome = true) := by
    rintro ⟨n, v⟩ hy
    exact (S.par n (List.of_mem_zip hy).1).imp id fun z => ⟨z, PySem.W.cellsFrom_some _ _ _ (.inl z)⟩
  refine codeAny_call_function room.depth (KX _ _ lk) rfl S.co S.gen rfl (PySem.W.codeRec_of KX hcd) (bd _ _ _ _ (wpAny_newFunctionEnv_cells S.kind kinds ?_))
  rintro env rfl s1 x
  refine ⟨(e0.mod.nolimit.keeps kp).keeps x.toInCall.keep, codeAny_func (wpAny_mono (ht.run [] s1 _ H _ (inv_startH S pin e0 (len _ _ _ _ q) r x) hq) ?_ fun _ _ z => z)⟩
  rintro (_ | _ | _ | u) s2 z
  · obtain ⟨σ', H', J, q'⟩ := z
    exact ⟨.non, H', J.os, J.bare, J.base, J.hok, rfl, q'⟩
  · obtain ⟨_, _, _, n⟩ := z
    exact n.elim
  · obtain ⟨_, _, _, n⟩ := z
    exact n.elim
  · obtain ⟨v, σ', H', J, rv, q'⟩ := z
    exact ⟨v, H', J.os, J.bare, J.base, J.hok, rv, q'⟩
section
variable {X : Cx} {CX : CXT} {k : Nat} {f : Addr} {fd : FuncData} {ps : List Str} {sp : Sp} {E : L2.St → XK} {x : Str} {q pos : Pos} {e : Expr} {es : List Expr} {t : TA} {p : Addr × Obj}
theorem pe_callP (F : FnP X.prog X.w X.K X.mg X.base CX k f fd ps p sp) (hr : RoomH k X.A) (hot : Hot1 X.A p) (hp : p ∈ X.pn) (hg : Gl X x) (hm : X.mg x = some (.ref f)) (hk : PySem.W.keepIn X.K (.ref f) = true) (hb : Binds X.K fd ps []) (hx : ∀ σ, PassesAt CX X σ (E σ))
    (ha : PA X (e :: es) t) (hdb : (x == ("__debug__" : Str)) = false := by decide) (he : starEach (e :: es) X.env = (false, eval e X.env) :: starEach es X.env := by rfl) (hpl : (backTo pos (starEach es X.env)).any (·.1) = false := by rfl) :
    PE X (.Call (.Name x q) (e :: es) [] pos) (tCallS sp E t) := by
  constructor
  intro pins s σ H Q I h
  refine wpAny_Call_Name_kw (ld_glob I hg hm (PySem.W.callWith_K (h₀ := X.base) I.ok.mod.kin hk (thn (ha.run pos pins s σ H _ I h) ?_) he hpl) hdb)
  rintro us s1 ⟨vs, H1, J, r, z⟩
  have b := hb s1 us J.kIn (by rw [List.append_nil, ← r.length]; exact F.len _ _ _ _ z)
  rw [List.append_nil] at b
  obtain ⟨g1, g2, g3, g4, g5⟩ := J.pin p (List.mem_append_left _ hp)
  refine ⟨J.kIn, wpAny_call (codeAny_mono (F.run X.A X.stack s1 H1 ⟨us, []⟩ us vs Q (E σ) ⟨hr, hot, g1, g2, fun hm => (List.mem_cons.mp (J.stkSub p.1 hm)).elim g3 g4, g5⟩ J.env0 b r z) ?_)⟩
  rintro (err | fl) s2 y
  · exact hx σ pins H1 s1 err s2 J y
  · cases fl with
    | ret u => exact J.after y
    | _ => exact False.elim y
end
end HP
set_option Elab.async false
set_option linter.all false
set_option maxRecDepth 100000
set_option maxHeartbeats 4000000
/-! a, b = x, y while an error is handled -/
namespace HT
open PySem PySem.Spec PyProof.Rows HotX
section
variable {prog : Program} {w : World} {A : Around} {E : Value → Shared → Prop} {s : Shared}
theorem tup_end_hot {it t x1 : Addr} {i : Nat} {items : Array Value} {Q : Option Value → Shared → Prop} (hot : HotAt A x1 s.heap) (ne : x1 ≠ it) (hit : IsTupIter s.heap it t i) (ht : IsTup s.heap t items) (hx : items[i]? = none)
    (hQ : ∀ h', Heap.ExtBut it s.heap h' → Q none { s with heap := h' }) : wpAny (model prog w) A (pyNext (.ref it)) Q E s := by
  obtain ⟨hh, o1, vs1, h1, d1, c1⟩ := hot
  obtain ⟨o, ho, hc, hd⟩ := id hit
  obtain ⟨ol, hol, _, nl, hdl⟩ := ht
  unfold pyNext
  refine wpAny_bind (wpAny_attempt (wpAny_callSpecial?_slot (name := Str.ofString "__next__") hit.typeIs slot_tupleiter_next (wpAny_call_entry slot_tupleiter_next hit.typeIs entry_tupleiter_next ?_ (args_tupleiter_next _))))
  refine wpAny_bind (m := field (.ref it) 0) (wpAny_field ho hd (x := .ref t) rfl ?_)
  have nn : ¬ ((Value.ref t == Value.none) = true) := Bool.false_ne_true
  show wpAny _ _ (if (Value.ref t == Value.none) = true then _ else _) _ _ s
  rw [if_neg nn]
  refine wpAny_bind (m := field (.ref it) 1) (wpAny_field ho hd (x := .int i 0) rfl ?_)
  refine wpAny_bind (m := seqItems? (.ref t)) (wpAny_seqItems hol hdl ?_)
  simp only [Int.toNat_natCast, hx]
  refine wpAny_bind (wpAny_rule (wpAny_bind (wpAny_setField ho hd (by simp) ?_)))
  refine wpAny_bind (m := newExc (.type "StopIteration") []) ?_
  simp only [newExc, newTuple]
  refine wpAny_bind (wpAny_newObj_type ?_ (by size_fits))
  refine wpAny_bind (m := firstArgMember _ _) (wpAny_of_eq (a := Value.none) (by first | rfl | (simp only [firstArgMember]; rfl)) (wpAny_newObj_type ?_ (by size_fits)))
  have up : ∀ {b : Addr} {u : Obj}, b ≠ it → s.heap.get? b = some u → (s.heap.update it (Obj.mapFields fun x => x.setIfInBounds 0 Value.none)).get? b = some u := fun {b u} nb e => by
    rw [Heap.get?_update_other _ _ (Ne.symm nb)]
    exact e
  have at1 := Heap.get?_push_of_some { cls := .type "tuple", data := .seq #[] } (up ne h1)
  refine raiseNew_hot ⟨hh, o1, vs1, Heap.get?_push_of_some _ at1, d1, c1⟩ (Nat.ne_of_lt (Heap.lt_size at1)) (Heap.get?_push_size _ rfl) rfl (by first | (simp; done) | (simp; omega) | (simp only [Array.size_append]; simp; omega)) ?_
  refine wpAny_bind (wpAny_isInstance (T := "StopIteration") (b := true) ⟨_, Heap.get?_update_self _ (Heap.get?_push_size _ rfl) rfl, rfl⟩ isSubtype_stop (wpAny_pure (hQ _ fun b u nb e => ?_)))
  have e2 := Heap.get?_push_of_some { cls := .type "tuple", data := .seq #[] } (up nb e)
  rw [Heap.get?_update_other _ _ (Nat.ne_of_gt (Heap.lt_size e2))]
  exact Heap.get?_push_of_some _ e2
theorem unpackH {t x1 : Addr} {items : Array Value} {Q : List Value → Shared → Prop} (hot : HotAt A x1 s.heap) (ht : IsTup s.heap t items)
    (hQ : ∀ h', Heap.ExtBut s.heap.objs.size s.heap h' → Q items.toList { s with heap := h' }) : wpAny (model prog w) A (unpackItems (.ref t) items.size none) Q E s := by
  have old : ∀ {a : Addr} {o : Obj}, s.heap.get? a = some o → a ≠ s.heap.objs.size := fun e => Nat.ne_of_lt (Heap.lt_size e)
  have nt : t ≠ s.heap.objs.size := by
    obtain ⟨o, ho, _⟩ := ht
    exact old ho
  obtain ⟨hh, o1, vs1, h1, d1, c1⟩ := hot
  unfold unpackItems notIterableAtAll
  refine wpAny_bind (wpAny_bind (wpAny_specialOf ht.typeIs slot_tuple_iter.lookup (wpAny_pure ?_)))
  simp only [Bool.false_eq_true, if_false]
  refine wpAny_bind (wpAny_holding (iter_tuple ht (wpAny_bind (wpAny_holding (draw_tuple nt items.size 0 _ _ ⟨_, Heap.get?_push_size _ rfl, rfl, rfl⟩ (ht.push _) (by omega) fun g it1 sb => ?_)))))
  have all : List.take items.size (List.drop 0 items.toList) = items.toList := by
    rw [List.drop_zero]
    exact List.take_of_length_le (by simp)
  rw [all, if_neg (by simp)]
  refine wpAny_bind (wpAny_holding (tup_end_hot (x1 := x1) ⟨hh, o1, vs1, sb.extBut _ _ (old h1) (Heap.get?_push_of_some _ h1), d1, c1⟩ (old h1) it1 ((ht.push _).extBut sb.extBut nt) (by simp) fun g2 e2 => ?_))
  simp only [Option.isSome_none, Bool.false_eq_true, if_false]
  exact wpAny_pure (hQ g2 fun b o nb e => e2 b o nb (sb.extBut b o nb (Heap.get?_push_of_some _ e)))
end
open L2 L2H in
theorem ps_parH {X : L2.Cx} {i j : Nat} {x y : Str} {a b : Expr} {ta : TA} {px py pt pos : Pos} {kt k2 : Nat} {pt2 : Pos} (hot : HotC X) (hN : X.N.Nodup) (hi : X.N[i]? = some x) (hj : X.N[j]? = some y) (hij : i ≠ j) (hx : X.env.scope.names.lookup x = some .local) (hy : X.env.scope.names.lookup y = some .local)
    (ha : PA X [a, b] ta) (hw : swappedStores [.Tuple [.Name x px, .Name y py] kt pt] (.Tuple [a, b] k2 pt2) X.env = pure (some [x, y])) (hs : swapsWithSole [.Tuple [.Name x px, .Name y py] kt pt] (.Tuple [a, b] k2 pt2) pos.line X.env = pure false := by rfl) :
    PS X (.Assign [.Tuple [.Name x px, .Name y py] kt pt] (.Tuple [a, b] k2 pt2) pos) (tPar i j ta) := by
  constructor
  intro pins s σ H D I h
  refine Assign_Tuple_swapped (Tuple_ (thn (ha.run _ pins s σ H _ I h) ?_)) hs hw
  rintro us s1 ⟨vs, H1, J, r, v, w, rfl, q⟩
  obtain ⟨u1, u2, rfl, rv, rw'⟩ : ∃ u1 u2, us = [u1, u2] ∧ RelV v u1 ∧ RelV w u2 := by
    cases r with
    | cons p1 q1 =>
      cases q1 with
      | cons p2 q2 =>
        cases q2
        exact ⟨_, _, rfl, p1, p2⟩
  refine wpAny_newObj_type ?_ (by show 2 ≤ sizeLine; decide)
  have J2 : Inv X pins σ H1 { s1 with heap := s1.heap.push { cls := .type "tuple", data := .seq [u1, u2].toArray } } := J.kept (t' := s1.toks) fun b o e => Heap.get?_push_of_some _ e
  obtain ⟨x1, h1⟩ := hot.at J2
  refine unpackH (items := #[u1, u2]) h1 (IsTup.new s1.heap _) fun g eg => ?_
  have J3 := J2.kept (h' := g) (t' := s1.toks) fun b o e => eg b o (Nat.ne_of_lt (Heap.lt_size e)) e
  refine assignInOrder_cons (wpAny_bindName (store_ok J3 hN hj (.inl hy) rw' (fun s2 J4 => assignInOrder_cons (wpAny_bindName (store_ok J4 hN hi (.inl hx) rv (fun s3 J5 => assignInOrder_nil ?_) (.inr hx)))) (.inr hy)))
  rw [List.set_comm _ _ (Ne.symm hij)] at J5
  exact ⟨_, H1, J5, q⟩
end HT
set_option Elab.async false
set_option linter.all false
set_option maxRecDepth 100000
set_option maxHeartbeats 4000000
/-! a, b = x, y where the names may be cells; isinstance of data -/
namespace PC
open PySem PySem.Spec PyProof.Rows L2 GxR GA JF
theorem ps_parC {X : Cx} {i j : Nat} {x y : Str} {a b : Expr} {ta : TA} {px py pt pos : Pos} {kt k2 : Nat} {pt2 : Pos} (calm : X.calm = true) (nd : X.N.Nodup) (hi : X.N[i]? = some x) (hj : X.N[j]? = some y) (ne : i ≠ j) (lx : Loc X.env.scope x) (ly : Loc X.env.scope y)
    (ha : PA X [a, b] ta) (hw : swappedStores [.Tuple [.Name x px, .Name y py] kt pt] (.Tuple [a, b] k2 pt2) X.env = pure (some [x, y])) (hs : swapsWithSole [.Tuple [.Name x px, .Name y py] kt pt] (.Tuple [a, b] k2 pt2) pos.line X.env = pure false := by rfl)
    (fx : X.fn x = true ∨ X.env.scope.names.lookup x = some .local := by first | exact .inl rfl | exact .inr rfl | assumption) (fy : X.fn y = true ∨ X.env.scope.names.lookup y = some .local := by first | exact .inl rfl | exact .inr rfl | assumption) :
    PS X (.Assign [.Tuple [.Name x px, .Name y py] kt pt] (.Tuple [a, b] k2 pt2) pos) (tPar i j ta) := by
  constructor
  intro pins s σ H D I h
  refine Assign_Tuple_swapped (Tuple_ (thn (ha.run _ pins s σ H _ I h) ?_)) hs hw
  rintro us s1 ⟨vs, H1, J, r, v, w, rfl, q⟩
  obtain ⟨u1, u2, rfl, rv, rw'⟩ : ∃ u1 u2, us = [u1, u2] ∧ RelV v u1 ∧ RelV w u2 := by
    cases r with
    | cons p1 q1 =>
      cases q1 with
      | cons p2 q2 =>
        cases q2
        exact ⟨_, _, rfl, p1, p2⟩
  refine wpAny_newObj_type ?_ (by show 2 ≤ sizeLine; decide)
  have J2 : Inv X pins σ H1 { s1 with heap := s1.heap.push { cls := .type "tuple", data := .seq [u1, u2].toArray } } := J.kept (t' := s1.toks) fun b o e => Heap.get?_push_of_some _ e
  refine unpackItems_tuple (items := #[u1, u2]) (J2.ok.hd calm) (IsTup.new s1.heap _) fun g eg => ?_
  have J3 := J2.kept (h' := g) (t' := s1.toks) fun b o e => eg b o (Nat.ne_of_lt (Heap.lt_size e)) e
  refine assignInOrder_cons (wpAny_bindName (store_ok J3 nd hj ly rw' (fun s2 J4 => assignInOrder_cons (wpAny_bindName (store_ok J4 nd hi lx rv (fun s3 J5 => assignInOrder_nil ?_) fx))) fy))
  rw [List.set_comm _ _ (Ne.symm ne)] at J5
  exact ⟨_, H1, J5, q⟩
/-- how a built-in type stands to a datum's -/
def subT (a b : String) : Bool := decide (a = b) || (decide (a = "bool") && decide (b = "int"))
/-! ### data whose dicts are told too -/
mutual
inductive Dx (K : PySem.W.Frag) (H : Hp) : V → PyData → Prop
  | non : Dx K H .non .none
  | bl (b : Bool) : Dx K H (.bl b) (.bool b)
  | int (i : Int) : Dx K H (.int i) (.int i)
  | str (x : Str) : x.length ≤ 65536 → Dx K H (.str x) (.str x)
  | lst {a : Addr} {xs : List V} {ds : List PyData} : H a = some (.lst xs) → DxAll K H xs ds → Dx K H (.ref a) (.list ds)
  | tup {a : Addr} {xs : List V} {ds : List PyData} : H a = some (.tup xs) → DxAll K H xs ds → Dx K H (.ref a) (.tuple ds)
  | dic0 {a : Addr} : H a = some (.dK []) → Dx K H (.ref a) (.dict [])
  | dic1 {a : Addr} {z : Str} {v : V} {d : PyData} : H a = some (.dK [(.inr z, v)]) → Dx K H v d → Dx K H (.ref a) (.dict [(.str z, d)])
inductive DxAll (K : PySem.W.Frag) (H : Hp) : List V → List PyData → Prop
  | nil : DxAll K H [] []
  | cons {v : V} {vs : List V} {d : PyData} {ds : List PyData} : Dx K H v d → DxAll K H vs ds → DxAll K H (v :: vs) (d :: ds)
end
/-! what the program sees of a datum: any dict as an empty one -/
mutual
def bare : PyData → PyData
  | .list ds => .list (bareAll ds)
  | .tuple ds => .tuple (bareAll ds)
  | .dict _ => .dict []
  | d => d
def bareAll : List PyData → List PyData
  | [] => []
  | d :: ds => bare d :: bareAll ds
end
section
variable {K : PySem.W.Frag} {T : List Addr} {H H' : Hp}
theorem bareAll_map : ∀ ds : List PyData, bareAll ds = ds.map bare
  | [] => by simp [bareAll]
  | d :: ds => by simp [bareAll, bareAll_map ds]
mutual
theorem Dx.rp : ∀ {v : V} {d : PyData}, Dx K H v d → Rp K H v (bare d)
  | _, _, .non => .non
  | _, _, .bl b => .bl b
  | _, _, .int i => .int i
  | _, _, .str x h => .str x h
  | _, _, .lst h r => .lst (.inl (.inl h)) (DxAll.rp r)
  | _, _, .tup h r => .tup (.inl (.inl h)) (DxAll.rp r)
  | _, _, .dic0 h => .dic h
  | _, _, .dic1 h _ => .dic h
theorem DxAll.rp : ∀ {vs : List V} {ds : List PyData}, DxAll K H vs ds → RpAll K H vs (bareAll ds)
  | _, _, .nil => .nil
  | _, _, .cons r s => .cons (Dx.rp r) (DxAll.rp s)
end
mutual
theorem Dx.ex (x : Ex T H H') (t : TbOk T H) : ∀ {v : V} {d : PyData}, Dx K H v d → Dx K H' v d
  | _, _, .non => .non
  | _, _, .bl b => .bl b
  | _, _, .int i => .int i
  | _, _, .str s h => .str s h
  | _, _, .lst h r => .lst (x.keep _ _ h (t.seqN h fun _ z => by cases z)) (DxAll.ex x t r)
  | _, _, .tup h r => .tup (x.keep _ _ h (t.seqN h fun _ z => by cases z)) (DxAll.ex x t r)
  | _, _, .dic0 h => .dic0 (x.keep _ _ h (t.seqN h fun _ z => by cases z))
  | _, _, .dic1 h r => .dic1 (x.keep _ _ h (t.seqN h fun _ z => by cases z)) (Dx.ex x t r)
theorem DxAll.ex (x : Ex T H H') (t : TbOk T H) : ∀ {vs : List V} {ds : List PyData}, DxAll K H vs ds → DxAll K H' vs ds
  | _, _, .nil => .nil
  | _, _, .cons r s => .cons (Dx.ex x t r) (DxAll.ex x t s)
end
theorem DxAll.len : ∀ {vs : List V} {ds : List PyData}, DxAll K H vs ds → vs.length = ds.length
  | _, _, .nil => rfl
  | _, _, .cons _ t => by rw [List.length_cons, List.length_cons, t.len]
theorem DxAll.get : ∀ {vs : List V} {ds : List PyData} {i : Nat} {v : V}, DxAll K H vs ds → vs[i]? = some v → ∃ d, ds[i]? = some d ∧ Dx K H v d
  | _, _, _, _, .nil, h => by simp at h
  | _, _, 0, v, .cons r _, h => by
    have e : _ = v := Option.some.inj h
    subst e
    exact ⟨_, rfl, r⟩
  | _, _, i + 1, v, .cons _ t, h => DxAll.get (i := i) (v := v) t h
theorem DxAll.app : ∀ {vs ws : List V} {ds es : List PyData}, DxAll K H vs ds → DxAll K H ws es → DxAll K H (vs ++ ws) (ds ++ es)
  | _, _, _, _, .nil, h => h
  | _, _, _, _, .cons r t, h => .cons r (DxAll.app t h)
theorem DxAll.take : ∀ {vs : List V} {ds : List PyData} (n : Nat), DxAll K H vs ds → DxAll K H (vs.take n) (ds.take n)
  | _, _, 0, _ => by simp; exact .nil
  | _, _, n + 1, .nil => .nil
  | _, _, n + 1, .cons r t => .cons r (DxAll.take n t)
theorem DxAll.drop : ∀ {vs : List V} {ds : List PyData} (n : Nat), DxAll K H vs ds → DxAll K H (vs.drop n) (ds.drop n)
  | _, _, 0, h => h
  | _, _, n + 1, .nil => .nil
  | _, _, n + 1, .cons _ t => DxAll.drop n t
theorem Dx.tyx {v : V} {d : PyData} (r : Dx K H v d) : TyX K H v (.type (tyN d)) := by
  cases r with
  | non => exact .base .non
  | bl b => exact .base (.bl b)
  | int i => exact .base (.int i)
  | str x _ => exact .base (.str x)
  | lst h _ => exact .base (.lst h)
  | tup h _ => exact .base (.tup h)
  | dic0 h => exact .base (.dK h)
  | dic1 h _ => exact .base (.dK h)
end
/-- isinstance(x, T) of data -/
def rIsD (K : PySem.W.Frag) : List V → Hp → VK → Prop := fun xs H Q => ∃ (v : V) (d : PyData) (n : String), xs = [v, .ty n] ∧ Dx K H v d ∧ n ∈ ["str", "int", "bool", "tuple"] ∧ Q (.bl (subT (tyN d) n)) H
theorem kit_data (K : PySem.W.Frag) : ∀ d : PyData, ∀ n ∈ ["str", "int", "bool", "tuple"], PySem.W.kitOne K (.type (tyN d)) (.type n) = some (subT (tyN d) n) := by
  intro d n hn
  simp only [List.mem_cons, List.mem_nil_iff, or_false] at hn
  cases d <;> rcases hn with rfl | rfl | rfl | rfl <;> first | rfl | decide +kernel
theorem call_isD {X : Cx} {K : PySem.W.Frag} (hK : X.K = K) : CallR X (.builtin "isinstance") (rIsD K) := by
  subst hK
  intro pins s σ H xs us Q I r h
  obtain ⟨v, d, n, rfl, hd, hn, q⟩ := h
  exact call_isi pins s σ H _ us Q I r ⟨v, .ty n, .type (tyN d), .type n, _, rfl, .ty n, hd.tyx, kit_data _ d n hn, q⟩
end PC
set_option Elab.async false
set_option linter.all false
set_option maxRecDepth 100000
set_option maxHeartbeats 4000000
namespace JF
open PySem PySem.Spec PyProof.Rows L2 GxR GA PC
abbrev sLName : Stmt := topS 32
abbrev letters : Str := "abcdefghijklmnopqrstuvwxyzABCDEFGHIJKLMNOPQRSTUVWXYZ"
abbrev allSigns : Str := "abcdefghijklmnopqrstuvwxyzABCDEFGHIJKLMNOPQRSTUVWXYZ0123456789"
/-- a name, low or high -/
def isAny : PyData → Bool := isName letters
/-- a law's def of one datum that tells a truth -/
def spLx (K : PySem.W.Frag) (T : List Addr) (f : PyData → Bool) : Sp := fun vs H Q _ => ∃ (v : V) (d : PyData), vs = [v] ∧ Dx K H v d ∧ TbOk T H ∧ ∀ H', Ex T H H' → Q (.bl (f d)) H'
section
variable {P : Program} {w : World} {K : PySem.W.Frag} {mg : Str → Option Value} {base : Heap} {T : List Addr}
theorem scLName : FnScope ["value", "small", "figures", "sign"] ["value"] (defScope sLName) := ⟨rfl, rfl, rfl, by decide +kernel, rfl, by decide +kernel, by decide +kernel⟩
theorem ok_lname {f : Addr} {fd : FuncData} (F : Fun K "_law_is_name" "_law_is_name" sLName f fd) (B : BI mg) (mi : mg "isinstance" = none) : FnOk P w K mg base CX0 1 f fd ["value"] (spLx K T isAny) := by
  refine F.ok scLName (fun vs H Q E h => ?_) (fun cdv A outer s H vs Q E hr h => ?_)
  · obtain ⟨v, d, rfl, _⟩ := h
    rfl
  · obtain ⟨v, d, rfl, r, tb, k⟩ := h
    refine ⟨_, pss_cons (ps_asg (pe_tup (pa_cons pe_str (pa_cons pe_str pa_nil))) (pg_tup rfl (pgs_cons (pg_name (i := 1) scLName.nd rfl (.inr rfl)) (pgs_cons (pg_name (i := 2) scLName.nd rfl (.inr rfl)) pgs_nil))))
      (pss_cons (ps_if (PW.pt (pw_or (pt_not (pt_val (pe_callB (call_isD (K := K) rfl) (by rfl) mi boot_isinstance (pa_cons (pv 0) (pa_cons (pe_bltn (v := .ty "str") (by rfl) B.str (by decide +kernel) rfl) pa_nil)))))
        (pw_or (pt_cmpR op_lt (pe_callB call_len_str (by rfl) B.len PySem.boot_len (pa_cons (pv 0) pa_nil)) pe_int (nomark _))
        (pw_or (pt_cmpR op_gt (pe_callB call_len_str (by rfl) B.len PySem.boot_len (pa_cons (pv 0) pa_nil)) pe_int (nomark _))
        (pw_or1 (pt_cmpR op_notIn_sign (pe_item_str (pv 0) pe_int (fun _ _ => rfl)) (pe_op op_add_str (pv 1) (pe_upper (pv 1))) rfl)))))) (pss_one (ps_ret pe_bl)) pss_nil)
      (pss_cons (ps_if (pt_cmpR op_in_seq (pv 0) (pe_lst (pa_cons pe_str (pa_cons pe_str (pa_cons pe_str (pa_cons pe_str (pa_cons pe_str (pa_cons pe_str (pa_cons pe_str (pa_cons pe_str (pa_cons pe_str (pa_cons pe_str (pa_cons pe_str pa_nil)))))))))))) rfl) (pss_one (ps_ret pe_bl)) pss_nil)
      (pss_cons (ps_if (PW.pt (pw_and (pt_cmpR op_in_sign (pe_item_str (pv 0) pe_int (fun _ _ => rfl)) pe_str rfl)
        (pw_and1 (pt_val (pe_callB (cr_all rfl) (by rfl) B.all boot_all (pa_cons (pe_lc (own := [("sign", 3)]) (g := gName 3) (tt := tYes) (by rfl) scLName.nd (pi_str (pe_slice sl_str (pv 0) (po_some pe_int) po_none)) (blkOk_by (N := ["value", "small", "figures", "sign"]) (sc := defScope sLName) (by decide +kernel))
          (fun _ _ _ _ _ => pg_name (i := 3) scLName.nd rfl (.inl rfl)) (fun _ _ _ _ _ => pts_nil) (fun _ _ _ _ _ => pe_cmpR op_in_sign (pv 3) (pv 2) rfl)) pa_nil)))))) (pss_one (ps_ret pe_bl)) pss_nil)
      (pss_one (ps_ret (pe_callB (cr_all rfl) (by rfl) B.all boot_all (pa_cons (pe_lc (own := [("sign", 3)]) (g := gName 3) (tt := tYes) (by rfl) scLName.nd (pi_str (pv 0)) (blkOk_by (N := ["value", "small", "figures", "sign"]) (sc := defScope sLName) (by decide +kernel))
          (fun _ _ _ _ _ => pg_name (i := 3) scLName.nd rfl (.inl rfl)) (fun _ _ _ _ _ => pts_nil) (fun _ _ _ _ _ => pe_cmpR op_in_sign (pv 3) (pe_op op_add_str (pe_op op_add_str (pv 1) (pe_upper (pv 1))) (pv 2)) rfl)) pa_nil))))))), ?_⟩
    have no : isAny d = false → ∀ H', Ex T H H' → Q (.bl false) H' := fun e H' x => by
      have := k H' x
      rw [e] at this
      exact this
    refine ⟨by show 2 ≤ sizeLine; decide, fun p0 hp0 => ⟨p0, _, rfl, .inl (.inl upd_same), rfl, _, _, rfl, _, _, rfl, rfl, ?_⟩⟩
    have x0 : Ex T H (upd H p0 (.tup [.str "abcdefghijklmnopqrstuvwxyz", .str "0123456789"])) := Ex.new hp0
    generalize upd H p0 (.tup [.str "abcdefghijklmnopqrstuvwxyz", .str "0123456789"]) = H0 at x0 ⊢
    have r0 := r.ex x0 tb
    refine ⟨v, rfl, v, d, "str", rfl, r0, by simp, ⟨_, rfl, ?_⟩⟩
    show if (!subT (tyN d) "str") = true then _ else _
    cases hs : subT (tyN d) "str" with
    | false =>
      refine iteT (iteT (no ?_ H0 x0))
      cases d <;> first | rfl | (exact absurd hs (by simp [subT, tyN]))
    | true =>
      refine iteF ?_
      obtain ⟨z, rfl⟩ : ∃ z, d = .str z := by
        cases d <;> first | exact ⟨_, rfl⟩ | (exact absurd hs (by simp [subT, tyN]))
      cases r0 with
      | str _ hz =>
        have hzl : z.length ≤ sizeLine := Nat.le_trans hz (by decide)
        have def' : isAny (.str z) = ((decide (1 ≤ z.length) && decide (z.length ≤ 10)) && (firstIn letters z && z.cps.toList.all nameSign) && (!inV (.str z) wordsV && !asCell z)) := rfl
        refine ⟨_, rfl, z, rfl, hzl, _, _, rfl, rfl, _, rfl, ite2 (fun e1 => iteT (no ?_ H0 x0)) (fun e1 => ?_)⟩
        · have := of_decide_eq_true e1
          rw [def', decide_eq_false (show ¬ 1 ≤ z.length by omega)]
          rfl
        · have g1 : 1 ≤ z.length := by
            have : ¬ ((z.length : Int) < 1) := fun q => e1 (decide_eq_true q)
            omega
          refine ⟨_, rfl, z, rfl, hzl, _, _, rfl, rfl, _, rfl, ite2 (fun e2 => iteT (no ?_ H0 x0)) (fun e2 => ?_)⟩
          · have := of_decide_eq_true e2
            rw [def', decide_eq_false (show ¬ z.length ≤ 10 by omega), Bool.and_false]
            rfl
          · have g2 : z.length ≤ 10 := by
              have : ¬ (10 < (z.length : Int)) := fun q => e2 (decide_eq_true q)
              omega
            obtain ⟨c0, t0, e0⟩ : ∃ c0 t0, z.cps.toList = c0 :: t0 := by
              cases q : z.cps.toList with
              | nil => exact absurd (show 1 ≤ z.cps.toList.length by simpa [Str.length] using g1) (by rw [q]; simp)
              | cons c0 t0 => exact ⟨c0, t0, rfl⟩
            have hc0 : z.cps[(0 : Int).toNat]? = some c0 := by
              have : z.cps.toList[0]? = some c0 := by rw [e0]; rfl
              simpa using this
            have hzi : (0 : Int) < z.length := by exact_mod_cast g1
            have eU : (Str.ofString "abcdefghijklmnopqrstuvwxyz") ++ Txt.upper (Str.ofString "abcdefghijklmnopqrstuvwxyz") = letters := by decide +kernel
            have hf : firstIn letters z = decide (c0 ∈ letters.cps.toList) := by unfold firstIn; rw [e0]
            refine ⟨_, rfl, z, 0, c0, rfl, rfl, Int.le_refl _, by decide, hzi, hc0, _, rfl, _, rfl, ⟨_, rfl⟩, _, rfl, rfl, by decide +kernel, _, _, rfl, rfl, by decide +kernel, c0, _, rfl, rfl, _, rfl, ?_⟩
            rw [eU]
            cases e3 : decide (c0 ∈ letters.cps.toList) with
            | false =>
              refine iteT (no ?_ H0 x0)
              rw [def', hf, e3, Bool.false_and, Bool.and_false, Bool.false_and]
            | true =>
              refine iteF ?_
              have def2 : isAny (.str z) = (z.cps.toList.all nameSign && (!inV (.str z) wordsV && !asCell z)) := by
                rw [def', hf, e3, decide_eq_true g1, decide_eq_true g2]
                rfl
              have l10 : z.cps.toList.length ≤ 10 := by simpa [Str.length] using g2
              refine ⟨_, rfl, by show 11 ≤ sizeLine; decide, fun l hl => ⟨l, wordsV, rfl, .inl (.inl (.inl upd_same)), rfl, rfl, _, rfl, ?_⟩⟩
              have x1 : Ex T H (upd H0 l (.lst wordsV)) := x0.trans (Ex.new (o := .lst wordsV) hl)
              show if inV (.str z) wordsV = true then _ else _
              cases e4 : inV (.str z) wordsV with
              | true =>
                refine iteT (no ?_ _ x1)
                rw [def2, e4, Bool.not_true, Bool.false_and, Bool.and_false]
              | false =>
                refine iteF ?_
                -- the last look: all signs
                have last : ∀ (G : Hp), Ex T H G → asCell z = false → (tRet (tCB (rAll K) (tCons (tLc (iStr (tVar 0)) (gName 3) tYes (tOp (fun x y H Q => ∃ (c : Nat) (z : Str), x = .str ⟨#[c]⟩ ∧ y = .str z ∧ Q (.bl (decide (c ∈ z.cps.toList))) H) (tVar 3) (tOp (fun x y H Q => ∃ i j, x = .str i ∧ y = .str j ∧ i.length + j.length ≤ sizeLine ∧ Q (.str (i ++ j)) H) (tOp (fun x y H Q => ∃ i j, x = .str i ∧ y = .str j ∧ i.length + j.length ≤ sizeLine ∧ Q (.str (i ++ j)) H) (tVar 1) (tM0 (fun x xs H Q => ∃ a, x = .str a ∧ xs = [] ∧ a.length ≤ 5592405 ∧ Q (.str (Txt.upper a)) H) (tVar 1))) (tVar 2))) [3]) tNil)))
                    { nx := fun _ H' => Q .non H', rt := Q } [some (.str z), some (.str "abcdefghijklmnopqrstuvwxyz"), some (.str "0123456789"), none] G := fun G xG ec => by
                  refine ⟨_, rfl, z, rfl, fun D hD => lcB_it walk_str (fun i G' => G' = upd G D (.lst (((z.cps.toList.take i).map nameSign).map V.bl))) (by simp) (fun _ _ _ _ => trivial) (fun i x G1 G2 hi e y => ?_) (fun G1 e => ?_)⟩
                  · subst e
                    obtain ⟨rfl, c, hc, rfl⟩ := y
                    have hcl : z.cps.toList[i]? = some c := by simpa using hc
                    have eA : ((Str.ofString "abcdefghijklmnopqrstuvwxyz") ++ Txt.upper (Str.ofString "abcdefghijklmnopqrstuvwxyz")) ++ (Str.ofString "0123456789") = allSigns := by decide +kernel
                    refine g_one (by decide) (by show 3 < 4; decide) fun σ2 _ keep g5 => yesT ⟨_, g5, _, (keep 1 (by decide)).trans rfl, _, (keep 1 (by decide)).trans rfl, ⟨_, rfl⟩, _, rfl, rfl, by decide +kernel, _, _, rfl, rfl, by decide +kernel, _, (keep 2 (by decide)).trans rfl, _, _, rfl, rfl, by decide +kernel, c, _, rfl, rfl, _, upd_same, ?_, ?_⟩
                    · rw [List.length_map, List.length_map, List.length_take]
                      exact small1000 (by omega)
                    · rw [upd_upd, eA, List.take_succ, hcl, List.map_append, List.map_append]
                      rfl
                  · subst e
                    have eT : z.cps.toList.take z.cps.size = z.cps.toList := List.take_of_length_le (by simp)
                    rw [eT]
                    refine ⟨D, _, rfl, .inl (.inl upd_same), ?_⟩
                    have := k _ (xG.trans (Ex.new (o := .lst ((z.cps.toList.map nameSign).map V.bl)) hD))
                    rw [def2, e4, ec] at this
                    rw [List.all_map]
                    have e9 : (z.cps.toList.all nameSign && (!false && !false)) = z.cps.toList.all (id ∘ nameSign) := by simp
                    rw [e9] at this
                    exact this
                refine ⟨_, rfl, z, 0, c0, rfl, rfl, Int.le_refl _, by decide, hzi, hc0, c0, _, rfl, rfl, _, rfl, ?_⟩
                have hcell : asCell z = (decide (c0 ∈ (Str.ofString "rt").cps.toList) && t0.all digit) := by unfold asCell; rw [e0]
                show if decide (c0 ∈ (Str.ofString "rt").cps.toList) = true then _ else _
                cases e5 : decide (c0 ∈ (Str.ofString "rt").cps.toList) with
                | false => exact iteF (last _ x1 (by rw [hcell, e5]; rfl))
                | true =>
                  have eC : (cutS z (some 1) none).cps.toList = t0 := by
                    rw [cut_tail, e0]
                    rfl
                  have lt0 : t0.length ≤ 10 := by
                    rw [e0, List.length_cons] at l10
                    omega
                  refine iteT ⟨_, rfl, 1, rfl, z, rfl, hzl, _, rfl, fun D hD => lcB_it walk_str (fun i G' => G' = upd (upd H0 l (.lst wordsV)) D (.lst (((t0.take i).map digit).map V.bl))) rfl (fun _ _ _ _ => trivial) (fun i x G1 G2 hi e y => ?_) (fun G1 e => ?_)⟩
                  · subst e
                    obtain ⟨rfl, c, hc, rfl⟩ := y
                    have hcl : t0[i]? = some c := by rw [← eC]; simpa using hc
                    refine g_one (by decide) (by show 3 < 4; decide) fun σ2 _ keep g5 => yesT ⟨_, g5, _, (keep 2 (by decide)).trans rfl, c, _, rfl, rfl, _, upd_same, ?_, ?_⟩
                    · rw [List.length_map, List.length_map, List.length_take]
                      exact small1000 (by omega)
                    · rw [upd_upd, List.take_succ, hcl, List.map_append, List.map_append]
                      rfl
                  · subst e
                    have eT : t0.take (cutS z (some 1) none).cps.size = t0 := List.take_of_length_le (by rw [← eC]; simp)
                    rw [eT]
                    have xD : Ex T H (upd (upd H0 l (.lst wordsV)) D (.lst ((t0.map digit).map V.bl))) := x1.trans (Ex.new (o := .lst ((t0.map digit).map V.bl)) hD)
                    refine ⟨D, _, rfl, .inl (.inl upd_same), ?_⟩
                    rw [List.all_map]
                    refine ⟨_, rfl, ?_⟩
                    show if t0.all digit = true then _ else _
                    cases e6 : t0.all digit with
                    | true =>
                      refine iteT (no ?_ _ xD)
                      rw [def2, hcell, e5, e6, Bool.and_true, Bool.not_true, Bool.and_false, Bool.and_false]
                    | false => exact iteF (last _ xD (by rw [hcell, e5, e6]; rfl))
end
end JF
set_option Elab.async false
set_option linter.all false
set_option maxRecDepth 100000
set_option maxHeartbeats 4000000
namespace JF
open PySem PySem.Spec PyProof.Rows L2 GxR GA PC
/-- a list display under way: the first i entries stand -/
def PvK (T : List Addr) (H1 : Hp) (D : Addr) (ys : List V) (i : Nat) (G : Hp) : Prop := Ex T H1 G ∧ G D = some (.lst (ys.take i))
/-- a list display by a walk, each entry known ahead, by calls that make what they like beside it -/
theorem lcK {T : List Addr} {J : It} {Gp : Hp → Prop} {xs ys : List V} {g : TG} {tt : TT} {vs : List Nat} {σ : L2.St} {H1 : Hp} {D : Addr} {Qd : Hp → Prop} {B : L2.St → Bool → Hp → (Hp → Prop) → Prop} (wk : Walk J xs.length Gp (YAt xs)) (hG : ∀ G, Ex T H1 G → Gp G) (tb : TbOk T H1) (hD : H1 D = none) (hl : ys.length = xs.length) (sm : xs.length ≤ 1000)
    (step : ∀ (i : Nat) (v y : V) (G : Hp), xs[i]? = some v → ys[i]? = some y → Ex T H1 G → (∀ H4, Ex T G H4 → ∃ acc, H4 D = some (.lst acc) ∧ acc.length < sizeLine ∧ PvK T H1 D ys (i + 1) (upd H4 D (.lst (acc ++ [y])))) →
      g v (wipe σ vs) G fun σ2 H2 => wipe σ2 vs = wipe σ vs ∧ tt σ2 H2 fun b H3 => B σ2 b H3 (PvK T H1 D ys (i + 1)))
    (done : ∀ G, Ex T H1 G → G D = some (.lst ys) → Qd G) : ∃ W : Nat → Nat → Hp → Prop, (∃ m, W 0 m (upd H1 D (.lst []))) ∧ ∀ (i m : Nat) (H : Hp), W i m H →
      (J.stop i H ∧ Qd H) ∨ (J.go i H ∧ ∃ Nx : Hp → Prop, (∀ H', Nx H' → ∃ m', m' < m ∧ W (i + 1) m' H') ∧ ∀ x H', J.yld i H x H' → g x (wipe σ vs) H' fun σ2 H2 => wipe σ2 vs = wipe σ vs ∧ tt σ2 H2 fun b H3 => B σ2 b H3 Nx) := by
  refine lcB_it wk (PvK T H1 D ys) ⟨Ex.new hD, upd_same⟩ (fun i G _ p => hG G p.1) (fun i x G G2 hi p y => ?_) (fun G p => ?_)
  · obtain ⟨rfl, hx⟩ := y
    obtain ⟨y, hy⟩ : ∃ y, ys[i]? = some y := ⟨ys[i]'(hl ▸ hi), List.getElem?_eq_getElem _⟩
    have nT : D ∉ T := (p.1.tb tb).seqN p.2 (fun _ z => by cases z)
    exact step i x y _ hx hy p.1 (fun H4 x4 => ⟨ys.take i, x4.keep D _ p.2 nT, by rw [List.length_take]; exact small1000 (by omega), (p.1.trans x4).upd hD, by rw [upd_same, List.take_succ, hy]; rfl⟩)
  · refine done G p.1 ?_
    rw [p.2, ← hl, List.take_length]
theorem ix_tupJ {X : Cx} {K : PySem.W.Frag} (h : X.K = K) : IxR X (rIxT K) := by
  rw [← h]
  exact ix_tup
/-- of so many entries -/
def isN (lo hi : Int) : PyData → Bool := isTup lo hi fun _ => true
def spLN (K : PySem.W.Frag) : Sp := fun vs H Q _ => ∃ (v : V) (d : PyData) (lo hi : Int), vs = [v, .int lo, .int hi] ∧ Dx K H v d ∧ Q (.bl (isN lo hi d)) H
section
variable {P : Program} {w : World} {K : PySem.W.Frag} {mg : Str → Option Value} {base : Heap} {T : List Addr}
theorem isAny_high (d : PyData) : isHigh d = (isAny d && match d with | .str z => firstIn highSigns z | _ => false) := by
  cases d with
  | str z =>
    show ((decide (1 ≤ z.length) && decide (z.length ≤ 10)) && (firstIn highSigns z && z.cps.toList.all nameSign) && (!inV (.str z) wordsV && !asCell z)) = (((decide (1 ≤ z.length) && decide (z.length ≤ 10)) && (firstIn letters z && z.cps.toList.all nameSign) && (!inV (.str z) wordsV && !asCell z)) && firstIn highSigns z)
    have e : firstIn highSigns z = true → firstIn letters z = true := by
      unfold firstIn
      cases z.cps.toList with
      | nil => exact id
      | cons c r =>
        intro h
        have h := of_decide_eq_true h
        exact decide_eq_true ((show ∀ c ∈ highSigns.cps.toList, c ∈ letters.cps.toList by decide +kernel) c h)
    cases h : firstIn highSigns z with
    | false => simp
    | true => rw [e h]; simp
  | _ => rfl
/-- a tuple -/
def isTpl : PyData → Bool
  | .tuple _ => true
  | _ => false
/-- a pair of a high name and a tuple -/
def lPair : PyData → Bool := isPair isHigh isTpl
def spLPairs (K : PySem.W.Frag) (T : List Addr) : Sp := fun vs H Q _ => ∃ (v : V) (d : PyData) (lo hi : Int), vs = [v, .int lo, .int hi] ∧ hi ≤ 1000 ∧ Dx K H v d ∧ TbOk T H ∧ ∀ H', Ex T H H' → Q (.bl (isTup lo hi lPair d)) H'
theorem all_split (p q : PyData → Bool) (ds : List PyData) (h : ∀ d ∈ ds, q d = true → p d = true) : (ds.all q) = (ds.all p && ds.all q) := by
  cases e : ds.all q with
  | false => rw [Bool.and_false]
  | true =>
    rw [List.all_eq_true.mpr fun d hd => h d hd (List.all_eq_true.mp e d hd)]
    rfl
theorem isN2 {d : PyData} (h : isN 2 2 d = true) : ∃ a b, d = .tuple [a, b] := by
  obtain ⟨ds, rfl, h1, h2, _⟩ := isTup_true h
  match ds with
  | [] => simp at h1
  | [_] => simp at h1
  | [a, b] => exact ⟨a, b, rfl⟩
  | _ :: _ :: _ :: _ => simp at h2; omega
end
end JF
set_option Elab.async false
set_option linter.all false
set_option maxRecDepth 100000
set_option maxHeartbeats 4000000
namespace JF
open PySem PySem.Spec PyProof.Rows L2 GxR GA PC
/-! ### kinds whose names are high, as the law takes them apart -/
abbrev ML := Str × List PyData
abbrev KL := Str × List ML
def ml (m : ML) : PyData := .tuple [.str m.1, .tuple m.2]
def kl (k : KL) : PyData := .tuple [.str k.1, .tuple (k.2.map ml)]
def kd (ks : List KL) : PyData := .tuple (ks.map kl)
def lNames (ks : List KL) : List Str := ks.map (·.1)
def lTitles (ks : List KL) : List Str := ks.flatMap fun k => k.2.map (·.1)
def lField (ns : List Str) : PyData → Bool
  | .str z => inV (.str z) ((ns ++ [("number" : Str)]).map V.str)
  | _ => false
def lMk (ns : List Str) (m : ML) : Bool := decide (m.2.length ≤ 4) && m.2.all (lField ns)
def dup (xs : List Str) : Bool := decide ((SL.uniq xs).length < xs.length)
def lGood (ks : List KL) : Bool := !(dup (lNames ks) || dup (lTitles ks)) && ks.all fun k => k.2.all (lMk (lNames ks))
/-- what the first looks let through -/
structure Form (ks : List KL) : Prop where
  h1 : 1 ≤ ks.length
  h6 : ks.length ≤ 6
  nm : ∀ k ∈ ks, isHigh (.str k.1) = true
  m1 : ∀ k ∈ ks, 1 ≤ k.2.length
  m6 : ∀ k ∈ ks, k.2.length ≤ 6
  tt : ∀ k ∈ ks, ∀ m ∈ k.2, isHigh (.str m.1) = true
theorem all_and2 {α : Type} (p q : α → Bool) : ∀ l : List α, (l.all p && l.all q) = l.all fun x => p x && q x
  | [] => rfl
  | x :: l => by
    rw [List.all_cons, List.all_cons, List.all_cons, ← all_and2 p q l]
    cases p x <;> cases q x <;> simp
theorem all_congr2 {α : Type} {p q : α → Bool} : ∀ {l : List α}, (∀ x ∈ l, p x = q x) → l.all p = l.all q
  | [], _ => rfl
  | x :: l, h => by
    rw [List.all_cons, List.all_cons, h x (List.mem_cons_self ..), all_congr2 fun y hy => h y (List.mem_cons_of_mem _ hy)]
theorem all_flat {α β : Type} (f : α → List β) (p : β → Bool) : ∀ l : List α, (l.flatMap f).all p = l.all fun x => (f x).all p
  | [] => rfl
  | x :: l => by rw [List.flatMap_cons, List.all_append, List.all_cons, all_flat f p l]
def wOk (ns : List Str) (z : Str) : Bool := decide (z = "number") || inV (.str z) (ns.map V.str)
theorem lField_is {ns : List Str} (hn : ∀ z ∈ ns, isHigh (.str z) = true) (d : PyData) : lField ns d = (isField d && wOk ns (strOf d)) := by
  cases d with
  | str z =>
    show inV (.str z) ((ns ++ [("number" : Str)]).map V.str) = ((isHigh (.str z) || decide (z = "number")) && (decide (z = "number") || inV (.str z) (ns.map V.str)))
    rw [inV_strs, inV_strs]
    by_cases e : z = "number"
    · subst e
      simp
    · by_cases m : z ∈ ns
      · rw [hn z m]
        simp [e, m]
      · simp [e, m]
  | _ => rfl
theorem isKinds_lGood {ks : List KL} (F : Form ks) : isKinds (kd ks) = lGood ks := by
  have hn : ∀ z ∈ lNames ks, isHigh (.str z) = true := fun z hz => by
    obtain ⟨k, hk, rfl⟩ := List.mem_map.mp hz
    exact F.nm k hk
  have eA : isTup 1 6 isKind (kd ks) = ks.all fun k => k.2.all fun m => decide (m.2.length ≤ 4) && m.2.all isField := by
    show ((decide ((1 : Int) ≤ ((ks.map kl).length : Int)) && decide (((ks.map kl).length : Int) ≤ 6)) && (ks.map kl).all isKind) = _
    rw [List.length_map, decide_eq_true (show (1 : Int) ≤ (ks.length : Int) by have := F.h1; omega), decide_eq_true (show (ks.length : Int) ≤ 6 by have := F.h6; omega), Bool.true_and, Bool.true_and, List.all_map]
    refine all_congr2 fun k hk => ?_
    show (isHigh (.str k.1) && isMakers (.tuple (k.2.map ml))) = _
    rw [F.nm k hk, Bool.true_and]
    show ((decide ((1 : Int) ≤ ((k.2.map ml).length : Int)) && decide (((k.2.map ml).length : Int) ≤ 6)) && (k.2.map ml).all isMaker) = _
    rw [List.length_map, decide_eq_true (show (1 : Int) ≤ (k.2.length : Int) by have := F.m1 k hk; omega), decide_eq_true (show (k.2.length : Int) ≤ 6 by have := F.m6 k hk; omega), Bool.true_and, Bool.true_and, List.all_map]
    refine all_congr2 fun m hm => ?_
    show (isHigh (.str m.1) && isFields (.tuple m.2)) = _
    rw [F.tt k hk m hm, Bool.true_and]
    show ((decide ((0 : Int) ≤ (m.2.length : Int)) && decide ((m.2.length : Int) ≤ 4)) && m.2.all isField) = _
    rw [decide_eq_true (show (0 : Int) ≤ (m.2.length : Int) by omega), Bool.true_and]
    have : decide ((m.2.length : Int) ≤ 4) = decide (m.2.length ≤ 4) := by
      by_cases h : m.2.length ≤ 4
      · rw [decide_eq_true h, decide_eq_true (by omega)]
      · rw [decide_eq_false h, decide_eq_false (by omega)]
    rw [this]
  have eK : kindsOf (kd ks) = ks.map fun k => (k.1, k.2.map fun m => (m.1, m.2.map strOf)) := by
    show (ks.map kl).map kindOf' = _
    rw [List.map_map]
    refine List.map_congr_left fun k _ => ?_
    show (k.1, (k.2.map ml).map makerOf) = _
    rw [List.map_map]
    rfl
  have e1 : kNames (kindsOf (kd ks)) = lNames ks := by
    rw [eK]
    unfold kNames lNames
    rw [List.map_map]
    rfl
  have e2 : kMakers (kindsOf (kd ks)) = lTitles ks := by
    rw [eK]
    unfold kMakers lTitles
    rw [List.flatMap_map]
    refine congrArg (fun f => ks.flatMap f) (funext fun k => ?_)
    rw [List.map_map]
    rfl
  have e3 : kWords (kindsOf (kd ks)) = ks.flatMap fun k => k.2.flatMap fun m => m.2.map strOf := by
    rw [eK]
    unfold kWords
    rw [List.flatMap_map]
    refine congrArg (fun f => ks.flatMap f) (funext fun k => ?_)
    rw [List.flatMap_map]
  unfold isKinds goodK lGood
  rw [eA, e1, e2, e3, all_flat]
  show (_ && (!(dup (lNames ks) || dup (lTitles ks)) && ks.all fun k => (k.2.flatMap fun m => m.2.map strOf).all (wOk (lNames ks)))) = _
  rw [← Bool.and_assoc, Bool.and_comm _ (!(dup (lNames ks) || dup (lTitles ks))), Bool.and_assoc, all_and2]
  congr 1
  refine all_congr2 fun k hk => ?_
  rw [all_flat, all_and2]
  refine all_congr2 fun m hm => ?_
  rw [List.all_map, Bool.and_assoc]
  unfold lMk
  congr 1
  rw [all_and2]
  exact all_congr2 fun d _ => (lField_is hn d).symm
/-- the shape of what the first looks let through -/
theorem form_of {ds : List PyData} (h1 : isTup 1 6 lPair (.tuple ds) = true) (h2 : ds.all (fun d => isTup 1 6 lPair (sndOf d)) = true) : ∃ ks, ds = ks.map kl ∧ Form ks := by
  obtain ⟨ds', e, g1, g6, ha⟩ := isTup_true h1
  cases e
  have one : ∀ d ∈ ds, ∃ k : KL, d = kl k ∧ isHigh (.str k.1) = true ∧ 1 ≤ k.2.length ∧ k.2.length ≤ 6 ∧ ∀ m ∈ k.2, isHigh (.str m.1) = true := fun d hd => by
    obtain ⟨a, b, rfl, i1, i2⟩ := isPair_true (List.all_eq_true.mp ha d hd)
    obtain ⟨z, rfl⟩ := isHigh_str i1
    obtain ⟨es, eb, j1, j6, je⟩ := isTup_true (List.all_eq_true.mp h2 _ hd)
    have eb : b = .tuple es := eb
    subst eb
    have two : ∀ d ∈ es, ∃ m : ML, d = ml m ∧ isHigh (.str m.1) = true := fun d hd => by
      obtain ⟨a, b, rfl, i1, i2⟩ := isPair_true (List.all_eq_true.mp je d hd)
      obtain ⟨z, rfl⟩ := isHigh_str i1
      cases b with
      | tuple fs => exact ⟨(z, fs), rfl, i1⟩
      | _ => cases i2
    obtain ⟨ms, rfl, hms⟩ : ∃ ms : List ML, es = ms.map ml ∧ ∀ m ∈ ms, isHigh (.str m.1) = true := by
      clear j1 j6 je hd h2 i2 eb
      induction es with
      | nil => exact ⟨[], rfl, fun _ h => by cases h⟩
      | cons e es ih =>
        obtain ⟨m, rfl, hm⟩ := two _ (List.mem_cons_self ..)
        obtain ⟨ms, rfl, hms⟩ := ih fun d hd => two d (List.mem_cons_of_mem _ hd)
        exact ⟨m :: ms, rfl, fun x hx => by rcases List.mem_cons.mp hx with rfl | hx; exact hm; exact hms x hx⟩
    rw [List.length_map] at j1 j6
    exact ⟨(z, ms), rfl, i1, by show 1 ≤ ms.length; omega, by show ms.length ≤ 6; omega, hms⟩
  have all : ∃ ks : List KL, ds = ks.map kl ∧ ∀ k ∈ ks, isHigh (.str k.1) = true ∧ 1 ≤ k.2.length ∧ k.2.length ≤ 6 ∧ ∀ m ∈ k.2, isHigh (.str m.1) = true := by
    clear g1 g6 ha h1 h2
    induction ds with
    | nil => exact ⟨[], rfl, fun _ h => by cases h⟩
    | cons d ds ih =>
      obtain ⟨k, rfl, hk⟩ := one _ (List.mem_cons_self ..)
      obtain ⟨ks, rfl, hks⟩ := ih fun d hd => one d (List.mem_cons_of_mem _ hd)
      exact ⟨k :: ks, rfl, fun x hx => by rcases List.mem_cons.mp hx with rfl | hx; exact hk; exact hks x hx⟩
  obtain ⟨ks, rfl, hk⟩ := all
  rw [List.length_map] at g1 g6
  exact ⟨ks, rfl, by omega, by omega, fun k h => (hk k h).1, fun k h => (hk k h).2.1, fun k h => (hk k h).2.2.1, fun k h => (hk k h).2.2.2⟩
/-- what they don't let through is no kinds -/
theorem no_form1 {d : PyData} (h : isTup 1 6 lPair d = false) : isKinds d = false := by
  cases e : isKinds d with
  | false => rfl
  | true =>
    have e2 : isTup 1 6 isKind d = true := by
      unfold isKinds at e
      rw [Bool.and_eq_true] at e
      exact e.1
    obtain ⟨ds, rfl, g1, g6, ha⟩ := isTup_true e2
    have : isTup 1 6 lPair (.tuple ds) = true := by
      show ((decide ((1 : Int) ≤ (ds.length : Int)) && decide ((ds.length : Int) ≤ 6)) && ds.all lPair) = true
      rw [decide_eq_true g1, decide_eq_true g6, List.all_eq_true.mpr fun d hd => by
        obtain ⟨a, b, rfl, i1, i2⟩ := isPair_true (List.all_eq_true.mp ha d hd)
        obtain ⟨es, rfl, _⟩ := isTup_true i2
        show (isHigh a && true) = true
        rw [i1]
        rfl]
      rfl
    rw [h] at this
    cases this
theorem no_form2 {ds : List PyData} (h : ds.all (fun d => isTup 1 6 lPair (sndOf d)) = false) : isKinds (.tuple ds) = false := by
  cases e : isKinds (.tuple ds) with
  | false => rfl
  | true =>
    have e2 : isTup 1 6 isKind (.tuple ds) = true := by
      unfold isKinds at e
      rw [Bool.and_eq_true] at e
      exact e.1
    obtain ⟨ds', e3, g1, g6, ha⟩ := isTup_true e2
    cases e3
    have : ds.all (fun d => isTup 1 6 lPair (sndOf d)) = true := List.all_eq_true.mpr fun d hd => by
      obtain ⟨a, b, rfl, i1, i2⟩ := isPair_true (List.all_eq_true.mp ha d hd)
      obtain ⟨es, rfl, k1, k6, ka⟩ := isTup_true i2
      show ((decide ((1 : Int) ≤ (es.length : Int)) && decide ((es.length : Int) ≤ 6)) && es.all lPair) = true
      rw [decide_eq_true k1, decide_eq_true k6, List.all_eq_true.mpr fun d hd => by
        obtain ⟨a, b, rfl, i1, i2⟩ := isPair_true (List.all_eq_true.mp ka d hd)
        obtain ⟨es, rfl, _⟩ := isTup_true i2
        show (isHigh a && true) = true
        rw [i1]
        rfl]
      rfl
    rw [h] at this
    cases this
end JF
set_option Elab.async false
set_option linter.all false
set_option maxRecDepth 100000
set_option maxHeartbeats 4000000
namespace JF
open PySem PySem.Spec PyProof.Rows L2 GxR GA PC
section
variable {K : PySem.W.Frag} {H : Hp}
theorem dx_k {v : V} {k : KL} (r : Dx K H v (kl k)) : ∃ a b ms, v = .ref a ∧ SqT K H a [.str k.1, .ref b] ∧ SqT K H b ms ∧ DxAll K H ms (k.2.map ml) := by
  cases r with
  | @tup a xs _ hs rs =>
    cases rs with
    | cons r1 rs =>
    cases rs with
    | cons r2 rs =>
    cases rs
    cases r1
    cases r2 with
    | @tup b ms _ hb rb => exact ⟨a, b, ms, rfl, .inl (.inl hs), .inl (.inl hb), rb⟩
theorem dx_m {v : V} {m : ML} (r : Dx K H v (ml m)) : ∃ a b fs, v = .ref a ∧ SqT K H a [.str m.1, .ref b] ∧ SqT K H b fs ∧ DxAll K H fs m.2 := by
  cases r with
  | @tup a xs _ hs rs =>
    cases rs with
    | cons r1 rs =>
    cases rs with
    | cons r2 rs =>
    cases rs
    cases r1
    cases r2 with
    | @tup b ms _ hb rb => exact ⟨a, b, ms, rfl, .inl (.inl hs), .inl (.inl hb), rb⟩
theorem _root_.PC.DxAll.getM {α : Type} {f : α → PyData} {vs : List V} {ks : List α} {i : Nat} {v : V} (r : DxAll K H vs (ks.map f)) (h : vs[i]? = some v) : ∃ k, ks[i]? = some k ∧ Dx K H v (f k) := by
  obtain ⟨d, hd, rd⟩ := r.get h
  rw [List.getElem?_map] at hd
  obtain ⟨k, hk, rfl⟩ := Option.map_eq_some_iff.mp hd
  exact ⟨k, hk, rd⟩
end
section
variable {P : Program} {w : World} {K : PySem.W.Frag} {mg : Str → Option Value} {base : Heap} {T : List Addr}
end
end JF
set_option Elab.async false
set_option linter.all false
set_option maxRecDepth 100000
set_option maxHeartbeats 4000000
/-! a call by names alone that may raise -/
namespace CK
open PySem PySem.Spec PyProof.Rows L2 GxR GA
/-- the names ks, in this order, bind the params as g puts them -/
structure KB0 (K : PySem.W.Frag) (fd : FuncData) (ps ks : List Str) (n : Nat) (g : ∀ {α : Type}, List α → List α) : Prop where
  to : ∀ (s : Shared) (ws : List Value), K.In s.heap → ws.length = n → BindsTo s fd ⟨[], ks.zip ws⟩ (ps.zip (g ws))
  rel : ∀ {zs : List V} {ws : List Value}, Vals zs ws → Vals (g zs) (g ws)
  len : ∀ ws : List Value, (g ws).length = ws.length
  ps : ps.length = n
def tCallKS (sp : Sp) (g : List V → List V) (E : L2.St → XK) (tk : TA) : TE := fun σ H Q => tk σ H fun zs H2 => sp (g zs) H2 Q (E σ)
section
variable {X : Cx} {CX : CXT} {k : Nat} {f : Addr} {fd : FuncData} {ps ks : List Str} {n : Nat} {g : ∀ {α : Type}, List α → List α} {sp : Sp} {E : L2.St → XK} {x : Str} {p pos : Pos} {kws : List Keyword} {tk : TA}
theorem pe_callKS (F : FnOk X.prog X.w X.K X.mg X.base CX k f fd ps sp) (hr : Room k X.A) (hg : Gl X x) (hm : X.mg x = some (.ref f)) (hk : PySem.W.keepIn X.K (.ref f) = true) (hb : KB0 X.K fd ps ks n g) (hx : ∀ σ, PassesAt CX X σ (E σ))
    (hkw : PK X kws tk) (hall : (backToKw pos (keywordEach kws X.env)).all (·.1.isSome) = true := by rfl) (hks : (backToKw pos (keywordEach kws X.env)).filterMap (·.1) = ks := by rfl)
    (hdb : (x == ("__debug__" : Str)) = false := by decide)
    (hpl : ((backTo pos (starEach [] X.env)).any (·.1) || (backToKw pos (keywordEach kws X.env)).any (·.1.isNone)) = false := by rfl) :
    PE X (.Call (.Name x p) [] kws pos) (tCallKS sp g E tk) := by
  refine ⟨fun pins s σ H Q I h => ?_⟩
  refine wpAny_Call_Name_kw (ld_glob I hg hm ?_ hdb)
  refine PySem.W.callWith_KW0 (h₀ := X.base) I.ok.mod.kin hk hall ?_ hpl
  refine thn (hkw.run pos pins s σ H _ I h) fun ws s2 ⟨zs, H2, I2, rz, q2⟩ => ⟨I2.kIn, ?_⟩
  rw [hks]
  have r2 := hb.rel rz
  have hl : ws.length = n := by
    have := F.len _ _ _ _ q2
    rw [r2.length, hb.len, hb.ps] at this
    exact this
  refine wpAny_call (codeAny_mono (F.run X.A X.stack s2 H2 ⟨[], ks.zip ws⟩ (g ws) (g zs) Q (E σ) hr I2.env0 (hb.to s2 ws I2.kIn hl) r2 q2) fun r s' hq => ?_)
  cases r with
  | error e => exact hx σ pins H2 s2 e s' I2 hq
  | ok fl =>
    cases fl with
    | ret u => exact I2.after hq
    | next => exact False.elim hq
    | brk => exact False.elim hq
    | cont => exact False.elim hq
end
end CK
set_option Elab.async false
set_option linter.all false
set_option maxRecDepth 100000
set_option maxHeartbeats 4000000
/-! a try of several clauses, some of which name the error -/
namespace TX
open PySem PySem.Spec PyProof.Rows L2
abbrev Suite := Addr → Value → Option Addr → TS
/-- a clause: its class, the slot of its name if it has one, its suite -/
structure Cl where
  cls : Value
  slot : Option Nat
  su : Suite
def Cl.ends (k : Cl) (D : Ends) : Ends := match k.slot with
  | none => D
  | some i => ⟨fun u G => D.nx (u.set i none) G, D.rt, fun u G => D.bk (u.set i none) G, fun u G => D.ct (u.set i none) G⟩
def Cl.st (k : Cl) (a : Addr) (u : L2.St) : L2.St := match k.slot with
  | none => u
  | some i => u.set i (some (.ref a))
def wMix (K : PySem.W.Frag) (Wo : WX) (D : Ends) : List Cl → WX
  | [] => Wo
  | k :: r => fun cl dd u G => ∃ yes : Bool, PySem.W.exmOne K cl k.cls = some yes ∧ (yes = true → ∀ a, G a = none → k.su a cl dd (k.ends D) (k.st a u) G) ∧ (yes = false → wMix K Wo D r cl dd u G)
inductive Clauses (X : Cx) : List ExceptHandler → List Cl → Prop
  | nil : Clauses X [] []
  | plain {x : Str} {c : Value} {su : Suite} {b₀ : Stmt} {more : List Stmt} {p1 p2 : Pos} {hds : List ExceptHandler} {l : List Cl} (nm : Names X x c)
      (ok : ∀ (a : Addr) (oe : Obj) (cl : Value) (dd : Option Addr) (pn : List (Addr × Obj)), Zc cl dd oe → (∃ vs, oe.data = .fields vs) → PSs (X.suite a ((a, oe) :: pn)) (b₀ :: more) (su a cl dd)) (r : Clauses X hds l) :
      Clauses X (.ExceptHandler (some (.Name x p1)) none (b₀ :: more) p2 :: hds) (⟨c, none, su⟩ :: l)
  | named {x n : Str} {c : Value} {i : Nat} {su : Suite} {b₀ : Stmt} {more : List Stmt} {p1 p2 : Pos} {hds : List ExceptHandler} {l : List Cl} (nm : Names X x c) (slot : X.N[i]? = some n) (loc : X.env.kindOf n = some .local)
      (ok : ∀ (a : Addr) (oe : Obj) (cl : Value) (dd : Option Addr) (pn : List (Addr × Obj)), Zc cl dd oe → (∃ vs, oe.data = .fields vs) → PSs (X.suite a ((a, oe) :: pn)) (b₀ :: more) (su a cl dd)) (r : Clauses X hds l) :
      Clauses X (.ExceptHandler (some (.Name x p1)) (some n) (b₀ :: more) p2 :: hds) (⟨c, some i, su⟩ :: l)
section
variable {X : Cx} {pins : List (Addr × Obj)} {u : L2.St} {G : Hp} {sI s : Shared} {B : Heap} {a : Addr} {cl : Value} {dd : Option Addr} {D : Ends} {Wo : WX}
/-- an error that flies is no frame of ours -/
theorem not_ours (hf : X.env.frame = some X.env.locals) (ff : s.heap.FunFrames B (X.env :: X.outer)) {oe : Obj} {vs : Array Value} (he : s.heap.get? a = some oe) (hv : oe.data = .fields vs) : a ≠ X.env.locals ∧ a ∉ X.fs := by
  have out : a ∉ frs (X.env :: X.outer) := fun m => by
    obtain ⟨_, o2, h2, no⟩ := ff.mem m
    rw [h2] at he
    cases he
    exact no _ hv
  constructor
  · intro z
    exact out (List.mem_filterMap.mpr ⟨X.env, List.mem_cons_self, by rw [hf, z]⟩)
  · intro m
    obtain ⟨en, hen, q⟩ := List.mem_filterMap.mp m
    exact out (List.mem_filterMap.mpr ⟨en, List.mem_cons_of_mem _ hen, q⟩)
theorem ask (hs : X.stack = X.env :: X.outer) (hf : X.env.frame = some X.env.locals) (nd : X.N.Nodup) (tk : Takes X Wo) (I : Inv X pins u G sI) (nb : ∀ b o, sI.heap.get? b = some o → b ∉ frs X.stack → B.get? b = some o)
    (up : sI.heap.UpToSlots s.heap) (fl : HandSPX.FlyingZ B (X.env :: X.outer) a (Zc cl dd) s.heap) (na : G a = none) (os : s.os = sI.os) (ag : AllBare s.gens) : ∀ {hds : List ExceptHandler} {l : List Cl}, Clauses X hds l → wMix X.K Wo D l cl dd u G →
      wpAny (model X.prog X.w) X.A (handleBy (.ref a) X.env hds) (SP X pins D) X.xe s := by
  have J : Inv X pins u G s := I.landed nb fl.1 up os ag
  have ok := I.ok
  obtain ⟨oe, vs, hoe, hz, hdat⟩ := fl.there
  obtain ⟨nL, nF⟩ := not_ours hf fl.2.2.1 hoe hdat
  have S := J.suite hoe hdat na nL nF
  -- the class is looked up, the question is put
  have put : ∀ {x : Str} {c : Value} {p1 : Pos} {yes : Bool} {Q : Bool → Shared → Prop} {E E2 : Value → Shared → Prop}, Names X x c → PySem.W.exmOne X.K cl c = some yes → Q yes s →
      wpAny (model X.prog X.w) (X.A.mark (some (.ref a))) (eval (.Name x p1) X.env) (fun v t => wpAny (model X.prog X.w) (X.A.mark (some (.ref a))) (excMatches (.ref a) v) Q E2 t) E s := by
    intro x c p1 yes Q E E2 nm h1 q
    have look : PySem.W.Looks (model X.prog X.w) s.heap (typeOf (.ref a)) cl := fun A Q E t k r => wpAny_typeOf_ref (k _ _ hoe) (by rw [hz.1]; exact r)
    have M := PySem.W.exm_one (M := model X.prog X.w) J.kIn look h1
    obtain ⟨hg, hdbg, hm | ⟨hm, hv, hnn⟩⟩ := nm
    · exact ld_glob (X := X.suite a ((a, oe) :: (X.pn ++ pins))) S hg hm (M.here q) hdbg
    · exact ld_blt (X := X.suite a ((a, oe) :: (X.pn ++ pins))) S hg hm hv (M.here q) hnn hdbg
  intro hds l hk
  induction hk with
  | nil =>
    intro no
    refine wpAny_handleBy_nil ?_
    obtain ⟨_, _, _, o1, v1, T1, oT1, t1, g1, _, g3, g4, _⟩ := id fl
    unfold PySem.passOn
    refine wpAny_bind (wpAny_field g1 g3 g4 ?_)
    rw [if_neg (show ¬ ((Value.ref T1 == Value.none) = true) from by simp)]
    have last : wpAny (model X.prog X.w) X.A (setFlight (.ref a) X.env.frame) (fun _ t => wpAny (model X.prog X.w) X.A (throw (.ref a) : Sem Flow) (SP X pins D) X.xe t) X.xe s := by
      rw [hf]
      refine HandSPX.setFlight_upZ fl fun g hg upg => wpAny_throw (tk _ _ ⟨a, B, sI, pins, u, G, cl, dd, rfl, I, nb, up.trans upg, .inr (.inr ?_), na, os, ag, no⟩)
      rw [hs]
      exact hg
    first
      | exact wpAny_bind (wpAny_pure (wpAny_bind last))
      | exact wpAny_bind last
  | plain nm okS r ih =>
    rintro ⟨yes, h1, hy, hn⟩
    refine wpAny_handleBy_cons (codeAny_handlers_test (put nm h1 ?_)) (by intro q; cases q)
    cases yes with
    | false => exact ih (hn rfl)
    | true =>
      refine codeAny_handlers_suite (HandSPX.lands_againZ fl fun g flg upg => ?_)
      obtain ⟨oe2, vs2, hoe2, hz2, hdat2⟩ := flg.there
      have S2 := (I.landed (s' := { s with heap := g }) nb flg.1 (up.trans upg) os ag).suite hoe2 hdat2 na nL nF
      refine wpAny_mono ((okS a oe2 cl dd (X.pn ++ pins) hz2 ⟨_, hdat2⟩).run [] _ _ G _ S2 (hy rfl a na)) (fun f t h => ?_) (fun _ _ z => z.elim)
      cases f with
      | next => exact let ⟨_, _, S3, q⟩ := h; ⟨_, _, S3.unsuite ok, q⟩
      | brk => exact let ⟨_, _, S3, q⟩ := h; ⟨_, _, S3.unsuite ok, q⟩
      | cont => exact let ⟨_, _, S3, q⟩ := h; ⟨_, _, S3.unsuite ok, q⟩
      | ret v => exact let ⟨_, _, _, S3, rv, q⟩ := h; ⟨_, _, _, S3.unsuite ok, rv, q⟩
  | named nm slot loc okS r ih =>
    rintro ⟨yes, h1, hy, hn⟩
    refine wpAny_handleBy_cons (codeAny_handlers_test (put nm h1 ?_)) (by intro q; cases q)
    cases yes with
    | false => exact ih (hn rfl)
    | true =>
      refine codeAny_handlers_suite_as (HandSPX.lands_againZ fl fun g flg upg => ?_)
      obtain ⟨oe2, vs2, hoe2, hz2, hdat2⟩ := flg.there
      have S2 := (I.landed (s' := { s with heap := g }) nb flg.1 (up.trans upg) os ag).suite hoe2 hdat2 na nL nF
      refine store_ok (X := X.suite a ((a, oe2) :: (X.pn ++ pins))) (v := .ref a) S2 nd slot (.inl loc) rfl (fun t S3 => ?_) (.inr loc)
      refine wpAny_mono ((okS a oe2 cl dd (X.pn ++ pins) hz2 ⟨_, hdat2⟩).run [] t _ G _ S3 (hy rfl a na)) (fun f t2 h => ?_) (fun _ _ z => z.elim)
      have bye : ∀ {p2 : Pos} {u6 : L2.St} {G6 : Hp} {Q : Shared → Prop}, Inv (X.suite a ((a, oe2) :: (X.pn ++ pins))) [] u6 G6 t2 → (∀ t7, Inv X pins (u6.set _ none) G6 t7 → Q t7) →
          wpAny (model X.prog X.w) X.A (do bindName X.env _ .none; unbindBehindTheSuite X.env _ p2) (fun _ t7 => Q t7) X.xe t2 := fun S6 q => gone_ok (S6.unsuite ok) nd slot loc q
      cases f with
      | next => exact let ⟨_, _, S3, q⟩ := h; bye S3 fun _ J7 => ⟨_, _, J7, q⟩
      | brk => exact let ⟨_, _, S3, q⟩ := h; bye S3 fun _ J7 => ⟨_, _, J7, q⟩
      | cont => exact let ⟨_, _, S3, q⟩ := h; bye S3 fun _ J7 => ⟨_, _, J7, q⟩
      | ret v => exact let ⟨_, _, _, S3, rv, q⟩ := h; bye S3 fun _ J7 => ⟨_, _, _, J7, rv, q⟩
def tTry (K : PySem.W.Frag) (Wo : WX) (l : List Cl) (tb : WX → TS) : TS := fun D u G => tb (wMix K Wo D l) D u G
theorem ps_try_mix {body : List Stmt} {h₀ : ExceptHandler} {hds : List ExceptHandler} {l : List Cl} {pos : Pos} {tb : WX → TS} (hs : X.stack = X.env :: X.outer) (hf : X.env.frame = some X.env.locals) (nd : X.N.Nodup) (tk : Takes X Wo)
    (hb : ∀ (W : WX) (pn : List (Addr × Obj)) (xe : Value → Shared → Prop), Takes (X.tr pn xe) W → PassesOwn (model X.prog X.w) X.A X.env xe → PSs (X.tr pn xe) body (tb W)) (hk : Clauses X (h₀ :: hds) l) :
    PS X (.Try body (h₀ :: hds) [] [] pos) (tTry X.K Wo l tb) := by
  constructor
  intro pins s u G D I h
  have fr : X.A.frames = some (X.env :: X.outer) := by rw [I.ok.frames, hs]
  refine wpAny_Try_except (wpAny_mono ((hb (wMix X.K Wo D l) (X.pn ++ pins) (fun e s1 => wpAny (model X.prog X.w) X.A (noteFrame e X.env) (fun _ s2 => wpAny (model X.prog X.w) X.A (setFlight e none) (fun _ s3 => wpAny (model X.prog X.w) X.A (handleBy e X.env (h₀ :: hds)) (SP X pins D) X.xe s3) X.xe s2) X.xe s1)
    (fun v t air => ?_) PassesOwn.looking).run [] s u G D (I.toTry _) h) (fun f t h2 => ?_) (fun _ _ z => z))
  · obtain ⟨a, B, sI, _, u2, G2, cl, dd, rfl, J, nb, up, sky, na, os, ag, q⟩ := air
    rw [show (X.tr (X.pn ++ pins) _).stack = X.env :: X.outer from hs] at sky
    exact Sky.land Zc.steady fr hf sky fun g fl upg => ask (s := { t with heap := g }) hs hf nd tk (J.ofTry I.ok) nb (up.trans upg) fl na os ag hk q
  · cases f with
    | next => exact let ⟨_, _, J, q⟩ := h2; wpAny_execs_nil ⟨_, _, J.ofTry I.ok, q⟩
    | brk => exact let ⟨_, _, J, q⟩ := h2; ⟨_, _, J.ofTry I.ok, q⟩
    | cont => exact let ⟨_, _, J, q⟩ := h2; ⟨_, _, J.ofTry I.ok, q⟩
    | ret v => exact let ⟨_, _, _, J, rv, q⟩ := h2; ⟨_, _, _, J.ofTry I.ok, rv, q⟩
end
end TX
set_option Elab.async false
set_option linter.all false
set_option maxRecDepth 100000
set_option maxHeartbeats 4000000
namespace JF
open PySem PySem.Spec PyProof.Rows L2 GxR GA PC
/-- what the door raises, or "told" -/
def doorDue (d1 d2 : PyData) : Str := if isKinds (bare d1) = true then (match isKindName (kindsOf (bare d1)) (bare d2) with | some _ => "told" | none => "kind") else "kinds"
structure ExmD (K : PySem.W.Frag) (c1 c2 : Addr) : Prop where
  kk : PySem.W.exmOne K (.ref c1) (.ref c1) = some true
  dk : PySem.W.exmOne K (.ref c2) (.ref c1) = some false
  dd : PySem.W.exmOne K (.ref c2) (.ref c2) = some true
def spDoor (K : PySem.W.Frag) (T : List Addr) : Sp := fun vs H Q _ => ∃ (v1 v2 v3 : V) (d1 d2 d3 : PyData) (b : Bool), vs = [v1, v2, v3, .bl b] ∧ Dx K H v1 d1 ∧ Dx K H v2 d2 ∧ Dx K H v3 d3 ∧ TbOk T H ∧ ∀ H', Ex T H H' → Q (.str (doorDue d1 d2)) H'
section
variable {P : Program} {w : World} {K : PySem.W.Frag} {mg : Str → Option Value} {base : Heap} {T : List Addr}
abbrev rev3 {α : Type} (xs : List α) : List α := xs.reverse
end
end JF
set_option Elab.async false
set_option linter.all false
set_option maxRecDepth 100000
set_option maxHeartbeats 4000000
namespace JF
open PySem PySem.Spec PyProof.Rows L2 GxR GA PC
/-- the heap without the well's two lists -/
def off (p q : Addr) (H : Hp) : Hp := era p (era q H)
/-- a well of draws stands at p, q; what is beside it is as tb tells -/
structure Wl (T : List Addr) (p q : Addr) (b : Nat) (H : Hp) : Prop where
  w : WellAt q b H p
  np : p ∉ T
  nq : q ∉ T
  tb : TbOk T (off p q H)
section
variable {K : PySem.W.Frag} {T : List Addr} {p q : Addr} {b : Nat} {H H' : Hp}
theorem off_some {c : Addr} {o : HO} (h : off p q H c = some o) : c ≠ p ∧ c ≠ q ∧ H c = some o := by
  obtain ⟨n1, h⟩ := era_some h
  obtain ⟨n2, h⟩ := era_some h
  exact ⟨n1, n2, h⟩
theorem off_at {c : Addr} {o : HO} (h : H c = some o) (n1 : c ≠ p) (n2 : c ≠ q) : off p q H c = some o := by
  unfold off
  rw [era_ne n1, era_ne n2]
  exact h
theorem off_un : ∀ c o, off p q H c = some o → H c = some o := fun c o h => (off_some h).2.2
theorem Wl.tbH (L : Wl T p q b H) : TbOk T H := tb_unera (tb_unera L.tb)
theorem Wl.le {b' : Nat} (L : Wl T p q b H) (h : b ≤ b') : Wl T p q b' H := by
  obtain ⟨m, c, ts, ne, hp, hq, h0, h1, h2, h3, h4, h5⟩ := L.w
  exact ⟨⟨m, c, ts, ne, hp, hq, h0, h1, h2, by omega, h4, h5⟩, L.np, L.nq, L.tb⟩
theorem Wl.ex (L : Wl T p q b H) (x : Ex T H H') : Wl T p q b H' ∧ Ex T (off p q H) (off p q H') := by
  have xo : Ex T (off p q H) (off p q H') := ⟨fun t => tb_era L.np (tb_era L.nq (x.tb (tb_unera (tb_unera t)))), fun c o e hc => by
    obtain ⟨n1, n2, h⟩ := off_some e
    exact off_at (x.keep c o h hc) n1 n2⟩
  obtain ⟨m, c, ts, ne, hp, hq, h⟩ := L.w
  exact ⟨⟨⟨m, c, ts, ne, x.keep p _ hp L.np, x.keep q _ hq L.nq, h⟩, L.np, L.nq, xo.tb L.tb⟩, xo⟩
theorem Wl.draw (L : Wl T p q b H) (kp : ∀ x o, H x = some o → x ≠ p → x ≠ q → H' x = some o) (w : WellAt q (b + 1) H' p) : Wl T p q (b + 1) H' ∧ Ex T (off p q H) (off p q H') := by
  have kp2 : ∀ c o, off p q H c = some o → off p q H' c = some o := fun c o e => by
    obtain ⟨n1, n2, h⟩ := off_some e
    exact off_at (kp c o h n1 n2) n1 n2
  have xo : Ex T (off p q H) (off p q H') := ⟨fun t P hP => by
    obtain ⟨ps, e, r⟩ := t P hP
    exact ⟨ps, kp2 _ _ e, r⟩, fun c o e _ => kp2 c o e⟩
  exact ⟨⟨w, L.np, L.nq, xo.tb L.tb⟩, xo⟩
theorem Wl.new (L : Wl T p q b H) {r : Addr} {o : HO} (n : H r = none) : Wl T p q b (upd H r o) ∧ Ex T (off p q H) (off p q (upd H r o)) ∧ off p q (upd H r o) r = some o := by
  obtain ⟨m, c, ts, ne, hp, hq, _⟩ := L.w
  obtain ⟨L', x⟩ := L.ex (Ex.new (T := T) (o := o) n)
  exact ⟨L', x, off_at upd_same (fun z => by rw [z, hp] at n; cases n) (fun z => by rw [z, hq] at n; cases n)⟩
theorem fresh_of {G G' : Hp} {D : Addr} (x : Ex T G G') (t : TbOk T G) (n : G' D = none) : G D = none := by
  cases e : G D with
  | none => rfl
  | some o =>
    by_cases hD : D ∈ T
    · obtain ⟨ps, z, _⟩ := x.tb t D hD
      rw [n] at z; cases z
    · have := x.keep D o e hD
      rw [n] at this; cases this
theorem off_none {D : Addr} (n : H D = none) : off p q H D = none := by
  cases z : off p q H D with
  | none => rfl
  | some o => rw [(off_some z).2.2] at n; cases n
theorem off_upd {D : Addr} {o : HO} (n1 : D ≠ p) (n2 : D ≠ q) : off p q (upd H D o) = upd (off p q H) D o := by
  funext z
  unfold off era upd
  by_cases z1 : z = D
  · subst z1
    simp [n1, n2]
  · simp [z1]
/-- a list beside the well is filled on -/
theorem Wl.fill (L : Wl T p q b H) {D : Addr} {xs ys : List V} (hD : off p q H D = some (.lst xs)) : Wl T p q b (upd H D (.lst ys)) := by
  obtain ⟨n1, n2, h⟩ := off_some hD
  have nT : D ∉ T := L.tb.seqN hD (fun _ z => by cases z)
  obtain ⟨m, c, ts, ne, hp, hq, w⟩ := L.w
  refine ⟨⟨m, c, ts, ne, by rw [upd_ne n1.symm]; exact hp, by rw [upd_ne n2.symm]; exact hq, w⟩, L.np, L.nq, fun P hP => ?_⟩
  obtain ⟨ps, e, r⟩ := L.tb P hP
  have nP : P ≠ D := fun z => nT (by rw [← z]; exact hP)
  exact ⟨ps, by rw [off_upd n1 n2, upd_ne nP]; exact e, r⟩
theorem Wl.keep (L : Wl T p q b H) (x : Ex T (off p q H) (off p q H')) {c : Addr} {o : HO} (h : off p q H c = some o) (n : ∀ ps, o ≠ .tbl ps) : off p q H' c = some o := x.keep c o h (L.tb.seqN h n)
end
end JF
set_option Elab.async false
set_option linter.all false
set_option maxRecDepth 100000
set_option maxHeartbeats 4000000
namespace JF
open PySem PySem.Spec PyProof.Rows L2 GxR GA PC
theorem nodup_le {α : Type} [DecidableEq α] : ∀ (xs ys : List α), xs.Nodup → (∀ x ∈ xs, x ∈ ys) → xs.length ≤ ys.length
  | [], _, _, _ => Nat.zero_le _
  | x :: xs, ys, nd, h => by
    obtain ⟨n1, n2⟩ := List.nodup_cons.mp nd
    have hx := h x (List.mem_cons_self ..)
    have := nodup_le xs (ys.erase x) n2 (fun y hy => (List.mem_erase_of_ne (fun e => n1 (by rw [← e]; exact hy))).mpr (h y (List.mem_cons_of_mem _ hy)))
    rw [List.length_erase_of_mem hx] at this
    have : 0 < ys.length := List.length_pos_of_mem hx
    rw [List.length_cons]
    omega
/-- a letter and a number -/
def cand (c k : Nat) : Str := (⟨#[c]⟩ : Str) ++ Str.ofString (toString ((k : Nat) : Int))
theorem cand_any {c k : Nat} (hc : c = 78 ∨ c = 110) (hk : k < 400) : isAny (.str (cand c k)) = true := by
  rcases hc with rfl | rfl
  · exact (show ∀ k, k < 400 → isAny (.str (cand 78 k)) = true by decide +kernel) k hk
  · exact (show ∀ k, k < 400 → isAny (.str (cand 110 k)) = true by decide +kernel) k hk
theorem cand_nodup {c : Nat} (hc : c = 78 ∨ c = 110) : ((List.range 61).map (cand c)).Nodup := by
  rcases hc with rfl | rfl <;> decide +kernel
end JF
set_option Elab.async false
set_option linter.all false
set_option maxRecDepth 100000
set_option maxHeartbeats 4000000
namespace JF
open PySem PySem.Spec PyProof.Rows L2 GxR GA PC
abbrev sLNm : Stmt := topS 33
def lsOf (hi : Bool) : Str := if hi then highSigns else lowSigns
/-- a drawn name, high or low, unlike the taken ones -/
def spLNm (K : PySem.W.Frag) (T : List Addr) : Sp := fun vs H Q _ => ∃ (p q : Addr) (b : Nat) (hi : Bool) (t : Addr) (names : List Str), vs = [.ref p, .bl hi, .ref t] ∧ Wl T p q b H ∧ b + 20 < 1000000 ∧ off p q H t = some (.lst (names.map V.str)) ∧ names.length ≤ 60 ∧ (∀ z ∈ names, 0 < z.length ∧ z.length ≤ 10) ∧
  ∀ H' z, isAny (.str z) = true → firstIn (lsOf hi) z = true → z ∉ names → Ex T (off p q H) (off p q H') → Wl T p q (b + 20) H' → Q (.str z) H'
theorem ifC {b : Bool} {x y : V} {σ : L2.St} {H : Hp} {Q : VK} (h : ∀ z, z = (if b then x else y) → Q z H) : if b = true then tC x σ H Q else tC y σ H Q := by
  cases b with
  | true => exact h _ rfl
  | false => exact h _ rfl
theorem seq_cut {a b : TS} {D : Ends} {σ : L2.St} {H : Hp} (I : L2.St → Hp → Prop) (hb : ∀ σ' H', I σ' H' → b D σ' H') (ha : (∀ σ' H', I σ' H' → b D σ' H') → tSeq a b D σ H) : tSeq a b D σ H := ha hb
abbrev wordsD : List Str := ["case", "drop", "entry", "free", "fun", "give", "hold", "in", "into", "kind", "number", "r1", "t07", "add"]
/-- _law_name's store and heap between its ifs -/
structure JN (T : List Addr) (p q t l5 : Addr) (hi : Bool) (ls : Str) (names : List Str) (way : Int) (b : Nat) (H : Hp) (σ : L2.St) (G : Hp) : Prop where
  σ : ∃ (fnd : Str) (a8 a9 a10 : Option V), σ = [some (.ref p), some (.bl hi), some (.ref t), some (.str ls), some (.str "abcdefghijklmnopqrstuvwxyzABCDEFGHIJKLMNOPQRSTUVWXYZ0123456789"), some (.ref l5), some (.int way), some (.str fnd), a8, a9, a10, none] ∧ fnd.length ≤ 100
  x : Ex T (off p q H) (off p q G)
  L : Wl T p q b G
  h5 : off p q G l5 = some (.lst (wordsD.map V.str))
theorem cut_len (z : Str) (lo hi : Option Int) : (cutS z lo hi).length ≤ z.length := by
  show (List.toArray _).size ≤ z.cps.size
  rw [List.size_toArray, List.length_take, List.length_drop]
  have : z.cps.toList.length = z.cps.size := by simp
  omega
/-- the store and heap behind the choice of old names -/
structure J8 (T : List Addr) (p q t l5 : Addr) (hi : Bool) (ls : Str) (way : Int) (b : Nat) (H : Hp) (σ : L2.St) (G : Hp) : Prop where
  σ : ∃ (fnd : Str) (ol : Addr) (olds : List Str) (a9 a10 : Option V), σ = [some (.ref p), some (.bl hi), some (.ref t), some (.str ls), some (.str "abcdefghijklmnopqrstuvwxyzABCDEFGHIJKLMNOPQRSTUVWXYZ0123456789"), some (.ref l5), some (.int way), some (.str fnd), some (.ref ol), a9, a10, none] ∧ off p q G ol = some (.lst (olds.map V.str)) ∧ 0 < olds.length ∧ olds.length ≤ 100 ∧ ∀ z ∈ olds, z.length ≤ 10
  x : Ex T (off p q H) (off p q G)
  L : Wl T p q b G
  h5 : off p q G l5 = some (.lst (wordsD.map V.str))
theorem atI_of {xs : List V} {r : Int} (h0 : 0 ≤ r) (h1 : r < xs.length) : ∃ v, atI xs r = some v ∧ v ∈ xs := by
  obtain ⟨j, rfl⟩ := Int.eq_ofNat_of_zero_le h0
  have hj : j < xs.length := by omega
  exact ⟨xs[j], atI_nat (j := j) (by simp [hj]), List.getElem_mem hj⟩
theorem ifs_cut {t : TT} {a b : TS} {D : Ends} {σ : L2.St} {H : Hp} (I : Hp → Prop) (ha : ∀ H', I H' → a D σ H') (h : (∀ H', I H' → a D σ H') → tIfS t a b D σ H) : tIfS t a b D σ H := h ha
theorem int_logS {i : Int} (h0 : 0 ≤ i) (h1 : i < 1000) : i.natAbs.log2 < 20 := by
  have : i.natAbs < 2 ^ 20 := by omega
  by_cases z : i.natAbs = 0
  · rw [z]; decide
  · exact (Nat.log2_lt z).mpr this
/-- a row of letters -/
structure Ltr (ls : Str) : Prop where
  len : ls.length = 26
  at13 : ∃ c, ls.cps[13]? = some c ∧ (c = 78 ∨ c = 110)
theorem ltr_high : Ltr highSigns := ⟨by decide +kernel, 78, by decide +kernel, .inl rfl⟩
theorem ltr_low : Ltr lowSigns := ⟨by decide +kernel, 110, by decide +kernel, .inr rfl⟩
theorem sign_at {z : Str} {r : Int} {n : Nat} (h0 : 0 ≤ r) (h1 : r < n) (hl : z.length = n) : ∃ c, z.cps[r.toNat]? = some c := by
  have : r.toNat < z.cps.size := by
    have e : z.length = z.cps.size := rfl
    omega
  exact ⟨_, Array.getElem?_eq_getElem this⟩
theorem first_at {z ls : Str} {c : Nat} (h : z.cps[(0 : Int).toNat]? = some c) (e : decide (c ∈ ls.cps.toList) = true) : firstIn ls z = true := by
  have h2 : z.cps.toList[0]? = some c := by simpa using h
  unfold firstIn
  cases q : z.cps.toList with
  | nil => rw [q] at h2; cases h2
  | cons d r =>
    rw [q] at h2
    cases h2
    exact e
theorem cand_first {ls : Str} {c : Nat} (h : ls.cps[13]? = some c) (k : Nat) : firstIn ls (cand c k) = true := by
  have m : c ∈ ls.cps.toList := by simpa using Array.mem_of_getElem? h
  unfold firstIn cand
  rw [PySem.Str.cps_append, Array.toList_append]
  exact decide_eq_true m
section
variable {P : Program} {w : World} {K : PySem.W.Frag} {mg : Str → Option Value} {base : Heap} {T : List Addr}
abbrev nLNm : List Str := ["well", "high", "taken", "letters", "signs", "words", "way", "found", "olds", "old", "at", "k"]
theorem scLNm : FnScope ["well", "high", "taken", "letters", "signs", "words", "way", "found", "olds", "old", "at", "k"] ["well", "high", "taken"] (defScope sLNm) := ⟨rfl, rfl, rfl, by decide +kernel, rfl, by decide +kernel, by decide +kernel⟩
theorem ok_lnm {f aD aN : Addr} {fd dD dN : FuncData} (F : Fun K "_law_name" "_law_name" sLNm f fd) (B : BI mg) (mr : mg "range" = none)
    (GD : FnOk P w K mg base CX0 1 aD dD ["well", "many"] spDraw) (mD : mg "_law_draw" = some (.ref aD)) (kD : PySem.W.keepIn K (.ref aD) = true) (bD : Binds K dD ["well", "many"] [])
    (GN : FnOk P w K mg base CX0 1 aN dN ["value"] (spLx K T isAny)) (mN : mg "_law_is_name" = some (.ref aN)) (kN : PySem.W.keepIn K (.ref aN) = true) (bN : Binds K dN ["value"] []) :
    FnOk P w K mg base CX0 2 f fd ["well", "high", "taken"] (spLNm K T) := by
  refine F.ok scLNm (fun vs H Q E h => ?_) (fun cdv A outer s H vs Q E hr h => ?_)
  · obtain ⟨p, q, b, hi, t, names, rfl, _⟩ := h
    rfl
  · obtain ⟨p, q, b, hi, t, names, rfl, L, hb, ht, n60, nz, k⟩ := h
    refine ⟨_, pss_cons (ps_set (i := 3) scLNm.nd rfl (.inr rfl) (pe_ifExp (pt_val (pv 1)) pe_str pe_str))
      (pss_cons (ps_set (i := 4) scLNm.nd rfl (.inr rfl) pe_str)
      (pss_cons (ps_set (i := 5) scLNm.nd rfl (.inl rfl) (pe_lst (pa_cons pe_str (pa_cons pe_str (pa_cons pe_str (pa_cons pe_str (pa_cons pe_str (pa_cons pe_str (pa_cons pe_str (pa_cons pe_str (pa_cons pe_str (pa_cons pe_str (pa_cons pe_str (pa_cons pe_str (pa_cons pe_str (pa_cons pe_str pa_nil))))))))))))))))
      (pss_cons (ps_parC (i := 6) (j := 7) rfl scLNm.nd rfl rfl (by decide) (.inl rfl) (.inl rfl) (pa_cons (pe_call GD (hr.mono (by decide)) (by rfl) mD kD bD .nil pass0 (pa_cons (pv 0) (pa_cons pe_int pa_nil))) (pa_cons (pe_item_str (pv 3) (pe_call GD (hr.mono (by decide)) (by rfl) mD kD bD .nil pass0 (pa_cons (pv 0) (pa_cons pe_int pa_nil))) (fun _ _ => rfl)) pa_nil)) rfl)
      (pss_cons (ps_if (pt_cmpR op_eq (pv 6) pe_int (nomark _)) (pss_one (ps_set (i := 7) scLNm.nd rfl (.inl rfl) (pe_op op_add_str (pv 7) (pe_join pe_str (pe_lc (own := [("k", 11)]) (g := gName 11) (tt := tYes) (by rfl) scLNm.nd (pi_range1 (by rfl) mr (pa_cons (pe_call GD (hr.mono (by decide)) (by rfl) mD kD bD .nil pass0 (pa_cons (pv 0) (pa_cons pe_int pa_nil))) pa_nil)) (blkOk_by (N := nLNm) (sc := defScope sLNm) (by decide +kernel))
          (fun _ _ _ _ _ => pg_name (i := 11) scLNm.nd rfl (.inl rfl)) (fun _ _ _ _ _ => pts_nil) (fun _ _ _ _ _ => pe_item_str (pv 4) (pe_call GD (hr.mono (by decide)) (by rfl) mD kD bD .nil pass0 (pa_cons (pv 0) (pa_cons pe_int pa_nil))) (fun _ _ => rfl))))))) pss_nil)
      (pss_cons (ps_if (pt_cmpR op_gt (pv 6) pe_int (nomark _)) (pss_cons (ps_set (i := 8) scLNm.nd rfl (.inl rfl) (pe_ifExp (pt_cmpR op_eq (pv 6) pe_int (nomark _)) (pe_op op_cat (pv 2) (pv 5)) (pv 5)))
        (pss_cons (ps_set (i := 9) scLNm.nd rfl (.inl rfl) (pe_ix ix_list (pv 8) (pe_call GD (hr.mono (by decide)) (by rfl) mD kD bD .nil pass0 (pa_cons (pv 0) (pa_cons (pe_callB call_len_seq (by rfl) B.len PySem.boot_len (pa_cons (pv 8) pa_nil)) pa_nil))) (fun _ _ => rfl)))
        (pss_cons (ps_set (i := 10) scLNm.nd rfl (.inl rfl) (pe_call GD (hr.mono (by decide)) (by rfl) mD kD bD .nil pass0 (pa_cons (pv 0) (pa_cons (pe_op op_add (pe_callB call_len_str (by rfl) B.len PySem.boot_len (pa_cons (pv 9) pa_nil)) pe_int) pa_nil))))
        (pss_cons (ps_set (i := 7) scLNm.nd rfl (.inl rfl) (pe_slice sl_str (pe_op op_add_str (pe_op op_add_str (pe_slice sl_str (pv 9) po_none (po_some (pv 10))) (pe_ix ix_list (pe_lst (pa_cons pe_str (pa_cons (pe_item_str (pv 4) (pe_call GD (hr.mono (by decide)) (by rfl) mD kD bD .nil pass0 (pa_cons (pv 0) (pa_cons pe_int pa_nil))) (fun _ _ => rfl)) pa_nil))) (pe_call GD (hr.mono (by decide)) (by rfl) mD kD bD .nil pass0 (pa_cons (pv 0) (pa_cons pe_int pa_nil))) (fun _ _ => rfl)))
          (pe_slice sl_str (pv 9) (po_some (pe_op op_add (pv 10) (pe_call GD (hr.mono (by decide)) (by rfl) mD kD bD .nil pass0 (pa_cons (pv 0) (pa_cons pe_int pa_nil))))) po_none)) po_none (po_some pe_int)))
        (pss_one (ps_set (i := 7) scLNm.nd rfl (.inl rfl) (pe_ifExp (pt_val (pv 1)) (pe_op op_add_str (pe_upper (pe_slice sl_str (pv 7) po_none (po_some pe_int))) (pe_slice sl_str (pv 7) (po_some pe_int) po_none)) (pv 7)))))))) pss_nil)
      (pss_cons (ps_if (PW.pt (pw_or (pt_not (pt_val (pe_call GN (hr.mono (by decide)) (by rfl) mN kN bN .nil pass0 (pa_cons (pv 7) pa_nil))))
        (pw_or (pt_cmpR op_notIn_sign (pe_item_str (pv 7) pe_int (fun _ _ => rfl)) (pv 3) rfl)
        (pw_or1 (pt_cmpR (op_inK (K := K) rfl) (pv 7) (pv 2) rfl))))) (pss_one (ps_set (i := 7) scLNm.nd rfl (.inl rfl) (pe_ix ix_list (pe_lc (own := [("k", 11)]) (g := gName 11) (by rfl) scLNm.nd (pi_range1 (by rfl) mr (pa_cons pe_int pa_nil)) (blkOk_by (N := nLNm) (sc := defScope sLNm) (by decide +kernel))
          (fun _ _ _ _ _ => pg_name (i := 11) scLNm.nd rfl (.inl rfl)) (fun _ _ _ _ _ => pts_one (pt_cmpR (op_notInK (K := K) rfl) (pe_op op_add_str (pe_item_str (pv 3) pe_int (fun _ _ => rfl)) (pe_callTy call_str_int (by rfl) B.str (by decide +kernel) (pa_cons (pv 11) pa_nil))) (pv 2) rfl))
          (fun _ _ _ _ _ => pe_op op_add_str (pe_item_str (pv 3) pe_int (fun _ _ => rfl)) (pe_callTy call_str_int (by rfl) B.str (by decide +kernel) (pa_cons (pv 11) pa_nil)))) pe_int (fun _ _ => rfl)))) pss_nil)
      (pss_one (ps_ret (pv 7))))))))), ?_⟩
    refine ⟨_, rfl, ⟨_, rfl, ifC (fun z hz => ?_)⟩⟩
    obtain ⟨ls, rfl, hls, hlo⟩ : ∃ ls, z = .str ls ∧ Ltr ls ∧ ls = lsOf hi := by
      cases hi with
      | true => exact ⟨_, hz, ltr_high, rfl⟩
      | false => exact ⟨_, hz, ltr_low, rfl⟩
    clear hz
    refine ⟨by show 14 ≤ sizeLine; decide, fun l5 hl5 => ?_⟩
    obtain ⟨L1, x1, h5⟩ := L.new (o := .lst [.str "case", .str "drop", .str "entry", .str "free", .str "fun", .str "give", .str "hold", .str "in", .str "into", .str "kind", .str "number", .str "r1", .str "t07", .str "add"]) hl5
    refine ⟨_, rfl, p, q, b, 4, rfl, L1.w, by decide, by decide, by omega, fun H2 way w0 w1 kp2 hw2 => ?_⟩
    obtain ⟨L2, x2⟩ := L1.draw kp2 hw2
    have x2 := x1.trans x2
    have h5 := L2.keep (H' := H2) Ex.refl (L1.keep (H' := H2) (L1.draw kp2 hw2).2 h5 (fun _ z => by cases z)) (fun _ z => by cases z)
    clear kp2 hw2
    refine ⟨_, rfl, _, rfl, p, q, b + 1, 26, rfl, L2.w, by decide, by decide, by omega, fun H3 r3 r30 r31 kp3 hw3 => ?_⟩
    obtain ⟨L3, x3⟩ := L2.draw kp3 hw3
    have h5 := L2.keep x3 h5 (fun _ z => by cases z)
    have x3 := x2.trans x3
    clear kp3 hw3 x1 x2 L1 L2
    obtain ⟨c3, hc3⟩ := sign_at r30 r31 hls.len
    refine ⟨ls, r3, c3, rfl, rfl, r30, by omega, by rw [hls.len]; exact r31, hc3, _, _, rfl, ?_⟩
    dsimp only
    refine seq_cut (JN T p q t l5 hi ls names way (b + 12) H) (fun σ1 G1 J1 => ?_) (fun rest => ?_)
    · obtain ⟨fnd, a8, a9, a10, rfl, f40⟩ := J1.σ
      have L1 := J1.L
      have xa := J1.x
      have h5a := J1.h5
      clear J1 h5 x3 L3
      refine seq_cut (JN T p q t l5 hi ls names way (b + 17) H) (fun σ2 G2 J2 => ?_) (fun rest => ?_)
      · obtain ⟨z, a8, a9, a10, rfl, f100⟩ := J2.σ
        have L2 := J2.L
        have xb := J2.x
        clear J2 xa L1 h5a f40 fnd
        have tT := L.tb.seqN ht (fun _ z => by cases z)
        have kf : ∀ G y, isAny (.str y) = true → firstIn ls y = true → y ∉ names → Ex T (off p q H) (off p q G) → Wl T p q (b + 17) G → Q (.str y) G := fun G y e e1 e2 x L => k G y e (by rw [← hlo]; exact e1) e2 x (L.le (by omega))
        show tIfS _ _ _ _ _ _
        refine ifs_cut (fun G => Ex T (off p q H) (off p q G) ∧ Wl T p q (b + 17) G) (fun G1 ⟨x1, L1⟩ => ?_) (fun fall => ?_)
        · obtain ⟨c, hc, cc⟩ := hls.at13
          refine ⟨400, rfl, by decide, by decide, fun D hD => ?_⟩
          obtain ⟨L3, x3, hD3⟩ := L1.new (o := .lst []) hD
          have hDn : off p q H D = none := fresh_of x1 L.tb (off_none hD)
          refine lcB_it (n := 400) walk_range (fun i G => ∃ ys : List Str, off p q G D = some (.lst (ys.map V.str)) ∧ ys.length ≤ i ∧ (∀ y ∈ ys, isAny (.str y) = true ∧ firstIn ls y = true ∧ y ∉ names) ∧ (ys = [] → ∀ k, k < i → cand c k ∈ names) ∧ Wl T p q (b + 17) G ∧ Ex T (off p q H) (off p q G)) ⟨[], hD3, Nat.le_refl _, (fun _ h => by cases h), (fun _ k hk => absurd hk (Nat.not_lt_zero k)), L3, x1.trans x3⟩ (fun _ _ _ _ => trivial) (fun i x G1 G2 hi' e y => ?_) (fun G1 e => ?_)
          · obtain ⟨ys, eD, el, eA, eN, L6, x6⟩ := e
            obtain ⟨rfl, rfl⟩ := y
            have ht6 := x6.keep t _ ht tT
            have sT : SqL K G2 t (names.map V.str) := .inl (.inl (off_un _ _ ht6))
            have hz0 : ((0 : Int) + (i : Nat)) = ((i : Nat) : Int) := by omega
            have hlog : ((0 : Int) + (i : Nat)).natAbs.log2 < 1920 := by
              rw [hz0]
              exact Nat.lt_trans (int_logS (by omega) (by omega)) (by decide)
            have l26 : (13 : Int) < ls.length := by rw [hls.len]; decide
            have hc' : ls.cps[(13 : Int).toNat]? = some c := hc
            have lk : (cand c i).length ≤ 10 := by
              have e : ((decide (1 ≤ (cand c i).length) && decide ((cand c i).length ≤ 10)) && (firstIn letters (cand c i) && (cand c i).cps.toList.all nameSign) && (!inV (.str (cand c i)) wordsV && !asCell (cand c i))) = true := cand_any cc hi'
              simp only [Bool.and_eq_true, decide_eq_true_eq] at e
              exact e.1.1.2
            have lk2 := strLen_append (⟨#[c]⟩ : Str) (Str.ofString (toString ((0 : Int) + (i : Nat))))
            have ek : (⟨#[c]⟩ : Str) ++ Str.ofString (toString ((0 : Int) + (i : Nat))) = cand c i := by rw [hz0]; rfl
            rw [ek] at lk2
            refine g_one (by decide) (by show 11 < 12; decide) fun σ2 _ keep g11 => ⟨_, (keep 3 (by decide)).trans rfl, ls, 13, c, rfl, rfl, by decide, by decide, l26, hc', _, g11, _, rfl, hlog, _, _, rfl, rfl, Nat.le_of_lt (small1000 (by omega)), ?_⟩
            rw [ek]
            refine ⟨_, (keep 2 (by decide)).trans rfl, t, _, rfl, .inl sT, rfl, List.all_eq_true.mpr (fun y hy => by obtain ⟨u, _, rfl⟩ := List.mem_map.mp hy; rfl), _, rfl, ?_⟩
            show if (!inV (.str (cand c i)) (names.map V.str)) = true then _ else _
            rw [inV_strs]
            by_cases hm : cand c i ∈ names
            · rw [decide_eq_true hm]
              exact iteF ⟨ys, eD, by omega, eA, fun z k hk => by
                rcases Nat.lt_or_ge k i with h | h
                · exact eN z k h
                · have : k = i := by omega
                  subst this
                  exact hm, L6, x6⟩
            · rw [decide_eq_false hm]
              refine iteT ⟨_, (keep 3 (by decide)).trans rfl, ls, 13, c, rfl, rfl, by decide, by decide, l26, hc', _, g11, _, rfl, hlog, _, _, rfl, rfl, Nat.le_of_lt (small1000 (by omega)), ys.map V.str, off_un _ _ eD, by rw [List.length_map]; exact small1000 (by omega), ?_⟩
              rw [ek]
              obtain ⟨nDp, nDq, _⟩ := off_some eD
              refine ⟨ys ++ [cand c i], ?_, ?_, fun y hy => ?_, (fun z => by simp at z), L6.fill eD, ?_⟩
              · rw [off_upd nDp nDq, upd_same, List.map_append]
                rfl
              · rw [List.length_append]
                show ys.length + 1 ≤ i + 1
                omega
              · rcases List.mem_append.mp hy with hy | hy
                · exact eA y hy
                · rw [List.mem_singleton.mp hy]
                  exact ⟨cand_any cc hi', cand_first hc i, hm⟩
              · rw [off_upd nDp nDq]
                exact x6.upd hDn
          · obtain ⟨ys, eD, el, eA, eN, L6, x6⟩ := e
            cases ys with
            | nil =>
              have all := eN rfl
              have := nodup_le _ names (cand_nodup cc) (fun y hy => by
                obtain ⟨k, hk, rfl⟩ := List.mem_map.mp hy
                exact all k (Nat.lt_trans (List.mem_range.mp hk) (by decide)))
              rw [List.length_map, List.length_range] at this
              omega
            | cons y ys =>
              refine ⟨D, _, _, _, rfl, rfl, .inl (.inl (off_un _ _ eD)), atI_nat (j := 0) rfl, ⟨_, rfl, kf _ _ (eA y (List.mem_cons_self ..)).1 (eA y (List.mem_cons_self ..)).2.1 (eA y (List.mem_cons_self ..)).2.2 x6 L6⟩⟩
        · refine ⟨_, rfl, .str z, .str z, rfl, .str _ (by omega), L2.tbH, fun G3 x3 => ⟨_, rfl, ?_⟩⟩
          obtain ⟨L3, x3o⟩ := L2.ex x3
          have x3 := xb.trans x3o
          show if (!isAny (.str z)) = true then _ else _
          cases e1 : isAny (.str z) with
          | false => exact iteT (iteT (fall _ ⟨x3, L3⟩))
          | true =>
            refine iteF ?_
            have g1 : 1 ≤ z.length := by
              have e : ((decide (1 ≤ z.length) && decide (z.length ≤ 10)) && (firstIn letters z && z.cps.toList.all nameSign) && (!inV (.str z) wordsV && !asCell z)) = true := e1
              simp only [Bool.and_eq_true, decide_eq_true_eq] at e
              exact e.1.1.1
            obtain ⟨c0, hc0⟩ := sign_at (z := z) (r := 0) (n := z.length) (Int.le_refl _) (by omega) rfl
            have ht3 := x3.keep t _ ht tT
            have sT : SqL K G3 t (names.map V.str) := .inl (.inl (off_un _ _ ht3))
            refine ⟨_, rfl, z, 0, c0, rfl, rfl, Int.le_refl _, by decide, by omega, hc0, _, rfl, c0, ls, rfl, rfl, _, rfl, ?_⟩
            cases e3 : decide (c0 ∈ ls.cps.toList) with
            | false => exact iteT (iteT (fall _ ⟨x3, L3⟩))
            | true =>
              refine iteF ⟨_, rfl, _, rfl, t, _, rfl, .inl sT, rfl, List.all_eq_true.mpr (fun y hy => by obtain ⟨u, _, rfl⟩ := List.mem_map.mp hy; rfl), _, rfl, ?_⟩
              show if inV (.str z) (names.map V.str) = true then _ else _
              exact ite2 (fun _ => fall _ ⟨x3, L3⟩) (fun hn => ⟨_, rfl, kf _ _ e1 (first_at hc0 e3) (fun hm => hn (by rw [inV_strs]; exact decide_eq_true hm)) x3 L3⟩)
      · refine ⟨_, rfl, _, _, rfl, rfl, ⟨_, rfl, ite2 (fun e1 => ?_) (fun e1 => rest _ _ ⟨⟨fnd, a8, a9, a10, rfl, f40⟩, xa, L1.le (by omega), h5a⟩)⟩⟩
        refine seq_cut (J8 T p q t l5 hi ls way (b + 12) H) (fun σ3 G3 J3 => ?_) (fun next => ?_)
        · obtain ⟨fnd, ol, olds, a9, a10, rfl, hol, o1, o100, oz⟩ := J3.σ
          have L2 := J3.L
          have xb := J3.x
          have h5b := J3.h5
          clear J3 xa L1 h5a
          have sO : SqL K G3 ol (olds.map V.str) := .inl (.inl (off_un _ _ hol))
          have lO : (olds.map V.str).length = olds.length := List.length_map ..
          refine ⟨_, rfl, _, rfl, _, rfl, ol, _, rfl, .inl sO, p, q, b + 12, _, rfl, L2.w, by rw [lO]; omega, by rw [lO]; omega, by omega, fun H5 r5 r50 r51 kp5 hw5 => ?_⟩
          obtain ⟨L3, x3⟩ := L2.draw kp5 hw5
          have hol3 := L2.keep x3 hol (fun _ z => by cases z)
          have h5c := L2.keep x3 h5b (fun _ z => by cases z)
          have x3 := xb.trans x3
          obtain ⟨vo, eo, mo⟩ := atI_of (xs := olds.map V.str) r50 r51
          obtain ⟨old, hold, rfl⟩ := List.mem_map.mp mo
          have l10 := oz old hold
          have lS : old.length ≤ sizeLine := Nat.le_of_lt (small1000 (by omega))
          refine ⟨ol, _, r5, _, rfl, rfl, .inl (.inl (off_un _ _ hol3)), eo, ?_⟩
          refine ⟨_, rfl, _, rfl, old, rfl, lS, _, _, rfl, rfl, p, q, b + 13, _, rfl, L3.w, by omega, by omega, by omega, fun H6 at' a0 a1 kp6 hw6 => ?_⟩
          obtain ⟨L4, x4⟩ := L3.draw kp6 hw6
          have h5d := L3.keep x4 h5c (fun _ z => by cases z)
          have x4 := x3.trans x4
          refine ⟨_, rfl, _, rfl, at', rfl, old, rfl, lS, ?_⟩
          refine ⟨_, rfl, _, rfl, p, q, b + 14, 62, rfl, L4.w, by decide, by decide, by omega, fun H7 r r0 r1 kp7 hw7 => ?_⟩
          obtain ⟨L5, x5⟩ := L4.draw kp7 hw7
          have h5e := L4.keep x5 h5d (fun _ z => by cases z)
          have x5 := x4.trans x5
          obtain ⟨c, hc⟩ := sign_at (z := "abcdefghijklmnopqrstuvwxyzABCDEFGHIJKLMNOPQRSTUVWXYZ0123456789") (n := 62) r0 r1 (by decide +kernel)
          refine ⟨_, r, c, rfl, rfl, r0, by omega, by rw [show (Str.ofString "abcdefghijklmnopqrstuvwxyzABCDEFGHIJKLMNOPQRSTUVWXYZ0123456789").length = 62 by decide +kernel]; exact r1, hc, by show 2 ≤ sizeLine; decide, fun l hl => ?_⟩
          obtain ⟨L6, x6, h6⟩ := L5.new (o := .lst [.str "", .str ⟨#[c]⟩]) hl
          have h5f := L5.keep x6 h5e (fun _ z => by cases z)
          have x6 := x5.trans x6
          refine ⟨_, rfl, p, q, b + 15, 2, rfl, L6.w, by decide, by decide, by omega, fun H8 s8 s0 s1 kp8 hw8 => ?_⟩
          obtain ⟨L7, x7⟩ := L6.draw kp8 hw8
          have h6' := L6.keep x7 h6 (fun _ z => by cases z)
          have h5g := L6.keep x7 h5f (fun _ z => by cases z)
          have x7 := x6.trans x7
          obtain ⟨vm, em, mm⟩ := atI_of (xs := [V.str "", .str ⟨#[c]⟩]) s0 s1
          obtain ⟨mid, rfl, lm⟩ : ∃ mid : Str, vm = .str mid ∧ mid.length ≤ 1 := by
            rcases List.mem_cons.mp mm with z | z
            · exact ⟨_, z, by decide +kernel⟩
            · exact ⟨_, List.mem_singleton.mp z, by show 1 ≤ 1; decide⟩
          have c1 := cut_len old none (some at')
          refine ⟨l, _, s8, _, rfl, rfl, .inl (.inl (off_un _ _ h6')), em, _, _, rfl, rfl, Nat.le_of_lt (small1000 (by omega)), ?_⟩
          refine ⟨_, rfl, _, rfl, _, rfl, p, q, b + 16, 2, rfl, L7.w, by decide, by decide, by omega, fun H9 s9 t0 t1 kp9 hw9 => ?_⟩
          obtain ⟨L8, x8⟩ := L7.draw kp9 hw9
          have h5h := L7.keep x8 h5g (fun _ z => by cases z)
          have x8 := x7.trans x8
          have c2 := cut_len old (some (at' + s9)) none
          have la := strLen_append (cutS old none (some at')) mid
          have lb := strLen_append (cutS old none (some at') ++ mid) (cutS old (some (at' + s9)) none)
          refine ⟨_, _, rfl, rfl, _, rfl, old, rfl, lS, _, _, rfl, rfl, Nat.le_of_lt (small1000 (by omega)), _, rfl, _, rfl, Nat.le_of_lt (small1000 (by omega)), ?_⟩
          have c3 := cut_len ((cutS old none (some at') ++ mid) ++ cutS old (some (at' + s9)) none) none (some 10)
          have lf : (cutS ((cutS old none (some at') ++ mid) ++ cutS old (some (at' + s9)) none) none (some 10)).length ≤ 21 := by omega
          generalize cutS ((cutS old none (some at') ++ mid) ++ cutS old (some (at' + s9)) none) none (some 10) = z at lf
          refine ⟨_, rfl, ⟨_, rfl, ?_⟩⟩
          show if hi = true then _ else _
          cases hi with
          | false => exact iteF ⟨_, rfl, rest _ _ ⟨⟨z, _, _, _, rfl, by omega⟩, x8, L8, h5h⟩⟩
          | true =>
            have c4 := cut_len z none (some 1)
            have c5 := cut_len z (some 1) none
            have u4 := len_upper (cutS z none (some 1))
            have u5 := strLen_append (Txt.upper (cutS z none (some 1))) (cutS z (some 1) none)
            refine iteT ⟨_, rfl, _, rfl, z, rfl, Nat.le_of_lt (small1000 (by omega)), ⟨_, rfl⟩, _, rfl, rfl, by omega, _, rfl, _, rfl, z, rfl, Nat.le_of_lt (small1000 (by omega)), _, _, rfl, rfl, Nat.le_of_lt (small1000 (by omega)), rest _ _ ⟨⟨_, _, _, _, rfl, ?_⟩, x8, L8, h5h⟩⟩
            rw [u5]
            omega
        · have ht1 := xa.keep t _ ht (L.tb.seqN ht (fun _ z => by cases z))
          refine ⟨_, rfl, rfl, ⟨_, rfl, ite2 (fun e2 => ?_) (fun e2 => ?_)⟩⟩
          · refine ⟨_, rfl, _, rfl, t, l5, _, _, rfl, rfl, off_un _ _ ht1, off_un _ _ h5a, ?_, fun o ho => ?_⟩
            · rw [List.length_map, List.length_map]
              exact Nat.le_of_lt (small1000 (by show names.length + 14 ≤ 1000; omega))
            · obtain ⟨L2, x2, h2⟩ := L1.new (o := .lst (names.map V.str ++ wordsD.map V.str)) ho
              refine next _ _ ⟨⟨fnd, o, names ++ wordsD, a9, a10, rfl, ?_, ?_, ?_, ?_⟩, xa.trans x2, L2, L1.keep x2 h5a (fun _ z => by cases z)⟩
              · rw [List.map_append]
                exact h2
              · rw [List.length_append]
                show 0 < names.length + 14
                omega
              · rw [List.length_append]
                show names.length + 14 ≤ 100
                omega
              · intro z hz
                rcases List.mem_append.mp hz with hz | hz
                · exact (nz z hz).2
                · exact (show ∀ z ∈ wordsD, z.length ≤ 10 by decide +kernel) z hz
          · exact ⟨_, rfl, next _ _ ⟨⟨fnd, l5, wordsD, a9, a10, rfl, h5a, by decide, by decide, by decide +kernel⟩, xa, L1, h5a⟩⟩
    · have x3' := x3
      refine ⟨_, rfl, rfl, ⟨_, rfl, ite2 (fun e1 => ?_) (fun e1 => rest _ _ ⟨⟨⟨#[c3]⟩, none, none, none, rfl, by show 1 ≤ 100; decide⟩, x3, L3.le (by omega), h5⟩)⟩⟩
      refine ⟨_, rfl, ⟨_, rfl⟩, _, rfl, p, q, b + 2, 10, rfl, L3.w, by decide, by decide, by omega, fun H4 r4 r40 r41 kp4 hw4 => ?_⟩
      obtain ⟨L4, x4⟩ := L3.draw kp4 hw4
      have h5 := L3.keep x4 h5 (fun _ z => by cases z)
      have x4 := x3.trans x4
      refine ⟨r4, rfl, by omega, by omega, fun D hD => ?_⟩
      obtain ⟨n, rfl⟩ := Int.eq_ofNat_of_zero_le r40
      obtain ⟨L5, x5, hD5⟩ := L4.new (o := .lst []) hD
      have h55 := L4.keep x5 h5 (fun _ z => by cases z)
      refine lcB_it (n := n) walk_range (fun i G => ∃ ys : List Str, off p q G D = some (.lst (ys.map V.str)) ∧ ys.length = i ∧ (∀ y ∈ ys, y.length = 1) ∧ Wl T p q (b + 3 + i) G ∧ Ex T (off p q H) (off p q G) ∧ off p q G l5 = some (.lst (wordsD.map V.str))) ⟨[], hD5, rfl, (fun _ h => by cases h), L5, x4.trans x5, h55⟩ (fun _ _ _ _ => trivial) (fun i x G1 G2 hi' e y => ?_) (fun G1 e => ?_)
      · obtain ⟨ys, eD, el, e1s, L6, x6, h6⟩ := e
        obtain ⟨rfl, rfl⟩ := y
        refine g_one (by decide) (by show 11 < 12; decide) fun σ2 _ keep _ => yesT ⟨_, (keep 4 (by decide)).trans rfl, _, (keep 0 (by decide)).trans rfl, p, q, b + 3 + i, 62, rfl, L6.w, by decide, by decide, by omega, fun H7 r r0 r1 kp hw => ?_⟩
        obtain ⟨L7, x7⟩ := L6.draw kp hw
        have eD7 := L6.keep x7 eD (fun _ z => by cases z)
        have h7 := L6.keep x7 h6 (fun _ z => by cases z)
        obtain ⟨c, hc⟩ := sign_at (z := "abcdefghijklmnopqrstuvwxyzABCDEFGHIJKLMNOPQRSTUVWXYZ0123456789") (n := 62) r0 r1 (by decide +kernel)
        refine ⟨_, r, c, rfl, rfl, r0, by omega, by rw [show (Str.ofString "abcdefghijklmnopqrstuvwxyzABCDEFGHIJKLMNOPQRSTUVWXYZ0123456789").length = 62 by decide +kernel]; exact r1, hc, ys.map V.str, off_un _ _ eD7, by rw [List.length_map]; exact small1000 (by omega), ?_⟩
        obtain ⟨nDp, nDq, hD7⟩ := off_some eD7
        have hDn : off p q H D = none := fresh_of x4 L.tb (off_none hD)
        have n5 : l5 ≠ D := fun z => by
          have := (off_some h5).2.2
          rw [z, hD] at this
          cases this
        refine ⟨ys ++ [⟨#[c]⟩], ?_, ?_, fun y hy => ?_, (L7.fill eD7).le (by omega), ?_, ?_⟩
        · rw [off_upd nDp nDq, upd_same, List.map_append]
          rfl
        · rw [List.length_append, el]
          rfl
        · rcases List.mem_append.mp hy with hy | hy
          · exact e1s y hy
          · rw [List.mem_singleton.mp hy]
            rfl
        · rw [off_upd nDp nDq]
          exact (x6.trans x7).upd hDn
        · rw [off_upd nDp nDq, upd_ne n5]
          exact h7
      · obtain ⟨ys, eD, el, e1s, L6, x6, h6⟩ := e
        have el2 : (Txt.join (Str.ofString "") ys).length = ys.length := PySem.W.KT.join_ones ys e1s
        have sum1 : (ys.map (·.length)).sum = ys.length := by
          clear el eD el2
          induction ys with
          | nil => rfl
          | cons y ys ih =>
            rw [List.map_cons, List.sum_cons, ih fun z hz => e1s z (List.mem_cons_of_mem _ hz), e1s y (List.mem_cons_self ..), List.length_cons]
            omega
        have n10 : n < 10 := by omega
        refine ⟨_, D, ys, rfl, rfl, .inl (.inl (.inl (off_un _ _ eD))), ?_, _, _, rfl, rfl, ?_, rest _ _ ⟨⟨_, none, none, none, rfl, ?_⟩, x6, L6.le (by omega), h6⟩⟩
        · rw [sum1, show (Str.ofString "").length = 0 by decide +kernel]
          omega
        · show 1 + (Txt.join (Str.ofString "") ys).length ≤ sizeLine
          rw [el2]
          exact Nat.le_of_lt (small1000 (by omega))
        · rw [strLen_append, el2]
          show 1 + ys.length ≤ 100
          omega
end
end JF
set_option Elab.async false
set_option linter.all false
set_option maxRecDepth 100000
set_option maxHeartbeats 4000000
namespace JF
open PySem PySem.Spec PyProof.Rows L2 GxR GA PC
/-! dicts told or not: no odds to what kinds are -/
theorem bare_tup (ds : List PyData) : bare (.tuple ds) = .tuple (ds.map bare) := by
  unfold bare
  rw [bareAll_map]
theorem strOf_bare (d : PyData) : strOf (bare d) = strOf d := by cases d <;> first | rfl | (unfold bare; rfl)
theorem isHigh_bare (d : PyData) : isHigh (bare d) = isHigh d := by cases d <;> first | rfl | (unfold bare; rfl)
theorem isField_bare (d : PyData) : isField (bare d) = isField d := by cases d <;> first | rfl | (unfold bare; rfl)
theorem isTup_bare {lo hi : Int} {f : PyData → Bool} (hf : ∀ d, f (bare d) = f d) (d : PyData) : isTup lo hi f (bare d) = isTup lo hi f d := by
  cases d with
  | tuple ds =>
    rw [bare_tup]
    show ((decide (lo ≤ ((ds.map bare).length : Int)) && decide (((ds.map bare).length : Int) ≤ hi)) && (ds.map bare).all f) = ((decide (lo ≤ (ds.length : Int)) && decide ((ds.length : Int) ≤ hi)) && ds.all f)
    rw [List.length_map, List.all_map, show (f ∘ bare) = f from funext hf]
  | _ => first | rfl | (unfold bare; rfl)
theorem isPair_bare {f g : PyData → Bool} (hf : ∀ d, f (bare d) = f d) (hg : ∀ d, g (bare d) = g d) (d : PyData) : isPair f g (bare d) = isPair f g d := by
  cases d with
  | tuple ds =>
    rw [bare_tup]
    match ds with
    | [] => rfl
    | [_] => rfl
    | [a, b] =>
      show (f (bare a) && g (bare b)) = (f a && g b)
      rw [hf, hg]
    | _ :: _ :: _ :: _ => rfl
  | _ => first | rfl | (unfold bare; rfl)
theorem isFields_bare (d : PyData) : isFields (bare d) = isFields d := isTup_bare isField_bare d
theorem isMaker_bare (d : PyData) : isMaker (bare d) = isMaker d := isPair_bare isHigh_bare isFields_bare d
theorem isMakers_bare (d : PyData) : isMakers (bare d) = isMakers d := isTup_bare isMaker_bare d
theorem isKind_bare (d : PyData) : isKind (bare d) = isKind d := isPair_bare isHigh_bare isMakers_bare d
theorem itemsOf_bare (d : PyData) : itemsOf (bare d) = (itemsOf d).map bare := by
  cases d with
  | tuple ds => rw [bare_tup]; rfl
  | _ => first | rfl | (unfold bare; rfl)
theorem getD_bare (ds : List PyData) (i : Nat) : (ds.map bare).getD i .none = bare (ds.getD i .none) := by
  rw [List.getD_eq_getElem?_getD, List.getD_eq_getElem?_getD, List.getElem?_map]
  cases ds[i]? <;> first | rfl | (unfold bare; rfl)
theorem fstOf_bare (d : PyData) : fstOf (bare d) = bare (fstOf d) := by
  unfold fstOf
  rw [itemsOf_bare, getD_bare]
theorem sndOf_bare (d : PyData) : sndOf (bare d) = bare (sndOf d) := by
  unfold sndOf
  rw [itemsOf_bare, getD_bare]
theorem fieldsOf_bare (d : PyData) : fieldsOf (bare d) = fieldsOf d := by
  unfold fieldsOf
  rw [itemsOf_bare, List.map_map]
  exact List.map_congr_left fun x _ => strOf_bare x
theorem makerOf_bare (d : PyData) : makerOf (bare d) = makerOf d := by
  unfold makerOf
  rw [fstOf_bare, sndOf_bare, strOf_bare, fieldsOf_bare]
theorem makersOf_bare (d : PyData) : makersOf (bare d) = makersOf d := by
  unfold makersOf
  rw [itemsOf_bare, List.map_map]
  exact List.map_congr_left fun x _ => makerOf_bare x
theorem kindOf_bare (d : PyData) : kindOf' (bare d) = kindOf' d := by
  unfold kindOf'
  rw [fstOf_bare, sndOf_bare, strOf_bare, makersOf_bare]
theorem kindsOf_bare (d : PyData) : kindsOf (bare d) = kindsOf d := by
  unfold kindsOf
  rw [itemsOf_bare, List.map_map]
  exact List.map_congr_left fun x _ => kindOf_bare x
theorem isKinds_bare (d : PyData) : isKinds (bare d) = isKinds d := by
  unfold isKinds
  rw [kindsOf_bare, isTup_bare isKind_bare]
theorem isKindName_bare (ks : List Kd) (d : PyData) : isKindName ks (bare d) = isKindName ks d := by
  cases d <;> first | rfl | (unfold bare; rfl)
theorem doorDue_is (d1 d2 : PyData) : doorDue d1 d2 = (if isKinds d1 = true then (match isKindName (kindsOf d1) d2 with | some _ => ("told" : Str) | none => ("kind" : Str)) else ("kinds" : Str)) := by
  unfold doorDue
  rw [isKinds_bare, kindsOf_bare, isKindName_bare]
  all_goals rfl
end JF
set_option Elab.async false
set_option linter.all false
set_option maxRecDepth 100000
set_option maxHeartbeats 4000000
namespace JF
open PySem PySem.Spec PyProof.Rows L2 GxR GA PC
abbrev sLKs : Stmt := topS 34
theorem pe_tupK {X : Cx} {K : PySem.W.Frag} {a : Expr} {ta : TE} {p pos : Pos} (hK : X.K = K) (hg : Gl X "tuple") (hm : X.mg "tuple" = none) (ha : PE X a ta) (na : starEach [a] X.env = (false, eval a X.env) :: starEach [] X.env := by rfl) : PE X (.Call (.Name "tuple" p) [a] [] pos) (tThen ta (kTup K)) := by
  subst hK
  exact pe_tupleOf hg hm ha na
theorem pe_appK {X : Cx} {K : PySem.W.Frag} {o e : Expr} {to : TE} {t : TA} {ap cp : Pos} (hK : X.K = K) (ho : PE X o to) (ha : PA X [e] t) (h1 : attributeBase o "append" X.env (eval o X.env) = eval o X.env := by rfl)
    (h2 : ((backTo cp (starEach [e] X.env)).all (fun x => !x.1) && (backToKw cp (keywordEach [] X.env)).all (fun x => x.1.isSome) && decide ([e].length + ([] : List Keyword).length + (if ([] : List Keyword).isEmpty then 0 else 1) < 30)) = true := by rfl)
    (h3 : (ap.endLine == cp.line) = true := by rfl) (h4 : starEach [e] X.env = (false, eval e X.env) :: starEach [] X.env := by rfl) (h5 : (backTo cp (starEach [] X.env)).any (·.1) = false := by rfl) : PE X (.Call (.Attribute o "append" ap) [e] [] cp) (tBM K "list" rAppend to t) := by
  subst hK
  exact pe_bm PySem.F.plainAttrs_list PySem.F.slot_list_append PySem.F.type_list_append mt_append ho ha h1 h2 h3 h4 h5
theorem ix_listK {X : Cx} {K : PySem.W.Frag} (h : X.K = K) : IxR X (rIxL K) := by
  rw [← h]
  exact ix_list
def rLen (K : PySem.W.Frag) : List V → Hp → VK → Prop := fun xs H Q => ∃ p ys, xs = [.ref p] ∧ (SqL K H p ys ∨ SqT K H p ys) ∧ Q (.int (ys.length : Nat)) H
theorem call_lenK {X : Cx} {K : PySem.W.Frag} (h : X.K = K) : CallR X (.builtin "len") (rLen K) := by
  subst h
  exact call_len_seq
/-! ### kinds of tuples alone, beside the well -/
section
variable (p q : Addr)
def MkT (G : Hp) (v : V) (m : Mk') : Prop := ∃ a b, v = .ref a ∧ off p q G a = some (.tup [.str m.1, .ref b]) ∧ off p q G b = some (.tup (m.2.map V.str))
def KdT (G : Hp) (v : V) (k : Kd) : Prop := ∃ a b ms, v = .ref a ∧ off p q G a = some (.tup [.str k.1, .ref b]) ∧ off p q G b = some (.tup ms) ∧ Paired (MkT p q G) ms k.2
/-- tuples stand -/
def Tk (G G' : Hp) : Prop := ∀ a xs, off p q G a = some (.tup xs) → off p q G' a = some (.tup xs)
end
section
variable {p q : Addr} {T : List Addr} {G G' G2 : Hp}
theorem Tk.trans (a : Tk p q G G') (b : Tk p q G' G2) : Tk p q G G2 := fun c xs h => b c xs (a c xs h)
theorem Tk.ex (t : TbOk T (off p q G)) (x : Ex T (off p q G) (off p q G')) : Tk p q G G' := fun a xs h => x.keep a _ h (t.seqN h fun _ z => by cases z)
theorem Tk.fill {D : Addr} {xs : List V} {o : HO} (h : off p q G D = some (.lst xs)) : Tk p q G (upd G D o) := fun a ys e => by
  obtain ⟨n1, n2, _⟩ := off_some h
  rw [off_upd n1 n2, upd_ne (fun z => by rw [z, h] at e; cases e)]
  exact e
theorem MkT.to (k : Tk p q G G') {v : V} {m : Mk'} (h : MkT p q G v m) : MkT p q G' v m := by
  obtain ⟨a, b, e, h1, h2⟩ := h
  exact ⟨a, b, e, k _ _ h1, k _ _ h2⟩
theorem KdT.to (k : Tk p q G G') {v : V} {m : Kd} (h : KdT p q G v m) : KdT p q G' v m := by
  obtain ⟨a, b, ms, e, h1, h2, h3⟩ := h
  exact ⟨a, b, ms, e, k _ _ h1, k _ _ h2, paired_imp (fun _ _ z => z.to k) h3⟩
end
/-- the lists of names, titles, kinds under way -/
structure Lp (T : List Addr) (p q n1 n2 n3 : Addr) (H : Hp) (b : Nat) (names titles : List Str) (vs : List V) (ks : List Kd) (G : Hp) : Prop where
  L : Wl T p q b G
  x : Ex T (off p q H) (off p q G)
  e1 : off p q G n1 = some (.lst (names.map V.str))
  e2 : off p q G n2 = some (.lst (titles.map V.str))
  e3 : off p q G n3 = some (.lst vs)
  pr : Paired (KdT p q G) vs ks
/-- they stand apart, and are new -/
structure Ap (p q n1 n2 n3 : Addr) (H : Hp) : Prop where
  d12 : n1 ≠ n2
  d13 : n1 ≠ n3
  d23 : n2 ≠ n3
  f1 : off p q H n1 = none
  f2 : off p q H n2 = none
  f3 : off p q H n3 = none
section
variable {T : List Addr} {p q n1 n2 n3 : Addr} {H G G' : Hp} {b b' : Nat} {names titles : List Str} {vs : List V} {ks : List Kd}
theorem Lp.go (J : Lp T p q n1 n2 n3 H b names titles vs ks G) (L' : Wl T p q b' G') (x : Ex T (off p q G) (off p q G')) : Lp T p q n1 n2 n3 H b' names titles vs ks G' :=
  ⟨L', J.x.trans x, J.L.keep x J.e1 (fun _ z => by cases z), J.L.keep x J.e2 (fun _ z => by cases z), J.L.keep x J.e3 (fun _ z => by cases z), paired_imp (fun _ _ z => z.to (Tk.ex J.L.tb x)) J.pr⟩
theorem Lp.le (J : Lp T p q n1 n2 n3 H b names titles vs ks G) (h : b ≤ b') : Lp T p q n1 n2 n3 H b' names titles vs ks G := ⟨J.L.le h, J.x, J.e1, J.e2, J.e3, J.pr⟩
theorem Lp.app1 (J : Lp T p q n1 n2 n3 H b names titles vs ks G) (A : Ap p q n1 n2 n3 H) (z : Str) : Lp T p q n1 n2 n3 H b (names ++ [z]) titles vs ks (upd G n1 (.lst (names.map V.str ++ [.str z]))) := by
  obtain ⟨a1, a2, _⟩ := off_some J.e1
  refine ⟨J.L.fill J.e1, ?_, ?_, ?_, ?_, paired_imp (fun _ _ z => z.to (Tk.fill J.e1)) J.pr⟩
  · rw [off_upd a1 a2]; exact J.x.upd A.f1
  · rw [off_upd a1 a2, upd_same, List.map_append]; rfl
  · rw [off_upd a1 a2, upd_ne A.d12.symm]; exact J.e2
  · rw [off_upd a1 a2, upd_ne A.d13.symm]; exact J.e3
theorem Lp.app2 (J : Lp T p q n1 n2 n3 H b names titles vs ks G) (A : Ap p q n1 n2 n3 H) (z : Str) : Lp T p q n1 n2 n3 H b names (titles ++ [z]) vs ks (upd G n2 (.lst (titles.map V.str ++ [.str z]))) := by
  obtain ⟨a1, a2, _⟩ := off_some J.e2
  refine ⟨J.L.fill J.e2, ?_, ?_, ?_, ?_, paired_imp (fun _ _ z => z.to (Tk.fill J.e2)) J.pr⟩
  · rw [off_upd a1 a2]; exact J.x.upd A.f2
  · rw [off_upd a1 a2, upd_ne A.d12]; exact J.e1
  · rw [off_upd a1 a2, upd_same, List.map_append]; rfl
  · rw [off_upd a1 a2, upd_ne A.d23.symm]; exact J.e3
theorem Lp.app3 (J : Lp T p q n1 n2 n3 H b names titles vs ks G) (A : Ap p q n1 n2 n3 H) {v : V} {k : Kd} (h : KdT p q G v k) : Lp T p q n1 n2 n3 H b names titles (vs ++ [v]) (ks ++ [k]) (upd G n3 (.lst (vs ++ [v]))) := by
  obtain ⟨a1, a2, _⟩ := off_some J.e3
  refine ⟨J.L.fill J.e3, ?_, ?_, ?_, ?_, ?_⟩
  · rw [off_upd a1 a2]; exact J.x.upd A.f3
  · rw [off_upd a1 a2, upd_ne A.d13]; exact J.e1
  · rw [off_upd a1 a2, upd_ne A.d23]; exact J.e2
  · rw [off_upd a1 a2, upd_same]
  · exact paired_app (paired_imp (fun _ _ z => z.to (Tk.fill J.e3)) J.pr) (.cons (h.to (Tk.fill J.e3)) .nil)
theorem any_len {z : Str} (h : isAny (.str z) = true) : 0 < z.length ∧ z.length ≤ 10 := by
  have e : ((decide (1 ≤ z.length) && decide (z.length ≤ 10)) && (firstIn letters z && z.cps.toList.all nameSign) && (!inV (.str z) wordsV && !asCell z)) = true := h
  simp only [Bool.and_eq_true, decide_eq_true_eq] at e
  exact ⟨e.1.1.1, e.1.1.2⟩
end
/-- the list of makers under way beside them -/
structure Lm (T : List Addr) (p q n1 n2 n3 n4 : Addr) (H : Hp) (b : Nat) (names titles : List Str) (vs : List V) (ks : List Kd) (ws : List V) (ms : List Mk') (G : Hp) : Prop where
  J : Lp T p q n1 n2 n3 H b names titles vs ks G
  f4 : off p q H n4 = none
  e4 : off p q G n4 = some (.lst ws)
  d1 : n4 ≠ n1
  d2 : n4 ≠ n2
  d3 : n4 ≠ n3
  pm : Paired (MkT p q G) ws ms
section
variable {T : List Addr} {p q n1 n2 n3 n4 : Addr} {H G G' : Hp} {b b' : Nat} {names titles : List Str} {vs ws : List V} {ks : List Kd} {ms : List Mk'}
theorem Lm.go (M : Lm T p q n1 n2 n3 n4 H b names titles vs ks ws ms G) (L' : Wl T p q b' G') (x : Ex T (off p q G) (off p q G')) : Lm T p q n1 n2 n3 n4 H b' names titles vs ks ws ms G' :=
  ⟨M.J.go L' x, M.f4, M.J.L.keep x M.e4 (fun _ z => by cases z), M.d1, M.d2, M.d3, paired_imp (fun _ _ z => z.to (Tk.ex M.J.L.tb x)) M.pm⟩
theorem Lm.le (M : Lm T p q n1 n2 n3 n4 H b names titles vs ks ws ms G) (h : b ≤ b') : Lm T p q n1 n2 n3 n4 H b' names titles vs ks ws ms G := ⟨M.J.le h, M.f4, M.e4, M.d1, M.d2, M.d3, M.pm⟩
theorem Lm.app2 (M : Lm T p q n1 n2 n3 n4 H b names titles vs ks ws ms G) (A : Ap p q n1 n2 n3 H) (z : Str) : Lm T p q n1 n2 n3 n4 H b names (titles ++ [z]) vs ks ws ms (upd G n2 (.lst (titles.map V.str ++ [.str z]))) := by
  obtain ⟨a1, a2, _⟩ := off_some M.J.e2
  refine ⟨M.J.app2 A z, M.f4, ?_, M.d1, M.d2, M.d3, paired_imp (fun _ _ z => z.to (Tk.fill M.J.e2)) M.pm⟩
  rw [off_upd a1 a2, upd_ne M.d2]
  exact M.e4
theorem Lm.app4 (M : Lm T p q n1 n2 n3 n4 H b names titles vs ks ws ms G) {v : V} {m : Mk'} (h : MkT p q G v m) : Lm T p q n1 n2 n3 n4 H b names titles vs ks (ws ++ [v]) (ms ++ [m]) (upd G n4 (.lst (ws ++ [v]))) := by
  obtain ⟨a1, a2, _⟩ := off_some M.e4
  have J := M.J
  refine ⟨⟨J.L.fill M.e4, ?_, ?_, ?_, ?_, paired_imp (fun _ _ z => z.to (Tk.fill M.e4)) J.pr⟩, M.f4, ?_, M.d1, M.d2, M.d3, paired_app (paired_imp (fun _ _ z => z.to (Tk.fill M.e4)) M.pm) (.cons (h.to (Tk.fill M.e4)) .nil)⟩
  · rw [off_upd a1 a2]; exact J.x.upd M.f4
  · rw [off_upd a1 a2, upd_ne M.d1.symm]; exact J.e1
  · rw [off_upd a1 a2, upd_ne M.d2.symm]; exact J.e2
  · rw [off_upd a1 a2, upd_ne M.d3.symm]; exact J.e3
  · rw [off_upd a1 a2, upd_same]
theorem Lm.fill (M : Lm T p q n1 n2 n3 n4 H b names titles vs ks ws ms G) {D : Addr} {xs ys : List V} (hD : off p q G D = some (.lst xs)) (fD : off p q H D = none) (c1 : D ≠ n1) (c2 : D ≠ n2) (c3 : D ≠ n3) (c4 : D ≠ n4) : Lm T p q n1 n2 n3 n4 H b names titles vs ks ws ms (upd G D (.lst ys)) := by
  obtain ⟨a1, a2, _⟩ := off_some hD
  have J := M.J
  refine ⟨⟨J.L.fill hD, ?_, ?_, ?_, ?_, paired_imp (fun _ _ z => z.to (Tk.fill hD)) J.pr⟩, M.f4, ?_, M.d1, M.d2, M.d3, paired_imp (fun _ _ z => z.to (Tk.fill hD)) M.pm⟩
  · rw [off_upd a1 a2]; exact J.x.upd fD
  · rw [off_upd a1 a2, upd_ne c1.symm]; exact J.e1
  · rw [off_upd a1 a2, upd_ne c2.symm]; exact J.e2
  · rw [off_upd a1 a2, upd_ne c3.symm]; exact J.e3
  · rw [off_upd a1 a2, upd_ne c4.symm]; exact M.e4
end
/-- a drawn word: a name, or "number" -/
def okW (z : Str) : Prop := isAny (.str z) = true ∨ z = "number"
def okM (m : Mk') : Prop := isAny (.str m.1) = true ∧ m.2.length ≤ 4 ∧ ∀ z ∈ m.2, okW z
def okK (k : Kd) : Prop := isAny (.str k.1) = true ∧ 1 ≤ k.2.length ∧ k.2.length ≤ 6 ∧ ∀ m ∈ k.2, okM m
/-- high names, unlike one another -/
structure NmOk (zs : List Str) : Prop where
  nd : zs.Nodup
  hi : ∀ z ∈ zs, isHigh (.str z) = true
theorem high_any {z : Str} (h : isHigh (.str z) = true) : isAny (.str z) = true := by
  rw [isAny_high, Bool.and_eq_true] at h
  exact h.1
theorem any_high {z : Str} (h : isAny (.str z) = true) (f : firstIn highSigns z = true) : isHigh (.str z) = true := by
  rw [isAny_high, Bool.and_eq_true]
  exact ⟨h, f⟩
theorem NmOk.any {zs : List Str} (h : NmOk zs) : ∀ z ∈ zs, isAny (.str z) = true := fun z hz => high_any (h.hi z hz)
theorem NmOk.nil : NmOk [] := ⟨List.nodup_nil, fun _ h => by cases h⟩
theorem NmOk.snoc {zs : List Str} (h : NmOk zs) {z : Str} (hz : isHigh (.str z) = true) (n : z ∉ zs) : NmOk (zs ++ [z]) :=
  ⟨List.nodup_append.mpr ⟨h.nd, by simp, fun a ha b hb => by rw [List.mem_singleton.mp hb]; exact fun e => n (e ▸ ha)⟩, fun y hy => by
    rcases List.mem_append.mp hy with hy | hy
    · exact h.hi y hy
    · rw [List.mem_singleton.mp hy]; exact hz⟩
/-- a field's word: one of the names, or "number" -/
def okF (names : List Str) (z : Str) : Prop := z ∈ names ∨ z = "number"
def okMn (names : List Str) (m : Mk') : Prop := okM m ∧ ∀ z ∈ m.2, okF names z
def okKn (names : List Str) (k : Kd) : Prop := okK k ∧ ∀ m ∈ k.2, ∀ z ∈ m.2, okF names z
/-- what drawn kinds look like -/
structure Drawn (ks : List Kd) : Prop where
  h1 : 1 ≤ ks.length
  h6 : ks.length ≤ 6
  all : ∀ k ∈ ks, okK k
  nm : NmOk (kNames ks)
  tt : NmOk (kMakers ks)
  fl : ∀ k ∈ ks, ∀ m ∈ k.2, ∀ z ∈ m.2, okF (kNames ks) z
theorem kMakers_snoc (ks : List Kd) (k : Kd) : kMakers (ks ++ [k]) = kMakers ks ++ k.2.map (·.1) := by
  unfold kMakers
  rw [List.flatMap_append]
  simp
def spLKs (T : List Addr) : Sp := fun vs H Q _ => ∃ (p q : Addr) (b : Nat), vs = [.ref p] ∧ Wl T p q b H ∧ b + 2000 < 1000000 ∧
  ∀ H' a xs ks, Drawn ks → off p q H' a = some (.tup xs) → Paired (KdT p q H') xs ks → Ex T (off p q H) (off p q H') → Wl T p q (b + 2000) H' → Q (.ref a) H'
section
variable {P : Program} {w : World} {K : PySem.W.Frag} {mg : Str → Option Value} {base : Heap} {T : List Addr}
abbrev nLKs : List Str := ["well", "names", "titles", "kinds", "k", "name", "makers", "title", "shared", "words", "many", "f"]
theorem scLKs : FnScope ["well", "names", "titles", "kinds", "k", "name", "makers", "title", "shared", "words", "many", "f"] ["well"] (defScope sLKs) := ⟨rfl, rfl, rfl, by decide +kernel, rfl, by decide +kernel, by decide +kernel⟩
theorem ok_lks {f aD aN : Addr} {fd dD dN : FuncData} (F : Fun K "_law_kinds" "_law_kinds" sLKs f fd) (B : BI mg) (mr : mg "range" = none)
    (GD : FnOk P w K mg base CX0 1 aD dD ["well", "many"] spDraw) (mD : mg "_law_draw" = some (.ref aD)) (kD : PySem.W.keepIn K (.ref aD) = true) (bD : Binds K dD ["well", "many"] [])
    (GN : FnOk P w K mg base CX0 2 aN dN ["well", "high", "taken"] (spLNm K T)) (mN : mg "_law_name" = some (.ref aN)) (kN : PySem.W.keepIn K (.ref aN) = true) (bN : Binds K dN ["well", "high", "taken"] []) :
    FnOk P w K mg base CX0 3 f fd ["well"] (spLKs T) := by
  refine F.ok scLKs (fun vs H Q E h => ?_) (fun cdv A outer s H vs Q E hr h => ?_)
  · obtain ⟨p, q, b, rfl, _⟩ := h
    rfl
  · obtain ⟨p, q, b, rfl, L, hb, k⟩ := h
    refine ⟨_, pss_cons (ps_par3 (i := 1) (j := 2) (l := 3) rfl scLKs.nd rfl rfl rfl (by decide) (by decide) (by decide) rfl rfl rfl (pa_cons (pe_lst pa_nil) (pa_cons (pe_lst pa_nil) (pa_cons (pe_lst pa_nil) pa_nil))) (by rfl))
      (pss_cons (ps_for PassesOwn.never rfl (pi_range1 (by rfl) mr (pa_cons (pe_op op_add pe_int (pe_call GD (hr.mono (by decide)) (by rfl) mD kD bD .nil pass0 (pa_cons (pv 0) (pa_cons (pe_ix ix_list (pe_lst (pa_cons pe_int (pa_cons pe_int (pa_cons pe_int pa_nil)))) (pe_call GD (hr.mono (by decide)) (by rfl) mD kD bD .nil pass0 (pa_cons (pv 0) (pa_cons pe_int pa_nil))) (fun _ _ => rfl)) pa_nil)))) pa_nil)) (pg_name (i := 4) scLKs.nd rfl (.inl rfl))
        (pss_one (ps_expr (pe_appK (K := K) rfl (pv 1) (pa_cons (pe_call GN (hr.mono (by decide)) (by rfl) mN kN bN .nil pass0 (pa_cons (pv 0) (pa_cons pe_bl (pa_cons (pv 1) pa_nil)))) pa_nil)))))
      (pss_cons (ps_for PassesOwn.never rfl (pi_list (pv 1)) (pg_name (i := 5) scLKs.nd rfl (.inl rfl))
        (pss_cons (ps_set (i := 6) scLKs.nd rfl (.inl rfl) (pe_lst pa_nil))
        (pss_cons (ps_for PassesOwn.never rfl (pi_range1 (by rfl) mr (pa_cons (pe_op op_add pe_int (pe_call GD (hr.mono (by decide)) (by rfl) mD kD bD .nil pass0 (pa_cons (pv 0) (pa_cons (pe_ix ix_list (pe_lst (pa_cons pe_int (pa_cons pe_int (pa_cons pe_int pa_nil)))) (pe_call GD (hr.mono (by decide)) (by rfl) mD kD bD .nil pass0 (pa_cons (pv 0) (pa_cons pe_int pa_nil))) (fun _ _ => rfl)) pa_nil)))) pa_nil)) (pg_name (i := 4) scLKs.nd rfl (.inl rfl))
          (pss_cons (ps_parC (i := 7) (j := 8) rfl scLKs.nd rfl rfl (by decide) (.inl rfl) (.inl rfl) (pa_cons (pe_call GN (hr.mono (by decide)) (by rfl) mN kN bN .nil pass0 (pa_cons (pv 0) (pa_cons pe_bl (pa_cons (pv 2) pa_nil)))) (pa_cons (pe_ix ix_list (pv 1) (pe_call GD (hr.mono (by decide)) (by rfl) mD kD bD .nil pass0 (pa_cons (pv 0) (pa_cons (pe_callB call_len_seq (by rfl) B.len PySem.boot_len (pa_cons (pv 1) pa_nil)) pa_nil))) (fun _ _ => rfl)) pa_nil)) rfl)
          (pss_cons (ps_if (PW.pt (pw_and (pt_cmpR op_eq (pe_call GD (hr.mono (by decide)) (by rfl) mD kD bD .nil pass0 (pa_cons (pv 0) (pa_cons pe_int pa_nil))) pe_int (nomark _)) (pw_and1 (pt_cmpR (op_notInK (K := K) rfl) (pv 8) (pv 2) rfl)))) (pss_one (ps_set (i := 7) scLKs.nd rfl (.inl rfl) (pv 8))) pss_nil)
          (pss_cons (ps_expr (pe_appK (K := K) rfl (pv 2) (pa_cons (pv 7) pa_nil)))
          (pss_cons (ps_set (i := 9) scLKs.nd rfl (.inr rfl) (pe_op op_cat (pv 1) (pe_lst (pa_cons pe_str (pa_cons pe_str pa_nil)))))
          (pss_cons (ps_set (i := 10) scLKs.nd rfl (.inl rfl) (pe_call GD (hr.mono (by decide)) (by rfl) mD kD bD .nil pass0 (pa_cons (pv 0) (pa_cons (pe_ix ix_list (pe_lst (pa_cons pe_int (pa_cons pe_int (pa_cons pe_int pa_nil)))) (pe_call GD (hr.mono (by decide)) (by rfl) mD kD bD .nil pass0 (pa_cons (pv 0) (pa_cons pe_int pa_nil))) (fun _ _ => rfl)) pa_nil))))
          (pss_one (ps_expr (pe_appK (K := K) rfl (pv 6) (pa_cons (pe_tup (pa_cons (pv 7) (pa_cons (pe_tupK (K := K) rfl (by rfl) B.tuple (pe_lc (own := [("f", 11)]) (g := gName 11) (tt := tYes) (by rfl) scLKs.nd (pi_range1 (by rfl) mr (pa_cons (pv 10) pa_nil)) (blkOk_by (N := nLKs) (sc := defScope sLKs) (by decide +kernel))
            (fun _ _ _ _ _ => pg_name (i := 11) scLKs.nd rfl (.inl rfl)) (fun _ _ _ _ _ => pts_nil) (fun _ _ _ _ _ => pe_ix (ix_listK (K := K) rfl) (pv 9) (pe_call GD (hr.mono (by decide)) (by rfl) mD kD bD .nil pass0 (pa_cons (pv 0) (pa_cons (pe_callB (call_lenK (K := K) rfl) (by rfl) B.len PySem.boot_len (pa_cons (pv 9) pa_nil)) pa_nil))) (fun _ _ => rfl)))) pa_nil))) pa_nil))))))))))
        (pss_one (ps_expr (pe_appK (K := K) rfl (pv 3) (pa_cons (pe_tup (pa_cons (pv 5) (pa_cons (pe_tupK (K := K) rfl (by rfl) B.tuple (pv 6)) pa_nil))) pa_nil)))))))
      (pss_one (ps_ret (pe_tupK (K := K) rfl (by rfl) B.tuple (pv 3)))))), ?_⟩
    refine ⟨by show 0 ≤ sizeLine; decide, fun n1 hn1 => ⟨by show 0 ≤ sizeLine; decide, fun n2 hn2 => ⟨by show 0 ≤ sizeLine; decide, fun n3 hn3 => ⟨_, _, _, rfl, ?_⟩⟩⟩⟩
    obtain ⟨L1, x1, e1⟩ := L.new (o := .lst []) hn1
    obtain ⟨L2, x2, e2⟩ := L1.new (o := .lst []) hn2
    obtain ⟨L3, x3, e3⟩ := L2.new (o := .lst []) hn3
    have d12 : n1 ≠ n2 := ne_of_none upd_same hn2
    have A : Ap p q n1 n2 n3 H := ⟨d12, ne_of_none (show (upd (upd H n1 (.lst [])) n2 (.lst [])) n1 = some (.lst []) by rw [upd_ne d12, upd_same]) hn3, ne_of_none upd_same hn3, off_none hn1, fresh_of x1 L.tb (off_none hn2), fresh_of (x1.trans x2) L.tb (off_none hn3)⟩
    have J : Lp T p q n1 n2 n3 H b [] [] [] [] _ := ⟨L3, (x1.trans x2).trans x3, L2.keep x3 (L1.keep x2 e1 (fun _ z => by cases z)) (fun _ z => by cases z), L2.keep x3 e2 (fun _ z => by cases z), e3, .nil⟩
    generalize upd (upd (upd H n1 (.lst [])) n2 (.lst [])) n3 (.lst []) = G0 at J
    clear L1 L2 L3 x1 x2 x3 e1 e2 e3 hn1 hn2 hn3
    dsimp only
    refine seq_cut (fun σ G => ∃ (names : List Str) (a4 a5 a6 a7 a8 a9 a10 : Option V), σ = [some (.ref p), some (.ref n1), some (.ref n2), some (.ref n3), a4, a5, a6, a7, a8, a9, a10, none] ∧ 1 ≤ names.length ∧ names.length ≤ 6 ∧ NmOk names ∧ Lp T p q n1 n2 n3 H (b + 130) names [] [] [] G) (fun σ G0 ⟨names, a4, a5, a6, a7, a8, a9, a10, eσ, l1, l6, an, J⟩ => ?_) (fun rest => ?_)
    · subst eσ
      have sN : SqL K G0 n1 (names.map V.str) := .inl (.inl (off_un _ _ J.e1))
      have lN : (names.map V.str).length = names.length := List.length_map ..
      refine ⟨_, rfl, n1, rfl, ⟨_, sN⟩, for_it (walk_list (xs := names.map V.str)) (fun i σ G => ∃ (titles : List Str) (vs : List V) (ks : List Kd) (a4 a5 a6 a7 a8 a9 a10 : Option V), σ = [some (.ref p), some (.ref n1), some (.ref n2), some (.ref n3), a4, a5, a6, a7, a8, a9, a10, none] ∧ Lp T p q n1 n2 n3 H (b + 130 + 200 * i) names titles vs ks G ∧ titles.length ≤ 6 * i ∧ (NmOk titles ∧ titles = kMakers ks) ∧ (ks.length = i ∧ ks.map (·.1) = names.take i) ∧ ∀ k ∈ ks, okKn names k)
        ⟨[], [], [], a4, a5, a6, a7, a8, a9, a10, rfl, J, by simp, ⟨NmOk.nil, rfl⟩, ⟨rfl, rfl⟩, (fun _ h => by cases h)⟩ (fun i σ G _ ⟨_, _, _, _, _, _, _, _, _, _, _, J, _⟩ => .inl (.inl (off_un _ _ J.e1))) (fun i x σ G G2 hi e y => ?_) (fun σ G e => ?_)⟩
      · obtain ⟨titles, vs, ks, a4, a5, a6, a7, a8, a9, a10, rfl, J, lt, ⟨at', et⟩, ⟨lk, ek⟩, ak⟩ := e
        obtain ⟨rfl, hx⟩ := y
        rw [lN] at hi
        obtain ⟨nm, hnm, rfl⟩ : ∃ nm, names[i]? = some nm ∧ V.str nm = x := by
          rw [List.getElem?_map] at hx
          exact Option.map_eq_some_iff.mp hx
        have anm := an.any nm (List.mem_of_getElem? hnm)
        refine ⟨by show 0 ≤ sizeLine; decide, fun n4 hn4 => ?_⟩
        have f4 := fresh_of J.x L.tb (off_none hn4)
        have dn : ∀ {c : Addr} {xs : List V}, off p q G2 c = some (.lst xs) → n4 ≠ c := fun h => (ne_of_none (off_some h).2.2 hn4).symm
        have c1 := dn J.e1
        have c2 := dn J.e2
        have c3 := dn J.e3
        obtain ⟨L1, x1, e4⟩ := J.L.new (o := .lst []) hn4
        have M : Lm T p q n1 n2 n3 n4 H _ names titles vs ks [] [] _ := ⟨J.go L1 x1, f4, e4, c1, c2, c3, .nil⟩
        generalize upd G2 n4 (.lst []) = G3 at M
        clear L1 x1 e4 dn hn4 J
        refine ⟨_, rfl, by show 3 ≤ sizeLine; decide, fun l hl => ?_⟩
        obtain ⟨L1, x1, e1⟩ := M.J.L.new (o := .lst [.int 2, .int 4, .int 6]) hl
        have M := M.go L1 x1
        refine ⟨_, rfl, p, q, _, 3, rfl, M.J.L.w, by decide, by decide, by omega, fun G1 r r0 r1 kp hw => ?_⟩
        obtain ⟨L2, x2⟩ := M.J.L.draw kp hw
        have M := M.go L2 x2
        obtain ⟨vm, em, mm⟩ := atI_of (xs := [V.int 2, .int 4, .int 6]) r0 r1
        obtain ⟨many, rfl, m1, m6⟩ : ∃ many : Int, vm = .int many ∧ 0 < many ∧ many ≤ 6 := by
          simp only [List.mem_cons, List.mem_nil_iff, or_false] at mm
          rcases mm with rfl | rfl | rfl <;> exact ⟨_, rfl, by decide, by decide⟩
        refine ⟨l, _, r, _, rfl, rfl, .inl (.inl (off_un _ _ (L1.keep x2 e1 (fun _ z => by cases z)))), em, p, q, _, many, rfl, M.J.L.w, m1, by omega, by omega, fun G4 s s0 s1 kp2 hw2 => ?_⟩
        obtain ⟨L3, x3⟩ := M.J.L.draw kp2 hw2
        have M := M.go L3 x3
        clear L1 L2 L3 x1 x2 x3 e1 kp kp2 hw hw2 em mm r0 r1
        refine ⟨_, _, rfl, rfl, 1 + s, rfl, by omega, by omega, for_it (n := (1 + s).toNat) walk_range (fun j σ G => ∃ (ti : List Str) (ws : List V) (ms : List Mk') (a4 a7 a8 a9 a10 : Option V), σ = [some (.ref p), some (.ref n1), some (.ref n2), some (.ref n3), a4, some (.str nm), some (.ref n4), a7, a8, a9, a10, none] ∧ Lm T p q n1 n2 n3 n4 H (b + 130 + 200 * i + 2 + 32 * j) names ti vs ks ws ms G ∧ ti.length ≤ 6 * i + j ∧ (NmOk ti ∧ ti = kMakers ks ++ ms.map (·.1)) ∧ ms.length = j ∧ ∀ m ∈ ms, okMn names m)
          ⟨titles, [], [], a4, a7, a8, a9, a10, rfl, M, by omega, ⟨at', by rw [et, List.map_nil, List.append_nil]⟩, rfl, (fun _ h => by cases h)⟩ (fun _ _ _ _ _ => trivial) (fun j x σ G G5 hj e y => ?_) (fun σ G e => ?_)⟩
        · obtain ⟨ti, ws, ms, a4, a7, a8, a9, a10, rfl, M, lt, ⟨ati, eti⟩, lms, am⟩ := e
          obtain ⟨rfl, rfl⟩ := y
          have sN : SqL K G5 n1 (names.map V.str) := .inl (.inl (off_un _ _ M.J.e1))
          refine ⟨_, rfl, _, rfl, p, q, _, true, n2, ti, rfl, M.J.L, by omega, M.J.e2, by omega, fun z hz => any_len (ati.any z hz), fun G6 ttl httl fttl nttl x6 L6 => ?_⟩
          have M := M.go L6 x6
          have sN : SqL K G6 n1 (names.map V.str) := .inl (.inl (off_un _ _ M.J.e1))
          refine ⟨_, rfl, _, rfl, _, rfl, n1, _, rfl, .inl sN, p, q, _, _, rfl, M.J.L.w, by rw [lN]; omega, by rw [lN]; omega, by omega, fun G7 r r0 r1 kp hw => ?_⟩
          obtain ⟨L7, x7⟩ := M.J.L.draw kp hw
          have M := M.go L7 x7
          obtain ⟨vs2, es, ms2⟩ := atI_of (xs := names.map V.str) r0 r1
          obtain ⟨shd, hshd, rfl⟩ := List.mem_map.mp ms2
          have ashd := an.hi shd hshd
          have httl := any_high httl fttl
          refine ⟨n1, _, r, _, rfl, rfl, .inl (.inl (off_un _ _ M.J.e1)), es, _, _, rfl, ?_⟩
          dsimp only
          refine seq_cut (fun σ G => ∃ (z : Str), σ = [some (.ref p), some (.ref n1), some (.ref n2), some (.ref n3), some (.int (0 + (j : Nat))), some (.str nm), some (.ref n4), some (.str z), some (.str shd), a9, a10, none] ∧ (isHigh (.str z) = true ∧ z ∉ ti) ∧ Lm T p q n1 n2 n3 n4 H (b + 130 + 200 * i + 2 + 32 * j + 22) names ti vs ks ws ms G) (fun σ G8 ⟨z, eσ, ⟨az, nz⟩, M⟩ => ?_) (fun rest => ?_)
          · subst eσ
            have e2 := off_un _ _ M.J.e2
            refine ⟨.ref n2, rfl, .inl ⟨rfl, _, .inl (.inl e2)⟩, _, rfl, n2, _, _, rfl, rfl, e2, by rw [List.length_map]; exact small1000 (by omega), ?_⟩
            have M := M.app2 A z
            have l2 : (ti ++ [z]).length ≤ 6 * i + (j + 1) := by rw [List.length_append]; show ti.length + 1 ≤ _; omega
            have a2 : NmOk (ti ++ [z]) := ati.snoc az nz
            generalize upd G8 n2 _ = G9 at M ⊢
            refine ⟨_, rfl, by show 2 ≤ sizeLine; decide, fun l hl => ?_⟩
            obtain ⟨L1, x1, e1⟩ := M.J.L.new (o := .lst [.str "number", .str "number"]) hl
            have M := M.go L1 x1
            refine ⟨n1, l, _, _, rfl, rfl, off_un _ _ M.J.e1, off_un _ _ e1, ?_, fun w5 hw5 => ?_⟩
            · rw [lN]
              exact Nat.le_of_lt (small1000 (by show names.length + 2 ≤ 1000; omega))
            obtain ⟨L2, x2, e5⟩ := M.J.L.new (o := .lst (names.map V.str ++ [.str "number", .str "number"])) hw5
            have M := M.go L2 x2
            generalize upd (upd G9 l _) w5 _ = G10 at M e5 ⊢
            clear L1 L2 x1 x2 e1 hl hw5 e2
            refine ⟨_, rfl, by show 3 ≤ sizeLine; decide, fun l hl => ?_⟩
            obtain ⟨L1, x1, e1⟩ := M.J.L.new (o := .lst [.int 2, .int 3, .int 5]) hl
            have e5 := M.J.L.keep x1 e5 (fun _ z => by cases z)
            have M := M.go L1 x1
            refine ⟨_, rfl, p, q, _, 3, rfl, M.J.L.w, by decide, by decide, by omega, fun G11 r r0 r1 kp hw => ?_⟩
            obtain ⟨L2, x2⟩ := M.J.L.draw kp hw
            have e5 := M.J.L.keep x2 e5 (fun _ z => by cases z)
            have M := M.go L2 x2
            obtain ⟨vm, em, mm⟩ := atI_of (xs := [V.int 2, .int 3, .int 5]) r0 r1
            obtain ⟨many, rfl, m1, m5⟩ : ∃ many : Int, vm = .int many ∧ 0 < many ∧ many ≤ 5 := by
              simp only [List.mem_cons, List.mem_nil_iff, or_false] at mm
              rcases mm with rfl | rfl | rfl <;> exact ⟨_, rfl, by decide, by decide⟩
            refine ⟨l, _, r, _, rfl, rfl, .inl (.inl (off_un _ _ (L1.keep x2 e1 (fun _ z => by cases z)))), em, p, q, _, many, rfl, M.J.L.w, m1, by omega, by omega, fun G12 s s0 s1 kp2 hw2 => ?_⟩
            obtain ⟨L3, x3⟩ := M.J.L.draw kp2 hw2
            have e5 := M.J.L.keep x3 e5 (fun _ z => by cases z)
            have M := M.go L3 x3
            clear L1 L2 L3 x1 x2 x3 e1 kp kp2 hw hw2 em mm r0 r1
            refine ⟨.ref n4, rfl, .inl ⟨rfl, _, .inl (.inl (off_un _ _ M.e4))⟩, _, rfl, _, rfl, s, rfl, by omega, by omega, fun D hD => ?_⟩
            have fD := fresh_of M.J.x L.tb (off_none hD)
            have dn : ∀ {c : Addr} {xs : List V}, off p q G12 c = some (.lst xs) → D ≠ c := fun h => (ne_of_none (off_some h).2.2 hD).symm
            have c1 := dn M.J.e1
            have c2 := dn M.J.e2
            have c3 := dn M.J.e3
            have c4 := dn M.e4
            have c5 := dn e5
            obtain ⟨L1, x1, eD⟩ := M.J.L.new (o := .lst []) hD
            have e5 := M.J.L.keep x1 e5 (fun _ z => by cases z)
            have M := M.go L1 x1
            have l5 : (names.map V.str ++ [V.str "number", .str "number"]).length = names.length + 2 := by rw [List.length_append, lN]; rfl
            refine lcB_it (n := s.toNat) walk_range (fun i2 G => ∃ fs : List Str, Lm T p q n1 n2 n3 n4 H (b + 130 + 200 * i + 2 + 32 * j + 24 + i2) names (ti ++ [z]) vs ks ws ms G ∧ off p q G D = some (.lst (fs.map V.str)) ∧ fs.length = i2 ∧ (∀ z ∈ fs, okW z ∧ okF names z) ∧ off p q G w5 = some (.lst (names.map V.str ++ [.str "number", .str "number"]))) ⟨[], M.le (by omega), eD, rfl, (fun _ h => by cases h), e5⟩ (fun _ _ _ _ => trivial) (fun i2 x G G13 hi2 e y => ?_) (fun G e => ?_)
            · obtain ⟨fs, M, eD, lf, af, e5⟩ := e
              obtain ⟨rfl, rfl⟩ := y
              have sW : SqL K G13 w5 (names.map V.str ++ [.str "number", .str "number"]) := .inl (.inl (off_un _ _ e5))
              refine g_one (by decide) (by show 11 < 12; decide) fun σ2 _ keep _ => yesT ⟨_, (keep 9 (by decide)).trans rfl, _, (keep 0 (by decide)).trans rfl, _, (keep 9 (by decide)).trans rfl, w5, _, rfl, .inl sW, p, q, _, _, rfl, M.J.L.w, by rw [l5]; omega, by rw [l5]; omega, by omega, fun G14 r r0 r1 kp hw => ?_⟩
              obtain ⟨L2, x2⟩ := M.J.L.draw kp hw
              have e5 := M.J.L.keep x2 e5 (fun _ z => by cases z)
              have eD := M.J.L.keep x2 eD (fun _ z => by cases z)
              have M := M.go L2 x2
              obtain ⟨vw, ew, mw⟩ := atI_of r0 r1
              obtain ⟨wd, rfl, hwd⟩ : ∃ wd : Str, vw = .str wd ∧ okW wd ∧ okF names wd := by
                rcases List.mem_append.mp mw with h | h
                · obtain ⟨u, hu, rfl⟩ := List.mem_map.mp h
                  exact ⟨u, rfl, .inl (an.any u hu), .inl hu⟩
                · simp only [List.mem_cons, List.mem_nil_iff, or_false, or_self] at h
                  exact ⟨_, h, .inr rfl, .inr rfl⟩
              refine ⟨w5, _, r, _, rfl, rfl, .inl (.inl (off_un _ _ e5)), ew, fs.map V.str, off_un _ _ eD, by rw [List.length_map]; exact small1000 (by omega), ?_⟩
              obtain ⟨a1, a2, _⟩ := off_some eD
              refine ⟨fs ++ [wd], (M.fill eD fD c1 c2 c3 c4).le (by omega), ?_, ?_, fun y hy => ?_, ?_⟩
              · rw [off_upd a1 a2, upd_same, List.map_append]; rfl
              · rw [List.length_append, lf]; rfl
              · rcases List.mem_append.mp hy with hy | hy
                · exact af y hy
                · rw [List.mem_singleton.mp hy]; exact hwd
              · rw [off_upd a1 a2, upd_ne c5.symm]; exact e5
            · obtain ⟨fs, M, eD, lf, af, e5⟩ := e
              refine .inl ⟨D, _, rfl, .inl (.inl (off_un _ _ eD)), fun t1 ht1 => ⟨by show 2 ≤ sizeLine; decide, fun t2 ht2 => ?_⟩⟩
              obtain ⟨L2, x2, e1⟩ := M.J.L.new (o := .tup (fs.map V.str)) ht1
              have M := M.go L2 x2
              obtain ⟨L3, x3, e2⟩ := M.J.L.new (o := .tup [.str z, .ref t1]) ht2
              have M := M.go L3 x3
              have e1 := L2.keep x3 e1 (fun _ z => by cases z)
              have lw := paired_len M.pm
              refine ⟨n4, _, _, rfl, rfl, off_un _ _ M.e4, by have := small1000 (n := ws.length) (by omega); exact this, ?_⟩
              refine ⟨ti ++ [z], _, ms ++ [(z, fs)], _, _, _, _, _, rfl, (M.app4 (m := (z, fs)) ⟨t2, t1, rfl, e2, e1⟩).le (by omega), l2, ⟨a2, by rw [eti, List.map_append, List.append_assoc]; rfl⟩, by rw [List.length_append, lms]; rfl, fun m hm => ?_⟩
              rcases List.mem_append.mp hm with hm | hm
              · exact am m hm
              · rw [List.mem_singleton.mp hm]
                exact ⟨⟨high_any az, by show fs.length ≤ 4; omega, fun z hz => (af z hz).1⟩, fun z hz => (af z hz).2⟩
          · refine ⟨_, rfl, p, q, _, 5, rfl, M.J.L.w, by decide, by decide, by omega, fun G8 r5 r50 r51 kp hw => ?_⟩
            obtain ⟨L8, x8⟩ := M.J.L.draw kp hw
            have M := M.go L8 x8
            have sT : SqL K G8 n2 (ti.map V.str) := .inl (.inl (off_un _ _ M.J.e2))
            refine ⟨rfl, ⟨_, rfl, ite2 (fun e => ?_) (fun e => rest _ _ ⟨ttl, rfl, ⟨httl, nttl⟩, M.le (by omega)⟩)⟩⟩
            refine ⟨_, rfl, _, rfl, n2, _, rfl, .inl sT, rfl, List.all_eq_true.mpr (fun y hy => by obtain ⟨u, _, rfl⟩ := List.mem_map.mp hy; rfl), ⟨_, rfl, ?_⟩⟩
            show if (!inV (.str shd) (ti.map V.str)) = true then _ else _
            exact ite2 (fun hn => ⟨_, rfl, rest _ _ ⟨shd, rfl, ⟨ashd, fun hm => by rw [inV_strs, decide_eq_true hm] at hn; cases hn⟩, M.le (by omega)⟩⟩) (fun _ => rest _ _ ⟨ttl, rfl, ⟨httl, nttl⟩, M.le (by omega)⟩)
        · obtain ⟨ti, ws, ms, a4, a7, a8, a9, a10, rfl, M, lt, ⟨ati, eti⟩, lms, am⟩ := e
          have sM : SqL K G n4 ws := .inl (.inl (off_un _ _ M.e4))
          refine ⟨.ref n3, rfl, .inl ⟨rfl, _, .inl (.inl (off_un _ _ M.J.e3))⟩, _, rfl, _, rfl, .inl ⟨n4, ws, rfl, sM, fun t1 ht1 => ⟨by show 2 ≤ sizeLine; decide, fun t2 ht2 => ?_⟩⟩⟩
          obtain ⟨L1, x1, e1⟩ := M.J.L.new (o := .tup ws) ht1
          have M := M.go L1 x1
          obtain ⟨L2, x2, e2⟩ := M.J.L.new (o := .tup [.str nm, .ref t1]) ht2
          have M := M.go L2 x2
          have e1 := L1.keep x2 e1 (fun _ z => by cases z)
          have lk2 := paired_len M.J.pr
          refine ⟨n3, _, _, rfl, rfl, off_un _ _ M.J.e3, by have := small1000 (n := vs.length) (by omega); exact this, ?_⟩
          refine ⟨ti, _, ks ++ [(nm, ms)], _, _, _, _, _, _, _, rfl, (M.J.app3 A (k := (nm, ms)) ⟨t2, t1, ws, rfl, e2, e1, M.pm⟩).le (by omega), by omega, ⟨ati, by rw [eti, kMakers_snoc]⟩, ⟨by rw [List.length_append, lk]; rfl, by rw [List.map_append, ek, List.take_succ, hnm]; rfl⟩, fun k hk => ?_⟩
          rcases List.mem_append.mp hk with hk | hk
          · exact ak k hk
          · rw [List.mem_singleton.mp hk]
            exact ⟨⟨anm, by show 1 ≤ ms.length; omega, by show ms.length ≤ 6; omega, fun m hm => (am m hm).1⟩, fun m hm => (am m hm).2⟩
      · obtain ⟨titles, vs, ks, a4, a5, a6, a7, a8, a9, a10, rfl, J, lt, ⟨at', et⟩, ⟨lk, ek⟩, ak⟩ := e
        rw [lN] at lk ek
        rw [List.take_length] at ek
        have ekn : kNames ks = names := ek
        refine ⟨_, rfl, .inl ⟨n3, vs, rfl, .inl (.inl (off_un _ _ J.e3)), fun t ht => ?_⟩⟩
        obtain ⟨L1, x1, e1⟩ := J.L.new (o := .tup vs) ht
        have J := J.go L1 x1
        exact k _ t vs ks ⟨by omega, by omega, fun k hk => (ak k hk).1, by rw [ekn]; exact an, by rw [← et]; exact at', fun k hk => by rw [ekn]; exact (ak k hk).2⟩ e1 J.pr J.x (J.L.le (by rw [lN]; omega))
    · refine ⟨_, rfl, by show 3 ≤ sizeLine; decide, fun l hl => ?_⟩
      obtain ⟨L1, x1, e1⟩ := J.L.new (o := .lst [.int 1, .int 3, .int 6]) hl
      have J := J.go L1 x1
      refine ⟨_, rfl, p, q, b, 3, rfl, J.L.w, by decide, by decide, by omega, fun G1 r r0 r1 kp hw => ?_⟩
      obtain ⟨L2, x2⟩ := J.L.draw kp hw
      have J := J.go L2 x2
      obtain ⟨vm, em, mm⟩ := atI_of (xs := [V.int 1, .int 3, .int 6]) r0 r1
      obtain ⟨many, rfl, m1, m6⟩ : ∃ many : Int, vm = .int many ∧ 0 < many ∧ many ≤ 6 := by
        simp only [List.mem_cons, List.mem_nil_iff, or_false] at mm
        rcases mm with rfl | rfl | rfl <;> exact ⟨_, rfl, by decide, by decide⟩
      refine ⟨l, _, r, _, rfl, rfl, .inl (.inl (off_un _ _ (L1.keep x2 e1 (fun _ z => by cases z)))), em, p, q, b + 1, many, rfl, J.L.w, m1, by omega, by omega, fun G2 s s0 s1 kp2 hw2 => ?_⟩
      obtain ⟨L3, x3⟩ := J.L.draw kp2 hw2
      have J := J.go L3 x3
      refine ⟨_, _, rfl, rfl, 1 + s, rfl, by omega, by omega, for_it (n := (1 + s).toNat) walk_range (fun i σ G => ∃ (names : List Str) (a4 a5 a6 a7 a8 a9 a10 : Option V), σ = [some (.ref p), some (.ref n1), some (.ref n2), some (.ref n3), a4, a5, a6, a7, a8, a9, a10, none] ∧ names.length = i ∧ NmOk names ∧ Lp T p q n1 n2 n3 H (b + 2 + 20 * i) names [] [] [] G) ⟨[], none, none, none, none, none, none, none, rfl, rfl, NmOk.nil, J⟩ (fun _ _ _ _ _ => trivial) (fun i x σ G G3 hi e y => ?_) (fun σ G e => ?_)⟩
      · obtain ⟨names, a4, a5, a6, a7, a8, a9, a10, rfl, el, an, J⟩ := e
        obtain ⟨rfl, rfl⟩ := y
        have e1 := off_un _ _ J.e1
        refine ⟨.ref n1, rfl, .inl ⟨rfl, _, .inl (.inl e1)⟩, _, rfl, _, rfl, p, q, _, true, n1, names, rfl, J.L, by omega, J.e1, by omega, fun z hz => any_len (an.any z hz), fun G4 z hz fz nz x4 L4 => ?_⟩
        have J := J.go L4 x4
        refine ⟨n1, _, _, rfl, rfl, off_un _ _ J.e1, by rw [List.length_map]; exact small1000 (by omega), ?_⟩
        refine ⟨names ++ [z], _, a5, a6, a7, a8, a9, a10, rfl, by rw [List.length_append, el]; rfl, an.snoc (any_high hz fz) nz, (J.app1 A z).le (by omega)⟩
      · obtain ⟨names, a4, a5, a6, a7, a8, a9, a10, rfl, el, an, J⟩ := e
        exact rest _ _ ⟨names, a4, a5, a6, a7, a8, a9, a10, rfl, by omega, by omega, an, J.le (by omega)⟩
end
end JF
set_option Elab.async false
set_option linter.all false
set_option maxRecDepth 100000
set_option maxHeartbeats 4000000
/-! displays of data beside a well of draws -/
namespace JF
open PySem PySem.Spec PyProof.Rows L2 GxR GA PC
abbrev Pw := Addr → Addr → L2.St → Hp → Prop
structure StaysW (K : PySem.W.Frag) (T : List Addr) (pre : Pw) : Prop where
  go : ∀ p q σ G G', Ex T (off p q G) (off p q G') → TbOk T (off p q G) → pre p q σ (off p q G) → pre p q σ (off p q G')
def tWd (K : PySem.W.Frag) (T : List Addr) (pre : Pw) (d : PyData) : TE := fun σ H Q => ∃ p q b, Wl T p q b H ∧ pre p q σ (off p q H) ∧ ∀ v H', Ex T (off p q H) (off p q H') → Wl T p q b H' → Dx K (off p q H') v d → Q v H'
def tWds (K : PySem.W.Frag) (T : List Addr) (pre : Pw) (ds : List PyData) : TA := fun σ H Q => ∃ p q b, Wl T p q b H ∧ pre p q σ (off p q H) ∧ ∀ vs H', Ex T (off p q H) (off p q H') → Wl T p q b H' → DxAll K (off p q H') vs ds → Q vs H'
theorem pe_weakW {X : Cx} {e : Expr} {t t' : TE} (h : PE X e t) (w : ∀ σ H Q, t' σ H Q → t σ H Q) : PE X e t' := ⟨fun pins s σ H Q I q => h.run pins s σ H Q I (w _ _ _ q)⟩
theorem pa_weakW {X : Cx} {es : List Expr} {t t' : TA} (h : PA X es t) (w : ∀ σ H Q, t' σ H Q → t σ H Q) : PA X es t' := ⟨fun pos pins s σ H Q I q => h.run pos pins s σ H Q I (w _ _ _ q)⟩
section
variable {X : Cx} {K : PySem.W.Frag} {T : List Addr} {pre : Pw}
theorem wd_nil : PA X [] (tWds K T pre []) := pa_weakW pa_nil fun σ H Q ⟨p, q, b, L, _, k⟩ => k [] H Ex.refl L .nil
theorem wd_cons (St : StaysW K T pre) {e : Expr} {es : List Expr} {d : PyData} {ds : List PyData} (he : PE X e (tWd K T pre d)) (ha : PA X es (tWds K T pre ds)) (hs : starEach (e :: es) X.env = (false, eval e X.env) :: starEach es X.env := by rfl) : PA X (e :: es) (tWds K T pre (d :: ds)) :=
  pa_weakW (pa_cons he ha hs) fun σ H Q ⟨p, q, b, L, P, k⟩ => ⟨p, q, b, L, P, fun v H1 x1 L1 r1 => ⟨p, q, b, L1, St.go _ _ _ _ _ x1 L.tb P, fun vs H2 x2 L2 r2 => k _ _ (x1.trans x2) L2 (.cons (r1.ex x2 L1.tb) r2)⟩⟩
theorem wd_tup {es : List Expr} {ds : List PyData} {x1 : Nat} {pos : Pos} (ha : PA X es (tWds K T pre ds)) (h : ds.length ≤ sizeLine) : PE X (.Tuple es x1 pos) (tWd K T pre (.tuple ds)) :=
  pe_weakW (pe_tup ha) fun σ H Q ⟨p, q, b, L, P, k⟩ => ⟨p, q, b, L, P, fun vs H1 x1 L1 r1 => ⟨by rw [r1.len]; exact h, fun a ha => by
    obtain ⟨L2, x2, e2⟩ := L1.new (o := .tup vs) ha
    exact k _ _ (x1.trans x2) L2 (.tup e2 (r1.ex x2 L1.tb))⟩⟩
theorem wd_lst {es : List Expr} {ds : List PyData} {pos : Pos} (ha : PA X es (tWds K T pre ds)) (h : ds.length ≤ sizeLine) : PE X (.List es pos) (tWd K T pre (.list ds)) :=
  pe_weakW (pe_lst ha) fun σ H Q ⟨p, q, b, L, P, k⟩ => ⟨p, q, b, L, P, fun vs H1 x1 L1 r1 => ⟨by rw [r1.len]; exact h, fun a ha => by
    obtain ⟨L2, x2, e2⟩ := L1.new (o := .lst vs) ha
    exact k _ _ (x1.trans x2) L2 (.lst e2 (r1.ex x2 L1.tb))⟩⟩
theorem wd_e {e : Expr} {v : V} {d : PyData} {t : TE} (h : PE X e t) (w : ∀ σ H Q, Q v H → t σ H Q) (r : ∀ H, Dx K H v d) : PE X e (tWd K T pre d) :=
  pe_weakW h fun σ H Q ⟨p, q, b, L, P, k⟩ => w _ _ _ (k _ _ Ex.refl L (r _))
theorem wd_c {e : Expr} {v : V} {d : PyData} (h : PE X e (tC v)) (r : ∀ H, Dx K H v d) : PE X e (tWd K T pre d) := wd_e h (fun _ _ _ q => q) r
theorem wd_s {e : Expr} {z : Str} (h : PE X e (tC (.str z))) (l : z.length ≤ 65536) : PE X e (tWd K T pre (.str z)) := wd_c h fun _ => .str _ l
theorem wd_i {e : Expr} {z : Int} (h : PE X e (tC (.int z))) : PE X e (tWd K T pre (.int z)) := wd_c h fun _ => .int _
theorem wd_var {e : Expr} {i : Nat} {d : PyData} (h : PE X e (tVar i)) (r : ∀ p q σ G, pre p q σ G → ∃ v, σ[i]? = some (some v) ∧ Dx K G v d) : PE X e (tWd K T pre d) :=
  pe_weakW h fun σ H Q ⟨p, q, b, L, P, k⟩ => by
    obtain ⟨v, e, r⟩ := r _ _ _ _ P
    exact ⟨v, e, k _ _ Ex.refl L r⟩
theorem wd_d0 {pos : Pos} (h : PE X (.Dict [] [] pos) tDNewK) : PE X (.Dict [] [] pos) (tWd K T pre (.dict [])) :=
  pe_weakW h fun σ H Q ⟨p, q, b, L, P, k⟩ => fun a ha => by
    obtain ⟨L2, x2, e2⟩ := L.new (o := .dK []) ha
    exact k _ _ x2 L2 (.dic0 e2)
theorem wd_d1 {e : Expr} {z : Str} {i : Nat} {d : PyData} (h : PE X e (tDisp [(tC (.str z), tVar i)])) (r : ∀ p q σ G, pre p q σ G → ∃ v, σ[i]? = some (some v) ∧ Dx K G v d) : PE X e (tWd K T pre (.dict [(.str z, d)])) :=
  pe_weakW h fun σ H Q ⟨p, q, b, L, P, k⟩ => fun a ha => by
    obtain ⟨v, e, r⟩ := r _ _ _ _ P
    refine ⟨v, e, upd_same, [(.inr z, v)], rfl, by show 1 ≤ 15; decide, ?_⟩
    obtain ⟨L2, x2, e2⟩ := L.new (o := .dK [(.inr z, v)]) ha
    rw [upd_upd]
    exact k _ _ x2 L2 (.dic1 e2 (r.ex x2 L.tb))
end
end JF
set_option Elab.async false
set_option linter.all false
set_option maxRecDepth 100000
set_option maxHeartbeats 4000000
namespace JF
open PySem PySem.Spec PyProof.Rows L2 GxR GA PC
def odd1 (d : PyData) : List PyData := [.str "", .str "number", .str "add", .str "sub", .str "less", .str "make", .str "match", .str "call", .str "give", .str "case", .str "Case", .str "r", .str "t", .str "R", .str "r3", .str "t0", .str "R3"]
def odd2 (d : PyData) : List PyData := [.str "r3a", .str "rt", .str "a", .str "A", .str "a1", .str "A1", .str "1a", .str "a_", .str "a b", .str "a\n", .str "Abcdefghij", .str "Abcdefghijk", .str "abcdefghij", .str "abcdefghijk"]
def odd3 (d : PyData) : List PyData := [.int 0, .int 1, .int (-1), .int 4, .int 31, .int 32, .int 59, .int 60, .int ((10 : Int) ^ (12 : Int).toNat), .int ((10 : Int) ^ (12 : Int).toNat + 1), .int (-((10 : Int) ^ (12 : Int).toNat)), .int (-((10 : Int) ^ (12 : Int).toNat) - 1), .bool true, .bool false, .none, .tuple [], .list [], .dict []]
def odd4 (d : PyData) : List PyData := [.tuple [.str "give", .int 0], .tuple [.str "give", .int 32], .tuple [.str "number", .int 0, .int 0, .int 0], .tuple [.str "less", .int 0, .int 0, .int 0, .int 0], .tuple [.str "match", .int 0, .tuple [.tuple [.tuple [], .int 0]]], .tuple [.str "match", .int 0, .tuple []]]
def odd5 (d : PyData) : List PyData := [.tuple [.str "number"], .tuple [.str "Nq", .tuple []], .tuple [.str "Nq", .tuple [.str "number"]], .tuple [.int 0, .int 0, .int 0, .int 0], .tuple [.int 0, .int 0, .int 0, .int 0, .int 0], .tuple [.tuple [.str "Nq", .tuple []]], .tuple [.tuple [.int 0], .int 0]]
def odd6 (d : PyData) : List PyData := [.tuple [d], .list [d], .tuple [d, d], .dict [(.str "a", d)], .tuple [.str "give", d], .tuple [d, .int 0], .tuple [.tuple [], d]]
/-- the things that may stand in the place of d -/
def oddAll (d : PyData) : List PyData := odd1 d ++ odd2 d ++ odd3 d ++ odd4 d ++ odd5 d ++ odd6 d
def spOdd (K : PySem.W.Frag) (T : List Addr) : Sp := fun vs H Q _ => ∃ (p q : Addr) (b : Nat) (v : V) (d : PyData), vs = [.ref p, v] ∧ Wl T p q b H ∧ b + 1 < 1000000 ∧ Dx K (off p q H) v d ∧ ∀ H' v' d', d' ∈ oddAll d → Dx K (off p q H') v' d' → Ex T (off p q H) (off p q H') → Wl T p q (b + 1) H' → Q v' H'
def preV (K : PySem.W.Frag) (d : PyData) : Pw := fun _ _ σ G => ∃ v, σ[1]? = some (some v) ∧ Dx K G v d
theorem preV_stays {K : PySem.W.Frag} {T : List Addr} {d : PyData} : StaysW K T (preV K d) := ⟨fun _ _ _ _ _ x t ⟨v, e, r⟩ => ⟨v, e, r.ex x t⟩⟩
section
variable {P : Program} {w : World} {K : PySem.W.Frag} {mg : Str → Option Value} {base : Heap} {T : List Addr}
end
end JF
set_option Elab.async false
set_option linter.all false
set_option maxRecDepth 100000
set_option maxHeartbeats 4000000
namespace JF
open PySem PySem.Spec PyProof.Rows L2 GxR GA PC
theorem cutV_to (xs : List V) (n : Nat) : cutV xs none (some (n : Int)) = xs.take n := by
  unfold cutV
  rw [HT.sIx_none, show HT.sIx xs.length xs.length (some (n : Int)) = min n xs.length from HT.sIx_nat _ _ _]
  show List.take (min n xs.length - 0) (xs.drop 0) = xs.take n
  rw [Nat.sub_zero, List.drop_zero, List.take_eq_take_iff]
  omega
theorem cutV_from (xs : List V) (n : Nat) : cutV xs (some (n : Int)) none = xs.drop n := by
  unfold cutV
  rw [HT.sIx_none, show HT.sIx xs.length 0 (some (n : Int)) = min n xs.length from HT.sIx_nat _ _ _]
  rcases Nat.le_total n xs.length with h | h
  · rw [Nat.min_eq_left h]
    exact List.take_of_length_le (by rw [List.length_drop]; omega)
  · rw [Nat.min_eq_right h, List.drop_eq_nil_of_le h, List.drop_eq_nil_of_le (Nat.le_refl _)]
    simp
theorem paired_take {α β : Type} {F : α → β → Prop} : ∀ {xs : List α} {ys : List β} (n : Nat), Paired F xs ys → Paired F (xs.take n) (ys.take n)
  | _, _, 0, _ => by simp; exact .nil
  | _, _, n + 1, .nil => .nil
  | _, _, n + 1, .cons r t => .cons r (paired_take n t)
theorem paired_drop {α β : Type} {F : α → β → Prop} : ∀ {xs : List α} {ys : List β} (n : Nat), Paired F xs ys → Paired F (xs.drop n) (ys.drop n)
  | _, _, 0, h => h
  | _, _, n + 1, .nil => .nil
  | _, _, n + 1, .cons _ t => paired_drop n t
section
variable {K : PySem.W.Frag} {T : List Addr} {p q : Addr} {b : Nat} {G : Hp}
theorem sl_any (L : Wl T p q b G) {a : Addr} {xs : List V} {lo hi : Option Int} {Q : VK} (h : off p q G a = some (.tup xs)) (k : ∀ c G', Ex T (off p q G) (off p q G') → Wl T p q b G' → off p q G' c = some (.tup (cutV xs lo hi)) → Q (.ref c) G') : rSlA K (.ref a) lo hi G Q := by
  refine ⟨a, xs, rfl, .inl (.inl (off_un _ _ h)), fun ⟨e1, e2⟩ => k a G Ex.refl L ?_, fun _ c hc => ?_⟩
  · have : cutV xs lo hi = xs := by
      unfold cutV
      rw [e1, e2, Nat.sub_zero, List.drop_zero, List.take_length]
    rw [this]
    exact h
  · obtain ⟨L', x, e⟩ := L.new (o := .tup (cutV xs lo hi)) hc
    exact k c _ x L' e
theorem cat_any (L : Wl T p q b G) {a c : Addr} {xs ys : List V} {Q : VK} (h : off p q G a = some (.tup xs)) (h2 : off p q G c = some (.tup ys)) (le : xs.length + ys.length ≤ 1000) (k : ∀ c G', Ex T (off p q G) (off p q G') → Wl T p q b G' → off p q G' c = some (.tup (xs ++ ys)) → Q (.ref c) G') : rCatA K (.ref a) (.ref c) G Q := by
  refine ⟨a, c, xs, ys, rfl, rfl, .inl (.inl (off_un _ _ h)), .inl (.inl (off_un _ _ h2)), Nat.le_of_lt (small1000 le), fun e => k c G Ex.refl L ?_, fun _ e => k a G Ex.refl L ?_, fun _ _ d hd => ?_⟩
  · rw [e]; exact h2
  · rw [e, List.append_nil]; exact h
  · obtain ⟨L', x, e⟩ := L.new (o := .tup (xs ++ ys)) hd
    exact k d _ x L' e
end
section
variable {K : PySem.W.Frag} {T : List Addr} {p q : Addr} {b : Nat} {G : Hp}
theorem off_list (L : Wl T p q b G) {D : Addr} {G' : Hp} {ys : List V} (hD0 : G D = none) (x : Ex T G G') (hD : G' D = some (.lst ys)) : off p q G' D = some (.lst ys) := by
  obtain ⟨m, c, ts, ne, hp, hq, _⟩ := L.w
  exact off_at hD (fun z => by rw [z, hp] at hD0; cases hD0) (fun z => by rw [z, hq] at hD0; cases hD0)
end
theorem okW_len {z : Str} (h : okW z) : 0 < z.length ∧ z.length ≤ 10 := by
  rcases h with h | rfl
  · exact any_len h
  · decide +kernel
def firstT (k : Kd) : Str := (k.2.map (·.1)).headD ""
/-- kinds as they are spoilt: words in places of names, up to n fields -/
structure Shp (n : Nat) (ks : List Kd) : Prop where
  h1 : 1 ≤ ks.length
  h6 : ks.length ≤ 6
  all : ∀ k ∈ ks, okW k.1 ∧ 1 ≤ k.2.length ∧ k.2.length ≤ 6 ∧ ∀ m ∈ k.2, okW m.1 ∧ m.2.length ≤ n ∧ ∀ z ∈ m.2, okW z
theorem Shp.mid {n : Nat} {ks : List Kd} (s : Shp n ks) {i : Nat} (hi : i < ks.length) {k : Kd} (hk : okW k.1 ∧ 1 ≤ k.2.length ∧ k.2.length ≤ 6 ∧ ∀ m ∈ k.2, okW m.1 ∧ m.2.length ≤ n + 1 ∧ ∀ z ∈ m.2, okW z) : Shp (n + 1) (ks.take i ++ [k] ++ ks.drop (i + 1)) := by
  have := s.h6
  refine ⟨?_, ?_, fun k0 h0 => ?_⟩
  · simp only [List.length_append, List.length_take, List.length_drop, List.length_cons, List.length_nil]; omega
  · simp only [List.length_append, List.length_take, List.length_drop, List.length_cons, List.length_nil]; omega
  · have up : ∀ k ∈ ks, okW k.1 ∧ 1 ≤ k.2.length ∧ k.2.length ≤ 6 ∧ ∀ m ∈ k.2, okW m.1 ∧ m.2.length ≤ n + 1 ∧ ∀ z ∈ m.2, okW z := fun k hk => by
      obtain ⟨h1, h2, h3, h4⟩ := s.all k hk
      exact ⟨h1, h2, h3, fun m hm => ⟨(h4 m hm).1, Nat.le_succ_of_le (h4 m hm).2.1, (h4 m hm).2.2⟩⟩
    rcases List.mem_append.mp h0 with h0 | h0
    · rcases List.mem_append.mp h0 with h0 | h0
      · exact up _ (List.mem_of_mem_take h0)
      · rw [List.mem_singleton.mp h0]; exact hk
    · exact up _ (List.mem_of_mem_drop h0)
def spSp (T : List Addr) : Sp := fun vs H Q _ => ∃ (p q : Addr) (b n : Nat) (a : Addr) (xs : List V) (ks : List Kd), vs = [.ref p, .ref a] ∧ Wl T p q b H ∧ b + 30 < 1000000 ∧ n ≤ 100 ∧ off p q H a = some (.tup xs) ∧ Paired (KdT p q H) xs ks ∧ Shp n ks ∧
  ∀ H' a' xs' ks', Shp (n + 1) ks' → off p q H' a' = some (.tup xs') → Paired (KdT p q H') xs' ks' → Ex T (off p q H) (off p q H') → Wl T p q (b + 30) H' → Q (.ref a') H'
section
variable {P : Program} {w : World} {K : PySem.W.Frag} {mg : Str → Option Value} {base : Heap} {T : List Addr}
abbrev nSp : List Str := ["well", "kinds", "at", "name", "makers", "k", "title", "fields", "words", "word", "way", "f", "kind"]
end
end JF
set_option Elab.async false
set_option linter.all false
set_option maxRecDepth 100000
set_option maxHeartbeats 4000000
/-! a def's promise where no repr is under way; repr of data there -/
namespace HG
open PySem PySem.Spec PyProof.Rows L2
def Free (A : Around) : Prop := A.guards = some []
structure FnG (P : Program) (w : World) (K : PySem.W.Frag) (mg : Str → Option Value) (base : Heap) (CX : CXT) (k : Nat) (f : Addr) (fd : FuncData) (ps : List Str) (sp : Sp) : Prop where
  len : ∀ vs H Q E, sp vs H Q E → vs.length = ps.length
  run : ∀ (A : Around) (outer : List Env) (s : Shared) (H : Hp) (args : Args) (us : List Value) (vs : List V) (Q : VK) (E : XK), Room k A ∧ Free A → Env0 P w K mg base A outer s H → BindsTo s fd args (ps.zip us) → Vals vs us → sp vs H Q E →
    codeAny (model P w) A (.call (.ref f) args) (CR CX outer P w H s Q E) s
theorem fn_ofG {CX : CXT} {P : Program} {w : World} {K : PySem.W.Frag} {mg : Str → Option Value} {base : Heap} {k : Nat} {f : Addr} {x qual : Str} {st : Stmt} {fd : FuncData} {N ps : List Str} {sp : Sp} (FN : Fun K x qual st f fd) (S : FnScope N ps (defScope st))
    (len : ∀ vs H Q E, sp vs H Q E → vs.length = ps.length)
    (hb : ∀ (cdv : Value) (A : Around) (outer : List Env) (s : Shared) (H : Hp) (vs : List V) (Q : VK) (E : XK), Free (A.deeper (envOfC qual (defScope st) s.heap.objs.size f cdv)) → Room k (A.deeper (envOfC qual (defScope st) s.heap.objs.size f cdv)) → sp vs H Q E →
      ∃ t, PSs (cxOf CX P w K mg base N qual (defScope st) f cdv A outer s H E) (defBody st) t ∧ t { nx := fun _ H' => Q .non H', rt := Q } (L2.start N vs) H) : FnG P w K mg base CX (k + 1) f fd ps sp := by
  obtain ⟨oc, od, kV, doc, pm, an, cdv, ct, osl, rfl, lk, hcd⟩ := FN.ex
  refine ⟨len, ?_⟩
  rintro A outer s H args us vs Q E ⟨room, free⟩ e0 bd r q
  have kp := fun b o e => (e0.bs b o e).1
  have KX : K.In s.heap := e0.mod.kin.keeps kp
  obtain ⟨t, ht, hq⟩ := hb cdv A outer s H vs Q E free (room.deeper _) q
  have kinds : ∀ y ∈ ps.zip us, (defScope st).names.lookup y.1 = some .local ∨ ((defScope st).names.lookup y.1 = some .cell ∧ ((cellsFrom (s.heap.objs.size + 1) (defScope st).names []).lookup y.1).isSome = true) := by
    rintro ⟨n, v⟩ hy
    exact (S.par n (List.of_mem_zip hy).1).imp id fun z => ⟨z, PySem.W.cellsFrom_some _ _ _ (.inl z)⟩
  refine codeAny_call_function room.depth (KX _ _ lk) rfl S.co S.gen rfl (PySem.W.codeRec_of KX hcd) (bd _ _ _ _ (wpAny_newFunctionEnv_cells S.kind kinds ?_))
  rintro env rfl s1 x
  refine ⟨(e0.mod.nolimit.keeps kp).keeps x.toInCall.keep, codeAny_func (wpAny_mono (ht.run [] s1 _ H _ (inv_start S room.hd e0 (len _ _ _ _ q) r x) hq) ?_ fun _ _ z => z)⟩
  rintro (_ | _ | _ | u) s2 z
  · obtain ⟨σ', H', J, q'⟩ := z
    exact ⟨.non, H', J.os, J.bare, J.base, J.hok, rfl, q'⟩
  · obtain ⟨_, _, _, n⟩ := z
    exact n.elim
  · obtain ⟨_, _, _, n⟩ := z
    exact n.elim
  · obtain ⟨v, σ', H', J, rv, q'⟩ := z
    exact ⟨v, H', J.os, J.bare, J.base, J.hok, rv, q'⟩
section
variable {X : Cx} {CX : CXT} {k : Nat} {f : Addr} {fd : FuncData} {ps : List Str} {sp : Sp} {E : L2.St → XK} {x : Str} {q pos : Pos} {e : Expr} {es : List Expr} {t : TA}
theorem pe_callG (F : FnG X.prog X.w X.K X.mg X.base CX k f fd ps sp) (hr : Room k X.A) (fr : Free X.A) (hg : Gl X x) (hm : X.mg x = some (.ref f)) (hk : PySem.W.keepIn X.K (.ref f) = true) (hb : Binds X.K fd ps []) (hx : ∀ σ, PassesAt CX X σ (E σ))
    (ha : PA X (e :: es) t) (hdb : (x == ("__debug__" : Str)) = false := by decide) (he : starEach (e :: es) X.env = (false, eval e X.env) :: starEach es X.env := by rfl) (hpl : (backTo pos (starEach es X.env)).any (·.1) = false := by rfl) :
    PE X (.Call (.Name x q) (e :: es) [] pos) (tCallS sp E t) := by
  constructor
  intro pins s σ H Q I h
  refine wpAny_Call_Name_kw (ld_glob I hg hm (PySem.W.callWith_K (h₀ := X.base) I.ok.mod.kin hk (thn (ha.run pos pins s σ H _ I h) ?_) he hpl) hdb)
  rintro us s1 ⟨vs, H1, J, r, z⟩
  have b := hb s1 us J.kIn (by rw [List.append_nil, ← r.length]; exact F.len _ _ _ _ z)
  rw [List.append_nil] at b
  refine ⟨J.kIn, wpAny_call (codeAny_mono (F.run X.A X.stack s1 H1 ⟨us, []⟩ us vs Q (E σ) ⟨hr, fr⟩ J.env0 b r z) ?_)⟩
  rintro (err | fl) s2 y
  · exact hx σ pins H1 s1 err s2 J y
  · cases fl with
    | ret u => exact J.after y
    | _ => exact False.elim y
/-- repr(x) of data -/
def rRepr (K : PySem.W.Frag) : List V → Hp → VK → Prop := fun xs H Q => ∃ (a : Addr) (d : PyData), xs = [.ref a] ∧ Dp K H (.ref a) d ∧ d.showable = true ∧ d.hasDict = false ∧ d.depth ≤ 60 ∧ d.shown.length ≤ sizeLine ∧ Q (.str d.shown) H
theorem call_repr (fr : Free X.A) (hu : X.A.units + 64 < cLine) : CallR X (.builtin "repr") (rRepr X.K) := by
  intro pins s σ H xs us Q I r h
  obtain ⟨a, d, rfl, hd, h1, h2, h3, h4, q⟩ := h
  obtain ⟨u, rfl, ru⟩ := vals1 r
  obtain ⟨as, rd⟩ := Dp.reads I d _ _ hd ru
  obtain rfl : u = .ref a := ru
  exact repr_of_reads' rd h1 (fun e => by rw [h2] at e; cases e) fr (by omega) (fun _ _ e => e) (fun h' tk t' hk => ⟨.str d.shown, H, I.kept (t' := t') fun b o e => hk b o e, ⟨tk, rfl⟩, q⟩) h4
end
end HG
set_option Elab.async false
set_option linter.all false
set_option maxRecDepth 100000
set_option maxHeartbeats 4000000
/-! repr of data that hold a dict or lists, not both -/
namespace JF
open PySem PySem.Spec PyProof PyProof.Rows L2 GxR GA PC
mutual
def noList : PyData → Bool
  | .list _ => false
  | .tuple ds => noListAll ds
  | .dict kvs => noListKv kvs
  | _ => true
def noListAll : List PyData → Bool
  | [] => true
  | d :: ds => noList d && noListAll ds
def noListKv : List (PyData × PyData) → Bool
  | [] => true
  | (_, d) :: r => noList d && noListKv r
end
section
variable {X : Cx} {pins : List (Addr × Obj)} {σ : L2.St} {H : Hp} {s : Shared}
theorem key_reads {z : Str} {k : Value} (h : keyIs (.inr z) k = true) : ∃ t, k = .str z t := by
  rcases keyIs_shape h with ⟨i, t, e, _⟩ | ⟨x, t, e, rfl⟩
  · cases e
  · cases e
    exact ⟨t, rfl⟩
mutual
theorem Dx.reads (I : Inv X pins σ H s) : ∀ {v : V} {d : PyData} (u : Value), Dx X.K H v d → RelV v u → ∃ as, Reads s.heap u d as ∧ (noList d = true → sysModules ∉ as)
  | _, _, _, .non, r => by
    cases r
    exact ⟨_, Reads.none, fun _ h => by cases h⟩
  | _, _, _, .bl b, r => by
    cases r
    exact ⟨_, Reads.bool b, fun _ h => by cases h⟩
  | _, _, _, .int i, r => by
    obtain ⟨t, rfl⟩ := r
    exact ⟨_, Reads.int i t, fun _ h => by cases h⟩
  | _, _, _, .str x _, r => by
    obtain ⟨t, rfl⟩ := r
    exact ⟨_, Reads.str x t, fun _ h => by cases h⟩
  | _, _, _, .lst hs ha, r => by
    cases r
    obtain ⟨its, rv, ⟨o, n, ho, hc, _, hd⟩, _⟩ := I.list (.inl (.inl hs))
    obtain ⟨as, hr, _⟩ := DxAll.reads I its ha rv
    exact ⟨_, Reads.list ho hc hd hr, fun z => by cases z⟩
  | _, _, _, .tup hs ha, r => by
    cases r
    obtain ⟨its, rv, ⟨o, ho, hc, n, hd⟩, _⟩ := I.tuple (.inl (.inl hs))
    obtain ⟨as, hr, q⟩ := DxAll.reads I its ha rv
    exact ⟨_, Reads.tuple ho hc hd hr, fun z => q z⟩
  | _, _, _, .dic0 (a := a) h, r => by
    cases r
    obtain ⟨_, nsys, vs, kv, o, es, ep, h1, h2, h3, h4, h5, h6⟩ := dk_of I.hok h
    cases kv
    have hl : es.toList = [] := by
      generalize es.toList = l at h5
      cases h5
      rfl
    refine ⟨a :: [] ++ [], Reads.dict (kvs := []) h1 h2.1 h3 (by rw [hl]; exact ReadsAll.nil) (by rw [hl]; exact ReadsAll.nil), fun _ h => ?_⟩
    have e : sysModules = a := by simpa using h
    rw [e] at nsys
    simp at nsys
  | _, _, _, .dic1 (a := a) (z := zz) (v := vv) (d := dd) h rd, r => by
    cases r
    obtain ⟨_, nsys, vs, kv, o, es, ep, h1, h2, h3, h4, h5, h6⟩ := dk_of I.hok h
    cases kv with
    | @cons _ w _ _ kq kr =>
    cases kr
    obtain ⟨k0, v0⟩ := w
    obtain ⟨rfl, rv⟩ := kq
    obtain ⟨e, hl, hk, hv⟩ : ∃ e, es.toList = [e] ∧ keyIs (.inr zz) e.key = true ∧ e.val = v0 := by
      generalize es.toList = l at h5
      cases h5 with
      | cons p1 p2 p3 =>
        cases p3
        exact ⟨_, rfl, p1, p2⟩
    obtain ⟨t, ek⟩ := key_reads hk
    obtain ⟨bs, q, nq⟩ := Dx.reads I _ rd rv
    refine ⟨a :: [] ++ (bs ++ []), Reads.dict (kvs := [(.str zz, dd)]) h1 h2.1 h3 (by rw [hl]; show ReadsAll s.heap [e.key] _ _; rw [ek]; exact ReadsAll.cons (Reads.str zz t) ReadsAll.nil) (by rw [hl]; show ReadsAll s.heap [e.val] _ _; rw [hv]; exact ReadsAll.cons q ReadsAll.nil), fun z h => ?_⟩
    have z : (noList dd && true) = true := z
    rw [Bool.and_true] at z
    have h : sysModules = a ∨ sysModules ∈ bs := by simpa using h
    rcases h with e | h
    · rw [e] at nsys
      simp at nsys
    · exact nq z h
theorem DxAll.reads (I : Inv X pins σ H s) : ∀ {vs : List V} {ds : List PyData} (us : List Value), DxAll X.K H vs ds → Vals vs us → ∃ as, ReadsAll s.heap us ds as ∧ (noListAll ds = true → sysModules ∉ as)
  | _, _, _, .nil, r => by
    cases r
    exact ⟨_, ReadsAll.nil, fun _ h => by cases h⟩
  | _, _, _, .cons h1 h2, r => by
    cases r with
    | cons r1 r2 =>
      obtain ⟨as, q1, n1⟩ := Dx.reads I _ h1 r1
      obtain ⟨bs, q2, n2⟩ := DxAll.reads I _ h2 r2
      refine ⟨_, ReadsAll.cons q1 q2, fun z h => ?_⟩
      have z : (noList _ && noListAll _) = true := z
      rw [Bool.and_eq_true] at z
      rcases List.mem_append.mp h with h | h
      · exact n1 z.1 h
      · exact n2 z.2 h
end
/-- repr(x) of data that hold a dict or lists, not both -/
def rReprD (K : PySem.W.Frag) : List V → Hp → VK → Prop := fun xs H Q => ∃ (v : V) (d : PyData), xs = [v] ∧ Dx K H v d ∧ d.showable = true ∧ (d.hasDict = true → noList d = true) ∧ d.depth ≤ 60 ∧ d.shown.length ≤ sizeLine ∧ Q (.str d.shown) H
theorem call_reprD (fr : HG.Free X.A) (hu : X.A.units + 64 < cLine) : CallR X (.builtin "repr") (rReprD X.K) := by
  intro pins s σ H xs us Q I r h
  obtain ⟨v, d, rfl, hd, h1, h2, h3, h4, q⟩ := h
  obtain ⟨u, rfl, ru⟩ := vals1 r
  have big : ∀ a : Addr, v = .ref a → wpAny (model X.prog X.w) X.A (call (.builtin "repr") [u]) (EP X pins σ Q) X.xe s := fun a ea => by
    subst ea
    obtain ⟨as, rd, nl⟩ := Dx.reads I u hd ru
    obtain rfl : u = .ref a := ru
    exact repr_of_reads' rd h1 (fun e => nl (h2 e)) fr (by omega) (fun _ _ e => e) (fun h' tk t' hk => ⟨.str d.shown, H, I.kept (t' := t') fun b o e => hk b o e, ⟨tk, rfl⟩, q⟩) h4
  cases hd with
  | non =>
    cases ru
    exact PySem.P.repr_of_none ⟨.str (PyData.shown .none), H, I.kept (h' := s.heap) (t' := s.toks + 1) (fun _ _ e => e), ⟨_, rfl⟩, q⟩
  | bl b =>
    cases ru
    exact PySem.P.repr_of_bool ⟨.str (PyData.shown (.bool b)), H, I.kept (h' := s.heap) (t' := s.toks + 1) (fun _ _ e => e), ⟨_, rfl⟩, q⟩
  | int i =>
    obtain ⟨t, rfl⟩ := ru
    have h1 : i.natAbs.log2 < 1920 := of_decide_eq_true h1
    exact PySem.P.repr_of_int h1 ⟨.str (PyData.shown (.int i)), H, I.kept (h' := s.heap) (t' := s.toks + 1) (fun _ _ e => e), ⟨_, rfl⟩, q⟩
  | str x _ =>
    obtain ⟨t, rfl⟩ := ru
    exact PySem.P.repr_of_str ⟨.str (PyData.shown (.str x)), H, I.kept (h' := s.heap) (t' := s.toks + 1) (fun _ _ e => e), ⟨_, rfl⟩, q⟩ h4
  | lst _ _ => exact big _ rfl
  | tup _ _ => exact big _ rfl
  | dic0 _ => exact big _ rfl
  | dic1 _ _ => exact big _ rfl
end
end JF
set_option Elab.async false
set_option linter.all false
set_option maxRecDepth 100000
set_option maxHeartbeats 4000000
/-! drawn kinds as data -/
namespace JF
open PySem PySem.Spec PyProof.Rows L2 GxR GA PC
def dMk (m : Mk') : PyData := .tuple [.str m.1, .tuple (m.2.map PyData.str)]
def dKd (k : Kd) : PyData := .tuple [.str k.1, .tuple (k.2.map dMk)]
def dKs (ks : List Kd) : PyData := .tuple (ks.map dKd)
section
variable {K : PySem.W.Frag} {p q : Addr} {G : Hp}
theorem okW_short {z : Str} (h : okW z) : z.length ≤ 65536 := Nat.le_trans (okW_len h).2 (by decide)
theorem strs_dx {H : Hp} : ∀ {zs : List Str}, (∀ z ∈ zs, okW z) → DxAll K H (zs.map V.str) (zs.map PyData.str)
  | [], _ => .nil
  | z :: zs, h => .cons (.str z (okW_short (h z (List.mem_cons_self ..)))) (strs_dx fun y hy => h y (List.mem_cons_of_mem _ hy))
theorem MkT.dx {v : V} {m : Mk'} (h : MkT p q G v m) (h1 : okW m.1) (h2 : ∀ z ∈ m.2, okW z) : Dx K (off p q G) v (dMk m) := by
  obtain ⟨a, b, rfl, ha, hb⟩ := h
  exact .tup ha (.cons (.str _ (okW_short h1)) (.cons (.tup hb (strs_dx h2)) .nil))
theorem mks_dx : ∀ {vs : List V} {ms : List Mk'}, Paired (MkT p q G) vs ms → (∀ m ∈ ms, okW m.1 ∧ ∀ z ∈ m.2, okW z) → DxAll K (off p q G) vs (ms.map dMk)
  | _, _, .nil, _ => .nil
  | _, _, .cons r t, h => .cons (r.dx (h _ (List.mem_cons_self ..)).1 (h _ (List.mem_cons_self ..)).2) (mks_dx t fun m hm => h m (List.mem_cons_of_mem _ hm))
theorem KdT.dx {v : V} {k : Kd} (h : KdT p q G v k) (h1 : okW k.1) (h2 : ∀ m ∈ k.2, okW m.1 ∧ ∀ z ∈ m.2, okW z) : Dx K (off p q G) v (dKd k) := by
  obtain ⟨a, b, ms, rfl, ha, hb, pm⟩ := h
  exact .tup ha (.cons (.str _ (okW_short h1)) (.cons (.tup hb (mks_dx pm h2)) .nil))
theorem kds_dx : ∀ {vs : List V} {ks : List Kd}, Paired (KdT p q G) vs ks → (∀ k ∈ ks, okW k.1 ∧ ∀ m ∈ k.2, okW m.1 ∧ ∀ z ∈ m.2, okW z) → DxAll K (off p q G) vs (ks.map dKd)
  | _, _, .nil, _ => .nil
  | _, _, .cons r t, h => .cons (r.dx (h _ (List.mem_cons_self ..)).1 (h _ (List.mem_cons_self ..)).2) (kds_dx t fun m hm => h m (List.mem_cons_of_mem _ hm))
theorem shp_dx {n : Nat} {a : Addr} {xs : List V} {ks : List Kd} (s : Shp n ks) (ha : off p q G a = some (.tup xs)) (pr : Paired (KdT p q G) xs ks) : Dx K (off p q G) (.ref a) (dKs ks) :=
  .tup ha (kds_dx pr fun k hk => ⟨(s.all k hk).1, fun m hm => ⟨((s.all k hk).2.2.2 m hm).1, ((s.all k hk).2.2.2 m hm).2.2⟩⟩)
/-- drawn kinds are of the shape that is spoilt -/
theorem Drawn.shp {ks : List Kd} (d : Drawn ks) : Shp 4 ks := ⟨d.h1, d.h6, fun k hk => by
  obtain ⟨h1, h2, h3, h4⟩ := d.all k hk
  exact ⟨.inl h1, h2, h3, fun m hm => ⟨.inl (h4 m hm).1, (h4 m hm).2.1, (h4 m hm).2.2⟩⟩⟩
end
end JF
set_option Elab.async false
set_option linter.all false
set_option maxRecDepth 100000
set_option maxHeartbeats 4000000
/-! tuple * int, of the empty tuple as well -/
namespace M0
open PySem PySem.Spec PyProof.Rows L2
theorem tuple_mulW0 (l : Addr) (n : Nat) (dd : Option Addr) (sl : Array (Option Value)) (x : Int) (u : Tok) (c0 : (decide (x < -(2 ^ 63)) || decide (x ≥ 2 ^ 63)) = false) :
    Meets (Builtin.«tuple.__mul__» ⟨[.ref l, .int x u], []⟩) (fun _ R s => s.heap.get? l = some { cls := .type "tuple", dict := dd, data := .seq #[] n, slots := sl } ∧ R (.ok (.ret (Value.ref l))) s) :=
  .of_wp fun prog w A R s h => by
    obtain ⟨hp, g, d, tk, os⟩ := s
    obtain ⟨hl, h⟩ := h
    have f1 := AutoSeq1.idx_int
    wp_walk using wpAny_loadPart' hl
    repeat (first
      | (refine wpAny_ite_false (decide_eq_false (by rw [c0]; exact Bool.false_ne_true)) ?_; wp_walk using wpAny_loadPart' hl)
      | (refine wpAny_ite_true (decide_eq_true (by rfl)) ?_; wp_walk using wpAny_loadPart' hl))
    exact ⟨_, rfl, h⟩
/-- t * k -/
def rRepA (K : PySem.W.Frag) : R2 := fun x y H Q => ∃ l k xs, x = .ref l ∧ y = .int k ∧ SqT K H l xs ∧ 2 ≤ k ∧ k ≤ 1000 ∧ xs.length ≤ 1000 ∧ (xs = [] → Q (.ref l) H) ∧ (xs ≠ [] → ∀ p, H p = none → Q (.ref p) (upd H p (.tup (List.replicate k.toNat xs).flatten)))
section
variable {X : Cx}
theorem op_repA : OpR X (binaryOp .Mult) (rRepA X.K) := by
  intro pins s σ H x y v u Q I rx ry h
  obtain ⟨l, k, xs, rfl, rfl, hT, h1, h2, hz, q0, q⟩ := h
  by_cases he : xs = []
  · subst he
    cases rx
    obtain ⟨t, rfl⟩ := ry
    obtain ⟨its, r, ⟨⟨cls, dd, data, sl⟩, ho, hc, n, hd⟩, hs⟩ := I.tuple hT
    cases r
    simp only at hc hd
    subst hc hd
    have c0 : (decide (k < -(2 ^ 63)) || decide (k ≥ 2 ^ 63)) = false := by
      rw [decide_eq_false (by omega), decide_eq_false (by omega)] <;> rfl
    exact wpAny_binaryOp_repeat_ref (T := "tuple") (U := "int") (by decide) ⟨_, ho, rfl⟩ (fun s' => typeIs_int s' k t) noFill_tuple_mul F.fills_int_mul F.slot_int_rmul repeat_tuple F.slot_int_index.lookup
      (call_meets F.slot_int_rmul (typeIs_int s k t) F.entry_int_rmul (F.args_int_rmul_2 _ _) (int_rmul_tuple k t l _ n dd sl)
        ⟨ho, rfl, ⟨_, ho, rfl⟩, call_meets F.slot_tuple_mul ⟨_, ho, rfl⟩ F.entry_tuple_mul (F.args_tuple_mul_2 _ _) (tuple_mulW0 l n dd sl k t c0) ⟨ho, .ref l, H, I, rfl, q0 rfl⟩⟩)
  · exact op_repT pins s σ H _ _ v u Q I rx ry ⟨l, k, xs, rfl, rfl, hT, he, h1, h2, hz, q he⟩
end
end M0
set_option Elab.async false
set_option linter.all false
set_option maxRecDepth 100000
set_option maxHeartbeats 4000000
/-! trees of tuples and short plain texts; what bending makes of them -/
namespace JF
open PySem PySem.Spec PyProof PyProof.Rows L2 GxR GA PC
mutual
def isTs : PyData → Bool
  | .str z => decide (z.length ≤ 10) && z.cps.toList.all (fun c => decide (c < 128))
  | .tuple ds => decide (ds.length ≤ 100) && isTsAll ds
  | _ => false
def isTsAll : List PyData → Bool
  | [] => true
  | d :: ds => isTs d && isTsAll ds
end
/-- fit for repr -/
structure Gd (k n : Nat) (d : PyData) : Prop where
  sh : d.showable = true
  lf : d.leavesShort 16 = true
  dp : d.depth ≤ k
  wt : d.weight ≤ n
structure GdA (k n : Nat) (ds : List PyData) : Prop where
  sh : PyData.showableAll ds = true
  lf : PyData.leavesShortAll 16 ds = true
  dp : PyData.depthAll ds ≤ k
  wt : PyData.weightAll ds ≤ n
theorem GdA.nil {k n : Nat} : GdA k n [] := ⟨rfl, rfl, Nat.zero_le _, Nat.zero_le _⟩
theorem GdA.cons {d : PyData} {ds : List PyData} {k a b n : Nat} (x : Gd k a d) (y : GdA k b ds) (h : a + 1 + b ≤ n) : GdA k n (d :: ds) :=
  ⟨by show (_ && _) = true; rw [x.sh, y.sh]; rfl, by show (_ && _) = true; rw [x.lf, y.lf]; rfl, Nat.max_le.mpr ⟨x.dp, y.dp⟩, by
    show PyData.weight d + 1 + PyData.weightAll ds ≤ _
    have := x.wt
    have := y.wt
    omega⟩
theorem GdA.inv {d : PyData} {ds : List PyData} {k n : Nat} (h : GdA k n (d :: ds)) : Gd k d.weight d ∧ GdA k (PyData.weightAll ds) ds ∧ d.weight + 1 + PyData.weightAll ds ≤ n := by
  have h1 : (PyData.showable d && PyData.showableAll ds) = true := h.sh
  have h2 : (PyData.leavesShort 16 d && PyData.leavesShortAll 16 ds) = true := h.lf
  have h3 : max d.depth (PyData.depthAll ds) ≤ k := h.dp
  have h4 : d.weight + 1 + PyData.weightAll ds ≤ n := h.wt
  rw [Bool.and_eq_true] at h1 h2
  obtain ⟨h5, h6⟩ := Nat.max_le.mp h3
  exact ⟨⟨h1.1, h2.1, h5, Nat.le_refl _⟩, ⟨h1.2, h2.2, h6, Nat.le_refl _⟩, h4⟩
theorem GdA.app {xs ys : List PyData} {k a b n : Nat} (x : GdA k a xs) (y : GdA k b ys) (h : a + b ≤ n) : GdA k n (xs ++ ys) := by
  induction xs generalizing a n with
  | nil => exact ⟨y.sh, y.lf, y.dp, Nat.le_trans y.wt (by omega)⟩
  | cons d ds ih =>
    obtain ⟨h1, h2, h3⟩ := x.inv
    exact GdA.cons h1 (ih h2 (Nat.le_refl _)) (by omega)
theorem GdA.le {xs : List PyData} {k k' n n' : Nat} (x : GdA k n xs) (h1 : k ≤ k') (h2 : n ≤ n') : GdA k' n' xs := ⟨x.sh, x.lf, Nat.le_trans x.dp h1, Nat.le_trans x.wt h2⟩
theorem Gd.le {d : PyData} {k k' n n' : Nat} (x : Gd k n d) (h1 : k ≤ k') (h2 : n ≤ n') : Gd k' n' d := ⟨x.sh, x.lf, Nat.le_trans x.dp h1, Nat.le_trans x.wt h2⟩
theorem wAll_app (xs ys : List PyData) : PyData.weightAll (xs ++ ys) = PyData.weightAll xs + PyData.weightAll ys := by
  induction xs with
  | nil => show PyData.weightAll ys = 0 + _; omega
  | cons d ds ih =>
    show d.weight + 1 + PyData.weightAll (ds ++ ys) = d.weight + 1 + PyData.weightAll ds + _
    rw [ih]; omega
theorem GdA.split {xs ys : List PyData} {k n : Nat} (h : GdA k n (xs ++ ys)) : GdA k (PyData.weightAll xs) xs ∧ GdA k (PyData.weightAll ys) ys := by
  induction xs generalizing n with
  | nil => exact ⟨GdA.nil, ⟨h.sh, h.lf, h.dp, Nat.le_refl _⟩⟩
  | cons d ds ih =>
    obtain ⟨h1, h2, _⟩ := GdA.inv (ds := ds ++ ys) h
    obtain ⟨i1, i2⟩ := ih h2
    exact ⟨GdA.cons h1 i1 (Nat.le_refl _), i2⟩
theorem GdA.take {xs : List PyData} {k n : Nat} (h : GdA k n xs) (i : Nat) : GdA k (PyData.weightAll (xs.take i)) (xs.take i) := by
  rw [← List.take_append_drop i xs] at h
  exact h.split.1
theorem GdA.drop {xs : List PyData} {k n : Nat} (h : GdA k n xs) (i : Nat) : GdA k (PyData.weightAll (xs.drop i)) (xs.drop i) := by
  rw [← List.take_append_drop i xs] at h
  exact h.split.2
theorem wAll_take_drop (xs : List PyData) (i : Nat) : PyData.weightAll (xs.take i) + PyData.weightAll (xs.drop i) = PyData.weightAll xs := by
  rw [← wAll_app, List.take_append_drop]
theorem GdA.get {xs : List PyData} {k n i : Nat} {d : PyData} (h : GdA k n xs) (e : xs[i]? = some d) : Gd k d.weight d ∧ PyData.weightAll (xs.take i) + (d.weight + 1 + PyData.weightAll (xs.drop (i + 1))) = PyData.weightAll xs := by
  have hi : i < xs.length := (List.getElem?_eq_some_iff.mp e).1
  have e2 : xs.drop i = d :: xs.drop (i + 1) := by
    rw [List.drop_eq_getElem_cons hi]
    rw [List.getElem?_eq_getElem hi] at e
    rw [Option.some.inj e]
  refine ⟨?_, ?_⟩
  · have := h.drop i
    rw [e2] at this
    exact this.inv.1
  · have := wAll_take_drop xs i
    rw [e2] at this
    exact this
theorem Gd.tup {ds : List PyData} {k n : Nat} (x : GdA k n ds) : Gd (k + 1) n (.tuple ds) := ⟨x.sh, x.lf, Nat.succ_le_succ x.dp, x.wt⟩
theorem Gd.lst {ds : List PyData} {k n : Nat} (x : GdA k n ds) : Gd (k + 1) n (.list ds) := ⟨x.sh, x.lf, Nat.succ_le_succ x.dp, x.wt⟩
theorem Gd.str {z : Str} {k n : Nat} (h : ∀ c ∈ z.cps.toList, c < 16 ^ 8) (l : z.length ≤ n) : Gd k n (.str z) :=
  ⟨rfl, List.all_eq_true.mpr fun c hc => decide_eq_true (h c hc), Nat.zero_le _, l⟩
theorem Gd.dic {z : Str} {d : PyData} {k n m : Nat} (x : Gd k n d) (h : ∀ c ∈ z.cps.toList, c < 16 ^ 8) (l : z.length + n + 2 ≤ m) : Gd (k + 1) m (.dict [(.str z, d)]) := by
  have hz : PyData.leavesShort 16 (.str z) = true := List.all_eq_true.mpr fun c hc => decide_eq_true (h c hc)
  refine ⟨?_, ?_, ?_, ?_⟩
  · show ((true && d.showable) && true) = true
    rw [x.sh]; rfl
  · show ((PyData.leavesShort 16 (.str z) && d.leavesShort 16) && true) = true
    rw [hz, x.lf]; rfl
  · show max (PyData.depth (.str z)) (max d.depth 0) + 1 ≤ k + 1
    have := x.dp
    have : PyData.depth (.str z) = 0 := rfl
    omega
  · show z.cps.size + d.weight + 2 + 0 ≤ m
    have := x.wt
    have : z.length = z.cps.size := rfl
    omega
/-- no list and no dict -/
structure Pl (d : PyData) : Prop where
  nl : noList d = true
  nd : d.hasDict = false
  lay : d.canLay0 = true
structure PlA (ds : List PyData) : Prop where
  nl : noListAll ds = true
  nd : PyData.hasDictAll ds = false
  lay : PyData.canLayAll0 ds = true
theorem strOk_of {z : Str} (h : ∀ c ∈ z.cps.toList, c < 128) : PySem.PyData.strOk z = true := by
  unfold PySem.PyData.strOk
  rw [Array.all_eq_true_iff_forall_mem]
  intro c hc
  have := h c (Array.mem_toList_iff.mpr hc)
  exact decide_eq_true (by omega)
mutual
theorem ts_ok : ∀ {d : PyData}, isTs d = true → Gd d.depth d.weight d ∧ Pl d
  | .str z, h => by
    have h : (decide (z.length ≤ 10) && z.cps.toList.all (fun c => decide (c < 128))) = true := h
    rw [Bool.and_eq_true] at h
    have h2 : ∀ c ∈ z.cps.toList, c < 128 := fun c hc => of_decide_eq_true (List.all_eq_true.mp h.2 c hc)
    exact ⟨Gd.str (fun c hc => Nat.lt_trans (h2 c hc) (by decide)) (Nat.le_refl _), ⟨rfl, rfl, strOk_of h2⟩⟩
  | .tuple ds, h => by
    have h : (decide (ds.length ≤ 100) && isTsAll ds) = true := h
    rw [Bool.and_eq_true] at h
    obtain ⟨g, p⟩ := ts_all h.2
    exact ⟨⟨g.sh, g.lf, Nat.le_refl _, Nat.le_refl _⟩, ⟨p.nl, p.nd, p.lay⟩⟩
  | .none, h => by cases h
  | .bool _, h => by cases h
  | .int _, h => by cases h
  | .list _, h => by cases h
  | .dict _, h => by cases h
theorem ts_all : ∀ {ds : List PyData}, isTsAll ds = true → GdA (PyData.depthAll ds) (PyData.weightAll ds) ds ∧ PlA ds
  | [], _ => ⟨GdA.nil, ⟨rfl, rfl, rfl⟩⟩
  | d :: ds, h => by
    have h : (isTs d && isTsAll ds) = true := h
    rw [Bool.and_eq_true] at h
    obtain ⟨g1, p1⟩ := ts_ok h.1
    obtain ⟨g2, p2⟩ := ts_all h.2
    refine ⟨⟨?_, ?_, Nat.le_refl _, Nat.le_refl _⟩, ⟨?_, ?_, ?_⟩⟩
    · show (_ && _) = true; rw [g1.sh, g2.sh]; rfl
    · show (_ && _) = true; rw [g1.lf, g2.lf]; rfl
    · show (_ && _) = true; rw [p1.nl, p2.nl]; rfl
    · show (_ || _) = false; rw [p1.nd, p2.nd]; rfl
    · show (_ && _) = true; rw [p1.lay, p2.lay]; rfl
end
theorem ts_mem : ∀ {ds : List PyData}, isTsAll ds = true ↔ ∀ d ∈ ds, isTs d = true
  | [] => by simp [isTsAll]
  | d :: ds => by
    show (isTs d && isTsAll ds) = true ↔ _
    rw [Bool.and_eq_true, ts_mem (ds := ds)]
    simp
/-- a dict or lists, not both -/
def Dl (d : PyData) : Prop := noList d = true ∨ d.hasDict = false
def DlA (ds : List PyData) : Prop := noListAll ds = true ∨ PyData.hasDictAll ds = false
theorem pla_mem {ds : List PyData} : PlA ds ↔ ∀ d ∈ ds, Pl d := by
  induction ds with
  | nil => exact ⟨fun _ _ h => by simp at h, fun _ => ⟨rfl, rfl, rfl⟩⟩
  | cons d ds ih =>
    constructor
    · intro h
      have h1 : (noList d && noListAll ds) = true := h.nl
      have h2 : (d.hasDict || PyData.hasDictAll ds) = false := h.nd
      have h3 : (d.canLay0 && PyData.canLayAll0 ds) = true := h.lay
      rw [Bool.and_eq_true] at h1 h3
      rw [Bool.or_eq_false_iff] at h2
      intro x hx
      rcases List.mem_cons.mp hx with rfl | hx
      · exact ⟨h1.1, h2.1, h3.1⟩
      · exact ih.mp ⟨h1.2, h2.2, h3.2⟩ x hx
    · intro h
      have a := h d (List.mem_cons_self ..)
      have b := ih.mpr fun x hx => h x (List.mem_cons_of_mem _ hx)
      refine ⟨?_, ?_, ?_⟩
      · show (_ && _) = true; rw [a.nl, b.nl]; rfl
      · show (_ || _) = false; rw [a.nd, b.nd]; rfl
      · show (_ && _) = true; rw [a.lay, b.lay]; rfl
theorem Pl.dl {d : PyData} (h : Pl d) : Dl d := .inl h.nl
theorem nl_app (xs ys : List PyData) : noListAll (xs ++ ys) = (noListAll xs && noListAll ys) := by
  induction xs with
  | nil => rfl
  | cons d ds ih => show (noList d && noListAll (ds ++ ys)) = ((noList d && noListAll ds) && _); rw [ih, Bool.and_assoc]
theorem hd_app (xs ys : List PyData) : PyData.hasDictAll (xs ++ ys) = (PyData.hasDictAll xs || PyData.hasDictAll ys) := by
  induction xs with
  | nil => rfl
  | cons d ds ih => show (d.hasDict || PyData.hasDictAll (ds ++ ys)) = ((d.hasDict || PyData.hasDictAll ds) || _); rw [ih, Bool.or_assoc]
theorem dl_mid {xs ys : List PyData} {r : PyData} (hx : PlA xs) (hy : PlA ys) (h : Dl r) : Dl (.tuple (xs ++ [r] ++ ys)) := by
  rcases h with h | h
  · left
    show noListAll (xs ++ [r] ++ ys) = true
    rw [nl_app, nl_app, hx.nl, hy.nl]
    show (true && (noList r && true)) && true = true
    rw [h]; rfl
  · right
    show PyData.hasDictAll (xs ++ [r] ++ ys) = false
    rw [hd_app, hd_app, hx.nd, hy.nd]
    show ((false || (r.hasDict || false)) || false) = false
    rw [h]; rfl
/-- what bending makes of d -/
structure Rz (d r : PyData) : Prop where
  g : Gd (d.depth + 4) (3 * d.weight + 200) r
  dl : Dl r
theorem rz_mid {ds : List PyData} {x r : PyData} {i : Nat} (h : isTsAll ds = true) (e : ds[i]? = some x) (z : Rz x r) : Rz (.tuple ds) (.tuple (ds.take i ++ [r] ++ ds.drop (i + 1))) := by
  obtain ⟨g, p⟩ := ts_all h
  have pm := pla_mem.mp p
  obtain ⟨gx, ew⟩ := g.get e
  have gd : PyData.depthAll ds + 1 = (PyData.tuple ds).depth := rfl
  have gw : PyData.weightAll ds = (PyData.tuple ds).weight := rfl
  refine ⟨?_, dl_mid (pla_mem.mpr fun d hd => pm d (List.mem_of_mem_take hd)) (pla_mem.mpr fun d hd => pm d (List.mem_of_mem_drop hd)) z.dl⟩
  have g1 := (g.take i).le (show _ ≤ PyData.depthAll ds + 4 by omega) (Nat.le_refl _)
  have g2 := (g.drop (i + 1)).le (show _ ≤ PyData.depthAll ds + 4 by omega) (Nat.le_refl _)
  have g3 := z.g.le (show _ ≤ PyData.depthAll ds + 4 by have := gx.dp; omega) (Nat.le_refl _)
  refine (Gd.tup ((g1.app (GdA.cons g3 (GdA.nil (n := 0)) (Nat.le_refl _)) (Nat.le_refl _)).app g2 (Nat.le_refl _))).le (by omega) ?_
  omega
theorem gda_of {ds : List PyData} {k : Nat} (h : ∀ d ∈ ds, ∃ n, Gd k n d) : GdA k (PyData.weightAll ds) ds := by
  induction ds with
  | nil => exact GdA.nil
  | cons d ds ih =>
    obtain ⟨n, g⟩ := h d (List.mem_cons_self ..)
    exact GdA.cons (a := d.weight) ⟨g.sh, g.lf, g.dp, Nat.le_refl _⟩ (ih fun x hx => h x (List.mem_cons_of_mem _ hx)) (Nat.le_refl _)
theorem depth_mem {ds : List PyData} {k n : Nat} (h : GdA k n ds) : ∀ d ∈ ds, Gd k d.weight d := fun d hd => by
  obtain ⟨i, hi⟩ := List.mem_iff_getElem?.mp hd
  exact (h.get hi).1
/-- tuples and lists of d's own parts -/
theorem rz_tup {ds es : List PyData} (h : isTsAll ds = true) (he : ∀ e ∈ es, e ∈ ds ∨ e = .tuple []) (hw : PyData.weightAll es ≤ 3 * PyData.weightAll ds + 200) : Rz (.tuple ds) (.tuple es) := by
  obtain ⟨g, p⟩ := ts_all h
  have pm := pla_mem.mp p
  have gm := depth_mem g
  have pe : PlA es := pla_mem.mpr fun e m => by
    rcases he e m with m | rfl
    · exact pm e m
    · exact ⟨rfl, rfl, rfl⟩
  refine ⟨?_, .inl pe.nl⟩
  have ge : GdA (PyData.depthAll ds + 3) (PyData.weightAll es) es := gda_of fun e m => by
    rcases he e m with m | rfl
    · exact ⟨_, (gm e m).le (by omega) (Nat.le_refl _)⟩
    · exact ⟨0, (Gd.tup (GdA.nil (k := 0) (n := 0))).le (by omega) (Nat.le_refl _)⟩
  exact (Gd.tup ge).le (by show _ ≤ PyData.depthAll ds + 1 + 4; omega) hw
theorem rz_lst {ds : List PyData} (h : isTsAll ds = true) : Rz (.tuple ds) (.list ds) := by
  obtain ⟨g, p⟩ := ts_all h
  exact ⟨(Gd.lst g).le (by show _ ≤ PyData.depthAll ds + 1 + 4; omega) (by show _ ≤ 3 * PyData.weightAll ds + 200; omega), .inr p.nd⟩
theorem rz_str {z y : Str} (h : ∀ c ∈ y.cps.toList, c < 16 ^ 8) (l : y.length ≤ 100) : Rz (.str z) (.str y) :=
  ⟨Gd.str h (by omega), .inl rfl⟩
def chk (e : PyData) : Bool := e.showable && e.leavesShort 16 && decide (e.depth ≤ 4) && decide (e.weight ≤ 60) && (noList e || !e.hasDict)
theorem chk_rz {d e : PyData} (h : chk e = true) : Rz d e := by
  unfold chk at h
  simp only [Bool.and_eq_true, Bool.or_eq_true, decide_eq_true_eq, Bool.not_eq_true'] at h
  obtain ⟨⟨⟨⟨h1, h2⟩, h3⟩, h4⟩, h5⟩ := h
  exact ⟨⟨h1, h2, by omega, by omega⟩, h5⟩
theorem a_ok : ∀ c ∈ ("a" : Str).cps.toList, c < 16 ^ 8 := by decide +kernel
theorem a_len : ("a" : Str).length = 1 := by decide +kernel
theorem give_ok : ∀ c ∈ ("give" : Str).cps.toList, c < 16 ^ 8 := by decide +kernel
theorem odd_all : ∀ d : PyData, (odd1 d ++ odd2 d ++ odd3 d ++ odd4 d ++ odd5 d).all chk = true := fun d => by
  have h1 : (odd1 d).all chk = true := by show (odd1 .none).all chk = true; decide +kernel
  have h2 : (odd2 d).all chk = true := by show (odd2 .none).all chk = true; decide +kernel
  have h3 : (odd3 d).all chk = true := by show (odd3 .none).all chk = true; decide +kernel
  have h4 : (odd4 d).all chk = true := by show (odd4 .none).all chk = true; decide +kernel
  have h5 : (odd5 d).all chk = true := by show (odd5 .none).all chk = true; decide +kernel
  simp only [List.all_append, h1, h2, h3, h4, h5, Bool.and_self]
theorem rz_odd {d : PyData} (h : isTs d = true) : ∀ e ∈ oddAll d, Rz d e := fun e he => by
  obtain ⟨g, p⟩ := ts_ok h
  have ed : oddAll d = odd1 d ++ odd2 d ++ odd3 d ++ odd4 d ++ odd5 d ++ odd6 d := rfl
  rw [ed] at he
  rcases List.mem_append.mp he with he | he
  · exact chk_rz (List.all_eq_true.mp (odd_all d) e he)
  · have e6 : odd6 d = [.tuple [d], .list [d], .tuple [d, d], .dict [(.str "a", d)], .tuple [.str "give", d], .tuple [d, .int 0], .tuple [.tuple [], d]] := rfl
    rw [e6] at he
    have g3 := g.le (show d.depth ≤ d.depth + 1 by omega) (Nat.le_refl _)
    have gs : Gd (d.depth + 1) 4 (.str "give") := Gd.str give_ok (by decide)
    have gi : Gd (d.depth + 1) 0 (.int 0) := ⟨by decide +kernel, by decide +kernel, Nat.zero_le _, Nat.le_refl _⟩
    have gt : Gd (d.depth + 1) 0 (.tuple []) := ⟨rfl, rfl, by show 1 ≤ _; omega, Nat.le_refl _⟩
    have one := GdA.cons (k := d.depth + 1) g3 GdA.nil (n := d.weight + 1) (b := 0) (by omega)
    have le : ∀ {k n : Nat} {r : PyData}, Gd k n r → k ≤ d.depth + 4 → n ≤ 3 * d.weight + 200 → Gd (d.depth + 4) (3 * d.weight + 200) r := fun g a b => g.le a b
    simp only [List.mem_cons, List.mem_nil_iff, or_false] at he
    rcases he with rfl | rfl | rfl | rfl | rfl | rfl | rfl
    · exact ⟨le (Gd.tup one) (by omega) (by omega), .inl (by show (noList d && true) = true; rw [p.nl]; rfl)⟩
    · exact ⟨le (Gd.lst one) (by omega) (by omega), .inr (by show (d.hasDict || false) = false; rw [p.nd]; rfl)⟩
    · exact ⟨le (Gd.tup (GdA.cons g3 one (n := 2 * d.weight + 2) (by omega))) (by omega) (by omega), .inl (by show (noList d && (noList d && true)) = true; rw [p.nl]; rfl)⟩
    · exact ⟨le (Gd.dic g a_ok (Nat.le_refl _)) (by omega) (by rw [a_len]; omega), .inl (by show (noList d && true) = true; rw [p.nl]; rfl)⟩
    · exact ⟨le (Gd.tup (GdA.cons gs one (n := d.weight + 6) (by omega))) (by omega) (by omega), .inl (by show (true && (noList d && true)) = true; rw [p.nl]; rfl)⟩
    · exact ⟨le (Gd.tup (GdA.cons g3 (GdA.cons gi GdA.nil (n := 1) (b := 0) (by omega)) (n := d.weight + 2) (by omega))) (by omega) (by omega), .inl (by show (noList d && (true && true)) = true; rw [p.nl]; rfl)⟩
    · exact ⟨le (Gd.tup (GdA.cons gt one (n := d.weight + 2) (by omega))) (by omega) (by omega), .inl (by show (true && (noList d && true)) = true; rw [p.nl]; rfl)⟩
end JF
set_option Elab.async false
set_option linter.all false
set_option maxRecDepth 100000
set_option maxHeartbeats 4000000
namespace JF
open PySem PySem.Spec PyProof PyProof.Rows L2 GxR GA PC
end JF
namespace PC
open PySem PySem.Spec PyProof.Rows L2 GxR GA JF
mutual
theorem Dx.dp {K : PySem.W.Frag} {H : Hp} : ∀ {v : V} {d : PyData}, Dx K H v d → d.hasDict = false → Dp K H v d
  | _, _, .non, _ => .non
  | _, _, .bl b, _ => .bl b
  | _, _, .int i, _ => .int i
  | _, _, .str x _, _ => .str x
  | _, _, .lst h r, e => .lst (.inl (.inl h)) (DxAll.dp r e)
  | _, _, .tup h r, e => .tup (.inl (.inl h)) (DxAll.dp r e)
  | _, _, .dic0 h, e => by cases e
  | _, _, .dic1 h _, e => by cases e
theorem DxAll.dp {K : PySem.W.Frag} {H : Hp} : ∀ {vs : List V} {ds : List PyData}, DxAll K H vs ds → PyData.hasDictAll ds = false → DpAll K H vs ds
  | _, _, .nil, _ => .nil
  | _, _, .cons r t, e => by
    have e : (_ || _) = false := e
    rw [Bool.or_eq_false_iff] at e
    exact .cons (Dx.dp r e.1) (DxAll.dp t e.2)
end
theorem Dx.to {K : PySem.W.Frag} {T : List Addr} {p q : Addr} {b : Nat} {G G' : Hp} {v : V} {d : PyData} (L : Wl T p q b G) (x : Ex T (off p q G) (off p q G')) (r : Dx K (off p q G) v d) : Dx K (off p q G') v d := r.ex x L.tb
mutual
theorem Dx.un {K : PySem.W.Frag} {p q : Addr} {H : Hp} : ∀ {v : V} {d : PyData}, Dx K (off p q H) v d → Dx K H v d
  | _, _, .non => .non
  | _, _, .bl b => .bl b
  | _, _, .int i => .int i
  | _, _, .str x h => .str x h
  | _, _, .lst h r => .lst (off_un _ _ h) (DxAll.un r)
  | _, _, .tup h r => .tup (off_un _ _ h) (DxAll.un r)
  | _, _, .dic0 h => .dic0 (off_un _ _ h)
  | _, _, .dic1 h r => .dic1 (off_un _ _ h) (Dx.un r)
theorem DxAll.un {K : PySem.W.Frag} {p q : Addr} {H : Hp} : ∀ {vs : List V} {ds : List PyData}, DxAll K (off p q H) vs ds → DxAll K H vs ds
  | _, _, .nil => .nil
  | _, _, .cons r t => .cons (Dx.un r) (DxAll.un t)
end
end PC
namespace JF
open PySem PySem.Spec PyProof PyProof.Rows L2 GxR GA PC
theorem cutV_mid (xs : List V) (n m : Nat) : cutV xs (some (n : Int)) (some (m : Int)) = (xs.drop (min n xs.length)).take (min m xs.length - min n xs.length) := by
  unfold cutV
  rw [show HT.sIx xs.length xs.length (some (m : Int)) = min m xs.length from HT.sIx_nat _ _ _, show HT.sIx xs.length 0 (some (n : Int)) = min n xs.length from HT.sIx_nat _ _ _]
theorem rep_any {K : PySem.W.Frag} {T : List Addr} {p q : Addr} {b : Nat} {G : Hp} (L : Wl T p q b G) {a : Addr} {xs : List V} {Q : VK} (h : off p q G a = some (.tup xs)) (le : xs.length ≤ 1000) (k : ∀ c G', Ex T (off p q G) (off p q G') → Wl T p q b G' → off p q G' c = some (.tup (xs ++ xs)) → Q (.ref c) G') : M0.rRepA K (.ref a) (.int 2) G Q :=
  ⟨a, 2, xs, rfl, rfl, .inl (.inl (off_un _ _ h)), by decide, by decide, le, fun e => k a G Ex.refl L (by subst e; exact h), fun _ c hc => by
    obtain ⟨L', x, e⟩ := L.new (o := .tup (List.replicate (2 : Int).toNat xs).flatten) hc
    refine k c _ x L' ?_
    rw [e, show (List.replicate (2 : Int).toNat xs).flatten = xs ++ (xs ++ []) from rfl, List.append_nil]⟩
/-! ### short plain texts -/
def Pn (z : Str) : Prop := ∀ c ∈ z.cps.toList, c < 128
theorem pn_app {a b : Str} (ha : Pn a) (hb : Pn b) : Pn (a ++ b) := fun c hc => by
  rw [PySem.Str.cps_append, Array.toList_append] at hc
  rcases List.mem_append.mp hc with h | h
  · exact ha c h
  · exact hb c h
theorem pn_cut {a : Str} (ha : Pn a) (lo hi : Option Int) : Pn (cutS a lo hi) := fun c hc => by
  refine ha c ?_
  have : c ∈ (a.cps.toList.drop (HT.sIx a.length 0 lo)).take (HT.sIx a.length a.length hi - HT.sIx a.length 0 lo) := by simpa [cutS] using hc
  exact List.mem_of_mem_drop (List.mem_of_mem_take this)
theorem pn_placed {a : Str} {f : Nat → Nat → List Nat} (h : ∀ i c, a.cps[i]? = some c → ∀ y ∈ f i c, y < 128) : ∀ c ∈ (placed a f).toList, c < 128 := fun c hc => by
  unfold placed at hc
  rw [Array.mem_toList_iff, Array.mem_flatten] at hc
  obtain ⟨l, hl, hc⟩ := hc
  rw [Array.mem_mapIdx] at hl
  obtain ⟨i, hi, rfl⟩ := hl
  exact h i a.cps[i] (by simp [hi]) c (by simpa using hc)
theorem upper_pn : ∀ c, c < 128 → (Unicode.upperOf c).all (fun y => decide (y < 128)) = true := by decide +kernel
theorem lower_pn : ∀ c, c < 128 → (Unicode.lowerOf c).all (fun y => decide (y < 128)) = true := by decide +kernel
theorem pn_upper {a : Str} (ha : Pn a) : Pn (Txt.upper a) := pn_placed fun i c e y hy => by
  have hc := ha c (by simpa using Array.mem_of_getElem? e)
  exact of_decide_eq_true (List.all_eq_true.mp (upper_pn c hc) y hy)
theorem pn_lower {a : Str} (ha : Pn a) : Pn (Txt.lower a) := pn_placed fun i c e y hy => by
  have hc := ha c (by simpa using Array.mem_of_getElem? e)
  have e2 : Unicode.lowerAt a.cps i = Unicode.lowerOf c := by
    unfold Unicode.lowerAt
    rw [e]
    have n : (c == 0x3A3) = false := by
      rw [beq_eq_false_iff_ne]; omega
    show (if (c == 0x3A3 && Unicode.endsWord a.cps i) = true then _ else _) = _
    rw [n]
    rfl
  rw [e2] at hy
  exact of_decide_eq_true (List.all_eq_true.mp (lower_pn c hc) y hy)
theorem pn_rz {z y : Str} (h : Pn y) (l : y.length ≤ 100) : Rz (.str z) (.str y) := rz_str (fun c hc => Nat.lt_trans (h c hc) (by decide)) l
def bentSigns : Str := " !#$&'()*+,-./0123456789:;<=>?@ABCDEFGHIJKLMNOPQRSTUVWXYZ[]^_`abcdefghijklmnopqrstuvwxyz{|}~\n"
theorem pn_signs : Pn bentSigns := by
  have h : bentSigns.cps.toList.all (fun c => decide (c < 128)) = true := by decide +kernel
  exact fun c hc => of_decide_eq_true (List.all_eq_true.mp h c hc)
theorem len_signs : bentSigns.length = 93 := by decide +kernel
theorem pn_zero : Pn ("0" : Str) := by
  have h : ("0" : Str).cps.toList.all (fun c => decide (c < 128)) = true := by decide +kernel
  exact fun c hc => of_decide_eq_true (List.all_eq_true.mp h c hc)
theorem sz10 {z : Str} (h : z.length ≤ 10) : z.length ≤ sizeLine := Nat.le_trans h (by decide)
theorem sz2 {a b : Nat} (h : a ≤ 60) (h2 : b ≤ 60) : a + b ≤ sizeLine := Nat.le_trans (Nat.add_le_add h h2) (by decide)
def spBent (K : PySem.W.Frag) (T : List Addr) (n : Nat) : Sp := fun vs H Q _ => ∃ (p q : Addr) (b : Nat) (v : V) (d : PyData), vs = [.ref p, v] ∧ Wl T p q b H ∧ b + 20 * n < 1000000 ∧ Dx K (off p q H) v d ∧ isTs d = true ∧ d.depth < n ∧ n ≤ 20 ∧
  ∀ H' v' r, Rz d r → Dx K (off p q H') v' r → Ex T (off p q H) (off p q H') → Wl T p q (b + 20 * n) H' → Q v' H'
abbrev nBent : List Str := ["well", "value", "at", "ways", "signs", "sign"]
section
variable {P : Program} {w : World} {K : PySem.W.Frag} {mg : Str → Option Value} {base : Heap} {T : List Addr}
end
end JF
set_option Elab.async false
set_option linter.all false
set_option maxRecDepth 100000
set_option maxHeartbeats 4000000
namespace JF
open PySem PySem.Spec PyProof PyProof.Rows L2 GxR GA PC
/-- fit for repr, a dict or lists, not both -/
structure Fit (d : PyData) : Prop where
  sh : d.showable = true
  dl : d.hasDict = true → noList d = true
  dp : d.depth ≤ 60
  ln : d.shown.length ≤ sizeLine
theorem pget {α β : Type} {F : α → β → Prop} : ∀ {xs : List α} {ys : List β} {i : Nat}, Paired F xs ys → i < xs.length → ∃ x y, xs[i]? = some x ∧ ys[i]? = some y ∧ F x y
  | _, _, _, .nil, h => absurd h (Nat.not_lt_zero _)
  | _, _, 0, .cons r _, _ => ⟨_, _, rfl, rfl, r⟩
  | _, _, i + 1, .cons _ t, h => pget (i := i) t (Nat.lt_of_succ_lt_succ h)
theorem atI_end {xs : List V} {v : V} (e : xs[xs.length - 1]? = some v) : atI xs (-1) = some v := by
  obtain ⟨ys, rfl⟩ := List.getLast?_eq_some_iff.mp ((List.getLast?_eq_getElem? ..).trans e)
  exact atI_last ys v
/-- the names of kinds, none of what is none -/
def nmsOf (d : PyData) : List Str := if isKinds d = true then kNames (kindsOf d) else []
theorem form_kinds {d : PyData} (h : isKinds d = true) : ∃ ks : List KL, d = .tuple (ks.map kl) ∧ Form ks ∧ kNames (kindsOf (.tuple (ks.map kl))) = lNames ks := by
  cases e1 : isTup 1 6 lPair d with
  | false => rw [no_form1 e1] at h; cases h
  | true =>
    obtain ⟨ds, rfl, _⟩ := isTup_true e1
    cases e3 : ds.all fun d => isTup 1 6 lPair (sndOf d) with
    | false => rw [no_form2 e3] at h; cases h
    | true =>
      obtain ⟨ks, rfl, FM⟩ := form_of e1 e3
      refine ⟨ks, rfl, FM, ?_⟩
      unfold kNames kindsOf lNames
      show ((ks.map kl).map kindOf').map (·.1) = _
      rw [List.map_map, List.map_map]
      rfl
def spVR (K : PySem.W.Frag) (T : List Addr) : Sp := fun vs H Q _ => ∃ (p q : Addr) (b n : Nat) (v : V) (d : PyData) (a : Addr) (xs : List V) (ks : List Kd), vs = [.ref p, v, .ref a] ∧ Wl T p q b H ∧ b + 2 < 1000000 ∧ Dx K (off p q H) v d ∧ Fit d ∧ off p q H a = some (.tup xs) ∧ Paired (KdT p q H) xs ks ∧ Shp n ks ∧
  ∀ H', Ex T (off p q H) (off p q H') → Wl T p q (b + 2) H' → Q (.bl true) H'
abbrev nVR : List Str := ["well", "value", "kinds", "due", "copied", "found", "names", "odd", "kind", "wanted", "thing", "name", "makers"]
abbrev idL {α : Type} (xs : List α) : List α := xs
section
variable {P : Program} {w : World} {K : PySem.W.Frag} {mg : Str → Option Value} {base : Heap} {T : List Addr}
end
end JF
set_option Elab.async false
set_option linter.all false
set_option maxRecDepth 100000
set_option maxHeartbeats 4000000
/-! what the law's values are like: fit for repr -/
namespace JF
open PySem PySem.Spec PyProof PyProof.Rows L2 GxR GA PC
theorem fit_of {d : PyData} {k n : Nat} (g : Gd k n d) (hk : k ≤ 60) (hn : n ≤ 900000) (h : Dl d) : Fit d := by
  refine ⟨g.sh, fun e => ?_, Nat.le_trans g.dp hk, ?_⟩
  · rcases h with h | h
    · exact h
    · rw [h] at e; cases e
  · have h1 := PyData.shown_le 16 (by decide) d g.lf
    have h2 := g.wt
    have h3 : (16 + 2) * d.weight ≤ 18 * 900000 := Nat.mul_le_mul (by omega) (by omega)
    rw [sizeLine_eq]
    omega
/-! ### drawn and spoilt kinds are trees of short words -/
theorem sign128 : ∀ c, nameSign c = true → c < 128 := fun c h => by
  have h1 := of_decide_eq_true h
  have h2 : (Str.ofString "abcdefghijklmnopqrstuvwxyzABCDEFGHIJKLMNOPQRSTUVWXYZ0123456789").cps.toList.all (fun c => decide (c < 128)) = true := by decide +kernel
  exact of_decide_eq_true (List.all_eq_true.mp h2 c h1)
theorem any_pn {z : Str} (h : isAny (.str z) = true) : Pn z := by
  have e : ((decide (1 ≤ z.length) && decide (z.length ≤ 10)) && (firstIn letters z && z.cps.toList.all nameSign) && (!inV (.str z) wordsV && !asCell z)) = true := h
  simp only [Bool.and_eq_true] at e
  exact fun c hc => sign128 c (List.all_eq_true.mp e.1.2.2 c hc)
theorem number_pn : Pn ("number" : Str) := by
  have h : ("number" : Str).cps.toList.all (fun c => decide (c < 128)) = true := by decide +kernel
  exact fun c hc => of_decide_eq_true (List.all_eq_true.mp h c hc)
theorem okW_pn {z : Str} (h : okW z) : Pn z := by
  rcases h with h | rfl
  · exact any_pn h
  · exact number_pn
theorem ts_str {z : Str} (h : Pn z) (l : z.length ≤ 10) : isTs (.str z) = true := by
  show (decide (z.length ≤ 10) && z.cps.toList.all (fun c => decide (c < 128))) = true
  rw [decide_eq_true l, List.all_eq_true.mpr fun c hc => decide_eq_true (h c hc)]
  rfl
theorem ts_tup {ds : List PyData} (l : ds.length ≤ 100) (h : ∀ d ∈ ds, isTs d = true) : isTs (.tuple ds) = true := by
  show (decide (ds.length ≤ 100) && isTsAll ds) = true
  rw [decide_eq_true l, ts_mem.mpr h]
  rfl
/-- so much weighs each entry at most -/
theorem wAll_le {ds : List PyData} {n : Nat} (h : ∀ d ∈ ds, d.weight ≤ n) : PyData.weightAll ds ≤ ds.length * (n + 1) := by
  induction ds with
  | nil => exact Nat.zero_le _
  | cons d ds ih =>
    have h1 := h d (List.mem_cons_self ..)
    have h2 := ih fun x hx => h x (List.mem_cons_of_mem _ hx)
    show d.weight + 1 + PyData.weightAll ds ≤ (ds.length + 1) * (n + 1)
    rw [Nat.add_mul]
    omega
theorem dAll_le {ds : List PyData} {n : Nat} (h : ∀ d ∈ ds, d.depth ≤ n) : PyData.depthAll ds ≤ n := by
  induction ds with
  | nil => exact Nat.zero_le _
  | cons d ds ih => exact Nat.max_le.mpr ⟨h d (List.mem_cons_self ..), ih fun x hx => h x (List.mem_cons_of_mem _ hx)⟩
/-- a tree of short words, so deep and so heavy at most -/
structure Sw (k n : Nat) (d : PyData) : Prop where
  ts : isTs d = true
  dp : d.depth ≤ k
  wt : d.weight ≤ n
theorem sw_str {z : Str} (h : okW z) {k : Nat} : Sw k 10 (.str z) := ⟨ts_str (okW_pn h) (okW_len h).2, Nat.zero_le _, (okW_len h).2⟩
theorem sw_tup {ds : List PyData} {k n m : Nat} (l : ds.length ≤ 100) (h : ∀ d ∈ ds, Sw k n d) (hm : ds.length * (n + 1) ≤ m) : Sw (k + 1) m (.tuple ds) :=
  ⟨ts_tup l fun d hd => (h d hd).ts, Nat.succ_le_succ (dAll_le fun d hd => (h d hd).dp), Nat.le_trans (wAll_le fun d hd => (h d hd).wt) hm⟩
theorem Sw.le {k k' n n' : Nat} {d : PyData} (s : Sw k n d) (h1 : k ≤ k') (h2 : n ≤ n') : Sw k' n' d := ⟨s.ts, Nat.le_trans s.dp h1, Nat.le_trans s.wt h2⟩
theorem sw_mk {m : Mk'} {n : Nat} (hn : n ≤ 10) (h1 : okW m.1) (h2 : m.2.length ≤ n) (h3 : ∀ z ∈ m.2, okW z) : Sw 2 300 (dMk m) := by
  refine sw_tup (n := 110) (by show 2 ≤ 100; decide) (fun d hd => ?_) (by show 2 * 111 ≤ 300; decide)
  simp only [List.mem_cons, List.mem_nil_iff, or_false] at hd
  rcases hd with rfl | rfl
  · exact (sw_str h1).le (Nat.le_refl 1) (by decide)
  · refine sw_tup (k := 0) (n := 10) (by rw [List.length_map]; omega) (fun d hd => ?_) ?_
    · obtain ⟨z, hz, rfl⟩ := List.mem_map.mp hd
      exact sw_str (h3 z hz)
    · rw [List.length_map]
      have := Nat.mul_le_mul_right 11 (Nat.le_trans h2 hn)
      omega
theorem sw_kd {k : Kd} {n : Nat} (hn : n ≤ 10) (h1 : okW k.1) (h2 : k.2.length ≤ 6) (h3 : ∀ m ∈ k.2, okW m.1 ∧ m.2.length ≤ n ∧ ∀ z ∈ m.2, okW z) : Sw 4 4000 (dKd k) := by
  refine sw_tup (n := 1806) (by show 2 ≤ 100; decide) (fun d hd => ?_) (by show 2 * 1807 ≤ 4000; decide)
  simp only [List.mem_cons, List.mem_nil_iff, or_false] at hd
  rcases hd with rfl | rfl
  · exact (sw_str h1).le (Nat.le_refl 3) (by decide)
  · refine sw_tup (k := 2) (n := 300) (by rw [List.length_map]; omega) (fun d hd => ?_) ?_
    · obtain ⟨m, hm, rfl⟩ := List.mem_map.mp hd
      obtain ⟨a, b, c⟩ := h3 m hm
      exact sw_mk hn a b c
    · rw [List.length_map]
      have := Nat.mul_le_mul_right 301 h2
      omega
theorem sw_kds {ks : List Kd} {n : Nat} (hn : n ≤ 10) (s : Shp n ks) : (∀ k ∈ ks, Sw 4 4000 (dKd k)) ∧ Sw 5 25000 (dKs ks) := by
  have h : ∀ k ∈ ks, Sw 4 4000 (dKd k) := fun k hk => by
    obtain ⟨a, _, b, c⟩ := s.all k hk
    exact sw_kd hn a b c
  refine ⟨h, sw_tup (n := 4000) (by rw [List.length_map]; have := s.h6; omega) (fun d hd => ?_) ?_⟩
  · obtain ⟨k, hk, rfl⟩ := List.mem_map.mp hd
    exact h k hk
  · rw [List.length_map]
    have := Nat.mul_le_mul_right 4001 s.h6
    omega
theorem Sw.gd {k n : Nat} {d : PyData} (s : Sw k n d) : Gd k n d ∧ Pl d := by
  obtain ⟨g, p⟩ := ts_ok s.ts
  exact ⟨g.le s.dp s.wt, p⟩
theorem Sw.fit {k n : Nat} {d : PyData} (s : Sw k n d) (hk : k ≤ 60) (hn : n ≤ 900000) : Fit d := fit_of s.gd.1 hk hn s.gd.2.dl
/-- a tuple of parts of ks, or the list of them -/
theorem fit_parts {ds : List PyData} {k n : Nat} (hk : k ≤ 50) (hn : n ≤ 8000) (l : ds.length ≤ 100) (h : ∀ d ∈ ds, Sw k n d) : Fit (.tuple ds) ∧ Fit (.list ds) := by
  have s : Sw (k + 1) 810000 (.tuple ds) := sw_tup l h (by
    have := Nat.mul_le_mul l (show n + 1 ≤ 8001 by omega)
    omega)
  refine ⟨s.fit (by omega) (by decide), ?_⟩
  obtain ⟨g, p⟩ := s.gd
  exact fit_of (k := k + 1) (n := 810000) ⟨g.sh, g.lf, g.dp, g.wt⟩ (by omega) (by decide) (.inr p.nd)
/-- what bending makes -/
theorem fit_bent {k n : Nat} {d r : PyData} (s : Sw k n d) (hk : k ≤ 50) (hn : n ≤ 200000) (z : Rz d r) : Fit r := by
  have h1 := s.dp
  have h2 := s.wt
  exact fit_of z.g (by omega) (by omega) z.dl
/-! ### one datum in the midst of words -/
/-- made of d and of words -/
inductive Wd (d : PyData) : Nat → PyData → Prop
  | it : Wd d 0 d
  | str {z : Str} {k : Nat} : Pn z → z.length ≤ 10 → Wd d k (.str z)
  | tup {ds : List PyData} {k : Nat} : ds.length ≤ 3 → (∀ x ∈ ds, Wd d k x) → Wd d (k + 1) (.tuple ds)
  | up {x : PyData} {k : Nat} : Wd d k x → Wd d (k + 1) x
theorem wd_up {d x : PyData} {k n : Nat} (h : Wd d k x) (le : k ≤ n) : Wd d n x := by
  induction n with
  | zero =>
    have : k = 0 := by omega
    subst this
    exact h
  | succ n ih =>
    by_cases e : k = n + 1
    · subst e; exact h
    · exact .up (ih (by omega))
theorem all_nl {ds : List PyData} (h : ∀ x ∈ ds, noList x = true) : noListAll ds = true := by
  induction ds with
  | nil => rfl
  | cons d ds ih =>
    show (noList d && noListAll ds) = true
    rw [h d (List.mem_cons_self ..), ih fun x hx => h x (List.mem_cons_of_mem _ hx)]
    rfl
theorem all_nd {ds : List PyData} (h : ∀ x ∈ ds, x.hasDict = false) : PyData.hasDictAll ds = false := by
  induction ds with
  | nil => rfl
  | cons d ds ih =>
    show (d.hasDict || PyData.hasDictAll ds) = false
    rw [h d (List.mem_cons_self ..), ih fun x hx => h x (List.mem_cons_of_mem _ hx)]
    rfl
theorem wd_nl {d x : PyData} {k : Nat} (h : Wd d k x) (e : noList d = true) : noList x = true := by
  induction h with
  | it => exact e
  | str _ _ => rfl
  | tup _ _ ih => exact all_nl ih
  | up _ ih => exact ih
theorem wd_nd {d x : PyData} {k : Nat} (h : Wd d k x) (e : d.hasDict = false) : x.hasDict = false := by
  induction h with
  | it => exact e
  | str _ _ => rfl
  | tup _ _ ih => exact all_nd ih
  | up _ ih => exact ih
def wdN (n : Nat) : Nat → Nat
  | 0 => n
  | k + 1 => 3 * (wdN n k + 1)
theorem wd_gd {d x : PyData} {k j n : Nat} (h : Wd d k x) (g : Gd j n d) (hn : 10 ≤ n) : Gd (j + k) (wdN n k) x := by
  have mono : ∀ k, n ≤ wdN n k := fun k => by
    induction k with
    | zero => exact Nat.le_refl _
    | succ k ih => show n ≤ 3 * (wdN n k + 1); omega
  induction h with
  | it => exact g
  | @str z k hz hl => exact Gd.str (fun c hc => Nat.lt_trans (hz c hc) (by decide)) (Nat.le_trans hl (Nat.le_trans hn (mono k)))
  | @tup ds k l _ ih =>
    have a : GdA (j + k) (PyData.weightAll ds) ds := gda_of fun x hx => ⟨_, ih x hx⟩
    refine (Gd.tup a).le (by omega) (Nat.le_trans (wAll_le fun x hx => (ih x hx).wt) ?_)
    exact Nat.mul_le_mul_right _ l
  | @up x k _ ih => exact ih.le (by omega) (by show wdN n k ≤ 3 * (wdN n k + 1); omega)
theorem fit_wd {d x : PyData} (h : Wd d 6 x) (g : Gd 8 300 d) (dl : Dl d) : Fit x := by
  refine fit_of (wd_gd h g (by decide)) (by decide) (by decide +kernel) ?_
  rcases dl with e | e
  · exact .inl (wd_nl h e)
  · exact .inr (wd_nd h e)
theorem wd_tupN {d : PyData} {ds : List PyData} {k : Nat} (l : ds.length ≤ 3) (h : ∀ x ∈ ds, Wd d k x) : Wd d (k + 1) (.tuple ds) := .tup l h
end JF
namespace JF
open PySem PySem.Spec PyProof PyProof.Rows L2 GxR GA PC
/-! ### displays beside the well, read with all that is known there -/
section
variable (K : PySem.W.Frag) (T : List Addr) (p q : Addr) (b : Nat) (σ : L2.St) (G0 : Hp)
def MkE (te : TE) (d : PyData) : Prop := ∀ (G : Hp) (Q : VK), Ex T (off p q G0) (off p q G) → Wl T p q b G → (∀ v G', Ex T (off p q G) (off p q G') → Wl T p q b G' → Dx K (off p q G') v d → Q v G') → te σ G Q
def MkA (ta : TA) (ds : List PyData) : Prop := ∀ (G : Hp) (Q : List V → Hp → Prop), Ex T (off p q G0) (off p q G) → Wl T p q b G → (∀ vs G', Ex T (off p q G) (off p q G') → Wl T p q b G' → DxAll K (off p q G') vs ds → Q vs G') → ta σ G Q
end
section
variable {K : PySem.W.Frag} {T : List Addr} {p q : Addr} {b : Nat} {σ : L2.St} {G0 : Hp}
theorem mk_nil : MkA K T p q b σ G0 tNil [] := fun G Q _ L k => k [] G Ex.refl L .nil
theorem mk_cons {te : TE} {ta : TA} {d : PyData} {ds : List PyData} (h : MkE K T p q b σ G0 te d) (t : MkA K T p q b σ G0 ta ds) : MkA K T p q b σ G0 (tCons te ta) (d :: ds) := fun G Q x L k =>
  h G _ x L fun v G1 x1 L1 r1 => t G1 _ (x.trans x1) L1 fun vs G2 x2 L2 r2 => k _ _ (x1.trans x2) L2 (.cons (r1.ex x2 L1.tb) r2)
theorem mk_tup {ta : TA} {ds : List PyData} (h : MkA K T p q b σ G0 ta ds) (le : ds.length ≤ sizeLine) : MkE K T p q b σ G0 (tTup ta) (.tuple ds) := fun G Q x L k =>
  h G _ x L fun vs G1 x1 L1 r1 => ⟨by rw [r1.len]; exact le, fun a ha => by
    obtain ⟨L2, x2, e2⟩ := L1.new (o := .tup vs) ha
    exact k _ _ (x1.trans x2) L2 (.tup e2 (r1.ex x2 L1.tb))⟩
theorem mk_lst {ta : TA} {ds : List PyData} (h : MkA K T p q b σ G0 ta ds) (le : ds.length ≤ sizeLine) : MkE K T p q b σ G0 (tLst ta) (.list ds) := fun G Q x L k =>
  h G _ x L fun vs G1 x1 L1 r1 => ⟨by rw [r1.len]; exact le, fun a ha => by
    obtain ⟨L2, x2, e2⟩ := L1.new (o := .lst vs) ha
    exact k _ _ (x1.trans x2) L2 (.lst e2 (r1.ex x2 L1.tb))⟩
theorem mk_str {z : Str} (l : z.length ≤ 65536) : MkE K T p q b σ G0 (tC (.str z)) (.str z) := fun G Q _ L k => k _ _ Ex.refl L (.str z l)
theorem mk_var {i : Nat} {v : V} {d : PyData} (e : σ[i]? = some (some v)) (r : Dx K (off p q G0) v d) (t : TbOk T (off p q G0)) : MkE K T p q b σ G0 (tVar i) d := fun G Q x L k => ⟨v, e, k _ _ Ex.refl L (r.ex x t)⟩
end
theorem pn_lit {z : Str} (h : z.cps.toList.all (fun c => decide (c < 128)) = true) : Pn z := fun c hc => of_decide_eq_true (List.all_eq_true.mp h c hc)
end JF
namespace PC
open PySem PySem.Spec PyProof PyProof.Rows L2 GxR GA JF
theorem DxAll.reverse {K : PySem.W.Frag} {H : Hp} : ∀ {vs : List V} {ds : List PyData}, DxAll K H vs ds → DxAll K H vs.reverse ds.reverse
  | _, _, .nil => .nil
  | _, _, .cons r t => by
    rw [List.reverse_cons, List.reverse_cons]
    exact (DxAll.reverse t).app (.cons r .nil)
end PC
namespace JF
open PySem PySem.Spec PyProof PyProof.Rows L2 GxR GA PC
section
variable {d x y z : PyData} {k : Nat}
theorem wd0 : Wd d (k + 1) (.tuple []) := .tup (by decide) fun x hx => by simp at hx
theorem wd1 (a : Wd d k x) : Wd d (k + 1) (.tuple [x]) := .tup (show 1 ≤ 3 by decide) fun u hu => by
  rw [List.mem_singleton.mp hu]; exact a
theorem wd2 (a : Wd d k x) (b : Wd d k y) : Wd d (k + 1) (.tuple [x, y]) := .tup (show 2 ≤ 3 by decide) fun u hu => by
  simp only [List.mem_cons, List.mem_nil_iff, or_false] at hu
  rcases hu with rfl | rfl
  · exact a
  · exact b
theorem wd3 (a : Wd d k x) (b : Wd d k y) (c : Wd d k z) : Wd d (k + 1) (.tuple [x, y, z]) := .tup (show 3 ≤ 3 by decide) fun u hu => by
  simp only [List.mem_cons, List.mem_nil_iff, or_false] at hu
  rcases hu with rfl | rfl | rfl
  · exact a
  · exact b
  · exact c
theorem wdW : Wd d k d := wd_up .it (Nat.zero_le _)
end
end JF
set_option Elab.async false
set_option linter.all false
set_option maxRecDepth 100000
set_option maxHeartbeats 4000000
/-! sayings read from behind; drawn kinds are kinds -/
namespace JF
open PySem PySem.Spec PyProof PyProof.Rows L2 GxR GA PC
/-- what an entry stands for: its kind and what is wanted behind it -/
def entW (es : List Ent) (d : PyData) : Option (Str × List Str) := match d with
  | .str z => (match entOf es z with
    | some e => some (e.2.1, e.2.2.2)
    | none => none)
  | d => if isNumber d = true then some ("number", []) else none
/-- the kinds of the trees that stand there, read from behind; the first on top -/
def bk (es : List Ent) : List PyData → Option (List Str)
  | [] => some []
  | d :: ds => match bk es ds with
    | none => none
    | some st => match entW es d with
      | none => none
      | some (k, fs) => if fs <+: st then some (k :: st.drop fs.length) else none
theorem num_str (z : Str) : isNumber (.str z) = false := rfl
theorem behind_iff {es : List Ent} (hn : ∀ e ∈ es, e.2.1 ≠ ("number" : Str)) (w : Str) (d : PyData) (fs : List Str) : behindOf es w d = some fs ↔ entW es d = some (w, fs) := by
  unfold behindOf entW
  by_cases hw : w = "number"
  · rw [if_pos hw]
    subst hw
    cases d with
    | str z =>
      rw [num_str]
      simp only [Bool.false_eq_true, if_false]
      constructor
      · intro h; cases h
      · intro h
        cases he : entOf es z with
        | none => rw [he] at h; cases h
        | some e =>
          rw [he] at h
          have h := Option.some.inj h
          exact absurd (Prod.mk.inj h).1 (hn e (List.mem_of_find?_eq_some he))
    | int i =>
      by_cases h : isNumber (.int i) = true
      · simp only [h, if_true]
        constructor
        · intro e; cases e; rfl
        · intro e; cases e; rfl
      · simp only [h]
        simp
    | none => simp [show isNumber .none = false from rfl]
    | bool b => simp [show isNumber (.bool b) = false from rfl]
    | list b => simp [show isNumber (.list b) = false from rfl]
    | tuple b => simp [show isNumber (.tuple b) = false from rfl]
    | dict b => simp [show isNumber (.dict b) = false from rfl]
  · rw [if_neg hw]
    cases d with
    | str z =>
      show (match entOf es z with | some e => if e.2.1 = w then some e.2.2.2 else none | none => none) = some fs ↔ (match entOf es z with | some e => some (e.2.1, e.2.2.2) | none => none) = some (w, fs)
      cases he : entOf es z with
      | none => simp
      | some e =>
        show (if e.2.1 = w then some e.2.2.2 else none) = some fs ↔ some (e.2.1, e.2.2.2) = some (w, fs)
        by_cases h : e.2.1 = w
        · rw [if_pos h, h]; simp
        · rw [if_neg h]
          constructor
          · intro q; cases q
          · intro q; exact absurd (Prod.mk.inj (Option.some.inj q)).1 h
    | int i =>
      constructor
      · intro q; cases q
      · intro q
        have q : (if isNumber (.int i) = true then some (("number" : Str), ([] : List Str)) else none) = some (w, fs) := q
        by_cases h : isNumber (.int i) = true
        · rw [if_pos h] at q; exact absurd (Prod.mk.inj (Option.some.inj q)).1.symm hw
        · rw [if_neg h] at q; cases q
    | none => simp [show isNumber .none = false from rfl]
    | bool b => simp [show isNumber (.bool b) = false from rfl]
    | list b => simp [show isNumber (.list b) = false from rfl]
    | tuple b => simp [show isNumber (.tuple b) = false from rfl]
    | dict b => simp [show isNumber (.dict b) = false from rfl]
theorem run_bk {es : List Ent} (hn : ∀ e ∈ es, e.2.1 ≠ ("number" : Str)) : ∀ (ds : List PyData) (st : List Str), runS es st ds = true ↔ bk es ds = some st
  | [], [] => by simp [runS, bk]
  | [], w :: st => by simp [runS, bk]
  | d :: ds, [] => by
    constructor
    · intro h; cases h
    · intro h
      unfold bk at h
      cases hb : bk es ds with
      | none => rw [hb] at h; cases h
      | some st =>
        rw [hb] at h
        cases he : entW es d with
        | none => rw [he] at h; cases h
        | some kf =>
          obtain ⟨k, fs⟩ := kf
          rw [he] at h
          have h : (if fs <+: st then some (k :: st.drop fs.length) else none) = some [] := h
          split at h <;> cases h
  | d :: ds, w :: st => by
    show (match behindOf es w d with | none => false | some fs => runS es (fs ++ st) ds) = true ↔ _
    constructor
    · intro h
      cases hb : behindOf es w d with
      | none => rw [hb] at h; cases h
      | some fs =>
        rw [hb] at h
        have e := (behind_iff hn w d fs).mp hb
        have i := (run_bk hn ds (fs ++ st)).mp h
        unfold bk
        rw [i, e]
        show (if fs <+: fs ++ st then some (w :: (fs ++ st).drop fs.length) else none) = _
        rw [if_pos (List.prefix_append ..), List.drop_left]
    · intro h
      unfold bk at h
      cases hb : bk es ds with
      | none => rw [hb] at h; cases h
      | some st0 =>
        rw [hb] at h
        cases he : entW es d with
        | none => rw [he] at h; cases h
        | some kf =>
          obtain ⟨k, fs⟩ := kf
          rw [he] at h
          have h : (if fs <+: st0 then some (k :: st0.drop fs.length) else none) = some (w :: st) := h
          split at h
          · rename_i hp
            obtain ⟨t, rfl⟩ := hp
            rw [List.drop_left] at h
            have h := Option.some.inj h
            cases h
            rw [(behind_iff hn w d fs).mpr he]
            exact (run_bk hn ds (fs ++ st)).mpr hb
          · cases h
theorem isSay_bk {es : List Ent} (hn : ∀ e ∈ es, e.2.1 ≠ ("number" : Str)) (kind : Str) (ds : List PyData) : isSay es kind (.tuple ds) = (decide (ds.length ≤ 400) && decide (bk es ds = some [kind])) := by
  show (decide (ds.length ≤ 400) && runS es [kind] ds) = _
  congr 1
  have h := run_bk hn ds [kind]
  cases e : runS es [kind] ds with
  | true => rw [decide_eq_true (h.mp e)]
  | false => exact (decide_eq_false fun z => by rw [h.mpr z] at e; cases e).symm
/-! ### drawn kinds are kinds -/
theorem uniq_len {xs : List Str} (h : xs.Nodup) : (SL.uniq xs).length = xs.length := by
  have key : ∀ (xs seen : List Str), (seen ++ xs).Nodup → (SL.met seen xs).length = seen.length + xs.length := by
    intro xs
    induction xs with
    | nil => intro seen _; rfl
    | cons x r ih =>
      intro seen h
      have nx : seen.any (· == x) = false := by
        rw [Bool.eq_false_iff]
        intro z
        obtain ⟨y, hy, e⟩ := List.any_eq_true.mp z
        have e : y = x := by simpa using e
        subst e
        exact (List.nodup_append.mp h).2.2 y hy y (List.mem_cons_self ..) rfl
      show (SL.met (SL.addTo seen x) r).length = _
      have e : SL.addTo seen x = seen ++ [x] := by unfold SL.addTo; rw [nx]; rfl
      rw [e, ih _ (by rw [List.append_assoc]; exact h), List.length_append, List.length_cons, List.length_cons, List.length_nil]
      omega
  have := key xs [] h
  have h0 : (SL.met [] xs).length = 0 + xs.length := this
  show (SL.met [] xs).length = xs.length
  omega
theorem nodup_dup {xs : List Str} (h : xs.Nodup) : dup xs = false := by
  unfold dup
  rw [uniq_len h]
  exact decide_eq_false (Nat.lt_irrefl _)
/-- kinds as they are judged -/
structure KsOk (ks : List Kd) : Prop where
  h1 : 1 ≤ ks.length
  h6 : ks.length ≤ 6
  m1 : ∀ k ∈ ks, 1 ≤ k.2.length
  m6 : ∀ k ∈ ks, k.2.length ≤ 6
  f4 : ∀ k ∈ ks, ∀ m ∈ k.2, m.2.length ≤ 4
  nm : NmOk (kNames ks)
  tt : NmOk (kMakers ks)
  fl : ∀ k ∈ ks, ∀ m ∈ k.2, ∀ z ∈ m.2, okF (kNames ks) z
theorem Drawn.ok {ks : List Kd} (d : Drawn ks) : KsOk ks := ⟨d.h1, d.h6, fun k hk => (d.all k hk).2.1, fun k hk => (d.all k hk).2.2.1, fun k hk m hm => ((d.all k hk).2.2.2 m hm).2.1, d.nm, d.tt, d.fl⟩
def toM (m : Mk') : ML := (m.1, m.2.map PyData.str)
def toK (k : Kd) : KL := (k.1, k.2.map toM)
theorem dKs_kd (ks : List Kd) : dKs ks = kd (ks.map toK) := by
  unfold dKs kd
  rw [List.map_map]
  congr 1
  refine List.map_congr_left fun k _ => ?_
  show PyData.tuple [.str k.1, .tuple (k.2.map dMk)] = .tuple [.str k.1, .tuple ((k.2.map toM).map ml)]
  rw [List.map_map]
  rfl
theorem mk_mem {ks : List Kd} {k : Kd} {m : Mk'} (hk : k ∈ ks) (hm : m ∈ k.2) : m.1 ∈ kMakers ks := List.mem_flatMap.mpr ⟨k, hk, List.mem_map_of_mem hm⟩
theorem KsOk.isKinds {ks : List Kd} (d : KsOk ks) : isKinds (dKs ks) = true := by
  have en : lNames (ks.map toK) = kNames ks := by
    unfold lNames kNames
    rw [List.map_map]
    rfl
  have et : lTitles (ks.map toK) = kMakers ks := by
    unfold lTitles kMakers
    rw [List.flatMap_map]
    refine congrArg (fun f => ks.flatMap f) (funext fun k => ?_)
    show (k.2.map toM).map (·.1) = _
    rw [List.map_map]
    rfl
  have F : Form (ks.map toK) := ⟨by rw [List.length_map]; exact d.h1, by rw [List.length_map]; exact d.h6, fun k hk => by
      obtain ⟨k0, h0, rfl⟩ := List.mem_map.mp hk
      exact d.nm.hi _ (List.mem_map_of_mem h0), fun k hk => by
      obtain ⟨k0, h0, rfl⟩ := List.mem_map.mp hk
      show 1 ≤ (k0.2.map toM).length
      rw [List.length_map]; exact d.m1 k0 h0, fun k hk => by
      obtain ⟨k0, h0, rfl⟩ := List.mem_map.mp hk
      show (k0.2.map toM).length ≤ 6
      rw [List.length_map]; exact d.m6 k0 h0, fun k hk m hm => by
      obtain ⟨k0, h0, rfl⟩ := List.mem_map.mp hk
      obtain ⟨m0, hm0, rfl⟩ := List.mem_map.mp hm
      exact d.tt.hi _ (mk_mem h0 hm0)⟩
  rw [dKs_kd, isKinds_lGood F]
  unfold lGood
  rw [en, et, nodup_dup d.nm.nd, nodup_dup d.tt.nd]
  refine (Bool.and_eq_true _ _).mpr ⟨rfl, List.all_eq_true.mpr fun k hk => List.all_eq_true.mpr fun m hm => ?_⟩
  obtain ⟨k0, h0, rfl⟩ := List.mem_map.mp hk
  obtain ⟨m0, hm0, rfl⟩ := List.mem_map.mp hm
  show (decide ((m0.2.map PyData.str).length ≤ 4) && (m0.2.map PyData.str).all (lField (kNames ks))) = true
  rw [List.length_map, decide_eq_true (d.f4 k0 h0 m0 hm0), Bool.true_and, List.all_map]
  refine List.all_eq_true.mpr fun z hz => ?_
  show inV (.str z) ((kNames ks ++ [("number" : Str)]).map V.str) = true
  rw [inV_strs]
  refine decide_eq_true (List.mem_append.mpr ?_)
  rcases d.fl k0 h0 m0 hm0 z hz with h | h
  · exact .inl h
  · exact .inr (by rw [h]; exact List.mem_singleton_self _)
theorem kindsOf_dKs (ks : List Kd) : kindsOf (dKs ks) = ks := by
  unfold kindsOf dKs
  show (ks.map dKd).map kindOf' = ks
  rw [List.map_map]
  have : ∀ k : Kd, (kindOf' ∘ dKd) k = k := fun k => by
    show (strOf (.str k.1), makersOf (.tuple (k.2.map dMk))) = k
    have e : makersOf (.tuple (k.2.map dMk)) = k.2 := by
      show (k.2.map dMk).map makerOf = k.2
      rw [List.map_map]
      have : ∀ m : Mk', (makerOf ∘ dMk) m = m := fun m => by
        show (strOf (.str m.1), fieldsOf (.tuple (m.2.map PyData.str))) = m
        have e2 : fieldsOf (.tuple (m.2.map PyData.str)) = m.2 := by
          show (m.2.map PyData.str).map strOf = m.2
          rw [List.map_map]
          exact List.map_id' m.2
        rw [e2]
        rfl
      rw [List.map_congr_left fun m _ => this m]
      exact List.map_id' _
    rw [e]
    rfl
  rw [List.map_congr_left fun k _ => this k]
  exact List.map_id' _
theorem number_low : isHigh (.str "number") = false := by decide +kernel
theorem KsOk.noNum {ks : List Kd} (d : KsOk ks) : ∀ e ∈ ents ks, e.2.1 ≠ ("number" : Str) := fun e he z => by
  obtain ⟨k, hk, h⟩ := List.mem_flatMap.mp he
  obtain ⟨x, hx, rfl⟩ := List.mem_map.mp h
  have := d.nm.hi k.1 (List.mem_map_of_mem hk)
  rw [show k.1 = "number" from z, number_low] at this
  cases this
theorem KsOk.numNot {ks : List Kd} (d : KsOk ks) : ("number" : Str) ∉ kNames ks := fun h => by
  have := d.nm.hi _ h
  rw [number_low] at this
  cases this
/-! ### makers of kinds -/
/-- a maker of the kind so named -/
def Mkr (ks : List Kd) (name title : Str) (fields : List Str) : Prop := ∃ k ∈ ks, k.1 = name ∧ (title, fields) ∈ k.2
theorem nodup_flat {ks : List Kd} (h : (kMakers ks).Nodup) : ∀ {z : Str} {e1 e2 : Ent}, e1 ∈ ents ks → e2 ∈ ents ks → e1.1 = z → e2.1 = z → e1 = e2 := fun {z e1 e2} h1 h2 a b => by
  rw [← ents_makers] at h
  obtain ⟨i, hi⟩ := List.mem_iff_getElem?.mp h1
  obtain ⟨j, hj⟩ := List.mem_iff_getElem?.mp h2
  have li : i < ((ents ks).map (·.1)).length := by rw [List.length_map]; exact (List.getElem?_eq_some_iff.mp hi).1
  have lj : j < ((ents ks).map (·.1)).length := by rw [List.length_map]; exact (List.getElem?_eq_some_iff.mp hj).1
  have ei : ((ents ks).map (·.1))[i]? = some z := by rw [List.getElem?_map, hi]; exact congrArg some a
  have ej : ((ents ks).map (·.1))[j]? = some z := by rw [List.getElem?_map, hj]; exact congrArg some b
  have : i = j := (List.getElem?_inj li h).mp (ei.trans ej.symm)
  subst this
  rw [hi] at hj
  exact Option.some.inj hj
theorem ent_of {ks : List Kd} (d : KsOk ks) {name title : Str} {fields : List Str} (m : Mkr ks name title fields) : ∃ i, entOf (ents ks) title = some (title, name, i, fields) := by
  obtain ⟨k, hk, rfl, hm⟩ := m
  obtain ⟨i, hi⟩ := List.mem_iff_getElem?.mp hm
  have me : ((title, k.1, i, fields) : Ent) ∈ ents ks := by
    refine List.mem_flatMap.mpr ⟨k, hk, ?_⟩
    unfold kEnts
    refine List.mem_map.mpr ⟨((title, fields), i), ?_, rfl⟩
    rw [List.mk_mem_zipIdx_iff_getElem?]
    exact hi
  refine ⟨i, ?_⟩
  cases e : entOf (ents ks) title with
  | none =>
    have := List.find?_eq_none.mp e _ me
    exact absurd (decide_eq_true rfl) this
  | some e0 =>
    have h1 := List.mem_of_find?_eq_some e
    have h2 : e0.1 = title := of_decide_eq_true (List.find?_some (p := fun x : Ent => decide (x.1 = title)) e)
    rw [nodup_flat d.tt.nd h1 me h2 rfl]
theorem run_mk {ks : List Kd} (d : KsOk ks) {name title : Str} {fields st : List Str} {ds : List PyData} (m : Mkr ks name title fields) : runS (ents ks) (name :: st) (.str title :: ds) = runS (ents ks) (fields ++ st) ds := by
  obtain ⟨i, hi⟩ := ent_of d m
  have nn : name ≠ "number" := fun z => d.numNot (by
    obtain ⟨k, hk, rfl, _⟩ := m
    rw [← z]; exact List.mem_map_of_mem hk)
  have hb : behindOf (ents ks) name (.str title) = some fields := (behind_iff d.noNum _ _ _).mpr (by
    show (match entOf (ents ks) title with | some e => some (e.2.1, e.2.2.2) | none => none) = _
    rw [hi])
  show (match behindOf (ents ks) name (.str title) with | none => false | some fs => runS (ents ks) (fs ++ st) ds) = _
  rw [hb]
theorem run_num {es : List Ent} {n : Int} {st : List Str} {ds : List PyData} (h0 : -1000000000000 ≤ n) (h1 : n ≤ 1000000000000) : runS es ("number" :: st) (.int n :: ds) = runS es st ds := by
  have hn : isNumber (.int n) = true := by
    show (decide (-1000000000000 ≤ n) && decide (n ≤ 1000000000000)) = true
    rw [decide_eq_true h0, decide_eq_true h1]; rfl
  have hb : behindOf es "number" (.int n) = some [] := by
    unfold behindOf
    rw [if_pos rfl, if_pos hn]
  show (match behindOf es "number" (.int n) with | none => false | some fs => runS es (fs ++ st) ds) = _
  rw [hb]
  rfl
end JF
set_option Elab.async false
set_option linter.all false
set_option maxRecDepth 100000
set_option maxHeartbeats 4000000
namespace JF
open PySem PySem.Spec PyProof PyProof.Rows L2 GxR GA PC
abbrev sNum : Stmt := topS 35
theorem scNum : FnScope ["well"] ["well"] (defScope sNum) := ⟨rfl, rfl, rfl, by decide +kernel, rfl, by decide +kernel, by decide +kernel⟩
/-- a number within the bounds -/
def spNum (T : List Addr) : Sp := fun vs H Q _ => ∃ (p q : Addr) (b : Nat), vs = [.ref p] ∧ Wl T p q b H ∧ b + 2 < 1000000 ∧
  ∀ H' n, -1000000000000 ≤ n → n ≤ 1000000000000 → Ex T (off p q H) (off p q H') → Wl T p q (b + 2) H' → Q (.int n) H'
section
variable {P : Program} {w : World} {K : PySem.W.Frag} {mg : Str → Option Value} {base : Heap} {T : List Addr}
theorem ok_num {f aD : Addr} {fd dD : FuncData} (F : Fun K "_law_number" "_law_number" sNum f fd)
    (GD : FnOk P w K mg base CX0 1 aD dD ["well", "many"] spDraw) (mD : mg "_law_draw" = some (.ref aD)) (kD : PySem.W.keepIn K (.ref aD) = true) (bD : Binds K dD ["well", "many"] []) :
    FnOk P w K mg base CX0 2 f fd ["well"] (spNum T) := by
  refine F.ok scNum (fun vs H Q E h => ?_) (fun cdv A outer s H vs Q E hr h => ?_)
  · obtain ⟨p, q, b, rfl, _⟩ := h
    rfl
  · obtain ⟨p, q, b, rfl, L, hb, k⟩ := h
    refine ⟨_, pss_one (ps_ret (pe_ix ix_list (pe_lst (pa_cons pe_int (pa_cons pe_int (pa_cons (pe_un un_neg pe_int) (pa_cons (pe_op op_pow pe_int pe_int) (pa_cons (pe_un un_neg (pe_op op_pow pe_int pe_int))
      (pa_cons (pe_op op_sub (pe_call GD (hr.mono (by decide)) (by rfl) mD kD bD .nil pass0 (pa_cons (pv 0) (pa_cons (pe_op op_add (pe_op op_mul pe_int (pe_op op_pow pe_int pe_int)) pe_int) pa_nil))) (pe_op op_pow pe_int pe_int)) pa_nil)))))))
      (pe_call GD (hr.mono (by decide)) (by rfl) mD kD bD .nil pass0 (pa_cons (pv 0) (pa_cons pe_int pa_nil))) (fun _ _ => rfl))), ?_⟩
    refine ⟨_, rfl, _, _, rfl, rfl, ⟨by decide, by decide, by decide⟩, _, _, rfl, rfl, ⟨by decide, by decide, by decide⟩, _, rfl, _, rfl, _, _, rfl, rfl, ⟨by decide, by decide, by decide⟩, _, _, rfl, rfl, .inl ⟨by decide, by decide⟩, _, _, rfl, rfl,
      p, q, b, _, rfl, L.w, by decide, by decide, by omega, fun G1 r r0 r1 kp hw => ⟨_, _, rfl, rfl, ⟨by decide, by decide, by decide⟩, _, _, rfl, rfl, by show 6 ≤ sizeLine; decide, fun o ho => ?_⟩⟩
    obtain ⟨L1, x1⟩ := L.draw kp hw
    obtain ⟨L2, x2, e2⟩ := L1.new (o := .lst [.int 0, .int 1, .int (-1), .int ((10 : Int) ^ (12 : Int).toNat), .int (-((10 : Int) ^ (12 : Int).toNat)), .int (r - (10 : Int) ^ (12 : Int).toNat)]) ho
    refine ⟨_, rfl, p, q, _, 6, rfl, L2.w, by decide, by decide, by omega, fun G3 r3 r30 r31 kp3 hw3 => ?_⟩
    obtain ⟨L3, x3⟩ := L2.draw kp3 hw3
    have e3 := L2.keep x3 e2 (fun _ z => by cases z)
    obtain ⟨v, ev, mv⟩ := atI_of (xs := [V.int 0, .int 1, .int (-1), .int ((10 : Int) ^ (12 : Int).toNat), .int (-((10 : Int) ^ (12 : Int).toNat)), .int (r - (10 : Int) ^ (12 : Int).toNat)]) r30 (by show r3 < 6; omega)
    refine ⟨o, _, _, _, rfl, rfl, .inl (.inl (off_un (p := p) (q := q) _ _ e3)), ev, ?_⟩
    have e12 : ((10 : Int) ^ (12 : Int).toNat) = 1000000000000 := by decide
    have r1' : r < 2000000000001 := by
      have : (2 : Int) * (10 : Int) ^ (12 : Int).toNat + 1 = 2000000000001 := by decide
      omega
    have fin : ∀ n : Int, -1000000000000 ≤ n → n ≤ 1000000000000 → Q (.int n) G3 := fun n a b => k _ n a b ((x1.trans x2).trans x3) L3
    simp only [List.mem_cons, List.mem_nil_iff, or_false, e12] at mv
    rcases mv with rfl | rfl | rfl | rfl | rfl | rfl <;> exact fin _ (by omega) (by omega)
end
end JF
set_option Elab.async false
set_option linter.all false
set_option maxRecDepth 100000
set_option maxHeartbeats 1000000
namespace JF
open PySem PySem.Spec PyProof PyProof.Rows L2 GxR GA PC
abbrev sLeast : Stmt := topS 36
abbrev nLeast : List Str := ["kinds", "found", "turn", "name", "makers", "title", "fields", "size", "field"]
theorem scLeast : FnScope ["kinds", "found", "turn", "name", "makers", "title", "fields", "size", "field"] ["kinds"] (defScope sLeast) := ⟨rfl, rfl, rfl, by decide +kernel, rfl, by decide +kernel, by decide +kernel⟩
def hasV (kvs : List (Key × V)) (f : Str) : Prop := ∃ v, valV kvs (.inr f) = some v
/-- an entry of the least trees: its kind's name, the size, a maker of the kind and its fields, all of which stand for trees or numbers -/
structure LeE (K : PySem.W.Frag) (H : Hp) (ks : List Kd) (kvs : List (Key × V)) (name : Str) (v : V) (size : Int) (title : Str) (fields : List Str) : Prop where
  at' : ∃ t vf, v = .ref t ∧ SqT K H t [.int size, .str title, vf] ∧ FieldsAt K H vf fields
  mr : Mkr ks name title fields
  fl : ∀ f ∈ fields, f ≠ "number" → hasV kvs f
def LeOk (K : PySem.W.Frag) (H : Hp) (ks : List Kd) (kvs : List (Key × V)) : Prop := ∀ kv ∈ kvs, ∃ name size title fields, kv.1 = .inr name ∧ LeE K H ks kvs name kv.2 size title fields
theorem val_mem {kvs : List (Key × V)} {k : Key} {v : V} (h : valV kvs k = some v) : (k, v) ∈ kvs := by
  unfold valV at h
  obtain ⟨kv, h1, h2⟩ := Option.map_eq_some_iff.mp h
  have h3 := of_decide_eq_true (List.find?_some (p := fun kv : Key × V => decide (kv.1 = k)) h1)
  have := List.mem_of_find?_eq_some h1
  obtain ⟨a, c⟩ := kv
  cases h3
  cases h2
  exact this
theorem put_mem {kvs : List (Key × V)} {k : Key} {v : V} {kv : Key × V} (h : kv ∈ putK kvs k v) : kv ∈ kvs ∨ kv = (k, v) := by
  unfold putK at h
  split at h
  · obtain ⟨x, hx, rfl⟩ := List.mem_map.mp h
    by_cases e : x.1 = k
    · rw [if_pos e]; right; rw [← e]
    · rw [if_neg e]; exact .inl hx
  · rcases List.mem_append.mp h with h | h
    · exact .inl h
    · exact .inr (List.mem_singleton.mp h)
theorem has_put {kvs : List (Key × V)} {k : Str} {v : V} {f : Str} (h : hasV kvs f) : hasV (putK kvs (.inr k) v) f := by
  obtain ⟨u, hu⟩ := h
  unfold hasV
  rw [valV_put]
  by_cases e : (.inr f : Key) = .inr k
  · rw [if_pos e]; exact ⟨_, rfl⟩
  · rw [if_neg e]; exact ⟨_, hu⟩
theorem LeE.to {K : PySem.W.Frag} {H H' : Hp} {ks : List Kd} {kvs kvs' : List (Key × V)} {name title : Str} {v : V} {size : Int} {fields : List Str} (q : ∀ a xs, SqT K H a xs → SqT K H' a xs) (g : ∀ f, hasV kvs f → hasV kvs' f) (e : LeE K H ks kvs name v size title fields) : LeE K H' ks kvs' name v size title fields := by
  obtain ⟨⟨t, vf, e1, h1, h2⟩, m, fl⟩ := e
  exact ⟨⟨t, vf, e1, q _ _ h1, h2.to q⟩, m, fun f hf n => g f (fl f hf n)⟩
theorem LeOk.to {K : PySem.W.Frag} {H H' : Hp} {ks : List Kd} {kvs : List (Key × V)} (q : ∀ a xs, SqT K H a xs → SqT K H' a xs) (h : LeOk K H ks kvs) : LeOk K H' ks kvs := fun kv hkv => by
  obtain ⟨n, s, t, f, e, l⟩ := h kv hkv
  exact ⟨n, s, t, f, e, l.to q fun _ z => z⟩
theorem LeOk.put {K : PySem.W.Frag} {H : Hp} {ks : List Kd} {kvs : List (Key × V)} (h : LeOk K H ks kvs) {name title : Str} {v : V} {size : Int} {fields : List Str} (e : LeE K H ks kvs name v size title fields) : LeOk K H ks (putK kvs (.inr name) v) := fun kv hkv => by
  rcases put_mem hkv with hkv | rfl
  · obtain ⟨n, s, t, f, e, l⟩ := h kv hkv
    exact ⟨n, s, t, f, e, l.to (fun _ _ z => z) fun _ z => has_put z⟩
  · exact ⟨_, _, _, _, rfl, e.to (fun _ _ z => z) fun _ z => has_put z⟩
theorem LeOk.get {K : PySem.W.Frag} {H : Hp} {ks : List Kd} {kvs : List (Key × V)} (h : LeOk K H ks kvs) {f : Str} (hf : hasV kvs f) : ∃ v size title fields, valV kvs (.inr f) = some v ∧ LeE K H ks kvs f v size title fields := by
  obtain ⟨v, hv⟩ := hf
  obtain ⟨n, s, t, fs, e, l⟩ := h _ (val_mem hv)
  cases e
  exact ⟨v, s, t, fs, hv, l⟩
/-- what stands for a field's size -/
def SzP (K : PySem.W.Frag) (G : Hp) (kvs : List (Key × V)) (f : Str) (n : Int) : Prop := (f = "number" ∧ n = 1) ∨ (f ≠ "number" ∧ ∃ t w1 w2, valV kvs (.inr f) = some (.ref t) ∧ SqT K G t [.int n, w1, w2])
def okB (kvs : List (Key × V)) (f : Str) : Bool := decide (f = "number") || (valV kvs (.inr f)).isSome
def spLeast (K : PySem.W.Frag) (T : List Addr) : Sp := fun vs H Q _ => ∃ (v : V) (ks : List Kd), vs = [v] ∧ KindsAt K H v ks ∧ KsOk ks ∧ TbOk T H ∧ ∀ D kvs H', H D = none → Ex T H H' → H' D = some (.dK kvs) → kvs.length ≤ 300 → LeOk K H' ks kvs → Q (.ref D) H'
section
variable {P : Program} {w : World} {K : PySem.W.Frag} {mg : Str → Option Value} {base : Heap} {T : List Addr}
theorem ok_least {f : Addr} {fd : FuncData} (F : Fun K "_law_least" "_law_least" sLeast f fd) (B : BI mg) (mr : mg "range" = none) (msu : mg "sum" = none) :
    FnOk P w K mg base CX0 1 f fd ["kinds"] (spLeast K T) := by
  refine F.ok scLeast (fun vs H Q E h => ?_) (fun cdv A outer s H vs Q E hr h => ?_)
  · obtain ⟨v, ks, rfl, _⟩ := h
    rfl
  · obtain ⟨v, ks, rfl, hk, ok, tb, k⟩ := h
    have hu := hu_of hr
    refine ⟨_, pss_cons (ps_set (i := 1) scLeast.nd rfl (.inr rfl) pe_dnewK)
      (pss_cons (ps_for PassesOwn.never rfl (pi_range1 (by rfl) mr (pa_cons (pe_callB call_len_seq (by rfl) B.len PySem.boot_len (pa_cons (pv 0) pa_nil)) pa_nil)) (pg_name (i := 2) scLeast.nd rfl (.inl rfl))
        (pss_one (ps_for PassesOwn.never rfl (pi_tup (pv 0)) (pg_two (K := K) (i := 3) (j := 4) rfl rfl scLeast.nd rfl rfl rfl rfl)
          (pss_one (ps_for PassesOwn.never rfl (pi_tup (pv 4)) (pg_two (K := K) (i := 5) (j := 6) rfl rfl scLeast.nd rfl rfl rfl rfl)
            (pss_one (ps_if (pt_val (pe_callB (cr_all rfl) (by rfl) B.all boot_all (pa_cons (pe_lc (own := [("field", 8)]) (g := gName 8) (tt := tYes) (by rfl) scLeast.nd (pi_tup (pv 6)) (blkOk_by (N := nLeast) (sc := defScope sLeast) (by decide +kernel))
                (fun _ _ _ _ _ => pg_name (i := 8) scLeast.nd rfl (.inl rfl)) (fun _ _ _ _ _ => pts_nil) (fun _ _ _ _ _ => pe_or (pe_cmpR op_eq (pv 8) pe_str (nomark _)) (pe_one (pe_cmp (pc_din hu (pv 8) (pv 1)) rfl)))) pa_nil)))
              (pss_cons (ps_set (i := 7) scLeast.nd rfl (.inl rfl) (pe_op op_add pe_int (pe_callB (cr_sum rfl) (by rfl) msu (by decide +kernel) (pa_cons (pe_lc (own := [("field", 8)]) (g := gName 8) (tt := tYes) (by rfl) scLeast.nd (pi_tup (pv 6)) (blkOk_by (N := nLeast) (sc := defScope sLeast) (by decide +kernel))
                (fun _ _ _ _ _ => pg_name (i := 8) scLeast.nd rfl (.inl rfl)) (fun _ _ _ _ _ => pts_nil) (fun _ _ _ _ _ => pe_ifExp (pt_cmpR op_eq (pv 8) pe_str (nomark _)) pe_int (pe_ix (ix_tupJ (K := K) rfl) (pe_dget hu (pv 1) (pv 8) (fun _ _ => rfl)) pe_int (fun _ _ => rfl)))) pa_nil))))
              (pss_one (ps_if (PW.pt (pw_or (pt_cmp (pc_dnotin hu (pv 3) (pv 1)) rfl) (pw_or1 (pt_cmpR op_lt (pv 7) (pe_ix (ix_tupJ (K := K) rfl) (pe_dget hu (pv 1) (pv 3) (fun _ _ => rfl)) pe_int (fun _ _ => rfl)) (nomark _)))))
                (pss_one (ps_dput hu (pv 1) (pv 3) (pe_tup (pa_cons (pv 7) (pa_cons (pv 5) (pa_cons (pv 6) pa_nil)))) rfl)) pss_nil))) pss_nil)))))))
      (pss_one (ps_ret (pv 1)))), ?_⟩
    obtain ⟨a, xs, rfl, hs, pr⟩ := hk
    have lx := paired_len pr
    have h6 := ok.h6
    intro D hD
    have x0 : Ex T H (upd H D (.dK [])) := Ex.new hD
    have d0 : (upd H D (.dK [])) D = some (.dK []) := upd_same
    generalize upd H D (.dK []) = G0 at x0 d0 ⊢
    have nD : D ∉ T := fun z => by
      obtain ⟨ps, e, _⟩ := tb D z
      rw [hD] at e; cases e
    refine ⟨_, rfl, a, xs, rfl, .inr (x0.sqT tb hs), (ks.length : Nat), by rw [lx], by omega, by omega, for_it (n := ks.length) walk_range (fun i σ G => ∃ a2 a3 a4 a5 a6 a7, σ = [some (.ref a), some (.ref D), a2, a3, a4, a5, a6, a7, none] ∧ Ex T H G ∧ ∃ kvs, G D = some (.dK kvs) ∧ kvs.length ≤ 36 * i ∧ LeOk K G ks kvs)
      ⟨none, none, none, none, none, none, rfl, x0, [], d0, Nat.le_refl _, fun _ h => by cases h⟩ (fun _ _ _ _ _ => trivial) (fun i x σ G G2 hi ⟨a2, a3, a4, a5, a6, a7, eσ, xG, kvs, dG, lG, oG⟩ y => ?_) (fun σ G ⟨a2, a3, a4, a5, a6, a7, eσ, xG, kvs, dG, lG, oG⟩ => ?_)⟩
    · obtain ⟨rfl, rfl⟩ := y
      subst eσ
      refine ⟨_, rfl, a, rfl, ⟨xs, xG.sqT tb hs⟩, for_it (n := xs.length) walk_tup (fun j σ G => ∃ a3 a4 a5 a6 a7, σ = [some (.ref a), some (.ref D), some (.int (0 + (i : Int))), a3, a4, a5, a6, a7, none] ∧ Ex T H G ∧ ∃ kvs, G D = some (.dK kvs) ∧ kvs.length ≤ 36 * i + 6 * j ∧ LeOk K G ks kvs)
        ⟨a3, a4, a5, a6, a7, rfl, xG, kvs, dG, by omega, oG⟩ (fun j σ G _ ⟨_, _, _, _, _, _, x, _⟩ => x.sqT tb hs) (fun j x σ G G2 hj ⟨a3, a4, a5, a6, a7, eσ, xG, kvs, dG, lG, oG⟩ y => ?_) (fun σ G ⟨a3, a4, a5, a6, a7, eσ, xG, kvs, dG, lG, oG⟩ => ?_)⟩
      · obtain ⟨rfl, hx⟩ := y
        subst eσ
        obtain ⟨kd, hk, b, vm, rfl, hb, c2, ms, rfl, hc2, pm⟩ := paired_get pr hx
        have lm : ms.length = kd.2.length := paired_len pm
        have mem := List.mem_of_getElem? hk
        refine ⟨b, _, rfl, xG.sqT tb hb, rfl, _, _, rfl, _, _, rfl, rfl, _, rfl, c2, rfl, ⟨ms, xG.sqT tb hc2⟩, for_it (n := ms.length) walk_tup (fun l σ G => ∃ a5 a6 a7, σ = [some (.ref a), some (.ref D), some (.int (0 + (i : Int))), some (.str kd.1), some (.ref c2), a5, a6, a7, none] ∧ Ex T H G ∧ ∃ kvs, G D = some (.dK kvs) ∧ kvs.length ≤ 36 * i + 6 * j + l ∧ LeOk K G ks kvs)
          ⟨a5, a6, a7, rfl, xG, kvs, dG, by omega, oG⟩ (fun l σ G _ ⟨_, _, _, _, x, _⟩ => x.sqT tb hc2) (fun l x σ G G2 hl ⟨a5, a6, a7, eσ, xG, kvs, dG, lG, oG⟩ y => ?_) (fun σ G ⟨a5, a6, a7, eσ, xG, kvs, dG, lG, oG⟩ => ?_)⟩
        · obtain ⟨rfl, hx⟩ := y
          subst eσ
          obtain ⟨mk, hm, b3, vf, rfl, hb3, ca, rfl, hca⟩ := paired_get pm hx
          have mmk := List.mem_of_getElem? hm
          have tbG := xG.tb tb
          have f4 := ok.f4 kd mem mk mmk
          have m6 := ok.m6 kd mem
          refine ⟨b3, _, rfl, xG.sqT tb hb3, rfl, _, _, rfl, _, _, rfl, rfl, ?_⟩
          refine ⟨_, rfl, ca, rfl, ⟨_, xG.sqT tb hca⟩, fun D2 hD2 => lcK (T := T) walk_tup (ys := mk.2.map fun f => V.bl (okB kvs f)) (fun G' x => x.sqT tbG (xG.sqT tb hca)) tbG hD2 (by rw [List.length_map, List.length_map]) (by rw [List.length_map]; omega) (fun z v y G' hv hy x fin => ?_) (fun G' x hD2' => ?_)⟩
          · rw [List.getElem?_map] at hv hy
            obtain ⟨f, hf, rfl⟩ := Option.map_eq_some_iff.mp hv
            rw [hf] at hy
            obtain rfl : V.bl (okB kvs f) = y := Option.some.inj hy
            have dG' := x.keep D _ dG nD
            refine g_one (by decide) (by show 8 < 9; decide) fun σ2 _ keep g8 => yesT ⟨_, g8, rfl, _, rfl, ite2 (fun e => ?_) (fun e => ?_)⟩
            · have e := V.str.inj (of_decide_eq_true e)
              have := fin _ Ex.refl
              rw [show okB kvs f = true from by unfold okB; rw [decide_eq_true e]; rfl] at this
              exact this
            · have e : ¬ f = "number" := fun z => e (decide_eq_true (by rw [z]))
              have := fin _ Ex.refl
              rw [show okB kvs f = (valV kvs (.inr f)).isSome from by unfold okB; rw [decide_eq_false e]; rfl] at this
              exact ⟨_, g8, _, (keep 1 (by decide)).trans rfl, D, _, rfl, DGet.k (k := .inr f) dG', this⟩
          · have eB : (mk.2.map (okB kvs)).all id = mk.2.all (okB kvs) := by rw [List.all_map]; rfl
            refine ⟨D2, mk.2.map (okB kvs), rfl, .inl (.inl (by rw [hD2', List.map_map]; rfl)), ⟨_, rfl, ?_⟩⟩
            rw [eB]
            have xG := xG.trans x
            have dG := x.keep D _ dG nD
            have oG := oG.to fun _ _ q => x.sqT tbG q
            clear hD2' hD2 D2 x tbG
            have tbG := xG.tb tb
            cases hB : mk.2.all (okB kvs) with
            | false =>
              refine iteF ?_
              exact ⟨_, _, _, rfl, xG, kvs, dG, by omega, oG⟩
            | true =>
              refine iteT ?_
              have hF : ∀ f ∈ mk.2, f ≠ "number" → hasV kvs f := fun f hf n => by
                have := List.all_eq_true.mp hB f hf
                unfold okB at this
                rw [decide_eq_false n, Bool.false_or] at this
                exact Option.isSome_iff_exists.mp this
              haveI dec : ∀ f, Decidable (∃ n, SzP K G' kvs f n) := fun f => Classical.propDecidable _
              obtain ⟨sz, hsz⟩ : ∃ sz : Str → Int, ∀ f ∈ mk.2, SzP K G' kvs f (sz f) := ⟨fun f => if h : ∃ n, SzP K G' kvs f n then Classical.choose h else 0, fun f hf => by
                have h : ∃ n, SzP K G' kvs f n := by
                  by_cases e : f = "number"
                  · exact ⟨1, .inl ⟨e, rfl⟩⟩
                  · obtain ⟨v, size, title, fields, hv, ⟨t, vf, rfl, ht, _⟩, _⟩ := oG.get (hF f hf e)
                    exact ⟨size, .inr ⟨e, t, _, _, hv, ht⟩⟩
                show SzP K G' kvs f (if h : ∃ n, SzP K G' kvs f n then Classical.choose h else 0)
                rw [dif_pos h]
                exact Classical.choose_spec h⟩
              refine ⟨_, rfl, ca, rfl, ⟨_, xG.sqT tb hca⟩, fun D2 hD2 => lcK (T := T) walk_tup (ys := mk.2.map fun f => V.int (sz f)) (fun G' x => x.sqT tbG (xG.sqT tb hca)) tbG hD2 (by rw [List.length_map, List.length_map]) (by rw [List.length_map]; omega) (fun z v y G3 hv hy x fin => ?_) (fun G3 x hD2' => ?_)⟩
              · rw [List.getElem?_map] at hv hy
                obtain ⟨f, hf, rfl⟩ := Option.map_eq_some_iff.mp hv
                rw [hf] at hy
                obtain rfl : V.int (sz f) = y := Option.some.inj hy
                have dG' := x.keep D _ dG nD
                have fin := fin _ Ex.refl
                have P := hsz f (List.mem_of_getElem? hf)
                refine g_one (by decide) (by show 8 < 9; decide) fun σ2 _ keep g8 => yesT ⟨_, g8, rfl, _, rfl, ite2 (fun e => ?_) (fun e => ?_)⟩
                · have e := V.str.inj (of_decide_eq_true e)
                  rcases P with ⟨_, h⟩ | ⟨h, _⟩
                  · rw [h] at fin
                    exact fin
                  · exact absurd e h
                · have e : ¬ f = "number" := fun z => e (decide_eq_true (by rw [z]))
                  rcases P with ⟨h, _⟩ | ⟨_, t, w1, w2, hv, ht⟩
                  · exact absurd h e
                  · exact ⟨_, (keep 1 (by decide)).trans rfl, _, g8, D, .ref t, rfl, hv ▸ DGet.k (k := .inr f) dG', t, _, _, _, rfl, rfl, x.sqT tbG ht, atI_nat (j := 0) rfl, fin⟩
              · refine ⟨D2, mk.2.map sz, rfl, .inl (.inl (by rw [hD2', List.map_map]; rfl)), _, _, rfl, rfl, ?_⟩
                have xG := xG.trans x
                have dG := x.keep D _ dG nD
                have oG := oG.to fun _ _ q => x.sqT tbG q
                clear hD2' hD2 x tbG hsz
                have tbG := xG.tb tb
                have n3 : G3 D ≠ none := fun z => by rw [dG] at z; cases z
                dsimp only [gName]
                refine ifs_cut (fun H' => H' = G3) (fun H' e => ?_) (fun put => ?_)
                · subst e
                  refine ⟨_, rfl, _, rfl, _, rfl, by show 3 ≤ sizeLine; decide, fun t ht => ⟨_, rfl, _, rfl, ?_⟩⟩
                  have x4 : Ex T H' (upd H' t (.tup [.int (1 + (mk.2.map sz).sum), .str mk.1, .ref ca])) := Ex.new ht
                  have t4 : (upd H' t (.tup [.int (1 + (mk.2.map sz).sum), .str mk.1, .ref ca])) t = some (.tup [.int (1 + (mk.2.map sz).sum), .str mk.1, .ref ca]) := upd_same
                  generalize upd H' t (.tup [.int (1 + (mk.2.map sz).sum), .str mk.1, .ref ca]) = G4 at x4 t4 ⊢
                  have xG := xG.trans x4
                  have dG := x4.keep D _ dG nD
                  have oG := oG.to fun _ _ q => x4.sqT tbG q
                  have q5 : ∀ a xs, SqT K G4 a xs → SqT K (upd G4 D (.dK (putK kvs (.inr kd.1) (.ref t)))) a xs := sqT_dict dG
                  refine ⟨D, _, rfl, DPut.k (k := .inr kd.1) dG (small1000 (by omega)), _, _, _, rfl, xG.upd hD, putK kvs (.inr kd.1) (.ref t), upd_same, ?_, ?_⟩
                  · have := length_putK kvs (.inr kd.1) (.ref t)
                    omega
                  · exact LeOk.to q5 (oG.put (size := 1 + (mk.2.map sz).sum) (title := mk.1) (fields := mk.2) ⟨⟨t, .ref ca, rfl, .inl (.inl t4), ca, rfl, xG.sqT tb hca⟩, ⟨kd, mem, rfl, mmk⟩, hF⟩)
                · refine ⟨_, rfl, _, rfl, D, _, rfl, DGet.k (k := .inr kd.1) dG, ⟨_, rfl, ?_⟩⟩
                  cases hv : valV kvs (.inr kd.1) with
                  | none =>
                    refine iteT (iteT ?_)
                    exact put _ rfl
                  | some v0 =>
                    obtain ⟨v, size, title, fields, hv2, ⟨t, vf, rfl, ht, _⟩, _⟩ := oG.get ⟨v0, hv⟩
                    refine iteF ⟨_, rfl, _, rfl, _, rfl, D, .ref t, rfl, hv2 ▸ DGet.k (k := .inr kd.1) dG, t, _, _, _, rfl, rfl, ht, atI_nat (j := 0) rfl, _, _, rfl, rfl, _, rfl, ite2 (fun _ => ?_) (fun _ => ?_)⟩
                    · exact put _ rfl
                    · exact ⟨_, _, _, rfl, xG, kvs, dG, by omega, oG⟩
        · subst eσ
          have := ok.m6 kd mem
          exact ⟨_, _, _, _, _, rfl, xG, kvs, dG, by omega, oG⟩
      · subst eσ
        exact ⟨_, _, _, _, _, _, rfl, xG, kvs, dG, by omega, oG⟩
    · subst eσ
      exact ⟨_, rfl, k D kvs G hD xG dG (by omega) oG⟩
end
end JF
set_option Elab.async false
set_option linter.all false
set_option maxRecDepth 100000
set_option maxHeartbeats 1000000
namespace JF
open PySem PySem.Spec PyProof PyProof.Rows L2 GxR GA PC
abbrev sSys : Stmt := topS 37
abbrev nSys : List Str := ["well", "kinds", "least", "kind", "room", "made", "due", "turn", "word", "size", "title", "fields", "makers", "name", "row", "maker", "field"]
theorem scSys : FnScope ["well", "kinds", "least", "kind", "room", "made", "due", "turn", "word", "size", "title", "fields", "makers", "name", "row", "maker", "field"] ["well", "kinds", "least", "kind", "room"] (defScope sSys) := ⟨rfl, rfl, rfl, by decide +kernel, rfl, by decide +kernel, by decide +kernel⟩
/-- a comprehension within a comprehension -/
theorem blkOk_in {N : List Str} {sc0 scope0 scope : Scope} {own : List (Str × Nat)} (h : blkC N (relS scope0 sc0) scope own = true) : BlkOk N (relS scope0 sc0) scope own := blkOk_by h
theorem pi_tupK {X : Cx} {K : PySem.W.Frag} {tg l : Expr} {tl : TE} (h : X.K = K) (hl : PE X l tl) : PI X tg l (iTup K tl) := by
  subst h
  exact pi_tup hl
theorem cr_allK {X : Cx} {K : PySem.W.Frag} (h : X.K = K) (hc : X.calm = true) : CallR X (.builtin "all") (rAll K) := by
  subst h
  exact cr_all hc
/-- an entry of sayings -/
def EnS (d : PyData) : Prop := (∃ z, d = .str z ∧ isHigh (.str z) = true) ∨ ∃ n : Int, d = .int n ∧ -1000000000000 ≤ n ∧ n ≤ 1000000000000
theorem fillW {T : List Addr} {p q : Addr} {b : Nat} {H G : Hp} {D : Addr} {xs : List V} (ys : List V) (L : Wl T p q b G) (x : Ex T (off p q H) (off p q G)) (f : off p q H D = none) (e : off p q G D = some (.lst xs)) :
    Wl T p q b (upd G D (.lst ys)) ∧ Ex T (off p q H) (off p q (upd G D (.lst ys))) ∧ off p q (upd G D (.lst ys)) D = some (.lst ys) ∧ ∀ c, c ≠ D → off p q (upd G D (.lst ys)) c = off p q G c := by
  obtain ⟨n1, n2, _⟩ := off_some e
  refine ⟨L.fill e, ?_, ?_, fun c hc => ?_⟩
  · rw [off_upd n1 n2]; exact x.upd f
  · rw [off_upd n1 n2, upd_same]
  · rw [off_upd n1 n2, upd_ne hc]
def vOf : PyData → V
  | .str z => .str z
  | .int n => .int n
  | _ => .non
theorem high_len {z : Str} (h : isHigh (.str z) = true) : z.length ≤ 10 := (any_len (high_any h)).2
theorem ens_dx {K : PySem.W.Frag} {G : Hp} : ∀ {md : List PyData}, (∀ d ∈ md, EnS d) → DxAll K G (md.map vOf) md
  | [], _ => .nil
  | d :: md, h => by
    refine .cons ?_ (ens_dx fun x hx => h x (List.mem_cons_of_mem _ hx))
    rcases h d (List.mem_cons_self ..) with ⟨z, rfl, hz⟩ | ⟨n, rfl, _⟩
    · exact .str z (by have := high_len hz; omega)
    · exact .int n
theorem dp_strs {K : PySem.W.Frag} {G : Hp} : ∀ zs : List Str, DpAll K G (zs.map V.str) (zs.map PyData.str)
  | [] => .nil
  | z :: r => .cons (.str z) (dp_strs r)
theorem strs_lay : ∀ {zs : List Str}, (∀ z ∈ zs, Pn z) → PyData.canLayAll0 (zs.map PyData.str) = true ∧ PyData.depthAll (zs.map PyData.str) = 0
  | [], _ => ⟨rfl, rfl⟩
  | z :: r, h => by
    obtain ⟨h1, h2⟩ := strs_lay (zs := r) fun y hy => h y (List.mem_cons_of_mem _ hy)
    refine ⟨?_, ?_⟩
    · show (PySem.PyData.strOk z && PyData.canLayAll0 (r.map PyData.str)) = true
      rw [strOk_of (h z (List.mem_cons_self ..)), h1]; rfl
    · show max 0 (PyData.depthAll (r.map PyData.str)) = 0
      rw [h2]; rfl
theorem strs_shaped {zs : List Str} (h : ∀ z ∈ zs, Pn z) : SeqAt.shaped (.list (zs.map PyData.str)) = true := by
  obtain ⟨h1, h2⟩ := strs_lay h
  unfold SeqAt.shaped
  rw [show PyData.canLay0 (.list (zs.map PyData.str)) = true from h1, show PyData.depth (.list (zs.map PyData.str)) = 1 by show PyData.depthAll (zs.map PyData.str) + 1 = 1; rw [h2]]
  rfl
theorem sqT_un {K : PySem.W.Frag} {p q : Addr} {G : Hp} {c : Addr} {xs : List V} (h : SqT K (off p q G) c xs) : SqT K G c xs := by
  rcases h with (h | ⟨o, h⟩) | h
  · exact .inl (.inl (off_un _ _ h))
  · exact .inl (.inr ⟨o, off_un _ _ h⟩)
  · exact .inr h
/-- a kind's makers -/
def RowT (p q : Addr) (G : Hp) (v : V) (k : Kd) : Prop := ∃ b ms, v = .ref b ∧ off p q G b = some (.tup ms) ∧ Paired (MkT p q G) ms k.2
theorem RowT.to {p q : Addr} {G G' : Hp} (t : Tk p q G G') {v : V} {k : Kd} (h : RowT p q G v k) : RowT p q G' v k := by
  obtain ⟨b, ms, e, h1, h2⟩ := h
  exact ⟨b, ms, e, t _ _ h1, paired_imp (fun _ _ z => z.to t) h2⟩
theorem filter_snoc {α : Type} (f : α → Bool) {xs : List α} {i : Nat} {x : α} (h : xs[i]? = some x) : (xs.take (i + 1)).filter f = (xs.take i).filter f ++ (if f x = true then [x] else []) := by
  rw [List.take_succ, h, List.filter_append]
  cases e : f x <;> simp [e]
theorem kd_unique {ks : List Kd} (ok : KsOk ks) {k k' : Kd} (h : k ∈ ks) (h' : k' ∈ ks) (e : k.1 = k'.1) : k = k' := by
  obtain ⟨i, hi⟩ := List.mem_iff_getElem?.mp h
  obtain ⟨j, hj⟩ := List.mem_iff_getElem?.mp h'
  have li : i < (kNames ks).length := by
    show i < (ks.map (·.1)).length
    rw [List.length_map]; exact (List.getElem?_eq_some_iff.mp hi).1
  have ei : (kNames ks)[i]? = some k.1 := by show (ks.map (·.1))[i]? = _; rw [List.getElem?_map, hi]; rfl
  have ej : (kNames ks)[j]? = some k.1 := by show (ks.map (·.1))[j]? = _; rw [List.getElem?_map, hj, e]; rfl
  have : i = j := (List.getElem?_inj li ok.nm.nd).mp (ei.trans ej.symm)
  subst this
  rw [hi] at hj
  exact Option.some.inj hj
/-- the sayings under way at turn i: made at n1, due at n2 -/
structure SyJ (K : PySem.W.Frag) (T : List Addr) (p q : Addr) (b : Nat) (ks : List Kd) (kvs : List (Key × V)) (kind : Str) (n1 n2 : Addr) (H : Hp) (i : Nat) (st : List Str) (md : List PyData) (G : Hp) : Prop where
  L : Wl T p q (b + 2 * i) G
  x : Ex T (off p q H) (off p q G)
  e1 : off p q G n1 = some (.lst (md.map vOf))
  e2 : off p q G n2 = some (.lst (st.reverse.map V.str))
  f1 : off p q H n1 = none
  f2 : off p q H n2 = none
  ne : n1 ≠ n2
  en : ∀ d ∈ md, EnS d
  len : md.length = i
  sem : ∀ rest, runS (ents ks) [kind] (md ++ rest) = runS (ents ks) st rest
  ok : ∀ w ∈ st, w = "number" ∨ hasV kvs w
  few : st.length ≤ 1 + 4 * i
  beg : i = 0 → st ≠ []
def spSys (K : PySem.W.Frag) (T : List Addr) : Sp := fun vs H Q _ => ∃ (p q : Addr) (b : Nat) (a : Addr) (xs : List V) (ks : List Kd) (D : Addr) (kvs : List (Key × V)) (kind : Str) (room : Int), vs = [.ref p, .ref a, .ref D, .str kind, .int room] ∧ Wl T p q b H ∧ b + 2000 < 1000000 ∧
  off p q H a = some (.tup xs) ∧ Paired (KdT p q H) xs ks ∧ KsOk ks ∧ off p q H D = some (.dK kvs) ∧ LeOk K (off p q H) ks kvs ∧ hasV kvs kind ∧
  ∀ H' t ws md, off p q H' t = some (.tup ws) → DxAll K (off p q H') ws md → (∀ d ∈ md, EnS d) → 1 ≤ md.length → md.length ≤ 900 → (md.length ≤ 400 → runS (ents ks) [kind] md = true) → Ex T (off p q H) (off p q H') → Wl T p q (b + 2000) H' → Q (.ref t) H'
section
variable {P : Program} {w : World} {K : PySem.W.Frag} {mg : Str → Option Value} {base : Heap} {T : List Addr}
theorem ok_sys {f aD aN : Addr} {fd dD dN : FuncData} (F : Fun K "_law_sayings" "_law_sayings" sSys f fd) (B : BI mg) (mr : mg "range" = none) (ml : mg "list" = none)
    (GD : FnOk P w K mg base CX0 1 aD dD ["well", "many"] spDraw) (mD : mg "_law_draw" = some (.ref aD)) (kD : PySem.W.keepIn K (.ref aD) = true) (bD : Binds K dD ["well", "many"] [])
    (GN : FnOk P w K mg base CX0 2 aN dN ["well"] (spNum T)) (mN : mg "_law_number" = some (.ref aN)) (kN : PySem.W.keepIn K (.ref aN) = true) (bN : Binds K dN ["well"] []) :
    FnOk P w K mg base CX0 3 f fd ["well", "kinds", "least", "kind", "room"] (spSys K T) := by
  refine F.ok scSys (fun vs H Q E h => ?_) (fun cdv A outer s H vs Q E hr h => ?_)
  · obtain ⟨p, q, b, a, xs, ks, D, kvs, kind, room, rfl, _⟩ := h
    rfl
  · obtain ⟨p, q, b, a, xs, ks, D, kvs, kind, room, rfl, L, hb, ha, pr, ok, hD, lo, hk, k⟩ := h
    have hu := hu_of hr
    have hu64 : (A.deeper (envOfC "_law_sayings" (defScope sSys) s.heap.objs.size f cdv)).units + 64 < cLine := by
      have := hr.un
      omega
    refine ⟨_, pss_cons (ps_par (i := 5) (j := 6) rfl scSys.nd rfl rfl (by decide) rfl rfl (pa_cons (pe_lst pa_nil) (pa_cons (pe_lst (pa_cons (pv 3) pa_nil)) pa_nil)) (by rfl))
      (pss_cons (ps_for PassesOwn.never rfl (pi_range1 (by rfl) mr (pa_cons pe_int pa_nil)) (pg_name (i := 7) scSys.nd rfl (.inl rfl))
        (pss_cons (ps_if (pt_cmpR (op_eqD hu64) (pv 6) (pe_lst pa_nil) (nomark _)) (pss_one (ps_ret (pe_tupK (K := K) rfl (by rfl) B.tuple (pv 5)))) pss_nil)
        (pss_cons (ps_set (i := 8) scSys.nd rfl (.inr rfl) (pe_bm0 PySem.F.plainAttrs_list PySem.F.slot_list_pop PySem.F.type_list_pop mt_pop (pv 6)))
        (pss_one (ps_if (pt_cmpR op_eq (pv 8) pe_str (nomark _)) (pss_one (ps_expr (pe_appK (K := K) rfl (pv 5) (pa_cons (pe_call GN (hr.mono (by decide)) (by rfl) mN kN bN .nil pass0 (pa_cons (pv 0) pa_nil)) pa_nil))))
          (pss_cons (ps_asg (pe_dget hu (pv 2) (pv 8) (fun _ _ => rfl)) (pg_three (K := K) (i := 9) (j := 10) (l := 11) rfl rfl scSys.nd rfl rfl rfl rfl rfl rfl))
          (pss_cons (ps_set (i := 12) scSys.nd rfl (.inl rfl) (pe_ix ix_list (pe_lc (own := [("name", 13), ("row", 14)]) (by rfl) scSys.nd (pi_tup (pv 1)) (blkOk_by (N := nSys) (sc := defScope sSys) (by decide +kernel))
              (fun _ _ _ _ _ => pg_two (K := K) (i := 13) (j := 14) rfl rfl scSys.nd rfl rfl rfl rfl) (fun _ _ _ _ _ => pts_one (pt_cmpR op_eq (pv 13) (pv 8) (nomark _))) (fun _ _ _ _ _ => pv 14)) pe_int (fun _ _ => rfl)))
          (pss_cons (ps_setLc (i := 12) (own := [("maker", 15)]) (g := gName 15) (by rfl) scSys.nd rfl rfl (sw_true rfl rfl rfl (by decide +kernel)) (pi_tup (pv 12)) (blkOk_by (N := nSys) (sc := defScope sSys) (by decide +kernel))
              (fun _ _ _ _ _ => pg_name (i := 15) scSys.nd rfl (.inl rfl)) (fun _ _ _ _ _ => pts_one (pt_val (pe_callB (cr_allK (K := K) rfl rfl) (by rfl) B.all boot_all (pa_cons (pe_lc (own := [("field", 16)]) (g := gName 16) (tt := tYes) (by rfl) scSys.nd (pi_tupK (K := K) rfl (pe_ix (ix_tupJ (K := K) rfl) (pv 15) pe_int (fun _ _ => rfl))) (blkOk_in (N := nSys) (sc0 := defScope sSys) (by decide +kernel))
                (fun _ _ _ _ _ => pg_name (i := 16) scSys.nd rfl (.inl rfl)) (fun _ _ _ _ _ => pts_nil) (fun _ _ _ _ _ => pe_or (pe_cmpR op_eq (pv 16) pe_str (nomark _)) (pe_one (pe_cmp (pc_din hu (pv 16) (pv 2)) rfl)))) pa_nil)))) (fun _ _ _ _ _ => pv 15))
          (pss_cons (ps_if (pt_cmpR op_lt (pe_op op_add (pe_callB call_len_seq (by rfl) B.len PySem.boot_len (pa_cons (pv 5) pa_nil)) (pe_callB call_len_seq (by rfl) B.len PySem.boot_len (pa_cons (pv 6) pa_nil))) (pv 4) (nomark _))
              (pss_one (ps_asg (pe_ix ix_list (pv 12) (pe_call GD (hr.mono (by decide)) (by rfl) mD kD bD .nil pass0 (pa_cons (pv 0) (pa_cons (pe_callB call_len_seq (by rfl) B.len PySem.boot_len (pa_cons (pv 12) pa_nil)) pa_nil))) (fun _ _ => rfl)) (pg_two (K := K) (i := 10) (j := 11) rfl rfl scSys.nd rfl rfl rfl rfl))) pss_nil)
          (pss_cons (ps_expr (pe_appK (K := K) rfl (pv 5) (pa_cons (pv 10) pa_nil)))
          (pss_one (ps_set (i := 6) scSys.nd rfl (.inl rfl) (pe_op op_cat (pv 6) (pe_callTy call_list_of (by rfl) ml (by decide +kernel) (pa_cons (TR.pe_revT (pv 11)) pa_nil)))))))))))))))
      (pss_one (ps_ret (pe_tupK (K := K) rfl (by rfl) B.tuple (pv 5))))), ?_⟩
    have toG : ∀ {G : Hp}, Ex T (off p q H) (off p q G) → off p q G a = some (.tup xs) ∧ Paired (KdT p q G) xs ks ∧ off p q G D = some (.dK kvs) ∧ LeOk K (off p q G) ks kvs := fun x =>
      ⟨L.keep x ha (fun _ z => by cases z), paired_imp (fun _ _ z => z.to (Tk.ex L.tb x)) pr, L.keep x hD (fun _ z => by cases z), lo.to fun _ _ z => x.sqT L.tb z⟩
    have wPn : ∀ {w : Str}, w = "number" ∨ hasV kvs w → Pn w := fun {w} h => by
      rcases h with rfl | h
      · exact number_pn
      · obtain ⟨_, _, _, _, _, _, ⟨k0, hk0, rfl, _⟩, _⟩ := lo.get h
        exact any_pn (ok.nm.any _ (List.mem_map_of_mem hk0))
    refine ⟨by show 0 ≤ sizeLine; decide, fun n1 hn1 => ⟨_, rfl, by show 1 ≤ sizeLine; decide, fun n2 hn2 => ⟨_, _, rfl, ?_⟩⟩⟩
    obtain ⟨L1, x1, e1⟩ := L.new (o := .lst []) hn1
    obtain ⟨L2, x2, e2⟩ := L1.new (o := .lst [.str kind]) hn2
    have J0 : SyJ K T p q b ks kvs kind n1 n2 H 0 [kind] [] _ := ⟨L2, x1.trans x2, L1.keep x2 e1 (fun _ z => by cases z), e2, off_none hn1, fresh_of x1 L.tb (off_none hn2), ne_of_none upd_same hn2, fun _ h => by simp at h, rfl, fun _ => rfl, fun w hw => .inr (by rw [List.mem_singleton.mp hw]; exact hk), by show 1 ≤ 1; decide, fun _ h => by cases h⟩
    dsimp only
    refine ⟨900, rfl, by decide, by decide, for_it (n := 900) walk_range (fun i σ G => ∃ n2 st md a7 a8 a9 a10 a11 a12, σ = [some (.ref p), some (.ref a), some (.ref D), some (.str kind), some (.int room), some (.ref n1), some (.ref n2), a7, a8, a9, a10, a11, a12, none, none, none, none] ∧ SyJ K T p q b ks kvs kind n1 n2 H i st md G)
      ⟨n2, _, _, _, _, _, _, _, _, rfl, J0⟩ (fun _ _ _ _ _ => trivial) (fun i x σ G G2 hi ⟨n2, st, md, a7, a8, a9, a10, a11, a12, eσ, J⟩ y => ?_) (fun σ G ⟨n2, st, md, a7, a8, a9, a10, a11, a12, eσ, J⟩ => ?_)⟩
    · obtain ⟨rfl, rfl⟩ := y
      subst eσ
      refine ⟨_, rfl, by show 0 ≤ sizeLine; decide, fun e he => ?_⟩
      obtain ⟨L3, x3, e3⟩ := J.L.new (o := .lst []) he
      refine ⟨.list (st.reverse.map PyData.str), .list [], .lst (.inl (.inl (off_un _ _ (J.L.keep x3 J.e2 (fun _ z => by cases z))))) (dp_strs _), .lst (.inl (.inl upd_same)) .nil, strs_shaped (fun z hz => wPn (J.ok z (List.mem_reverse.mp hz))), (by decide +kernel), _, rfl, ?_⟩
      have J3 : SyJ K T p q b ks kvs kind n1 n2 H i st md _ := ⟨L3, J.x.trans x3, J.L.keep x3 J.e1 (fun _ z => by cases z), J.L.keep x3 J.e2 (fun _ z => by cases z), J.f1, J.f2, J.ne, J.en, J.len, J.sem, J.ok, J.few, J.beg⟩
      generalize upd G2 e (.lst []) = G3 at J3 ⊢
      clear J L3 x3 e3 he
      have J := J3
      clear J3
      cases st with
      | nil =>
        rw [show PyData.eqv (.list (([] : List Str).reverse.map PyData.str)) (.list []) = true by decide +kernel]
        refine iteT ⟨_, rfl, .inl ⟨n1, _, rfl, .inl (.inl (off_un _ _ J.e1)), fun t ht => ?_⟩⟩
        obtain ⟨L4, x4, e4⟩ := J.L.new (o := .tup (md.map vOf)) ht
        have i1 : i ≠ 0 := fun z => J.beg z rfl
        have hi : i < 900 := hi
        have len := J.len
        refine k _ t _ md e4 (ens_dx J.en) J.en (by omega) (by omega) (fun _ => ?_) (J.x.trans x4) (L4.le (by omega))
        have := J.sem []
        rw [List.append_nil] at this
        rw [this]
        rfl
      | cons w st =>
        have er : (w :: st).reverse = st.reverse ++ [w] := List.reverse_cons ..
        rw [show PyData.eqv (.list ((w :: st).reverse.map PyData.str)) (.list []) = false by rw [er, List.map_append]; cases st.reverse.map PyData.str <;> simp [PyData.eqv, PyData.eqvAll]]
        refine iteF ?_
        have e2 := J.e2
        rw [er, List.map_append] at e2
        refine ⟨_, rfl, .inl ⟨rfl, _, .inl (.inl (off_un _ _ e2))⟩, n2, _, .str w, rfl, rfl, off_un _ _ e2, by simp, ?_⟩
        rw [show (st.reverse.map V.str ++ [w].map V.str).dropLast = st.reverse.map V.str from List.dropLast_concat]
        obtain ⟨L4, x4, e4, o4⟩ := fillW (st.reverse.map V.str) J.L J.x J.f2 e2
        have m4 := (o4 n1 J.ne).trans J.e1
        generalize upd G3 n2 (.lst (st.reverse.map V.str)) = G4 at L4 x4 e4 m4 ⊢
        clear o4
        refine ⟨_, rfl, rfl, _, rfl, ?_⟩
        by_cases hw : w = "number"
        · subst hw
          rw [decide_eq_true rfl]
          refine iteT ?_
          refine ⟨.ref n1, rfl, .inl ⟨rfl, _, .inl (.inl (off_un _ _ m4))⟩, _, rfl, p, q, _, rfl, L4, by have := hi; omega, fun G5 n h0 h1 x5 L5 => ?_⟩
          have m5 := L4.keep x5 m4 (fun _ z => by cases z)
          have e5 := L4.keep x5 e4 (fun _ z => by cases z)
          have x5 := x4.trans x5
          obtain ⟨L6, x6, e6, o6⟩ := fillW (md.map vOf ++ [.int n]) L5 x5 J.f1 m5
          refine ⟨n1, _, _, rfl, rfl, off_un _ _ m5, by rw [List.length_map, J.len]; exact small1000 (by have := hi; omega), ?_⟩
          refine ⟨n2, st, md ++ [.int n], _, _, _, _, _, _, rfl, L6.le (by omega), x6, by rw [e6, List.map_append]; rfl, (o6 n2 J.ne.symm).trans e5, J.f1, J.f2, J.ne, fun d hd => ?_, by rw [List.length_append, J.len]; rfl, fun rest => ?_, fun w hw => J.ok w (List.mem_cons_of_mem _ hw), by have := J.few; rw [List.length_cons] at this; omega, fun h => by omega⟩
          · rcases List.mem_append.mp hd with hd | hd
            · exact J.en d hd
            · rw [List.mem_singleton.mp hd]
              exact .inr ⟨n, rfl, h0, h1⟩
          · rw [List.append_assoc, J.sem]
            exact run_num h0 h1
        · rw [decide_eq_false (fun z => hw (V.str.inj z))]
          refine iteF ?_
          obtain hwv : hasV kvs w := (J.ok w (List.mem_cons_self ..)).resolve_left hw
          obtain ⟨ha4, pr4, hD4, lo4⟩ := toG x4
          obtain ⟨v0, size, title0, fields0, hv0, ⟨t0, vf, rfl, ht0, fa0, rfl, hfa0⟩, mr0, fl0⟩ := lo4.get hwv
          have sT : ∀ {G : Hp} {c : Addr} {ys : List V}, off p q G c = some (.tup ys) → SqT K G c ys := fun h => .inl (.inl (off_un _ _ h))
          refine ⟨_, rfl, _, rfl, D, .ref t0, rfl, hv0 ▸ DGet.k (k := .inr w) (off_un _ _ hD4), t0, _, rfl, sqT_un ht0, rfl, _, _, rfl, _, _, rfl, _, _, rfl, rfl, ?_⟩
          -- the kind's makers
          refine ⟨_, rfl, a, rfl, ⟨xs, sT ha4⟩, fun D1 hD1 => ?_⟩
          obtain ⟨L5, x5, e5⟩ := L4.new (o := .lst []) hD1
          have fD1 := off_none (p := p) (q := q) hD1
          refine lcB_it (n := xs.length) walk_tup (fun z G' => ∃ ws, off p q G' D1 = some (.lst ws) ∧ Paired (RowT p q G') ws ((ks.take z).filter fun k => decide (k.1 = w)) ∧ Ex T (off p q G4) (off p q G') ∧ Wl T p q (b + 2 * i) G') ⟨[], e5, .nil, x5, L5⟩ (fun z G' _ ⟨_, _, _, x, _⟩ => sT (L4.keep x ha4 (fun _ z => by cases z))) (fun z v G5 G6 hz ⟨ws, eD1, pw, x5, L5⟩ y => ?_) (fun G5 ⟨ws, eD1, pw, x5, L5⟩ => ?_)
          · obtain ⟨rfl, hv⟩ := y
            obtain ⟨k0, hk0, b0, bm, ms, rfl, hb0, hbm, pm⟩ := paired_get pr4 hv
            have tk5 := Tk.ex L4.tb x5
            obtain ⟨m1, m2, _⟩ := off_some eD1
            refine g_two (sT (tk5 _ _ hb0)) (by decide) (by decide) (by decide) (by show 13 < 17; decide) (by show 14 < 17; decide) fun σ2 _ keep g13 g14 => ⟨_, g13, _, (keep 8 (by decide)).trans rfl, rfl, _, rfl, ?_⟩
            by_cases hkw : k0.1 = w
            · rw [show decide (V.str k0.1 = V.str w) = true from decide_eq_true (by rw [hkw])]
              have lw : ws.length ≤ 6 := by
                rw [paired_len pw]
                exact Nat.le_trans (List.length_filter_le _ _) (Nat.le_trans (by rw [List.length_take]; omega) ok.h6)
              refine iteT ⟨_, g14, ws, off_un _ _ eD1, small1000 (by omega), ws ++ [.ref bm], by rw [off_upd m1 m2, upd_same], ?_, by rw [off_upd m1 m2]; exact x5.upd fD1, L5.fill eD1⟩
              rw [filter_snoc _ hk0, if_pos (decide_eq_true hkw)]
              have tf : Tk p q G6 _ := Tk.fill (o := .lst (ws ++ [.ref bm])) eD1
              exact paired_app (paired_imp (fun _ _ z => z.to tf) pw) (.cons ⟨bm, ms, rfl, (tk5.trans tf) _ _ hbm, paired_imp (fun _ _ z => z.to (tk5.trans tf)) pm⟩ .nil)
            · rw [show decide (V.str k0.1 = V.str w) = false from decide_eq_false (fun z => hkw (V.str.inj z))]
              refine iteF ⟨ws, eD1, ?_, x5, L5⟩
              rw [filter_snoc _ hk0, if_neg (fun z => hkw (of_decide_eq_true z)), List.append_nil]
              exact pw
          have lxs : xs.length = ks.length := paired_len pr4
          rw [lxs, List.take_length] at pw
          obtain ⟨kk, hkk, hkw, mem0⟩ := id mr0
          have memF : kk ∈ ks.filter fun k => decide (k.1 = w) := List.mem_filter.mpr ⟨hkk, decide_eq_true hkw⟩
          obtain ⟨v1, k1, hv1, hk1, b1, ms, rfl, hb1, pm⟩ := pget pw (i := 0) (by rw [paired_len pw]; exact List.length_pos_of_mem memF)
          have m1 := List.mem_filter.mp (List.mem_of_getElem? hk1)
          obtain rfl : kk = k1 := kd_unique ok hkk m1.1 (hkw.trans (of_decide_eq_true m1.2).symm)
          refine ⟨D1, _, _, _, rfl, rfl, .inl (.inl (off_un _ _ eD1)), atI_nat (j := 0) hv1, ?_⟩
          have e4' := L4.keep x5 e4 (fun _ z => by cases z)
          have m4' := L4.keep x5 m4 (fun _ z => by cases z)
          have x45 := x4.trans x5
          obtain ⟨_, _, hD5, lo5⟩ := toG x45
          have hfa5 := x5.sqT L4.tb hfa0
          clear eD1 fD1 pw hv1 hk1 memF
          dsimp only
          refine ⟨_, rfl, b1, rfl, ⟨ms, sT hb1⟩, fun D2 hD2 => ?_⟩
          have m6 := ok.m6 kk hkk
          have lms := paired_len pm
          obtain ⟨L6, x6, e6⟩ := L5.new (o := .lst []) hD2
          have fD2 := off_none (p := p) (q := q) hD2
          refine lcB_it (n := ms.length) walk_tup (fun z G' => ∃ ws, off p q G' D2 = some (.lst ws) ∧ Paired (MkT p q G') ws ((kk.2.take z).filter fun m => m.2.all (okB kvs)) ∧ Ex T (off p q G5) (off p q G') ∧ Wl T p q (b + 2 * i) G') ⟨[], e6, .nil, x6, L6⟩ (fun z G' _ ⟨_, _, _, x, _⟩ => sT (L5.keep x hb1 (fun _ z => by cases z))) (fun z v G6 G7 hz ⟨ws, eD2, pw, x6, L6⟩ y => ?_) (fun G6 ⟨ws, eD2, pw, x6, L6⟩ => ?_)
          · obtain ⟨rfl, hv⟩ := y
            obtain ⟨mk, hmk, b2, fa, rfl, hb2, hfa⟩ := paired_get pm hv
            have tk6 := Tk.ex L5.tb x6
            have f4 := ok.f4 kk hkk mk (List.mem_of_getElem? hmk)
            have hD6 := L5.keep x6 hD5 (fun _ z => by cases z)
            have nD6 := L6.tb.seqN hD6 (fun _ z => by cases z)
            refine g_one (by decide) (by show 15 < 17; decide) fun σ2 l2 keep g15 => ⟨_, g15, b2, _, _, _, rfl, rfl, sT (tk6 _ _ hb2), atI_nat (j := 1) rfl, fa, rfl, ⟨_, sT (tk6 _ _ hfa)⟩, fun D3 hD3 => lcK (T := T) walk_tup (ys := mk.2.map fun f => V.bl (okB kvs f)) (fun G' x => x.sqT L6.tbH (sT (tk6 _ _ hfa))) L6.tbH hD3 (by rw [List.length_map, List.length_map]) (by rw [List.length_map]; omega) (fun z2 v y G' hv hy x fin => ?_) (fun G' x hD3' => ?_)⟩
            · rw [List.getElem?_map] at hv hy
              obtain ⟨f, hf, rfl⟩ := Option.map_eq_some_iff.mp hv
              rw [hf] at hy
              obtain rfl : V.bl (okB kvs f) = y := Option.some.inj hy
              have dG' := x.keep D _ (off_un _ _ hD6) nD6
              refine g_one (by decide) (by rw [l2]; show 16 < 17; decide) fun σ3 _ keep3 g16 => yesT ⟨_, g16, rfl, _, rfl, ite2 (fun e => ?_) (fun e => ?_)⟩
              · have e := V.str.inj (of_decide_eq_true e)
                have := fin _ Ex.refl
                rw [show okB kvs f = true from by unfold okB; rw [decide_eq_true e]; rfl] at this
                exact this
              · have e : ¬ f = "number" := fun z => e (decide_eq_true (by rw [z]))
                have := fin _ Ex.refl
                rw [show okB kvs f = (valV kvs (.inr f)).isSome from by unfold okB; rw [decide_eq_false e]; rfl] at this
                exact ⟨_, g16, _, (keep3 2 (by decide)).trans ((keep 2 (by decide)).trans rfl), D, _, rfl, DGet.k (k := .inr f) dG', this⟩
            · have eB : (mk.2.map (okB kvs)).all id = mk.2.all (okB kvs) := by rw [List.all_map]; rfl
              obtain ⟨L7, x7⟩ := L6.ex x
              have eD2' := L6.keep x7 eD2 (fun _ z => by cases z)
              have tk7 := Tk.ex L6.tb x7
              have x67 := x6.trans x7
              obtain ⟨m1, m2, _⟩ := off_some eD2'
              refine ⟨D3, mk.2.map (okB kvs), rfl, .inl (.inl (by rw [hD3', List.map_map]; rfl)), ⟨_, rfl, ?_⟩⟩
              rw [eB]
              cases hB : mk.2.all (okB kvs) with
              | true =>
                have lw : ws.length ≤ 6 := by
                  rw [paired_len pw]
                  exact Nat.le_trans (List.length_filter_le _ _) (Nat.le_trans (by rw [List.length_take]; omega) m6)
                have tf : Tk p q G' (upd G' D2 (.lst (ws ++ [.ref b2]))) := Tk.fill eD2'
                refine iteT ⟨_, g15, ws, off_un _ _ eD2', small1000 (by omega), ws ++ [.ref b2], by rw [off_upd m1 m2, upd_same], ?_, by rw [off_upd m1 m2]; exact x67.upd fD2, L7.fill eD2'⟩
                rw [filter_snoc _ hmk, if_pos hB]
                exact paired_app (paired_imp (fun _ _ z => z.to (tk7.trans tf)) pw) (.cons ⟨b2, fa, rfl, ((tk6.trans tk7).trans tf) _ _ hb2, ((tk6.trans tk7).trans tf) _ _ hfa⟩ .nil)
              | false =>
                refine iteF ⟨ws, eD2', ?_, x67, L7⟩
                rw [filter_snoc _ hmk, if_neg (by rw [hB]; decide), List.append_nil]
                exact paired_imp (fun _ _ z => z.to tk7) pw
          rw [lms, List.take_length] at pw
          have e4 := L5.keep x6 e4' (fun _ z => by cases z)
          have m4 := L5.keep x6 m4' (fun _ z => by cases z)
          have hfa6 := x6.sqT L5.tb hfa5
          have x46 := x45.trans x6
          have lw6 : ws.length ≤ 6 := by
            rw [paired_len pw]
            exact Nat.le_trans (List.length_filter_le _ _) m6
          have okF : ∀ f ∈ fields0, okB kvs f = true := fun f hf => by
            unfold okB
            by_cases e : f = "number"
            · rw [decide_eq_true e]; rfl
            · obtain ⟨v, hv⟩ := fl0 f hf e
              rw [hv, Option.isSome_some, Bool.or_true]
          have wpos : 0 < ws.length := by
            rw [paired_len pw]
            exact List.length_pos_of_mem (List.mem_filter.mpr ⟨mem0, List.all_eq_true.mpr okF⟩)
          clear L4 L5 x4 x5 x6 e4' m4' hfa0 hfa5 ha4 pr4 hD4 lo4 ht0 hD5 lo5 e6 fD2 hD2
          dsimp only
          refine seq_cut (fun σ G => ∃ title fa fields, σ = [some (.ref p), some (.ref a), some (.ref D), some (.str kind), some (.int room), some (.ref n1), some (.ref n2), some (.int (0 + (i : Int))), some (.str w), some (.int size), some (.str title), some (.ref fa), some (.ref D2), none, none, none, none] ∧ Mkr ks w title fields ∧ (∀ f ∈ fields, okB kvs f = true) ∧ SqT K (off p q G) fa (fields.map V.str) ∧
            off p q G n1 = some (.lst (md.map vOf)) ∧ off p q G n2 = some (.lst (st.reverse.map V.str)) ∧ Ex T (off p q H) (off p q G) ∧ Wl T p q (b + 2 * i + 1) G) (fun σ G7 ⟨title, fa, fields, eσ, mr, okf, hfa, m7, e7, x7, L7⟩ => ?_) (fun rest => ?_)
          · subst eσ
            obtain ⟨k2, hk2, hkw2, mem2⟩ := id mr
            have f4 : fields.length ≤ 4 := ok.f4 k2 hk2 _ mem2
            have hti : isHigh (.str title) = true := ok.tt.hi _ (mk_mem hk2 mem2)
            refine ⟨.ref n1, rfl, .inl ⟨rfl, _, .inl (.inl (off_un _ _ m7))⟩, _, rfl, n1, _, _, rfl, rfl, off_un _ _ m7, by rw [List.length_map, J.len]; exact small1000 (by have := hi; omega), ?_⟩
            obtain ⟨L8, x8, m8, o8⟩ := fillW (md.map vOf ++ [.str title]) L7 x7 J.f1 m7
            have e8 := (o8 n2 J.ne.symm).trans e7
            have hfa8 : SqT K (off p q (upd G7 n1 (.lst (md.map vOf ++ [.str title])))) fa (fields.map V.str) := by
              have nf : ∀ {o : HO}, off p q G7 fa = some o → (∀ z, o ≠ .lst z) → fa ≠ n1 := fun {o} e n z => by
                subst z
                rw [m7] at e
                exact n _ (Option.some.inj e).symm
              rcases hfa with (h | ⟨ob, h⟩) | h
              · exact .inl (.inl ((o8 fa (nf h fun _ z => by cases z)).trans h))
              · exact .inl (.inr ⟨ob, (o8 fa (nf h fun _ z => by cases z)).trans h⟩)
              · exact .inr h
            generalize upd G7 n1 (.lst (md.map vOf ++ [.str title])) = G8 at L8 x8 m8 e8 hfa8 ⊢
            refine ⟨_, rfl, _, rfl, fa, _, rfl, sqT_un hfa8, fun c hc => ?_⟩
            obtain ⟨L9, x9, c9⟩ := L8.new (o := .tup (fields.map V.str).reverse) hc
            refine ⟨c, _, rfl, .inr (sT c9), fun l hl => ?_⟩
            obtain ⟨L10, x10, l10⟩ := L9.new (o := .lst (fields.map V.str).reverse) hl
            have x910 := x9.trans x10
            have e10 := L8.keep x910 e8 (fun _ z => by cases z)
            have m10 := L8.keep x910 m8 (fun _ z => by cases z)
            have few := J.few
            rw [List.length_cons] at few
            refine ⟨n2, l, _, _, rfl, rfl, off_un _ _ e10, off_un _ _ l10, ?_, fun o ho => ?_⟩
            · rw [List.length_map, List.length_reverse, List.length_reverse, List.length_map, sizeLine_eq]
              have := hi
              omega
            obtain ⟨L11, x11, o11⟩ := L10.new (o := .lst (st.reverse.map V.str ++ (fields.map V.str).reverse)) ho
            have m11 := L10.keep x11 m10 (fun _ z => by cases z)
            refine ⟨o, fields ++ st, md ++ [.str title], _, _, _, _, _, _, rfl, L11.le (by omega), (x8.trans x910).trans x11, by rw [m11, List.map_append]; rfl, ?_, J.f1, fresh_of (x8.trans x910) L.tb (off_none ho), ne_of_none (off_un _ _ m10) ho, fun d hd => ?_, by rw [List.length_append, J.len]; rfl, fun rest => ?_, fun y hy => ?_, by rw [List.length_append]; omega, fun h => by omega⟩
            · rw [o11, List.reverse_append, List.map_append, List.map_reverse (l := fields)]
            · rcases List.mem_append.mp hd with hd | hd
              · exact J.en d hd
              · rw [List.mem_singleton.mp hd]
                exact .inl ⟨title, rfl, hti⟩
            · rw [List.append_assoc, J.sem]
              exact run_mk ok mr
            · rcases List.mem_append.mp hy with hy | hy
              · have := okf y hy
                unfold okB at this
                by_cases e : y = "number"
                · exact .inl e
                · rw [decide_eq_false e, Bool.false_or] at this
                  exact .inr (Option.isSome_iff_exists.mp this)
              · exact J.ok y (List.mem_cons_of_mem _ hy)
          · refine ⟨_, rfl, n1, _, rfl, .inl (.inl (.inl (off_un _ _ m4))), _, rfl, n2, _, rfl, .inl (.inl (.inl (off_un _ _ e4))), _, _, rfl, rfl, _, rfl, _, _, rfl, rfl, _, rfl, ite2 (fun _ => ?_) (fun _ => ?_)⟩
            · refine ⟨_, rfl, _, rfl, _, rfl, D2, _, rfl, .inl (.inl (.inl (off_un _ _ eD2))), p, q, _, _, rfl, L6.w, by omega, by omega, by have := hi; omega, fun G7 r r0 r1 kp hw => ?_⟩
              obtain ⟨L7, x7⟩ := L6.draw kp hw
              have eD7 := L6.keep x7 eD2 (fun _ z => by cases z)
              have tk7 := Tk.ex L6.tb x7
              obtain ⟨vm, em, _⟩ := atI_of r0 r1
              obtain ⟨n, rfl⟩ := Int.eq_ofNat_of_zero_le r0
              obtain ⟨v2, m2, hv2, hm2, b2, fa, rfl, hb2, hfa⟩ := pget pw (i := n) (by omega)
              have mf := List.mem_filter.mp (List.mem_of_getElem? hm2)
              refine ⟨D2, _, _, _, rfl, rfl, .inl (.inl (off_un _ _ eD7)), atI_nat (j := n) hv2, b2, _, rfl, sT (tk7 _ _ hb2), rfl, _, _, rfl, _, _, rfl, rfl, ?_⟩
              exact rest _ _ ⟨m2.1, fa, m2.2, rfl, ⟨kk, hkk, hkw, mf.1⟩, List.all_eq_true.mp mf.2, .inl (.inl (tk7 _ _ hfa)), L6.keep x7 m4 (fun _ z => by cases z), L6.keep x7 e4 (fun _ z => by cases z), x46.trans x7, L7⟩
            · exact rest _ _ ⟨title0, fa0, fields0, rfl, mr0, okF, hfa6, m4, e4, x46, L6.le (by omega)⟩
    · subst eσ
      refine ⟨_, rfl, .inl ⟨n1, _, rfl, .inl (.inl (off_un _ _ J.e1)), fun t ht => ?_⟩⟩
      obtain ⟨L4, x4, e4⟩ := J.L.new (o := .tup (md.map vOf)) ht
      have len := J.len
      exact k _ t _ md e4 (ens_dx J.en) J.en (by omega) (by omega) (fun h => by omega) (J.x.trans x4) (L4.le (by omega))
end
end JF
set_option Elab.async false
set_option linter.all false
set_option maxRecDepth 100000
set_option maxHeartbeats 1000000
namespace JF
open PySem PySem.Spec PyProof PyProof.Rows L2 GxR GA PC
abbrev sIsS : Stmt := topS 38
abbrev nIsS : List Str := ["kinds", "kind", "value", "makers", "have", "name", "row", "title", "fields", "entry", "field"]
theorem scIsS : FnScope ["kinds", "kind", "value", "makers", "have", "name", "row", "title", "fields", "entry", "field"] ["kinds", "kind", "value"] (defScope sIsS) := ⟨rfl, rfl, rfl, by decide +kernel, rfl, by decide +kernel, by decide +kernel⟩
theorem bk_none {es : List Ent} {ds : List PyData} (h : bk es ds = none) : ∀ pre : List PyData, bk es (pre ++ ds) = none
  | [] => h
  | d :: pre => by
    show (match bk es (pre ++ ds) with | none => none | some st => match entW es d with | none => none | some (k, fs) => if fs <+: st then some (k :: st.drop fs.length) else none) = none
    rw [bk_none h pre]
theorem bk_drop {es : List Ent} {ds : List PyData} {i : Nat} (h : bk es (ds.drop i) = none) : bk es ds = none := by
  have := bk_none h (ds.take i)
  rwa [List.take_append_drop] at this
/-- a maker in the law's dict -/
def EnAt (K : PySem.W.Frag) (H : Hp) (kv : Key × V) (e : Ent) : Prop := kv.1 = .inr e.1 ∧ ∃ t vf, kv.2 = .ref t ∧ SqT K H t [.str e.2.1, vf] ∧ FieldsAt K H vf e.2.2.2
theorem EnAt.to {K : PySem.W.Frag} {H H' : Hp} (q : ∀ a xs, SqT K H a xs → SqT K H' a xs) {kv : Key × V} {e : Ent} (h : EnAt K H kv e) : EnAt K H' kv e := by
  obtain ⟨h1, t, vf, h2, h3, h4⟩ := h
  exact ⟨h1, t, vf, h2, q _ _ h3, h4.to q⟩
theorem en_val {K : PySem.W.Frag} {H : Hp} {z : Str} : ∀ {kvs : List (Key × V)} {es : List Ent}, Paired (EnAt K H) kvs es → (entOf es z = none ∧ valV kvs (.inr z) = none) ∨ ∃ e v, entOf es z = some e ∧ valV kvs (.inr z) = some v ∧ EnAt K H (.inr z, v) e
  | _, _, .nil => .inl ⟨rfl, rfl⟩
  | _, _, @Paired.cons _ _ _ a b as bs r t => by
    by_cases e : b.1 = z
    · refine .inr ⟨b, a.2, ?_, valV_pos (by rw [r.1, e]), ?_⟩
      · unfold entOf
        rw [List.find?_cons_of_pos]
        exact decide_eq_true e
      · obtain ⟨r1, r2⟩ := r
        exact ⟨by show Sum.inr z = _; rw [e], r2⟩
    · have h1 : valV (a :: as) (.inr z) = valV as (.inr z) := by
        unfold valV
        rw [List.find?_cons_of_neg]
        rw [r.1]
        simpa using e
      have h2 : entOf (b :: bs) z = entOf bs z := by
        unfold entOf
        rw [List.find?_cons_of_neg]
        simpa using e
      rw [h1, h2]
      exact en_val t
theorem eqvAll_strs : ∀ xs ys : List Str, PyData.eqvAll (xs.map PyData.str) (ys.map PyData.str) = decide (xs = ys)
  | [], [] => by simp [PyData.eqvAll]
  | [], _ :: _ => by simp [PyData.eqvAll]
  | _ :: _, [] => by simp [PyData.eqvAll]
  | x :: xs, y :: ys => by
    show (PyData.eqv (.str x) (.str y) && PyData.eqvAll (xs.map PyData.str) (ys.map PyData.str)) = _
    rw [eqvAll_strs xs ys, show PyData.eqv (.str x) (.str y) = (x == y) by simp [PyData.eqv]]
    by_cases h : x = y
    · subst h; simp
    · have : (x == y) = false := beq_eq_false_iff_ne.mpr h
      rw [this]; simp [h]
theorem eqv_strs (xs ys : List Str) : PyData.eqv (.list (xs.map PyData.str)) (.list (ys.map PyData.str)) = decide (xs = ys) := by
  rw [show PyData.eqv (.list (xs.map PyData.str)) (.list (ys.map PyData.str)) = PyData.eqvAll (xs.map PyData.str) (ys.map PyData.str) by simp [PyData.eqv], eqvAll_strs]
theorem enPut {K : PySem.W.Frag} {H : Hp} {D : Addr} {kvs : List (Key × V)} {acc : List Ent} {m : Ent} {t : Addr} {vf : V} (hD : H D = some (.dK kvs)) (pr : Paired (EnAt K H) kvs acc) (nm : m.1 ∉ acc.map (·.1)) (ht : SqT K H t [.str m.2.1, vf]) (hf : FieldsAt K H vf m.2.2.2) :
    Paired (EnAt K (upd H D (.dK (putK kvs (.inr m.1) (.ref t))))) (putK kvs (.inr m.1) (.ref t)) (acc ++ [m]) := by
  have hp : putK kvs (.inr m.1) (.ref t) = kvs ++ [(.inr m.1, .ref t)] := put_new fun kv hkv z => by
    obtain ⟨e, he, h1, _⟩ := paired_mem pr hkv
    rw [h1] at z
    exact nm (List.mem_map.mpr ⟨e, he, Sum.inr.inj z⟩)
  have q : ∀ a xs, SqT K H a xs → SqT K (L2.upd H D (.dK (putK kvs (.inr m.1) (.ref t)))) a xs := sqT_dict hD
  have a := paired_imp (fun _ _ z => EnAt.to q z) pr
  rw [hp] at a q ⊢
  exact paired_app a (.cons ⟨rfl, t, vf, rfl, q _ _ ht, hf.to q⟩ .nil)
theorem ents_36 : ∀ {ks : List Kd}, (∀ k ∈ ks, k.2.length ≤ 6) → (ents ks).length ≤ 6 * ks.length
  | [], _ => Nat.zero_le _
  | k :: ks, h => by
    have h1 := h k (List.mem_cons_self ..)
    have h2 := ents_36 (ks := ks) fun x hx => h x (List.mem_cons_of_mem _ hx)
    have e : ents (k :: ks) = kEnts k ++ ents ks := rfl
    have l : (kEnts k).length = k.2.length := by unfold kEnts; rw [List.length_map, List.length_zipIdx]
    rw [e, List.length_append, List.length_cons, l]
    omega
theorem bk_cons {es : List Ent} {d : PyData} {ds : List PyData} {st : List Str} (h : bk es ds = some st) : bk es (d :: ds) = (match entW es d with | none => none | some (k, fs) => if fs <+: st then some (k :: st.drop fs.length) else none) := by
  show (match bk es ds with | none => none | some st => match entW es d with | none => none | some (k, fs) => if fs <+: st then some (k :: st.drop fs.length) else none) = _
  rw [h]
def spIsS (K : PySem.W.Frag) (T : List Addr) : Sp := fun vs H Q _ => ∃ (vk v : V) (ks : List Kd) (kind : Str) (d : PyData), vs = [vk, .str kind, v] ∧ KindsAt K H vk ks ∧ KsOk ks ∧ Pn kind ∧ Dx K H v d ∧ TbOk T H ∧ ∀ H', Ex T H H' → Q (.bl (isSay (ents ks) kind d)) H'
/-- the stack under way -/
structure IsJ (K : PySem.W.Frag) (T : List Addr) (ks : List Kd) (n4 D c : Addr) (kvs : List (Key × V)) (xs : List V) (H G : Hp) (st : List Str) : Prop where
  x : Ex T H G
  e : G n4 = some (.lst (st.reverse.map V.str))
  d : G D = some (.dK kvs)
  p : Paired (EnAt K G) kvs (ents ks)
  c : G c = some (.tup xs.reverse)
  ok : ∀ w ∈ st, w = "number" ∨ w ∈ kNames ks
theorem sqT_list {K : PySem.W.Frag} {H : Hp} {D : Addr} {xs xs' : List V} (h : H D = some (.lst xs)) : ∀ a ys, SqT K H a ys → SqT K (upd H D (.lst xs')) a ys := fun a ys q => by
  have ne : ∀ {o : HO}, H a = some o → (∀ z, o ≠ .lst z) → a ≠ D := fun {o} e n z => by
    subst z
    rw [h] at e
    exact n _ (Option.some.inj e).symm
  rcases q with (q | ⟨ob, q⟩) | q
  · exact .inl (.inl (by rw [upd_ne (ne q fun _ z => by cases z)]; exact q))
  · exact .inl (.inr ⟨ob, by rw [upd_ne (ne q fun _ z => by cases z)]; exact q⟩)
  · exact .inr q
theorem IsJ.new {K : PySem.W.Frag} {T : List Addr} {ks : List Kd} {n4 D c : Addr} {kvs : List (Key × V)} {xs : List V} {H G : Hp} {st : List Str} (J : IsJ K T ks n4 D c kvs xs H G st) {b : Addr} {o : HO} (f : G b = none) : IsJ K T ks n4 D c kvs xs H (upd G b o) st :=
  ⟨J.x.trans (Ex.new f), by rw [upd_ne (ne_of_none J.e f)]; exact J.e, by rw [upd_ne (ne_of_none J.d f)]; exact J.d, paired_imp (fun _ _ z => EnAt.to (sqT_new f) z) J.p, by rw [upd_ne (ne_of_none J.c f)]; exact J.c, J.ok⟩
theorem IsJ.put {K : PySem.W.Frag} {T : List Addr} {ks : List Kd} {n4 D c : Addr} {kvs : List (Key × V)} {xs : List V} {H G : Hp} {st : List Str} (J : IsJ K T ks n4 D c kvs xs H G st) (fn4 : H n4 = none) {st' : List Str} {zs : List V} (hz : zs = st'.reverse.map V.str) (ok : ∀ w ∈ st', w = "number" ∨ w ∈ kNames ks) : IsJ K T ks n4 D c kvs xs H (upd G n4 (.lst zs)) st' := by
  subst hz
  have nD : D ≠ n4 := fun z => by
    subst z
    have := J.d.symm.trans J.e
    cases this
  have nc : c ≠ n4 := fun z => by
    subst z
    have := J.c.symm.trans J.e
    cases this
  exact ⟨J.x.upd fn4, upd_same, by rw [upd_ne nD]; exact J.d, paired_imp (fun _ _ z => EnAt.to (sqT_list J.e) z) J.p, by rw [upd_ne nc]; exact J.c, ok⟩
theorem IsJ.pn {K : PySem.W.Frag} {T : List Addr} {ks : List Kd} {n4 D c : Addr} {kvs : List (Key × V)} {xs : List V} {H G : Hp} {st : List Str} (J : IsJ K T ks n4 D c kvs xs H G st) (ok : KsOk ks) : ∀ w ∈ st.reverse, Pn w := fun w hw => by
  rcases J.ok w (List.mem_reverse.mp hw) with rfl | h
  · exact number_pn
  · exact any_pn (ok.nm.any _ h)
section
variable {P : Program} {w : World} {K : PySem.W.Frag} {mg : Str → Option Value} {base : Heap} {T : List Addr}
theorem ok_iss {f : Addr} {fd : FuncData} (F : Fun K "_law_is_sayings" "_law_is_sayings" sIsS f fd) (B : BI mg) (mi : mg "isinstance" = none) (mb : mg "bool" = none) (ma : mg "abs" = none) :
    FnOk P w K mg base CX0 1 f fd ["kinds", "kind", "value"] (spIsS K T) := by
  refine F.ok scIsS (fun vs H Q E h => ?_) (fun cdv A outer s H vs Q E hr h => ?_)
  · obtain ⟨vk, v, ks, kind, d, rfl, _⟩ := h
    rfl
  · obtain ⟨vk, v, ks, kind, d, rfl, hk, ok, pk, r, tb, k⟩ := h
    have hu := hu_of hr
    have hu64 : (A.deeper (envOfC "_law_is_sayings" (defScope sIsS) s.heap.objs.size f cdv)).units + 64 < cLine := by
      have := hr.un
      omega
    refine ⟨_, pss_cons (ps_if (PW.pt (pw_or (pt_not (pt_val (pe_callB (call_isD (K := K) rfl) (by rfl) mi boot_isinstance (pa_cons (pv 2) (pa_cons (pe_bltn (v := .ty "tuple") (by rfl) B.tuple (by decide +kernel) rfl) pa_nil)))))
          (pw_or (pt_cmpR op_lt (pe_callB call_len_seq (by rfl) B.len PySem.boot_len (pa_cons (pv 2) pa_nil)) pe_int (nomark _))
          (pw_or1 (pt_cmpR op_gt (pe_callB call_len_seq (by rfl) B.len PySem.boot_len (pa_cons (pv 2) pa_nil)) pe_int (nomark _)))))) (pss_one (ps_ret pe_bl)) pss_nil)
      (pss_cons (ps_par (i := 3) (j := 4) rfl scIsS.nd rfl rfl (by decide) rfl rfl (pa_cons pe_dnewK (pa_cons (pe_lst pa_nil) pa_nil)) (by rfl))
      (pss_cons (ps_for PassesOwn.never rfl (pi_tup (pv 0)) (pg_two (K := K) (i := 5) (j := 6) rfl rfl scIsS.nd rfl rfl rfl rfl)
        (pss_one (ps_for PassesOwn.never rfl (pi_tup (pv 6)) (pg_two (K := K) (i := 7) (j := 8) rfl rfl scIsS.nd rfl rfl rfl rfl)
          (pss_one (ps_dput hu (pv 3) (pv 7) (pe_tup (pa_cons (pv 5) (pa_cons (pv 8) pa_nil))) rfl)))))
      (pss_cons (ps_for PassesOwn.never rfl (pi_tup (TR.pe_revT (pv 2))) (pg_name (i := 9) scIsS.nd rfl (.inl rfl))
        (pss_one (ps_if (PW.pt (pw_and (pt_val (pe_callB (call_isD (K := K) rfl) (by rfl) mi boot_isinstance (pa_cons (pv 9) (pa_cons (pe_bltn (v := .ty "str") (by rfl) B.str (by decide +kernel) rfl) pa_nil)))) (pw_and1 (pt_cmp (pc_din hu (pv 9) (pv 3)) rfl))))
          (pss_cons (ps_for PassesOwn.never rfl (pi_tup (pe_ix (ix_tupJ (K := K) rfl) (pe_dget hu (pv 3) (pv 9) (fun _ _ => rfl)) pe_int (fun _ _ => rfl))) (pg_name (i := 10) scIsS.nd rfl (.inl rfl))
            (pss_one (ps_if (PW.pt (pw_or (pt_cmpR (op_eqD hu64) (pv 4) (pe_lst pa_nil) (nomark _)) (pw_or1 (pt_cmpR op_ne (pe_bm0 PySem.F.plainAttrs_list PySem.F.slot_list_pop PySem.F.type_list_pop mt_pop (pv 4)) (pv 10) (nomark _))))) (pss_one (ps_ret pe_bl)) pss_nil)))
          (pss_one (ps_expr (pe_appK (K := K) rfl (pv 4) (pa_cons (pe_ix (ix_tupJ (K := K) rfl) (pe_dget hu (pv 3) (pv 9) (fun _ _ => rfl)) pe_int (fun _ _ => rfl)) pa_nil)))))
          (pss_one (ps_if (PW.pt (pw_and (pt_val (pe_callB (call_isD (K := K) rfl) (by rfl) mi boot_isinstance (pa_cons (pv 9) (pa_cons (pe_bltn (v := .ty "int") (by rfl) B.int (by decide +kernel) rfl) pa_nil))))
              (pw_and (pt_not (pt_val (pe_callB (call_isD (K := K) rfl) (by rfl) mi boot_isinstance (pa_cons (pv 9) (pa_cons (pe_bltn (v := .ty "bool") (by rfl) mb (by decide +kernel) rfl) pa_nil)))))
              (pw_and1 (pt_cmpR op_le (pe_callB call_abs (by rfl) ma (by decide +kernel) (pa_cons (pv 9) pa_nil)) (pe_op op_pow pe_int pe_int) (nomark _))))))
            (pss_one (ps_expr (pe_appK (K := K) rfl (pv 4) (pa_cons pe_str pa_nil)))) (pss_one (ps_ret pe_bl)))))))
      (pss_one (ps_ret (pe_cmpR (op_eqD hu64) (pv 4) (pe_lst (pa_cons (pv 1) pa_nil)) (nomark _))))))), ?_⟩
    have no : isSay (ents ks) kind d = false → ∀ H', Ex T H H' → Q (.bl false) H' := fun e H' x => by
      have := k H' x
      rwa [e] at this
    refine ⟨v, rfl, v, d, "tuple", rfl, r, by simp, ⟨_, rfl, ?_⟩⟩
    show if (!subT (tyN d) "tuple") = true then _ else _
    cases hs : subT (tyN d) "tuple" with
    | false =>
      refine iteT (iteT (no ?_ H Ex.refl))
      cases d <;> first | rfl | exact absurd hs (by simp [subT, tyN])
    | true =>
      obtain ⟨ds, rfl⟩ : ∃ ds, d = .tuple ds := by
        cases d <;> first | exact ⟨_, rfl⟩ | exact absurd hs (by simp [subT, tyN])
      cases r with
      | @tup va xs _ hv rs =>
      have lx := rs.len
      have sq : SqT K H va xs := .inl (.inl hv)
      refine iteF ⟨_, rfl, va, xs, rfl, .inr sq, _, _, rfl, rfl, _, rfl, ?_⟩
      by_cases h1 : 1 ≤ ds.length
      rotate_left
      · rw [show decide ((xs.length : Int) < 1) = true from decide_eq_true (by omega)]
        refine iteT (iteT (no ?_ H Ex.refl))
        have : ds = [] := List.eq_nil_of_length_eq_zero (by omega)
        subst this
        rfl
      rw [show decide ((xs.length : Int) < 1) = false from decide_eq_false (by omega)]
      refine iteF ⟨_, rfl, va, xs, rfl, .inr sq, _, _, rfl, rfl, _, rfl, ?_⟩
      by_cases h4 : ds.length ≤ 400
      rotate_left
      · rw [show decide ((400 : Int) < (xs.length : Int)) = true from decide_eq_true (by omega)]
        refine iteT (no ?_ H Ex.refl)
        show (decide (ds.length ≤ 400) && _) = false
        rw [decide_eq_false h4]; rfl
      rw [show decide ((400 : Int) < (xs.length : Int)) = false from decide_eq_false (by omega)]
      refine iteF ?_
      have k36 := ents_36 ok.m6
      have kn6 := ok.h6
      obtain ⟨a, ks0, rfl, hks, pr⟩ := hk
      have hS : isSay (ents ks) kind (.tuple ds) = decide (bk (ents ks) ds = some [kind]) := by
        rw [isSay_bk ok.noNum, decide_eq_true h4, Bool.true_and]
      have nd' : ((ents ks).map (·.1)).Nodup := by rw [ents_makers]; exact ok.tt.nd
      refine fun D hD => ⟨by show 0 ≤ sizeLine; decide, fun n4 hn4 => ⟨_, _, rfl, ?_⟩⟩
      have x0 : Ex T H (upd (upd H D (.dK [])) n4 (.lst [])) := (Ex.new hD).trans (Ex.new hn4)
      have d0 : (upd (upd H D (.dK [])) n4 (.lst [])) D = some (.dK []) := by rw [upd_ne (ne_of_none upd_same hn4), upd_same]
      have e0 : (upd (upd H D (.dK [])) n4 (.lst [])) n4 = some (.lst []) := upd_same
      have fn4 : H n4 = none := by
        cases z : H n4 with
        | none => rfl
        | some o => rw [upd_ne (ne_of_none z hD), z] at hn4; cases hn4
      have nDn : D ≠ n4 := ne_of_none upd_same hn4
      generalize upd (upd H D (.dK [])) n4 (.lst []) = G0 at x0 d0 e0 ⊢
      clear hn4
      dsimp only
      refine ⟨_, rfl, a, rfl, ⟨ks0, x0.sqT tb hks⟩, for_it (n := ks0.length) walk_tup (fun i σ G => ∃ a5 a6 a7 a8 a9 a10, σ = [some (.ref a), some (.str kind), some (.ref va), some (.ref D), some (.ref n4), a5, a6, a7, a8, a9, a10] ∧ Ex T H G ∧ G n4 = some (.lst []) ∧ ∃ kvs acc, G D = some (.dK kvs) ∧ Paired (EnAt K G) kvs acc ∧ acc ++ ents (ks.drop i) = ents ks)
        ⟨none, none, none, none, none, none, rfl, x0, e0, [], [], d0, .nil, rfl⟩ (fun i σ G _ ⟨_, _, _, _, _, _, _, x, _⟩ => x.sqT tb hks) (fun i x σ G G2 hi ⟨a5, a6, a7, a8, a9, a10, eσ, xG, eG, kvs, acc, dG, pG, qa⟩ y => ?_) (fun σ G ⟨a5, a6, a7, a8, a9, a10, eσ, xG, eG, kvs, acc, dG, pG, qa⟩ => ?_)⟩
      · obtain ⟨rfl, hx⟩ := y
        subst eσ
        obtain ⟨kd, hkd, b, vm, rfl, hb, c2, ms, rfl, hc2, pm⟩ := paired_get pr hx
        have lm : ms.length = kd.2.length := paired_len pm
        have le : (kEnts kd).length = kd.2.length := by unfold kEnts; rw [List.length_map, List.length_zipIdx]
        rw [drop_at hkd] at qa
        refine ⟨b, _, rfl, xG.sqT tb hb, rfl, _, _, rfl, _, _, rfl, rfl, _, rfl, c2, rfl, ⟨ms, xG.sqT tb hc2⟩, for_it (n := ms.length) walk_tup (fun j σ G => ∃ a7 a8, σ = [some (.ref a), some (.str kind), some (.ref va), some (.ref D), some (.ref n4), some (.str kd.1), some (.ref c2), a7, a8, a9, a10] ∧ Ex T H G ∧ G n4 = some (.lst []) ∧ ∃ kvs acc, G D = some (.dK kvs) ∧ Paired (EnAt K G) kvs acc ∧ acc ++ ((kEnts kd).drop j ++ ents (ks.drop (i + 1))) = ents ks)
          ⟨a7, a8, rfl, xG, eG, kvs, acc, dG, pG, qa⟩ (fun j σ G _ ⟨_, _, _, x, _⟩ => x.sqT tb hc2) (fun j x σ G G2 hj ⟨a7, a8, eσ, xG, eG, kvs, acc, dG, pG, ra⟩ y => ?_) (fun σ G ⟨a7, a8, eσ, xG, eG, kvs, acc, dG, pG, ra⟩ => ?_)⟩
        · obtain ⟨rfl, hv⟩ := y
          subst eσ
          obtain ⟨mk, hm, b3, vf, rfl, hb3, hfl⟩ := paired_get pm hv
          have hke : (kEnts kd)[j]? = some (mk.1, kd.1, j, mk.2) := by
            unfold kEnts
            rw [List.getElem?_map, List.getElem?_zipIdx, hm]
            simp
          rw [drop_at hke] at ra
          refine ⟨b3, _, rfl, xG.sqT tb hb3, rfl, _, _, rfl, _, _, rfl, rfl, ?_⟩
          refine ⟨_, rfl, _, rfl, by show 2 ≤ sizeLine; decide, fun t ht => ⟨_, rfl, _, rfl, ?_⟩⟩
          have x4 : Ex T G2 (upd G2 t (.tup [.str kd.1, vf])) := Ex.new ht
          have t4 : (upd G2 t (.tup [.str kd.1, vf])) t = some (.tup [.str kd.1, vf]) := upd_same
          have d4 : (upd G2 t (.tup [.str kd.1, vf])) D = some (.dK kvs) := by rw [upd_ne (ne_of_none dG ht)]; exact dG
          have e4 : (upd G2 t (.tup [.str kd.1, vf])) n4 = some (.lst []) := by rw [upd_ne (ne_of_none eG ht)]; exact eG
          have p4 : Paired (EnAt K (upd G2 t (.tup [.str kd.1, vf]))) kvs acc := paired_imp (fun _ _ z => EnAt.to (sqT_new ht) z) pG
          generalize upd G2 t (.tup [.str kd.1, vf]) = G4 at x4 t4 d4 e4 p4 ⊢
          have nm : mk.1 ∉ acc.map (·.1) := fun z => by
            have e := congrArg (List.map (fun e : Ent => e.1)) ra
            rw [List.map_append] at e
            rw [← e] at nd'
            exact (List.nodup_append.mp nd').2.2 _ z _ (by simp) rfl
          have la : acc.length ≤ 36 := by
            have := congrArg List.length ra
            rw [List.length_append] at this
            omega
          have xG := xG.trans x4
          refine ⟨D, _, rfl, DPut.k (k := .inr mk.1) d4 (small1000 (by rw [paired_len p4]; omega)), _, _, rfl, xG.upd hD, by rw [upd_ne nDn.symm]; exact e4, _, acc ++ [(mk.1, kd.1, j, mk.2)], upd_same, enPut (m := (mk.1, kd.1, j, mk.2)) d4 p4 nm (.inl (.inl t4)) (hfl.to fun _ _ q => xG.sqT tb q), by rw [← ra]; simp⟩
        · subst eσ
          rw [lm, ← le, List.drop_length] at ra
          exact ⟨_, _, _, _, _, _, rfl, xG, eG, kvs, acc, dG, pG, by simpa using ra⟩
      subst eσ
      rw [paired_len pr, List.drop_length] at qa
      have ea : acc = ents ks := by rw [← qa]; simp [ents]
      subst ea
      clear qa x0 d0 e0
      refine ⟨_, rfl, va, xs, rfl, xG.sqT tb sq, fun c hc => ?_⟩
      have tb1 := xG.tb tb
      have x1 : Ex T G (upd G c (.tup xs.reverse)) := Ex.new hc
      have c1 : (upd G c (.tup xs.reverse)) c = some (.tup xs.reverse) := upd_same
      have d1 : (upd G c (.tup xs.reverse)) D = some (.dK kvs) := by rw [upd_ne (ne_of_none dG hc)]; exact dG
      have e1 : (upd G c (.tup xs.reverse)) n4 = some (.lst []) := by rw [upd_ne (ne_of_none eG hc)]; exact eG
      have p1 : Paired (EnAt K (upd G c (.tup xs.reverse))) kvs (ents ks) := paired_imp (fun _ _ z => EnAt.to (sqT_new hc) z) pG
      have xG := xG.trans x1
      generalize upd G c (.tup xs.reverse) = G1 at xG c1 d1 e1 p1 ⊢
      clear x1 hc tb1 dG eG pG
      have Dn : D ∉ T := fun z => by
        obtain ⟨ps, e, _⟩ := tb D z
        rw [hD] at e; cases e
      have n4n : n4 ∉ T := fun z => by
        obtain ⟨ps, e, _⟩ := tb n4 z
        rw [fn4] at e; cases e
      refine ⟨c, rfl, ⟨_, .inl (.inl c1)⟩, for_it (n := xs.reverse.length) walk_tup (fun i σ G => ∃ st a9 a10, σ = [some (.ref a), some (.str kind), some (.ref va), some (.ref D), some (.ref n4), a5, a6, a7, a8, a9, a10] ∧ IsJ K T ks n4 D c kvs xs H G st ∧ bk (ents ks) (ds.drop (ds.length - i)) = some st ∧ st.length ≤ i)
        ⟨[], a9, a10, rfl, ⟨xG, e1, d1, p1, c1, fun _ h => by simp at h⟩, by rw [Nat.sub_zero, List.drop_length]; rfl, Nat.le_refl _⟩ (fun i σ G _ ⟨_, _, _, _, J, _⟩ => .inl (.inl J.c)) (fun i x σ G G2 hi ⟨st, a9, a10, eσ, J, hb, ls⟩ y => ?_) (fun σ G ⟨st, a9, a10, eσ, J, hb, ls⟩ => ?_)⟩
      · obtain ⟨rfl, hx⟩ := y
        subst eσ
        rw [List.length_reverse] at hi
        have hx : xs[xs.length - 1 - i]? = some x := by rw [← List.getElem?_reverse hi]; exact hx
        obtain ⟨d0, hd0, rd⟩ := (rs.ex J.x tb).get hx
        have ed : ds.drop (ds.length - (i + 1)) = d0 :: ds.drop (ds.length - i) := by
          have h1 : ds[ds.length - (i + 1)]? = some d0 := by rw [← hd0]; congr 1; omega
          rw [drop_at h1]
          congr 2
          omega
        have hbc := bk_cons (d := d0) hb
        rw [← ed] at hbc
        have fail : bk (ents ks) (ds.drop (ds.length - (i + 1))) = none → ∀ H', Ex T H H' → Q (.bl false) H' := fun e => no (by rw [hS, bk_drop e]; rfl)
        refine ⟨_, rfl, x, d0, "str", rfl, rd, by simp, ⟨_, rfl, ?_⟩⟩
        show if subT (tyN d0) "str" = true then _ else _
        cases hs0 : subT (tyN d0) "str" with
        | true =>
          obtain ⟨z, rfl⟩ : ∃ z, d0 = .str z := by
            cases d0 <;> first | exact ⟨_, rfl⟩ | exact absurd hs0 (by simp [subT, tyN])
          cases rd with
          | str _ hz =>
          refine iteT ⟨_, rfl, _, rfl, D, _, rfl, DGet.k (k := .inr z) J.d, ⟨_, rfl, ?_⟩⟩
          have ew : entW (ents ks) (.str z) = (match entOf (ents ks) z with | some e => some (e.2.1, e.2.2.2) | none => none) := rfl
          rcases en_val (z := z) J.p with ⟨h1, h2⟩ | ⟨e0, v0, h1, h2, h3⟩
          · rw [h2]
            refine iteF ⟨_, rfl, .str z, .str z, "int", rfl, .str _ hz, by simp, ⟨_, rfl, ?_⟩⟩
            show if subT "str" "int" = true then _ else _
            rw [show subT "str" "int" = false from rfl]
            refine iteF (iteF ?_)
            rw [ew, h1] at hbc
            exact fail hbc _ J.x
          · obtain ⟨_, t, vf, rfl, ht, fa, rfl, hfa⟩ := h3
            rw [h2]; rw [ew, h1] at hbc
            have hbc : bk (ents ks) (ds.drop (ds.length - (i + 1))) = if e0.2.2.2 <+: st then some (e0.2.1 :: st.drop e0.2.2.2.length) else none := hbc
            have g2 : ∀ {G : Hp}, G D = some (.dK kvs) → DGet G D (.str z) (some (.ref t)) := fun h => h2 ▸ DGet.k (k := .inr z) h
            refine iteT ⟨_, rfl, _, rfl, D, .ref t, rfl, g2 J.d, t, _, _, _, rfl, rfl, ht, atI_nat (j := 1) rfl, fa, rfl, ⟨_, hfa⟩, ?_⟩
            refine for_it (n := (e0.2.2.2.map V.str).length) walk_tup (fun l σ G => ∃ st' a10, σ = [some (.ref a), some (.str kind), some (.ref va), some (.ref D), some (.ref n4), a5, a6, a7, a8, some (.str z), a10] ∧ IsJ K T ks n4 D c kvs xs H G st' ∧ SqT K G t [.str e0.2.1, .ref fa] ∧ SqT K G fa (e0.2.2.2.map V.str) ∧ st = e0.2.2.2.take l ++ st') ⟨st, a10, rfl, J, ht, hfa, rfl⟩ (fun l σ G _ ⟨_, _, _, _, _, h, _⟩ => h) (fun l x σ G G2 hl ⟨st', a10, eσ, J, ht, hfa, est⟩ y => ?_) (fun σ G ⟨st', a10, eσ, J9, ht, hfa, est⟩ => ?_)
            · obtain ⟨rfl, hxl⟩ := y
              subst eσ
              rw [List.getElem?_map] at hxl
              obtain ⟨f0, hf0, rfl⟩ := Option.map_eq_some_iff.mp hxl
              refine ⟨_, rfl, by show 0 ≤ sizeLine; decide, fun c0 hc0 => ?_⟩
              have J := J.new (o := .lst []) hc0
              have ht := sqT_new (o := .lst []) hc0 _ _ ht
              have hfa := sqT_new (o := .lst []) hc0 _ _ hfa
              have hc1 : (upd G2 c0 (.lst [])) c0 = some (.lst []) := upd_same
              generalize upd G2 c0 (.lst []) = G3 at J ht hfa hc1 ⊢
              refine ⟨.list (st'.reverse.map PyData.str), .list [], .lst (.inl (.inl J.e)) (dp_strs _), .lst (.inl (.inl hc1)) .nil, strs_shaped (J.pn ok), rfl, _, rfl, ?_⟩
              rw [show PyData.eqv (.list (st'.reverse.map PyData.str)) (.list []) = decide (st'.reverse = []) from eqv_strs _ []]
              cases st' with
              | nil =>
                refine iteT (iteT (fail ?_ _ J.x))
                rw [hbc, if_neg]
                rintro ⟨r, hr⟩
                rw [← hr, List.append_nil] at est
                have h1 := congrArg List.length est
                rw [List.length_append, List.length_take] at h1
                have h2 := (List.getElem?_eq_some_iff.mp hf0).1
                omega
              | cons w st2 =>
                rw [show decide ((w :: st2).reverse = []) = false from decide_eq_false (by simp)]
                refine iteF ⟨_, rfl, .inl ⟨rfl, _, .inl (.inl J.e)⟩, n4, _, .str w, rfl, rfl, J.e, by simp, _, rfl, rfl, _, rfl, ?_⟩
                have lf := (List.getElem?_eq_some_iff.mp hf0).1
                by_cases ew0 : w = f0
                · subst ew0
                  rw [show (!decide (V.str w = V.str w)) = false by simp]
                  refine iteF ⟨st2, _, rfl, J.put fn4 (st' := st2) (by simp) (fun x hx => J.ok x (List.mem_cons_of_mem _ hx)), sqT_list J.e _ _ ht, sqT_list J.e _ _ hfa, ?_⟩
                  rw [est, List.take_succ, hf0]
                  simp
                · rw [show (!decide (V.str w = V.str f0)) = true by simpa using ew0]
                  refine iteT (fail ?_ _ (J.x.upd fn4))
                  rw [hbc, if_neg]
                  rintro ⟨r, hr⟩
                  have h1 : (e0.2.2.2 ++ r)[l]? = some f0 := by rw [List.getElem?_append_left lf]; exact hf0
                  rw [hr, est, List.getElem?_append_right (by rw [List.length_take]; omega)] at h1
                  rw [show l - (List.take l e0.2.2.2).length = 0 by rw [List.length_take]; omega] at h1
                  exact ew0 (Option.some.inj h1)
            · subst eσ
              rw [List.length_map, List.take_length] at est
              have ke : e0.2.1 ∈ kNames ks := by
                obtain ⟨k, hk, h⟩ := List.mem_flatMap.mp (List.mem_of_find?_eq_some h1)
                obtain ⟨x, hx, e⟩ := List.mem_map.mp h
                rw [← e]
                exact List.mem_map_of_mem hk
              subst est
              rw [if_pos (List.prefix_append _ _), List.drop_left] at hbc
              rw [List.length_append] at ls
              refine ⟨_, rfl, .inl ⟨rfl, _, .inl (.inl J9.e)⟩, ⟨_, rfl, _, rfl, D, .ref t, rfl, g2 J9.d, t, _, _, _, rfl, rfl, ht, atI_nat (j := 0) rfl, n4, _, _, rfl, rfl, J9.e, small1000 (by rw [List.length_map, List.length_reverse]; omega), ?_⟩⟩
              refine ⟨e0.2.1 :: st', _, _, rfl, J9.put fn4 (by simp) (fun x hx => ?_), hbc, by rw [List.length_cons]; omega⟩
              rcases List.mem_cons.mp hx with rfl | hx
              · exact .inr ke
              · exact J9.ok x hx
        | false =>
          refine iteF ⟨_, rfl, x, d0, "int", rfl, rd, by simp, ⟨_, rfl, ?_⟩⟩
          show if subT (tyN d0) "int" = true then _ else _
          cases hi0 : subT (tyN d0) "int" with
          | false =>
            refine iteF (iteF (fail ?_ _ J.x))
            rw [hbc, show entW (ents ks) d0 = none by cases d0 <;> first | rfl | cases (show true = false from hi0) | cases (show true = false from hs0)]
          | true =>
            refine iteT ⟨_, rfl, x, d0, "bool", rfl, rd, by simp, ⟨_, rfl, ?_⟩⟩
            show if (!subT (tyN d0) "bool") = true then _ else _
            cases rd with
            | bl b =>
              refine iteF (iteF (fail ?_ _ J.x))
              rw [hbc]; rfl
            | int n =>
              refine iteT ⟨_, rfl, n, rfl, _, _, rfl, rfl, ⟨by decide, by decide⟩, _, _, rfl, rfl, _, rfl, ?_⟩
              have hp : decide ((if n < 0 then -n else n) ≤ (10 : Int) ^ (Int.toNat 12)) = isNumber (.int n) := by
                show _ = (decide (-1000000000000 ≤ n) && decide (n ≤ 1000000000000))
                rw [show (10 : Int) ^ (Int.toNat 12) = 1000000000000 by decide, ← Bool.decide_and]
                refine decide_eq_decide.mpr ?_
                split <;> omega
              rw [hp]
              cases hn : isNumber (.int n) with
              | false =>
                refine iteF (fail ?_ _ J.x)
                rw [hbc, show entW (ents ks) (.int n) = none by show (if isNumber (.int n) = true then _ else _) = _; rw [hn]; rfl]
              | true =>
                rw [show entW (ents ks) (.int n) = some (("number" : Str), []) by show (if isNumber (.int n) = true then _ else _) = _; rw [hn]; rfl] at hbc
                refine iteT ⟨_, rfl, .inl ⟨rfl, _, .inl (.inl J.e)⟩, ⟨n4, _, _, rfl, rfl, J.e, small1000 (by rw [List.length_map, List.length_reverse]; omega), ?_⟩⟩
                refine ⟨("number" : Str) :: st, _, _, rfl, J.put fn4 (by simp) (fun x hx => ?_), hbc, by rw [List.length_cons]; omega⟩
                rcases List.mem_cons.mp hx with rfl | hx
                · exact .inl rfl
                · exact J.ok x hx
            | _ => exact absurd hi0 (by simp [subT, tyN])
      · subst eσ
        rw [List.length_reverse, lx, Nat.sub_self, List.drop_zero] at hb
        refine ⟨_, rfl, _, rfl, by show 1 ≤ sizeLine; decide, fun c0 hc0 => ?_⟩
        have J := J.new (o := .lst [.str kind]) hc0
        have hc1 : (upd G c0 (.lst [.str kind])) c0 = some (.lst [.str kind]) := upd_same
        generalize upd G c0 (.lst [.str kind]) = G3 at J hc1 ⊢
        refine ⟨.list (st.reverse.map PyData.str), .list [.str kind], .lst (.inl (.inl J.e)) (dp_strs _), .lst (.inl (.inl hc1)) (dp_strs [kind]), strs_shaped (J.pn ok), strs_shaped (zs := [kind]) (fun z hz => by rw [List.mem_singleton.mp hz]; exact pk), ?_⟩
        rw [show PyData.eqv (.list (st.reverse.map PyData.str)) (.list [.str kind]) = decide (st.reverse = [kind]) from eqv_strs _ [kind]]
        have e := k _ J.x
        rw [hS, hb] at e
        rw [show decide (st.reverse = [kind]) = decide (some st = some [kind]) from decide_eq_decide.mpr ⟨fun z => by rw [← List.reverse_reverse st, z]; rfl, fun z => by rw [Option.some.inj z]; rfl⟩]
        exact e
end
end JF
set_option Elab.async false
set_option linter.all false
set_option maxRecDepth 100000
set_option maxHeartbeats 1000000
/-! what _law_bent makes: data without dicts, fit for repr -/
namespace JF
open PySem PySem.Spec PyProof PyProof.Rows L2 GxR GA PC
structure Bn (k n : Nat) (d : PyData) : Prop where
  g : Gd k n d
  nd : d.hasDict = false
structure BnA (k n : Nat) (ds : List PyData) : Prop where
  g : GdA k n ds
  nd : PyData.hasDictAll ds = false
theorem BnA.nil {k n : Nat} : BnA k n [] := ⟨GdA.nil, rfl⟩
theorem BnA.le {k k' n n' : Nat} {ds : List PyData} (h : BnA k n ds) (h1 : k ≤ k') (h2 : n ≤ n') : BnA k' n' ds := ⟨h.g.le h1 h2, h.nd⟩
theorem Bn.le {k k' n n' : Nat} {d : PyData} (h : Bn k n d) (h1 : k ≤ k') (h2 : n ≤ n') : Bn k' n' d := ⟨h.g.le h1 h2, h.nd⟩
theorem BnA.app {k a b : Nat} {xs ys : List PyData} (x : BnA k a xs) (y : BnA k b ys) : BnA k (a + b) (xs ++ ys) := ⟨x.g.app y.g (Nat.le_refl _), by rw [hd_app, x.nd, y.nd]; rfl⟩
theorem BnA.cons {k a b : Nat} {d : PyData} {ds : List PyData} (x : Bn k a d) (y : BnA k b ds) : BnA k (a + 1 + b) (d :: ds) := ⟨GdA.cons x.g y.g (Nat.le_refl _), by show (_ || _) = false; rw [x.nd, y.nd]; rfl⟩
theorem BnA.one {k n : Nat} {d : PyData} (x : Bn k n d) : BnA k (n + 1) [d] := (BnA.cons x (BnA.nil (n := 0))).le (Nat.le_refl _) (by omega)
theorem BnA.take {k n : Nat} {ds : List PyData} (x : BnA k n ds) (i : Nat) : BnA k n (ds.take i) := by
  refine ⟨(x.g.take i).le (Nat.le_refl _) ?_, ?_⟩
  · have := wAll_take_drop ds i
    have := x.g.wt
    omega
  · have h := x.nd
    rw [← List.take_append_drop i ds, hd_app, Bool.or_eq_false_iff] at h
    exact h.1
theorem BnA.drop {k n : Nat} {ds : List PyData} (x : BnA k n ds) (i : Nat) : BnA k n (ds.drop i) := by
  refine ⟨(x.g.drop i).le (Nat.le_refl _) ?_, ?_⟩
  · have := wAll_take_drop ds i
    have := x.g.wt
    omega
  · have h := x.nd
    rw [← List.take_append_drop i ds, hd_app, Bool.or_eq_false_iff] at h
    exact h.2
theorem Bn.tup {k n : Nat} {ds : List PyData} (x : BnA k n ds) : Bn (k + 1) n (.tuple ds) := ⟨Gd.tup x.g, x.nd⟩
theorem Bn.lst {k n : Nat} {ds : List PyData} (x : BnA k n ds) : Bn (k + 1) n (.list ds) := ⟨Gd.lst x.g, x.nd⟩
theorem Bn.fit {k n : Nat} {d : PyData} (x : Bn k n d) (hk : k ≤ 60) (hn : n ≤ 900000) : Fit d := fit_of x.g hk hn (.inr x.nd)
theorem bn_str {z : Str} (h : Pn z) (l : z.length ≤ 10) {k : Nat} : Bn k 10 (.str z) := ⟨Gd.str (fun c hc => Nat.lt_trans (h c hc) (by decide)) l, rfl⟩
theorem bn_non {k : Nat} : Bn k 0 .none := ⟨⟨rfl, rfl, Nat.zero_le _, Nat.zero_le _⟩, rfl⟩
theorem bn_bl {k : Nat} (b : Bool) : Bn k 0 (.bool b) := ⟨⟨rfl, rfl, Nat.zero_le _, Nat.zero_le _⟩, rfl⟩
theorem bn_int {k : Nat} {n : Int} (h1 : -2000000000000 ≤ n) (h2 : n ≤ 2000000000000) : Bn k 42 (.int n) := by
  have e2 : (2 : Nat) ^ 41 = 2199023255552 := by decide
  have l : (PyData.shown (.int n)).length ≤ 16 := by
    have h : n.natAbs < 10 ^ 13 := by
      have e : (10 : Nat) ^ 13 = 10000000000000 := by decide
      omega
    have := int_text_length_le10 (k := 13) (by decide) h
    show (Str.ofString (toString n)).length ≤ 16
    rw [PySem.ofString_length]
    omega
  have lg : n.natAbs.log2 ≤ 41 := by
    by_cases h0 : n.natAbs = 0
    · rw [h0]; decide
    · have : n.natAbs.log2 < 41 := (Nat.log2_lt h0).mpr (by omega)
      omega
  refine ⟨⟨decide_eq_true (by omega), decide_eq_true l, Nat.zero_le _, ?_⟩, rfl⟩
  show (if n == 0 then 0 else n.natAbs.log2 + 1) ≤ 42
  split <;> omega
theorem bn_ens {d : PyData} (h : EnS d) {k : Nat} : Bn k 42 d := by
  rcases h with ⟨z, rfl, hz⟩ | ⟨n, rfl, h1, h2⟩
  · exact (bn_str (any_pn (high_any hz)) (high_len hz)).le (Nat.le_refl _) (by decide)
  · exact bn_int (by omega) (by omega)
theorem bna_ens {k : Nat} : ∀ {ds : List PyData}, (∀ d ∈ ds, EnS d) → BnA k (43 * ds.length) ds
  | [], _ => BnA.nil
  | d :: ds, h => (BnA.cons (bn_ens (h d (List.mem_cons_self ..))) (bna_ens fun x hx => h x (List.mem_cons_of_mem _ hx))).le (Nat.le_refl _) (by rw [List.length_cons]; omega)
theorem BnA.get {k n : Nat} {ds : List PyData} (h : BnA k n ds) : ∀ d ∈ ds, Bn k n d := fun d hd => by
  obtain ⟨i, hi⟩ := List.mem_iff_getElem?.mp hd
  obtain ⟨g, e⟩ := h.g.get hi
  refine ⟨g.le (Nat.le_refl _) ?_, ?_⟩
  · have := h.g.wt
    omega
  · have h1 := h.nd
    obtain ⟨xs, ys, rfl⟩ := List.append_of_mem hd
    rw [hd_app, Bool.or_eq_false_iff] at h1
    have h2 : (d.hasDict || PyData.hasDictAll ys) = false := h1.2
    exact (Bool.or_eq_false_iff.mp h2).1
theorem len_weight : ∀ ds : List PyData, ds.length ≤ PyData.weightAll ds
  | [] => Nat.le_refl _
  | d :: ds => by
    have := len_weight ds
    show ds.length + 1 ≤ d.weight + 1 + PyData.weightAll ds
    omega
theorem BnA.len {k n : Nat} {ds : List PyData} (h : BnA k n ds) : ds.length ≤ n := Nat.le_trans (len_weight ds) h.g.wt
/-- entries exchanged for short texts -/
theorem bna_map {k : Nat} {f : PyData → PyData} (hf : ∀ d, f d = d ∨ ∃ z, f d = .str z ∧ Pn z ∧ z.length ≤ 10) : ∀ {ds : List PyData} {n : Nat}, BnA k n ds → BnA k (n + 10 * ds.length) (ds.map f)
  | [], _, _ => BnA.nil
  | d :: ds, n, h => by
    obtain ⟨g1, g2, g3⟩ := h.g.inv
    have hn : (d.hasDict || PyData.hasDictAll ds) = false := h.nd
    rw [Bool.or_eq_false_iff] at hn
    have t := bna_map hf (ds := ds) ⟨g2, hn.2⟩
    have h1 : Bn k (d.weight + 10) (f d) := by
      rcases hf d with e | ⟨z, e, hz, lz⟩
      · rw [e]; exact ⟨g1.le (Nat.le_refl _) (by omega), hn.1⟩
      · rw [e]; exact (bn_str hz lz).le (Nat.le_refl _) (by omega)
    exact (BnA.cons h1 t).le (Nat.le_refl _) (by rw [List.length_cons]; omega)
/-- a tuple of few entries, or none -/
def Tw (d : PyData) : Prop := ∀ rs, d = .tuple rs → rs.length ≤ 2000
theorem tw_of {rs : List PyData} (h : rs.length ≤ 2000) : Tw (.tuple rs) := fun _ e => by cases e; exact h
section
variable {K : PySem.W.Frag} {T : List Addr} {p q : Addr} {b : Nat} {G : Hp}
theorem cat_big (L : Wl T p q b G) {a c : Addr} {xs ys : List V} {Q : VK} (h : off p q G a = some (.tup xs)) (h2 : off p q G c = some (.tup ys)) (le : xs.length + ys.length ≤ 100000) (k : ∀ c G', Ex T (off p q G) (off p q G') → Wl T p q b G' → off p q G' c = some (.tup (xs ++ ys)) → Q (.ref c) G') : rCatA K (.ref a) (.ref c) G Q := by
  refine ⟨a, c, xs, ys, rfl, rfl, .inl (.inl (off_un _ _ h)), .inl (.inl (off_un _ _ h2)), Nat.le_trans le (by decide), fun e => k c G Ex.refl L ?_, fun _ e => k a G Ex.refl L ?_, fun _ _ d hd => ?_⟩
  · rw [e]; exact h2
  · rw [e, List.append_nil]; exact h
  · obtain ⟨L', x, e⟩ := L.new (o := .tup (xs ++ ys)) hd
    exact k d _ x L' e
end
end JF
set_option Elab.async false
set_option linter.all false
set_option maxRecDepth 100000
set_option maxHeartbeats 1000000
namespace JF
open PySem PySem.Spec PyProof PyProof.Rows L2 GxR GA PC
abbrev sBe : Stmt := topS 39
abbrev nBe : List Str := ["well", "value", "kinds", "at", "k", "title", "entries", "entry", "way", "ways"]
theorem scBe : FnScope ["well", "value", "kinds", "at", "k", "title", "entries", "entry", "way", "ways"] ["well", "value", "kinds"] (defScope sBe) := ⟨rfl, rfl, rfl, by decide +kernel, rfl, by decide +kernel, by decide +kernel⟩
def spBe (K : PySem.W.Frag) (T : List Addr) : Sp := fun vs H Q _ => ∃ (p q : Addr) (b : Nat) (va : Addr) (xs : List V) (ds : List PyData) (a : Addr) (kxs : List V) (ks : List Kd), vs = [.ref p, .ref va, .ref a] ∧ Wl T p q b H ∧ b + 7 < 1000000 ∧
  off p q H va = some (.tup xs) ∧ DxAll K (off p q H) xs ds ∧ (∀ d ∈ ds, EnS d) ∧ 1 ≤ ds.length ∧ ds.length ≤ 900 ∧
  off p q H a = some (.tup kxs) ∧ Paired (KdT p q H) kxs ks ∧ KsOk ks ∧
  ∀ H' v r, Bn 3 130000 r → Tw r → Dx K (off p q H') v r → Ex T (off p q H) (off p q H') → Wl T p q (b + 7) H' → Q v H'
section
variable {P : Program} {w : World} {K : PySem.W.Frag} {mg : Str → Option Value} {base : Heap} {T : List Addr}
theorem ok_be {f aD : Addr} {fd dD : FuncData} (F : Fun K "_law_bent" "_law_bent" sBe f fd) (B : BI mg) (ml : mg "list" = none)
    (GD : FnOk P w K mg base CX0 1 aD dD ["well", "many"] spDraw) (mD : mg "_law_draw" = some (.ref aD)) (kD : PySem.W.keepIn K (.ref aD) = true) (bD : Binds K dD ["well", "many"] []) :
    FnOk P w K mg base CX0 2 f fd ["well", "value", "kinds"] (spBe K T) := by
  refine F.ok scBe (fun vs H Q E h => ?_) (fun cdv A outer s H vs Q E hr h => ?_)
  · obtain ⟨p, q, b, va, xs, ds, a, kxs, ks, rfl, _⟩ := h
    rfl
  · obtain ⟨p, q, b, va, xs, ds, a, kxs, ks, rfl, L, hb, hv, rs, en, l1, l9, ha, pr, ok, k⟩ := h
    refine ⟨_, pss_cons (ps_par (i := 3) (j := 4) rfl scBe.nd rfl rfl (by decide) rfl rfl (pa_cons (pe_call GD (hr.mono (by decide)) (by rfl) mD kD bD .nil pass0 (pa_cons (pv 0) (pa_cons (pe_op op_add (pe_callB call_len_seq (by rfl) B.len PySem.boot_len (pa_cons (pv 1) pa_nil)) pe_int) pa_nil)))
          (pa_cons (pe_call GD (hr.mono (by decide)) (by rfl) mD kD bD .nil pass0 (pa_cons (pv 0) (pa_cons (pe_callB call_len_seq (by rfl) B.len PySem.boot_len (pa_cons (pv 1) pa_nil)) pa_nil))) pa_nil)) (by rfl))
      (pss_cons (ps_set (i := 5) scBe.nd rfl (.inl rfl) (pe_ix (ix_tupJ (K := K) rfl) (pe_ix (ix_tupJ (K := K) rfl) (pv 2) (pe_call GD (hr.mono (by decide)) (by rfl) mD kD bD .nil pass0 (pa_cons (pv 0) (pa_cons (pe_callB call_len_seq (by rfl) B.len PySem.boot_len (pa_cons (pv 2) pa_nil)) pa_nil))) (fun _ _ => rfl)) pe_int (fun _ _ => rfl)))
      (pss_cons (ps_set (i := 5) scBe.nd rfl (.inl rfl) (pe_ix (ix_tupJ (K := K) rfl) (pe_ix (ix_tupJ (K := K) rfl) (pv 5) (pe_call GD (hr.mono (by decide)) (by rfl) mD kD bD .nil pass0 (pa_cons (pv 0) (pa_cons (pe_callB call_len_seq (by rfl) B.len PySem.boot_len (pa_cons (pv 5) pa_nil)) pa_nil))) (fun _ _ => rfl)) pe_int (fun _ _ => rfl)))
      (pss_cons (ps_set (i := 6) scBe.nd rfl (.inl rfl) (pe_lst (pa_cons (pv 5) (pa_cons (pe_ix (ix_tupJ (K := K) rfl) (pe_ix (ix_tupJ (K := K) rfl) (pv 2) pe_int (fun _ _ => rfl)) pe_int (fun _ _ => rfl))
          (pa_cons pe_int (pa_cons (pe_un un_neg pe_int) (pa_cons (pe_op op_add (pe_op op_pow pe_int pe_int) pe_int) (pa_cons (pe_op op_sub (pe_un un_neg (pe_op op_pow pe_int pe_int)) pe_int)
          (pa_cons pe_bl (pa_cons pe_non (pa_cons pe_str (pa_cons pe_str (pa_cons (pe_tup pa_nil) (pa_cons (pe_tup (pa_cons (pv 5) pa_nil)) (pa_cons (pe_lst (pa_cons (pv 5) pa_nil)) (pa_cons (pv 1) (pa_cons pe_int pa_nil)))))))))))))))))
      (pss_cons (ps_par (i := 7) (j := 8) rfl scBe.nd rfl rfl (by decide) rfl rfl (pa_cons (pe_ix ix_list (pv 6) (pe_call GD (hr.mono (by decide)) (by rfl) mD kD bD .nil pass0 (pa_cons (pv 0) (pa_cons (pe_callB call_len_seq (by rfl) B.len PySem.boot_len (pa_cons (pv 6) pa_nil)) pa_nil))) (fun _ _ => rfl))
          (pa_cons (pe_call GD (hr.mono (by decide)) (by rfl) mD kD bD .nil pass0 (pa_cons (pv 0) (pa_cons pe_int pa_nil))) pa_nil)) (by rfl))
      (pss_cons (ps_set (i := 9) scBe.nd rfl (.inl rfl) (pe_lst (pa_cons (pe_op op_catA (pe_op op_catA (pe_slice sl_tupA (pv 1) po_none (po_some (pv 3))) (pe_tup (pa_cons (pv 7) pa_nil))) (pe_slice sl_tupA (pv 1) (po_some (pe_op op_add (pv 3) pe_int)) po_none))
          (pa_cons (pe_op op_catA (pe_op op_catA (pe_slice sl_tupA (pv 1) po_none (po_some (pv 3))) (pe_tup (pa_cons (pv 5) pa_nil))) (pe_slice sl_tupA (pv 1) (po_some (pe_op op_add (pv 3) pe_int)) po_none))
          (pa_cons (pe_op op_catA (pe_op op_catA (pe_slice sl_tupA (pv 1) po_none (po_some (pv 3))) (pe_tup (pa_cons (pv 7) pa_nil))) (pe_slice sl_tupA (pv 1) (po_some (pv 3)) po_none)) pa_nil)))))
      (pss_cons (ps_set (i := 9) scBe.nd rfl (.inl rfl) (pe_op op_cat (pv 9) (pe_lst (pa_cons (pe_op op_catA (pe_slice sl_tupA (pv 1) po_none (po_some (pv 3))) (pe_slice sl_tupA (pv 1) (po_some (pe_op op_add (pv 3) pe_int)) po_none))
          (pa_cons (pe_op op_catA (pe_slice sl_tupA (pv 1) po_none (po_some (pv 4))) (pe_slice sl_tupA (pv 1) (po_some (pv 3)) po_none))
          (pa_cons (pe_op op_catA (pe_slice sl_tupA (pv 1) (po_some (pv 3)) po_none) (pe_slice sl_tupA (pv 1) po_none (po_some (pv 3)))) pa_nil))))))
      (pss_cons (ps_set (i := 9) scBe.nd rfl (.inl rfl) (pe_op op_cat (pv 9) (pe_lst (pa_cons (pe_op op_catA (pe_op op_catA (pe_slice sl_tupA (pv 1) po_none (po_some (pv 4))) (pe_slice sl_tupA (pv 1) (po_some (pv 3)) (po_some (pe_op op_add (pv 3) pe_int)))) (pe_slice sl_tupA (pv 1) (po_some (pe_op op_add (pv 4) pe_int)) po_none))
          (pa_cons (pe_ix ix_list (pe_lst (pa_cons (pe_callTy call_list_of (by rfl) ml (by decide +kernel) (pa_cons (pv 1) pa_nil)) (pa_cons (pe_tup (pa_cons (pv 1) pa_nil)) (pa_cons (pv 7) (pa_cons (pe_op op_catA (pv 1) (pv 1)) pa_nil)))))
              (pe_call GD (hr.mono (by decide)) (by rfl) mD kD bD .nil pass0 (pa_cons (pv 0) (pa_cons pe_int pa_nil))) (fun _ _ => rfl)) pa_nil)))))
      (pss_one (ps_ret (pe_ix ix_list (pv 9) (pv 8) (fun _ _ => rfl))))))))))), ?_⟩
    have lx := rs.len
    have lk := paired_len pr
    have k1 := ok.h1
    have k6 := ok.h6
    have xx : Ex T (off p q H) (off p q H) := Ex.refl
    refine ⟨_, rfl, _, rfl, va, xs, rfl, .inr (.inl (.inl (off_un _ _ hv))), _, _, rfl, rfl, p, q, _, _, rfl, L.w, by omega, by omega, by omega, fun H1 i0 i00 i01 kp1 hw1 => ?_⟩
    obtain ⟨L1, x1⟩ := L.draw kp1 hw1
    obtain ⟨i, rfl⟩ := Int.eq_ofNat_of_zero_le i00
    have pr := paired_imp (fun _ _ z => z.to (Tk.ex L.tb x1)) pr
    have hv := L.keep x1 hv (fun _ z => by cases z)
    have ha := L.keep x1 ha (fun _ z => by cases z)
    have rs := rs.ex x1 L.tb
    have xx := xx.trans x1
    refine ⟨_, rfl, _, rfl, va, xs, rfl, .inr (.inl (.inl (off_un _ _ hv))), p, q, _, _, rfl, L1.w, by omega, by omega, by omega, fun H2 j0 j00 j01 kp2 hw2 => ?_⟩
    obtain ⟨L2, x2⟩ := L1.draw kp2 hw2
    obtain ⟨j, rfl⟩ := Int.eq_ofNat_of_zero_le j00
    have pr := paired_imp (fun _ _ z => z.to (Tk.ex L1.tb x2)) pr
    have hv := L1.keep x2 hv (fun _ z => by cases z)
    have ha := L1.keep x2 ha (fun _ z => by cases z)
    have rs := rs.ex x2 L1.tb
    have xx := xx.trans x2
    refine ⟨_, _, rfl, ?_⟩
    dsimp only
    refine ⟨_, rfl, _, rfl, _, rfl, a, kxs, rfl, .inr (.inl (.inl (off_un _ _ ha))), p, q, _, _, rfl, L2.w, by omega, by omega, by omega, fun H3 r3 r30 r31 kp3 hw3 => ?_⟩
    obtain ⟨L3, x3⟩ := L2.draw kp3 hw3
    have pr := paired_imp (fun _ _ z => z.to (Tk.ex L2.tb x3)) pr
    have hv := L2.keep x3 hv (fun _ z => by cases z)
    have ha := L2.keep x3 ha (fun _ z => by cases z)
    have rs := rs.ex x3 L2.tb
    have xx := xx.trans x3
    obtain ⟨v3, e3, m3⟩ := atI_of r30 r31
    obtain ⟨kd, hkd, b1, b2, ms, rfl, hb1, hb2, pm⟩ := paired_mem pr m3
    refine ⟨a, _, _, _, rfl, rfl, .inl (.inl (off_un _ _ ha)), e3, b1, _, _, _, rfl, rfl, .inl (.inl (off_un _ _ hb1)), atI_nat (j := 1) rfl, ?_⟩
    have lm := paired_len pm
    have km1 := ok.m1 kd hkd
    have km6 := ok.m6 kd hkd
    refine ⟨_, rfl, _, rfl, _, rfl, b2, ms, rfl, .inr (.inl (.inl (off_un _ _ hb2))), p, q, _, _, rfl, L3.w, by omega, by omega, by omega, fun H4 r4 r40 r41 kp4 hw4 => ?_⟩
    obtain ⟨L4, x4⟩ := L3.draw kp4 hw4
    have pr := paired_imp (fun _ _ z => z.to (Tk.ex L3.tb x4)) pr
    have pm := paired_imp (fun _ _ z => z.to (Tk.ex L3.tb x4)) pm
    have hv := L3.keep x4 hv (fun _ z => by cases z)
    have ha := L3.keep x4 ha (fun _ z => by cases z)
    have hb2 := L3.keep x4 hb2 (fun _ z => by cases z)
    have rs := rs.ex x4 L3.tb
    have xx := xx.trans x4
    obtain ⟨v4, e4, m4⟩ := atI_of r40 r41
    obtain ⟨mk, hmk, c1, c2, rfl, hc1, hc2⟩ := paired_mem pm m4
    have hi : isHigh (.str mk.1) = true := ok.tt.hi mk.1 (List.mem_flatMap.mpr ⟨kd, hkd, List.mem_map_of_mem hmk⟩)
    refine ⟨b2, _, _, _, rfl, rfl, .inl (.inl (off_un _ _ hb2)), e4, c1, _, _, _, rfl, rfl, .inl (.inl (off_un _ _ hc1)), atI_nat (j := 0) rfl, ?_⟩
    generalize mk.1 = title at hi ⊢
    clear hmk hc1 hc2 e4 m4 pm hb1 hb2 lm
    obtain ⟨v0, k0, hv0, hk0, d1, d2, ms0, rfl, hd1, _⟩ := pget pr (show 0 < kxs.length by omega)
    have hi0 : isHigh (.str k0.1) = true := ok.nm.hi k0.1 (List.mem_map_of_mem (List.mem_of_getElem? hk0))
    refine ⟨_, rfl, _, rfl, a, _, _, _, rfl, rfl, .inl (.inl (off_un _ _ ha)), atI_nat (j := 0) hv0, d1, _, _, _, rfl, rfl, .inl (.inl (off_un _ _ hd1)), atI_nat (j := 0) rfl, ?_⟩
    refine ⟨_, rfl, _, _, rfl, rfl, ⟨by decide, by decide⟩, _, _, rfl, rfl, _, _, rfl, rfl, ⟨by decide, by decide⟩, _, rfl, _, _, rfl, rfl, ?_⟩
    refine ⟨by show 0 ≤ sizeLine; decide, fun t1 ht1 => ?_⟩
    obtain ⟨L5, x5, q1⟩ := L4.new (o := .tup []) ht1
    have hv := L4.keep x5 hv (fun _ z => by cases z)
    have rs := rs.ex x5 L4.tb
    have xx := xx.trans x5
    refine ⟨_, rfl, by show 1 ≤ sizeLine; decide, fun t2 ht2 => ?_⟩
    obtain ⟨L6, x6, q2⟩ := L5.new (o := .tup [.str title]) ht2
    have hv := L5.keep x6 hv (fun _ z => by cases z)
    have q1 := L5.keep x6 q1 (fun _ z => by cases z)
    have rs := rs.ex x6 L5.tb
    have xx := xx.trans x6
    refine ⟨_, rfl, by show 1 ≤ sizeLine; decide, fun t3 ht3 => ?_⟩
    obtain ⟨L7, x7, q3⟩ := L6.new (o := .lst [.str title]) ht3
    have hv := L6.keep x7 hv (fun _ z => by cases z)
    have q1 := L6.keep x7 q1 (fun _ z => by cases z)
    have q2 := L6.keep x7 q2 (fun _ z => by cases z)
    have rs := rs.ex x7 L6.tb
    have xx := xx.trans x7
    refine ⟨_, rfl, by show 15 ≤ sizeLine; decide, fun oE hoE => ?_⟩
    obtain ⟨L8, x8, gE⟩ := L7.new (o := .lst [.str title, .str k0.1, .int 0, .int (-1), .int ((10 : Int) ^ Int.toNat 12 + 1), .int (-(10 : Int) ^ Int.toNat 12 - 1), .bl true, .non, .str ("" : Str), .str ("number" : Str), .ref t1, .ref t2, .ref t3, .ref va, .int 7]) hoE
    have hv := L7.keep x8 hv (fun _ z => by cases z)
    have q1 := L7.keep x8 q1 (fun _ z => by cases z)
    have q2 := L7.keep x8 q2 (fun _ z => by cases z)
    have q3 := L7.keep x8 q3 (fun _ z => by cases z)
    have rs := rs.ex x8 L7.tb
    have xx := xx.trans x8
    have pt : Pn title := any_pn (high_any hi)
    have lt : title.length ≤ 10 := high_len hi
    have bv : BnA 0 38700 ds := (bna_ens en).le (Nat.le_refl _) (by omega)
    have bt : Bn 0 10 (.str title) := bn_str pt lt
    have all : ∀ v ∈ [V.str title, .str k0.1, .int 0, .int (-1), .int ((10 : Int) ^ Int.toNat 12 + 1), .int (-(10 : Int) ^ Int.toNat 12 - 1), .bl true, .non, .str ("" : Str), .str ("number" : Str), .ref t1, .ref t2, .ref t3, .ref va, .int 7], ∃ d, Dx K (off p q _) v d ∧ Bn 1 38800 d ∧ Tw d := fun v hv0 => by
      simp only [List.mem_cons, List.mem_nil_iff, or_false] at hv0
      rcases hv0 with rfl | rfl | rfl | rfl | rfl | rfl | rfl | rfl | rfl | rfl | rfl | rfl | rfl | rfl | rfl
      · exact ⟨_, .str _ (by omega), bt.le (by omega) (by decide), fun _ e => by cases e⟩
      · exact ⟨_, .str _ (by have := high_len hi0; omega), (bn_str (any_pn (high_any hi0)) (high_len hi0)).le (Nat.le_refl _) (by decide), fun _ e => by cases e⟩
      · exact ⟨_, .int _, (bn_int (by decide) (by decide)).le (Nat.le_refl _) (by decide), fun _ e => by cases e⟩
      · exact ⟨_, .int _, (bn_int (by decide) (by decide)).le (Nat.le_refl _) (by decide), fun _ e => by cases e⟩
      · exact ⟨_, .int _, (bn_int (by decide) (by decide)).le (Nat.le_refl _) (by decide), fun _ e => by cases e⟩
      · exact ⟨_, .int _, (bn_int (by decide) (by decide)).le (Nat.le_refl _) (by decide), fun _ e => by cases e⟩
      · exact ⟨_, .bl _, (bn_bl true).le (Nat.le_refl _) (by decide), fun _ e => by cases e⟩
      · exact ⟨_, .non, bn_non.le (Nat.le_refl _) (by decide), fun _ e => by cases e⟩
      · exact ⟨_, .str _ (by decide), (bn_str (fun c hc => by simp [show ("" : Str).cps.toList = [] from rfl] at hc) (by decide)).le (Nat.le_refl _) (by decide), fun _ e => by cases e⟩
      · exact ⟨_, .str _ (by decide +kernel), (bn_str number_pn (by decide +kernel)).le (Nat.le_refl _) (by decide), fun _ e => by cases e⟩
      · exact ⟨.tuple [], .tup q1 .nil, (Bn.tup (k := 0) (n := 0) BnA.nil).le (Nat.le_refl _) (by decide), tw_of (by simp)⟩
      · exact ⟨.tuple [.str title], .tup q2 (.cons (.str _ (by omega)) .nil), (Bn.tup (BnA.one bt)).le (Nat.le_refl _) (by decide), tw_of (by simp)⟩
      · exact ⟨.list [.str title], .lst q3 (.cons (.str _ (by omega)) .nil), (Bn.lst (BnA.one bt)).le (Nat.le_refl _) (by decide), fun _ e => by cases e⟩
      · exact ⟨.tuple ds, .tup hv rs, (Bn.tup bv).le (Nat.le_refl _) (by decide), tw_of (by omega)⟩
      · exact ⟨_, .int _, (bn_int (by decide) (by decide)).le (Nat.le_refl _) (by decide), fun _ e => by cases e⟩
    clear q1 q2 q3 pr hv0 hk0 hd1 hi0
    try dsimp only
    refine ⟨_, rfl, _, rfl, _, rfl, oE, _, rfl, .inl (.inl (.inl (off_un _ _ gE))), p, q, _, 15, rfl, L8.w, by decide, by decide, by omega, fun Ha r6 r60 r61 kp6 hw6 => ?_⟩
    obtain ⟨L9, x9⟩ := L8.draw kp6 hw6
    obtain ⟨ve, e6, m6⟩ := atI_of r60 (show r6 < (([.str title, .str k0.1, .int 0, .int (-1), .int ((10 : Int) ^ Int.toNat 12 + 1), .int (-(10 : Int) ^ Int.toNat 12 - 1), .bl true, .non, .str ("" : Str), .str ("number" : Str), .ref t1, .ref t2, .ref t3, .ref va, .int 7] : List V).length : Int) from r61)
    obtain ⟨de, re, be, we⟩ := all ve m6
    clear all m6
    have hv := L8.keep x9 hv (fun _ z => by cases z)
    have gE := L8.keep x9 gE (fun _ z => by cases z)
    have rs := rs.ex x9 L8.tb
    have re := re.ex x9 L8.tb
    have xx := xx.trans x9
    refine ⟨oE, _, _, _, rfl, rfl, .inl (.inl (off_un _ _ gE)), e6, _, rfl, p, q, _, 8, rfl, L9.w, by decide, by decide, by omega, fun Hb way w0 w1 kp7 hw7 => ?_⟩
    obtain ⟨L10, x10⟩ := L9.draw kp7 hw7
    clear gE e6
    have hv := L9.keep x10 hv (fun _ z => by cases z)
    have rs := rs.ex x10 L9.tb
    have re := re.ex x10 L9.tb
    have xx := xx.trans x10
    refine ⟨_, _, rfl, ?_⟩
    try dsimp only
    have ei : ((i : Int) + 1) = ((i + 1 : Nat) : Int) := by omega
    have ej : ((j : Int) + 1) = ((j + 1 : Nat) : Int) := by omega
    refine ⟨_, rfl, _, rfl, _, rfl, sl_any L10 hv fun c11 G11 x11 L11 u1 => ?_⟩
    rw [cutV_to] at u1
    have hv := L10.keep x11 hv (fun _ z => by cases z)
    have rs := rs.ex x11 L10.tb
    have re := re.ex x11 L10.tb
    have xx := xx.trans x11
    refine ⟨_, rfl, by show 1 ≤ sizeLine; decide, fun t11 ht11 => ?_⟩
    obtain ⟨L12, x12, u2⟩ := L11.new (o := .tup [ve]) ht11
    have hv := L11.keep x12 hv (fun _ z => by cases z)
    have u1 := L11.keep x12 u1 (fun _ z => by cases z)
    have rs := rs.ex x12 L11.tb
    have re := re.ex x12 L11.tb
    have xx := xx.trans x12
    refine cat_big L12 u1 u2 (by simp only [List.length_append, List.length_take, List.length_drop, List.length_cons, List.length_nil]; omega) fun c13 G13 x13 L13 u3 => ?_
    clear u1 u2
    have hv := L12.keep x13 hv (fun _ z => by cases z)
    have rs := rs.ex x13 L12.tb
    have re := re.ex x13 L12.tb
    have xx := xx.trans x13
    refine ⟨_, rfl, _, rfl, _, _, rfl, rfl, _, rfl, ?_⟩
    dsimp only [tNoPart]
    refine sl_any L13 hv fun c14 G14 x14 L14 u4 => ?_
    rw [ei, cutV_from] at u4
    have hv := L13.keep x14 hv (fun _ z => by cases z)
    have u3 := L13.keep x14 u3 (fun _ z => by cases z)
    have rs := rs.ex x14 L13.tb
    have re := re.ex x14 L13.tb
    have xx := xx.trans x14
    refine cat_big L14 u3 u4 (by simp only [List.length_append, List.length_take, List.length_drop, List.length_cons, List.length_nil]; omega) fun c15 G15 x15 L15 u5 => ?_
    clear u3 u4
    have hv := L14.keep x15 hv (fun _ z => by cases z)
    have rs := rs.ex x15 L14.tb
    have re := re.ex x15 L14.tb
    have xx := xx.trans x15
    have D1 : Dx K (off p q _) (.ref c15) (.tuple (ds.take i ++ [de] ++ ds.drop (i + 1))) := .tup u5 (((rs.take i).app (.cons re .nil)).app (rs.drop (i + 1)))
    clear u5
    refine ⟨_, rfl, _, rfl, _, rfl, sl_any L15 hv fun c16 G16 x16 L16 u1 => ?_⟩
    rw [cutV_to] at u1
    have hv := L15.keep x16 hv (fun _ z => by cases z)
    have rs := rs.ex x16 L15.tb
    have re := re.ex x16 L15.tb
    have D1 := D1.ex x16 L15.tb
    have xx := xx.trans x16
    refine ⟨_, rfl, by show 1 ≤ sizeLine; decide, fun t16 ht16 => ?_⟩
    obtain ⟨L17, x17, u2⟩ := L16.new (o := .tup [.str title]) ht16
    have hv := L16.keep x17 hv (fun _ z => by cases z)
    have u1 := L16.keep x17 u1 (fun _ z => by cases z)
    have rs := rs.ex x17 L16.tb
    have re := re.ex x17 L16.tb
    have D1 := D1.ex x17 L16.tb
    have xx := xx.trans x17
    refine cat_big L17 u1 u2 (by simp only [List.length_append, List.length_take, List.length_drop, List.length_cons, List.length_nil]; omega) fun c18 G18 x18 L18 u3 => ?_
    clear u1 u2
    have hv := L17.keep x18 hv (fun _ z => by cases z)
    have rs := rs.ex x18 L17.tb
    have re := re.ex x18 L17.tb
    have D1 := D1.ex x18 L17.tb
    have xx := xx.trans x18
    refine ⟨_, rfl, _, rfl, _, _, rfl, rfl, _, rfl, ?_⟩
    dsimp only [tNoPart]
    refine sl_any L18 hv fun c19 G19 x19 L19 u4 => ?_
    rw [ei, cutV_from] at u4
    have hv := L18.keep x19 hv (fun _ z => by cases z)
    have u3 := L18.keep x19 u3 (fun _ z => by cases z)
    have rs := rs.ex x19 L18.tb
    have re := re.ex x19 L18.tb
    have D1 := D1.ex x19 L18.tb
    have xx := xx.trans x19
    refine cat_big L19 u3 u4 (by simp only [List.length_append, List.length_take, List.length_drop, List.length_cons, List.length_nil]; omega) fun c20 G20 x20 L20 u5 => ?_
    clear u3 u4
    have hv := L19.keep x20 hv (fun _ z => by cases z)
    have rs := rs.ex x20 L19.tb
    have re := re.ex x20 L19.tb
    have D1 := D1.ex x20 L19.tb
    have xx := xx.trans x20
    have D2 : Dx K (off p q _) (.ref c20) (.tuple (ds.take i ++ [.str title] ++ ds.drop (i + 1))) := .tup u5 (((rs.take i).app (.cons (.str _ (by omega)) .nil)).app (rs.drop (i + 1)))
    clear u5
    refine ⟨_, rfl, _, rfl, _, rfl, sl_any L20 hv fun c21 G21 x21 L21 u1 => ?_⟩
    rw [cutV_to] at u1
    have hv := L20.keep x21 hv (fun _ z => by cases z)
    have rs := rs.ex x21 L20.tb
    have re := re.ex x21 L20.tb
    have D1 := D1.ex x21 L20.tb
    have D2 := D2.ex x21 L20.tb
    have xx := xx.trans x21
    refine ⟨_, rfl, by show 1 ≤ sizeLine; decide, fun t21 ht21 => ?_⟩
    obtain ⟨L22, x22, u2⟩ := L21.new (o := .tup [ve]) ht21
    have hv := L21.keep x22 hv (fun _ z => by cases z)
    have u1 := L21.keep x22 u1 (fun _ z => by cases z)
    have rs := rs.ex x22 L21.tb
    have re := re.ex x22 L21.tb
    have D1 := D1.ex x22 L21.tb
    have D2 := D2.ex x22 L21.tb
    have xx := xx.trans x22
    refine cat_big L22 u1 u2 (by simp only [List.length_append, List.length_take, List.length_drop, List.length_cons, List.length_nil]; omega) fun c23 G23 x23 L23 u3 => ?_
    clear u1 u2
    have hv := L22.keep x23 hv (fun _ z => by cases z)
    have rs := rs.ex x23 L22.tb
    have re := re.ex x23 L22.tb
    have D1 := D1.ex x23 L22.tb
    have D2 := D2.ex x23 L22.tb
    have xx := xx.trans x23
    refine ⟨_, rfl, _, rfl, _, rfl, ?_⟩
    dsimp only [tNoPart]
    refine sl_any L23 hv fun c24 G24 x24 L24 u4 => ?_
    rw [cutV_from] at u4
    have hv := L23.keep x24 hv (fun _ z => by cases z)
    have u3 := L23.keep x24 u3 (fun _ z => by cases z)
    have rs := rs.ex x24 L23.tb
    have re := re.ex x24 L23.tb
    have D1 := D1.ex x24 L23.tb
    have D2 := D2.ex x24 L23.tb
    have xx := xx.trans x24
    refine cat_big L24 u3 u4 (by simp only [List.length_append, List.length_take, List.length_drop, List.length_cons, List.length_nil]; omega) fun c25 G25 x25 L25 u5 => ?_
    clear u3 u4
    have hv := L24.keep x25 hv (fun _ z => by cases z)
    have rs := rs.ex x25 L24.tb
    have re := re.ex x25 L24.tb
    have D1 := D1.ex x25 L24.tb
    have D2 := D2.ex x25 L24.tb
    have xx := xx.trans x25
    have D3 : Dx K (off p q _) (.ref c25) (.tuple (ds.take i ++ [de] ++ ds.drop i)) := .tup u5 (((rs.take i).app (.cons re .nil)).app (rs.drop i))
    clear u5
    refine ⟨by show 3 ≤ sizeLine; decide, fun o25 ho25 => ?_⟩
    obtain ⟨L26, x26, g1⟩ := L25.new (o := .lst [.ref c15, .ref c20, .ref c25]) ho25
    have hv := L25.keep x26 hv (fun _ z => by cases z)
    have rs := rs.ex x26 L25.tb
    have re := re.ex x26 L25.tb
    have D1 := D1.ex x26 L25.tb
    have D2 := D2.ex x26 L25.tb
    have D3 := D3.ex x26 L25.tb
    have xx := xx.trans x26
    try dsimp only
    refine ⟨_, rfl, ?_⟩
    refine ⟨_, rfl, _, rfl, _, rfl, sl_any L26 hv fun c27 G27 x27 L27 u1 => ?_⟩
    rw [cutV_to] at u1
    have hv := L26.keep x27 hv (fun _ z => by cases z)
    have g1 := L26.keep x27 g1 (fun _ z => by cases z)
    have rs := rs.ex x27 L26.tb
    have re := re.ex x27 L26.tb
    have D1 := D1.ex x27 L26.tb
    have D2 := D2.ex x27 L26.tb
    have D3 := D3.ex x27 L26.tb
    have xx := xx.trans x27
    refine ⟨_, rfl, _, rfl, _, _, rfl, rfl, _, rfl, ?_⟩
    dsimp only [tNoPart]
    refine sl_any L27 hv fun c28 G28 x28 L28 u2 => ?_
    rw [ei, cutV_from] at u2
    have hv := L27.keep x28 hv (fun _ z => by cases z)
    have g1 := L27.keep x28 g1 (fun _ z => by cases z)
    have u1 := L27.keep x28 u1 (fun _ z => by cases z)
    have rs := rs.ex x28 L27.tb
    have re := re.ex x28 L27.tb
    have D1 := D1.ex x28 L27.tb
    have D2 := D2.ex x28 L27.tb
    have D3 := D3.ex x28 L27.tb
    have xx := xx.trans x28
    refine cat_big L28 u1 u2 (by simp only [List.length_append, List.length_take, List.length_drop, List.length_cons, List.length_nil]; omega) fun c29 G29 x29 L29 u3 => ?_
    clear u1 u2
    have hv := L28.keep x29 hv (fun _ z => by cases z)
    have g1 := L28.keep x29 g1 (fun _ z => by cases z)
    have rs := rs.ex x29 L28.tb
    have re := re.ex x29 L28.tb
    have D1 := D1.ex x29 L28.tb
    have D2 := D2.ex x29 L28.tb
    have D3 := D3.ex x29 L28.tb
    have xx := xx.trans x29
    have D4 : Dx K (off p q _) (.ref c29) (.tuple (ds.take i ++ ds.drop (i + 1))) := .tup u3 ((rs.take i).app (rs.drop (i + 1)))
    clear u3
    refine ⟨_, rfl, _, rfl, _, rfl, sl_any L29 hv fun c30 G30 x30 L30 u1 => ?_⟩
    rw [cutV_to] at u1
    have hv := L29.keep x30 hv (fun _ z => by cases z)
    have g1 := L29.keep x30 g1 (fun _ z => by cases z)
    have rs := rs.ex x30 L29.tb
    have re := re.ex x30 L29.tb
    have D1 := D1.ex x30 L29.tb
    have D2 := D2.ex x30 L29.tb
    have D3 := D3.ex x30 L29.tb
    have D4 := D4.ex x30 L29.tb
    have xx := xx.trans x30
    refine ⟨_, rfl, _, rfl, _, rfl, ?_⟩
    dsimp only [tNoPart]
    refine sl_any L30 hv fun c31 G31 x31 L31 u2 => ?_
    rw [cutV_from] at u2
    have hv := L30.keep x31 hv (fun _ z => by cases z)
    have g1 := L30.keep x31 g1 (fun _ z => by cases z)
    have u1 := L30.keep x31 u1 (fun _ z => by cases z)
    have rs := rs.ex x31 L30.tb
    have re := re.ex x31 L30.tb
    have D1 := D1.ex x31 L30.tb
    have D2 := D2.ex x31 L30.tb
    have D3 := D3.ex x31 L30.tb
    have D4 := D4.ex x31 L30.tb
    have xx := xx.trans x31
    refine cat_big L31 u1 u2 (by simp only [List.length_append, List.length_take, List.length_drop, List.length_cons, List.length_nil]; omega) fun c32 G32 x32 L32 u3 => ?_
    clear u1 u2
    have hv := L31.keep x32 hv (fun _ z => by cases z)
    have g1 := L31.keep x32 g1 (fun _ z => by cases z)
    have rs := rs.ex x32 L31.tb
    have re := re.ex x32 L31.tb
    have D1 := D1.ex x32 L31.tb
    have D2 := D2.ex x32 L31.tb
    have D3 := D3.ex x32 L31.tb
    have D4 := D4.ex x32 L31.tb
    have xx := xx.trans x32
    have D5 : Dx K (off p q _) (.ref c32) (.tuple (ds.take j ++ ds.drop i)) := .tup u3 ((rs.take j).app (rs.drop i))
    clear u3
    refine ⟨_, rfl, _, rfl, _, rfl, ?_⟩
    dsimp only [tNoPart]
    refine sl_any L32 hv fun c33 G33 x33 L33 u1 => ?_
    rw [cutV_from] at u1
    have hv := L32.keep x33 hv (fun _ z => by cases z)
    have g1 := L32.keep x33 g1 (fun _ z => by cases z)
    have rs := rs.ex x33 L32.tb
    have re := re.ex x33 L32.tb
    have D1 := D1.ex x33 L32.tb
    have D2 := D2.ex x33 L32.tb
    have D3 := D3.ex x33 L32.tb
    have D4 := D4.ex x33 L32.tb
    have D5 := D5.ex x33 L32.tb
    have xx := xx.trans x33
    refine ⟨_, rfl, _, rfl, _, rfl, sl_any L33 hv fun c34 G34 x34 L34 u2 => ?_⟩
    rw [cutV_to] at u2
    have hv := L33.keep x34 hv (fun _ z => by cases z)
    have g1 := L33.keep x34 g1 (fun _ z => by cases z)
    have u1 := L33.keep x34 u1 (fun _ z => by cases z)
    have rs := rs.ex x34 L33.tb
    have re := re.ex x34 L33.tb
    have D1 := D1.ex x34 L33.tb
    have D2 := D2.ex x34 L33.tb
    have D3 := D3.ex x34 L33.tb
    have D4 := D4.ex x34 L33.tb
    have D5 := D5.ex x34 L33.tb
    have xx := xx.trans x34
    refine cat_big L34 u1 u2 (by simp only [List.length_append, List.length_take, List.length_drop, List.length_cons, List.length_nil]; omega) fun c35 G35 x35 L35 u3 => ?_
    clear u1 u2
    have hv := L34.keep x35 hv (fun _ z => by cases z)
    have g1 := L34.keep x35 g1 (fun _ z => by cases z)
    have rs := rs.ex x35 L34.tb
    have re := re.ex x35 L34.tb
    have D1 := D1.ex x35 L34.tb
    have D2 := D2.ex x35 L34.tb
    have D3 := D3.ex x35 L34.tb
    have D4 := D4.ex x35 L34.tb
    have D5 := D5.ex x35 L34.tb
    have xx := xx.trans x35
    have D6 : Dx K (off p q _) (.ref c35) (.tuple (ds.drop i ++ ds.take i)) := .tup u3 ((rs.drop i).app (rs.take i))
    clear u3
    refine ⟨by show 3 ≤ sizeLine; decide, fun o35 ho35 => ?_⟩
    obtain ⟨L36, x36, g2⟩ := L35.new (o := .lst [.ref c29, .ref c32, .ref c35]) ho35
    have hv := L35.keep x36 hv (fun _ z => by cases z)
    have g1 := L35.keep x36 g1 (fun _ z => by cases z)
    have rs := rs.ex x36 L35.tb
    have re := re.ex x36 L35.tb
    have D1 := D1.ex x36 L35.tb
    have D2 := D2.ex x36 L35.tb
    have D3 := D3.ex x36 L35.tb
    have D4 := D4.ex x36 L35.tb
    have D5 := D5.ex x36 L35.tb
    have D6 := D6.ex x36 L35.tb
    have xx := xx.trans x36
    refine ⟨o25, o35, _, _, rfl, rfl, off_un _ _ g1, off_un _ _ g2, by show 6 ≤ sizeLine; decide, fun o1 ho1 => ?_⟩
    obtain ⟨L37, x37, g3⟩ := L36.new (o := .lst [.ref c15, .ref c20, .ref c25, .ref c29, .ref c32, .ref c35]) ho1
    have hv := L36.keep x37 hv (fun _ z => by cases z)
    have g1 := L36.keep x37 g1 (fun _ z => by cases z)
    have g2 := L36.keep x37 g2 (fun _ z => by cases z)
    have rs := rs.ex x37 L36.tb
    have re := re.ex x37 L36.tb
    have D1 := D1.ex x37 L36.tb
    have D2 := D2.ex x37 L36.tb
    have D3 := D3.ex x37 L36.tb
    have D4 := D4.ex x37 L36.tb
    have D5 := D5.ex x37 L36.tb
    have D6 := D6.ex x37 L36.tb
    have xx := xx.trans x37
    clear g1 g2
    try dsimp only
    refine ⟨_, rfl, ?_⟩
    refine ⟨_, rfl, _, rfl, _, rfl, sl_any L37 hv fun c38 G38 x38 L38 u1 => ?_⟩
    rw [cutV_to] at u1
    have hv := L37.keep x38 hv (fun _ z => by cases z)
    have g3 := L37.keep x38 g3 (fun _ z => by cases z)
    have rs := rs.ex x38 L37.tb
    have re := re.ex x38 L37.tb
    have D1 := D1.ex x38 L37.tb
    have D2 := D2.ex x38 L37.tb
    have D3 := D3.ex x38 L37.tb
    have D4 := D4.ex x38 L37.tb
    have D5 := D5.ex x38 L37.tb
    have D6 := D6.ex x38 L37.tb
    have xx := xx.trans x38
    refine ⟨_, rfl, _, rfl, _, rfl, _, rfl, _, _, rfl, rfl, _, rfl, sl_any L38 hv fun c39 G39 x39 L39 u2 => ?_⟩
    rw [ei, cutV_mid] at u2
    have hv := L38.keep x39 hv (fun _ z => by cases z)
    have g3 := L38.keep x39 g3 (fun _ z => by cases z)
    have u1 := L38.keep x39 u1 (fun _ z => by cases z)
    have rs := rs.ex x39 L38.tb
    have re := re.ex x39 L38.tb
    have D1 := D1.ex x39 L38.tb
    have D2 := D2.ex x39 L38.tb
    have D3 := D3.ex x39 L38.tb
    have D4 := D4.ex x39 L38.tb
    have D5 := D5.ex x39 L38.tb
    have D6 := D6.ex x39 L38.tb
    have xx := xx.trans x39
    refine cat_big L39 u1 u2 (by simp only [List.length_append, List.length_take, List.length_drop, List.length_cons, List.length_nil]; omega) fun c40 G40 x40 L40 u3 => ?_
    clear u1 u2
    have hv := L39.keep x40 hv (fun _ z => by cases z)
    have g3 := L39.keep x40 g3 (fun _ z => by cases z)
    have rs := rs.ex x40 L39.tb
    have re := re.ex x40 L39.tb
    have D1 := D1.ex x40 L39.tb
    have D2 := D2.ex x40 L39.tb
    have D3 := D3.ex x40 L39.tb
    have D4 := D4.ex x40 L39.tb
    have D5 := D5.ex x40 L39.tb
    have D6 := D6.ex x40 L39.tb
    have xx := xx.trans x40
    refine ⟨_, rfl, _, rfl, _, _, rfl, rfl, _, rfl, ?_⟩
    dsimp only [tNoPart]
    refine sl_any L40 hv fun c41 G41 x41 L41 u4 => ?_
    rw [ej, cutV_from] at u4
    have hv := L40.keep x41 hv (fun _ z => by cases z)
    have g3 := L40.keep x41 g3 (fun _ z => by cases z)
    have u3 := L40.keep x41 u3 (fun _ z => by cases z)
    have rs := rs.ex x41 L40.tb
    have re := re.ex x41 L40.tb
    have D1 := D1.ex x41 L40.tb
    have D2 := D2.ex x41 L40.tb
    have D3 := D3.ex x41 L40.tb
    have D4 := D4.ex x41 L40.tb
    have D5 := D5.ex x41 L40.tb
    have D6 := D6.ex x41 L40.tb
    have xx := xx.trans x41
    refine cat_big L41 u3 u4 (by simp only [List.length_append, List.length_take, List.length_drop, List.length_cons, List.length_nil]; omega) fun c42 G42 x42 L42 u5 => ?_
    clear u3 u4
    have hv := L41.keep x42 hv (fun _ z => by cases z)
    have g3 := L41.keep x42 g3 (fun _ z => by cases z)
    have rs := rs.ex x42 L41.tb
    have re := re.ex x42 L41.tb
    have D1 := D1.ex x42 L41.tb
    have D2 := D2.ex x42 L41.tb
    have D3 := D3.ex x42 L41.tb
    have D4 := D4.ex x42 L41.tb
    have D5 := D5.ex x42 L41.tb
    have D6 := D6.ex x42 L41.tb
    have xx := xx.trans x42
    have D7 : Dx K (off p q _) (.ref c42) (.tuple (ds.take j ++ (ds.drop (min i xs.length)).take (min (i + 1) xs.length - min i xs.length) ++ ds.drop (j + 1))) := .tup u5 (((rs.take j).app ((rs.drop _).take _)).app (rs.drop (j + 1)))
    clear u5
    refine ⟨_, rfl, va, xs, rfl, .inr (.inl (.inl (off_un _ _ hv))), fun t4 ht4 => ?_⟩
    obtain ⟨L43, x43, y1⟩ := L42.new (o := .lst xs) ht4
    have hv := L42.keep x43 hv (fun _ z => by cases z)
    have g3 := L42.keep x43 g3 (fun _ z => by cases z)
    have rs := rs.ex x43 L42.tb
    have re := re.ex x43 L42.tb
    have D1 := D1.ex x43 L42.tb
    have D2 := D2.ex x43 L42.tb
    have D3 := D3.ex x43 L42.tb
    have D4 := D4.ex x43 L42.tb
    have D5 := D5.ex x43 L42.tb
    have D6 := D6.ex x43 L42.tb
    have D7 := D7.ex x43 L42.tb
    have xx := xx.trans x43
    refine ⟨_, rfl, by show 1 ≤ sizeLine; decide, fun t5 ht5 => ?_⟩
    obtain ⟨L44, x44, y2⟩ := L43.new (o := .tup [.ref va]) ht5
    have hv := L43.keep x44 hv (fun _ z => by cases z)
    have g3 := L43.keep x44 g3 (fun _ z => by cases z)
    have y1 := L43.keep x44 y1 (fun _ z => by cases z)
    have rs := rs.ex x44 L43.tb
    have re := re.ex x44 L43.tb
    have D1 := D1.ex x44 L43.tb
    have D2 := D2.ex x44 L43.tb
    have D3 := D3.ex x44 L43.tb
    have D4 := D4.ex x44 L43.tb
    have D5 := D5.ex x44 L43.tb
    have D6 := D6.ex x44 L43.tb
    have D7 := D7.ex x44 L43.tb
    have xx := xx.trans x44
    refine ⟨_, rfl, _, rfl, _, rfl, ?_⟩
    refine cat_big L44 hv hv (by omega) fun c45 G45 x45 L45 y3 => ?_
    have hv := L44.keep x45 hv (fun _ z => by cases z)
    have g3 := L44.keep x45 g3 (fun _ z => by cases z)
    have y1 := L44.keep x45 y1 (fun _ z => by cases z)
    have y2 := L44.keep x45 y2 (fun _ z => by cases z)
    have rs := rs.ex x45 L44.tb
    have re := re.ex x45 L44.tb
    have D1 := D1.ex x45 L44.tb
    have D2 := D2.ex x45 L44.tb
    have D3 := D3.ex x45 L44.tb
    have D4 := D4.ex x45 L44.tb
    have D5 := D5.ex x45 L44.tb
    have D6 := D6.ex x45 L44.tb
    have D7 := D7.ex x45 L44.tb
    have xx := xx.trans x45
    refine ⟨by show 4 ≤ sizeLine; decide, fun o2 ho2 => ?_⟩
    obtain ⟨L46, x46, y4⟩ := L45.new (o := .lst [.ref t4, .ref t5, ve, .ref c45]) ho2
    have hv := L45.keep x46 hv (fun _ z => by cases z)
    have g3 := L45.keep x46 g3 (fun _ z => by cases z)
    have y1 := L45.keep x46 y1 (fun _ z => by cases z)
    have y2 := L45.keep x46 y2 (fun _ z => by cases z)
    have y3 := L45.keep x46 y3 (fun _ z => by cases z)
    have rs := rs.ex x46 L45.tb
    have re := re.ex x46 L45.tb
    have D1 := D1.ex x46 L45.tb
    have D2 := D2.ex x46 L45.tb
    have D3 := D3.ex x46 L45.tb
    have D4 := D4.ex x46 L45.tb
    have D5 := D5.ex x46 L45.tb
    have D6 := D6.ex x46 L45.tb
    have D7 := D7.ex x46 L45.tb
    have xx := xx.trans x46
    refine ⟨_, rfl, p, q, _, 4, rfl, L46.w, by decide, by decide, by omega, fun Hc r8 r80 r81 kp8 hw8 => ?_⟩
    obtain ⟨L47, x47⟩ := L46.draw kp8 hw8
    have hv := L46.keep x47 hv (fun _ z => by cases z)
    have g3 := L46.keep x47 g3 (fun _ z => by cases z)
    have y1 := L46.keep x47 y1 (fun _ z => by cases z)
    have y2 := L46.keep x47 y2 (fun _ z => by cases z)
    have y3 := L46.keep x47 y3 (fun _ z => by cases z)
    have y4 := L46.keep x47 y4 (fun _ z => by cases z)
    have rs := rs.ex x47 L46.tb
    have re := re.ex x47 L46.tb
    have D1 := D1.ex x47 L46.tb
    have D2 := D2.ex x47 L46.tb
    have D3 := D3.ex x47 L46.tb
    have D4 := D4.ex x47 L46.tb
    have D5 := D5.ex x47 L46.tb
    have D6 := D6.ex x47 L46.tb
    have D7 := D7.ex x47 L46.tb
    have xx := xx.trans x47
    obtain ⟨v8, e8, m8⟩ := atI_of r80 (show r8 < (([.ref t4, .ref t5, ve, .ref c45] : List V).length : Int) from r81)
    obtain ⟨d8, D8, b8, w8⟩ : ∃ d, Dx K (off p q _) v8 d ∧ Bn 2 77500 d ∧ Tw d := by
      simp only [List.mem_cons, List.mem_nil_iff, or_false] at m8
      rcases m8 with rfl | rfl | rfl | rfl
      · exact ⟨.list ds, .lst y1 rs, (Bn.lst bv).le (by decide) (by decide), fun _ e => by cases e⟩
      · exact ⟨.tuple [.tuple ds], .tup y2 (.cons (.tup hv rs) .nil), (Bn.tup (BnA.one (Bn.tup bv))).le (by decide) (by decide), tw_of (by simp)⟩
      · exact ⟨de, re, be.le (by decide) (by decide), we⟩
      · exact ⟨.tuple (ds ++ ds), .tup y3 (rs.app rs), (Bn.tup (bv.app bv)).le (by decide) (by decide), tw_of (by rw [List.length_append]; omega)⟩
    refine ⟨o2, _, _, _, rfl, rfl, .inl (.inl (off_un _ _ y4)), e8, by show 2 ≤ sizeLine; decide, fun o3 ho3 => ?_⟩
    clear y1 y2 y3 y4 m8 e8
    obtain ⟨L48, x48, g4⟩ := L47.new (o := .lst [.ref c42, v8]) ho3
    have hv := L47.keep x48 hv (fun _ z => by cases z)
    have g3 := L47.keep x48 g3 (fun _ z => by cases z)
    have rs := rs.ex x48 L47.tb
    have re := re.ex x48 L47.tb
    have D1 := D1.ex x48 L47.tb
    have D2 := D2.ex x48 L47.tb
    have D3 := D3.ex x48 L47.tb
    have D4 := D4.ex x48 L47.tb
    have D5 := D5.ex x48 L47.tb
    have D6 := D6.ex x48 L47.tb
    have D7 := D7.ex x48 L47.tb
    have D8 := D8.ex x48 L47.tb
    have xx := xx.trans x48
    refine ⟨o1, o3, _, _, rfl, rfl, off_un _ _ g3, off_un _ _ g4, by show 8 ≤ sizeLine; decide, fun o4 ho4 => ?_⟩
    obtain ⟨L49, x49, g5⟩ := L48.new (o := .lst [.ref c15, .ref c20, .ref c25, .ref c29, .ref c32, .ref c35, .ref c42, v8]) ho4
    have hv := L48.keep x49 hv (fun _ z => by cases z)
    have g3 := L48.keep x49 g3 (fun _ z => by cases z)
    have g4 := L48.keep x49 g4 (fun _ z => by cases z)
    have rs := rs.ex x49 L48.tb
    have re := re.ex x49 L48.tb
    have D1 := D1.ex x49 L48.tb
    have D2 := D2.ex x49 L48.tb
    have D3 := D3.ex x49 L48.tb
    have D4 := D4.ex x49 L48.tb
    have D5 := D5.ex x49 L48.tb
    have D6 := D6.ex x49 L48.tb
    have D7 := D7.ex x49 L48.tb
    have D8 := D8.ex x49 L48.tb
    have xx := xx.trans x49
    try dsimp only
    obtain ⟨v9, e9, m9⟩ := atI_of w0 (show way < (([.ref c15, .ref c20, .ref c25, .ref c29, .ref c32, .ref c35, .ref c42, v8] : List V).length : Int) from w1)
    obtain ⟨d9, D9, b9, w9⟩ : ∃ d, Dx K (off p q _) v9 d ∧ Bn 3 130000 d ∧ Tw d := by
      have bv1 := bv.le (show 0 ≤ 2 by decide) (Nat.le_refl _)
      have be1 := BnA.one (be.le (show 1 ≤ 2 by decide) (Nat.le_refl _))
      have bt1 := BnA.one (bt.le (show 0 ≤ 2 by decide) (Nat.le_refl _))
      simp only [List.mem_cons, List.mem_nil_iff, or_false] at m9
      rcases m9 with rfl | rfl | rfl | rfl | rfl | rfl | rfl | rfl
      · exact ⟨_, D1, (Bn.tup (((bv1.take i).app be1).app (bv1.drop (i + 1)))).le (by decide) (by decide), tw_of (by simp only [List.length_append, List.length_take, List.length_drop, List.length_cons, List.length_nil]; omega)⟩
      · exact ⟨_, D2, (Bn.tup (((bv1.take i).app bt1).app (bv1.drop (i + 1)))).le (by decide) (by decide), tw_of (by simp only [List.length_append, List.length_take, List.length_drop, List.length_cons, List.length_nil]; omega)⟩
      · exact ⟨_, D3, (Bn.tup (((bv1.take i).app be1).app (bv1.drop i))).le (by decide) (by decide), tw_of (by simp only [List.length_append, List.length_take, List.length_drop, List.length_cons, List.length_nil]; omega)⟩
      · exact ⟨_, D4, (Bn.tup ((bv1.take i).app (bv1.drop (i + 1)))).le (by decide) (by decide), tw_of (by simp only [List.length_append, List.length_take, List.length_drop, List.length_cons, List.length_nil]; omega)⟩
      · exact ⟨_, D5, (Bn.tup ((bv1.take j).app (bv1.drop i))).le (by decide) (by decide), tw_of (by simp only [List.length_append, List.length_take, List.length_drop, List.length_cons, List.length_nil]; omega)⟩
      · exact ⟨_, D6, (Bn.tup ((bv1.drop i).app (bv1.take i))).le (by decide) (by decide), tw_of (by simp only [List.length_append, List.length_take, List.length_drop, List.length_cons, List.length_nil]; omega)⟩
      · exact ⟨_, D7, (Bn.tup (((bv1.take j).app ((bv1.drop _).take _)).app (bv1.drop (j + 1)))).le (by decide) (by decide), tw_of (by simp only [List.length_append, List.length_take, List.length_drop, List.length_cons, List.length_nil]; omega)⟩
      · exact ⟨_, D8, b8.le (by decide) (by decide), w8⟩
    exact ⟨_, rfl, _, rfl, o4, _, _, _, rfl, rfl, .inl (.inl (off_un _ _ g5)), e9, k _ _ _ b9 w9 D9 xx (L49.le (by omega))⟩
end
end JF
set_option Elab.async false
set_option linter.all false
set_option maxRecDepth 100000
set_option maxHeartbeats 1000000
namespace JF
open PySem PySem.Spec PyProof PyProof.Rows L2 GxR GA PC
abbrev sVR : Stmt := topS 40
abbrev nVR3 : List Str := ["kinds", "kind", "value", "due", "copied", "found"]
theorem scVR : FnScope ["kinds", "kind", "value", "due", "copied", "found"] ["kinds", "kind", "value"] (defScope sVR) := ⟨rfl, rfl, rfl, by decide +kernel, rfl, by decide +kernel, by decide +kernel⟩
abbrev rot3 {α : Type} (xs : List α) : List α := match xs with
  | [a, b, c] => [b, c, a]
  | xs => xs
theorem passN {X : Cx} {σ : L2.St} : PassesAt (L2.CX X.prog X.w) X σ E0 := fun _ _ _ _ _ _ c => by
  obtain ⟨_, _, _, _, _, _, _, _, _, _, _, _, hE⟩ := c
  exact hE.elim
theorem behind_bare (es : List Ent) (w : Str) (d : PyData) : behindOf es w (bare d) = behindOf es w d := by
  cases d <;> first | rfl | (unfold bare; rfl)
theorem runS_bare (es : List Ent) : ∀ (ds : List PyData) (st : List Str), runS es st (ds.map bare) = runS es st ds
  | [], _ => rfl
  | _ :: _, [] => rfl
  | d :: ds, w :: st => by
    show (match behindOf es w (bare d) with | none => false | some fs => runS es (fs ++ st) (ds.map bare)) = (match behindOf es w d with | none => false | some fs => runS es (fs ++ st) ds)
    rw [behind_bare]
    cases behindOf es w d with
    | none => rfl
    | some fs => exact runS_bare es ds (fs ++ st)
theorem isSay_bare (es : List Ent) (kind : Str) (d : PyData) : isSay es kind (bare d) = isSay es kind d := by
  cases d with
  | tuple ds =>
    rw [bare_tup]
    show (decide ((ds.map bare).length ≤ 400) && runS es [kind] (ds.map bare)) = _
    rw [List.length_map, runS_bare]; rfl
  | _ => first | rfl | (unfold bare; rfl)
def spVR3 (K : PySem.W.Frag) (T : List Addr) : Sp := fun vs H Q _ => ∃ (vk v : V) (dk : PyData) (ks : List Kd) (kind : Str) (d : PyData), vs = [vk, .str kind, v] ∧ Rp K H vk dk ∧ isKinds dk = true ∧ kindsOf dk = ks ∧ KsOk ks ∧ kind ∈ kNames ks ∧ Dx K H v d ∧ Fit d ∧ TbOk T H ∧ ∀ H', Ex T H H' → Q (.bl true) H'
section
variable {P : Program} {w : World} {K : PySem.W.Frag} {mg : Str → Option Value} {base : Heap} {T : List Addr}
theorem ok_vr {f aS aT c1 c2 : Addr} {fd dS dT : FuncData} (F : Fun K "_law_value_right" "_law_value_right" sVR f fd) (B : BI mg) (mi : mg "isinstance" = none) (mb : mg "bool" = none) (mr : mg "repr" = none)
    (GS : FnOk P w K mg base CX0 1 aS dS ["kinds", "kind", "value"] (spIsS K T)) (mS : mg "_law_is_sayings" = some (.ref aS)) (kS : PySem.W.keepIn K (.ref aS) = true) (bS : Binds K dS ["kinds", "kind", "value"] [])
    (GT : FnOk P w K mg base (L2.CX P w) 20 aT dT ["kinds", "kind", "thing"] (spTree K T c1 c2)) (mT : mg "is_tree" = some (.ref aT)) (kT : PySem.W.keepIn K (.ref aT) = true) (bT : Binds K dT ["kinds", "kind", "thing"] [])
    (bK : CK.KB0 K dT ["kinds", "kind", "thing"] ["thing", "kinds", "kind"] 3 (@rot3)) :
    HG.FnG P w K mg base CX0 21 f fd ["kinds", "kind", "value"] (spVR3 K T) := by
  refine HG.fn_ofG F scVR (fun vs H Q E h => ?_) (fun cdv A outer s H vs Q E fr hr h => ?_)
  · obtain ⟨vk, v, dk, ks, kind, d, rfl, _⟩ := h
    rfl
  · obtain ⟨vk, v, dk, ks, kind, d, rfl, rk, ik, ek, ok, kn, r, ft, tb, k⟩ := h
    have hu : (A.deeper (envOfC "_law_value_right" (defScope sVR) s.heap.objs.size f cdv)).units + 64 < cLine := by
      have := hr.un
      omega
    refine ⟨_, PSs.nox (pss_cons (ps_par (i := 3) (j := 4) rfl scVR.nd rfl rfl (by decide) rfl rfl (pa_cons (pe_call GS (hr.mono (by decide)) (by rfl) mS kS bS .nil pass0 (pa_cons (pv 0) (pa_cons (pv 1) (pa_cons (pv 2) pa_nil)))) (pa_cons (pe_callB (call_reprD fr hu) (by rfl) mr boot_repr (pa_cons (pv 2) pa_nil)) pa_nil)) (by rfl))
      (pss_cons (ps_for PassesOwn.never rfl (pi_list (pe_lst (pa_cons (pe_callS GT (hr.mono (by decide)) (by rfl) mT kT bT (E := fun _ => E0) (fun _ => passN) (pa_cons (pv 0) (pa_cons (pv 1) (pa_cons (pv 2) pa_nil))))
          (pa_cons (CK.pe_callKS GT (hr.mono (by decide)) (by rfl) mT kT bK (E := fun _ => E0) (fun _ => passN) (pk_cons (pv 2) (pk_cons (pv 0) (pk_cons (pv 1) pk_nil)))) pa_nil)))) (pg_name (i := 5) scVR.nd rfl (.inl rfl))
        (pss_one (ps_if (PW.pt (pw_or (pt_not (pt_val (pe_callB (call_isD (K := K) rfl) (by rfl) mi boot_isinstance (pa_cons (pv 5) (pa_cons (pe_bltn (v := .ty "bool") (by rfl) mb (by decide +kernel) rfl) pa_nil)))))
          (pw_or1 (pt_cmpR op_ne (pv 5) (pv 3) (nomark _))))) (pss_one (ps_ret pe_bl)) pss_nil)))
      (pss_one (ps_ret (pe_cmpR op_eq (pe_callB (call_reprD fr hu) (by rfl) mr boot_repr (pa_cons (pv 2) pa_nil)) (pv 4) (nomark _)))))), ?_⟩
    have ikk : isTup 1 6 isKind dk = true := by
      have h := ik
      unfold isKinds at h
      simp only [Bool.and_eq_true] at h
      first | exact h.1 | exact h.1.1 | exact h.1.1.1
    have ka : ∀ {G : Hp}, Rp K G vk dk → KindsAt K G vk ks := fun h => ek ▸ kindsAt h ikk
    have kp : Pn kind := any_pn (ok.nm.any _ kn)
    have kl : kind.length ≤ 65536 := Nat.le_trans (high_len (ok.nm.hi _ kn)) (by decide)
    have ikn : isKindName (kindsOf dk) (.str kind) = some kind := by
      rw [ek]
      show (if kind ∈ kNames ks then some kind else none) = _
      rw [if_pos kn]
    refine ⟨vk, rfl, _, rfl, v, rfl, vk, v, ks, kind, d, rfl, ka rk, ok, kp, r, tb, fun H1 x1 => ?_⟩
    have r1 := r.ex x1 tb
    have rk1 := rk.ex x1 tb
    have tb1 := x1.tb tb
    refine ⟨v, rfl, v, d, rfl, r1, ft.sh, ft.dl, ft.dp, ft.ln, _, _, rfl, ?_⟩
    dsimp only
    refine ⟨vk, rfl, _, rfl, v, rfl, vk, .str kind, v, dk, .str kind, bare d, rfl, rk1, .str _ kl, r1.rp, tb1, fun e => (by rw [ik] at e; cases e), fun _ e => (by rw [ikn] at e; cases e), fun z _ ez H2 x2 => ?_⟩
    rw [ikn] at ez
    cases ez
    rw [ek, isSay_bare]
    have r2 := r1.ex x2 tb1
    have rk2 := rk1.ex x2 tb1
    have tb2 := x2.tb tb1
    refine ⟨v, rfl, vk, rfl, _, rfl, vk, .str kind, v, dk, .str kind, bare d, rfl, rk2, .str _ kl, r2.rp, tb2, fun e => (by rw [ik] at e; cases e), fun _ e => (by rw [ikn] at e; cases e), fun z _ ez H3 x3 => ?_⟩
    rw [ikn] at ez
    cases ez
    rw [ek, isSay_bare]
    generalize isSay (ents ks) kind d = due
    refine ⟨by show 2 ≤ sizeLine; decide, fun o4 ho4 => ?_⟩
    have x4 : Ex T H3 (upd H3 o4 (.lst [.bl due, .bl due])) := Ex.new ho4
    have e4 : (upd H3 o4 (.lst [.bl due, .bl due])) o4 = some (.lst [.bl due, .bl due]) := upd_same
    have xx := ((x1.trans x2).trans x3).trans x4
    generalize upd H3 o4 (.lst [.bl due, .bl due]) = G4 at x4 e4 xx ⊢
    have r4 := r.ex xx tb
    refine ⟨o4, rfl, ⟨_, .inl (.inl e4)⟩, for_list (xs := [V.bl due, .bl due]) (fun _ σ G => ∃ a5, σ = [some vk, some (.str kind), some v, some (.bl due), some (.str d.shown), a5] ∧ Ex T H G ∧ G o4 = some (.lst [.bl due, .bl due]))
      ⟨none, rfl, xx, e4⟩ (fun i σ G _ ⟨_, _, _, h⟩ => .inl (.inl h)) (fun i x σ G hx ⟨a5, eσ, xx, eo⟩ => ?_) (fun σ G ⟨a5, eσ, xx, eo⟩ => ?_)⟩
    · subst eσ
      have ex : x = .bl due := by
        have m := List.mem_of_getElem? hx
        simp only [List.mem_cons, List.mem_nil_iff, or_false] at m
        rcases m with h | h <;> exact h
      subst ex
      refine ⟨_, rfl, .bl due, .bool due, "bool", rfl, .bl _, by simp, ⟨_, rfl, ?_⟩⟩
      show if (!subT "bool" "bool") = true then _ else _
      rw [show subT "bool" "bool" = true from rfl]
      refine iteF ⟨_, rfl, _, rfl, rfl, _, rfl, ?_⟩
      rw [decide_eq_true (rfl : V.bl due = V.bl due)]
      exact iteF ⟨_, rfl, xx, eo⟩
    · subst eσ
      refine ⟨v, rfl, v, d, rfl, r.ex xx tb, ft.sh, ft.dl, ft.dp, ft.ln, _, rfl, rfl, ?_⟩
      rw [decide_eq_true (rfl : V.str d.shown = V.str d.shown)]
      exact k _ xx
end
end JF
set_option Elab.async false
set_option linter.all false
set_option maxRecDepth 100000
set_option maxHeartbeats 1000000
/-! other names for names -/
namespace JF
open PySem PySem.Spec PyProof PyProof.Rows L2 GxR GA PC
/-- names told and their new ones, in a dict -/
def kvW (ws : List (Str × Str)) : List (Key × V) := ws.map fun z => (.inr z.1, .str z.2)
def look (ws : List (Str × Str)) (z : Str) : Str := match ws.find? (fun x => decide (x.1 = z)) with
  | some x => x.2
  | none => ""
theorem kvW_val (ws : List (Str × Str)) (z : Str) : valV (kvW ws) (.inr z) = if z ∈ ws.map (·.1) then some (.str (look ws z)) else none := by
  induction ws with
  | nil => rfl
  | cons x ws ih =>
    by_cases e : x.1 = z
    · rw [show kvW (x :: ws) = (.inr x.1, .str x.2) :: kvW ws from rfl, valV_pos (by show Sum.inr x.1 = Sum.inr z; rw [e]), if_pos (by rw [List.map_cons, ← e]; exact List.mem_cons_self ..)]
      unfold look
      rw [List.find?_cons_of_pos (p := fun y : Str × Str => decide (y.1 = z)) (decide_eq_true e)]
    · rw [show kvW (x :: ws) = (.inr x.1, .str x.2) :: kvW ws from rfl, valV_neg (fun h => e (Sum.inr.inj h)), ih]
      have e1 : look (x :: ws) z = look ws z := by
        unfold look
        rw [List.find?_cons_of_neg (by simpa using e)]
      rw [e1]
      have e2 : (z ∈ (x :: ws).map (·.1)) ↔ z ∈ ws.map (·.1) := by
        rw [List.map_cons, List.mem_cons]
        exact ⟨fun h => h.resolve_left fun y => e y.symm, .inr⟩
      by_cases h : z ∈ ws.map (·.1)
      · rw [if_pos h, if_pos (e2.mpr h)]
      · rw [if_neg h, if_neg fun y => h (e2.mp y)]
theorem kvW_put {ws : List (Str × Str)} {z y : Str} (h : z ∉ ws.map (·.1)) : putK (kvW ws) (.inr z) (.str y) = kvW (ws ++ [(z, y)]) := by
  rw [put_new]
  · show _ = (ws ++ [(z, y)]).map _
    rw [List.map_append]; rfl
  · intro kv hkv e
    obtain ⟨x, hx, rfl⟩ := List.mem_map.mp hkv
    exact h (Sum.inr.inj e ▸ List.mem_map_of_mem hx)
theorem look_cons_ne {x : Str × Str} {ws : List (Str × Str)} {z : Str} (e : x.1 ≠ z) : look (x :: ws) z = look ws z := by
  unfold look
  rw [List.find?_cons_of_neg (by simpa using e)]
theorem look_cons_eq {x : Str × Str} {ws : List (Str × Str)} {z : Str} (e : x.1 = z) : look (x :: ws) z = x.2 := by
  unfold look
  rw [List.find?_cons_of_pos (p := fun y : Str × Str => decide (y.1 = z)) (decide_eq_true e)]
theorem look_all : ∀ {ws : List (Str × Str)}, (ws.map (·.1)).Nodup → (ws.map (·.1)).map (look ws) = ws.map (·.2)
  | [], _ => rfl
  | x :: ws, h => by
    rw [List.map_cons, List.nodup_cons] at h
    rw [List.map_cons, List.map_cons, List.map_cons, look_cons_eq rfl]
    refine congrArg _ ?_
    rw [← look_all h.2]
    exact List.map_congr_left fun y hy => look_cons_ne fun e => h.1 (e ▸ hy)
theorem look_mem {ws : List (Str × Str)} {z : Str} (h : z ∈ ws.map (·.1)) : (z, look ws z) ∈ ws := by
  induction ws with
  | nil => cases h
  | cons x ws ih =>
    by_cases e : x.1 = z
    · rw [look_cons_eq e, ← e]; exact List.mem_cons_self ..
    · rw [look_cons_ne e]
      rw [List.map_cons] at h
      exact List.mem_cons_of_mem _ (ih ((List.mem_cons.mp h).resolve_left fun y => e y.symm))
def rMk (ws ts : List (Str × Str)) (m : Mk') : Mk' := (look ts m.1, m.2.map (look ws))
def rKd (ws ts : List (Str × Str)) (k : Kd) : Kd := (look ws k.1, k.2.map (rMk ws ts))
/-- all names have a new one -/
structure Rn (ks : List Kd) (ws ts : List (Str × Str)) : Prop where
  w : ∃ wr, ws = (("number" : Str), ("number" : Str)) :: wr ∧ wr.map (·.1) = kNames ks ∧ NmOk (wr.map (·.2))
  t : ts.map (·.1) = kMakers ks ∧ NmOk (ts.map (·.2))
theorem Rn.names {ks : List Kd} {ws ts : List (Str × Str)} (r : Rn ks ws ts) (ok : KsOk ks) : ∃ wr, ws = (("number" : Str), ("number" : Str)) :: wr ∧ (kNames ks).map (look ws) = wr.map (·.2) ∧ look ws "number" = "number" := by
  obtain ⟨wr, rfl, h1, h2⟩ := r.w
  refine ⟨wr, rfl, ?_, look_cons_eq rfl⟩
  have nd : ((("number" : Str), ("number" : Str)) :: wr |>.map (·.1)).Nodup := by
    rw [List.map_cons, List.nodup_cons, h1]
    exact ⟨ok.numNot, ok.nm.nd⟩
  have h := look_all nd
  rw [List.map_cons, List.map_cons, List.map_cons, h1] at h
  exact (List.cons.inj h).2
theorem Rn.ok {ks : List Kd} {ws ts : List (Str × Str)} (r : Rn ks ws ts) (ok : KsOk ks) : KsOk (ks.map (rKd ws ts)) ∧ kNames (ks.map (rKd ws ts)) = (kNames ks).map (look ws) := by
  obtain ⟨wr, e0, h1, h2⟩ := r.names ok
  have hn : kNames (ks.map (rKd ws ts)) = (kNames ks).map (look ws) := by
    unfold kNames
    rw [List.map_map, List.map_map]; rfl
  have hm : kMakers (ks.map (rKd ws ts)) = (kMakers ks).map (look ts) := by
    unfold kMakers
    rw [List.flatMap_map, List.map_flatMap]
    refine congrArg (fun f => List.flatMap f ks) (funext fun k => ?_)
    show ((k.2.map (rMk ws ts)).map (·.1)) = (k.2.map (·.1)).map (look ts)
    rw [List.map_map, List.map_map]; rfl
  have hnw : NmOk (wr.map (·.2)) := by
    obtain ⟨wr', e, _, h⟩ := r.w
    rw [e0] at e
    rw [(List.cons.inj e).2]
    exact h
  have mks : ∀ k' ∈ ks.map (rKd ws ts), ∃ k ∈ ks, k' = rKd ws ts k := fun k' h => by
    obtain ⟨k, hk, e⟩ := List.mem_map.mp h
    exact ⟨k, hk, e.symm⟩
  refine ⟨⟨by rw [List.length_map]; exact ok.h1, by rw [List.length_map]; exact ok.h6, fun k' h => ?_, fun k' h => ?_, fun k' h m' hm' => ?_, ?_, ?_, fun k' h m' hm' z' hz' => ?_⟩, hn⟩
  · obtain ⟨k, hk, rfl⟩ := mks k' h
    show 1 ≤ (k.2.map _).length
    rw [List.length_map]; exact ok.m1 k hk
  · obtain ⟨k, hk, rfl⟩ := mks k' h
    show (k.2.map _).length ≤ 6
    rw [List.length_map]; exact ok.m6 k hk
  · obtain ⟨k, hk, rfl⟩ := mks k' h
    obtain ⟨m, hm, rfl⟩ := List.mem_map.mp hm'
    show (m.2.map _).length ≤ 4
    rw [List.length_map]; exact ok.f4 k hk m hm
  · rw [hn, h1]; exact hnw
  · rw [hm, ← r.t.1, look_all (by rw [r.t.1]; exact ok.tt.nd)]
    exact r.t.2
  · obtain ⟨k, hk, rfl⟩ := mks k' h
    obtain ⟨m, hm, rfl⟩ := List.mem_map.mp hm'
    obtain ⟨z, hz, rfl⟩ := List.mem_map.mp hz'
    rcases ok.fl k hk m hm z hz with h | rfl
    · exact .inl (by rw [hn]; exact List.mem_map_of_mem h)
    · exact .inr h2
theorem fillD {T : List Addr} {p q : Addr} {b : Nat} {H G : Hp} {D : Addr} {kvs : List (Key × V)} (kvs' : List (Key × V)) (L : Wl T p q b G) (x : Ex T (off p q H) (off p q G)) (f : off p q H D = none) (e : off p q G D = some (.dK kvs)) :
    Wl T p q b (upd G D (.dK kvs')) ∧ Ex T (off p q H) (off p q (upd G D (.dK kvs'))) ∧ off p q (upd G D (.dK kvs')) D = some (.dK kvs') ∧ ∀ c, c ≠ D → off p q (upd G D (.dK kvs')) c = off p q G c := by
  obtain ⟨n1, n2, h⟩ := off_some e
  refine ⟨?_, ?_, ?_, fun c hc => ?_⟩
  · have nT : D ∉ T := L.tb.seqN e (fun _ z => by cases z)
    obtain ⟨m, c, ts, ne, hp, hq, w⟩ := L.w
    refine ⟨⟨m, c, ts, ne, by rw [upd_ne n1.symm]; exact hp, by rw [upd_ne n2.symm]; exact hq, w⟩, L.np, L.nq, fun P hP => ?_⟩
    obtain ⟨ps, e, r⟩ := L.tb P hP
    have nP : P ≠ D := fun z => nT (by rw [← z]; exact hP)
    exact ⟨ps, by rw [off_upd n1 n2, upd_ne nP]; exact e, r⟩
  · rw [off_upd n1 n2]; exact x.upd f
  · rw [off_upd n1 n2, upd_same]
  · rw [off_upd n1 n2, upd_ne hc]
/-- [d[k] for k in d] -/
theorem comp_keys {i j : Nat} {σ : L2.St} {H : Hp} {D : Addr} {ws : List (Str × Str)} {Q : VK} (hi : σ[i]? = some (some (.ref D))) (hD : H D = some (.dK (kvW ws))) (nd : (ws.map (·.1)).Nodup) (sm : ws.length ≤ 1000) (hij : i ≠ j) (lj : j < σ.length)
    (k : ∀ c, H c = none → Q (.ref c) (upd H c (.lst ((ws.map (·.2)).map V.str)))) : tLockE (tLc (iKeys (tVar i)) (gName j) tYes (tDGet (tVar i) (tVar j)) [j]) σ H Q := by
  refine ⟨D, _, hD, trivial, fun od => ⟨_, hi, D, od, rfl, .inl ⟨_, upd_same, fun c hc => ?_⟩⟩⟩
  have nc : c ≠ D := fun z => by
    rw [z, upd_same] at hc; cases hc
  have hc0 : H c = none := by rwa [upd_ne nc] at hc
  have eD : ∀ n, (upd (upd H D (.frz od (.dK (kvW ws)))) c (.lst (((ws.take n).map (·.2)).map V.str))) D = some (.frz od (.dK (kvW ws))) := fun n => by rw [upd_ne nc.symm, upd_same]
  refine lcB_it (n := (kvW ws).length) walk_keys (fun n G => G = upd (upd H D (.frz od (.dK (kvW ws)))) c (.lst (((ws.take n).map (·.2)).map V.str))) rfl (fun n G _ e => by rw [e]; exact eD n) (fun n x G G2 hn e y => ?_) (fun G e => ?_)
  · obtain ⟨rfl, k0, v0, h0, rfl⟩ := y
    have hn' : n < ws.length := by unfold kvW at hn; rwa [List.length_map] at hn
    have hz : ws[n]? = some ws[n] := List.getElem?_eq_getElem hn'
    have h1 : (kvW ws)[n]? = some (.inr (ws[n]).1, .str (ws[n]).2) := by
      unfold kvW
      rw [List.getElem?_map, hz]; rfl
    rw [h1] at h0
    cases h0
    subst e
    refine g_one (by simp) lj fun σ2 l2 keep g => yesT ⟨_, (keep i (by simpa using hij)).trans hi, _, g, D, .str (look ws (ws[n]).1), rfl, .inl ⟨kvW ws, .inr (ws[n]).1, .inr ⟨od, eD n⟩, rfl, ?_⟩, _, upd_same, ?_, ?_⟩
    · rw [kvW_val, if_pos (List.mem_map_of_mem (List.getElem_mem hn'))]
    · exact small1000 (by rw [List.length_map, List.length_map, List.length_take]; omega)
    · have e1 : look ws (ws[n]).1 = (ws[n]).2 := by
        have h := congrArg (fun xs => xs[n]?) (look_all nd)
        simp only [List.getElem?_map, hz, Option.map_some] at h
        exact Option.some.inj h
      rw [e1]
      funext z
      by_cases ez : z = c
      · subst ez
        rw [upd_same, upd_same, show ws.take (n + 1) = ws.take n ++ [ws[n]] by rw [List.take_succ, hz]; rfl, List.map_append, List.map_append]
        rfl
      · rw [upd_ne ez, upd_ne ez, upd_ne ez]
  · subst e
    refine ⟨eD _, ?_⟩
    have e1 : upd (upd (upd H D (.frz od (.dK (kvW ws)))) c (.lst (((ws.take (kvW ws).length).map (·.2)).map V.str))) D (.dK (kvW ws)) = upd H c (.lst ((ws.map (·.2)).map V.str)) := by
      funext z
      by_cases ez : z = D
      · subst ez
        rw [upd_same, upd_ne nc.symm, hD]
      · rw [upd_ne ez]
        by_cases ec : z = c
        · subst ec
          rw [upd_same, upd_same]
          unfold kvW
          rw [List.length_map, List.take_length]
        · rw [upd_ne ec, upd_ne ec, upd_ne ez]
    rw [e1]
    exact k c hc0
end JF
set_option Elab.async false
set_option linter.all false
set_option maxRecDepth 100000
set_option maxHeartbeats 1000000
namespace JF
open PySem PySem.Spec PyProof PyProof.Rows L2 GxR GA PC
abbrev sRen : Stmt := topS 41
abbrev nRen : List Str := ["well", "kinds", "kind", "value", "words", "titles", "new", "name", "makers", "title", "fields", "old", "word", "field", "entry"]
theorem scRen : FnScope ["well", "kinds", "kind", "value", "words", "titles", "new", "name", "makers", "title", "fields", "old", "word", "field", "entry"] ["well", "kinds", "kind", "value"] (defScope sRen) := ⟨rfl, rfl, rfl, by decide +kernel, rfl, by decide +kernel, by decide +kernel⟩
/-- the dicts and the list under way -/
structure RnJ (T : List Addr) (p q D1 D2 n3 : Addr) (H : Hp) (b : Nat) (ws ts : List (Str × Str)) (ys : List V) (G : Hp) : Prop where
  L : Wl T p q b G
  x : Ex T (off p q H) (off p q G)
  d1 : off p q G D1 = some (.dK (kvW ws))
  d2 : off p q G D2 = some (.dK (kvW ts))
  e3 : off p q G n3 = some (.lst ys)
  f1 : off p q H D1 = none
  f2 : off p q H D2 = none
  f3 : off p q H n3 = none
  ne : D1 ≠ D2
theorem RnJ.to {T : List Addr} {p q D1 D2 n3 : Addr} {H : Hp} {b b' : Nat} {ws ts : List (Str × Str)} {ys : List V} {G G' : Hp} (J : RnJ T p q D1 D2 n3 H b ws ts ys G) (L' : Wl T p q b' G') (x : Ex T (off p q G) (off p q G')) : RnJ T p q D1 D2 n3 H b' ws ts ys G' :=
  ⟨L', J.x.trans x, J.L.keep x J.d1 (fun _ z => by cases z), J.L.keep x J.d2 (fun _ z => by cases z), J.L.keep x J.e3 (fun _ z => by cases z), J.f1, J.f2, J.f3, J.ne⟩
theorem RnJ.put1 {T : List Addr} {p q D1 D2 n3 : Addr} {H : Hp} {b : Nat} {ws ts : List (Str × Str)} {ys : List V} {G : Hp} (J : RnJ T p q D1 D2 n3 H b ws ts ys G) {z y : Str} (n : z ∉ ws.map (·.1)) : RnJ T p q D1 D2 n3 H b (ws ++ [(z, y)]) ts ys (upd G D1 (.dK (putK (kvW ws) (.inr z) (.str y)))) := by
  rw [kvW_put n]
  obtain ⟨L, x, e, o⟩ := fillD (kvW (ws ++ [(z, y)])) J.L J.x J.f1 J.d1
  have n3 : n3 ≠ D1 := fun z => by
    subst z
    have := J.e3.symm.trans J.d1
    cases this
  exact ⟨L, x, e, (o D2 J.ne.symm).trans J.d2, (o _ n3).trans J.e3, J.f1, J.f2, J.f3, J.ne⟩
theorem RnJ.put2 {T : List Addr} {p q D1 D2 n3 : Addr} {H : Hp} {b : Nat} {ws ts : List (Str × Str)} {ys : List V} {G : Hp} (J : RnJ T p q D1 D2 n3 H b ws ts ys G) {z y : Str} (n : z ∉ ts.map (·.1)) : RnJ T p q D1 D2 n3 H b ws (ts ++ [(z, y)]) ys (upd G D2 (.dK (putK (kvW ts) (.inr z) (.str y)))) := by
  rw [kvW_put n]
  obtain ⟨L, x, e, o⟩ := fillD (kvW (ts ++ [(z, y)])) J.L J.x J.f2 J.d2
  have n3 : n3 ≠ D2 := fun z => by
    subst z
    have := J.e3.symm.trans J.d2
    cases this
  exact ⟨L, x, (o D1 J.ne).trans J.d1, e, (o _ n3).trans J.e3, J.f1, J.f2, J.f3, J.ne⟩
theorem RnJ.app {T : List Addr} {p q D1 D2 n3 : Addr} {H : Hp} {b : Nat} {ws ts : List (Str × Str)} {ys : List V} {G : Hp} (J : RnJ T p q D1 D2 n3 H b ws ts ys G) (zs : List V) : RnJ T p q D1 D2 n3 H b ws ts zs (upd G n3 (.lst zs)) := by
  obtain ⟨L, x, e, o⟩ := fillW zs J.L J.x J.f3 J.e3
  have m1 : D1 ≠ n3 := fun z => by
    subst z
    have := J.e3.symm.trans J.d1
    cases this
  have m2 : D2 ≠ n3 := fun z => by
    subst z
    have := J.e3.symm.trans J.d2
    cases this
  exact ⟨L, x, (o _ m1).trans J.d1, (o _ m2).trans J.d2, e, J.f1, J.f2, J.f3, J.ne⟩
def spRen (K : PySem.W.Frag) (T : List Addr) : Sp := fun vs H Q _ => ∃ (p q : Addr) (b : Nat) (a : Addr) (xs : List V) (ks : List Kd) (kind : Str) (v : V) (d : PyData), vs = [.ref p, .ref a, .str kind, v] ∧ Wl T p q b H ∧ b + 900 < 1000000 ∧
  off p q H a = some (.tup xs) ∧ Paired (KdT p q H) xs ks ∧ KsOk ks ∧ kind ∈ kNames ks ∧ Dx K (off p q H) v d ∧ Bn 3 130000 d ∧ Tw d ∧
  ∀ H' t a' xs' ks' kind' v' d', off p q H' t = some (.tup [.ref a', .str kind', v']) → off p q H' a' = some (.tup xs') → Paired (KdT p q H') xs' ks' → KsOk ks' → kind' ∈ kNames ks' → Dx K (off p q H') v' d' → Bn 3 150000 d' → Ex T (off p q H) (off p q H') → Wl T p q (b + 900) H' → Q (.ref t) H'
theorem dgW {H : Hp} {D : Addr} {ws : List (Str × Str)} {z : Str} (h : H D = some (.dK (kvW ws))) (hz : z ∈ ws.map (·.1)) : DGet H D (.str z) (some (.str (look ws z))) := by
  have := DGet.k (k := .inr z) h
  rw [kvW_val, if_pos hz] at this
  exact this
theorem lcKb {T : List Addr} {J : It} {Gp : Hp → Prop} {xs ys : List V} {g : TG} {tt : TT} {vs : List Nat} {σ : L2.St} {H1 : Hp} {D : Addr} {Qd : Hp → Prop} {B : L2.St → Bool → Hp → (Hp → Prop) → Prop} (wk : Walk J xs.length Gp (YAt xs)) (hG : ∀ G, Ex T H1 G → Gp G) (tb : TbOk T H1) (hD : H1 D = none) (hl : ys.length = xs.length) (sm : xs.length < sizeLine)
    (step : ∀ (i : Nat) (v y : V) (G : Hp), xs[i]? = some v → ys[i]? = some y → Ex T H1 G → (∀ H4, Ex T G H4 → ∃ acc, H4 D = some (.lst acc) ∧ acc.length < sizeLine ∧ PvK T H1 D ys (i + 1) (upd H4 D (.lst (acc ++ [y])))) →
      g v (wipe σ vs) G fun σ2 H2 => wipe σ2 vs = wipe σ vs ∧ tt σ2 H2 fun b H3 => B σ2 b H3 (PvK T H1 D ys (i + 1)))
    (done : ∀ G, Ex T H1 G → G D = some (.lst ys) → Qd G) : ∃ W : Nat → Nat → Hp → Prop, (∃ m, W 0 m (upd H1 D (.lst []))) ∧ ∀ (i m : Nat) (H : Hp), W i m H →
      (J.stop i H ∧ Qd H) ∨ (J.go i H ∧ ∃ Nx : Hp → Prop, (∀ H', Nx H' → ∃ m', m' < m ∧ W (i + 1) m' H') ∧ ∀ x H', J.yld i H x H' → g x (wipe σ vs) H' fun σ2 H2 => wipe σ2 vs = wipe σ vs ∧ tt σ2 H2 fun b H3 => B σ2 b H3 Nx) := by
  refine lcB_it wk (PvK T H1 D ys) ⟨Ex.new hD, upd_same⟩ (fun i G _ p => hG G p.1) (fun i x G G2 hi p y => ?_) (fun G p => ?_)
  · obtain ⟨rfl, hx⟩ := y
    obtain ⟨y, hy⟩ : ∃ y, ys[i]? = some y := ⟨ys[i]'(hl ▸ hi), List.getElem?_eq_getElem _⟩
    have nT : D ∉ T := (p.1.tb tb).seqN p.2 (fun _ z => by cases z)
    exact step i x y _ hx hy p.1 (fun H4 x4 => ⟨ys.take i, x4.keep D _ p.2 nT, Nat.lt_of_le_of_lt (by rw [List.length_take]; omega) sm, (p.1.trans x4).upd hD, by rw [upd_same, List.take_succ, hy]; rfl⟩)
  · refine done G p.1 ?_
    rw [p.2, ← hl, List.take_length]
/-- entries under new names -/
def vR (ts : List (Str × Str)) : V → V
  | .str z => .str (look ts z)
  | v => v
def dR (ts : List (Str × Str)) : PyData → PyData
  | .str z => .str (look ts z)
  | d => d
theorem getW (ts : List (Str × Str)) (z : Str) : (valV (kvW ts) (.inr z)).getD (.str ("" : Str)) = .str (look ts z) := by
  rw [kvW_val]
  by_cases h : z ∈ ts.map (·.1)
  · rw [if_pos h]; rfl
  · rw [if_neg h]
    have e : look ts z = "" := by
      unfold look
      rw [List.find?_eq_none.mpr fun x hx => by
        intro e
        exact h (of_decide_eq_true e ▸ List.mem_map_of_mem hx)]
    rw [e]; rfl
theorem look_short {ts : List (Str × Str)} (h : NmOk (ts.map (·.2))) (z : Str) : Pn (look ts z) ∧ (look ts z).length ≤ 10 := by
  by_cases e : z ∈ ts.map (·.1)
  · have m := h.hi _ (List.mem_map_of_mem (f := (·.2)) (look_mem e))
    exact ⟨any_pn (high_any m), high_len m⟩
  · have e0 : look ts z = "" := by
      unfold look
      rw [List.find?_eq_none.mpr fun x hx => by
        intro e1
        exact e (of_decide_eq_true e1 ▸ List.mem_map_of_mem hx)]
    rw [e0]
    exact ⟨fun c hc => by simp [show ("" : Str).cps.toList = [] from rfl] at hc, by decide⟩
theorem dR_map {ts : List (Str × Str)} (h : NmOk (ts.map (·.2))) : ∀ d, dR ts d = d ∨ ∃ z, dR ts d = .str z ∧ Pn z ∧ z.length ≤ 10 := fun d => by
  cases d <;> first | exact .inl rfl | exact .inr ⟨_, rfl, look_short h _⟩
theorem vR_dx {K : PySem.W.Frag} {H : Hp} {ts : List (Str × Str)} (h : NmOk (ts.map (·.2))) {v : V} {d : PyData} (r : Dx K H v d) : Dx K H (vR ts v) (dR ts d) := by
  cases r with
  | str z _ => exact .str _ (Nat.le_trans (look_short h z).2 (by decide))
  | non => exact .non
  | bl b => exact .bl b
  | int n => exact .int n
  | lst a b => exact .lst a b
  | tup a b => exact .tup a b
  | dic0 a => exact .dic0 a
  | dic1 a b => exact .dic1 a b
theorem vR_all {K : PySem.W.Frag} {H : Hp} {ts : List (Str × Str)} (h : NmOk (ts.map (·.2))) : ∀ {vs : List V} {ds : List PyData}, DxAll K H vs ds → DxAll K H (vs.map (vR ts)) (ds.map (dR ts))
  | _, _, .nil => .nil
  | _, _, .cons r t => .cons (vR_dx h r) (vR_all h t)
theorem Bn.inv {k n : Nat} {ds : List PyData} (h : Bn (k + 1) n (.tuple ds)) : BnA k n ds := ⟨⟨h.g.sh, h.g.lf, Nat.le_of_succ_le_succ h.g.dp, h.g.wt⟩, h.nd⟩
section
variable {P : Program} {w : World} {K : PySem.W.Frag} {mg : Str → Option Value} {base : Heap} {T : List Addr}
theorem ok_ren {f aN : Addr} {fd dN : FuncData} (F : Fun K "_law_renamed" "_law_renamed" sRen f fd) (B : BI mg) (mi : mg "isinstance" = none)
    (GN : FnOk P w K mg base CX0 2 aN dN ["well", "high", "taken"] (spLNm K T)) (mN : mg "_law_name" = some (.ref aN)) (kN : PySem.W.keepIn K (.ref aN) = true) (bN : Binds K dN ["well", "high", "taken"] []) :
    FnOk P w K mg base CX0 3 f fd ["well", "kinds", "kind", "value"] (spRen K T) := by
  refine F.ok scRen (fun vs H Q E h => ?_) (fun cdv A outer s H vs Q E hr h => ?_)
  · obtain ⟨p, q, b, a, xs, ks, kind, v, d, rfl, _⟩ := h
    rfl
  · obtain ⟨p, q, b, a, xs, ks, kind, v, d, rfl, L, hb, ha, pr, ok, hkn, r, bn, tw, k⟩ := h
    have hu := hu_of hr
    refine ⟨_, pss_cons (ps_asg (pe_tup (pa_cons (pe_disp (pps_cons pe_str pe_str pps_nil) (by rfl) (by rfl) (fun z => by cases z) (by decide)) (pa_cons pe_dnewK (pa_cons (pe_lst pa_nil) pa_nil)))) (pg_tup rfl (pgs_cons (pg_name (i := 4) scRen.nd rfl (.inr rfl)) (pgs_cons (pg_name (i := 5) scRen.nd rfl (.inr rfl)) (pgs_cons (pg_name (i := 6) scRen.nd rfl (.inl rfl)) pgs_nil)))))
      (pss_cons (ps_for PassesOwn.never rfl (pi_tup (pv 1)) (pg_two (K := K) (i := 7) (j := 8) rfl rfl scRen.nd rfl rfl rfl rfl)
        (pss_cons (ps_dput hu (pv 4) (pv 7) (pe_call GN (hr.mono (by decide)) (by rfl) mN kN bN .nil pass0 (pa_cons (pv 0) (pa_cons pe_bl (pa_cons (pe_lock (pe_lc (own := [("word", 12)]) (g := gName 12) (tt := tYes) (by rfl) scRen.nd (pi_keys (pv 4)) (blkOk_by (N := nRen) (sc := defScope sRen) (by decide +kernel))
            (fun _ _ _ _ _ => pg_name (i := 12) scRen.nd rfl (.inl rfl)) (fun _ _ _ _ _ => pts_nil) (fun _ _ _ _ _ => pe_dget hu (pv 4) (pv 12) (fun _ _ => rfl)))) pa_nil)))) rfl)
        (pss_one (ps_for PassesOwn.never rfl (pi_tup (pv 8)) (pg_two (K := K) (i := 9) (j := 10) rfl rfl scRen.nd rfl rfl rfl rfl)
          (pss_one (ps_dput hu (pv 5) (pv 9) (pe_call GN (hr.mono (by decide)) (by rfl) mN kN bN .nil pass0 (pa_cons (pv 0) (pa_cons pe_bl (pa_cons (pe_lock (pe_lc (own := [("old", 11)]) (g := gName 11) (tt := tYes) (by rfl) scRen.nd (pi_keys (pv 5)) (blkOk_by (N := nRen) (sc := defScope sRen) (by decide +kernel))
            (fun _ _ _ _ _ => pg_name (i := 11) scRen.nd rfl (.inl rfl)) (fun _ _ _ _ _ => pts_nil) (fun _ _ _ _ _ => pe_dget hu (pv 5) (pv 11) (fun _ _ => rfl)))) pa_nil)))) rfl))))))
      (pss_cons (ps_for PassesOwn.never rfl (pi_tup (pv 1)) (pg_two (K := K) (i := 7) (j := 8) rfl rfl scRen.nd rfl rfl rfl rfl)
        (pss_one (ps_expr (pe_appK (K := K) rfl (pv 6) (pa_cons (pe_tup (pa_cons (pe_dget hu (pv 4) (pv 7) (fun _ _ => rfl)) (pa_cons (pe_tupK (K := K) rfl (by rfl) B.tuple
          (pe_lc (own := [("title", 9), ("fields", 10)]) (tt := tYes) (by rfl) scRen.nd (pi_tup (pv 8)) (blkOk_by (N := nRen) (sc := defScope sRen) (by decide +kernel))
            (fun _ _ _ _ _ => pg_two (K := K) (i := 9) (j := 10) rfl rfl scRen.nd rfl rfl rfl rfl) (fun _ _ _ _ _ => pts_nil) (fun _ _ _ _ _ => pe_tup (pa_cons (pe_dget hu (pv 5) (pv 9) (fun _ _ => rfl)) (pa_cons (pe_tupK (K := K) rfl (by rfl) B.tuple
              (pe_lc (own := [("field", 13)]) (g := gName 13) (tt := tYes) (by rfl) scRen.nd (pi_tupK (K := K) rfl (pv 10)) (blkOk_in (N := nRen) (sc0 := defScope sRen) (by decide +kernel))
                (fun _ _ _ _ _ => pg_name (i := 13) scRen.nd rfl (.inl rfl)) (fun _ _ _ _ _ => pts_nil) (fun _ _ _ _ _ => pe_dget hu (pv 4) (pv 13) (fun _ _ => rfl)))) pa_nil))))) pa_nil))) pa_nil)))))
      (pss_cons (ps_set (i := 11) scRen.nd rfl (.inl rfl) (pe_ifExp (pt_val (pe_callB (call_isD (K := K) rfl) (by rfl) mi boot_isinstance (pa_cons (pv 3) (pa_cons (pe_bltn (v := .ty "tuple") (by rfl) B.tuple (by decide +kernel) rfl) pa_nil)))) (pv 3) (pe_tup pa_nil)))
      (pss_one (ps_ret (pe_tup (pa_cons (pe_tupK (K := K) rfl (by rfl) B.tuple (pv 6)) (pa_cons (pe_dget hu (pv 4) (pv 2) (fun _ _ => rfl)) (pa_cons (pe_tupK (K := K) rfl (by rfl) B.tuple
        (pe_lc (own := [("entry", 14)]) (g := gName 14) (tt := tYes) (by rfl) scRen.nd (pi_tup (pv 11)) (blkOk_by (N := nRen) (sc := defScope sRen) (by decide +kernel))
          (fun _ _ _ _ _ => pg_name (i := 14) scRen.nd rfl (.inl rfl)) (fun _ _ _ _ _ => pts_nil) (fun _ _ _ _ _ => pe_ifExp (pt_val (pe_callB (call_isD (K := K) rfl) (by rfl) mi boot_isinstance (pa_cons (pv 14) (pa_cons (pe_bltn (v := .ty "str") (by rfl) B.str (by decide +kernel) rfl) pa_nil))))
            (pe_dget2 hu (pv 5) (pv 14) pe_str ⟨rfl, rfl, rfl, rfl⟩) (pv 14)))) pa_nil))))))))), ?_⟩
    refine fun D1 h1 => ⟨upd_same, [(.inr ("number" : Str), .str ("number" : Str))], rfl, by decide, ?_⟩
    rw [show upd (upd H D1 (.dK [])) D1 (.dK (mergeK [] [(.inr ("number" : Str), .str ("number" : Str))])) = upd H D1 (.dK (kvW [(("number" : Str), ("number" : Str))])) by
      funext z
      by_cases e : z = D1
      · subst e; rw [upd_same, upd_same]; rfl
      · rw [upd_ne e, upd_ne e, upd_ne e]]
    refine fun D2 h2 => ⟨by show 0 ≤ sizeLine; decide, fun n3 h3 => ⟨by show 3 ≤ sizeLine; decide, fun t ht => ?_⟩⟩
    obtain ⟨L1, x1, e1⟩ := L.new (o := .dK (kvW [(("number" : Str), ("number" : Str))])) h1
    obtain ⟨L2, x2, e2⟩ := L1.new (o := .dK []) h2
    obtain ⟨L3, x3, e3⟩ := L2.new (o := .lst []) h3
    have x12 := x1.trans x2
    have J3 : RnJ T p q D1 D2 n3 H b [(("number" : Str), ("number" : Str))] [] [] _ := ⟨L3, x12.trans x3, L2.keep x3 (L1.keep x2 e1 (fun _ z => by cases z)) (fun _ z => by cases z), L2.keep x3 e2 (fun _ z => by cases z), e3, off_none h1, fresh_of x1 L.tb (off_none h2), fresh_of x12 L.tb (off_none h3), ne_of_none upd_same h2⟩
    obtain ⟨L4, x4, e4⟩ := L3.new (o := .tup [.ref D1, .ref D2, .ref n3]) ht
    have J4 := J3.to L4 x4
    refine ⟨t, _, rfl, .inl (.inl (off_un _ _ e4)), rfl, _, _, rfl, _, _, rfl, _, _, rfl, rfl, ?_⟩
    dsimp only
    clear J3 e4 L3 L2 L1 x1 x2 x3 e1 e2 e3
    generalize upd (upd (upd (upd H D1 (.dK (kvW [(("number" : Str), ("number" : Str))]))) D2 (.dK [])) n3 (.lst [])) t (.tup [.ref D1, .ref D2, .ref n3]) = G0 at J4 ⊢
    have toA : ∀ {G : Hp} {c : Addr} {ys : List V}, Ex T (off p q H) (off p q G) → off p q H c = some (.tup ys) → SqT K G c ys := fun x h => .inl (.inl (off_un (p := p) (q := q) _ _ (L.keep x h (fun _ z => by cases z))))
    have lx := paired_len pr
    have h6 := ok.h6
    refine ⟨_, rfl, a, rfl, ⟨xs, toA J4.x ha⟩, for_it (n := xs.length) walk_tup (fun i σ G => ∃ a7 a8 a9 a10 ws ts, σ = [some (.ref p), some (.ref a), some (.str kind), some v, some (.ref D1), some (.ref D2), some (.ref n3), a7, a8, a9, a10, none, none, none, none] ∧ RnJ T p q D1 D2 n3 H (b + 140 * i) ws ts [] G ∧ Rn (ks.take i) ws ts)
      ⟨none, none, none, none, _, _, rfl, J4, ⟨⟨[], rfl, by rw [List.take_zero]; rfl, ⟨List.nodup_nil, fun z hz => by cases hz⟩⟩, by rw [List.take_zero]; rfl, ⟨List.nodup_nil, fun z hz => by cases hz⟩⟩⟩ (fun i σ G _ ⟨_, _, _, _, _, _, _, J, _⟩ => toA J.x ha) (fun i x σ G G2 hi ⟨a7, a8, a9, a10, ws, ts, eσ, J, rn⟩ y => ?_) (fun σ G ⟨a7, a8, a9, a10, ws, ts, eσ, J, rn⟩ => ?_)⟩
    · obtain ⟨rfl, hx⟩ := y
      subst eσ
      obtain ⟨kd, hkd, b1, b2, ms, rfl, hb1, hb2, pm⟩ := paired_get pr hx
      have hk := List.mem_of_getElem? hkd
      have lm := paired_len pm
      have m6 := ok.m6 kd hk
      obtain ⟨⟨wr, rfl, hw1, hw2⟩, ht1, ht2⟩ := rn
      have tk1 : ks.take (i + 1) = ks.take i ++ [kd] := by rw [List.take_succ, hkd]; rfl
      have n1 : kNames (ks.take (i + 1)) = kNames (ks.take i) ++ [kd.1] := by
        rw [tk1]; unfold kNames; rw [List.map_append]; rfl
      have nk : (kNames (ks.take i) ++ [kd.1]).Nodup := by
        rw [← n1]
        have h := ok.nm.nd
        rw [← List.take_append_drop (i + 1) ks] at h
        unfold kNames at h ⊢
        rw [List.map_append] at h
        exact (List.nodup_append.mp h).1
      have sub : ∀ z ∈ kNames (ks.take i), z ∈ kNames ks := fun z hz => by
        obtain ⟨k0, hk0, rfl⟩ := List.mem_map.mp hz
        exact List.mem_map_of_mem (List.mem_of_mem_take hk0)
      have nd1 : (((("number" : Str), ("number" : Str)) :: wr).map (·.1)).Nodup := by
        rw [List.map_cons, List.nodup_cons, hw1]
        exact ⟨fun z => ok.numNot (sub _ z), (List.nodup_append.mp nk).1⟩
      have lw : wr.length ≤ 6 := by
        have := congrArg List.length hw1
        rw [List.length_map] at this
        unfold kNames at this
        rw [List.length_map, List.length_take] at this
        omega
      have new1 : kd.1 ∉ ((("number" : Str), ("number" : Str)) :: wr).map (·.1) := fun z => by
        rw [List.map_cons, hw1] at z
        rcases List.mem_cons.mp z with z | z
        · exact ok.numNot ((show kd.1 = "number" from z) ▸ List.mem_map_of_mem hk)
        · exact (List.nodup_append.mp nk).2.2 _ z _ (by simp) rfl
      have hi' : i < 6 := by have := hi; omega
      refine ⟨b1, _, rfl, toA J.x hb1, rfl, _, _, rfl, _, _, rfl, rfl, _, rfl, comp_keys (i := 4) (j := 12) rfl (off_un _ _ J.d1) nd1 (by rw [List.length_cons]; omega) (by decide) (by show 12 < 15; decide) fun c hc => ?_⟩
      obtain ⟨L5, x5, e5⟩ := J.L.new (o := .lst ((((("number" : Str), ("number" : Str)) :: wr).map (·.2)).map V.str)) hc
      have J5 := J.to L5 x5
      refine ⟨p, q, _, true, c, _, rfl, L5, by omega, e5, by rw [List.length_map, List.length_cons]; omega, fun z hz => ?_, fun G6 z az fz nz x6 L6 => ?_⟩
      · rcases List.mem_cons.mp hz with rfl | hz
        · decide +kernel
        · exact any_len (high_any (hw2.hi z hz))
      have J6 := J5.to L6 x6
      refine ⟨_, rfl, _, rfl, D1, _, rfl, DPut.k (k := .inr kd.1) (off_un _ _ J6.d1) (small1000 (by unfold kvW; rw [List.length_map, List.length_cons]; omega)), ?_⟩
      have J7 := J6.put1 (y := z) new1
      have hw3 : NmOk ((wr ++ [(kd.1, z)]).map (·.2)) := by
        rw [List.map_append]
        exact hw2.snoc (any_high az fz) fun y => nz (List.mem_cons_of_mem _ y)
      have mk1 : kMakers (ks.take (i + 1)) = kMakers (ks.take i) ++ kd.2.map (·.1) := by
        rw [tk1]; unfold kMakers; rw [List.flatMap_append]; simp
      have nkm : (kMakers (ks.take i) ++ kd.2.map (·.1)).Nodup := by
        rw [← mk1]
        have h := ok.tt.nd
        rw [← List.take_append_drop (i + 1) ks] at h
        unfold kMakers at h ⊢
        rw [List.flatMap_append] at h
        exact (List.nodup_append.mp h).1
      have lkm : (kMakers (ks.take i)).length ≤ 36 := by
        have h : ∀ l : List Kd, (∀ k ∈ l, k.2.length ≤ 6) → (kMakers l).length ≤ 6 * l.length := fun l => by
          induction l with
          | nil => intro _; exact Nat.le_refl _
          | cons k l ih =>
            intro h
            have a1 := ih fun k hk => h k (List.mem_cons_of_mem _ hk)
            have a2 := h k (List.mem_cons_self ..)
            have e : kMakers (k :: l) = k.2.map (·.1) ++ kMakers l := rfl
            rw [e, List.length_append, List.length_map, List.length_cons]
            omega
        have a1 := h (ks.take i) fun k hk => ok.m6 k (List.mem_of_mem_take hk)
        rw [List.length_take] at a1
        omega
      have lt0 : ts.length = (kMakers (ks.take i)).length := by
        have := congrArg List.length ht1
        rwa [List.length_map] at this
      refine ⟨_, rfl, b2, rfl, ⟨ms, toA J7.x hb2⟩, for_it (n := ms.length) walk_tup (fun j σ G => ∃ a9 a10 ts, σ = [some (.ref p), some (.ref a), some (.str kind), some v, some (.ref D1), some (.ref D2), some (.ref n3), some (.str kd.1), some (.ref b2), a9, a10, none, none, none, none] ∧ RnJ T p q D1 D2 n3 H (b + 140 * i + 20 + 20 * j) _ ts [] G ∧ ts.map (·.1) = kMakers (ks.take i) ++ (kd.2.take j).map (·.1) ∧ NmOk (ts.map (·.2)))
        ⟨a9, a10, ts, rfl, J7, by rw [List.take_zero, List.map_nil, List.append_nil]; exact ht1, ht2⟩ (fun j σ G _ ⟨_, _, _, _, J, _⟩ => toA J.x hb2) (fun j x σ G G2 hj ⟨a9, a10, ts, eσ, J, hts1, hts2⟩ y => ?_) (fun σ G ⟨a9, a10, ts, eσ, J, hts1, hts2⟩ => ?_)⟩
      · obtain ⟨rfl, hx⟩ := y
        subst eσ
        obtain ⟨mk, hmk, c1, c2, rfl, hc1, hc2⟩ := paired_get pm hx
        have tj1 : kd.2.take (j + 1) = kd.2.take j ++ [mk] := by rw [List.take_succ, hmk]; rfl
        have pre : (kMakers (ks.take i) ++ (kd.2.take j).map (·.1) ++ [mk.1]).Nodup := by
          have h := nkm
          rw [← List.take_append_drop (j + 1) kd.2, List.map_append, ← List.append_assoc] at h
          have h := (List.nodup_append.mp h).1
          rw [tj1, List.map_append, ← List.append_assoc] at h
          exact h
        have lts : ts.length ≤ 42 := by
          have := congrArg List.length hts1
          rw [List.length_map, List.length_append, List.length_map, List.length_take] at this
          omega
        have new2 : mk.1 ∉ ts.map (·.1) := fun z => by
          rw [hts1] at z
          exact (List.nodup_append.mp pre).2.2 _ z _ (by simp) rfl
        have hj' : j < 6 := by have := hj; omega
        refine ⟨c1, _, rfl, toA J.x hc1, rfl, _, _, rfl, _, _, rfl, rfl, _, rfl, comp_keys (i := 5) (j := 11) rfl (off_un _ _ J.d2) (by rw [hts1]; exact (List.nodup_append.mp pre).1) (by omega) (by decide) (by show 11 < 15; decide) fun c hc => ?_⟩
        obtain ⟨L5, x5, e5⟩ := J.L.new (o := .lst ((ts.map (·.2)).map V.str)) hc
        have J5 := J.to L5 x5
        refine ⟨p, q, _, true, c, _, rfl, L5, by omega, e5, by rw [List.length_map]; omega, fun z hz => any_len (high_any (hts2.hi z hz)), fun G6 z az fz nz x6 L6 => ?_⟩
        have J6 := J5.to L6 x6
        refine ⟨_, rfl, _, rfl, D2, _, rfl, DPut.k (k := .inr mk.1) (off_un _ _ J6.d2) (small1000 (by unfold kvW; rw [List.length_map]; omega)), ?_⟩
        refine ⟨_, _, ts ++ [(mk.1, z)], rfl, J6.put2 (y := z) new2, ?_, ?_⟩
        · rw [List.map_append, hts1, tj1, List.map_append, List.append_assoc]; rfl
        · rw [List.map_append]
          exact hts2.snoc (any_high az fz) nz
      · subst eσ
        rw [lm, List.take_length] at hts1
        refine ⟨_, _, _, _, _, ts, rfl, J.to (J.L.le (by omega)) Ex.refl, ⟨⟨wr ++ [(kd.1, z)], rfl, by rw [List.map_append, hw1, n1]; rfl, hw3⟩, by rw [hts1, mk1], hts2⟩⟩
    · subst eσ
      rw [lx, List.take_length] at rn
      obtain ⟨okn, hkn'⟩ := rn.ok ok
      have hw0 : ∀ z ∈ kNames ks, z ∈ ws.map (·.1) := fun z hz => by
        obtain ⟨wr, rfl, h1, _⟩ := rn.w
        rw [List.map_cons, h1]
        exact List.mem_cons_of_mem _ hz
      have hwf : ∀ {k : Kd} {m : Mk'} {z : Str}, k ∈ ks → m ∈ k.2 → z ∈ m.2 → z ∈ ws.map (·.1) := fun {k m z} hk hm hz => by
        rcases ok.fl k hk m hm z hz with h | rfl
        · exact hw0 z h
        · obtain ⟨wr, rfl, _⟩ := rn.w
          exact List.mem_cons_self ..
      have ht0 : ∀ {k : Kd} {m : Mk'}, k ∈ ks → m ∈ k.2 → m.1 ∈ ts.map (·.1) := fun {k m} hk hm => by
        rw [rn.t.1]
        exact List.mem_flatMap.mpr ⟨k, hk, List.mem_map_of_mem hm⟩
      refine ⟨_, rfl, a, rfl, ⟨xs, toA J.x ha⟩, for_it (n := xs.length) walk_tup (fun i σ G => ∃ a7 a8 a9 a10 ys, σ = [some (.ref p), some (.ref a), some (.str kind), some v, some (.ref D1), some (.ref D2), some (.ref n3), a7, a8, a9, a10, none, none, none, none] ∧ RnJ T p q D1 D2 n3 H (b + 140 * xs.length) ws ts ys G ∧ Paired (KdT p q G) ys ((ks.take i).map (rKd ws ts)))
        ⟨a7, a8, a9, a10, [], rfl, J, .nil⟩ (fun i σ G _ ⟨_, _, _, _, _, _, J, _⟩ => toA J.x ha) (fun i x σ G G2 hi ⟨a7, a8, a9, a10, ys, eσ, J, py⟩ y => ?_) (fun σ G ⟨a7, a8, a9, a10, ys, eσ, J, py⟩ => ?_)⟩
      · obtain ⟨rfl, hx⟩ := y
        subst eσ
        obtain ⟨kd, hkd, b1, b2, ms, rfl, hb1, hb2, pm⟩ := paired_get pr hx
        have hk := List.mem_of_getElem? hkd
        have lm := paired_len pm
        have m6 := ok.m6 kd hk
        have hi' : i < 6 := by have := hi; omega
        have ly : ys.length ≤ 6 := by
          rw [paired_len py, List.length_map, List.length_take]; omega
        refine ⟨b1, _, rfl, toA J.x hb1, rfl, _, _, rfl, _, _, rfl, rfl, _, rfl, .inl ⟨rfl, _, .inl (.inl (off_un _ _ J.e3))⟩, _, rfl, _, rfl, D1, _, rfl, dgW (off_un _ _ J.d1) (hw0 _ (List.mem_map_of_mem hk)), _, rfl, b2, rfl, ⟨ms, toA J.x hb2⟩, fun D hD => ?_⟩
        obtain ⟨L5, x5, e5⟩ := J.L.new (o := .lst []) hD
        have fD := off_none (p := p) (q := q) hD
        refine lcB_it (n := ms.length) walk_tup (fun j G' => ∃ zs, off p q G' D = some (.lst zs) ∧ Paired (MkT p q G') zs ((kd.2.take j).map (rMk ws ts)) ∧ Ex T (off p q G2) (off p q G') ∧ Wl T p q (b + 140 * xs.length) G') ⟨[], e5, .nil, x5, L5⟩ (fun j G' _ ⟨_, _, _, x, _⟩ => toA (J.x.trans x) hb2) (fun j v' G3 G4 hj ⟨zs, eD, pz, x3, L3⟩ y => ?_) (fun G3 ⟨zs, eD, pz, x3, L3⟩ => ?_)
        · obtain ⟨rfl, hv⟩ := y
          obtain ⟨mk, hmk, c1, c2, rfl, hc1, hc2⟩ := paired_get pm hv
          have hm := List.mem_of_getElem? hmk
          have f4 := ok.f4 kd hk mk hm
          have J3 := J.to L3 x3
          have hj' : j < 6 := by have := hj; omega
          have lz : zs.length ≤ 6 := by
            rw [paired_len pz, List.length_map, List.length_take]; omega
          refine g_two (toA J3.x hc1) (by decide) (by decide) (by decide) (by show 9 < 15; decide) (by show 10 < 15; decide) fun σ2 l2 keep g9 g10 => yesT ⟨_, (keep 5 (by decide)).trans rfl, _, g9, D2, _, rfl, dgW (off_un _ _ J3.d2) (ht0 hk hm), _, g10, c2, rfl, ⟨_, toA J3.x hc2⟩, fun D3 hD3 => lcK (T := T) walk_tup (ys := mk.2.map fun f => V.str (look ws f)) (fun G' x => x.sqT J3.L.tbH (toA J3.x hc2)) J3.L.tbH hD3 (by rw [List.length_map, List.length_map]) (by rw [List.length_map]; omega) (fun z2 v y G' hv hy x fin => ?_) (fun G' x hD3' => ?_)⟩
          · rw [List.getElem?_map] at hv hy
            obtain ⟨f, hf, rfl⟩ := Option.map_eq_some_iff.mp hv
            rw [hf] at hy
            obtain rfl : V.str (look ws f) = y := Option.some.inj hy
            have dG' := x.keep D1 _ (off_un _ _ J3.d1) (J3.L.tbH.seqN (off_un _ _ J3.d1) (fun _ z => by cases z))
            exact g_one (by decide) (by rw [l2]; show 13 < 15; decide) fun σ3 _ keep3 g13 => yesT ⟨_, (keep3 4 (by decide)).trans ((keep 4 (by decide)).trans rfl), _, g13, D1, _, rfl, dgW dG' (hwf hk hm (List.mem_of_getElem? hf)), fin _ Ex.refl⟩
          · obtain ⟨L5, x5⟩ := J3.L.ex x
            have eD5 := J3.L.keep x5 eD (fun _ z => by cases z)
            have tk5 := Tk.ex J3.L.tb x5
            refine .inl ⟨D3, _, rfl, .inl (.inl hD3'), fun t ht => ?_⟩
            obtain ⟨L6, x6, e6⟩ := L5.new (o := .tup (mk.2.map fun f => V.str (look ws f))) ht
            have eD6 := L5.keep x6 eD5 (fun _ z => by cases z)
            have tk6 := Tk.ex L5.tb x6
            refine ⟨by show 2 ≤ sizeLine; decide, fun t2 ht2 => ?_⟩
            obtain ⟨L7, x7, e7⟩ := L6.new (o := .tup [.str (look ts mk.1), .ref t]) ht2
            have eD7 := L6.keep x7 eD6 (fun _ z => by cases z)
            have tk7 := Tk.ex L6.tb x7
            have e67 := tk7 _ _ e6
            obtain ⟨q1, q2, _⟩ := off_some eD7
            generalize hG8 : upd (upd G' t (.tup (mk.2.map fun f => V.str (look ws f)))) t2 (.tup [.str (look ts mk.1), .ref t]) = G8 at L7 x7 e7 eD7 tk7 e67 ⊢
            have x8 := (x3.trans x5).trans (x6.trans x7)
            have tf : Tk p q G8 (upd G8 D (.lst (zs ++ [.ref t2]))) := Tk.fill eD7
            refine ⟨zs, off_un _ _ eD7, small1000 (by omega), zs ++ [.ref t2], by rw [off_upd q1 q2, upd_same], ?_, by rw [off_upd q1 q2]; exact x8.upd fD, L7.fill eD7⟩
            rw [List.take_succ, hmk, List.map_append]
            exact paired_app (paired_imp (fun _ _ z => z.to ((tk5.trans (tk6.trans tk7)).trans tf)) pz) (.cons ⟨t2, t, rfl, tf _ _ e7, tf _ _ (by rw [e67]; show _ = some (HO.tup ((mk.2.map (look ws)).map V.str)); rw [List.map_map]; rfl)⟩ .nil)
        · rw [lm, List.take_length] at pz
          have J3 := J.to L3 x3
          refine .inl ⟨D, zs, rfl, .inl (.inl (off_un _ _ eD)), fun t ht => ?_⟩
          obtain ⟨L6, x6, e6⟩ := L3.new (o := .tup zs) ht
          have J6 := J3.to L6 x6
          have tk6 := Tk.ex L3.tb x6
          refine ⟨by show 2 ≤ sizeLine; decide, fun t2 ht2 => ?_⟩
          obtain ⟨L7, x7, e7⟩ := L6.new (o := .tup [.str (look ws kd.1), .ref t]) ht2
          have J7 := J6.to L7 x7
          have tk7 := Tk.ex L6.tb x7
          have e67 := tk7 _ _ e6
          have tk0 := (Tk.ex J.L.tb x3).trans (tk6.trans tk7)
          generalize hG8 : upd (upd G3 t (.tup zs)) t2 (.tup [.str (look ws kd.1), .ref t]) = G8 at L7 x7 e7 J7 tk7 e67 tk0 ⊢
          refine ⟨n3, ys, _, rfl, rfl, off_un _ _ J7.e3, small1000 (by omega), ?_⟩
          have tf : Tk p q G8 (upd G8 n3 (.lst (ys ++ [.ref t2]))) := Tk.fill J7.e3
          refine ⟨_, _, _, _, ys ++ [.ref t2], rfl, J7.app _, ?_⟩
          rw [List.take_succ, hkd, List.map_append]
          exact paired_app (paired_imp (fun _ _ z => z.to (tk0.trans tf)) py) (.cons ⟨t2, t, zs, rfl, tf _ _ e7, tf _ _ e67, paired_imp (fun _ _ z => z.to ((tk6.trans tk7).trans tf)) pz⟩ .nil)
      · subst eσ
        rw [lx, List.take_length] at py
        dsimp only
        refine seq_cut (fun σ G => ∃ c os ds, σ = [some (.ref p), some (.ref a), some (.str kind), some v, some (.ref D1), some (.ref D2), some (.ref n3), a7, a8, a9, a10, some (.ref c), none, none, none] ∧ RnJ T p q D1 D2 n3 H (b + 140 * xs.length) ws ts ys G ∧ Paired (KdT p q G) ys (ks.map (rKd ws ts)) ∧ off p q G c = some (.tup os) ∧ DxAll K (off p q G) os ds ∧ BnA 2 130000 ds ∧ ds.length ≤ 2000) (fun σ G ⟨c, os, ds, eσ, J, py, ec, rs, bs, l2⟩ => ?_) (fun rest => ?_)
        · subst eσ
          have los : os.length ≤ 130000 := by rw [rs.len]; exact bs.len
          refine ⟨_, rfl, .inl ⟨n3, ys, rfl, .inl (.inl (off_un _ _ J.e3)), fun t1 ht1 => ?_⟩⟩
          obtain ⟨L6, x6, e6⟩ := J.L.new (o := .tup ys) ht1
          have ec6 := J.L.keep x6 ec (fun _ z => by cases z)
          have rs6 := rs.ex x6 J.L.tb
          have py6 := paired_imp (fun _ _ z => z.to (Tk.ex J.L.tb x6)) py
          have J6 := J.to L6 x6
          refine ⟨_, rfl, _, rfl, D1, _, rfl, dgW (off_un _ _ J6.d1) (hw0 _ hkn), _, rfl, c, rfl, ⟨_, .inl (.inl (off_un _ _ ec6))⟩, fun D hD => lcKb (T := T) walk_tup (ys := os.map (vR ts)) (fun G' x => x.sqT J6.L.tbH (.inl (.inl (off_un _ _ ec6)))) J6.L.tbH hD (by rw [List.length_map]) (Nat.lt_of_le_of_lt los (by decide)) (fun z2 v' y G' hv hy x fin => ?_) (fun G' x hD' => ?_)⟩
          · rw [List.getElem?_map, hv] at hy
            obtain rfl := Option.some.inj hy
            obtain ⟨d', hd', rd⟩ := rs6.get hv
            have rd := rd.un.ex x J6.L.tbH
            have d2' := x.keep D2 _ (off_un _ _ J6.d2) (J6.L.tbH.seqN (off_un _ _ J6.d2) (fun _ z => by cases z))
            refine g_one (by decide) (by show 14 < 15; decide) fun σ2 l2 keep g14 => yesT ⟨v', g14, v', d', "str", rfl, rd, by simp, ⟨_, rfl, ?_⟩⟩
            show if subT (tyN d') "str" = true then _ else _
            cases hs : subT (tyN d') "str" with
            | true =>
              obtain ⟨z, rfl⟩ : ∃ z, d' = .str z := by
                cases d' <;> first | exact ⟨_, rfl⟩ | exact absurd hs (by simp [subT, tyN])
              cases rd with
              | str _ hz =>
              refine iteT ⟨_, (keep 5 (by decide)).trans rfl, D2, rfl, .inl ⟨_, .inl d2'⟩, _, g14, _, DGet.k (k := .inr z) d2', ?_⟩
              rw [getW]
              exact fin _ Ex.refl
            | false =>
              have e : vR ts v' = v' := by
                cases rd <;> first | rfl | exact absurd hs (by simp [subT, tyN])
              rw [e] at fin
              exact iteF ⟨_, g14, fin _ Ex.refl⟩
          · obtain ⟨L7, x7⟩ := J6.L.ex x
            have J7 := J6.to L7 x7
            have rs7 := rs6.ex x7 J6.L.tb
            have py7 := paired_imp (fun _ _ z => z.to (Tk.ex J6.L.tb x7)) py6
            have e67 := J6.L.keep x7 e6 (fun _ z => by cases z)
            refine .inl ⟨D, _, rfl, .inl (.inl hD'), fun t8 ht8 => ?_⟩
            obtain ⟨L8, x8, e8⟩ := L7.new (o := .tup (os.map (vR ts))) ht8
            have J8 := J7.to L8 x8
            have rs8 := rs7.ex x8 L7.tb
            have py8 := paired_imp (fun _ _ z => z.to (Tk.ex L7.tb x8)) py7
            have e68 := L7.keep x8 e67 (fun _ z => by cases z)
            refine ⟨by show 3 ≤ sizeLine; decide, fun t9 ht9 => ?_⟩
            obtain ⟨L9, x9, e9⟩ := L8.new (o := .tup [.ref t1, .str (look ws kind), .ref t8]) ht9
            have J9 := J8.to L9 x9
            have rs9 := rs8.ex x9 L8.tb
            have py9 := paired_imp (fun _ _ z => z.to (Tk.ex L8.tb x9)) py8
            have e69 := L8.keep x9 e68 (fun _ z => by cases z)
            have e89 := L8.keep x9 e8 (fun _ z => by cases z)
            exact k _ t9 t1 ys _ (look ws kind) _ (.tuple (ds.map (dR ts))) e9 e69 py9 okn (by rw [hkn']; exact List.mem_map_of_mem hkn) (.tup e89 (vR_all rn.t.2 rs9)) ((Bn.tup (bna_map (dR_map rn.t.2) bs)).le (Nat.le_refl _) (by omega)) J9.x (J9.L.le (by omega))
        · have r1 := r.ex J.x L.tb
          refine ⟨v, rfl, v, d, "tuple", rfl, r1.un, by simp, ⟨_, rfl, ?_⟩⟩
          show if subT (tyN d) "tuple" = true then _ else _
          cases hs : subT (tyN d) "tuple" with
          | true =>
            obtain ⟨ds, rfl⟩ : ∃ ds, d = .tuple ds := by
              cases d <;> first | exact ⟨_, rfl⟩ | exact absurd hs (by simp [subT, tyN])
            cases r1 with
            | @tup va os _ hv rs =>
            exact iteT ⟨_, rfl, rest _ _ ⟨va, os, ds, rfl, J, py, hv, rs, bn.inv, tw _ rfl⟩⟩
          | false =>
            refine iteF ⟨by show 0 ≤ sizeLine; decide, fun t ht => ?_⟩
            obtain ⟨L6, x6, e6⟩ := J.L.new (o := .tup []) ht
            exact rest _ _ ⟨t, [], [], rfl, J.to L6 x6, paired_imp (fun _ _ z => z.to (Tk.ex J.L.tb x6)) py, e6, .nil, BnA.nil, Nat.zero_le _⟩
end
end JF
set_option Elab.async false
set_option linter.all false
set_option maxRecDepth 100000
set_option maxHeartbeats 1000000
/-! tuple * int, of one as well -/
namespace M0
open PySem PySem.Spec PyProof.Rows L2
theorem tuple_mulW1 (l : Addr) (items : Array Value) (n : Nat) (dd : Option Addr) (sl : Array (Option Value)) (x : Int) (u : Tok) (c0 : (decide (x < -(2 ^ 63)) || decide (x ≥ 2 ^ 63)) = false) (c1 : (items.isEmpty || x == 1) = true) :
    Meets (Builtin.«tuple.__mul__» ⟨[.ref l, .int x u], []⟩) (fun _ R s => s.heap.get? l = some { cls := .type "tuple", dict := dd, data := .seq items n, slots := sl } ∧ R (.ok (.ret (Value.ref l))) s) :=
  .of_wp fun prog w A R s h => by
    obtain ⟨hp, g, d, tk, os⟩ := s
    obtain ⟨hl, h⟩ := h
    have f1 := AutoSeq1.idx_int
    wp_walk using wpAny_loadPart' hl
    repeat (first
      | (refine wpAny_ite_false (decide_eq_false (by rw [c0]; exact Bool.false_ne_true)) ?_; wp_walk using wpAny_loadPart' hl)
      | (refine wpAny_ite_true (decide_eq_true (by rw [c1])) ?_; wp_walk using wpAny_loadPart' hl))
    exact ⟨_, rfl, h⟩
/-- t * k, k from one on -/
def rRepB (K : PySem.W.Frag) : R2 := fun x y H Q => ∃ l k xs, x = .ref l ∧ y = .int k ∧ SqT K H l xs ∧ xs ≠ [] ∧ 1 ≤ k ∧ k ≤ 1000 ∧ xs.length ≤ 1000 ∧ (k = 1 → Q (.ref l) H) ∧ (k ≠ 1 → ∀ p, H p = none → Q (.ref p) (upd H p (.tup (List.replicate k.toNat xs).flatten)))
section
variable {X : Cx}
theorem op_repB : OpR X (binaryOp .Mult) (rRepB X.K) := by
  intro pins s σ H x y v u Q I rx ry h
  obtain ⟨l, k, xs, rfl, rfl, hT, hn, h1, h2, hz, q0, q⟩ := h
  by_cases he : k = 1
  · subst he
    cases rx
    obtain ⟨t, rfl⟩ := ry
    obtain ⟨its, r, ⟨⟨cls, dd, data, sl⟩, ho, hc, n, hd⟩, hs⟩ := I.tuple hT
    simp only at hc hd
    subst hc hd
    have c0 : (decide ((1 : Int) < -(2 ^ 63)) || decide ((1 : Int) ≥ 2 ^ 63)) = false := by decide
    exact wpAny_binaryOp_repeat_ref (T := "tuple") (U := "int") (by decide) ⟨_, ho, rfl⟩ (fun s' => typeIs_int s' 1 t) noFill_tuple_mul F.fills_int_mul F.slot_int_rmul repeat_tuple F.slot_int_index.lookup
      (call_meets F.slot_int_rmul (typeIs_int s 1 t) F.entry_int_rmul (F.args_int_rmul_2 _ _) (int_rmul_tuple 1 t l _ n dd sl)
        ⟨ho, rfl, ⟨_, ho, rfl⟩, call_meets F.slot_tuple_mul ⟨_, ho, rfl⟩ F.entry_tuple_mul (F.args_tuple_mul_2 _ _) (tuple_mulW1 l _ n dd sl 1 t c0 (by simp)) ⟨ho, .ref l, H, I, rfl, q0 rfl⟩⟩)
  · exact op_repT pins s σ H _ _ v u Q I rx ry ⟨l, k, xs, rfl, rfl, hT, hn, by omega, h2, hz, q he⟩
end
end M0
set_option Elab.async false
set_option linter.all false
set_option maxRecDepth 100000
set_option maxHeartbeats 1000000
namespace JF
open PySem PySem.Spec PyProof PyProof.Rows L2 GxR GA PC
abbrev sLong : Stmt := topS 42
abbrev nLong : List Str := ["well", "names", "k", "one", "end", "cell", "pair", "succ", "leaf", "other", "number", "kinds", "many", "half", "left", "values", "value"]
theorem scLong : FnScope ["well", "names", "k", "one", "end", "cell", "pair", "succ", "leaf", "other", "number", "kinds", "many", "half", "left", "values", "value"] ["well"] (defScope sLong) := ⟨rfl, rfl, rfl, by decide +kernel, rfl, by decide +kernel, by decide +kernel⟩
theorem pg_lstK {X : Cx} {K : PySem.W.Frag} {pos : Pos} {es : List Expr} {k : Nat} {t : TGs} {n : Nat} (hK : X.K = K) (hc : X.calm = true) (h : PGs X es t)
    (hn : (assignEach es X.env).length = n := by rfl) (hst : (assignEach es X.env).findIdx? (·.1) = none := by rfl) : PG X (.Tuple es k pos) (gLst K n t) := by
  subst hK
  exact pg_lst hc h hn hst
theorem KsOk.shp {ks : List Kd} (ok : KsOk ks) : Shp 4 ks := ⟨ok.h1, ok.h6, fun k hk => ⟨.inl (ok.nm.any _ (List.mem_map_of_mem hk)), ok.m1 k hk, ok.m6 k hk, fun m hm => ⟨.inl (ok.tt.any _ (List.mem_flatMap.mpr ⟨k, hk, List.mem_map_of_mem hm⟩)), ok.f4 k hk m hm, fun z hz => by
  rcases ok.fl k hk m hm z hz with h | rfl
  · exact .inl (ok.nm.any _ h)
  · exact .inr rfl⟩⟩⟩
section
variable {K : PySem.W.Frag} {T : List Addr} {p q : Addr} {b : Nat} {G : Hp}
theorem flat_map (md : List PyData) : ∀ n, (List.replicate n (md.map vOf)).flatten = ((List.replicate n md).flatten).map vOf
  | 0 => rfl
  | n + 1 => by rw [List.replicate_succ, List.replicate_succ, List.flatten_cons, List.flatten_cons, flat_map md n, List.map_append]
theorem flat_ens {md : List PyData} (h : ∀ d ∈ md, EnS d) (n : Nat) : ∀ d ∈ (List.replicate n md).flatten, EnS d := fun d hd => by
  obtain ⟨l, hl, hd⟩ := List.mem_flatten.mp hd
  rw [List.eq_of_mem_replicate hl] at hd
  exact h d hd
theorem flatM_len (md : List PyData) : ∀ n, ((List.replicate n md).flatten).length = n * md.length
  | 0 => by simp
  | n + 1 => by rw [List.replicate_succ, List.flatten_cons, List.length_append, flatM_len md n, Nat.succ_mul, Nat.add_comm]
theorem rep_md (L : Wl T p q b G) {c : Addr} {md : List PyData} {n : Nat} {k0 : Int} {Q : VK} (ek : k0 = (n : Int)) (h : off p q G c = some (.tup (md.map vOf))) (ne : 1 ≤ md.length) (l : md.length ≤ 1000) (h1 : 1 ≤ n) (h2 : n ≤ 1000)
    (k : ∀ t G', Ex T (off p q G) (off p q G') → Wl T p q b G' → off p q G' t = some (.tup (((List.replicate n md).flatten).map vOf)) → Q (.ref t) G') : M0.rRepB K (.ref c) (.int k0) G Q := by
  subst ek
  refine ⟨c, _, _, rfl, rfl, .inl (.inl (off_un _ _ h)), fun z => ?_, by omega, by omega, by rw [List.length_map]; exact l, fun e => ?_, fun e t ht => ?_⟩
  · have := congrArg List.length z
    rw [List.length_map, List.length_nil] at this
    omega
  · have : n = 1 := by omega
    subst this
    refine k c G Ex.refl L ?_
    rw [h]
    simp
  · obtain ⟨L', x, e⟩ := L.new (o := .tup (List.replicate ((n : Int)).toNat (md.map vOf)).flatten) ht
    refine k t _ x L' ?_
    rw [e, Int.toNat_natCast, flat_map]
theorem cat_md (L : Wl T p q b G) {a c : Addr} {xs ys : List PyData} {Q : VK} (h : off p q G a = some (.tup (xs.map vOf))) (h2 : off p q G c = some (.tup (ys.map vOf))) (le : xs.length + ys.length ≤ 100000)
    (k : ∀ t G', Ex T (off p q G) (off p q G') → Wl T p q b G' → off p q G' t = some (.tup ((xs ++ ys).map vOf)) → Q (.ref t) G') : rCatA K (.ref a) (.ref c) G Q :=
  cat_big L h h2 (by rw [List.length_map, List.length_map]; exact le) fun t G' x L' e => k t G' x L' (by rw [e, List.map_append])
end
/-- chains have a tree -/
def Chain (ks : List Kd) (one succ fin : Str) : Prop := ∀ n, runS (ents ks) [one] (List.replicate n (.str succ) ++ [.str fin]) = true
theorem chain_of {ks : List Kd} {one succ fin : Str} {t1 t2 : Str} {i1 i2 : Nat} (n0 : one ≠ "number") (h1 : entOf (ents ks) succ = some (t1, one, i1, [one])) (h2 : entOf (ents ks) fin = some (t2, one, i2, [])) : Chain ks one succ fin := fun n => by
  have b1 : behindOf (ents ks) one (.str succ) = some [one] := by
    unfold behindOf
    rw [if_neg n0]
    show (match entOf (ents ks) succ with | some e => if e.2.1 = one then some e.2.2.2 else none | none => none) = _
    rw [h1]
    show (if one = one then some [one] else none) = _
    rw [if_pos rfl]
  have b2 : behindOf (ents ks) one (.str fin) = some [] := by
    unfold behindOf
    rw [if_neg n0]
    show (match entOf (ents ks) fin with | some e => if e.2.1 = one then some e.2.2.2 else none | none => none) = _
    rw [h2]
    show (if one = one then some [] else none) = _
    rw [if_pos rfl]
  induction n with
  | zero =>
    show (match behindOf (ents ks) one (.str fin) with | none => false | some fs => runS (ents ks) (fs ++ []) []) = true
    rw [b2]; rfl
  | succ n ih =>
    show (match behindOf (ents ks) one (.str succ) with | none => false | some fs => runS (ents ks) (fs ++ []) (List.replicate n (.str succ) ++ [.str fin])) = true
    rw [b1]
    exact ih
/-- sayings of plain entries -/
def VlF (p q : Addr) (G : Hp) (v : V) : Prop := ∃ (c : Addr) (md : List PyData), v = .ref c ∧ off p q G c = some (.tup (md.map vOf)) ∧ (∀ d ∈ md, EnS d) ∧ 1 ≤ md.length ∧ md.length ≤ 900
theorem VlF.ex {T : List Addr} {p q : Addr} {G G' : Hp} {v : V} (h : VlF p q G v) (x : Ex T (off p q G) (off p q G')) (tb : TbOk T (off p q G)) : VlF p q G' v := by
  obtain ⟨c, md, e, h1, h2⟩ := h
  exact ⟨c, md, e, x.keep c _ h1 (tb.seqN h1 fun _ z => by cases z), h2⟩
theorem ens_app {a b : List PyData} (h1 : ∀ d ∈ a, EnS d) (h2 : ∀ d ∈ b, EnS d) : ∀ d ∈ a ++ b, EnS d := fun d hd => (List.mem_append.mp hd).elim (h1 d) (h2 d)
theorem ens_one {x : PyData} (h : EnS x) : ∀ d ∈ [x], EnS d := fun d hd => by rw [List.mem_singleton.mp hd]; exact h
theorem ens_two {x y : PyData} (h : EnS x) (h2 : EnS y) : ∀ d ∈ [x, y], EnS d := ens_app (ens_one h) (ens_one h2)
theorem isSay_tup (es : List Ent) (kind : Str) (ds : List PyData) : isSay es kind (.tuple ds) = (decide (ds.length ≤ 400) && runS es [kind] ds) := rfl
def spLong (K : PySem.W.Frag) (T : List Addr) : Sp := fun vs H Q _ => ∃ (p q : Addr) (b : Nat), vs = [.ref p] ∧ Wl T p q b H ∧ b + 300 < 1000000 ∧ ∀ H', Ex T (off p q H) (off p q H') → Wl T p q (b + 300) H' → Q (.bl true) H'
section
variable {P : Program} {w : World} {K : PySem.W.Frag} {mg : Str → Option Value} {base : Heap} {T : List Addr}
theorem ok_long {f aD aN aM aB aV aT c1 c2 : Addr} {fd dD dN dM dB dV dT : FuncData} (F : Fun K "_law_long_right" "_law_long_right" sLong f fd) (B : BI mg) (mr : mg "range" = none)
    (GD : FnOk P w K mg base CX0 1 aD dD ["well", "many"] spDraw) (mD : mg "_law_draw" = some (.ref aD)) (kD : PySem.W.keepIn K (.ref aD) = true) (bD : Binds K dD ["well", "many"] [])
    (GN : FnOk P w K mg base CX0 2 aN dN ["well", "high", "taken"] (spLNm K T)) (mN : mg "_law_name" = some (.ref aN)) (kN : PySem.W.keepIn K (.ref aN) = true) (bN : Binds K dN ["well", "high", "taken"] [])
    (GM : FnOk P w K mg base CX0 2 aM dM ["well"] (spNum T)) (mM : mg "_law_number" = some (.ref aM)) (kM : PySem.W.keepIn K (.ref aM) = true) (bM : Binds K dM ["well"] [])
    (GB : FnOk P w K mg base CX0 2 aB dB ["well", "value", "kinds"] (spBe K T)) (mB : mg "_law_bent" = some (.ref aB)) (kB : PySem.W.keepIn K (.ref aB) = true) (bB : Binds K dB ["well", "value", "kinds"] [])
    (GV : HG.FnG P w K mg base CX0 21 aV dV ["kinds", "kind", "value"] (spVR3 K T)) (mV : mg "_law_value_right" = some (.ref aV)) (kV : PySem.W.keepIn K (.ref aV) = true) (bV : Binds K dV ["kinds", "kind", "value"] [])
    (GT : FnOk P w K mg base (L2.CX P w) 20 aT dT ["kinds", "kind", "thing"] (spTree K T c1 c2)) (mT : mg "is_tree" = some (.ref aT)) (kT : PySem.W.keepIn K (.ref aT) = true) (bT : Binds K dT ["kinds", "kind", "thing"] []) :
    HG.FnG P w K mg base CX0 22 f fd ["well"] (spLong K T) := by
  refine HG.fn_ofG F scLong (fun vs H Q E h => ?_) (fun cdv A outer s H vs Q E fr hr h => ?_)
  · obtain ⟨p, q, b, rfl, _⟩ := h
    rfl
  · obtain ⟨p, q, b, rfl, L, hb, k⟩ := h
    refine ⟨_, PSs.nox (pss_cons (ps_set (i := 1) scLong.nd rfl (.inl rfl) (pe_lst pa_nil))
      (pss_cons (ps_for PassesOwn.never rfl (pi_range1 (by rfl) mr (pa_cons pe_int pa_nil)) (pg_name (i := 2) scLong.nd rfl (.inl rfl))
        (pss_one (ps_expr (pe_appK (K := K) rfl (pv 1) (pa_cons (pe_call GN (hr.mono (by decide)) (by rfl) mN kN bN .nil pass0 (pa_cons (pv 0) (pa_cons pe_bl (pa_cons (pv 1) pa_nil)))) pa_nil)))))
      (pss_cons (ps_asg (pv 1) (pg_lstK (K := K) rfl rfl (pgs_cons (pg_name (i := 3) scLong.nd rfl (.inl rfl)) (pgs_cons (pg_name (i := 4) scLong.nd rfl (.inl rfl)) (pgs_cons (pg_name (i := 5) scLong.nd rfl (.inl rfl)) (pgs_cons (pg_name (i := 6) scLong.nd rfl (.inl rfl)) (pgs_cons (pg_name (i := 7) scLong.nd rfl (.inl rfl)) (pgs_cons (pg_name (i := 8) scLong.nd rfl (.inl rfl)) pgs_nil))))))))
      (pss_cons (ps_par (i := 9) (j := 10) rfl scLong.nd rfl rfl (by decide) rfl rfl (pa_cons (pe_ix ix_list (pv 1) (pe_call GD (hr.mono (by decide)) (by rfl) mD kD bD .nil pass0 (pa_cons (pv 0) (pa_cons pe_int pa_nil))) (fun _ _ => rfl)) (pa_cons (pe_call GM (hr.mono (by decide)) (by rfl) mM kM bM .nil pass0 (pa_cons (pv 0) pa_nil)) pa_nil)) (by rfl))
      (pss_cons (ps_set (i := 11) scLong.nd rfl (.inl rfl) (pe_tup (pa_cons (pe_tup (pa_cons (pv 3) (pa_cons (pe_tup (pa_cons (pe_tup (pa_cons (pv 4) (pa_cons (pe_tup pa_nil) pa_nil)))
          (pa_cons (pe_tup (pa_cons (pv 5) (pa_cons (pe_tup (pa_cons pe_str (pa_cons (pv 3) pa_nil))) pa_nil)))
          (pa_cons (pe_tup (pa_cons (pv 6) (pa_cons (pe_tup (pa_cons (pv 3) (pa_cons (pv 3) pa_nil))) pa_nil)))
          (pa_cons (pe_tup (pa_cons (pv 7) (pa_cons (pe_tup (pa_cons (pv 3) pa_nil)) pa_nil)))
          (pa_cons (pe_tup (pa_cons (pv 8) (pa_cons (pe_tup (pa_cons pe_str pa_nil)) pa_nil))) pa_nil)))))) pa_nil))) pa_nil)))
      (pss_cons (ps_if (pt_cmpR op_ne (pv 9) (pv 3) (nomark _)) (pss_one (ps_set (i := 11) scLong.nd rfl (.inl rfl) (pe_op op_catA (pe_tup (pa_cons (pe_tup (pa_cons (pv 9) (pa_cons (pe_tup (pa_cons (pe_tup (pa_cons (pv 3) (pa_cons (pe_tup (pa_cons (pv 9) pa_nil)) pa_nil))) pa_nil)) pa_nil))) pa_nil)) (pv 11)))) pss_nil)
      (pss_cons (ps_for PassesOwn.never rfl (pi_range2 (by rfl) mr (pa_cons pe_int (pa_cons pe_int pa_nil))) (pg_name (i := 12) scLong.nd rfl (.inl rfl))
        (pss_cons (ps_par (i := 13) (j := 14) rfl scLong.nd rfl rfl (by decide) rfl rfl (pa_cons (pe_op op_fdiv (pe_op op_sub (pv 12) pe_int) pe_int)
            (pa_cons (pe_ix ix_list (pe_lst (pa_cons (pe_tup (pa_cons (pv 4) pa_nil)) (pa_cons (pe_tup (pa_cons (pv 8) (pa_cons (pv 10) pa_nil))) pa_nil))) (pe_op op_mod (pe_op op_add (pv 12) pe_int) pe_int) (fun _ _ => rfl)) pa_nil)) (by rfl))
        (pss_cons (ps_set (i := 15) scLong.nd rfl (.inl rfl) (pe_lst (pa_cons (pe_op op_catA (pe_op M0.op_repB (pe_tup (pa_cons (pv 5) (pa_cons (pv 10) pa_nil))) (pe_op op_fdiv (pe_op op_sub (pv 12) (pe_callB call_len_seq (by rfl) B.len PySem.boot_len (pa_cons (pv 14) pa_nil))) pe_int)) (pv 14))
            (pa_cons (pe_op op_catA (pe_op M0.op_repB (pe_tup (pa_cons (pv 7) pa_nil)) (pe_op op_sub (pv 12) pe_int)) (pe_tup (pa_cons (pv 4) pa_nil))) pa_nil))))
        (pss_cons (ps_set (i := 15) scLong.nd rfl (.inl rfl) (pe_op op_cat (pv 15) (pe_lst (pa_cons (pe_op op_catA (pe_op M0.op_repB (pe_tup (pa_cons (pv 6) pa_nil)) (pv 13)) (pe_op M0.op_repB (pe_tup (pa_cons (pv 4) pa_nil)) (pe_op op_sub (pv 12) (pv 13))))
            (pa_cons (pe_op op_catA (pe_op M0.op_repB (pe_tup (pa_cons (pv 6) (pa_cons (pv 4) pa_nil))) (pv 13)) (pe_op M0.op_repB (pe_tup (pa_cons (pv 4) pa_nil)) (pe_op op_sub (pv 12) (pe_op op_mul pe_int (pv 13))))) pa_nil)))))
        (pss_cons (ps_set (i := 15) scLong.nd rfl (.inl rfl) (pe_op op_cat (pv 15) (pe_lst (pa_cons (pe_op op_catA (pe_op op_catA (pe_op M0.op_repB (pe_tup (pa_cons (pv 7) pa_nil)) (pv 13)) (pe_op M0.op_repB (pe_tup (pa_cons (pv 6) (pa_cons (pv 4) pa_nil))) (pe_op op_fdiv (pe_op op_sub (pv 12) (pv 13)) pe_int))) (pe_tup (pa_cons (pv 4) pa_nil)))
            (pa_cons (pe_op M0.op_repB (pe_tup (pa_cons (pv 7) pa_nil)) (pv 12)) pa_nil)))))
        (pss_one (ps_for PassesOwn.never rfl (pi_list (pe_op op_cat (pv 15) (pe_lst (pa_cons (pe_call GB (hr.mono (by decide)) (by rfl) mB kB bB .nil pass0 (pa_cons (pv 0) (pa_cons (pe_ix ix_list (pv 15) (pe_call GD (hr.mono (by decide)) (by rfl) mD kD bD .nil pass0 (pa_cons (pv 0) (pa_cons pe_int pa_nil))) (fun _ _ => rfl)) (pa_cons (pv 11) pa_nil)))) pa_nil)))) (pg_name (i := 16) scLong.nd rfl (.inl rfl))
          (pss_one (ps_if (pt_not (pt_val (HG.pe_callG GV (hr.mono (by decide)) fr (by rfl) mV kV bV (E := fun _ => E0) (fun _ _ _ _ _ _ _ h => h.elim) (pa_cons (pv 11) (pa_cons (pv 3) (pa_cons (pv 16) pa_nil)))))) (pss_one (ps_ret pe_bl)) pss_nil)))))))))
      (pss_one (ps_ret (pe_and (pe_not (pe_callS GT (hr.mono (by decide)) (by rfl) mT kT bT (E := fun _ => E0) (fun _ => passN) (pa_cons (pv 11) (pa_cons (pv 3) (pa_cons (pe_op op_catA (pe_op M0.op_repB (pe_tup (pa_cons (pv 7) pa_nil)) pe_int) (pe_tup (pa_cons (pv 4) pa_nil))) pa_nil)))))
        (pe_one (pe_cmpR op_isBl (pe_callS GT (hr.mono (by decide)) (by rfl) mT kT bT (E := fun _ => E0) (fun _ => passN) (pa_cons (pv 11) (pa_cons (pv 3) (pa_cons (pe_op op_catA (pe_op M0.op_repB (pe_tup (pa_cons (pv 7) pa_nil)) pe_int) (pe_tup (pa_cons (pv 4) pa_nil))) pa_nil)))) pe_bl (nomark _))))))))))))), ?_⟩
    refine ⟨by show 0 ≤ sizeLine; decide, fun n1 hn1 => ?_⟩
    obtain ⟨L1, x1, e1⟩ := L.new (o := .lst []) hn1
    have f1 := off_none (p := p) (q := q) hn1
    refine ⟨6, rfl, by decide, by decide, for_it (n := 6) walk_range (fun i σ G => ∃ a2 zs, σ = [some (.ref p), some (.ref n1), a2, none, none, none, none, none, none, none, none, none, none, none, none, none, none] ∧ Wl T p q (b + 20 * i) G ∧ Ex T (off p q H) (off p q G) ∧ off p q G n1 = some (.lst (zs.map V.str)) ∧ zs.length = i ∧ NmOk zs)
      ⟨none, [], rfl, L1, x1, e1, rfl, NmOk.nil⟩ (fun _ _ _ _ _ => trivial) (fun i x σ G G2 hi ⟨a2, zs, eσ, LG, xG, eG, lz, nz⟩ y => ?_) (fun σ G ⟨a2, zs, eσ, LG, xG, eG, lz, nz⟩ => ?_)⟩
    · obtain ⟨rfl, rfl⟩ := y
      subst eσ
      refine ⟨_, rfl, .inl ⟨rfl, _, .inl (.inl (off_un _ _ eG))⟩, _, rfl, _, rfl, p, q, _, true, n1, zs, rfl, LG, by omega, eG, by omega, fun z hz => any_len (high_any (nz.hi z hz)), fun G6 z az fz nnz x6 L6 => ?_⟩
      have e6 := LG.keep x6 eG (fun _ z => by cases z)
      have xG := xG.trans x6
      obtain ⟨L7, x7, e7, _⟩ := fillW ((zs ++ [z]).map V.str) L6 xG f1 e6
      refine ⟨n1, _, _, rfl, rfl, off_un _ _ e6, small1000 (by rw [List.length_map]; omega), ?_⟩
      rw [show zs.map V.str ++ [V.str z] = (zs ++ [z]).map V.str by rw [List.map_append]; rfl]
      exact ⟨_, zs ++ [z], rfl, L7, x7, e7, by rw [List.length_append, lz]; rfl, nz.snoc (any_high az fz) nnz⟩
    · subst eσ
      obtain ⟨one, fin, cell, pair, succ, leaf, rfl⟩ : ∃ z1 z2 z3 z4 z5 z6, zs = [z1, z2, z3, z4, z5, z6] := by
        match zs, lz with
        | [z1, z2, z3, z4, z5, z6], _ => exact ⟨_, _, _, _, _, _, rfl⟩
      refine ⟨_, rfl, n1, _, rfl, .inl (.inl (off_un _ _ eG)), rfl, _, _, rfl, _, _, rfl, _, _, rfl, _, _, rfl, _, _, rfl, _, _, rfl, rfl, ?_⟩
      dsimp only
      refine ⟨_, rfl, _, rfl, p, q, _, 6, rfl, LG.w, by decide, by decide, by omega, fun G2 r r0 r1 kp2 hw2 => ?_⟩
      obtain ⟨L2, x2⟩ := LG.draw kp2 hw2
      have e2 := LG.keep x2 eG (fun _ z => by cases z)
      have xx := xG.trans x2
      obtain ⟨vo, e0, m0⟩ := atI_of r0 (show r < (([one, fin, cell, pair, succ, leaf].map V.str).length : Int) from r1)
      obtain ⟨oth, ho, rfl⟩ := List.mem_map.mp m0
      refine ⟨n1, _, _, _, rfl, rfl, .inl (.inl (off_un _ _ e2)), e0, _, rfl, p, q, _, rfl, L2, by omega, fun G3 num nm0 nm1 x3 L3 => ?_⟩
      have xx := xx.trans x3
      clear e0 m0 e2 eG x2 x3 L2 LG xG
      refine ⟨_, _, rfl, ?_⟩
      dsimp only
      refine ⟨_, rfl, _, rfl, by show 0 ≤ sizeLine; decide, fun t4 ht4 => ?_⟩
      obtain ⟨L4, x4, fa⟩ := L3.new (o := .tup []) ht4
      have xx := xx.trans x4
      refine ⟨by show 2 ≤ sizeLine; decide, fun t5 ht5 => ?_⟩
      obtain ⟨L5, x5, fb⟩ := L4.new (o := .tup [.str fin, .ref t4]) ht5
      have fa := L4.keep x5 fa (fun _ z => by cases z)
      have xx := xx.trans x5
      refine ⟨_, rfl, _, rfl, by show 2 ≤ sizeLine; decide, fun t6 ht6 => ?_⟩
      obtain ⟨L6, x6, fc⟩ := L5.new (o := .tup [.str ("number" : Str), .str one]) ht6
      have fa := L5.keep x6 fa (fun _ z => by cases z)
      have fb := L5.keep x6 fb (fun _ z => by cases z)
      have xx := xx.trans x6
      refine ⟨by show 2 ≤ sizeLine; decide, fun t7 ht7 => ?_⟩
      obtain ⟨L7, x7, fd⟩ := L6.new (o := .tup [.str cell, .ref t6]) ht7
      have fa := L6.keep x7 fa (fun _ z => by cases z)
      have fb := L6.keep x7 fb (fun _ z => by cases z)
      have fc := L6.keep x7 fc (fun _ z => by cases z)
      have xx := xx.trans x7
      refine ⟨_, rfl, _, rfl, _, rfl, by show 2 ≤ sizeLine; decide, fun t8 ht8 => ?_⟩
      obtain ⟨L8, x8, fe⟩ := L7.new (o := .tup [.str one, .str one]) ht8
      have fa := L7.keep x8 fa (fun _ z => by cases z)
      have fb := L7.keep x8 fb (fun _ z => by cases z)
      have fc := L7.keep x8 fc (fun _ z => by cases z)
      have fd := L7.keep x8 fd (fun _ z => by cases z)
      have xx := xx.trans x8
      refine ⟨by show 2 ≤ sizeLine; decide, fun t9 ht9 => ?_⟩
      obtain ⟨L9, x9, fg⟩ := L8.new (o := .tup [.str pair, .ref t8]) ht9
      have fa := L8.keep x9 fa (fun _ z => by cases z)
      have fb := L8.keep x9 fb (fun _ z => by cases z)
      have fc := L8.keep x9 fc (fun _ z => by cases z)
      have fd := L8.keep x9 fd (fun _ z => by cases z)
      have fe := L8.keep x9 fe (fun _ z => by cases z)
      have xx := xx.trans x9
      refine ⟨_, rfl, _, rfl, by show 1 ≤ sizeLine; decide, fun t10 ht10 => ?_⟩
      obtain ⟨L10, x10, fh⟩ := L9.new (o := .tup [.str one]) ht10
      have fa := L9.keep x10 fa (fun _ z => by cases z)
      have fb := L9.keep x10 fb (fun _ z => by cases z)
      have fc := L9.keep x10 fc (fun _ z => by cases z)
      have fd := L9.keep x10 fd (fun _ z => by cases z)
      have fe := L9.keep x10 fe (fun _ z => by cases z)
      have fg := L9.keep x10 fg (fun _ z => by cases z)
      have xx := xx.trans x10
      refine ⟨by show 2 ≤ sizeLine; decide, fun t11 ht11 => ?_⟩
      obtain ⟨L11, x11, fi⟩ := L10.new (o := .tup [.str succ, .ref t10]) ht11
      have fa := L10.keep x11 fa (fun _ z => by cases z)
      have fb := L10.keep x11 fb (fun _ z => by cases z)
      have fc := L10.keep x11 fc (fun _ z => by cases z)
      have fd := L10.keep x11 fd (fun _ z => by cases z)
      have fe := L10.keep x11 fe (fun _ z => by cases z)
      have fg := L10.keep x11 fg (fun _ z => by cases z)
      have fh := L10.keep x11 fh (fun _ z => by cases z)
      have xx := xx.trans x11
      refine ⟨_, rfl, by show 1 ≤ sizeLine; decide, fun t12 ht12 => ?_⟩
      obtain ⟨L12, x12, fj⟩ := L11.new (o := .tup [.str ("number" : Str)]) ht12
      have fa := L11.keep x12 fa (fun _ z => by cases z)
      have fb := L11.keep x12 fb (fun _ z => by cases z)
      have fc := L11.keep x12 fc (fun _ z => by cases z)
      have fd := L11.keep x12 fd (fun _ z => by cases z)
      have fe := L11.keep x12 fe (fun _ z => by cases z)
      have fg := L11.keep x12 fg (fun _ z => by cases z)
      have fh := L11.keep x12 fh (fun _ z => by cases z)
      have fi := L11.keep x12 fi (fun _ z => by cases z)
      have xx := xx.trans x12
      refine ⟨by show 2 ≤ sizeLine; decide, fun t13 ht13 => ?_⟩
      obtain ⟨L13, x13, fk⟩ := L12.new (o := .tup [.str leaf, .ref t12]) ht13
      have fa := L12.keep x13 fa (fun _ z => by cases z)
      have fb := L12.keep x13 fb (fun _ z => by cases z)
      have fc := L12.keep x13 fc (fun _ z => by cases z)
      have fd := L12.keep x13 fd (fun _ z => by cases z)
      have fe := L12.keep x13 fe (fun _ z => by cases z)
      have fg := L12.keep x13 fg (fun _ z => by cases z)
      have fh := L12.keep x13 fh (fun _ z => by cases z)
      have fi := L12.keep x13 fi (fun _ z => by cases z)
      have fj := L12.keep x13 fj (fun _ z => by cases z)
      have xx := xx.trans x13
      refine ⟨by show 5 ≤ sizeLine; decide, fun t14 ht14 => ?_⟩
      obtain ⟨L14, x14, fl⟩ := L13.new (o := .tup [.ref t5, .ref t7, .ref t9, .ref t11, .ref t13]) ht14
      have fa := L13.keep x14 fa (fun _ z => by cases z)
      have fb := L13.keep x14 fb (fun _ z => by cases z)
      have fc := L13.keep x14 fc (fun _ z => by cases z)
      have fd := L13.keep x14 fd (fun _ z => by cases z)
      have fe := L13.keep x14 fe (fun _ z => by cases z)
      have fg := L13.keep x14 fg (fun _ z => by cases z)
      have fh := L13.keep x14 fh (fun _ z => by cases z)
      have fi := L13.keep x14 fi (fun _ z => by cases z)
      have fj := L13.keep x14 fj (fun _ z => by cases z)
      have fk := L13.keep x14 fk (fun _ z => by cases z)
      have xx := xx.trans x14
      refine ⟨by show 2 ≤ sizeLine; decide, fun t15 ht15 => ?_⟩
      obtain ⟨L15, x15, fm⟩ := L14.new (o := .tup [.str one, .ref t14]) ht15
      have fa := L14.keep x15 fa (fun _ z => by cases z)
      have fb := L14.keep x15 fb (fun _ z => by cases z)
      have fc := L14.keep x15 fc (fun _ z => by cases z)
      have fd := L14.keep x15 fd (fun _ z => by cases z)
      have fe := L14.keep x15 fe (fun _ z => by cases z)
      have fg := L14.keep x15 fg (fun _ z => by cases z)
      have fh := L14.keep x15 fh (fun _ z => by cases z)
      have fi := L14.keep x15 fi (fun _ z => by cases z)
      have fj := L14.keep x15 fj (fun _ z => by cases z)
      have fk := L14.keep x15 fk (fun _ z => by cases z)
      have fl := L14.keep x15 fl (fun _ z => by cases z)
      have xx := xx.trans x15
      refine ⟨by show 1 ≤ sizeLine; decide, fun t16 ht16 => ?_⟩
      obtain ⟨L16, x16, fn⟩ := L15.new (o := .tup [.ref t15]) ht16
      have fa := L15.keep x16 fa (fun _ z => by cases z)
      have fb := L15.keep x16 fb (fun _ z => by cases z)
      have fc := L15.keep x16 fc (fun _ z => by cases z)
      have fd := L15.keep x16 fd (fun _ z => by cases z)
      have fe := L15.keep x16 fe (fun _ z => by cases z)
      have fg := L15.keep x16 fg (fun _ z => by cases z)
      have fh := L15.keep x16 fh (fun _ z => by cases z)
      have fi := L15.keep x16 fi (fun _ z => by cases z)
      have fj := L15.keep x16 fj (fun _ z => by cases z)
      have fk := L15.keep x16 fk (fun _ z => by cases z)
      have fl := L15.keep x16 fl (fun _ z => by cases z)
      have fm := L15.keep x16 fm (fun _ z => by cases z)
      have xx := xx.trans x16
      have nz5 := nz.nd
      simp only [List.nodup_cons, List.mem_cons, List.mem_nil_iff, or_false, not_or, List.nodup_nil, and_true, not_false_eq_true] at nz5
      obtain ⟨⟨d1, d2, d3, d4, d5⟩, ⟨d6, d7, d8, d9⟩, ⟨d10, d11, d12⟩, ⟨d13, d14⟩, d15⟩ := nz5
      have hi : ∀ z ∈ [one, fin, cell, pair, succ, leaf], isHigh (.str z) = true := nz.hi
      have n0 : one ≠ "number" := fun z => by
        have := hi one (by simp)
        rw [z, number_low] at this
        cases this
      let K1 : Kd := (one, [(fin, []), (cell, ["number", one]), (pair, [one, one]), (succ, [one]), (leaf, ["number"])])
      have pr1 : Paired (KdT p q _) [V.ref t15] [K1] := .cons ⟨t15, t14, _, rfl, fm, fl, .cons ⟨t5, t4, rfl, fb, fa⟩ (.cons ⟨t7, t6, rfl, fd, fc⟩ (.cons ⟨t9, t8, rfl, fg, fe⟩ (.cons ⟨t11, t10, rfl, fi, fh⟩ (.cons ⟨t13, t12, rfl, fk, fj⟩ .nil))))⟩ .nil
      have ok1 : KsOk [K1] := ⟨by show 1 ≤ 1; decide, by show 1 ≤ 6; decide, fun k hk => (by rw [List.mem_singleton.mp hk]; show 1 ≤ 5; decide), fun k hk => (by rw [List.mem_singleton.mp hk]; show 5 ≤ 6; decide), fun k hk m hm => (by
          rw [List.mem_singleton.mp hk] at hm
          simp only [K1, List.mem_cons, List.mem_nil_iff, or_false] at hm
          rcases hm with rfl | rfl | rfl | rfl | rfl <;> (simp only [List.length_cons, List.length_nil]; decide)),
        ⟨by show [one].Nodup; simp, fun z hz => hi z (by rw [List.mem_singleton.mp hz]; simp [K1])⟩, ⟨(List.nodup_cons.mp nz.nd).2, fun z hz => hi z (List.mem_cons_of_mem _ hz)⟩, fun k hk m hm z hz => (by
          rw [List.mem_singleton.mp hk] at hm
          simp only [K1, List.mem_cons, List.mem_nil_iff, or_false] at hm
          rcases hm with rfl | rfl | rfl | rfl | rfl <;> simp only [List.mem_cons, List.mem_nil_iff, or_false] at hz
          · rcases hz with rfl | rfl
            · exact .inr rfl
            · exact .inl (List.mem_singleton.mpr rfl)
          · rcases hz with rfl | rfl <;> exact .inl (List.mem_singleton.mpr rfl)
          · subst hz; exact .inl (List.mem_singleton.mpr rfl)
          · subst hz; exact .inr rfl)⟩
      have ch1 : Chain [K1] one succ fin := chain_of n0 (t1 := succ) (t2 := fin) (i1 := 3) (i2 := 0) (by
          show entOf [(fin, one, 0, []), (cell, one, 1, ["number", one]), (pair, one, 2, [one, one]), (succ, one, 3, [one]), (leaf, one, 4, ["number"])] succ = _
          unfold entOf
          simp [d8, d11, d13, d14, List.find?_cons, d6, d7])
        (by
          show entOf [(fin, one, 0, []), (cell, one, 1, ["number", one]), (pair, one, 2, [one, one]), (succ, one, 3, [one]), (leaf, one, 4, ["number"])] fin = _
          unfold entOf
          simp)
      dsimp only
      refine seq_cut (fun σ G => ∃ a kxs ks, σ = [some (.ref p), some (.ref n1), a2, some (.str one), some (.str fin), some (.str cell), some (.str pair), some (.str succ), some (.str leaf), some (.str oth), some (.int num), some (.ref a), none, none, none, none, none] ∧ Wl T p q (b + 130) G ∧ Ex T (off p q H) (off p q G) ∧ off p q G a = some (.tup kxs) ∧ Paired (KdT p q G) kxs ks ∧ KsOk ks ∧ one ∈ kNames ks ∧ Chain ks one succ fin) (fun σ G ⟨a, kxs, ks, eσ, LG, xG, ha, pr, ok, kn, ch⟩ => ?_) (fun rest => ?_)
      rotate_left
      · refine ⟨_, rfl, _, rfl, rfl, _, rfl, ?_⟩
        by_cases h : oth = one
        · rw [show (!decide (V.str oth = V.str one)) = false by rw [h]; simp]
          exact iteF (rest _ _ ⟨t16, _, [K1], rfl, L16.le (by omega), xx, fn, pr1, ok1, by show one ∈ [one]; simp, ch1⟩)
        · rw [show (!decide (V.str oth = V.str one)) = true by simpa using h]
          refine iteT ?_
          refine ⟨_, rfl, _, rfl, _, rfl, by show 1 ≤ sizeLine; decide, fun t17 ht17 => ?_⟩
          obtain ⟨L17, x17, ga⟩ := L16.new (o := .tup [.str oth]) ht17
          have pr1 := paired_imp (fun _ _ z => z.to (Tk.ex L16.tb x17)) pr1
          have fn := L16.keep x17 fn (fun _ z => by cases z)
          have xx := xx.trans x17
          refine ⟨by show 2 ≤ sizeLine; decide, fun t18 ht18 => ?_⟩
          obtain ⟨L18, x18, gb⟩ := L17.new (o := .tup [.str one, .ref t17]) ht18
          have pr1 := paired_imp (fun _ _ z => z.to (Tk.ex L17.tb x18)) pr1
          have fn := L17.keep x18 fn (fun _ z => by cases z)
          have ga := L17.keep x18 ga (fun _ z => by cases z)
          have xx := xx.trans x18
          refine ⟨by show 1 ≤ sizeLine; decide, fun t19 ht19 => ?_⟩
          obtain ⟨L19, x19, gc⟩ := L18.new (o := .tup [.ref t18]) ht19
          have pr1 := paired_imp (fun _ _ z => z.to (Tk.ex L18.tb x19)) pr1
          have fn := L18.keep x19 fn (fun _ z => by cases z)
          have ga := L18.keep x19 ga (fun _ z => by cases z)
          have gb := L18.keep x19 gb (fun _ z => by cases z)
          have xx := xx.trans x19
          refine ⟨by show 2 ≤ sizeLine; decide, fun t20 ht20 => ?_⟩
          obtain ⟨L20, x20, gd⟩ := L19.new (o := .tup [.str oth, .ref t19]) ht20
          have pr1 := paired_imp (fun _ _ z => z.to (Tk.ex L19.tb x20)) pr1
          have fn := L19.keep x20 fn (fun _ z => by cases z)
          have ga := L19.keep x20 ga (fun _ z => by cases z)
          have gb := L19.keep x20 gb (fun _ z => by cases z)
          have gc := L19.keep x20 gc (fun _ z => by cases z)
          have xx := xx.trans x20
          refine ⟨by show 1 ≤ sizeLine; decide, fun t21 ht21 => ?_⟩
          obtain ⟨L21, x21, ge⟩ := L20.new (o := .tup [.ref t20]) ht21
          have pr1 := paired_imp (fun _ _ z => z.to (Tk.ex L20.tb x21)) pr1
          have fn := L20.keep x21 fn (fun _ z => by cases z)
          have ga := L20.keep x21 ga (fun _ z => by cases z)
          have gb := L20.keep x21 gb (fun _ z => by cases z)
          have gc := L20.keep x21 gc (fun _ z => by cases z)
          have gd := L20.keep x21 gd (fun _ z => by cases z)
          have xx := xx.trans x21
          refine ⟨_, rfl, cat_big L21 ge fn (by simp) fun a G5 x5 L5 e5 => ?_⟩
          have tk := Tk.ex L21.tb x5
          have pr1 := paired_imp (fun _ _ z => z.to tk) pr1
          have ga := L21.keep x5 ga (fun _ z => by cases z)
          have gb := L21.keep x5 gb (fun _ z => by cases z)
          have gc := L21.keep x5 gc (fun _ z => by cases z)
          have gd := L21.keep x5 gd (fun _ z => by cases z)
          have ge := L21.keep x5 ge (fun _ z => by cases z)
          have xx := xx.trans x5
          have hoi : isHigh (.str oth) = true := hi oth ho
          refine rest _ _ ⟨a, _, [(oth, [(one, [oth])]), K1], rfl, L5.le (by omega), xx, e5, .cons ⟨t20, t19, _, rfl, gd, gc, .cons ⟨t18, t17, rfl, gb, ga⟩ .nil⟩ pr1, ?_, by show one ∈ [oth, one]; simp, ?_⟩
          · refine ⟨by show 1 ≤ 2; decide, by show 2 ≤ 6; decide, fun k hk => ?_, fun k hk => ?_, fun k hk m hm => ?_, ⟨by show [oth, one].Nodup; simpa using h, fun z hz => ?_⟩, nz, fun k hk m hm z hz => ?_⟩
            · rcases List.mem_cons.mp hk with rfl | hk
              · show 1 ≤ 1; decide
              · exact ok1.m1 k hk
            · rcases List.mem_cons.mp hk with rfl | hk
              · show 1 ≤ 6; decide
              · exact ok1.m6 k hk
            · rcases List.mem_cons.mp hk with rfl | hk
              · rw [List.mem_singleton.mp hm]; show 1 ≤ 4; decide
              · exact ok1.f4 k hk m hm
            · have hz : z ∈ [oth, one] := hz
              rcases List.mem_cons.mp hz with rfl | hz
              · exact hoi
              · rw [List.mem_singleton.mp hz]; exact hi one (by simp)
            · rcases List.mem_cons.mp hk with rfl | hk
              · rw [List.mem_singleton.mp hm] at hz
                rw [List.mem_singleton.mp hz]
                exact .inl (by show oth ∈ [oth, one]; simp)
              · rcases ok1.fl k hk m hm z hz with h1 | h1
                · exact .inl (by show z ∈ oth :: kNames [K1]; exact List.mem_cons_of_mem _ h1)
                · exact .inr h1
          · refine chain_of n0 (t1 := succ) (t2 := fin) (i1 := 3) (i2 := 0) ?_ ?_
            · show entOf [(one, oth, 0, [oth]), (fin, one, 0, []), (cell, one, 1, ["number", one]), (pair, one, 2, [one, one]), (succ, one, 3, [one]), (leaf, one, 4, ["number"])] succ = _
              unfold entOf
              simp [d4, d8, d11, d13, List.find?_cons]
            · show entOf [(one, oth, 0, [oth]), (fin, one, 0, []), (cell, one, 1, ["number", one]), (pair, one, 2, [one, one]), (succ, one, 3, [one]), (leaf, one, 4, ["number"])] fin = _
              unfold entOf
              simp [d1, List.find?_cons]
      · subst eσ
        have eFin : EnS (.str fin) := .inl ⟨_, rfl, nz.hi fin (by simp)⟩
        have eCell : EnS (.str cell) := .inl ⟨_, rfl, nz.hi cell (by simp)⟩
        have ePair : EnS (.str pair) := .inl ⟨_, rfl, nz.hi pair (by simp)⟩
        have eSucc : EnS (.str succ) := .inl ⟨_, rfl, nz.hi succ (by simp)⟩
        have eLeaf : EnS (.str leaf) := .inl ⟨_, rfl, nz.hi leaf (by simp)⟩
        have eNum : EnS (.int num) := .inr ⟨num, rfl, nm0, nm1⟩
        clear pr1 ok1 ch1 fa fb fc fd fe fg fh fi fj fk fl fm fn
        refine ⟨398, 403, rfl, ⟨by decide, by decide, by decide, by decide⟩, for_it (n := 5) walk_range (fun i σ G' => ∃ a12 a13 a14 a15 a16, σ = [some (.ref p), some (.ref n1), a2, some (.str one), some (.str fin), some (.str cell), some (.str pair), some (.str succ), some (.str leaf), some (.str oth), some (.int num), some (.ref a), a12, a13, a14, a15, a16] ∧ Wl T p q (b + 130 + 8 * i) G' ∧ Ex T (off p q G) (off p q G'))
          ⟨none, none, none, none, none, rfl, LG, Ex.refl⟩ (fun _ _ _ _ _ => trivial) (fun i x σ G1 G2 hi5 ⟨a12, a13, a14, a15, a16, eσ, M0, xx⟩ y => ?_) (fun σ G1 ⟨a12, a13, a14, a15, a16, eσ, M0, xx⟩ => ?_)⟩
        rotate_left
        · subst eσ
          have kl : one.length ≤ 65536 := Nat.le_trans (high_len (ok.nm.hi _ kn)) (by decide)
          have ikn : isKindName (kindsOf (bare (dKs ks))) (.str one) = some one := by
            rw [kindsOf_bare, kindsOf_dKs]
            show (if one ∈ kNames ks then some one else none) = _
            rw [if_pos kn]
          have ik : isKinds (bare (dKs ks)) = true := by rw [isKinds_bare]; exact ok.isKinds
          have rk : ∀ {G : Hp}, Ex T (off p q G1) (off p q G) → Rp K G (.ref a) (bare (dKs ks)) := fun x =>
            (shp_dx (p := p) (q := q) ok.shp (LG.keep (xx.trans x) ha (fun _ z => by cases z)) (paired_imp (fun _ _ z => z.to (Tk.ex LG.tb (xx.trans x))) pr)).un.rp
          have len : ∀ n, ((List.replicate n [PyData.str succ]).flatten ++ [PyData.str fin]).length = n + 1 := fun n => by
            rw [List.length_append, flatM_len]; simp
          have enW : ∀ n, ∀ d ∈ (List.replicate n [PyData.str succ]).flatten ++ [PyData.str fin], EnS d := fun n => ens_app (flat_ens (ens_one eSucc) n) (ens_one eFin)
          have flat1 : ∀ n, (List.replicate n [PyData.str succ]).flatten = List.replicate n (PyData.str succ) := fun n => by
            induction n with
            | zero => rfl
            | succ n ih => rw [List.replicate_succ, List.flatten_cons, ih, List.replicate_succ]; rfl
          try dsimp only
          refine ⟨_, rfl, _, rfl, _, rfl, by show 1 ≤ sizeLine; decide, fun s1 h1 => ?_⟩
          obtain ⟨M1, y1, u1⟩ := M0.new (o := .tup (([.str succ] : List PyData).map vOf)) h1
          dsimp only [tC]
          refine rep_md M1 (n := 400) rfl u1 (by show 1 ≤ 1; decide) (by show 1 ≤ 1000; decide) (by decide) (by decide) fun s2 G2 y2 M2 u2 => ?_
          refine ⟨_, rfl, by show 1 ≤ sizeLine; decide, fun s3 h3 => ?_⟩
          obtain ⟨M3, y3, u3⟩ := M2.new (o := .tup (([.str fin] : List PyData).map vOf)) h3
          have u2 := M2.keep y3 u2 (fun _ z => by cases z)
          refine cat_md M3 u2 u3 (by rw [flatM_len]; show 400 * 1 + 1 ≤ 100000; decide) fun s4 G4 y4 M4 u4 => ?_
          have z4 := ((y1.trans y2).trans y3).trans y4
          refine ⟨.ref a, .str one, .ref s4, bare (dKs ks), .str one, _, rfl, rk z4, .str _ kl, (Dx.tup u4 (ens_dx (enW 400))).un.rp, M4.tbH, fun e => (by rw [ik] at e; cases e), fun _ e => (by rw [ikn] at e; cases e), fun z _ ez G5 x5 => ?_⟩
          rw [ikn] at ez
          cases ez
          rw [kindsOf_bare, kindsOf_dKs, isSay_bare, show isSay (ents ks) one (.tuple ((List.replicate 400 [PyData.str succ]).flatten ++ [PyData.str fin])) = false by
            rw [isSay_tup, len]
            rfl]
          obtain ⟨M5, y5⟩ := M4.ex x5
          have z5 := z4.trans y5
          refine ⟨_, rfl, _, rfl, ?_⟩
          show if (!false) = true then _ else _
          refine iteT ⟨_, rfl, _, rfl, _, rfl, by show 1 ≤ sizeLine; decide, fun s6 h6 => ?_⟩
          obtain ⟨M6, y6, u6⟩ := M5.new (o := .tup (([.str succ] : List PyData).map vOf)) h6
          dsimp only [tC]
          refine rep_md M6 (n := 399) rfl u6 (by show 1 ≤ 1; decide) (by show 1 ≤ 1000; decide) (by decide) (by decide) fun s7 G7 y7 M7 u7 => ?_
          refine ⟨_, rfl, by show 1 ≤ sizeLine; decide, fun s8 h8 => ?_⟩
          obtain ⟨M8, y8, u8⟩ := M7.new (o := .tup (([.str fin] : List PyData).map vOf)) h8
          have u7 := M7.keep y8 u7 (fun _ z => by cases z)
          refine cat_md M8 u7 u8 (by rw [flatM_len]; show 399 * 1 + 1 ≤ 100000; decide) fun s9 G9 y9 M9 u9 => ?_
          have z9 := z5.trans (((y6.trans y7).trans y8).trans y9)
          refine ⟨.ref a, .str one, .ref s9, bare (dKs ks), .str one, _, rfl, rk z9, .str _ kl, (Dx.tup u9 (ens_dx (enW 399))).un.rp, M9.tbH, fun e => (by rw [ik] at e; cases e), fun _ e => (by rw [ikn] at e; cases e), fun z _ ez G10 x10 => ?_⟩
          rw [ikn] at ez
          cases ez
          rw [kindsOf_bare, kindsOf_dKs, isSay_bare, show isSay (ents ks) one (.tuple ((List.replicate 399 [PyData.str succ]).flatten ++ [PyData.str fin])) = true by
            rw [isSay_tup, len, flat1, ch 399]
            rfl]
          obtain ⟨M10, y10⟩ := M9.ex x10
          refine ⟨true, true, rfl, rfl, ?_⟩
          rw [decide_eq_true (rfl : true = true)]
          exact k _ (xG.trans (xx.trans (z9.trans y10))) (M10.le (by omega))
        obtain ⟨rfl, rfl⟩ := y
        subst eσ
        have hi5 : i < 5 := hi5
        have hf2 : 198 ≤ (397 + i) / 2 ∧ (397 + i) / 2 ≤ 200 := by omega
        have em : ((398 : Int) + (i : Int) - 1) / 2 = (((397 + i) / 2 : Nat) : Int) := by omega
        refine ⟨_, rfl, _, _, rfl, rfl, _, _, rfl, rfl, ⟨by decide, by decide⟩, _, rfl, by show 1 ≤ sizeLine; decide, fun sA hA => ?_⟩
        obtain ⟨M1, y1, lA⟩ := M0.new (o := .tup (([.str fin] : List PyData).map vOf)) hA
        have xx := xx.trans y1
        refine ⟨_, rfl, _, rfl, by show 2 ≤ sizeLine; decide, fun sB hB => ?_⟩
        obtain ⟨M2, y2, lB⟩ := M1.new (o := .tup (([.str leaf, .int num] : List PyData).map vOf)) hB
        have lA := M1.keep y2 lA (fun _ z => by cases z)
        have xx := xx.trans y2
        refine ⟨by show 2 ≤ sizeLine; decide, fun sC hC => ?_⟩
        obtain ⟨M3, y3, lC⟩ := M2.new (o := .lst [.ref sA, .ref sB]) hC
        have lA := M2.keep y3 lA (fun _ z => by cases z)
        have lB := M2.keep y3 lB (fun _ z => by cases z)
        have xx := xx.trans y3
        obtain ⟨vl, el, ml⟩ := atI_of (xs := [.ref sA, .ref sB]) (r := ((398 : Int) + (i : Int) + 1) % 2) (by omega) (by show _ < (2 : Int); omega)
        obtain ⟨cl, mdl, rfl, hl, enl, ll1, ll2⟩ : ∃ (cl : Addr) (mdl : List PyData), vl = .ref cl ∧ off p q _ cl = some (.tup (mdl.map vOf)) ∧ (∀ d ∈ mdl, EnS d) ∧ 1 ≤ mdl.length ∧ mdl.length ≤ 2 := by
          simp only [List.mem_cons, List.mem_nil_iff, or_false] at ml
          rcases ml with rfl | rfl
          · exact ⟨sA, _, rfl, lA, fun d hd => (by rw [List.mem_singleton.mp hd]; exact eFin), by show 1 ≤ 1; decide, by show 1 ≤ 2; decide⟩
          · exact ⟨sB, _, rfl, lB, fun d hd => (by
              rcases List.mem_cons.mp hd with rfl | hd
              · exact eLeaf
              · rw [List.mem_singleton.mp hd]; exact eNum), by show 1 ≤ 2; decide, by show 2 ≤ 2; decide⟩
        refine ⟨_, rfl, _, _, rfl, rfl, _, _, rfl, rfl, (by show (0 : Int) < 2; decide), sC, _, _, _, rfl, rfl, .inl (.inl (off_un _ _ lC)), el, _, _, rfl, ?_⟩
        clear lA lB lC ml el
        try dsimp only
        refine ⟨_, rfl, _, rfl, by show 2 ≤ sizeLine; decide, fun s1 hs1 => ?_⟩
        obtain ⟨M4, y4, u1⟩ := M3.new (o := .tup (([.str cell, .int num] : List PyData).map vOf)) hs1
        have hl := M3.keep y4 hl (fun _ z => by cases z)
        have xx := xx.trans y4
        refine ⟨_, rfl, _, rfl, cl, _, rfl, .inr (.inl (.inl (off_un _ _ hl))), _, _, rfl, rfl, _, _, rfl, rfl, ⟨by decide, by decide⟩, ?_⟩
        refine rep_md M4 (n := (398 + i - mdl.length) / 2) (by rw [List.length_map]; omega) u1 (by simp only [List.length_cons, List.length_nil]; omega) (by simp only [List.length_cons, List.length_nil]; omega) (by omega) (by omega) fun s50 G5 y5 M5 u2 => ?_
        clear u1
        have hl := M4.keep y5 hl (fun _ z => by cases z)
        have xx := xx.trans y5
        refine ⟨_, rfl, cat_md M5 u2 hl (by simp only [List.length_append, flatM_len, List.length_cons, List.length_nil]; omega) fun s60 G6 y6 M6 u3 => ?_⟩
        clear u2
        have hl := M5.keep y6 hl (fun _ z => by cases z)
        have xx := xx.trans y6
        have V1 : VlF p q _ (.ref s60) := ⟨s60, _, rfl, u3, (ens_app (flat_ens (ens_two eCell eNum) _) enl), (by simp only [List.length_append, flatM_len, List.length_cons, List.length_nil]; omega), (by simp only [List.length_append, flatM_len, List.length_cons, List.length_nil]; omega)⟩
        clear u3
        refine ⟨_, rfl, by show 1 ≤ sizeLine; decide, fun s2 hs2 => ?_⟩
        obtain ⟨M7, y7, u1⟩ := M6.new (o := .tup (([.str succ] : List PyData).map vOf)) hs2
        have hl := M6.keep y7 hl (fun _ z => by cases z)
        have V1 := V1.ex y7 M6.tb
        have xx := xx.trans y7
        refine ⟨_, rfl, _, _, rfl, rfl, rep_md M7 (n := 397 + i) (by omega) u1 (by simp only [List.length_cons, List.length_nil]; omega) (by simp only [List.length_cons, List.length_nil]; omega) (by omega) (by omega) fun s80 G8 y8 M8 u2 => ?_⟩
        clear u1
        have hl := M7.keep y8 hl (fun _ z => by cases z)
        have V1 := V1.ex y8 M7.tb
        have xx := xx.trans y8
        refine ⟨_, rfl, by show 1 ≤ sizeLine; decide, fun s3 hs3 => ?_⟩
        obtain ⟨M9, y9, u3⟩ := M8.new (o := .tup (([.str fin] : List PyData).map vOf)) hs3
        have hl := M8.keep y9 hl (fun _ z => by cases z)
        have u2 := M8.keep y9 u2 (fun _ z => by cases z)
        have V1 := V1.ex y9 M8.tb
        have xx := xx.trans y9
        refine cat_md M9 u2 u3 (by simp only [List.length_append, flatM_len, List.length_cons, List.length_nil]; omega) fun s100 G10 y10 M10 u4 => ?_
        clear u2
        clear u3
        have hl := M9.keep y10 hl (fun _ z => by cases z)
        have V1 := V1.ex y10 M9.tb
        have xx := xx.trans y10
        have V2 : VlF p q _ (.ref s100) := ⟨s100, _, rfl, u4, (ens_app (flat_ens (ens_one eSucc) _) (ens_one eFin)), (by simp only [List.length_append, flatM_len, List.length_cons, List.length_nil]; omega), (by simp only [List.length_append, flatM_len, List.length_cons, List.length_nil]; omega)⟩
        clear u4
        refine ⟨by show 2 ≤ sizeLine; decide, fun s4 hs4 => ?_⟩
        obtain ⟨M11, y11, g1⟩ := M10.new (o := .lst [.ref s60, .ref s100]) hs4
        have hl := M10.keep y11 hl (fun _ z => by cases z)
        have V1 := V1.ex y11 M10.tb
        have V2 := V2.ex y11 M10.tb
        have xx := xx.trans y11
        try dsimp only
        refine ⟨_, rfl, ?_⟩
        refine ⟨_, rfl, by show 1 ≤ sizeLine; decide, fun s5 hs5 => ?_⟩
        obtain ⟨M12, y12, u1⟩ := M11.new (o := .tup (([.str pair] : List PyData).map vOf)) hs5
        have hl := M11.keep y12 hl (fun _ z => by cases z)
        have g1 := M11.keep y12 g1 (fun _ z => by cases z)
        have V1 := V1.ex y12 M11.tb
        have V2 := V2.ex y12 M11.tb
        have xx := xx.trans y12
        refine ⟨_, rfl, rep_md M12 (n := (397 + i) / 2) (by exact em) u1 (by simp only [List.length_cons, List.length_nil]; omega) (by simp only [List.length_cons, List.length_nil]; omega) (by omega) (by omega) fun s130 G13 y13 M13 u2 => ?_⟩
        clear u1
        have hl := M12.keep y13 hl (fun _ z => by cases z)
        have g1 := M12.keep y13 g1 (fun _ z => by cases z)
        have V1 := V1.ex y13 M12.tb
        have V2 := V2.ex y13 M12.tb
        have xx := xx.trans y13
        refine ⟨_, rfl, by show 1 ≤ sizeLine; decide, fun s6 hs6 => ?_⟩
        obtain ⟨M14, y14, u3⟩ := M13.new (o := .tup (([.str fin] : List PyData).map vOf)) hs6
        have hl := M13.keep y14 hl (fun _ z => by cases z)
        have g1 := M13.keep y14 g1 (fun _ z => by cases z)
        have u2 := M13.keep y14 u2 (fun _ z => by cases z)
        have V1 := V1.ex y14 M13.tb
        have V2 := V2.ex y14 M13.tb
        have xx := xx.trans y14
        refine ⟨_, rfl, _, rfl, _, _, rfl, rfl, rep_md M14 (n := 398 + i - (397 + i) / 2) (by omega) u3 (by simp only [List.length_cons, List.length_nil]; omega) (by simp only [List.length_cons, List.length_nil]; omega) (by omega) (by omega) fun s150 G15 y15 M15 u4 => ?_⟩
        clear u3
        have hl := M14.keep y15 hl (fun _ z => by cases z)
        have g1 := M14.keep y15 g1 (fun _ z => by cases z)
        have u2 := M14.keep y15 u2 (fun _ z => by cases z)
        have V1 := V1.ex y15 M14.tb
        have V2 := V2.ex y15 M14.tb
        have xx := xx.trans y15
        refine cat_md M15 u2 u4 (by simp only [List.length_append, flatM_len, List.length_cons, List.length_nil]; omega) fun s160 G16 y16 M16 u5 => ?_
        clear u2
        clear u4
        have hl := M15.keep y16 hl (fun _ z => by cases z)
        have g1 := M15.keep y16 g1 (fun _ z => by cases z)
        have V1 := V1.ex y16 M15.tb
        have V2 := V2.ex y16 M15.tb
        have xx := xx.trans y16
        have V3 : VlF p q _ (.ref s160) := ⟨s160, _, rfl, u5, (ens_app (flat_ens (ens_one ePair) _) (flat_ens (ens_one eFin) _)), (by simp only [List.length_append, flatM_len, List.length_cons, List.length_nil]; omega), (by simp only [List.length_append, flatM_len, List.length_cons, List.length_nil]; omega)⟩
        clear u5
        refine ⟨_, rfl, _, rfl, by show 2 ≤ sizeLine; decide, fun s7 hs7 => ?_⟩
        obtain ⟨M17, y17, u1⟩ := M16.new (o := .tup (([.str pair, .str fin] : List PyData).map vOf)) hs7
        have hl := M16.keep y17 hl (fun _ z => by cases z)
        have g1 := M16.keep y17 g1 (fun _ z => by cases z)
        have V1 := V1.ex y17 M16.tb
        have V2 := V2.ex y17 M16.tb
        have V3 := V3.ex y17 M16.tb
        have xx := xx.trans y17
        refine ⟨_, rfl, rep_md M17 (n := (397 + i) / 2) (by exact em) u1 (by simp only [List.length_cons, List.length_nil]; omega) (by simp only [List.length_cons, List.length_nil]; omega) (by omega) (by omega) fun s180 G18 y18 M18 u2 => ?_⟩
        clear u1
        have hl := M17.keep y18 hl (fun _ z => by cases z)
        have g1 := M17.keep y18 g1 (fun _ z => by cases z)
        have V1 := V1.ex y18 M17.tb
        have V2 := V2.ex y18 M17.tb
        have V3 := V3.ex y18 M17.tb
        have xx := xx.trans y18
        refine ⟨_, rfl, by show 1 ≤ sizeLine; decide, fun s8 hs8 => ?_⟩
        obtain ⟨M19, y19, u3⟩ := M18.new (o := .tup (([.str fin] : List PyData).map vOf)) hs8
        have hl := M18.keep y19 hl (fun _ z => by cases z)
        have g1 := M18.keep y19 g1 (fun _ z => by cases z)
        have u2 := M18.keep y19 u2 (fun _ z => by cases z)
        have V1 := V1.ex y19 M18.tb
        have V2 := V2.ex y19 M18.tb
        have V3 := V3.ex y19 M18.tb
        have xx := xx.trans y19
        refine ⟨_, rfl, _, rfl, _, _, rfl, rfl, .inl ⟨by decide, by decide⟩, _, _, rfl, rfl, rep_md M19 (n := 398 + i - 2 * ((397 + i) / 2)) (by omega) u3 (by simp only [List.length_cons, List.length_nil]; omega) (by simp only [List.length_cons, List.length_nil]; omega) (by omega) (by omega) fun s200 G20 y20 M20 u4 => ?_⟩
        clear u3
        have hl := M19.keep y20 hl (fun _ z => by cases z)
        have g1 := M19.keep y20 g1 (fun _ z => by cases z)
        have u2 := M19.keep y20 u2 (fun _ z => by cases z)
        have V1 := V1.ex y20 M19.tb
        have V2 := V2.ex y20 M19.tb
        have V3 := V3.ex y20 M19.tb
        have xx := xx.trans y20
        refine cat_md M20 u2 u4 (by simp only [List.length_append, flatM_len, List.length_cons, List.length_nil]; omega) fun s210 G21 y21 M21 u5 => ?_
        clear u2
        clear u4
        have hl := M20.keep y21 hl (fun _ z => by cases z)
        have g1 := M20.keep y21 g1 (fun _ z => by cases z)
        have V1 := V1.ex y21 M20.tb
        have V2 := V2.ex y21 M20.tb
        have V3 := V3.ex y21 M20.tb
        have xx := xx.trans y21
        have V4 : VlF p q _ (.ref s210) := ⟨s210, _, rfl, u5, (ens_app (flat_ens (ens_two ePair eFin) _) (flat_ens (ens_one eFin) _)), (by simp only [List.length_append, flatM_len, List.length_cons, List.length_nil]; omega), (by simp only [List.length_append, flatM_len, List.length_cons, List.length_nil]; omega)⟩
        clear u5
        refine ⟨by show 2 ≤ sizeLine; decide, fun s9 hs9 => ?_⟩
        obtain ⟨M22, y22, g2⟩ := M21.new (o := .lst [.ref s160, .ref s210]) hs9
        have hl := M21.keep y22 hl (fun _ z => by cases z)
        have g1 := M21.keep y22 g1 (fun _ z => by cases z)
        have V1 := V1.ex y22 M21.tb
        have V2 := V2.ex y22 M21.tb
        have V3 := V3.ex y22 M21.tb
        have V4 := V4.ex y22 M21.tb
        have xx := xx.trans y22
        refine ⟨s4, s9, _, _, rfl, rfl, off_un _ _ g1, off_un _ _ g2, by show 4 ≤ sizeLine; decide, fun o3 ho3 => ?_⟩
        obtain ⟨M23, y23, g3⟩ := M22.new (o := .lst [.ref s60, .ref s100, .ref s160, .ref s210]) ho3
        have hl := M22.keep y23 hl (fun _ z => by cases z)
        have g1 := M22.keep y23 g1 (fun _ z => by cases z)
        have g2 := M22.keep y23 g2 (fun _ z => by cases z)
        have V1 := V1.ex y23 M22.tb
        have V2 := V2.ex y23 M22.tb
        have V3 := V3.ex y23 M22.tb
        have V4 := V4.ex y23 M22.tb
        have xx := xx.trans y23
        clear g1 g2
        try dsimp only
        refine ⟨_, rfl, ?_⟩
        refine ⟨_, rfl, by show 1 ≤ sizeLine; decide, fun s10 hs10 => ?_⟩
        obtain ⟨M24, y24, u1⟩ := M23.new (o := .tup (([.str succ] : List PyData).map vOf)) hs10
        have hl := M23.keep y24 hl (fun _ z => by cases z)
        have g3 := M23.keep y24 g3 (fun _ z => by cases z)
        have V1 := V1.ex y24 M23.tb
        have V2 := V2.ex y24 M23.tb
        have V3 := V3.ex y24 M23.tb
        have V4 := V4.ex y24 M23.tb
        have xx := xx.trans y24
        refine ⟨_, rfl, rep_md M24 (n := (397 + i) / 2) (by exact em) u1 (by simp only [List.length_cons, List.length_nil]; omega) (by simp only [List.length_cons, List.length_nil]; omega) (by omega) (by omega) fun s250 G25 y25 M25 u2 => ?_⟩
        clear u1
        have hl := M24.keep y25 hl (fun _ z => by cases z)
        have g3 := M24.keep y25 g3 (fun _ z => by cases z)
        have V1 := V1.ex y25 M24.tb
        have V2 := V2.ex y25 M24.tb
        have V3 := V3.ex y25 M24.tb
        have V4 := V4.ex y25 M24.tb
        have xx := xx.trans y25
        refine ⟨_, rfl, _, rfl, by show 2 ≤ sizeLine; decide, fun s11 hs11 => ?_⟩
        obtain ⟨M26, y26, u3⟩ := M25.new (o := .tup (([.str pair, .str fin] : List PyData).map vOf)) hs11
        have hl := M25.keep y26 hl (fun _ z => by cases z)
        have g3 := M25.keep y26 g3 (fun _ z => by cases z)
        have u2 := M25.keep y26 u2 (fun _ z => by cases z)
        have V1 := V1.ex y26 M25.tb
        have V2 := V2.ex y26 M25.tb
        have V3 := V3.ex y26 M25.tb
        have V4 := V4.ex y26 M25.tb
        have xx := xx.trans y26
        refine ⟨_, rfl, _, rfl, _, _, rfl, rfl, _, _, rfl, rfl, ⟨by decide, by decide⟩, ?_⟩
        refine rep_md M26 (n := (398 + i - (397 + i) / 2) / 2) (by omega) u3 (by simp only [List.length_cons, List.length_nil]; omega) (by simp only [List.length_cons, List.length_nil]; omega) (by omega) (by omega) fun s270 G27 y27 M27 u4 => ?_
        clear u3
        have hl := M26.keep y27 hl (fun _ z => by cases z)
        have g3 := M26.keep y27 g3 (fun _ z => by cases z)
        have u2 := M26.keep y27 u2 (fun _ z => by cases z)
        have V1 := V1.ex y27 M26.tb
        have V2 := V2.ex y27 M26.tb
        have V3 := V3.ex y27 M26.tb
        have V4 := V4.ex y27 M26.tb
        have xx := xx.trans y27
        refine cat_md M27 u2 u4 (by simp only [List.length_append, flatM_len, List.length_cons, List.length_nil]; omega) fun s280 G28 y28 M28 u5 => ?_
        clear u2
        clear u4
        have hl := M27.keep y28 hl (fun _ z => by cases z)
        have g3 := M27.keep y28 g3 (fun _ z => by cases z)
        have V1 := V1.ex y28 M27.tb
        have V2 := V2.ex y28 M27.tb
        have V3 := V3.ex y28 M27.tb
        have V4 := V4.ex y28 M27.tb
        have xx := xx.trans y28
        refine ⟨_, rfl, by show 1 ≤ sizeLine; decide, fun s12 hs12 => ?_⟩
        obtain ⟨M29, y29, u6⟩ := M28.new (o := .tup (([.str fin] : List PyData).map vOf)) hs12
        have hl := M28.keep y29 hl (fun _ z => by cases z)
        have g3 := M28.keep y29 g3 (fun _ z => by cases z)
        have u5 := M28.keep y29 u5 (fun _ z => by cases z)
        have V1 := V1.ex y29 M28.tb
        have V2 := V2.ex y29 M28.tb
        have V3 := V3.ex y29 M28.tb
        have V4 := V4.ex y29 M28.tb
        have xx := xx.trans y29
        refine cat_md M29 u5 u6 (by simp only [List.length_append, flatM_len, List.length_cons, List.length_nil]; omega) fun s300 G30 y30 M30 u7 => ?_
        clear u5
        clear u6
        have hl := M29.keep y30 hl (fun _ z => by cases z)
        have g3 := M29.keep y30 g3 (fun _ z => by cases z)
        have V1 := V1.ex y30 M29.tb
        have V2 := V2.ex y30 M29.tb
        have V3 := V3.ex y30 M29.tb
        have V4 := V4.ex y30 M29.tb
        have xx := xx.trans y30
        have V5 : VlF p q _ (.ref s300) := ⟨s300, _, rfl, u7, (ens_app (ens_app (flat_ens (ens_one eSucc) _) (flat_ens (ens_two ePair eFin) _)) (ens_one eFin)), (by simp only [List.length_append, flatM_len, List.length_cons, List.length_nil]; omega), (by simp only [List.length_append, flatM_len, List.length_cons, List.length_nil]; omega)⟩
        clear u7
        refine ⟨_, rfl, by show 1 ≤ sizeLine; decide, fun s13 hs13 => ?_⟩
        obtain ⟨M31, y31, u1⟩ := M30.new (o := .tup (([.str succ] : List PyData).map vOf)) hs13
        have hl := M30.keep y31 hl (fun _ z => by cases z)
        have g3 := M30.keep y31 g3 (fun _ z => by cases z)
        have V1 := V1.ex y31 M30.tb
        have V2 := V2.ex y31 M30.tb
        have V3 := V3.ex y31 M30.tb
        have V4 := V4.ex y31 M30.tb
        have V5 := V5.ex y31 M30.tb
        have xx := xx.trans y31
        refine ⟨_, rfl, rep_md M31 (n := 398 + i) (by omega) u1 (by simp only [List.length_cons, List.length_nil]; omega) (by simp only [List.length_cons, List.length_nil]; omega) (by omega) (by omega) fun s320 G32 y32 M32 u2 => ?_⟩
        clear u1
        have hl := M31.keep y32 hl (fun _ z => by cases z)
        have g3 := M31.keep y32 g3 (fun _ z => by cases z)
        have V1 := V1.ex y32 M31.tb
        have V2 := V2.ex y32 M31.tb
        have V3 := V3.ex y32 M31.tb
        have V4 := V4.ex y32 M31.tb
        have V5 := V5.ex y32 M31.tb
        have xx := xx.trans y32
        have V6 : VlF p q _ (.ref s320) := ⟨s320, _, rfl, u2, (flat_ens (ens_one eSucc) _), (by simp only [List.length_append, flatM_len, List.length_cons, List.length_nil]; omega), (by simp only [List.length_append, flatM_len, List.length_cons, List.length_nil]; omega)⟩
        clear u2
        refine ⟨by show 2 ≤ sizeLine; decide, fun s14 hs14 => ?_⟩
        obtain ⟨M33, y33, g4⟩ := M32.new (o := .lst [.ref s300, .ref s320]) hs14
        have hl := M32.keep y33 hl (fun _ z => by cases z)
        have g3 := M32.keep y33 g3 (fun _ z => by cases z)
        have V1 := V1.ex y33 M32.tb
        have V2 := V2.ex y33 M32.tb
        have V3 := V3.ex y33 M32.tb
        have V4 := V4.ex y33 M32.tb
        have V5 := V5.ex y33 M32.tb
        have V6 := V6.ex y33 M32.tb
        have xx := xx.trans y33
        refine ⟨o3, s14, _, _, rfl, rfl, off_un _ _ g3, off_un _ _ g4, by show 6 ≤ sizeLine; decide, fun o5 ho5 => ?_⟩
        obtain ⟨M34, y34, g5⟩ := M33.new (o := .lst [.ref s60, .ref s100, .ref s160, .ref s210, .ref s300, .ref s320]) ho5
        have hl := M33.keep y34 hl (fun _ z => by cases z)
        have g3 := M33.keep y34 g3 (fun _ z => by cases z)
        have g4 := M33.keep y34 g4 (fun _ z => by cases z)
        have V1 := V1.ex y34 M33.tb
        have V2 := V2.ex y34 M33.tb
        have V3 := V3.ex y34 M33.tb
        have V4 := V4.ex y34 M33.tb
        have V5 := V5.ex y34 M33.tb
        have V6 := V6.ex y34 M33.tb
        have xx := xx.trans y34
        clear g3 g4
        try dsimp only
        have all6 : ∀ v ∈ ([.ref s60, .ref s100, .ref s160, .ref s210, .ref s300, .ref s320] : List V), VlF p q _ v := fun v hv => by
          simp only [List.mem_cons, List.mem_nil_iff, or_false] at hv
          rcases hv with rfl | rfl | rfl | rfl | rfl | rfl
          · exact V1
          · exact V2
          · exact V3
          · exact V4
          · exact V5
          · exact V6
        clear V1 V2 V3 V4 V5 V6
        have xx0 := xx
        try dsimp only
        refine ⟨_, rfl, _, rfl, _, rfl, _, rfl, p, q, _, 6, rfl, M34.w, by decide, by decide, by omega, fun Gd r8 r80 r81 kp8 hw8 => ?_⟩
        obtain ⟨M35, y35⟩ := M34.draw kp8 hw8
        have xx : Ex T _ _ := y35
        have g5 := M34.keep y35 g5 (fun _ z => by cases z)
        obtain ⟨v8, e8, m8⟩ := atI_of r80 (show r8 < (([.ref s60, .ref s100, .ref s160, .ref s210, .ref s300, .ref s320] : List V).length : Int) from r81)
        have all6 := fun v hv => (all6 v hv).ex y35 M34.tb
        clear hl
        obtain ⟨c8, md8, rfl, h8, en8, l81, l82⟩ := all6 v8 m8
        have xt := xx0.trans xx
        refine ⟨o5, _, _, _, rfl, rfl, .inl (.inl (off_un _ _ g5)), e8, _, rfl, p, q, _, c8, _, md8, a, kxs, ks, rfl, M35, by omega, h8, ens_dx en8, en8, l81, l82, LG.keep xt ha (fun _ z => by cases z), paired_imp (fun _ _ z => z.to (Tk.ex LG.tb xt)) pr, ok, fun Ge v9 r9 bn9 tw9 D9 y36 M36 => ?_⟩
        have all6 := fun v hv => (all6 v hv).ex y36 M35.tb
        have xt := xt.trans y36
        have g5 := M35.keep y36 g5 (fun _ z => by cases z)
        clear e8 m8 h8
        refine ⟨by show 1 ≤ sizeLine; decide, fun o6 ho6 => ?_⟩
        obtain ⟨M37, y37, g6⟩ := M36.new (o := .lst [v9]) ho6
        have all6 := fun v hv => (all6 v hv).ex y37 M36.tb
        have D9 := D9.ex y37 M36.tb
        have xt := xt.trans y37
        have g5 := M36.keep y37 g5 (fun _ z => by cases z)
        refine ⟨o5, o6, _, _, rfl, rfl, off_un _ _ g5, off_un _ _ g6, by show 7 ≤ sizeLine; decide, fun o7 ho7 => ?_⟩
        obtain ⟨M38, y38, g7⟩ := M37.new (o := .lst [.ref s60, .ref s100, .ref s160, .ref s210, .ref s300, .ref s320, v9]) ho7
        have all6 := fun v hv => (all6 v hv).ex y38 M37.tb
        have D9 := D9.ex y38 M37.tb
        have xt := xt.trans y38
        have all7 : ∀ v ∈ ([.ref s60, .ref s100, .ref s160, .ref s210, .ref s300, .ref s320, v9] : List V), ∃ d, Dx K (off p q _) v d ∧ Bn 3 130000 d := fun v hv => by
          rcases List.mem_append.mp (show v ∈ ([.ref s60, .ref s100, .ref s160, .ref s210, .ref s300, .ref s320] : List V) ++ [v9] from hv) with hv | hv
          · obtain ⟨c, md, rfl, h, en, _, lm⟩ := all6 v hv
            exact ⟨_, .tup h (ens_dx en), (Bn.tup (bna_ens (k := 0) en)).le (by decide) (by omega)⟩
          · rw [List.mem_singleton.mp hv]; exact ⟨_, D9, bn9⟩
        clear all6 D9 g5 g6
        refine ⟨o7, rfl, ⟨_, .inl (.inl (off_un _ _ g7))⟩, for_list (xs := [.ref s60, .ref s100, .ref s160, .ref s210, .ref s300, .ref s320, v9]) (fun _ σ G8 => ∃ a12 a13 a14 a15 a16, σ = [some (.ref p), some (.ref n1), a2, some (.str one), some (.str fin), some (.str cell), some (.str pair), some (.str succ), some (.str leaf), some (.str oth), some (.int num), some (.ref a), a12, a13, a14, a15, a16] ∧ Wl T p q (b + 130 + 8 * (i + 1)) G8 ∧ Ex T (off p q G) (off p q G8) ∧ off p q G8 o7 = some (.lst [.ref s60, .ref s100, .ref s160, .ref s210, .ref s300, .ref s320, v9]) ∧ ∀ v ∈ ([.ref s60, .ref s100, .ref s160, .ref s210, .ref s300, .ref s320, v9] : List V), ∃ d, Dx K (off p q G8) v d ∧ Bn 3 130000 d)
          ⟨_, _, _, _, _, rfl, M38.le (by omega), xt, g7, all7⟩ (fun i σ G8 _ ⟨_, _, _, _, _, _, _, _, h, _⟩ => .inl (.inl (off_un _ _ h))) (fun i x σ G8 hx ⟨a12, a13, a14, a15, a16, eσ, L8, x8, e8, all8⟩ => ?_) (fun σ G8 ⟨a12, a13, a14, a15, a16, eσ, L8, x8, e8, all8⟩ => ?_)⟩
        · subst eσ
          obtain ⟨d, Dd, Bd⟩ := all8 x (List.mem_of_getElem? hx)
          have kdx : Dx K (off p q G8) (.ref a) (dKs ks) := shp_dx ok.shp (LG.keep x8 ha (fun _ z => by cases z)) (paired_imp (fun _ _ z => z.to (Tk.ex LG.tb x8)) pr)
          refine ⟨_, rfl, _, rfl, _, rfl, .ref a, x, _, ks, one, d, rfl, kdx.un.rp, by rw [isKinds_bare]; exact ok.isKinds, by rw [kindsOf_bare, kindsOf_dKs], ok, kn, Dd.un, Bd.fit (by decide) (by decide), L8.tbH, fun G9 x9 => ⟨_, rfl, ?_⟩⟩
          obtain ⟨L9, x9⟩ := L8.ex x9
          refine iteF ?_
          exact ⟨_, _, _, _, _, rfl, L9, x8.trans x9, L8.keep x9 e8 (fun _ z => by cases z), fun v hv => (by
            obtain ⟨d, h1, h2⟩ := all8 v hv
            exact ⟨d, h1.ex x9 L8.tb, h2⟩)⟩
        · subst eσ
          exact ⟨_, _, _, _, _, rfl, L8, x8⟩
end
end JF
set_option Elab.async false
set_option linter.all false
set_option maxRecDepth 100000
set_option maxHeartbeats 1000000
/-! what the law keeps beside its well -/
namespace JF
open PySem PySem.Spec PyProof PyProof.Rows L2 GxR GA PC
section
variable {K : PySem.W.Frag} {T : List Addr} {p q : Addr} {b : Nat} {G G' : Hp}
theorem off_any (L : Wl T p q b G) {D : Addr} {o : HO} (hD0 : G D = none) (hD : G' D = some o) : off p q G' D = some o := by
  obtain ⟨m, c, ts, ne, hp, hq, _⟩ := L.w
  exact off_at hD (fun z => by rw [z, hp] at hD0; cases hD0) (fun z => by rw [z, hq] at hD0; cases hD0)
theorem sqT_off (L : Wl T p q b G) {a : Addr} {xs : List V} (h : SqT K G a xs) : SqT K (off p q G) a xs := by
  obtain ⟨m, c, ts, ne, hp, hq, _⟩ := L.w
  have n1 : ∀ {o : HO}, G a = some o → (∀ z, o ≠ .lst z) → a ≠ p := fun e n z => by
    rw [z, hp] at e
    exact n _ (Option.some.inj e).symm
  have n2 : ∀ {o : HO}, G a = some o → (∀ z, o ≠ .lst z) → a ≠ q := fun e n z => by
    rw [z, hq] at e
    exact n _ (Option.some.inj e).symm
  rcases h with (h | ⟨o, h⟩) | h
  · exact .inl (.inl (off_at h (n1 h fun _ z => by cases z) (n2 h fun _ z => by cases z)))
  · exact .inl (.inr ⟨o, off_at h (n1 h fun _ z => by cases z) (n2 h fun _ z => by cases z)⟩)
  · exact .inr h
/-- kinds beside the well, as the program and the law see them -/
structure KsB (K : PySem.W.Frag) (p q : Addr) (G : Hp) (a : Addr) (xs : List V) (ks : List Kd) : Prop where
  at' : off p q G a = some (.tup xs)
  pr : Paired (KdT p q G) xs ks
  ok : KsOk ks
theorem KsB.ex (h : KsB K p q G a xs ks) (L : Wl T p q b G) (x : Ex T (off p q G) (off p q G')) : KsB K p q G' a xs ks :=
  ⟨L.keep x h.at' (fun _ z => by cases z), paired_imp (fun _ _ z => z.to (Tk.ex L.tb x)) h.pr, h.ok⟩
theorem KsB.rp (h : KsB K p q G a xs ks) : Rp K G (.ref a) (bare (dKs ks)) := (shp_dx (K := K) h.ok.shp h.at' h.pr).un.rp
theorem KsB.is (h : KsB K p q G a xs ks) : isKinds (bare (dKs ks)) = true ∧ kindsOf (bare (dKs ks)) = ks := ⟨by rw [isKinds_bare]; exact h.ok.isKinds, by rw [kindsOf_bare, kindsOf_dKs]⟩
theorem KsB.kat (h : KsB K p q G a xs ks) : KindsAt K G (.ref a) ks := by
  have e : isTup 1 6 isKind (bare (dKs ks)) = true := by
    have z := h.is.1
    unfold isKinds at z
    rw [Bool.and_eq_true] at z
    exact z.1
  have z := kindsAt h.rp e
  rwa [h.is.2] at z
/-- the least trees beside the well -/
structure LeB (K : PySem.W.Frag) (p q : Addr) (G : Hp) (ks : List Kd) (D : Addr) (kvs : List (Key × V)) : Prop where
  at' : off p q G D = some (.dK kvs)
  ok : LeOk K (off p q G) ks kvs
  len : kvs.length ≤ 300
theorem LeB.ex (h : LeB K p q G ks D kvs) (L : Wl T p q b G) (x : Ex T (off p q G) (off p q G')) : LeB K p q G' ks D kvs :=
  ⟨L.keep x h.at' (fun _ z => by cases z), h.ok.to fun _ _ z => x.sqT L.tb z, h.len⟩
/-- values for _law_value_right -/
def VlA (K : PySem.W.Frag) (p q : Addr) (G : Hp) (vs : List V) : Prop := ∀ v ∈ vs, ∃ d, Dx K (off p q G) v d ∧ Fit d
theorem VlA.ex {vs : List V} (h : VlA K p q G vs) (L : Wl T p q b G) (x : Ex T (off p q G) (off p q G')) : VlA K p q G' vs := fun v hv => by
  obtain ⟨d, h1, h2⟩ := h v hv
  exact ⟨d, h1.ex x L.tb, h2⟩
theorem VlA.app {vs us : List V} (h : VlA K p q G vs) (h2 : VlA K p q G us) : VlA K p q G (vs ++ us) := fun v hv => (List.mem_append.mp hv).elim (h v) (h2 v)
/-- the keys of the least trees: names -/
theorem LeB.key (h : LeB K p q G ks D kvs) {kv : Key × V} (m : kv ∈ kvs) : ∃ name, kv.1 = .inr name ∧ name ∈ kNames ks := by
  obtain ⟨name, s, t, fs, e, l⟩ := h.ok kv m
  obtain ⟨k0, hk0, rfl, _⟩ := l.mr
  exact ⟨_, e, List.mem_map_of_mem hk0⟩
end
/-- [k for k in d] -/
theorem comp_key0 {i j : Nat} {σ : L2.St} {H : Hp} {D : Addr} {kvs : List (Key × V)} {names : List Str} {Q : VK} (hi : σ[i]? = some (some (.ref D))) (hD : H D = some (.dK kvs)) (hn : kvs.map (·.1) = names.map Sum.inr) (sm : kvs.length ≤ 1000) (hij : i ≠ j) (lj : j < σ.length)
    (k : ∀ c, H c = none → Q (.ref c) (upd H c (.lst (names.map V.str)))) : tLockE (tLc (iKeys (tVar i)) (gName j) tYes (tVar j) [j]) σ H Q := by
  have ln : kvs.length = names.length := by
    have := congrArg List.length hn
    rwa [List.length_map, List.length_map] at this
  refine ⟨D, _, hD, trivial, fun od => ⟨_, hi, D, od, rfl, .inl ⟨_, upd_same, fun c hc => ?_⟩⟩⟩
  have nc : c ≠ D := fun z => by
    rw [z, upd_same] at hc; cases hc
  have hc0 : H c = none := by rwa [upd_ne nc] at hc
  have eD : ∀ n, (upd (upd H D (.frz od (.dK kvs))) c (.lst ((names.take n).map V.str))) D = some (.frz od (.dK kvs)) := fun n => by rw [upd_ne nc.symm, upd_same]
  refine lcB_it (n := kvs.length) walk_keys (fun n G => G = upd (upd H D (.frz od (.dK kvs))) c (.lst ((names.take n).map V.str))) rfl (fun n G _ e => by rw [e]; exact eD n) (fun n x G G2 hn' y1 y => ?_) (fun G e => ?_)
  · obtain ⟨rfl, k0, v0, h0, rfl⟩ := y
    subst y1
    have h1 := congrArg (fun xs => xs[n]?) hn
    simp only [List.getElem?_map, h0, Option.map_some] at h1
    obtain ⟨z, hz, e⟩ := Option.map_eq_some_iff.mp h1.symm
    subst e
    refine g_one (by simp) lj fun σ2 l2 keep g => yesT ⟨_, g, _, upd_same, ?_, ?_⟩
    · exact small1000 (by rw [List.length_map, List.length_take]; omega)
    · funext w
      by_cases ez : w = c
      · subst ez
        rw [upd_same, upd_same, show names.take (n + 1) = names.take n ++ [z] by rw [List.take_succ, hz]; rfl, List.map_append]
        rfl
      · rw [upd_ne ez, upd_ne ez, upd_ne ez]
  · subst e
    refine ⟨eD _, ?_⟩
    have e1 : upd (upd (upd H D (.frz od (.dK kvs))) c (.lst ((names.take kvs.length).map V.str))) D (.dK kvs) = upd H c (.lst (names.map V.str)) := by
      funext z
      by_cases ez : z = D
      · subst ez
        rw [upd_same, upd_ne nc.symm, hD]
      · rw [upd_ne ez]
        by_cases ec : z = c
        · subst ec
          rw [upd_same, upd_same, ln, List.take_length]
        · rw [upd_ne ec, upd_ne ec, upd_ne ez]
    rw [e1]
    exact k c hc0
/-- the least trees' names -/
theorem LeB.keys {K : PySem.W.Frag} {p q : Addr} {G : Hp} {ks : List Kd} {D : Addr} {kvs : List (Key × V)} (h : LeB K p q G ks D kvs) : ∃ names : List Str, kvs.map (·.1) = names.map Sum.inr ∧ names.length ≤ 300 ∧ ∀ z ∈ names, hasV kvs z := by
  have key : ∀ l : List (Key × V), (∀ kv ∈ l, kv ∈ kvs) → ∃ names : List Str, l.map (·.1) = names.map Sum.inr ∧ ∀ z ∈ names, hasV kvs z := fun l => by
    induction l with
    | nil => exact fun _ => ⟨[], rfl, fun _ hz => by cases hz⟩
    | cons kv l ih =>
      intro hl
      obtain ⟨names, e, hv⟩ := ih fun x hx => hl x (List.mem_cons_of_mem _ hx)
      obtain ⟨name, en, _⟩ := h.key (hl kv (List.mem_cons_self ..))
      refine ⟨name :: names, by rw [List.map_cons, List.map_cons, en, e], fun z hz => ?_⟩
      rcases List.mem_cons.mp hz with rfl | hz
      · have m := hl kv (List.mem_cons_self ..)
        have : (valV kvs (.inr z)).isSome = true := by
          rw [← valV_any, List.any_eq_true]
          exact ⟨kv, m, decide_eq_true en⟩
        exact Option.isSome_iff_exists.mp this
      · exact hv z hz
  obtain ⟨names, e, hv⟩ := key kvs fun _ h => h
  refine ⟨names, e, ?_, hv⟩
  have := congrArg List.length e
  rw [List.length_map, List.length_map] at this
  rw [← this]
  exact h.len
theorem fit_dict0 : Fit (.dict []) := ⟨by decide +kernel, fun _ => rfl, by decide +kernel, by decide +kernel⟩
/-- what sayings are, seen from kinds -/
theorem say_of {ks : List Kd} {kind : Str} {md : List PyData} (h : md.length ≤ 400) (r : runS (ents ks) [kind] md = true) : isSay (ents ks) kind (.tuple md) = true := by
  rw [isSay_tup, r, decide_eq_true h]; rfl
end JF
set_option Elab.async false
set_option linter.all false
set_option maxRecDepth 100000
set_option maxHeartbeats 1000000
namespace JF
open PySem PySem.Spec PyProof PyProof.Rows L2 GxR GA PC
abbrev sLaw : Stmt := topS 43
abbrev nLaw : List Str := ["script", "well", "turn", "kinds", "least", "name", "makers", "values", "word", "words", "k", "value", "new", "title", "other", "small", "kind", "some"]
theorem scLaw : FnScope ["script", "well", "turn", "kinds", "least", "name", "makers", "values", "word", "words", "k", "value", "new", "title", "other", "small", "kind", "some"] ["script"] (defScope sLaw) := ⟨rfl, rfl, rfl, by decide +kernel, rfl, by decide +kernel, by decide +kernel⟩
theorem pg_tupK3 {X : Cx} {K : PySem.W.Frag} {pos : Pos} {es : List Expr} {k : Nat} {t : TGs} {n : Nat} (hK : X.K = K) (hc : X.calm = true) (h : PGs X es t)
    (hn : (assignEach es X.env).length = n := by rfl) (hst : (assignEach es X.env).findIdx? (·.1) = none := by rfl) : PG X (.Tuple es k pos) (gTup K n t) := by
  subst hK
  exact pg_tup hc h hn hst
def spLaw (K : PySem.W.Frag) (T : List Addr) : Sp := fun vs H Q _ => ∃ (a : Addr) (ns : List Int), vs = [.ref a] ∧ SqL K H a (ns.map V.int) ∧ ns.length ≤ 63 ∧ TbOk T H ∧ ∀ H', Q (.bl true) H'
section
variable {P : Program} {w : World} {K : PySem.W.Frag} {mg : Str → Option Value} {base : Heap} {T : List Addr}
theorem ok_law {f aW aD aKs aL aS aB aR aV aT aG c1 c2 : Addr} {fd dW dD dQs dL dS dB dR dV dT dG : FuncData} (F : Fun K "law" "law" sLaw f fd) (B : BI mg) (mr : mg "range" = none) (mmi : mg "min" = none)
    (GW : FnOk P w K mg base CX0 1 aW dW ["script"] (spWell K)) (mW : mg "_law_well" = some (.ref aW)) (kW : PySem.W.keepIn K (.ref aW) = true) (bW : Binds K dW ["script"] [])
    (GD : FnOk P w K mg base CX0 1 aD dD ["well", "many"] spDraw) (mD : mg "_law_draw" = some (.ref aD)) (kD : PySem.W.keepIn K (.ref aD) = true) (bD : Binds K dD ["well", "many"] [])
    (GKs : FnOk P w K mg base CX0 3 aKs dQs ["well"] (spLKs T)) (mKs : mg "_law_kinds" = some (.ref aKs)) (kKs : PySem.W.keepIn K (.ref aKs) = true) (bKs : Binds K dQs ["well"] [])
    (GL : FnOk P w K mg base CX0 1 aL dL ["kinds"] (spLeast K T)) (mL : mg "_law_least" = some (.ref aL)) (kL : PySem.W.keepIn K (.ref aL) = true) (bL : Binds K dL ["kinds"] [])
    (GS : FnOk P w K mg base CX0 3 aS dS ["well", "kinds", "least", "kind", "room"] (spSys K T)) (mS : mg "_law_sayings" = some (.ref aS)) (kS : PySem.W.keepIn K (.ref aS) = true) (bS : Binds K dS ["well", "kinds", "least", "kind", "room"] [])
    (GB : FnOk P w K mg base CX0 2 aB dB ["well", "value", "kinds"] (spBe K T)) (mB : mg "_law_bent" = some (.ref aB)) (kB : PySem.W.keepIn K (.ref aB) = true) (bB : Binds K dB ["well", "value", "kinds"] [])
    (GR : FnOk P w K mg base CX0 3 aR dR ["well", "kinds", "kind", "value"] (spRen K T)) (mR : mg "_law_renamed" = some (.ref aR)) (kR : PySem.W.keepIn K (.ref aR) = true) (bR : Binds K dR ["well", "kinds", "kind", "value"] [])
    (GV : HG.FnG P w K mg base CX0 21 aV dV ["kinds", "kind", "value"] (spVR3 K T)) (mV : mg "_law_value_right" = some (.ref aV)) (kV : PySem.W.keepIn K (.ref aV) = true) (bV : Binds K dV ["kinds", "kind", "value"] [])
    (GT : FnOk P w K mg base (L2.CX P w) 20 aT dT ["kinds", "kind", "thing"] (spTree K T c1 c2)) (mT : mg "is_tree" = some (.ref aT)) (kT : PySem.W.keepIn K (.ref aT) = true) (bT : Binds K dT ["kinds", "kind", "thing"] [])
    (GG : HG.FnG P w K mg base CX0 22 aG dG ["well"] (spLong K T)) (mG : mg "_law_long_right" = some (.ref aG)) (kG : PySem.W.keepIn K (.ref aG) = true) (bG : Binds K dG ["well"] []) :
    HG.FnG P w K mg base CX0 23 f fd ["script"] (spLaw K T) := by
  refine HG.fn_ofG F scLaw (fun vs H Q E h => ?_) (fun cdv A outer s H vs Q E fr hr h => ?_)
  · obtain ⟨a, ns, rfl, _⟩ := h
    rfl
  · obtain ⟨sc, ns, rfl, hS, l63, tb, k⟩ := h
    have hu := hu_of hr
    have hu64 : (A.deeper (envOfC "law" (defScope sLaw) s.heap.objs.size f cdv)).units + 64 < cLine := by
      have := hr.un
      omega
    refine ⟨_, PSs.nox (pss_cons (ps_set (i := 1) scLaw.nd rfl (.inl rfl) (pe_call GW (hr.mono (by decide)) (by rfl) mW kW bW .nil pass0 (pa_cons (pv 0) pa_nil)))
      (pss_cons (ps_for PassesOwn.never rfl (pi_range1 (by rfl) mr (pa_cons pe_int pa_nil)) (pg_name (i := 2) scLaw.nd rfl (.inl rfl)) (pss_cons (ps_set (i := 3) scLaw.nd rfl (.inr rfl) (pe_call GKs (hr.mono (by decide)) (by rfl) mKs kKs bKs .nil pass0 (pa_cons (pv 1) pa_nil)))
      (pss_cons (ps_set (i := 4) scLaw.nd rfl (.inr rfl) (pe_call GL (hr.mono (by decide)) (by rfl) mL kL bL .nil pass0 (pa_cons (pv 3) pa_nil)))
      (pss_cons (ps_for PassesOwn.never rfl (pi_tup (pv 3)) (pg_tupK3 (K := K) rfl rfl (pgs_cons (pg_name (i := 5) scLaw.nd rfl (.inr rfl)) (pgs_cons (pg_name (i := 6) scLaw.nd rfl (.inl rfl)) pgs_nil))) (pss_cons (ps_set (i := 7) scLaw.nd rfl (.inl rfl) (pe_lst (pa_cons (pe_tup pa_nil) (pa_cons (pe_tup (pa_cons (pe_ix (ix_tupJ (K := K) rfl) (pe_ix (ix_tupJ (K := K) rfl) (pv 6) pe_int (fun _ _ => rfl)) pe_int (fun _ _ => rfl)) pa_nil)) (pa_cons (pe_tup (pa_cons (pe_ix (ix_tupJ (K := K) rfl) (pe_ix (ix_tupJ (K := K) rfl) (pv 6) pe_int (fun _ _ => rfl)) pe_int (fun _ _ => rfl)) (pa_cons pe_int pa_nil))) (pa_cons pe_int (pa_cons pe_non (pa_cons (pv 5) (pa_cons (pe_lst (pa_cons (pe_ix (ix_tupJ (K := K) rfl) (pe_ix (ix_tupJ (K := K) rfl) (pv 6) pe_int (fun _ _ => rfl)) pe_int (fun _ _ => rfl)) pa_nil)) (pa_cons pe_dnewK pa_nil))))))))))
      (pss_cons (ps_set (i := 9) scLaw.nd rfl (.inl rfl) (pe_op op_cat (pe_lock (pe_lc (own := [("word", 8)]) (g := gName 8) (tt := tYes) (by rfl) scLaw.nd (pi_keys (pv 4)) (blkOk_by (N := nLaw) (sc := defScope sLaw) (by decide +kernel)) (fun _ _ _ _ _ => pg_name (i := 8) scLaw.nd rfl (.inl rfl)) (fun _ _ _ _ _ => pts_nil) (fun _ _ _ _ _ => (pv 8)))) (pe_lc (own := [("turn", 2)]) (g := gName 2) (by rfl) scLaw.nd (pi_range1 (by rfl) mr (pa_cons pe_int pa_nil)) (blkOk_by (N := nLaw) (sc := defScope sLaw) (by decide +kernel)) (fun _ _ _ _ _ => pg_name (i := 2) scLaw.nd rfl (.inl rfl)) (fun _ _ _ _ _ => pts_one (pt_cmp (pc_din hu (pv 5) (pv 4)) rfl)) (fun _ _ _ _ _ => (pv 5)))))
      (pss_cons (ps_for PassesOwn.never rfl (pi_range1 (by rfl) mr (pa_cons (pe_callB (call_min2 rfl) (by rfl) mmi (by decide +kernel) (pa_cons pe_int (pa_cons (pe_callB call_len_seq (by rfl) B.len PySem.boot_len (pa_cons (pv 9) pa_nil)) pa_nil))) pa_nil)) (pg_name (i := 10) scLaw.nd rfl (.inl rfl)) (pss_cons (ps_set (i := 8) scLaw.nd rfl (.inr rfl) (pe_ix ix_list (pv 9) (pe_call GD (hr.mono (by decide)) (by rfl) mD kD bD .nil pass0 (pa_cons (pv 1) (pa_cons (pe_callB call_len_seq (by rfl) B.len PySem.boot_len (pa_cons (pv 9) pa_nil)) pa_nil))) (fun _ _ => rfl)))
      (pss_cons (ps_set (i := 11) scLaw.nd rfl (.inl rfl) (pe_call GS (hr.mono (by decide)) (by rfl) mS kS bS .nil pass0 (pa_cons (pv 1) (pa_cons (pv 3) (pa_cons (pv 4) (pa_cons (pv 8) (pa_cons (pe_ix ix_list (pe_lst (pa_cons pe_int (pa_cons pe_int (pa_cons pe_int (pa_cons pe_int pa_nil))))) (pv 10) (fun _ _ => rfl)) pa_nil)))))))
      (pss_cons (ps_set (i := 7) scLaw.nd rfl (.inl rfl) (pe_op op_cat (pv 7) (pe_lst (pa_cons (pv 11) (pa_cons (pe_call GB (hr.mono (by decide)) (by rfl) mB kB bB .nil pass0 (pa_cons (pv 1) (pa_cons (pv 11) (pa_cons (pv 3) pa_nil)))) (pa_cons (pe_call GB (hr.mono (by decide)) (by rfl) mB kB bB .nil pass0 (pa_cons (pv 1) (pa_cons (pv 11) (pa_cons (pv 3) pa_nil)))) pa_nil))))))
      (pss_cons (ps_asg (pe_call GR (hr.mono (by decide)) (by rfl) mR kR bR .nil pass0 (pa_cons (pv 1) (pa_cons (pv 3) (pa_cons (pv 5) (pa_cons (pe_ix ix_list (pv 7) (pe_op op_sub (pe_un un_neg pe_int) (pe_call GD (hr.mono (by decide)) (by rfl) mD kD bD .nil pass0 (pa_cons (pv 1) (pa_cons pe_int pa_nil)))) (fun _ _ => rfl)) pa_nil))))) (pg_tupK3 (K := K) rfl rfl (pgs_cons (pg_name (i := 12) scLaw.nd rfl (.inl rfl)) (pgs_cons (pg_name (i := 13) scLaw.nd rfl (.inl rfl)) (pgs_cons (pg_name (i := 14) scLaw.nd rfl (.inl rfl)) pgs_nil)))))
      (pss_cons (ps_if (pt_not (pt_val (HG.pe_callG GV (hr.mono (by decide)) fr (by rfl) mV kV bV (E := fun _ => E0) (fun _ _ _ _ _ _ _ h => h.elim) (pa_cons (pv 12) (pa_cons (pv 13) (pa_cons (pv 14) pa_nil)))))) (pss_one (ps_ret pe_bl)) pss_nil)
      (pss_one (ps_if (PW.pt (pw_and (pt_cmpR op_eq (pv 8) (pv 5) (nomark _)) (pw_and (pt_cmpR op_le (pe_callB call_len_seq (by rfl) B.len PySem.boot_len (pa_cons (pv 11) pa_nil)) pe_int (nomark _)) (pw_and1 (pt_cmpR op_notBl (pe_callS GT (hr.mono (by decide)) (by rfl) mT kT bT (E := fun _ => E0) (fun _ => passN) (pa_cons (pv 3) (pa_cons (pv 5) (pa_cons (pv 11) pa_nil)))) pe_bl (nomark _)))))) (pss_one (ps_ret pe_bl)) pss_nil))))))))
      (pss_one (ps_if (pt_not (pt_val (pe_callB (cr_all rfl) (by rfl) B.all boot_all (pa_cons (pe_lc (own := [("value", 11)]) (g := gName 11) (tt := tYes) (by rfl) scLaw.nd (pi_list (pv 7)) (blkOk_by (N := nLaw) (sc := defScope sLaw) (by decide +kernel)) (fun _ _ _ _ _ => pg_name (i := 11) scLaw.nd rfl (.inl rfl)) (fun _ _ _ _ _ => pts_nil) (fun _ _ _ _ _ => (HG.pe_callG GV (hr.mono (by decide)) fr (by rfl) mV kV bV (E := fun _ => E0) (fun _ _ _ _ _ _ _ h => h.elim) (pa_cons (pv 3) (pa_cons (pv 5) (pa_cons (pv 11) pa_nil)))))) pa_nil)))) (pss_one (ps_ret pe_bl)) pss_nil))))))
      (pss_cons (ps_setLc (i := 15) (own := [("kind", 16)]) (g := gName 16) (by rfl) scLaw.nd rfl rfl (sw_true rfl rfl rfl (by decide +kernel)) (pi_tup (pv 3)) (blkOk_by (N := nLaw) (sc := defScope sLaw) (by decide +kernel)) (fun _ _ _ _ _ => pg_name (i := 16) scLaw.nd rfl (.inl rfl)) (fun _ _ _ _ _ => pts_one (PW.pt (pw_and (pt_cmp (pc_din hu (pe_ix (ix_tupJ (K := K) rfl) (pv 16) pe_int (fun _ _ => rfl)) (pv 4)) rfl) (pw_and1 (pt_cmpR op_lt (pe_ix (ix_tupJ (K := K) rfl) (pe_dget hu (pv 4) (pe_ix (ix_tupJ (K := K) rfl) (pv 16) pe_int (fun _ _ => rfl)) (fun _ _ => rfl)) pe_int (fun _ _ => rfl)) pe_int (nomark _)))))) (fun _ _ _ _ _ => (pe_ix (ix_tupJ (K := K) rfl) (pv 16) pe_int (fun _ _ => rfl))))
      (pss_one (ps_if (pt_cmpR (op_neD hu64) (pv 15) (pe_lst pa_nil) (nomark _)) (pss_cons (ps_set (i := 8) scLaw.nd rfl (.inr rfl) (pe_ix ix_list (pv 15) (pe_call GD (hr.mono (by decide)) (by rfl) mD kD bD .nil pass0 (pa_cons (pv 1) (pa_cons (pe_callB call_len_seq (by rfl) B.len PySem.boot_len (pa_cons (pv 15) pa_nil)) pa_nil))) (fun _ _ => rfl)))
      (pss_cons (ps_set (i := 11) scLaw.nd rfl (.inl rfl) (pe_call GS (hr.mono (by decide)) (by rfl) mS kS bS .nil pass0 (pa_cons (pv 1) (pa_cons (pv 3) (pa_cons (pv 4) (pa_cons (pv 8) (pa_cons pe_int pa_nil)))))))
      (pss_one (ps_if (pt_not (pt_val (pe_callB (cr_all rfl) (by rfl) B.all boot_all (pa_cons (pe_lc (own := [("some", 17)]) (g := gName 17) (tt := tYes) (by rfl) scLaw.nd (pi_list (pe_lst (pa_cons (pv 11) (pa_cons (pe_call GB (hr.mono (by decide)) (by rfl) mB kB bB .nil pass0 (pa_cons (pv 1) (pa_cons (pv 11) (pa_cons (pv 3) pa_nil)))) (pa_cons (pe_slice sl_tupA (pv 11) po_none (po_some pe_int)) (pa_cons (pe_slice sl_tupA (pv 11) po_none (po_some pe_int)) pa_nil)))))) (blkOk_by (N := nLaw) (sc := defScope sLaw) (by decide +kernel)) (fun _ _ _ _ _ => pg_name (i := 17) scLaw.nd rfl (.inl rfl)) (fun _ _ _ _ _ => pts_nil) (fun _ _ _ _ _ => (HG.pe_callG GV (hr.mono (by decide)) fr (by rfl) mV kV bV (E := fun _ => E0) (fun _ _ _ _ _ _ _ h => h.elim) (pa_cons (pv 3) (pa_cons (pv 8) (pa_cons (pv 17) pa_nil)))))) pa_nil)))) (pss_one (ps_ret pe_bl)) pss_nil)))) pss_nil)))))))
      (pss_one (ps_ret (HG.pe_callG GG (hr.mono (by decide)) fr (by rfl) mG kG bG (E := fun _ => E0) (fun _ _ _ _ _ _ _ h => h.elim) (pa_cons (pv 1) pa_nil)))))), ?_⟩
    refine ⟨_, rfl, sc, ns, rfl, hS, l63, fun H1 p q sm np nq hw => ?_⟩
    have nT : ∀ {x : Addr}, H x = none → x ∉ T := fun n z => by
      obtain ⟨ps, e, _⟩ := tb _ z
      rw [n] at e; cases e
    have L1 : Wl T p q 0 H1 := ⟨hw, nT np, nT nq, fun P hP => by
      obtain ⟨ps, e, t⟩ := tb P hP
      exact ⟨ps, off_at (sm _ _ e) (fun z => by rw [z, np] at e; cases e) (fun z => by rw [z, nq] at e; cases e), t⟩⟩
    refine ⟨3, rfl, by decide, by decide, for_it (n := 3) walk_range (fun i σ G => ∃ a2 a3 a4 a5 a6 a7 a8 a9 a10 a11 a12 a13 a14 a15, σ = [some (.ref sc), some (.ref p), a2, a3, a4, a5, a6, a7, a8, a9, a10, a11, a12, a13, a14, a15, none, none] ∧ Wl T p q (100000 * i) G)
      ⟨none, none, none, none, none, none, none, none, none, none, none, none, none, none, rfl, L1⟩ (fun _ _ _ _ _ => trivial) (fun i x σ G G2 hi ⟨a2, a3, a4, a5, a6, a7, a8, a9, a10, a11, a12, a13, a14, a15, eσ, LG⟩ y => ?_) (fun σ G ⟨a2, a3, a4, a5, a6, a7, a8, a9, a10, a11, a12, a13, a14, a15, eσ, LG⟩ => ?_)⟩
    rotate_left
    · subst eσ
      exact ⟨_, rfl, p, q, _, rfl, LG, by omega, fun H2 x L2 => k H2⟩
    obtain ⟨rfl, rfl⟩ := y
    subst eσ
    have hi3 : i < 3 := hi
    refine ⟨_, rfl, p, q, 100000 * i, rfl, LG, by omega, fun G0 a xs ks dr ha pr x0 L0 => ?_⟩
    have KB : KsB K p q G0 a xs ks := ⟨ha, pr, dr.ok⟩
    refine ⟨_, rfl, .ref a, ks, rfl, KB.kat, KB.ok, L0.tbH, fun D kvs H2 fD xD hD lk lo => ?_⟩
    obtain ⟨L2, x2⟩ := L0.ex xD
    have KB := KB.ex L0 x2
    have LB : LeB K p q H2 ks D kvs := ⟨off_any L0 fD hD, lo.to fun _ _ z => sqT_off L2 z, lk⟩
    clear ha pr x0 lo fD hD xD L0 x2
    generalize hb : 100000 * i + 2000 = b at L2
    have hb1 : b ≤ 202000 := by omega
    have ok := KB.ok
    have lx := paired_len KB.pr
    have h6 := ok.h6
    dsimp only
    refine seq_cut (fun σ G => ∃ a2 a5 a6 a7 a8 a9 a10 a11 a12 a13 a14 a15, σ = [some (.ref sc), some (.ref p), a2, some (.ref a), some (.ref D), a5, a6, a7, a8, a9, a10, a11, a12, a13, a14, a15, none, none] ∧ Wl T p q (b + 15000 * 6) G ∧ Ex T (off p q H2) (off p q G)) (fun σ G ⟨a2, a5, a6, a7, a8, a9, a10, a11, a12, a13, a14, a15, eσ, LG, xG⟩ => ?_) (fun rest => ?_)
    · subst eσ
      have KG := KB.ex L2 xG
      have LBG := LB.ex L2 xG
      have pnk : ∀ z ∈ kNames ks, Pn z := fun z hz => any_pn (ok.nm.any _ hz)
      refine ⟨_, rfl, a, rfl, ⟨xs, .inl (.inl (off_un _ _ KG.at'))⟩, fun c hc => ?_⟩
      obtain ⟨LD, xD, eD⟩ := LG.new (o := .lst []) hc
      have nD := off_none (p := p) (q := q) hc
      refine lcB_it (n := xs.length) walk_tup (fun j G' => ∃ us : List Str, off p q G' c = some (.lst (us.map V.str)) ∧ us.length ≤ j ∧ (∀ z ∈ us, hasV kvs z ∧ z ∈ kNames ks) ∧ Wl T p q (b + 15000 * 6) G' ∧ Ex T (off p q G) (off p q G')) ⟨[], eD, Nat.le_refl _, (fun _ h => by cases h), LD, xD⟩ (fun j G' _ ⟨us, eu, lu, hu2, L3, x3⟩ => .inl (.inl (off_un _ _ (KG.ex LG x3).at'))) (fun j x G3 G4 hj ⟨us, eu, lu, hu2, L3, x3⟩ y => ?_) (fun G3 ⟨us, eu, lu, hu2, L3, x3⟩ => ?_)
      · obtain ⟨rfl, hx⟩ := y
        have K3 := KG.ex LG x3
        have B3 := LBG.ex LG x3
        obtain ⟨kd, hkd, b1, b2, ms, rfl, hb1', hb2, pm⟩ := paired_get K3.pr hx
        have hk := List.mem_of_getElem? hkd
        have hj6 : j < 6 := by have := hj; omega
        have hkn : kd.1 ∈ kNames ks := List.mem_map_of_mem hk
        refine g_one (by decide) (by show 16 < 18; decide) fun σ2 l2 keep g => ?_
        refine ⟨_, g, b1, _, _, _, rfl, rfl, .inl (.inl (off_un _ _ hb1')), atI_nat (j := 0) rfl, _, (keep 4 (by decide)).trans rfl, D, _, rfl, DGet.k (k := .inr kd.1) (off_un _ _ B3.at'), ⟨_, rfl, ?_⟩⟩
        cases hv : valV kvs (.inr kd.1) with
        | none => exact iteF ⟨us, eu, by omega, hu2, L3, x3⟩
        | some vv =>
          obtain ⟨v, size, title, fields, ev, le⟩ := B3.ok.get ⟨vv, hv⟩
          obtain ⟨⟨t, vf, rfl, ht, _⟩, _, _⟩ := le
          refine iteT ⟨_, (keep 4 (by decide)).trans rfl, _, g, b1, _, _, _, rfl, rfl, .inl (.inl (off_un _ _ hb1')), atI_nat (j := 0) rfl, D, _, rfl, ev ▸ DGet.k (k := .inr kd.1) (off_un _ _ B3.at'), t, _, _, _, rfl, rfl, sqT_un ht, atI_nat (j := 0) rfl, _, _, rfl, rfl, _, rfl, ?_⟩
          generalize decide (size < 90) = c0
          cases c0 with
          | false => exact iteF ⟨us, eu, by omega, hu2, L3, x3⟩
          | true =>
            obtain ⟨L4, x4, e4, _⟩ := fillW ((us ++ [kd.1]).map V.str) L3 x3 nD eu
            refine iteT ⟨_, g, b1, _, _, _, rfl, rfl, .inl (.inl (off_un _ _ hb1')), atI_nat (j := 0) rfl, us.map V.str, off_un _ _ eu, small1000 (by rw [List.length_map]; omega), us ++ [kd.1], ?_⟩
            rw [show us.map V.str ++ [V.str kd.1] = (us ++ [kd.1]).map V.str by rw [List.map_append]; rfl]
            refine ⟨e4, by rw [List.length_append]; simp; omega, fun z hz => ?_, L4, x4⟩
            rcases List.mem_append.mp hz with hz | hz
            · exact hu2 z hz
            · rw [List.mem_singleton.mp hz]; exact ⟨⟨vv, hv⟩, hkn⟩
      · have xG := xG.trans x3
        clear eD nD LD xD
        dsimp only
        refine ⟨_, rfl, by show 0 ≤ sizeLine; decide, fun o1 ho1 => ?_⟩
        obtain ⟨L4, x4, e4⟩ := L3.new (o := .lst []) ho1
        have eu := L3.keep x4 eu (fun _ z => by cases z)
        have xG := xG.trans x4
        refine ⟨.list (us.map PyData.str), .list [], .lst (.inl (.inl (off_un _ _ eu))) (dp_strs _), .lst (.inl (.inl upd_same)) .nil, strs_shaped (fun z hz => pnk z (hu2 z hz).2), (by decide +kernel), _, rfl, ?_⟩
        cases us with
        | nil =>
          rw [show PyData.eqv (.list (([] : List Str).map PyData.str)) (.list []) = true by decide +kernel]
          exact iteF ⟨_, _, _, _, _, _, _, _, _, _, _, _, _, _, rfl, L4.le (by omega)⟩
        | cons u0 us0 =>
          rw [show PyData.eqv (.list ((u0 :: us0).map PyData.str)) (.list []) = false by simp [PyData.eqv, PyData.eqvAll]]
          refine iteT ?_
          obtain ⟨us, hus⟩ : ∃ us, us = u0 :: us0 := ⟨_, rfl⟩
          rw [← hus] at eu lu hu2
          have lu0 : 0 < us.length := by rw [hus]; exact Nat.succ_pos _
          have lu1 : (us.map V.str).length = us.length := List.length_map ..
          try dsimp only
          refine ⟨_, rfl, _, rfl, _, rfl, c, _, rfl, .inl (.inl (.inl (off_un _ _ eu))), p, q, _, _, rfl, L4.w, by omega, by omega, by omega, fun G5 r r0 r1 kp5 hw5 => ?_⟩
          obtain ⟨L5, x5⟩ := L4.draw kp5 hw5
          have eu := L4.keep x5 eu (fun _ z => by cases z)
          have xG := xG.trans x5
          obtain ⟨wv, ew, mw⟩ := atI_of r0 r1
          obtain ⟨word, hwm, rfl⟩ := List.mem_map.mp mw
          obtain ⟨hwd, hwn⟩ := hu2 word hwm
          have KG := KB.ex L2 xG
          have LBG := LB.ex L2 xG
          refine ⟨c, _, _, _, rfl, rfl, .inl (.inl (off_un _ _ eu)), ew, ?_⟩
          refine ⟨_, rfl, _, rfl, _, rfl, _, rfl, p, q, _, a, xs, ks, D, kvs, word, 300, rfl, L5, by omega, KG.at', KG.pr, ok, LBG.at', LBG.ok, hwd, fun G6 tv wv md ev dv en lm1 lm9 sem x6 L6 => ?_⟩
          have xG := xG.trans x6
          have KG := KB.ex L2 xG
          refine ⟨_, rfl, _, rfl, _, rfl, _, rfl, p, q, _, tv, wv, md, a, xs, ks, rfl, L6, by omega, ev, dv, en, lm1, lm9, KG.at', KG.pr, ok, fun G7 v7 q7 bn7 tw7 d7 x7 L7 => ?_⟩
          have ev := L6.keep x7 ev (fun _ z => by cases z)
          have dv := dv.ex x7 L6.tb
          have xG := xG.trans x7
          refine ⟨_, rfl, _, rfl, sl_any L7 ev fun c8 G8 x8 L8 u8 => ?_⟩
          have ev := L7.keep x8 ev (fun _ z => by cases z)
          have dv := dv.ex x8 L7.tb
          have d7 := d7.ex x8 L7.tb
          have xG := xG.trans x8
          have u8 := u8.trans (congrArg (fun l => some (HO.tup l)) (cutV_to wv 400))
          refine ⟨_, rfl, _, rfl, ?_⟩
          try dsimp only [tNoPart]
          refine sl_any L8 ev fun c9 G9 x9 L9 u9 => ?_
          have ev := L8.keep x9 ev (fun _ z => by cases z)
          have u8 := L8.keep x9 u8 (fun _ z => by cases z)
          have dv := dv.ex x9 L8.tb
          have d7 := d7.ex x9 L8.tb
          have xG := xG.trans x9
          have u9 := u9.trans (congrArg (fun l => some (HO.tup l)) (cutV_to wv 401))
          refine ⟨by show 4 ≤ sizeLine; decide, fun o10 ho10 => ?_⟩
          obtain ⟨L10, x10, e10⟩ := L9.new (o := .lst [.ref tv, v7, .ref c8, .ref c9]) ho10
          have va : VlA K p q G9 [.ref tv, v7, .ref c8, .ref c9] := fun v hv => by
            simp only [List.mem_cons, List.mem_nil_iff, or_false] at hv
            rcases hv with rfl | rfl | rfl | rfl
            · exact ⟨_, .tup ev dv, (Bn.tup (bna_ens (k := 0) en)).fit (by decide) (by omega)⟩
            · exact ⟨_, d7, bn7.fit (by decide) (by decide)⟩
            · exact ⟨_, .tup u8 (dv.take 400), (Bn.tup (bna_ens (k := 0) fun d hd => en d (List.mem_of_mem_take hd))).fit (by decide) (by rw [List.length_take]; omega)⟩
            · exact ⟨_, .tup u9 (dv.take 401), (Bn.tup (bna_ens (k := 0) fun d hd => en d (List.mem_of_mem_take hd))).fit (by decide) (by rw [List.length_take]; omega)⟩
          have va := va.ex L9 x10
          have xG := xG.trans x10
          have KG := KB.ex L2 xG
          generalize hvs : [V.ref tv, v7, .ref c8, .ref c9] = vs at va e10 L10 xG KG ⊢
          have lv : vs.length = 4 := by rw [← hvs]; rfl
          refine ⟨o10, rfl, ⟨vs, .inl (.inl (off_un _ _ e10))⟩, fun c11 hc => ?_⟩
          obtain ⟨LD, xD, eD⟩ := L10.new (o := .lst []) hc
          have nD := off_none (p := p) (q := q) hc
          refine lcB_it (n := vs.length) walk_list (fun j G' => Ex T (off p q _) (off p q G') ∧ Wl T p q _ G' ∧ off p q G' c11 = some (.lst (List.replicate j (.bl true)))) ⟨xD, LD, eD⟩ (fun j G' _ ⟨x', _, _⟩ => .inl (.inl (off_un _ _ (L10.keep x' e10 (fun _ z => by cases z))))) (fun j x G' G2 hj ⟨x', L', e'⟩ y => ?_) (fun G' ⟨x', L', e'⟩ => ?_)
          · obtain ⟨rfl, hx⟩ := y
            obtain ⟨d, rd, ft⟩ := va x (List.mem_of_getElem? hx)
            have KBc := KG.ex L10 x'
            refine g_one (by decide) (by show 17 < 18; decide) fun σ2 _ keep g => yesT ⟨_, (keep 3 (by decide)).trans rfl, _, (keep 8 (by decide)).trans rfl, _, g, .ref a, x, _, ks, word, d, rfl, KBc.rp, KBc.is.1, KBc.is.2, ok, hwn, (rd.ex x' L10.tb).un, ft, L'.tbH, fun G5 x5 => ?_⟩
            obtain ⟨L5, x5⟩ := L'.ex x5
            have e5 := L'.keep x5 e' (fun _ z => by cases z)
            obtain ⟨n1, n2, _⟩ := off_some e5
            exact ⟨List.replicate j (.bl true), off_un _ _ e5, by rw [List.length_replicate]; exact small1000 (by omega), by rw [off_upd n1 n2]; exact (x'.trans x5).upd nD, L5.fill e5, by rw [off_upd n1 n2, upd_same, List.replicate_succ']⟩
          · refine ⟨c11, List.replicate vs.length true, rfl, .inl (.inl (off_un (p := p) (q := q) _ _ (by rw [e', List.map_replicate]))), ⟨_, rfl, ?_⟩⟩
            rw [show (List.replicate vs.length true).all id = true from List.all_eq_true.mpr fun b hb => List.eq_of_mem_replicate hb]
            refine iteF ?_
            exact ⟨_, _, _, _, _, _, _, _, _, _, _, _, _, _, rfl, L'.le (by omega)⟩
    refine ⟨_, rfl, a, rfl, ⟨xs, .inl (.inl (off_un _ _ KB.at'))⟩, for_it (n := xs.length) walk_tup (fun j σ G => ∃ a2 a5 a6 a7 a8 a9 a10 a11 a12 a13 a14 a15, σ = [some (.ref sc), some (.ref p), a2, some (.ref a), some (.ref D), a5, a6, a7, a8, a9, a10, a11, a12, a13, a14, a15, none, none] ∧ Wl T p q (b + 15000 * j) G ∧ Ex T (off p q H2) (off p q G))
      ⟨_, _, _, _, _, _, _, _, _, _, _, _, rfl, L2, Ex.refl⟩ (fun j σ G _ ⟨_, _, _, _, _, _, _, _, _, _, _, _, _, LG, xG⟩ => .inl (.inl (off_un _ _ (KB.ex L2 xG).at'))) (fun j x σ G G2 hj ⟨a2, a5, a6, a7, a8, a9, a10, a11, a12, a13, a14, a15, eσ, LG, xG⟩ y => ?_) (fun σ G ⟨a2, a5, a6, a7, a8, a9, a10, a11, a12, a13, a14, a15, eσ, LG, xG⟩ => ?_)⟩
    rotate_left
    · subst eσ
      exact rest _ _ ⟨_, _, _, _, _, _, _, _, _, _, _, _, rfl, LG.le (by omega), xG⟩
    obtain ⟨rfl, hx⟩ := y
    subst eσ
    have hj6 : j < 6 := by have := hj; omega
    have KG := KB.ex L2 xG
    obtain ⟨kd, hkd, b1, b2, ms, rfl, hb1', hb2, pm⟩ := paired_get KG.pr hx
    have hk := List.mem_of_getElem? hkd
    have lm := paired_len pm
    have m1 := ok.m1 kd hk
    obtain ⟨v0, mk0, hv0, hm0, c1, c2, rfl, hc1, _⟩ := pget pm (show 0 < ms.length by omega)
    have hkn : kd.1 ∈ kNames ks := List.mem_map_of_mem hk
    have hti : isHigh (.str mk0.1) = true := ok.tt.hi _ (List.mem_flatMap.mpr ⟨kd, hk, List.mem_map_of_mem (List.mem_of_getElem? hm0)⟩)
    have hni : isHigh (.str kd.1) = true := ok.nm.hi _ hkn
    refine ⟨b1, _, rfl, .inl (.inl (off_un _ _ hb1')), rfl, _, _, rfl, _, _, rfl, rfl, ?_⟩
    generalize hbj : b + 15000 * j = bj at LG
    have hbj1 : bj ≤ 280000 := by omega
    have xx := xG
    refine ⟨by show 0 ≤ sizeLine; decide, fun t1 ht1 => ?_⟩
    obtain ⟨M1, y1, u1⟩ := LG.new (o := .tup []) ht1
    have hb2 := LG.keep y1 hb2 (fun _ z => by cases z)
    have hc1 := LG.keep y1 hc1 (fun _ z => by cases z)
    have xx := xx.trans y1
    refine ⟨_, rfl, b2, _, _, _, rfl, rfl, .inl (.inl (off_un _ _ hb2)), atI_nat (j := 0) hv0, c1, _, _, _, rfl, rfl, .inl (.inl (off_un _ _ hc1)), atI_nat (j := 0) rfl, by show 1 ≤ sizeLine; decide, fun t2 ht2 => ?_⟩
    obtain ⟨M2, y2, u2⟩ := M1.new (o := .tup [.str mk0.1]) ht2
    have hb2 := M1.keep y2 hb2 (fun _ z => by cases z)
    have hc1 := M1.keep y2 hc1 (fun _ z => by cases z)
    have u1 := M1.keep y2 u1 (fun _ z => by cases z)
    have xx := xx.trans y2
    refine ⟨_, rfl, b2, _, _, _, rfl, rfl, .inl (.inl (off_un _ _ hb2)), atI_nat (j := 0) hv0, c1, _, _, _, rfl, rfl, .inl (.inl (off_un _ _ hc1)), atI_nat (j := 0) rfl, by show 2 ≤ sizeLine; decide, fun t3 ht3 => ?_⟩
    obtain ⟨M3, y3, u3⟩ := M2.new (o := .tup [.str mk0.1, .int 0]) ht3
    have hb2 := M2.keep y3 hb2 (fun _ z => by cases z)
    have hc1 := M2.keep y3 hc1 (fun _ z => by cases z)
    have u1 := M2.keep y3 u1 (fun _ z => by cases z)
    have u2 := M2.keep y3 u2 (fun _ z => by cases z)
    have xx := xx.trans y3
    refine ⟨_, rfl, _, rfl, b2, _, _, _, rfl, rfl, .inl (.inl (off_un _ _ hb2)), atI_nat (j := 0) hv0, c1, _, _, _, rfl, rfl, .inl (.inl (off_un _ _ hc1)), atI_nat (j := 0) rfl, by show 1 ≤ sizeLine; decide, fun t4 ht4 => fun t5 ht5 => ⟨by show 8 ≤ sizeLine; decide, fun o1 ho1 => ?_⟩⟩
    obtain ⟨M4, y4, u4⟩ := M3.new (o := .lst [.str mk0.1]) ht4
    have hb2 := M3.keep y4 hb2 (fun _ z => by cases z)
    have hc1 := M3.keep y4 hc1 (fun _ z => by cases z)
    have u1 := M3.keep y4 u1 (fun _ z => by cases z)
    have u2 := M3.keep y4 u2 (fun _ z => by cases z)
    have u3 := M3.keep y4 u3 (fun _ z => by cases z)
    have xx := xx.trans y4
    obtain ⟨M5, y5, u5⟩ := M4.new (o := .dK []) ht5
    have hb2 := M4.keep y5 hb2 (fun _ z => by cases z)
    have hc1 := M4.keep y5 hc1 (fun _ z => by cases z)
    have u1 := M4.keep y5 u1 (fun _ z => by cases z)
    have u2 := M4.keep y5 u2 (fun _ z => by cases z)
    have u3 := M4.keep y5 u3 (fun _ z => by cases z)
    have u4 := M4.keep y5 u4 (fun _ z => by cases z)
    have xx := xx.trans y5
    obtain ⟨M6, y6, g1⟩ := M5.new (o := .lst [.ref t1, .ref t2, .ref t3, .int 0, .non, .str kd.1, .ref t4, .ref t5]) ho1
    have hb2 := M5.keep y6 hb2 (fun _ z => by cases z)
    have hc1 := M5.keep y6 hc1 (fun _ z => by cases z)
    have u1 := M5.keep y6 u1 (fun _ z => by cases z)
    have u2 := M5.keep y6 u2 (fun _ z => by cases z)
    have u3 := M5.keep y6 u3 (fun _ z => by cases z)
    have u4 := M5.keep y6 u4 (fun _ z => by cases z)
    have u5 := M5.keep y6 u5 (fun _ z => by cases z)
    have xx := xx.trans y6
    have bm : Bn 0 10 (.str mk0.1) := bn_str (any_pn (high_any hti)) (high_len hti)
    have bnn : Bn 0 10 (.str kd.1) := bn_str (any_pn (high_any hni)) (high_len hni)
    have dm : ∀ {G : Hp}, Dx K G (.str mk0.1) (.str mk0.1) := fun {G} => .str _ (Nat.le_trans (high_len hti) (by decide))
    have va : VlA K p q _ [.ref t1, .ref t2, .ref t3, .int 0, .non, .str kd.1, .ref t4, .ref t5] := fun v hv => by
      simp only [List.mem_cons, List.mem_nil_iff, or_false] at hv
      rcases hv with rfl | rfl | rfl | rfl | rfl | rfl | rfl | rfl
      · exact ⟨.tuple [], .tup u1 .nil, (Bn.tup (k := 0) (n := 0) BnA.nil).fit (by decide) (by decide)⟩
      · exact ⟨.tuple [.str mk0.1], .tup u2 (.cons dm .nil), (Bn.tup (BnA.one bm)).fit (by decide) (by decide)⟩
      · exact ⟨.tuple [.str mk0.1, .int 0], .tup u3 (.cons dm (.cons (.int 0) .nil)), (Bn.tup (BnA.cons bm (BnA.one (bn_int (n := 0) (by decide) (by decide))))).fit (by decide) (by decide)⟩
      · exact ⟨_, .int 0, (bn_int (k := 0) (n := 0) (by decide) (by decide)).fit (by decide) (by decide)⟩
      · exact ⟨_, .non, (bn_non (k := 0)).fit (by decide) (by decide)⟩
      · exact ⟨_, .str _ (Nat.le_trans (high_len hni) (by decide)), bnn.fit (by decide) (by decide)⟩
      · exact ⟨.list [.str mk0.1], .lst u4 (.cons dm .nil), (Bn.lst (BnA.one bm)).fit (by decide) (by decide)⟩
      · exact ⟨.dict [], .dic0 u5, fit_dict0⟩
    clear u1 u2 u3 u4 u5 hc1 hb2
    try dsimp only
    have LBc := LB.ex L2 xx
    have KBc := KB.ex L2 xx
    obtain ⟨names, en, ln, hn⟩ := LBc.keys
    refine comp_key0 (i := 4) (j := 8) rfl (off_un _ _ LBc.at') en (by have := LBc.len; omega) (by decide) (by show 8 < 18; decide) fun w1 hw1 => ?_
    obtain ⟨M7, y7, e1⟩ := M6.new (o := .lst (names.map V.str)) hw1
    have g1 := M6.keep y7 g1 (fun _ z => by cases z)
    have va := va.ex M6 y7
    have xx := xx.trans y7
    have LBc := LB.ex L2 xx
    refine ⟨3, rfl, by decide, by decide, fun w2 hw2 => ?_⟩
    obtain ⟨M8, y8, e2⟩ := M7.new (o := .lst []) hw2
    have f2 := off_none (p := p) (q := q) hw2
    refine lcB_it (n := 3) walk_range (fun n G' => ∃ us : List Str, off p q G' w2 = some (.lst (us.map V.str)) ∧ us.length ≤ n ∧ (∀ z ∈ us, hasV kvs z) ∧ Wl T p q bj G' ∧ Ex T (off p q _) (off p q G')) ⟨[], e2, Nat.le_refl _, (fun _ h => by cases h), M8, y8⟩ (fun _ _ _ _ => trivial) (fun n x G3 G4 hn3 ⟨us, eu, lu, hu2, L3, x3⟩ y => ?_) (fun G3 ⟨us, eu, lu, hu2, L3, x3⟩ => ?_)
    · obtain ⟨rfl, rfl⟩ := y
      have hD3 := (LBc.ex M7 x3).at'
      refine g_one (by decide) (by show 2 < 18; decide) fun σ2 l2 keep g2 => ⟨_, (keep 5 (by decide)).trans rfl, _, (keep 4 (by decide)).trans rfl, D, _, rfl, DGet.k (k := .inr kd.1) (off_un _ _ hD3), ⟨_, rfl, ?_⟩⟩
      cases hv : valV kvs (.inr kd.1) with
      | none => exact iteF ⟨us, eu, by omega, hu2, L3, x3⟩
      | some vv =>
        obtain ⟨L4, x4, e4, _⟩ := fillW ((us ++ [kd.1]).map V.str) L3 x3 f2 eu
        have hn3 : n < 3 := hn3
        refine iteT ⟨_, (keep 5 (by decide)).trans rfl, us.map V.str, off_un _ _ eu, small1000 (by rw [List.length_map]; omega), us ++ [kd.1], ?_⟩
        rw [show us.map V.str ++ [V.str kd.1] = (us ++ [kd.1]).map V.str by rw [List.map_append]; rfl]
        refine ⟨e4, by rw [List.length_append]; simp; omega, fun z hz => ?_, L4, x4⟩
        rcases List.mem_append.mp hz with hz | hz
        · exact hu2 z hz
        · rw [List.mem_singleton.mp hz]; exact ⟨vv, hv⟩
    · have e1 := M7.keep x3 e1 (fun _ z => by cases z)
      have g1 := M7.keep x3 g1 (fun _ z => by cases z)
      have va := va.ex M7 x3
      have xx := xx.trans x3
      refine ⟨w1, w2, _, _, rfl, rfl, off_un _ _ e1, off_un _ _ eu, Nat.le_trans (m := 1000) (by rw [List.length_map, List.length_map]; omega) (by decide), fun w3 hw3 => ?_⟩
      obtain ⟨M9, y9, e9⟩ := L3.new (o := .lst ((names.map V.str) ++ (us.map V.str))) hw3
      have g1 := L3.keep y9 g1 (fun _ z => by cases z)
      have va := va.ex L3 y9
      have xx := xx.trans y9
      have hws : ∀ z ∈ names ++ us, hasV kvs z := fun z hz => (List.mem_append.mp hz).elim (hn z) (hu2 z)
      have lws : (names ++ us).length ≤ 303 := by rw [List.length_append]; omega
      obtain ⟨ws, hws0⟩ : ∃ ws, ws = names ++ us := ⟨_, rfl⟩
      have e9 := e9.trans (congrArg (fun l => some (HO.lst l)) (show names.map V.str ++ us.map V.str = ws.map V.str by rw [hws0, List.map_append]))
      rw [← hws0] at hws lws
      dsimp only
      refine seq_cut (fun σ G => ∃ a2 n7 vs a8 a9 a10 a11 a12 a13 a14 a15, σ = [some (.ref sc), some (.ref p), a2, some (.ref a), some (.ref D), some (.str kd.1), some (.ref b2), some (.ref n7), a8, a9, a10, a11, a12, a13, a14, a15, none, none] ∧ Wl T p q (bj + 14000) G ∧ Ex T (off p q H2) (off p q G) ∧ off p q G n7 = some (.lst vs) ∧ VlA K p q G vs ∧ vs.length ≤ 100) (fun σ G ⟨a2, n7, vs, a8, a9, a10, a11, a12, a13, a14, a15, eσ, L7, x7, e7, va, lv⟩ => ?_) (fun rest4 => ?_)
      · subst eσ
        refine ⟨_, rfl, n7, rfl, ⟨vs, .inl (.inl (off_un _ _ e7))⟩, fun c hc => ?_⟩
        obtain ⟨LD, xD, eD⟩ := L7.new (o := .lst []) hc
        have nD := off_none (p := p) (q := q) hc
        have KB7 := KB.ex L2 x7
        refine lcB_it (n := vs.length) walk_list (fun j G' => Ex T (off p q G) (off p q G') ∧ Wl T p q (bj + 14000) G' ∧ off p q G' c = some (.lst (List.replicate j (.bl true)))) ⟨xD, LD, eD⟩ (fun j G' _ ⟨x', _, _⟩ => .inl (.inl (off_un _ _ (L7.keep x' e7 (fun _ z => by cases z))))) (fun j x G' G2 hj ⟨x', L', e'⟩ y => ?_) (fun G' ⟨x', L', e'⟩ => ?_)
        · obtain ⟨rfl, hx⟩ := y
          obtain ⟨d, rd, ft⟩ := va x (List.mem_of_getElem? hx)
          have KBc := KB7.ex L7 x'
          refine g_one (by decide) (by show 11 < 18; decide) fun σ2 _ keep g => yesT ⟨_, (keep 3 (by decide)).trans rfl, _, (keep 5 (by decide)).trans rfl, _, g, .ref a, x, _, ks, kd.1, d, rfl, KBc.rp, KBc.is.1, KBc.is.2, ok, hkn, (rd.ex x' L7.tb).un, ft, L'.tbH, fun G5 x5 => ?_⟩
          obtain ⟨L5, x5⟩ := L'.ex x5
          have e5 := L'.keep x5 e' (fun _ z => by cases z)
          obtain ⟨n1, n2, _⟩ := off_some e5
          exact ⟨List.replicate j (.bl true), off_un _ _ e5, by rw [List.length_replicate]; exact small1000 (by omega), by rw [off_upd n1 n2]; exact (x'.trans x5).upd nD, L5.fill e5, by rw [off_upd n1 n2, upd_same, List.replicate_succ']⟩
        · refine ⟨c, List.replicate vs.length true, rfl, .inl (.inl (off_un (p := p) (q := q) _ _ (by rw [e', List.map_replicate]))), ⟨_, rfl, ?_⟩⟩
          rw [show (List.replicate vs.length true).all id = true from List.all_eq_true.mpr fun b hb => List.eq_of_mem_replicate hb]
          refine iteF ?_
          exact ⟨_, _, _, _, _, _, _, _, _, _, _, _, rfl, L'.le (by omega), x7.trans x'⟩
      · have h4 : (if ((ws.map V.str).length : Int) < 4 then ((ws.map V.str).length : Int) else 4).toNat ≤ 4 := by split <;> omega
        have h5 : (if ((ws.map V.str).length : Int) < 4 then ((ws.map V.str).length : Int) else 4).toNat ≤ ws.length := by rw [List.length_map]; split <;> omega
        refine ⟨_, rfl, w3, _, rfl, .inl (.inl (.inl (off_un _ _ e9))), _, _, rfl, _, rfl, by split <;> omega, by split <;> omega, for_it walk_range (fun t σ G => ∃ a2 n7 vs a8 a10 a11 a12 a13 a14 a15, σ = [some (.ref sc), some (.ref p), a2, some (.ref a), some (.ref D), some (.str kd.1), some (.ref b2), some (.ref n7), a8, some (.ref w3), a10, a11, a12, a13, a14, a15, none, none] ∧ Wl T p q (bj + 3500 * t) G ∧ Ex T (off p q H2) (off p q G) ∧ off p q G n7 = some (.lst vs) ∧ VlA K p q G vs ∧ vs.length ≤ 8 + 3 * t ∧ off p q G w3 = some (.lst (ws.map V.str)))
          ⟨_, o1, _, _, _, _, _, _, _, _, rfl, M9, xx, g1, va, Nat.le_refl _, e9⟩ (fun _ _ _ _ _ => trivial) (fun t x σ G G2 ht ⟨a2, n7, vs, a8, a10, a11, a12, a13, a14, a15, eσ, LG, xG, e7, va, lv, e9⟩ y => ?_) (fun σ G ⟨a2, n7, vs, a8, a10, a11, a12, a13, a14, a15, eσ, LG, xG, e7, va, lv, e9⟩ => ?_)⟩
        · obtain ⟨rfl, rfl⟩ := y
          subst eσ
          have ht4 : t < 4 := Nat.lt_of_lt_of_le ht h4
          have hw0 : 0 < ws.length := Nat.lt_of_lt_of_le (Nat.lt_of_le_of_lt (Nat.zero_le _) ht) h5
          have lw0 : (ws.map V.str).length = ws.length := List.length_map ..
          refine ⟨_, rfl, _, rfl, _, rfl, w3, _, rfl, .inl (.inl (.inl (off_un _ _ e9))), p, q, _, _, rfl, LG.w, by omega, by omega, by omega, fun G3 r r0 r1 kp3 hw3' => ?_⟩
          obtain ⟨L3, x3⟩ := LG.draw kp3 hw3'
          have e7 := LG.keep x3 e7 (fun _ z => by cases z)
          have e9 := LG.keep x3 e9 (fun _ z => by cases z)
          have va := va.ex LG x3
          have xG := xG.trans x3
          obtain ⟨wv, ew, mw⟩ := atI_of r0 r1
          obtain ⟨word, hwm, rfl⟩ := List.mem_map.mp mw
          refine ⟨w3, _, _, _, rfl, rfl, .inl (.inl (off_un _ _ e9)), ew, ?_⟩
          refine ⟨_, rfl, _, rfl, _, rfl, _, rfl, by show 4 ≤ sizeLine; decide, fun o2 ho2 => ?_⟩
          obtain ⟨L4, x4, e4⟩ := L3.new (o := .lst [.int 2, .int 12, .int 60, .int 5]) ho2
          have e7 := L3.keep x4 e7 (fun _ z => by cases z)
          have e9 := L3.keep x4 e9 (fun _ z => by cases z)
          have va := va.ex L3 x4
          have xG := xG.trans x4
          obtain ⟨vr, er, mr0⟩ := atI_of (xs := [.int 2, .int 12, .int 60, .int 5]) (r := 0 + (t : Int)) (by omega) (by show _ < (4 : Int); omega)
          obtain ⟨room, rfl⟩ : ∃ room : Int, vr = .int room := by
            simp only [List.mem_cons, List.mem_nil_iff, or_false] at mr0
            rcases mr0 with rfl | rfl | rfl | rfl <;> exact ⟨_, rfl⟩
          have KG := KB.ex L2 xG
          have LBG := LB.ex L2 xG
          refine ⟨_, rfl, o2, _, _, _, rfl, rfl, .inl (.inl (off_un _ _ e4)), er, p, q, _, a, xs, ks, D, kvs, word, room, rfl, L4, by omega, KG.at', KG.pr, ok, LBG.at', LBG.ok, hws word hwm, fun G5 tv wv md ev dv en lm1 lm9 sem x5 L5 => ?_⟩
          have e7 := L4.keep x5 e7 (fun _ z => by cases z)
          have e9 := L4.keep x5 e9 (fun _ z => by cases z)
          have va := va.ex L4 x5
          have xG := xG.trans x5
          have KG := KB.ex L2 xG
          refine ⟨_, rfl, _, rfl, _, rfl, _, rfl, _, rfl, p, q, _, tv, wv, md, a, xs, ks, rfl, L5, by omega, ev, dv, en, lm1, lm9, KG.at', KG.pr, ok, fun G6 v6 q6 bn6 tw6 d6 x6 L6 => ?_⟩
          have e7 := L5.keep x6 e7 (fun _ z => by cases z)
          have e9 := L5.keep x6 e9 (fun _ z => by cases z)
          have ev := L5.keep x6 ev (fun _ z => by cases z)
          have dv := dv.ex x6 L5.tb
          have va := va.ex L5 x6
          have xG := xG.trans x6
          have KG := KB.ex L2 xG
          refine ⟨_, rfl, _, rfl, _, rfl, p, q, _, tv, wv, md, a, xs, ks, rfl, L6, by omega, ev, dv, en, lm1, lm9, KG.at', KG.pr, ok, fun G7 v7 q7 bn7 tw7 d7 x7 L7 => ?_⟩
          have e7 := L6.keep x7 e7 (fun _ z => by cases z)
          have e9 := L6.keep x7 e9 (fun _ z => by cases z)
          have ev := L6.keep x7 ev (fun _ z => by cases z)
          have dv := dv.ex x7 L6.tb
          have d6 := d6.ex x7 L6.tb
          have va := va.ex L6 x7
          have xG := xG.trans x7
          refine ⟨by show 3 ≤ sizeLine; decide, fun o8 ho8 => ?_⟩
          obtain ⟨L8, x8, e8⟩ := L7.new (o := .lst [.ref tv, v6, v7]) ho8
          have e7 := L7.keep x8 e7 (fun _ z => by cases z)
          have e9 := L7.keep x8 e9 (fun _ z => by cases z)
          have ev := L7.keep x8 ev (fun _ z => by cases z)
          have dv := dv.ex x8 L7.tb
          have d6 := d6.ex x8 L7.tb
          have d7 := d7.ex x8 L7.tb
          have va := va.ex L7 x8
          have xG := xG.trans x8
          refine ⟨n7, o8, _, _, rfl, rfl, off_un _ _ e7, off_un _ _ e8, Nat.le_trans (m := 1000) (by show _ + 3 ≤ 1000; omega) (by decide), fun o9 ho9 => ?_⟩
          obtain ⟨L9, x9, e10⟩ := L8.new (o := .lst (vs ++ [.ref tv, v6, v7])) ho9
          have e7 := L8.keep x9 e7 (fun _ z => by cases z)
          have e9 := L8.keep x9 e9 (fun _ z => by cases z)
          have ev := L8.keep x9 ev (fun _ z => by cases z)
          have dv := dv.ex x9 L8.tb
          have d6 := d6.ex x9 L8.tb
          have d7 := d7.ex x9 L8.tb
          have va := va.ex L8 x9
          have xG := xG.trans x9
          have va : VlA K p q _ (vs ++ [.ref tv, v6, v7]) := va.app fun v hv => by
            simp only [List.mem_cons, List.mem_nil_iff, or_false] at hv
            rcases hv with rfl | rfl | rfl
            · exact ⟨_, .tup ev dv, (Bn.tup (bna_ens (k := 0) en)).fit (by decide) (by omega)⟩
            · exact ⟨_, d6, bn6.fit (by decide) (by decide)⟩
            · exact ⟨_, d7, bn7.fit (by decide) (by decide)⟩
          try dsimp only
          refine ⟨_, rfl, _, rfl, _, rfl, _, rfl, _, rfl, _, rfl, p, q, _, 3, rfl, L9.w, by decide, by decide, by omega, fun G10 r2 r20 r21 kp10 hw10 => ?_⟩
          obtain ⟨L10, x10⟩ := L9.draw kp10 hw10
          have e10 := L9.keep x10 e10 (fun _ z => by cases z)
          have e9 := L9.keep x10 e9 (fun _ z => by cases z)
          have ev := L9.keep x10 ev (fun _ z => by cases z)
          have dv := dv.ex x10 L9.tb
          have d6 := d6.ex x10 L9.tb
          have d7 := d7.ex x10 L9.tb
          have va := va.ex L9 x10
          have xG := xG.trans x10
          have KG := KB.ex L2 xG
          obtain ⟨vA, eA, dA, DA, bA, tA⟩ : ∃ vA, atI (vs ++ [.ref tv, v6, v7]) (-1 - r2) = some vA ∧ ∃ dA, Dx K (off p q G10) vA dA ∧ Bn 3 130000 dA ∧ Tw dA := by
            obtain ⟨r3, rfl⟩ := Int.eq_ofNat_of_zero_le r20
            have hl : (vs ++ [V.ref tv, v6, v7]).length = vs.length + 3 := by simp
            have hr3 : r3 < 3 := by omega
            have hx : ixN (vs ++ [V.ref tv, v6, v7]).length (-1 - (r3 : Int)) = some (vs.length + (2 - r3)) := by
              unfold ixN
              rw [hl, if_neg (by omega), if_pos (by omega)]
              exact congrArg some (by omega)
            unfold atI
            rw [hx]
            show ∃ vA, (vs ++ [V.ref tv, v6, v7])[vs.length + (2 - r3)]? = some vA ∧ _
            rw [List.getElem?_append_right (by omega), Nat.add_sub_cancel_left]
            match r3, hr3 with
            | 0, _ => exact ⟨_, rfl, _, d7, bn7, tw7⟩
            | 1, _ => exact ⟨_, rfl, _, d6, bn6, tw6⟩
            | 2, _ => exact ⟨_, rfl, _, .tup ev dv, (Bn.tup (bna_ens (k := 0) en)).le (by decide) (by omega), tw_of (by omega)⟩
          refine ⟨_, _, rfl, rfl, o9, _, _, _, rfl, rfl, .inl (.inl (off_un _ _ e10)), eA, p, q, _, a, xs, ks, kd.1, vA, dA, rfl, L10, by omega, KG.at', KG.pr, ok, hkn, DA, bA, tA, fun G11 t11 a' xs' ks' kind' v' d' et ea' pr' ok' kn' dv' bn' x11 L11 => ?_⟩
          have xG := xG.trans x11
          have e10 := L10.keep x11 e10 (fun _ z => by cases z)
          have e9 := L10.keep x11 e9 (fun _ z => by cases z)
          have ev := L10.keep x11 ev (fun _ z => by cases z)
          have dv := dv.ex x11 L10.tb
          have va := va.ex L10 x11
          refine ⟨t11, _, rfl, .inl (.inl (off_un _ _ et)), rfl, _, _, rfl, _, _, rfl, _, _, rfl, rfl, ?_⟩
          have KN : KsB K p q G11 a' xs' ks' := ⟨ea', pr', ok'⟩
          dsimp only
          refine seq_cut (fun σ G => ∃ a2 a15, σ = [some (.ref sc), some (.ref p), a2, some (.ref a), some (.ref D), some (.str kd.1), some (.ref b2), some (.ref o9), some (.str word), some (.ref w3), some (.int (0 + (t : Int))), some (.ref tv), some (.ref a'), some (.str kind'), some v', a15, none, none] ∧ Wl T p q (bj + 3500 * (t + 1)) G ∧ Ex T (off p q G11) (off p q G)) (fun σ G ⟨a2, a15, eσ, L12, x12⟩ => ?_) (fun rest5 => ?_)
          rotate_left
          · refine ⟨_, rfl, _, rfl, _, rfl, .ref a', v', _, ks', kind', d', rfl, KN.rp, KN.is.1, KN.is.2, ok', kn', dv'.un, bn'.fit (by decide) (by decide), L11.tbH, fun G12 x12 => ⟨_, rfl, ?_⟩⟩
            obtain ⟨L12, x12⟩ := L11.ex x12
            exact iteF (rest5 _ _ ⟨_, _, rfl, L12.le (by omega), x12⟩)
          subst eσ
          have xG := xG.trans x12
          have e10 := L11.keep x12 e10 (fun _ z => by cases z)
          have e9 := L11.keep x12 e9 (fun _ z => by cases z)
          have ev := L11.keep x12 ev (fun _ z => by cases z)
          have dv := dv.ex x12 L11.tb
          have va := va.ex L11 x12
          have KG := KB.ex L2 xG
          have lwv := dv.len
          have lvs : (vs ++ [V.ref tv, v6, v7]).length = vs.length + 3 := by simp
          by_cases hw : word = kd.1
          · refine ⟨_, rfl, _, rfl, rfl, true, congrArg V.bl (decide_eq_true (congrArg V.str hw)), iteT ⟨_, rfl, tv, wv, rfl, .inr (.inl (.inl (off_un _ _ ev))), _, _, rfl, rfl, decide ((wv.length : Int) ≤ 400), rfl, ?_⟩⟩
            by_cases hl : md.length ≤ 400
            · rw [decide_eq_true (show (wv.length : Int) ≤ 400 by omega)]
              have kl : kd.1.length ≤ 65536 := Nat.le_trans (high_len hni) (by decide)
              have ikn : isKindName (kindsOf (bare (dKs ks))) (.str kd.1) = some kd.1 := by
                rw [kindsOf_bare, kindsOf_dKs]
                show (if kd.1 ∈ kNames ks then some kd.1 else none) = _
                rw [if_pos hkn]
              refine iteT ⟨_, rfl, _, rfl, _, rfl, .ref a, .str kd.1, .ref tv, bare (dKs ks), .str kd.1, _, rfl, KG.rp, .str _ kl, (Dx.tup ev dv).un.rp, L12.tbH, fun e => (by rw [KG.is.1] at e; cases e), fun _ e => (by rw [ikn] at e; cases e), fun z _ ez G13 x13 => ?_⟩
              rw [ikn] at ez
              cases ez
              rw [kindsOf_bare, kindsOf_dKs, isSay_bare, say_of hl (hw ▸ sem hl)]
              obtain ⟨L13, x13⟩ := L12.ex x13
              refine ⟨_, _, rfl, rfl, false, rfl, iteF ?_⟩
              exact ⟨_, _, _, _, _, _, _, _, _, _, rfl, L13, xG.trans x13, L12.keep x13 e10 (fun _ z => by cases z), va.ex L12 x13, by omega, L12.keep x13 e9 (fun _ z => by cases z)⟩
            · rw [decide_eq_false (show ¬ (wv.length : Int) ≤ 400 by omega)]
              exact iteF (iteF ⟨_, _, _, _, _, _, _, _, _, _, rfl, L12, xG, e10, va, by omega, e9⟩)
          · refine ⟨_, rfl, _, rfl, rfl, false, congrArg V.bl (decide_eq_false fun z => hw (by cases z; rfl)), iteF (iteF ?_)⟩
            exact ⟨_, _, _, _, _, _, _, _, _, _, rfl, L12, xG, e10, va, by omega, e9⟩
        · subst eσ
          exact rest4 _ _ ⟨_, n7, vs, _, _, _, _, _, _, _, _, rfl, LG.le (by omega), xG, e7, va, by omega⟩
end
end JF
set_option Elab.async false
set_option linter.all false
set_option maxRecDepth 100000
set_option maxHeartbeats 4000000
/-! the end of a law whose promise asks that no repr is under way -/
namespace EG
open PySem PySem.Spec PyProof.Rows L2
section
variable {K : PySem.W.Frag} {g : Heap} {a : Addr} {vs : List Value} {ns : List Int} {tbs : List Addr}
/-- the script, unless it is written, and the tables -/
def trk (K : PySem.W.Frag) (tbs : List Addr) (a : Addr) (vs : List Value) (ns : List Int) : Hp := fun b =>
  if b ∈ tbs then some (.tbl #[]) else if b = a ∧ K.lookup a = none then some (.frz { cls := .type "list", data := .seq vs.toArray } (.lst (ns.map V.int))) else none
theorem trk_tab {b : Addr} (h : b ∈ tbs) : trk K tbs a vs ns b = some (.tbl #[]) := if_pos h
theorem trk_some {b : Addr} {u : HO} (h : trk K tbs a vs ns b = some u) : (b ∈ tbs ∧ u = .tbl #[]) ∨ (b = a ∧ K.lookup a = none ∧ u = .frz { cls := .type "list", data := .seq vs.toArray } (.lst (ns.map V.int))) := by
  unfold trk at h
  by_cases m : b ∈ tbs
  · rw [if_pos m] at h
    exact .inl ⟨m, (Option.some.inj h).symm⟩
  · rw [if_neg m] at h
    by_cases e : b = a ∧ K.lookup a = none
    · rw [if_pos e] at h
      exact .inr ⟨e.1, e.2, (Option.some.inj h).symm⟩
    · rw [if_neg e] at h
      cases h
end
theorem call_g {P : Program} {w : World} {K : PySem.W.Frag} {mg mb : Str → Option Value} {k : Nat} {fa a : Addr} {cs : List (Addr × Addr)} {fd : FuncData} {x : Str} {sp : Sp} {t : Shared} {vs : List Value} {ns : List Int}
    (inK : K.In t.heap) (gl : t.heap.Ns mainGlobals mg) (bl : t.heap.Ns builtinsNs mb) (bb : ∀ y : Str, y ≠ "__name__" → mb y = bootBuiltins y) (nl : t.heap.NoLimit) (ng : t.gens = #[])
    (tabE : ∀ c ∈ cs, t.heap.get? c.2 = some { cls := .none, data := .fields #[] }) (tabK : ∀ c ∈ cs, K.lookup c.2 = none) (tabC : ∀ c ∈ cs, PySem.W.CodeHd t.heap c.1 c.2)
    (bm : ∃ (m : Addr) (o : Obj), mg "__builtins__" = some (.ref m) ∧ m ≠ builtinsNs ∧ t.heap.get? m = some o ∧ o.cls = .type "module" ∧ o.dict = some builtinsNs ∧ o.data = .plain)
    (at' : t.heap.get? a = some { cls := .type "list", data := .seq vs.toArray }) (are : IntsAre vs ns) (few : ns.length ≤ sizeLine) (room : Room k callerA)
    (F : ∀ base : Heap, K.In base → base.Ns mainGlobals mg → (∀ c ∈ cs, GxR.TabB base mg c.1 c.2) → HG.FnG P w K mg base CX0 k fa fd [x] sp) (bnd : ∀ (u : Shared) (v : Value), BindsTo u fd ⟨[v], []⟩ [(x, v)])
    (ask : ∀ H : Hp, (∀ c ∈ cs, H c.2 = some (.tbl #[])) → SqL K H a (ns.map V.int) → sp [.ref a] H (fun v _ => v = .bl true) fun _ _ _ => False) :
    codeAny (model P w) callerA (.call (.ref fa) ⟨[.ref a], []⟩) (fun r t' => r = .ok (.ret (.bool true)) ∧ OldK t.heap t'.heap ∧ t'.os = t.os ∧ AllBare t'.gens) t := by
  have rel := vals_ints are
  have emp : ∀ b ∈ cs.map Prod.snd, t.heap.get? b = some { cls := .none, data := .fields #[] } := fun b m => by
    obtain ⟨c, hc, rfl⟩ := List.mem_map.mp m
    exact tabE c hc
  have low : ∀ c ∈ cs, c.2 ∈ cs.map Prod.snd := fun c hc => List.mem_map_of_mem hc
  have aOut : a ∉ cs.map Prod.snd := fun m => by
    have e := emp a m
    rw [at'] at e
    have d : (Data.seq vs.toArray : Data) = Data.fields #[] := congrArg Obj.data (Option.some.inj e)
    cases d
  have tabN : ∀ b ∈ cs.map Prod.snd, K.lookup b = none := fun b m => by
    obtain ⟨c, hc, rfl⟩ := List.mem_map.mp m
    exact tabK c hc
  -- what is tracked
  have seq : SqL K (trk K (cs.map Prod.snd) a vs ns) a (ns.map V.int) := by
    cases e : K.lookup a with
    | none => exact .inl (.inr ⟨_, (if_neg aOut).trans (if_pos ⟨rfl, e⟩)⟩)
    | some o =>
      have e2 := inK a o e
      rw [at'] at e2
      cases e2
      exact .inr ⟨_, vs.toArray, _, e, rfl, rfl, rfl, by rw [List.size_toArray, are.length]; exact few, by simpa using rel⟩
  have hok : HOk P w (trk K (cs.map Prod.snd) a vs ns) t.heap := fun b u e => by
    rcases trk_some e with ⟨m, rfl⟩ | ⟨rfl, _, rfl⟩
    · exact emp b m
    · exact ⟨at', by rw [List.length_map]; exact few, vs, _, rel, at'⟩
  have bare : ∀ {b : Addr} {o : Obj}, t.heap.get? b = some o → (∀ its n, o.data ≠ .seq its n) → o.data ≠ .fields #[] → trk K (cs.map Prod.snd) a vs ns b = none := fun {b o} e n1 n2 => by
    cases q : trk K (cs.map Prod.snd) a vs ns b with
    | none => rfl
    | some u =>
      rcases trk_some q with ⟨m, _⟩ | ⟨rfl, _, _⟩
      · rw [emp b m] at e
        cases e
        exact absurd rfl n2
      · rw [at'] at e
        cases e
        exact absurd rfl (n1 _ _)
  have hid : ∀ {b : Addr} {o : Obj}, t.heap.get? b = some o → trk K (cs.map Prod.snd) a vs ns b = none → (hidT t.heap (trk K (cs.map Prod.snd) a vs ns)).get? b = some o := fun e n => hidT_get e n
  have dct : ∀ {b : Addr} {f : Str → Option Value}, t.heap.Ns b f → (hidT t.heap (trk K (cs.map Prod.snd) a vs ns)).Ns b f := fun {b f} ⟨o, es, n, e, d, r⟩ =>
    ⟨o, es, n, hid e (bare e (fun _ _ z => by rw [d] at z; cases z) fun z => by rw [d] at z; cases z), d, r⟩
  have inB : K.In (hidT t.heap (trk K (cs.map Prod.snd) a vs ns)) := fun b o e => hid (inK b o e) (by
    cases q : trk K (cs.map Prod.snd) a vs ns b with
    | none => rfl
    | some u =>
      rcases trk_some q with ⟨m, _⟩ | ⟨rfl, n, _⟩
      · rw [tabN b m] at e
        cases e
      · rw [n] at e
        cases e)
  have mod : L2.Mod K mg (hidT t.heap (trk K (cs.map Prod.snd) a vs ns)) := ⟨inB, dct gl, ⟨mb, dct bl, bb⟩, let ⟨mc, h1, h2⟩ := nl; ⟨mc, dct h1, h2⟩⟩
  have tb : ∀ c ∈ cs, GxR.TabB (hidT t.heap (trk K (cs.map Prod.snd) a vs ns)) mg c.1 c.2 := fun c hc => by
    refine ⟨?_, ?_, fun z => ?_⟩
    · obtain ⟨o, us, fl, tf, fg, tg, inF, tx, tt, e1, r1, r2, r3, r⟩ := tabC c hc
      exact ⟨o, us, fl, tf, fg, tg, inF, tx, tt, hid e1 (bare e1 (fun _ _ z => by rw [r2] at z; cases z) fun z => by rw [r2] at z; cases z; simp at r3), r1, r2, r3, r⟩
    · obtain ⟨m, o, h1, h2, h3, h4, h5, h6⟩ := bm
      refine ⟨m, o, h1, h2, fun z => ?_, fun z => ?_, hid h3 (bare h3 (fun _ _ z => by rw [h6] at z; cases z) fun z => by rw [h6] at z; cases z), h4, h5, h6⟩
      · obtain ⟨o2, es, n, e, d, _⟩ := gl
        rw [z, e] at h3
        cases h3
        rw [d] at h6
        cases h6
      · rw [z, tabE c hc] at h3
        cases h3
        cases h6
    · obtain ⟨o2, es, n, e, d, _⟩ := gl
      rw [z, tabE c hc] at e
      cases e
      cases d
  have env : Env0 P w K mg (hidT t.heap (trk K (cs.map Prod.snd) a vs ns)) callerA [] t (trk K (cs.map Prod.snd) a vs ns) :=
    ⟨rfl, mod, fun b o e => of_hidT e, Nat.le_of_eq (hidT_size _ _), trivial, fun b m => absurd (show b ∈ ([] : List Addr) from m) List.not_mem_nil, hok, .of_eq ng⟩
  refine codeAny_mono ((F _ inB (dct gl) tb).run callerA [] t _ ⟨[.ref a], []⟩ [.ref a] [.ref a] _ _ ⟨room, rfl⟩ env (bnd t (.ref a)) (.cons rfl .nil) (ask _ (fun c hc => trk_tab (low c hc)) seq)) fun r t' h => ?_
  match r, h with
  | .error e, h => exact False.elim h
  | .ok .next, h => exact False.elim h
  | .ok .brk, h => exact False.elim h
  | .ok .cont, h => exact False.elim h
  | .ok (.ret u), ⟨v, G, os, ba, un, hokG, rv, q⟩ =>
    have q : v = .bl true := q
    subst q
    obtain rfl : u = Value.bool true := rv
    have old : ∀ b o, b ∉ cs.map Prod.snd → t.heap.get? b = some o → t'.heap.get? b = some o := fun b o nb e => by
      cases q : trk K (cs.map Prod.snd) a vs ns b with
      | none => exact un.keep b o e q (by intro z; exact absurd (show b ∈ ([] : List Addr) from z) (by simp)) (by simp)
      | some u =>
        rcases trk_some q with ⟨m, _⟩ | ⟨_, _, rfl⟩
        · exact absurd m nb
        · obtain ⟨e1, _⟩ := hok b _ q
          obtain ⟨e2, _⟩ := hokG b _ (un.frzs b _ _ q)
          rw [e] at e1
          cases e1
          exact e2
    have grew : ∀ c ∈ cs, ∃ more : Array Value, t'.heap.get? c.2 = some { cls := .none, data := .fields more } := fun c hc => by
      obtain ⟨more, z⟩ := un.tbls c.2 #[] (trk_tab (low c hc))
      exact ⟨_, hokG c.2 _ z⟩
    refine ⟨rfl, ⟨fun b o e => ?_, fun b o e => ?_⟩, os, ba⟩
    · by_cases m : b ∈ cs.map Prod.snd
      · obtain ⟨c, hc, rfl⟩ := List.mem_map.mp m
        obtain ⟨more, hm⟩ := grew c hc
        rw [tabE c hc] at e
        cases e
        exact .inr (.inl ⟨((tabC c hc).tab (tabE c hc)).isCodeTable, rfl, #[], more, rfl, by rw [Array.empty_append]; exact hm⟩)
      · exact .inl (old b o m e)
    · by_cases m : b ∈ cs.map Prod.snd
      · obtain ⟨c, hc, rfl⟩ := List.mem_map.mp m
        obtain ⟨more, hm⟩ := grew c hc
        exact ⟨_, hm⟩
      · exact ⟨o, old b o m e⟩
/-- what a law's end wants at the heap h that the head leaves -/
def Kept (l : PySem.W.OpenLaw) (w : World) (K : PySem.W.Frag) (k n : Nat) (x : Str) (mg : Str → Option Value) (fa : Addr) (h : Heap) : Prop :=
  ∃ (fd : FuncData) (cs : List (Addr × Addr)) (sp : Sp), ((∀ c ∈ cs, h.get? c.2 = some { cls := .none, data := .fields #[] }) ∧ (∀ c ∈ cs, K.lookup c.2 = none) ∧ ∀ c ∈ cs, PySem.W.CodeHd h c.1 c.2) ∧ (∀ (u : Shared) (v : Value), BindsTo u fd ⟨[v], []⟩ [(x, v)]) ∧
    (∀ (H : Hp) (a : Addr) (ns : List Int), ns.length ≤ n → (∀ c ∈ cs, H c.2 = some (.tbl #[])) → SqL K H a (ns.map V.int) → sp [.ref a] H (fun v _ => v = .bl true) fun _ _ _ => False) ∧
    ∀ base : Heap, K.In base → base.Ns mainGlobals mg → (∀ c ∈ cs, GxR.TabB base mg c.1 c.2) → HG.FnG l.prog w K mg base CX0 k fa fd [x] sp
theorem walk_g {l : PySem.W.OpenLaw} {n k : Nat} {q : Program} {loose : List Str} {XP : (Str → Option Value) → Heap → Prop} {YP : World → Heap → Prop} {d : DefRec} {K : Params → PySem.W.Frag} {x : Str}
    (most : l.most = some n) (fits : n ≤ sizeLine) (dfl : d.params.defaults = []) (room : Room k callerA) (inK : ∀ (w : World) (h : Heap), YP w h → (K w.params).In h)
    (F : ∀ (w : World) (mg mb : Str → Option Value) (fa : Addr) (h : Heap) (mean : ExcName → Option Value), Top q (PySem.W.looseW q loose) mean mg mb h → (K w.params).In h → mg d.name = some (.ref fa) → Kept l w (K w.params) k n x mg fa h) :
    PySem.W.WalkO q loose XP YP l.row.toRowW d [] (fun f vs => PySem.call f vs) := by
  refine Att.attach_callB most dfl fun w s₀ t mg mb fa o pm cd doc a vs ns G Y ho hd hcd hmg obj are len _ hg => ?_
  have KX := inK w _ Y
  obtain ⟨fd, cs, sp, ⟨h1, h2, h3⟩, h4, h5, h6⟩ := F w mg mb fa _ _ G.T KX hmg
  exact call_g KX G.T.g G.T.b G.T.builtins G.T.nolimit hg h1 h2 h3 G.T.bmain obj are (Nat.le_trans len fits) room h6 h4 fun H hH hS => h5 H a ns len hH hS
end EG
set_option Elab.async false
set_option linter.all false
set_option maxRecDepth 100000
set_option maxHeartbeats 4000000
/-! the facts of what the top leaves, from one look -/
namespace JF
open PySem PySem.Spec PyProof.Rows L2 GxR GA
section
variable {P : Program} {w : World} {K : PySem.W.Frag} {mg mb : Str → Option Value} {h : Heap}
def dD (x : Str) (st : Stmt) : He.DefD := ⟨(x, none), x, x, defArgs st, defBody st, defScope st, [], []⟩
theorem fun_of {x qual : Str} {st : Stmt} {f : Addr} {fd : FuncData} (F : FunD K x qual (defArgs st) (defBody st) (defScope st) [] [] f fd) : Fun K x qual st f fd := by
  obtain ⟨oc, od, dV, kV, doc, pm, an, cd, ct, sl, e, lk, c, d, _⟩ := F.ex
  rcases d with ⟨_, e2⟩ | ⟨n, _⟩
  · subst e2
    exact ⟨⟨oc, od, kV, doc, pm, an, cd, ct, sl, e, lk, c⟩, F.kp⟩
  · exact absurd rfl n
theorem func_of {x : Str} {st : Stmt} {fd : FuncData} (F : FunD K x x (defArgs st) (defBody st) (defScope st) [] [] (He.ga K x) fd) : FunC K x x st (He.ga K x) fd (He.codeOf K (x, none)) := by
  obtain ⟨oc, od, dV, kV, doc, pm, an, cd, ct, sl, e, lk, c, d, _⟩ := F.ex
  obtain ⟨c0, rfl⟩ := He.codeIn_ref c
  rcases d with ⟨_, e2⟩ | ⟨n, _⟩
  · subst e2
    have e3 : He.codeOf K (x, none) = c0 := He.codeOf_eq (p := (x, none)) (oc := oc) (od := od) (osl := sl) (fd := fd) lk (by rw [e])
    rw [e3]
    exact ⟨⟨oc, od, kV, doc, pm, an, ct, sl, e, lk, c⟩, F.kp⟩
  · exact absurd rfl n
/-- a def of the module -/
structure Dn (K : PySem.W.Frag) (mg : Str → Option Value) (x : Str) (st : Stmt) (fd : FuncData) : Prop where
  m : mg x = some (.ref (He.ga K x))
  F : Fun K x x st (He.ga K x) fd
theorem Dn.k {x : Str} {st : Stmt} {fd : FuncData} (D : Dn K mg x st fd) : PySem.W.keepIn K (.ref (He.ga K x)) = true := D.F.kp
theorem dn_of {fa : List He.Fa} {fn : List He.DefD} (X : K.In h) (G : h.Ns mainGlobals mg) (S : He.SaysD fa fn K) {x : Str} {st : Stmt} (i j : Nat) (hi : fn[i]? = some (dD x st)) (hj : fa[j]? = some (.glo x)) : ∃ fd, Dn K mg x st fd := by
  obtain ⟨fd, F⟩ := S.def_ i hi
  exact ⟨fd, He.glo_ok X G (S.fact j hj), fun_of F⟩
structure Dc (K : PySem.W.Frag) (mg : Str → Option Value) (x : Str) (st : Stmt) (fd : FuncData) : Prop where
  m : mg x = some (.ref (He.ga K x))
  F : FunC K x x st (He.ga K x) fd (He.codeOf K (x, none))
theorem dc_of {fa : List He.Fa} {fn : List He.DefD} (X : K.In h) (G : h.Ns mainGlobals mg) (S : He.SaysD fa fn K) {x : Str} {st : Stmt} (i j : Nat) (hi : fn[i]? = some (dD x st)) (hj : fa[j]? = some (.glo x)) : ∃ fd, Dc K mg x st fd := by
  obtain ⟨fd, F⟩ := S.def_ i hi
  exact ⟨fd, He.glo_ok X G (S.fact j hj), func_of F⟩
def tabNames : List Str := ["reads_as_cell", "is_name", "is_tuple_of", "is_kinds"]
def tabB (K : PySem.W.Frag) : Bool := tabNames.all fun x => decide (PySem.W.tabIn K x = some (He.cT K (x, none))) && (K.lookup (He.cT K (x, none)).2).isNone
end
end JF
set_option Elab.async false
set_option linter.all false
set_option maxRecDepth 100000
set_option maxHeartbeats 8000000
namespace JF
open PySem PySem.Spec PyProof.Rows L2 GxR GA
def fnL : List He.DefD := [dD "is_integer" sIsInteger, dD "is_number" sIsNumber, dD "is_high_name" sHigh, dD "is_field_word" sField, dD "is_pair" sPair, dD "are_fields" sFields,
  dD "is_maker" sMaker, dD "are_makers" sMakers, dD "is_kind" sKind, dD "makers_by_name" sMbn, dD "fields_behind" sFB, dD "are_sayings" sSay,
  dD "is_tree" sTree, dD "_law_well" sWell, dD "_law_draw" sDraw, dD "_law_is_name" sLName, dD "_law_name" sLNm, dD "_law_kinds" sLKs,
  dD "_law_number" sNum, dD "_law_least" sLeast, dD "_law_sayings" sSys, dD "_law_is_sayings" sIsS, dD "_law_bent" sBe, dD "_law_value_right" sVR,
  dD "_law_renamed" sRen, dD "_law_long_right" sLong, dD "law" sLaw, dD "reads_as_cell" sCell, dD "is_name" sName, dD "is_tuple_of" sTupleOf,
  dD "is_kinds" sKinds]
def faL : List He.Fa := [.glo "is_integer", .glo "is_number", .glo "is_high_name", .glo "is_field_word", .glo "is_pair", .glo "are_fields",
  .glo "is_maker", .glo "are_makers", .glo "is_kind", .glo "makers_by_name", .glo "fields_behind", .glo "are_sayings",
  .glo "is_tree", .glo "_law_well", .glo "_law_draw", .glo "_law_is_name", .glo "_law_name", .glo "_law_kinds",
  .glo "_law_number", .glo "_law_least", .glo "_law_sayings", .glo "_law_is_sayings", .glo "_law_bent", .glo "_law_value_right",
  .glo "_law_renamed", .glo "_law_long_right", .glo "law", .glo "reads_as_cell", .glo "is_name", .glo "is_tuple_of",
  .glo "is_kinds", .glo "BadKinds", .glo "BadKind", .glo "CellError", .glo "WORDS", .free "type",
  .free "int", .free "str", .free "tuple", .free "len", .free "all", .free "any",
  .free "set", .free "enumerate", .free "list", .free "range", .free "isinstance", .free "repr",
  .free "abs", .free "bool", .free "min", .free "sum", .int "GREATEST_NUMBER" 1000000000000, .int "MOST_ENTRIES" 400,
  .str "DIGITS" "0123456789", .str "NAME_SIGNS" "abcdefghijklmnopqrstuvwxyzABCDEFGHIJKLMNOPQRSTUVWXYZ0123456789", .str "CAPITAL_LETTERS" "ABCDEFGHIJKLMNOPQRSTUVWXYZ", .exc "BadKinds", .exc "BadKind", .exc "CellError",
  .exm "BadKinds" "BadKinds" true, .exm "BadKind" "BadKinds" false, .exm "BadKind" "BadKind" true]
theorem rot_rel {zs : List V} {ws : List Value} (r : Vals zs ws) : Vals (rot3 zs) (rot3 ws) := by
  cases r with
  | nil => exact .nil
  | cons h1 r => cases r with
    | nil => exact .cons h1 .nil
    | cons h2 r => cases r with
      | nil => exact .cons h1 (.cons h2 .nil)
      | cons h3 r => cases r with
        | nil => exact .cons h2 (.cons h3 (.cons h1 .nil))
        | cons h4 r => exact .cons h1 (.cons h2 (.cons h3 (.cons h4 r)))
theorem rot_len : ∀ ws : List Value, (rot3 ws).length = ws.length
  | [] => rfl
  | [_] => rfl
  | [_, _] => rfl
  | [_, _, _] => rfl
  | _ :: _ :: _ :: _ :: _ => rfl
def bits (K : PySem.W.Frag) : Bool := [tabB K, He.tupB K "WORDS" ((["case", "drop", "entry", "free", "fun", "give", "hold", "in", "into", "kind", "number"] : List Str).map He.Dv.str)].all id
theorem errC_of {K : PySem.W.Frag} {mg : Str → Option Value} {h : Heap} (X : K.In h) (G : h.Ns mainGlobals mg) (S : He.SaysD faL fnL K) {x : Str} (i j : Nat) (hi : faL[i]? = some (.glo x)) (hj : faL[j]? = some (.exc x)) : ErrC K mg x (He.ga K x) := by
  obtain ⟨a, b, c, d⟩ := He.exc_ok (S.fact j hj)
  exact ⟨He.glo_ok X G (S.fact i hi), b, a, c, d⟩
theorem assemble {l : PySem.W.OpenLaw} {w : World} {K : PySem.W.Frag} {mg mb : Str → Option Value} {h : Heap} {q : Program} {loose : List Str} {mean : ExcName → Option Value} {a0 : Addr} (T0 : Top q loose mean mg mb h) (X : K.In h) (S : He.SaysD faL fnL K)
    (bt : bits K = true)
    (rec : tabNames.all (fun x => ((recsOf q).find? fun e => e.name == x).isSome) = true) (hl : mg ("law" : Str) = some (.ref a0)) : EG.Kept l w K 23 63 "script" mg a0 h := by
  have G := T0.g
  obtain ⟨bT, bW⟩ : tabB K = true ∧ He.tupB K "WORDS" ((["case", "drop", "entry", "free", "fun", "give", "hold", "in", "into", "kind", "number"] : List Str).map He.Dv.str) = true := by
    unfold bits at bt
    simp only [List.all_cons, List.all_nil, id_eq, Bool.and_true, Bool.and_eq_true] at bt
    exact bt
  obtain ⟨f_is_integer, D_is_integer⟩ := dn_of (x := "is_integer") (st := sIsInteger) X G S 0 0 rfl rfl
  obtain ⟨f_is_number, D_is_number⟩ := dn_of (x := "is_number") (st := sIsNumber) X G S 1 1 rfl rfl
  obtain ⟨f_is_high_name, D_is_high_name⟩ := dn_of (x := "is_high_name") (st := sHigh) X G S 2 2 rfl rfl
  obtain ⟨f_is_field_word, D_is_field_word⟩ := dn_of (x := "is_field_word") (st := sField) X G S 3 3 rfl rfl
  obtain ⟨f_is_pair, D_is_pair⟩ := dn_of (x := "is_pair") (st := sPair) X G S 4 4 rfl rfl
  obtain ⟨f_are_fields, D_are_fields⟩ := dn_of (x := "are_fields") (st := sFields) X G S 5 5 rfl rfl
  obtain ⟨f_is_maker, D_is_maker⟩ := dn_of (x := "is_maker") (st := sMaker) X G S 6 6 rfl rfl
  obtain ⟨f_are_makers, D_are_makers⟩ := dn_of (x := "are_makers") (st := sMakers) X G S 7 7 rfl rfl
  obtain ⟨f_is_kind, D_is_kind⟩ := dn_of (x := "is_kind") (st := sKind) X G S 8 8 rfl rfl
  obtain ⟨f_makers_by_name, D_makers_by_name⟩ := dn_of (x := "makers_by_name") (st := sMbn) X G S 9 9 rfl rfl
  obtain ⟨f_fields_behind, D_fields_behind⟩ := dn_of (x := "fields_behind") (st := sFB) X G S 10 10 rfl rfl
  obtain ⟨f_are_sayings, D_are_sayings⟩ := dn_of (x := "are_sayings") (st := sSay) X G S 11 11 rfl rfl
  obtain ⟨f_is_tree, D_is_tree⟩ := dn_of (x := "is_tree") (st := sTree) X G S 12 12 rfl rfl
  obtain ⟨f__law_well, D__law_well⟩ := dn_of (x := "_law_well") (st := sWell) X G S 13 13 rfl rfl
  obtain ⟨f__law_draw, D__law_draw⟩ := dn_of (x := "_law_draw") (st := sDraw) X G S 14 14 rfl rfl
  obtain ⟨f__law_is_name, D__law_is_name⟩ := dn_of (x := "_law_is_name") (st := sLName) X G S 15 15 rfl rfl
  obtain ⟨f__law_name, D__law_name⟩ := dn_of (x := "_law_name") (st := sLNm) X G S 16 16 rfl rfl
  obtain ⟨f__law_kinds, D__law_kinds⟩ := dn_of (x := "_law_kinds") (st := sLKs) X G S 17 17 rfl rfl
  obtain ⟨f__law_number, D__law_number⟩ := dn_of (x := "_law_number") (st := sNum) X G S 18 18 rfl rfl
  obtain ⟨f__law_least, D__law_least⟩ := dn_of (x := "_law_least") (st := sLeast) X G S 19 19 rfl rfl
  obtain ⟨f__law_sayings, D__law_sayings⟩ := dn_of (x := "_law_sayings") (st := sSys) X G S 20 20 rfl rfl
  obtain ⟨f__law_is_sayings, D__law_is_sayings⟩ := dn_of (x := "_law_is_sayings") (st := sIsS) X G S 21 21 rfl rfl
  obtain ⟨f__law_bent, D__law_bent⟩ := dn_of (x := "_law_bent") (st := sBe) X G S 22 22 rfl rfl
  obtain ⟨f__law_value_right, D__law_value_right⟩ := dn_of (x := "_law_value_right") (st := sVR) X G S 23 23 rfl rfl
  obtain ⟨f__law_renamed, D__law_renamed⟩ := dn_of (x := "_law_renamed") (st := sRen) X G S 24 24 rfl rfl
  obtain ⟨f__law_long_right, D__law_long_right⟩ := dn_of (x := "_law_long_right") (st := sLong) X G S 25 25 rfl rfl
  obtain ⟨f_law, D_law⟩ := dn_of (x := "law") (st := sLaw) X G S 26 26 rfl rfl
  obtain ⟨f_reads_as_cell, D_reads_as_cell⟩ := dc_of (x := "reads_as_cell") (st := sCell) X G S 27 27 rfl rfl
  obtain ⟨f_is_name, D_is_name⟩ := dc_of (x := "is_name") (st := sName) X G S 28 28 rfl rfl
  obtain ⟨f_is_tuple_of, D_is_tuple_of⟩ := dc_of (x := "is_tuple_of") (st := sTupleOf) X G S 29 29 rfl rfl
  obtain ⟨f_is_kinds, D_is_kinds⟩ := dc_of (x := "is_kinds") (st := sKinds) X G S 30 30 rfl rfl
  have b_is_integer := D_is_integer.F.binds (ps := ["thing", "low", "high"]) fun _ _ _ _ _ _ us hu => match us, hu with | [_, _, _], _ => rfl
  have b_is_number := D_is_number.F.binds (ps := ["thing"]) fun _ _ _ _ _ _ us hu => match us, hu with | [_], _ => rfl
  have b_is_high_name := D_is_high_name.F.binds (ps := ["thing"]) fun _ _ _ _ _ _ us hu => match us, hu with | [_], _ => rfl
  have b_is_field_word := D_is_field_word.F.binds (ps := ["thing"]) fun _ _ _ _ _ _ us hu => match us, hu with | [_], _ => rfl
  have b_is_pair := D_is_pair.F.binds (ps := ["thing", "fits_first", "fits_second"]) fun _ _ _ _ _ _ us hu => match us, hu with | [_, _, _], _ => rfl
  have b_are_fields := D_are_fields.F.binds (ps := ["thing"]) fun _ _ _ _ _ _ us hu => match us, hu with | [_], _ => rfl
  have b_is_maker := D_is_maker.F.binds (ps := ["thing"]) fun _ _ _ _ _ _ us hu => match us, hu with | [_], _ => rfl
  have b_are_makers := D_are_makers.F.binds (ps := ["thing"]) fun _ _ _ _ _ _ us hu => match us, hu with | [_], _ => rfl
  have b_is_kind := D_is_kind.F.binds (ps := ["thing"]) fun _ _ _ _ _ _ us hu => match us, hu with | [_], _ => rfl
  have b_makers_by_name := D_makers_by_name.F.binds (ps := ["kinds"]) fun _ _ _ _ _ _ us hu => match us, hu with | [_], _ => rfl
  have b_fields_behind := D_fields_behind.F.binds (ps := ["makers", "word", "entry"]) fun _ _ _ _ _ _ us hu => match us, hu with | [_, _, _], _ => rfl
  have b_are_sayings := D_are_sayings.F.binds (ps := ["makers", "kind", "thing"]) fun _ _ _ _ _ _ us hu => match us, hu with | [_, _, _], _ => rfl
  have b_is_tree := D_is_tree.F.binds (ps := ["kinds", "kind", "thing"]) fun _ _ _ _ _ _ us hu => match us, hu with | [_, _, _], _ => rfl
  have b__law_well := D__law_well.F.binds (ps := ["script"]) fun _ _ _ _ _ _ us hu => match us, hu with | [_], _ => rfl
  have b__law_draw := D__law_draw.F.binds (ps := ["well", "many"]) fun _ _ _ _ _ _ us hu => match us, hu with | [_, _], _ => rfl
  have b__law_is_name := D__law_is_name.F.binds (ps := ["value"]) fun _ _ _ _ _ _ us hu => match us, hu with | [_], _ => rfl
  have b__law_name := D__law_name.F.binds (ps := ["well", "high", "taken"]) fun _ _ _ _ _ _ us hu => match us, hu with | [_, _, _], _ => rfl
  have b__law_kinds := D__law_kinds.F.binds (ps := ["well"]) fun _ _ _ _ _ _ us hu => match us, hu with | [_], _ => rfl
  have b__law_number := D__law_number.F.binds (ps := ["well"]) fun _ _ _ _ _ _ us hu => match us, hu with | [_], _ => rfl
  have b__law_least := D__law_least.F.binds (ps := ["kinds"]) fun _ _ _ _ _ _ us hu => match us, hu with | [_], _ => rfl
  have b__law_sayings := D__law_sayings.F.binds (ps := ["well", "kinds", "least", "kind", "room"]) fun _ _ _ _ _ _ us hu => match us, hu with | [_, _, _, _, _], _ => rfl
  have b__law_is_sayings := D__law_is_sayings.F.binds (ps := ["kinds", "kind", "value"]) fun _ _ _ _ _ _ us hu => match us, hu with | [_, _, _], _ => rfl
  have b__law_bent := D__law_bent.F.binds (ps := ["well", "value", "kinds"]) fun _ _ _ _ _ _ us hu => match us, hu with | [_, _, _], _ => rfl
  have b__law_value_right := D__law_value_right.F.binds (ps := ["kinds", "kind", "value"]) fun _ _ _ _ _ _ us hu => match us, hu with | [_, _, _], _ => rfl
  have b__law_renamed := D__law_renamed.F.binds (ps := ["well", "kinds", "kind", "value"]) fun _ _ _ _ _ _ us hu => match us, hu with | [_, _, _, _], _ => rfl
  have b__law_long_right := D__law_long_right.F.binds (ps := ["well"]) fun _ _ _ _ _ _ us hu => match us, hu with | [_], _ => rfl
  have b_law := D_law.F.binds (ps := ["script"]) fun _ _ _ _ _ _ us hu => match us, hu with | [_], _ => rfl
  have b_reads_as_cell := D_reads_as_cell.F.binds (ps := ["name"]) fun _ _ _ _ _ us hu => match us, hu with | [_], _ => rfl
  have b_is_name := D_is_name.F.binds (ps := ["thing", "first_signs"]) fun _ _ _ _ _ us hu => match us, hu with | [_, _], _ => rfl
  have b_is_tuple_of := D_is_tuple_of.F.binds (ps := ["thing", "least", "most", "fits"]) fun _ _ _ _ _ us hu => match us, hu with | [_, _, _, _], _ => rfl
  have b_is_kinds := D_is_kinds.F.binds (ps := ["thing"]) fun _ _ _ _ _ us hu => match us, hu with | [_], _ => rfl
  have z_type : mg ("type" : Str) = none := He.free_ok X G (x := "type") (S.fact 35 rfl)
  have z_int : mg ("int" : Str) = none := He.free_ok X G (x := "int") (S.fact 36 rfl)
  have z_str : mg ("str" : Str) = none := He.free_ok X G (x := "str") (S.fact 37 rfl)
  have z_tuple : mg ("tuple" : Str) = none := He.free_ok X G (x := "tuple") (S.fact 38 rfl)
  have z_len : mg ("len" : Str) = none := He.free_ok X G (x := "len") (S.fact 39 rfl)
  have z_all : mg ("all" : Str) = none := He.free_ok X G (x := "all") (S.fact 40 rfl)
  have z_any : mg ("any" : Str) = none := He.free_ok X G (x := "any") (S.fact 41 rfl)
  have z_set : mg ("set" : Str) = none := He.free_ok X G (x := "set") (S.fact 42 rfl)
  have z_enumerate : mg ("enumerate" : Str) = none := He.free_ok X G (x := "enumerate") (S.fact 43 rfl)
  have z_list : mg ("list" : Str) = none := He.free_ok X G (x := "list") (S.fact 44 rfl)
  have z_range : mg ("range" : Str) = none := He.free_ok X G (x := "range") (S.fact 45 rfl)
  have z_isinstance : mg ("isinstance" : Str) = none := He.free_ok X G (x := "isinstance") (S.fact 46 rfl)
  have z_repr : mg ("repr" : Str) = none := He.free_ok X G (x := "repr") (S.fact 47 rfl)
  have z_abs : mg ("abs" : Str) = none := He.free_ok X G (x := "abs") (S.fact 48 rfl)
  have z_bool : mg ("bool" : Str) = none := He.free_ok X G (x := "bool") (S.fact 49 rfl)
  have z_min : mg ("min" : Str) = none := He.free_ok X G (x := "min") (S.fact 50 rfl)
  have z_sum : mg ("sum" : Str) = none := He.free_ok X G (x := "sum") (S.fact 51 rfl)
  have B : BI mg := ⟨z_type, z_int, z_str, z_tuple, z_len, z_all, z_any⟩
  obtain ⟨t_GREATEST_NUMBER, c_GREATEST_NUMBER⟩ := He.int_ok X G (x := "GREATEST_NUMBER") (S.fact 52 rfl)
  obtain ⟨t_MOST_ENTRIES, c_MOST_ENTRIES⟩ := He.int_ok X G (x := "MOST_ENTRIES") (S.fact 53 rfl)
  obtain ⟨t_DIGITS, c_DIGITS⟩ := He.str_ok X G (x := "DIGITS") (S.fact 54 rfl)
  obtain ⟨t_NAME_SIGNS, c_NAME_SIGNS⟩ := He.str_ok X G (x := "NAME_SIGNS") (S.fact 55 rfl)
  obtain ⟨t_CAPITAL_LETTERS, c_CAPITAL_LETTERS⟩ := He.str_ok X G (x := "CAPITAL_LETTERS") (S.fact 56 rfl)
  have g_BadKinds : mg ("BadKinds" : Str) = some (.ref (He.ga K "BadKinds")) := He.glo_ok X G (S.fact 31 rfl)
  have E_BadKinds : ErrC K mg "BadKinds" (He.ga K "BadKinds") := errC_of X G S 31 57 rfl rfl
  have g_BadKind : mg ("BadKind" : Str) = some (.ref (He.ga K "BadKind")) := He.glo_ok X G (S.fact 32 rfl)
  have E_BadKind : ErrC K mg "BadKind" (He.ga K "BadKind") := errC_of X G S 32 58 rfl rfl
  have g_CellError : mg ("CellError" : Str) = some (.ref (He.ga K "CellError")) := He.glo_ok X G (S.fact 33 rfl)
  have E_CellError : ErrC K mg "CellError" (He.ga K "CellError") := errC_of X G S 33 59 rfl rfl
  have g_WORDS : mg ("WORDS" : Str) = some (.ref (He.ga K "WORDS")) := He.glo_ok X G (S.fact 34 rfl)
  have EX : ExmD K (He.ga K "BadKinds") (He.ga K "BadKind") := ⟨He.exm_ok (S.fact 60 rfl), He.exm_ok (S.fact 61 rfl), He.exm_ok (S.fact 62 rfl)⟩
  have kb_tree : CK.KB0 K f_is_tree ["kinds", "kind", "thing"] ["thing", "kinds", "kind"] 3 (@rot3) := by
    obtain ⟨oc, od, kV, doc, pm, an, cd, ct, sl, e, _⟩ := D_is_tree.F.ex
    refine ⟨fun s ws _ hw => ?_, fun r => rot_rel r, fun ws => rot_len ws, rfl⟩
    match ws, hw with
    | [a, b, c], _ =>
      rw [e]
      exact .of_eq rfl
  have tabs : ∀ x ∈ tabNames, PySem.W.CodeHd h (He.cT K (x, none)).1 (He.cT K (x, none)).2 ∧ h.get? (He.cT K (x, none)).2 = some { cls := .none, data := .fields #[] } ∧ K.lookup (He.cT K (x, none)).2 = none := fun x hx => by
    obtain ⟨a, b⟩ := He.ba (List.all_eq_true.mp bT x hx)
    obtain ⟨d, hd⟩ := Option.isSome_iff_exists.mp (List.all_eq_true.mp rec x hx)
    obtain ⟨u, v⟩ := PySem.W.tab_of (x := x) T0 X hd (of_decide_eq_true a)
    exact ⟨u, v, Option.isNone_iff_eq_none.mp b⟩
  have lawA : He.ga K "law" = a0 := by
    have := D_law.m.symm.trans hl
    injection this with this
    injection this
  subst lawA
  have bl : ∀ (s : Shared) (v : Value), BindsTo s f_law ⟨[v], []⟩ [("script", v)] := by
    obtain ⟨oc, od, kV, doc, pm, an, cd, ct, sl, e, _⟩ := D_law.F.ex
    intro s v
    rw [e]
    exact .of_eq rfl
  refine ⟨f_law, tabNames.map fun x => He.cT K (x, none), spLaw K ((tabNames.map fun x => He.cT K (x, none)).map Prod.snd), ⟨fun c hc => ?_, fun c hc => ?_, fun c hc => ?_⟩, bl, fun H a ns hn hH hS => ⟨a, ns, rfl, hS, hn, fun P hP => ?_, fun _ => rfl⟩, fun base KB GB TB => ?_⟩
  · obtain ⟨x, hx, rfl⟩ := List.mem_map.mp hc
    exact (tabs x hx).2.1
  · obtain ⟨x, hx, rfl⟩ := List.mem_map.mp hc
    exact (tabs x hx).2.2
  · obtain ⟨x, hx, rfl⟩ := List.mem_map.mp hc
    exact (tabs x hx).1
  · obtain ⟨c, hc, rfl⟩ := List.mem_map.mp hP
    exact ⟨#[], hH c hc, by simp [TriplesOk]⟩
  · generalize hT : (tabNames.map fun x => He.cT K (x, none)).map Prod.snd = T
    have inT : ∀ x ∈ tabNames, (He.cT K (x, none)).2 ∈ T := fun x hx => by
      rw [← hT]
      exact List.mem_map_of_mem (List.mem_map_of_mem (f := fun x => He.cT K (x, none)) hx)
    have tb : ∀ x ∈ tabNames, GxR.TabB base mg (He.codeOf K (x, none)) (He.cT K (x, none)).2 := fun x hx => TB _ (List.mem_map_of_mem (f := fun x => He.cT K (x, none)) hx)
    have m0 : ("reads_as_cell" : Str) ∈ tabNames := List.mem_cons_self ..
    have m1 : ("is_name" : Str) ∈ tabNames := .tail _ (List.mem_cons_self ..)
    have m2 : ("is_tuple_of" : Str) ∈ tabNames := .tail _ (.tail _ (List.mem_cons_self ..))
    have m3 : ("is_kinds" : Str) ∈ tabNames := .tail _ (.tail _ (.tail _ (List.mem_cons_self ..)))
    have hW : ∀ H, SqT K H (He.ga K "WORDS") wordsV := fun H => He.tupB_ok bW H
    have q_int := ok_integer (P := l.prog) (w := w) (base := base) (mg := mg) D_is_integer.F B
    have q_num := ok_number (P := l.prog) (w := w) (base := base) (mg := mg) (T := T) D_is_number.F q_int D_is_integer.m D_is_integer.k b_is_integer c_GREATEST_NUMBER
    have q_cell := ok_cell (P := l.prog) (w := w) (base := base) (mg := mg) (T := T) D_reads_as_cell.F B (tb _ m0) (inT _ m0) c_DIGITS
    have q_name := ok_name (P := l.prog) (w := w) (base := base) (mg := mg) (T := T) D_is_name.F B (tb _ m1) (inT _ m1) c_NAME_SIGNS g_WORDS hW q_cell D_reads_as_cell.m D_reads_as_cell.F.kp b_reads_as_cell
    have q_high := ok_high (P := l.prog) (w := w) (base := base) (mg := mg) (T := T) D_is_high_name.F q_name D_is_name.m D_is_name.F.kp b_is_name c_CAPITAL_LETTERS
    have q_field := ok_field (P := l.prog) (w := w) (base := base) (mg := mg) (T := T) D_is_field_word.F B q_high D_is_high_name.m D_is_high_name.k b_is_high_name
    have q_tup := fun k => ok_tuple_of (P := l.prog) (w := w) (base := base) (mg := mg) (T := T) k D_is_tuple_of.F B (tb _ m2) (inT _ m2)
    have q_pair := fun k => ok_pair (P := l.prog) (w := w) (base := base) (mg := mg) (T := T) k D_is_pair.F B
    have q_fields := ok_fields (P := l.prog) (w := w) (base := base) (mg := mg) (T := T) D_are_fields.F (q_tup 6) D_is_tuple_of.m D_is_tuple_of.F.kp b_is_tuple_of D_is_field_word.m (IsDef.of (k := 6) (f := isField) q_field (by decide) D_is_field_word.k b_is_field_word)
    have q_maker := ok_maker (P := l.prog) (w := w) (base := base) (mg := mg) (T := T) D_is_maker.F (q_pair 9) D_is_pair.m D_is_pair.k b_is_pair D_is_high_name.m (IsDef.of (k := 9) (f := isHigh) q_high (by decide) D_is_high_name.k b_is_high_name) D_are_fields.m (IsDef.of (k := 9) (f := isFields) q_fields (by decide) D_are_fields.k b_are_fields)
    have q_makers := ok_makers (P := l.prog) (w := w) (base := base) (mg := mg) (T := T) D_are_makers.F (q_tup 11) D_is_tuple_of.m D_is_tuple_of.F.kp b_is_tuple_of D_is_maker.m (IsDef.of (k := 11) (f := isMaker) q_maker (by decide) D_is_maker.k b_is_maker)
    have q_kind := ok_kind (P := l.prog) (w := w) (base := base) (mg := mg) (T := T) D_is_kind.F (q_pair 14) D_is_pair.m D_is_pair.k b_is_pair D_is_high_name.m (IsDef.of (k := 14) (f := isHigh) q_high (by decide) D_is_high_name.k b_is_high_name) D_are_makers.m (IsDef.of (k := 14) (f := isMakers) q_makers (by decide) D_are_makers.k b_are_makers)
    have q_kinds := ok_kinds (P := l.prog) (w := w) (base := base) (mg := mg) (T := T) D_is_kinds.F B z_set (tb _ m3) (inT _ m3) (q_tup 16) D_is_tuple_of.m D_is_tuple_of.F.kp b_is_tuple_of D_is_kind.m (IsDef.of (k := 16) (f := isKind) q_kind (by decide) D_is_kind.k b_is_kind)
    have q_mbn := ok_mbn (P := l.prog) (w := w) (base := base) (mg := mg) (T := T) D_makers_by_name.F z_enumerate
    have q_fb := ok_fb (P := l.prog) (w := w) (base := base) (mg := mg) (T := T) D_fields_behind.F B q_num D_is_number.m D_is_number.k b_is_number
    have q_say := ok_say (P := l.prog) (w := w) (base := base) (mg := mg) (T := T) D_are_sayings.F B c_MOST_ENTRIES q_fb D_fields_behind.m D_fields_behind.k b_fields_behind
    have q_tree := ok_tree (P := l.prog) (w := w) (base := base) (mg := mg) (T := T) D_is_tree.F B E_BadKinds E_BadKind q_kinds D_is_kinds.m D_is_kinds.F.kp b_is_kinds (q_mbn.mono (by decide)) D_makers_by_name.m D_makers_by_name.k b_makers_by_name (q_say.mono (by decide)) D_are_sayings.m D_are_sayings.k b_are_sayings
    have q_well := ok_well (P := l.prog) (w := w) (base := base) (mg := mg) D__law_well.F z_int z_abs
    have q_draw := ok_draw (P := l.prog) (w := w) (base := base) (mg := mg) D__law_draw.F z_int
    have q_lname := ok_lname (P := l.prog) (w := w) (base := base) (mg := mg) (T := T) D__law_is_name.F B z_isinstance
    have q_lnm := ok_lnm (P := l.prog) (w := w) (base := base) (mg := mg) (T := T) D__law_name.F B z_range q_draw D__law_draw.m D__law_draw.k b__law_draw q_lname D__law_is_name.m D__law_is_name.k b__law_is_name
    have q_lks := ok_lks (P := l.prog) (w := w) (base := base) (mg := mg) (T := T) D__law_kinds.F B z_range q_draw D__law_draw.m D__law_draw.k b__law_draw q_lnm D__law_name.m D__law_name.k b__law_name
    have q_num2 := ok_num (P := l.prog) (w := w) (base := base) (mg := mg) (T := T) D__law_number.F q_draw D__law_draw.m D__law_draw.k b__law_draw
    have q_least := ok_least (P := l.prog) (w := w) (base := base) (mg := mg) (T := T) D__law_least.F B z_range z_sum
    have q_sys := ok_sys (P := l.prog) (w := w) (base := base) (mg := mg) (T := T) D__law_sayings.F B z_range z_list q_draw D__law_draw.m D__law_draw.k b__law_draw q_num2 D__law_number.m D__law_number.k b__law_number
    have q_iss := ok_iss (P := l.prog) (w := w) (base := base) (mg := mg) (T := T) D__law_is_sayings.F B z_isinstance z_bool z_abs
    have q_be := ok_be (P := l.prog) (w := w) (base := base) (mg := mg) (T := T) D__law_bent.F B z_list q_draw D__law_draw.m D__law_draw.k b__law_draw
    have q_vr := ok_vr (P := l.prog) (w := w) (base := base) (mg := mg) (T := T) D__law_value_right.F B z_isinstance z_bool z_repr q_iss D__law_is_sayings.m D__law_is_sayings.k b__law_is_sayings q_tree D_is_tree.m D_is_tree.k b_is_tree kb_tree
    have q_ren := ok_ren (P := l.prog) (w := w) (base := base) (mg := mg) (T := T) D__law_renamed.F B z_isinstance q_lnm D__law_name.m D__law_name.k b__law_name
    have q_long := ok_long (P := l.prog) (w := w) (base := base) (mg := mg) (T := T) D__law_long_right.F B z_range q_draw D__law_draw.m D__law_draw.k b__law_draw q_lnm D__law_name.m D__law_name.k b__law_name q_num2 D__law_number.m D__law_number.k b__law_number q_be D__law_bent.m D__law_bent.k b__law_bent q_vr D__law_value_right.m D__law_value_right.k b__law_value_right q_tree D_is_tree.m D_is_tree.k b_is_tree
    exact ok_law (P := l.prog) (w := w) (base := base) (mg := mg) (T := T) D_law.F B z_range z_min q_well D__law_well.m D__law_well.k b__law_well q_draw D__law_draw.m D__law_draw.k b__law_draw q_lks D__law_kinds.m D__law_kinds.k b__law_kinds q_least D__law_least.m D__law_least.k b__law_least q_sys D__law_sayings.m D__law_sayings.k b__law_sayings q_be D__law_bent.m D__law_bent.k b__law_bent q_ren D__law_renamed.m D__law_renamed.k b__law_renamed q_vr D__law_value_right.m D__law_value_right.k b__law_value_right q_tree D_is_tree.m D_is_tree.k b_is_tree q_long D__law_long_right.m D__law_long_right.k b__law_long_right
end JF
open PySem PySem.W PyProof.Rows
set_option Elab.async false
set_option linter.all false
set_option maxRecDepth 100000 in
set_option maxHeartbeats 0 in
theorem PySem.Challenge.cw_justfreed_k03_whole_sayings_judged_holds : PySem.Challenge.rw_justfreed_k03_whole_sayings_judged.Holds := by
  w_on; o_law; k_head; (case hw => w_witness2)
  k_fill
  refine EG.walk_g (l := PySem.Challenge.rw_justfreed_k03_whole_sayings_judged) (n := 63) (k := 23) (x := "script") rfl (by decide) rfl ⟨rfl, by decide, by decide⟩ (fun w h Y => PySem.W.kIn_of Y) ?F
  case F =>
    intro w mg mb fa h mean T X hmg
    refine JF.assemble (l := PySem.Challenge.rw_justfreed_k03_whole_sayings_judged) T X ?S ?bt ?rec hmg
    case rec => first | kernel_rfl | decide +kernel
    case S => (show _ = _; kernel_rfl)
    case bt => kernel_rfl
