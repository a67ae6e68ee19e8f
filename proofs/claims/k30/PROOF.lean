import PyProof.Rows.All
import Wide.All
import OpenK.AllK
import Wide.FinOn
import HandS.AnyAll
import HandS.Base
import HandS.Call
import HandS.CallLocal
import HandS.Comp
import HandS.Conv
import HandS.Dict
import HandS.EndTab
import HandS.FStr
import HandS.ForMost
import HandS.GenOver
import HandS.HeadHook1
import HandS.HeadHook2
import HandS.HeadHook3
import HandS.HeadHook4
import HandS.IsInst
import HandS.Iter
import HandS.List
import HandS.More
import HandS.Strs
import HandS.Style
import HandS.Text
import HandS.TryOnly
import HandS.TupAny
import HandS.Walk
import HandS.Wide
import HandS.WordsExc
import HandS.Zip
import KE.GoesEnum
import KE.GoesMore
import KE.GoesZip
import KE.KNest
import KE.KNestM
import PyProof.EqAt
import PyProof.EqKinds
import PyProof.FitsInt
import PyProof.GenQ
import PyProof.GenRules
import PyProof.ReprRoads
import PyProof.Rows.SetFrom
import PyProof.StrLaws
import PyProof.TupleCall
import PySem.Challenge.RW_justfreed_k30_whole_texts_written
set_option Elab.async false
set_option linter.all false
set_option maxRecDepth 100000
set_option maxHeartbeats 4000000
/-! any(..), all(..) of a generator expression whose element is any expression that raises nothing (calls of defs, further generator expressions within them) -/
namespace GA
open PySem PySem.Spec PyProof.Rows L2 GxR GenW

/-- the context of a generator expression's element; s, H: the state at the expression's making -/
abbrev gcx (X : Cx) (A : Around) (s : Shared) (H : Hp) (cenv : Env) (fp : List Addr) : Cx :=
  { X with A := A, s_0 := s, H_0 := H, env := cenv, outer := X.stack, stack := cenv :: X.stack, ex := fp, fn := fun _ => false, pn := [], xe := fun _ _ => False }

theorem regen {X : Cx} {pins : List (Addr × Obj)} {σ : L2.St} {H : Hp} {s s' : Shared} (I : Inv X pins σ H s) (ho : s'.os = s.os) (hh : s'.heap = s.heap) (hb : AllBare s'.gens) : Inv X pins σ H s' := by
  obtain ⟨h', g', d', t', o'⟩ := s'
  have e1 : o' = s.os := ho
  have e2 : h' = s.heap := hh
  subst e1 e2
  exact ⟨I.ok, I.os, hb, I.base, I.loc, I.cell, I.free, I.freeC, I.pin, I.hok, I.len⟩
theorem bare_set {gs : Array GenState} {g : Nat} {x : GenState} (h : AllBare gs) (hx : x.bare = true) : AllBare (gs.setIfInBounds g x) := by
  intro y hy
  obtain ⟨i, hi, rfl⟩ := Array.mem_iff_getElem.mp hy
  by_cases e : g = i
  · subst e
    have hi' : g < gs.size := by simpa using hi
    rw [Array.getElem_setIfInBounds_self]
    exact hx
  · have hi' : i < gs.size := by simpa using hi
    rw [Array.getElem_setIfInBounds_ne hi' e]
    exact h _ (Array.getElem_mem hi')

theorem gen_start {X : Cx} {pins : List (Addr × Obj)} {σ : L2.St} {H : Hp} {s s' : Shared} {scope : Scope} {own : List (Str × Nat)} {fp : List Addr} {A : Around} {cenv : Env} {a : Addr} {go : Obj}
    (I : Inv X pins σ H s) (ok : BlkOk X.N X.env.scope scope own) (hN : X.N.Nodup) (nc : ∀ y ∈ scope.names, y.2 ≠ .cell)
    (hfp : ∀ b ∈ fp, FpOk X pins H b ∧ b < s.heap.objs.size)
    (hsc : cenv.scope = scope) (hL : cenv.locals = s.heap.objs.size) (hgl : cenv.globals = X.env.globals) (hbl : cenv.builtins = builtinsNs) (hcl : cenv.cells = cloFrom X.env.cells scope.names []) (hfr : cenv.frame = some cenv.locals)
    (fr : A.frames = some (cenv :: X.stack)) (hd : X.calm = true → A.handled = none)
    (os : s'.os = s.os) (bare : AllBare s'.gens) (kp : ∀ b o, s.heap.get? b = some o → s'.heap.get? b = some o) (ns : ∃ m, s'.heap.Ns cenv.locals m)
    (ha : s'.heap.get? a = some go) (haC : s.heap.objs.size < a) (hgo : ∀ v, go.data ≠ .cell v) :
    Inv (gcx X A s H cenv fp) [(a, go)] (wipe σ (own.map (·.2))) H s' := by
  have hfree : ∀ y ∈ scope.names, y.2 = .free → ∃ c, X.env.cells.lookup y.1 = some c := fun y hy e => by
    rcases ok.free y hy e with k | k
    · exact I.ok.has _ (.inl k)
    · exact I.ok.has _ (.inr k)
  have cm : ∀ {y c}, cenv.cells.lookup y = some c → X.env.cells.lookup y = some c ∧ c < s.heap.objs.size := fun {y c} e => by
    rw [hcl] at e
    rcases cloFrom_mem (PySem.mem_of_lookup e) with hm | ⟨h1, rfl⟩
    · cases hm
    · obtain ⟨c, hc⟩ := hfree _ h1 rfl
      rw [hc]
      obtain ⟨w, z⟩ := I.cell _ _ hc
      exact ⟨rfl, z.lt⟩
  have look : ∀ {y}, scope.names.lookup y = some .free → ∃ c, cenv.cells.lookup y = some c ∧ X.env.cells.lookup y = some c := fun {y} hl => by
    have hy : (y, NameKind.free) ∈ scope.names := PySem.mem_of_lookup hl
    obtain ⟨c', e'⟩ := mem_lookup (cloFrom_has (cells := X.env.cells) (acc := []) hy)
    rw [← hcl] at e'
    exact ⟨c', e', (cm e').1⟩
  have okG : (gcx X A s H cenv fp).Ok := by
    refine ⟨I.ok.mod, by show cenv.scope.kind = _; rw [hsc]; exact ok.kind, by show cenv.globals = _; rw [hgl]; exact I.ok.glob, hbl, by show s.heap.objs.size ≤ cenv.locals; rw [hL]; exact Nat.le_refl _,
      fun y z c e1 e2 => I.ok.inj y z c (cm e1).1 (cm e2).1, fun y hy => ?_, fun y c z e => ?_, hd, fr, .inr ⟨rfl, hfr⟩, fun b hb => ⟨?_, fun y c e z => ?_⟩, I.bs, Nat.le_trans I.ok.bsz I.sz, fun b o e hb => ?_, fun b hb z => ?_, I.stack, I.stkFree⟩
    · show ∃ c, cenv.cells.lookup y = some c
      rcases hy with hy | hy
      · have hy : cenv.scope.names.lookup y = some .cell := hy
        rw [hsc] at hy
        exact absurd rfl (nc _ (PySem.mem_of_lookup hy))
      · have hy : cenv.scope.names.lookup y = some .free := hy
        rw [hsc] at hy
        obtain ⟨c, h1, _⟩ := look hy
        exact ⟨c, h1⟩
    · exact absurd z (by simp)
    · show b ≠ cenv.locals
      rw [hL]; exact Nat.ne_of_lt (hfp b hb).2
    · exact (hfp b hb).1.2.2.2.2.1 y c (cm e).1 z
    · rcases (hfp b hb).1.2.2.2.1 with z | z
      · exact I.ok.noex b o e z
      · exact absurd (Nat.lt_of_lt_of_le (Heap.lt_size e) (Nat.le_trans I.ok.bsz z)) (Nat.lt_irrefl _)
    · rcases List.mem_cons.mp (I.stkSub b z) with z | z
      · exact (hfp b hb).1.2.1 z
      · exact (hfp b hb).1.2.2.1 z
  obtain ⟨mC, hnC⟩ := ns
  refine ⟨okG, os, bare, Un.kept kp, ⟨mC, hnC, fun i y av e1 e2 e3 => ?_⟩, fun y c e => ?_, ?_, fun y c e => I.freeC y c (cm e).1, fun p hp => ?_, I.hok.kept kp, by rw [wipe_length]; exact I.len⟩
  · obtain ⟨e2, hne⟩ := wipe_some e2
    have hfr2 : scope.names.lookup y = some .free := by
      have key : ∀ k, cenv.scope.names.lookup y = some k → k = .local ∨ k = .cell ∨ k = .free → scope.names.lookup y = some .free := fun k hk hk' => by
        rw [hsc] at hk
        have no : ¬ (k = .local ∨ k = .cell) := fun hh => by
          rcases ok.own _ (PySem.mem_of_lookup hk) hh with e' | e'
          · obtain ⟨p, hp, hpy⟩ := List.mem_map.mp e'
            have e3 := ok.ix p hp
            have : p.1 = y := hpy
            rw [this] at e3
            exact hne (List.mem_map.mpr ⟨p, hp, nodup_ix hN e3 e1⟩)
          · exact e' (List.mem_of_getElem? e1)
        rcases hk' with rfl | rfl | rfl
        · exact absurd (.inl rfl) no
        · exact absurd (.inr rfl) no
        · exact hk
      have e3 : Vis cenv.scope y := e3
      rcases e3 with e3 | e3 | e3
      · exact key _ e3 (.inl rfl)
      · exact key _ e3 (.inr (.inl rfl))
      · exact key _ e3 (.inr (.inr rfl))
    obtain ⟨m, hn, hl⟩ := I.loc
    have hvis : Vis X.env.scope y := (ok.free _ (PySem.mem_of_lookup hfr2) rfl).elim (fun k => .inr (.inl k)) (fun k => .inr (.inr k))
    obtain ⟨w, r, q⟩ := hl i y av e1 e2 hvis
    have hk2 : cenv.kindOf y = some .free := by
      show cenv.scope.names.lookup y = _
      rw [hsc]; exact hfr2
    refine ⟨w, r, .inr ⟨.inr hk2, ?_⟩⟩
    obtain ⟨c, h1, h2⟩ := look hfr2
    rcases q with ⟨k, _⟩ | ⟨_, c', e', z⟩
    · have k : X.env.scope.names.lookup y = some .local := k
      rcases ok.free _ (PySem.mem_of_lookup hfr2) rfl with k' | k' <;> rw [show X.env.scope.names.lookup y = _ from k'] at k <;> cases k
    · rw [h2] at e'; cases e'
      exact ⟨c, h1, z.keeps kp⟩
  · obtain ⟨w, z⟩ := I.cell y c (cm e).1
    exact ⟨w, z.keeps kp⟩
  · show H cenv.locals = none
    rw [hL]; exact I.hok.fresh (Nat.le_refl _)
  · have hp' : p ∈ [(a, go)] := hp
    rw [List.mem_singleton.mp hp']
    refine ⟨ha, I.hok.fresh (Nat.le_of_lt haC), ?_, fun z => ?_, hgo⟩
    · show a ≠ cenv.locals
      rw [hL]; exact Nat.ne_of_gt haC
    · rcases List.mem_cons.mp (I.stkSub a z) with z | z
      · rw [z] at haC
        exact absurd (Nat.lt_trans haC I.lt) (Nat.lt_irrefl _)
      · exact I.nofs (Nat.le_of_lt haC) z

/-- what the reading of any, all says of the turns: sb the answer that ends it early (all: false, any: true) -/
def tGenW (sb : Bool) (J : It) (g : TG) (te : TE) (vs : List Nat) (σ : L2.St) (Q : VK) (W : Nat → Nat → Hp → Prop) : Prop := ∀ i m H, W i m H →
  (J.stop i H ∧ Q (.bl (!sb)) H) ∨ (J.go i H ∧ ∃ Nx : Hp → Prop, (∀ H', Nx H' → ∃ m', m' < m ∧ W (i + 1) m' H') ∧ ∀ x H', J.yld i H x H' → g x (wipe σ vs) H' fun σ2 H2 => wipe σ2 vs = wipe σ vs ∧ te σ2 H2 fun y H3 =>
    ∃ b : Bool, y = .bl b ∧ if b = sb then Q (.bl sb) H3 else Nx H3)
def tGen (sb : Bool) (P : Addr) (wi : TI) (g : TG) (te : TE) (vs : List Nat) : TE := fun σ H Q => wi σ H fun J H1 => TabG H1 P ∧ ∀ H2, Tabbed P H1 H2 → ∃ W : Nat → Nat → Hp → Prop, (∃ m, W 0 m H2) ∧ tGenW sb J g te vs σ Q W

section
variable {X : Cx} {pins : List (Addr × Obj)} {σ : L2.St} {elt tg iter : Expr} {scope : Scope} {own : List (Str × Nat)} {gpos : Pos} {g : TG} {te : TE} {sb : Bool} {J : It} {fp : List Addr} {it : Addr} {tn : Nat → Heap → Prop} {Q : VK} {W : Nat → Nat → Hp → Prop} {s3 : Shared} {H3 : Hp} {cenv : Env} {a : Addr} {go : Obj} {gi : Nat}

abbrev gCode (elt tg iter : Expr) (scope : Scope) (gpos : Pos) (it : Addr) (cenv : Env) : Code := .compLoop (.GeneratorExp elt [⟨tg, iter, [], 0⟩] scope gpos) 0 (.ref it) .none cenv
abbrev gArd (X : Cx) (elt tg iter : Expr) (scope : Scope) (gpos : Pos) (it : Addr) (cenv : Env) : Around := X.A.in1.in1.over (gCode elt tg iter scope gpos it cenv) []

/-- what is handed out: a truth; if it does not end the walk, the generator goes on -/
def gY (G : Cx) (pa : List (Addr × Obj)) (σ' : L2.St) (tn : Nat → Heap → Prop) (fp : List Addr) (W : Nat → Nat → Hp → Prop) (sb : Bool) (Q : VK) : Protocol := fun n s₀ v s kap =>
  ∃ i H' b, v = .bool b ∧ Inv G pa σ' H' s ∧ tn i s.heap ∧ (∀ b ∈ fp, H' b = none) ∧ (if b = sb then Q (.bl sb) H' else ∃ m, W i m H' ∧ m < n ∧ ∀ s'', Inv G pa σ' H' s'' → tn i s''.heap → kap (.send .none) s'')
def gP (X : Cx) (pins : List (Addr × Obj)) (σ : L2.St) (sb : Bool) (Q : VK) : Nat → Shared → Shared → Prop := fun _ _ s₁ => ∃ H', Inv X pins σ H' s₁ ∧ Q (.bl (!sb)) H'
def gR (X : Cx) (pins : List (Addr × Obj)) (σ : L2.St) (sb : Bool) (Q : VK) : GenEnd := fun n s₀ r s₁ => r = .ok .next ∧ gP X pins σ sb Q n s₀ s₁

theorem seg_gloop (hc : X.calm = true) (I3 : Inv X pins σ H3 s3) (f3 : ∀ b ∈ fp, FpOk X pins H3 b) (hco : cenv.scope.isCoroutine = false) (T : Turn X.prog X.w X.K tg J fp it tn)
    (hpa : ∀ b ∈ fp, b ≠ a)
    (pg : PG (gcx X (gArd X elt tg iter scope gpos it cenv) s3 H3 cenv fp) tg g) (pe : PE (gcx X (gArd X elt tg iter scope gpos it cenv) s3 H3 cenv fp) elt te)
    (turn : tGenW sb J g te (own.map (·.2)) σ Q W) :
    ∀ (n i m : Nat) (H' : Hp) (s₀ s : Shared), W i m H' → m < n → Inv (gcx X (gArd X elt tg iter scope gpos it cenv) s3 H3 cenv fp) [(a, go)] (wipe σ (own.map (·.2))) H' s → tn i s.heap → (∀ b ∈ fp, H' b = none) →
      Seg (model X.prog X.w) X.A.in1.in1 (gR X pins σ sb Q) (gY (gcx X (gArd X elt tg iter scope gpos it cenv) s3 H3 cenv fp) [(a, go)] (wipe σ (own.map (·.2))) tn fp W sb Q) n s₀
        (gCode elt tg iter scope gpos it cenv) ((model X.prog X.w).den (gCode elt tg iter scope gpos it cenv)) [] s := by
  have stat : ∀ {σ' : L2.St} {H' : Hp} {s' : Shared}, Inv (gcx X (gArd X elt tg iter scope gpos it cenv) s3 H3 cenv fp) [(a, go)] σ' H' s' → (∀ b ∈ fp, H' b = none) → ∀ b ∈ fp, FpOk (gcx X (gArd X elt tg iter scope gpos it cenv) s3 H3 cenv fp) [(a, go)] H' b := fun {σ' H' s'} I' hn b hb =>
    ⟨hn b hb, (I'.ok.exf b hb).1, I'.ok.exfs b hb, .inl hb, fun x c e => (I'.ok.exf b hb).2 x c e, fun p hp => by
      have hp' : p ∈ [(a, go)] := hp
      rw [List.mem_singleton.mp hp']
      exact (hpa b hb).symm⟩
  have back : ∀ {pa' : List (Addr × Obj)} {σ' : L2.St} {H' : Hp} {s' : Shared}, Inv (gcx X (gArd X elt tg iter scope gpos it cenv) s3 H3 cenv fp) pa' σ' H' s' → Inv X pins σ H' s' := fun {pa' σ' H' s'} I' =>
    I3.call' (ch := fp) I'.os I'.base I'.hok I'.bare fun b hb => ⟨(f3 b hb).2.2.2.1, (f3 b hb).2.1, (f3 b hb).2.2.2.2.1, (f3 b hb).2.2.2.2.2⟩
  intro n
  induction n with
  | zero => intro i m H' s₀ s _ hm; omega
  | succ n ih =>
    intro i m H' s₀ s w hm I st hn
    show Seg _ X.A.in1.in1 _ _ _ s₀ _ ((compTurn (.GeneratorExp elt [⟨tg, iter, [], 0⟩] scope gpos) 0 (.ref it) .none cenv).onRaise (leaving cenv)) [] s
    rw [compTurn_gen, Sem.onRaise_eq_wrap]
    refine seg_bind_wrap (wpAny_standAt ?_)
    rcases turn i m H' w with ⟨stop, q⟩ | ⟨go', Nx, hNx, step⟩
    · refine seg_bind_wrap (thnF (T.done (gcx X (gArd X elt tg iter scope gpos it cenv) s3 H3 cenv fp) rfl rfl rfl hc i _ s _ H' (fun _ _ => False) I (stat I hn) st stop) fun r s6 ⟨hr, I6⟩ => ?_)
      subst hr
      exact seg_end (.ok .next) ⟨rfl, H', back I6, q⟩
    · refine seg_bind_wrap (thnF (T.item (gcx X (gArd X elt tg iter scope gpos it cenv) s3 H3 cenv fp) rfl rfl rfl hc i _ s _ H' (fun _ _ => False) I (stat I hn) st go') fun r s6 ⟨u, hr, h6⟩ => ?_)
      subst hr
      refine seg_bind_wrap (thnF h6 fun _ s7 ⟨x, H7, I7, r7, y7, st7, n7⟩ => ?_)
      have I7' := I7.pinned (stat I7 n7) (T.obj _ _ st7)
      refine seg_bind_wrap (thnF (pg.run _ s7 _ H7 x u _ I7' r7 (step x H7 y7)) fun _ s8 ⟨σ8, H8, I8, hw8, q8⟩ => ?_)
      refine seg_bind_wrap (wpAny_tests_nil ?_)
      simp only [if_true]
      have hy : ∀ v, yieldOut cenv v = yieldValue v := fun v => by simp only [yieldOut, hco, Bool.false_eq_true, if_false]
      simp only [hy]
      rw [Sem.bind_eq_wrap', Sem.bind_eq_wrap', Sem.wrap_wrap, Sem.wrap_wrap]
      refine seg_wrap (thnF (pe.run _ s8 σ8 H8 _ I8 q8) fun yv s10 ⟨y, H10, I10, r10, b, eb, q10⟩ => ?_)
      subst eb
      have ev : yv = Value.bool b := r10
      subst ev
      have pin' : ∀ c ∈ fp, ∀ o, s7.heap.get? c = some o → s10.heap.get? c = some o ∧ H10 c = none := fun c hc o e =>
        let z := I10.pin (c, o) (List.mem_append_right _ (List.mem_append_right _ (mem_pinsAt hc e)))
        ⟨z.1, z.2.1⟩
      have hl : (wipe σ (own.map (·.2))).length = σ8.length := by rw [← hw8, wipe_length]
      have I11 : Inv (gcx X (gArd X elt tg iter scope gpos it cenv) s3 H3 cenv fp) [(a, go)] (wipe σ (own.map (·.2))) H10 s10 := (I10.unpinned).weak hl (fun j v e => by
        rw [← hw8] at e
        exact (wipe_some e).1)
      have st11 : tn (i + 1) s10.heap := T.keep _ _ _ st7 fun c hc o e => (pin' c hc o e).1
      have n11 : ∀ c ∈ fp, H10 c = none := fun c hc => by
        obtain ⟨o, e, _⟩ := T.obj _ _ st7 c hc
        exact (pin' c hc o e).2
      refine seg_at (seg_yield rfl rfl rfl ⟨i + 1, H10, b, rfl, I11, st11, n11, ?_⟩)
      by_cases hb : b = sb
      · rw [if_pos hb] at q10 ⊢
        exact q10
      · rw [if_neg hb] at q10 ⊢
        obtain ⟨m', hm', w'⟩ := hNx H10 q10
        exact ⟨m', w', by omega, fun s'' I'' st'' => seg_again rfl (ih (i + 1) m' H10 s'' s'' w' (by omega) I'' st'' n11)⟩

/-- the generator sleeps, n: what is left to hand out at most -/
def Asleep (X : Cx) (pins : List (Addr × Obj)) (σ : L2.St) (G : Cx) (pa : List (Addr × Obj)) (σ' : L2.St) (tn : Nat → Heap → Prop) (fp : List Addr) (W : Nat → Nat → Hp → Prop) (sb : Bool) (Q : VK) (gi : Nat) (n : Nat) (s : Shared) : Prop :=
  ∃ i m H' gs, Inv G pa σ' H' s ∧ tn i s.heap ∧ (∀ b ∈ fp, H' b = none) ∧ W i m H' ∧ m < n ∧ s.gens[gi]? = some gs ∧
    ∀ s'', Inv G pa σ' H' s'' → tn i s''.heap → gs.Goes (model X.prog X.w) X.A.in1.in1 (gR X pins σ sb Q) (gY G pa σ' tn fp W sb Q) n (.send .none) s''

theorem size_of_some {α : Type} {xs : Array α} {i : Nat} {x : α} (h : xs[i]? = some x) : i < xs.size := by
  rcases Nat.lt_or_ge i xs.size with h' | h'
  · exact h'
  · rw [Array.getElem?_eq_none h'] at h; cases h

/-- one draw: the generator is woken -/
theorem gen_next {G : Cx} {σ' : L2.St} {n : Nat} {s : Shared} {Qn : Option Value → Shared → Prop} {E : Value → Shared → Prop} (hh : X.A.handled = none) (hroom : X.A.depth < recursionLimit)
    (hg : ∀ h : Heap, h.get? a = some go → h.IsGen a gi) (back : ∀ {pa' : List (Addr × Obj)} {σ' : L2.St} {H' : Hp} {s' : Shared}, Inv G pa' σ' H' s' → Inv X pins σ H' s')
    (h : Asleep X pins σ G [(a, go)] σ' tn fp W sb Q gi n s)
    (hEnd : ∀ H' s', Inv X pins σ H' s' → Q (.bl (!sb)) H' → Qn none s')
    (hEarly : ∀ H' s', Inv X pins σ H' s' → Q (.bl sb) H' → Qn (some (.bool sb)) s')
    (hOn : ∀ s', (∃ k, n = k + 1 ∧ Asleep X pins σ G [(a, go)] σ' tn fp W sb Q gi k s') → Qn (some (.bool (!sb))) s') :
    wpAny (model X.prog X.w) X.A.in1 (pyNext (.ref a)) Qn E s := by
  obtain ⟨i, m, H', gs, I, st, hn, w, hm, hgs, hgo⟩ := h
  cases n with
  | zero => omega
  | succ k =>
  have hgen : s.heap.IsGen a gi := hg _ (I.pin (a, go) (List.mem_append_right _ (List.mem_singleton.mpr rfl))).1
  have hlt : gi + 1 ≤ s.gens.size := size_of_some hgs
  have I' : Inv G [(a, go)] σ' H' (s.setGen gi .running) := regen I rfl rfl (bare_set I.bare rfl)
  refine wpAny_gsz (n := gi + 1) hlt (wpAny_pyNext_genexpQ (P := gP X pins σ sb Q) hh I.nolimit hroom hgen hgs (hgo _ I' st) (fun v s₁ gs' hb hv => ?_) (fun s₁ hp h' hk => ?_))
  · obtain ⟨i', H1, b, rfl, I1, st1, n1, q⟩ := hv
    intro hsz
    have hlt1 : gi < s₁.gens.size := by
      have e : (s₁.setGen gi gs').gens.size = s₁.gens.size := by simp [Shared.setGen]
      rw [e] at hsz
      exact hsz
    have I2 : Inv G [(a, go)] σ' H1 (s₁.setGen gi gs') := regen I1 rfl rfl (bare_set I1.bare hb)
    by_cases hbs : b = sb
    · rw [if_pos hbs] at q
      subst hbs
      exact hEarly H1 _ (back I2) q
    · rw [if_neg hbs] at q
      obtain ⟨m', w', hm', kap⟩ := q
      have eb : b = !sb := by cases b <;> cases sb <;> simp_all
      subst eb
      refine hOn _ ⟨k, rfl, i', m', H1, gs', I2, st1, n1, w', hm', ?_, fun s'' I'' st'' => kap s'' I'' st''⟩
      simp [Shared.setGen, hlt1]
  · obtain ⟨H1, I1, q⟩ := hp
    intro hsz
    exact hEnd H1 _ (regen (I1.kept (t' := s₁.toks) hk) rfl rfl (bare_set I1.bare rfl)) q

theorem all_gloop {G : Cx} {σ' : L2.St} {R : Result → Shared → Prop} (hh : X.A.handled = none) (hroom : X.A.depth < recursionLimit)
    (hg : ∀ h : Heap, h.get? a = some go → h.IsGen a gi) (back : ∀ {pa' : List (Addr × Obj)} {σ' : L2.St} {H' : Hp} {s' : Shared}, Inv G pa' σ' H' s' → Inv X pins σ H' s')
    (hR : ∀ b H' s', Inv X pins σ H' s' → Q (.bl b) H' → R (.ok (.ret (.bool b))) s') :
    ∀ (n : Nat) (s : Shared), Asleep X pins σ G [(a, go)] σ' tn fp W false Q gi n s → codeAny (model X.prog X.w) X.A (.builtin "all.loop" ⟨[.ref a], []⟩) R s := by
  intro n
  induction n with
  | zero => intro s h; obtain ⟨_, _, _, _, _, _, _, _, hm, _⟩ := h; omega
  | succ k ih =>
    intro s h
    refine codeAny_builtin F.entry_all_loop ?_
    rw [Around.under_plainId F.plain_all_loop _]
    show wpAny _ X.A.in1 (pyNext (.ref a) >>= _) _ _ s
    refine wpAny_bind (gen_next hh hroom hg back h (fun H' s' I q => ?_) (fun H' s' I q => ?_) (fun s' hs => ?_))
    · exact wpAny_bind (wpAny_rule (wpAny_pure (hR true H' s' I q)))
    · refine wpAny_bind (wpAny_holding (wpAny_truthy_bool ?_))
      refine wpAny_bind (wpAny_letGo ?_)
      simp only [Bool.false_eq_true, if_false]
      exact wpAny_bind (wpAny_rule (wpAny_pure (hR false H' s' I q)))
    · obtain ⟨k', hk, hs⟩ := hs
      cases hk
      refine wpAny_bind (wpAny_holding (wpAny_truthy_bool ?_))
      refine wpAny_bind (wpAny_letGo ?_)
      simp only [Bool.not_false, if_true]
      exact wpAny_pure ⟨plainId_quiet F.plain_all_loop _, ih s' hs⟩
theorem any_gloop {G : Cx} {σ' : L2.St} {R : Result → Shared → Prop} (hh : X.A.handled = none) (hroom : X.A.depth < recursionLimit)
    (hg : ∀ h : Heap, h.get? a = some go → h.IsGen a gi) (back : ∀ {pa' : List (Addr × Obj)} {σ' : L2.St} {H' : Hp} {s' : Shared}, Inv G pa' σ' H' s' → Inv X pins σ H' s')
    (hR : ∀ b H' s', Inv X pins σ H' s' → Q (.bl b) H' → R (.ok (.ret (.bool b))) s') :
    ∀ (n : Nat) (s : Shared), Asleep X pins σ G [(a, go)] σ' tn fp W true Q gi n s → codeAny (model X.prog X.w) X.A (.builtin "any.loop" ⟨[.ref a], []⟩) R s := by
  intro n
  induction n with
  | zero => intro s h; obtain ⟨_, _, _, _, _, _, _, _, hm, _⟩ := h; omega
  | succ k ih =>
    intro s h
    refine codeAny_builtin F.entry_any_loop ?_
    rw [Around.under_plainId F.plain_any_loop _]
    show wpAny _ X.A.in1 (pyNext (.ref a) >>= _) _ _ s
    refine wpAny_bind (gen_next hh hroom hg back h (fun H' s' I q => ?_) (fun H' s' I q => ?_) (fun s' hs => ?_))
    · exact wpAny_bind (wpAny_rule (wpAny_pure (hR false H' s' I q)))
    · refine wpAny_bind (wpAny_holding (wpAny_truthy_bool ?_))
      refine wpAny_bind (wpAny_letGo ?_)
      simp only [if_true]
      exact wpAny_bind (wpAny_rule (wpAny_pure (hR true H' s' I q)))
    · obtain ⟨k', hk, hs⟩ := hs
      cases hk
      refine wpAny_bind (wpAny_holding (wpAny_truthy_bool ?_))
      refine wpAny_bind (wpAny_letGo ?_)
      simp only [Bool.not_true, Bool.false_eq_true, if_false]
      exact wpAny_pure ⟨plainId_quiet F.plain_any_loop _, ih s' hs⟩

/-- the generator is made and sleeps -/
def GMadeG (X : Cx) (pins : List (Addr × Obj)) (σ : L2.St) (sb : Bool) (Q : VK) (a : Addr) (s5 : Shared) : Prop :=
  ∃ (go : Obj) (gi : Nat) (G : Cx) (σ' : L2.St) (tn : Nat → Heap → Prop) (fp : List Addr) (W : Nat → Nat → Hp → Prop) (n : Nat),
    (∀ h : Heap, h.get? a = some go → h.IsGen a gi) ∧ s5.heap.IsGen a gi ∧ (∀ (pa' : List (Addr × Obj)) (σ' : L2.St) (H' : Hp) (s' : Shared), Inv G pa' σ' H' s' → Inv X pins σ H' s') ∧
      Asleep X pins σ G [(a, go)] σ' tn fp W sb Q gi n s5

theorem gArd_frames {X : Cx} {elt tg iter : Expr} {scope : Scope} {gpos : Pos} {it : Addr} {cenv : Env} (h : X.A.frames = some X.stack) : (gArd X elt tg iter scope gpos it cenv).frames = some (cenv :: X.stack) := by
  show pushEnvs [cenv] (pushEnvs [] X.A.frames) = _
  rw [h]
  rfl
theorem gArd_room {X : Cx} {elt tg iter : Expr} {scope : Scope} {gpos : Pos} {it : Addr} {cenv : Env} {k : Nat} (r : Room (k + 1) X.A) : Room k (gArd X elt tg iter scope gpos it cenv) := by
  have hd : (gArd X elt tg iter scope gpos it cenv).depth = X.A.depth + 1 := rfl
  have hu : (gArd X elt tg iter scope gpos it cenv).units = X.A.units + 1 + 1 + 3 := rfl
  refine ⟨r.hd, ?_, ?_⟩
  · have := r.dp
    rw [hd]; omega
  · have := r.un
    rw [hu]; omega

theorem gen_made {c P : Addr} {wi : TI} {k : Nat} {s : Shared} {H : Hp} {Q' : Value → Shared → Prop}
    (hr : Room (k + 1) X.A) (hc : X.calm = true) (hN : X.N.Nodup) (TB : TabB X.base X.mg c P) (hcode : X.env.code = .ref c) (hi : PI X tg iter wi) (ok : BlkOk X.N X.env.scope scope own) (nc : ∀ y ∈ scope.names, y.2 ≠ .cell)
    (hco : scope.isCoroutine = false) (hdot : scope.names.lookup (".0" : Str) = some NameKind.local)
    (hg : ∀ (A : Around) (s : Shared) (H : Hp) (C : Addr) (cl : List (Str × Addr)) (code : Value) (fp : List Addr), Room k A → PG (gcx X A s H (genEnv scope cl C code builtinsNs X.env) fp) tg g)
    (he : ∀ (A : Around) (s : Shared) (H : Hp) (C : Addr) (cl : List (Str × Addr)) (code : Value) (fp : List Addr), Room k A → PE (gcx X A s H (genEnv scope cl C code builtinsNs X.env) fp) elt te)
    (hs : ∀ v, genFold iter X.env v = pure v) (I : Inv X pins σ H s) (h : tGen sb P wi g te (own.map (·.2)) σ H Q)
    (hQ : ∀ a s5, GMadeG X pins σ sb Q a s5 → Q' (.ref a) s5) :
    wpAny (model X.prog X.w) X.A (eval (.GeneratorExp elt [⟨tg, iter, [], 0⟩] scope gpos) X.env) Q' X.xe s := by
  have hfree : ∀ y ∈ scope.names, y.2 = .free → ∃ c, X.env.cells.lookup y.1 = some c := fun y hy e => by
    rcases ok.free y hy e with k | k
    · exact I.ok.has _ (.inl k)
    · exact I.ok.has _ (.inr k)
  refine wpAny_GeneratorExp_make hco (closure_ok hfree) nc hdot ok.kind (by have := hr.dp; omega) ?_ hs
  refine thn (hi.run pins s σ H _ I h) fun xv s1 hx => thn hx fun itv s2 h2 => ?_
  obtain ⟨it, fp, tn, J, H2, e, I2, T, st2, f2, ⟨ps, hP, ht⟩, hq⟩ := h2
  subst e
  refine ⟨I2.nolimit, ?_⟩
  have hPs : s2.heap.get? P = some { cls := .none, data := .fields ps } := I2.hok P _ hP
  have cd : PySem.W.CodeHd s2.heap c P := TB.code.keeps fun b u e => I2.bk b u e
  have fpP : ∀ b ∈ fp, b ≠ P := fun b hb z => by
    have q := (f2 b hb).1
    rw [z, hP] at q
    cases q
  have fpL : ∀ b ∈ fp, b < s2.heap.objs.size := fun b hb => by
    obtain ⟨o, e, _⟩ := T.obj _ _ st2 b hb
    exact Heap.lt_size e
  have cont : ∀ (code : Value) (h3 : Heap) (tk : Nat) (more : Array Value), Heap.ExtBut P s2.heap h3 → s2.heap.objs.size ≤ h3.objs.size → h3.get? P = some { cls := .none, data := .fields (ps ++ more) } → TriplesOk (ps ++ more).toList →
      wpAny (model X.prog X.w) X.A (builtinsFor X.env.globals X.env.builtins) (fun bi s₄ =>
        ∀ h', h'.Ns s₄.heap.objs.size (fun y => if y = ".0" then some (.ref it) else none) → Heap.SameBut s₄.heap.objs.size (s₄.heap.push { cls := .type "frame", data := .dict #[] }) h' →
          Q' (.ref h'.objs.size) { s₄ with
            gens := s₄.gens.push (.fresh (.compStart (.GeneratorExp elt [⟨tg, iter, [], 0⟩] scope gpos) 0 (.ref it) .none (genEnv scope (cloFrom X.env.cells scope.names []) s₄.heap.objs.size code bi X.env))),
            toks := s₄.toks + 1 + 1 + 1,
            heap := h'.push { cls := .type "generator", data := .fields #[.int s₄.gens.size 0, .str "<genexpr>" (s₄.toks + 1), .str (X.env.qual ++ "<genexpr>") (s₄.toks + 1 + 1)] } }) X.xe { s2 with heap := h3, toks := tk } := by
    intro code h3 tk more hx hge hP3 ht3
    have J3 : Inv X pins σ (upd H2 P (.tbl (ps ++ more))) { s2 with heap := h3, toks := tk } := inv_tab (more := more) (h' := h3) (g' := s2.gens) (d' := s2.drawn) (t' := tk) I2 hP (fun b o hb e => hx b o hb e) hP3 I2.bare
    obtain ⟨bm, ob, e1, e2, e3, e4, e5, e6, e7, e8⟩ := TB.bm
    have hglob : ({ s2 with heap := h3, toks := tk } : Shared).heap.Ns X.env.globals X.mg := by rw [J3.ok.glob]; exact J3.mod.glob.keeps J3.bk
    refine wpAny_builtinsFor (m := X.mg) hglob e1 e2 (J3.bk _ _ e5) e6 e7 e8 ?_
    intro h' hn' hs'
    obtain ⟨W, ⟨m0, w0⟩, turn⟩ := hq (upd H2 P (.tbl (ps ++ more))) ⟨⟨_, upd_same, ht3⟩, fun b hb => upd_ne hb⟩
    generalize hH3 : upd H2 P (.tbl (ps ++ more)) = H3 at J3 w0
    have hsz : h'.objs.size = h3.objs.size + 1 := by rw [hs'.1, Heap.size_push]
    have f3 : ∀ b ∈ fp, FpOk X pins H3 b ∧ b < h3.objs.size := fun b hb => by
      refine ⟨⟨?_, (f2 b hb).2⟩, Nat.lt_of_lt_of_le (fpL b hb) hge⟩
      rw [← hH3, upd_ne (fpP b hb)]
      exact (f2 b hb).1
    have st3 : tn 0 h3 := T.keep _ _ _ st2 fun b hb o e => hx b o (fpP b hb) e
    generalize hgo : ({ cls := .type "generator", data := .fields #[.int s2.gens.size 0, .str "<genexpr>" (tk + 1), .str (X.env.qual ++ "<genexpr>") (tk + 1 + 1)] } : Obj) = go
    have hgo0 : go.data = .fields #[.int s2.gens.size 0, .str "<genexpr>" (tk + 1), .str (X.env.qual ++ "<genexpr>") (tk + 1 + 1)] := by rw [← hgo]
    have hgoc : go.cls = .type "generator" := by rw [← hgo]
    have hgos : go.slots = #[] := by rw [← hgo]
    have kp : ∀ b o, h3.get? b = some o → (h'.push go).get? b = some o := fun b o e => Heap.get?_push_of_some _ (hs'.extBut b o (Nat.ne_of_lt (Heap.lt_size e)) (Heap.get?_push_of_some _ e))
    have hga : (h'.push go).get? h'.objs.size = some go := by
      rw [← hgo]
      exact Heap.get?_push_size _ rfl
    have hgen : ∀ h : Heap, h.get? h'.objs.size = some go → h.IsGen h'.objs.size s2.gens.size := fun h e => ⟨go, _, _, e, hgoc, hgo0, hgos⟩
    have st5 : tn 0 (h'.push go) := T.keep _ _ _ st3 fun b _ o e => kp b o e
    have hpa : ∀ b ∈ fp, b ≠ h'.objs.size := fun b hb => by
      have h1 : b < h3.objs.size := (f3 b hb).2
      have h2 : h'.objs.size = h3.objs.size + 1 := hsz
      have h3 : b < h'.objs.size := by rw [h2]; exact Nat.lt_succ_of_lt h1
      exact Nat.ne_of_lt h3
    have nfp : ∀ b ∈ fp, H3 b = none := fun b hb => (f3 b hb).1.1
    have rm := gArd_room (X := X) (elt := elt) (tg := tg) (iter := iter) (scope := scope) (gpos := gpos) (it := it) (cenv := genEnv scope (cloFrom X.env.cells scope.names []) h3.objs.size code builtinsNs X.env) hr
    have IG := gen_start (cenv := genEnv scope (cloFrom X.env.cells scope.names []) h3.objs.size code builtinsNs X.env) (A := gArd X elt tg iter scope gpos it (genEnv scope (cloFrom X.env.cells scope.names []) h3.objs.size code builtinsNs X.env)) (s' := { s2 with
            gens := s2.gens.push (.fresh (.compStart (.GeneratorExp elt [⟨tg, iter, [], 0⟩] scope gpos) 0 (.ref it) .none (genEnv scope (cloFrom X.env.cells scope.names []) h3.objs.size code builtinsNs X.env))),
            toks := tk + 1 + 1 + 1, heap := h'.push go }) (a := h'.objs.size) (go := go) J3 ok hN nc f3 rfl rfl rfl rfl rfl rfl (gArd_frames J3.ok.frames) (fun _ => hr.hd) rfl (AllBare.push I2.bare rfl) kp ⟨_, hn'.push _⟩ hga
            (by show h3.objs.size < h'.objs.size; omega) (fun v q => by rw [hgo0] at q; cases q)
    refine hQ _ _ ⟨go, s2.gens.size, gcx X (gArd X elt tg iter scope gpos it (genEnv scope (cloFrom X.env.cells scope.names []) h3.objs.size code builtinsNs X.env)) { s2 with heap := h3, toks := tk } H3 (genEnv scope (cloFrom X.env.cells scope.names []) h3.objs.size code builtinsNs X.env) fp,
      wipe σ (own.map (·.2)), tn, fp, W, m0 + 1, hgen, hgen _ hga, fun pa' σ' H' s' I' => J3.call' (ch := fp) I'.os I'.base I'.hok I'.bare fun b hb => ⟨(f3 b hb).1.2.2.2.1, (f3 b hb).1.2.1, (f3 b hb).1.2.2.2.2.1, (f3 b hb).1.2.2.2.2.2⟩,
      0, m0, H3, _, IG, st5, nfp, w0, Nat.lt_succ_self _, Array.getElem?_push_size .., fun s'' I'' st'' => ⟨rfl, ?_⟩⟩
    have loop := seg_gloop (Q := Q) (W := W) (sb := sb) (own := own) hc J3 (fun b hb => (f3 b hb).1) (cenv := genEnv scope (cloFrom X.env.cells scope.names []) h3.objs.size code builtinsNs X.env) hco T hpa
      (hg _ _ _ _ _ _ _ rm) (he _ _ _ _ _ _ _ rm) turn (m0 + 1) 0 m0 H3 s'' s'' w0 (Nat.lt_succ_self _) I'' st'' nfp
    show Seg _ X.A.in1.in1 _ _ _ s'' _ ((compStart (.GeneratorExp elt [⟨tg, iter, [], 0⟩] scope gpos) 0 (.ref it) .none _).onRaise (leaving _)) [] s''
    unfold compStart
    rw [Sem.onRaise_eq_wrap]
    show Seg _ X.A.in1.in1 _ _ _ s'' _ ((ask >>= _).wrap _ _ _ _) [] s''
    refine seg_bind_wrap (wpAny_askSetting ?_)
    split
    · exact seg_again rfl loop
    · refine seg_bind_wrap (wpAny_rule ?_)
      show Seg _ X.A.in1.in1 _ _ _ s'' _ ((standAt iter.pos >>= _).wrap _ _ _ _) [] s''
      exact seg_bind_wrap (wpAny_standAt (seg_bind_wrap (T.self _ 0 s'' _ _ st'' (seg_again rfl loop))))
  cases hf : codeAmong gpos ps.toList with
  | none =>
    refine wpAny_genexprCodeX hcode (cd.code hPs ht) (cd.tab hPs) hf fun c' h' tk hx hge hlt hco' _ htab' _ => ?_
    obtain ⟨o1, vs, f1, tf, fl, tg1, inF, tx, tt, op, _, _, _, _, _, _, _, _, _, htr, _⟩ := hco'
    exact cont _ h' tk _ hx (Nat.le_trans hge (Nat.le_of_lt hlt)) htab'.2 htr
  | some cv =>
    refine wpAny_genexprCode_hit hcode (cd.code hPs ht) hf ?_
    have e0 : ps ++ (#[] : Array Value) = ps := by simp
    exact cont cv s2.heap s2.toks #[] (Heap.ExtBut.refl _ _) (Nat.le_refl _) (by rw [e0]; exact hPs) (by rw [e0]; exact ht)

/-- all(elt for tg in iter) -/
theorem pe_allG {c P : Addr} {wi : TI} {k : Nat} {p pos : Pos}
    (hr : Room (k + 1) X.A) (hgl : Gl X "all") (hm : X.mg "all" = none) (hc : X.calm = true) (hN : X.N.Nodup) (TB : TabB X.base X.mg c P) (hcode : X.env.code = .ref c) (hi : PI X tg iter wi) (ok : BlkOk X.N X.env.scope scope own) (nc : ∀ y ∈ scope.names, y.2 ≠ .cell)
    (hco : scope.isCoroutine = false) (hdot : scope.names.lookup (".0" : Str) = some NameKind.local)
    (hg : ∀ (A : Around) (s : Shared) (H : Hp) (C : Addr) (cl : List (Str × Addr)) (code : Value) (fp : List Addr), Room k A → PG (gcx X A s H (genEnv scope cl C code builtinsNs X.env) fp) tg g)
    (he : ∀ (A : Around) (s : Shared) (H : Hp) (C : Addr) (cl : List (Str × Addr)) (code : Value) (fp : List Addr), Room k A → PE (gcx X A s H (genEnv scope cl C code builtinsNs X.env) fp) elt te)
    (hs : ∀ v, genFold iter X.env v = pure v := by intro _; rfl)
    (hst : starEach [.GeneratorExp elt [⟨tg, iter, [], 0⟩] scope gpos] X.env = (false, eval (.GeneratorExp elt [⟨tg, iter, [], 0⟩] scope gpos) X.env) :: starEach [] X.env := by rfl) :
    PE X (.Call (.Name "all" p) [.GeneratorExp elt [⟨tg, iter, [], 0⟩] scope gpos] [] pos) (tGen false P wi g te (own.map (·.2))) := by
  refine ⟨fun pins s σ H Q I h => ?_⟩
  refine wpAny_Call_Name_kw (ld_blt I hgl hm (show bootBuiltins "all" = some (.builtin "all") by decide +kernel) ?_)
  refine PyProof.Rows.callWith_builtin1 ?_ hst (by rfl)
  rw [hst]
  show wpAny _ _ (spliced ((false, eval (.GeneratorExp elt [⟨tg, iter, [], 0⟩] scope gpos) X.env) :: backTo pos (starEach [] X.env))) _ _ s
  refine Calls.spliced_cons (gen_made hr hc hN TB hcode hi ok nc hco hdot hg he hs I h fun a s5 hG => ?_)
  obtain ⟨go, gi, G, σ', tn, fp, W, n, hgn, hg5, back, hA⟩ := hG
  refine Calls.spliced_nil ?_
  refine call_function_tree F.kind_all F.plain_all F.entry_all (F.args_all1 _) ?_
  unfold Builtin.«all»
  refine wpAny_bind (m := oneArg "all" _) (wpAny_pure ?_)
  refine wpAny_bind (wpAny_pyIter_gen hg5 ?_)
  exact wpAny_pure ⟨plainId_quiet F.plain_all_loop _, all_gloop (Q := Q) hr.hd hr.depth hgn (fun {pa' σ' H' s'} I' => back pa' σ' H' s' I') (fun b H' s' I' q => ⟨.bl b, H', I', rfl, q⟩) n s5 hA⟩
/-- any(elt for tg in iter) -/
theorem pe_anyG {c P : Addr} {wi : TI} {k : Nat} {p pos : Pos}
    (hr : Room (k + 1) X.A) (hgl : Gl X "any") (hm : X.mg "any" = none) (hc : X.calm = true) (hN : X.N.Nodup) (TB : TabB X.base X.mg c P) (hcode : X.env.code = .ref c) (hi : PI X tg iter wi) (ok : BlkOk X.N X.env.scope scope own) (nc : ∀ y ∈ scope.names, y.2 ≠ .cell)
    (hco : scope.isCoroutine = false) (hdot : scope.names.lookup (".0" : Str) = some NameKind.local)
    (hg : ∀ (A : Around) (s : Shared) (H : Hp) (C : Addr) (cl : List (Str × Addr)) (code : Value) (fp : List Addr), Room k A → PG (gcx X A s H (genEnv scope cl C code builtinsNs X.env) fp) tg g)
    (he : ∀ (A : Around) (s : Shared) (H : Hp) (C : Addr) (cl : List (Str × Addr)) (code : Value) (fp : List Addr), Room k A → PE (gcx X A s H (genEnv scope cl C code builtinsNs X.env) fp) elt te)
    (hs : ∀ v, genFold iter X.env v = pure v := by intro _; rfl)
    (hst : starEach [.GeneratorExp elt [⟨tg, iter, [], 0⟩] scope gpos] X.env = (false, eval (.GeneratorExp elt [⟨tg, iter, [], 0⟩] scope gpos) X.env) :: starEach [] X.env := by rfl) :
    PE X (.Call (.Name "any" p) [.GeneratorExp elt [⟨tg, iter, [], 0⟩] scope gpos] [] pos) (tGen true P wi g te (own.map (·.2))) := by
  refine ⟨fun pins s σ H Q I h => ?_⟩
  refine wpAny_Call_Name_kw (ld_blt I hgl hm (show bootBuiltins "any" = some (.builtin "any") by decide +kernel) ?_)
  refine PyProof.Rows.callWith_builtin1 ?_ hst (by rfl)
  rw [hst]
  show wpAny _ _ (spliced ((false, eval (.GeneratorExp elt [⟨tg, iter, [], 0⟩] scope gpos) X.env) :: backTo pos (starEach [] X.env))) _ _ s
  refine Calls.spliced_cons (gen_made hr hc hN TB hcode hi ok nc hco hdot hg he hs I h fun a s5 hG => ?_)
  obtain ⟨go, gi, G, σ', tn, fp, W, n, hgn, hg5, back, hA⟩ := hG
  refine Calls.spliced_nil ?_
  refine call_function_tree F.kind_any F.plain_any F.entry_any (F.args_any1 _) ?_
  unfold Builtin.«any»
  refine wpAny_bind (m := oneArg "any" _) (wpAny_pure ?_)
  refine wpAny_bind (wpAny_pyIter_gen hg5 ?_)
  exact wpAny_pure ⟨plainId_quiet F.plain_any_loop _, any_gloop (Q := Q) hr.hd hr.depth hgn (fun {pa' σ' H' s'} I' => back pa' σ' H' s' I') (fun b H' s' I' q => ⟨.bl b, H', I', rfl, q⟩) n s5 hA⟩
end
end GA
set_option Elab.async false
set_option linter.all false
set_option maxRecDepth 100000
set_option maxHeartbeats 4000000
/-! data that a pure def reads and makes; heaps that only grow; defs whose code object is known -/
namespace JF
open PySem PySem.Spec PyProof.Rows L2 GxR GA

/-! ### any, all over a walk -/
theorem gen_it {sb : Bool} {J : It} {n : Nat} {G : Hp → Prop} {Y : Nat → Hp → V → Hp → Prop} (w : Walk J n G Y) {g : TG} {te : TE} {vs : List Nat} {σ : L2.St} {H : Hp} {Q : VK} (Pv : Nat → Hp → Prop) (h0 : Pv 0 H) (hG : ∀ i H, i ≤ n → Pv i H → G H)
    (hs : ∀ i x H H', i < n → Pv i H → Y i H x H' → g x (wipe σ vs) H' fun σ2 H2 => wipe σ2 vs = wipe σ vs ∧ te σ2 H2 fun y H3 => ∃ b : Bool, y = .bl b ∧ if b = sb then Q (.bl sb) H3 else Pv (i + 1) H3) (hd : ∀ H, Pv n H → Q (.bl (!sb)) H) :
    ∃ W : Nat → Nat → Hp → Prop, (∃ m, W 0 m H) ∧ tGenW sb J g te vs σ Q W := by
  refine ⟨fun i m H => m = n - i ∧ i ≤ n ∧ Pv i H, ⟨n, by simp, Nat.zero_le _, h0⟩, ?_⟩
  rintro i m H ⟨rfl, hi, p⟩
  have q := hG i H hi p
  by_cases hlt : i < n
  · exact .inr ⟨w.goes i H hlt q, Pv (i + 1), fun H' p' => ⟨n - (i + 1), by omega, rfl, hlt, p'⟩, fun x H' y => hs i x H H' hlt p (w.yields i H x H' hlt q y)⟩
  · have e : i = n := by omega
    subst e
    exact .inl ⟨w.stops H q, hd H p⟩

/-! ### heaps that only grow; the tables of code objects at T may have grown -/
def TbOk (T : List Addr) (H : Hp) : Prop := ∀ P ∈ T, TabG H P
structure Ex (T : List Addr) (H H' : Hp) : Prop where
  tb : TbOk T H → TbOk T H'
  keep : ∀ b o, H b = some o → b ∉ T → H' b = some o
theorem Ex.refl {T : List Addr} {H : Hp} : Ex T H H := ⟨id, fun _ _ e _ => e⟩
theorem Ex.trans {T : List Addr} {H H1 H2 : Hp} (a : Ex T H H1) (b : Ex T H1 H2) : Ex T H H2 := ⟨fun h => b.tb (a.tb h), fun c o e n => b.keep c o (a.keep c o e n) n⟩
theorem TabG.upd {H : Hp} {P p : Addr} {o : HO} (h : TabG H P) (n : H p = none) : TabG (upd H p o) P := by
  obtain ⟨ps, e, t⟩ := h
  exact ⟨ps, by rw [upd_ne (ne_of_none e n)]; exact e, t⟩
theorem Ex.new {T : List Addr} {H : Hp} {p : Addr} {o : HO} (n : H p = none) : Ex T H (upd H p o) :=
  ⟨fun h P hP => TabG.upd (h P hP) n, fun b x e _ => by rw [upd_ne (ne_of_none e n)]; exact e⟩
theorem Ex.tabbed {T : List Addr} {H H' : Hp} {P : Addr} (hP : P ∈ T) (h : Tabbed P H H') : Ex T H H' :=
  ⟨fun t Pz hz => by
    by_cases e : Pz = P
    · rw [e]; exact h.1
    · obtain ⟨ps, q, r⟩ := t Pz hz
      exact ⟨ps, by rw [h.2 _ e]; exact q, r⟩,
   fun b o e n => by rw [h.2 b (fun z => n (z ▸ hP))]; exact e⟩
theorem TbOk.seqN {T : List Addr} {H : Hp} {a : Addr} {o : HO} (t : TbOk T H) (h : H a = some o) (n : ∀ ps, o ≠ .tbl ps) : a ∉ T := fun z => by
  obtain ⟨ps, e, _⟩ := t a z
  rw [h] at e
  exact n ps (Option.some.inj e)
theorem Ex.sqL {K : PySem.W.Frag} {T : List Addr} {H H' : Hp} {a : Addr} {xs : List V} (x : Ex T H H') (t : TbOk T H) (h : SqL K H a xs) : SqL K H' a xs := by
  rcases h with (h | ⟨o, h⟩) | h
  · exact .inl (.inl (x.keep _ _ h (t.seqN h fun _ z => by cases z)))
  · exact .inl (.inr ⟨o, x.keep _ _ h (t.seqN h fun _ z => by cases z)⟩)
  · exact .inr h
theorem Ex.sqT {K : PySem.W.Frag} {T : List Addr} {H H' : Hp} {a : Addr} {xs : List V} (x : Ex T H H') (t : TbOk T H) (h : SqT K H a xs) : SqT K H' a xs := by
  rcases h with (h | ⟨o, h⟩) | h
  · exact .inl (.inl (x.keep _ _ h (t.seqN h fun _ z => by cases z)))
  · exact .inl (.inr ⟨o, x.keep _ _ h (t.seqN h fun _ z => by cases z)⟩)
  · exact .inr h

/-! ### data: none, truths, ints, texts, lists, tuples; any dict is .dict [] -/
mutual
inductive Rp (K : PySem.W.Frag) (H : Hp) : V → PyData → Prop
  | non : Rp K H .non .none
  | bl (b : Bool) : Rp K H (.bl b) (.bool b)
  | int (i : Int) : Rp K H (.int i) (.int i)
  | str (x : Str) : x.length ≤ 65536 → Rp K H (.str x) (.str x)
  | lst {a : Addr} {xs : List V} {ds : List PyData} : SqL K H a xs → RpAll K H xs ds → Rp K H (.ref a) (.list ds)
  | tup {a : Addr} {xs : List V} {ds : List PyData} : SqT K H a xs → RpAll K H xs ds → Rp K H (.ref a) (.tuple ds)
  | dic {a : Addr} {kvs : List (Key × V)} : H a = some (.dK kvs) → Rp K H (.ref a) (.dict [])
inductive RpAll (K : PySem.W.Frag) (H : Hp) : List V → List PyData → Prop
  | nil : RpAll K H [] []
  | cons {v : V} {vs : List V} {d : PyData} {ds : List PyData} : Rp K H v d → RpAll K H vs ds → RpAll K H (v :: vs) (d :: ds)
end
section
variable {K : PySem.W.Frag} {T : List Addr} {H H' : Hp}
theorem RpAll.len : ∀ {vs : List V} {ds : List PyData}, RpAll K H vs ds → vs.length = ds.length
  | _, _, .nil => rfl
  | _, _, .cons _ t => by rw [List.length_cons, List.length_cons, t.len]
theorem RpAll.get : ∀ {vs : List V} {ds : List PyData} {i : Nat} {v : V}, RpAll K H vs ds → vs[i]? = some v → ∃ d, ds[i]? = some d ∧ Rp K H v d
  | _, _, _, _, .nil, h => by simp at h
  | _, _, 0, v, .cons r _, h => by
    have e : _ = v := Option.some.inj h
    subst e
    exact ⟨_, rfl, r⟩
  | _, _, i + 1, v, .cons _ t, h => RpAll.get (i := i) (v := v) t h
theorem RpAll.getD : ∀ {vs : List V} {ds : List PyData} {i : Nat} {d : PyData}, RpAll K H vs ds → ds[i]? = some d → ∃ v, vs[i]? = some v ∧ Rp K H v d
  | _, _, _, _, .nil, h => by simp at h
  | _, _, 0, d, .cons r _, h => by
    have e : _ = d := Option.some.inj h
    subst e
    exact ⟨_, rfl, r⟩
  | _, _, i + 1, d, .cons _ t, h => RpAll.getD (i := i) (d := d) t h
mutual
theorem Rp.ex (x : Ex T H H') (t : TbOk T H) : ∀ {v : V} {d : PyData}, Rp K H v d → Rp K H' v d
  | _, _, .non => .non
  | _, _, .bl b => .bl b
  | _, _, .int i => .int i
  | _, _, .str s h => .str s h
  | _, _, .lst h r => .lst (x.sqL t h) (RpAll.ex x t r)
  | _, _, .tup h r => .tup (x.sqT t h) (RpAll.ex x t r)
  | _, _, .dic h => .dic (x.keep _ _ h (t.seqN h fun _ z => by cases z))
theorem RpAll.ex (x : Ex T H H') (t : TbOk T H) : ∀ {vs : List V} {ds : List PyData}, RpAll K H vs ds → RpAll K H' vs ds
  | _, _, .nil => .nil
  | _, _, .cons r s => .cons (Rp.ex x t r) (RpAll.ex x t s)
end
/-- the name of a datum's type -/
def tyN : PyData → String
  | .none => "NoneType"
  | .bool _ => "bool"
  | .int _ => "int"
  | .str _ => "str"
  | .list _ => "list"
  | .tuple _ => "tuple"
  | .dict _ => "dict"
theorem Rp.ty {v : V} {d : PyData} (r : Rp K H v d) : TyB K H v (tyN d) := by
  cases r with
  | non => exact .non
  | bl b => exact .bl b
  | int i => exact .int i
  | str x _ => exact .str x
  | lst h _ => exact .lst h
  | tup h _ => exact .tup h
  | dic h => exact .dK h
end
/-- type(x) is T, asked of a datum -/
theorem ty_dec (d : PyData) (s : String) : decide (tyN d = s) = (tyN d == s) := by
  by_cases h : tyN d = s
  · rw [decide_eq_true h, h]; simp
  · rw [decide_eq_false h]; exact (beq_eq_false_iff_ne.mpr h).symm

/-! ### any, all with pure elements -/
def genR {α : Type} (sb : Bool) (xs : List α) (b : α → Bool) : Bool := if sb then xs.any b else xs.all b
theorem genR_found {α : Type} {sb : Bool} {xs : List α} {b : α → Bool} {a : α} (h : a ∈ xs) (e : b a = sb) : genR sb xs b = sb := by
  cases sb with
  | true => exact List.any_eq_true.mpr ⟨a, h, e⟩
  | false =>
    show xs.all b = false
    cases q : xs.all b with
    | false => rfl
    | true => rw [List.all_eq_true.mp q a h] at e; cases e
theorem genR_end {α : Type} {sb : Bool} {xs : List α} {b : α → Bool} (h : ∀ a ∈ xs, b a = !sb) : genR sb xs b = !sb := by
  cases sb with
  | true =>
    show xs.any b = false
    cases q : xs.any b with
    | false => rfl
    | true =>
      obtain ⟨a, ha, e⟩ := List.any_eq_true.mp q
      rw [h a ha] at e; cases e
  | false => exact List.all_eq_true.mpr h
theorem gen_bools {T : List Addr} {α : Type} {sb : Bool} {J : It} {n : Nat} {G : Hp → Prop} {Y : Nat → Hp → V → Hp → Prop} (w : Walk J n G Y) {g : TG} {te : TE} {vs : List Nat} {σ : L2.St} {H : Hp} {Q : VK} (xs : List α) (hn : xs.length = n) (b : α → Bool)
    (hG : ∀ H', Ex T H H' → G H')
    (hs : ∀ i x a H' H2, Ex T H H' → xs[i]? = some a → Y i H' x H2 → ∀ Q' : VK, (∀ H3, Ex T H H3 → Q' (.bl (b a)) H3) → g x (wipe σ vs) H2 fun σ2 H3 => wipe σ2 vs = wipe σ vs ∧ te σ2 H3 Q')
    (hd : ∀ H', Ex T H H' → Q (.bl (genR sb xs b)) H') : ∃ W : Nat → Nat → Hp → Prop, (∃ m, W 0 m H) ∧ tGenW sb J g te vs σ Q W := by
  refine gen_it w (fun i H' => Ex T H H' ∧ ∀ a ∈ xs.take i, b a = !sb) ⟨Ex.refl, by simp⟩ (fun i H' _ p => hG H' p.1) (fun i x H' H2 hi p y => ?_) (fun H' p => ?_)
  · have hi' : i < xs.length := by omega
    refine hs i x xs[i] H' H2 p.1 (List.getElem?_eq_getElem hi') y _ fun H3 x3 => ⟨b xs[i], rfl, ?_⟩
    by_cases hb : b xs[i] = sb
    · rw [if_pos hb]
      have := hd H3 x3
      rw [genR_found (List.getElem_mem hi') hb] at this
      exact this
    · rw [if_neg hb]
      refine ⟨x3, fun a ha => ?_⟩
      rw [List.take_succ, List.getElem?_eq_getElem hi'] at ha
      rcases List.mem_append.mp ha with z | z
      · exact p.2 a z
      · have e : a = xs[i] := by simpa using z
        rw [e]
        cases q : b xs[i] <;> cases sb <;> simp_all
  · have := hd H' p.1
    rw [genR_end (fun a ha => p.2 a (by rw [List.take_of_length_le (by omega)]; exact ha))] at this
    exact this
/-- over a text -/
theorem gen_signs {T : List Addr} {sb : Bool} {g : TG} {te : TE} {vs : List Nat} {σ : L2.St} {H : Hp} {Q : VK} (z : Str) (b : Nat → Bool)
    (hs : ∀ c H', Ex T H H' → ∀ Q' : VK, (∀ H3, Ex T H H3 → Q' (.bl (b c)) H3) → g (.str ⟨#[c]⟩) (wipe σ vs) H' fun σ2 H3 => wipe σ2 vs = wipe σ vs ∧ te σ2 H3 Q')
    (hd : ∀ H', Ex T H H' → Q (.bl (genR sb z.cps.toList b)) H') : ∃ W : Nat → Nat → Hp → Prop, (∃ m, W 0 m H) ∧ tGenW sb (Its z) g te vs σ Q W :=
  gen_bools (T := T) walk_str z.cps.toList (by simp) b (fun _ _ => trivial) (fun i x a H' H2 e ha y Q' hq => by
    obtain ⟨rfl, c, hc, rfl⟩ := y
    have e2 : z.cps.toList[i]? = some c := by simpa using hc
    rw [e2] at ha
    cases ha
    exact hs _ _ e Q' hq) hd
/-- over a tuple of data -/
theorem gen_tup {K : PySem.W.Frag} {T : List Addr} {sb : Bool} {g : TG} {te : TE} {vs : List Nat} {σ : L2.St} {H : Hp} {Q : VK} {a : Addr} {xs : List V} {ds : List PyData} (t : TbOk T H) (hx : SqT K H a xs) (r : RpAll K H xs ds) (b : PyData → Bool)
    (hs : ∀ v d H', Ex T H H' → d ∈ ds → Rp K H' v d → ∀ Q' : VK, (∀ H3, Ex T H H3 → Q' (.bl (b d)) H3) → g v (wipe σ vs) H' fun σ2 H3 => wipe σ2 vs = wipe σ vs ∧ te σ2 H3 Q')
    (hd : ∀ H', Ex T H H' → Q (.bl (genR sb ds b)) H') : ∃ W : Nat → Nat → Hp → Prop, (∃ m, W 0 m H) ∧ tGenW sb (Itt K a) g te vs σ Q W :=
  gen_bools (T := T) walk_tup ds (by rw [r.len]) b (fun _ e => e.sqT t hx) (fun i x d H' H2 e hd y Q' hq => by
    obtain ⟨rfl, hv⟩ := y
    obtain ⟨d', hd', rd⟩ := r.get hv
    rw [hd] at hd'
    cases hd'
    exact hs _ _ _ e (List.mem_of_getElem? hd) (rd.ex e t) Q' hq) hd
/-- over a list of data -/
theorem gen_lst {K : PySem.W.Frag} {T : List Addr} {sb : Bool} {g : TG} {te : TE} {vs : List Nat} {σ : L2.St} {H : Hp} {Q : VK} {a : Addr} {xs : List V} {ds : List PyData} (t : TbOk T H) (hx : SqL K H a xs) (r : RpAll K H xs ds) (b : PyData → Bool)
    (hs : ∀ v d H', Ex T H H' → d ∈ ds → Rp K H' v d → ∀ Q' : VK, (∀ H3, Ex T H H3 → Q' (.bl (b d)) H3) → g v (wipe σ vs) H' fun σ2 H3 => wipe σ2 vs = wipe σ vs ∧ te σ2 H3 Q')
    (hd : ∀ H', Ex T H H' → Q (.bl (genR sb ds b)) H') : ∃ W : Nat → Nat → Hp → Prop, (∃ m, W 0 m H) ∧ tGenW sb (Itl K a) g te vs σ Q W :=
  gen_bools (T := T) walk_list ds (by rw [r.len]) b (fun _ e => e.sqL t hx) (fun i x d H' H2 e hd y Q' hq => by
    obtain ⟨rfl, hv⟩ := y
    obtain ⟨d', hd', rd⟩ := r.get hv
    rw [hd] at hd'
    cases hd'
    exact hs _ _ _ e (List.mem_of_getElem? hd) (rd.ex e t) Q' hq) hd

/-! ### a def whose code object is at c -/
structure FunC (K : PySem.W.Frag) (x qual : Str) (st : Stmt) (f : Addr) (fd : FuncData) (c : Addr) : Prop where
  ex : ∃ (oc : Value) (od : Option Addr) (kV doc pm : Value) (an : Option Addr) (ct : Value) (osl : Array (Option Value)),
    fd = PySem.W.fnOf x qual (defArgs st) (defBody st) (defScope st) .none kV doc pm an (.ref c) ct ∧ K.lookup f = some ⟨oc, od, .func fd, osl⟩ ∧ PySem.W.codeIn K (.ref c) qual = true
  kp : PySem.W.keepIn K (.ref f) = true
section
variable {P : Program} {w : World} {K : PySem.W.Frag} {mg : Str → Option Value} {base : Heap}
theorem FunC.ok {x qual : Str} {st : Stmt} {f c : Addr} {fd : FuncData} {N ps : List Str} {k : Nat} {sp : Sp} (F : FunC K x qual st f fd c) (S : FnScope N ps (defScope st)) (len : ∀ vs H Q E, sp vs H Q E → vs.length = ps.length)
    (hbody : ∀ (A : Around) (outer : List Env) (s : Shared) (H : Hp) (vs : List V) (Q : VK) (E : XK), Room k (A.deeper (envOfC qual (defScope st) s.heap.objs.size f (.ref c))) → sp vs H Q E →
      ∃ t, PSs (cxOf CX0 P w K mg base N qual (defScope st) f (.ref c) A outer s H E).nox (defBody st) t ∧ t { nx := fun _ H' => Q .non H', rt := Q } (start N vs) H) : FnOk P w K mg base CX0 (k + 1) f fd ps sp := by
  obtain ⟨oc, od, kV, doc, pm, an, ct, osl, rfl, lk, hcd⟩ := F.ex
  refine fn_of lk hcd S len fun A outer s H vs Q E hr hsp => ?_
  obtain ⟨t, h, q⟩ := hbody A outer s H vs Q E hr hsp
  exact ⟨t, h.nox, q⟩
theorem FunC.binds {x qual : Str} {st : Stmt} {f c : Addr} {fd : FuncData} {ps : List Str} (F : FunC K x qual st f fd c)
    (h : ∀ (kV doc pm : Value) (an : Option Addr) (ct : Value) (us : List Value), us.length = ps.length → bindArgs (PySem.W.fnOf x qual (defArgs st) (defBody st) (defScope st) .none kV doc pm an (.ref c) ct) ⟨us, []⟩ = pure (ps.zip us)) : Binds K fd ps [] := by
  obtain ⟨oc, od, kV, doc, pm, an, ct, osl, rfl, lk, hcd⟩ := F.ex
  exact .all (h kV doc pm an ct)
end
end JF
set_option Elab.async false
set_option linter.all false
/-! ifs that meet again -/
namespace JF
open PySem PySem.Spec PyProof.Rows L2
theorem seq_cut {a b : TS} {D : Ends} {σ : L2.St} {H : Hp} (I : L2.St → Hp → Prop) (hb : ∀ σ' H', I σ' H' → b D σ' H') (ha : (∀ σ' H', I σ' H' → b D σ' H') → tSeq a b D σ H) : tSeq a b D σ H := ha hb
theorem ifs_cut {t : TT} {a b : TS} {D : Ends} {σ : L2.St} {H : Hp} (I : Hp → Prop) (ha : ∀ H', I H' → a D σ H') (h : (∀ H', I H' → a D σ H') → tIfS t a b D σ H) : tIfS t a b D σ H := h ha
end JF
set_option Elab.async false
set_option linter.all false
set_option maxRecDepth 100000
set_option maxHeartbeats 4000000
namespace JF
open PySem PySem.Spec PyProof.Rows L2
def topS (i : Nat) : Stmt := PySem.Challenge.pw_justfreed_k30_whole_texts_written.main.body.getD i (.Pass ⟨0, 0, 0, 0⟩)
abbrev sWell : Stmt := topS 67
abbrev sDraw : Stmt := topS 68
/-! ### the well of draws that reads the script cell by cell -/
/-- what stands in the well's own two lists; b bounds how often it was drawn from -/
def WellOk (q : Addr) (b : Nat) (l l2 : List V) : Prop := ∃ (c i n : Int) (ts : List Int), l = [.int c, .int i, .ref q, .int n] ∧ l2 = ts.map V.int ∧ 0 ≤ c ∧ 0 ≤ i ∧ i ≤ b ∧ 0 ≤ n ∧ n ≤ b ∧ ts.length ≤ 63
theorem WellOk.le {q : Addr} {b b' : Nat} {l l2 : List V} (h : WellOk q b l l2) (hb : b ≤ b') : WellOk q b' l l2 := by
  obtain ⟨c, i, n, ts, e1, e2, c0, i0, i1, n0, n1, tl⟩ := h
  exact ⟨c, i, n, ts, e1, e2, c0, i0, by omega, n0, by omega, tl⟩
/-- a well at p, its cells at q -/
def WellAt (q : Addr) (b : Nat) (H : Hp) (p : Addr) : Prop := ∃ l l2, p ≠ q ∧ H p = some (.lst l) ∧ H q = some (.lst l2) ∧ WellOk q b l l2
def spWell (K : PySem.W.Frag) : Sp := fun vs H Q _ => ∃ (a : Addr) (ns : List Int) (at' : Int), vs = [.ref a, .int at'] ∧ SqL K H a (ns.map V.int) ∧ ns.length ≤ 63 ∧ at' = 0 ∧ ∀ (H' : Hp) (p q : Addr), Same H H' → H p = none → H q = none → WellAt q 0 H' p → Q (.ref p) H'
theorem same_upd {H : Hp} {p : Addr} {o : HO} (h : H p = none) : Same H (upd H p o) := fun b x e => by
  rw [upd_ne (ne_of_none e h)]
  exact e
section
variable {P : Program} {w : World} {K : PySem.W.Frag} {mg : Str → Option Value} {base : Heap}
theorem scWell : FnScope ["script", "at"] ["script", "at"] (defScope sWell) := ⟨rfl, rfl, rfl, by decide +kernel, rfl, by decide +kernel, by decide +kernel⟩
theorem ok_well {f : Addr} {fd : FuncData} (F : Fun K "_law_well" "_law_well" sWell f fd) (ml : mg "list" = none) : FnOk P w K mg base CX0 1 f fd ["script", "at"] (spWell K) := by
  refine F.ok scWell (fun vs H Q E h => ?_) (fun cdv A outer s H vs Q E hr h => ?_)
  · obtain ⟨a, ns, at', rfl, _⟩ := h
    rfl
  · obtain ⟨a, ns, at', rfl, hS, hlen, h0, k⟩ := h
    refine ⟨_, pss_one (ps_ret (pe_lst (pa_cons pe_int (pa_cons (pv 1) (pa_cons (pe_callTy call_list_of (by rfl) ml (by decide +kernel) (pa_cons (pv 0) pa_nil)) (pa_cons pe_int pa_nil)))))), ?_⟩
    refine ⟨_, rfl, _, rfl, a, _, rfl, .inl hS, fun q hq => ⟨by show 4 ≤ sizeLine; decide, fun p hp => ?_⟩⟩
    have hpq : p ≠ q := fun e => by rw [e, upd_same] at hp; cases hp
    have hp0 : H p = none := by rwa [upd_ne hpq] at hp
    exact k _ p q ((same_upd hq).trans (same_upd hp)) hp0 hq ⟨_, _, hpq, upd_same, by rw [upd_ne hpq.symm, upd_same], 0, at', 0, ns, rfl, rfl, Int.le_refl _, by omega, by omega, Int.le_refl _, by omega, hlen⟩
/-- a draw below many; all but the well's own two lists stands as it stood -/
def spDraw : Sp := fun vs H Q _ => ∃ (p q : Addr) (b : Nat) (many : Int), vs = [.ref p, .int many] ∧ WellAt q b H p ∧ 0 < many ∧ many < 1152921504606846976 ∧ b < 1000000 ∧
  ∀ (H' : Hp) (r : Int), 0 ≤ r → r < many → (∀ x o, H x = some o → x ≠ p → x ≠ q → H' x = some o) → WellAt q (b + 1) H' p → Q (.int r) H'
theorem scDraw : FnScope ["well", "many", "cells", "cell", "got"] ["well", "many"] (defScope sDraw) := ⟨rfl, rfl, rfl, by decide +kernel, rfl, by decide +kernel, by decide +kernel⟩
/-- xs[i], i not negative, for xs[i] += e -/
theorem gget_list {X : Cx} : PGet X (fun x y H Q => ∃ p xs i v, x = .ref p ∧ y = .int i ∧ SqL X.K H p xs ∧ 0 ≤ i ∧ i < 2 ^ 63 ∧ xs[i.toNat]? = some v ∧ Q v H) := by
  intro pins s σ H x y v u Q I rx ry h
  obtain ⟨p, xs, i, z, rfl, rfl, hq, h0, h1, he, q⟩ := h
  cases rx
  obtain ⟨t, rfl⟩ := ry
  obtain ⟨its, r, pl, hz⟩ := I.list hq
  obtain ⟨w, ew, rw'⟩ := r.get he
  exact wpAny_getItem_list pl.isList h0 h1 (x := w) (by simpa using ew) ⟨z, H, I, rw', q⟩
theorem abs0 (x : Int) : 0 ≤ (if x < 0 then -x else x) := by split <;> omega
theorem ok_draw {f : Addr} {fd : FuncData} (F : Fun K "_law_draw" "_law_draw" sDraw f fd) (mi : mg "int" = none) (ma : mg "abs" = none) (mlen : mg "len" = none) : FnOk P w K mg base CX0 1 f fd ["well", "many"] spDraw := by
  refine F.ok scDraw (fun vs H Q E h => ?_) (fun cdv A outer s H vs Q E hr h => ?_)
  · obtain ⟨p, q, b, many, rfl, _⟩ := h
    rfl
  · obtain ⟨p, q, b, many, rfl, ⟨l, l2, hpq, hp, hq, c, i, n, ts, rfl, rfl, c0, i0, i1, n0, n1, hl⟩, hm0, hm1, hb, k⟩ := h
    refine ⟨_, pss_cons (ps_set (i := 2) scDraw.nd rfl (.inl rfl) (pe_ix ix_list (pv 0) pe_int (fun _ _ => rfl)))
      (pss_cons (ps_if (pt_cmpR op_eq (pe_ix ix_list (pv 0) pe_int (fun _ _ => rfl)) pe_int (nomark _))
        (pss_cons (ps_set (i := 3) scDraw.nd rfl (.inl rfl) pe_int)
        (pss_cons (ps_if (pt_cmpR op_lt (pe_ix ix_list (pv 0) pe_int (fun _ _ => rfl)) (pe_callB call_len_seq (by rfl) mlen PySem.boot_len (pa_cons (pv 2) pa_nil)) (nomark _))
          (pss_one (ps_set (i := 3) scDraw.nd rfl (.inl rfl) (pe_callB call_abs (by rfl) ma (by decide +kernel) (pa_cons (pe_ix ix_list (pv 2) (pe_ix ix_list (pv 0) pe_int (fun _ _ => rfl)) (fun _ _ => rfl)) pa_nil)))) pss_nil)
        (pss_cons (ps_if (pt_cmpR op_lt (pv 3) (pe_op op_pow pe_int pe_int) (nomark _))
          (pss_cons (ps_set (i := 3) scDraw.nd rfl (.inl rfl) (pe_op op_add (pe_op op_add (pe_op op_add (pe_op op_mul (pv 3) pe_int) (pe_op op_mul (pe_ix ix_list (pv 0) pe_int (fun _ _ => rfl)) pe_int)) pe_int) (pe_op op_mul (pe_ix ix_list (pv 0) pe_int (fun _ _ => rfl)) pe_int)))
          (pss_one (ps_set (i := 3) scDraw.nd rfl (.inl rfl) (pe_op op_add (pe_op op_mul (pe_op op_fdiv (pe_op op_mulW (pv 3) (pv 3)) pe_int) pe_int) (pv 3))))) pss_nil)
        (pss_cons (ps_asg (pv 3) (pg_sub (pv 0) pe_int set_list))
        (pss_cons (ps_augS (pv 0) pe_int gget_list pe_int ip_add set_list)
        (pss_one (ps_augS (pv 0) pe_int gget_list pe_int ip_add set_list)))))))
        pss_nil)
      (pss_cons (ps_set (i := 4) scDraw.nd rfl (.inl rfl) (pe_op op_mod (pe_callTy call_int1 (by rfl) mi (by decide +kernel) (pa_cons (pe_ix ix_list (pv 0) pe_int (fun _ _ => rfl)) pa_nil)) (pv 1)))
      (pss_cons (ps_asg (pe_op op_fdivW (pe_ix ix_list (pv 0) pe_int (fun _ _ => rfl)) (pv 1)) (pg_sub (pv 0) pe_int set_list))
      (pss_one (ps_ret (pv 4)))))), ?_⟩
    have hP : SqL K H p [.int c, .int i, .ref q, .int n] := SqL.of hp
    refine ⟨_, rfl, p, _, _, _, rfl, rfl, hP, atI_nat (j := 2) rfl, ?_⟩
    dsimp only
    refine seq_cut (fun σ G => ∃ a3 c' i' n', σ = [some (.ref p), some (.int many), some (.ref q), a3, none] ∧ G p = some (.lst [.int c', .int i', .ref q, .int n']) ∧ G q = some (.lst (ts.map V.int)) ∧ 0 ≤ c' ∧ 0 ≤ i' ∧ i' ≤ b + 1 ∧ 0 ≤ n' ∧ n' ≤ b + 1 ∧ ∀ x o, H x = some o → x ≠ p → G x = some o)
      (fun σ G ⟨a3, c', i', n', eσ, gp, gq, d0, e0, e1, f0, f1, kp⟩ => ?_) (fun rest => ?_)
    · subst eσ
      clear hP hp hq c0 i0 i1 n0 n1
      have hP : SqL K G p [.int c', .int i', .ref q, .int n'] := SqL.of gp
      refine ⟨_, rfl, p, _, _, _, rfl, rfl, hP, atI_nat (j := 0) rfl, .inl ⟨_, rfl, _, rfl, _, _, rfl, rfl, hm0, ?_⟩⟩
      refine ⟨_, rfl, p, _, _, _, rfl, rfl, hP, atI_nat (j := 0) rfl, _, rfl, _, _, rfl, rfl, wide_div (b := 60) hm0 (by omega) (by decide) (by decide), _, rfl, p, _, _, 0, rfl, rfl, gp, rfl, _, rfl, ?_⟩
      exact k _ _ (Int.emod_nonneg _ (by omega)) (Int.emod_lt_of_pos _ hm0) (fun x o hx h1 h2 => by rw [upd_ne h1]; exact kp x o hx h1)
        ⟨_, _, hpq, upd_same, by rw [upd_ne hpq.symm]; exact gq, c' / many, i', n', ts, rfl, rfl, Int.ediv_nonneg d0 (by omega), e0, by omega, f0, by omega, hl⟩
    · refine ⟨_, rfl, p, _, _, _, rfl, rfl, hP, atI_nat (j := 0) rfl, rfl, _, rfl, ite2 (fun e => ?_) (fun e => ?_)⟩
      rotate_left
      · exact rest _ _ ⟨_, c, i, n, rfl, hp, hq, c0, i0, by omega, n0, by omega, fun x o hx _ => hx⟩
      · refine seq_cut (fun σ G => H = G ∧ σ = [some (.ref p), some (.int many), some (.ref q), some (.int 7), none]) (fun σ G1 ⟨eG, eσ⟩ => ?_) (fun rest1 => rest1 _ _ ⟨rfl, rfl⟩)
        subst eσ
        subst eG
        refine seq_cut (fun σ G' => H = G' ∧ ∃ m, σ = [some (.ref p), some (.int many), some (.ref q), some (.int m), none] ∧ 0 ≤ m) (fun σ G' ⟨eG, m, eσ, m0⟩ => ?_) (fun rest2 => ?_)
        · subst eσ eG
          refine seq_cut (fun σ G' => H = G' ∧ ∃ m, σ = [some (.ref p), some (.int many), some (.ref q), some (.int m), none] ∧ 0 ≤ m) (fun σ G' ⟨eG, m, eσ, m0⟩ => ?_) (fun rest3 => ?_)
          · subst eσ eG
            refine ⟨_, rfl, _, rfl, p, _, _, 0, rfl, rfl, hp, rfl, ?_⟩
            refine ⟨_, rfl, p, _, _, _, rfl, rfl, SqL.of upd_same, by decide, by decide, rfl, _, _, rfl, rfl, p, _, _, 1, rfl, rfl, upd_same, rfl, ?_⟩
            refine ⟨_, rfl, p, _, _, _, rfl, rfl, SqL.of upd_same, by decide, by decide, rfl, _, _, rfl, rfl, p, _, _, 3, rfl, rfl, upd_same, rfl, ?_⟩
            refine rest _ _ ⟨_, m, i + 1, n + 1, rfl, upd_same, by rw [upd_ne hpq.symm, upd_ne hpq.symm, upd_ne hpq.symm]; exact hq, m0, by omega, by omega, by omega, by omega, fun x o hx h1 => by rw [upd_ne h1, upd_ne h1, upd_ne h1]; exact hx⟩
          · refine ⟨_, rfl, _, _, rfl, rfl, ⟨by decide, by decide, by decide⟩, _, _, rfl, rfl, _, rfl, ite2 (fun e2 => ?_) (fun e2 => ?_)⟩
            rotate_left
            · exact rest3 _ _ ⟨rfl, m, rfl, m0⟩
            · have e2 : m < 1000000000000000000 := of_decide_eq_true e2
              refine ⟨_, rfl, _, _, rfl, rfl, .inr ⟨by decide, by decide⟩, _, rfl, p, _, _, _, rfl, rfl, hP, atI_nat (j := 1) rfl, _, _, rfl, rfl, .inr ⟨by decide, by decide⟩, _, _, rfl, rfl, _, _, rfl, rfl, _, rfl, p, _, _, _, rfl, rfl, hP, atI_nat (j := 3) rfl, _, _, rfl, rfl, .inr ⟨by decide, by decide⟩, _, _, rfl, rfl, ?_⟩
              obtain ⟨z, hz⟩ : ∃ z, z = m * 1000003 + i * 7919 + 12347 + n * 613 := ⟨_, rfl⟩
              have z0 : 0 ≤ z := by omega
              have z1 : z < 2000000000000000000000000 := by omega
              have zz : 0 ≤ z * z := Int.mul_nonneg z0 z0
              refine ⟨_, rfl, _, rfl, _, _, rfl, rfl, wide_mul (a := 82) (b := 82) (by rw [← hz]; omega) (by rw [← hz]; omega) (by decide) (by decide) (by decide), _, _, rfl, rfl, ⟨by decide, by decide⟩, _, _, rfl, rfl, .inr ⟨by decide, by decide⟩, _, rfl, _, _, rfl, rfl, ?_⟩
              have y0 : 0 ≤ z * z / 97 := Int.ediv_nonneg zz (by decide)
              exact rest3 _ _ ⟨rfl, _, rfl, by rw [← hz]; exact Int.add_nonneg (Int.mul_nonneg y0 (by decide)) z0⟩
        · refine ⟨_, rfl, p, _, _, _, rfl, rfl, hP, atI_nat (j := 1) rfl, _, rfl, q, _, rfl, .inl (SqL.of hq), _, _, rfl, rfl, _, rfl, ite2 (fun e3 => ?_) (fun e3 => ?_)⟩
          rotate_left
          · exact rest2 _ _ ⟨rfl, 7, rfl, by decide⟩
          · have e3 : i < ((ts.map V.int).length : Int) := of_decide_eq_true e3
            rw [List.length_map] at e3
            obtain ⟨j, rfl⟩ := Int.eq_ofNat_of_zero_le i0
            have hj : j < ts.length := by omega
            have hv : (ts.map V.int)[j]? = some (.int ts[j]) := by rw [List.getElem?_map, List.getElem?_eq_getElem hj]; rfl
            refine ⟨_, rfl, _, rfl, p, _, _, _, rfl, rfl, hP, atI_nat (j := 1) rfl, q, _, _, _, rfl, rfl, SqL.of hq, atI_nat (j := j) hv, _, rfl, ?_⟩
            exact rest2 _ _ ⟨rfl, _, rfl, abs0 _⟩
end
end JF
set_option Elab.async false
set_option linter.all false
set_option maxRecDepth 100000
set_option maxHeartbeats 4000000
namespace JF
open PySem PySem.Spec PyProof.Rows L2 GxR GA
/-- the built-in names that the text does not store -/
structure BI (mg : Str → Option Value) : Prop where
  type : mg "type" = none
  int : mg "int" = none
  str : mg "str" = none
  tuple : mg "tuple" = none
  len : mg "len" = none
  all : mg "all" = none
  any : mg "any" = none
abbrev sIsInteger : Stmt := topS 14
abbrev sIsNumber : Stmt := topS 15
abbrev sIsRegister : Stmt := topS 16
abbrev sIsNext : Stmt := topS 17
abbrev sCell : Stmt := topS 18
abbrev sName : Stmt := topS 19
abbrev sLow : Stmt := topS 20
abbrev sHigh : Stmt := topS 21
abbrev sField : Stmt := topS 22
/-! ### what they tell -/
def isI (lo hi : Int) : PyData → Bool
  | .int i => decide (lo ≤ i) && decide (i ≤ hi)
  | _ => false
def spInt (K : PySem.W.Frag) : Sp := fun vs H Q _ => ∃ (v : V) (d : PyData) (lo hi : Int), vs = [v, .int lo, .int hi] ∧ Rp K H v d ∧ Q (.bl (isI lo hi d)) H
/-- a def of one datum that tells a truth -/
def spIs (K : PySem.W.Frag) (T : List Addr) (f : PyData → Bool) : Sp := fun vs H Q _ => ∃ (v : V) (d : PyData), vs = [v] ∧ Rp K H v d ∧ TbOk T H ∧ ∀ H', Ex T H H' → Q (.bl (f d)) H'
def isNumber : PyData → Bool := isI (-1000000000000) 1000000000000
def isRegister : PyData → Bool := isI 0 31
def isNext : PyData → Bool := isI 0 59
section
variable {P : Program} {w : World} {K : PySem.W.Frag} {mg : Str → Option Value} {base : Heap} {T : List Addr}
theorem scInteger : FnScope ["thing", "low", "high"] ["thing", "low", "high"] (defScope sIsInteger) := ⟨rfl, rfl, rfl, by decide +kernel, rfl, by decide +kernel, by decide +kernel⟩
theorem ok_integer {f : Addr} {fd : FuncData} (F : Fun K "is_integer" "is_integer" sIsInteger f fd) (B : BI mg) : FnOk P w K mg base CX0 1 f fd ["thing", "low", "high"] (spInt K) := by
  refine F.ok scInteger (fun vs H Q E h => ?_) (fun cdv A outer s H vs Q E hr h => ?_)
  · obtain ⟨v, d, lo, hi, rfl, _⟩ := h
    rfl
  · obtain ⟨v, d, lo, hi, rfl, r, k⟩ := h
    refine ⟨_, pss_one (ps_ret (pe_and (pe_cmpR op_isTy (pe_callTy call_type1 (by rfl) B.type (by decide +kernel) (pa_cons (pv 0) pa_nil)) (pe_bltn (v := .ty "int") (by rfl) B.int (by decide +kernel) rfl) (nomark _))
      (pe_one (pe_chain op_le op_le (pv 1) (pv 0) (pv 2))))), ?_⟩
    refine ⟨v, rfl, v, tyN d, rfl, r.ty, _, _, rfl, rfl, _, rfl, ite2 (fun e => ?_) (fun e => ?_)⟩
    · cases r with
      | int i =>
        refine ⟨_, rfl, _, rfl, _, _, rfl, rfl, _, rfl, ite2 (fun e1 => ?_) (fun e1 => ?_)⟩
        · refine ⟨_, rfl, _, _, rfl, rfl, ?_⟩
          have e2 : isI lo hi (.int i) = decide (i ≤ hi) := by simp [isI, of_decide_eq_true e1]
          show Q (.bl (decide (i ≤ hi))) H
          rw [← e2]
          exact k
        · have e2 : isI lo hi (.int i) = false := by
            have e3 : ¬ lo ≤ i := fun z => e1 (decide_eq_true z)
            simp [isI, e3]
          show Q (.bl false) H
          rw [← e2]
          exact k
      | non => exact absurd (of_decide_eq_true e) (by simp [tyN])
      | bl b => exact absurd (of_decide_eq_true e) (by simp [tyN])
      | str x _ => exact absurd (of_decide_eq_true e) (by simp [tyN])
      | lst h q => exact absurd (of_decide_eq_true e) (by simp [tyN])
      | tup h q => exact absurd (of_decide_eq_true e) (by simp [tyN])
      | dic h => exact absurd (of_decide_eq_true e) (by simp [tyN])
    · have e2 : isI lo hi d = false := by
        cases d <;> first | rfl | exact absurd (decide_eq_true (by rfl)) e
      show Q (.bl false) H
      rw [← e2]
      exact k
theorem scNumber : FnScope ["thing"] ["thing"] (defScope sIsNumber) := ⟨rfl, rfl, rfl, by decide +kernel, rfl, by decide +kernel, by decide +kernel⟩
theorem ok_number {f g : Addr} {fd gd : FuncData} {t : Tok} (F : Fun K "is_number" "is_number" sIsNumber f fd) (G : FnOk P w K mg base CX0 1 g gd ["thing", "low", "high"] (spInt K)) (mG : mg "is_integer" = some (.ref g)) (kG : PySem.W.keepIn K (.ref g) = true) (bG : Binds K gd ["thing", "low", "high"] [])
    (mN : mg "GREATEST_NUMBER" = some (.int 1000000000000 t)) : FnOk P w K mg base CX0 2 f fd ["thing"] (spIs K T isNumber) := by
  refine F.ok scNumber (fun vs H Q E h => ?_) (fun cdv A outer s H vs Q E hr h => ?_)
  · obtain ⟨v, d, rfl, _⟩ := h
    rfl
  · obtain ⟨v, d, rfl, r, tb, k⟩ := h
    refine ⟨_, pss_one (ps_ret (pe_call G hr rfl mG kG bG .nil pass0 (pa_cons (pv 0) (pa_cons (pe_un un_neg (pe_glob (v := .int 1000000000000) rfl mN ⟨_, rfl⟩)) (pa_cons (pe_glob (v := .int 1000000000000) rfl mN ⟨_, rfl⟩) pa_nil))))), ?_⟩
    exact ⟨v, rfl, _, rfl, v, d, _, _, rfl, r, k _ Ex.refl⟩
theorem scRegister : FnScope ["thing"] ["thing"] (defScope sIsRegister) := ⟨rfl, rfl, rfl, by decide +kernel, rfl, by decide +kernel, by decide +kernel⟩
theorem ok_register {f g : Addr} {fd gd : FuncData} (F : Fun K "is_register" "is_register" sIsRegister f fd) (G : FnOk P w K mg base CX0 1 g gd ["thing", "low", "high"] (spInt K)) (mG : mg "is_integer" = some (.ref g)) (kG : PySem.W.keepIn K (.ref g) = true) (bG : Binds K gd ["thing", "low", "high"] []) {t : Tok} (mR : mg "REGISTERS" = some (.int 32 t)) :
    FnOk P w K mg base CX0 2 f fd ["thing"] (spIs K T isRegister) := by
  refine F.ok scRegister (fun vs H Q E h => ?_) (fun cdv A outer s H vs Q E hr h => ?_)
  · obtain ⟨v, d, rfl, _⟩ := h
    rfl
  · obtain ⟨v, d, rfl, r, tb, k⟩ := h
    refine ⟨_, pss_one (ps_ret (pe_call G hr rfl mG kG bG .nil pass0 (pa_cons (pv 0) (pa_cons pe_int (pa_cons (pe_op op_sub (pe_glob (v := .int 32) rfl mR ⟨_, rfl⟩) pe_int) pa_nil))))), ?_⟩
    exact ⟨v, rfl, _, _, rfl, rfl, v, d, 0, 31, rfl, r, k _ Ex.refl⟩
theorem scNext : FnScope ["thing"] ["thing"] (defScope sIsNext) := ⟨rfl, rfl, rfl, by decide +kernel, rfl, by decide +kernel, by decide +kernel⟩
theorem ok_next {f g : Addr} {fd gd : FuncData} (F : Fun K "is_next" "is_next" sIsNext f fd) (G : FnOk P w K mg base CX0 1 g gd ["thing", "low", "high"] (spInt K)) (mG : mg "is_integer" = some (.ref g)) (kG : PySem.W.keepIn K (.ref g) = true) (bG : Binds K gd ["thing", "low", "high"] []) :
    FnOk P w K mg base CX0 2 f fd ["thing"] (spIs K T isNext) := by
  refine F.ok scNext (fun vs H Q E h => ?_) (fun cdv A outer s H vs Q E hr h => ?_)
  · obtain ⟨v, d, rfl, _⟩ := h
    rfl
  · obtain ⟨v, d, rfl, r, tb, k⟩ := h
    refine ⟨_, pss_one (ps_ret (pe_call G hr rfl mG kG bG .nil pass0 (pa_cons (pv 0) (pa_cons pe_int (pa_cons pe_int pa_nil))))), ?_⟩
    exact ⟨v, rfl, v, d, _, _, rfl, r, k _ Ex.refl⟩
/-! ### names -/
def digit (c : Nat) : Bool := decide (c ∈ (Str.ofString "0123456789").cps.toList)
def nameSign (c : Nat) : Bool := decide (c ∈ (Str.ofString "abcdefghijklmnopqrstuvwxyzABCDEFGHIJKLMNOPQRSTUVWXYZ0123456789").cps.toList)
/-- r or t, and figures alone behind -/
def asCell (z : Str) : Bool := match z.cps.toList with
  | [] => false
  | c :: r => decide (c ∈ (Str.ofString "rt").cps.toList) && r.all digit
theorem cut_tail (z : Str) : (cutS z (some 1) none).cps.toList = z.cps.toList.drop 1 := by
  unfold cutS
  rw [show HT.sIx z.length 0 (some 1) = min 1 z.length from HT.sIx_nat z.length 0 1, HT.sIx_none]
  have hl : z.length = z.cps.toList.length := by simp [Str.length]
  show ((z.cps.toList.drop (min 1 z.length)).take (z.length - min 1 z.length)) = z.cps.toList.drop 1
  rw [hl]
  cases z.cps.toList with
  | nil => rfl
  | cons c r =>
    have e1 : min 1 (c :: r).length = 1 := by rw [List.length_cons]; omega
    rw [e1]
    show List.take ((c :: r).length - 1) r = r
    rw [List.length_cons, Nat.add_sub_cancel]
    exact List.take_length
theorem scCell : FnScope ["name", "sign"] ["name"] (defScope sCell) := ⟨rfl, rfl, rfl, by decide +kernel, rfl, by decide +kernel, by decide +kernel⟩
def spCellN (T : List Addr) : Sp := fun vs H Q _ => ∃ (z : Str), vs = [.str z] ∧ 0 < z.length ∧ z.length ≤ 1000 ∧ TbOk T H ∧ ∀ H', Ex T H H' → Q (.bl (asCell z)) H'
theorem ok_cell {f c Pt : Addr} {fd : FuncData} {t : Tok} (F : FunC K "reads_as_cell" "reads_as_cell" sCell f fd c) (B : BI mg) (TB : TabB base mg c Pt) (hT : Pt ∈ T) (mD : mg "DIGITS" = some (.str "0123456789" t)) :
    FnOk P w K mg base CX0 3 f fd ["name"] (spCellN T) := by
  refine F.ok scCell (fun vs H Q E h => ?_) (fun A outer s H vs Q E hr h => ?_)
  · obtain ⟨z, rfl, _⟩ := h
    rfl
  · obtain ⟨z, rfl, hz, hz2, tb, k⟩ := h
    refine ⟨_, pss_one (ps_ret (pe_and (pe_cmpR op_in_sign (pe_item_str (pv 0) pe_int (fun _ _ => rfl)) pe_str rfl)
      (pe_one (pe_allG (own := [("sign", 1)]) (g := gName 1) (k := 1) hr rfl B.all rfl scCell.nd TB rfl (pi_str (pe_slice sl_str (pv 0) (po_some pe_int) po_none)) (blkOk_by (N := ["name", "sign"]) (sc := defScope sCell) (by decide +kernel)) (by decide +kernel) rfl (by decide +kernel)
        (fun _ _ _ _ _ _ _ _ => pg_name (i := 1) scCell.nd rfl (.inl rfl))
        (fun _ _ _ _ _ _ _ _ => pe_cmpR op_in_sign (pv 1) (pe_glob (v := .str "0123456789") rfl mD ⟨_, rfl⟩) rfl))))), ?_⟩
    obtain ⟨c0, r0, e0⟩ : ∃ c0 r0, z.cps.toList = c0 :: r0 := by
      cases q : z.cps.toList with
      | nil => exact absurd (show 0 < z.cps.toList.length by simpa [Str.length] using hz) (by rw [q]; simp)
      | cons c0 r0 => exact ⟨c0, r0, rfl⟩
    have hc0 : z.cps[(0 : Int).toNat]? = some c0 := by
      have : z.cps.toList[0]? = some c0 := by rw [e0]; rfl
      simpa using this
    have hzi : (0 : Int) < z.length := by exact_mod_cast hz
    refine ⟨_, rfl, z, 0, c0, rfl, rfl, Int.le_refl _, by decide, hzi, hc0, c0, _, rfl, rfl, _, rfl, ite2 (fun e => ?_) (fun e => ?_)⟩
    · refine ⟨_, rfl, 1, rfl, z, rfl, Nat.le_trans hz2 (by decide), _, rfl, tb Pt hT, fun H2 ht => ?_⟩
      have x2 : Ex T H H2 := Ex.tabbed hT ht
      refine gen_signs (T := T) _ digit (fun c1 H3 x3 Q' hq => ⟨rfl, _, rfl, c1, _, rfl, rfl, hq _ x3⟩) (fun H3 x3 => ?_)
      have e2 : genR false (cutS z (some 1) none).cps.toList digit = asCell z := by
        have e3 : (cutS z (some 1) none).cps.toList = r0 := by
          rw [cut_tail, e0]
          rfl
        rw [e3]
        unfold asCell
        rw [e0]
        show _ = (decide (c0 ∈ (Str.ofString "rt").cps.toList) && r0.all digit)
        rw [e]
        rfl
      show Q (.bl (genR false (cutS z (some 1) none).cps.toList digit)) H3
      rw [e2]
      exact k _ (x2.trans x3)
    · have e2 : asCell z = false := by
        unfold asCell
        rw [e0]
        show (decide (c0 ∈ (Str.ofString "rt").cps.toList) && r0.all digit) = false
        cases q : decide (c0 ∈ (Str.ofString "rt").cps.toList) with
        | true => exact absurd q e
        | false => rfl
      show Q (.bl false) H
      rw [← e2]
      exact k _ Ex.refl

def wordsV : List V := (["case", "drop", "entry", "free", "fun", "give", "hold", "in", "into", "kind", "number"] : List Str).map V.str
def firstIn (fs z : Str) : Bool := match z.cps.toList with
  | [] => false
  | c :: _ => decide (c ∈ fs.cps.toList)
/-- a name that begins with one of the signs -/
def isName (fs : Str) : PyData → Bool
  | .str z => (decide (1 ≤ z.length) && decide (z.length ≤ 10)) && (firstIn fs z && z.cps.toList.all nameSign) && (!inV (.str z) wordsV && !asCell z)
  | _ => false
def spName (K : PySem.W.Frag) (T : List Addr) : Sp := fun vs H Q _ => ∃ (v : V) (d : PyData) (fs : Str), vs = [v, .str fs] ∧ Rp K H v d ∧ TbOk T H ∧ ∀ H', Ex T H H' → Q (.bl (isName fs d)) H'
theorem scName : FnScope ["thing", "first_signs", "sign"] ["thing", "first_signs"] (defScope sName) := ⟨rfl, rfl, rfl, by decide +kernel, rfl, by decide +kernel, by decide +kernel⟩
theorem ok_name {f c Pt g pW : Addr} {fd gd : FuncData} {t : Tok} (F : FunC K "is_name" "is_name" sName f fd c) (B : BI mg) (TB : TabB base mg c Pt) (hT : Pt ∈ T) (mS : mg "NAME_SIGNS" = some (.str "abcdefghijklmnopqrstuvwxyzABCDEFGHIJKLMNOPQRSTUVWXYZ0123456789" t))
    (mW : mg "WORDS" = some (.ref pW)) (hW : ∀ H, SqT K H pW wordsV)
    (G : FnOk P w K mg base CX0 3 g gd ["name"] (spCellN T)) (mG : mg "reads_as_cell" = some (.ref g)) (kG : PySem.W.keepIn K (.ref g) = true) (bG : Binds K gd ["name"] []) :
    FnOk P w K mg base CX0 4 f fd ["thing", "first_signs"] (spName K T) := by
  refine F.ok scName (fun vs H Q E h => ?_) (fun A outer s H vs Q E hr h => ?_)
  · obtain ⟨v, d, fs, rfl, _⟩ := h
    rfl
  · obtain ⟨v, d, fs, rfl, r, tb, k⟩ := h
    refine ⟨_, pss_cons (ps_if (PW.pt (pw_or (pt_cmpR op_notTyB (pe_callTy call_type1 (by rfl) B.type (by decide +kernel) (pa_cons (pv 0) pa_nil)) (pe_bltn (v := .ty "str") (by rfl) B.str (by decide +kernel) rfl) (nomark _))
        (pw_or1 (pt_not (pt_chain op_le op_le pe_int (pe_callB call_len_str (by rfl) B.len PySem.boot_len (pa_cons (pv 0) pa_nil)) pe_int))))) (pss_one (ps_ret pe_bl)) pss_nil)
      (pss_cons (ps_if (PW.pt (pw_or (pt_cmpR op_notIn_sign (pe_item_str (pv 0) pe_int (fun _ _ => rfl)) (pv 1) rfl)
        (pw_or1 (pt_val (pe_anyG (own := [("sign", 2)]) (g := gName 2) (k := 2) hr rfl B.any rfl scName.nd TB rfl (pi_str (pv 0)) (blkOk_by (N := ["thing", "first_signs", "sign"]) (sc := defScope sName) (by decide +kernel)) (by decide +kernel) rfl (by decide +kernel)
          (fun _ _ _ _ _ _ _ _ => pg_name (i := 2) scName.nd rfl (.inl rfl))
          (fun _ _ _ _ _ _ _ _ => pe_cmpR op_notIn_sign (pv 2) (pe_glob (v := .str "abcdefghijklmnopqrstuvwxyzABCDEFGHIJKLMNOPQRSTUVWXYZ0123456789") rfl mS ⟨_, rfl⟩) rfl)))))) (pss_one (ps_ret pe_bl)) pss_nil)
      (pss_one (ps_ret (pe_and (pe_cmpR op_notIn_seq (pv 0) (pe_glob (v := .ref pW) rfl mW rfl) rfl) (pe_one (pe_not (pe_call G hr rfl mG kG bG .nil pass0 (pa_cons (pv 0) pa_nil)))))))), ?_⟩
    refine ⟨v, rfl, v, tyN d, rfl, r.ty, _, _, rfl, rfl, _, rfl, ite2 (fun e => ?_) (fun e => ?_)⟩
    · refine iteT ?_
      have e2 : isName fs d = false := by
        cases d <;> first | rfl | exact absurd e (by simp [tyN])
      show Q (.bl false) H
      rw [← e2]
      exact k _ Ex.refl
    · cases r with
      | str z hz =>
        have hzl : z.length ≤ sizeLine := Nat.le_trans hz (by decide)
        have cut : ∀ b : Bool, (decide (1 ≤ z.length) && decide (z.length ≤ 10)) = b → isName fs (.str z) = (b && (firstIn fs z && z.cps.toList.all nameSign) && (!inV (.str z) wordsV && !asCell z)) := fun b hb => by
          show ((decide (1 ≤ z.length) && decide (z.length ≤ 10)) && (firstIn fs z && z.cps.toList.all nameSign) && (!inV (.str z) wordsV && !asCell z)) = _
          rw [hb]
        have no : (decide (1 ≤ z.length) && decide (z.length ≤ 10)) = false → Q (.bl false) H := fun hb => by
          have := k H Ex.refl
          rw [cut _ hb] at this
          exact this
        refine ⟨_, rfl, z, rfl, hzl, _, _, rfl, rfl, _, rfl, ite2 (fun e1 => ?_) (fun e1 => ?_)⟩
        · refine ⟨_, _, rfl, rfl, _, rfl, ?_⟩
          have g1 : 1 ≤ z.length := by have := of_decide_eq_true e1; omega
          show if (!decide ((z.length : Int) ≤ 10)) = true then _ else _
          cases e2 : decide ((z.length : Int) ≤ 10) with
          | false =>
            refine iteT ?_
            refine no ?_
            have : ¬ z.length ≤ 10 := fun q => by
              have h2 : (z.length : Int) ≤ 10 := by omega
              rw [decide_eq_true h2] at e2; cases e2
            rw [decide_eq_false this, Bool.and_false]
          | true =>
            refine iteF ?_
            have g2 : z.length ≤ 10 := by have := of_decide_eq_true e2; omega
            have g0 : (decide (1 ≤ z.length) && decide (z.length ≤ 10)) = true := by rw [decide_eq_true g1, decide_eq_true g2]; rfl
            obtain ⟨c0, r0, e0⟩ : ∃ c0 r0, z.cps.toList = c0 :: r0 := by
              cases q : z.cps.toList with
              | nil => exact absurd (show 1 ≤ z.cps.toList.length by simpa [Str.length] using g1) (by rw [q]; simp)
              | cons c0 r0 => exact ⟨c0, r0, rfl⟩
            have hc0 : z.cps[(0 : Int).toNat]? = some c0 := by
              have : z.cps.toList[0]? = some c0 := by rw [e0]; rfl
              simpa using this
            have hzi : (0 : Int) < z.length := by exact_mod_cast g1
            have hf : firstIn fs z = decide (c0 ∈ fs.cps.toList) := by unfold firstIn; rw [e0]
            refine ⟨_, rfl, z, 0, c0, rfl, rfl, Int.le_refl _, by decide, hzi, hc0, _, rfl, c0, fs, rfl, rfl, _, rfl, ?_⟩
            cases e3 : decide (c0 ∈ fs.cps.toList) with
            | false =>
              refine iteT (iteT ?_)
              have := k H Ex.refl
              rw [cut _ g0, hf, e3] at this
              exact this
            | true =>
              refine iteF ⟨_, rfl, z, rfl, tb Pt hT, fun H2 ht => ?_⟩
              have x2 : Ex T H H2 := Ex.tabbed hT ht
              refine gen_signs (T := T) z (fun c => !nameSign c) (fun c1 H3 x3 Q' hq => ⟨rfl, _, rfl, c1, _, rfl, rfl, hq _ x3⟩) (fun H3 x3 => ⟨_, rfl, ?_⟩)
              have ea : genR true z.cps.toList (fun c => !nameSign c) = !(z.cps.toList.all nameSign) := by
                show z.cps.toList.any (fun c => !nameSign c) = _
                rw [List.not_all_eq_any_not]
              rw [ea]
              cases e4 : z.cps.toList.all nameSign with
              | false =>
                refine iteT ?_
                have := k H3 (x2.trans x3)
                rw [cut _ g0, hf, e3, e4] at this
                exact this
              | true =>
                refine iteF ?_
                have hk : isName fs (.str z) = (!inV (.str z) wordsV && !asCell z) := by
                  rw [cut _ g0, hf, e3, e4]
                  simp
                refine ⟨_, rfl, pW, wordsV, rfl, .inr (hW _), rfl, rfl, _, rfl, ?_⟩
                show if (!inV (V.str z) wordsV) = true then _ else _
                cases e5 : inV (V.str z) wordsV with
                | true =>
                  refine iteF ?_
                  have := k H3 (x2.trans x3)
                  rw [hk, e5] at this
                  exact this
                | false =>
                  refine iteT ⟨_, rfl, z, rfl, g1, by omega, (x2.trans x3).tb tb, fun H4 x4 => ⟨_, rfl, ?_⟩⟩
                  have := k H4 ((x2.trans x3).trans x4)
                  rw [hk, e5] at this
                  exact this
        · refine ⟨_, rfl, iteT (no ?_)⟩
          have : ¬ 1 ≤ z.length := fun q => e1 (decide_eq_true (by omega))
          rw [decide_eq_false this, Bool.false_and]
      | non => exact absurd (by simp [tyN]) e
      | bl b => exact absurd (by simp [tyN]) e
      | int x => exact absurd (by simp [tyN]) e
      | lst h q => exact absurd (by simp [tyN]) e
      | tup h q => exact absurd (by simp [tyN]) e
      | dic h => exact absurd (by simp [tyN]) e

abbrev lowSigns : Str := "abcdefghijklmnopqrstuvwxyz"
abbrev highSigns : Str := "ABCDEFGHIJKLMNOPQRSTUVWXYZ"

theorem scLow : FnScope ["thing"] ["thing"] (defScope sLow) := ⟨rfl, rfl, rfl, by decide +kernel, rfl, by decide +kernel, by decide +kernel⟩
theorem ok_low {f g : Addr} {fd gd : FuncData} {t : Tok} (F : Fun K "is_low_name" "is_low_name" sLow f fd) (G : FnOk P w K mg base CX0 4 g gd ["thing", "first_signs"] (spName K T)) (mG : mg "is_name" = some (.ref g)) (kG : PySem.W.keepIn K (.ref g) = true) (bG : Binds K gd ["thing", "first_signs"] [])
    (mS : mg "SMALL_LETTERS" = some (.str lowSigns t)) : FnOk P w K mg base CX0 5 f fd ["thing"] (spIs K T (isName lowSigns)) := by
  refine F.ok scLow (fun vs H Q E h => ?_) (fun cdv A outer s H vs Q E hr h => ?_)
  · obtain ⟨v, d, rfl, _⟩ := h
    rfl
  · obtain ⟨v, d, rfl, r, tb, k⟩ := h
    refine ⟨_, pss_one (ps_ret (pe_call G hr rfl mG kG bG .nil pass0 (pa_cons (pv 0) (pa_cons (pe_glob (v := .str lowSigns) rfl mS ⟨_, rfl⟩) pa_nil)))), ?_⟩
    exact ⟨v, rfl, v, d, _, rfl, r, tb, k⟩

theorem scHigh : FnScope ["thing"] ["thing"] (defScope sHigh) := ⟨rfl, rfl, rfl, by decide +kernel, rfl, by decide +kernel, by decide +kernel⟩
theorem ok_high {f g : Addr} {fd gd : FuncData} {t : Tok} (F : Fun K "is_high_name" "is_high_name" sHigh f fd) (G : FnOk P w K mg base CX0 4 g gd ["thing", "first_signs"] (spName K T)) (mG : mg "is_name" = some (.ref g)) (kG : PySem.W.keepIn K (.ref g) = true) (bG : Binds K gd ["thing", "first_signs"] [])
    (mS : mg "CAPITAL_LETTERS" = some (.str highSigns t)) : FnOk P w K mg base CX0 5 f fd ["thing"] (spIs K T (isName highSigns)) := by
  refine F.ok scHigh (fun vs H Q E h => ?_) (fun cdv A outer s H vs Q E hr h => ?_)
  · obtain ⟨v, d, rfl, _⟩ := h
    rfl
  · obtain ⟨v, d, rfl, r, tb, k⟩ := h
    refine ⟨_, pss_one (ps_ret (pe_call G hr rfl mG kG bG .nil pass0 (pa_cons (pv 0) (pa_cons (pe_glob (v := .str highSigns) rfl mS ⟨_, rfl⟩) pa_nil)))), ?_⟩
    exact ⟨v, rfl, v, d, _, rfl, r, tb, k⟩

def isHigh : PyData → Bool := isName highSigns
def isLow : PyData → Bool := isName lowSigns
/-- a field's word -/
def isField (d : PyData) : Bool := isHigh d || (match d with | .str z => decide (z = "number") | _ => false)
theorem scField : FnScope ["thing"] ["thing"] (defScope sField) := ⟨rfl, rfl, rfl, by decide +kernel, rfl, by decide +kernel, by decide +kernel⟩
theorem ok_field {f g : Addr} {fd gd : FuncData} (F : Fun K "is_field_word" "is_field_word" sField f fd) (B : BI mg) (G : FnOk P w K mg base CX0 5 g gd ["thing"] (spIs K T isHigh)) (mG : mg "is_high_name" = some (.ref g)) (kG : PySem.W.keepIn K (.ref g) = true) (bG : Binds K gd ["thing"] []) :
    FnOk P w K mg base CX0 6 f fd ["thing"] (spIs K T isField) := by
  refine F.ok scField (fun vs H Q E h => ?_) (fun cdv A outer s H vs Q E hr h => ?_)
  · obtain ⟨v, d, rfl, _⟩ := h
    rfl
  · obtain ⟨v, d, rfl, r, tb, k⟩ := h
    refine ⟨_, pss_one (ps_ret (pe_or (pe_call G hr rfl mG kG bG .nil pass0 (pa_cons (pv 0) pa_nil)) (pe_one (pe_and (pe_cmpR op_isTyB (pe_callTy call_type1 (by rfl) B.type (by decide +kernel) (pa_cons (pv 0) pa_nil)) (pe_bltn (v := .ty "str") (by rfl) B.str (by decide +kernel) rfl) (nomark _))
      (pe_one (pe_cmpR op_eq (pv 0) pe_str (nomark _))))))), ?_⟩
    refine ⟨v, rfl, v, d, rfl, r, tb, fun H1 x1 => ⟨_, rfl, ?_⟩⟩
    cases e : isHigh d with
    | true =>
      refine iteT ?_
      have := k H1 x1
      unfold isField at this
      rw [e] at this
      exact this
    | false =>
      refine iteF ⟨v, rfl, v, tyN d, rfl, (r.ex x1 tb).ty, _, _, rfl, rfl, _, rfl, ite2 (fun e1 => ?_) (fun e1 => ?_)⟩
      · cases r with
        | str z hz =>
          refine ⟨_, rfl, rfl, ?_⟩
          have := k H1 x1
          unfold isField at this
          rw [e] at this
          have e2 : decide (V.str z = V.str "number") = decide (z = "number") := by
            by_cases q : z = "number"
            · rw [decide_eq_true q, q]; exact decide_eq_true rfl
            · rw [decide_eq_false q]; exact decide_eq_false fun h => q (V.str.inj h)
          show Q (.bl (decide (V.str z = V.str "number"))) H1
          rw [e2]
          exact this
        | non => exact absurd (of_decide_eq_true e1) (by simp [tyN])
        | bl b => exact absurd (of_decide_eq_true e1) (by simp [tyN])
        | int x => exact absurd (of_decide_eq_true e1) (by simp [tyN])
        | lst h q => exact absurd (of_decide_eq_true e1) (by simp [tyN])
        | tup h q => exact absurd (of_decide_eq_true e1) (by simp [tyN])
        | dic h => exact absurd (of_decide_eq_true e1) (by simp [tyN])
      · have := k H1 x1
        have e2 : isField d = false := by
          unfold isField
          rw [e]
          cases d <;> first | rfl | exact absurd (decide_eq_true (by simp [tyN])) e1
        rw [e2] at this
        exact this
end
end JF
set_option Elab.async false
set_option linter.all false
set_option maxRecDepth 100000
set_option maxHeartbeats 4000000
namespace JF
open PySem PySem.Spec PyProof.Rows L2 GxR GA
abbrev sTupleOf : Stmt := topS 23
abbrev sPair : Stmt := topS 24
/-- a def that tells a truth of each datum of D -/
def spIsD (K : PySem.W.Frag) (T : List Addr) (D : PyData → Prop) (f : PyData → Bool) : Sp := fun vs H Q _ => ∃ (v : V) (d : PyData), vs = [v] ∧ Rp K H v d ∧ D d ∧ TbOk T H ∧ ∀ H', Ex T H H' → Q (.bl (f d)) H'
/-- the def at g may be called so -/
structure IsDef (P : Program) (w : World) (K : PySem.W.Frag) (mg : Str → Option Value) (base : Heap) (T : List Addr) (k : Nat) (g : Addr) (D : PyData → Prop) (f : PyData → Bool) : Prop where
  ex : ∃ (gd : FuncData) (p : Str), FnOk P w K mg base CX0 k g gd [p] (spIsD K T D f) ∧ PySem.W.keepIn K (.ref g) = true ∧ Binds K gd [p] []
theorem spIs_D {P : Program} {w : World} {K : PySem.W.Frag} {mg : Str → Option Value} {base : Heap} {T : List Addr} {k : Nat} {g : Addr} {gd : FuncData} {ps : List Str} {D : PyData → Prop} {f : PyData → Bool} (G : FnOk P w K mg base CX0 k g gd ps (spIs K T f)) : FnOk P w K mg base CX0 k g gd ps (spIsD K T D f) :=
  G.imp fun vs H Q E ⟨v, d, e, r, _, tb, q⟩ => ⟨v, d, e, r, tb, q⟩
theorem spD_is {P : Program} {w : World} {K : PySem.W.Frag} {mg : Str → Option Value} {base : Heap} {T : List Addr} {k : Nat} {g : Addr} {gd : FuncData} {ps : List Str} {f : PyData → Bool} (G : FnOk P w K mg base CX0 k g gd ps (spIsD K T (fun _ => True) f)) : FnOk P w K mg base CX0 k g gd ps (spIs K T f) :=
  G.imp fun vs H Q E ⟨v, d, e, r, tb, q⟩ => ⟨v, d, e, r, trivial, tb, q⟩
/-- a tuple of least to most entries all of which fit -/
def isTup (lo hi : Int) (f : PyData → Bool) : PyData → Bool
  | .tuple ds => (decide (lo ≤ (ds.length : Int)) && decide ((ds.length : Int) ≤ hi)) && ds.all f
  | _ => false
def inTup (D : PyData → Prop) : PyData → Prop
  | .tuple ds => ∀ d ∈ ds, D d
  | _ => True
def spTupleOf (P : Program) (w : World) (K : PySem.W.Frag) (mg : Str → Option Value) (base : Heap) (T : List Addr) (k : Nat) : Sp := fun vs H Q _ => ∃ (v : V) (d : PyData) (lo hi : Int) (g : Addr) (D : PyData → Prop) (f : PyData → Bool), vs = [v, .int lo, .int hi, .ref g] ∧ Rp K H v d ∧ inTup D d ∧
  IsDef P w K mg base T k g D f ∧ TbOk T H ∧ ∀ H', Ex T H H' → Q (.bl (isTup lo hi f d)) H'
section
variable {P : Program} {w : World} {K : PySem.W.Frag} {mg : Str → Option Value} {base : Heap} {T : List Addr}
theorem scTupleOf : FnScope ["thing", "least", "most", "fits", "part"] ["thing", "least", "most", "fits"] (defScope sTupleOf) := ⟨rfl, rfl, rfl, by decide +kernel, rfl, by decide +kernel, by decide +kernel⟩
theorem ok_tuple_of {f c Pt : Addr} {fd : FuncData} (k : Nat) (F : FunC K "is_tuple_of" "is_tuple_of" sTupleOf f fd c) (B : BI mg) (TB : TabB base mg c Pt) (hT : Pt ∈ T) :
    FnOk P w K mg base CX0 (k + 2) f fd ["thing", "least", "most", "fits"] (spTupleOf P w K mg base T k) := by
  refine F.ok scTupleOf (fun vs H Q E h => ?_) (fun A outer s H vs Q E hr h => ?_)
  · obtain ⟨v, d, lo, hi, g, D, f, rfl, _⟩ := h
    rfl
  · obtain ⟨v, d, lo, hi, g, D, ff, rfl, r, inD, ⟨gd, p, G, kG, bG⟩, tb, q⟩ := h
    refine ⟨_, pss_one (ps_ret (pe_and (pe_cmpR op_isTyB (pe_callTy call_type1 (by rfl) B.type (by decide +kernel) (pa_cons (pv 0) pa_nil)) (pe_bltn (v := .ty "tuple") (by rfl) B.tuple (by decide +kernel) rfl) (nomark _))
      (pe_and (pe_chain op_le op_le (pv 1) (pe_callB call_len_seq (by rfl) B.len PySem.boot_len (pa_cons (pv 0) pa_nil)) (pv 2))
      (pe_one (pe_allG (own := [("part", 4)]) (g := gName 4) (k := k) hr rfl B.all rfl scTupleOf.nd TB rfl (pi_tup (pv 0)) (blkOk_by (N := ["thing", "least", "most", "fits", "part"]) (sc := defScope sTupleOf) (by decide +kernel)) (by decide +kernel) rfl (by decide +kernel)
        (fun _ _ _ _ _ _ _ _ => pg_name (i := 4) scTupleOf.nd rfl (.inl rfl))
        (fun _ _ _ _ _ _ _ hr2 => pe_callL (i := 3) G hr2 rfl (.inr (.inr rfl)) kG bG .nil pass0 (pa_cons (pv 4) pa_nil))))))), ?_⟩
    refine ⟨v, rfl, v, tyN d, rfl, r.ty, _, _, rfl, rfl, _, rfl, ite2 (fun e => ?_) (fun e => ?_)⟩
    · cases r with
      | @tup a xs ds hs rs =>
        have hl := rs.len
        have cut : ∀ b : Bool, (decide (lo ≤ (ds.length : Int)) && decide ((ds.length : Int) ≤ hi)) = b → isTup lo hi ff (.tuple ds) = (b && ds.all ff) := fun b hb => by
          show ((decide (lo ≤ (ds.length : Int)) && decide ((ds.length : Int) ≤ hi)) && ds.all ff) = _
          rw [hb]
        refine ⟨_, rfl, _, rfl, a, xs, rfl, .inr hs, _, _, rfl, rfl, _, rfl, ite2 (fun e1 => ?_) (fun e1 => ?_)⟩
        · refine ⟨_, rfl, _, _, rfl, rfl, _, rfl, ?_⟩
          rw [hl] at e1
          have g1 := e1
          show if decide ((xs.length : Int) ≤ hi) = true then _ else _
          rw [hl]
          cases e2 : decide ((ds.length : Int) ≤ hi) with
          | false =>
            refine iteF ?_
            have := q H Ex.refl
            rw [cut false (by rw [e2, Bool.and_false])] at this
            exact this
          | true =>
            refine iteT ⟨_, rfl, a, rfl, ⟨_, hs⟩, tb Pt hT, fun H2 ht => ?_⟩
            have x2 : Ex T H H2 := Ex.tabbed hT ht
            refine gen_tup (T := T) (x2.tb tb) (x2.sqT tb hs) (rs.ex x2 tb) ff (fun v1 d1 H3 x3 hd1 r1 Q' hq => ⟨rfl, rfl, v1, rfl, v1, d1, rfl, r1, inD d1 hd1, x3.tb (x2.tb tb), fun H4 x4 => hq H4 (x3.trans x4)⟩) (fun H3 x3 => ?_)
            have := q H3 (x2.trans x3)
            rw [cut true (by rw [e2, g1]; rfl)] at this
            exact this
        · refine ⟨_, rfl, iteF ?_⟩
          rw [hl] at e1
          have := q H Ex.refl
          rw [cut false (by cases z : decide (lo ≤ (ds.length : Int)) <;> first | rfl | exact absurd z e1)] at this
          exact this
      | non => exact absurd (of_decide_eq_true e) (by simp [tyN])
      | bl b => exact absurd (of_decide_eq_true e) (by simp [tyN])
      | int x => exact absurd (of_decide_eq_true e) (by simp [tyN])
      | str x _ => exact absurd (of_decide_eq_true e) (by simp [tyN])
      | lst h q => exact absurd (of_decide_eq_true e) (by simp [tyN])
      | dic h => exact absurd (of_decide_eq_true e) (by simp [tyN])
    · have e2 : isTup lo hi ff d = false := by
        cases d <;> first | rfl | exact absurd (decide_eq_true (by simp [tyN])) e
      have := q H Ex.refl
      rw [e2] at this
      exact this
/-- a pair whose entries fit -/
def isPair (f g : PyData → Bool) : PyData → Bool
  | .tuple [a, b] => f a && g b
  | _ => false
def inPair (D E : PyData → Prop) : PyData → Prop
  | .tuple [a, b] => D a ∧ E b
  | _ => True
def spPair (P : Program) (w : World) (K : PySem.W.Frag) (mg : Str → Option Value) (base : Heap) (T : List Addr) (k : Nat) : Sp := fun vs H Q _ => ∃ (v : V) (d : PyData) (g1 g2 : Addr) (D1 D2 : PyData → Prop) (f1 f2 : PyData → Bool), vs = [v, .ref g1, .ref g2] ∧ Rp K H v d ∧ inPair D1 D2 d ∧
  IsDef P w K mg base T k g1 D1 f1 ∧ IsDef P w K mg base T k g2 D2 f2 ∧ TbOk T H ∧ ∀ H', Ex T H H' → Q (.bl (isPair f1 f2 d)) H'
theorem scPair : FnScope ["thing", "fits_first", "fits_second"] ["thing", "fits_first", "fits_second"] (defScope sPair) := ⟨rfl, rfl, rfl, by decide +kernel, rfl, by decide +kernel, by decide +kernel⟩
theorem ok_pair {f : Addr} {fd : FuncData} (k : Nat) (F : Fun K "is_pair" "is_pair" sPair f fd) (B : BI mg) : FnOk P w K mg base CX0 (k + 1) f fd ["thing", "fits_first", "fits_second"] (spPair P w K mg base T k) := by
  refine F.ok scPair (fun vs H Q E h => ?_) (fun cdv A outer s H vs Q E hr h => ?_)
  · obtain ⟨v, d, g1, g2, D1, D2, f1, f2, rfl, _⟩ := h
    rfl
  · obtain ⟨v, d, g1, g2, D1, D2, f1, f2, rfl, r, inD, ⟨gd1, p1, G1, kG1, bG1⟩, ⟨gd2, p2, G2, kG2, bG2⟩, tb, q⟩ := h
    refine ⟨_, pss_one (ps_ret (pe_and (pe_cmpR op_isTyB (pe_callTy call_type1 (by rfl) B.type (by decide +kernel) (pa_cons (pv 0) pa_nil)) (pe_bltn (v := .ty "tuple") (by rfl) B.tuple (by decide +kernel) rfl) (nomark _))
      (pe_and (pe_cmpR op_eq (pe_callB call_len_seq (by rfl) B.len PySem.boot_len (pa_cons (pv 0) pa_nil)) pe_int (nomark _))
      (pe_and (pe_callL (i := 1) G1 hr rfl (.inl rfl) kG1 bG1 .nil pass0 (pa_cons (pe_ix ix_tup (pv 0) pe_int (fun _ _ => rfl)) pa_nil))
      (pe_one (pe_callL (i := 2) G2 hr rfl (.inl rfl) kG2 bG2 .nil pass0 (pa_cons (pe_ix ix_tup (pv 0) pe_int (fun _ _ => rfl)) pa_nil))))))), ?_⟩
    refine ⟨v, rfl, v, tyN d, rfl, r.ty, _, _, rfl, rfl, _, rfl, ite2 (fun e => ?_) (fun e => ?_)⟩
    · cases r with
      | @tup a xs ds hs rs =>
        have hl := rs.len
        refine ⟨_, rfl, a, xs, rfl, .inr hs, rfl, _, rfl, ite2 (fun e1 => ?_) (fun e1 => ?_)⟩
        · have e2 : ds.length = 2 := by
            have := V.int.inj (of_decide_eq_true e1)
            omega
          obtain ⟨d1, d2, rfl⟩ : ∃ d1 d2, ds = [d1, d2] := by
            match ds, e2 with
            | [d1, d2], _ => exact ⟨d1, d2, rfl⟩
          cases rs with
          | cons r1 rs =>
          cases rs with
          | cons r2 rs =>
          cases rs
          refine ⟨rfl, _, rfl, a, _, _, _, rfl, rfl, hs, atI_nat (j := 0) rfl, _, d1, rfl, r1, inD.1, tb, fun H1 x1 => ⟨_, rfl, ?_⟩⟩
          cases e3 : f1 d1 with
          | false =>
            refine iteF ?_
            have := q H1 x1
            have e4 : isPair f1 f2 (.tuple [d1, d2]) = false := by show (f1 d1 && f2 d2) = false; rw [e3]; rfl
            rw [e4] at this
            exact this
          | true =>
            refine iteT ⟨rfl, _, rfl, a, _, _, _, rfl, rfl, x1.sqT tb hs, atI_nat (j := 1) rfl, _, d2, rfl, r2.ex x1 tb, inD.2, x1.tb tb, fun H2 x2 => ?_⟩
            have := q H2 (x1.trans x2)
            have e4 : isPair f1 f2 (.tuple [d1, d2]) = f2 d2 := by show (f1 d1 && f2 d2) = f2 d2; rw [e3]; rfl
            rw [e4] at this
            exact this
        · have e2 : isPair f1 f2 (.tuple ds) = false := by
            match ds, hl with
            | [], _ => rfl
            | [_], _ => rfl
            | [a1, b1], hl => exact absurd (decide_eq_true (by rw [hl]; rfl)) e1
            | _ :: _ :: _ :: _, _ => rfl
          have := q H Ex.refl
          rw [e2] at this
          exact this
      | non => exact absurd (of_decide_eq_true e) (by simp [tyN])
      | bl b => exact absurd (of_decide_eq_true e) (by simp [tyN])
      | int x => exact absurd (of_decide_eq_true e) (by simp [tyN])
      | str x _ => exact absurd (of_decide_eq_true e) (by simp [tyN])
      | lst h q => exact absurd (of_decide_eq_true e) (by simp [tyN])
      | dic h => exact absurd (of_decide_eq_true e) (by simp [tyN])
    · have e2 : isPair f1 f2 d = false := by
        cases d <;> first | rfl | exact absurd (decide_eq_true (by simp [tyN])) e
      have := q H Ex.refl
      rw [e2] at this
      exact this
end
end JF
set_option Elab.async false
set_option linter.all false
set_option maxRecDepth 100000
set_option maxHeartbeats 4000000
/-! list comprehensions of three clauses without tests -/
namespace L3
open PySem PySem.Spec PyProof.Rows L2
section
variable (elt t0 i0 t1 i1 t2 i2 : Expr) (scope : Scope) (pos : Pos)
abbrev lc3 : Expr := .ListComp elt [⟨t0, i0, [], 0⟩, ⟨t1, i1, [], 0⟩, ⟨t2, i2, [], 0⟩] scope pos
theorem turn0 (it acc : Value) (env : Env) : compTurn (lc3 elt t0 i0 t1 i1 t2 i2 scope pos) 0 it acc env = (do
      standAt i0.pos
      match ← pyNext it with
      | none => pure (.done .next)
      | some v =>
        letOwnedTupleGo t0 it v
        assign t0 env v
        let mut ok := true
        for c in ([] : List Expr) do
          if ok then ok ← isTrue c env (eval c env)
        if ok then
          let x ← eval i1 env
          standAt i1.pos
          let x ← foldedSetIterable i1 env x
          let _ ← runOwn (.compStart (lc3 elt t0 i0 t1 i1 t2 i2 scope pos) 1 (← holding [x] (pyIter x)) acc env) env
        again (.compLoop (lc3 elt t0 i0 t1 i1 t2 i2 scope pos) 0 it acc env)) := by rfl
theorem turn1 (it acc : Value) (env : Env) : compTurn (lc3 elt t0 i0 t1 i1 t2 i2 scope pos) 1 it acc env = (do
      standAt i1.pos
      match ← pyNext it with
      | none => pure (.done .next)
      | some v =>
        letOwnedTupleGo t1 it v
        assign t1 env v
        let mut ok := true
        for c in ([] : List Expr) do
          if ok then ok ← isTrue c env (eval c env)
        if ok then
          let x ← eval i2 env
          standAt i2.pos
          let x ← foldedSetIterable i2 env x
          let _ ← runOwn (.compStart (lc3 elt t0 i0 t1 i1 t2 i2 scope pos) 2 (← holding [x] (pyIter x)) acc env) env
        again (.compLoop (lc3 elt t0 i0 t1 i1 t2 i2 scope pos) 1 it acc env)) := by rfl
theorem turn2 (it acc : Value) (env : Env) : compTurn (lc3 elt t0 i0 t1 i1 t2 i2 scope pos) 2 it acc env = (do
      standAt i2.pos
      match ← pyNext it with
      | none => pure (.done .next)
      | some v =>
        letOwnedTupleGo t2 it v
        assign t2 env v
        let mut ok := true
        for c in ([] : List Expr) do
          if ok then ok ← isTrue c env (eval c env)
        if ok then
          (do let _ ← call (.builtin "list.append") [acc, ← eval elt env])
        again (.compLoop (lc3 elt t0 i0 t1 i1 t2 i2 scope pos) 2 it acc env)) := by rfl
end
/-- what is left of a turn behind its target's store -/
abbrev BodyT := (Shared → Prop) → Shared → Prop
def LoopRule (prog : Program) (w : World) (A : Around) (C : Expr) (idx : Nat) (t : Expr) (acc : Value) (env : Env) (BT : BodyT) : Prop :=
  ∀ (it : Value) (R : Result → Shared → Prop) (I : Nat → Shared → Prop),
    (∀ n s, I n s → wpAny (model prog w) A (pyNext it) (fun r s₁ => match r with
      | none => R (.ok .next) s₁
      | some v => wpAny (model prog w) A (letOwnedTupleGo t it v) (fun _ s₁' => wpAny (model prog w) A (assign t env v) (fun _ s₂ => BT (fun s5 => ∃ m, m < n ∧ I m s5) s₂) (fun _ _ => False) s₁') (fun _ _ => False) s₁) (fun _ _ => False) s) →
    ∀ n s, I n s → codeAny (model prog w) A (.compLoop C idx it acc env) R s
def btIn (prog : Program) (w : World) (A : Around) (elt : Expr) (acc : Value) (env : Env) : BodyT := fun Φ s =>
  wpAny (model prog w) A (eval elt env) (fun x s₄ => wpAny (model prog w) A (call (.builtin "list.append") [acc, x]) (fun _ s₅ => Φ s₅) (fun _ _ => False) s₄) (fun _ _ => False) s
def btOut (prog : Program) (w : World) (A : Around) (C : Expr) (idx : Nat) (i : Expr) (acc : Value) (env : Env) : BodyT := fun Φ s =>
  wpAny (model prog w) A (eval i env) (fun x s₄ => wpAny (model prog w) A (pyIter x) (fun it1 s₅ => codeAny (model prog w) A (.compStart C idx it1 acc env) (fun r s' => match r with
    | .ok _ => Φ s'
    | .error _ => False) s₅) (fun _ _ => False) s₄) (fun _ _ => False) s
section
variable {prog : Program} {w : World} {A : Around} {elt t0 i0 t1 i1 t2 i2 : Expr} {scope : Scope} {pos : Pos} {acc : Value} {env : Env}
theorem fls {α : Type} {t : Sem α} {Q : α → Shared → Prop} {M : Model} {E : Value → Shared → Prop} {s : Shared} (h : wpAny M A t Q (fun _ _ => False) s) : wpAny M A t Q E s := wpAny_mono h (fun _ _ q => q) fun _ _ z => False.elim z
theorem loop2 : LoopRule prog w A (lc3 elt t0 i0 t1 i1 t2 i2 scope pos) 2 t2 acc env (btIn prog w A elt acc env) := by
  intro it R I turn n s h
  refine codeAny_loop rfl I (fun n s hI => ?_) n h
  show wpAny _ A ((compTurn (lc3 elt t0 i0 t1 i1 t2 i2 scope pos) 2 it acc env).onRaise (fun x => do noteFrame x env; theTreesLotGoes x)) _ _ s
  refine wpAny_noted ?_
  rw [turn2]
  refine wpAny_bind (wpAny_standAt (wpAny_bind (thnF (turn n s hI) (fun r s₁ h₁ => ?_))))
  cases r with
  | none => exact wpAny_pure h₁
  | some v =>
    refine wpAny_bind (thnF h₁ (fun _ s₁' h₁' => ?_))
    refine wpAny_bind (thnF h₁' (fun _ s₂ h₂ => wpAny_bind (wpAny_tests_nil ?_)))
    simp only [if_true]
    exact wpAny_bind (wpAny_bind (thnF h₂ (fun x s₄ h₄ => wpAny_bind (thnF h₄ (fun _ s₅ h₅ => wpAny_pure (wpAny_pure ⟨rfl, h₅⟩))))))
theorem loop1 (hs : ∀ x, foldedSetIterable i2 env x = pure x) : LoopRule prog w A (lc3 elt t0 i0 t1 i1 t2 i2 scope pos) 1 t1 acc env (btOut prog w A (lc3 elt t0 i0 t1 i1 t2 i2 scope pos) 2 i2 acc env) := by
  intro it R I turn n s h
  refine codeAny_loop rfl I (fun n s hI => ?_) n h
  show wpAny _ A ((compTurn (lc3 elt t0 i0 t1 i1 t2 i2 scope pos) 1 it acc env).onRaise (fun x => do noteFrame x env; theTreesLotGoes x)) _ _ s
  refine wpAny_noted ?_
  rw [turn1]
  refine wpAny_bind (wpAny_standAt (wpAny_bind (thnF (turn n s hI) (fun r s₁ h₁ => ?_))))
  cases r with
  | none => exact wpAny_pure h₁
  | some v =>
    refine wpAny_bind (thnF h₁ (fun _ s₁' h₁' => ?_))
    refine wpAny_bind (thnF h₁' (fun _ s₂ h₂ => wpAny_bind (wpAny_tests_nil ?_)))
    simp only [if_true]
    refine wpAny_bind (thnF h₂ (fun x s₄ h₄ => ?_))
    refine wpAny_bind (wpAny_standAt (wpAny_bind (wpAny_of_eq (hs x) (wpAny_bind (wpAny_holding (thnF h₄ (fun it1 s₅ h₅ => ?_)))))))
    refine wpAny_bind (wpAny_runOwn ?_)
    rw [Around.mark_none]
    refine codeAny_mono h₅ fun r s' hr => ?_
    cases r with
    | ok f => first | exact wpAny_pure ⟨rfl, hr⟩ | exact wpAny_bind (wpAny_pure (wpAny_pure ⟨rfl, hr⟩))
    | error e => exact hr.elim
theorem loop0 (hs : ∀ x, foldedSetIterable i1 env x = pure x) : LoopRule prog w A (lc3 elt t0 i0 t1 i1 t2 i2 scope pos) 0 t0 acc env (btOut prog w A (lc3 elt t0 i0 t1 i1 t2 i2 scope pos) 1 i1 acc env) := by
  intro it R I turn n s h
  refine codeAny_loop rfl I (fun n s hI => ?_) n h
  show wpAny _ A ((compTurn (lc3 elt t0 i0 t1 i1 t2 i2 scope pos) 0 it acc env).onRaise (fun x => do noteFrame x env; theTreesLotGoes x)) _ _ s
  refine wpAny_noted ?_
  rw [turn0]
  refine wpAny_bind (wpAny_standAt (wpAny_bind (thnF (turn n s hI) (fun r s₁ h₁ => ?_))))
  cases r with
  | none => exact wpAny_pure h₁
  | some v =>
    refine wpAny_bind (thnF h₁ (fun _ s₁' h₁' => ?_))
    refine wpAny_bind (thnF h₁' (fun _ s₂ h₂ => wpAny_bind (wpAny_tests_nil ?_)))
    simp only [if_true]
    refine wpAny_bind (thnF h₂ (fun x s₄ h₄ => ?_))
    refine wpAny_bind (wpAny_standAt (wpAny_bind (wpAny_of_eq (hs x) (wpAny_bind (wpAny_holding (thnF h₄ (fun it1 s₅ h₅ => ?_)))))))
    refine wpAny_bind (wpAny_runOwn ?_)
    rw [Around.mark_none]
    refine codeAny_mono h₅ fun r s' hr => ?_
    cases r with
    | ok f => first | exact wpAny_pure ⟨rfl, hr⟩ | exact wpAny_bind (wpAny_pure (wpAny_pure ⟨rfl, hr⟩))
    | error e => exact hr.elim
/-- a later clause's start -/
theorem start1 {R : Result → Shared → Prop} {it : Value} {s : Shared} (h0 : codeAny (model prog w) A (.compLoop (lc3 elt t0 i0 t1 i1 t2 i2 scope pos) 1 it acc env) R s)
    (h : wpAny (model prog w) A (pyIter it) (fun it' s' => codeAny (model prog w) A (.compLoop (lc3 elt t0 i0 t1 i1 t2 i2 scope pos) 1 it' acc env) R s') (notedBy (model prog w) A env fun x s' => R (.error x) s') s) :
    codeAny (model prog w) A (.compStart (lc3 elt t0 i0 t1 i1 t2 i2 scope pos) 1 it acc env) R s := by
  refine codeAny_of_tree ?_
  show wpAny _ _ ((compStart (lc3 elt t0 i0 t1 i1 t2 i2 scope pos) 1 it acc env).onRaise (fun x => do noteFrame x env; standAt theWindowsPlace)) _ _ s
  refine wpAny_notedAt ?_
  unfold compStart
  show wpAny _ _ (ask >>= _) _ _ s
  refine wpAny_bind (wpAny_askSetting (wpAny_ite ?_))
  split
  · first
      | exact wpAny_bind (wpAny_pure (wpAny_pure (And.intro rfl h0)))
      | exact wpAny_pure (And.intro rfl h0)
  · refine wpAny_bind (wpAny_rule ?_)
    show wpAny _ _ (standAt i1.pos >>= _) _ _ s
    exact wpAny_bind (wpAny_standAt (wpAny_bind (wpAny_mono h (fun it' s' h' => wpAny_pure (And.intro rfl h')) fun _ _ x => x)))
theorem start2 {R : Result → Shared → Prop} {it : Value} {s : Shared} (h0 : codeAny (model prog w) A (.compLoop (lc3 elt t0 i0 t1 i1 t2 i2 scope pos) 2 it acc env) R s)
    (h : wpAny (model prog w) A (pyIter it) (fun it' s' => codeAny (model prog w) A (.compLoop (lc3 elt t0 i0 t1 i1 t2 i2 scope pos) 2 it' acc env) R s') (notedBy (model prog w) A env fun x s' => R (.error x) s') s) :
    codeAny (model prog w) A (.compStart (lc3 elt t0 i0 t1 i1 t2 i2 scope pos) 2 it acc env) R s := by
  refine codeAny_of_tree ?_
  show wpAny _ _ ((compStart (lc3 elt t0 i0 t1 i1 t2 i2 scope pos) 2 it acc env).onRaise (fun x => do noteFrame x env; standAt theWindowsPlace)) _ _ s
  refine wpAny_notedAt ?_
  unfold compStart
  show wpAny _ _ (ask >>= _) _ _ s
  refine wpAny_bind (wpAny_askSetting (wpAny_ite ?_))
  split
  · first
      | exact wpAny_bind (wpAny_pure (wpAny_pure (And.intro rfl h0)))
      | exact wpAny_pure (And.intro rfl h0)
  · refine wpAny_bind (wpAny_rule ?_)
    show wpAny _ _ (standAt i2.pos >>= _) _ _ s
    exact wpAny_bind (wpAny_standAt (wpAny_bind (wpAny_mono h (fun it' s' h' => wpAny_pure (And.intro rfl h')) fun _ _ x => x)))
end
theorem set_set_none (σ : L2.St) (i : Nat) : (σ.set i none).set i none = σ.set i none := by rw [List.set_set]
theorem wipe_set (σ : L2.St) (i : Nat) : ∀ vs : List Nat, wipe (σ.set i none) vs = (wipe σ vs).set i none
  | [] => rfl
  | v :: vs => by
    unfold wipe
    rw [wipe_set σ i vs]
    by_cases h : i = v
    · rw [h]
    · rw [List.set_comm _ _ h]
theorem wipe_wipe (σ : L2.St) : ∀ vs : List Nat, wipe (wipe σ vs) vs = wipe σ vs
  | [] => rfl
  | v :: vs => by
    show (wipe ((wipe σ vs).set v none) vs).set v none = (wipe σ vs).set v none
    rw [wipe_set, wipe_wipe σ vs, List.set_set]
/-- all slots but those of vs know what they knew -/
def Kept (vs : List Nat) (σ σ' : L2.St) : Prop := σ'.length = σ.length ∧ ∀ (j : Nat) (v : V), j ∉ vs → σ[j]? = some (some v) → σ'[j]? = some (some v)
abbrev TBd := L2.St → Hp → (Hp → Prop) → Prop
def BodyOk (X : Cx) (BT : BodyT) (tb : TBd) (vs : List Nat) : Prop := ∀ (pins : List (Addr × Obj)) (s : Shared) (σ : L2.St) (H : Hp) (Φ : Hp → Prop) (Ψ : Shared → Prop), L2.Inv X pins σ H s → tb σ H Φ → (∀ s' σ' H', L2.Inv X pins σ' H' s' → Kept vs σ σ' → Φ H' → Ψ s') → BT Ψ s
def tBdIn (D : Addr) (te : TE) : TBd := fun σ H Φ => te σ H fun y H7 => ∃ acc, H7 D = some (.lst acc) ∧ acc.length < sizeLine ∧ Φ (upd H7 D (.lst (acc ++ [y])))
def tTurns (J : It) (g : TG) (vs : List Nat) (tb : TBd) (σ : L2.St) (Φ : Hp → Prop) (W : Nat → Nat → Hp → Prop) : Prop := ∀ i m H, W i m H →
  (J.stop i H ∧ Φ H) ∨ (J.go i H ∧ ∃ Nx : Hp → Prop, (∀ H', Nx H' → ∃ m', m' < m ∧ W (i + 1) m' H') ∧ ∀ x H', J.yld i H x H' → g x (wipe σ vs) H' fun σ2 H2 => wipe σ2 vs = wipe σ vs ∧ tb σ2 H2 Nx)
def tBdOut (wi : TI) (g : TG) (vs : List Nat) (tb : TBd) : TBd := fun σ H Φ => wi σ H fun J H4 => ∃ W : Nat → Nat → Hp → Prop, (∃ m, W 0 m H4) ∧ tTurns J g vs tb σ Φ W
section
variable {X : Cx}
theorem body_in {elt : Expr} {D : Addr} {te : TE} (pe : PE X elt te) (hx : X.xe = fun _ _ => False) : BodyOk X (btIn X.prog X.w X.A elt (.ref D) X.env) (tBdIn D te) [] := by
  intro pins s σ H Φ Ψ I h hq
  have p := pe.run pins s σ H _ I h
  rw [hx] at p
  refine thnF p fun v s4 ⟨y, H7, I7, r7, acc, hD, hz, φ⟩ => ?_
  exact app_ok I7 hD hz r7 fun s5 I5 => hq s5 σ _ I5 ⟨rfl, fun _ _ _ e => e⟩ φ
theorem clause_loop {C : Expr} {idx : Nat} {t : Expr} {acc : Value} {BT : BodyT} {tb : TBd} {vs0 vs : List Nat} {J : It} {fp : List Addr} {it : Addr} {tn : Nat → Heap → Prop} {g : TG} {pins : List (Addr × Obj)} {σ : L2.St} {Φ : Hp → Prop} {W : Nat → Nat → Hp → Prop} {R : Result → Shared → Prop}
    (hc : X.calm = true) (hx : X.xe = fun _ _ => False) (HL : LoopRule X.prog X.w X.A C idx t acc X.env BT) (hB : BodyOk X BT tb vs0) (hv : ∀ i ∈ vs0, i ∈ vs) (T : Turn X.prog X.w X.K t J fp it tn) (pg : PG X t g)
    (stat : ∀ H' : Hp, (∀ b ∈ fp, H' b = none) → ∀ b ∈ fp, FpOk X pins H' b) (turn : tTurns J g vs tb σ Φ W)
    (hR : ∀ s' σ' H', L2.Inv X pins σ' H' s' → Kept vs σ σ' → Φ H' → R (.ok .next) s') :
    ∀ (m : Nat) (H : Hp) (s : Shared), W 0 m H → L2.Inv X pins σ H s → tn 0 s.heap → (∀ b ∈ fp, H b = none) → codeAny (model X.prog X.w) X.A (.compLoop C idx (.ref it) acc X.env) R s := by
  intro m0 H0 s0 w0 I0 st0 n0
  refine HL (.ref it) R (fun n s' => ∃ i H', L2.Inv X pins (wipe σ vs) H' s' ∧ tn i s'.heap ∧ (∀ b ∈ fp, H' b = none) ∧ W i n H') ?_ m0 s0 ⟨0, H0, I0.weak (wipe_length _ _) (fun j v e => (wipe_some e).1), st0, n0, w0⟩
  rintro n s5 ⟨i, H5, I5, st5, n5, w5⟩
  rcases turn i n H5 w5 with ⟨stop, φ⟩ | ⟨go, Nx, hNx, step⟩
  · refine thnF (T.done X rfl rfl rfl hc i pins s5 (wipe σ vs) H5 (fun _ _ => False) I5 (stat H5 n5) st5 stop) fun r s6 ⟨hr, I6⟩ => ?_
    subst hr
    exact hR s6 _ H5 I6 ⟨wipe_length _ _, fun j v hj e => by rw [wipe_out hj]; exact e⟩ φ
  · refine thnF (T.item X rfl rfl rfl hc i pins s5 (wipe σ vs) H5 (fun _ _ => False) I5 (stat H5 n5) st5 go) fun r s6 ⟨u, hr, h6⟩ => ?_
    subst hr
    refine thnF h6 fun _ s7 ⟨x, H7, I7, r7, y7, st7, n7⟩ => ?_
    have I7' := I7.pinned (stat H7 n7) (T.obj _ _ st7)
    have pgr := pg.run _ s7 _ H7 x u _ I7' r7 (step x H7 y7)
    rw [hx] at pgr
    refine thnF pgr fun _ s8 ⟨σ8, H8, I8, hw8, q8⟩ => ?_
    refine hB _ s8 σ8 H8 Nx _ I8 q8 fun s' σ' H' I' kk nx => ?_
    obtain ⟨m', hm, w'⟩ := hNx H' nx
    have pin' : ∀ b ∈ fp, ∀ o, s7.heap.get? b = some o → s'.heap.get? b = some o ∧ H' b = none := fun b hb o e =>
      let z := I'.pin (b, o) (List.mem_append_right _ (List.mem_append_right _ (mem_pinsAt hb e)))
      ⟨z.1, z.2.1⟩
    refine ⟨m', hm, i + 1, H', I'.unpinned.weak ?_ ?_, T.keep _ _ _ st7 fun b hb o e => (pin' b hb o e).1, fun b hb => ?_, w'⟩
    · have e1 : (wipe σ8 vs).length = (wipe σ vs).length := by rw [hw8]
      rw [wipe_length] at e1
      rw [← e1]; exact kk.1.symm
    · intro j v e
      rw [← hw8] at e
      obtain ⟨e1, e2⟩ := wipe_some e
      exact kk.2 j v (fun z => e2 (hv j z)) e1
    · obtain ⟨o, e, _⟩ := T.obj _ _ st7 b hb
      exact (pin' b hb o e).2
theorem body_out {C : Expr} {idx : Nat} {t i : Expr} {acc : Value} {BT : BodyT} {tb : TBd} {vs0 vs : List Nat} {g : TG} {wi : TI}
    (hc : X.calm = true) (hx : X.xe = fun _ _ => False) (HL : LoopRule X.prog X.w X.A C idx t acc X.env BT) (hB : BodyOk X BT tb vs0) (hv : ∀ i ∈ vs0, i ∈ vs) (pi : PI X t i wi) (pg : PG X t g)
    (hst : ∀ (R : Result → Shared → Prop) (it : Value) (s : Shared), codeAny (model X.prog X.w) X.A (.compLoop C idx it acc X.env) R s → wpAny (model X.prog X.w) X.A (pyIter it) (fun it' s' => codeAny (model X.prog X.w) X.A (.compLoop C idx it' acc X.env) R s') (notedBy (model X.prog X.w) X.A X.env fun x s' => R (.error x) s') s →
      codeAny (model X.prog X.w) X.A (.compStart C idx it acc X.env) R s) :
    BodyOk X (btOut X.prog X.w X.A C idx i acc X.env) (tBdOut wi g vs tb) vs := by
  intro pins s σ H Φ Ψ I h hq
  have p := pi.run pins s σ H _ I h
  rw [hx] at p
  refine thnF p fun xv s4 hx4 => thnF hx4 fun itv s5 h5 => ?_
  obtain ⟨it1, fp1, tn1, J1, H4, e1, I4, T1, st1, f1, W1, ⟨m1, w1⟩, turn1⟩ := h5
  subst e1
  have loop := clause_loop (R := fun r s' => match r with | .ok _ => Ψ s' | .error _ => False) hc hx HL hB hv T1 pg (fun H' hn b hb => ⟨hn b hb, (f1 b hb).2⟩) turn1 (fun s' σ' H' I' k φ => hq s' σ' H' I' k φ) m1 H4 s5 w1 I4 st1 fun b hb => (f1 b hb).1
  exact hst _ _ _ loop (T1.self X.A 0 _ _ _ st1 loop)
end
section
variable {X : Cx} {elt t0 i0 t1 i1 t2 i2 : Expr} {scope : Scope} {own : List (Str × Nat)} {vs1 vs2 : List Nat} {pos pos' : Pos} {w0 w1 w2 : TI} {g0 g1 g2 : TG} {te : TE}
/-- [elt for t0 in i0 for t1 in i1 for t2 in i2] -/
def tLc3 (w0 : TI) (g0 : TG) (w1 : TI) (g1 : TG) (w2 : TI) (g2 : TG) (te : TE) (vs vs1 vs2 : List Nat) : TE := fun σ H Q => w0 σ H fun J H1 => ∀ D, H1 D = none → ∃ W : Nat → Nat → Hp → Prop, (∃ m, W 0 m (upd H1 D (.lst []))) ∧
  tTurns J g0 vs (tBdOut w1 g1 vs1 (tBdOut w2 g2 vs2 (tBdIn D te))) σ (fun H' => Q (.ref D) H') W
theorem lc3_core {pins : List (Addr × Obj)} {s : Shared} {σ : L2.St} {H : Hp} {Q : VK} {use : Option (Value → Sem Unit)} {Qf : Value → Shared → Prop}
    (hc : X.calm = true) (hN : X.N.Nodup) (I : L2.Inv X pins σ H s) (hi : PI X t0 i0 w0) (ok : BlkOk X.N X.env.scope scope own) (hv1 : ∀ i ∈ vs1, i ∈ own.map (·.2)) (hv2 : ∀ i ∈ vs2, i ∈ vs1)
    (hg : ∀ (s : Shared) (H : Hp) (C : Addr) (cl : List (Str × Addr)) (fp : List Addr), PG (X.blk s H scope (compEnvC scope cl C X.env) fp) t0 g0)
    (hi1 : ∀ (s : Shared) (H : Hp) (C : Addr) (cl : List (Str × Addr)) (fp : List Addr), PI (X.blk s H scope (compEnvC scope cl C X.env) fp) t1 i1 w1)
    (hg1 : ∀ (s : Shared) (H : Hp) (C : Addr) (cl : List (Str × Addr)) (fp : List Addr), PG (X.blk s H scope (compEnvC scope cl C X.env) fp) t1 g1)
    (hi2 : ∀ (s : Shared) (H : Hp) (C : Addr) (cl : List (Str × Addr)) (fp : List Addr), PI (X.blk s H scope (compEnvC scope cl C X.env) fp) t2 i2 w2)
    (hg2 : ∀ (s : Shared) (H : Hp) (C : Addr) (cl : List (Str × Addr)) (fp : List Addr), PG (X.blk s H scope (compEnvC scope cl C X.env) fp) t2 g2)
    (he : ∀ (s : Shared) (H : Hp) (C : Addr) (cl : List (Str × Addr)) (fp : List Addr), PE (X.blk s H scope (compEnvC scope cl C X.env) fp) elt te) (hs : ∀ x, foldedSetIterable i0 X.env x = pure x)
    (hs1 : ∀ env x, foldedSetIterable i1 env x = pure x) (hs2 : ∀ env x, foldedSetIterable i2 env x = pure x)
    (h : tLc3 w0 g0 w1 g1 w2 g2 te (own.map (·.2)) vs1 vs2 σ H Q)
    (hRR : ∀ D C s' m H', L2.Inv X pins σ H' s' → Q (.ref D) H' → s'.heap.Ns C m → FpOk X pins H' C → compPost (model X.prog X.w) X.A X.xe use Qf (.ref D) C (.ok .next) s') :
    wpAny (model X.prog X.w) X.A (comprehension (lc3 elt t0 i0 t1 i1 t2 i2 scope pos) scope X.env pos' (newList []) false (eval i0 X.env) use) Qf X.xe s := by
  have hfree : ∀ y ∈ scope.names, y.2 = .free → ∃ c, X.env.cells.lookup y.1 = some c := fun y hy e => by
    rcases ok.free y hy e with k | k
    · exact I.ok.has _ (.inl k)
    · exact I.ok.has _ (.inr k)
  refine wpAny_comprehension_free (use := use) rfl hs (closure_ok hfree) ok.kind (fun y hy e => by rw [ok.uniq y hy, e])
    (thn (hi.run pins s σ H _ I h) fun xv s1 hx => thn hx fun itv s2 h2 => ?_)
  obtain ⟨it, fp, tn, J, H2, e, I2, T, st2, f2, q⟩ := h2
  subst e
  refine wpAny_newObj_type (newEnv_comp ?_) (by show 0 ≤ sizeLine; decide)
  generalize hD : s2.heap.objs.size = D
  have hDn : H2 D = none := I2.hok.fresh (Nat.le_of_eq hD)
  obtain ⟨W, ⟨m0, w0⟩, turn⟩ := q D hDn
  generalize hs3 : ({ s2 with heap := s2.heap.push { cls := .type "list", data := .seq ([] : List Value).toArray } } : Shared) = s3
  have I3 : L2.Inv X pins σ (upd H2 D (.lst [])) s3 := by
    rw [← hs3]
    refine I2.laid (t' := s2.toks) (fun b o e => Heap.get?_push_of_some _ e) (Nat.le_of_eq hD) ⟨Nat.zero_le _, [], 0, .nil, ?_⟩
    rw [← hD]
    exact Heap.get?_push_size _ rfl
  have h3 : s3.heap = s2.heap.push { cls := .type "list", data := .seq ([] : List Value).toArray } := by rw [← hs3]
  have sz : ∀ b ∈ fp, b < s2.heap.objs.size := fun b hb => by
    obtain ⟨o, e, _⟩ := T.obj _ _ st2 b hb
    exact Heap.lt_size e
  have f3 : ∀ b ∈ fp, FpOk X pins (upd H2 D (.lst [])) b ∧ b < s3.heap.objs.size := fun b hb => by
    have hlt := sz b hb
    refine ⟨⟨?_, (f2 b hb).2⟩, by rw [h3, Heap.size_push]; exact Nat.lt_succ_of_lt hlt⟩
    rw [upd_ne (by rw [← hD]; exact Nat.ne_of_lt hlt)]
    exact (f2 b hb).1
  have st3 : tn 0 s3.heap := T.keep _ _ _ st2 fun b _ o e => by rw [h3]; exact Heap.get?_push_of_some _ e
  have I4 := block_start I3 ok hN f3
  have pg := hg s3 (upd H2 D (.lst [])) s3.heap.objs.size (cellsFrom (s3.heap.objs.size + 1) scope.names (cloFrom X.env.cells scope.names [])) fp
  have pe := he s3 (upd H2 D (.lst [])) s3.heap.objs.size (cellsFrom (s3.heap.objs.size + 1) scope.names (cloFrom X.env.cells scope.names [])) fp
  have pi1 := hi1 s3 (upd H2 D (.lst [])) s3.heap.objs.size (cellsFrom (s3.heap.objs.size + 1) scope.names (cloFrom X.env.cells scope.names [])) fp
  have pg1 := hg1 s3 (upd H2 D (.lst [])) s3.heap.objs.size (cellsFrom (s3.heap.objs.size + 1) scope.names (cloFrom X.env.cells scope.names [])) fp
  have pi2 := hi2 s3 (upd H2 D (.lst [])) s3.heap.objs.size (cellsFrom (s3.heap.objs.size + 1) scope.names (cloFrom X.env.cells scope.names [])) fp
  have pg2 := hg2 s3 (upd H2 D (.lst [])) s3.heap.objs.size (cellsFrom (s3.heap.objs.size + 1) scope.names (cloFrom X.env.cells scope.names [])) fp
  show codeAny _ _ (.compStart (lc3 elt t0 i0 t1 i1 t2 i2 scope pos) 0 (.ref it) (.ref D) (compEnvC scope (cellsFrom (s3.heap.objs.size + 1) scope.names (cloFrom X.env.cells scope.names [])) s3.heap.objs.size X.env)) (compPost (model X.prog X.w) X.A X.xe use Qf (.ref D) s3.heap.objs.size) { s3 with heap := pushCells (s3.heap.push { cls := .type "dict", data := .dict #[] }) scope.names }
  have nfp : ∀ b ∈ fp, (upd H2 D (.lst [])) b = none := fun b hb => (f3 b hb).1.1
  generalize hce : compEnvC scope (cellsFrom (s3.heap.objs.size + 1) scope.names (cloFrom X.env.cells scope.names [])) s3.heap.objs.size X.env = ce at I4 pg pe pi1 pg1 pi2 pg2 ⊢
  have cL : ce.locals = s3.heap.objs.size := by subst hce; rfl
  generalize hH3 : upd H2 D (.lst []) = H3 at I3 I4 pg pe pi1 pg1 pi2 pg2 w0 nfp f3
  generalize hs4 : ({ s3 with heap := pushCells (s3.heap.push { cls := .type "dict", data := .dict #[] }) scope.names } : Shared) = s4 at I4 ⊢
  have st4 : tn 0 s4.heap := T.keep _ _ _ st3 fun b _ o e => by rw [← hs4]; exact pushCells_keeps _ _ _ _ (Heap.get?_push_of_some _ e)
  have stat : ∀ H' : Hp, (∀ b ∈ fp, H' b = none) → ∀ b ∈ fp, FpOk (X.blk s3 H3 scope ce fp) [] H' b := fun H' hn b hb =>
    ⟨hn b hb, (I4.ok.exf b hb).1, I4.ok.exfs b hb, .inl hb, fun x c e => (I4.ok.exf b hb).2 x c e, fun p hp => absurd (show p ∈ ([] : List (Addr × Obj)) ++ [] from hp) (by simp)⟩
  have b2 := body_in (D := D) pe rfl
  have b1 := body_out (X := X.blk s3 H3 scope ce fp) (acc := .ref D) (vs := vs2) hc rfl (loop2 (elt := elt) (t0 := t0) (i0 := i0) (t1 := t1) (i1 := i1) (t2 := t2) (i2 := i2) (scope := scope) (pos := pos)) b2 (fun i z => by simp at z) pi2 pg2 (fun R it s h1 h2 => start2 h1 h2)
  have b0 := body_out (X := X.blk s3 H3 scope ce fp) (acc := .ref D) (vs := vs1) hc rfl (loop1 (elt := elt) (t0 := t0) (i0 := i0) (t1 := t1) (i1 := i1) (t2 := t2) (i2 := i2) (scope := scope) (pos := pos) (hs2 ce)) b1 hv2 pi1 pg1 (fun R it s h1 h2 => start1 h1 h2)
  have w0' : W 0 m0 H3 := w0
  have loop := clause_loop (X := X.blk s3 H3 scope ce fp) (R := compPost (model X.prog X.w) X.A X.xe use Qf (.ref D) s3.heap.objs.size) (pins := []) (σ := wipe σ (own.map (·.2))) hc rfl (loop0 (elt := elt) (t0 := t0) (i0 := i0) (t1 := t1) (i1 := i1) (t2 := t2) (i2 := i2) (scope := scope) (pos := pos) (acc := .ref D) (hs1 ce)) b0 hv1 T pg stat
    (Φ := fun H' => Q (.ref D) H') (W := W) (fun i m H hW => by
      have := turn i m H hW
      rcases this with z | ⟨z1, Nx, z2, z3⟩
      · exact .inl z
      · refine .inr ⟨z1, Nx, z2, fun x H' hy => ?_⟩
        have e2 : wipe (wipe σ (own.map (·.2))) (own.map (·.2)) = wipe σ (own.map (·.2)) := wipe_wipe _ _
        rw [e2]
        exact z3 x H' hy) (fun s6 σ' H5 I6 _ qq => ?_) m0 H3 s4 w0' I4 st4 nfp
  · exact codeAny_compStart_list loop (T.self X.A 0 _ _ _ st4 loop)
  · have I7 : L2.Inv X pins σ H5 s6 := I3.call' (ch := fp) I6.os I6.base I6.hok I6.bare fun b hb => ⟨(f3 b hb).1.2.2.2.1, (f3 b hb).1.2.1, (f3 b hb).1.2.2.2.2.1, (f3 b hb).1.2.2.2.2.2⟩
    have nC : H5 s3.heap.objs.size = none := by
      have z : H5 ce.locals = none := I6.free
      rw [cL] at z
      exact z
    obtain ⟨m, hn, _⟩ := I6.loc
    have hn : s6.heap.Ns ce.locals m := hn
    rw [cL] at hn
    exact hRR D s3.heap.objs.size s6 m H5 I7 qq hn (I3.fpOk (Nat.le_refl _) nC)

/-- name = [..] on one line, the name a local -/
theorem ps_setLc3 {i : Nat} {y : Str} {py spos : Pos} (hc : X.calm = true) (hN : X.N.Nodup) (hy : X.N[i]? = some y) (hyl : X.env.scope.names.lookup y = some .local)
    (hsw : swapsWith (lc3 elt t0 i0 t1 i1 t2 i2 scope pos) (some (.Name y py)) spos.line X.env = pure true) (hi : PI X t0 i0 w0) (ok : BlkOk X.N X.env.scope scope own) (hv1 : ∀ i ∈ vs1, i ∈ own.map (·.2)) (hv2 : ∀ i ∈ vs2, i ∈ vs1)
    (hg : ∀ (s : Shared) (H : Hp) (C : Addr) (cl : List (Str × Addr)) (fp : List Addr), PG (X.blk s H scope (compEnvC scope cl C X.env) fp) t0 g0)
    (hi1 : ∀ (s : Shared) (H : Hp) (C : Addr) (cl : List (Str × Addr)) (fp : List Addr), PI (X.blk s H scope (compEnvC scope cl C X.env) fp) t1 i1 w1)
    (hg1 : ∀ (s : Shared) (H : Hp) (C : Addr) (cl : List (Str × Addr)) (fp : List Addr), PG (X.blk s H scope (compEnvC scope cl C X.env) fp) t1 g1)
    (hi2 : ∀ (s : Shared) (H : Hp) (C : Addr) (cl : List (Str × Addr)) (fp : List Addr), PI (X.blk s H scope (compEnvC scope cl C X.env) fp) t2 i2 w2)
    (hg2 : ∀ (s : Shared) (H : Hp) (C : Addr) (cl : List (Str × Addr)) (fp : List Addr), PG (X.blk s H scope (compEnvC scope cl C X.env) fp) t2 g2)
    (he : ∀ (s : Shared) (H : Hp) (C : Addr) (cl : List (Str × Addr)) (fp : List Addr), PE (X.blk s H scope (compEnvC scope cl C X.env) fp) elt te) (hs : ∀ x, foldedSetIterable i0 X.env x = pure x := by intro _; rfl)
    (hs1 : ∀ env x, foldedSetIterable i1 env x = pure x := by intro _ _; rfl) (hs2 : ∀ env x, foldedSetIterable i2 env x = pure x := by intro _ _; rfl) :
    PS X (.Assign [.Name y py] (lc3 elt t0 i0 t1 i1 t2 i2 scope pos) spos) (tAsg (tLc3 w0 g0 w1 g1 w2 g2 te (own.map (·.2)) vs1 vs2) (gName i)) := by
  refine ⟨fun pins s σ H D I h => ?_⟩
  rw [exec_Assign_Name_used _ _ _ _ hsw]
  refine wpAny_bind (wpAny_standAt (wpAny_bind ?_))
  show wpAny _ X.A (do let _ ← comprehension (lc3 elt t0 i0 t1 i1 t2 i2 scope pos) scope X.env (firstIterPos [⟨t0, i0, [], 0⟩, ⟨t1, i1, [], 0⟩, ⟨t2, i2, [], 0⟩] pos) (newList []) false (eval i0 X.env) (some (assign (.Name y py) X.env))) _ _ s
  have h : tLc3 w0 g0 w1 g1 w2 g2 te (own.map (·.2)) vs1 vs2 σ H (fun x H1 => gName i x σ H1 D.nx) := h
  refine wpAny_bind (thn (lc3_core (Qf := fun _ s' => SP X pins D .next s') hc hN I hi ok hv1 hv2 hg hi1 hg1 hi2 hg2 he hs hs1 hs2 h fun L C s' m H' I' q hn f => ?_) fun _ s' hq => wpAny_pure (wpAny_pure hq))
  show wpAny _ _ (assign (.Name y py) X.env (.ref L)) _ _ _
  refine wpAny_assign_Name (store_ok2 (v := V.ref L) I' hN hy (.inl hyl) rfl (fun s2 I2 ⟨a, sb, ha⟩ => ?_) (.inr hyl))
  obtain ⟨f0, f1, f2, f3, f4, f5⟩ := f
  have haC : C ≠ a := by
    rcases ha with z | z
    · rw [z]; exact f1
    · exact fun e => f4 y a z e.symm
  refine ⟨m, hn.sameBut sb haC, fun h3 sb3 => ?_⟩
  exact ⟨_, H', I2.turned (t' := s2.toks) (fun b o hb e => (sb3.2 b hb).trans e) f0 f1 f3 f4 f5, q⟩
end
end L3
set_option Elab.async false
set_option linter.all false
set_option maxRecDepth 100000
set_option maxHeartbeats 4000000
/-! len(set(xs)), xs a list of any texts -/
namespace SL
open PySem PySem.Spec PyProof.Rows L2
/-- the texts met so far, each once -/
def addTo (seen : List Str) (x : Str) : List Str := if seen.any (· == x) then seen else seen ++ [x]
def met : List Str → List Str → List Str
  | seen, [] => seen
  | seen, x :: r => met (addTo seen x) r
def uniq (xs : List Str) : List Str := met [] xs
def upTo (xs : List Str) (i : Nat) : List Str := met [] (xs.take i)
theorem met_snoc : ∀ (xs : List Str) (seen : List Str) (x : Str), met seen (xs ++ [x]) = addTo (met seen xs) x
  | [], _, _ => rfl
  | y :: r, seen, x => met_snoc r (addTo seen y) x
theorem upTo_succ {xs : List Str} {i : Nat} (h : i < xs.length) : upTo xs (i + 1) = addTo (upTo xs i) xs[i] := by
  unfold upTo
  rw [List.take_succ, List.getElem?_eq_getElem h]
  exact met_snoc _ _ _
theorem addTo_len (seen : List Str) (x : Str) : (addTo seen x).length = if seen.any (· == x) then seen.length else seen.length + 1 := by
  unfold addTo
  cases seen.any (· == x) <;> simp
theorem addTo_any (seen : List Str) (x k : Str) : (seen.any (· == k) || decide (k = x)) = (addTo seen x).any (· == k) := by
  unfold addTo
  cases q : seen.any (· == x) with
  | true =>
    rw [if_pos rfl]
    by_cases e : k = x
    · subst e
      rw [q, Bool.true_or]
    · rw [decide_eq_false e, Bool.or_false]
  | false =>
    rw [if_neg (by simp), List.any_append]
    have e1 : ([x].any fun y => y == k) = decide (k = x) := by
      by_cases e : k = x
      · rw [e]; simp
      · have : (x == k) = false := by simpa using fun h : x = k => e h.symm
        simp [this, e]
    rw [e1]
theorem upTo_le (xs : List Str) : ∀ i, (upTo xs i).length ≤ i
  | 0 => by simp [upTo, met]
  | i + 1 => by
    by_cases h : i < xs.length
    · rw [upTo_succ h, addTo_len]
      have := upTo_le xs i
      split <;> omega
    · have e : upTo xs (i + 1) = upTo xs i := by
        unfold upTo
        rw [List.take_of_length_le (by omega), List.take_of_length_le (by omega)]
      rw [e]
      have := upTo_le xs i
      omega
section
variable {prog : Program} {w : World} {A : Around} {E : Value → Shared → Prop}
/-- the set at D holds just the texts of seen -/
abbrev Holds (prog : Program) (w : World) (h : Heap) (D : Addr) (seen : List Str) : Prop := h.SetOf (PySem.strKind prog w) D (fun k => seen.any (· == k)) seen.length
theorem fill {I D : Addr} {fp wr : List Addr} {G : Array GenState → Array GenState → Prop} {Pz : Nat → Value → Prop} {Sz : Nat → Shared → Prop} {R : Result → Shared → Prop} {xs : List Str} (Wk : WalksS prog w A.in1 I fp wr G xs.length Pz Sz) (nD : D ∉ fp) (hsz : xs.length < 4000)
    (hv : ∀ i v, Pz i v → ∃ y t, xs[i]? = some y ∧ v = .str y t) (s0 : Shared) (hR : ∀ s', Moved (D :: wr) G s0 s' → Holds prog w s'.heap D (uniq xs) → R (.ok (.ret .none)) s') :
    ∀ (left i : Nat) (s : Shared), i + left = xs.length → Sz i s → Moved (D :: wr) G s0 s → Holds prog w s.heap D (upTo xs i) → codeAny (model prog w) A (.builtin "set.update.loop" ⟨[.ref D, .ref I], []⟩) R s := by
  have nW : D ∉ wr := fun q => nD (Wk.sub _ q)
  have up : ∀ b ∈ wr, b ∈ D :: wr := fun _ q => List.mem_cons_of_mem _ q
  have stay : ∀ {s s' : Shared} {seen : List Str}, Moved wr G s s' → Holds prog w s.heap D seen → Holds prog w s'.heap D seen := fun {s s' seen} mv ⟨o, es, ep, tb, ho, q⟩ => ⟨o, es, ep, tb, mv.heap D _ nW ho, q⟩
  intro left
  induction left with
  | zero =>
    intro i s hi st mv hH
    have ei : i = xs.length := by omega
    refine codeAny_builtin F.entry_set_update_loop ?_
    rw [Around.under_plainId F.plain_set_update_loop _]
    show wpAny _ A.in1 (pyNext (.ref I) >>= _) _ _ s
    rw [ei] at st
    refine wpAny_bind (Wk.done s _ _ st fun s' m2 => ?_)
    have hH2 := stay m2 hH
    have eu : upTo xs i = uniq xs := by
      unfold upTo uniq
      rw [ei, List.take_length]
    rw [eu] at hH2
    exact wpAny_pure (hR s' (mv.trans Wk.gtrans (m2.mono up)) hH2)
  | succ left ih =>
    intro i s hi st mv hH
    have lt : i < xs.length := by omega
    refine codeAny_builtin F.entry_set_update_loop ?_
    rw [Around.under_plainId F.plain_set_update_loop _]
    show wpAny _ A.in1 (pyNext (.ref I) >>= _) _ _ s
    refine wpAny_bind (Wk.item i s _ _ lt st fun v s' hP st2 m2 => ?_)
    obtain ⟨y, t, hy, rfl⟩ := hv i v hP
    have ey : xs[i] = y := by
      rw [List.getElem?_eq_getElem lt] at hy
      exact Option.some.inj hy
    have hH2 := stay m2 hH
    show wpAny _ A.in1 (holding [Value.str y t] (setAdd D (.str y t)) >>= _) _ _ s'
    refine wpAny_bind (wpAny_holding ?_)
    unfold setAdd
    refine wpAny_holding (wpAny_bind ((PySem.strKind prog w).pyHash (k := y) (strKind_is _ _ _ _) ?_))
    have room : (upTo xs i).length + 1 < scanBound := by
      have := upTo_le xs i
      unfold scanBound
      omega
    refine wpAny_setAddHashed_of (knd := PySem.strKind prog w) (s := { s' with toks := s'.toks + 1 }) (strKind_is _ _ _ _) rfl hH2 room fun h3 sb3 hH3 => ?_
    have hH4 : Holds prog w h3 D (upTo xs (i + 1)) := by
      refine SetOf_congr hH3 (fun k => ?_) ?_
      · rw [upTo_succ lt, ey]
        exact addTo_any _ _ _
      · rw [upTo_succ lt, ey, addTo_len]
    have keep : ∀ b o, b ≠ D → s'.heap.get? b = some o → h3.get? b = some o := fun b o nb e => (sb3.2 b nb).trans e
    refine wpAny_pure ⟨plainId_quiet F.plain_set_update_loop _, ih (i + 1) _ (by omega) (Wk.frame _ s' h3 _ st2 (Nat.le_succ _) fun b hb o e => keep b o (fun q => nD (q ▸ hb)) e) ?_ hH4⟩
    exact mv.trans Wk.gtrans ((m2.mono up).then_heap (Nat.le_succ _) fun b o nb e => keep b o (fun q => nb (q ▸ List.mem_cons_self)) e)

abbrev freshSet (b : Bool) : Obj := { cls := .type "set", dict := none, data := .set #[] 0 (.fresh 0 0 b) }
theorem strs_get : ∀ {us : List Value} {xs : List Str}, StrsAre us xs → ∀ (i : Nat) (v : Value), us[i]? = some v → ∃ y t, xs[i]? = some y ∧ v = .str y t
  | _, _, .nil, i, v, h => by simp at h
  | _, _, .cons y t r, 0, v, h => by
    have e : _ = v := Option.some.inj h
    exact ⟨y, t, rfl, e.symm⟩
  | _, _, .cons y t r, i + 1, v, h => strs_get r i v h
theorem set_of {l : Addr} {items : Array Value} {xs : List Str} {Q : Value → Shared → Prop} {s : Shared} (calm : A.handled = none) (hl : s.heap.IsList l items) (hx : StrsAre items.toList xs) (few : xs.length < 4000)
    (next : ∀ (h' : Heap) (tk : Nat), Holds prog w h' s.heap.objs.size (uniq xs) → (∀ b o, b < s.heap.objs.size → s.heap.get? b = some o → h'.get? b = some o) → Q (.ref s.heap.objs.size) { s with heap := h', toks := tk }) :
    wpAny (model prog w) A (call (.type "set") [.ref l]) Q E s := by
  generalize hD : s.heap.objs.size = D at next ⊢
  have nItems : items.size = xs.length := by
    have : ∀ {us : List Value} {ys : List Str}, StrsAre us ys → us.length = ys.length := fun r => by
      induction r with
      | nil => rfl
      | cons _ _ _ ih => rw [List.length_cons, List.length_cons, ih]
    have := this hx
    simpa using this
  obtain ⟨_, _, hmro⟩ := PySem.F.called_set.mro
  have hmade := PySem.F.called_set.made
  have hsub := PySem.F.called_set.sub
  have notT := PySem.F.called_set.notType
  have canC := PySem.F.called_set.canCreate
  have typC := PySem.F.typeCall_set_1 (.ref l)
  refine wpAny_call (codeAny_of_tree ?_)
  show wpAny _ _ (callAny (.type "set") _) _ _ _
  refine wpAny_pure ⟨Code.quiet_builtin _ (by decide +kernel), codeAny_builtin PySem.F.entry_type_call ?_⟩
  rw [Around.under_plain (weight_type_call_type "set" [.ref l] []) rfl]
  repeat (any_goals (first | assumption | wp_step))
  -- set.__new__
  refine codeAny_mono (code_set_new_1 (.ref l) (E := E) (Q₁ := fun v s1 => ∃ b : Bool, v = .ref D ∧ s1 = { s with heap := s.heap.push (freshSet b) }) fun b => ⟨b, by rw [hD], rfl⟩) fun r s1 hr => ?_
  rcases r with e | fl
  · exact hr
  · cases fl with
    | ret v =>
      obtain ⟨b, rfl, rfl⟩ := hr
      have atD : (s.heap.push (freshSet b)).get? D = some (freshSet b) := by rw [← hD]; exact Heap.get?_push_size _ rfl
      have tyD : Shared.TypeIs { s with heap := s.heap.push (freshSet b) } (.ref D) "set" := ⟨_, atD, rfl⟩
      have iniL := PySem.F.called_set.init.lookup
      have iniB := PySem.F.called_set.init.bind (.ref D)
      repeat (any_goals (first | assumption | wp_step))
      -- set.__init__
      refine codeAny_mono (codeAny_call_builtin (R := wants (fun v s2 => v = .none ∧ ∃ h' tk, s2 = { s with heap := h', toks := tk } ∧ Holds prog w h' D (uniq xs) ∧ ∀ c o, c < D → s.heap.get? c = some o → h'.get? c = some o) E)
        PySem.F.called_set.init.plain PySem.F.entry_set_init (check_set_init_1 tyD ?_)) fun r2 s2 hr2 => ?_
      · obtain ⟨⟨lc, ld, lda, lsl⟩, hol, hcl, nl, hdl⟩ := id hl
        simp only at hcl hdl
        subst hcl hdl
        have atL : (s.heap.push (freshSet b)).get? l = some { cls := .type "list", dict := ld, data := .seq items nl, slots := lsl } := Heap.get?_push_of_some _ hol
        have isL : (s.heap.push (freshSet b)).IsList l items := ⟨_, atL, rfl, nl, rfl⟩
        have f1 := PySem.F.sub_list_set
        have f2 := PySem.F.sub_list_frozenset
        have f3 : (Value.type "list" == Value.type "dict") = false := by decide
        unfold Builtin.«set.__init__» noKeywords Builtin.Frozenset.updateFrom
        generalize hPI : pyIter = PI
        wp_walk
        subst hPI
        refine wpAny_pyIter_list isL ?_
        refine wpAny_bind (wpAny_runValue ?_)
        have lD : l < D := by rw [← hD]; exact Heap.lt_size hol
        have szI : (s.heap.push (freshSet b)).objs.size = D + 1 := by rw [Heap.size_push, hD]
        have neI : l ≠ (s.heap.push (freshSet b)).objs.size := by rw [szI]; exact Nat.ne_of_lt (Nat.lt_succ_of_lt lD)
        have nD : D ∉ [(s.heap.push (freshSet b)).objs.size, l] := by
          rw [szI]
          intro q
          rcases List.mem_cons.mp q with q | q
          · exact Nat.ne_of_lt (Nat.lt_succ_self _) q
          · rcases List.mem_cons.mp q with q | q
            · exact Nat.ne_of_gt lD q
            · cases q
        have Wk := (Walks.list (prog := prog) (w := w) (A := A.in1.in1.in1) (by simp [calm]) (s.heap.push (freshSet b)).objs.size l neI items).toS
        rw [nItems] at Wk
        refine fill Wk nD few (fun i v q => strs_get hx i v (by rw [Array.getElem?_toList]; exact q)) _ (fun s3 mv hH => ?_) xs.length 0 _ (Nat.zero_add _) ⟨⟨_, Heap.get?_push_size _ rfl, rfl, rfl⟩, isL.push _⟩ (Moved.refl fun _ => rfl) ?_
        · obtain ⟨h3, g3, d3, k3, o3⟩ := s3
          have q1 : g3 = s.gens := mv.gens
          have q2 : d3 = s.drawn := mv.drawn
          have q3 : o3 = s.os := mv.os
          subst q1 q2 q3
          show wpAny _ _ _ _ _ _
          refine wpAny_pure ?_
          show wpAny _ _ (ret Value.none) _ _ _
          refine wpAny_pure ⟨rfl, h3, k3, rfl, hH, fun c o hc e => ?_⟩
          refine mv.heap c o (fun q => ?_) (Heap.get?_push_of_some _ (Heap.get?_push_of_some _ e))
          rcases List.mem_cons.mp q with q | q
          · exact Nat.ne_of_lt hc q
          · rcases List.mem_cons.mp q with q | q
            · rw [szI] at q
              exact Nat.ne_of_lt (Nat.lt_succ_of_lt hc) q
            · cases q
        · have at2 : ((s.heap.push (freshSet b)).push { cls := .type "list_iterator", data := .fields #[.ref l, .int 0 0] }).get? D = some (freshSet b) := Heap.get?_push_of_some _ atD
          exact SetOf_congr ((setObjOf_fresh (knd := PySem.strKind prog w) b).setOf at2 (by unfold scanBound; omega)) (fun _ => rfl) rfl
      · rcases r2 with e | fl2
        · exact hr2
        · cases fl2 with
          | ret v2 =>
            obtain ⟨rfl, h3, k3, rfl, hH, kk⟩ := hr2
            repeat (any_goals (first | assumption | wp_step))
            exact next _ _ hH kk
          | _ => exact hr2.elim
    | _ => exact hr.elim
end
/-- len(set(xs)), a list of texts -/
def tLenU (K : PySem.W.Frag) (ta : TE) : TE := fun σ H Q => ta σ H fun x H1 => ∃ (l : Addr) (xs : List Str), x = .ref l ∧ SqL K H1 l (xs.map V.str) ∧ xs.length < 4000 ∧ Q (.int ((uniq xs).length : Nat)) H1
theorem pe_lenU {X : Cx} {a : Expr} {ta : TE} {p p2 q pos : Pos} (hg : Gl X "len") (hm : X.mg "len" = none) (hg2 : Gl X "set") (hm2 : X.mg "set" = none) (ha : PE X a ta) (hc : X.calm = true := by rfl)
    (na : starEach [a] X.env = (false, eval a X.env) :: starEach [] X.env := by rfl) : PE X (.Call (.Name "len" p) [.Call (.Name "set" p2) [a] [] q] [] pos) (tLenU X.K ta) := by
  refine ⟨fun pins s σ H Q I h => ?_⟩
  refine Call_ (ld_blt I hg hm boot_len (PyProof.Rows.callWith_builtin1 (PyProof.Rows.args_cons ?_ rfl) rfl rfl))
  refine Call_ (ld_blt I hg2 hm2 boot_set (PyProof.Rows.callWith_type1 (PyProof.Rows.args_cons (thn (ha.run pins s σ H _ I h) fun v s1 hv => PyProof.Rows.args_nil ?_) na) na rfl))
  obtain ⟨x, H1, I1, r1, l, xs, rfl, hq, few, k⟩ := hv
  cases r1
  obtain ⟨its, rv, pl, hz⟩ := I1.list hq
  refine set_of (I1.ok.hd hc) pl.isList (by simpa using strsAre_of rv) few fun h3 tk hH kk => ?_
  refine PyProof.Rows.args_nil ?_
  obtain ⟨o, es, ep, t, ho, hex, hd, _, _, _, hf, hn⟩ := hH
  have I2 : L2.Inv X pins σ H1 { s1 with heap := h3, toks := tk } := I1.kept fun b o e => kk b o (Heap.lt_size e) e
  have le : (uniq xs).length ≤ xs.length := by
    have := upTo_le xs xs.length
    unfold upTo at this
    rw [List.take_length] at this
    exact this
  exact call_len_set ho hex hd hf (by rw [hn]; omega) ⟨.int ((uniq xs).length : Nat), H1, I2.tok _, ⟨_, by rw [hn]⟩, k⟩
end SL
set_option Elab.async false
set_option linter.all false
set_option maxRecDepth 100000
set_option maxHeartbeats 4000000
namespace JF
open PySem PySem.Spec PyProof.Rows L2 GxR GA
/-- the turns of a clause, over a walk -/
theorem turns_it {J : It} {n : Nat} {G : Hp → Prop} {Y : Nat → Hp → V → Hp → Prop} (w : Walk J n G Y) {g : TG} {vs : List Nat} {tb : L3.TBd} {σ : L2.St} {H : Hp} {Φ : Hp → Prop} (Pv : Nat → Hp → Prop) (h0 : Pv 0 H) (hG : ∀ i H, i ≤ n → Pv i H → G H)
    (hs : ∀ i x H H', i < n → Pv i H → Y i H x H' → g x (wipe σ vs) H' fun σ2 H2 => wipe σ2 vs = wipe σ vs ∧ tb σ2 H2 (Pv (i + 1))) (hd : ∀ H, Pv n H → Φ H) :
    ∃ W : Nat → Nat → Hp → Prop, (∃ m, W 0 m H) ∧ L3.tTurns J g vs tb σ Φ W := by
  refine ⟨fun i m H => m = n - i ∧ i ≤ n ∧ Pv i H, ⟨n, by simp, Nat.zero_le _, h0⟩, ?_⟩
  rintro i m H ⟨rfl, hi, p⟩
  have q := hG i H hi p
  by_cases hlt : i < n
  · exact .inr ⟨w.goes i H hlt q, Pv (i + 1), fun H' p' => ⟨n - (i + 1), by omega, rfl, hlt, p'⟩, fun x H' y => hs i x H H' hlt p (w.yields i H x H' hlt q y)⟩
  · have e : i = n := by omega
    subst e
    exact .inl ⟨w.stops H q, hd H p⟩
/-! ### kinds as they are read -/
abbrev Mk' := Str × List Str
abbrev Kd := Str × List Mk'
section
variable (K : PySem.W.Frag) (H : Hp)
def FieldsAt (v : V) (fs : List Str) : Prop := ∃ a, v = .ref a ∧ SqT K H a (fs.map V.str)
def MakerAt (v : V) (m : Mk') : Prop := ∃ a vf, v = .ref a ∧ SqT K H a [.str m.1, vf] ∧ FieldsAt K H vf m.2
def MakersAt (v : V) (ms : List Mk') : Prop := ∃ a xs, v = .ref a ∧ SqT K H a xs ∧ Paired (MakerAt K H) xs ms
def KindAt (v : V) (k : Kd) : Prop := ∃ a vm, v = .ref a ∧ SqT K H a [.str k.1, vm] ∧ MakersAt K H vm k.2
def KindsAt (v : V) (ks : List Kd) : Prop := ∃ a xs, v = .ref a ∧ SqT K H a xs ∧ Paired (KindAt K H) xs ks
end
section
variable {K : PySem.W.Frag} {H H' : Hp} {T : List Addr}
theorem paired_get {α β : Type} {F : α → β → Prop} : ∀ {xs : List α} {ys : List β} {i : Nat} {x : α}, Paired F xs ys → xs[i]? = some x → ∃ y, ys[i]? = some y ∧ F x y
  | _, _, _, _, .nil, h => by simp at h
  | _, _, 0, x, .cons r _, h => by
    have e : _ = x := Option.some.inj h
    subst e
    exact ⟨_, rfl, r⟩
  | _, _, i + 1, x, .cons _ t, h => paired_get (i := i) (x := x) t h
theorem paired_imp {α β : Type} {F G : α → β → Prop} (f : ∀ a b, F a b → G a b) : ∀ {xs : List α} {ys : List β}, Paired F xs ys → Paired G xs ys
  | _, _, .nil => .nil
  | _, _, .cons r t => .cons (f _ _ r) (paired_imp f t)
theorem paired_len {α β : Type} {F : α → β → Prop} {xs : List α} {ys : List β} (r : Paired F xs ys) : xs.length = ys.length := Paired.length r
/-- what reads sequences alone is as in H at any heap that reads them alike -/
theorem FieldsAt.to (q : ∀ a xs, SqT K H a xs → SqT K H' a xs) {v : V} {fs : List Str} (h : FieldsAt K H v fs) : FieldsAt K H' v fs := by
  obtain ⟨a, e, h⟩ := h
  exact ⟨a, e, q _ _ h⟩
theorem MakerAt.to (q : ∀ a xs, SqT K H a xs → SqT K H' a xs) {v : V} {m : Mk'} (h : MakerAt K H v m) : MakerAt K H' v m := by
  obtain ⟨a, vf, e, h1, h2⟩ := h
  exact ⟨a, vf, e, q _ _ h1, h2.to q⟩
theorem MakersAt.to (q : ∀ a xs, SqT K H a xs → SqT K H' a xs) {v : V} {ms : List Mk'} (h : MakersAt K H v ms) : MakersAt K H' v ms := by
  obtain ⟨a, xs, e, h1, h2⟩ := h
  exact ⟨a, xs, e, q _ _ h1, paired_imp (fun _ _ z => z.to q) h2⟩
theorem KindAt.to (q : ∀ a xs, SqT K H a xs → SqT K H' a xs) {v : V} {k : Kd} (h : KindAt K H v k) : KindAt K H' v k := by
  obtain ⟨a, vf, e, h1, h2⟩ := h
  exact ⟨a, vf, e, q _ _ h1, h2.to q⟩
theorem KindsAt.to (q : ∀ a xs, SqT K H a xs → SqT K H' a xs) {v : V} {ks : List Kd} (h : KindsAt K H v ks) : KindsAt K H' v ks := by
  obtain ⟨a, xs, e, h1, h2⟩ := h
  exact ⟨a, xs, e, q _ _ h1, paired_imp (fun _ _ z => z.to q) h2⟩
theorem sqT_new {p : Addr} {o : HO} (n : H p = none) : ∀ a xs, SqT K H a xs → SqT K (upd H p o) a xs := fun a xs h => by
  rcases h with (h | ⟨ob, h⟩) | h
  · exact .inl (.inl (by rw [upd_ne (ne_of_none h n)]; exact h))
  · exact .inl (.inr ⟨ob, by rw [upd_ne (ne_of_none h n)]; exact h⟩)
  · exact .inr h
end
/-! ### what is_kinds tells -/
def isFields : PyData → Bool := isTup 0 4 isField
def isMaker : PyData → Bool := isPair isHigh isFields
def isMakers : PyData → Bool := isTup 1 6 isMaker
def isKind : PyData → Bool := isPair isHigh isMakers
def strOf : PyData → Str
  | .str z => z
  | _ => ""
def itemsOf : PyData → List PyData
  | .tuple ds => ds
  | _ => []
def fstOf (d : PyData) : PyData := (itemsOf d).getD 0 .none
def sndOf (d : PyData) : PyData := (itemsOf d).getD 1 .none
def fieldsOf (d : PyData) : List Str := (itemsOf d).map strOf
def makerOf (d : PyData) : Mk' := (strOf (fstOf d), fieldsOf (sndOf d))
def makersOf (d : PyData) : List Mk' := (itemsOf d).map makerOf
def kindOf' (d : PyData) : Kd := (strOf (fstOf d), makersOf (sndOf d))
def kindsOf (d : PyData) : List Kd := (itemsOf d).map kindOf'
def kNames (ks : List Kd) : List Str := ks.map (·.1)
def kMakers (ks : List Kd) : List Str := ks.flatMap fun k => k.2.map (·.1)
def kWords (ks : List Kd) : List Str := ks.flatMap fun k => k.2.flatMap (·.2)
/-- unlike names, fields of kinds -/
def goodK (ks : List Kd) : Bool := !(decide ((SL.uniq (kNames ks)).length < (kNames ks).length) || decide ((SL.uniq (kMakers ks)).length < (kMakers ks).length)) && (kWords ks).all fun w => decide (w = "number") || inV (.str w) ((kNames ks).map V.str)
def isKinds (d : PyData) : Bool := isTup 1 6 isKind d && goodK (kindsOf d)
section
variable {K : PySem.W.Frag} {H : Hp}
theorem isHigh_str {d : PyData} (h : isHigh d = true) : ∃ z, d = .str z := by
  cases d <;> first | exact ⟨_, rfl⟩ | cases h
theorem isField_str {d : PyData} (h : isField d = true) : ∃ z, d = .str z := by
  cases d <;> first | exact ⟨_, rfl⟩ | cases h
theorem rp_str {v : V} {z : Str} (r : Rp K H v (.str z)) : v = .str z := by cases r; rfl
theorem strs_of : ∀ {xs : List V} {ds : List PyData}, RpAll K H xs ds → ds.all isField = true → xs = (ds.map strOf).map V.str
  | _, _, .nil, _ => rfl
  | _, _, .cons r t, h => by
    rw [List.all_cons, Bool.and_eq_true] at h
    obtain ⟨z, rfl⟩ := isField_str h.1
    rw [strs_of t h.2, rp_str r]
    rfl
theorem isTup_true {lo hi : Int} {f : PyData → Bool} {d : PyData} (h : isTup lo hi f d = true) : ∃ ds, d = .tuple ds ∧ lo ≤ (ds.length : Int) ∧ (ds.length : Int) ≤ hi ∧ ds.all f = true := by
  cases d with
  | tuple ds =>
    have h : ((decide (lo ≤ (ds.length : Int)) && decide ((ds.length : Int) ≤ hi)) && ds.all f) = true := h
    simp only [Bool.and_eq_true, decide_eq_true_eq] at h
    exact ⟨ds, rfl, h.1.1, h.1.2, h.2⟩
  | _ => cases h
theorem isPair_true {f g : PyData → Bool} {d : PyData} (h : isPair f g d = true) : ∃ a b, d = .tuple [a, b] ∧ f a = true ∧ g b = true := by
  cases d with
  | tuple ds =>
    match ds, h with
    | [a, b], h =>
      have h : (f a && g b) = true := h
      rw [Bool.and_eq_true] at h
      exact ⟨a, b, rfl, h.1, h.2⟩
  | _ => cases h
theorem fieldsAt {v : V} {d : PyData} (r : Rp K H v d) (h : isFields d = true) : FieldsAt K H v (fieldsOf d) := by
  obtain ⟨ds, rfl, _, _, ha⟩ := isTup_true h
  cases r with
  | @tup a xs _ hs rs => exact ⟨a, rfl, by rw [strs_of rs ha] at hs; exact hs⟩
theorem makerAt {v : V} {d : PyData} (r : Rp K H v d) (h : isMaker d = true) : MakerAt K H v (makerOf d) := by
  obtain ⟨a, b, rfl, h1, h2⟩ := isPair_true h
  obtain ⟨z, rfl⟩ := isHigh_str h1
  cases r with
  | @tup p xs _ hs rs =>
    cases rs with
    | cons r1 rs =>
    cases rs with
    | cons r2 rs =>
    cases rs
    exact ⟨p, _, rfl, by rw [rp_str r1] at hs; exact hs, fieldsAt r2 h2⟩
theorem makersAll : ∀ {xs : List V} {ds : List PyData}, RpAll K H xs ds → ds.all isMaker = true → Paired (MakerAt K H) xs (ds.map makerOf)
  | _, _, .nil, _ => .nil
  | _, _, .cons r t, h => by
    rw [List.all_cons, Bool.and_eq_true] at h
    exact .cons (makerAt r h.1) (makersAll t h.2)
theorem makersAt {v : V} {d : PyData} (r : Rp K H v d) (h : isMakers d = true) : MakersAt K H v (makersOf d) := by
  obtain ⟨ds, rfl, _, _, ha⟩ := isTup_true h
  cases r with
  | @tup a xs _ hs rs => exact ⟨a, xs, rfl, hs, makersAll rs ha⟩
theorem kindAt {v : V} {d : PyData} (r : Rp K H v d) (h : isKind d = true) : KindAt K H v (kindOf' d) := by
  obtain ⟨a, b, rfl, h1, h2⟩ := isPair_true h
  obtain ⟨z, rfl⟩ := isHigh_str h1
  cases r with
  | @tup p xs _ hs rs =>
    cases rs with
    | cons r1 rs =>
    cases rs with
    | cons r2 rs =>
    cases rs
    exact ⟨p, _, rfl, by rw [rp_str r1] at hs; exact hs, makersAt r2 h2⟩
theorem kindsAll : ∀ {xs : List V} {ds : List PyData}, RpAll K H xs ds → ds.all isKind = true → Paired (KindAt K H) xs (ds.map kindOf')
  | _, _, .nil, _ => .nil
  | _, _, .cons r t, h => by
    rw [List.all_cons, Bool.and_eq_true] at h
    exact .cons (kindAt r h.1) (kindsAll t h.2)
theorem kindsAt {v : V} {d : PyData} (r : Rp K H v d) (h : isTup 1 6 isKind d = true) : KindsAt K H v (kindsOf d) := by
  obtain ⟨ds, rfl, _, _, ha⟩ := isTup_true h
  cases r with
  | @tup a xs _ hs rs => exact ⟨a, xs, rfl, hs, kindsAll rs ha⟩
end
abbrev sFields : Stmt := topS 25
abbrev sMaker : Stmt := topS 26
abbrev sMakers : Stmt := topS 27
abbrev sKind : Stmt := topS 28
section
variable {P : Program} {w : World} {K : PySem.W.Frag} {mg : Str → Option Value} {base : Heap} {T : List Addr}
theorem in_any (d : PyData) : inTup (fun _ => True) d := by cases d <;> first | trivial | exact fun _ _ => trivial
theorem in_any2 (d : PyData) : inPair (fun _ => True) (fun _ => True) d := by
  unfold inPair
  split <;> trivial
theorem IsDef.of {k j : Nat} {g : Addr} {gd : FuncData} {f : PyData → Bool} (G : FnOk P w K mg base CX0 j g gd ["thing"] (spIs K T f)) (h : j ≤ k) (kG : PySem.W.keepIn K (.ref g) = true) (bG : Binds K gd ["thing"] []) : IsDef P w K mg base T k g (fun _ => True) f :=
  ⟨gd, "thing", spIs_D (G.mono h), kG, bG⟩

theorem scFields : FnScope ["thing"] ["thing"] (defScope sFields) := ⟨rfl, rfl, rfl, by decide +kernel, rfl, by decide +kernel, by decide +kernel⟩
theorem ok_fields {f g e : Addr} {fd gd : FuncData} (F : Fun K "are_fields" "are_fields" sFields f fd) (G : FnOk P w K mg base CX0 8 g gd ["thing", "least", "most", "fits"] (spTupleOf P w K mg base T 6)) (mG : mg "is_tuple_of" = some (.ref g)) (kG : PySem.W.keepIn K (.ref g) = true) (bG : Binds K gd ["thing", "least", "most", "fits"] [])
    (mE : mg "is_field_word" = some (.ref e)) (E : IsDef P w K mg base T 6 e (fun _ => True) isField) : FnOk P w K mg base CX0 9 f fd ["thing"] (spIs K T isFields) := by
  refine F.ok scFields (fun vs H Q E h => ?_) (fun cdv A outer s H vs Q E' hr h => ?_)
  · obtain ⟨v, d, rfl, _⟩ := h
    rfl
  · obtain ⟨v, d, rfl, r, tb, k⟩ := h
    refine ⟨_, pss_one (ps_ret (pe_call G hr rfl mG kG bG .nil pass0 (pa_cons (pv 0) (pa_cons pe_int (pa_cons pe_int (pa_cons (pe_glob (v := .ref e) rfl mE rfl) pa_nil)))))), ?_⟩
    exact ⟨v, rfl, v, d, _, _, e, _, _, rfl, r, in_any d, E, tb, k⟩

theorem scMaker : FnScope ["thing"] ["thing"] (defScope sMaker) := ⟨rfl, rfl, rfl, by decide +kernel, rfl, by decide +kernel, by decide +kernel⟩
theorem ok_maker {f g e1 e2 : Addr} {fd gd : FuncData} (F : Fun K "is_maker" "is_maker" sMaker f fd) (G : FnOk P w K mg base CX0 10 g gd ["thing", "fits_first", "fits_second"] (spPair P w K mg base T 9)) (mG : mg "is_pair" = some (.ref g)) (kG : PySem.W.keepIn K (.ref g) = true) (bG : Binds K gd ["thing", "fits_first", "fits_second"] [])
    (m1 : mg "is_high_name" = some (.ref e1)) (E1 : IsDef P w K mg base T 9 e1 (fun _ => True) isHigh) (m2 : mg "are_fields" = some (.ref e2)) (E2 : IsDef P w K mg base T 9 e2 (fun _ => True) isFields) : FnOk P w K mg base CX0 11 f fd ["thing"] (spIs K T isMaker) := by
  refine F.ok scMaker (fun vs H Q E h => ?_) (fun cdv A outer s H vs Q E' hr h => ?_)
  · obtain ⟨v, d, rfl, _⟩ := h
    rfl
  · obtain ⟨v, d, rfl, r, tb, k⟩ := h
    refine ⟨_, pss_one (ps_ret (pe_call G hr rfl mG kG bG .nil pass0 (pa_cons (pv 0) (pa_cons (pe_glob (v := .ref e1) rfl m1 rfl) (pa_cons (pe_glob (v := .ref e2) rfl m2 rfl) pa_nil))))), ?_⟩
    exact ⟨v, rfl, v, d, e1, e2, _, _, _, _, rfl, r, in_any2 d, E1, E2, tb, k⟩

theorem scMakers : FnScope ["thing"] ["thing"] (defScope sMakers) := ⟨rfl, rfl, rfl, by decide +kernel, rfl, by decide +kernel, by decide +kernel⟩
theorem ok_makers {f g e : Addr} {fd gd : FuncData} (F : Fun K "are_makers" "are_makers" sMakers f fd) (G : FnOk P w K mg base CX0 13 g gd ["thing", "least", "most", "fits"] (spTupleOf P w K mg base T 11)) (mG : mg "is_tuple_of" = some (.ref g)) (kG : PySem.W.keepIn K (.ref g) = true) (bG : Binds K gd ["thing", "least", "most", "fits"] [])
    (mE : mg "is_maker" = some (.ref e)) (E : IsDef P w K mg base T 11 e (fun _ => True) isMaker) : FnOk P w K mg base CX0 14 f fd ["thing"] (spIs K T isMakers) := by
  refine F.ok scMakers (fun vs H Q E h => ?_) (fun cdv A outer s H vs Q E' hr h => ?_)
  · obtain ⟨v, d, rfl, _⟩ := h
    rfl
  · obtain ⟨v, d, rfl, r, tb, k⟩ := h
    refine ⟨_, pss_one (ps_ret (pe_call G hr rfl mG kG bG .nil pass0 (pa_cons (pv 0) (pa_cons pe_int (pa_cons pe_int (pa_cons (pe_glob (v := .ref e) rfl mE rfl) pa_nil)))))), ?_⟩
    exact ⟨v, rfl, v, d, _, _, e, _, _, rfl, r, in_any d, E, tb, k⟩

theorem scKind : FnScope ["thing"] ["thing"] (defScope sKind) := ⟨rfl, rfl, rfl, by decide +kernel, rfl, by decide +kernel, by decide +kernel⟩
theorem ok_kind {f g e1 e2 : Addr} {fd gd : FuncData} (F : Fun K "is_kind" "is_kind" sKind f fd) (G : FnOk P w K mg base CX0 15 g gd ["thing", "fits_first", "fits_second"] (spPair P w K mg base T 14)) (mG : mg "is_pair" = some (.ref g)) (kG : PySem.W.keepIn K (.ref g) = true) (bG : Binds K gd ["thing", "fits_first", "fits_second"] [])
    (m1 : mg "is_high_name" = some (.ref e1)) (E1 : IsDef P w K mg base T 14 e1 (fun _ => True) isHigh) (m2 : mg "are_makers" = some (.ref e2)) (E2 : IsDef P w K mg base T 14 e2 (fun _ => True) isMakers) : FnOk P w K mg base CX0 16 f fd ["thing"] (spIs K T isKind) := by
  refine F.ok scKind (fun vs H Q E h => ?_) (fun cdv A outer s H vs Q E' hr h => ?_)
  · obtain ⟨v, d, rfl, _⟩ := h
    rfl
  · obtain ⟨v, d, rfl, r, tb, k⟩ := h
    refine ⟨_, pss_one (ps_ret (pe_call G hr rfl mG kG bG .nil pass0 (pa_cons (pv 0) (pa_cons (pe_glob (v := .ref e1) rfl m1 rfl) (pa_cons (pe_glob (v := .ref e2) rfl m2 rfl) pa_nil))))), ?_⟩
    exact ⟨v, rfl, v, d, e1, e2, _, _, _, _, rfl, r, in_any2 d, E1, E2, tb, k⟩
end
end JF
set_option Elab.async false
set_option linter.all false
set_option maxRecDepth 100000
set_option maxHeartbeats 4000000
namespace JF
open PySem PySem.Spec PyProof.Rows L2 GxR GA
theorem pg_two {X : Cx} {K : PySem.W.Frag} {i j k : Nat} {x y : Str} {p q pos : Pos} (hK : X.K = K) (hc : X.calm = true) (hN : X.N.Nodup) (hi : X.N[i]? = some x) (hj : X.N[j]? = some y) (hx : X.env.scope.names.lookup x = some .local) (hy : X.env.scope.names.lookup y = some .local) :
    PG X (.Tuple [.Name x p, .Name y q] k pos) (gTup K 2 (gCons (gName i) (gCons (gName j) gNil))) := by
  rw [← hK]
  exact pg_tup hc (pgs_cons (pg_name hN hi (.inl hx) (.inr hx)) (pgs_cons (pg_name hN hj (.inl hy) (.inr hy)) pgs_nil))
theorem pi_nm {X : Cx} {K : PySem.W.Frag} {tg : Expr} {i : Nat} {x : Str} {pos : Pos} (hK : X.K = K) (hN : X.N[i]? = some x) (hx : X.env.scope.names.lookup x = some .local) (hd : (x == ("__debug__" : Str)) = false) (hcd : (x == ("__classdict__" : Str)) = false) : PI X tg (.Name x pos) (iTup K (tVar i)) := by
  rw [← hK]
  exact pi_tup (pv i hN (.inl hx) hd hcd)
theorem op_inK {X : Cx} {K : PySem.W.Frag} (h : X.K = K) : OpR X (compareOp .In) (rIn K false) := by
  rw [← h]
  exact op_in_seq
theorem lcB_it {J : It} {n : Nat} {G : Hp → Prop} {Y : Nat → Hp → V → Hp → Prop} (w : Walk J n G Y) {g : TG} {tt : TT} {vs : List Nat} {σ : L2.St} {Hs : Hp} {Qd : Hp → Prop} {B : L2.St → Bool → Hp → (Hp → Prop) → Prop} (Pv : Nat → Hp → Prop) (h0 : Pv 0 Hs) (hG : ∀ i H, i ≤ n → Pv i H → G H)
    (hs : ∀ i x H H', i < n → Pv i H → Y i H x H' → g x (wipe σ vs) H' fun σ2 H2 => wipe σ2 vs = wipe σ vs ∧ tt σ2 H2 fun b H3 => B σ2 b H3 (Pv (i + 1))) (hd : ∀ H, Pv n H → Qd H) :
    ∃ W : Nat → Nat → Hp → Prop, (∃ m, W 0 m Hs) ∧ ∀ i m H, W i m H →
      (J.stop i H ∧ Qd H) ∨ (J.go i H ∧ ∃ Nx : Hp → Prop, (∀ H', Nx H' → ∃ m', m' < m ∧ W (i + 1) m' H') ∧ ∀ x H', J.yld i H x H' → g x (wipe σ vs) H' fun σ2 H2 => wipe σ2 vs = wipe σ vs ∧ tt σ2 H2 fun b H3 => B σ2 b H3 Nx) := by
  refine ⟨fun i m H => m = n - i ∧ i ≤ n ∧ Pv i H, ⟨n, by simp, Nat.zero_le _, h0⟩, ?_⟩
  rintro i m H ⟨rfl, hi, p⟩
  have q := hG i H hi p
  by_cases hlt : i < n
  · refine .inr ⟨w.goes i H hlt q, Pv (i + 1), fun H' p' => ⟨n - (i + 1), by omega, rfl, hlt, p'⟩, fun x H' y => hs i x H H' hlt p (w.yields i H x H' hlt q y)⟩
  · have e : i = n := by omega
    subst e
    exact .inl ⟨w.stops H q, hd H p⟩
theorem drop_at {α : Type} {l : List α} {i : Nat} {x : α} (h : l[i]? = some x) : l.drop i = x :: l.drop (i + 1) := by
  obtain ⟨hi, rfl⟩ := List.getElem?_eq_some_iff.mp h
  exact List.drop_eq_getElem_cons hi
theorem len_of_app {α : Type} {xs ys zs : List α} (h : xs ++ ys = zs) : xs.length ≤ zs.length := by
  rw [← h, List.length_append]; omega
theorem yesT {σ : L2.St} {H : Hp} {A B : Bool → Hp → Prop} (h : A true H) : tYes σ H fun b H3 => if b = true then A b H3 else B b H3 := by
  show if true = true then A true H else B true H
  rw [if_pos rfl]
  exact h
theorem wipe_setN (σ : L2.St) (i : Nat) (a : Option V) : ∀ vs : List Nat, i ∉ vs → wipe (σ.set i a) vs = (wipe σ vs).set i a
  | [], _ => rfl
  | v :: vs, h => by
    have h1 : i ≠ v := fun e => h (e ▸ List.mem_cons_self ..)
    have h2 : i ∉ vs := fun e => h (List.mem_cons_of_mem _ e)
    show (wipe (σ.set i a) vs).set v none = ((wipe σ vs).set v none).set i a
    rw [wipe_setN σ i a vs h2, List.set_comm _ _ h1]
theorem wipe_in (σ : L2.St) (i : Nat) (a : Option V) : ∀ vs : List Nat, i ∈ vs → wipe (σ.set i a) vs = wipe σ vs
  | v :: vs, h => by
    show (wipe (σ.set i a) vs).set v none = (wipe σ vs).set v none
    by_cases h2 : i ∈ vs
    · rw [wipe_in σ i a vs h2]
    · have h1 : i = v := by
        rcases List.mem_cons.mp h with e | e
        · exact e
        · exact absurd e h2
      subst h1
      rw [wipe_setN σ i a vs h2, List.set_set]
theorem lt10 {i m : Nat} (h : i < 10) (e : 10 = m) : i < m := e ▸ h
theorem g_two {K : PySem.W.Frag} {b : Addr} {x y : V} {σ : L2.St} {vs : List Nat} {i j : Nat} {H : Hp} {C : L2.St → Hp → Prop} (hb : SqT K H b [x, y]) (hi : i ∈ vs) (hj : j ∈ vs) (hij : i ≠ j) (li : i < σ.length) (lj : j < σ.length)
    (h : ∀ σ2 : L2.St, σ2.length = σ.length → (∀ n, n ∉ vs → σ2[n]? = σ[n]?) → σ2[i]? = some (some x) → σ2[j]? = some (some y) → C σ2 H) :
    gTup K 2 (gCons (gName i) (gCons (gName j) gNil)) (.ref b) (wipe σ vs) H fun σ2 H2 => wipe σ2 vs = wipe σ vs ∧ C σ2 H2 := by
  refine ⟨b, _, rfl, hb, rfl, _, _, rfl, _, _, rfl, rfl, ?_, h _ ?_ (fun n hn => ?_) ?_ ?_⟩
  · rw [wipe_in _ _ _ _ hj, wipe_in _ _ _ _ hi, L3.wipe_wipe]
  · rw [List.length_set, List.length_set, wipe_length]
  · rw [List.getElem?_set_ne (fun e : j = n => hn (e ▸ hj)), List.getElem?_set_ne (fun e : i = n => hn (e ▸ hi)), wipe_out hn]
  · rw [List.getElem?_set_ne hij.symm]
    exact List.getElem?_set_self (by rw [wipe_length]; exact li)
  · exact List.getElem?_set_self (by rw [List.length_set, wipe_length]; exact lj)
theorem g_one {x : V} {σ : L2.St} {vs : List Nat} {i : Nat} {H : Hp} {C : L2.St → Hp → Prop} (hi : i ∈ vs) (li : i < σ.length)
    (h : ∀ σ2 : L2.St, σ2.length = σ.length → (∀ n, n ∉ vs → σ2[n]? = σ[n]?) → σ2[i]? = some (some x) → C σ2 H) :
    gName i x (wipe σ vs) H fun σ2 H2 => wipe σ2 vs = wipe σ vs ∧ C σ2 H2 := by
  refine ⟨?_, h _ ?_ (fun n hn => ?_) ?_⟩
  · rw [wipe_in _ _ _ _ hi, L3.wipe_wipe]
  · rw [List.length_set, wipe_length]
  · rw [List.getElem?_set_ne (fun e : i = n => hn (e ▸ hi)), wipe_out hn]
  · exact List.getElem?_set_self (by rw [wipe_length]; exact li)
abbrev sKinds : Stmt := topS 29
theorem flat_len {α β : Type} (f : α → List β) (c : Nat) : ∀ l : List α, (∀ x ∈ l, (f x).length ≤ c) → (l.flatMap f).length ≤ l.length * c
  | [], _ => by simp
  | x :: l, h => by
    rw [List.flatMap_cons, List.length_append, List.length_cons, Nat.succ_mul]
    have h1 := h x (List.mem_cons_self ..)
    have h2 := flat_len f c l fun y hy => h y (List.mem_cons_of_mem _ hy)
    omega
/-- at most six kinds of six makers of four fields -/
structure Few (ks : List Kd) : Prop where
  kn : ks.length ≤ 6
  ms : ∀ k ∈ ks, k.2.length ≤ 6
  fs : ∀ k ∈ ks, ∀ m ∈ k.2, m.2.length ≤ 4
theorem few_of {d : PyData} (h : isTup 1 6 isKind d = true) : Few (kindsOf d) := by
  obtain ⟨ds, rfl, _, h6, ha⟩ := isTup_true h
  have mk : ∀ x ∈ ds, isKind x = true := fun x hx => List.all_eq_true.mp ha x hx
  refine ⟨by show (ds.map kindOf').length ≤ 6; rw [List.length_map]; omega, fun k hk => ?_, fun k hk m hm => ?_⟩
  · obtain ⟨x, hx, rfl⟩ := List.mem_map.mp (show k ∈ ds.map kindOf' from hk)
    obtain ⟨a, b, rfl, _, h2⟩ := isPair_true (mk x hx)
    obtain ⟨es, rfl, _, g6, _⟩ := isTup_true h2
    show (es.map makerOf).length ≤ 6
    rw [List.length_map]; omega
  · obtain ⟨x, hx, rfl⟩ := List.mem_map.mp (show k ∈ ds.map kindOf' from hk)
    obtain ⟨a, b, rfl, _, h2⟩ := isPair_true (mk x hx)
    obtain ⟨es, rfl, _, _, he⟩ := isTup_true h2
    obtain ⟨y, hy, rfl⟩ := List.mem_map.mp (show m ∈ es.map makerOf from hm)
    obtain ⟨a2, b2, rfl, _, g2⟩ := isPair_true (List.all_eq_true.mp he y hy)
    obtain ⟨fs, rfl, _, f4, _⟩ := isTup_true g2
    show (fs.map strOf).length ≤ 4
    rw [List.length_map]; omega
theorem Few.makers {ks : List Kd} (h : Few ks) : (kMakers ks).length ≤ 36 := by
  have := flat_len (fun k : Kd => k.2.map (·.1)) 6 ks fun k hk => by rw [List.length_map]; exact h.ms k hk
  have h6 := h.kn
  unfold kMakers
  omega
theorem Few.words {ks : List Kd} (h : Few ks) : (kWords ks).length ≤ 144 := by
  have := flat_len (fun k : Kd => k.2.flatMap (·.2)) 24 ks fun k hk => by
    have := flat_len (fun m : Mk' => m.2) 4 k.2 fun m hm => h.fs k hk m hm
    have h6 := h.ms k hk
    omega
  have h6 := h.kn
  unfold kWords
  omega
section
variable {P : Program} {w : World} {K : PySem.W.Frag} {mg : Str → Option Value} {base : Heap} {T : List Addr}
theorem scKinds : FnScope ["thing", "names", "makers", "words", "name", "_", "made", "maker", "fields", "word"] ["thing"] (defScope sKinds) := ⟨rfl, rfl, rfl, by decide +kernel, rfl, by decide +kernel, by decide +kernel⟩
theorem ok_kinds {f c Pt g e : Addr} {fd gd : FuncData} (F : FunC K "is_kinds" "is_kinds" sKinds f fd c) (B : BI mg) (Bs : mg "set" = none) (TB : TabB base mg c Pt) (hT : Pt ∈ T)
    (G : FnOk P w K mg base CX0 18 g gd ["thing", "least", "most", "fits"] (spTupleOf P w K mg base T 16)) (mG : mg "is_tuple_of" = some (.ref g)) (kG : PySem.W.keepIn K (.ref g) = true) (bG : Binds K gd ["thing", "least", "most", "fits"] [])
    (mE : mg "is_kind" = some (.ref e)) (E : IsDef P w K mg base T 16 e (fun _ => True) isKind) : FnOk P w K mg base CX0 19 f fd ["thing"] (spIs K T isKinds) := by
  refine F.ok scKinds (fun vs H Q E h => ?_) (fun A outer s H vs Q E' hr h => ?_)
  · obtain ⟨v, d, rfl, _⟩ := h
    rfl
  · obtain ⟨v, d, rfl, r, tb, k⟩ := h
    refine ⟨_, pss_cons (ps_if (pt_not (pt_val (pe_call G hr rfl mG kG bG .nil pass0 (pa_cons (pv 0) (pa_cons pe_int (pa_cons pe_int (pa_cons (pe_glob (v := .ref e) rfl mE rfl) pa_nil))))))) (pss_one (ps_ret pe_bl)) pss_nil)
      (pss_cons (ps_set (i := 1) scKinds.nd rfl (.inr rfl) (pe_lc (own := [("name", 4), ("_", 5)]) (by rfl) scKinds.nd (pi_tup (pv 0)) (blkOk_by (N := ["thing", "names", "makers", "words", "name", "_", "made", "maker", "fields", "word"]) (sc := defScope sKinds) (by decide +kernel))
        (fun _ _ _ _ _ => pg_two (K := K) (i := 4) (j := 5) rfl rfl scKinds.nd rfl rfl rfl rfl) (fun _ _ _ _ _ => pts_nil) (fun _ _ _ _ _ => pv 4)))
      (pss_cons (ps_setLc2 (i := 2) (own := [("_", 5), ("made", 6), ("maker", 7)]) (vs1 := [7, 5]) (by rfl) scKinds.nd rfl rfl (sw_true rfl rfl rfl (by decide +kernel)) (pi_tup (pv 0)) (blkOk_by (N := ["thing", "names", "makers", "words", "name", "_", "made", "maker", "fields", "word"]) (sc := defScope sKinds) (by decide +kernel)) (by decide)
        (fun _ _ _ _ _ => pg_two (K := K) (i := 5) (j := 6) rfl rfl scKinds.nd rfl rfl rfl rfl) (fun _ _ _ _ _ => pts_nil)
        (fun _ _ _ _ _ => pi_nm (K := K) (i := 6) rfl rfl rfl rfl rfl)
        (fun _ _ _ _ _ => pg_two (K := K) (i := 7) (j := 5) rfl rfl scKinds.nd rfl rfl rfl rfl) (fun _ _ _ _ _ => pts_nil) (fun _ _ _ _ _ => pv 7))
      (pss_cons (L3.ps_setLc3 (i := 3) (own := [("_", 5), ("made", 6), ("fields", 8), ("word", 9)]) (vs1 := [5, 8, 9]) (vs2 := [9]) (by rfl) scKinds.nd rfl rfl (sw_true rfl rfl rfl (by decide +kernel)) (pi_tup (pv 0)) (blkOk_by (N := ["thing", "names", "makers", "words", "name", "_", "made", "maker", "fields", "word"]) (sc := defScope sKinds) (by decide +kernel)) (by decide) (by decide)
        (fun _ _ _ _ _ => pg_two (K := K) (i := 5) (j := 6) rfl rfl scKinds.nd rfl rfl rfl rfl)
        (fun _ _ _ _ _ => pi_nm (K := K) (i := 6) rfl rfl rfl rfl rfl)
        (fun _ _ _ _ _ => pg_two (K := K) (i := 5) (j := 8) rfl rfl scKinds.nd rfl rfl rfl rfl)
        (fun _ _ _ _ _ => pi_nm (K := K) (i := 8) rfl rfl rfl rfl rfl)
        (fun _ _ _ _ _ => pg_name (i := 9) scKinds.nd rfl (.inl rfl))
        (fun _ _ _ _ _ => pv 9))
      (pss_cons (ps_if (PW.pt (pw_or (pt_cmpR op_lt (SL.pe_lenU rfl B.len rfl Bs (pv 1)) (pe_callB call_len_seq (by rfl) B.len PySem.boot_len (pa_cons (pv 1) pa_nil)) (nomark _))
        (pw_or1 (pt_cmpR op_lt (SL.pe_lenU rfl B.len rfl Bs (pv 2)) (pe_callB call_len_seq (by rfl) B.len PySem.boot_len (pa_cons (pv 2) pa_nil)) (nomark _))))) (pss_one (ps_ret pe_bl)) pss_nil)
      (pss_one (ps_ret (pe_allG (own := [("word", 9)]) (g := gName 9) (k := 17) hr rfl B.all rfl scKinds.nd TB rfl (pi_list (pv 3)) (blkOk_by (N := ["thing", "names", "makers", "words", "name", "_", "made", "maker", "fields", "word"]) (sc := defScope sKinds) (by decide +kernel)) (by decide +kernel) rfl (by decide +kernel)
        (fun _ _ _ _ _ _ _ _ => pg_name (i := 9) scKinds.nd rfl (.inl rfl))
        (fun _ _ _ _ _ _ _ _ => pe_or (pe_cmpR op_eq (pv 9) pe_str (nomark _)) (pe_one (pe_cmpR (op_inK (K := K) rfl) (pv 9) (pv 1) rfl)))))))))), ?_⟩
    refine ⟨v, rfl, v, d, 1, 6, e, _, _, rfl, r, in_any d, E, tb, fun H1 x1 => ?_⟩
    refine ⟨_, rfl, ?_⟩
    show if (!isTup 1 6 isKind d) = true then _ else _
    cases e1 : isTup 1 6 isKind d with
    | false =>
      refine iteT ?_
      have := k H1 x1
      have e2 : isKinds d = false := by unfold isKinds; rw [e1]; rfl
      rw [e2] at this
      exact this
    | true =>
      refine iteF ?_
      have few := few_of e1
      have kk := k
      have e2 : isKinds d = goodK (kindsOf d) := by unfold isKinds; rw [e1]; rfl
      rw [e2] at kk
      obtain ⟨a, xs, rfl, hs, pr⟩ := kindsAt (r.ex x1 tb) e1
      generalize kindsOf d = ks at few kk pr
      have ln : xs.length = ks.length := paired_len pr
      refine ⟨_, rfl, a, rfl, ⟨xs, hs⟩, fun D hD => lcB_it walk_tup (fun i H' => ∃ acc : List Str, H' = upd H1 D (.lst (acc.map V.str)) ∧ acc ++ kNames (ks.drop i) = kNames ks) ⟨[], rfl, rfl⟩ (fun i H' _ ⟨acc, e, _⟩ => e ▸ sqT_new hD _ _ hs) (fun i x H' H2 hi ⟨acc, e, ea⟩ y => ?_) (fun H' ⟨acc, e, ea⟩ => ?_)⟩
      · obtain ⟨rfl, hx⟩ := y
        obtain ⟨kd, hk, b, vm, rfl, hb, _⟩ := paired_get pr hx
        subst e
        have bd : acc.length ≤ 6 := by
          have := len_of_app ea
          unfold kNames at this
          rw [List.length_map] at this
          exact Nat.le_trans this few.kn
        rw [drop_at hk] at ea
        exact g_two (sqT_new hD _ _ hb) (by decide) (by decide) (by decide) (lt10 (by decide) rfl) (lt10 (by decide) rfl) fun σ2 _ _ g4 _ => yesT ⟨_, g4, acc.map V.str, upd_same, by rw [List.length_map]; exact small1000 (by omega), acc ++ [kd.1], by rw [upd_upd, List.map_append]; rfl, by rw [← ea]; simp [kNames]⟩
      rw [ln, List.drop_length] at ea
      have ea : acc = kNames ks := by rw [← ea]; simp [kNames]
      subst ea
      subst e
      have x2 : Ex T H1 (upd H1 D (.lst ((kNames ks).map V.str))) := Ex.new hD
      have hsD : SqL K (upd H1 D (.lst ((kNames ks).map V.str))) D ((kNames ks).map V.str) := .inl (.inl upd_same)
      have q2 : ∀ b ys, SqT K H1 b ys → SqT K (upd H1 D (.lst ((kNames ks).map V.str))) b ys := sqT_new hD
      generalize upd H1 D (.lst ((kNames ks).map V.str)) = H2 at x2 hsD q2
      have pr2 : Paired (KindAt K H2) xs ks := paired_imp (fun _ _ z => z.to q2) pr
      have hs2 := q2 _ _ hs
      clear pr hs q2 hD
      -- makers
      refine ⟨_, rfl, a, rfl, ⟨xs, hs2⟩, fun D2 hD2 => lcB_it walk_tup (fun i H' => ∃ acc : List Str, H' = upd H2 D2 (.lst (acc.map V.str)) ∧ acc ++ kMakers (ks.drop i) = kMakers ks) ⟨[], rfl, rfl⟩ (fun i H' _ ⟨acc, e, _⟩ => e ▸ sqT_new hD2 _ _ hs2) (fun i x H' H3 hi ⟨acc, e, ea⟩ y => ?_) (fun H' ⟨acc, e, ea⟩ => ?_)⟩
      · obtain ⟨rfl, hx⟩ := y
        obtain ⟨kd, hk, b, vm, rfl, hb, c2, ms, rfl, hc2, pm⟩ := paired_get pr2 hx
        subst e
        rw [drop_at hk] at ea
        have lm : ms.length = kd.2.length := paired_len pm
        refine g_two (sqT_new hD2 _ _ hb) (by decide) (by decide) (by decide) (lt10 (by decide) rfl) (lt10 (by decide) rfl) fun σ2 l2 _ _ g6 => yesT ⟨_, g6, c2, rfl, ⟨ms, sqT_new hD2 _ _ hc2⟩, lcB_it walk_tup (fun j H' => ∃ acc : List Str, H' = upd H2 D2 (.lst (acc.map V.str)) ∧ acc ++ ((kd.2.drop j).map (·.1) ++ kMakers (ks.drop (i + 1))) = kMakers ks) ⟨acc, rfl, ea⟩ (fun j H' _ ⟨acc, e, _⟩ => e ▸ sqT_new hD2 _ _ hc2) (fun j x2 H' H4 hj ⟨acc, e, ea⟩ y => ?_) (fun H' ⟨acc, e, ea⟩ => ⟨acc, e, ?_⟩)⟩
        · obtain ⟨rfl, hx2⟩ := y
          obtain ⟨mk, hm, b3, vf, rfl, hb3, _⟩ := paired_get pm hx2
          subst e
          have bd : acc.length ≤ 36 := Nat.le_trans (len_of_app ea) few.makers
          rw [drop_at hm] at ea
          exact g_two (sqT_new hD2 _ _ hb3) (by decide) (by decide) (by decide) (by rw [l2]; exact lt10 (by decide) rfl) (by rw [l2]; exact lt10 (by decide) rfl) fun σ3 _ _ g7 _ => yesT ⟨_, g7, acc.map V.str, upd_same, by rw [List.length_map]; exact small1000 (by omega), acc ++ [mk.1], by rw [upd_upd, List.map_append]; rfl, by rw [← ea]; simp⟩
        · rw [lm, List.drop_length] at ea
          simpa using ea
      rw [ln, List.drop_length] at ea
      have ea : acc = kMakers ks := by rw [← ea]; simp [kMakers]
      subst ea
      subst e
      have x3 : Ex T H2 (upd H2 D2 (.lst ((kMakers ks).map V.str))) := Ex.new hD2
      have hsM : SqL K (upd H2 D2 (.lst ((kMakers ks).map V.str))) D2 ((kMakers ks).map V.str) := .inl (.inl upd_same)
      have q3 : ∀ b ys, SqT K H2 b ys → SqT K (upd H2 D2 (.lst ((kMakers ks).map V.str))) b ys := sqT_new hD2
      generalize upd H2 D2 (.lst ((kMakers ks).map V.str)) = H3 at x3 hsM q3
      have pr3 : Paired (KindAt K H3) xs ks := paired_imp (fun _ _ z => z.to q3) pr2
      have hs3 := q3 _ _ hs2
      have tb2 : TbOk T H2 := (x1.trans x2).tb tb
      have hsD3 := x3.sqL tb2 hsD
      have tb3 : TbOk T H3 := x3.tb tb2
      clear pr2 hs2 q3 hD2 hsD
      -- words
      refine ⟨_, rfl, a, rfl, ⟨xs, hs3⟩, fun D3 hD3 => turns_it walk_tup (fun i H' => ∃ acc : List Str, H' = upd H3 D3 (.lst (acc.map V.str)) ∧ acc ++ kWords (ks.drop i) = kWords ks) ⟨[], rfl, rfl⟩ (fun i H' _ ⟨acc, e, _⟩ => e ▸ sqT_new hD3 _ _ hs3) (fun i x H' H4 hi ⟨acc, e, ea⟩ y => ?_) (fun H' ⟨acc, e, ea⟩ => ?_)⟩
      · obtain ⟨rfl, hx⟩ := y
        obtain ⟨kd, hk, b, vm, rfl, hb, c2, ms, rfl, hc2, pm⟩ := paired_get pr3 hx
        subst e
        rw [drop_at hk] at ea
        have lm : ms.length = kd.2.length := paired_len pm
        refine g_two (sqT_new hD3 _ _ hb) (by decide) (by decide) (by decide) (lt10 (by decide) rfl) (lt10 (by decide) rfl) fun σ2 l2 _ _ g6 => ⟨_, g6, c2, rfl, ⟨ms, sqT_new hD3 _ _ hc2⟩, turns_it walk_tup (fun j H' => ∃ acc : List Str, H' = upd H3 D3 (.lst (acc.map V.str)) ∧ acc ++ ((kd.2.drop j).flatMap (·.2) ++ kWords (ks.drop (i + 1))) = kWords ks) ⟨acc, rfl, ea⟩ (fun j H' _ ⟨acc, e, _⟩ => e ▸ sqT_new hD3 _ _ hc2) (fun j x2 H' H4 hj ⟨acc, e, ea⟩ y => ?_) (fun H' ⟨acc, e, ea⟩ => ⟨acc, e, ?_⟩)⟩
        · obtain ⟨rfl, hx2⟩ := y
          obtain ⟨mk, hm, b3, vf, rfl, hb3, c4, rfl, hc4⟩ := paired_get pm hx2
          subst e
          rw [drop_at hm] at ea
          refine g_two (sqT_new hD3 _ _ hb3) (by decide) (by decide) (by decide) (by rw [l2]; exact lt10 (by decide) rfl) (by rw [l2]; exact lt10 (by decide) rfl) fun σ3 l3 _ _ g8 => ⟨_, g8, c4, rfl, ⟨_, sqT_new hD3 _ _ hc4⟩, turns_it walk_tup (fun l H' => ∃ acc : List Str, H' = upd H3 D3 (.lst (acc.map V.str)) ∧ acc ++ (mk.2.drop l ++ ((kd.2.drop (j + 1)).flatMap (·.2) ++ kWords (ks.drop (i + 1)))) = kWords ks) ⟨acc, rfl, by rw [← ea]; simp⟩ (fun j H' _ ⟨acc, e, _⟩ => e ▸ sqT_new hD3 _ _ hc4) (fun l x4 H' H4 hl ⟨acc, e, ea⟩ y => ?_) (fun H' ⟨acc, e, ea⟩ => ⟨acc, e, ?_⟩)⟩
          · obtain ⟨rfl, hx4⟩ := y
            rw [List.getElem?_map] at hx4
            obtain ⟨wd, hw, rfl⟩ := Option.map_eq_some_iff.mp hx4
            subst e
            have bd : acc.length ≤ 144 := Nat.le_trans (len_of_app ea) few.words
            rw [drop_at hw] at ea
            exact g_one (by decide) (by rw [l3, l2]; exact lt10 (by decide) rfl) fun σ4 _ _ g9 => ⟨_, g9, acc.map V.str, upd_same, by rw [List.length_map]; exact small1000 (by omega), acc ++ [wd], by rw [upd_upd, List.map_append]; rfl, by rw [← ea]; simp⟩
          · rw [List.length_map, List.drop_length] at ea
            simpa using ea
        · rw [lm, List.drop_length] at ea
          simpa using ea
      rw [ln, List.drop_length] at ea
      have ea : acc = kWords ks := by rw [← ea]; simp [kWords]
      subst ea
      subst e
      have x4 : Ex T H3 (upd H3 D3 (.lst ((kWords ks).map V.str))) := Ex.new hD3
      have hsW : SqL K (upd H3 D3 (.lst ((kWords ks).map V.str))) D3 ((kWords ks).map V.str) := .inl (.inl upd_same)
      generalize upd H3 D3 (.lst ((kWords ks).map V.str)) = H4 at x4 hsW
      have hsD4 := x4.sqL tb3 hsD3
      have hsM4 := x4.sqL tb3 hsM
      have tb4 : TbOk T H4 := x4.tb tb3
      have xx : Ex T H H4 := ((x1.trans x2).trans x3).trans x4
      have nn : (kNames ks).length ≤ 6 := by unfold kNames; rw [List.length_map]; exact few.kn
      have nm := few.makers
      refine ⟨_, rfl, D, kNames ks, rfl, hsD4, by omega, _, rfl, D, _, rfl, .inl hsD4, _, _, rfl, rfl, _, rfl, ?_⟩
      have li1 : ((kNames ks).map V.str).length = (kNames ks).length := List.length_map ..
      have li2 : ((kMakers ks).map V.str).length = (kMakers ks).length := List.length_map ..
      have no : (decide ((SL.uniq (kNames ks)).length < (kNames ks).length) || decide ((SL.uniq (kMakers ks)).length < (kMakers ks).length)) = true → goodK ks = false := fun z => by unfold goodK; rw [z]; rfl
      have yes : (decide ((SL.uniq (kNames ks)).length < (kNames ks).length) || decide ((SL.uniq (kMakers ks)).length < (kMakers ks).length)) = false → goodK ks = ((kWords ks).all fun w => decide (w = "number") || inV (.str w) ((kNames ks).map V.str)) := fun z => by unfold goodK; rw [z]; rfl
      have end0 : goodK ks = false → Q (.bl false) H4 := fun z => by
        have := kk H4 xx
        rw [z] at this
        exact this
      rw [li1]
      refine ite2 (fun g1 => iteT (end0 (no ?_))) (fun g1 => ?_)
      · have g1 := of_decide_eq_true g1
        rw [decide_eq_true (show (SL.uniq (kNames ks)).length < (kNames ks).length by omega), Bool.true_or]
      have g1 : ¬ (SL.uniq (kNames ks)).length < (kNames ks).length := fun z => g1 (decide_eq_true (by omega))
      refine ⟨_, rfl, D2, kMakers ks, rfl, hsM4, by omega, _, rfl, D2, _, rfl, .inl hsM4, _, _, rfl, rfl, _, rfl, ?_⟩
      rw [li2]
      refine ite2 (fun g2 => end0 (no ?_)) (fun g2 => ?_)
      · have g2 := of_decide_eq_true g2
        rw [decide_eq_true (show (SL.uniq (kMakers ks)).length < (kMakers ks).length by omega), Bool.or_true]
      have g2 : ¬ (SL.uniq (kMakers ks)).length < (kMakers ks).length := fun z => g2 (decide_eq_true (by omega))
      have gg := yes (by rw [decide_eq_false g1, decide_eq_false g2]; rfl)
      rw [gg] at kk
      refine ⟨_, rfl, D3, rfl, ⟨_, hsW⟩, tb4 Pt hT, fun H5 ht => ?_⟩
      have x5 : Ex T H4 H5 := Ex.tabbed hT ht
      have hsW5 := x5.sqL tb4 hsW
      have hsD5 := x5.sqL tb4 hsD4
      have tb5 := x5.tb tb4
      refine gen_bools (T := T) walk_list (kWords ks) (List.length_map ..).symm (fun w => decide (w = "number") || inV (.str w) ((kNames ks).map V.str)) (fun _ e => e.sqL tb5 hsW5) (fun i x wd H6 H7 x6 hw y Q' hq => ?_) (fun H6 x6 => kk H6 (xx.trans (x5.trans x6)))
      obtain ⟨rfl, hx⟩ := y
      rw [List.getElem?_map, hw] at hx
      cases hx
      refine ⟨rfl, _, rfl, rfl, _, rfl, ite2 (fun e => ?_) (fun e => ?_)⟩
      · have e := V.str.inj (of_decide_eq_true e)
        have := hq _ x6
        rw [decide_eq_true e, Bool.true_or] at this
        exact this
      · have e : ¬ wd = "number" := fun z => e (decide_eq_true (by rw [z]))
        have := hq _ x6
        rw [decide_eq_false e, Bool.false_or] at this
        exact ⟨_, rfl, _, rfl, D, _, rfl, .inl (x6.sqL tb5 hsD5), rfl, List.all_eq_true.mpr (fun z hz => by obtain ⟨u, _, rfl⟩ := List.mem_map.mp hz; rfl), this⟩
end
end JF
set_option Elab.async false
set_option linter.all false
set_option maxRecDepth 100000
set_option maxHeartbeats 4000000
namespace JF
open PySem PySem.Spec PyProof.Rows L2 GxR GA
abbrev sMakeArgs : Stmt := topS 30
abbrev sCallArgs : Stmt := topS 31
abbrev sBranch : Stmt := topS 32
abbrev sBranches : Stmt := topS 33
abbrev sBegins : Stmt := topS 35
abbrev sParts : Stmt := topS 36
abbrev sRow : Stmt := topS 37
abbrev sFunction : Stmt := topS 38
abbrev sFunctions : Stmt := topS 39
abbrev sProgram : Stmt := topS 40
def isMakeArgs : PyData → Bool := isTup 0 4 isRegister
def isCallArgs : PyData → Bool := isTup 0 8 isRegister
def isBranch : PyData → Bool := isPair isMakeArgs isNext
def isBranches : PyData → Bool := isTup 1 6 isBranch
/-- what stands behind a row's word, or none where there is no such word -/
def formOf (z : Str) : Option (List (PyData → Bool)) :=
  if z = "number" then some [isRegister, isNumber, isNext]
  else if z = "add" then some [isRegister, isRegister, isRegister, isNext]
  else if z = "sub" then some [isRegister, isRegister, isRegister, isNext]
  else if z = "less" then some [isRegister, isRegister, isNext, isNext]
  else if z = "make" then some [isRegister, isHigh, isMakeArgs, isNext]
  else if z = "match" then some [isRegister, isBranches]
  else if z = "call" then some [isRegister, isLow, isCallArgs, isNext]
  else if z = "give" then some [isRegister]
  else none
def fitAll : List (PyData → Bool) → List PyData → Bool
  | f :: fs, d :: ds => f d && fitAll fs ds
  | _, _ => true
def isRow : PyData → Bool
  | .tuple (.str z :: ds) => match formOf z with
    | some fs => decide (ds.length = fs.length) && fitAll fs ds
    | none => false
  | _ => false
def isFunction : PyData → Bool
  | .tuple [a, b, c, d] => (isLow a && isTup 0 8 isField b) && (isField c && isTup 1 60 isRow d)
  | _ => false
def isFunctions : PyData → Bool := isTup 1 12 isFunction
def isProgram : PyData → Bool := isPair isKinds isFunctions
section
variable {P : Program} {w : World} {K : PySem.W.Frag} {mg : Str → Option Value} {base : Heap} {T : List Addr}
theorem scMakeArgs : FnScope ["thing"] ["thing"] (defScope sMakeArgs) := ⟨rfl, rfl, rfl, by decide +kernel, rfl, by decide +kernel, by decide +kernel⟩
theorem ok_make_args {f g e : Addr} {fd gd : FuncData} (F : Fun K "are_make_args" "are_make_args" sMakeArgs f fd) (G : FnOk P w K mg base CX0 4 g gd ["thing", "least", "most", "fits"] (spTupleOf P w K mg base T 2)) (mG : mg "is_tuple_of" = some (.ref g)) (kG : PySem.W.keepIn K (.ref g) = true) (bG : Binds K gd ["thing", "least", "most", "fits"] [])
    (mE : mg "is_register" = some (.ref e)) (E : IsDef P w K mg base T 2 e (fun _ => True) isRegister) : FnOk P w K mg base CX0 5 f fd ["thing"] (spIs K T isMakeArgs) := by
  refine F.ok scMakeArgs (fun vs H Q E h => ?_) (fun cdv A outer s H vs Q E' hr h => ?_)
  · obtain ⟨v, d, rfl, _⟩ := h
    rfl
  · obtain ⟨v, d, rfl, r, tb, k⟩ := h
    refine ⟨_, pss_one (ps_ret (pe_call G hr rfl mG kG bG .nil pass0 (pa_cons (pv 0) (pa_cons pe_int (pa_cons pe_int (pa_cons (pe_glob (v := .ref e) rfl mE rfl) pa_nil)))))), ?_⟩
    exact ⟨v, rfl, v, d, _, _, e, _, _, rfl, r, in_any d, E, tb, k⟩
theorem scCallArgs : FnScope ["thing"] ["thing"] (defScope sCallArgs) := ⟨rfl, rfl, rfl, by decide +kernel, rfl, by decide +kernel, by decide +kernel⟩
theorem ok_call_args {f g e : Addr} {fd gd : FuncData} (F : Fun K "are_call_args" "are_call_args" sCallArgs f fd) (G : FnOk P w K mg base CX0 4 g gd ["thing", "least", "most", "fits"] (spTupleOf P w K mg base T 2)) (mG : mg "is_tuple_of" = some (.ref g)) (kG : PySem.W.keepIn K (.ref g) = true) (bG : Binds K gd ["thing", "least", "most", "fits"] [])
    (mE : mg "is_register" = some (.ref e)) (E : IsDef P w K mg base T 2 e (fun _ => True) isRegister) : FnOk P w K mg base CX0 5 f fd ["thing"] (spIs K T isCallArgs) := by
  refine F.ok scCallArgs (fun vs H Q E h => ?_) (fun cdv A outer s H vs Q E' hr h => ?_)
  · obtain ⟨v, d, rfl, _⟩ := h
    rfl
  · obtain ⟨v, d, rfl, r, tb, k⟩ := h
    refine ⟨_, pss_one (ps_ret (pe_call G hr rfl mG kG bG .nil pass0 (pa_cons (pv 0) (pa_cons pe_int (pa_cons pe_int (pa_cons (pe_glob (v := .ref e) rfl mE rfl) pa_nil)))))), ?_⟩
    exact ⟨v, rfl, v, d, _, _, e, _, _, rfl, r, in_any d, E, tb, k⟩
theorem scBranch : FnScope ["thing"] ["thing"] (defScope sBranch) := ⟨rfl, rfl, rfl, by decide +kernel, rfl, by decide +kernel, by decide +kernel⟩
theorem ok_branch {f g e1 e2 : Addr} {fd gd : FuncData} (F : Fun K "is_branch" "is_branch" sBranch f fd) (G : FnOk P w K mg base CX0 6 g gd ["thing", "fits_first", "fits_second"] (spPair P w K mg base T 5)) (mG : mg "is_pair" = some (.ref g)) (kG : PySem.W.keepIn K (.ref g) = true) (bG : Binds K gd ["thing", "fits_first", "fits_second"] [])
    (m1 : mg "are_make_args" = some (.ref e1)) (E1 : IsDef P w K mg base T 5 e1 (fun _ => True) isMakeArgs) (m2 : mg "is_next" = some (.ref e2)) (E2 : IsDef P w K mg base T 5 e2 (fun _ => True) isNext) : FnOk P w K mg base CX0 7 f fd ["thing"] (spIs K T isBranch) := by
  refine F.ok scBranch (fun vs H Q E h => ?_) (fun cdv A outer s H vs Q E' hr h => ?_)
  · obtain ⟨v, d, rfl, _⟩ := h
    rfl
  · obtain ⟨v, d, rfl, r, tb, k⟩ := h
    refine ⟨_, pss_one (ps_ret (pe_call G hr rfl mG kG bG .nil pass0 (pa_cons (pv 0) (pa_cons (pe_glob (v := .ref e1) rfl m1 rfl) (pa_cons (pe_glob (v := .ref e2) rfl m2 rfl) pa_nil))))), ?_⟩
    exact ⟨v, rfl, v, d, e1, e2, _, _, _, _, rfl, r, in_any2 d, E1, E2, tb, k⟩
theorem scBranches : FnScope ["thing"] ["thing"] (defScope sBranches) := ⟨rfl, rfl, rfl, by decide +kernel, rfl, by decide +kernel, by decide +kernel⟩
theorem ok_branches {f g e : Addr} {fd gd : FuncData} (F : Fun K "are_branches" "are_branches" sBranches f fd) (G : FnOk P w K mg base CX0 9 g gd ["thing", "least", "most", "fits"] (spTupleOf P w K mg base T 7)) (mG : mg "is_tuple_of" = some (.ref g)) (kG : PySem.W.keepIn K (.ref g) = true) (bG : Binds K gd ["thing", "least", "most", "fits"] [])
    (mE : mg "is_branch" = some (.ref e)) (E : IsDef P w K mg base T 7 e (fun _ => True) isBranch) : FnOk P w K mg base CX0 10 f fd ["thing"] (spIs K T isBranches) := by
  refine F.ok scBranches (fun vs H Q E h => ?_) (fun cdv A outer s H vs Q E' hr h => ?_)
  · obtain ⟨v, d, rfl, _⟩ := h
    rfl
  · obtain ⟨v, d, rfl, r, tb, k⟩ := h
    refine ⟨_, pss_one (ps_ret (pe_call G hr rfl mG kG bG .nil pass0 (pa_cons (pv 0) (pa_cons pe_int (pa_cons pe_int (pa_cons (pe_glob (v := .ref e) rfl mE rfl) pa_nil)))))), ?_⟩
    exact ⟨v, rfl, v, d, _, _, e, _, _, rfl, r, in_any d, E, tb, k⟩
theorem scFunctions : FnScope ["thing"] ["thing"] (defScope sFunctions) := ⟨rfl, rfl, rfl, by decide +kernel, rfl, by decide +kernel, by decide +kernel⟩
theorem ok_functions {f g e : Addr} {fd gd : FuncData} (F : Fun K "are_functions" "are_functions" sFunctions f fd) (G : FnOk P w K mg base CX0 17 g gd ["thing", "least", "most", "fits"] (spTupleOf P w K mg base T 15)) (mG : mg "is_tuple_of" = some (.ref g)) (kG : PySem.W.keepIn K (.ref g) = true) (bG : Binds K gd ["thing", "least", "most", "fits"] [])
    (mE : mg "is_function" = some (.ref e)) (E : IsDef P w K mg base T 15 e (fun _ => True) isFunction) : FnOk P w K mg base CX0 18 f fd ["thing"] (spIs K T isFunctions) := by
  refine F.ok scFunctions (fun vs H Q E h => ?_) (fun cdv A outer s H vs Q E' hr h => ?_)
  · obtain ⟨v, d, rfl, _⟩ := h
    rfl
  · obtain ⟨v, d, rfl, r, tb, k⟩ := h
    refine ⟨_, pss_one (ps_ret (pe_call G hr rfl mG kG bG .nil pass0 (pa_cons (pv 0) (pa_cons pe_int (pa_cons pe_int (pa_cons (pe_glob (v := .ref e) rfl mE rfl) pa_nil)))))), ?_⟩
    exact ⟨v, rfl, v, d, _, _, e, _, _, rfl, r, in_any d, E, tb, k⟩
theorem scProgram : FnScope ["thing"] ["thing"] (defScope sProgram) := ⟨rfl, rfl, rfl, by decide +kernel, rfl, by decide +kernel, by decide +kernel⟩
theorem ok_program {f g e1 e2 : Addr} {fd gd : FuncData} (F : Fun K "is_program" "is_program" sProgram f fd) (G : FnOk P w K mg base CX0 20 g gd ["thing", "fits_first", "fits_second"] (spPair P w K mg base T 19)) (mG : mg "is_pair" = some (.ref g)) (kG : PySem.W.keepIn K (.ref g) = true) (bG : Binds K gd ["thing", "fits_first", "fits_second"] [])
    (m1 : mg "is_kinds" = some (.ref e1)) (E1 : IsDef P w K mg base T 19 e1 (fun _ => True) isKinds) (m2 : mg "are_functions" = some (.ref e2)) (E2 : IsDef P w K mg base T 19 e2 (fun _ => True) isFunctions) : FnOk P w K mg base CX0 21 f fd ["thing"] (spIs K T isProgram) := by
  refine F.ok scProgram (fun vs H Q E h => ?_) (fun cdv A outer s H vs Q E' hr h => ?_)
  · obtain ⟨v, d, rfl, _⟩ := h
    rfl
  · obtain ⟨v, d, rfl, r, tb, k⟩ := h
    refine ⟨_, pss_one (ps_ret (pe_call G hr rfl mG kG bG .nil pass0 (pa_cons (pv 0) (pa_cons (pe_glob (v := .ref e1) rfl m1 rfl) (pa_cons (pe_glob (v := .ref e2) rfl m2 rfl) pa_nil))))), ?_⟩
    exact ⟨v, rfl, v, d, e1, e2, _, _, _, _, rfl, r, in_any2 d, E1, E2, tb, k⟩
/-! ### rows -/
theorem walk_zipT {a b : Addr} {xs ys : List V} (hl : ys.length = xs.length) : Walk (RZ.ItzT K a b) xs.length (fun H => SqT K H a xs ∧ SqT K H b ys) (YPair (fun i => xs[i]?) (fun i => ys[i]?)) := by
  refine ⟨fun i H hi q => ⟨xs, ys, xs[i], ys[i]'(by omega), q.1, q.2, by simp [hi], by simp [show i < ys.length by omega]⟩, fun H q => ⟨xs, ys, q.1, q.2, .inl (Nat.le_refl _)⟩, fun i H v H' _ q y => ?_⟩
  obtain ⟨T, x, z, h1, h2, h3, h4, h5⟩ := y
  exact ⟨T, x, z, h1, h2, h3, h4 xs q.1, h5 ys q.2⟩
/-- the module's table of forms -/
structure Forms (w : World) (K : PySem.W.Frag) (T : List Addr) (pR : Addr) (S : Addr → Option Sp) : Prop where
  dict : ∃ es n, KDict K w pR es n ∧ ∀ z v, PySem.W.nsIn K pR z = some (some v) → K.lookup pR = some ⟨.type "dict", none, .dict es n, #[]⟩ ∧ PySem.W.KeysLit w.params es.toList
  none : ∀ z, formOf z = none → PySem.W.nsIn K pR z = some none
  some : ∀ z fs, formOf z = some fs → ∃ (pF : Addr) (gs : List Addr), PySem.W.nsIn K pR z = some (some (.ref pF)) ∧ (∀ H, SqT K H pF (gs.map V.ref)) ∧ Paired (fun g f => S g = some (spIsD K T (fun _ => True) f)) gs fs
theorem form_pos {z : Str} {fs : List (PyData → Bool)} (h : formOf z = some fs) : 0 < fs.length := by
  unfold formOf at h
  repeat (first | (split at h; (first | (cases h; decide) | skip)) | cases h)
theorem fitAll_take : ∀ (fs : List (PyData → Bool)) (ds : List PyData) (i : Nat) (f : PyData → Bool) (d : PyData), fs[i]? = some f → ds[i]? = some d → f d = false → fitAll fs ds = false
  | g :: fs, e :: ds, 0, f, d, h1, h2, h3 => by
    cases h1
    cases h2
    show (_ && _) = false
    rw [h3]; rfl
  | g :: fs, e :: ds, i + 1, f, d, h1, h2, h3 => by
    show (_ && fitAll fs ds) = false
    rw [fitAll_take fs ds i f d h1 h2 h3, Bool.and_false]
theorem fitAll_all : ∀ (fs : List (PyData → Bool)) (ds : List PyData), (∀ (i : Nat) (f : PyData → Bool) (d : PyData), fs[i]? = some f → ds[i]? = some d → f d = true) → fitAll fs ds = true
  | [], _, _ => by unfold fitAll; rfl
  | _ :: _, [], _ => rfl
  | f :: fs, d :: ds, h => by
    show (f d && fitAll fs ds) = true
    rw [h 0 f d rfl rfl, fitAll_all fs ds fun i f d h1 h2 => h (i + 1) f d h1 h2]; rfl
theorem cut_one (x : V) (xs : List V) : cutV (x :: xs) (some 1) none = xs := by
  unfold cutV
  rw [show HT.sIx (x :: xs).length 0 (some 1) = min 1 (x :: xs).length from HT.sIx_nat _ 0 1, HT.sIx_none]
  have e : min 1 (x :: xs).length = 1 := by rw [List.length_cons]; omega
  rw [e]
  show List.take ((x :: xs).length - 1) xs = xs
  rw [List.length_cons, Nat.add_sub_cancel]
  exact List.take_length
/-- a tuple that begins with a text -/
def beginsWord : PyData → Bool
  | .tuple (.str _ :: _) => true
  | _ => false
theorem scBegins : FnScope ["thing"] ["thing"] (defScope sBegins) := ⟨rfl, rfl, rfl, by decide +kernel, rfl, by decide +kernel, by decide +kernel⟩
theorem ok_begins {f : Addr} {fd : FuncData} (F : Fun K "begins_with_word" "begins_with_word" sBegins f fd) (B : BI mg) : FnOk P w K mg base CX0 1 f fd ["thing"] (spIs K T beginsWord) := by
  refine F.ok scBegins (fun vs H Q E h => ?_) (fun cdv A' outer s H vs Q E' hr h => ?_)
  · obtain ⟨v, d, rfl, _⟩ := h
    rfl
  · obtain ⟨v, d, rfl, r, tb, k⟩ := h
    refine ⟨_, pss_one (ps_ret (pe_and (pe_cmpR op_isTy (pe_callTy call_type1 (by rfl) B.type (by decide +kernel) (pa_cons (pv 0) pa_nil)) (pe_bltn (v := .ty "tuple") (by rfl) B.tuple (by decide +kernel) rfl) (nomark _))
      (pe_and (pe_cmpR op_gt (pe_callB call_len_seq (by rfl) B.len PySem.boot_len (pa_cons (pv 0) pa_nil)) pe_int (nomark _))
        (pe_one (pe_cmpR op_isTy (pe_callTy call_type1 (by rfl) B.type (by decide +kernel) (pa_cons (pe_ix ix_tup (pv 0) pe_int (fun _ _ => rfl)) pa_nil)) (pe_bltn (v := .ty "str") (by rfl) B.str (by decide +kernel) rfl) (nomark _)))))), ?_⟩
    have go : ∀ b, beginsWord d = b → Q (.bl b) H := fun b e => by
      have := k H Ex.refl
      rw [e] at this
      exact this
    refine ⟨v, rfl, v, tyN d, rfl, r.ty, _, _, rfl, rfl, _, rfl, ite2 (fun e => ?_) (fun e => ?_)⟩
    · cases r with
      | @tup a xs ds hs rs =>
        refine ⟨_, rfl, a, xs, rfl, .inr hs, _, _, rfl, rfl, _, rfl, ite2 (fun e1 => ?_) (fun e1 => ?_)⟩
        · cases rs with
          | nil => exact absurd (of_decide_eq_true e1) (by show ¬ (0 : Int) < ((0 : Nat) : Int); decide)
          | @cons x0 xr d0 dr r0 rr =>
            refine ⟨_, rfl, a, _, _, _, rfl, rfl, hs, atI_nat (j := 0) rfl, x0, tyN d0, rfl, r0.ty, _, _, rfl, rfl, ?_⟩
            cases d0 <;> exact go _ (by first | rfl | decide)
        · cases rs with
          | nil => exact go _ rfl
          | @cons x0 xr d0 dr r0 rr => exact absurd (decide_eq_true (by rw [List.length_cons]; omega)) e1
      | non => exact absurd (of_decide_eq_true e) (by simp [tyN])
      | bl b => exact absurd (of_decide_eq_true e) (by simp [tyN])
      | int x => exact absurd (of_decide_eq_true e) (by simp [tyN])
      | str x h => exact absurd (of_decide_eq_true e) (by simp [tyN])
      | lst h q => exact absurd (of_decide_eq_true e) (by simp [tyN])
      | dic h => exact absurd (of_decide_eq_true e) (by simp [tyN])
    · refine go _ ?_
      cases d <;> first | rfl | exact absurd (decide_eq_true (by rfl)) e
/-- has_parts, of a tuple and a tuple of defs -/
def spParts (K : PySem.W.Frag) (T : List Addr) (S : Addr → Option Sp) : Sp := fun vs H Q _ => ∃ (v : V) (d0 : PyData) (dr : List PyData) (pF : Addr) (gs : List Addr) (fs : List (PyData → Bool)), vs = [v, .ref pF] ∧ Rp K H v (.tuple (d0 :: dr)) ∧
  (∀ H, SqT K H pF (gs.map V.ref)) ∧ Paired (fun g f => S g = some (spIsD K T (fun _ => True) f)) gs fs ∧ TbOk T H ∧ ∀ H', Ex T H H' → Q (.bl (decide (dr.length = fs.length) && fitAll fs dr)) H'
theorem scParts : FnScope ["thing", "form", "fits", "part"] ["thing", "form"] (defScope sParts) := ⟨rfl, rfl, rfl, by decide +kernel, rfl, by decide +kernel, by decide +kernel⟩
theorem ok_parts {f : Addr} {fd : FuncData} {S : Addr → Option Sp} (F : Fun K "has_parts" "has_parts" sParts f fd) (B : BI mg) (Bz : mg "zip" = none) (A : ∀ f sp, S f = some sp → Held P w K mg base 10 f sp) :
    FnOk P w K mg base CX0 11 f fd ["thing", "form"] (spParts K T S) := by
  refine F.ok scParts (fun vs H Q E h => ?_) (fun cdv A' outer s H vs Q E' hr h => ?_)
  · obtain ⟨v, d0, dr, pF, gs, fs, rfl, _⟩ := h
    rfl
  · obtain ⟨v, d0, dr, pF, gs, fs, rfl, r, hF, pg, tb, k⟩ := h
    refine ⟨_, pss_cons (ps_if (pt_cmpR op_ne (pe_callB call_len_seq (by rfl) B.len PySem.boot_len (pa_cons (pv 0) pa_nil)) (pe_op op_add (pe_callB call_len_seq (by rfl) B.len PySem.boot_len (pa_cons (pv 1) pa_nil)) pe_int) (nomark _)) (pss_one (ps_ret pe_bl)) pss_nil)
      (pss_cons (ps_for PassesOwn.never rfl (RZ.pi_zipA rfl Bz (pa_cons (pv 1) (pa_cons (pe_slice sl_tup (pv 0) (po_some pe_int) po_none) pa_nil))) (pg_two (i := 2) (j := 3) rfl rfl scParts.nd rfl rfl rfl rfl)
        (pss_one (ps_if (pt_not (pt_val (pe_callA (i := 2) A hr rfl (.inl rfl) (pa_cons (pv 3) pa_nil)))) (pss_one (ps_ret pe_bl)) pss_nil)))
      (pss_one (ps_ret pe_bl))), ?_⟩
    have no : (decide (dr.length = fs.length) && fitAll fs dr) = false → ∀ H', Ex T H H' → Q (.bl false) H' := fun e H' x => by
      have := k H' x
      rw [e] at this
      exact this
    cases r with
    | @tup a xs ds hs rs =>
      cases rs with
      | @cons x0 xr _ _ r0 rr =>
        have hl := rr.len
        have lg : gs.length = fs.length := paired_len pg
        refine ⟨_, rfl, a, _, rfl, .inr hs, _, rfl, pF, _, rfl, .inr (hF _), _, _, rfl, rfl, rfl, _, rfl, ite2 (fun e3 => ?_) (fun e3 => ?_)⟩
        · refine no ?_ H Ex.refl
          rw [decide_eq_false (fun q => ?_), Bool.false_and]
          have : xr.length = gs.length := by omega
          simp [this] at e3
        · have hlen : dr.length = fs.length := by
            have e3 : ¬ (!decide (V.int (((x0 :: xr).length : Nat) : Int) = V.int (((gs.map V.ref).length : Nat) + 1 : Int))) = true := e3
            simp at e3
            omega
          have hne : ¬ (HT.sIx (x0 :: xr).length 0 (some 1) = 0 ∧ HT.sIx (x0 :: xr).length (x0 :: xr).length none = (x0 :: xr).length) := fun q => by
            have := q.1
            rw [show HT.sIx (x0 :: xr).length 0 (some 1) = min 1 (x0 :: xr).length from HT.sIx_nat _ 0 1, List.length_cons] at this
            omega
          refine ⟨_, rfl, _, rfl, 1, rfl, a, _, rfl, hs, hne, fun p hp => ⟨pF, p, _, xr, rfl, .inr ⟨hF _, .inl (.inl (by rw [cut_one]; exact upd_same)), ?_⟩⟩⟩
          rw [cut_one]
          have x1 : Ex T H (upd H p (.tup xr)) := Ex.new hp
          have hxr : SqT K (upd H p (.tup xr)) p xr := .inl (.inl upd_same)
          generalize upd H p (.tup xr) = H1 at x1 hxr
          have tb1 := x1.tb tb
          have rr1 := rr.ex x1 tb
          refine for_it (walk_zipT (xs := gs.map V.ref) (by rw [List.length_map]; omega)) (fun i σ H' => σ.length = 4 ∧ Ex T H1 H' ∧ ∀ j < i, ∀ (f : PyData → Bool) (d : PyData), fs[j]? = some f → dr[j]? = some d → f d = true) ⟨rfl, Ex.refl, fun j hj => absurd hj (Nat.not_lt_zero j)⟩
            (fun i σ H' _ q => ⟨hF _, q.2.1.sqT tb1 hxr⟩) (fun i x σ H' H2 hi q y => ?_) (fun σ H' q => ?_)
          · obtain ⟨Tp, u, v2, rfl, hT, rfl, hu, hv⟩ := y
            obtain ⟨q5, qx, qa⟩ := q
            have hu : (gs.map V.ref)[i]? = some u := hu
            have hv : xr[i]? = some v2 := hv
            rw [List.getElem?_map] at hu
            obtain ⟨gg, hg, rfl⟩ := Option.map_eq_some_iff.mp hu
            obtain ⟨ff, hff, hS⟩ := paired_get pg hg
            obtain ⟨dd, hdd, rd⟩ := rr1.get hv
            have x2 : Ex T H' (upd H' Tp (.tup [.ref gg, v2])) := Ex.new hT
            have rd2 := rd.ex (qx.trans x2) tb1
            have tb2 := (qx.trans x2).tb tb1
            have hTp : SqT K (upd H' Tp (.tup [.ref gg, v2])) Tp [.ref gg, v2] := .inl (.inl upd_same)
            generalize upd H' Tp (.tup [.ref gg, v2]) = H3 at x2 rd2 tb2 hTp
            refine ⟨Tp, _, rfl, hTp, rfl, _, _, rfl, _, _, rfl, rfl, gg, _, ?_, hS, _, ?_, v2, dd, rfl, rd2, trivial, tb2, fun H4 x4 => ⟨_, rfl, ?_⟩⟩
            · rw [List.getElem?_set_ne (by decide)]
              exact List.getElem?_set_self (by rw [q5]; decide)
            · exact List.getElem?_set_self (by rw [List.length_set, q5]; decide)
            · show if (!ff dd) = true then _ else _
              cases e5 : ff dd with
              | false =>
                refine iteT (no ?_ H4 (x1.trans (qx.trans (x2.trans x4))))
                rw [fitAll_take fs dr i ff dd hff hdd e5, Bool.and_false]
              | true =>
                refine iteF ⟨by rw [List.length_set, List.length_set]; exact q5, qx.trans (x2.trans x4), fun j hj f' d' h1 h2 => ?_⟩
                rcases Nat.lt_succ_iff_lt_or_eq.mp hj with z | z
                · exact qa j z f' d' h1 h2
                · subst z
                  rw [hff] at h1
                  rw [hdd] at h2
                  cases h1
                  cases h2
                  exact e5
          · obtain ⟨_, qx, qa⟩ := q
            have := k H' (x1.trans qx)
            rw [decide_eq_true hlen, fitAll_all fs dr fun i f d h1 h2 => qa i (by
                rw [List.length_map, lg]
                exact (List.getElem?_eq_some_iff.mp h1).1) f d h1 h2] at this
            exact this
theorem scRow : FnScope ["thing"] ["thing"] (defScope sRow) := ⟨rfl, rfl, rfl, by decide +kernel, rfl, by decide +kernel, by decide +kernel⟩
theorem ok_row {f pR gB gH : Addr} {fd gdB gdH : FuncData} {S : Addr → Option Sp} (F : Fun K "is_row" "is_row" sRow f fd) (mR : mg "ROW_FORMS" = some (.ref pR)) (Fm : Forms w K T pR S)
    (GB : FnOk P w K mg base CX0 11 gB gdB ["thing"] (spIs K T beginsWord)) (mB : mg "begins_with_word" = some (.ref gB)) (kB : PySem.W.keepIn K (.ref gB) = true) (bB : Binds K gdB ["thing"] [])
    (GH : FnOk P w K mg base CX0 11 gH gdH ["thing", "form"] (spParts K T S)) (mH : mg "has_parts" = some (.ref gH)) (kH : PySem.W.keepIn K (.ref gH) = true) (bH : Binds K gdH ["thing", "form"] []) :
    FnOk P w K mg base CX0 12 f fd ["thing"] (spIs K T isRow) := by
  obtain ⟨es, n, D, Dk⟩ := Fm.dict
  refine F.ok scRow (fun vs H Q E h => ?_) (fun cdv A' outer s H vs Q E' hr h => ?_)
  · obtain ⟨v, d, rfl, _⟩ := h
    rfl
  · obtain ⟨v, d, rfl, r, tb, k⟩ := h
    refine ⟨_, pss_one (ps_ret (pe_and (pe_call GB hr rfl mB kB bB .nil pass0 (pa_cons (pv 0) pa_nil))
      (pe_and (pe_cmpR (op_in_kd D) (pe_ix ix_tup (pv 0) pe_int (fun _ _ => rfl)) (pe_glob (v := .ref pR) rfl mR rfl) rfl)
        (pe_one (pe_call GH hr rfl mH kH bH .nil pass0 (pa_cons (pv 0) (pa_cons (pe_ix ix_kdict (pe_glob (v := .ref pR) rfl mR rfl) (pe_ix ix_tup (pv 0) pe_int (fun _ _ => rfl)) (fun _ _ => rfl)) pa_nil))))))), ?_⟩
    refine ⟨v, rfl, v, d, rfl, r, tb, fun H1 x1 => ⟨_, rfl, ?_⟩⟩
    have no : isRow d = false → ∀ H', Ex T H H' → Q (.bl false) H' := fun e H' x => by
      have := k H' x
      rw [e] at this
      exact this
    cases e : beginsWord d with
    | false =>
      refine iteF (no ?_ H1 x1)
      match d, e with
      | .none, _ => rfl
      | .bool _, _ => rfl
      | .int _, _ => rfl
      | .str _, _ => rfl
      | .list _, _ => rfl
      | .dict _, _ => rfl
      | .tuple [], _ => rfl
      | .tuple (.none :: _), _ => rfl
      | .tuple (.bool _ :: _), _ => rfl
      | .tuple (.int _ :: _), _ => rfl
      | .tuple (.list _ :: _), _ => rfl
      | .tuple (.tuple _ :: _), _ => rfl
      | .tuple (.dict _ :: _), _ => rfl
    | true =>
      refine iteT ?_
      have r1 := r.ex x1 tb
      obtain ⟨z, dr, rfl⟩ : ∃ z dr, d = .tuple (.str z :: dr) := by
        match d, e with
        | .tuple (.str z :: dr), _ => exact ⟨z, dr, rfl⟩
      have r1' := r1
      cases r1 with
      | @tup a xs ds hs rs =>
        cases rs with
        | @cons x0 xr d0 _ r0 rr =>
          cases r0 with
          | str z hz =>
            cases hf : formOf z with
            | none =>
              refine ⟨_, rfl, a, _, _, _, rfl, rfl, hs, atI_nat (j := 0) rfl, z, none, rfl, rfl, Fm.none z hf, _, rfl, iteF (no ?_ H1 x1)⟩
              show (match formOf z with | some fs => _ | none => false) = false
              rw [hf]
            | some fs =>
              obtain ⟨pF, gs, hn, hF, pg⟩ := Fm.some z fs hf
              refine ⟨_, rfl, a, _, _, _, rfl, rfl, hs, atI_nat (j := 0) rfl, z, _, rfl, rfl, hn, _, rfl, iteT ?_⟩
              refine ⟨_, rfl, _, rfl, a, _, _, _, rfl, rfl, hs, atI_nat (j := 0) rfl, pR, z, .ref pF, rfl, rfl, ⟨es, n, .ref pF, (Dk z _ hn).1, (Dk z _ hn).2, hn, rfl⟩, ?_⟩
              refine ⟨_, _, _, pF, gs, fs, rfl, r1', hF, pg, x1.tb tb, fun H2 x2 => ?_⟩
              have := k H2 (x1.trans x2)
              have hR : isRow (.tuple (.str z :: dr)) = (decide (dr.length = fs.length) && fitAll fs dr) := by
                show (match formOf z with | some fs => decide (dr.length = fs.length) && fitAll fs dr | none => false) = _
                rw [hf]
              rw [hR] at this
              exact this
end
end JF
set_option Elab.async false
set_option linter.all false
set_option maxRecDepth 100000
set_option maxHeartbeats 4000000
namespace JF
open PySem PySem.Spec PyProof.Rows L2 GxR GA
section
variable {P : Program} {w : World} {K : PySem.W.Frag} {mg : Str → Option Value} {base : Heap} {T : List Addr}
theorem pg_four {X : Cx} {K : PySem.W.Frag} {i j l m k : Nat} {x y z u : Str} {p q r t pos : Pos} (hK : X.K = K) (hc : X.calm = true) (hN : X.N.Nodup) (hi : X.N[i]? = some x) (hj : X.N[j]? = some y) (hl : X.N[l]? = some z) (hm : X.N[m]? = some u)
    (hx : X.env.scope.names.lookup x = some .local) (hy : X.env.scope.names.lookup y = some .local) (hz : X.env.scope.names.lookup z = some .local) (hu : X.env.scope.names.lookup u = some .local) :
    PG X (.Tuple [.Name x p, .Name y q, .Name z r, .Name u t] k pos) (gTup K 4 (gCons (gName i) (gCons (gName j) (gCons (gName l) (gCons (gName m) gNil))))) := by
  rw [← hK]
  exact pg_tup hc (pgs_cons (pg_name hN hi (.inl hx) (.inr hx)) (pgs_cons (pg_name hN hj (.inl hy) (.inr hy)) (pgs_cons (pg_name hN hl (.inl hz) (.inr hz)) (pgs_cons (pg_name hN hm (.inl hu) (.inr hu)) pgs_nil))))
theorem scFunction : FnScope ["thing", "name", "params", "result", "rows"] ["thing"] (defScope sFunction) := ⟨rfl, rfl, rfl, by decide +kernel, rfl, by decide +kernel, by decide +kernel⟩
theorem ok_function {f g gL gF gR : Addr} {fd gd gdL gdF : FuncData} (F : Fun K "is_function" "is_function" sFunction f fd) (B : BI mg)
    (GL : FnOk P w K mg base CX0 14 gL gdL ["thing"] (spIs K T isLow)) (mL : mg "is_low_name" = some (.ref gL)) (kL : PySem.W.keepIn K (.ref gL) = true) (bL : Binds K gdL ["thing"] [])
    (GF : FnOk P w K mg base CX0 14 gF gdF ["thing"] (spIs K T isField)) (mF : mg "is_field_word" = some (.ref gF)) (kF : PySem.W.keepIn K (.ref gF) = true) (bF : Binds K gdF ["thing"] []) (EF : IsDef P w K mg base T 6 gF (fun _ => True) isField)
    (mR : mg "is_row" = some (.ref gR)) (ER : IsDef P w K mg base T 12 gR (fun _ => True) isRow)
    (G1 : FnOk P w K mg base CX0 14 g gd ["thing", "least", "most", "fits"] (spTupleOf P w K mg base T 6)) (G2 : FnOk P w K mg base CX0 14 g gd ["thing", "least", "most", "fits"] (spTupleOf P w K mg base T 12))
    (mG : mg "is_tuple_of" = some (.ref g)) (kG : PySem.W.keepIn K (.ref g) = true) (bG : Binds K gd ["thing", "least", "most", "fits"] []) : FnOk P w K mg base CX0 15 f fd ["thing"] (spIs K T isFunction) := by
  refine F.ok scFunction (fun vs H Q E h => ?_) (fun cdv A' outer s H vs Q E' hr h => ?_)
  · obtain ⟨v, d, rfl, _⟩ := h
    rfl
  · obtain ⟨v, d, rfl, r, tb, k⟩ := h
    refine ⟨_, pss_cons (ps_if (PW.pt (pw_or (pt_cmpR op_notTyB (pe_callTy call_type1 (by rfl) B.type (by decide +kernel) (pa_cons (pv 0) pa_nil)) (pe_bltn (v := .ty "tuple") (by rfl) B.tuple (by decide +kernel) rfl) (nomark _))
        (pw_or1 (pt_cmpR op_ne (pe_callB call_len_seq (by rfl) B.len PySem.boot_len (pa_cons (pv 0) pa_nil)) pe_int (nomark _))))) (pss_one (ps_ret pe_bl)) pss_nil)
      (pss_cons (ps_asg (pv 0) (pg_four (i := 1) (j := 2) (l := 3) (m := 4) rfl rfl scFunction.nd rfl rfl rfl rfl rfl rfl rfl rfl))
      (pss_cons (ps_if (PW.pt (pw_or (pt_not (pt_val (pe_call GL hr rfl mL kL bL .nil pass0 (pa_cons (pv 1) pa_nil))))
        (pw_or1 (pt_not (pt_val (pe_call G1 hr rfl mG kG bG .nil pass0 (pa_cons (pv 2) (pa_cons pe_int (pa_cons pe_int (pa_cons (pe_glob (v := .ref gF) rfl mF rfl) pa_nil)))))))))) (pss_one (ps_ret pe_bl)) pss_nil)
      (pss_one (ps_ret (pe_and (pe_call GF hr rfl mF kF bF .nil pass0 (pa_cons (pv 3) pa_nil)) (pe_one (pe_call G2 hr rfl mG kG bG .nil pass0 (pa_cons (pv 4) (pa_cons pe_int (pa_cons pe_int (pa_cons (pe_glob (v := .ref gR) rfl mR rfl) pa_nil))))))))))), ?_⟩
    have no : isFunction d = false → ∀ H', Ex T H H' → Q (.bl false) H' := fun e H' x => by
      have := k H' x
      rw [e] at this
      exact this
    refine ⟨v, rfl, v, tyN d, rfl, r.ty, _, _, rfl, rfl, _, rfl, ite2 (fun e => ?_) (fun e => ?_)⟩
    · refine iteT (no ?_ H Ex.refl)
      cases d <;> first | rfl | exact absurd e (by simp [tyN])
    · cases r with
      | @tup a xs ds hs rs =>
        have hl := rs.len
        refine ⟨_, rfl, a, xs, rfl, .inr hs, rfl, _, rfl, ite2 (fun e1 => ?_) (fun e1 => ?_)⟩
        · refine no ?_ H Ex.refl
          match ds, hl with
          | [], _ => rfl
          | [_], _ => rfl
          | [_, _], _ => rfl
          | [_, _, _], _ => rfl
          | [_, _, _, _], hl =>
            rw [hl] at e1
            exact absurd e1 (by simp)
          | _ :: _ :: _ :: _ :: _ :: _, _ => rfl
        · have e2 : ds.length = 4 := by
            simp at e1
            omega
          obtain ⟨a1, a2, a3, a4, rfl⟩ : ∃ a b c d, ds = [a, b, c, d] := by
            match ds, e2 with
            | [a, b, c, d], _ => exact ⟨a, b, c, d, rfl⟩
          cases rs with
          | @cons v1 _ _ _ r1 rs =>
          cases rs with
          | @cons v2 _ _ _ r2 rs =>
          cases rs with
          | @cons v3 _ _ _ r3 rs =>
          cases rs with
          | @cons v4 _ _ _ r4 rs =>
          cases rs
          have hF : isFunction (.tuple [a1, a2, a3, a4]) = ((isLow a1 && isTup 0 8 isField a2) && (isField a3 && isTup 1 60 isRow a4)) := rfl
          refine ⟨_, rfl, a, _, rfl, hs, rfl, _, _, rfl, _, _, rfl, _, _, rfl, _, _, rfl, rfl, ?_⟩
          refine ⟨_, rfl, v1, a1, rfl, r1, tb, fun H1 x1 => ⟨_, rfl, ?_⟩⟩
          show if (!isLow a1) = true then _ else _
          cases e3 : isLow a1 with
          | false =>
            refine iteT (iteT (no ?_ H1 x1))
            rw [hF, e3]; rfl
          | true =>
            refine iteF ⟨_, rfl, v2, a2, 0, 8, gF, _, _, rfl, r2.ex x1 tb, in_any a2, EF, x1.tb tb, fun H2 x2 => ⟨_, rfl, ?_⟩⟩
            show if (!isTup 0 8 isField a2) = true then _ else _
            cases e4 : isTup 0 8 isField a2 with
            | false =>
              refine iteT (no ?_ H2 (x1.trans x2))
              rw [hF, e3, e4]; rfl
            | true =>
              have x12 := x1.trans x2
              refine iteF ⟨_, rfl, v3, a3, rfl, r3.ex x12 tb, x12.tb tb, fun H3 x3 => ⟨_, rfl, ?_⟩⟩
              have x13 := x12.trans x3
              cases e5 : isField a3 with
              | false =>
                refine iteF (no ?_ H3 x13)
                rw [hF, e3, e4, e5]; rfl
              | true =>
                refine iteT ⟨_, rfl, v4, a4, 1, 60, gR, _, _, rfl, r4.ex x13 tb, in_any a4, ER, x13.tb tb, fun H4 x4 => ?_⟩
                have := k H4 (x13.trans x4)
                rw [hF, e3, e4, e5] at this
                exact this
      | non => exact absurd (by simp [tyN]) e
      | bl b => exact absurd (by simp [tyN]) e
      | int x => exact absurd (by simp [tyN]) e
      | str x h => exact absurd (by simp [tyN]) e
      | lst h q => exact absurd (by simp [tyN]) e
      | dic h => exact absurd (by simp [tyN]) e
end
end JF
set_option Elab.async false
set_option linter.all false
set_option maxRecDepth 100000
set_option maxHeartbeats 4000000
/-! deeds by their form -/
namespace JF
open PySem PySem.Spec PyProof.Rows L2 GxR GA
abbrev sToken : Stmt := topS 45
abbrev sSize : Stmt := topS 46
abbrev sDeed : Stmt := topS 48
abbrev sDeeds : Stmt := topS 49
abbrev sAnyTup : Stmt := topS 50
def isToken : PyData → Bool := isI 0 15
def isSize : PyData → Bool := isI 0 4
/-- what stands behind a deed's word -/
def deedForm (z : Str) : Option (List (PyData → Bool)) :=
  if z = "hold" then some [isRegister] else if z = "drop" then some [isRegister] else if z = "free" then some [isToken, isSize] else none
def isDeed : PyData → Bool
  | .tuple (.str z :: ds) => match deedForm z with
    | some fs => decide (ds.length = fs.length) && fitAll fs ds
    | none => false
  | _ => false
def areDeeds : PyData → Bool := isTup 0 60 isDeed
def isAnyTup : PyData → Bool
  | .tuple _ => true
  | _ => false
section
variable {P : Program} {w : World} {K : PySem.W.Frag} {mg : Str → Option Value} {base : Heap} {T : List Addr}
theorem scToken : FnScope ["thing"] ["thing"] (defScope sToken) := ⟨rfl, rfl, rfl, by decide +kernel, rfl, by decide +kernel, by decide +kernel⟩
theorem ok_token {f g : Addr} {fd gd : FuncData} (F : Fun K "is_token" "is_token" sToken f fd) (G : FnOk P w K mg base CX0 1 g gd ["thing", "low", "high"] (spInt K)) (mG : mg "is_integer" = some (.ref g)) (kG : PySem.W.keepIn K (.ref g) = true) (bG : Binds K gd ["thing", "low", "high"] []) {t : Tok} (mR : mg "TOKENS" = some (.int 16 t)) :
    FnOk P w K mg base CX0 2 f fd ["thing"] (spIs K T isToken) := by
  refine F.ok scToken (fun vs H Q E h => ?_) (fun cdv A outer s H vs Q E hr h => ?_)
  · obtain ⟨v, d, rfl, _⟩ := h
    rfl
  · obtain ⟨v, d, rfl, r, tb, k⟩ := h
    refine ⟨_, pss_one (ps_ret (pe_call G hr rfl mG kG bG .nil pass0 (pa_cons (pv 0) (pa_cons pe_int (pa_cons (pe_op op_sub (pe_glob (v := .int 16) rfl mR ⟨_, rfl⟩) pe_int) pa_nil))))), ?_⟩
    exact ⟨v, rfl, _, _, rfl, rfl, v, d, 0, 15, rfl, r, k _ Ex.refl⟩
theorem scSize : FnScope ["thing"] ["thing"] (defScope sSize) := ⟨rfl, rfl, rfl, by decide +kernel, rfl, by decide +kernel, by decide +kernel⟩
theorem ok_size {f g : Addr} {fd gd : FuncData} (F : Fun K "is_size" "is_size" sSize f fd) (G : FnOk P w K mg base CX0 1 g gd ["thing", "low", "high"] (spInt K)) (mG : mg "is_integer" = some (.ref g)) (kG : PySem.W.keepIn K (.ref g) = true) (bG : Binds K gd ["thing", "low", "high"] []) :
    FnOk P w K mg base CX0 2 f fd ["thing"] (spIs K T isSize) := by
  refine F.ok scSize (fun vs H Q E h => ?_) (fun cdv A outer s H vs Q E hr h => ?_)
  · obtain ⟨v, d, rfl, _⟩ := h
    rfl
  · obtain ⟨v, d, rfl, r, tb, k⟩ := h
    refine ⟨_, pss_one (ps_ret (pe_call G hr rfl mG kG bG .nil pass0 (pa_cons (pv 0) (pa_cons pe_int (pa_cons pe_int pa_nil))))), ?_⟩
    exact ⟨v, rfl, v, d, _, _, rfl, r, k _ Ex.refl⟩
/-! ### names -/
/-- the module's table of forms -/
structure FormsD (w : World) (K : PySem.W.Frag) (T : List Addr) (pR : Addr) (S : Addr → Option Sp) : Prop where
  dict : ∃ es n, KDict K w pR es n ∧ ∀ z v, PySem.W.nsIn K pR z = some (some v) → K.lookup pR = some ⟨.type "dict", none, .dict es n, #[]⟩ ∧ PySem.W.KeysLit w.params es.toList
  none : ∀ z, deedForm z = none → PySem.W.nsIn K pR z = some none
  some : ∀ z fs, deedForm z = some fs → ∃ (pF : Addr) (gs : List Addr), PySem.W.nsIn K pR z = some (some (.ref pF)) ∧ (∀ H, SqT K H pF (gs.map V.ref)) ∧ Paired (fun g f => S g = some (spIsD K T (fun _ => True) f)) gs fs
theorem scDeed : FnScope ["thing"] ["thing"] (defScope sDeed) := ⟨rfl, rfl, rfl, by decide +kernel, rfl, by decide +kernel, by decide +kernel⟩
theorem ok_deed {f pR gB gH : Addr} {fd gdB gdH : FuncData} {S : Addr → Option Sp} (F : Fun K "is_deed" "is_deed" sDeed f fd) (mR : mg "DEED_FORMS" = some (.ref pR)) (Fm : FormsD w K T pR S)
    (GB : FnOk P w K mg base CX0 11 gB gdB ["thing"] (spIs K T beginsWord)) (mB : mg "begins_with_word" = some (.ref gB)) (kB : PySem.W.keepIn K (.ref gB) = true) (bB : Binds K gdB ["thing"] [])
    (GH : FnOk P w K mg base CX0 11 gH gdH ["thing", "form"] (spParts K T S)) (mH : mg "has_parts" = some (.ref gH)) (kH : PySem.W.keepIn K (.ref gH) = true) (bH : Binds K gdH ["thing", "form"] []) :
    FnOk P w K mg base CX0 12 f fd ["thing"] (spIs K T isDeed) := by
  obtain ⟨es, n, D, Dk⟩ := Fm.dict
  refine F.ok scDeed (fun vs H Q E h => ?_) (fun cdv A' outer s H vs Q E' hr h => ?_)
  · obtain ⟨v, d, rfl, _⟩ := h
    rfl
  · obtain ⟨v, d, rfl, r, tb, k⟩ := h
    refine ⟨_, pss_one (ps_ret (pe_and (pe_call GB hr rfl mB kB bB .nil pass0 (pa_cons (pv 0) pa_nil))
      (pe_and (pe_cmpR (op_in_kd D) (pe_ix ix_tup (pv 0) pe_int (fun _ _ => rfl)) (pe_glob (v := .ref pR) rfl mR rfl) rfl)
        (pe_one (pe_call GH hr rfl mH kH bH .nil pass0 (pa_cons (pv 0) (pa_cons (pe_ix ix_kdict (pe_glob (v := .ref pR) rfl mR rfl) (pe_ix ix_tup (pv 0) pe_int (fun _ _ => rfl)) (fun _ _ => rfl)) pa_nil))))))), ?_⟩
    refine ⟨v, rfl, v, d, rfl, r, tb, fun H1 x1 => ⟨_, rfl, ?_⟩⟩
    have no : isDeed d = false → ∀ H', Ex T H H' → Q (.bl false) H' := fun e H' x => by
      have := k H' x
      rw [e] at this
      exact this
    cases e : beginsWord d with
    | false =>
      refine iteF (no ?_ H1 x1)
      match d, e with
      | .none, _ => rfl
      | .bool _, _ => rfl
      | .int _, _ => rfl
      | .str _, _ => rfl
      | .list _, _ => rfl
      | .dict _, _ => rfl
      | .tuple [], _ => rfl
      | .tuple (.none :: _), _ => rfl
      | .tuple (.bool _ :: _), _ => rfl
      | .tuple (.int _ :: _), _ => rfl
      | .tuple (.list _ :: _), _ => rfl
      | .tuple (.tuple _ :: _), _ => rfl
      | .tuple (.dict _ :: _), _ => rfl
    | true =>
      refine iteT ?_
      have r1 := r.ex x1 tb
      obtain ⟨z, dr, rfl⟩ : ∃ z dr, d = .tuple (.str z :: dr) := by
        match d, e with
        | .tuple (.str z :: dr), _ => exact ⟨z, dr, rfl⟩
      have r1' := r1
      cases r1 with
      | @tup a xs ds hs rs =>
        cases rs with
        | @cons x0 xr d0 _ r0 rr =>
          cases r0 with
          | str z hz =>
            cases hf : deedForm z with
            | none =>
              refine ⟨_, rfl, a, _, _, _, rfl, rfl, hs, atI_nat (j := 0) rfl, z, none, rfl, rfl, Fm.none z hf, _, rfl, iteF (no ?_ H1 x1)⟩
              show (match deedForm z with | some fs => _ | none => false) = false
              rw [hf]
            | some fs =>
              obtain ⟨pF, gs, hn, hF, pg⟩ := Fm.some z fs hf
              refine ⟨_, rfl, a, _, _, _, rfl, rfl, hs, atI_nat (j := 0) rfl, z, _, rfl, rfl, hn, _, rfl, iteT ?_⟩
              refine ⟨_, rfl, _, rfl, a, _, _, _, rfl, rfl, hs, atI_nat (j := 0) rfl, pR, z, .ref pF, rfl, rfl, ⟨es, n, .ref pF, (Dk z _ hn).1, (Dk z _ hn).2, hn, rfl⟩, ?_⟩
              refine ⟨_, _, _, pF, gs, fs, rfl, r1', hF, pg, x1.tb tb, fun H2 x2 => ?_⟩
              have := k H2 (x1.trans x2)
              have hR : isDeed (.tuple (.str z :: dr)) = (decide (dr.length = fs.length) && fitAll fs dr) := by
                show (match deedForm z with | some fs => decide (dr.length = fs.length) && fitAll fs dr | none => false) = _
                rw [hf]
              rw [hR] at this
              exact this
theorem scDeeds : FnScope ["thing"] ["thing"] (defScope sDeeds) := ⟨rfl, rfl, rfl, by decide +kernel, rfl, by decide +kernel, by decide +kernel⟩
theorem ok_deeds {f g e : Addr} {fd gd : FuncData} (F : Fun K "are_deeds" "are_deeds" sDeeds f fd) (G : FnOk P w K mg base CX0 14 g gd ["thing", "least", "most", "fits"] (spTupleOf P w K mg base T 12)) (mG : mg "is_tuple_of" = some (.ref g)) (kG : PySem.W.keepIn K (.ref g) = true) (bG : Binds K gd ["thing", "least", "most", "fits"] [])
    {t0 : Tok} (mM : mg "MOST_DEEDS" = some (.int 60 t0)) (mE : mg "is_deed" = some (.ref e)) (E : IsDef P w K mg base T 12 e (fun _ => True) isDeed) : FnOk P w K mg base CX0 15 f fd ["thing"] (spIs K T areDeeds) := by
  refine F.ok scDeeds (fun vs H Q E h => ?_) (fun cdv A outer s H vs Q E' hr h => ?_)
  · obtain ⟨v, d, rfl, _⟩ := h
    rfl
  · obtain ⟨v, d, rfl, r, tb, k⟩ := h
    refine ⟨_, pss_one (ps_ret (pe_call G hr rfl mG kG bG .nil pass0 (pa_cons (pv 0) (pa_cons pe_int (pa_cons (pe_glob (v := .int 60) rfl mM ⟨_, rfl⟩) (pa_cons (pe_glob (v := .ref e) rfl mE rfl) pa_nil)))))), ?_⟩
    exact ⟨v, rfl, v, d, _, _, e, _, _, rfl, r, in_any d, E, tb, k⟩
theorem scAnyTup : FnScope ["thing"] ["thing"] (defScope sAnyTup) := ⟨rfl, rfl, rfl, by decide +kernel, rfl, by decide +kernel, by decide +kernel⟩
theorem ok_anytup {f : Addr} {fd : FuncData} (F : Fun K "is_any_tuple" "is_any_tuple" sAnyTup f fd) (B : BI mg) : FnOk P w K mg base CX0 1 f fd ["thing"] (spIs K T isAnyTup) := by
  refine F.ok scAnyTup (fun vs H Q E h => ?_) (fun cdv A' outer s H vs Q E' hr h => ?_)
  · obtain ⟨v, d, rfl, _⟩ := h
    rfl
  · obtain ⟨v, d, rfl, r, tb, k⟩ := h
    refine ⟨_, pss_one (ps_ret (pe_cmpR op_isTy (pe_callTy call_type1 (by rfl) B.type (by decide +kernel) (pa_cons (pv 0) pa_nil)) (pe_bltn (v := .ty "tuple") (by rfl) B.tuple (by decide +kernel) rfl) (nomark _))), ?_⟩
    refine ⟨v, rfl, v, tyN d, rfl, r.ty, _, _, rfl, rfl, ?_⟩
    have go : ∀ b, isAnyTup d = b → Q (.bl b) H := fun b e => by
      have := k H Ex.refl
      rw [e] at this
      exact this
    cases d <;> exact go _ (by first | rfl | decide)
end
end JF
set_option Elab.async false
set_option linter.all false
set_option maxRecDepth 100000
set_option maxHeartbeats 4000000
namespace JF
open PySem PySem.Spec PyProof.Rows L2 GxR GA
abbrev sNeed : Stmt := topS 41
def bmVE : List Value := [.type "ValueError", .type "Exception", .type "BaseException", .type "object"]
/-- an error class without own __init__ -/
structure ErrC (K : PySem.W.Frag) (mg : Str → Option Value) (x : Str) (C : Addr) : Prop where
  gC : mg x = some (.ref C)
  kC : PySem.W.keepIn K (.ref C) = true
  ex : PySem.W.excIn K C [.type "ValueError", .type "Exception", .type "BaseException", .type "object"] "ValueError.__new__" = true
  exC : PySem.W.subIn K (.ref C) (.type "BaseException") = some true
  tyC : PySem.W.typeIn K (.ref C) = some (.type "type")
/-- a def of one datum that goes on or raises -/
def spNeed (K : PySem.W.Frag) (T : List Addr) (C : Addr) : Sp := fun vs H Q E => ∃ (v : V) (d : PyData), vs = [v] ∧ Rp K H v d ∧ TbOk T H ∧ (isProgram d = true → ∀ H', Ex T H H' → Q .non H') ∧ (isProgram d = false → ∀ H', Ex T H H' → E (.ref C) none H')
section
variable {P : Program} {w : World} {K : PySem.W.Frag} {mg : Str → Option Value} {base : Heap} {T : List Addr}
theorem scNeed : FnScope ["program"] ["program"] (defScope sNeed) := ⟨rfl, rfl, rfl, by decide +kernel, rfl, by decide +kernel, by decide +kernel⟩
theorem ok_need {f g C : Addr} {fd gd : FuncData} (FN : Fun K "need_program" "need_program" sNeed f fd) (G : FnOk P w K mg base CX0 21 g gd ["thing"] (spIs K T isProgram)) (mG : mg "is_program" = some (.ref g)) (kG : PySem.W.keepIn K (.ref g) = true) (bG : Binds K gd ["thing"] [])
    (EC : ErrC K mg "BadProgram" C) : FnOk P w K mg base (L2.CX P w) 22 f fd ["program"] (spNeed K T C) := by
  refine FN.okX scNeed (fun vs H Q E h => ?_) (fun cdv A outer s H vs Q E hr h => ?_)
  · obtain ⟨v, d, rfl, _⟩ := h
    rfl
  · obtain ⟨v, d, rfl, r, tb, k1, k2⟩ := h
    refine ⟨_, pss_one (ps_if (pt_not (pt_val (pe_call G hr rfl mG kG bG .nil pass0 (pa_cons (pv 0) pa_nil)))) (pss_one (ps_raise rfl (takes_of rfl rfl rfl rfl) (pmk_own F.excBase_ValueError EC.ex EC.gC EC.kC (raises_own EC.exC EC.tyC) rfl))) pss_nil), ?_⟩
    refine ⟨v, rfl, v, d, rfl, r, tb, fun H1 x1 => ⟨_, rfl, ?_⟩⟩
    show if (!isProgram d) = true then _ else _
    cases e : isProgram d with
    | true => exact iteF (k1 e H1 x1)
    | false => exact iteT (k2 e H1 x1)
end
end JF
set_option Elab.async false
set_option linter.all false
set_option maxRecDepth 100000
set_option maxHeartbeats 1000000
/-! programs and placings as data, and the words of their texts -/
namespace JF
open PySem PySem.Spec PyProof.Rows L2
inductive RowD where
  | num (r n g : Int)
  | ari (sub : Bool) (r a b g : Int)
  | less (a b g h : Int)
  | make (r : Int) (nm : Str) (xs : List Int) (g : Int)
  | call (r : Int) (nm : Str) (xs : List Int) (g : Int)
  | mat (a : Int) (brs : List (List Int × Int))
  | give (r : Int)
def regsD (xs : List Int) : PyData := .tuple (xs.map PyData.int)
def strsD (xs : List Str) : PyData := .tuple (xs.map PyData.str)
def dBr (b : List Int × Int) : PyData := .tuple [regsD b.1, .int b.2]
def ariW (sub : Bool) : Str := if sub then "sub" else "add"
def dRow : RowD → PyData
  | .num r n g => .tuple [.str "number", .int r, .int n, .int g]
  | .ari sub r a b g => .tuple [.str (ariW sub), .int r, .int a, .int b, .int g]
  | .less a b g h => .tuple [.str "less", .int a, .int b, .int g, .int h]
  | .make r nm xs g => .tuple [.str "make", .int r, .str nm, regsD xs, .int g]
  | .call r nm xs g => .tuple [.str "call", .int r, .str nm, regsD xs, .int g]
  | .mat a brs => .tuple [.str "match", .int a, .tuple (brs.map dBr)]
  | .give r => .tuple [.str "give", .int r]
def RowD.nexts : RowD → List Int
  | .num _ _ g => [g]
  | .ari _ _ _ _ g => [g]
  | .less _ _ g h => [g, h]
  | .make _ _ _ g => [g]
  | .call _ _ _ g => [g]
  | .mat _ brs => brs.map (·.2)
  | .give _ => []
inductive DeedD where
  | hold (r : Int)
  | drop (r : Int)
  | free (t s : Int)
def dDeed : DeedD → PyData
  | .hold r => .tuple [.str "hold", .int r]
  | .drop r => .tuple [.str "drop", .int r]
  | .free t s => .tuple [.str "free", .int t, .int s]
def deedsD (ds : List DeedD) : PyData := .tuple (ds.map dDeed)
def tokD : Option Int → PyData
  | none => .none
  | some t => .int t
/-- what a placing has for a row -/
structure PlR where
  before : List DeedD
  tok : Option Int
  edges : List (List DeedD)
def dPlR (p : PlR) : PyData := .tuple [deedsD p.before, tokD p.tok, .tuple (p.edges.map deedsD)]
structure FunD where
  name : Str
  params : List Str
  result : Str
  rows : List RowD
def dFun (f : FunD) : PyData := .tuple [.str f.name, strsD f.params, .str f.result, .tuple (f.rows.map dRow)]
structure PlF where
  entry : List DeedD
  rows : List PlR
def dPlF (p : PlF) : PyData := .tuple [deedsD p.entry, .tuple (p.rows.map dPlR)]
def dMkr (m : Str × List Str) : PyData := .tuple [.str m.1, strsD m.2]
def dKnd (k : Str × List (Str × List Str)) : PyData := .tuple [.str k.1, .tuple (k.2.map dMkr)]
def dKnds (ks : List (Str × List (Str × List Str))) : PyData := .tuple (ks.map dKnd)
structure Prg where
  kinds : List (Str × List (Str × List Str))
  funs : List FunD
def dPrg (p : Prg) : PyData := .tuple [dKnds p.kinds, .tuple (p.funs.map dFun)]
def dPlc (ps : List PlF) : PyData := .tuple (ps.map dPlF)
/-! ### the words -/
def iW (i : Int) : Str := Str.ofString (toString i)
def rW (r : Int) : Str := ("r" : Str) ++ iW r
def tW (t : Int) : Str := ("t" : Str) ++ iW t
/-- the words of all parts, a comma behind each -/
def commas (ps : List (List Str)) : List Str := ps.flatMap (· ++ [("," : Str)])
def joinW (ps : List (List Str)) : List Str := (commas ps).dropLast
def listW (es : List Str) : List Str := [("(" : Str)] ++ joinW (es.map fun e => [e]) ++ [(")" : Str)]
def regsW (xs : List Int) : List Str := listW (xs.map rW)
def deedW : DeedD → List Str
  | .hold r => [("hold" : Str), rW r]
  | .drop r => [("drop" : Str), rW r]
  | .free t s => [("free" : Str), tW t, (":" : Str), iW s]
def deedsW (ds : List DeedD) : List Str := if ds.flatMap deedW = [] then [] else [("{" : Str)] ++ ds.flatMap deedW ++ [("}" : Str)]
def tokW (w : Str) : Option Int → List Str
  | none => []
  | some t => [w, tW t]
def headW (row : RowD) (tok : Option Int) : List Str := match row with
  | .num r n _ => [rW r, ("=" : Str), iW n]
  | .ari sub r a b _ => [rW r, ("=" : Str), rW a, if sub then ("-" : Str) else ("+" : Str), rW b]
  | .less a b _ _ => [rW a, ("<" : Str), rW b]
  | .make r nm xs _ => [rW r, ("=" : Str), nm] ++ regsW xs ++ tokW ("in" : Str) tok
  | .call r nm xs _ => [rW r, ("=" : Str), nm] ++ regsW xs ++ tokW ("in" : Str) tok
  | .mat a _ => [("case" : Str), rW a] ++ tokW ("into" : Str) tok
  | .give r => [("give" : Str), rW r]
def endW (ds : List DeedD) (g : Int) : List Str := [("->" : Str)] ++ deedsW ds ++ [iW g]
def zipEnds (gs : List Int) (es : List (List DeedD)) : List (List Str) := (gs.zip es).map fun ge => endW ge.2 ge.1
def endsW (row : RowD) (es : List (List DeedD)) : List (List Str) := match row with
  | .mat _ brs => (brs.zip (zipEnds (brs.map (·.2)) es)).map fun be => regsW be.1.1 ++ be.2
  | r => zipEnds r.nexts es
def rowW (row : RowD) (p : PlR) : List Str := deedsW p.before ++ headW row p.tok ++ joinW (endsW row p.edges) ++ [(";" : Str)]
def mkrW (m : Str × List Str) : List Str := [m.1] ++ listW m.2
def kndW (k : Str × List (Str × List Str)) : List Str := [("kind" : Str), k.1, ("{" : Str)] ++ k.2.flatMap mkrW ++ [("}" : Str)]
def entryW (ds : List DeedD) : List Str := if ds = [] then [] else [("entry" : Str)] ++ deedsW ds ++ [(";" : Str)]
def funW (f : FunD) (p : PlF) : List Str := ([("fun" : Str), f.name] ++ listW f.params ++ [f.result, ("{" : Str)]) ++ entryW p.entry ++ (f.rows.zip p.rows).flatMap (fun rp => rowW rp.1 rp.2) ++ [("}" : Str)]
def prgW (g : Prg) (ps : List PlF) : List Str := g.kinds.flatMap kndW ++ (g.funs.zip ps).flatMap fun fp => funW fp.1 fp.2
def textW (g : Prg) (ps : List PlF) : Str := Txt.join (" " : Str) (prgW g ps)
/-! ### how long they are -/
def wt (ws : List Str) : Nat := (ws.map fun w => w.length + 1).sum
theorem wt_app (a b : List Str) : wt (a ++ b) = wt a + wt b := by simp [wt]
theorem wt_nil : wt [] = 0 := rfl
theorem wt_cons (a : Str) (b : List Str) : wt (a :: b) = a.length + 1 + wt b := by simp [wt]
theorem wt_len (ws : List Str) : ws.length ≤ wt ws := by
  induction ws with
  | nil => exact Nat.le_refl _
  | cons a b ih => rw [wt_cons, List.length_cons]; omega
theorem wt_flat {α : Type} (f : α → List Str) (c : Nat) : ∀ xs : List α, (∀ x ∈ xs, wt (f x) ≤ c) → wt (xs.flatMap f) ≤ c * xs.length
  | [], _ => by simp [wt]
  | x :: xs, h => by
    rw [List.flatMap_cons, wt_app, List.length_cons, Nat.mul_add, Nat.mul_one]
    have := wt_flat f c xs fun y hy => h y (List.mem_cons_of_mem _ hy)
    have := h x (List.mem_cons_self ..)
    omega
theorem wt_dropLast (ws : List Str) : wt ws.dropLast ≤ wt ws := by
  induction ws with
  | nil => exact Nat.le_refl _
  | cons a b ih =>
    cases b with
    | nil => simp [wt]
    | cons c d => rw [List.dropLast_cons₂, wt_cons, wt_cons]; omega
theorem wt_mem {w : Str} {ws : List Str} (h : w ∈ ws) : w.length + 1 ≤ wt ws := by
  induction ws with
  | nil => cases h
  | cons a b ih =>
    rw [wt_cons]
    rcases List.mem_cons.mp h with rfl | h
    · omega
    · have := ih h; omega
theorem lenI {i : Int} (h : i.natAbs ≤ 1000000000000) : (iW i).length ≤ 14 := by
  unfold iW
  rw [PySem.ofString_length]
  exact int_text_length_le10 (k := 13) (by decide) (by omega)
theorem logI {i : Int} (h : i.natAbs ≤ 1000000000000) : i.natAbs.log2 < 1920 := by
  by_cases z : i.natAbs = 0
  · rw [z]; decide
  · exact Nat.lt_trans ((Nat.log2_lt z).mpr (show i.natAbs < 2 ^ 40 by omega)) (by decide)
theorem lenR {i : Int} (h : i.natAbs ≤ 1000000000000) : (rW i).length ≤ 15 := by
  unfold rW
  rw [Str.length_append]
  have := lenI h
  have : ("r" : Str).length = 1 := by decide +kernel
  omega
theorem lenT {i : Int} (h : i.natAbs ≤ 1000000000000) : (tW i).length ≤ 15 := by
  unfold tW
  rw [Str.length_append]
  have := lenI h
  have : ("t" : Str).length = 1 := by decide +kernel
  omega
end JF
set_option Elab.async false
set_option linter.all false
set_option maxRecDepth 100000
set_option maxHeartbeats 1000000
/-! lists of words while they are made -/
namespace JF
open PySem PySem.Spec PyProof PyProof.Rows L2 GxR GA
theorem pe_extK {X : Cx} {K : PySem.W.Frag} {o e : Expr} {to : TE} {t : TA} {ap cp : Pos} (hK : X.K = K) (ho : PE X o to) (ha : PA X [e] t) (h1 : attributeBase o "extend" X.env (eval o X.env) = eval o X.env := by rfl)
    (h2 : ((backTo cp (starEach [e] X.env)).all (fun x => !x.1) && (backToKw cp (keywordEach [] X.env)).all (fun x => x.1.isSome) && decide ([e].length + ([] : List Keyword).length + (if ([] : List Keyword).isEmpty then 0 else 1) < 30)) = true := by rfl)
    (h3 : (ap.endLine == cp.line) = true := by rfl) (h4 : starEach [e] X.env = (false, eval e X.env) :: starEach [] X.env := by rfl) (h5 : (backTo cp (starEach [] X.env)).any (·.1) = false := by rfl) : PE X (.Call (.Attribute o "extend" ap) [e] [] cp) (tBM K "list" rExtend to t) := by
  subst hK
  exact pe_bm PySem.F.plainAttrs_list PySem.F.slot_list_extend PySem.F.type_list_extend mt_extend ho ha h1 h2 h3 h4 h5
theorem fresh0 {T : List Addr} {G G' : Hp} {D : Addr} (x : Ex T G G') (t : TbOk T G) (n : G' D = none) : G D = none := by
  cases e : G D with
  | none => rfl
  | some o =>
    by_cases hD : D ∈ T
    · obtain ⟨ps, z, _⟩ := x.tb t D hD
      rw [n] at z; cases z
    · have := x.keep D o e hD
      rw [n] at this; cases this
theorem notT {T : List Addr} {G : Hp} {D : Addr} (t : TbOk T G) (n : G D = none) : D ∉ T := fun h => by
  obtain ⟨ps, e, _⟩ := t D h
  rw [n] at e; cases e
/-- a list of words at an address -/
def LsAt (H : Hp) (v : V) (ws : List Str) : Prop := ∃ c, v = .ref c ∧ H c = some (.lst (ws.map V.str))
theorem LsAt.ex {T : List Addr} {H H' : Hp} {v : V} {ws : List Str} (h : LsAt H v ws) (x : Ex T H H') (t : TbOk T H) : LsAt H' v ws := by
  obtain ⟨c, e, h⟩ := h
  exact ⟨c, e, x.keep c _ h (t.seqN h fun _ z => by cases z)⟩
/-- what a def that makes words promises -/
def Gives (T : List Addr) (H : Hp) (Q : VK) (ws : List Str) : Prop := ∀ H' c, Ex T H H' → H' c = some (.lst (ws.map V.str)) → Q (.ref c) H'
/-- a list of words under way at D, over a heap that grows from H -/
structure Fl (T : List Addr) (H G : Hp) (D : Addr) (ws : List Str) : Prop where
  tb : TbOk T H
  x : Ex T H G
  e : G D = some (.lst (ws.map V.str))
  n : H D = none
section
variable {T : List Addr} {H G G' : Hp} {D : Addr} {ws : List Str}
theorem Fl.tbG (F : Fl T H G D ws) : TbOk T G := F.x.tb F.tb
theorem Fl.go (F : Fl T H G D ws) (x : Ex T G G') : Fl T H G' D ws := ⟨F.tb, F.x.trans x, x.keep D _ F.e (notT F.tb F.n), F.n⟩
theorem Ex.upd0 {T : List Addr} {H0 H : Hp} {D : Addr} {o : HO} (x : Ex T H0 H) (n : H0 D = none) : Ex T H0 (upd H D o) :=
  ⟨fun t P hP => by
    obtain ⟨ps, e, r⟩ := x.tb t P hP
    exact ⟨ps, by rw [upd_ne fun z : P = D => notT t n (by rw [← z]; exact hP)]; exact e, r⟩,
   fun b ob e hb => by rw [upd_ne (ne_of_none e n)]; exact x.keep b ob e hb⟩
theorem Fl.put (F : Fl T H G D ws) (us : List Str) : Fl T H (upd G D (.lst (us.map V.str))) D us := ⟨F.tb, F.x.upd0 F.n, upd_same, F.n⟩
theorem Fl.new (tb : TbOk T H) (x : Ex T H G) (n : G D = none) : Fl T H (upd G D (.lst [])) D [] := ⟨tb, x.trans (Ex.new n), upd_same, fresh0 x tb n⟩
end
/-- a list of lists of words under way at D -/
def DAt (D : Addr) (H : Hp) (v : V) (ws : List Str) : Prop := ∃ c, v = .ref c ∧ c ≠ D ∧ H c = some (.lst (ws.map V.str))
theorem DAt.ls {D : Addr} {H : Hp} {v : V} {ws : List Str} (h : DAt D H v ws) : LsAt H v ws := by
  obtain ⟨c, e, _, h⟩ := h
  exact ⟨c, e, h⟩
structure Ll (T : List Addr) (H G : Hp) (D : Addr) (xs : List V) (pss : List (List Str)) : Prop where
  tb : TbOk T H
  x : Ex T H G
  n : H D = none
  e : G D = some (.lst xs)
  pr : Paired (DAt D G) xs pss
theorem paired_map {α β : Type} {F G : α → β → Prop} (f : ∀ a b, F a b → G a b) : ∀ {xs : List α} {ys : List β}, Paired F xs ys → Paired G xs ys
  | _, _, .nil => .nil
  | _, _, .cons h r => .cons (f _ _ h) (paired_map f r)
theorem Ll.new {T : List Addr} {H : Hp} {D : Addr} (tb : TbOk T H) (n : H D = none) : Ll T H (upd H D (.lst [])) D [] [] := ⟨tb, Ex.new n, n, upd_same, .nil⟩
theorem Ll.tbG {T : List Addr} {H G : Hp} {D : Addr} {xs : List V} {pss : List (List Str)} (L : Ll T H G D xs pss) : TbOk T G := L.x.tb L.tb
theorem Ll.go {T : List Addr} {H G G' : Hp} {D : Addr} {xs : List V} {pss : List (List Str)} (L : Ll T H G D xs pss) (x : Ex T G G') : Ll T H G' D xs pss :=
  ⟨L.tb, L.x.trans x, L.n, x.keep D _ L.e (notT L.tb L.n), paired_map (fun v ws ⟨c, e, ne, h⟩ => ⟨c, e, ne, x.keep c _ h (L.tbG.seqN h fun _ z => by cases z)⟩) L.pr⟩
theorem Ll.put {T : List Addr} {H G : Hp} {D c : Addr} {xs : List V} {pss : List (List Str)} {ws : List Str} (L : Ll T H G D xs pss) (ne : c ≠ D) (hc : G c = some (.lst (ws.map V.str))) :
    Ll T H (upd G D (.lst (xs ++ [.ref c]))) D (xs ++ [.ref c]) (pss ++ [ws]) :=
  ⟨L.tb, L.x.upd0 L.n, L.n, upd_same, (paired_map (fun v ws ⟨b, e, nb, h⟩ => ⟨b, e, nb, by rw [upd_ne nb]; exact h⟩) L.pr).snoc ⟨c, rfl, ne, by rw [upd_ne ne]; exact hc⟩⟩
theorem cut_last {α : Type} (f : α → V) (xs : List α) : cutV (xs.map f) none (some (-1)) = (xs.dropLast).map f := by
  unfold cutV
  have e0 : HT.sIx (xs.map f).length 0 none = 0 := rfl
  rw [e0]
  have e : HT.sIx (xs.map f).length (xs.map f).length (some (-1)) = xs.length - 1 := by
    show (if (-1 : Int) < 0 then ((-1 : Int) + (((xs.map f).length : Nat) : Int)).toNat else min (-1 : Int).toNat (xs.map f).length) = _
    rw [if_pos (by decide), List.length_map]
    omega
  rw [e, List.drop_zero, Nat.sub_zero, ← List.map_take, List.dropLast_eq_take]
theorem commas_app (a : List (List Str)) (b : List Str) : commas (a ++ [b]) = commas a ++ (b ++ [(Str.ofString ",")]) := by simp [commas]
theorem take_at {α : Type} {xs : List α} {i : Nat} {x : α} (h : xs[i]? = some x) : xs.take (i + 1) = xs.take i ++ [x] := by
  rw [List.take_succ, h]; rfl
theorem wt_commas_take (ps : List (List Str)) (i : Nat) : wt (commas (ps.take i)) ≤ wt (commas ps) := by
  have : commas ps = commas (ps.take i) ++ commas (ps.drop i) := by unfold commas; rw [← List.flatMap_append, List.take_append_drop]
  rw [this, wt_app]; omega
theorem wt_flat_take {α : Type} (f : α → List Str) (xs : List α) (i : Nat) : wt ((xs.take i).flatMap f) ≤ wt (xs.flatMap f) := by
  have : xs.flatMap f = (xs.take i).flatMap f ++ (xs.drop i).flatMap f := by rw [← List.flatMap_append, List.take_append_drop]
  rw [this, wt_app]; omega
theorem flat_take {α : Type} (f : α → List Str) {xs : List α} {i : Nat} {x : α} (h : xs[i]? = some x) : (xs.take (i + 1)).flatMap f = (xs.take i).flatMap f ++ f x := by
  rw [take_at h, List.flatMap_append]; simp
theorem len_sz {ws : List Str} (h : wt ws ≤ 16000000) : (ws.map V.str).length ≤ sizeLine := by
  rw [List.length_map]
  have := wt_len ws
  exact Nat.le_trans (m := 16000000) (by omega) (by decide)
theorem map_app (a b : List Str) : a.map V.str ++ b.map V.str = (a ++ b).map V.str := (List.map_append).symm
/-! ### data from behind -/
theorem Rp.tupI {K : PySem.W.Frag} {H : Hp} {v : V} {ds : List PyData} (r : Rp K H v (.tuple ds)) : ∃ a xs, v = .ref a ∧ SqT K H a xs ∧ RpAll K H xs ds := by
  cases r with
  | tup h q => exact ⟨_, _, rfl, h, q⟩
theorem Rp.strI {K : PySem.W.Frag} {H : Hp} {v : V} {z : Str} (r : Rp K H v (.str z)) : v = .str z := by cases r; rfl
theorem Rp.intI {K : PySem.W.Frag} {H : Hp} {v : V} {z : Int} (r : Rp K H v (.int z)) : v = .int z := by cases r; rfl
theorem Rp.nonI {K : PySem.W.Frag} {H : Hp} {v : V} (r : Rp K H v .none) : v = .non := by cases r; rfl
theorem RpAll.consI {K : PySem.W.Frag} {H : Hp} {vs : List V} {d : PyData} {ds : List PyData} (r : RpAll K H vs (d :: ds)) : ∃ v us, vs = v :: us ∧ Rp K H v d ∧ RpAll K H us ds := by
  cases r with
  | cons h q => exact ⟨_, _, rfl, h, q⟩
theorem RpAll.nilI {K : PySem.W.Frag} {H : Hp} {vs : List V} (r : RpAll K H vs []) : vs = [] := by cases r; rfl
theorem RpAll.strs {K : PySem.W.Frag} {H : Hp} : ∀ {vs : List V} {zs : List Str}, RpAll K H vs (zs.map PyData.str) → vs = zs.map V.str
  | _, [], r => by cases r; rfl
  | _, z :: zs, r => by
    obtain ⟨v, us, rfl, h, q⟩ := RpAll.consI r
    rw [Rp.strI h, RpAll.strs q]; rfl
theorem RpAll.ints {K : PySem.W.Frag} {H : Hp} : ∀ {vs : List V} {zs : List Int}, RpAll K H vs (zs.map PyData.int) → vs = zs.map V.int
  | _, [], r => by cases r; rfl
  | _, z :: zs, r => by
    obtain ⟨v, us, rfl, h, q⟩ := RpAll.consI r
    rw [Rp.intI h, RpAll.ints q]; rfl
theorem RpAll.getM {α : Type} {K : PySem.W.Frag} {H : Hp} {f : α → PyData} {vs : List V} {as : List α} {i : Nat} {v : V} (r : RpAll K H vs (as.map f)) (h : vs[i]? = some v) : ∃ a, as[i]? = some a ∧ Rp K H v (f a) := by
  obtain ⟨d, hd, rd⟩ := r.get h
  rw [List.getElem?_map] at hd
  obtain ⟨a, ha, rfl⟩ := Option.map_eq_some_iff.mp hd
  exact ⟨a, ha, rd⟩
theorem RpAll.lenM {α : Type} {K : PySem.W.Frag} {H : Hp} {f : α → PyData} {vs : List V} {as : List α} (r : RpAll K H vs (as.map f)) : vs.length = as.length := by rw [r.len, List.length_map]
end JF
set_option Elab.async false
set_option linter.all false
set_option maxRecDepth 100000
set_option maxHeartbeats 1000000
/-! zip of a list and a tuple, in either sequence: true says tuple -/
namespace ZM
open PySem PySem.Spec PyProof.Rows L2
def Seq (t : Bool) (h : Heap) (l : Addr) (items : Array Value) : Prop := match t with
  | true => h.IsTuple l items
  | false => h.IsList l items
def Cur (t : Bool) (h : Heap) (it l : Addr) (i : Nat) : Prop := match t with
  | true => h.IsTupleIter it l i
  | false => h.IsListIter it l i
def Sq (t : Bool) (K : PySem.W.Frag) (H : Hp) (a : Addr) (xs : List V) : Prop := match t with
  | true => SqT K H a xs
  | false => SqL K H a xs
def curO (t : Bool) (l : Addr) : Obj := match t with
  | true => { cls := .type "tuple_iterator", data := .fields #[.ref l, .int 0 0] }
  | false => { cls := .type "list_iterator", data := .fields #[.ref l, .int 0 0] }
theorem draws {prog : Program} {w : World} {A : Around} (t : Bool) (hh : A.handled = none) (it l : Addr) (ne : l ≠ it) (items : Array Value) :
    Draws prog w A it [it, l] items.size (fun i v => items[i]? = some v) (fun i h => Cur t h it l i ∧ Seq t h l items) := by
  cases t
  · exact Draws.list hh it l ne items
  · exact Draws.tuple hh it l ne items
theorem begins (t : Bool) (l : Addr) (items : Array Value) : Begins (.ref l) (curO t l) (fun h => Seq t h l items) := by
  cases t
  · exact begins_list l items
  · exact begins_tuple l items
theorem cur0 (t : Bool) {h : Heap} {it l : Addr} (e : h.get? it = some (curO t l)) : Cur t h it l 0 := by
  cases t <;> exact ⟨_, e, rfl, rfl⟩
theorem Cur.obj {t : Bool} {h : Heap} {it l : Addr} {i : Nat} (c : Cur t h it l i) : ∃ o, h.get? it = some o ∧ ∀ v, o.data ≠ .cell v := by
  cases t <;> (obtain ⟨o, e, _, d⟩ := c; exact ⟨o, e, fun v q => by rw [d] at q; cases q⟩)
theorem Cur.to {t : Bool} {h h' : Heap} {it l : Addr} {i : Nat} (c : Cur t h it l i) (k : ∀ o, h.get? it = some o → h'.get? it = some o) : Cur t h' it l i := by
  cases t <;> (obtain ⟨o, e, r⟩ := c; exact ⟨o, k o e, r⟩)
section
variable {X : Cx} {pins : List (Addr × Obj)} {σ : L2.St} {H : Hp} {s : Shared} {a b : Addr} {xs ys : List V}
theorem seq_of (t : Bool) (I : Inv X pins σ H s) (h : Sq t X.K H a xs) : ∃ its : List Value, Vals xs its ∧ Seq t s.heap a its.toArray ∧ a < s.heap.objs.size := by
  cases t
  · obtain ⟨its, r, p, _⟩ := I.list h
    exact ⟨its, r, p.isList, p.lt⟩
  · obtain ⟨its, r, p, _⟩ := I.tuple h
    exact ⟨its, r, p, p.lt⟩
theorem seq_inj (t : Bool) (I : Inv X pins σ H s) (h : Sq t X.K H a xs) (h' : Sq t X.K H a ys) : xs = ys := by
  cases t
  · exact I.list_inj h h'
  · exact I.tuple_inj h h'
end
/-- the two sequences as they stand at each turn, the items in new pairs -/
def ItM (t u : Bool) (K : PySem.W.Frag) (a b : Addr) : It where
  go i H := ∃ (xs ys : List V) (x y : V), Sq t K H a xs ∧ Sq u K H b ys ∧ xs[i]? = some x ∧ ys[i]? = some y
  yld i H v H' := ∃ T x y, v = .ref T ∧ H T = none ∧ H' = upd H T (.tup [x, y]) ∧ (∀ xs, Sq t K H a xs → xs[i]? = some x) ∧ ∀ ys, Sq u K H b ys → ys[i]? = some y
  stop i H := ∃ xs ys : List V, Sq t K H a xs ∧ Sq u K H b ys ∧ min xs.length ys.length = i
def zst (t u : Bool) (z TI TO i1 i2 a b : Addr) (i : Nat) (h : Heap) : Prop :=
  IsZip h z TI TO .none ∧ IsTupOf2 h TI (.ref i1) (.ref i2) ∧ (∃ p q, IsTupOf2 h TO p q) ∧ Cur t h i1 a i ∧ Cur u h i2 b i
theorem turnM {P : Program} {w : World} {K : PySem.W.Frag} {elts : List Expr} {kk : Nat} {tpos : Pos} {t u : Bool} {a b z TI TO i1 i2 : Addr} (S : ZipSep2 z TI TO i1 i2 [i1, a] [i2, b]) (na : a ≠ i1) (nb : b ≠ i2) :
    Turn P w K (.Tuple elts kk tpos) (ItM t u K a b) [z, TI, TO, i1, i2] z (zst t u z TI TO i1 i2 a b) where
  mem := List.mem_cons_self ..
  obj := fun i h ⟨hz, hI, ⟨p, q, hO⟩, c1, c2⟩ c hc => by
    simp only [List.mem_cons, List.mem_nil_iff, or_false] at hc
    rcases hc with rfl | rfl | rfl | rfl | rfl
    · exact ⟨_, hz, fun v e => nomatch e⟩
    · exact ⟨_, hI, fun v e => nomatch e⟩
    · exact ⟨_, hO, fun v e => nomatch e⟩
    · exact c1.obj
    · exact c2.obj
  keep := fun i h h' ⟨hz, hI, ⟨p, q, hO⟩, c1, c2⟩ k => ⟨k z (by simp) _ hz, k TI (by simp) _ hI, ⟨p, q, k TO (by simp) _ hO⟩, c1.to (k i1 (by simp)), c2.to (k i2 (by simp))⟩
  item := by
    intro X eP ew eK cm i pins s σ H E I hf ⟨hz, hI, hO, c1, c2⟩ ⟨xs, ys, x, y, hx, hy, ex, ey⟩
    subst eP ew eK
    have hh : X.A.in1.handled = none := I.ok.hd cm
    obtain ⟨us, ru, pu, _⟩ := seq_of t I hx
    obtain ⟨vs, rv, pv, _⟩ := seq_of u I hy
    obtain ⟨u1, eu, r1⟩ := ru.get ex
    obtain ⟨v1, ev, r2⟩ := rv.get ey
    have lu : i < us.length := (List.getElem?_eq_some_iff.mp eu).1
    have lv : i < vs.length := (List.getElem?_eq_some_iff.mp ev).1
    have W := WalksT.zipD2 (prog := X.prog) (w := X.w) S (draws t hh i1 a na us.toArray) (draws u hh i2 b nb vs.toArray)
    refine W.item i s _ E (by simp; omega) ⟨hz, hI, hO, ⟨c1, pu⟩, c2, pv⟩ fun T vals h1 tk ⟨x1, x2, e1, e2, evals⟩ hT isT mid kp => ⟨_, rfl, ?_⟩
    subst evals
    have q1 : x1 = u1 := by simpa [eu] using e1.symm
    have q2 : x2 = v1 := by simpa [ev] using e2.symm
    subst q1 q2
    have nT := W.apart i T h1 mid
    refine W.go elts kk tpos i T _ _ E mid fun h2 st2 kp2 => ?_
    obtain ⟨oT, eT, cT, nT', dT⟩ := id isT
    have new : ObjOk X.prog X.w (upd H T (.tup [x, y])) h2 T (.tup [x, y]) := ⟨by show 2 ≤ sizeLine; decide, [x1, x2], .cons r1 (.cons r2 .nil), ⟨oT, kp2 T oT nT eT, cT, nT', dT⟩⟩
    have hw : ∀ c ∈ [z, TO, i1, i2], c ∈ [z, TI, TO, i1, i2] := fun c hc => by
      simp only [List.mem_cons, List.mem_nil_iff, or_false] at hc ⊢
      rcases hc with e | e | e | e <;> simp [e]
    have I2 : Inv X pins σ (upd H T (.tup [x, y])) { s with heap := h2, toks := tk } :=
      I.turnedNew (ch := [z, TO, i1, i2]) (fun c o n e => kp2 c o n (kp c o n e)) (fun c hc => hf c (hw c hc)) hT new
    refine ⟨.ref T, _, I2, rfl, ⟨T, x, y, rfl, I.hok.fresh hT, rfl, fun l hl => by rw [seq_inj t I hl hx]; exact ex, fun l hl => by rw [seq_inj u I hl hy]; exact ey⟩, ⟨st2.1, st2.2.1, st2.2.2.1, st2.2.2.2.1.1, st2.2.2.2.2.1⟩, fun c hc => ?_⟩
    have hc0 := (hf c hc).1
    by_cases ec : c = T
    · exfalso
      obtain ⟨o, eo, _⟩ : ∃ o, s.heap.get? c = some o ∧ True := by
        clear ec
        simp only [List.mem_cons, List.mem_nil_iff, or_false] at hc
        rcases hc with rfl | rfl | rfl | rfl | rfl
        · exact ⟨_, hz, trivial⟩
        · exact ⟨_, hI, trivial⟩
        · obtain ⟨p, q, hO⟩ := hO; exact ⟨_, hO, trivial⟩
        · obtain ⟨o, e, _⟩ := c1.obj; exact ⟨o, e, trivial⟩
        · obtain ⟨o, e, _⟩ := c2.obj; exact ⟨o, e, trivial⟩
      have := Heap.lt_size eo
      rw [ec] at this
      exact absurd hT (Nat.not_le.mpr this)
    · rw [upd_ne ec]; exact hc0
  done := by
    intro X eP ew eK cm i pins s σ H E I hf ⟨hz, hI, hO, c1, c2⟩ ⟨xs, ys, hx, hy, el⟩
    subst eP ew eK
    have hh : X.A.in1.handled = none := I.ok.hd cm
    obtain ⟨us, ru, pu, _⟩ := seq_of t I hx
    obtain ⟨vs, rv, pv, _⟩ := seq_of u I hy
    have l1 := ru.length
    have l2 := rv.length
    have W := WalksT.zipD2 (prog := X.prog) (w := X.w) S (draws t hh i1 a na us.toArray) (draws u hh i2 b nb vs.toArray)
    have ei : min us.toArray.size vs.toArray.size = i := by simp; omega
    have st : (fun i h => IsZip h z TI TO .none ∧ IsTupOf2 h TI (.ref i1) (.ref i2) ∧ (∃ a1 a2, IsTupOf2 h TO a1 a2) ∧ (Cur t h i1 a i ∧ Seq t h a us.toArray) ∧ (Cur u h i2 b i ∧ Seq u h b vs.toArray)) (min us.toArray.size vs.toArray.size) s.heap := by
      rw [ei]; exact ⟨hz, hI, hO, ⟨c1, pu⟩, c2, pv⟩
    have hw : ∀ c ∈ [z, TO, i1, i2], c ∈ [z, TI, TO, i1, i2] := fun c hc => by
      simp only [List.mem_cons, List.mem_nil_iff, or_false] at hc ⊢
      rcases hc with e | e | e | e <;> simp [e]
    exact W.done s _ E st fun h1 tk kp => ⟨rfl, I.turnedL (ch := [z, TO, i1, i2]) kp fun c hc => hf c (hw c hc)⟩
  self := fun A i s Q E st h => wpAny_pyIter_zip st.1 h
def iZipM (t u : Bool) (K : PySem.W.Frag) (ta : TA) : TI := fun σ H R => ta σ H fun vs H1 => ∃ a b xs ys, vs = [.ref a, .ref b] ∧ Sq t K H1 a xs ∧ Sq u K H1 b ys ∧ R (ItM t u K a b) H1
theorem zipGo (t u : Bool) {X : Cx} {tpos : Pos} {elts : List Expr} {kk : Nat} (pins : List (Addr × Obj)) (σ : L2.St) (R : It → Hp → Prop) (us : List Value) (s1 : Shared)
    (w : AP X pins σ (fun vs H1 => ∃ a b xs ys, vs = [.ref a, .ref b] ∧ Sq t X.K H1 a xs ∧ Sq u X.K H1 b ys ∧ R (ItM t u X.K a b) H1) us s1) :
    wpAny (model X.prog X.w) X.A (call (.type "zip") us) (fun v s2 => wpAny (model X.prog X.w) X.A (pyIter v) (PIE X pins σ (.Tuple elts kk tpos) R) X.xe s2) X.xe s1 := by
  obtain ⟨vs, H1, I1, r1, a, b, xs, ys, ev, hx, hy, q⟩ := w
  subst ev
  match us, r1 with
  | [_, _], .cons ra (.cons rb .nil) =>
    cases ra
    cases rb
    obtain ⟨us, ru, pu, la⟩ := seq_of t I1 hx
    obtain ⟨vs, rv, pv, lb⟩ := seq_of u I1 hy
    refine zip_begins2 (begins t a us.toArray) (begins u b vs.toArray) pu pv fun h' hz hTI hTO g1 g2 hsz hk => wpAny_pyIter_zip hz ?_
    have I2 : Inv X pins σ H1 { s1 with heap := h' } := I1.kept (t' := s1.toks) hk
    have S := zip_sep2 (N := s1.heap.objs.size) (fp1 := [a]) (fp2 := [b]) (fun c hc => by rw [List.mem_singleton.mp hc]; exact la) (fun c hc => by rw [List.mem_singleton.mp hc]; exact lb)
    refine ⟨s1.heap.objs.size + 4, [s1.heap.objs.size + 4, s1.heap.objs.size + 2, s1.heap.objs.size + 3, s1.heap.objs.size, s1.heap.objs.size + 1], _, _, H1, rfl, I2, turnM S (Nat.ne_of_lt la) (Nat.ne_of_lt (Nat.lt_succ_of_lt lb)), ⟨hz, hTI, ⟨_, _, hTO⟩, cur0 t g1, cur0 u g2⟩, fun c hc => ?_, q⟩
    have le : s1.heap.objs.size ≤ c := by
      simp only [List.mem_cons, List.mem_nil_iff, or_false] at hc
      rcases hc with e | e | e | e | e <;> (rw [e]; first | exact Nat.le_refl _ | exact Nat.le_add_right _ _)
    exact I1.fpOk le (I1.hok.fresh le)
theorem pi_zipM (t u : Bool) {X : Cx} {e e2 : Expr} {ta : TA} {p pos tpos : Pos} {elts : List Expr} {kk : Nat} (hg : Gl X "zip") (hm : X.mg "zip" = none) (ha : PA X [e, e2] ta)
    (hs : starEach [e, e2] X.env = (false, eval e X.env) :: starEach [e2] X.env := by rfl) (hpl : (backTo pos (starEach [e2] X.env)).any (·.1) = false := by rfl) :
    PI X (.Tuple elts kk tpos) (.Call (.Name "zip" p) [e, e2] [] pos) (iZipM t u X.K ta) := by
  refine ⟨fun pins s σ H R I h => ?_⟩
  have go := fun us s1 (w : AP X pins σ (fun vs H1 => ∃ a b xs ys, vs = [.ref a, .ref b] ∧ Sq t X.K H1 a xs ∧ Sq u X.K H1 b ys ∧ R (ItM t u X.K a b) H1) us s1) => zipGo (elts := elts) (kk := kk) (tpos := tpos) t u pins σ R us s1 w
  exact Call_ (ld_blt I hg hm PyProof.Rows.boot_zip (PyProof.Rows.callWith_type1 (thn (ha.run pos pins s σ H _ I h) go) hs hpl))
theorem walkM {t u : Bool} {K : PySem.W.Frag} {a b : Addr} {xs ys : List V} {n : Nat} (hn : n = min xs.length ys.length) : Walk (ItM t u K a b) n (fun H => Sq t K H a xs ∧ Sq u K H b ys) (YPair (fun i => xs[i]?) (fun i => ys[i]?)) where
  goes := fun i H hi ⟨q1, q2⟩ => ⟨xs, ys, xs[i]'(by omega), ys[i]'(by omega), q1, q2, List.getElem?_eq_getElem _, List.getElem?_eq_getElem _⟩
  stops := fun H ⟨q1, q2⟩ => ⟨xs, ys, q1, q2, hn.symm⟩
  yields := fun i H v H' _ ⟨q1, q2⟩ ⟨T, x, y, e, n, e2, g1, g2⟩ => ⟨T, x, y, e, n, e2, g1 xs q1, g2 ys q2⟩
end ZM
set_option Elab.async false
set_option linter.all false
set_option maxRecDepth 100000
set_option maxHeartbeats 1000000
/-! the defs that make words: lists -/
namespace JF
open PySem PySem.Spec PyProof PyProof.Rows L2 GxR GA
abbrev sJoined : Stmt := topS 57
abbrev sListW : Stmt := topS 58
abbrev sRegsW : Stmt := topS 59
abbrev sTokW : Stmt := topS 64
def spJoined (T : List Addr) : Sp := fun vs H Q _ => ∃ (a : Addr) (xs : List V) (pss : List (List Str)), vs = [.ref a] ∧ H a = some (.lst xs) ∧ Paired (LsAt H) xs pss ∧ TbOk T H ∧ wt (commas pss) ≤ 16000000 ∧ Gives T H Q (joinW pss)
section
variable {P : Program} {w : World} {K : PySem.W.Frag} {mg : Str → Option Value} {base : Heap} {T : List Addr}
theorem scJoined : FnScope ["parts", "words", "part"] ["parts"] (defScope sJoined) := ⟨rfl, rfl, rfl, by decide +kernel, rfl, by decide +kernel, by decide +kernel⟩
theorem ok_joined {f : Addr} {fd : FuncData} (F : Fun K "joined" "joined" sJoined f fd) : FnOk P w K mg base CX0 1 f fd ["parts"] (spJoined T) := by
  refine F.ok scJoined (fun vs H Q E h => ?_) (fun cdv A outer s H vs Q E hr h => ?_)
  · obtain ⟨a, xs, pss, rfl, _⟩ := h
    rfl
  · obtain ⟨a, xs, pss, rfl, ha, pr, tb, hw, k⟩ := h
    refine ⟨_, pss_cons (ps_set (i := 1) scJoined.nd rfl (.inl rfl) (pe_lst pa_nil))
      (pss_cons (ps_for PassesOwn.never rfl (pi_list (pv 0)) (pg_name (i := 2) scJoined.nd rfl (.inl rfl))
        (pss_one (ps_expr (pe_extK (K := K) rfl (pv 1) (pa_cons (pe_op op_cat (pv 2) (pe_lst (pa_cons pe_str pa_nil))) pa_nil)))))
      (pss_one (ps_ret (pe_slice sl_list (pv 1) po_none (po_some (pe_un un_neg pe_int)))))), ?_⟩
    refine ⟨by show 0 ≤ sizeLine; decide, fun D hD => ?_⟩
    have lx := paired_len pr
    refine ⟨_, rfl, a, rfl, ⟨xs, .inl (.inl (by rw [upd_ne (ne_of_none ha hD)]; exact ha))⟩, for_it (n := xs.length) walk_list (fun i σ G => ∃ p, σ = [some (.ref a), some (.ref D), p] ∧ Fl T H G D (commas (pss.take i)))
      ⟨_, rfl, Fl.new tb Ex.refl hD⟩ (fun i σ G _ ⟨_, _, F⟩ => .inl (.inl (F.x.keep a _ ha (tb.seqN ha fun _ z => by cases z)))) (fun i x σ G G2 hi ⟨p, eσ, F⟩ y => ?_) (fun σ G ⟨p, eσ, F⟩ => ?_)⟩
    · obtain ⟨rfl, hx⟩ := y
      subst eσ
      obtain ⟨ws, hws, c, rfl, hc⟩ := paired_get pr hx
      have hcG := F.x.keep c _ hc (tb.seqN hc fun _ z => by cases z)
      have e1 : commas (pss.take (i + 1)) = commas (pss.take i) ++ (ws ++ [(Str.ofString ",")]) := by rw [take_at hws, commas_app]
      have hwt := wt_commas_take pss (i + 1)
      rw [e1, wt_app] at hwt
      refine ⟨_, rfl, .inl ⟨rfl, _, .inl (.inl F.e)⟩, _, rfl, by show 1 ≤ sizeLine; decide, fun o ho => ?_⟩
      have F1 := F.go (Ex.new (o := .lst [.str (Str.ofString ",")]) ho)
      have hc1 : (upd G2 o (.lst [.str (Str.ofString ",")])) c = some (.lst (ws.map V.str)) := by rw [upd_ne (ne_of_none hcG ho)]; exact hcG
      refine ⟨c, o, _, _, rfl, rfl, hc1, upd_same, by have := len_sz (ws := ws ++ [(Str.ofString ",")]) (by omega); rw [← map_app, List.length_append] at this; exact this, fun p2 hp2 => ?_⟩
      have F2 := F1.go (Ex.new (o := .lst (ws.map V.str ++ [.str (Str.ofString ",")])) hp2)
      refine ⟨D, p2, _, _, rfl, rfl, F2.e, upd_same, ?_, ?_⟩
      · have := len_sz (ws := commas (pss.take i) ++ (ws ++ [(Str.ofString ",")])) (by rw [wt_app]; omega)
        rw [← map_app, List.length_append, ← map_app] at this
        exact this
      · refine ⟨_, rfl, ?_⟩
        have := F2.put (commas (pss.take (i + 1)))
        rw [e1, ← map_app, ← map_app] at this
        rw [e1]
        exact this
    · subst eσ
      refine ⟨_, rfl, _, rfl, _, rfl, D, _, rfl, .inl (.inl F.e), fun p hp => ?_⟩
      refine k _ p (F.x.trans (Ex.new hp)) ?_
      rw [upd_same, cut_last, lx, List.take_length]
      rfl
/-- list_words of a tuple of texts -/
def spListT (K : PySem.W.Frag) (T : List Addr) : Sp := fun vs H Q _ => ∃ (a : Addr) (zs : List Str), vs = [.ref a] ∧ SqT K H a (zs.map V.str) ∧ TbOk T H ∧ wt (listW zs) ≤ 8000000 ∧ Gives T H Q (listW zs)
def spListL (K : PySem.W.Frag) (T : List Addr) : Sp := fun vs H Q _ => ∃ (a : Addr) (zs : List Str), vs = [.ref a] ∧ H a = some (.lst (zs.map V.str)) ∧ TbOk T H ∧ wt (listW zs) ≤ 8000000 ∧ Gives T H Q (listW zs)
theorem scListW : FnScope ["entries", "entry"] ["entries"] (defScope sListW) := ⟨rfl, rfl, rfl, by decide +kernel, rfl, by decide +kernel, by decide +kernel⟩
theorem commas_one (zs : List Str) : wt (commas (zs.map fun e => [e])) ≤ wt (joinW (zs.map fun e => [e])) + 2 := by
  unfold joinW
  have h1 : ("," : Str).length = 1 := by decide +kernel
  rcases List.eq_nil_or_concat zs with rfl | ⟨ys, y, rfl⟩
  · decide +kernel
  · rw [List.concat_eq_append, List.map_append, List.map_singleton, commas_app, ← List.append_assoc, List.dropLast_concat, wt_app]
    have : wt [Str.ofString ","] = 2 := by rw [wt_cons, wt_nil]; show ("," : Str).length + 1 + 0 = 2; omega
    omega
theorem len_commas1 : ∀ zs : List Str, (commas (zs.map fun e => [e])).length = 2 * zs.length
  | [] => rfl
  | z :: zs => by
    show ([z, Str.ofString ","] ++ commas (zs.map fun e => [e])).length = _
    rw [List.length_append, len_commas1 zs]
    show 2 + 2 * zs.length = 2 * (zs.length + 1)
    omega
theorem wt_listW (zs : List Str) : wt (listW zs) = wt (joinW (zs.map fun e => [e])) + 4 := by
  unfold listW
  rw [wt_app, wt_app, wt_cons, wt_nil, wt_cons, wt_nil]
  have h1 : ("(" : Str).length = 1 := by decide +kernel
  have h2 : (")" : Str).length = 1 := by decide +kernel
  show (("(" : Str).length + 1 + 0) + _ + ((")" : Str).length + 1 + 0) = _
  omega
theorem ok_listT {f aJ : Addr} {fd dJ : FuncData} (F : Fun K "list_words" "list_words" sListW f fd)
    (GJ : FnOk P w K mg base CX0 1 aJ dJ ["parts"] (spJoined T)) (mJ : mg "joined" = some (.ref aJ)) (kJ : PySem.W.keepIn K (.ref aJ) = true) (bJ : Binds K dJ ["parts"] []) :
    FnOk P w K mg base CX0 2 f fd ["entries"] (spListT K T) := by
  refine F.ok scListW (fun vs H Q E h => ?_) (fun cdv A outer s H vs Q E hr h => ?_)
  · obtain ⟨a, zs, rfl, _⟩ := h
    rfl
  · obtain ⟨a, zs, rfl, ha, tb, hw, k⟩ := h
    refine ⟨_, pss_one (ps_ret (pe_op op_cat (pe_op op_cat (pe_lst (pa_cons pe_str pa_nil)) (pe_call GJ (hr.mono (by decide)) (by rfl) mJ kJ bJ .nil pass0 (pa_cons
      (pe_lc (own := [("entry", 1)]) (g := gName 1) (tt := tYes) (by rfl) scListW.nd (pi_tup (pv 0)) (blkOk_by (N := ["entries", "entry"]) (sc := defScope sListW) (by decide +kernel)) (fun _ _ _ _ _ => pg_name (i := 1) scListW.nd rfl (.inl rfl)) (fun _ _ _ _ _ => pts_nil) (fun _ _ _ _ _ => pe_lst (pa_cons (pv 1) pa_nil))) pa_nil)))
      (pe_lst (pa_cons pe_str pa_nil)))), ?_⟩
    have hwl := wt_listW zs
    have hc1 := commas_one zs
    refine ⟨by show 1 ≤ sizeLine; decide, fun o ho => ⟨_, rfl, a, rfl, ⟨_, (Ex.new ho).sqT tb ha⟩, fun D hD => ?_⟩⟩
    have x1 : Ex T H (upd H o (.lst [.str (Str.ofString "(")])) := Ex.new ho
    have eo : (upd H o (.lst [.str (Str.ofString "(")])) o = some (.lst [.str (Str.ofString "(")]) := upd_same
    generalize upd H o (.lst [.str (Str.ofString "(")]) = H1 at x1 hD eo ⊢
    have tb1 := x1.tb tb
    have lw := wt_len (commas (zs.map fun e => [e]))
    have lc : (commas (zs.map fun e => [e])).length = 2 * zs.length := len_commas1 zs
    refine lcB_it (n := (zs.map V.str).length) walk_tup (fun j G => ∃ xs, Ll T H1 G D xs ((zs.take j).map fun e => [e])) ⟨[], Ll.new tb1 hD⟩ (fun j G _ ⟨_, L⟩ => (x1.trans L.x).sqT tb ha) (fun j v G G2 hj ⟨xs, L⟩ y => ?_) (fun G ⟨xs, L⟩ => ?_)
    · obtain ⟨rfl, hv⟩ := y
      rw [List.getElem?_map] at hv
      obtain ⟨z, hz, rfl⟩ := Option.map_eq_some_iff.mp hv
      refine g_one (by decide) (by show 1 < 2; decide) fun σ2 _ keep g => yesT ⟨_, g, by show 1 ≤ sizeLine; decide, fun c hc => ?_⟩
      have L2 := L.go (Ex.new (o := .lst [.str z]) hc)
      have lz : j < zs.length := (List.getElem?_eq_some_iff.mp hz).1
      refine ⟨xs, L2.e, ?_, xs ++ [.ref c], ?_⟩
      · have := paired_len L.pr
        rw [List.length_map, List.length_take] at this
        exact Nat.lt_of_le_of_lt (m := 8000000) (by omega) (by decide)
      · rw [take_at hz, List.map_append]
        exact L2.put (ws := [z]) (fun e => by rw [e, L.e] at hc; cases hc) upd_same
    · rw [List.length_map, List.take_length] at L
      refine ⟨D, xs, _, rfl, L.e, paired_map (fun _ _ q => q.ls) L.pr, L.tbG, by omega, fun H2 c x2 hc => ?_⟩
      have x3 := L.x.trans x2
      have eo2 := x3.keep o _ eo (tb1.seqN eo fun _ z => by cases z)
      refine ⟨o, c, _, _, rfl, rfl, eo2, hc, ?_, fun p2 hp2 => ?_⟩
      · have w1 : wt [(Str.ofString "(")] = 2 := by rw [wt_cons, wt_nil]; show ("(" : Str).length + 1 + 0 = 2; decide +kernel
        have := len_sz (ws := [(Str.ofString "(")] ++ joinW (zs.map fun e => [e])) (by rw [wt_app]; omega)
        rw [← map_app, List.length_append] at this
        exact this
      · refine ⟨by show 1 ≤ sizeLine; decide, fun o3 ho3 => ?_⟩
        refine ⟨p2, o3, _, _, rfl, rfl, by rw [upd_ne (ne_of_none upd_same ho3)]; exact upd_same, upd_same, ?_, fun p4 hp4 => ?_⟩
        · have := len_sz (ws := listW zs) (by omega)
          unfold listW at this
          rw [← map_app, ← map_app, List.length_append] at this
          exact this
        · refine k _ p4 ((x1.trans x3).trans ((Ex.new hp2).trans ((Ex.new ho3).trans (Ex.new hp4)))) ?_
          rw [upd_same]
          unfold listW
          rw [← map_app, ← map_app]
          rfl
theorem ok_listL {f aJ : Addr} {fd dJ : FuncData} (F : Fun K "list_words" "list_words" sListW f fd)
    (GJ : FnOk P w K mg base CX0 1 aJ dJ ["parts"] (spJoined T)) (mJ : mg "joined" = some (.ref aJ)) (kJ : PySem.W.keepIn K (.ref aJ) = true) (bJ : Binds K dJ ["parts"] []) :
    FnOk P w K mg base CX0 2 f fd ["entries"] (spListL K T) := by
  refine F.ok scListW (fun vs H Q E h => ?_) (fun cdv A outer s H vs Q E hr h => ?_)
  · obtain ⟨a, zs, rfl, _⟩ := h
    rfl
  · obtain ⟨a, zs, rfl, ha, tb, hw, k⟩ := h
    refine ⟨_, pss_one (ps_ret (pe_op op_cat (pe_op op_cat (pe_lst (pa_cons pe_str pa_nil)) (pe_call GJ (hr.mono (by decide)) (by rfl) mJ kJ bJ .nil pass0 (pa_cons
      (pe_lc (own := [("entry", 1)]) (g := gName 1) (tt := tYes) (by rfl) scListW.nd (pi_list (pv 0)) (blkOk_by (N := ["entries", "entry"]) (sc := defScope sListW) (by decide +kernel)) (fun _ _ _ _ _ => pg_name (i := 1) scListW.nd rfl (.inl rfl)) (fun _ _ _ _ _ => pts_nil) (fun _ _ _ _ _ => pe_lst (pa_cons (pv 1) pa_nil))) pa_nil)))
      (pe_lst (pa_cons pe_str pa_nil)))), ?_⟩
    have hwl := wt_listW zs
    have hc1 := commas_one zs
    refine ⟨by show 1 ≤ sizeLine; decide, fun o ho => ⟨_, rfl, a, rfl, ⟨_, .inl (.inl (by rw [upd_ne (ne_of_none ha ho)]; exact ha))⟩, fun D hD => ?_⟩⟩
    have x1 : Ex T H (upd H o (.lst [.str (Str.ofString "(")])) := Ex.new ho
    have eo : (upd H o (.lst [.str (Str.ofString "(")])) o = some (.lst [.str (Str.ofString "(")]) := upd_same
    generalize upd H o (.lst [.str (Str.ofString "(")]) = H1 at x1 hD eo ⊢
    have tb1 := x1.tb tb
    have lw := wt_len (commas (zs.map fun e => [e]))
    have lc : (commas (zs.map fun e => [e])).length = 2 * zs.length := len_commas1 zs
    refine lcB_it (n := (zs.map V.str).length) walk_list (fun j G => ∃ xs, Ll T H1 G D xs ((zs.take j).map fun e => [e])) ⟨[], Ll.new tb1 hD⟩ (fun j G _ ⟨_, L⟩ => .inl (.inl ((x1.trans L.x).keep a _ ha (tb.seqN ha fun _ z => by cases z)))) (fun j v G G2 hj ⟨xs, L⟩ y => ?_) (fun G ⟨xs, L⟩ => ?_)
    · obtain ⟨rfl, hv⟩ := y
      rw [List.getElem?_map] at hv
      obtain ⟨z, hz, rfl⟩ := Option.map_eq_some_iff.mp hv
      refine g_one (by decide) (by show 1 < 2; decide) fun σ2 _ keep g => yesT ⟨_, g, by show 1 ≤ sizeLine; decide, fun c hc => ?_⟩
      have L2 := L.go (Ex.new (o := .lst [.str z]) hc)
      have lz : j < zs.length := (List.getElem?_eq_some_iff.mp hz).1
      refine ⟨xs, L2.e, ?_, xs ++ [.ref c], ?_⟩
      · have := paired_len L.pr
        rw [List.length_map, List.length_take] at this
        exact Nat.lt_of_le_of_lt (m := 8000000) (by omega) (by decide)
      · rw [take_at hz, List.map_append]
        exact L2.put (ws := [z]) (fun e => by rw [e, L.e] at hc; cases hc) upd_same
    · rw [List.length_map, List.take_length] at L
      refine ⟨D, xs, _, rfl, L.e, paired_map (fun _ _ q => q.ls) L.pr, L.tbG, by omega, fun H2 c x2 hc => ?_⟩
      have x3 := L.x.trans x2
      have eo2 := x3.keep o _ eo (tb1.seqN eo fun _ z => by cases z)
      refine ⟨o, c, _, _, rfl, rfl, eo2, hc, ?_, fun p2 hp2 => ?_⟩
      · have w1 : wt [(Str.ofString "(")] = 2 := by rw [wt_cons, wt_nil]; show ("(" : Str).length + 1 + 0 = 2; decide +kernel
        have := len_sz (ws := [(Str.ofString "(")] ++ joinW (zs.map fun e => [e])) (by rw [wt_app]; omega)
        rw [← map_app, List.length_append] at this
        exact this
      · refine ⟨by show 1 ≤ sizeLine; decide, fun o3 ho3 => ?_⟩
        refine ⟨p2, o3, _, _, rfl, rfl, by rw [upd_ne (ne_of_none upd_same ho3)]; exact upd_same, upd_same, ?_, fun p4 hp4 => ?_⟩
        · have := len_sz (ws := listW zs) (by omega)
          unfold listW at this
          rw [← map_app, ← map_app, List.length_append] at this
          exact this
        · refine k _ p4 ((x1.trans x3).trans ((Ex.new hp2).trans ((Ex.new ho3).trans (Ex.new hp4)))) ?_
          rw [upd_same]
          unfold listW
          rw [← map_app, ← map_app]
          rfl
end
end JF
set_option Elab.async false
set_option linter.all false
set_option maxRecDepth 100000
set_option maxHeartbeats 1000000
/-! the defs that make words: registers, tokens, deeds, nexts -/
namespace JF
open PySem PySem.Spec PyProof PyProof.Rows L2 GxR GA
abbrev sDeedsW : Stmt := topS 62
abbrev sNexts : Stmt := topS 5
def SmI (i : Int) : Prop := i.natAbs ≤ 1000000000000
theorem f_r (i : Int) : (Str.empty ++ (Str.ofString "r")) ++ Str.ofString (toString i) = rW i := by
  unfold rW iW
  rw [show Str.empty ++ (Str.ofString "r") = (Str.ofString "r") by decide +kernel]
theorem f_t (i : Int) : (Str.empty ++ (Str.ofString "t")) ++ Str.ofString (toString i) = tW i := by
  unfold tW iW
  rw [show Str.empty ++ (Str.ofString "t") = (Str.ofString "t") by decide +kernel]
theorem sz_r0 : (Str.empty ++ (Str.ofString "r")).length ≤ sizeLine := by decide +kernel
theorem sz_t0 : (Str.empty ++ (Str.ofString "t")).length ≤ sizeLine := by decide +kernel
theorem sz_r {i : Int} (h : SmI i) : ((Str.empty ++ (Str.ofString "r")) ++ Str.ofString (toString i)).length ≤ sizeLine := by
  rw [f_r]; exact Nat.le_trans (lenR h) (by decide)
theorem sz_t {i : Int} (h : SmI i) : ((Str.empty ++ (Str.ofString "t")) ++ Str.ofString (toString i)).length ≤ sizeLine := by
  rw [f_t]; exact Nat.le_trans (lenT h) (by decide)
/-- f"r{e}", f"t{e}" -/
def tFr (t : TE) : TE := fun σ H Q => t σ H fun x H1 => ∃ i, x = .int i ∧ SmI i ∧ Q (.str (rW i)) H1
def tFt (t : TE) : TE := fun σ H Q => t σ H fun x H1 => ∃ i, x = .int i ∧ SmI i ∧ Q (.str (tW i)) H1
theorem TE_imp {X : Cx} {e : Expr} {t t' : TE} (h : PE X e t) (f : ∀ σ H Q, t' σ H Q → t σ H Q) : PE X e t' := ⟨fun pins s σ H Q I q => h.run pins s σ H Q I (f σ H Q q)⟩
section
variable {P : Program} {w : World} {K : PySem.W.Frag} {mg : Str → Option Value} {base : Heap} {T : List Addr}
def spRegsW (K : PySem.W.Frag) (T : List Addr) : Sp := fun vs H Q _ => ∃ (a : Addr) (zs : List Int), vs = [.ref a] ∧ SqT K H a (zs.map V.int) ∧ (∀ z ∈ zs, SmI z) ∧ TbOk T H ∧ wt (regsW zs) ≤ 8000000 ∧ Gives T H Q (regsW zs)
theorem scRegsW : FnScope ["setting", "r"] ["setting"] (defScope sRegsW) := ⟨rfl, rfl, rfl, by decide +kernel, rfl, by decide +kernel, by decide +kernel⟩
theorem ok_regsw {f aL : Addr} {fd dL : FuncData} (F : Fun K "registers_words" "registers_words" sRegsW f fd)
    (GL : FnOk P w K mg base CX0 2 aL dL ["entries"] (spListL K T)) (mL : mg "list_words" = some (.ref aL)) (kL : PySem.W.keepIn K (.ref aL) = true) (bL : Binds K dL ["entries"] []) :
    FnOk P w K mg base CX0 3 f fd ["setting"] (spRegsW K T) := by
  refine F.ok scRegsW (fun vs H Q E h => ?_) (fun cdv A outer s H vs Q E hr h => ?_)
  · obtain ⟨a, zs, rfl, _⟩ := h
    rfl
  · obtain ⟨a, zs, rfl, ha, hz, tb, hw, k⟩ := h
    refine ⟨_, pss_one (ps_ret (pe_call GL (hr.mono (by decide)) (by rfl) mL kL bL .nil pass0 (pa_cons
      (pe_lc (own := [("r", 1)]) (g := gName 1) (tt := tYes) (by rfl) scRegsW.nd (pi_tup (pv 0)) (blkOk_by (N := ["setting", "r"]) (sc := defScope sRegsW) (by decide +kernel)) (fun _ _ _ _ _ => pg_name (i := 1) scRegsW.nd rfl (.inl rfl)) (fun _ _ _ _ _ => pts_nil)
        (fun _ _ _ _ _ => pe_joined (.cons pe_str (.cons (pe_fmt (pv 1)) .nil)))) pa_nil))), ?_⟩
    refine ⟨_, rfl, a, rfl, ⟨_, ha⟩, fun D hD => ?_⟩
    have lw := wt_len (regsW zs)
    have ll : zs.length ≤ (regsW zs).length := by
      unfold regsW listW joinW
      have := len_commas1 (zs.map rW)
      rw [List.length_map] at this
      simp only [List.length_append, List.length_dropLast, this, List.length_cons, List.length_nil]
      omega
    refine lcB_it (n := (zs.map V.int).length) walk_tup (fun j G => Fl T H G D ((zs.take j).map rW)) (Fl.new tb Ex.refl hD) (fun j G _ F => F.x.sqT tb ha) (fun j v G G2 hj F y => ?_) (fun G F => ?_)
    · obtain ⟨rfl, hv⟩ := y
      rw [List.getElem?_map] at hv
      obtain ⟨z, hz1, rfl⟩ := Option.map_eq_some_iff.mp hv
      have sm := hz z (List.mem_of_getElem? hz1)
      have lz : j < zs.length := (List.getElem?_eq_some_iff.mp hz1).1
      refine g_one (by decide) (by show 1 < 2; decide) fun σ2 _ keep g => yesT ⟨_, rfl, sz_r0, _, g, .inr ⟨z, rfl, logI sm, _, rfl, sz_r sm, _, F.e, ?_, ?_⟩⟩
      · rw [List.length_map, List.length_map, List.length_take]
        exact Nat.lt_of_le_of_lt (m := 8000000) (by omega) (by decide)
      · have := F.put ((zs.take (j + 1)).map rW)
        rw [f_r, show ((zs.take j).map rW).map V.str ++ [V.str (rW z)] = ((zs.take (j + 1)).map rW).map V.str by rw [take_at hz1]; simp]
        exact this
    · rw [List.length_map, List.take_length] at F
      exact ⟨D, zs.map rW, rfl, F.e, F.tbG, hw, fun H' c x e => k H' c (F.x.trans x) e⟩
def tokV : Option Int → V
  | none => .non
  | some t => .int t
def spTokW (T : List Addr) : Sp := fun vs H Q _ => ∃ (wd : Str) (tok : Option Int), vs = [.str wd, tokV tok] ∧ (∀ t, tok = some t → SmI t) ∧ Gives T H Q (tokW wd tok)
theorem scTokW : FnScope ["word", "token"] ["word", "token"] (defScope sTokW) := ⟨rfl, rfl, rfl, by decide +kernel, rfl, by decide +kernel, by decide +kernel⟩
theorem ok_tokw {f : Addr} {fd : FuncData} (F : Fun K "token_words" "token_words" sTokW f fd) : FnOk P w K mg base CX0 1 f fd ["word", "token"] (spTokW T) := by
  refine F.ok scTokW (fun vs H Q E h => ?_) (fun cdv A outer s H vs Q E hr h => ?_)
  · obtain ⟨wd, tok, rfl, _⟩ := h
    rfl
  · obtain ⟨wd, tok, rfl, sm, k⟩ := h
    refine ⟨_, pss_one (ps_ret (pe_ifExp (pt_cmp (pc_isN (pv 1)) rfl) (pe_lst pa_nil) (pe_lst (pa_cons (pv 0) (pa_cons (pe_joined (.cons pe_str (.cons (pe_fmt (pv 1)) .nil))) pa_nil))))), ?_⟩
    cases tok with
    | none => exact ⟨_, rfl, _, rfl, iteT ⟨by show 0 ≤ sizeLine; decide, fun p hp => k _ p (Ex.new hp) upd_same⟩⟩
    | some t =>
      have st := sm t rfl
      refine ⟨_, rfl, _, rfl, iteF ⟨_, rfl, _, rfl, sz_t0, _, rfl, .inr ⟨t, rfl, logI st, _, rfl, sz_t st, by show 2 ≤ sizeLine; decide, fun p hp => k _ p (Ex.new hp) ?_⟩⟩⟩
      rw [upd_same, f_t]; rfl
/-- a deed's numbers are small -/
def DeedD.Sm : DeedD → Prop
  | .hold r => SmI r
  | .drop r => SmI r
  | .free t s => SmI t ∧ SmI s
def spDeedsW (K : PySem.W.Frag) (T : List Addr) : Sp := fun vs H Q _ => ∃ (v : V) (ds : List DeedD), vs = [v] ∧ Rp K H v (deedsD ds) ∧ (∀ d ∈ ds, d.Sm) ∧ TbOk T H ∧ wt (deedsW ds) ≤ 8000000 ∧ Gives T H Q (deedsW ds)
theorem scDeedsW : FnScope ["deeds", "words", "deed"] ["deeds"] (defScope sDeedsW) := ⟨rfl, rfl, rfl, by decide +kernel, rfl, by decide +kernel, by decide +kernel⟩
theorem wt_deedsW (ds : List DeedD) : wt (ds.flatMap deedW) ≤ wt (deedsW ds) := by
  unfold deedsW
  by_cases h : ds.flatMap deedW = []
  · rw [if_pos h, h]; exact Nat.le_refl _
  · rw [if_neg h, wt_app, wt_app]; omega
theorem ok_deedsw {f : Addr} {fd : FuncData} (F : Fun K "deeds_words" "deeds_words" sDeedsW f fd) (ms : mg "str" = none) : FnOk P w K mg base CX0 1 f fd ["deeds"] (spDeedsW K T) := by
  refine F.ok scDeedsW (fun vs H Q E h => ?_) (fun cdv A outer s H vs Q E hr h => ?_)
  · obtain ⟨v, ds, rfl, _⟩ := h
    rfl
  · obtain ⟨v, ds, rfl, rv, sm, tb, hw, k⟩ := h
    refine ⟨_, pss_cons (ps_set (i := 1) scDeedsW.nd rfl (.inl rfl) (pe_lst pa_nil))
      (pss_cons (ps_for PassesOwn.never rfl (pi_tup (pv 0)) (pg_name (i := 2) scDeedsW.nd rfl (.inl rfl))
        (pss_one (ps_if (pt_cmpR op_eq (pe_ix ix_tup (pv 2) pe_int (fun _ _ => rfl)) pe_str (nomark _))
          (pss_one (ps_expr (pe_extK (K := K) rfl (pv 1) (pa_cons (pe_lst (pa_cons pe_str (pa_cons (pe_joined (.cons pe_str (.cons (pe_fmt (pe_ix ix_tup (pv 2) pe_int (fun _ _ => rfl))) .nil))) (pa_cons pe_str (pa_cons (pe_callTy call_str_int (by rfl) ms (by decide +kernel) (pa_cons (pe_ix ix_tup (pv 2) pe_int (fun _ _ => rfl)) pa_nil)) pa_nil))))) pa_nil))))
          (pss_one (ps_expr (pe_extK (K := K) rfl (pv 1) (pa_cons (pe_lst (pa_cons (pe_ix ix_tup (pv 2) pe_int (fun _ _ => rfl)) (pa_cons (pe_joined (.cons pe_str (.cons (pe_fmt (pe_ix ix_tup (pv 2) pe_int (fun _ _ => rfl))) .nil))) pa_nil))) pa_nil)))))))
      (pss_one (ps_ret (pe_ifExp (pt_truth (pv 1) (by intro _; rfl)) (pe_op op_cat (pe_op op_cat (pe_lst (pa_cons pe_str pa_nil)) (pv 1)) (pe_lst (pa_cons pe_str pa_nil))) (pe_lst pa_nil))))), ?_⟩
    obtain ⟨a, xs, rfl, ha, ra⟩ := Rp.tupI rv
    have hw1 := wt_deedsW ds
    refine ⟨by show 0 ≤ sizeLine; decide, fun D hD => ?_⟩
    refine ⟨_, rfl, a, rfl, ⟨xs, (Ex.new hD).sqT tb ha⟩, for_it (n := xs.length) walk_tup (fun i σ G => ∃ p, σ = [some (.ref a), some (.ref D), p] ∧ Fl T H G D ((ds.take i).flatMap deedW))
      ⟨_, rfl, Fl.new tb Ex.refl hD⟩ (fun i σ G _ ⟨_, _, F⟩ => F.x.sqT tb ha) (fun i x σ G G2 hi ⟨p, eσ, F⟩ y => ?_) (fun σ G ⟨p, eσ, F⟩ => ?_)⟩
    · obtain ⟨rfl, hx⟩ := y
      subst eσ
      obtain ⟨d, hd, rd⟩ := ra.getM hx
      have hsm := sm d (List.mem_of_getElem? hd)
      have e1 : (ds.take (i + 1)).flatMap deedW = (ds.take i).flatMap deedW ++ deedW d := flat_take deedW hd
      have hle := wt_flat_take deedW ds (i + 1)
      have hl : (((ds.take i).flatMap deedW).map V.str).length + (deedW d).length ≤ sizeLine := by
        have := len_sz (ws := (ds.take i).flatMap deedW ++ deedW d) (by rw [← e1]; omega)
        rw [← map_app, List.length_append, List.length_map (as := deedW d)] at this
        exact this
      have rd1 := rd.ex F.x tb
      have fin : ∀ o, G2 o = none → ∀ G3, G3 = upd (upd G2 o (.lst ((deedW d).map V.str))) D (.lst (((ds.take i).flatMap deedW).map V.str ++ (deedW d).map V.str)) → Fl T H G3 D ((ds.take (i + 1)).flatMap deedW) := fun o ho G3 eG => by
        have F1 := F.go (Ex.new (o := .lst ((deedW d).map V.str)) ho)
        have := F1.put ((ds.take (i + 1)).flatMap deedW)
        rw [e1, ← map_app] at this
        rw [eG, e1]; exact this
      cases d with
      | free t z =>
        obtain ⟨c, us, rfl, hc, rc⟩ := Rp.tupI rd1
        obtain ⟨u1, _, rfl, q1, rc⟩ := RpAll.consI rc
        obtain ⟨u2, _, rfl, q2, rc⟩ := RpAll.consI rc
        obtain ⟨u3, _, rfl, q3, rc⟩ := RpAll.consI rc
        cases RpAll.nilI rc
        cases Rp.strI q1; cases Rp.intI q2; cases Rp.intI q3
        refine ⟨_, rfl, c, _, _, _, rfl, rfl, hc, atI_nat (j := 0) rfl, rfl, true, by rfl, iteT ?_⟩
        refine ⟨_, rfl, .inl ⟨rfl, _, .inl (.inl F.e)⟩, _, rfl, sz_t0, _, rfl, c, _, _, _, rfl, rfl, hc, atI_nat (j := 1) rfl, .inr ⟨t, rfl, logI hsm.1, _, rfl, sz_t hsm.1, _, rfl, c, _, _, _, rfl, rfl, hc, atI_nat (j := 2) rfl, z, rfl, logI hsm.2, by show 4 ≤ sizeLine; decide, fun o ho => ?_⟩⟩
        rw [f_t]
        exact ⟨D, o, _, _, rfl, rfl, (F.go (Ex.new ho)).e, upd_same, hl, _, rfl, fin o ho _ rfl⟩
      | hold r =>
        obtain ⟨c, us, rfl, hc, rc⟩ := Rp.tupI rd1
        obtain ⟨u1, _, rfl, q1, rc⟩ := RpAll.consI rc
        obtain ⟨u2, _, rfl, q2, rc⟩ := RpAll.consI rc
        cases RpAll.nilI rc
        cases Rp.strI q1; cases Rp.intI q2
        refine ⟨_, rfl, c, _, _, _, rfl, rfl, hc, atI_nat (j := 0) rfl, rfl, false, by rfl, iteF ?_⟩
        refine ⟨_, rfl, .inl ⟨rfl, _, .inl (.inl F.e)⟩, _, rfl, c, _, _, _, rfl, rfl, hc, atI_nat (j := 0) rfl, _, rfl, sz_r0, _, rfl, c, _, _, _, rfl, rfl, hc, atI_nat (j := 1) rfl, .inr ⟨r, rfl, logI hsm, _, rfl, sz_r hsm, by show 2 ≤ sizeLine; decide, fun o ho => ?_⟩⟩
        rw [f_r]
        exact ⟨D, o, _, _, rfl, rfl, (F.go (Ex.new ho)).e, upd_same, hl, _, rfl, fin o ho _ rfl⟩
      | drop r =>
        obtain ⟨c, us, rfl, hc, rc⟩ := Rp.tupI rd1
        obtain ⟨u1, _, rfl, q1, rc⟩ := RpAll.consI rc
        obtain ⟨u2, _, rfl, q2, rc⟩ := RpAll.consI rc
        cases RpAll.nilI rc
        cases Rp.strI q1; cases Rp.intI q2
        refine ⟨_, rfl, c, _, _, _, rfl, rfl, hc, atI_nat (j := 0) rfl, rfl, false, by rfl, iteF ?_⟩
        refine ⟨_, rfl, .inl ⟨rfl, _, .inl (.inl F.e)⟩, _, rfl, c, _, _, _, rfl, rfl, hc, atI_nat (j := 0) rfl, _, rfl, sz_r0, _, rfl, c, _, _, _, rfl, rfl, hc, atI_nat (j := 1) rfl, .inr ⟨r, rfl, logI hsm, _, rfl, sz_r hsm, by show 2 ≤ sizeLine; decide, fun o ho => ?_⟩⟩
        rw [f_r]
        exact ⟨D, o, _, _, rfl, rfl, (F.go (Ex.new ho)).e, upd_same, hl, _, rfl, fin o ho _ rfl⟩
    · subst eσ
      rw [ra.lenM, List.take_length] at F
      refine ⟨_, rfl, !(((ds.flatMap deedW).map V.str).isEmpty), .inl ⟨_, .inl (.inl F.e), rfl⟩, ?_⟩
      by_cases h0 : ds.flatMap deedW = []
      · rw [h0]
        refine iteF ⟨by show 0 ≤ sizeLine; decide, fun p hp => k _ p (F.x.trans (Ex.new hp)) ?_⟩
        rw [upd_same]; unfold deedsW; rw [if_pos h0]; rfl
      · have ne : (!(((ds.flatMap deedW).map V.str).isEmpty)) = true := by
          cases e : ds.flatMap deedW with
          | nil => exact absurd e h0
          | cons => rfl
        rw [ne]
        have ed : deedsW ds = [(Str.ofString "{")] ++ ds.flatMap deedW ++ [(Str.ofString "}")] := by unfold deedsW; rw [if_neg h0]
        rw [ed, wt_app, wt_app] at hw
        refine iteT ⟨by show 1 ≤ sizeLine; decide, fun o ho => ⟨_, rfl, ?_⟩⟩
        have F1 := F.go (Ex.new (o := .lst [.str (Str.ofString "{")]) ho)
        refine ⟨o, D, _, _, rfl, rfl, upd_same, F1.e, ?_, fun p hp => ?_⟩
        · have := len_sz (ws := [(Str.ofString "{")] ++ ds.flatMap deedW) (by rw [wt_app]; omega)
          rw [← map_app, List.length_append] at this
          exact this
        · refine ⟨by show 1 ≤ sizeLine; decide, fun o3 ho3 => ⟨p, o3, _, _, rfl, rfl, by rw [upd_ne (ne_of_none upd_same ho3)]; exact upd_same, upd_same, ?_, fun p4 hp4 => ?_⟩⟩
          · have := len_sz (ws := ([(Str.ofString "{")] ++ ds.flatMap deedW) ++ [(Str.ofString "}")]) (by rw [wt_app, wt_app]; omega)
            rw [← map_app, ← map_app, List.length_append] at this
            exact this
          · refine k _ p4 (F1.x.trans ((Ex.new hp).trans ((Ex.new ho3).trans (Ex.new hp4)))) ?_
            rw [upd_same, ed, ← map_app, ← map_app]; rfl
end
end JF
set_option Elab.async false
set_option linter.all false
set_option maxRecDepth 100000
set_option maxHeartbeats 1000000
/-! the nexts of a row -/
namespace JF
open PySem PySem.Spec PyProof PyProof.Rows L2 GxR GA
section
variable {P : Program} {w : World} {K : PySem.W.Frag} {mg : Str → Option Value} {base : Heap} {T : List Addr}
/-- a match has few branches -/
def RowD.Few : RowD → Prop
  | .mat _ brs => brs.length ≤ 6
  | _ => True
def spNexts (K : PySem.W.Frag) (T : List Addr) : Sp := fun vs H Q _ => ∃ (v : V) (row : RowD), vs = [v] ∧ Rp K H v (dRow row) ∧ row.Few ∧ TbOk T H ∧ ∀ H' c, Ex T H H' → H' c = some (.lst (row.nexts.map V.int)) → Q (.ref c) H'
theorem scNexts : FnScope ["row", "_", "goto"] ["row"] (defScope sNexts) := ⟨rfl, rfl, rfl, by decide +kernel, rfl, by decide +kernel, by decide +kernel⟩
theorem ok_nexts {f : Addr} {fd : FuncData} (F : Fun K "nexts" "nexts" sNexts f fd) : FnOk P w K mg base CX0 1 f fd ["row"] (spNexts K T) := by
  refine F.ok scNexts (fun vs H Q E h => ?_) (fun cdv A outer s H vs Q E hr h => ?_)
  · obtain ⟨v, row, rfl, _⟩ := h
    rfl
  · obtain ⟨v, row, rfl, rd, few, tb, k⟩ := h
    refine ⟨_, pss_cons (ps_if (pt_cmpR op_eq (pe_ix ix_tup (pv 0) pe_int (fun _ _ => rfl)) pe_str (nomark _)) (pss_one (ps_ret (pe_lst pa_nil))) pss_nil)
      (pss_cons (ps_if (pt_cmpR op_eq (pe_ix ix_tup (pv 0) pe_int (fun _ _ => rfl)) pe_str (nomark _)) (pss_one (ps_ret (pe_lst (pa_cons (pe_ix ix_tup (pv 0) pe_int (fun _ _ => rfl)) (pa_cons (pe_ix ix_tup (pv 0) pe_int (fun _ _ => rfl)) pa_nil))))) pss_nil)
      (pss_cons (ps_if (pt_cmpR op_eq (pe_ix ix_tup (pv 0) pe_int (fun _ _ => rfl)) pe_str (nomark _)) (pss_one (ps_ret
        (pe_lc (own := [("_", 1), ("goto", 2)]) (tt := tYes) (by rfl) scNexts.nd (pi_tup (pe_ix ix_tup (pv 0) pe_int (fun _ _ => rfl))) (blkOk_by (N := ["row", "_", "goto"]) (sc := defScope sNexts) (by decide +kernel))
          (fun _ _ _ _ _ => pg_two (K := K) (i := 1) (j := 2) rfl rfl scNexts.nd rfl rfl rfl rfl) (fun _ _ _ _ _ => pts_nil) (fun _ _ _ _ _ => pv 2)))) pss_nil)
      (pss_one (ps_ret (pe_lst (pa_cons (pe_ix ix_tup (pv 0) (pe_un un_neg pe_int) (fun _ _ => rfl)) pa_nil)))))), ?_⟩
    cases row with
    | num r n g =>
      obtain ⟨c, us, rfl, hc, rc⟩ := Rp.tupI rd
      obtain ⟨u0, _, rfl, q0, rc⟩ := RpAll.consI rc
      obtain ⟨u1, _, rfl, q1, rc⟩ := RpAll.consI rc
      obtain ⟨u2, _, rfl, q2, rc⟩ := RpAll.consI rc
      obtain ⟨u3, _, rfl, q3, rc⟩ := RpAll.consI rc
      cases RpAll.nilI rc
      cases Rp.strI q0
      cases Rp.intI q1
      cases Rp.intI q2
      cases Rp.intI q3
      refine ⟨_, rfl, c, _, _, _, rfl, rfl, hc, atI_nat (j := 0) rfl, rfl, false, by rfl, iteF ?_⟩
      refine ⟨_, rfl, c, _, _, _, rfl, rfl, hc, atI_nat (j := 0) rfl, rfl, false, by rfl, iteF ?_⟩
      refine ⟨_, rfl, c, _, _, _, rfl, rfl, hc, atI_nat (j := 0) rfl, rfl, false, by rfl, iteF ?_⟩
      exact ⟨_, rfl, _, rfl, c, _, _, _, rfl, rfl, hc, rfl, by show 1 ≤ sizeLine; decide, fun p hp => k _ p (Ex.new hp) upd_same⟩
    | less a b g h =>
      obtain ⟨c, us, rfl, hc, rc⟩ := Rp.tupI rd
      obtain ⟨u0, _, rfl, q0, rc⟩ := RpAll.consI rc
      obtain ⟨u1, _, rfl, q1, rc⟩ := RpAll.consI rc
      obtain ⟨u2, _, rfl, q2, rc⟩ := RpAll.consI rc
      obtain ⟨u3, _, rfl, q3, rc⟩ := RpAll.consI rc
      obtain ⟨u4, _, rfl, q4, rc⟩ := RpAll.consI rc
      cases RpAll.nilI rc
      cases Rp.strI q0
      cases Rp.intI q1
      cases Rp.intI q2
      cases Rp.intI q3
      cases Rp.intI q4
      refine ⟨_, rfl, c, _, _, _, rfl, rfl, hc, atI_nat (j := 0) rfl, rfl, false, by rfl, iteF ?_⟩
      refine ⟨_, rfl, c, _, _, _, rfl, rfl, hc, atI_nat (j := 0) rfl, rfl, true, by rfl, iteT ?_⟩
      exact ⟨_, rfl, c, _, _, _, rfl, rfl, hc, atI_nat (j := 3) rfl, _, rfl, c, _, _, _, rfl, rfl, hc, atI_nat (j := 4) rfl, by show 2 ≤ sizeLine; decide, fun p hp => k _ p (Ex.new hp) upd_same⟩
    | make r nm xs g =>
      obtain ⟨c, us, rfl, hc, rc⟩ := Rp.tupI rd
      obtain ⟨u0, _, rfl, q0, rc⟩ := RpAll.consI rc
      obtain ⟨u1, _, rfl, q1, rc⟩ := RpAll.consI rc
      obtain ⟨u2, _, rfl, q2, rc⟩ := RpAll.consI rc
      obtain ⟨u3, _, rfl, q3, rc⟩ := RpAll.consI rc
      obtain ⟨u4, _, rfl, q4, rc⟩ := RpAll.consI rc
      cases RpAll.nilI rc
      cases Rp.strI q0
      cases Rp.intI q1
      cases Rp.strI q2
      obtain ⟨cr, xr, rfl, hcr, rr⟩ := Rp.tupI q3
      cases RpAll.ints rr
      cases Rp.intI q4
      refine ⟨_, rfl, c, _, _, _, rfl, rfl, hc, atI_nat (j := 0) rfl, rfl, false, by rfl, iteF ?_⟩
      refine ⟨_, rfl, c, _, _, _, rfl, rfl, hc, atI_nat (j := 0) rfl, rfl, false, by rfl, iteF ?_⟩
      refine ⟨_, rfl, c, _, _, _, rfl, rfl, hc, atI_nat (j := 0) rfl, rfl, false, by rfl, iteF ?_⟩
      exact ⟨_, rfl, _, rfl, c, _, _, _, rfl, rfl, hc, rfl, by show 1 ≤ sizeLine; decide, fun p hp => k _ p (Ex.new hp) upd_same⟩
    | call r nm xs g =>
      obtain ⟨c, us, rfl, hc, rc⟩ := Rp.tupI rd
      obtain ⟨u0, _, rfl, q0, rc⟩ := RpAll.consI rc
      obtain ⟨u1, _, rfl, q1, rc⟩ := RpAll.consI rc
      obtain ⟨u2, _, rfl, q2, rc⟩ := RpAll.consI rc
      obtain ⟨u3, _, rfl, q3, rc⟩ := RpAll.consI rc
      obtain ⟨u4, _, rfl, q4, rc⟩ := RpAll.consI rc
      cases RpAll.nilI rc
      cases Rp.strI q0
      cases Rp.intI q1
      cases Rp.strI q2
      obtain ⟨cr, xr, rfl, hcr, rr⟩ := Rp.tupI q3
      cases RpAll.ints rr
      cases Rp.intI q4
      refine ⟨_, rfl, c, _, _, _, rfl, rfl, hc, atI_nat (j := 0) rfl, rfl, false, by rfl, iteF ?_⟩
      refine ⟨_, rfl, c, _, _, _, rfl, rfl, hc, atI_nat (j := 0) rfl, rfl, false, by rfl, iteF ?_⟩
      refine ⟨_, rfl, c, _, _, _, rfl, rfl, hc, atI_nat (j := 0) rfl, rfl, false, by rfl, iteF ?_⟩
      exact ⟨_, rfl, _, rfl, c, _, _, _, rfl, rfl, hc, rfl, by show 1 ≤ sizeLine; decide, fun p hp => k _ p (Ex.new hp) upd_same⟩
    | mat a brs =>
      obtain ⟨c, us, rfl, hc, rc⟩ := Rp.tupI rd
      obtain ⟨u0, _, rfl, q0, rc⟩ := RpAll.consI rc
      obtain ⟨u1, _, rfl, q1, rc⟩ := RpAll.consI rc
      obtain ⟨u2, _, rfl, q2, rc⟩ := RpAll.consI rc
      cases RpAll.nilI rc
      cases Rp.strI q0
      cases Rp.intI q1
      obtain ⟨cb, xb, rfl, hcb, rb⟩ := Rp.tupI q2
      refine ⟨_, rfl, c, _, _, _, rfl, rfl, hc, atI_nat (j := 0) rfl, rfl, false, by rfl, iteF ?_⟩
      refine ⟨_, rfl, c, _, _, _, rfl, rfl, hc, atI_nat (j := 0) rfl, rfl, false, by rfl, iteF ?_⟩
      refine ⟨_, rfl, c, _, _, _, rfl, rfl, hc, atI_nat (j := 0) rfl, rfl, true, by rfl, iteT ?_⟩
      have few : brs.length ≤ 6 := few
      refine ⟨_, rfl, c, _, _, _, rfl, rfl, hc, atI_nat (j := 2) rfl, cb, rfl, ⟨_, hcb⟩, fun D hD => ?_⟩
      refine lcB_it (n := xb.length) walk_tup (fun j G => Ex T H G ∧ G D = some (.lst (((brs.map (·.2)).take j).map V.int))) ⟨Ex.new hD, upd_same⟩ (fun j G _ ⟨x, _⟩ => x.sqT tb hcb) (fun j v G G2 hj ⟨x, e⟩ y => ?_) (fun G ⟨x, e⟩ => ?_)
      · obtain ⟨rfl, hv⟩ := y
        obtain ⟨br, hbr, rbr⟩ := rb.getM hv
        obtain ⟨cp, up, rfl, hcp, rp⟩ := Rp.tupI rbr
        obtain ⟨p1, _, rfl, _, rp⟩ := RpAll.consI rp
        obtain ⟨p2, _, rfl, w2, rp⟩ := RpAll.consI rp
        cases RpAll.nilI rp
        cases Rp.intI w2
        refine g_two (x.sqT tb hcp) (by decide) (by decide) (by decide) (by show 1 < 3; decide) (by show 2 < 3; decide) fun σ2 _ keep g1 g2 => yesT ⟨_, g2, _, e, ?_, x.upd0 hD, ?_⟩
        · have := (List.getElem?_eq_some_iff.mp hbr).1
          rw [List.length_map, List.length_take]
          exact Nat.lt_of_le_of_lt (m := 1000) (by omega) (by decide)
        · rw [upd_same, take_at (xs := brs.map (·.2)) (i := j) (x := br.2) (by rw [List.getElem?_map, hbr]; rfl), List.map_append]; rfl
      · rw [rb.lenM, ← List.length_map (f := (·.2)) (as := brs), List.take_length] at e
        exact k _ D x e
    | give r =>
      obtain ⟨c, us, rfl, hc, rc⟩ := Rp.tupI rd
      obtain ⟨u0, _, rfl, q0, rc⟩ := RpAll.consI rc
      obtain ⟨u1, _, rfl, q1, rc⟩ := RpAll.consI rc
      cases RpAll.nilI rc
      cases Rp.strI q0
      cases Rp.intI q1
      refine ⟨_, rfl, c, _, _, _, rfl, rfl, hc, atI_nat (j := 0) rfl, rfl, true, by rfl, iteT ?_⟩
      exact ⟨by show 0 ≤ sizeLine; decide, fun p hp => k _ p (Ex.new hp) upd_same⟩
    | ari sub r a b g =>
      cases sub with
      | true =>
        obtain ⟨c, us, rfl, hc, rc⟩ := Rp.tupI rd
        obtain ⟨u0, _, rfl, q0, rc⟩ := RpAll.consI rc
        obtain ⟨u1, _, rfl, q1, rc⟩ := RpAll.consI rc
        obtain ⟨u2, _, rfl, q2, rc⟩ := RpAll.consI rc
        obtain ⟨u3, _, rfl, q3, rc⟩ := RpAll.consI rc
        obtain ⟨u4, _, rfl, q4, rc⟩ := RpAll.consI rc
        cases RpAll.nilI rc
        cases Rp.strI q0
        cases Rp.intI q1
        cases Rp.intI q2
        cases Rp.intI q3
        cases Rp.intI q4
        refine ⟨_, rfl, c, _, _, _, rfl, rfl, hc, atI_nat (j := 0) rfl, rfl, false, by rfl, iteF ?_⟩
        refine ⟨_, rfl, c, _, _, _, rfl, rfl, hc, atI_nat (j := 0) rfl, rfl, false, by rfl, iteF ?_⟩
        refine ⟨_, rfl, c, _, _, _, rfl, rfl, hc, atI_nat (j := 0) rfl, rfl, false, by rfl, iteF ?_⟩
        exact ⟨_, rfl, _, rfl, c, _, _, _, rfl, rfl, hc, rfl, by show 1 ≤ sizeLine; decide, fun p hp => k _ p (Ex.new hp) upd_same⟩
        | false =>
        obtain ⟨c, us, rfl, hc, rc⟩ := Rp.tupI rd
        obtain ⟨u0, _, rfl, q0, rc⟩ := RpAll.consI rc
        obtain ⟨u1, _, rfl, q1, rc⟩ := RpAll.consI rc
        obtain ⟨u2, _, rfl, q2, rc⟩ := RpAll.consI rc
        obtain ⟨u3, _, rfl, q3, rc⟩ := RpAll.consI rc
        obtain ⟨u4, _, rfl, q4, rc⟩ := RpAll.consI rc
        cases RpAll.nilI rc
        cases Rp.strI q0
        cases Rp.intI q1
        cases Rp.intI q2
        cases Rp.intI q3
        cases Rp.intI q4
        refine ⟨_, rfl, c, _, _, _, rfl, rfl, hc, atI_nat (j := 0) rfl, rfl, false, by rfl, iteF ?_⟩
        refine ⟨_, rfl, c, _, _, _, rfl, rfl, hc, atI_nat (j := 0) rfl, rfl, false, by rfl, iteF ?_⟩
        refine ⟨_, rfl, c, _, _, _, rfl, rfl, hc, atI_nat (j := 0) rfl, rfl, false, by rfl, iteF ?_⟩
        exact ⟨_, rfl, _, rfl, c, _, _, _, rfl, rfl, hc, rfl, by show 1 ≤ sizeLine; decide, fun p hp => k _ p (Ex.new hp) upd_same⟩
end
end JF
set_option Elab.async false
set_option linter.all false
set_option maxRecDepth 100000
set_option maxHeartbeats 1000000
/-! the words of a row ahead of its nexts -/
namespace JF
open PySem PySem.Spec PyProof PyProof.Rows L2 GxR GA
abbrev sHeadW : Stmt := topS 63
def SmA (xs : List Int) : Prop := ∀ z ∈ xs, SmI z
/-- a row's numbers are small -/
def RowD.Sm : RowD → Prop
  | .num r n g => SmI r ∧ SmI n ∧ SmI g
  | .ari _ r a b g => SmI r ∧ SmI a ∧ SmI b ∧ SmI g
  | .less a b g h => SmI a ∧ SmI b ∧ SmI g ∧ SmI h
  | .make r _ xs g => SmI r ∧ SmA xs ∧ SmI g
  | .call r _ xs g => SmI r ∧ SmA xs ∧ SmI g
  | .mat a brs => SmI a ∧ ∀ b ∈ brs, SmA b.1 ∧ SmI b.2
  | .give r => SmI r
section
variable {P : Program} {w : World} {K : PySem.W.Frag} {mg : Str → Option Value} {base : Heap} {T : List Addr}
def spHeadW (K : PySem.W.Frag) (T : List Addr) : Sp := fun vs H Q _ => ∃ (v : V) (row : RowD) (tok : Option Int), vs = [v, tokV tok] ∧ Rp K H v (dRow row) ∧ row.Sm ∧ (∀ t, tok = some t → SmI t) ∧ TbOk T H ∧ wt (headW row tok) ≤ 8000000 ∧ Gives T H Q (headW row tok)
theorem scHeadW : FnScope ["row", "token", "word"] ["row", "token"] (defScope sHeadW) := ⟨rfl, rfl, rfl, by decide +kernel, rfl, by decide +kernel, by decide +kernel⟩
theorem ok_headw {f aR aT : Addr} {fd dR dT : FuncData} (F : Fun K "head_words" "head_words" sHeadW f fd) (ms : mg "str" = none)
    (GR : FnOk P w K mg base CX0 3 aR dR ["setting"] (spRegsW K T)) (mR : mg "registers_words" = some (.ref aR)) (kR : PySem.W.keepIn K (.ref aR) = true) (bR : Binds K dR ["setting"] [])
    (GT : FnOk P w K mg base CX0 1 aT dT ["word", "token"] (spTokW T)) (mT : mg "token_words" = some (.ref aT)) (kT : PySem.W.keepIn K (.ref aT) = true) (bT : Binds K dT ["word", "token"] []) :
    FnOk P w K mg base CX0 4 f fd ["row", "token"] (spHeadW K T) := by
  refine F.ok scHeadW (fun vs H Q E h => ?_) (fun cdv A outer s H vs Q E hr h => ?_)
  · obtain ⟨v, row, tok, rfl, _⟩ := h
    rfl
  · obtain ⟨v, row, tok, rfl, rd, sm, smt, tb, hw, k⟩ := h
    refine ⟨_, pss_cons (ps_set (i := 2) scHeadW.nd rfl (.inl rfl) (pe_ix ix_tup (pv 0) pe_int (fun _ _ => rfl)))
      (pss_cons (ps_if (pt_cmpR op_eq (pv 2) pe_str (nomark _)) (pss_one (ps_ret (pe_lst (pa_cons (pe_joined (.cons pe_str (.cons (pe_fmt (pe_ix ix_tup (pv 0) pe_int (fun _ _ => rfl))) .nil))) (pa_cons pe_str (pa_cons (pe_callTy call_str_int (by rfl) ms (by decide +kernel) (pa_cons (pe_ix ix_tup (pv 0) pe_int (fun _ _ => rfl)) pa_nil)) pa_nil)))))) pss_nil)
      (pss_cons (ps_if (pt_cmpR op_in_seq (pv 2) (pe_tup (pa_cons pe_str (pa_cons pe_str pa_nil))) rfl) (pss_one (ps_ret (pe_lst (pa_cons (pe_joined (.cons pe_str (.cons (pe_fmt (pe_ix ix_tup (pv 0) pe_int (fun _ _ => rfl))) .nil))) (pa_cons pe_str (pa_cons (pe_joined (.cons pe_str (.cons (pe_fmt (pe_ix ix_tup (pv 0) pe_int (fun _ _ => rfl))) .nil))) (pa_cons (pe_ifExp (pt_cmpR op_eq (pv 2) pe_str (nomark _)) pe_str pe_str) (pa_cons (pe_joined (.cons pe_str (.cons (pe_fmt (pe_ix ix_tup (pv 0) pe_int (fun _ _ => rfl))) .nil))) pa_nil)))))))) pss_nil)
      (pss_cons (ps_if (pt_cmpR op_eq (pv 2) pe_str (nomark _)) (pss_one (ps_ret (pe_lst (pa_cons (pe_joined (.cons pe_str (.cons (pe_fmt (pe_ix ix_tup (pv 0) pe_int (fun _ _ => rfl))) .nil))) (pa_cons pe_str (pa_cons (pe_joined (.cons pe_str (.cons (pe_fmt (pe_ix ix_tup (pv 0) pe_int (fun _ _ => rfl))) .nil))) pa_nil)))))) pss_nil)
      (pss_cons (ps_if (pt_cmpR op_in_seq (pv 2) (pe_tup (pa_cons pe_str (pa_cons pe_str pa_nil))) rfl) (pss_one (ps_ret (pe_op op_cat (pe_op op_cat (pe_lst (pa_cons (pe_joined (.cons pe_str (.cons (pe_fmt (pe_ix ix_tup (pv 0) pe_int (fun _ _ => rfl))) .nil))) (pa_cons pe_str (pa_cons (pe_ix ix_tup (pv 0) pe_int (fun _ _ => rfl)) pa_nil)))) (pe_call GR (hr.mono (by decide)) (by rfl) mR kR bR .nil pass0 (pa_cons (pe_ix ix_tup (pv 0) pe_int (fun _ _ => rfl)) pa_nil))) (pe_call GT (hr.mono (by decide)) (by rfl) mT kT bT .nil pass0 (pa_cons pe_str (pa_cons (pv 1) pa_nil)))))) pss_nil)
      (pss_cons (ps_if (pt_cmpR op_eq (pv 2) pe_str (nomark _)) (pss_one (ps_ret (pe_op op_cat (pe_lst (pa_cons pe_str (pa_cons (pe_joined (.cons pe_str (.cons (pe_fmt (pe_ix ix_tup (pv 0) pe_int (fun _ _ => rfl))) .nil))) pa_nil))) (pe_call GT (hr.mono (by decide)) (by rfl) mT kT bT .nil pass0 (pa_cons pe_str (pa_cons (pv 1) pa_nil)))))) pss_nil)
      (pss_one (ps_ret (pe_lst (pa_cons pe_str (pa_cons (pe_joined (.cons pe_str (.cons (pe_fmt (pe_ix ix_tup (pv 0) pe_int (fun _ _ => rfl))) .nil))) pa_nil)))))))))), ?_⟩
    cases row with
    | num r n g =>
      obtain ⟨s1, s2, s3⟩ := sm
      obtain ⟨c, us, rfl, hc, rc⟩ := Rp.tupI rd
      obtain ⟨u0, _, rfl, q0, rc⟩ := RpAll.consI rc
      obtain ⟨u1, _, rfl, q1, rc⟩ := RpAll.consI rc
      obtain ⟨u2, _, rfl, q2, rc⟩ := RpAll.consI rc
      obtain ⟨u3, _, rfl, q3, rc⟩ := RpAll.consI rc
      cases RpAll.nilI rc
      cases Rp.strI q0
      cases Rp.intI q1
      cases Rp.intI q2
      cases Rp.intI q3
      refine ⟨_, rfl, c, _, _, _, rfl, rfl, hc, atI_nat (j := 0) rfl, ?_⟩
      dsimp only
      refine ⟨_, rfl, rfl, true, by rfl, iteT ?_⟩
      refine ⟨_, rfl, sz_r0, _, rfl, c, _, _, _, rfl, rfl, hc, atI_nat (j := 1) rfl, .inr ⟨r, rfl, logI s1, _, rfl, sz_r s1, _, rfl, c, _, _, _, rfl, rfl, hc, atI_nat (j := 2) rfl, n, rfl, logI s2, by show 3 ≤ sizeLine; decide, fun p hp => k _ p (Ex.new hp) ?_⟩⟩
      rw [upd_same, f_r]; rfl
    | less a b g h =>
      obtain ⟨s1, s2, s3, s4⟩ := sm
      obtain ⟨c, us, rfl, hc, rc⟩ := Rp.tupI rd
      obtain ⟨u0, _, rfl, q0, rc⟩ := RpAll.consI rc
      obtain ⟨u1, _, rfl, q1, rc⟩ := RpAll.consI rc
      obtain ⟨u2, _, rfl, q2, rc⟩ := RpAll.consI rc
      obtain ⟨u3, _, rfl, q3, rc⟩ := RpAll.consI rc
      obtain ⟨u4, _, rfl, q4, rc⟩ := RpAll.consI rc
      cases RpAll.nilI rc
      cases Rp.strI q0
      cases Rp.intI q1
      cases Rp.intI q2
      cases Rp.intI q3
      cases Rp.intI q4
      refine ⟨_, rfl, c, _, _, _, rfl, rfl, hc, atI_nat (j := 0) rfl, ?_⟩
      dsimp only
      refine ⟨_, rfl, rfl, false, by rfl, iteF ?_⟩
      refine ⟨_, rfl, by show 2 ≤ sizeLine; decide, fun t0 ht0 => ⟨t0, _, rfl, .inr (.inl (.inl upd_same)), rfl, by decide, false, by rfl, iteF ?_⟩⟩
      have x0 : Ex T _ (upd _ t0 (.tup [.str (Str.ofString "add"), .str (Str.ofString "sub")])) := Ex.new ht0
      have hc := x0.sqT tb hc
      have tb := x0.tb tb
      have xx := x0
      generalize upd _ t0 (.tup [.str (Str.ofString "add"), .str (Str.ofString "sub")]) = G0 at x0 hc tb xx ⊢
      refine ⟨_, rfl, rfl, true, by rfl, iteT ?_⟩
      refine ⟨_, rfl, sz_r0, _, rfl, c, _, _, _, rfl, rfl, hc, atI_nat (j := 1) rfl, .inr ⟨a, rfl, logI s1, _, rfl, sz_r s1, ?_⟩⟩
      refine ⟨_, rfl, sz_r0, _, rfl, c, _, _, _, rfl, rfl, hc, atI_nat (j := 2) rfl, .inr ⟨b, rfl, logI s2, _, rfl, sz_r s2, ?_⟩⟩
      refine ⟨by show 3 ≤ sizeLine; decide, fun p hp => k _ p (xx.trans (Ex.new hp)) ?_⟩
      rw [upd_same, f_r, f_r]; rfl
    | make r nm xs g =>
      obtain ⟨s1, s2, s3⟩ := sm
      obtain ⟨c, us, rfl, hc, rc⟩ := Rp.tupI rd
      obtain ⟨u0, _, rfl, q0, rc⟩ := RpAll.consI rc
      obtain ⟨u1, _, rfl, q1, rc⟩ := RpAll.consI rc
      obtain ⟨u2, _, rfl, q2, rc⟩ := RpAll.consI rc
      obtain ⟨u3, _, rfl, q3, rc⟩ := RpAll.consI rc
      obtain ⟨u4, _, rfl, q4, rc⟩ := RpAll.consI rc
      cases RpAll.nilI rc
      cases Rp.strI q0
      cases Rp.intI q1
      cases Rp.strI q2
      obtain ⟨cr, xr, rfl, hcr, rr⟩ := Rp.tupI q3
      cases RpAll.ints rr
      cases Rp.intI q4
      refine ⟨_, rfl, c, _, _, _, rfl, rfl, hc, atI_nat (j := 0) rfl, ?_⟩
      dsimp only
      refine ⟨_, rfl, rfl, false, by rfl, iteF ?_⟩
      refine ⟨_, rfl, by show 2 ≤ sizeLine; decide, fun t0 ht0 => ⟨t0, _, rfl, .inr (.inl (.inl upd_same)), rfl, by decide, false, by rfl, iteF ?_⟩⟩
      have x0 : Ex T _ (upd _ t0 (.tup [.str (Str.ofString "add"), .str (Str.ofString "sub")])) := Ex.new ht0
      have hc := x0.sqT tb hc
      have hcr := x0.sqT tb hcr
      have tb := x0.tb tb
      have xx := x0
      generalize upd _ t0 (.tup [.str (Str.ofString "add"), .str (Str.ofString "sub")]) = G0 at x0 hc tb xx hcr ⊢
      refine ⟨_, rfl, rfl, false, by rfl, iteF ?_⟩
      refine ⟨_, rfl, by show 2 ≤ sizeLine; decide, fun t1 ht1 => ⟨t1, _, rfl, .inr (.inl (.inl upd_same)), rfl, by decide, true, by rfl, iteT ?_⟩⟩
      have x1 : Ex T _ (upd _ t1 (.tup [.str (Str.ofString "make"), .str (Str.ofString "call")])) := Ex.new ht1
      have hc := x1.sqT tb hc
      have hcr := x1.sqT tb hcr
      have tb := x1.tb tb
      have xx := xx.trans x1
      generalize upd _ t1 (.tup [.str (Str.ofString "make"), .str (Str.ofString "call")]) = G1 at x1 hc tb xx hcr ⊢
      have hw : wt ([rW r, Str.ofString "=", nm] ++ regsW xs ++ tokW (Str.ofString "in") tok) ≤ 8000000 := hw
      have hw2 := hw
      rw [wt_app, wt_app] at hw2
      refine ⟨_, rfl, sz_r0, _, rfl, c, _, _, _, rfl, rfl, hc, atI_nat (j := 1) rfl, .inr ⟨r, rfl, logI s1, _, rfl, sz_r s1, _, rfl, c, _, _, _, rfl, rfl, hc, atI_nat (j := 2) rfl, by show 3 ≤ sizeLine; decide, fun o1 ho1 => ?_⟩⟩
      have y1 : Ex T _ (upd _ o1 (.lst ([rW r, Str.ofString "=", nm].map V.str))) := Ex.new ho1
      have e1 : (upd G1 o1 (.lst ([rW r, Str.ofString "=", nm].map V.str))) o1 = some (.lst ([rW r, Str.ofString "=", nm].map V.str)) := upd_same
      have hc := y1.sqT tb hc
      have hcr := y1.sqT tb hcr
      have tb := y1.tb tb
      have xx := xx.trans y1
      rw [f_r]
      refine ⟨_, rfl, c, _, _, _, rfl, rfl, hc, atI_nat (j := 3) rfl, cr, xs, rfl, hcr, s2, tb, by omega, fun G5 c5 y5 e5 => ?_⟩
      have e1 := y5.keep o1 _ e1 (tb.seqN e1 fun _ z => by cases z)
      refine ⟨o1, c5, _, _, rfl, rfl, e1, e5, by have := len_sz (ws := [rW r, Str.ofString "=", nm] ++ regsW xs) (by rw [wt_app]; omega); rw [← map_app, List.length_append] at this; exact this, fun o6 ho6 => ?_⟩
      rw [map_app]
      have y6 : Ex T G5 (upd G5 o6 (.lst (([rW r, Str.ofString "=", nm] ++ regsW xs).map V.str))) := Ex.new ho6
      have e6 : (upd G5 o6 (.lst (([rW r, Str.ofString "=", nm] ++ regsW xs).map V.str))) o6 = _ := upd_same
      refine ⟨_, rfl, Str.ofString "in", tok, rfl, smt, fun G7 c7 y7 e7 => ?_⟩
      have e6 := y7.keep o6 _ e6 (((y5.trans y6).tb tb).seqN e6 fun _ z => by cases z)
      refine ⟨o6, c7, _, _, rfl, rfl, e6, e7, by have := len_sz (ws := ([rW r, Str.ofString "=", nm] ++ regsW xs) ++ tokW (Str.ofString "in") tok) (by omega); rw [← map_app, List.length_append] at this; exact this, fun p hp => k _ p (xx.trans (y5.trans (y6.trans (y7.trans (Ex.new hp))))) ?_⟩
      rw [upd_same, map_app]; rfl
    | call r nm xs g =>
      obtain ⟨s1, s2, s3⟩ := sm
      obtain ⟨c, us, rfl, hc, rc⟩ := Rp.tupI rd
      obtain ⟨u0, _, rfl, q0, rc⟩ := RpAll.consI rc
      obtain ⟨u1, _, rfl, q1, rc⟩ := RpAll.consI rc
      obtain ⟨u2, _, rfl, q2, rc⟩ := RpAll.consI rc
      obtain ⟨u3, _, rfl, q3, rc⟩ := RpAll.consI rc
      obtain ⟨u4, _, rfl, q4, rc⟩ := RpAll.consI rc
      cases RpAll.nilI rc
      cases Rp.strI q0
      cases Rp.intI q1
      cases Rp.strI q2
      obtain ⟨cr, xr, rfl, hcr, rr⟩ := Rp.tupI q3
      cases RpAll.ints rr
      cases Rp.intI q4
      refine ⟨_, rfl, c, _, _, _, rfl, rfl, hc, atI_nat (j := 0) rfl, ?_⟩
      dsimp only
      refine ⟨_, rfl, rfl, false, by rfl, iteF ?_⟩
      refine ⟨_, rfl, by show 2 ≤ sizeLine; decide, fun t0 ht0 => ⟨t0, _, rfl, .inr (.inl (.inl upd_same)), rfl, by decide, false, by rfl, iteF ?_⟩⟩
      have x0 : Ex T _ (upd _ t0 (.tup [.str (Str.ofString "add"), .str (Str.ofString "sub")])) := Ex.new ht0
      have hc := x0.sqT tb hc
      have hcr := x0.sqT tb hcr
      have tb := x0.tb tb
      have xx := x0
      generalize upd _ t0 (.tup [.str (Str.ofString "add"), .str (Str.ofString "sub")]) = G0 at x0 hc tb xx hcr ⊢
      refine ⟨_, rfl, rfl, false, by rfl, iteF ?_⟩
      refine ⟨_, rfl, by show 2 ≤ sizeLine; decide, fun t1 ht1 => ⟨t1, _, rfl, .inr (.inl (.inl upd_same)), rfl, by decide, true, by rfl, iteT ?_⟩⟩
      have x1 : Ex T _ (upd _ t1 (.tup [.str (Str.ofString "make"), .str (Str.ofString "call")])) := Ex.new ht1
      have hc := x1.sqT tb hc
      have hcr := x1.sqT tb hcr
      have tb := x1.tb tb
      have xx := xx.trans x1
      generalize upd _ t1 (.tup [.str (Str.ofString "make"), .str (Str.ofString "call")]) = G1 at x1 hc tb xx hcr ⊢
      have hw : wt ([rW r, Str.ofString "=", nm] ++ regsW xs ++ tokW (Str.ofString "in") tok) ≤ 8000000 := hw
      have hw2 := hw
      rw [wt_app, wt_app] at hw2
      refine ⟨_, rfl, sz_r0, _, rfl, c, _, _, _, rfl, rfl, hc, atI_nat (j := 1) rfl, .inr ⟨r, rfl, logI s1, _, rfl, sz_r s1, _, rfl, c, _, _, _, rfl, rfl, hc, atI_nat (j := 2) rfl, by show 3 ≤ sizeLine; decide, fun o1 ho1 => ?_⟩⟩
      have y1 : Ex T _ (upd _ o1 (.lst ([rW r, Str.ofString "=", nm].map V.str))) := Ex.new ho1
      have e1 : (upd G1 o1 (.lst ([rW r, Str.ofString "=", nm].map V.str))) o1 = some (.lst ([rW r, Str.ofString "=", nm].map V.str)) := upd_same
      have hc := y1.sqT tb hc
      have hcr := y1.sqT tb hcr
      have tb := y1.tb tb
      have xx := xx.trans y1
      rw [f_r]
      refine ⟨_, rfl, c, _, _, _, rfl, rfl, hc, atI_nat (j := 3) rfl, cr, xs, rfl, hcr, s2, tb, by omega, fun G5 c5 y5 e5 => ?_⟩
      have e1 := y5.keep o1 _ e1 (tb.seqN e1 fun _ z => by cases z)
      refine ⟨o1, c5, _, _, rfl, rfl, e1, e5, by have := len_sz (ws := [rW r, Str.ofString "=", nm] ++ regsW xs) (by rw [wt_app]; omega); rw [← map_app, List.length_append] at this; exact this, fun o6 ho6 => ?_⟩
      rw [map_app]
      have y6 : Ex T G5 (upd G5 o6 (.lst (([rW r, Str.ofString "=", nm] ++ regsW xs).map V.str))) := Ex.new ho6
      have e6 : (upd G5 o6 (.lst (([rW r, Str.ofString "=", nm] ++ regsW xs).map V.str))) o6 = _ := upd_same
      refine ⟨_, rfl, Str.ofString "in", tok, rfl, smt, fun G7 c7 y7 e7 => ?_⟩
      have e6 := y7.keep o6 _ e6 (((y5.trans y6).tb tb).seqN e6 fun _ z => by cases z)
      refine ⟨o6, c7, _, _, rfl, rfl, e6, e7, by have := len_sz (ws := ([rW r, Str.ofString "=", nm] ++ regsW xs) ++ tokW (Str.ofString "in") tok) (by omega); rw [← map_app, List.length_append] at this; exact this, fun p hp => k _ p (xx.trans (y5.trans (y6.trans (y7.trans (Ex.new hp))))) ?_⟩
      rw [upd_same, map_app]; rfl
    | mat a brs =>
      obtain ⟨s1, s2⟩ := sm
      obtain ⟨c, us, rfl, hc, rc⟩ := Rp.tupI rd
      obtain ⟨u0, _, rfl, q0, rc⟩ := RpAll.consI rc
      obtain ⟨u1, _, rfl, q1, rc⟩ := RpAll.consI rc
      obtain ⟨u2, _, rfl, q2, rc⟩ := RpAll.consI rc
      cases RpAll.nilI rc
      cases Rp.strI q0
      cases Rp.intI q1
      obtain ⟨cb, xb, rfl, hcb, rb⟩ := Rp.tupI q2
      refine ⟨_, rfl, c, _, _, _, rfl, rfl, hc, atI_nat (j := 0) rfl, ?_⟩
      dsimp only
      refine ⟨_, rfl, rfl, false, by rfl, iteF ?_⟩
      refine ⟨_, rfl, by show 2 ≤ sizeLine; decide, fun t0 ht0 => ⟨t0, _, rfl, .inr (.inl (.inl upd_same)), rfl, by decide, false, by rfl, iteF ?_⟩⟩
      have x0 : Ex T _ (upd _ t0 (.tup [.str (Str.ofString "add"), .str (Str.ofString "sub")])) := Ex.new ht0
      have hc := x0.sqT tb hc
      have tb := x0.tb tb
      have xx := x0
      generalize upd _ t0 (.tup [.str (Str.ofString "add"), .str (Str.ofString "sub")]) = G0 at x0 hc tb xx ⊢
      refine ⟨_, rfl, rfl, false, by rfl, iteF ?_⟩
      refine ⟨_, rfl, by show 2 ≤ sizeLine; decide, fun t1 ht1 => ⟨t1, _, rfl, .inr (.inl (.inl upd_same)), rfl, by decide, false, by rfl, iteF ?_⟩⟩
      have x1 : Ex T _ (upd _ t1 (.tup [.str (Str.ofString "make"), .str (Str.ofString "call")])) := Ex.new ht1
      have hc := x1.sqT tb hc
      have tb := x1.tb tb
      have xx := xx.trans x1
      generalize upd _ t1 (.tup [.str (Str.ofString "make"), .str (Str.ofString "call")]) = G1 at x1 hc tb xx ⊢
      refine ⟨_, rfl, rfl, true, by rfl, iteT ?_⟩
      have hw : wt ([Str.ofString "case", rW a] ++ tokW (Str.ofString "into") tok) ≤ 8000000 := hw
      refine ⟨_, rfl, sz_r0, _, rfl, c, _, _, _, rfl, rfl, hc, atI_nat (j := 1) rfl, .inr ⟨a, rfl, logI s1, _, rfl, sz_r s1, by show 2 ≤ sizeLine; decide, fun o1 ho1 => ?_⟩⟩
      rw [f_r]
      have y1 : Ex T _ (upd _ o1 (.lst ([Str.ofString "case", rW a].map V.str))) := Ex.new ho1
      have e1 : (upd G1 o1 (.lst ([Str.ofString "case", rW a].map V.str))) o1 = some (.lst ([Str.ofString "case", rW a].map V.str)) := upd_same
      refine ⟨_, rfl, Str.ofString "into", tok, rfl, smt, fun G7 c7 y7 e7 => ?_⟩
      have e1 := y7.keep o1 _ e1 ((y1.tb tb).seqN e1 fun _ z => by cases z)
      refine ⟨o1, c7, _, _, rfl, rfl, e1, e7, by have := len_sz (ws := [Str.ofString "case", rW a] ++ tokW (Str.ofString "into") tok) (by omega); rw [← map_app, List.length_append] at this; exact this, fun p hp => k _ p (xx.trans (y1.trans (y7.trans (Ex.new hp)))) ?_⟩
      rw [upd_same, map_app]; rfl
    | give r =>
      have s1 : SmI r := sm
      obtain ⟨c, us, rfl, hc, rc⟩ := Rp.tupI rd
      obtain ⟨u0, _, rfl, q0, rc⟩ := RpAll.consI rc
      obtain ⟨u1, _, rfl, q1, rc⟩ := RpAll.consI rc
      cases RpAll.nilI rc
      cases Rp.strI q0
      cases Rp.intI q1
      refine ⟨_, rfl, c, _, _, _, rfl, rfl, hc, atI_nat (j := 0) rfl, ?_⟩
      dsimp only
      refine ⟨_, rfl, rfl, false, by rfl, iteF ?_⟩
      refine ⟨_, rfl, by show 2 ≤ sizeLine; decide, fun t0 ht0 => ⟨t0, _, rfl, .inr (.inl (.inl upd_same)), rfl, by decide, false, by rfl, iteF ?_⟩⟩
      have x0 : Ex T _ (upd _ t0 (.tup [.str (Str.ofString "add"), .str (Str.ofString "sub")])) := Ex.new ht0
      have hc := x0.sqT tb hc
      have tb := x0.tb tb
      have xx := x0
      generalize upd _ t0 (.tup [.str (Str.ofString "add"), .str (Str.ofString "sub")]) = G0 at x0 hc tb xx ⊢
      refine ⟨_, rfl, rfl, false, by rfl, iteF ?_⟩
      refine ⟨_, rfl, by show 2 ≤ sizeLine; decide, fun t1 ht1 => ⟨t1, _, rfl, .inr (.inl (.inl upd_same)), rfl, by decide, false, by rfl, iteF ?_⟩⟩
      have x1 : Ex T _ (upd _ t1 (.tup [.str (Str.ofString "make"), .str (Str.ofString "call")])) := Ex.new ht1
      have hc := x1.sqT tb hc
      have tb := x1.tb tb
      have xx := xx.trans x1
      generalize upd _ t1 (.tup [.str (Str.ofString "make"), .str (Str.ofString "call")]) = G1 at x1 hc tb xx ⊢
      refine ⟨_, rfl, rfl, false, by rfl, iteF ?_⟩
      refine ⟨_, rfl, sz_r0, _, rfl, c, _, _, _, rfl, rfl, hc, atI_nat (j := 1) rfl, .inr ⟨r, rfl, logI s1, _, rfl, sz_r s1, by show 2 ≤ sizeLine; decide, fun p hp => k _ p (xx.trans (Ex.new hp)) ?_⟩⟩
      rw [upd_same, f_r]; rfl
    | ari sub r a b g =>
      cases sub with
      | true =>
        obtain ⟨s1, s2, s3, s4⟩ := sm
        obtain ⟨c, us, rfl, hc, rc⟩ := Rp.tupI rd
        obtain ⟨u0, _, rfl, q0, rc⟩ := RpAll.consI rc
        obtain ⟨u1, _, rfl, q1, rc⟩ := RpAll.consI rc
        obtain ⟨u2, _, rfl, q2, rc⟩ := RpAll.consI rc
        obtain ⟨u3, _, rfl, q3, rc⟩ := RpAll.consI rc
        obtain ⟨u4, _, rfl, q4, rc⟩ := RpAll.consI rc
        cases RpAll.nilI rc
        cases Rp.strI q0
        cases Rp.intI q1
        cases Rp.intI q2
        cases Rp.intI q3
        cases Rp.intI q4
        refine ⟨_, rfl, c, _, _, _, rfl, rfl, hc, atI_nat (j := 0) rfl, ?_⟩
        dsimp only
        refine ⟨_, rfl, rfl, false, by rfl, iteF ?_⟩
        refine ⟨_, rfl, by show 2 ≤ sizeLine; decide, fun t0 ht0 => ⟨t0, _, rfl, .inr (.inl (.inl upd_same)), rfl, by decide, true, by rfl, iteT ?_⟩⟩
        have x0 : Ex T _ (upd _ t0 (.tup [.str (Str.ofString "add"), .str (Str.ofString "sub")])) := Ex.new ht0
        have hc := x0.sqT tb hc
        have tb := x0.tb tb
        have xx := x0
        generalize upd _ t0 (.tup [.str (Str.ofString "add"), .str (Str.ofString "sub")]) = G0 at x0 hc tb xx ⊢
        refine ⟨_, rfl, sz_r0, _, rfl, c, _, _, _, rfl, rfl, hc, atI_nat (j := 1) rfl, .inr ⟨r, rfl, logI s1, _, rfl, sz_r s1, ?_⟩⟩
        refine ⟨_, rfl, sz_r0, _, rfl, c, _, _, _, rfl, rfl, hc, atI_nat (j := 2) rfl, .inr ⟨a, rfl, logI s2, _, rfl, sz_r s2, ?_⟩⟩
        refine ⟨_, rfl, rfl, false, by rfl, iteF ⟨_, rfl, sz_r0, _, rfl, c, _, _, _, rfl, rfl, hc, atI_nat (j := 3) rfl, .inr ⟨b, rfl, logI s3, _, rfl, sz_r s3, ?_⟩⟩⟩
        refine ⟨by show 5 ≤ sizeLine; decide, fun p hp => k _ p (xx.trans (Ex.new hp)) ?_⟩
        rw [upd_same, f_r, f_r, f_r]; rfl
      | false =>
        obtain ⟨s1, s2, s3, s4⟩ := sm
        obtain ⟨c, us, rfl, hc, rc⟩ := Rp.tupI rd
        obtain ⟨u0, _, rfl, q0, rc⟩ := RpAll.consI rc
        obtain ⟨u1, _, rfl, q1, rc⟩ := RpAll.consI rc
        obtain ⟨u2, _, rfl, q2, rc⟩ := RpAll.consI rc
        obtain ⟨u3, _, rfl, q3, rc⟩ := RpAll.consI rc
        obtain ⟨u4, _, rfl, q4, rc⟩ := RpAll.consI rc
        cases RpAll.nilI rc
        cases Rp.strI q0
        cases Rp.intI q1
        cases Rp.intI q2
        cases Rp.intI q3
        cases Rp.intI q4
        refine ⟨_, rfl, c, _, _, _, rfl, rfl, hc, atI_nat (j := 0) rfl, ?_⟩
        dsimp only
        refine ⟨_, rfl, rfl, false, by rfl, iteF ?_⟩
        refine ⟨_, rfl, by show 2 ≤ sizeLine; decide, fun t0 ht0 => ⟨t0, _, rfl, .inr (.inl (.inl upd_same)), rfl, by decide, true, by rfl, iteT ?_⟩⟩
        have x0 : Ex T _ (upd _ t0 (.tup [.str (Str.ofString "add"), .str (Str.ofString "sub")])) := Ex.new ht0
        have hc := x0.sqT tb hc
        have tb := x0.tb tb
        have xx := x0
        generalize upd _ t0 (.tup [.str (Str.ofString "add"), .str (Str.ofString "sub")]) = G0 at x0 hc tb xx ⊢
        refine ⟨_, rfl, sz_r0, _, rfl, c, _, _, _, rfl, rfl, hc, atI_nat (j := 1) rfl, .inr ⟨r, rfl, logI s1, _, rfl, sz_r s1, ?_⟩⟩
        refine ⟨_, rfl, sz_r0, _, rfl, c, _, _, _, rfl, rfl, hc, atI_nat (j := 2) rfl, .inr ⟨a, rfl, logI s2, _, rfl, sz_r s2, ?_⟩⟩
        refine ⟨_, rfl, rfl, true, by rfl, iteT ⟨_, rfl, sz_r0, _, rfl, c, _, _, _, rfl, rfl, hc, atI_nat (j := 3) rfl, .inr ⟨b, rfl, logI s3, _, rfl, sz_r s3, ?_⟩⟩⟩
        refine ⟨by show 5 ≤ sizeLine; decide, fun p hp => k _ p (xx.trans (Ex.new hp)) ?_⟩
        rw [upd_same, f_r, f_r, f_r]; rfl
end
end JF
set_option Elab.async false
set_option linter.all false
set_option maxRecDepth 100000
set_option maxHeartbeats 1000000
/-! the words of a row's nexts -/
namespace JF
open PySem PySem.Spec PyProof PyProof.Rows L2 GxR GA
abbrev sEndsW : Stmt := topS 65
/-- (a, b), c as a target of a comprehension -/
theorem g_nest {K : PySem.W.Frag} {b c : Addr} {x y z : V} {σ : L2.St} {vs : List Nat} {i j k : Nat} {H : Hp} {C : L2.St → Hp → Prop} (hb : SqT K H b [.ref c, z]) (hc : SqT K H c [x, y]) (hi : i ∈ vs) (hj : j ∈ vs) (hk : k ∈ vs) (hij : i ≠ j) (hik : i ≠ k) (hjk : j ≠ k)
    (li : i < σ.length) (lj : j < σ.length) (lk : k < σ.length)
    (h : ∀ σ2 : L2.St, σ2.length = σ.length → (∀ n, n ∉ vs → σ2[n]? = σ[n]?) → σ2[i]? = some (some x) → σ2[j]? = some (some y) → σ2[k]? = some (some z) → C σ2 H) :
    gTup K 2 (gCons (gTup K 2 (gCons (gName i) (gCons (gName j) gNil))) (gCons (gName k) gNil)) (.ref b) (wipe σ vs) H fun σ2 H2 => wipe σ2 vs = wipe σ vs ∧ C σ2 H2 := by
  refine ⟨b, _, rfl, hb, rfl, .ref c, _, rfl, c, _, rfl, hc, rfl, x, _, rfl, y, _, rfl, rfl, z, _, rfl, rfl, ?_, h _ ?_ (fun n hn => ?_) ?_ ?_ ?_⟩
  · rw [wipe_in _ _ _ _ hk, wipe_in _ _ _ _ hj, wipe_in _ _ _ _ hi, L3.wipe_wipe]
  · rw [List.length_set, List.length_set, List.length_set, wipe_length]
  · rw [List.getElem?_set_ne (fun e : k = n => hn (e ▸ hk)), List.getElem?_set_ne (fun e : j = n => hn (e ▸ hj)), List.getElem?_set_ne (fun e : i = n => hn (e ▸ hi)), wipe_out hn]
  · rw [List.getElem?_set_ne (Ne.symm hik), List.getElem?_set_ne (Ne.symm hij), List.getElem?_set_self (by rw [wipe_length]; exact li)]
  · rw [List.getElem?_set_ne (Ne.symm hjk), List.getElem?_set_self (by rw [List.length_set, wipe_length]; exact lj)]
  · rw [List.getElem?_set_self (by rw [List.length_set, List.length_set, wipe_length]; exact lk)]
theorem pg_nest {X : Cx} {K : PySem.W.Frag} {i j k n m : Nat} {x y z : Str} {p q r t pos : Pos} (hK : X.K = K) (hc : X.calm = true) (hN : X.N.Nodup) (hi : X.N[i]? = some x) (hj : X.N[j]? = some y) (hk : X.N[k]? = some z)
    (hx : X.env.scope.names.lookup x = some .local) (hy : X.env.scope.names.lookup y = some .local) (hz : X.env.scope.names.lookup z = some .local) :
    PG X (.Tuple [.Tuple [.Name x p, .Name y q] n t, .Name z r] m pos) (gTup K 2 (gCons (gTup K 2 (gCons (gName i) (gCons (gName j) gNil))) (gCons (gName k) gNil))) := by
  rw [← hK]
  exact pg_tup hc (pgs_cons (pg_tup hc (pgs_cons (pg_name hN hi (.inl hx) (.inr hx)) (pgs_cons (pg_name hN hj (.inl hy) (.inr hy)) pgs_nil))) (pgs_cons (pg_name hN hk (.inl hz) (.inr hz)) pgs_nil))
theorem wt_endW {ds : List DeedD} {g : Int} (hg : SmI g) : wt (endW ds g) ≤ wt (deedsW ds) + 18 := by
  unfold endW
  rw [wt_app, wt_app, wt_cons, wt_nil, wt_cons, wt_nil]
  have h1 : ("->" : Str).length = 2 := by decide +kernel
  have h2 := lenI hg
  show (("->" : Str).length + 1 + 0) + _ + ((iW g).length + 1 + 0) ≤ _
  omega
theorem zipEnds_get {gs : List Int} {es : List (List DeedD)} {j : Nat} {g : Int} {e : List DeedD} (h1 : gs[j]? = some g) (h2 : es[j]? = some e) : (zipEnds gs es)[j]? = some (endW e g) := by
  unfold zipEnds
  rw [List.getElem?_map, (List.getElem?_zip_eq_some (z := (g, e))).mpr ⟨h1, h2⟩]; rfl
theorem zipEnds_len (gs : List Int) (es : List (List DeedD)) : (zipEnds gs es).length = min gs.length es.length := by
  unfold zipEnds; rw [List.length_map, List.length_zip]
theorem nexts_few {row : RowD} (h : row.Few) : row.nexts.length ≤ 6 := by
  cases row with
  | mat a brs => show (brs.map (·.2)).length ≤ 6; rw [List.length_map]; exact h
  | less a b g h => show 2 ≤ 6; decide
  | give r => show 0 ≤ 6; decide
  | _ => show 1 ≤ 6; decide
theorem nexts_sm {row : RowD} (h : row.Sm) : SmA row.nexts := by
  intro z hz
  cases row with
  | num r n g => rw [List.mem_singleton.mp hz]; exact h.2.2
  | ari s r a b g => rw [List.mem_singleton.mp hz]; exact h.2.2.2
  | less a b g i =>
    rcases List.mem_cons.mp hz with rfl | hz
    · exact h.2.2.1
    · rw [List.mem_singleton.mp hz]; exact h.2.2.2
  | make r nm xs g => rw [List.mem_singleton.mp hz]; exact h.2.2
  | call r nm xs g => rw [List.mem_singleton.mp hz]; exact h.2.2
  | mat a brs =>
    obtain ⟨b, hb, rfl⟩ := List.mem_map.mp hz
    exact (h.2 b hb).2
  | give r => cases hz
def RowD.word : RowD → Str
  | .num _ _ _ => "number"
  | .ari sub _ _ _ _ => ariW sub
  | .less _ _ _ _ => "less"
  | .make _ _ _ _ => "make"
  | .call _ _ _ _ => "call"
  | .mat _ _ => "match"
  | .give _ => "give"
theorem row_head {K : PySem.W.Frag} {H : Hp} {v : V} {row : RowD} (rd : Rp K H v (dRow row)) : ∃ c us, v = .ref c ∧ SqT K H c (.str row.word :: us) := by
  cases row <;>
    (obtain ⟨c, us, rfl, hc, rc⟩ := Rp.tupI rd
     obtain ⟨u, us', rfl, q, _⟩ := RpAll.consI rc
     cases Rp.strI q
     exact ⟨c, us', rfl, hc⟩)
theorem not_match {sub : Bool} : decide (V.str (ariW sub) = V.str (Str.ofString "match")) = false := by cases sub <;> rfl
section
variable {P : Program} {w : World} {K : PySem.W.Frag} {mg : Str → Option Value} {base : Heap} {T : List Addr}
def spEndsW (K : PySem.W.Frag) (T : List Addr) : Sp := fun vs H Q _ => ∃ (v v2 : V) (row : RowD) (es : List (List DeedD)), vs = [v, v2] ∧ Rp K H v (dRow row) ∧ Rp K H v2 (.tuple (es.map deedsD)) ∧ row.Sm ∧ row.Few ∧ (∀ e ∈ es, (∀ d ∈ e, d.Sm) ∧ wt (deedsW e) ≤ 3000000) ∧
  (∀ a brs, row = .mat a brs → ∀ b ∈ brs, wt (regsW b.1) ≤ 1000000) ∧ TbOk T H ∧ ∀ H' c xs, Ex T H H' → H' c = some (.lst xs) → Paired (LsAt H') xs (endsW row es) → Q (.ref c) H'
theorem scEndsW : FnScope ["row", "edges", "ends", "goto", "deeds", "setting", "_", "end"] ["row", "edges"] (defScope sEndsW) := ⟨rfl, rfl, rfl, by decide +kernel, rfl, by decide +kernel, by decide +kernel⟩
theorem ok_endsw {f aN aD aR : Addr} {fd dN dD dR : FuncData} (F : Fun K "ends_words" "ends_words" sEndsW f fd) (ms : mg "str" = none) (mz : mg "zip" = none)
    (GN : FnOk P w K mg base CX0 1 aN dN ["row"] (spNexts K T)) (mN : mg "nexts" = some (.ref aN)) (kN : PySem.W.keepIn K (.ref aN) = true) (bN : Binds K dN ["row"] [])
    (GD : FnOk P w K mg base CX0 1 aD dD ["deeds"] (spDeedsW K T)) (mD : mg "deeds_words" = some (.ref aD)) (kD : PySem.W.keepIn K (.ref aD) = true) (bD : Binds K dD ["deeds"] [])
    (GR : FnOk P w K mg base CX0 3 aR dR ["setting"] (spRegsW K T)) (mR : mg "registers_words" = some (.ref aR)) (kR : PySem.W.keepIn K (.ref aR) = true) (bR : Binds K dR ["setting"] []) :
    FnOk P w K mg base CX0 4 f fd ["row", "edges"] (spEndsW K T) := by
  refine F.ok scEndsW (fun vs H Q E h => ?_) (fun cdv A outer s H vs Q E hr h => ?_)
  · obtain ⟨v, v2, row, es, rfl, _⟩ := h
    rfl
  · obtain ⟨v, v2, row, es, rfl, rd, re, sm, few, he, hm, tb, k⟩ := h
    refine ⟨_, pss_cons (ps_setLc (i := 2) (own := [("goto", 3), ("deeds", 4)]) (by rfl) scEndsW.nd rfl rfl (sw_true rfl rfl rfl (by decide +kernel)) (ZM.pi_zipM false true (by rfl) mz (pa_cons (pe_call GN (hr.mono (by decide)) (by rfl) mN kN bN .nil pass0 (pa_cons (pv 0) pa_nil)) (pa_cons (pv 1) pa_nil)))
        (blkOk_by (N := ["row", "edges", "ends", "goto", "deeds", "setting", "_", "end"]) (sc := defScope sEndsW) (by decide +kernel)) (fun _ _ _ _ _ => pg_two (K := K) (i := 3) (j := 4) rfl rfl scEndsW.nd rfl rfl rfl rfl) (fun _ _ _ _ _ => pts_nil)
        (fun _ _ _ _ _ => pe_op op_cat (pe_op op_cat (pe_lst (pa_cons pe_str pa_nil)) (pe_call GD (hr.mono (by decide)) (by rfl) mD kD bD .nil pass0 (pa_cons (pv 4) pa_nil))) (pe_lst (pa_cons (pe_callTy call_str_int (by rfl) ms (by decide +kernel) (pa_cons (pv 3) pa_nil)) pa_nil))))
      (pss_cons (ps_if (pt_cmpR op_eq (pe_ix ix_tup (pv 0) pe_int (fun _ _ => rfl)) pe_str (nomark _)) (pss_one (ps_ret
        (pe_lc (own := [("setting", 5), ("_", 6), ("end", 7)]) (tt := tYes) (by rfl) scEndsW.nd (ZM.pi_zipM true false (by rfl) mz (pa_cons (pe_ix ix_tup (pv 0) pe_int (fun _ _ => rfl)) (pa_cons (pv 2) pa_nil)))
          (blkOk_by (N := ["row", "edges", "ends", "goto", "deeds", "setting", "_", "end"]) (sc := defScope sEndsW) (by decide +kernel)) (fun _ _ _ _ _ => pg_nest (K := K) (i := 5) (j := 6) (k := 7) rfl rfl scEndsW.nd rfl rfl rfl rfl rfl rfl) (fun _ _ _ _ _ => pts_nil)
          (fun _ _ _ _ _ => pe_op op_cat (pe_call GR (hr.mono (by decide)) (by rfl) mR kR bR .nil pass0 (pa_cons (pv 5) pa_nil)) (pv 7))))) pss_nil)
      (pss_one (ps_ret (pv 2)))), ?_⟩
    refine ⟨_, rfl, v, row, rfl, rd, few, tb, fun H1 cN x1 eN => ?_⟩
    have rd1 := rd.ex x1 tb
    have re1 := re.ex x1 tb
    have tb1 := x1.tb tb
    obtain ⟨ae, ys, rfl, hae, ra⟩ := Rp.tupI re1
    refine ⟨_, rfl, cN, ae, _, ys, rfl, (show SqL K _ _ _ from .inl (.inl eN)), (show SqT K _ _ _ from hae), fun D hD => ?_⟩
    have fw := nexts_few few
    have hs := nexts_sm sm
    refine lcB_it (n := min (row.nexts.map V.int).length ys.length) (ZM.walkM rfl) (fun j G => ∃ xs, Ll T H1 G D xs ((zipEnds row.nexts es).take j)) ⟨[], Ll.new tb1 hD⟩
      (fun j G _ ⟨_, L⟩ => ⟨.inl (.inl (L.x.keep cN _ eN (tb1.seqN eN fun _ z => by cases z))), L.x.sqT tb1 hae⟩) (fun j v G G2 hj ⟨xs, L⟩ y => ?_) (fun G ⟨xs, L⟩ => ?_)
    · obtain ⟨Tp, u, v2, rfl, hT, rfl, hu, hv⟩ := y
      have hu : (row.nexts.map V.int)[j]? = some u := hu
      rw [List.getElem?_map] at hu
      obtain ⟨g, hg, rfl⟩ := Option.map_eq_some_iff.mp hu
      obtain ⟨ds, hds, rds⟩ := ra.getM hv
      have smg := hs g (List.mem_of_getElem? hg)
      obtain ⟨smd, wd⟩ := he ds (List.mem_of_getElem? hds)
      have hj2 : j < row.nexts.length := (List.getElem?_eq_some_iff.mp hg).1
      have L := L.go (Ex.new (o := .tup [.int g, v2]) hT)
      refine g_two (.inl (.inl upd_same)) (by decide) (by decide) (by decide) (by show 3 < 8; decide) (by show 4 < 8; decide) fun σ2 _ keep g1 g2 => yesT ⟨by show 1 ≤ sizeLine; decide, fun o1 ho1 => ?_⟩
      have L := L.go (Ex.new (o := .lst [.str (Str.ofString "->")]) ho1)
      have e1 : (upd (upd G Tp (.tup [.int g, v2])) o1 (.lst [.str (Str.ofString "->")])) o1 = some (.lst [.str (Str.ofString "->")]) := upd_same
      generalize upd (upd G Tp (.tup [.int g, v2])) o1 (.lst [.str (Str.ofString "->")]) = G3 at L e1 ⊢
      refine ⟨_, g2, v2, ds, rfl, rds.ex L.x tb1, smd, L.tbG, by omega, fun G4 c4 x4 e4 => ?_⟩
      have e1 := x4.keep o1 _ e1 (L.tbG.seqN e1 fun _ z => by cases z)
      have L := L.go x4
      have wE := wt_endW (ds := ds) smg
      unfold endW at wE
      rw [wt_app] at wE
      refine ⟨o1, c4, _, _, rfl, rfl, e1, e4, by have := len_sz (ws := [(Str.ofString "->")] ++ deedsW ds) (by omega); rw [← map_app, List.length_append] at this; exact this, fun p5 hp5 => ?_⟩
      have L := L.go (Ex.new (o := .lst ([V.str (Str.ofString "->")] ++ (deedsW ds).map V.str)) hp5)
      refine ⟨_, g1, g, rfl, logI smg, by show 1 ≤ sizeLine; decide, fun o6 ho6 => ?_⟩
      have e5 : (upd (upd G4 p5 (.lst ([V.str (Str.ofString "->")] ++ (deedsW ds).map V.str))) o6 (.lst [.str (iW g)])) p5 = some (.lst ([V.str (Str.ofString "->")] ++ (deedsW ds).map V.str)) := by rw [upd_ne (ne_of_none upd_same ho6)]; exact upd_same
      have L := L.go (Ex.new (o := .lst [.str (iW g)]) ho6)
      refine ⟨p5, o6, _, _, rfl, rfl, e5, upd_same, by have := len_sz (ws := ([(Str.ofString "->")] ++ deedsW ds) ++ [iW g]) (by rw [wt_app]; omega); rw [← map_app, ← map_app, List.length_append] at this; exact this, fun p7 hp7 => ?_⟩
      have L7 := L.go (Ex.new (o := .lst (([V.str (Str.ofString "->")] ++ (deedsW ds).map V.str) ++ [.str (iW g)])) hp7)
      refine ⟨xs, L7.e, ?_, xs ++ [.ref p7], ?_⟩
      · have := paired_len L7.pr
        rw [List.length_take] at this
        exact Nat.lt_of_le_of_lt (m := 8) (by omega) (by decide)
      · rw [take_at (zipEnds_get hg hds)]
        refine L7.put (ne_of_none L.e hp7).symm ?_
        rw [upd_same]; unfold endW; rw [← map_app, ← map_app]; rfl
    · have hz : (zipEnds row.nexts es).take (min (row.nexts.map V.int).length ys.length) = zipEnds row.nexts es := by
        rw [List.length_map, ra.lenM, ← zipEnds_len, List.take_length]
      rw [hz] at L
      have rd2 := rd1.ex L.x tb1
      have xx := x1.trans L.x
      obtain ⟨c, us, rfl, hc⟩ := row_head rd2
      dsimp only
      cases row with
      | mat a brs =>
        refine ⟨_, rfl, c, _, _, _, rfl, rfl, hc, atI_nat (j := 0) rfl, rfl, true, by rfl, iteT ?_⟩
        obtain ⟨c', us', ec, hc', rc⟩ := Rp.tupI rd2
        cases ec
        obtain ⟨u0, _, rfl, q0, rc⟩ := RpAll.consI rc
        obtain ⟨u1, _, rfl, q1, rc⟩ := RpAll.consI rc
        obtain ⟨u2, _, rfl, q2, rc⟩ := RpAll.consI rc
        cases RpAll.nilI rc
        obtain ⟨cb, xb, rfl, hcb, rb⟩ := Rp.tupI q2
        have few : brs.length ≤ 6 := few
        have hm := hm a brs rfl
        refine ⟨_, rfl, c, _, _, _, rfl, rfl, hc', atI_nat (j := 2) rfl, _, rfl, cb, D, _, xs, rfl, (show SqT K _ _ _ from hcb), (show SqL K _ _ _ from .inl (.inl L.e)), fun D2 hD2 => ?_⟩
        have tbG := L.tbG
        refine lcB_it (n := min xb.length xs.length) (ZM.walkM rfl) (fun j G' => ∃ xs2, Ll T G G' D2 xs2 ((endsW (.mat a brs) es).take j)) ⟨[], Ll.new tbG hD2⟩
          (fun j G' _ ⟨_, L2⟩ => ⟨L2.x.sqT tbG hcb, .inl (.inl (L2.x.keep D _ L.e (notT L.tb L.n)))⟩) (fun j v G' G2 hj ⟨xs2, L2⟩ y => ?_) (fun G' ⟨xs2, L2⟩ => ?_)
        · obtain ⟨Tp, u, v2, rfl, hT, rfl, hu, hv⟩ := y
          obtain ⟨br, hbr, rbr⟩ := rb.getM hu
          obtain ⟨ws, hws, ce, rfl, nce, hce⟩ := paired_get L.pr hv
          obtain ⟨cp, up, rfl, hcp, rp⟩ := Rp.tupI rbr
          obtain ⟨p1, _, rfl, w1, rp⟩ := RpAll.consI rp
          obtain ⟨p2, _, rfl, w2, rp⟩ := RpAll.consI rp
          cases RpAll.nilI rp
          obtain ⟨cr, xr, rfl, hcr, rr⟩ := Rp.tupI w1
          cases RpAll.ints rr
          have mbr := List.mem_of_getElem? hbr
          have L2 := L2.go (Ex.new (o := .tup [.ref cp, .ref ce]) hT)
          refine g_nest (.inl (.inl upd_same)) (L2.x.sqT tbG hcp) (by decide) (by decide) (by decide) (by decide) (by decide) (by decide) (by show 5 < 8; decide) (by show 6 < 8; decide) (by show 7 < 8; decide) fun σ2 _ keep g5 g6 g7 => yesT ?_
          have hce2 := L2.x.keep ce _ hce (tbG.seqN hce fun _ z => by cases z)
          generalize upd G' Tp (.tup [.ref cp, .ref ce]) = G3 at L2 hce2 ⊢
          refine ⟨_, g5, cr, br.1, rfl, L2.x.sqT tbG hcr, (sm.2 br mbr).1, L2.tbG, by have := hm br mbr; omega, fun G4 c4 x4 e4 => ?_⟩
          have hce3 := x4.keep ce _ hce2 (L2.tbG.seqN hce2 fun _ z => by cases z)
          have L2 := L2.go x4
          have wws : wt ws ≤ 4000000 := by
            unfold zipEnds at hws
            rw [List.getElem?_map] at hws
            obtain ⟨ge, hge, rfl⟩ := Option.map_eq_some_iff.mp hws
            obtain ⟨hg1, hg2⟩ := List.getElem?_zip_eq_some.mp hge
            have := wt_endW (ds := ge.2) (hs ge.1 (List.mem_of_getElem? hg1))
            have := (he ge.2 (List.mem_of_getElem? hg2)).2
            omega
          refine ⟨_, g7, c4, ce, _, _, rfl, rfl, e4, hce3, by have := len_sz (ws := regsW br.1 ++ ws) (by rw [wt_app]; have := hm br mbr; omega); rw [← map_app, List.length_append] at this; exact this, fun p hp => ?_⟩
          have L3 := L2.go (Ex.new (o := .lst ((regsW br.1).map V.str ++ ws.map V.str)) hp)
          refine ⟨xs2, L3.e, ?_, xs2 ++ [.ref p], ?_⟩
          · have := paired_len L3.pr
            have lj := (List.getElem?_eq_some_iff.mp hbr).1
            rw [List.length_take] at this
            exact Nat.lt_of_le_of_lt (m := 8) (by omega) (by decide)
          · have eg : (endsW (.mat a brs) es)[j]? = some (regsW br.1 ++ ws) := by
              show ((brs.zip (zipEnds (RowD.mat a brs).nexts es)).map _)[j]? = _
              rw [List.getElem?_map, (List.getElem?_zip_eq_some (z := (br, ws))).mpr ⟨hbr, hws⟩]; rfl
            rw [take_at eg]
            refine L3.put (ne_of_none L2.e hp).symm ?_
            rw [upd_same, map_app]
        · have hz2 : (endsW (.mat a brs) es).take (min xb.length xs.length) = endsW (.mat a brs) es := by
            have : (endsW (.mat a brs) es).length = min xb.length xs.length := by
              show ((brs.zip (zipEnds (brs.map (·.2)) es)).map _).length = _
              rw [List.length_map, List.length_zip, rb.lenM, paired_len L.pr]; rfl
            rw [← this, List.take_length]
          rw [hz2] at L2
          exact k G' D2 xs2 (xx.trans L2.x) L2.e (paired_map (fun _ _ q => q.ls) L2.pr)
      | ari sub r a b g => refine ⟨_, rfl, c, _, _, _, rfl, rfl, hc, atI_nat (j := 0) rfl, rfl, false, congrArg V.bl not_match, iteF ⟨_, rfl, k G D xs xx L.e (paired_map (fun _ _ q => q.ls) L.pr)⟩⟩
      | num r n g => refine ⟨_, rfl, c, _, _, _, rfl, rfl, hc, atI_nat (j := 0) rfl, rfl, false, by rfl, iteF ⟨_, rfl, k G D xs xx L.e (paired_map (fun _ _ q => q.ls) L.pr)⟩⟩
      | less a b g h => refine ⟨_, rfl, c, _, _, _, rfl, rfl, hc, atI_nat (j := 0) rfl, rfl, false, by rfl, iteF ⟨_, rfl, k G D xs xx L.e (paired_map (fun _ _ q => q.ls) L.pr)⟩⟩
      | make r nm ys g => refine ⟨_, rfl, c, _, _, _, rfl, rfl, hc, atI_nat (j := 0) rfl, rfl, false, by rfl, iteF ⟨_, rfl, k G D xs xx L.e (paired_map (fun _ _ q => q.ls) L.pr)⟩⟩
      | call r nm ys g => refine ⟨_, rfl, c, _, _, _, rfl, rfl, hc, atI_nat (j := 0) rfl, rfl, false, by rfl, iteF ⟨_, rfl, k G D xs xx L.e (paired_map (fun _ _ q => q.ls) L.pr)⟩⟩
      | give r => refine ⟨_, rfl, c, _, _, _, rfl, rfl, hc, atI_nat (j := 0) rfl, rfl, false, by rfl, iteF ⟨_, rfl, k G D xs xx L.e (paired_map (fun _ _ q => q.ls) L.pr)⟩⟩
end
end JF
set_option Elab.async false
set_option linter.all false
set_option maxRecDepth 100000
set_option maxHeartbeats 1000000
/-! the words of kinds and functions -/
namespace JF
open PySem PySem.Spec PyProof PyProof.Rows L2 GxR GA
abbrev sKindW : Stmt := topS 60
abbrev sFunW : Stmt := topS 61
theorem wt_commas (ps : List (List Str)) : wt (commas ps) ≤ wt (joinW ps) + 2 := by
  unfold joinW
  rcases List.eq_nil_or_concat ps with rfl | ⟨ys, y, rfl⟩
  · decide +kernel
  · rw [List.concat_eq_append, commas_app, ← List.append_assoc, List.dropLast_concat, wt_app]
    have h1 : ("," : Str).length = 1 := by decide +kernel
    have : wt [Str.ofString ","] = 2 := by rw [wt_cons, wt_nil]; show ("," : Str).length + 1 + 0 = 2; omega
    omega
theorem Fl.newW {T : List Addr} {H G : Hp} {D : Addr} (tb : TbOk T H) (x : Ex T H G) (n : G D = none) (ws : List Str) : Fl T H (upd G D (.lst (ws.map V.str))) D ws := ⟨tb, x.trans (Ex.new n), upd_same, fresh0 x tb n⟩
/-- a + b of two lists of words -/
theorem catW {T : List Addr} {G : Hp} {a b : Addr} {us ws : List Str} {Q : VK} (ha : G a = some (.lst (us.map V.str))) (hb : G b = some (.lst (ws.map V.str))) (hw : wt us + wt ws ≤ 16000000)
    (k : ∀ c G', Ex T G G' → G c = none → G' = upd G c (.lst ((us ++ ws).map V.str)) → Q (.ref c) G') : rCat (.ref a) (.ref b) G Q :=
  ⟨a, b, _, _, rfl, rfl, ha, hb, by have := len_sz (ws := us ++ ws) (by rw [wt_app]; exact hw); rw [← map_app, List.length_append] at this; exact this, fun p hp => k p _ (Ex.new hp) hp (by rw [map_app])⟩
section
variable {P : Program} {w : World} {K : PySem.W.Frag} {mg : Str → Option Value} {base : Heap} {T : List Addr}
def spKindW (K : PySem.W.Frag) (T : List Addr) : Sp := fun vs H Q _ => ∃ (v : V) (k : Str × List (Str × List Str)), vs = [v] ∧ Rp K H v (dKnd k) ∧ TbOk T H ∧ wt (kndW k) ≤ 8000000 ∧ Gives T H Q (kndW k)
theorem scKindW : FnScope ["kind", "name", "makers", "words", "maker", "fields"] ["kind"] (defScope sKindW) := ⟨rfl, rfl, rfl, by decide +kernel, rfl, by decide +kernel, by decide +kernel⟩
theorem ok_kindw {f aL : Addr} {fd dL : FuncData} (F : Fun K "kind_words" "kind_words" sKindW f fd)
    (GL : FnOk P w K mg base CX0 2 aL dL ["entries"] (spListT K T)) (mL : mg "list_words" = some (.ref aL)) (kL : PySem.W.keepIn K (.ref aL) = true) (bL : Binds K dL ["entries"] []) :
    FnOk P w K mg base CX0 3 f fd ["kind"] (spKindW K T) := by
  refine F.ok scKindW (fun vs H Q E h => ?_) (fun cdv A outer s H vs Q E hr h => ?_)
  · obtain ⟨v, kd, rfl, _⟩ := h
    rfl
  · obtain ⟨v, kd, rfl, rd, tb, hw, k⟩ := h
    refine ⟨_, pss_cons (ps_asg (pv 0) (pg_two (K := K) (i := 1) (j := 2) rfl rfl scKindW.nd rfl rfl rfl rfl))
      (pss_cons (ps_set (i := 3) scKindW.nd rfl (.inl rfl) (pe_lst (pa_cons pe_str (pa_cons (pv 1) (pa_cons pe_str pa_nil)))))
      (pss_cons (ps_for PassesOwn.never rfl (pi_tup (pv 2)) (pg_two (K := K) (i := 4) (j := 5) rfl rfl scKindW.nd rfl rfl rfl rfl)
        (pss_one (ps_expr (pe_extK (K := K) rfl (pv 3) (pa_cons (pe_op op_cat (pe_lst (pa_cons (pv 4) pa_nil)) (pe_call GL (hr.mono (by decide)) (by rfl) mL kL bL .nil pass0 (pa_cons (pv 5) pa_nil))) pa_nil)))))
      (pss_one (ps_ret (pe_op op_cat (pv 3) (pe_lst (pa_cons pe_str pa_nil))))))), ?_⟩
    obtain ⟨c, us, rfl, hc, rc⟩ := Rp.tupI rd
    obtain ⟨u0, _, rfl, q0, rc⟩ := RpAll.consI rc
    obtain ⟨u1, _, rfl, q1, rc⟩ := RpAll.consI rc
    cases RpAll.nilI rc
    cases Rp.strI q0
    obtain ⟨a, xs, rfl, ha, ra⟩ := Rp.tupI q1
    have hw0 : wt (([Str.ofString "kind", kd.1, Str.ofString "{"] ++ kd.2.flatMap mkrW) ++ [Str.ofString "}"]) ≤ 8000000 := hw
    rw [wt_app, wt_app] at hw0
    refine ⟨_, rfl, c, _, rfl, hc, rfl, _, _, rfl, _, _, rfl, rfl, ?_⟩
    refine ⟨_, rfl, by show 3 ≤ sizeLine; decide, fun D hD => ?_⟩
    have F0 := Fl.newW (T := T) tb Ex.refl hD [Str.ofString "kind", kd.1, Str.ofString "{"]
    dsimp only
    refine ⟨_, rfl, a, rfl, ⟨xs, F0.x.sqT tb ha⟩, for_it (n := xs.length) walk_tup (fun i σ G => ∃ p q, σ = [some (.ref c), some (.str kd.1), some (.ref a), some (.ref D), p, q] ∧ Fl T H G D ([Str.ofString "kind", kd.1, Str.ofString "{"] ++ (kd.2.take i).flatMap mkrW))
      ⟨_, _, rfl, F0⟩ (fun i σ G _ ⟨_, _, _, F⟩ => F.x.sqT tb ha) (fun i x σ G G2 hi ⟨p, q, eσ, F⟩ y => ?_) (fun σ G ⟨p, q, eσ, F⟩ => ?_)⟩
    · obtain ⟨rfl, hx⟩ := y
      subst eσ
      obtain ⟨m, hm, rm⟩ := ra.getM hx
      obtain ⟨cm, um, rfl, hcm, rm⟩ := Rp.tupI (rm.ex F.x tb)
      obtain ⟨m0, _, rfl, w0, rm⟩ := RpAll.consI rm
      obtain ⟨m1, _, rfl, w1, rm⟩ := RpAll.consI rm
      cases RpAll.nilI rm
      cases Rp.strI w0
      obtain ⟨cf, xf, rfl, hcf, rf⟩ := Rp.tupI w1
      cases RpAll.strs rf
      have e1 : (kd.2.take (i + 1)).flatMap mkrW = (kd.2.take i).flatMap mkrW ++ mkrW m := flat_take mkrW hm
      have hle := wt_flat_take mkrW kd.2 (i + 1)
      rw [e1, wt_app] at hle
      have wm : wt (mkrW m) = wt [m.1] + wt (listW m.2) := wt_app _ _
      refine ⟨cm, _, rfl, hcm, rfl, _, _, rfl, _, _, rfl, rfl, ?_⟩
      refine ⟨_, rfl, .inl ⟨rfl, _, .inl (.inl F.e)⟩, _, rfl, by show 1 ≤ sizeLine; decide, fun o ho => ?_⟩
      have F1 := F.go (Ex.new (o := .lst ([m.1].map V.str)) ho)
      have eo : (upd G2 o (.lst ([m.1].map V.str))) o = some (.lst ([m.1].map V.str)) := upd_same
      refine ⟨_, rfl, cf, m.2, rfl, (Ex.new ho).sqT F.tbG hcf, F1.tbG, by omega, fun G3 c3 x3 e3 => ?_⟩
      have eo := x3.keep o _ eo (F1.tbG.seqN eo fun _ z => by cases z)
      have F3 := F1.go x3
      refine catW (T := T) eo e3 (by omega) fun p4 G4 x4 n4 eG4 => ?_
      have F4 := F3.go x4
      have e4 : G4 p4 = some (.lst ((mkrW m).map V.str)) := by rw [eG4, upd_same]; rfl
      refine ⟨D, p4, _, _, rfl, rfl, F4.e, e4, ?_, _, _, rfl, ?_⟩
      · have := len_sz (ws := ([Str.ofString "kind", kd.1, Str.ofString "{"] ++ (kd.2.take i).flatMap mkrW) ++ mkrW m) (by rw [wt_app, wt_app]; omega)
        rw [← map_app, List.length_append] at this
        exact this
      · rw [map_app, List.append_assoc, ← e1]
        exact F4.put _
    · subst eσ
      rw [ra.lenM, List.take_length] at F
      refine ⟨_, rfl, by show 1 ≤ sizeLine; decide, fun o ho => ?_⟩
      have F1 := F.go (Ex.new (o := .lst ([Str.ofString "}"].map V.str)) ho)
      refine catW (T := T) (ws := [Str.ofString "}"]) F1.e upd_same (by rw [wt_app]; omega) fun p4 G4 x4 n4 eG4 => k G4 p4 (F1.x.trans x4) ?_
      rw [eG4, upd_same]; rfl
/-- what makes a row's words short enough to be joined -/
structure RowOk (row : RowD) (p : PlR) : Prop where
  sm : row.Sm
  few : row.Few
  toks : ∀ t, p.tok = some t → SmI t
  bsm : ∀ d ∈ p.before, d.Sm
  esm : ∀ e ∈ p.edges, (∀ d ∈ e, d.Sm) ∧ wt (deedsW e) ≤ 3000000
  brs : ∀ a brs, row = .mat a brs → ∀ b ∈ brs, wt (regsW b.1) ≤ 1000000
structure FunOk (f : FunD) (p : PlF) : Prop where
  len : p.rows.length = f.rows.length
  esm : ∀ d ∈ p.entry, d.Sm
  rows : ∀ i (h1 : i < f.rows.length) (h2 : i < p.rows.length), RowOk f.rows[i] p.rows[i]
  wt : wt (funW f p) ≤ 8000000
theorem pg_pl {X : Cx} {K : PySem.W.Frag} {i j k l n m : Nat} {x y z u : Str} {p q r t pos pos2 : Pos} (hK : X.K = K) (hc : X.calm = true) (hN : X.N.Nodup) (hi : X.N[i]? = some x) (hj : X.N[j]? = some y) (hk : X.N[k]? = some z) (hl : X.N[l]? = some u)
    (hx : X.env.scope.names.lookup x = some .local) (hy : X.env.scope.names.lookup y = some .local) (hz : X.env.scope.names.lookup z = some .local) (hu : X.env.scope.names.lookup u = some .local) :
    PG X (.Tuple [.Name x p, .Tuple [.Name y q, .Name z r, .Name u t] n pos2] m pos) (gTup K 2 (gCons (gName i) (gCons (gTup K 3 (gCons (gName j) (gCons (gName k) (gCons (gName l) gNil)))) gNil))) := by
  rw [← hK]
  exact pg_tup hc (pgs_cons (pg_name hN hi (.inl hx) (.inr hx)) (pgs_cons (pg_tup hc (pgs_cons (pg_name hN hj (.inl hy) (.inr hy)) (pgs_cons (pg_name hN hk (.inl hz) (.inr hz)) (pgs_cons (pg_name hN hl (.inl hu) (.inr hu)) pgs_nil)))) pgs_nil))
theorem Rp.tokI {K : PySem.W.Frag} {H : Hp} {v : V} {t : Option Int} (r : Rp K H v (tokD t)) : v = tokV t := by
  cases t with
  | none => exact Rp.nonI r
  | some i => exact Rp.intI r
def spFunW (K : PySem.W.Frag) (T : List Addr) : Sp := fun vs H Q _ => ∃ (v v2 : V) (g : FunD) (p : PlF), vs = [v, v2] ∧ Rp K H v (dFun g) ∧ Rp K H v2 (dPlF p) ∧ FunOk g p ∧ TbOk T H ∧ Gives T H Q (funW g p)
theorem scFunW : FnScope ["function", "part", "name", "params", "result", "rows", "entry", "parts", "words", "row", "before", "token", "edges"] ["function", "part"] (defScope sFunW) := ⟨rfl, rfl, rfl, by decide +kernel, rfl, by decide +kernel, by decide +kernel⟩
theorem ok_funw {f aL aD aH aJ aE : Addr} {fd dL dD dH dJ dE : FuncData} (F : Fun K "function_words" "function_words" sFunW f fd) (mz : mg "zip" = none)
    (GL : FnOk P w K mg base CX0 2 aL dL ["entries"] (spListT K T)) (mL : mg "list_words" = some (.ref aL)) (kL : PySem.W.keepIn K (.ref aL) = true) (bL : Binds K dL ["entries"] [])
    (GD : FnOk P w K mg base CX0 1 aD dD ["deeds"] (spDeedsW K T)) (mD : mg "deeds_words" = some (.ref aD)) (kD : PySem.W.keepIn K (.ref aD) = true) (bD : Binds K dD ["deeds"] [])
    (GH : FnOk P w K mg base CX0 4 aH dH ["row", "token"] (spHeadW K T)) (mH : mg "head_words" = some (.ref aH)) (kH : PySem.W.keepIn K (.ref aH) = true) (bH : Binds K dH ["row", "token"] [])
    (GJ : FnOk P w K mg base CX0 1 aJ dJ ["parts"] (spJoined T)) (mJ : mg "joined" = some (.ref aJ)) (kJ : PySem.W.keepIn K (.ref aJ) = true) (bJ : Binds K dJ ["parts"] [])
    (GE : FnOk P w K mg base CX0 4 aE dE ["row", "edges"] (spEndsW K T)) (mE : mg "ends_words" = some (.ref aE)) (kE : PySem.W.keepIn K (.ref aE) = true) (bE : Binds K dE ["row", "edges"] []) :
    FnOk P w K mg base CX0 5 f fd ["function", "part"] (spFunW K T) := by
  refine F.ok scFunW (fun vs H Q E h => ?_) (fun cdv A outer s H vs Q E hr h => ?_)
  · obtain ⟨v, v2, g, p, rfl, _⟩ := h
    rfl
  · obtain ⟨v, v2, g, p, rfl, rf, rp, ok, tb, k⟩ := h
    refine ⟨_, pss_cons (ps_asg (pv 0) (pg_four (K := K) (i := 2) (j := 3) (l := 4) (m := 5) rfl rfl scFunW.nd rfl rfl rfl rfl rfl rfl rfl rfl))
      (pss_cons (ps_asg (pv 1) (pg_two (K := K) (i := 6) (j := 7) rfl rfl scFunW.nd rfl rfl rfl rfl))
      (pss_cons (ps_set (i := 8) scFunW.nd rfl (.inl rfl) (pe_op op_cat (pe_op op_cat (pe_lst (pa_cons pe_str (pa_cons (pv 2) pa_nil))) (pe_call GL (hr.mono (by decide)) (by rfl) mL kL bL .nil pass0 (pa_cons (pv 3) pa_nil))) (pe_lst (pa_cons (pv 4) (pa_cons pe_str pa_nil)))))
      (pss_cons (ps_if (pt_truth (pv 6) (by intro _; rfl)) (pss_one (ps_expr (pe_extK (K := K) rfl (pv 8) (pa_cons (pe_op op_cat (pe_op op_cat (pe_lst (pa_cons pe_str pa_nil)) (pe_call GD (hr.mono (by decide)) (by rfl) mD kD bD .nil pass0 (pa_cons (pv 6) pa_nil))) (pe_lst (pa_cons pe_str pa_nil))) pa_nil)))) pss_nil)
      (pss_cons (ps_for PassesOwn.never rfl (RZ.pi_zipA (by rfl) mz (pa_cons (pv 5) (pa_cons (pv 7) pa_nil))) (pg_pl (K := K) (i := 9) (j := 10) (k := 11) (l := 12) rfl rfl scFunW.nd rfl rfl rfl rfl rfl rfl rfl rfl)
        (pss_one (ps_expr (pe_extK (K := K) rfl (pv 8) (pa_cons (pe_op op_cat (pe_op op_cat (pe_op op_cat (pe_call GD (hr.mono (by decide)) (by rfl) mD kD bD .nil pass0 (pa_cons (pv 10) pa_nil)) (pe_call GH (hr.mono (by decide)) (by rfl) mH kH bH .nil pass0 (pa_cons (pv 9) (pa_cons (pv 11) pa_nil))))
          (pe_call GJ (hr.mono (by decide)) (by rfl) mJ kJ bJ .nil pass0 (pa_cons (pe_call GE (hr.mono (by decide)) (by rfl) mE kE bE .nil pass0 (pa_cons (pv 9) (pa_cons (pv 12) pa_nil))) pa_nil))) (pe_lst (pa_cons pe_str pa_nil))) pa_nil)))))
      (pss_one (ps_ret (pe_op op_cat (pv 8) (pe_lst (pa_cons pe_str pa_nil))))))))), ?_⟩
    obtain ⟨c, us, rfl, hc, rc⟩ := Rp.tupI rf
    obtain ⟨u0, _, rfl, q0, rc⟩ := RpAll.consI rc
    obtain ⟨u1, _, rfl, q1, rc⟩ := RpAll.consI rc
    obtain ⟨u2, _, rfl, q2, rc⟩ := RpAll.consI rc
    obtain ⟨u3, _, rfl, q3, rc⟩ := RpAll.consI rc
    cases RpAll.nilI rc
    cases Rp.strI q0; cases Rp.strI q2
    obtain ⟨ap, xp, rfl, hap, rap⟩ := Rp.tupI q1
    cases RpAll.strs rap
    obtain ⟨ar, xr, rfl, har, rar⟩ := Rp.tupI q3
    obtain ⟨c2, us, rfl, hc2, rc⟩ := Rp.tupI rp
    obtain ⟨u4, _, rfl, q4, rc⟩ := RpAll.consI rc
    obtain ⟨u5, _, rfl, q5, rc⟩ := RpAll.consI rc
    cases RpAll.nilI rc
    obtain ⟨ae, xe, rfl, hae, rae⟩ := Rp.tupI q4
    obtain ⟨al, xl, rfl, hal, ral⟩ := Rp.tupI q5
    have hw0 : wt (((([Str.ofString "fun", g.name] ++ listW g.params) ++ [g.result, Str.ofString "{"]) ++ entryW p.entry ++ (g.rows.zip p.rows).flatMap (fun rp => rowW rp.1 rp.2)) ++ [Str.ofString "}"]) ≤ 8000000 := ok.wt
    rw [wt_app, wt_app, wt_app, wt_app, wt_app] at hw0
    refine ⟨_, rfl, c, _, rfl, hc, rfl, _, _, rfl, _, _, rfl, _, _, rfl, _, _, rfl, rfl, ?_⟩
    refine ⟨_, rfl, c2, _, rfl, hc2, rfl, _, _, rfl, _, _, rfl, rfl, ?_⟩
    refine ⟨_, rfl, by show 2 ≤ sizeLine; decide, fun o1 ho1 => ?_⟩
    have x1 : Ex T H (upd H o1 (.lst ([Str.ofString "fun", g.name].map V.str))) := Ex.new ho1
    have e1 : (upd H o1 (.lst ([Str.ofString "fun", g.name].map V.str))) o1 = some (.lst ([Str.ofString "fun", g.name].map V.str)) := upd_same
    refine ⟨_, rfl, ap, g.params, rfl, x1.sqT tb hap, x1.tb tb, by omega, fun H2 o2 x2 e2 => ?_⟩
    have e1 := x2.keep o1 _ e1 ((x1.tb tb).seqN e1 fun _ z => by cases z)
    have xx := x1.trans x2
    refine catW (T := T) e1 e2 (by omega) fun o3 H3 x3 n3 eH3 => ?_
    have e3 : H3 o3 = some (.lst (([Str.ofString "fun", g.name] ++ listW g.params).map V.str)) := by rw [eH3, upd_same]
    have xx := xx.trans x3
    refine ⟨_, rfl, by show 2 ≤ sizeLine; decide, fun o4 ho4 => ?_⟩
    have x4 : Ex T H3 (upd H3 o4 (.lst ([g.result, Str.ofString "{"].map V.str))) := Ex.new ho4
    have e3 := x4.keep o3 _ e3 ((xx.tb tb).seqN e3 fun _ z => by cases z)
    have xx := xx.trans x4
    refine catW (T := T) (ws := [g.result, Str.ofString "{"]) e3 upd_same (by rw [wt_app]; omega) fun D H5 x5 n5 eH5 => ?_
    have F5 : Fl T H H5 D (([Str.ofString "fun", g.name] ++ listW g.params) ++ [g.result, Str.ofString "{"]) := ⟨tb, xx.trans x5, by rw [eH5, upd_same], fresh0 xx tb n5⟩
    clear e1 e2 e3 x1 x2 x3 x4 x5 xx eH3 eH5 n3 n5 ho1 ho4
    generalize hpre : ([Str.ofString "fun", g.name] ++ listW g.params) ++ [g.result, Str.ofString "{"] = pre at F5
    have hwp : wt pre = wt [Str.ofString "fun", g.name] + wt (listW g.params) + wt [g.result, Str.ofString "{"] := by rw [← hpre, wt_app, wt_app]
    dsimp only [gName]
    refine seq_cut (fun σ G => σ = [some (.ref c), some (.ref c2), some (.str g.name), some (.ref ap), some (.str g.result), some (.ref ar), some (.ref ae), some (.ref al), some (.ref D), none, none, none, none] ∧ Fl T H G D (pre ++ entryW p.entry)) (fun σ G ⟨eσ, F⟩ => ?_) (fun rest => ?_)
    rotate_left
    · refine ⟨_, rfl, !xe.isEmpty, .inr (.inl ⟨xe, F5.x.sqT tb hae, rfl⟩), ?_⟩
      have lxe := rae.lenM
      by_cases h0 : p.entry = []
      · have : xe = [] := by
          rw [h0] at lxe
          exact List.length_eq_zero_iff.mp lxe
        rw [this]
        refine iteF (rest _ _ ⟨rfl, ?_⟩)
        unfold entryW
        rw [if_pos h0, List.append_nil]
        exact F5
      · have : (!xe.isEmpty) = true := by
          cases xe with
          | nil => exact absurd (List.length_eq_zero_iff.mp lxe.symm) h0
          | cons => rfl
        rw [this]
        have eE : entryW p.entry = ([Str.ofString "entry"] ++ deedsW p.entry) ++ [Str.ofString ";"] := by unfold entryW; rw [if_neg h0]
        have hw1 := hw0
        rw [eE, wt_app, wt_app] at hw1
        refine iteT ⟨_, rfl, .inl ⟨rfl, _, .inl (.inl F5.e)⟩, by show 1 ≤ sizeLine; decide, fun o1 ho1 => ?_⟩
        have F6 := F5.go (Ex.new (o := .lst ([Str.ofString "entry"].map V.str)) ho1)
        have e1 : (upd H5 o1 (.lst ([Str.ofString "entry"].map V.str))) o1 = some (.lst ([Str.ofString "entry"].map V.str)) := upd_same
        refine ⟨_, rfl, .ref ae, p.entry, rfl, q4.ex F6.x tb, ok.esm, F6.tbG, by omega, fun G2 o2 x2 e2 => ?_⟩
        have e1 := x2.keep o1 _ e1 (F6.tbG.seqN e1 fun _ z => by cases z)
        have F7 := F6.go x2
        refine catW (T := T) e1 e2 (by omega) fun o3 G3 x3 n3 eG3 => ?_
        have e3 : G3 o3 = some (.lst (([Str.ofString "entry"] ++ deedsW p.entry).map V.str)) := by rw [eG3, upd_same]
        have F8 := F7.go x3
        refine ⟨by show 1 ≤ sizeLine; decide, fun o4 ho4 => ?_⟩
        have x4 : Ex T G3 (upd G3 o4 (.lst ([Str.ofString ";"].map V.str))) := Ex.new ho4
        have e3 := x4.keep o3 _ e3 (F8.tbG.seqN e3 fun _ z => by cases z)
        have F9 := F8.go x4
        refine catW (T := T) (ws := [Str.ofString ";"]) e3 upd_same (by rw [wt_app]; omega) fun o5 G5 x5 n5 eG5 => ?_
        have F10 := F9.go x5
        have e5 : G5 o5 = some (.lst ((entryW p.entry).map V.str)) := by rw [eG5, upd_same, eE]
        refine ⟨D, o5, _, _, rfl, rfl, F10.e, e5, ?_, rest _ _ ⟨rfl, ?_⟩⟩
        · have := len_sz (ws := pre ++ entryW p.entry) (by rw [wt_app]; omega)
          rw [← map_app, List.length_append] at this
          exact this
        · rw [map_app]; exact F10.put _
    · subst eσ
      have lr : xl.length = xr.length := by rw [rar.lenM, ral.lenM, ok.len]
      refine ⟨_, rfl, _, rfl, ar, al, _, _, rfl, .inr ⟨F.x.sqT tb har, F.x.sqT tb hal, for_it (walk_zipT (xs := xr) (ys := xl) lr) (fun i σ G => ∃ a9 a10 a11 a12, σ = [some (.ref c), some (.ref c2), some (.str g.name), some (.ref ap), some (.str g.result), some (.ref ar), some (.ref ae), some (.ref al), some (.ref D), a9, a10, a11, a12] ∧ Fl T H G D (pre ++ entryW p.entry ++ ((g.rows.zip p.rows).take i).flatMap (fun rp => rowW rp.1 rp.2)))
        ⟨_, _, _, _, rfl, by simpa using F⟩ (fun i σ G _ ⟨_, _, _, _, _, F⟩ => ⟨F.x.sqT tb har, F.x.sqT tb hal⟩) (fun i x σ G G2 hi ⟨a9, a10, a11, a12, eσ, F⟩ y => ?_) (fun σ G ⟨a9, a10, a11, a12, eσ, F⟩ => ?_)⟩⟩
      · obtain ⟨Tp, u, v2, rfl, hT, rfl, hu, hv⟩ := y
        subst eσ
        obtain ⟨row, hrow, rrow⟩ := rar.getM hu
        obtain ⟨pl, hpl, rpl⟩ := ral.getM hv
        have i1 := (List.getElem?_eq_some_iff.mp hrow)
        have i2 := (List.getElem?_eq_some_iff.mp hpl)
        have rk : RowOk row pl := by
          have := ok.rows i i1.1 i2.1
          rw [i1.2, i2.2] at this
          exact this
        have hz : (g.rows.zip p.rows)[i]? = some (row, pl) := (List.getElem?_zip_eq_some (z := (row, pl))).mpr ⟨hrow, hpl⟩
        have e1 : ((g.rows.zip p.rows).take (i + 1)).flatMap (fun rp => rowW rp.1 rp.2) = ((g.rows.zip p.rows).take i).flatMap (fun rp => rowW rp.1 rp.2) ++ rowW row pl := flat_take (fun rp : RowD × PlR => rowW rp.1 rp.2) hz
        have hle := wt_flat_take (fun rp : RowD × PlR => rowW rp.1 rp.2) (g.rows.zip p.rows) (i + 1)
        rw [e1, wt_app] at hle
        have eR : rowW row pl = ((deedsW pl.before ++ headW row pl.tok) ++ joinW (endsW row pl.edges)) ++ [Str.ofString ";"] := rfl
        have wR : wt (rowW row pl) = wt (deedsW pl.before) + wt (headW row pl.tok) + wt (joinW (endsW row pl.edges)) + wt [Str.ofString ";"] := by rw [eR, wt_app, wt_app, wt_app]
        have wC := wt_commas (endsW row pl.edges)
        obtain ⟨c3, us3, rfl, hc3, rc3⟩ := Rp.tupI rpl
        obtain ⟨b0, _, rfl, w0, rc3⟩ := RpAll.consI rc3
        obtain ⟨b1, _, rfl, w1, rc3⟩ := RpAll.consI rc3
        obtain ⟨b2, _, rfl, w2, rc3⟩ := RpAll.consI rc3
        cases RpAll.nilI rc3
        cases Rp.tokI w1
        have F1 := F.go (Ex.new (o := .tup [u, .ref c3]) hT)
        have hTp : SqT K (upd G Tp (.tup [u, .ref c3])) Tp [u, .ref c3] := .inl (.inl upd_same)
        generalize upd G Tp (.tup [u, .ref c3]) = G1 at F1 hTp ⊢
        refine ⟨Tp, _, rfl, hTp, rfl, u, _, rfl, .ref c3, _, rfl, c3, _, rfl, F1.x.sqT tb hc3, rfl, _, _, rfl, _, _, rfl, _, _, rfl, rfl, rfl, ?_⟩
        refine ⟨_, rfl, .inl ⟨rfl, _, .inl (.inl F1.e)⟩, _, rfl, b0, pl.before, rfl, w0.ex F1.x tb, rk.bsm, F1.tbG, by omega, fun G4 c4 x4 e4 => ?_⟩
        have F4 := F1.go x4
        refine ⟨_, rfl, _, rfl, u, row, pl.tok, rfl, rrow.ex F4.x tb, rk.sm, rk.toks, F4.tbG, by omega, fun G5 c5 x5 e5 => ?_⟩
        have e4 := x5.keep c4 _ e4 (F4.tbG.seqN e4 fun _ z => by cases z)
        have F5 := F4.go x5
        refine catW (T := T) e4 e5 (by omega) fun c6 G6 x6 n6 eG6 => ?_
        have e6 : G6 c6 = some (.lst ((deedsW pl.before ++ headW row pl.tok).map V.str)) := by rw [eG6, upd_same]
        have F6 := F5.go x6
        refine ⟨_, rfl, _, rfl, u, b2, row, pl.edges, rfl, rrow.ex F6.x tb, w2.ex F6.x tb, rk.sm, rk.few, rk.esm, rk.brs, F6.tbG, fun G7 c7 xs7 x7 e7 pr7 => ?_⟩
        have e6 := x7.keep c6 _ e6 (F6.tbG.seqN e6 fun _ z => by cases z)
        have F7 := F6.go x7
        refine ⟨c7, xs7, _, rfl, e7, pr7, F7.tbG, by omega, fun G8 c8 x8 e8 => ?_⟩
        have e6 := x8.keep c6 _ e6 (F7.tbG.seqN e6 fun _ z => by cases z)
        have F8 := F7.go x8
        refine catW (T := T) e6 e8 (by rw [wt_app]; omega) fun c9 G9 x9 n9 eG9 => ?_
        have e9 : G9 c9 = some (.lst (((deedsW pl.before ++ headW row pl.tok) ++ joinW (endsW row pl.edges)).map V.str)) := by rw [eG9, upd_same]
        have F9 := F8.go x9
        refine ⟨by show 1 ≤ sizeLine; decide, fun o10 ho10 => ?_⟩
        have x10 : Ex T G9 (upd G9 o10 (.lst ([Str.ofString ";"].map V.str))) := Ex.new ho10
        have e9 := x10.keep c9 _ e9 (F9.tbG.seqN e9 fun _ z => by cases z)
        have F10 := F9.go x10
        refine catW (T := T) (ws := [Str.ofString ";"]) e9 upd_same (by rw [wt_app, wt_app]; omega) fun c11 G11 x11 n11 eG11 => ?_
        have F11 := F10.go x11
        have e11 : G11 c11 = some (.lst ((rowW row pl).map V.str)) := by rw [eG11, upd_same, eR]
        refine ⟨D, c11, _, _, rfl, rfl, F11.e, e11, ?_, _, _, _, _, rfl, ?_⟩
        · have := len_sz (ws := (pre ++ entryW p.entry ++ ((g.rows.zip p.rows).take i).flatMap (fun rp => rowW rp.1 rp.2)) ++ rowW row pl) (by rw [wt_app, wt_app, wt_app]; omega)
          rw [← map_app, List.length_append] at this
          exact this
        · rw [map_app, e1, ← List.append_assoc]; exact F11.put _
      · subst eσ
        have hz : (g.rows.zip p.rows).take xr.length = g.rows.zip p.rows := by
          refine List.take_of_length_le ?_
          rw [List.length_zip, ← rar.lenM]; exact Nat.min_le_left _ _
        rw [hz] at F
        refine ⟨_, rfl, by show 1 ≤ sizeLine; decide, fun o ho => ?_⟩
        have F1 := F.go (Ex.new (o := .lst ([Str.ofString "}"].map V.str)) ho)
        refine catW (T := T) (ws := [Str.ofString "}"]) F1.e upd_same (by rw [wt_app, wt_app]; omega) fun p4 G4 x4 n4 eG4 => k G4 p4 (F1.x.trans x4) ?_
        rw [eG4, upd_same, ← hpre]; rfl
end
end JF
set_option Elab.async false
set_option linter.all false
set_option maxRecDepth 100000
set_option maxHeartbeats 1000000
/-! what a placing may have -/
namespace JF
open PySem PySem.Spec PyProof PyProof.Rows L2 GxR GA
abbrev sFitsR : Stmt := topS 51
abbrev sFitsF : Stmt := topS 52
abbrev sFitsP : Stmt := topS 53
abbrev sNeedPl : Stmt := topS 54
def isMM : RowD → Bool
  | .mat _ _ => true
  | .make _ _ _ _ => true
  | _ => false
def fitsTok (row : RowD) : PyData → Bool
  | .none => true
  | d => isMM row && isToken d
def fitsRow (row : RowD) : PyData → Bool
  | .tuple [b, t, e] => fitsTok row t && (areDeeds b && isTup (row.nexts.length : Nat) (row.nexts.length : Nat) areDeeds e)
  | _ => false
def fitsFun (g : FunD) : PyData → Bool
  | .tuple [e, .tuple ps] => areDeeds e && (decide (ps.length = g.rows.length) && (g.rows.zip ps).all fun x => fitsRow x.1 x.2)
  | _ => false
def fitsPrg (gs : List FunD) : PyData → Bool
  | .tuple ds => decide (ds.length = gs.length) && (gs.zip ds).all fun x => fitsFun x.1 x.2
  | _ => false
theorem in_mm (row : RowD) : inV (.str row.word) [.str (Str.ofString "match"), .str (Str.ofString "make")] = isMM row := by
  cases row with
  | ari sub r a b g => cases sub <;> rfl
  | _ => rfl
section
variable {P : Program} {w : World} {K : PySem.W.Frag} {mg : Str → Option Value} {base : Heap} {T : List Addr}
def spFitsR (K : PySem.W.Frag) (T : List Addr) : Sp := fun vs H Q _ => ∃ (v v2 : V) (row : RowD) (d : PyData), vs = [v, v2] ∧ Rp K H v (dRow row) ∧ row.Few ∧ Rp K H v2 d ∧ TbOk T H ∧ ∀ H', Ex T H H' → Q (.bl (fitsRow row d)) H'
theorem scFitsR : FnScope ["row", "thing", "before", "token", "edges", "many"] ["row", "thing"] (defScope sFitsR) := ⟨rfl, rfl, rfl, by decide +kernel, rfl, by decide +kernel, by decide +kernel⟩
theorem pg_three {X : Cx} {K : PySem.W.Frag} {i j l k : Nat} {x y z : Str} {p q r pos : Pos} (hK : X.K = K) (hc : X.calm = true) (hN : X.N.Nodup) (hi : X.N[i]? = some x) (hj : X.N[j]? = some y) (hl : X.N[l]? = some z)
    (hx : X.env.scope.names.lookup x = some .local) (hy : X.env.scope.names.lookup y = some .local) (hz : X.env.scope.names.lookup z = some .local) :
    PG X (.Tuple [.Name x p, .Name y q, .Name z r] k pos) (gTup K 3 (gCons (gName i) (gCons (gName j) (gCons (gName l) gNil)))) := by
  rw [← hK]
  exact pg_tup hc (pgs_cons (pg_name hN hi (.inl hx) (.inr hx)) (pgs_cons (pg_name hN hj (.inl hy) (.inr hy)) (pgs_cons (pg_name hN hl (.inl hz) (.inr hz)) pgs_nil)))
theorem ok_fitsr {f aN aD aT aK : Addr} {fd dN dD dT dK : FuncData} (F : Fun K "fits_row" "fits_row" sFitsR f fd) (B : BI mg)
    (GN : FnOk P w K mg base CX0 1 aN dN ["row"] (spNexts K T)) (mN : mg "nexts" = some (.ref aN)) (kN : PySem.W.keepIn K (.ref aN) = true) (bN : Binds K dN ["row"] [])
    (GD : FnOk P w K mg base CX0 15 aD dD ["thing"] (spIs K T areDeeds)) (mD : mg "are_deeds" = some (.ref aD)) (kD : PySem.W.keepIn K (.ref aD) = true) (bD : Binds K dD ["thing"] [])
    (ED : IsDef P w K mg base T 15 aD (fun _ => True) areDeeds)
    (GT : FnOk P w K mg base CX0 17 aT dT ["thing", "least", "most", "fits"] (spTupleOf P w K mg base T 15)) (mT : mg "is_tuple_of" = some (.ref aT)) (kT : PySem.W.keepIn K (.ref aT) = true) (bT : Binds K dT ["thing", "least", "most", "fits"] [])
    (GK : FnOk P w K mg base CX0 2 aK dK ["thing"] (spIs K T isToken)) (mK : mg "is_token" = some (.ref aK)) (kK : PySem.W.keepIn K (.ref aK) = true) (bK : Binds K dK ["thing"] []) :
    FnOk P w K mg base CX0 18 f fd ["row", "thing"] (spFitsR K T) := by
  refine F.ok scFitsR (fun vs H Q E h => ?_) (fun cdv A outer s H vs Q E hr h => ?_)
  · obtain ⟨v, v2, row, d, rfl, _⟩ := h
    rfl
  · obtain ⟨v, v2, row, d, rfl, rrow, few, rd, tb, k⟩ := h
    refine ⟨_, pss_cons (ps_if (PW.pt (pw_or (pt_cmpR op_notTyB (pe_callTy call_type1 (by rfl) B.type (by decide +kernel) (pa_cons (pv 1) pa_nil)) (pe_bltn (v := .ty "tuple") (by rfl) B.tuple (by decide +kernel) rfl) (nomark _))
        (pw_or1 (pt_cmpR op_ne (pe_callB call_len_seq (by rfl) B.len PySem.boot_len (pa_cons (pv 1) pa_nil)) pe_int (nomark _))))) (pss_one (ps_ret pe_bl)) pss_nil)
      (pss_cons (ps_asg (pv 1) (pg_three (K := K) (i := 2) (j := 3) (l := 4) rfl rfl scFitsR.nd rfl rfl rfl rfl rfl rfl))
      (pss_cons (ps_if (PW.pt (pw_and (pt_cmp (pc_notN (pv 3)) rfl) (pw_and1 (pt_not (PW.pt (pw_and (pt_cmpR op_in_seq (pe_ix ix_tup (pv 0) pe_int (fun _ _ => rfl)) (pe_tup (pa_cons pe_str (pa_cons pe_str pa_nil))) rfl)
        (pw_and1 (pt_val (pe_call GK (hr.mono (by decide)) (by rfl) mK kK bK .nil pass0 (pa_cons (pv 3) pa_nil)))))))))) (pss_one (ps_ret pe_bl)) pss_nil)
      (pss_cons (ps_set (i := 5) scFitsR.nd rfl (.inl rfl) (pe_callB call_len_seq (by rfl) B.len PySem.boot_len (pa_cons (pe_call GN (hr.mono (by decide)) (by rfl) mN kN bN .nil pass0 (pa_cons (pv 0) pa_nil)) pa_nil)))
      (pss_one (ps_ret (pe_and (pe_call GD (hr.mono (by decide)) (by rfl) mD kD bD .nil pass0 (pa_cons (pv 2) pa_nil))
        (pe_one (pe_call GT (hr.mono (by decide)) (by rfl) mT kT bT .nil pass0 (pa_cons (pv 4) (pa_cons (pv 5) (pa_cons (pv 5) (pa_cons (pe_glob (v := .ref aD) (by rfl) mD rfl) pa_nil)))))))))))), ?_⟩
    have no : fitsRow row d = false → ∀ H', Ex T H H' → Q (.bl false) H' := fun e H' x => by
      have := k H' x
      rw [e] at this
      exact this
    refine ⟨v2, rfl, v2, tyN d, rfl, rd.ty, _, _, rfl, rfl, _, rfl, ite2 (fun e => ?_) (fun e => ?_)⟩
    · refine iteT (no ?_ H Ex.refl)
      cases d <;> first | rfl | exact absurd e (by simp [tyN])
    · cases rd with
      | @tup a xs ds hs rs =>
        have hl := rs.len
        refine ⟨_, rfl, a, xs, rfl, .inr hs, rfl, _, rfl, ite2 (fun e1 => ?_) (fun e1 => ?_)⟩
        · refine no ?_ H Ex.refl
          match ds, hl with
          | [], _ => rfl
          | [_], _ => rfl
          | [_, _], _ => rfl
          | [_, _, _], hl =>
            rw [hl] at e1
            exact absurd e1 (by simp)
          | _ :: _ :: _ :: _ :: _, _ => rfl
        · have e2 : ds.length = 3 := by
            simp at e1
            omega
          match ds, e2 with
          | [b, t, e3], _ =>
            obtain ⟨v0, _, rfl, r0, rs⟩ := RpAll.consI rs
            obtain ⟨v1, _, rfl, r1, rs⟩ := RpAll.consI rs
            obtain ⟨v2, _, rfl, r2, rs⟩ := RpAll.consI rs
            cases RpAll.nilI rs
            dsimp only
            refine ⟨_, rfl, a, _, rfl, hs, rfl, _, _, rfl, _, _, rfl, _, _, rfl, rfl, ?_⟩
            try dsimp only
            refine seq_cut (fun σ G => σ = [some v, some (.ref a), some v0, some v1, some v2, none] ∧ Ex T H G ∧ fitsTok row t = true) (fun σ G ⟨eσ, x, ft⟩ => ?_) (fun rest => ?_)
            · subst eσ
              have hF : fitsRow row (.tuple [b, t, e3]) = (areDeeds b && isTup (row.nexts.length : Nat) (row.nexts.length : Nat) areDeeds e3) := by
                show (fitsTok row t && _) = _
                rw [ft, Bool.true_and]
              refine ⟨_, rfl, v, row, rfl, rrow.ex x tb, few, x.tb tb, fun G1 cN x1 eN => ?_⟩
              have xx := x.trans x1
              refine ⟨cN, _, rfl, .inl (.inl (.inl eN)), ?_⟩
              refine ⟨_, rfl, v0, b, rfl, r0.ex xx tb, xx.tb tb, fun G2 x2 => ⟨_, rfl, ?_⟩⟩
              have xx2 := xx.trans x2
              cases eb : areDeeds b with
              | false =>
                refine iteF (no ?_ G2 xx2)
                rw [hF, eb]; rfl
              | true =>
                refine iteT ⟨_, rfl, _, rfl, _, rfl, v2, e3, _, _, aD, _, areDeeds, rfl, r2.ex xx2 tb, in_any e3, ED, xx2.tb tb, fun G3 x3 => ?_⟩
                have := k G3 (xx2.trans x3)
                rw [hF, eb, Bool.true_and] at this
                rw [List.length_map]
                exact this
            · have ft0 : fitsTok row t = false → fitsRow row (.tuple [b, t, e3]) = false := fun h => by
                show (fitsTok row t && _) = _
                rw [h]; rfl
              by_cases ht : t = .none
              · subst ht
                cases Rp.nonI r1
                exact ⟨_, rfl, _, rfl, iteF (iteF (rest _ _ ⟨rfl, Ex.refl, rfl⟩))⟩
              · have hv : v1 ≠ .non := fun e => by
                  subst e
                  cases r1
                  exact ht rfl
                have fe : fitsTok row t = (isMM row && isToken t) := by
                  cases t <;> first | rfl | exact absurd rfl ht
                obtain ⟨c, us, rfl, hc⟩ := row_head rrow
                refine ⟨_, rfl, true, congrArg V.bl (by rw [decide_eq_false hv]; rfl), iteT ?_⟩
                refine ⟨_, rfl, c, _, _, _, rfl, rfl, hc, atI_nat (j := 0) rfl, by show 2 ≤ sizeLine; decide, fun t1 ht1 => ⟨t1, _, rfl, .inr (.inl (.inl upd_same)), rfl, by decide, _, rfl, ?_⟩⟩
                have x1 : Ex T H (upd H t1 (.tup [.str (Str.ofString "match"), .str (Str.ofString "make")])) := Ex.new ht1
                rw [in_mm]
                cases em : isMM row with
                | false =>
                  refine iteF (iteT (no (ft0 ?_) _ x1))
                  rw [fe, em]; rfl
                | true =>
                  refine iteT ⟨_, rfl, v1, t, rfl, r1.ex x1 tb, x1.tb tb, fun G2 x2 => ⟨_, rfl, ?_⟩⟩
                  cases ek : isToken t with
                  | false =>
                    refine iteT (no (ft0 ?_) _ (x1.trans x2))
                    rw [fe, em, ek]; rfl
                  | true =>
                    refine iteF (rest _ _ ⟨rfl, x1.trans x2, ?_⟩)
                    rw [fe, em, ek]; rfl
      | non => exact absurd (by simp [tyN]) e
      | bl b => exact absurd (by simp [tyN]) e
      | int x => exact absurd (by simp [tyN]) e
      | str x h => exact absurd (by simp [tyN]) e
      | lst h q => exact absurd (by simp [tyN]) e
      | dic h => exact absurd (by simp [tyN]) e
theorem pg_last4 {X : Cx} {K : PySem.W.Frag} {i m k : Nat} {x u : Str} {p q r t pos : Pos} (hK : X.K = K) (hc : X.calm = true) (hN : X.N.Nodup) (hi : X.N[i]? = some x) (hm : X.N[m]? = some u) (hx : X.env.scope.names.lookup x = some .local) (hu : X.env.scope.names.lookup u = some .local) :
    PG X (.Tuple [.Name x p, .Name x q, .Name x r, .Name u t] k pos) (gTup K 4 (gCons (gName i) (gCons (gName i) (gCons (gName i) (gCons (gName m) gNil))))) := by
  rw [← hK]
  exact pg_tup hc (pgs_cons (pg_name hN hi (.inl hx) (.inr hx)) (pgs_cons (pg_name hN hi (.inl hx) (.inr hx)) (pgs_cons (pg_name hN hi (.inl hx) (.inr hx)) (pgs_cons (pg_name hN hm (.inl hu) (.inr hu)) pgs_nil))))
theorem zip_get {α β : Type} {xs : List α} {ys : List β} {i : Nat} {x : α} {y : β} (h1 : xs[i]? = some x) (h2 : ys[i]? = some y) : (xs.zip ys)[i]? = some (x, y) := (List.getElem?_zip_eq_some (z := (x, y))).mpr ⟨h1, h2⟩
theorem bools_all {α : Type} (f : α → Bool) (xs : List α) : ((xs.map f).all id) = xs.all f := by
  induction xs with
  | nil => rfl
  | cons x xs ih => simp [List.all_cons]
def spFitsF (K : PySem.W.Frag) (T : List Addr) : Sp := fun vs H Q _ => ∃ (v v2 : V) (g : FunD) (d : PyData), vs = [v, v2] ∧ Rp K H v (dFun g) ∧ (∀ r ∈ g.rows, r.Few) ∧ g.rows.length ≤ 1000 ∧ Rp K H v2 d ∧ TbOk T H ∧ ∀ H', Ex T H H' → Q (.bl (fitsFun g d)) H'
theorem scFitsF : FnScope ["function", "thing", "_", "rows", "row", "part"] ["function", "thing"] (defScope sFitsF) := ⟨rfl, rfl, rfl, by decide +kernel, rfl, by decide +kernel, by decide +kernel⟩
theorem ok_fitsf {f aR aD aP aA : Addr} {fd dR dP : FuncData} (F : Fun K "fits_function" "fits_function" sFitsF f fd) (B : BI mg) (mz : mg "zip" = none)
    (GR : FnOk P w K mg base CX0 18 aR dR ["row", "thing"] (spFitsR K T)) (mR : mg "fits_row" = some (.ref aR)) (kR : PySem.W.keepIn K (.ref aR) = true) (bR : Binds K dR ["row", "thing"] [])
    (mD : mg "are_deeds" = some (.ref aD)) (ED : IsDef P w K mg base T 15 aD (fun _ => True) areDeeds)
    (mA : mg "is_any_tuple" = some (.ref aA)) (EA : IsDef P w K mg base T 15 aA (fun _ => True) isAnyTup)
    (GP : FnOk P w K mg base CX0 16 aP dP ["thing", "fits_first", "fits_second"] (spPair P w K mg base T 15)) (mP : mg "is_pair" = some (.ref aP)) (kP : PySem.W.keepIn K (.ref aP) = true) (bP : Binds K dP ["thing", "fits_first", "fits_second"] []) :
    FnOk P w K mg base CX0 19 f fd ["function", "thing"] (spFitsF K T) := by
  refine F.ok scFitsF (fun vs H Q E h => ?_) (fun cdv A outer s H vs Q E hr h => ?_)
  · obtain ⟨v, v2, g, d, rfl, _⟩ := h
    rfl
  · obtain ⟨v, v2, g, d, rfl, rg, few, lr, rd, tb, k⟩ := h
    refine ⟨_, pss_cons (ps_asg (pv 0) (pg_last4 (K := K) (i := 2) (m := 3) rfl rfl scFitsF.nd rfl rfl rfl rfl))
      (pss_cons (ps_if (PW.pt (pw_or (pt_not (pt_val (pe_call GP (hr.mono (by decide)) (by rfl) mP kP bP .nil pass0 (pa_cons (pv 1) (pa_cons (pe_glob (v := .ref aD) (by rfl) mD rfl) (pa_cons (pe_glob (v := .ref aA) (by rfl) mA rfl) pa_nil))))))
        (pw_or1 (pt_cmpR op_ne (pe_callB call_len_seq (by rfl) B.len PySem.boot_len (pa_cons (pe_ix ix_tup (pv 1) pe_int (fun _ _ => rfl)) pa_nil)) (pe_callB call_len_seq (by rfl) B.len PySem.boot_len (pa_cons (pv 3) pa_nil)) (nomark _))))) (pss_one (ps_ret pe_bl)) pss_nil)
      (pss_one (ps_ret (pe_callB (cr_all rfl) (by rfl) B.all boot_all (pa_cons (pe_lc (own := [("row", 4), ("part", 5)]) (tt := tYes) (by rfl) scFitsF.nd (RZ.pi_zipA (by rfl) mz (pa_cons (pv 3) (pa_cons (pe_ix ix_tup (pv 1) pe_int (fun _ _ => rfl)) pa_nil)))
        (blkOk_by (N := ["function", "thing", "_", "rows", "row", "part"]) (sc := defScope sFitsF) (by decide +kernel)) (fun _ _ _ _ _ => pg_two (K := K) (i := 4) (j := 5) rfl rfl scFitsF.nd rfl rfl rfl rfl) (fun _ _ _ _ _ => pts_nil)
        (fun _ _ _ _ _ => pe_call GR (hr.mono (by decide)) (by rfl) mR kR bR .nil pass0 (pa_cons (pv 4) (pa_cons (pv 5) pa_nil)))) pa_nil))))), ?_⟩
    have no : fitsFun g d = false → ∀ H', Ex T H H' → Q (.bl false) H' := fun e H' x => by
      have := k H' x
      rw [e] at this
      exact this
    obtain ⟨c, us, rfl, hc, rc⟩ := Rp.tupI rg
    obtain ⟨u0, _, rfl, q0, rc⟩ := RpAll.consI rc
    obtain ⟨u1, _, rfl, q1, rc⟩ := RpAll.consI rc
    obtain ⟨u2, _, rfl, q2, rc⟩ := RpAll.consI rc
    obtain ⟨u3, _, rfl, q3, rc⟩ := RpAll.consI rc
    cases RpAll.nilI rc
    obtain ⟨ar, xr, rfl, har, rar⟩ := Rp.tupI q3
    refine ⟨_, rfl, c, _, rfl, hc, rfl, _, _, rfl, _, _, rfl, _, _, rfl, _, _, rfl, rfl, ?_⟩
    refine ⟨_, rfl, v2, d, aD, aA, _, _, _, _, rfl, rd, in_any2 d, ED, EA, tb, fun G1 x1 => ⟨_, rfl, ?_⟩⟩
    show if (!isPair areDeeds isAnyTup d) = true then _ else _
    cases ep : isPair areDeeds isAnyTup d with
    | false =>
      refine iteT (iteT (no ?_ G1 x1))
      unfold fitsFun
      split
      · rename_i e ps
        have : (areDeeds e && isAnyTup (.tuple ps)) = false := ep
        cases h : areDeeds e with
        | false => rfl
        | true => rw [h] at this; cases this
      · rfl
    | true =>
      obtain ⟨e0, ps, rfl, ea⟩ : ∃ e ps, d = .tuple [e, .tuple ps] ∧ areDeeds e = true := by
        unfold isPair at ep
        split at ep
        · rename_i a b
          have ep := Bool.and_eq_true_iff.mp ep
          cases b with
          | tuple ps => exact ⟨a, ps, rfl, ep.1⟩
          | _ => exact absurd ep.2 (by simp [isAnyTup])
        · cases ep
      have hF : fitsFun g (.tuple [e0, .tuple ps]) = (decide (ps.length = g.rows.length) && (g.rows.zip ps).all fun x => fitsRow x.1 x.2) := by
        show (areDeeds e0 && _) = _
        rw [ea, Bool.true_and]
      obtain ⟨c2, us, rfl, hc2, rc⟩ := Rp.tupI rd
      obtain ⟨w0, _, rfl, r0, rc⟩ := RpAll.consI rc
      obtain ⟨w1, _, rfl, r1, rc⟩ := RpAll.consI rc
      cases RpAll.nilI rc
      obtain ⟨ap, xp, rfl, hap, rap⟩ := Rp.tupI r1
      have lp := rap.len
      have lrr := rar.lenM
      refine iteF ⟨_, rfl, c2, _, _, _, rfl, rfl, x1.sqT tb hc2, atI_nat (j := 1) rfl, ap, xp, rfl, .inr (x1.sqT tb hap), _, rfl, ar, xr, rfl, .inr (x1.sqT tb har), rfl, _, rfl, ite2 (fun e1 => ?_) (fun e1 => ?_)⟩
      · refine no ?_ G1 x1
        rw [hF, decide_eq_false (fun h => ?_), Bool.false_and]
        rw [lp, lrr, h] at e1
        simp at e1
      · have el : ps.length = g.rows.length := by
          simp at e1
          omega
        have tb1 := x1.tb tb
        refine ⟨_, rfl, _, rfl, c2, _, _, _, rfl, rfl, x1.sqT tb hc2, atI_nat (j := 1) rfl, ar, ap, _, _, rfl, .inr ⟨x1.sqT tb har, x1.sqT tb hap, fun D hD => ?_⟩⟩
        refine lcB_it (n := xr.length) (walk_zipT (xs := xr) (ys := xp) (by omega)) (fun j G => Ex T G1 G ∧ G D = some (.lst ((((g.rows.zip ps).take j).map fun x => fitsRow x.1 x.2).map V.bl))) ⟨Ex.new hD, upd_same⟩
          (fun j G _ ⟨x, _⟩ => ⟨(x1.trans x).sqT tb har, (x1.trans x).sqT tb hap⟩) (fun j v G G2 hj ⟨x, e⟩ y => ?_) (fun G ⟨x, e⟩ => ?_)
        · obtain ⟨Tp, u, v2, rfl, hT, rfl, hu, hv⟩ := y
          obtain ⟨row, hrow, rrow⟩ := rar.getM hu
          obtain ⟨dp, hdp, rdp⟩ := rap.get hv
          have x2 : Ex T G (upd G Tp (.tup [u, v2])) := Ex.new hT
          have xx := (x1.trans x).trans x2
          have eD := x2.keep D _ e (notT tb1 hD)
          refine g_two (.inl (.inl upd_same)) (by decide) (by decide) (by decide) (by show 4 < 6; decide) (by show 5 < 6; decide) fun σ2 _ keep g1 g2 => yesT ?_
          refine ⟨_, g1, _, g2, u, v2, row, dp, rfl, rrow.ex xx tb, few row (List.mem_of_getElem? hrow), rdp.ex xx tb, xx.tb tb, fun G3 x3 => ?_⟩
          have eD := x3.keep D _ eD (notT tb1 hD)
          refine ⟨_, eD, ?_, ((x.trans x2).trans x3).upd0 hD, ?_⟩
          · rw [List.length_map, List.length_map, List.length_take, List.length_zip]
            exact Nat.lt_of_le_of_lt (m := 1000) (by omega) (by decide)
          · rw [upd_same, take_at (zip_get hrow hdp), List.map_append, List.map_append]; rfl
        · have hz : (g.rows.zip ps).take xr.length = g.rows.zip ps := List.take_of_length_le (by rw [List.length_zip]; omega)
          rw [hz] at e
          refine ⟨D, _, rfl, .inl (.inl e), ?_⟩
          have := k G (x1.trans x)
          rw [hF, decide_eq_true el, Bool.true_and, ← bools_all] at this
          exact this
def spFitsP (K : PySem.W.Frag) (T : List Addr) : Sp := fun vs H Q _ => ∃ (v v2 : V) (p : Prg) (d : PyData), vs = [v, v2] ∧ Rp K H v (dPrg p) ∧ (∀ g ∈ p.funs, (∀ r ∈ g.rows, r.Few) ∧ g.rows.length ≤ 1000) ∧ p.funs.length ≤ 1000 ∧ Rp K H v2 d ∧ TbOk T H ∧ ∀ H', Ex T H H' → Q (.bl (fitsPrg p.funs d)) H'
theorem scFitsP : FnScope ["program", "thing", "_", "functions", "function", "part"] ["program", "thing"] (defScope sFitsP) := ⟨rfl, rfl, rfl, by decide +kernel, rfl, by decide +kernel, by decide +kernel⟩
theorem ok_fitsp {f aF : Addr} {fd dF : FuncData} (F : Fun K "fits_program" "fits_program" sFitsP f fd) (B : BI mg) (mz : mg "zip" = none)
    (GF : FnOk P w K mg base CX0 19 aF dF ["function", "thing"] (spFitsF K T)) (mF : mg "fits_function" = some (.ref aF)) (kF : PySem.W.keepIn K (.ref aF) = true) (bF : Binds K dF ["function", "thing"] []) :
    FnOk P w K mg base CX0 20 f fd ["program", "thing"] (spFitsP K T) := by
  refine F.ok scFitsP (fun vs H Q E h => ?_) (fun cdv A outer s H vs Q E hr h => ?_)
  · obtain ⟨v, v2, g, d, rfl, _⟩ := h
    rfl
  · obtain ⟨v, v2, p, d, rfl, rg, few, lr, rd, tb, k⟩ := h
    refine ⟨_, pss_cons (ps_asg (pv 0) (pg_two (K := K) (i := 2) (j := 3) rfl rfl scFitsP.nd rfl rfl rfl rfl))
      (pss_cons (ps_if (PW.pt (pw_or (pt_cmpR op_notTyB (pe_callTy call_type1 (by rfl) B.type (by decide +kernel) (pa_cons (pv 1) pa_nil)) (pe_bltn (v := .ty "tuple") (by rfl) B.tuple (by decide +kernel) rfl) (nomark _))
        (pw_or1 (pt_cmpR op_ne (pe_callB call_len_seq (by rfl) B.len PySem.boot_len (pa_cons (pv 1) pa_nil)) (pe_callB call_len_seq (by rfl) B.len PySem.boot_len (pa_cons (pv 3) pa_nil)) (nomark _))))) (pss_one (ps_ret pe_bl)) pss_nil)
      (pss_one (ps_ret (pe_callB (cr_all rfl) (by rfl) B.all boot_all (pa_cons (pe_lc (own := [("function", 4), ("part", 5)]) (tt := tYes) (by rfl) scFitsP.nd (RZ.pi_zipA (by rfl) mz (pa_cons (pv 3) (pa_cons (pv 1) pa_nil)))
        (blkOk_by (N := ["program", "thing", "_", "functions", "function", "part"]) (sc := defScope sFitsP) (by decide +kernel)) (fun _ _ _ _ _ => pg_two (K := K) (i := 4) (j := 5) rfl rfl scFitsP.nd rfl rfl rfl rfl) (fun _ _ _ _ _ => pts_nil)
        (fun _ _ _ _ _ => pe_call GF (hr.mono (by decide)) (by rfl) mF kF bF .nil pass0 (pa_cons (pv 4) (pa_cons (pv 5) pa_nil)))) pa_nil))))), ?_⟩
    have no : fitsPrg p.funs d = false → ∀ H', Ex T H H' → Q (.bl false) H' := fun e H' x => by
      have := k H' x
      rw [e] at this
      exact this
    obtain ⟨c, us, rfl, hc, rc⟩ := Rp.tupI rg
    obtain ⟨u0, _, rfl, q0, rc⟩ := RpAll.consI rc
    obtain ⟨u1, _, rfl, q1, rc⟩ := RpAll.consI rc
    cases RpAll.nilI rc
    obtain ⟨ar, xr, rfl, har, rar⟩ := Rp.tupI q1
    refine ⟨_, rfl, c, _, rfl, hc, rfl, _, _, rfl, _, _, rfl, rfl, ?_⟩
    refine ⟨v2, rfl, v2, tyN d, rfl, rd.ty, _, _, rfl, rfl, _, rfl, ite2 (fun e => ?_) (fun e => ?_)⟩
    · refine iteT (no ?_ H Ex.refl)
      cases d <;> first | rfl | exact absurd e (by simp [tyN])
    · cases rd with
      | @tup ap xp ps hap rap =>
        have lp := rap.len
        have lrr := rar.lenM
        refine ⟨_, rfl, ap, xp, rfl, .inr hap, _, rfl, ar, xr, rfl, .inr har, rfl, _, rfl, ite2 (fun e1 => ?_) (fun e1 => ?_)⟩
        · refine no ?_ H Ex.refl
          show (decide (ps.length = p.funs.length) && _) = false
          rw [decide_eq_false (fun h => ?_), Bool.false_and]
          rw [lp, lrr, h] at e1
          simp at e1
        · have el : ps.length = p.funs.length := by
            simp at e1
            omega
          refine ⟨_, rfl, _, rfl, ar, ap, _, _, rfl, .inr ⟨har, hap, fun D hD => ?_⟩⟩
          refine lcB_it (n := xr.length) (walk_zipT (xs := xr) (ys := xp) (by omega)) (fun j G => Ex T H G ∧ G D = some (.lst ((((p.funs.zip ps).take j).map fun x => fitsFun x.1 x.2).map V.bl))) ⟨Ex.new hD, upd_same⟩
            (fun j G _ ⟨x, _⟩ => ⟨x.sqT tb har, x.sqT tb hap⟩) (fun j v G G2 hj ⟨x, e⟩ y => ?_) (fun G ⟨x, e⟩ => ?_)
          · obtain ⟨Tp, u, v2, rfl, hT, rfl, hu, hv⟩ := y
            obtain ⟨g, hg, rg⟩ := rar.getM hu
            obtain ⟨dp, hdp, rdp⟩ := rap.get hv
            have x2 : Ex T G (upd G Tp (.tup [u, v2])) := Ex.new hT
            have xx := x.trans x2
            have eD := x2.keep D _ e (notT tb hD)
            refine g_two (.inl (.inl upd_same)) (by decide) (by decide) (by decide) (by show 4 < 6; decide) (by show 5 < 6; decide) fun σ2 _ keep g1 g2 => yesT ?_
            refine ⟨_, g1, _, g2, u, v2, g, dp, rfl, rg.ex xx tb, (few g (List.mem_of_getElem? hg)).1, (few g (List.mem_of_getElem? hg)).2, rdp.ex xx tb, xx.tb tb, fun G3 x3 => ?_⟩
            have eD := x3.keep D _ eD (notT tb hD)
            refine ⟨_, eD, ?_, (xx.trans x3).upd0 hD, ?_⟩
            · rw [List.length_map, List.length_map, List.length_take, List.length_zip]
              exact Nat.lt_of_le_of_lt (m := 1000) (by omega) (by decide)
            · rw [upd_same, take_at (zip_get hg hdp), List.map_append, List.map_append]; rfl
          · have hz : (p.funs.zip ps).take xr.length = p.funs.zip ps := List.take_of_length_le (by rw [List.length_zip]; omega)
            rw [hz] at e
            refine ⟨D, _, rfl, .inl (.inl e), ?_⟩
            have := k G x
            rw [show fitsPrg p.funs (.tuple ps) = (decide (ps.length = p.funs.length) && (p.funs.zip ps).all fun x => fitsFun x.1 x.2) from rfl, decide_eq_true el, Bool.true_and, ← bools_all] at this
            exact this
      | non => exact absurd (by simp [tyN]) e
      | bl b => exact absurd (by simp [tyN]) e
      | int x => exact absurd (by simp [tyN]) e
      | str x h => exact absurd (by simp [tyN]) e
      | lst h q => exact absurd (by simp [tyN]) e
      | dic h => exact absurd (by simp [tyN]) e
def spNeedPl (K : PySem.W.Frag) (T : List Addr) (C : Addr) : Sp := fun vs H Q E => ∃ (v v2 : V) (p : Prg) (d : PyData), vs = [v, v2] ∧ Rp K H v (dPrg p) ∧ (∀ g ∈ p.funs, (∀ r ∈ g.rows, r.Few) ∧ g.rows.length ≤ 1000) ∧ p.funs.length ≤ 1000 ∧ Rp K H v2 d ∧ TbOk T H ∧ (fitsPrg p.funs d = true → ∀ H', Ex T H H' → Q .non H') ∧ (fitsPrg p.funs d = false → ∀ H', Ex T H H' → E (.ref C) none H')
theorem scNeedPl : FnScope ["program", "placing"] ["program", "placing"] (defScope sNeedPl) := ⟨rfl, rfl, rfl, by decide +kernel, rfl, by decide +kernel, by decide +kernel⟩
theorem ok_needpl {f aF C : Addr} {fd dF : FuncData} (FN : Fun K "need_placing" "need_placing" sNeedPl f fd)
    (GF : FnOk P w K mg base CX0 20 aF dF ["program", "thing"] (spFitsP K T)) (mF : mg "fits_program" = some (.ref aF)) (kF : PySem.W.keepIn K (.ref aF) = true) (bF : Binds K dF ["program", "thing"] [])
    (EC : ErrC K mg "BadPlacing" C) : FnOk P w K mg base (L2.CX P w) 21 f fd ["program", "placing"] (spNeedPl K T C) := by
  refine FN.okX scNeedPl (fun vs H Q E h => ?_) (fun cdv A outer s H vs Q E hr h => ?_)
  · obtain ⟨v, v2, p, d, rfl, _⟩ := h
    rfl
  · obtain ⟨v, v2, p, d, rfl, rp, few, lf, rd, tb, k1, k2⟩ := h
    refine ⟨_, pss_one (ps_if (pt_not (pt_val (pe_call GF hr rfl mF kF bF .nil pass0 (pa_cons (pv 0) (pa_cons (pv 1) pa_nil))))) (pss_one (ps_raise rfl (takes_of rfl rfl rfl rfl) (pmk_own F.excBase_ValueError EC.ex EC.gC EC.kC (raises_own EC.exC EC.tyC) rfl))) pss_nil), ?_⟩
    refine ⟨_, rfl, _, rfl, v, v2, p, d, rfl, rp, few, lf, rd, tb, fun H1 x1 => ⟨_, rfl, ?_⟩⟩
    show if (!fitsPrg p.funs d) = true then _ else _
    cases e : fitsPrg p.funs d with
    | true => exact iteF (k1 e H1 x1)
    | false => exact iteT (k2 e H1 x1)
end
end JF
set_option Elab.async false
set_option linter.all false
set_option maxRecDepth 100000
set_option maxHeartbeats 1000000
/-! write_text -/
namespace JF
open PySem PySem.Spec PyProof PyProof.Rows L2 GxR GA
abbrev sWrite : Stmt := topS 56
theorem passN {X : Cx} {σ : L2.St} : PassesAt (L2.CX X.prog X.w) X σ E0 := fun _ _ _ _ _ _ c => by
  obtain ⟨_, _, _, _, _, _, _, _, _, _, _, _, hE⟩ := c
  exact hE.elim
structure WrOk (p : Prg) (ps : List PlF) : Prop where
  prog : isProgram (dPrg p) = true
  fits : fitsPrg p.funs (dPlc ps) = true
  few : ∀ g ∈ p.funs, (∀ r ∈ g.rows, r.Few) ∧ g.rows.length ≤ 1000
  lf : p.funs.length ≤ 1000
  len : ps.length = p.funs.length
  funs : ∀ i (h1 : i < p.funs.length) (h2 : i < ps.length), FunOk p.funs[i] ps[i]
  kinds : ∀ k ∈ p.kinds, wt (kndW k) ≤ 8000000
  wt : wt (prgW p ps) ≤ 16000000
theorem wt_sum (ws : List Str) : (ws.map (·.length)).sum + ws.length = wt ws := by
  induction ws with
  | nil => rfl
  | cons a b ih => rw [wt_cons, List.map_cons, List.sum_cons, List.length_cons]; omega
section
variable {P : Program} {w : World} {K : PySem.W.Frag} {mg : Str → Option Value} {base : Heap} {T : List Addr}
def spWrite (K : PySem.W.Frag) (T : List Addr) : Sp := fun vs H Q _ => ∃ (v v2 : V) (p : Prg) (ps : List PlF), vs = [v, v2] ∧ Rp K H v (dPrg p) ∧ Rp K H v2 (dPlc ps) ∧ WrOk p ps ∧ TbOk T H ∧ ∀ H', Ex T H H' → Q (.str (textW p ps)) H'
theorem scWrite : FnScope ["program", "placing", "kinds", "functions", "words", "kind", "function", "part"] ["program", "placing"] (defScope sWrite) := ⟨rfl, rfl, rfl, by decide +kernel, rfl, by decide +kernel, by decide +kernel⟩
theorem ok_write {f aN aP aK aF c1 c2 : Addr} {fd dN dP dK dF : FuncData} (F : Fun K "write_text" "write_text" sWrite f fd) (mz : mg "zip" = none)
    (GN : FnOk P w K mg base (L2.CX P w) 22 aN dN ["program"] (spNeed K T c1)) (mN : mg "need_program" = some (.ref aN)) (kN : PySem.W.keepIn K (.ref aN) = true) (bN : Binds K dN ["program"] [])
    (GP : FnOk P w K mg base (L2.CX P w) 21 aP dP ["program", "placing"] (spNeedPl K T c2)) (mP : mg "need_placing" = some (.ref aP)) (kP : PySem.W.keepIn K (.ref aP) = true) (bP : Binds K dP ["program", "placing"] [])
    (GK : FnOk P w K mg base CX0 3 aK dK ["kind"] (spKindW K T)) (mK : mg "kind_words" = some (.ref aK)) (kK : PySem.W.keepIn K (.ref aK) = true) (bK : Binds K dK ["kind"] [])
    (GF : FnOk P w K mg base CX0 5 aF dF ["function", "part"] (spFunW K T)) (mF : mg "function_words" = some (.ref aF)) (kF : PySem.W.keepIn K (.ref aF) = true) (bF : Binds K dF ["function", "part"] []) :
    FnOk P w K mg base CX0 23 f fd ["program", "placing"] (spWrite K T) := by
  refine F.ok scWrite (fun vs H Q E h => ?_) (fun cdv A outer s H vs Q E hr h => ?_)
  · obtain ⟨v, v2, p, ps, rfl, _⟩ := h
    rfl
  · obtain ⟨v, v2, p, ps, rfl, rp, rq, ok, tb, k⟩ := h
    refine ⟨_, PSs.nox (pss_cons (ps_expr (pe_callS GN (hr.mono (by decide)) (by rfl) mN kN bN (E := fun _ => E0) (fun _ => passN) (pa_cons (pv 0) pa_nil)))
      (pss_cons (ps_expr (pe_callS GP (hr.mono (by decide)) (by rfl) mP kP bP (E := fun _ => E0) (fun _ => passN) (pa_cons (pv 0) (pa_cons (pv 1) pa_nil))))
      (pss_cons (ps_asg (pv 0) (pg_two (K := K) (i := 2) (j := 3) rfl rfl scWrite.nd rfl rfl rfl rfl))
      (pss_cons (ps_set (i := 4) scWrite.nd rfl (.inl rfl) (pe_lst pa_nil))
      (pss_cons (ps_for PassesOwn.never rfl (pi_tup (pv 2)) (pg_name (i := 5) scWrite.nd rfl (.inl rfl)) (pss_one (ps_expr (pe_extK (K := K) rfl (pv 4) (pa_cons (pe_call GK (hr.mono (by decide)) (by rfl) mK kK bK .nil pass0 (pa_cons (pv 5) pa_nil)) pa_nil)))))
      (pss_cons (ps_for PassesOwn.never rfl (RZ.pi_zipA (by rfl) mz (pa_cons (pv 3) (pa_cons (pv 1) pa_nil))) (pg_two (K := K) (i := 6) (j := 7) rfl rfl scWrite.nd rfl rfl rfl rfl)
        (pss_one (ps_expr (pe_extK (K := K) rfl (pv 4) (pa_cons (pe_call GF (hr.mono (by decide)) (by rfl) mF kF bF .nil pass0 (pa_cons (pv 6) (pa_cons (pv 7) pa_nil))) pa_nil)))))
      (pss_one (ps_ret (pe_join pe_str (pv 4)))))))))), ?_⟩
    refine ⟨_, rfl, v, dPrg p, rfl, rp, tb, fun _ H1 x1 => ?_, fun e => by rw [ok.prog] at e; cases e⟩
    have tb1 := x1.tb tb
    have rp1 := rp.ex x1 tb
    have rq1 := rq.ex x1 tb
    refine ⟨_, rfl, _, rfl, v, v2, p, dPlc ps, rfl, rp1, ok.few, ok.lf, rq1, tb1, fun _ H2 x2 => ?_, fun e => by rw [ok.fits] at e; cases e⟩
    have tb2 := x2.tb tb1
    have xx := x1.trans x2
    have rp := rp1.ex x2 tb1
    have rq := rq1.ex x2 tb1
    clear rp1 rq1 tb1 x1 x2
    obtain ⟨c, us, rfl, hc, rc⟩ := Rp.tupI rp
    obtain ⟨u0, _, rfl, q0, rc⟩ := RpAll.consI rc
    obtain ⟨u1, _, rfl, q1, rc⟩ := RpAll.consI rc
    cases RpAll.nilI rc
    obtain ⟨ak, xk, rfl, hak, rak⟩ := Rp.tupI q0
    obtain ⟨af, xf, rfl, haf, raf⟩ := Rp.tupI q1
    obtain ⟨aq, xq, rfl, haq, raq⟩ := Rp.tupI rq
    have hw := ok.wt
    unfold prgW at hw
    rw [wt_app] at hw
    refine ⟨_, rfl, c, _, rfl, hc, rfl, _, _, rfl, _, _, rfl, rfl, ?_⟩
    refine ⟨by show 0 ≤ sizeLine; decide, fun D hD => ?_⟩
    have F0 := Fl.newW (T := T) tb2 Ex.refl hD []
    refine ⟨_, rfl, ak, rfl, ⟨xk, F0.x.sqT tb2 hak⟩, for_it (n := xk.length) walk_tup (fun i σ G => ∃ a5, σ = [some (.ref c), some (.ref aq), some (.ref ak), some (.ref af), some (.ref D), a5, none, none] ∧ Fl T H2 G D ((p.kinds.take i).flatMap kndW))
      ⟨_, rfl, F0⟩ (fun i σ G _ ⟨_, _, F⟩ => F.x.sqT tb2 hak) (fun i x σ G G2 hi ⟨a5, eσ, F⟩ y => ?_) (fun σ G ⟨a5, eσ, F⟩ => ?_)⟩
    · obtain ⟨rfl, hx⟩ := y
      subst eσ
      obtain ⟨kd, hkd, rkd⟩ := rak.getM hx
      have e1 : (p.kinds.take (i + 1)).flatMap kndW = (p.kinds.take i).flatMap kndW ++ kndW kd := flat_take kndW hkd
      have hle := wt_flat_take kndW p.kinds (i + 1)
      rw [e1, wt_app] at hle
      refine ⟨_, rfl, .inl ⟨rfl, _, .inl (.inl F.e)⟩, _, rfl, x, kd, rfl, rkd.ex F.x tb2, F.tbG, ok.kinds kd (List.mem_of_getElem? hkd), fun G3 c3 x3 e3 => ?_⟩
      have F3 := F.go x3
      refine ⟨D, c3, _, _, rfl, rfl, F3.e, e3, ?_, _, rfl, ?_⟩
      · have := len_sz (ws := (p.kinds.take i).flatMap kndW ++ kndW kd) (by rw [wt_app]; omega)
        rw [← map_app, List.length_append] at this
        exact this
      · rw [map_app, e1]; exact F3.put _
    · subst eσ
      rw [rak.lenM, List.take_length] at F
      have lr : xq.length = xf.length := by rw [raf.lenM, raq.lenM, ok.len]
      refine ⟨_, rfl, _, rfl, af, aq, _, _, rfl, .inr ⟨F.x.sqT tb2 haf, F.x.sqT tb2 haq, for_it (walk_zipT (xs := xf) (ys := xq) lr) (fun i σ G => ∃ a6 a7, σ = [some (.ref c), some (.ref aq), some (.ref ak), some (.ref af), some (.ref D), a5, a6, a7] ∧ Fl T H2 G D (p.kinds.flatMap kndW ++ ((p.funs.zip ps).take i).flatMap (fun fp => funW fp.1 fp.2)))
        ⟨_, _, rfl, by simpa using F⟩ (fun i σ G _ ⟨_, _, _, F⟩ => ⟨F.x.sqT tb2 haf, F.x.sqT tb2 haq⟩) (fun i x σ G G2 hi ⟨a6, a7, eσ, F⟩ y => ?_) (fun σ G ⟨a6, a7, eσ, F⟩ => ?_)⟩⟩
      · obtain ⟨Tp, u, v2, rfl, hT, rfl, hu, hv⟩ := y
        subst eσ
        obtain ⟨g, hg, rg⟩ := raf.getM hu
        obtain ⟨q, hq, rq⟩ := raq.getM hv
        have i1 := (List.getElem?_eq_some_iff.mp hg)
        have i2 := (List.getElem?_eq_some_iff.mp hq)
        have fk : FunOk g q := by
          have := ok.funs i i1.1 i2.1
          rw [i1.2, i2.2] at this
          exact this
        have e1 : ((p.funs.zip ps).take (i + 1)).flatMap (fun fp => funW fp.1 fp.2) = ((p.funs.zip ps).take i).flatMap (fun fp => funW fp.1 fp.2) ++ funW g q := flat_take (fun fp : FunD × PlF => funW fp.1 fp.2) (zip_get hg hq)
        have hle := wt_flat_take (fun fp : FunD × PlF => funW fp.1 fp.2) (p.funs.zip ps) (i + 1)
        rw [e1, wt_app] at hle
        have F1 := F.go (Ex.new (o := .tup [u, v2]) hT)
        refine ⟨Tp, _, rfl, .inl (.inl upd_same), rfl, _, _, rfl, _, _, rfl, rfl, ?_⟩
        refine ⟨_, rfl, .inl ⟨rfl, _, .inl (.inl F1.e)⟩, _, rfl, _, rfl, u, v2, g, q, rfl, rg.ex F1.x tb2, rq.ex F1.x tb2, fk, F1.tbG, fun G3 c3 x3 e3 => ?_⟩
        have F3 := F1.go x3
        refine ⟨D, c3, _, _, rfl, rfl, F3.e, e3, ?_, _, _, rfl, ?_⟩
        · have := len_sz (ws := (p.kinds.flatMap kndW ++ ((p.funs.zip ps).take i).flatMap (fun fp => funW fp.1 fp.2)) ++ funW g q) (by rw [wt_app, wt_app]; omega)
          rw [← map_app, List.length_append] at this
          exact this
        · rw [map_app, e1, ← List.append_assoc]; exact F3.put _
      · subst eσ
        have hz : (p.funs.zip ps).take xf.length = p.funs.zip ps := List.take_of_length_le (by rw [List.length_zip, ← raf.lenM]; exact Nat.min_le_left _ _)
        rw [hz] at F
        refine ⟨⟨_, rfl⟩, _, rfl, Str.ofString " ", D, _, rfl, rfl, .inl (.inl (.inl F.e)), ?_, ?_⟩
        · have := wt_sum (p.kinds.flatMap kndW ++ (p.funs.zip ps).flatMap (fun fp => funW fp.1 fp.2))
          have h1 : (Str.ofString " ").length = 1 := by decide +kernel
          have h2 := ok.wt
          unfold prgW at h2
          rw [h1, Nat.mul_one, this]
          omega
        · exact k G (xx.trans F.x)
end
end JF
set_option Elab.async false
set_option linter.all false
set_option maxRecDepth 100000
set_option maxHeartbeats 1000000
/-! what has the form of programs and placings, as data -/
namespace JF
open PySem PySem.Spec PyProof PyProof.Rows L2 GxR GA
theorem nm_len {fs : Str} {z : Str} (h : isName fs (.str z) = true) : z.length ≤ 10 := by
  have h : ((decide (1 ≤ z.length) && decide (z.length ≤ 10)) && (firstIn fs z && z.cps.toList.all nameSign) && (!inV (.str z) wordsV && !asCell z)) = true := h
  simp only [Bool.and_eq_true] at h
  exact of_decide_eq_true h.1.1.2
theorem field_len {z : Str} (h : isField (.str z) = true) : z.length ≤ 10 := by
  have h : (isHigh (.str z) || decide (z = "number")) = true := h
  rcases Bool.or_eq_true_iff.mp h with h | h
  · exact nm_len h
  · rw [of_decide_eq_true h]; decide +kernel
def Rng (lo hi x : Int) : Prop := lo ≤ x ∧ x ≤ hi
theorem isI_of {lo hi x : Int} (h : Rng lo hi x) : isI lo hi (.int x) = true := by
  show (decide (lo ≤ x) && decide (x ≤ hi)) = true
  rw [decide_eq_true h.1, decide_eq_true h.2]; rfl
abbrev Reg (x : Int) : Prop := Rng 0 31 x
abbrev Nxt (x : Int) : Prop := Rng 0 59 x
abbrev Num (x : Int) : Prop := Rng (-1000000000000) 1000000000000 x
theorem Rng.sm {lo hi x : Int} (h : Rng lo hi x) (h1 : -1000000000000 ≤ lo) (h2 : hi ≤ 1000000000000) : SmI x := by
  unfold SmI
  have := h.1
  have := h.2
  omega
def Regs (n : Nat) (xs : List Int) : Prop := xs.length ≤ n ∧ ∀ x ∈ xs, Reg x
theorem tup_regs {n : Nat} {xs : List Int} (h : Regs n xs) : isTup 0 (n : Nat) isRegister (regsD xs) = true := by
  show ((decide ((0 : Int) ≤ ((xs.map PyData.int).length : Nat)) && decide (((xs.map PyData.int).length : Int) ≤ (n : Nat))) && (xs.map PyData.int).all isRegister) = true
  rw [List.length_map, decide_eq_true (by omega), decide_eq_true (by have := h.1; omega), List.all_map]
  exact List.all_eq_true.mpr fun x hx => isI_of (h.2 x hx)
theorem Regs.sm {n : Nat} {xs : List Int} (h : Regs n xs) : SmA xs := fun x hx => (h.2 x hx).sm (by decide) (by decide)
def RowF : RowD → Prop
  | .num r n g => Reg r ∧ Num n ∧ Nxt g
  | .ari _ r a b g => Reg r ∧ Reg a ∧ Reg b ∧ Nxt g
  | .less a b g h => Reg a ∧ Reg b ∧ Nxt g ∧ Nxt h
  | .make r nm xs g => Reg r ∧ isHigh (.str nm) = true ∧ Regs 4 xs ∧ Nxt g
  | .call r nm xs g => Reg r ∧ isLow (.str nm) = true ∧ Regs 8 xs ∧ Nxt g
  | .mat a brs => Reg a ∧ 1 ≤ brs.length ∧ brs.length ≤ 6 ∧ ∀ b ∈ brs, Regs 4 b.1 ∧ Nxt b.2
  | .give r => Reg r
theorem row_is {row : RowD} (h : RowF row) : isRow (dRow row) = true := by
  cases row with
  | num r n g => show (true && (isRegister (.int r) && (isNumber (.int n) && (isNext (.int g) && true)))) = true; rw [show isRegister (.int r) = true from isI_of h.1, show isNumber (.int n) = true from isI_of h.2.1, show isNext (.int g) = true from isI_of h.2.2]; rfl
  | ari sub r a b g =>
    have e : isRow (dRow (.ari sub r a b g)) = (true && (isRegister (.int r) && (isRegister (.int a) && (isRegister (.int b) && (isNext (.int g) && true))))) := by cases sub <;> rfl
    rw [e, show isRegister (.int r) = true from isI_of h.1, show isRegister (.int a) = true from isI_of h.2.1, show isRegister (.int b) = true from isI_of h.2.2.1, show isNext (.int g) = true from isI_of h.2.2.2]; rfl
  | less a b g i => show (true && (isRegister (.int a) && (isRegister (.int b) && (isNext (.int g) && (isNext (.int i) && true))))) = true; rw [show isRegister (.int a) = true from isI_of h.1, show isRegister (.int b) = true from isI_of h.2.1, show isNext (.int g) = true from isI_of h.2.2.1, show isNext (.int i) = true from isI_of h.2.2.2]; rfl
  | make r nm xs g => show (true && (isRegister (.int r) && (isHigh (.str nm) && (isMakeArgs (regsD xs) && (isNext (.int g) && true))))) = true; rw [show isRegister (.int r) = true from isI_of h.1, h.2.1, show isMakeArgs (regsD xs) = true from tup_regs h.2.2.1, show isNext (.int g) = true from isI_of h.2.2.2]; rfl
  | call r nm xs g => show (true && (isRegister (.int r) && (isLow (.str nm) && (isCallArgs (regsD xs) && (isNext (.int g) && true))))) = true; rw [show isRegister (.int r) = true from isI_of h.1, h.2.1, show isCallArgs (regsD xs) = true from tup_regs h.2.2.1, show isNext (.int g) = true from isI_of h.2.2.2]; rfl
  | mat a brs =>
    have hb : isBranches (.tuple (brs.map dBr)) = true := by
      show ((decide ((1 : Int) ≤ ((brs.map dBr).length : Nat)) && decide (((brs.map dBr).length : Int) ≤ 6)) && (brs.map dBr).all isBranch) = true
      rw [List.length_map, decide_eq_true (by have := h.2.1; omega), decide_eq_true (by have := h.2.2.1; omega), List.all_map]
      refine List.all_eq_true.mpr fun b hb => ?_
      show (isMakeArgs (regsD b.1) && isNext (.int b.2)) = true
      rw [show isMakeArgs (regsD b.1) = true from tup_regs (h.2.2.2 b hb).1, show isNext (.int b.2) = true from isI_of (h.2.2.2 b hb).2]; rfl
    show (true && (isRegister (.int a) && (isBranches (.tuple (brs.map dBr)) && true))) = true
    rw [show isRegister (.int a) = true from isI_of h.1, hb]; rfl
  | give r => show (true && (isRegister (.int r) && true)) = true; rw [show isRegister (.int r) = true from isI_of h]; rfl
theorem row_sm {row : RowD} (h : RowF row) : row.Sm := by
  cases row with
  | num r n g => exact ⟨h.1.sm (by decide) (by decide), h.2.1.sm (by decide) (by decide), h.2.2.sm (by decide) (by decide)⟩
  | ari sub r a b g => exact ⟨h.1.sm (by decide) (by decide), h.2.1.sm (by decide) (by decide), h.2.2.1.sm (by decide) (by decide), h.2.2.2.sm (by decide) (by decide)⟩
  | less a b g i => exact ⟨h.1.sm (by decide) (by decide), h.2.1.sm (by decide) (by decide), h.2.2.1.sm (by decide) (by decide), h.2.2.2.sm (by decide) (by decide)⟩
  | make r nm xs g => exact ⟨h.1.sm (by decide) (by decide), h.2.2.1.sm, h.2.2.2.sm (by decide) (by decide)⟩
  | call r nm xs g => exact ⟨h.1.sm (by decide) (by decide), h.2.2.1.sm, h.2.2.2.sm (by decide) (by decide)⟩
  | mat a brs => exact ⟨h.1.sm (by decide) (by decide), fun b hb => ⟨(h.2.2.2 b hb).1.sm, (h.2.2.2 b hb).2.sm (by decide) (by decide)⟩⟩
  | give r => exact h.sm (by decide) (by decide)
theorem row_few {row : RowD} (h : RowF row) : row.Few := by
  cases row with
  | mat a brs => exact h.2.2.1
  | _ => trivial
def DeedF : DeedD → Prop
  | .hold r => Reg r
  | .drop r => Reg r
  | .free t s => Rng 0 15 t ∧ Rng 0 4 s
theorem deed_is {d : DeedD} (h : DeedF d) : isDeed (dDeed d) = true := by
  cases d with
  | hold r => show (true && (isRegister (.int r) && true)) = true; rw [show isRegister (.int r) = true from isI_of h]; rfl
  | drop r => show (true && (isRegister (.int r) && true)) = true; rw [show isRegister (.int r) = true from isI_of h]; rfl
  | free t s => show (true && (isToken (.int t) && (isSize (.int s) && true))) = true; rw [show isToken (.int t) = true from isI_of h.1, show isSize (.int s) = true from isI_of h.2]; rfl
theorem deed_sm {d : DeedD} (h : DeedF d) : d.Sm := by
  cases d with
  | hold r => exact h.sm (by decide) (by decide)
  | drop r => exact h.sm (by decide) (by decide)
  | free t s => exact ⟨h.1.sm (by decide) (by decide), h.2.sm (by decide) (by decide)⟩
def DeedsF (ds : List DeedD) : Prop := ds.length ≤ 60 ∧ ∀ d ∈ ds, DeedF d
theorem deeds_is {ds : List DeedD} (h : DeedsF ds) : areDeeds (deedsD ds) = true := by
  show ((decide ((0 : Int) ≤ ((ds.map dDeed).length : Nat)) && decide (((ds.map dDeed).length : Int) ≤ 60)) && (ds.map dDeed).all isDeed) = true
  rw [List.length_map, decide_eq_true (by omega), decide_eq_true (by have := h.1; omega), List.all_map]
  exact List.all_eq_true.mpr fun d hd => deed_is (h.2 d hd)
structure PlRF (row : RowD) (p : PlR) : Prop where
  before : DeedsF p.before
  tok : ∀ t, p.tok = some t → isMM row = true ∧ Rng 0 15 t
  len : p.edges.length = row.nexts.length
  edges : ∀ e ∈ p.edges, DeedsF e
theorem plr_fits {row : RowD} {p : PlR} (h : PlRF row p) : fitsRow row (dPlR p) = true := by
  show (fitsTok row (tokD p.tok) && (areDeeds (deedsD p.before) && isTup (row.nexts.length : Nat) (row.nexts.length : Nat) areDeeds (.tuple (p.edges.map deedsD)))) = true
  have h1 : fitsTok row (tokD p.tok) = true := by
    cases e : p.tok with
    | none => rfl
    | some t =>
      obtain ⟨m, r⟩ := h.tok t e
      show (isMM row && isToken (.int t)) = true
      rw [m, show isToken (.int t) = true from isI_of r]; rfl
  have h2 : isTup (row.nexts.length : Nat) (row.nexts.length : Nat) areDeeds (.tuple (p.edges.map deedsD)) = true := by
    show ((decide (((row.nexts.length : Nat) : Int) ≤ ((p.edges.map deedsD).length : Nat)) && decide (((p.edges.map deedsD).length : Int) ≤ (row.nexts.length : Nat))) && (p.edges.map deedsD).all areDeeds) = true
    rw [List.length_map, h.len, decide_eq_true (by omega), List.all_map]
    exact List.all_eq_true.mpr fun d hd => deeds_is (h.edges d hd)
  rw [h1, h2, deeds_is h.before]; rfl
structure FunF (f : FunD) (p : PlF) : Prop where
  name : isLow (.str f.name) = true
  params : f.params.length ≤ 8 ∧ ∀ z ∈ f.params, isField (.str z) = true
  result : isField (.str f.result) = true
  r1 : 1 ≤ f.rows.length
  r60 : f.rows.length ≤ 60
  len : p.rows.length = f.rows.length
  entry : DeedsF p.entry
  rows : ∀ rp ∈ f.rows.zip p.rows, RowF rp.1 ∧ PlRF rp.1 rp.2
theorem zip_mem {α β : Type} {xs : List α} {ys : List β} (h : ys.length = xs.length) {x : α} (hx : x ∈ xs) : ∃ y, (x, y) ∈ xs.zip ys := by
  obtain ⟨i, hi, rfl⟩ := List.mem_iff_getElem.mp hx
  exact ⟨ys[i]'(by omega), List.mem_iff_getElem.mpr ⟨i, by rw [List.length_zip]; omega, by rw [List.getElem_zip]⟩⟩
theorem FunF.row {f : FunD} {p : PlF} (h : FunF f p) {r : RowD} (hr : r ∈ f.rows) : RowF r := by
  obtain ⟨y, hy⟩ := zip_mem h.len hr
  exact (h.rows _ hy).1
theorem fun_is {f : FunD} {p : PlF} (h : FunF f p) : isFunction (dFun f) = true := by
  show ((isLow (.str f.name) && isTup 0 8 isField (strsD f.params)) && (isField (.str f.result) && isTup 1 60 isRow (.tuple (f.rows.map dRow)))) = true
  have h1 : isTup 0 8 isField (strsD f.params) = true := by
    show ((decide ((0 : Int) ≤ ((f.params.map PyData.str).length : Nat)) && decide (((f.params.map PyData.str).length : Int) ≤ 8)) && (f.params.map PyData.str).all isField) = true
    rw [List.length_map, decide_eq_true (by omega), decide_eq_true (by have := h.params.1; omega), List.all_map]
    exact List.all_eq_true.mpr fun z hz => h.params.2 z hz
  have h2 : isTup 1 60 isRow (.tuple (f.rows.map dRow)) = true := by
    show ((decide ((1 : Int) ≤ ((f.rows.map dRow).length : Nat)) && decide (((f.rows.map dRow).length : Int) ≤ 60)) && (f.rows.map dRow).all isRow) = true
    rw [List.length_map, decide_eq_true (by have := h.r1; omega), decide_eq_true (by have := h.r60; omega), List.all_map]
    exact List.all_eq_true.mpr fun r hr => row_is (h.row hr)
  rw [h.name, h1, h.result, h2]; rfl
theorem zip_map_r {α β γ : Type} (f : β → γ) (xs : List α) (ys : List β) : xs.zip (ys.map f) = (xs.zip ys).map fun p => (p.1, f p.2) := by
  induction xs generalizing ys with
  | nil => rfl
  | cons x xs ih => cases ys with
    | nil => rfl
    | cons y ys => simp [ih]
theorem plf_fits {f : FunD} {p : PlF} (h : FunF f p) : fitsFun f (dPlF p) = true := by
  show (areDeeds (deedsD p.entry) && (decide ((p.rows.map dPlR).length = f.rows.length) && (f.rows.zip (p.rows.map dPlR)).all fun x => fitsRow x.1 x.2)) = true
  rw [deeds_is h.entry, List.length_map, decide_eq_true h.len, zip_map_r, List.all_map]
  exact List.all_eq_true.mpr fun x hx => plr_fits (h.rows x hx).2
/-! ### lengths -/
theorem wt_commas1 {zs : List Str} {c : Nat} (h : ∀ z ∈ zs, z.length ≤ c) : wt (commas (zs.map fun e => [e])) ≤ (c + 3) * zs.length := by
  have := wt_flat (fun ps : List Str => ps ++ [(Str.ofString ",")]) (c + 3) (zs.map fun e => [e]) (fun ps hp => by
    obtain ⟨z, hz, rfl⟩ := List.mem_map.mp hp
    have h1 : ("," : Str).length = 1 := by decide +kernel
    have := h z hz
    rw [wt_app, wt_cons, wt_nil, wt_cons, wt_nil]
    show z.length + 1 + 0 + (("," : Str).length + 1 + 0) ≤ c + 3
    omega)
  rw [List.length_map] at this
  exact this
theorem wt_join (ps : List (List Str)) : wt (joinW ps) ≤ wt (commas ps) := wt_dropLast _
theorem wt_list {zs : List Str} {c : Nat} (h : ∀ z ∈ zs, z.length ≤ c) : wt (listW zs) ≤ (c + 3) * zs.length + 4 := by
  have := wt_commas1 h
  have := wt_listW zs
  have := wt_join (zs.map fun e => [e])
  omega
theorem wt_regs {xs : List Int} (h : SmA xs) : wt (regsW xs) ≤ 18 * xs.length + 4 := by
  have := wt_list (zs := xs.map rW) (c := 15) fun z hz => by
    obtain ⟨x, hx, rfl⟩ := List.mem_map.mp hz
    exact lenR (h x hx)
  rw [List.length_map] at this
  exact this
theorem wt_deed {d : DeedD} (h : d.Sm) : wt (deedW d) ≤ 40 := by
  have h1 : ("hold" : Str).length = 4 := by decide +kernel
  have h2 : ("drop" : Str).length = 4 := by decide +kernel
  have h3 : ("free" : Str).length = 4 := by decide +kernel
  have h4 : (":" : Str).length = 1 := by decide +kernel
  cases d with
  | hold r => have := lenR h; show ("hold" : Str).length + 1 + ((rW r).length + 1 + 0) ≤ 40; omega
  | drop r => have := lenR h; show ("drop" : Str).length + 1 + ((rW r).length + 1 + 0) ≤ 40; omega
  | free t s => have := lenT h.1; have := lenI h.2; show ("free" : Str).length + 1 + ((tW t).length + 1 + ((":" : Str).length + 1 + ((iW s).length + 1 + 0))) ≤ 40; omega
theorem wt_deedsF {ds : List DeedD} (h : DeedsF ds) : wt (deedsW ds) ≤ 2404 := by
  have h1 := wt_flat deedW 40 ds fun d hd => wt_deed (deed_sm (h.2 d hd))
  have h2 := h.1
  have e1 : ("{" : Str).length = 1 := by decide +kernel
  have e2 : ("}" : Str).length = 1 := by decide +kernel
  unfold deedsW
  by_cases h0 : ds.flatMap deedW = []
  · rw [if_pos h0]; exact Nat.zero_le _
  · rw [if_neg h0, wt_app, wt_app, wt_cons, wt_nil, wt_cons, wt_nil]
    show ("{" : Str).length + 1 + 0 + _ + (("}" : Str).length + 1 + 0) ≤ 2404
    omega
end JF
set_option Elab.async false
set_option linter.all false
set_option maxRecDepth 100000
set_option maxHeartbeats 1000000
/-! drawn programs and placings may be written -/
namespace JF
open PySem PySem.Spec PyProof PyProof.Rows L2 GxR GA
theorem wt_tok {w : Str} {t : Option Int} (hw : w.length ≤ 4) (h : ∀ i, t = some i → SmI i) : wt (tokW w t) ≤ 30 := by
  cases t with
  | none => exact Nat.zero_le _
  | some i => have := lenT (h i rfl); show w.length + 1 + ((tW i).length + 1 + 0) ≤ 30; omega
theorem row_nm {row : RowD} {r : Int} {nm : Str} {xs : List Int} {g : Int} (h : row = .make r nm xs g ∨ row = .call r nm xs g) (hf : RowF row) : nm.length ≤ 10 ∧ xs.length ≤ 8 ∧ SmA xs := by
  rcases h with rfl | rfl
  · exact ⟨nm_len hf.2.1, by have := hf.2.2.1.1; omega, hf.2.2.1.sm⟩
  · exact ⟨nm_len hf.2.1, hf.2.2.1.1, hf.2.2.1.sm⟩
theorem wt_head {row : RowD} {t : Option Int} (h : RowF row) (ht : ∀ i, t = some i → SmI i) : wt (headW row t) ≤ 300 := by
  have sm := row_sm h
  have c1 : ("=" : Str).length = 1 := by decide +kernel
  have c2 : ("<" : Str).length = 1 := by decide +kernel
  have c3 : ("+" : Str).length = 1 := by decide +kernel
  have c4 : ("-" : Str).length = 1 := by decide +kernel
  have c5 : ("case" : Str).length = 4 := by decide +kernel
  have c6 : ("give" : Str).length = 4 := by decide +kernel
  have c7 : ("in" : Str).length ≤ 4 := by decide +kernel
  have c8 : ("into" : Str).length ≤ 4 := by decide +kernel
  cases row with
  | num r n g => have := lenR sm.1; have := lenI sm.2.1; show (rW r).length + 1 + (("=" : Str).length + 1 + ((iW n).length + 1 + 0)) ≤ 300; omega
  | ari sub r a b g =>
    have := lenR sm.1; have := lenR sm.2.1; have := lenR sm.2.2.1
    cases sub
    · show (rW r).length + 1 + (("=" : Str).length + 1 + ((rW a).length + 1 + (("+" : Str).length + 1 + ((rW b).length + 1 + 0)))) ≤ 300; omega
    · show (rW r).length + 1 + (("=" : Str).length + 1 + ((rW a).length + 1 + (("-" : Str).length + 1 + ((rW b).length + 1 + 0)))) ≤ 300; omega
  | less a b g i => have := lenR sm.1; have := lenR sm.2.1; show (rW a).length + 1 + (("<" : Str).length + 1 + ((rW b).length + 1 + 0)) ≤ 300; omega
  | make r nm xs g =>
    obtain ⟨l1, l2, s2⟩ := row_nm (.inl rfl) h
    have := wt_regs s2; have := lenR sm.1; have := wt_tok c7 ht
    show wt ([rW r, ("=" : Str), nm] ++ regsW xs ++ tokW ("in" : Str) t) ≤ 300
    rw [wt_app, wt_app]
    have : wt [rW r, ("=" : Str), nm] = (rW r).length + 1 + (("=" : Str).length + 1 + (nm.length + 1 + 0)) := rfl
    omega
  | call r nm xs g =>
    obtain ⟨l1, l2, s2⟩ := row_nm (.inr rfl) h
    have := wt_regs s2; have := lenR sm.1; have := wt_tok c7 ht
    show wt ([rW r, ("=" : Str), nm] ++ regsW xs ++ tokW ("in" : Str) t) ≤ 300
    rw [wt_app, wt_app]
    have : wt [rW r, ("=" : Str), nm] = (rW r).length + 1 + (("=" : Str).length + 1 + (nm.length + 1 + 0)) := rfl
    omega
  | mat a brs =>
    have := lenR sm.1; have := wt_tok c8 ht
    show wt ([("case" : Str), rW a] ++ tokW ("into" : Str) t) ≤ 300
    rw [wt_app]
    have : wt [("case" : Str), rW a] = ("case" : Str).length + 1 + ((rW a).length + 1 + 0) := rfl
    omega
  | give r => have := lenR sm; show ("give" : Str).length + 1 + ((rW r).length + 1 + 0) ≤ 300; omega
theorem PlRF.ok {row : RowD} {p : PlR} (h : RowF row) (q : PlRF row p) : RowOk row p := by
  refine ⟨row_sm h, row_few h, fun t ht => (q.tok t ht).2.sm (by decide) (by decide), fun d hd => deed_sm (q.before.2 d hd), fun e he => ⟨fun d hd => deed_sm ((q.edges e he).2 d hd), by have := wt_deedsF (q.edges e he); omega⟩, fun a brs e b hb => ?_⟩
  subst e
  have := (h.2.2.2 b hb).1
  have := wt_regs this.sm
  have := (h.2.2.2 b hb).1.1
  omega
theorem wt_ends {row : RowD} {es : List (List DeedD)} (h : RowF row) (he : ∀ e ∈ es, DeedsF e) : wt (commas (endsW row es)) ≤ 16000 := by
  have few := nexts_few (row_few h)
  have smn := nexts_sm (row_sm h)
  have h1 : ("," : Str).length = 1 := by decide +kernel
  have key : ∀ ps : List (List Str), ps.length ≤ 6 → (∀ p ∈ ps, wt p ≤ 2600) → wt (commas ps) ≤ 16000 := fun ps l hp => by
    have := wt_flat (fun ps : List Str => ps ++ [(Str.ofString ",")]) 2602 ps (fun p hq => by
      rw [wt_app, wt_cons, wt_nil]
      have := hp p hq
      show wt p + (("," : Str).length + 1 + 0) ≤ 2602
      omega)
    have e : wt (commas ps) ≤ 2602 * ps.length := this
    omega
  have ends : ∀ p ∈ zipEnds row.nexts es, wt p ≤ 2422 := fun p hp => by
    obtain ⟨ge, hge, rfl⟩ := List.mem_map.mp hp
    have m := List.of_mem_zip (a := ge.1) (b := ge.2) hge
    have := wt_endW (ds := ge.2) (smn ge.1 m.1)
    have := wt_deedsF (he ge.2 m.2)
    omega
  have lz : (zipEnds row.nexts es).length ≤ 6 := by rw [zipEnds_len]; omega
  cases row with
  | mat a brs =>
    refine key _ ?_ fun p hp => ?_
    · show ((brs.zip (zipEnds (RowD.mat a brs).nexts es)).map _).length ≤ 6
      rw [List.length_map, List.length_zip]; omega
    · obtain ⟨be, hbe, rfl⟩ := List.mem_map.mp hp
      have m := List.of_mem_zip (a := be.1) (b := be.2) hbe
      have r := (h.2.2.2 be.1 m.1).1
      have := wt_regs r.sm
      have := r.1
      have := ends be.2 m.2
      rw [wt_app]; omega
  | _ => exact key _ lz fun p hp => by have := ends p hp; omega
theorem wt_rowF {row : RowD} {p : PlR} (h : RowF row) (q : PlRF row p) : wt (rowW row p) ≤ 19000 := by
  have h1 := wt_deedsF q.before
  have h2 := wt_head (t := p.tok) h fun t ht => (q.tok t ht).2.sm (by decide) (by decide)
  have h3 := wt_ends h q.edges
  have h4 := wt_join (endsW row p.edges)
  unfold rowW
  rw [wt_app, wt_app, wt_app]
  have : wt [(";" : Str)] = 2 := by decide +kernel
  omega
theorem wt_funF {f : FunD} {p : PlF} (h : FunF f p) : wt (funW f p) ≤ 1150000 := by
  have e1 : wt [("fun" : Str), f.name] ≤ 20 := by
    have := nm_len h.name
    have h1 : ("fun" : Str).length = 3 := by decide +kernel
    show ("fun" : Str).length + 1 + (f.name.length + 1 + 0) ≤ 20
    omega
  have e2 : wt [f.result, ("{" : Str)] ≤ 20 := by
    have := field_len h.result
    have h1 : ("{" : Str).length = 1 := by decide +kernel
    show f.result.length + 1 + (("{" : Str).length + 1 + 0) ≤ 20
    omega
  have e3 := wt_list (zs := f.params) (c := 10) fun z hz => field_len (h.params.2 z hz)
  have e4 := h.params.1
  have e5 : wt (entryW p.entry) ≤ 2420 := by
    have := wt_deedsF h.entry
    have h1 : wt [("entry" : Str)] = 6 := by decide +kernel
    have h2 : wt [(";" : Str)] = 2 := by decide +kernel
    unfold entryW
    split
    · exact Nat.zero_le _
    · rw [wt_app, wt_app]; omega
  have e6 := wt_flat (fun rp : RowD × PlR => rowW rp.1 rp.2) 19000 (f.rows.zip p.rows) fun rp hrp => wt_rowF (h.rows rp hrp).1 (h.rows rp hrp).2
  have e7 : (f.rows.zip p.rows).length ≤ 60 := by rw [List.length_zip]; have := h.r60; omega
  have e8 : wt [("}" : Str)] = 2 := by decide +kernel
  unfold funW
  rw [wt_app, wt_app, wt_app, wt_app, wt_app]
  omega
theorem FunF.ok {f : FunD} {p : PlF} (h : FunF f p) : FunOk f p := by
  refine ⟨h.len, fun d hd => deed_sm (h.entry.2 d hd), fun i h1 h2 => ?_, by have := wt_funF h; omega⟩
  have m : (f.rows[i], p.rows[i]) ∈ f.rows.zip p.rows := List.mem_iff_getElem.mpr ⟨i, by rw [List.length_zip]; omega, by rw [List.getElem_zip]⟩
  exact PlRF.ok (h.rows _ m).1 (h.rows _ m).2
/-! ### kinds -/
abbrev KL' := List (Str × List (Str × List Str))
structure KOk (ks : KL') : Prop where
  h1 : 1 ≤ ks.length
  h6 : ks.length ≤ 6
  m1 : ∀ k ∈ ks, 1 ≤ k.2.length
  m6 : ∀ k ∈ ks, k.2.length ≤ 6
  f4 : ∀ k ∈ ks, ∀ m ∈ k.2, m.2.length ≤ 4
  nh : ∀ z ∈ kNames ks, isHigh (.str z) = true
  nd : (kNames ks).Nodup
  th : ∀ z ∈ kMakers ks, isHigh (.str z) = true
  td : (kMakers ks).Nodup
  fl : ∀ k ∈ ks, ∀ m ∈ k.2, ∀ z ∈ m.2, z = "number" ∨ z ∈ kNames ks
theorem uniq_len {xs : List Str} (h : xs.Nodup) : (SL.uniq xs).length = xs.length := by
  have key : ∀ (xs seen : List Str), (seen ++ xs).Nodup → (SL.met seen xs).length = seen.length + xs.length := by
    intro xs
    induction xs with
    | nil => intro seen _; rfl
    | cons x r ih =>
      intro seen h
      have nx : seen.any (· == x) = false := by
        rw [Bool.eq_false_iff]
        intro z
        obtain ⟨y, hy, e⟩ := List.any_eq_true.mp z
        have e : y = x := by simpa using e
        subst e
        exact (List.nodup_append.mp h).2.2 y hy y (List.mem_cons_self ..) rfl
      show (SL.met (SL.addTo seen x) r).length = _
      have e : SL.addTo seen x = seen ++ [x] := by unfold SL.addTo; rw [nx]; rfl
      rw [e, ih _ (by rw [List.append_assoc]; exact h), List.length_append, List.length_cons, List.length_cons, List.length_nil]
      omega
  have := key xs [] h
  have h0 : (SL.met [] xs).length = 0 + xs.length := this
  show (SL.met [] xs).length = xs.length
  omega
theorem kindsOf_dKnds (ks : KL') : kindsOf (dKnds ks) = ks := by
  have e2 : ∀ zs : List Str, fieldsOf (strsD zs) = zs := fun zs => by
    show (zs.map PyData.str).map strOf = zs
    rw [List.map_map]
    exact List.map_id' zs
  have e1 : ∀ ms : List (Str × List Str), makersOf (.tuple (ms.map dMkr)) = ms := fun ms => by
    show (ms.map dMkr).map makerOf = ms
    rw [List.map_map]
    refine (List.map_congr_left fun m _ => ?_).trans (List.map_id' ms)
    show (strOf (.str m.1), fieldsOf (strsD m.2)) = m
    rw [e2]; rfl
  show (ks.map dKnd).map kindOf' = ks
  rw [List.map_map]
  refine (List.map_congr_left fun k _ => ?_).trans (List.map_id' ks)
  show (strOf (.str k.1), makersOf (.tuple (k.2.map dMkr))) = k
  rw [e1]; rfl
theorem kmem {ks : KL'} {k : Str × List (Str × List Str)} (h : k ∈ ks) : k.1 ∈ kNames ks := List.mem_map_of_mem h
theorem mmem {ks : KL'} {k : Str × List (Str × List Str)} {m : Str × List Str} (h : k ∈ ks) (hm : m ∈ k.2) : m.1 ∈ kMakers ks := List.mem_flatMap.mpr ⟨k, h, List.mem_map_of_mem hm⟩
theorem KOk.fields {ks : KL'} (h : KOk ks) {k : Str × List (Str × List Str)} {m : Str × List Str} {z : Str} (hk : k ∈ ks) (hm : m ∈ k.2) (hz : z ∈ m.2) : isField (.str z) = true := by
  show (isHigh (.str z) || decide (z = "number")) = true
  rcases h.fl k hk m hm z hz with e | e
  · rw [decide_eq_true e, Bool.or_true]
  · rw [h.nh z e, Bool.true_or]
theorem inV_strs {z : Str} {xs : List Str} : inV (.str z) (xs.map V.str) = decide (z ∈ xs) := by
  unfold inV
  rw [List.any_map]
  by_cases h : z ∈ xs
  · rw [decide_eq_true h]
    refine List.any_eq_true.mpr ⟨z, h, ?_⟩
    show eqV (.str z) (.str z) = true
    unfold eqV; simp
  · rw [decide_eq_false h]
    refine List.any_eq_false.mpr fun y hy q => h ?_
    have q : eqV (.str y) (.str z) = true := q
    unfold eqV at q
    simp at q
    exact q ▸ hy
theorem KOk.is {ks : KL'} (h : KOk ks) : isKinds (dKnds ks) = true := by
  have h1 : isTup 1 6 isKind (dKnds ks) = true := by
    show ((decide ((1 : Int) ≤ ((ks.map dKnd).length : Nat)) && decide (((ks.map dKnd).length : Int) ≤ 6)) && (ks.map dKnd).all isKind) = true
    rw [List.length_map, decide_eq_true (by have := h.h1; omega), decide_eq_true (by have := h.h6; omega), List.all_map]
    refine List.all_eq_true.mpr fun k hk => ?_
    have h2 : isMakers (.tuple (k.2.map dMkr)) = true := by
      show ((decide ((1 : Int) ≤ ((k.2.map dMkr).length : Nat)) && decide (((k.2.map dMkr).length : Int) ≤ 6)) && (k.2.map dMkr).all isMaker) = true
      rw [List.length_map, decide_eq_true (by have := h.m1 k hk; omega), decide_eq_true (by have := h.m6 k hk; omega), List.all_map]
      refine List.all_eq_true.mpr fun m hm => ?_
      have h3 : isFields (strsD m.2) = true := by
        show ((decide ((0 : Int) ≤ ((m.2.map PyData.str).length : Nat)) && decide (((m.2.map PyData.str).length : Int) ≤ 4)) && (m.2.map PyData.str).all isField) = true
        rw [List.length_map, decide_eq_true (by omega), decide_eq_true (by have := h.f4 k hk m hm; omega), List.all_map]
        exact List.all_eq_true.mpr fun z hz => h.fields hk hm hz
      show (isHigh (.str m.1) && isFields (strsD m.2)) = true
      rw [h.th _ (mmem hk hm), h3]; rfl
    show (isHigh (.str k.1) && isMakers (.tuple (k.2.map dMkr))) = true
    rw [h.nh _ (kmem hk), h2]; rfl
  unfold isKinds
  rw [h1, kindsOf_dKnds, Bool.true_and]
  unfold goodK
  rw [uniq_len h.nd, uniq_len h.td, decide_eq_false (Nat.lt_irrefl _), decide_eq_false (Nat.lt_irrefl _)]
  refine (Bool.and_eq_true _ _).mpr ⟨rfl, List.all_eq_true.mpr fun z hz => ?_⟩
  obtain ⟨k, hk, hz⟩ := List.mem_flatMap.mp hz
  obtain ⟨m, hm, hz⟩ := List.mem_flatMap.mp hz
  rcases h.fl k hk m hm z hz with e | e
  · rw [decide_eq_true e, Bool.true_or]
  · rw [inV_strs, decide_eq_true e, Bool.or_true]
theorem wt_kindF {ks : KL'} (h : KOk ks) {k : Str × List (Str × List Str)} (hk : k ∈ ks) : wt (kndW k) ≤ 600 := by
  have e1 := wt_flat mkrW 75 k.2 fun m hm => by
    have := wt_list (zs := m.2) (c := 10) fun z hz => field_len (h.fields hk hm hz)
    have := h.f4 k hk m hm
    have := nm_len (h.th _ (mmem hk hm))
    show wt ([m.1] ++ listW m.2) ≤ 75
    rw [wt_app]
    have : wt [m.1] = m.1.length + 1 + 0 := rfl
    omega
  have e2 := h.m6 k hk
  have e3 := nm_len (h.nh _ (kmem hk))
  have e4 : ("kind" : Str).length = 4 := by decide +kernel
  have e5 : ("{" : Str).length = 1 := by decide +kernel
  have e6 : wt [("}" : Str)] = 2 := by decide +kernel
  unfold kndW
  rw [wt_app, wt_app]
  have : wt [("kind" : Str), k.1, ("{" : Str)] = ("kind" : Str).length + 1 + (k.1.length + 1 + (("{" : Str).length + 1 + 0)) := rfl
  omega
/-! ### programs and their placings -/
structure PrgF (p : Prg) (ps : List PlF) : Prop where
  kinds : KOk p.kinds
  f1 : 1 ≤ p.funs.length
  f12 : p.funs.length ≤ 12
  len : ps.length = p.funs.length
  funs : ∀ fp ∈ p.funs.zip ps, FunF fp.1 fp.2
theorem PrgF.fun {p : Prg} {ps : List PlF} (h : PrgF p ps) {f : FunD} (hf : f ∈ p.funs) : ∃ q, FunF f q := by
  obtain ⟨y, hy⟩ := zip_mem h.len hf
  exact ⟨y, h.funs _ hy⟩
theorem PrgF.ok {p : Prg} {ps : List PlF} (h : PrgF p ps) : WrOk p ps := by
  refine ⟨?_, ?_, fun g hg => ?_, by have := h.f12; omega, h.len, fun i h1 h2 => ?_, fun k hk => by have := wt_kindF h.kinds hk; omega, ?_⟩
  · show (isKinds (dKnds p.kinds) && isFunctions (.tuple (p.funs.map dFun))) = true
    have : isFunctions (.tuple (p.funs.map dFun)) = true := by
      show ((decide ((1 : Int) ≤ ((p.funs.map dFun).length : Nat)) && decide (((p.funs.map dFun).length : Int) ≤ 12)) && (p.funs.map dFun).all isFunction) = true
      rw [List.length_map, decide_eq_true (by have := h.f1; omega), decide_eq_true (by have := h.f12; omega), List.all_map]
      refine List.all_eq_true.mpr fun f hf => ?_
      obtain ⟨q, hq⟩ := h.fun hf
      exact fun_is hq
    rw [h.kinds.is, this]; rfl
  · show (decide ((ps.map dPlF).length = p.funs.length) && (p.funs.zip (ps.map dPlF)).all fun x => fitsFun x.1 x.2) = true
    rw [List.length_map, decide_eq_true h.len, zip_map_r, List.all_map]
    exact List.all_eq_true.mpr fun x hx => plf_fits (h.funs x hx)
  · obtain ⟨q, hq⟩ := h.fun hg
    exact ⟨fun r hr => row_few (hq.row hr), by have := hq.r60; omega⟩
  · have m : (p.funs[i], ps[i]) ∈ p.funs.zip ps := List.mem_iff_getElem.mpr ⟨i, by rw [List.length_zip]; omega, by rw [List.getElem_zip]⟩
    exact FunF.ok (h.funs _ m)
  · have e1 := wt_flat kndW 600 p.kinds fun k hk => wt_kindF h.kinds hk
    have e2 := h.kinds.h6
    have e3 := wt_flat (fun fp : FunD × PlF => funW fp.1 fp.2) 1150000 (p.funs.zip ps) fun fp hfp => wt_funF (h.funs fp hfp)
    have e4 : (p.funs.zip ps).length ≤ 12 := by rw [List.length_zip]; have := h.f12; omega
    unfold prgW
    rw [wt_app]
    omega
end JF
set_option Elab.async false
set_option linter.all false
set_option maxRecDepth 100000
set_option maxHeartbeats 4000000
/-! displays of data while a list at L is being filled -/
namespace JF
open PySem PySem.Spec PyProof.Rows L2 GxR GA
/-- the heap without L -/
def era (L : Addr) (H : Hp) : Hp := fun b => if b = L then none else H b
section
variable {K : PySem.W.Frag} {T : List Addr} {L : Addr} {H H' H2 : Hp}
theorem era_ne {b : Addr} (n : b ≠ L) : era L H b = H b := if_neg n
theorem era_some {b : Addr} {o : HO} (h : era L H b = some o) : b ≠ L ∧ H b = some o := by
  by_cases n : b = L
  · rw [show era L H b = none from if_pos n] at h
    cases h
  · rw [era_ne n] at h
    exact ⟨n, h⟩
theorem tb_era (n : L ∉ T) (t : TbOk T H) : TbOk T (era L H) := fun P hP => by
  obtain ⟨ps, e, r⟩ := t P hP
  exact ⟨ps, by rw [era_ne (fun z => n (by rw [← z]; exact hP))]; exact e, r⟩
theorem tb_unera (t : TbOk T (era L H)) : TbOk T H := fun P hP => by
  obtain ⟨ps, e, r⟩ := t P hP
  exact ⟨ps, (era_some e).2, r⟩
/-- all but L only grows -/
structure Off (T : List Addr) (L : Addr) (H H' : Hp) : Prop where
  ex : Ex T (era L H) (era L H')
  at' : ∀ o, H L = some o → H' L = some o
theorem Off.refl : Off T L H H := ⟨Ex.refl, fun _ h => h⟩
theorem Off.trans (a : Off T L H H') (b : Off T L H' H2) : Off T L H H2 := ⟨a.ex.trans b.ex, fun o h => b.at' o (a.at' o h)⟩
theorem Off.of (n : L ∉ T) (x : Ex T H H') : Off T L H H' :=
  ⟨⟨fun t => tb_era n (x.tb (tb_unera t)), fun b o e hb => by
    obtain ⟨n2, h⟩ := era_some e
    rw [era_ne n2]
    exact x.keep b o h hb⟩, fun o h => x.keep L o h n⟩
/-- L itself is filled on -/
theorem Ex.fill {o : HO} : Ex T (era L H) (era L (L2.upd H L o)) := by
  have e : era L (L2.upd H L o) = era L H := by
    funext b
    by_cases h : b = L
    · rw [show era L H b = none from if_pos h]
      exact if_pos h
    · rw [era_ne h, era_ne h, upd_ne h]
  rw [e]
  exact Ex.refl
theorem rd_mono {G H : Hp} (m : ∀ b o, G b = some o → H b = some o) {a : Addr} {o : HO} (h : Rd G a o) : Rd H a o := by
  rcases h with h | ⟨u, h⟩
  · exact .inl (m _ _ h)
  · exact .inr ⟨u, m _ _ h⟩
mutual
theorem Rp.mono {G H : Hp} (m : ∀ b o, G b = some o → H b = some o) : ∀ {v : V} {d : PyData}, Rp K G v d → Rp K H v d
  | _, _, .non => .non
  | _, _, .bl b => .bl b
  | _, _, .int i => .int i
  | _, _, .str s h => .str s h
  | _, _, .lst h r => .lst (h.imp (rd_mono m) id) (RpAll.mono m r)
  | _, _, .tup h r => .tup (h.imp (rd_mono m) id) (RpAll.mono m r)
  | _, _, .dic h => .dic (m _ _ h)
theorem RpAll.mono {G H : Hp} (m : ∀ b o, G b = some o → H b = some o) : ∀ {vs : List V} {ds : List PyData}, RpAll K G vs ds → RpAll K H vs ds
  | _, _, .nil => .nil
  | _, _, .cons r s => .cons (Rp.mono m r) (RpAll.mono m s)
end
theorem Rp.un {v : V} {d : PyData} (r : Rp K (era L H) v d) : Rp K H v d := r.mono fun _ _ e => (era_some e).2
theorem sqT_era {q : Addr} {xs ys : List V} (hL : H L = some (.lst ys)) (h : SqT K H q xs) : SqT K (era L H) q xs := by
  rcases h with (h | ⟨u, h⟩) | h
  · exact .inl (.inl (by rw [era_ne (fun z => by rw [z, hL] at h; cases h)]; exact h))
  · exact .inl (.inr ⟨u, by rw [era_ne (fun z => by rw [z, hL] at h; cases h)]; exact h⟩)
  · exact .inr h
mutual
theorem Rp.dp : ∀ {v : V} {d : PyData}, Rp K H v d → d.hasDict = false → Dp K H v d
  | _, _, .non, _ => .non
  | _, _, .bl b, _ => .bl b
  | _, _, .int i, _ => .int i
  | _, _, .str s _, _ => .str s
  | _, _, .lst h r, n => .lst h (RpAll.dp r n)
  | _, _, .tup h r, n => .tup h (RpAll.dp r n)
  | _, _, .dic _, n => by cases n
theorem RpAll.dp : ∀ {vs : List V} {ds : List PyData}, RpAll K H vs ds → PyData.hasDictAll ds = false → DpAll K H vs ds
  | _, _, .nil, _ => .nil
  | _, _, .cons r s, n => by
    have n' : (PyData.hasDict _ || PyData.hasDictAll _) = false := n
    rw [Bool.or_eq_false_iff] at n'
    exact .cons (Rp.dp r n'.1) (RpAll.dp s n'.2)
end
end
abbrev Pr := Addr → L2.St → Hp → Prop
structure Stays (K : PySem.W.Frag) (T : List Addr) (pre : Pr) : Prop where
  go : ∀ L σ G G', Ex T G G' → TbOk T G → pre L σ G → pre L σ G'
def tDat (K : PySem.W.Frag) (T : List Addr) (pre : Pr) (d : PyData) : TE := fun σ H Q => ∃ L, L ∉ T ∧ H L ≠ none ∧ TbOk T H ∧ pre L σ (era L H) ∧ ∀ v H', Off T L H H' → Rp K (era L H') v d → Q v H'
def tDats (K : PySem.W.Frag) (T : List Addr) (pre : Pr) (ds : List PyData) : TA := fun σ H Q => ∃ L, L ∉ T ∧ H L ≠ none ∧ TbOk T H ∧ pre L σ (era L H) ∧ ∀ vs H', Off T L H H' → RpAll K (era L H') vs ds → Q vs H'
theorem pe_weak {X : Cx} {e : Expr} {t t' : TE} (h : PE X e t) (w : ∀ σ H Q, t' σ H Q → t σ H Q) : PE X e t' := ⟨fun pins s σ H Q I q => h.run pins s σ H Q I (w _ _ _ q)⟩
theorem pa_weak {X : Cx} {es : List Expr} {t t' : TA} (h : PA X es t) (w : ∀ σ H Q, t' σ H Q → t σ H Q) : PA X es t' := ⟨fun pos pins s σ H Q I q => h.run pos pins s σ H Q I (w _ _ _ q)⟩
theorem ne_none {H : Hp} {L : Addr} (h : H L ≠ none) : ∃ o, H L = some o := by
  cases e : H L with
  | none => exact absurd e h
  | some o => exact ⟨o, rfl⟩
theorem Off.ne {T : List Addr} {L : Addr} {H H' : Hp} (x : Off T L H H') (h : H L ≠ none) : H' L ≠ none := by
  obtain ⟨o, e⟩ := ne_none h
  rw [x.at' o e]
  simp
theorem Off.new {T : List Addr} {L p : Addr} {H : Hp} {o : HO} (h : H L ≠ none) (n : H p = none) : Off T L H (upd H p o) ∧ p ≠ L := by
  have np : p ≠ L := fun z => h (z ▸ n)
  refine ⟨⟨⟨fun t P hP => ?_, fun b u e hb => ?_⟩, fun u e => by rw [upd_ne (Ne.symm np)]; exact e⟩, np⟩
  · obtain ⟨ps, e, r⟩ := t P hP
    obtain ⟨n2, e2⟩ := era_some e
    exact ⟨ps, by rw [era_ne n2, upd_ne (ne_of_none e2 n)]; exact e2, r⟩
  · obtain ⟨n2, e2⟩ := era_some e
    rw [era_ne n2, upd_ne (ne_of_none e2 n)]
    exact e2
section
variable {X : Cx} {K : PySem.W.Frag} {T : List Addr} {pre : Pr}
theorem pd_nil : PA X [] (tDats K T pre []) := pa_weak pa_nil fun σ H Q ⟨L, _, _, _, _, q⟩ => q [] H Off.refl .nil
theorem pd_cons (St : Stays K T pre) {e : Expr} {es : List Expr} {d : PyData} {ds : List PyData} (he : PE X e (tDat K T pre d)) (ha : PA X es (tDats K T pre ds)) (hs : starEach (e :: es) X.env = (false, eval e X.env) :: starEach es X.env := by rfl) : PA X (e :: es) (tDats K T pre (d :: ds)) :=
  pa_weak (pa_cons he ha hs) fun σ H Q ⟨L, n, hL, t, p, q⟩ => ⟨L, n, hL, t, p, fun v H1 x1 r1 => by
    have t1 := tb_era n t
    exact ⟨L, n, x1.ne hL, tb_unera (x1.ex.tb t1), St.go _ _ _ _ x1.ex t1 p, fun vs H2 x2 r2 => q _ _ (x1.trans x2) (.cons (r1.ex x2.ex (x1.ex.tb t1)) r2)⟩⟩
theorem RpAll.few {H : Hp} {vs : List V} {ds : List PyData} (r : RpAll K H vs ds) (h : ds.length ≤ sizeLine) : vs.length ≤ sizeLine := by rw [r.len]; exact h
theorem pd_tup {es : List Expr} {ds : List PyData} {x1 : Nat} {pos : Pos} (ha : PA X es (tDats K T pre ds)) (h : ds.length ≤ sizeLine) : PE X (.Tuple es x1 pos) (tDat K T pre (.tuple ds)) :=
  pe_weak (pe_tup ha) fun σ H Q ⟨L, n, hL, t, p, q⟩ => ⟨L, n, hL, t, p, fun vs H1 x1 r1 => ⟨r1.few h, fun a ha => by
    obtain ⟨o, np⟩ := Off.new (T := T) (o := .tup vs) (x1.ne hL) ha
    exact q _ _ (x1.trans o) (.tup (.inl (.inl (by rw [era_ne np]; exact upd_same))) (r1.ex o.ex (x1.ex.tb (tb_era n t))))⟩⟩
theorem pd_lst {es : List Expr} {ds : List PyData} {pos : Pos} (ha : PA X es (tDats K T pre ds)) (h : ds.length ≤ sizeLine) : PE X (.List es pos) (tDat K T pre (.list ds)) :=
  pe_weak (pe_lst ha) fun σ H Q ⟨L, n, hL, t, p, q⟩ => ⟨L, n, hL, t, p, fun vs H1 x1 r1 => ⟨r1.few h, fun a ha => by
    obtain ⟨o, np⟩ := Off.new (T := T) (o := .lst vs) (x1.ne hL) ha
    exact q _ _ (x1.trans o) (.lst (.inl (.inl (by rw [era_ne np]; exact upd_same))) (r1.ex o.ex (x1.ex.tb (tb_era n t))))⟩⟩
theorem pd_c {e : Expr} {v : V} {d : PyData} (h : PE X e (tC v)) (r : ∀ H, Rp K H v d) : PE X e (tDat K T pre d) :=
  pe_weak h fun σ H Q ⟨L, n, hL, t, p, q⟩ => q _ _ Off.refl (r _)
theorem pd_var {e : Expr} {i : Nat} {d : PyData} (h : PE X e (tVar i)) (r : ∀ L σ G, pre L σ G → ∃ v, σ[i]? = some (some v) ∧ Rp K G v d) : PE X e (tDat K T pre d) :=
  pe_weak h fun σ H Q ⟨L, n, hL, t, p, q⟩ => by
    obtain ⟨v, e, k⟩ := r _ _ _ p
    exact ⟨v, e, q _ _ Off.refl k⟩
end
end JF
set_option Elab.async false
set_option linter.all false
set_option maxRecDepth 100000
set_option maxHeartbeats 4000000
namespace JF
open PySem PySem.Spec PyProof PyProof.Rows L2 GxR GA
/-- the heap without the well's two lists -/
def off (p q : Addr) (H : Hp) : Hp := era p (era q H)
/-- a well of draws stands at p, q; what is beside it is as tb tells -/
structure Wl (T : List Addr) (p q : Addr) (b : Nat) (H : Hp) : Prop where
  w : WellAt q b H p
  np : p ∉ T
  nq : q ∉ T
  tb : TbOk T (off p q H)
section
variable {K : PySem.W.Frag} {T : List Addr} {p q : Addr} {b : Nat} {H H' : Hp}
theorem off_some {c : Addr} {o : HO} (h : off p q H c = some o) : c ≠ p ∧ c ≠ q ∧ H c = some o := by
  obtain ⟨n1, h⟩ := era_some h
  obtain ⟨n2, h⟩ := era_some h
  exact ⟨n1, n2, h⟩
theorem off_at {c : Addr} {o : HO} (h : H c = some o) (n1 : c ≠ p) (n2 : c ≠ q) : off p q H c = some o := by
  unfold off
  rw [era_ne n1, era_ne n2]
  exact h
theorem off_un : ∀ c o, off p q H c = some o → H c = some o := fun c o h => (off_some h).2.2
theorem Wl.tbH (L : Wl T p q b H) : TbOk T H := tb_unera (tb_unera L.tb)
theorem Wl.le {b' : Nat} (L : Wl T p q b H) (h : b ≤ b') : Wl T p q b' H := by
  obtain ⟨l, l2, ne, hp, hq, w⟩ := L.w
  exact ⟨⟨l, l2, ne, hp, hq, w.le h⟩, L.np, L.nq, L.tb⟩
theorem Wl.ex (L : Wl T p q b H) (x : Ex T H H') : Wl T p q b H' ∧ Ex T (off p q H) (off p q H') := by
  have xo : Ex T (off p q H) (off p q H') := ⟨fun t => tb_era L.np (tb_era L.nq (x.tb (tb_unera (tb_unera t)))), fun c o e hc => by
    obtain ⟨n1, n2, h⟩ := off_some e
    exact off_at (x.keep c o h hc) n1 n2⟩
  obtain ⟨l, l2, ne, hp, hq, h⟩ := L.w
  exact ⟨⟨⟨l, l2, ne, x.keep p _ hp L.np, x.keep q _ hq L.nq, h⟩, L.np, L.nq, xo.tb L.tb⟩, xo⟩
theorem Wl.draw (L : Wl T p q b H) (kp : ∀ x o, H x = some o → x ≠ p → x ≠ q → H' x = some o) (w : WellAt q (b + 1) H' p) : Wl T p q (b + 1) H' ∧ Ex T (off p q H) (off p q H') := by
  have kp2 : ∀ c o, off p q H c = some o → off p q H' c = some o := fun c o e => by
    obtain ⟨n1, n2, h⟩ := off_some e
    exact off_at (kp c o h n1 n2) n1 n2
  have xo : Ex T (off p q H) (off p q H') := ⟨fun t P hP => by
    obtain ⟨ps, e, r⟩ := t P hP
    exact ⟨ps, kp2 _ _ e, r⟩, fun c o e _ => kp2 c o e⟩
  exact ⟨⟨w, L.np, L.nq, xo.tb L.tb⟩, xo⟩
theorem Wl.new (L : Wl T p q b H) {r : Addr} {o : HO} (n : H r = none) : Wl T p q b (upd H r o) ∧ Ex T (off p q H) (off p q (upd H r o)) ∧ off p q (upd H r o) r = some o := by
  obtain ⟨l, l2, ne, hp, hq, _⟩ := L.w
  obtain ⟨L', x⟩ := L.ex (Ex.new (T := T) (o := o) n)
  exact ⟨L', x, off_at upd_same (fun z => by rw [z, hp] at n; cases n) (fun z => by rw [z, hq] at n; cases n)⟩
theorem off_none {D : Addr} (n : H D = none) : off p q H D = none := by
  cases z : off p q H D with
  | none => rfl
  | some o => rw [(off_some z).2.2] at n; cases n
theorem off_upd {D : Addr} {o : HO} (n1 : D ≠ p) (n2 : D ≠ q) : off p q (upd H D o) = upd (off p q H) D o := by
  funext z
  unfold off era upd
  by_cases z1 : z = D
  · subst z1
    simp [n1, n2]
  · simp [z1]
/-- a list beside the well is filled on -/
theorem Wl.fill (L : Wl T p q b H) {D : Addr} {xs ys : List V} (hD : off p q H D = some (.lst xs)) : Wl T p q b (upd H D (.lst ys)) := by
  obtain ⟨n1, n2, h⟩ := off_some hD
  have nT : D ∉ T := L.tb.seqN hD (fun _ z => by cases z)
  obtain ⟨l, l2, ne, hp, hq, w⟩ := L.w
  refine ⟨⟨l, l2, ne, by rw [upd_ne n1.symm]; exact hp, by rw [upd_ne n2.symm]; exact hq, w⟩, L.np, L.nq, fun P hP => ?_⟩
  obtain ⟨ps, e, r⟩ := L.tb P hP
  have nP : P ≠ D := fun z => nT (by rw [← z]; exact hP)
  exact ⟨ps, by rw [off_upd n1 n2, upd_ne nP]; exact e, r⟩
theorem Wl.keep (L : Wl T p q b H) (x : Ex T (off p q H) (off p q H')) {c : Addr} {o : HO} (h : off p q H c = some o) (n : ∀ ps, o ≠ .tbl ps) : off p q H' c = some o := x.keep c o h (L.tb.seqN h n)
theorem sqT_un {a : Addr} {xs : List V} (h : SqT K (off p q H) a xs) : SqT K H a xs := by
  rcases h with (h | ⟨o, h⟩) | h
  · exact .inl (.inl (off_un _ _ h))
  · exact .inl (.inr ⟨o, off_un _ _ h⟩)
  · exact .inr h
theorem sqL_un {a : Addr} {xs : List V} (h : SqL K (off p q H) a xs) : SqL K H a xs := by
  rcases h with (h | ⟨o, h⟩) | h
  · exact .inl (.inl (off_un _ _ h))
  · exact .inl (.inr ⟨o, off_un _ _ h⟩)
  · exact .inr h
mutual
theorem Rp.offU : ∀ {v : V} {d : PyData}, Rp K (off p q H) v d → Rp K H v d
  | _, _, .non => .non
  | _, _, .bl b => .bl b
  | _, _, .int i => .int i
  | _, _, .str x h => .str x h
  | _, _, .lst h r => .lst (sqL_un h) (RpAll.offU r)
  | _, _, .tup h r => .tup (sqT_un h) (RpAll.offU r)
  | _, _, .dic h => .dic (off_un _ _ h)
theorem RpAll.offU : ∀ {vs : List V} {ds : List PyData}, RpAll K (off p q H) vs ds → RpAll K H vs ds
  | _, _, .nil => .nil
  | _, _, .cons h r => .cons (Rp.offU h) (RpAll.offU r)
end
/-- a list beside the well is changed -/
theorem Wl.fillX {D : Addr} {H0 : Hp} {xs ys : List V} (L : Wl T p q b H) (x : Ex T (off p q H0) (off p q H)) (n : off p q H0 D = none) (hD : off p q H D = some (.lst xs)) :
    Wl T p q b (upd H D (.lst ys)) ∧ Ex T (off p q H0) (off p q (upd H D (.lst ys))) ∧ off p q (upd H D (.lst ys)) D = some (.lst ys) ∧ ∀ c, c ≠ D → off p q (upd H D (.lst ys)) c = off p q H c := by
  obtain ⟨n1, n2, h⟩ := off_some hD
  refine ⟨L.fill hD, ?_, ?_, fun c hc => ?_⟩
  · rw [off_upd n1 n2]; exact x.upd0 n
  · rw [off_upd n1 n2, upd_same]
  · rw [off_upd n1 n2, upd_ne hc]
end
end JF
set_option Elab.async false
set_option linter.all false
set_option maxRecDepth 100000
set_option maxHeartbeats 2000000
/-! drawn names -/
namespace JF
open PySem PySem.Spec PyProof PyProof.Rows L2 GxR GA
abbrev sPlain : Stmt := topS 69
abbrev nPlain : List Str := ["well", "letters", "signs", "near", "name", "k", "sign"]
theorem scPlain : FnScope ["well", "letters", "signs", "near", "name", "k", "sign"] ["well", "letters"] (defScope sPlain) := ⟨rfl, rfl, rfl, by decide +kernel, rfl, by decide +kernel, by decide +kernel⟩
theorem atI_of {xs : List V} {r : Int} (h0 : 0 ≤ r) (h1 : r < (xs.length : Int)) : ∃ v, atI xs r = some v ∧ v ∈ xs := by
  obtain ⟨n, rfl⟩ := Int.eq_ofNat_of_zero_le h0
  have h : n < xs.length := by omega
  exact ⟨xs[n], atI_nat (j := n) (List.getElem?_eq_getElem h), List.getElem_mem h⟩
theorem sign_at {z : Str} {r : Int} {n : Nat} (h0 : 0 ≤ r) (h1 : r < n) (hl : z.length = n) : ∃ c, z.cps[r.toNat]? = some c := by
  have : r.toNat < z.cps.size := by
    have e : z.length = z.cps.size := rfl
    omega
  exact ⟨_, Array.getElem?_eq_getElem this⟩
theorem sign_in {z : Str} {i c : Nat} (h : z.cps[i]? = some c) : c ∈ z.cps.toList := by
  have : z.cps.toList[i]? = some c := by simpa using h
  exact List.mem_of_getElem? this
def capsOf (hi : Bool) : Str := if hi then highSigns else lowSigns
abbrev nearLow : List Str := ["rx", "r1x", "t0b", "into1", "inn", "caseA", "numbers", "fun2", "holdr1", "entry0", "kindA", "tt", "r0t0"]
abbrev nearHigh : List Str := ["Kind", "Number", "R1", "T0", "Case", "In", "R", "T", "Hold", "Entry", "R31"]
def nearOf (hi : Bool) : List Str := if hi then nearHigh else nearLow
theorem near_ok (hi : Bool) : ∀ z ∈ nearOf hi, isName (capsOf hi) (.str z) = true := by
  intro z hz
  have h : (nearOf hi).all (fun z => isName (capsOf hi) (.str z)) = true := by cases hi <;> decide +kernel
  exact List.all_eq_true.mp h z hz
theorem near_len (hi : Bool) : 1 ≤ (nearOf hi).length ∧ (nearOf hi).length ≤ 13 := by cases hi <;> decide
/-- a name but for the language's words -/
structure Half (hi : Bool) (z : Str) : Prop where
  l1 : 1 ≤ z.length
  f : firstIn (capsOf hi) z = true
  s : z.cps.toList.all nameSign = true
theorem Half.name {hi : Bool} {z : Str} (h : Half hi z) (l : z.length ≤ 10) (w : inV (.str z) wordsV = false) (c : asCell z = false) : isName (capsOf hi) (.str z) = true := by
  show ((decide (1 ≤ z.length) && decide (z.length ≤ 10)) && (firstIn (capsOf hi) z && z.cps.toList.all nameSign) && (!inV (.str z) wordsV && !asCell z)) = true
  rw [decide_eq_true h.l1, decide_eq_true l, h.f, h.s, w, c]; rfl
abbrev words11 : List Str := ["case", "drop", "entry", "free", "fun", "give", "hold", "in", "into", "kind", "number"]
theorem words_x : ∀ z ∈ words11, isLow (.str (z ++ Str.ofString "x")) = true ∧ firstIn highSigns z = false := by
  have h : words11.all (fun z => isLow (.str (z ++ Str.ofString "x")) && !firstIn highSigns z) = true := by decide +kernel
  intro z hz
  have := List.all_eq_true.mp h z hz
  simp only [Bool.and_eq_true, Bool.not_eq_true'] at this
  exact this
theorem len_cps (z : Str) : z.length = z.cps.toList.length := by simp [Str.length]
theorem cps_app (x y : Str) : (x ++ y).cps.toList = x.cps.toList ++ y.cps.toList := by
  show (x.cps ++ y.cps).toList = _
  rw [Array.toList_append]
theorem Half.app {hi : Bool} {z : Str} {c : Nat} (h : Half hi z) (hc : nameSign c = true) : Half hi (z ++ ⟨#[c]⟩) := by
  have e := cps_app z ⟨#[c]⟩
  refine ⟨by rw [Str.length_append]; have := h.l1; omega, ?_, ?_⟩
  · have f := h.f
    unfold firstIn at f ⊢
    rw [e]
    cases q : z.cps.toList with
    | nil => rw [q] at f; cases f
    | cons a r => rw [q] at f; exact f
  · rw [e, List.all_append, h.s]
    show (true && (nameSign c && true)) = true
    rw [hc]; rfl
/-- f put in the place of the first sign -/
theorem f_rest {z r : Str} {c : Nat} {t : List Nat} (e : z.cps.toList = c :: t) (er : r.cps.toList = t) (l : z.length ≤ 10) (s : t.all digit = true) : isLow (.str (Str.ofString "f" ++ r)) = true := by
  have ef : (Str.ofString "f" ++ r).cps.toList = 102 :: t := by
    rw [cps_app, er, show (Str.ofString "f").cps.toList = [102] by decide +kernel]; rfl
  have ll : (Str.ofString "f" ++ r).length = z.length := by rw [len_cps, len_cps, ef, e]; rfl
  have ds : ∀ c, c < 58 → digit c = true → nameSign c = true := by decide +kernel
  have d58 : ∀ c, digit c = true → c < 58 := fun c h => by
    have h : c ∈ (Str.ofString "0123456789").cps.toList := of_decide_eq_true h
    have : ∀ c ∈ (Str.ofString "0123456789").cps.toList, c < 58 := by decide +kernel
    exact this c h
  refine Half.name (hi := false) ⟨by rw [ll, len_cps, e]; simp, ?_, ?_⟩ (by rw [ll]; exact l) ?_ ?_
  · unfold firstIn
    rw [ef]
    show decide (102 ∈ (capsOf false).cps.toList) = true
    decide +kernel
  · rw [ef]
    show (nameSign 102 && t.all nameSign) = true
    rw [show nameSign 102 = true by decide +kernel, Bool.true_and]
    exact List.all_eq_true.mpr fun c hc => by
      have := List.all_eq_true.mp s c hc
      exact ds c (d58 c this) this
  · have h : words11.all (fun w => match w.cps.toList with | 102 :: r => !(r.all digit) | _ => true) = true := by decide +kernel
    show inV (.str _) (words11.map V.str) = false
    rw [inV_strs]
    refine decide_eq_false fun m => ?_
    have := List.all_eq_true.mp h _ m
    rw [ef] at this
    have this : (!(t.all digit)) = true := this
    rw [s] at this
    cases this
  · unfold asCell
    rw [ef]
    show (decide (102 ∈ (Str.ofString "rt").cps.toList) && _) = false
    rw [show decide (102 ∈ (Str.ofString "rt").cps.toList) = false by decide +kernel]; rfl
theorem rt_low (hi : Bool) {z : Str} {c : Nat} {t : List Nat} (e : z.cps.toList = c :: t) (h : Half hi z) (hc : c ∈ (Str.ofString "rt").cps.toList) : hi = false := by
  cases hi with
  | false => rfl
  | true =>
    have f := h.f
    unfold firstIn at f
    rw [e] at f
    have f : c ∈ highSigns.cps.toList := of_decide_eq_true f
    have : ∀ c ∈ (Str.ofString "rt").cps.toList, c ∉ highSigns.cps.toList := by decide +kernel
    exact absurd f (this c hc)
section
variable {P : Program} {w : World} {K : PySem.W.Frag} {mg : Str → Option Value} {base : Heap} {T : List Addr}
def spPlain (T : List Addr) : Sp := fun vs H Q _ => ∃ (p q : Addr) (b : Nat) (hi : Bool), vs = [.ref p, .str (capsOf hi)] ∧ Wl T p q b H ∧ b + 16 < 1000000 ∧
  ∀ H' z, isName (capsOf hi) (.str z) = true → Ex T (off p q H) (off p q H') → Wl T p q (b + 16) H' → Q (.str z) H'
theorem ok_plain {f aD : Addr} {fd dD : FuncData} (F : Fun K "_law_plain" "_law_plain" sPlain f fd) (B : BI mg) (mr : mg "range" = none)
    (GD : FnOk P w K mg base CX0 1 aD dD ["well", "many"] spDraw) (mD : mg "_law_draw" = some (.ref aD)) (kD : PySem.W.keepIn K (.ref aD) = true) (bD : Binds K dD ["well", "many"] []) :
    FnOk P w K mg base CX0 2 f fd ["well", "letters"] (spPlain T) := by
  refine F.ok scPlain (fun vs H Q E h => ?_) (fun cdv A outer s H vs Q E hr h => ?_)
  · obtain ⟨p, q, b, hi, rfl, _⟩ := h
    rfl
  · obtain ⟨p, q, b, hi, rfl, L, hb, k⟩ := h
    refine ⟨_, pss_cons (ps_set (i := 2) scPlain.nd rfl (.inl rfl) pe_str)
      (pss_cons (ps_set (i := 3) scPlain.nd rfl (.inl rfl) (pe_lst (pa_cons pe_str (pa_cons pe_str (pa_cons pe_str (pa_cons pe_str (pa_cons pe_str (pa_cons pe_str (pa_cons pe_str (pa_cons pe_str (pa_cons pe_str (pa_cons pe_str (pa_cons pe_str (pa_cons pe_str (pa_cons pe_str pa_nil)))))))))))))))
      (pss_cons (ps_if (pt_cmpR op_eq (pe_item_str (pv 1) pe_int (fun _ _ => rfl)) pe_str (nomark _)) (pss_one (ps_set (i := 3) scPlain.nd rfl (.inl rfl) (pe_lst (pa_cons pe_str (pa_cons pe_str (pa_cons pe_str (pa_cons pe_str (pa_cons pe_str (pa_cons pe_str (pa_cons pe_str (pa_cons pe_str (pa_cons pe_str (pa_cons pe_str (pa_cons pe_str pa_nil)))))))))))))) pss_nil)
      (pss_cons (ps_if (pt_cmpR op_eq (pe_call GD (hr.mono (by decide)) (by rfl) mD kD bD .nil pass0 (pa_cons (pv 0) (pa_cons pe_int pa_nil))) pe_int (nomark _)) (pss_one (ps_ret (pe_ix ix_list (pv 3) (pe_call GD (hr.mono (by decide)) (by rfl) mD kD bD .nil pass0 (pa_cons (pv 0) (pa_cons (pe_callB call_len_seq (by rfl) B.len PySem.boot_len (pa_cons (pv 3) pa_nil)) pa_nil))) (fun _ _ => rfl)))) pss_nil)
      (pss_cons (ps_set (i := 4) scPlain.nd rfl (.inl rfl) (pe_item_str (pv 1) (pe_call GD (hr.mono (by decide)) (by rfl) mD kD bD .nil pass0 (pa_cons (pv 0) (pa_cons pe_int pa_nil))) (fun _ _ => rfl)))
      (pss_cons (ps_for PassesOwn.never rfl (pi_range1 (by rfl) mr (pa_cons (pe_ix ix_list (pe_lst (pa_cons pe_int (pa_cons pe_int (pa_cons pe_int (pa_cons pe_int (pa_cons pe_int pa_nil)))))) (pe_call GD (hr.mono (by decide)) (by rfl) mD kD bD .nil pass0 (pa_cons (pv 0) (pa_cons pe_int pa_nil))) (fun _ _ => rfl)) pa_nil)) (pg_name (i := 5) scPlain.nd rfl (.inl rfl)) (pss_one (ps_set (i := 4) scPlain.nd rfl (.inl rfl) (pe_op op_add_str (pv 4) (pe_item_str (pv 2) (pe_call GD (hr.mono (by decide)) (by rfl) mD kD bD .nil pass0 (pa_cons (pv 0) (pa_cons pe_int pa_nil))) (fun _ _ => rfl))))))
      (pss_cons (ps_if (pt_cmpR op_in_seq (pv 4) (pe_tup (pa_cons pe_str (pa_cons pe_str (pa_cons pe_str (pa_cons pe_str (pa_cons pe_str (pa_cons pe_str (pa_cons pe_str (pa_cons pe_str (pa_cons pe_str (pa_cons pe_str (pa_cons pe_str pa_nil)))))))))))) rfl) (pss_one (ps_ret (pe_op op_add_str (pv 4) pe_str))) pss_nil)
      (pss_cons (ps_if (PW.pt (pw_and (pt_cmpR op_in_sign (pe_item_str (pv 4) pe_int (fun _ _ => rfl)) pe_str rfl) (pw_and1 (pt_val (pe_callB (cr_all rfl) (by rfl) B.all boot_all (pa_cons (pe_lc (own := [("sign", 6)]) (g := gName 6) (tt := tYes) (by rfl) scPlain.nd (pi_str (pe_slice sl_str (pv 4) (po_some pe_int) po_none)) (blkOk_by (N := nPlain) (sc := defScope sPlain) (by decide +kernel)) (fun _ _ _ _ _ => pg_name (i := 6) scPlain.nd rfl (.inl rfl)) (fun _ _ _ _ _ => pts_nil) (fun _ _ _ _ _ => pe_cmpR op_in_sign (pv 6) pe_str rfl)) pa_nil)))))) (pss_one (ps_ret (pe_op op_add_str pe_str (pe_slice sl_str (pv 4) (po_some pe_int) po_none)))) pss_nil)
      (pss_one (ps_ret (pv 4)))))))))), ?_⟩
    refine ⟨by show 13 ≤ sizeLine; decide, fun l3 hl3 => ?_⟩
    obtain ⟨L1, x1, e1⟩ := L.new (o := .lst (nearLow.map V.str)) hl3
    dsimp only [gName]
    refine seq_cut (fun σ G => ∃ l3, σ = [some (.ref p), some (.str (capsOf hi)), some (.str "abcdefghijklmnopqrstuvwxyzABCDEFGHIJKLMNOPQRSTUVWXYZ0123456789"), some (.ref l3), none, none, none] ∧ Wl T p q b G ∧ Ex T (off p q H) (off p q G) ∧ off p q G l3 = some (.lst ((nearOf hi).map V.str)))
      (fun σ G ⟨l3, eσ, L, x, e3⟩ => ?_) (fun rest => ?_)
    rotate_left
    · cases hi with
      | true =>
        refine ⟨_, rfl, _, 0, 65, rfl, rfl, by decide, by decide, by decide +kernel, by decide +kernel, rfl, true, by rfl, iteT ⟨by show 11 ≤ sizeLine; decide, fun l4 hl4 => ?_⟩⟩
        obtain ⟨L2, x2, e2⟩ := L1.new (o := .lst (nearHigh.map V.str)) hl4
        exact rest _ _ ⟨l4, rfl, L2, x1.trans x2, e2⟩
      | false =>
        refine ⟨_, rfl, _, 0, 97, rfl, rfl, by decide, by decide, by decide +kernel, by decide +kernel, rfl, false, by rfl, iteF ?_⟩
        exact rest _ _ ⟨l3, rfl, L1, x1, e1⟩
    · subst eσ
      have ln := near_len hi
      refine ⟨_, rfl, p, q, b, 6, rfl, L.w, by decide, by decide, by omega, fun H2 r r0 r1 kp hw => ?_⟩
      obtain ⟨L2, x2⟩ := L.draw kp hw
      have e3 := L.keep x2 e3 (fun _ z => by cases z)
      have x := x.trans x2
      refine ⟨rfl, _, rfl, ite2 (fun _ => ?_) (fun _ => ?_)⟩
      · refine ⟨_, rfl, _, rfl, _, rfl, l3, _, rfl, .inl (.inl (.inl (off_un _ _ e3))), p, q, _, _, rfl, L2.w, by rw [List.length_map]; omega, by rw [List.length_map]; omega, by omega, fun H3 r r0 r1 kp hw => ?_⟩
        obtain ⟨L3, x3⟩ := L2.draw kp hw
        obtain ⟨v, ev, mv⟩ := atI_of r0 r1
        obtain ⟨z, hz, rfl⟩ := List.mem_map.mp mv
        exact ⟨l3, _, _, _, rfl, rfl, .inl (.inl (off_un _ _ (L2.keep x3 e3 (fun _ z => by cases z)))), ev, k _ z (near_ok hi z hz) (x.trans x3) (L3.le (by omega))⟩
      · refine ⟨_, rfl, _, rfl, p, q, _, 26, rfl, L2.w, by decide, by decide, by omega, fun H3 r r0 r1 kp hw => ?_⟩
        obtain ⟨L3, x3⟩ := L2.draw kp hw
        have lc : (capsOf hi).length = 26 := by cases hi <;> decide +kernel
        obtain ⟨c, hc⟩ := sign_at (z := capsOf hi) (n := 26) r0 r1 lc
        refine ⟨_, r, c, rfl, rfl, r0, by omega, by omega, hc, ?_⟩
        have hcm := sign_in hc
        have sgn : ∀ c ∈ (capsOf hi).cps.toList, nameSign c = true := by cases hi <;> decide +kernel
        have h0 : Half hi (⟨#[c]⟩ : Str) := ⟨Nat.le_refl _, decide_eq_true hcm, by show (nameSign c && true) = true; rw [sgn c hcm]; rfl⟩
        refine ⟨by show 5 ≤ sizeLine; decide, fun l6 hl6 => ?_⟩
        obtain ⟨L4, x4, e6⟩ := L3.new (o := .lst [.int 0, .int 1, .int 2, .int 4, .int 9]) hl6
        refine ⟨_, rfl, p, q, _, 5, rfl, L4.w, by decide, by decide, by omega, fun H5 r r0 r1 kp hw => ?_⟩
        obtain ⟨L5, x5⟩ := L4.draw kp hw
        have e6 := L4.keep x5 e6 (fun _ z => by cases z)
        obtain ⟨v, ev, mv⟩ := atI_of (xs := [.int 0, .int 1, .int 2, .int 4, .int 9]) r0 (by show _ < (5 : Int); omega)
        obtain ⟨n, rfl, n0, n9⟩ : ∃ n : Int, v = .int n ∧ 0 ≤ n ∧ n ≤ 9 := by
          simp only [List.mem_cons, List.mem_nil_iff, or_false] at mv
          rcases mv with rfl | rfl | rfl | rfl | rfl <;> exact ⟨_, rfl, by decide, by decide⟩
        refine ⟨l6, _, _, _, rfl, rfl, .inl (.inl (off_un _ _ e6)), ev, n, rfl, by omega, by omega, for_it (n := n.toNat) walk_range (fun i σ G => ∃ z k5, σ = [some (.ref p), some (.str (capsOf hi)), some (.str "abcdefghijklmnopqrstuvwxyzABCDEFGHIJKLMNOPQRSTUVWXYZ0123456789"), some (.ref l3), some (.str z), k5, none] ∧ Half hi z ∧ z.length ≤ 1 + i ∧ Wl T p q (b + 3 + i) G ∧ Ex T (off p q H) (off p q G))
          ⟨_, none, rfl, h0, Nat.le_refl _, L5, ((x.trans x3).trans x4).trans x5⟩ (fun _ _ _ _ _ => trivial) (fun i y σ G G2 hi2 ⟨z, k5, eσ, hz, lz, LG, xG⟩ y => ?_) (fun σ G ⟨z, k5, eσ, hz, lz, LG, xG⟩ => ?_)⟩
        · obtain ⟨rfl, rfl⟩ := y
          subst eσ
          refine ⟨_, rfl, _, rfl, _, rfl, p, q, _, 62, rfl, LG.w, by decide, by decide, by omega, fun H6 r r0 r1 kp hw => ?_⟩
          obtain ⟨L6, x6⟩ := LG.draw kp hw
          obtain ⟨c, hc⟩ := sign_at (z := Str.ofString "abcdefghijklmnopqrstuvwxyzABCDEFGHIJKLMNOPQRSTUVWXYZ0123456789") (n := 62) r0 r1 (by decide +kernel)
          refine ⟨_, r, c, rfl, rfl, r0, by omega, ?_, hc, _, _, rfl, rfl, ?_, ?_⟩
          · rw [show (Str.ofString "abcdefghijklmnopqrstuvwxyzABCDEFGHIJKLMNOPQRSTUVWXYZ0123456789").length = 62 by decide +kernel]; omega
          · rw [show (⟨#[c]⟩ : Str).length = 1 from rfl]
            exact Nat.le_trans (m := 1000) (by omega) (by decide)
          · exact ⟨_, _, rfl, hz.app (decide_eq_true (sign_in hc)), by rw [Str.length_append]; show z.length + 1 ≤ _; omega, L6, xG.trans x6⟩
        · subst eσ
          have l10 : z.length ≤ 10 := by omega
          have LG := LG.le (show b + 3 + n.toNat ≤ b + 16 by omega)
          refine ⟨_, rfl, by show 11 ≤ sizeLine; decide, fun t ht => ⟨t, wordsV, rfl, .inr (.inl (.inl upd_same)), rfl, by decide, _, rfl, ?_⟩⟩
          obtain ⟨L7, x7, e7⟩ := LG.new (o := .tup wordsV) ht
          have xG := xG.trans x7
          cases ew : inV (.str z) wordsV with
          | true =>
            have m : z ∈ words11 := by
              have ew : inV (.str z) (words11.map V.str) = true := ew
              rw [inV_strs] at ew
              exact of_decide_eq_true ew
            obtain ⟨w1, w2⟩ := words_x z m
            have : hi = false := by
              cases hi with
              | false => rfl
              | true => have := hz.f; rw [show capsOf true = highSigns from rfl, w2] at this; cases this
            subst this
            refine iteT ⟨_, rfl, _, _, rfl, rfl, ?_, k _ _ w1 xG L7⟩
            rw [show (Str.ofString "x").length = 1 by decide +kernel]
            exact Nat.le_trans (m := 1000) (by omega) (by decide)
          | false =>
            refine iteF ?_
            obtain ⟨c0, t0, e0⟩ : ∃ c0 t0, z.cps.toList = c0 :: t0 := by
              cases q : z.cps.toList with
              | nil => have := hz.l1; rw [len_cps, q] at this; exact absurd this (by simp)
              | cons c0 t0 => exact ⟨c0, t0, rfl⟩
            have hc0 : z.cps[(0 : Int).toNat]? = some c0 := by
              have : z.cps.toList[0]? = some c0 := by rw [e0]; rfl
              simpa using this
            have hcell : asCell z = (decide (c0 ∈ (Str.ofString "rt").cps.toList) && t0.all digit) := by unfold asCell; rw [e0]
            have zi : (0 : Int) < z.length := by have := hz.l1; omega
            have lsz : z.length ≤ sizeLine := Nat.le_trans (m := 10) l10 (by decide)
            have eC : (cutS z (some 1) none).cps.toList = t0 := by
              rw [cut_tail, e0]; rfl
            refine ⟨_, rfl, z, 0, c0, rfl, rfl, Int.le_refl _, by decide, zi, hc0, c0, _, rfl, rfl, _, rfl, ?_⟩
            cases e5 : decide (c0 ∈ (Str.ofString "rt").cps.toList) with
            | false =>
              refine iteF (iteF ⟨_, rfl, k _ z (hz.name l10 ew (by rw [hcell, e5]; rfl)) xG L7⟩)
            | true =>
              have lo := rt_low hi e0 hz (of_decide_eq_true e5)
              have lt0 : t0.length ≤ 10 := by
                rw [len_cps, e0, List.length_cons] at l10
                omega
              refine iteT ⟨_, rfl, _, rfl, z, rfl, lsz, _, rfl, fun D hD => ?_⟩
              obtain ⟨L8, x8, e8⟩ := L7.new (o := .lst []) hD
              have nD := off_none (p := p) (q := q) hD
              refine lcB_it walk_str (fun i G' => Wl T p q (b + 16) G' ∧ Ex T (off p q _) (off p q G') ∧ off p q G' D = some (.lst (((t0.take i).map digit).map V.bl))) ⟨L8, x8, e8⟩ (fun _ _ _ _ => trivial) (fun i v G1 G2 hi2 ⟨L9, x9, e9⟩ y => ?_) (fun G1 ⟨L9, x9, e9⟩ => ?_)
              · obtain ⟨rfl, c, hc, rfl⟩ := y
                have hcl : t0[i]? = some c := by rw [← eC]; simpa using hc
                obtain ⟨L10, x10, e10, _⟩ := L9.fillX x9 nD e9 (ys := ((t0.take (i + 1)).map digit).map V.bl)
                refine g_one (by decide) (by show 6 < 7; decide) fun σ2 _ keep g5 => yesT ⟨_, g5, c, _, rfl, rfl, _, off_un _ _ e9, ?_, ?_⟩
                · rw [List.length_map, List.length_map, List.length_take]
                  exact small1000 (by omega)
                · rw [show ((t0.take i).map digit).map V.bl ++ [V.bl (decide (c ∈ (Str.ofString "0123456789").cps.toList))] = ((t0.take (i + 1)).map digit).map V.bl by rw [take_at hcl]; simp [digit]]
                  exact ⟨L10, x10, e10⟩
              · have eT : t0.take (cutS z (some 1) none).cps.size = t0 := List.take_of_length_le (by rw [← eC]; simp)
                rw [eT] at e9
                refine ⟨D, t0.map digit, rfl, .inl (.inl (off_un _ _ e9)), ⟨_, rfl, ?_⟩⟩
                have xE := xG.trans x9
                have ea : ((t0.map digit).all id) = t0.all digit := bools_all digit t0
                rw [ea]
                cases ed : t0.all digit with
                | false => exact iteF ⟨_, rfl, k _ z (hz.name l10 ew (by rw [hcell, e5, ed]; rfl)) xE L9⟩
                | true =>
                  subst lo
                  refine iteT ⟨_, rfl, _, rfl, z, rfl, lsz, _, _, rfl, rfl, ?_, k _ _ (f_rest e0 eC l10 ed) xE L9⟩
                  have : (cutS z (some 1) none).length = t0.length := by rw [len_cps, eC]
                  rw [this, show (Str.ofString "f").length = 1 by decide +kernel]
                  exact Nat.le_trans (m := 1000) (by omega) (by decide)
end
end JF
set_option Elab.async false
set_option linter.all false
set_option maxRecDepth 100000
set_option maxHeartbeats 2000000
/-! steps that change a list beside the well -/
namespace JF
open PySem PySem.Spec PyProof PyProof.Rows L2 GxR GA
mutual
/-- no list, no dict in it -/
def flatT : PyData → Bool
  | .list _ => false
  | .dict _ => false
  | .tuple ds => flatTs ds
  | _ => true
def flatTs : List PyData → Bool
  | [] => true
  | d :: ds => flatT d && flatTs ds
end
theorem flatTs_all {ds : List PyData} (h : ∀ d ∈ ds, flatT d = true) : flatTs ds = true := by
  induction ds with
  | nil => rfl
  | cons d ds ih =>
    show (flatT d && flatTs ds) = true
    rw [h d (List.mem_cons_self ..), ih fun x hx => h x (List.mem_cons_of_mem _ hx)]; rfl
theorem flatT_tup {ds : List PyData} (h : ∀ d ∈ ds, flatT d = true) : flatT (.tuple ds) = true := by
  unfold flatT; exact flatTs_all h
theorem flatT_map {α : Type} {f : α → PyData} {xs : List α} (h : ∀ x ∈ xs, flatT (f x) = true) : flatT (.tuple (xs.map f)) = true := flatT_tup fun d hd => by
  obtain ⟨x, hx, rfl⟩ := List.mem_map.mp hd
  exact h x hx
theorem flat_int {i : Int} : flatT (.int i) = true := by unfold flatT; rfl
theorem flat_str {i : Str} : flatT (.str i) = true := by unfold flatT; rfl
theorem flat_non : flatT .none = true := by unfold flatT; rfl
theorem flat_ints (xs : List Int) : flatT (regsD xs) = true := flatT_map fun _ _ => flat_int
theorem flat_strs (xs : List Str) : flatT (strsD xs) = true := flatT_map fun _ _ => flat_str
theorem flat_row (r : RowD) : flatT (dRow r) = true := by
  have l : ∀ ds : List PyData, (∀ d ∈ ds, flatT d = true) → flatT (.tuple ds) = true := fun ds h => flatT_tup h
  cases r <;> refine l _ fun d hd => ?_ <;> simp only [List.mem_cons, List.mem_nil_iff, or_false] at hd
  · rcases hd with rfl | rfl | rfl | rfl <;> first | exact flat_str | exact flat_int
  · rcases hd with rfl | rfl | rfl | rfl | rfl <;> first | exact flat_str | exact flat_int
  · rcases hd with rfl | rfl | rfl | rfl | rfl <;> first | exact flat_str | exact flat_int
  · rcases hd with rfl | rfl | rfl | rfl | rfl <;> first | exact flat_str | exact flat_int | exact flat_ints _
  · rcases hd with rfl | rfl | rfl | rfl | rfl <;> first | exact flat_str | exact flat_int | exact flat_ints _
  · rcases hd with rfl | rfl | rfl
    · exact flat_str
    · exact flat_int
    · refine flatT_map fun b _ => l _ fun d hd => ?_
      simp only [List.mem_cons, List.mem_nil_iff, or_false] at hd
      rcases hd with rfl | rfl
      · exact flat_ints _
      · exact flat_int
  · rcases hd with rfl | rfl <;> first | exact flat_str | exact flat_int
theorem flat_deeds (ds : List DeedD) : flatT (deedsD ds) = true := flatT_map fun d _ => by
  cases d <;> refine flatT_tup fun d hd => ?_ <;> simp only [List.mem_cons, List.mem_nil_iff, or_false] at hd
  · rcases hd with rfl | rfl <;> first | exact flat_str | exact flat_int
  · rcases hd with rfl | rfl <;> first | exact flat_str | exact flat_int
  · rcases hd with rfl | rfl | rfl <;> first | exact flat_str | exact flat_int
theorem flat_plr (p : PlR) : flatT (dPlR p) = true := flatT_tup fun d hd => by
  simp only [List.mem_cons, List.mem_nil_iff, or_false] at hd
  rcases hd with rfl | rfl | rfl
  · exact flat_deeds _
  · cases p.tok with
    | none => exact flat_non
    | some t => exact flat_int
  · exact flatT_map fun e _ => flat_deeds e
theorem flat_mkr (m : Str × List Str) : flatT (dMkr m) = true := flatT_tup fun d hd => by
  simp only [List.mem_cons, List.mem_nil_iff, or_false] at hd
  rcases hd with rfl | rfl
  · exact flat_str
  · exact flat_strs _
theorem flat_knd (k : Str × List (Str × List Str)) : flatT (dKnd k) = true := flatT_tup fun d hd => by
  simp only [List.mem_cons, List.mem_nil_iff, or_false] at hd
  rcases hd with rfl | rfl
  · exact flat_str
  · exact flatT_map fun m _ => flat_mkr m
theorem flat_fun (f : FunD) : flatT (dFun f) = true := flatT_tup fun d hd => by
  simp only [List.mem_cons, List.mem_nil_iff, or_false] at hd
  rcases hd with rfl | rfl | rfl | rfl
  · exact flat_str
  · exact flat_strs _
  · exact flat_str
  · exact flatT_map fun r _ => flat_row r
theorem flat_plf (p : PlF) : flatT (dPlF p) = true := flatT_tup fun d hd => by
  simp only [List.mem_cons, List.mem_nil_iff, or_false] at hd
  rcases hd with rfl | rfl
  · exact flat_deeds _
  · exact flatT_map fun r _ => flat_plr r
/-- the heap moves on; the list at u alone may change -/
structure Chg (K : PySem.W.Frag) (T : List Addr) (u : Addr) (G G' : Hp) : Prop where
  base : ∀ G0 : Hp, G0 u = none → Ex T G0 G → Ex T G0 G'
  tup : ∀ a xs, SqT K G a xs → SqT K G' a xs
  lst : ∀ c xs, c ≠ u → G c = some (.lst xs) → G' c = some (.lst xs)
section
variable {K : PySem.W.Frag} {T : List Addr} {u : Addr} {G G' G2 : Hp}
theorem Chg.trans (a : Chg K T u G G') (b : Chg K T u G' G2) : Chg K T u G G2 := ⟨fun G0 n x => b.base G0 n (a.base G0 n x), fun c xs h => b.tup c xs (a.tup c xs h), fun c xs n h => b.lst c xs n (a.lst c xs n h)⟩
theorem Chg.ex (x : Ex T G G') (t : TbOk T G) : Chg K T u G G' := ⟨fun G0 _ y => y.trans x, fun a xs h => x.sqT t h, fun c xs _ h => x.keep c _ h (t.seqN h fun _ z => by cases z)⟩
theorem Chg.fill {xs ys : List V} (e : G u = some (.lst xs)) : Chg K T u G (upd G u (.lst ys)) := by
  refine ⟨fun G0 n x => x.upd0 n, fun a zs h => ?_, fun c zs n h => by rw [upd_ne n]; exact h⟩
  rcases h with (h | ⟨o, h⟩) | h
  · exact .inl (.inl (by rw [upd_ne fun z => by rw [z, e] at h; cases h]; exact h))
  · exact .inl (.inr ⟨o, by rw [upd_ne fun z => by rw [z, e] at h; cases h]; exact h⟩)
  · exact .inr h
mutual
theorem Rp.tups (t : ∀ a xs, SqT K G a xs → SqT K G' a xs) : ∀ {v : V} {d : PyData}, Rp K G v d → flatT d = true → Rp K G' v d
  | _, _, .non, _ => .non
  | _, _, .bl b, _ => .bl b
  | _, _, .int i, _ => .int i
  | _, _, .str x h, _ => .str x h
  | _, _, .lst h r, f => by unfold flatT at f; cases f
  | _, _, .tup h r, f => .tup (t _ _ h) (RpAll.tups t r (by unfold flatT at f; exact f))
  | _, _, .dic h, f => by unfold flatT at f; cases f
theorem RpAll.tups (t : ∀ a xs, SqT K G a xs → SqT K G' a xs) : ∀ {vs : List V} {ds : List PyData}, RpAll K G vs ds → flatTs ds = true → RpAll K G' vs ds
  | _, _, .nil, _ => .nil
  | _, _, .cons h r, f => by
    have f := Bool.and_eq_true_iff.mp (show (flatT _ && flatTs _) = true from f)
    exact .cons (Rp.tups t h f.1) (RpAll.tups t r f.2)
end
theorem RpAll.mv {α : Type} {f : α → PyData} {vs : List V} {as : List α} (r : RpAll K G vs (as.map f)) (t : ∀ a xs, SqT K G a xs → SqT K G' a xs) (h : ∀ a, flatT (f a) = true) : RpAll K G' vs (as.map f) :=
  RpAll.tups t r (flatTs_all fun d hd => by
    obtain ⟨x, _, rfl⟩ := List.mem_map.mp hd
    exact h x)
theorem RpAll.snoc {vs : List V} {ds : List PyData} {v : V} {d : PyData} (r : RpAll K G vs ds) (h : Rp K G v d) : RpAll K G (vs ++ [v]) (ds ++ [d]) := by
  induction vs generalizing ds with
  | nil => cases r; exact .cons h .nil
  | cons a as ih =>
    cases r with
    | cons h1 r1 => exact .cons h1 (ih r1)
end
section
variable {K : PySem.W.Frag} {T : List Addr} {p q u : Addr} {b : Nat} {H H' : Hp}
theorem Wl.fillC {xs ys : List V} (L : Wl T p q b H) (e : off p q H u = some (.lst xs)) : Wl T p q b (upd H u (.lst ys)) ∧ Chg K T u (off p q H) (off p q (upd H u (.lst ys))) ∧ off p q (upd H u (.lst ys)) u = some (.lst ys) := by
  obtain ⟨n1, n2, h⟩ := off_some e
  refine ⟨L.fill e, ?_, by rw [off_upd n1 n2, upd_same]⟩
  rw [off_upd n1 n2]
  exact Chg.fill e
end
end JF
set_option Elab.async false
set_option linter.all false
set_option maxRecDepth 100000
set_option maxHeartbeats 2000000
/-! drawn names, each unlike those ahead -/
namespace JF
open PySem PySem.Spec PyProof PyProof.Rows L2 GxR GA
abbrev sUnl : Stmt := topS 70
theorem op_notInK {X : Cx} {K : PySem.W.Frag} (h : X.K = K) : OpR X (compareOp .NotIn) (rIn K true) := by
  rw [← h]
  exact op_notIn_seq
theorem pe_appK {X : Cx} {K : PySem.W.Frag} {o e : Expr} {to : TE} {t : TA} {ap cp : Pos} (hK : X.K = K) (ho : PE X o to) (ha : PA X [e] t) (h1 : attributeBase o "append" X.env (eval o X.env) = eval o X.env := by rfl)
    (h2 : ((backTo cp (starEach [e] X.env)).all (fun x => !x.1) && (backToKw cp (keywordEach [] X.env)).all (fun x => x.1.isSome) && decide ([e].length + ([] : List Keyword).length + (if ([] : List Keyword).isEmpty then 0 else 1) < 30)) = true := by rfl)
    (h3 : (ap.endLine == cp.line) = true := by rfl) (h4 : starEach [e] X.env = (false, eval e X.env) :: starEach [] X.env := by rfl) (h5 : (backTo cp (starEach [] X.env)).any (·.1) = false := by rfl) : PE X (.Call (.Attribute o "append" ap) [e] [] cp) (tBM K "list" rAppend to t) := by
  subst hK
  exact pe_bm PySem.F.plainAttrs_list PySem.F.slot_list_append PySem.F.type_list_append mt_append ho ha h1 h2 h3 h4 h5
theorem nodup_le {α : Type} [DecidableEq α] : ∀ (xs ys : List α), xs.Nodup → (∀ x ∈ xs, x ∈ ys) → xs.length ≤ ys.length
  | [], _, _, _ => Nat.zero_le _
  | x :: xs, ys, nd, h => by
    obtain ⟨n1, n2⟩ := List.nodup_cons.mp nd
    have hx := h x (List.mem_cons_self ..)
    have := nodup_le xs (ys.erase x) n2 (fun y hy => (List.mem_erase_of_ne (fun e => n1 (by rw [← e]; exact hy))).mpr (h y (List.mem_cons_of_mem _ hy)))
    rw [List.length_erase_of_mem hx] at this
    have : 0 < ys.length := List.length_pos_of_mem hx
    rw [List.length_cons]
    omega
def numK (k : Nat) : Str := Str.ofString (toString ((k : Nat) : Int))
theorem numK_ok : ∀ k, k < 100 → (numK k).cps.toList.all nameSign = true ∧ (numK k).length ≤ 2 := by
  have h : (List.range 100).all (fun k => (numK k).cps.toList.all nameSign && decide ((numK k).length ≤ 2)) = true := by decide +kernel
  intro k hk
  have := List.all_eq_true.mp h k (List.mem_range.mpr hk)
  simp only [Bool.and_eq_true, decide_eq_true_eq] at this
  exact this
theorem numK_nodup : ((List.range 100).map numK).Nodup := by decide +kernel
/-- the eight first signs and a number -/
def cand8 (z : Str) (k : Nat) : Str := cutS z none (some 8) ++ numK k
theorem cut8 (z : Str) : (cutS z none (some 8)).cps.toList = z.cps.toList.take 8 := by
  unfold cutS
  rw [HT.sIx_none]
  have e : HT.sIx z.length z.length (some 8) = min 8 z.length := HT.sIx_nat z.length z.length 8
  rw [e]
  show (z.cps.toList.drop 0).take (min 8 z.length - 0) = _
  rw [List.drop_zero, Nat.sub_zero, len_cps, ← List.take_take, List.take_length]
theorem cand8_cps (z : Str) (k : Nat) : (cand8 z k).cps.toList = z.cps.toList.take 8 ++ (numK k).cps.toList := by
  unfold cand8
  rw [cps_app, cut8]
theorem cand8_nodup (z : Str) : ((List.range 100).map (cand8 z)).Nodup := by
  have e : (List.range 100).map (cand8 z) = ((List.range 100).map numK).map (fun n => cutS z none (some 8) ++ n) := by
    rw [List.map_map]; rfl
  rw [e]
  refine List.Pairwise.map _ (fun a b h hab => h ?_) numK_nodup
  have := congrArg (fun s : Str => s.cps.toList) hab
  simp only [cps_app] at this
  have := List.append_cancel_left this
  cases a; cases b
  simp at this
  simp [this]
theorem high_half {z : Str} (h : isHigh (.str z) = true) : Half true z ∧ z.length ≤ 10 := by
  have h : ((decide (1 ≤ z.length) && decide (z.length ≤ 10)) && (firstIn highSigns z && z.cps.toList.all nameSign) && (!inV (.str z) wordsV && !asCell z)) = true := h
  simp only [Bool.and_eq_true, decide_eq_true_eq] at h
  exact ⟨⟨h.1.1.1, h.1.2.1, h.1.2.2⟩, h.1.1.2⟩
theorem half_high {z : Str} (h : Half true z) (l : z.length ≤ 10) : isHigh (.str z) = true := by
  refine Half.name h l ?_ ?_
  · show inV (.str z) (words11.map V.str) = false
    rw [inV_strs]
    refine decide_eq_false fun m => ?_
    have := (words_x z m).2
    have f := h.f
    rw [show capsOf true = highSigns from rfl, this] at f
    cases f
  · cases e : asCell z with
    | false => rfl
    | true =>
      unfold asCell at e
      cases q : z.cps.toList with
      | nil => rw [q] at e; cases e
      | cons c r =>
        rw [q] at e
        have e := Bool.and_eq_true_iff.mp (show (decide (c ∈ (Str.ofString "rt").cps.toList) && r.all digit) = true from e)
        have := rt_low true q h (of_decide_eq_true e.1)
        cases this
theorem cand8_high {z : Str} {k : Nat} (h : isHigh (.str z) = true) (hk : k < 100) : isHigh (.str (cand8 z k)) = true ∧ (cand8 z k).length ≤ 10 := by
  obtain ⟨hf, l10⟩ := high_half h
  obtain ⟨ns, nl⟩ := numK_ok k hk
  have e := cand8_cps z k
  have ll : (cand8 z k).length ≤ 10 := by
    rw [len_cps, e, List.length_append, List.length_take, ← len_cps (numK k)]
    omega
  refine ⟨half_high ⟨?_, ?_, ?_⟩ ll, ll⟩
  · rw [len_cps, e, List.length_append, List.length_take]
    have := hf.l1
    rw [len_cps] at this
    omega
  · have f := hf.f
    unfold firstIn at f ⊢
    rw [e]
    cases q : z.cps.toList with
    | nil => rw [q] at f; cases f
    | cons c r => rw [q] at f; exact f
  · rw [e, List.all_append, ns, Bool.and_true]
    exact List.all_eq_true.mpr fun c hc => List.all_eq_true.mp hf.s c (List.mem_of_mem_take hc)
section
variable {P : Program} {w : World} {K : PySem.W.Frag} {mg : Str → Option Value} {base : Heap} {T : List Addr}
def spUnl (K : PySem.W.Frag) (T : List Addr) : Sp := fun vs H Q _ => ∃ (p q : Addr) (b : Nat) (u : Addr) (names : List Str), vs = [.ref p, .ref u] ∧ Wl T p q b H ∧ b + 16 < 1000000 ∧ off p q H u = some (.lst (names.map V.str)) ∧ names.length ≤ 60 ∧
  ∀ H' z, isHigh (.str z) = true → z ∉ names → Chg K T u (off p q H) (off p q H') → off p q H' u = some (.lst ((names ++ [z]).map V.str)) → Wl T p q (b + 16) H' → Q (.str z) H'
theorem scUnl : FnScope ["well", "used", "name", "k"] ["well", "used"] (defScope sUnl) := ⟨rfl, rfl, rfl, by decide +kernel, rfl, by decide +kernel, by decide +kernel⟩
theorem ok_unl {f aP : Addr} {fd dP : FuncData} (F : Fun K "_law_unlike" "_law_unlike" sUnl f fd) (B : BI mg) (mr : mg "range" = none)
    (GP : FnOk P w K mg base CX0 2 aP dP ["well", "letters"] (spPlain T)) (mP : mg "_law_plain" = some (.ref aP)) (kP : PySem.W.keepIn K (.ref aP) = true) (bP : Binds K dP ["well", "letters"] []) :
    FnOk P w K mg base CX0 3 f fd ["well", "used"] (spUnl K T) := by
  refine F.ok scUnl (fun vs H Q E h => ?_) (fun cdv A outer s H vs Q E hr h => ?_)
  · obtain ⟨p, q, b, u, names, rfl, _⟩ := h
    rfl
  · obtain ⟨p, q, b, u, names, rfl, L, hb, hu, n60, k⟩ := h
    refine ⟨_, pss_cons (ps_set (i := 2) scUnl.nd rfl (.inr rfl) (pe_call GP (hr.mono (by decide)) (by rfl) mP kP bP .nil pass0 (pa_cons (pv 0) (pa_cons pe_str pa_nil))))
      (pss_cons (ps_if (pt_cmpR op_in_seq (pv 2) (pv 1) rfl) (pss_one (ps_set (i := 2) scUnl.nd rfl (.inr rfl) (pe_ix ix_list
        (pe_lc (own := [("k", 3)]) (g := gName 3) (by rfl) scUnl.nd (pi_range1 (by rfl) mr (pa_cons pe_int pa_nil)) (blkOk_by (N := ["well", "used", "name", "k"]) (sc := defScope sUnl) (by decide +kernel))
          (fun _ _ _ _ _ => pg_name (i := 3) scUnl.nd rfl (.inl rfl))
          (fun _ _ _ _ _ => pts_one (pt_cmpR (op_notInK (K := K) rfl) (pe_op op_add_str (pe_slice sl_str (pv 2) po_none (po_some pe_int)) (pe_callTy call_str_int (by rfl) B.str (by decide +kernel) (pa_cons (pv 3) pa_nil))) (pv 1) rfl))
          (fun _ _ _ _ _ => pe_op op_add_str (pe_slice sl_str (pv 2) po_none (po_some pe_int)) (pe_callTy call_str_int (by rfl) B.str (by decide +kernel) (pa_cons (pv 3) pa_nil)))) pe_int (fun _ _ => rfl)))) pss_nil)
      (pss_cons (ps_expr (pe_appK (K := K) rfl (pv 1) (pa_cons (pv 2) pa_nil)))
      (pss_one (ps_ret (pv 2))))), ?_⟩
    refine ⟨_, rfl, p, q, b, true, rfl, L, hb, fun H1 z hz x1 L1 => ?_⟩
    have hu1 := L.keep x1 hu (fun _ z => by cases z)
    have fl : (names.map V.str).all flatV = true := List.all_eq_true.mpr (fun y hy => by obtain ⟨u, _, rfl⟩ := List.mem_map.mp hy; rfl)
    have lz : z.length ≤ 10 := nm_len hz
    dsimp only [gName]
    refine seq_cut (fun σ G => ∃ z, σ = [some (.ref p), some (.ref u), some (.str z), none] ∧ isHigh (.str z) = true ∧ z ∉ names ∧ Wl T p q (b + 16) G ∧ Ex T (off p q H) (off p q G)) (fun σ G ⟨z, eσ, hz, nz, L2, x2⟩ => ?_) (fun rest => ?_)
    · subst eσ
      have hu2 := L.keep x2 hu (fun _ z => by cases z)
      obtain ⟨L3, c3, e3⟩ := L2.fillC (K := K) hu2 (ys := (names ++ [z]).map V.str)
      refine ⟨_, rfl, .inl ⟨rfl, _, .inl (.inl (off_un _ _ hu2))⟩, _, rfl, u, _, _, rfl, rfl, off_un _ _ hu2, by rw [List.length_map]; exact small1000 (by omega), _, rfl, ?_⟩
      rw [show names.map V.str ++ [V.str z] = (names ++ [z]).map V.str by rw [List.map_append]; rfl]
      exact k _ z hz nz ((Chg.ex x2 L.tb).trans c3) e3 L3
    · refine ⟨_, rfl, _, rfl, u, _, rfl, .inl (.inl (.inl (off_un _ _ hu1))), rfl, fl, _, rfl, ?_⟩
      rw [inV_strs]
      by_cases hm : z ∈ names
      · rw [decide_eq_true hm]
        refine iteT ⟨100, rfl, by decide, by decide, fun D hD => ?_⟩
        obtain ⟨L3, x3, hD3⟩ := L1.new (o := .lst []) hD
        have hDn := off_none (p := p) (q := q) hD
        refine lcB_it (n := 100) walk_range (fun i G => ∃ ys : List Str, off p q G D = some (.lst (ys.map V.str)) ∧ ys.length ≤ i ∧ (∀ y ∈ ys, isHigh (.str y) = true ∧ y ∉ names) ∧ (ys = [] → ∀ k, k < i → cand8 z k ∈ names) ∧ Wl T p q (b + 16) G ∧ Ex T (off p q H1) (off p q G))
          ⟨[], hD3, Nat.le_refl _, (fun _ h => by cases h), (fun _ k h => absurd h (Nat.not_lt_zero k)), L3, x3⟩ (fun _ _ _ _ => trivial) (fun i x G1 G2 hi e y => ?_) (fun G1 e => ?_)
        · obtain ⟨ys, eD, el, eA, eN, L6, x6⟩ := e
          obtain ⟨rfl, rfl⟩ := y
          have hu6 := L1.keep x6 hu1 (fun _ z => by cases z)
          have hi : i < 100 := hi
          have hz0 : ((0 : Int) + (i : Nat)) = ((i : Nat) : Int) := by omega
          have hlog : ((0 : Int) + (i : Nat)).natAbs.log2 < 1920 := logI (by omega)
          obtain ⟨ch, cl⟩ := cand8_high hz hi
          have ek : cutS z none (some 8) ++ Str.ofString (toString ((0 : Int) + (i : Nat))) = cand8 z i := by rw [hz0]; rfl
          have lsz : z.length ≤ sizeLine := Nat.le_trans lz (by decide)
          have lsum : (cutS z none (some 8)).length + (Str.ofString (toString ((0 : Int) + (i : Nat)))).length ≤ sizeLine := by
            rw [← Str.length_append, ek]
            exact Nat.le_trans cl (by decide)
          refine g_one (by decide) (by show 3 < 4; decide) fun σ2 _ keep g3 => ⟨_, (keep 2 (by decide)).trans rfl, _, rfl, z, rfl, lsz, _, g3, _, rfl, hlog, _, _, rfl, rfl, lsum, ?_⟩
          rw [ek]
          refine ⟨_, (keep 1 (by decide)).trans rfl, u, _, rfl, .inl (.inl (.inl (off_un _ _ hu6))), rfl, fl, _, rfl, ?_⟩
          show if (!inV (.str (cand8 z i)) (names.map V.str)) = true then _ else _
          rw [inV_strs]
          by_cases hm : cand8 z i ∈ names
          · rw [decide_eq_true hm]
            exact iteF ⟨ys, eD, by omega, eA, fun z0 k hk => by
              rcases Nat.lt_or_ge k i with h | h
              · exact eN z0 k h
              · have : k = i := by omega
                subst this
                exact hm, L6, x6⟩
          · rw [decide_eq_false hm]
            refine iteT ⟨_, (keep 2 (by decide)).trans rfl, _, rfl, z, rfl, lsz, _, g3, _, rfl, hlog, _, _, rfl, rfl, lsum, ys.map V.str, off_un _ _ eD, by rw [List.length_map]; exact small1000 (by omega), ?_⟩
            rw [ek]
            obtain ⟨L7, x7, e7, _⟩ := L6.fillX x6 hDn eD (ys := (ys ++ [cand8 z i]).map V.str)
            rw [show ys.map V.str ++ [V.str (cand8 z i)] = (ys ++ [cand8 z i]).map V.str by rw [List.map_append]; rfl]
            refine ⟨ys ++ [cand8 z i], e7, ?_, fun y hy => ?_, (fun z => by simp at z), L7, x7⟩
            · rw [List.length_append]
              show ys.length + 1 ≤ i + 1
              omega
            · rcases List.mem_append.mp hy with hy | hy
              · exact eA y hy
              · rw [List.mem_singleton.mp hy]
                exact ⟨ch, hm⟩
        · obtain ⟨ys, eD, el, eA, eN, L6, x6⟩ := e
          cases ys with
          | nil =>
            have all := eN rfl
            have := nodup_le _ names (cand8_nodup z) (fun y hy => by
              obtain ⟨k, hk, rfl⟩ := List.mem_map.mp hy
              exact all k (List.mem_range.mp hk))
            rw [List.length_map, List.length_range] at this
            omega
          | cons y ys =>
            have hy := eA y (List.mem_cons_self ..)
            exact ⟨D, _, _, _, rfl, rfl, .inl (.inl (off_un _ _ eD)), atI_nat (j := 0) rfl, rest _ _ ⟨y, rfl, hy.1, hy.2, L6, x1.trans x6⟩⟩
      · rw [decide_eq_false hm]
        exact iteF (rest _ _ ⟨z, rfl, hz, hm, L1, x1⟩)
end
end JF
set_option Elab.async false
set_option linter.all false
set_option maxRecDepth 100000
set_option maxHeartbeats 2000000
/-! drawn kinds -/
namespace JF
open PySem PySem.Spec PyProof PyProof.Rows L2 GxR GA
abbrev sLKs : Stmt := topS 71
abbrev nLKs : List Str := ["well", "heads", "k", "titles", "kinds", "head", "makers", "sorts", "fields", "f"]
theorem scLKs : FnScope ["well", "heads", "k", "titles", "kinds", "head", "makers", "sorts", "fields", "f"] ["well"] (defScope sLKs) := ⟨rfl, rfl, rfl, by decide +kernel, rfl, by decide +kernel, by decide +kernel⟩
theorem ix_listK {X : Cx} {K : PySem.W.Frag} (h : X.K = K) : IxR X (rIxL K) := by
  rw [← h]
  exact ix_list
def rLen (K : PySem.W.Frag) : List V → Hp → VK → Prop := fun xs H Q => ∃ p ys, xs = [.ref p] ∧ (SqL K H p ys ∨ SqT K H p ys) ∧ Q (.int (ys.length : Nat)) H
theorem call_lenK {X : Cx} {K : PySem.W.Frag} (h : X.K = K) : CallR X (.builtin "len") (rLen K) := by
  subst h
  exact call_len_seq
theorem nodup1 (z : Str) : [z].Nodup := by simp
theorem nodup_snoc {xs : List Str} {z : Str} (nd : xs.Nodup) (nz : z ∉ xs) : (xs ++ [z]).Nodup := List.nodup_append.mpr ⟨nd, nodup1 z, fun a ha b hb e => by rw [List.mem_singleton.mp hb] at e; exact nz (e ▸ ha)⟩
theorem RpAll.ofStrs {K : PySem.W.Frag} {G : Hp} : ∀ {zs : List Str}, (∀ z ∈ zs, z.length ≤ 65536) → RpAll K G (zs.map V.str) (zs.map PyData.str)
  | [], _ => .nil
  | z :: zs, h => .cons (.str z (h z (List.mem_cons_self ..))) (RpAll.ofStrs fun y hy => h y (List.mem_cons_of_mem _ hy))
theorem RpAll.ofInts {K : PySem.W.Frag} {G : Hp} : ∀ {zs : List Int}, RpAll K G (zs.map V.int) (zs.map PyData.int)
  | [] => .nil
  | z :: zs => .cons (.int z) RpAll.ofInts
/-- a maker's fields -/
def okMf (heads : List Str) (m : Str × List Str) : Prop := m.2.length ≤ 4 ∧ ∀ z ∈ m.2, z = "number" ∨ z ∈ heads
section
variable {P : Program} {w : World} {K : PySem.W.Frag} {mg : Str → Option Value} {base : Heap} {T : List Addr}
theorem pe_tupK {X : Cx} {K : PySem.W.Frag} {a : Expr} {ta : TE} {p pos : Pos} (hK : X.K = K) (hg : Gl X "tuple") (hm : X.mg "tuple" = none) (ha : PE X a ta) (na : starEach [a] X.env = (false, eval a X.env) :: starEach [] X.env := by rfl) : PE X (.Call (.Name "tuple" p) [a] [] pos) (tThen ta (kTup K)) := by
  subst hK
  exact pe_tupleOf hg hm ha na
def spLKs (K : PySem.W.Frag) (T : List Addr) : Sp := fun vs H Q _ => ∃ (p q : Addr) (b : Nat), vs = [.ref p] ∧ Wl T p q b H ∧ b + 2000 < 1000000 ∧
  ∀ H' v ks, KOk ks → Rp K (off p q H') v (dKnds ks) → Ex T (off p q H) (off p q H') → Wl T p q (b + 2000) H' → Q v H'
theorem ok_lks {f aD aU : Addr} {fd dD dU : FuncData} (F : Fun K "_law_any_kinds" "_law_any_kinds" sLKs f fd) (B : BI mg) (mr : mg "range" = none)
    (GD : FnOk P w K mg base CX0 1 aD dD ["well", "many"] spDraw) (mD : mg "_law_draw" = some (.ref aD)) (kD : PySem.W.keepIn K (.ref aD) = true) (bD : Binds K dD ["well", "many"] [])
    (GU : FnOk P w K mg base CX0 3 aU dU ["well", "used"] (spUnl K T)) (mU : mg "_law_unlike" = some (.ref aU)) (kU : PySem.W.keepIn K (.ref aU) = true) (bU : Binds K dU ["well", "used"] []) :
    FnOk P w K mg base CX0 4 f fd ["well"] (spLKs K T) := by
  refine F.ok scLKs (fun vs H Q E h => ?_) (fun cdv A outer s H vs Q E hr h => ?_)
  · obtain ⟨p, q, b, rfl, _⟩ := h
    rfl
  · obtain ⟨p, q, b, rfl, L, hb, k⟩ := h
    refine ⟨_, pss_cons (ps_set (i := 1) scLKs.nd rfl (.inl rfl) (pe_lst pa_nil))
      (pss_cons (ps_for PassesOwn.never rfl (pi_range1 (by rfl) mr (pa_cons (pe_ix ix_list (pe_lst (pa_cons pe_int (pa_cons pe_int (pa_cons pe_int (pa_cons pe_int (pa_cons pe_int pa_nil)))))) (pe_call GD (hr.mono (by decide)) (by rfl) mD kD bD .nil pass0 (pa_cons (pv 0) (pa_cons pe_int pa_nil))) (fun _ _ => rfl)) pa_nil)) (pg_name (i := 2) scLKs.nd rfl (.inl rfl)) (pss_one (ps_expr (pe_call GU (hr.mono (by decide)) (by rfl) mU kU bU .nil pass0 (pa_cons (pv 0) (pa_cons (pv 1) pa_nil))))))
      (pss_cons (ps_set (i := 3) scLKs.nd rfl (.inl rfl) (pe_lst pa_nil))
      (pss_cons (ps_set (i := 4) scLKs.nd rfl (.inl rfl) (pe_lst pa_nil))
      (pss_cons (ps_for PassesOwn.never rfl (pi_list (pv 1)) (pg_name (i := 5) scLKs.nd rfl (.inl rfl)) (pss_cons (ps_set (i := 6) scLKs.nd rfl (.inl rfl) (pe_lst pa_nil))
      (pss_cons (ps_for PassesOwn.never rfl (pi_range1 (by rfl) mr (pa_cons (pe_ix ix_list (pe_lst (pa_cons pe_int (pa_cons pe_int (pa_cons pe_int (pa_cons pe_int pa_nil))))) (pe_call GD (hr.mono (by decide)) (by rfl) mD kD bD .nil pass0 (pa_cons (pv 0) (pa_cons pe_int pa_nil))) (fun _ _ => rfl)) pa_nil)) (pg_name (i := 2) scLKs.nd rfl (.inl rfl)) (pss_cons (ps_set (i := 7) scLKs.nd rfl (.inr rfl) (pe_op op_cat (pe_lst (pa_cons pe_str pa_nil)) (pv 1)))
      (pss_cons (ps_setLc (i := 8) (own := [("f", 9)]) (g := gName 9) (tt := tYes) (by rfl) scLKs.nd rfl rfl (sw_true rfl rfl rfl (by decide +kernel)) (pi_range1 (by rfl) mr (pa_cons (pe_call GD (hr.mono (by decide)) (by rfl) mD kD bD .nil pass0 (pa_cons (pv 0) (pa_cons pe_int pa_nil))) pa_nil)) (blkOk_by (N := nLKs) (sc := defScope sLKs) (by decide +kernel)) (fun _ _ _ _ _ => pg_name (i := 9) scLKs.nd rfl (.inl rfl)) (fun _ _ _ _ _ => pts_nil) (fun _ _ _ _ _ => pe_ix (ix_listK (K := K) rfl) (pv 7) (pe_call GD (hr.mono (by decide)) (by rfl) mD kD bD .nil pass0 (pa_cons (pv 0) (pa_cons (pe_callB (call_lenK (K := K) rfl) (by rfl) B.len PySem.boot_len (pa_cons (pv 7) pa_nil)) pa_nil))) (fun _ _ => rfl)))
      (pss_one (ps_expr (pe_appK (K := K) rfl (pv 6) (pa_cons (pe_tup (pa_cons (pe_call GU (hr.mono (by decide)) (by rfl) mU kU bU .nil pass0 (pa_cons (pv 0) (pa_cons (pv 3) pa_nil))) (pa_cons (pe_tupK (K := K) rfl (by rfl) B.tuple (pv 8)) pa_nil))) pa_nil)))))))
      (pss_one (ps_expr (pe_appK (K := K) rfl (pv 4) (pa_cons (pe_tup (pa_cons (pv 5) (pa_cons (pe_tupK (K := K) rfl (by rfl) B.tuple (pv 6)) pa_nil))) pa_nil)))))))
      (pss_one (ps_ret (pe_tupK (K := K) rfl (by rfl) B.tuple (pv 4)))))))), ?_⟩
    have nk : ∀ {o : HO} {xs : List V}, o = .lst xs → ∀ ps, o ≠ .tbl ps := fun e ps z => by rw [e] at z; cases z
    refine ⟨by show 0 ≤ sizeLine; decide, fun n1 hn1 => ?_⟩
    obtain ⟨L1, x1, e1⟩ := L.new (o := .lst []) hn1
    have f1 : off p q H n1 = none := off_none hn1
    refine ⟨by show 5 ≤ sizeLine; decide, fun l0 hl0 => ?_⟩
    obtain ⟨L2, x2, e0⟩ := L1.new (o := .lst [.int 1, .int 1, .int 2, .int 3, .int 6]) hl0
    have e1 := L1.keep x2 e1 (fun _ z => by cases z)
    refine ⟨_, rfl, p, q, _, 5, rfl, L2.w, by decide, by decide, by omega, fun H3 r r0 r1 kp hw => ?_⟩
    obtain ⟨L3, x3⟩ := L2.draw kp hw
    have e0 := L2.keep x3 e0 (fun _ z => by cases z)
    have e1 := L2.keep x3 e1 (fun _ z => by cases z)
    have xx := (x1.trans x2).trans x3
    obtain ⟨v, ev, mv⟩ := atI_of (xs := [.int 1, .int 1, .int 2, .int 3, .int 6]) r0 (by show _ < (5 : Int); omega)
    obtain ⟨n, rfl, n0, n6⟩ : ∃ n : Int, v = .int n ∧ 1 ≤ n ∧ n ≤ 6 := by
      simp only [List.mem_cons, List.mem_nil_iff, or_false] at mv
      rcases mv with rfl | rfl | rfl | rfl | rfl <;> exact ⟨_, rfl, by decide, by decide⟩
    refine ⟨l0, _, _, _, rfl, rfl, .inl (.inl (off_un _ _ e0)), ev, n, rfl, by omega, by omega, for_it (n := n.toNat) walk_range (fun i σ G => ∃ (a2 : Option V) (heads : List Str), σ = [some (.ref p), some (.ref n1), a2, none, none, none, none, none, none, none] ∧ Wl T p q (b + 1 + 16 * i) G ∧ Ex T (off p q H) (off p q G) ∧ off p q G n1 = some (.lst (heads.map V.str)) ∧ heads.length = i ∧ heads.Nodup ∧ ∀ z ∈ heads, isHigh (.str z) = true)
      ⟨none, [], rfl, L3, xx, e1, rfl, List.nodup_nil, fun _ h => by cases h⟩ (fun _ _ _ _ _ => trivial) (fun i y σ G G2 hi2 ⟨a2, heads, eσ, LG, xG, eG, lh, nd, hh⟩ y => ?_) (fun σ G ⟨a2, heads, eσ, LG, xG, eG, lh, nd, hh⟩ => ?_)⟩
    · obtain ⟨rfl, rfl⟩ := y
      subst eσ
      refine ⟨_, rfl, _, rfl, p, q, _, n1, heads, rfl, LG, by omega, eG, by omega, fun G' z hz nz chg e' L' => ⟨_, heads ++ [z], rfl, L'.le (by omega), chg.base _ f1 xG, e', by rw [List.length_append]; show _ + 1 = _ + 1; omega, ?_, fun y hy => ?_⟩⟩
      · exact List.nodup_append.mpr ⟨nd, nodup1 z, fun a ha b hb e => by rw [List.mem_singleton.mp hb] at e; exact nz (e ▸ ha)⟩
      · rcases List.mem_append.mp hy with hy | hy
        · exact hh y hy
        · rw [List.mem_singleton.mp hy]; exact hz
    · subst eσ
      have LG := LG.le (show b + 1 + 16 * n.toNat ≤ b + 100 by omega)
      have lh6 : heads.length ≤ 6 := by omega
      have lh1 : 1 ≤ heads.length := by omega
      clear L1 L2 L3 x1 x2 x3 xx e0 e1 lh ev mv
      refine ⟨by show 0 ≤ sizeLine; decide, fun n3 hn3 => ⟨by show 0 ≤ sizeLine; decide, fun n4 hn4 => ?_⟩⟩
      obtain ⟨L3, x3, e3⟩ := LG.new (o := .lst []) hn3
      obtain ⟨L4, x4, e4⟩ := L3.new (o := .lst []) hn4
      have e1 := L3.keep x4 (LG.keep x3 eG (fun _ z => by cases z)) (fun _ z => by cases z)
      have n13 : n1 ≠ n3 := ne_of_none eG (off_none hn3)
      have n14 : n1 ≠ n4 := ne_of_none (LG.keep x3 eG (fun _ z => by cases z)) (off_none hn4)
      have n34 : n3 ≠ n4 := ne_of_none e3 (off_none hn4)
      have f3 : off p q H n3 = none := fresh0 xG L.tb (off_none hn3)
      have f4 : off p q H n4 = none := fresh0 (xG.trans x3) L.tb (off_none hn4)
      have e3 := L3.keep x4 e3 (fun _ z => by cases z)
      have xG := (xG.trans x3).trans x4
      clear x3 x4 L3 LG eG hn3 hn4
      dsimp only [gName]
      refine ⟨_, rfl, n1, rfl, ⟨heads.map V.str, .inl (.inl (off_un _ _ e1))⟩, for_it (n := (heads.map V.str).length) walk_list (fun i σ G => ∃ (a2 a5 a6 a7 a8 : Option V) (ks : KL') (vs : List V), σ = [some (.ref p), some (.ref n1), a2, some (.ref n3), some (.ref n4), a5, a6, a7, a8, none] ∧ Wl T p q (b + 100 + 150 * i) G ∧ Ex T (off p q H) (off p q G) ∧
          off p q G n1 = some (.lst (heads.map V.str)) ∧ off p q G n3 = some (.lst ((kMakers ks).map V.str)) ∧ off p q G n4 = some (.lst vs) ∧ RpAll K (off p q G) vs (ks.map dKnd) ∧
          kNames ks = heads.take i ∧ (kMakers ks).Nodup ∧ (∀ z ∈ kMakers ks, isHigh (.str z) = true) ∧ ∀ k ∈ ks, 1 ≤ k.2.length ∧ k.2.length ≤ 6 ∧ ∀ m ∈ k.2, okMf heads m)
        ⟨_, _, _, _, _, [], [], rfl, L4, xG, e1, e3, e4, .nil, rfl, List.nodup_nil, (fun _ h => by cases h), fun _ h => by cases h⟩ (fun i σ G _ ⟨_, _, _, _, _, _, _, _, _, _, e1, _⟩ => .inl (.inl (off_un _ _ e1)))
        (fun i x σ G G2 hi ⟨a2, a5, a6, a7, a8, ks, vs, eσ, LG, xG, e1, e3, e4, rk, kn, nt, ht, ok⟩ y => ?_) (fun σ G ⟨a2, a5, a6, a7, a8, ks, vs, eσ, LG, xG, e1, e3, e4, rk, kn, nt, ht, ok⟩ => ?_)⟩
      · obtain ⟨rfl, hx⟩ := y
        subst eσ
        rw [List.getElem?_map] at hx
        obtain ⟨head, hhd, rfl⟩ := Option.map_eq_some_iff.mp hx
        have hil : i < heads.length := (List.getElem?_eq_some_iff.mp hhd).1
        have hi6 : i < 6 := by omega
        have hhead : isHigh (.str head) = true := hh head (List.mem_of_getElem? hhd)
        have lks : ks.length = i := by
          have := congrArg List.length kn
          rw [List.length_take] at this
          have h2 : (kNames ks).length = ks.length := List.length_map ..
          omega
        have km : (kMakers ks).length ≤ 6 * ks.length := by
          have : ∀ l : KL', (∀ k ∈ l, k.2.length ≤ 6) → (kMakers l).length ≤ 6 * l.length := fun l => by
            induction l with
            | nil => intro _; exact Nat.le_refl _
            | cons k l ih =>
              intro h
              have h1 := ih fun x hx => h x (List.mem_cons_of_mem _ hx)
              have h2 := h k (List.mem_cons_self ..)
              show (k.2.map (·.1) ++ kMakers l).length ≤ 6 * (l.length + 1)
              rw [List.length_append, List.length_map]
              omega
          exact this ks fun k hk => (ok k hk).2.1
        refine ⟨by show 0 ≤ sizeLine; decide, fun n6 hn6 => ?_⟩
        obtain ⟨L5, x5, e6⟩ := LG.new (o := .lst []) hn6
        have f6 : off p q H n6 = none := fresh0 xG L.tb (off_none hn6)
        have n16 : n1 ≠ n6 := ne_of_none e1 (off_none hn6)
        have n36 : n3 ≠ n6 := ne_of_none e3 (off_none hn6)
        have n46 : n4 ≠ n6 := ne_of_none e4 (off_none hn6)
        have e1 := LG.keep x5 e1 (fun _ z => by cases z)
        have e3 := LG.keep x5 e3 (fun _ z => by cases z)
        have e4 := LG.keep x5 e4 (fun _ z => by cases z)
        have rk := rk.ex x5 LG.tb
        have xG := xG.trans x5
        clear x5 LG hn6
        refine ⟨by show 4 ≤ sizeLine; decide, fun l0 hl0 => ?_⟩
        obtain ⟨L6, x6, e0⟩ := L5.new (o := .lst [.int 1, .int 2, .int 3, .int 6]) hl0
        refine ⟨_, rfl, p, q, _, 4, rfl, L6.w, by decide, by decide, by omega, fun H7 r r0 r1 kp hw => ?_⟩
        obtain ⟨L7, x7⟩ := L6.draw kp hw
        have e0 := L6.keep x7 e0 (fun _ z => by cases z)
        have x67 := x6.trans x7
        have e1 := L5.keep x67 e1 (fun _ z => by cases z)
        have e3 := L5.keep x67 e3 (fun _ z => by cases z)
        have e4 := L5.keep x67 e4 (fun _ z => by cases z)
        have e6 := L5.keep x67 e6 (fun _ z => by cases z)
        have rk := rk.ex x67 L5.tb
        have xG := xG.trans x67
        obtain ⟨v, ev, mv⟩ := atI_of (xs := [.int 1, .int 2, .int 3, .int 6]) r0 (by show _ < (4 : Int); omega)
        obtain ⟨n, rfl, n0, n6'⟩ : ∃ n : Int, v = .int n ∧ 1 ≤ n ∧ n ≤ 6 := by
          simp only [List.mem_cons, List.mem_nil_iff, or_false] at mv
          rcases mv with rfl | rfl | rfl | rfl <;> exact ⟨_, rfl, by decide, by decide⟩
        refine ⟨l0, _, _, _, rfl, rfl, .inl (.inl (off_un _ _ e0)), ev, n, rfl, by omega, by omega, for_it (n := n.toNat) walk_range (fun j σ G => ∃ (a2 a7 a8 : Option V) (ms : List (Str × List Str)) (ws : List V), σ = [some (.ref p), some (.ref n1), a2, some (.ref n3), some (.ref n4), some (.str head), some (.ref n6), a7, a8, none] ∧ Wl T p q (b + 100 + 150 * i + 1 + 24 * j) G ∧ Ex T (off p q H) (off p q G) ∧
            off p q G n1 = some (.lst (heads.map V.str)) ∧ off p q G n3 = some (.lst ((kMakers ks ++ ms.map (·.1)).map V.str)) ∧ off p q G n4 = some (.lst vs) ∧ RpAll K (off p q G) vs (ks.map dKnd) ∧ off p q G n6 = some (.lst ws) ∧ RpAll K (off p q G) ws (ms.map dMkr) ∧
            ms.length = j ∧ (kMakers ks ++ ms.map (·.1)).Nodup ∧ (∀ z ∈ kMakers ks ++ ms.map (·.1), isHigh (.str z) = true) ∧ ∀ m ∈ ms, okMf heads m)
          ⟨_, _, _, [], [], rfl, L7, xG, e1, by rw [List.map_nil, List.append_nil]; exact e3, e4, rk, e6, .nil, rfl, by rw [List.map_nil, List.append_nil]; exact nt, by rw [List.map_nil, List.append_nil]; exact ht, fun _ h => by cases h⟩ (fun _ _ _ _ _ => trivial)
          (fun j y σ G G2 hj ⟨a2, a7, a8, ms, ws, eσ, LG, xG, e1, e3, e4, rk, e6, rm, lm, nt, ht, okm⟩ y => ?_) (fun σ G ⟨a2, a7, a8, ms, ws, eσ, LG, xG, e1, e3, e4, rk, e6, rm, lm, nt, ht, okm⟩ => ?_)⟩
        · obtain ⟨rfl, rfl⟩ := y
          subst eσ
          have hj6 : j < 6 := by have : j < n.toNat := hj; omega
          have lall : (kMakers ks ++ ms.map (·.1)).length ≤ 36 := by rw [List.length_append, List.length_map]; omega
          generalize hB : b + 100 + 150 * i + 1 + 24 * j = bB at LG
          have hB1 : bB ≤ b + 1100 := by omega
          refine ⟨by show 1 ≤ sizeLine; decide, fun o1 ho1 => ?_⟩
          obtain ⟨L8, x8, es1⟩ := LG.new (o := .lst [.str (Str.ofString "number")]) ho1
          have e1' := LG.keep x8 e1 (fun _ z => by cases z)
          refine ⟨_, rfl, o1, n1, _, _, rfl, rfl, off_un _ _ es1, off_un _ _ e1', ?_, fun o2 ho2 => ?_⟩
          · rw [List.length_map]
            exact Nat.le_of_lt (small1000 (n := 1 + heads.length) (by omega))
          obtain ⟨L9, x9, es⟩ := L8.new (o := .lst ((Str.ofString "number" :: heads).map V.str)) ho2
          have x89 := x8.trans x9
          refine ⟨_, rfl, p, q, _, 5, rfl, L9.w, by decide, by decide, by omega, fun H9 r r0 r1 kp hw => ?_⟩
          obtain ⟨L9b, x9b⟩ := L9.draw kp hw
          have es := L9.keep x9b es (fun _ z => by cases z)
          have x89 := x89.trans x9b
          refine ⟨r, rfl, by omega, by omega, fun D hD => ?_⟩
          obtain ⟨LD, xD, eD⟩ := L9b.new (o := .lst []) hD
          have nD := off_none (p := p) (q := q) hD
          have nD3 : D ≠ n3 := (ne_of_none (LG.keep x89 e3 (fun _ z => by cases z)) nD).symm
          have nD6 : D ≠ n6 := (ne_of_none (LG.keep x89 e6 (fun _ z => by cases z)) nD).symm
          have lss : (Str.ofString "number" :: heads).length ≤ 7 := by show heads.length + 1 ≤ 7; omega
          refine lcB_it (n := r.toNat) walk_range (fun t G' => ∃ fs : List Str, off p q G' D = some (.lst (fs.map V.str)) ∧ fs.length ≤ t ∧ (∀ z ∈ fs, z ∈ Str.ofString "number" :: heads) ∧ Wl T p q (bB + 1 + t) G' ∧ Ex T (off p q H9) (off p q G')) ⟨[], eD, Nat.le_refl _, (fun _ h => by cases h), LD, xD⟩ (fun _ _ _ _ => trivial) (fun t v G3 G4 ht4 ⟨fs, ef, lf, hf, L3, x3⟩ y => ?_) (fun G3 ⟨fs, ef, lf, hf, L3, x3⟩ => ?_)
          · obtain ⟨rfl, rfl⟩ := y
            have es3 := L9b.keep x3 es (fun _ z => by cases z)
            have ht5 : t < r.toNat := ht4
            refine g_one (by decide) (by show 9 < 10; decide) fun σ2 _ keep g9 => yesT ⟨_, (keep 7 (by decide)).trans rfl, _, (keep 0 (by decide)).trans rfl, _, (keep 7 (by decide)).trans rfl, o2, _, rfl, .inl (.inl (.inl (off_un _ _ es3))), p, q, _, _, rfl, L3.w, by rw [List.length_map]; exact Int.natCast_pos.mpr (Nat.succ_pos _), by rw [List.length_map]; omega, by omega, fun H5 r r0 r1 kp hw => ?_⟩
            obtain ⟨L5, x5⟩ := L3.draw kp hw
            have es5 := L3.keep x5 es3 (fun _ z => by cases z)
            have ef5 := L3.keep x5 ef (fun _ z => by cases z)
            obtain ⟨v, ev, mv⟩ := atI_of r0 r1
            obtain ⟨z, hz, rfl⟩ := List.mem_map.mp mv
            obtain ⟨L6, x6, e6f, _⟩ := L5.fillX (x3.trans x5) nD ef5 (ys := (fs ++ [z]).map V.str)
            refine ⟨o2, _, _, _, rfl, rfl, .inl (.inl (off_un _ _ es5)), ev, fs.map V.str, off_un _ _ ef5, by rw [List.length_map]; exact small1000 (by omega), ?_⟩
            rw [show fs.map V.str ++ [V.str z] = (fs ++ [z]).map V.str by rw [List.map_append]; rfl]
            refine ⟨fs ++ [z], e6f, by rw [List.length_append]; show fs.length + 1 ≤ t + 1; omega, fun y hy => ?_, L6, x6⟩
            rcases List.mem_append.mp hy with hy | hy
            · exact hf y hy
            · rw [List.mem_singleton.mp hy]; exact hz
          · have lf4 : fs.length ≤ 4 := by omega
            have L3 := L3.le (show bB + 1 + r.toNat ≤ bB + 5 by omega)
            have xx := x89.trans x3
            have e1 := LG.keep xx e1 (fun _ z => by cases z)
            have e3 := LG.keep xx e3 (fun _ z => by cases z)
            have e4 := LG.keep xx e4 (fun _ z => by cases z)
            have e6 := LG.keep xx e6 (fun _ z => by cases z)
            have rk := rk.ex xx LG.tb
            have rm := rm.ex xx LG.tb
            have xG := xG.trans xx
            refine ⟨_, rfl, .inl ⟨rfl, _, .inl (.inl (off_un _ _ e6))⟩, _, rfl, _, rfl, p, q, _, n3, _, rfl, L3, by omega, e3, by omega, fun G5 z hz nz chg e3' L5 => ?_⟩
            have e1 := chg.lst n1 _ n13 e1
            have e4 := chg.lst n4 _ n34.symm e4
            have e6 := chg.lst n6 _ n36.symm e6
            have eD := chg.lst D _ nD3 ef
            have rk := rk.mv chg.tup flat_knd
            have rm := rm.mv chg.tup flat_mkr
            have xG := chg.base _ f3 xG
            refine ⟨_, rfl, .inl ⟨D, _, rfl, .inl (.inl (off_un _ _ eD)), fun t1 ht1 => ?_⟩⟩
            obtain ⟨L10, x10, et1⟩ := L5.new (o := .tup (fs.map V.str)) ht1
            refine ⟨by show 2 ≤ sizeLine; decide, fun t2 ht2 => ?_⟩
            obtain ⟨L11, x11, et2⟩ := L10.new (o := .tup [.str z, .ref t1]) ht2
            have xy := x10.trans x11
            have e1 := L5.keep xy e1 (fun _ z => by cases z)
            have e3 := L5.keep xy e3' (fun _ z => by cases z)
            have e4 := L5.keep xy e4 (fun _ z => by cases z)
            have e6 := L5.keep xy e6 (fun _ z => by cases z)
            have et1 := L10.keep x11 et1 (fun _ z => by cases z)
            have rk := rk.ex xy L5.tb
            have rm := rm.ex xy L5.tb
            have xG := xG.trans xy
            obtain ⟨L12, chg2, e6'⟩ := L11.fillC (K := K) e6 (ys := ws ++ [.ref t2])
            have lws : ws.length = j := by rw [rm.lenM, lm]
            refine ⟨n6, ws, _, rfl, rfl, off_un _ _ e6, small1000 (by omega), ?_⟩
            have rz : Rp K (off p q (upd (upd (upd G5 t1 (.tup (fs.map V.str))) t2 (.tup [.str z, .ref t1])) n6 (.lst (ws ++ [.ref t2])))) (.ref t2) (dMkr (z, fs)) :=
              .tup (chg2.tup _ _ (.inl (.inl et2))) (.cons (.str z (Nat.le_trans (nm_len hz) (by decide))) (.cons (.tup (chg2.tup _ _ (.inl (.inl et1))) (RpAll.ofStrs fun y hy => by
                rcases List.mem_cons.mp (hf y hy) with h | h
                · rw [h]; decide +kernel
                · exact Nat.le_trans (nm_len (hh y h)) (by decide))) .nil))
            refine ⟨_, _, _, ms ++ [(z, fs)], ws ++ [.ref t2], rfl, L12.le (by omega), chg2.base _ f6 xG, chg2.lst n1 _ n16 e1, ?_, chg2.lst n4 _ n46 e4, rk.mv chg2.tup flat_knd, e6', ?_, by rw [List.length_append, lm]; rfl, ?_, ?_, fun m hm => ?_⟩
            · have := chg2.lst n3 _ n36 e3
              rw [show kMakers ks ++ (ms ++ [(z, fs)]).map (·.1) = kMakers ks ++ ms.map (·.1) ++ [z] by rw [List.map_append, List.append_assoc]; rfl]
              exact this
            · rw [List.map_append]
              exact (rm.mv chg2.tup flat_mkr).snoc rz
            · rw [show kMakers ks ++ (ms ++ [(z, fs)]).map (·.1) = kMakers ks ++ ms.map (·.1) ++ [z] by rw [List.map_append, List.append_assoc]; rfl]
              exact nodup_snoc nt nz
            · rw [show kMakers ks ++ (ms ++ [(z, fs)]).map (·.1) = kMakers ks ++ ms.map (·.1) ++ [z] by rw [List.map_append, List.append_assoc]; rfl]
              intro y hy
              rcases List.mem_append.mp hy with hy | hy
              · exact ht y hy
              · rw [List.mem_singleton.mp hy]; exact hz
            · rcases List.mem_append.mp hm with hm | hm
              · exact okm m hm
              · rw [List.mem_singleton.mp hm]
                exact ⟨lf4, fun y hy => List.mem_cons.mp (hf y hy)⟩
        · subst eσ
          have lws : ws.length = ms.length := rm.lenM
          have e6s := e6
          refine ⟨_, rfl, .inl ⟨rfl, _, .inl (.inl (off_un _ _ e4))⟩, _, rfl, _, rfl, .inl ⟨n6, ws, rfl, .inl (.inl (off_un _ _ e6)), fun t1 ht1 => ?_⟩⟩
          obtain ⟨L10, x10, et1⟩ := LG.new (o := .tup ws) ht1
          refine ⟨by show 2 ≤ sizeLine; decide, fun t2 ht2 => ?_⟩
          obtain ⟨L11, x11, et2⟩ := L10.new (o := .tup [.str head, .ref t1]) ht2
          have xy := x10.trans x11
          have e1 := LG.keep xy e1 (fun _ z => by cases z)
          have e3 := LG.keep xy e3 (fun _ z => by cases z)
          have e4 := LG.keep xy e4 (fun _ z => by cases z)
          have et1 := L10.keep x11 et1 (fun _ z => by cases z)
          have rk := rk.ex xy LG.tb
          have rm := rm.ex xy LG.tb
          have xG := xG.trans xy
          obtain ⟨L12, chg2, e4'⟩ := L11.fillC (K := K) e4 (ys := vs ++ [.ref t2])
          have lvs : vs.length = i := by rw [rk.lenM, lks]
          refine ⟨n4, vs, _, rfl, rfl, off_un _ _ e4, small1000 (by omega), ?_⟩
          have kA : kMakers (ks ++ [(head, ms)]) = kMakers ks ++ ms.map (·.1) := by unfold kMakers; rw [List.flatMap_append]; simp
          have kN : kNames (ks ++ [(head, ms)]) = heads.take (i + 1) := by
            rw [take_at hhd, ← kn]
            unfold kNames; rw [List.map_append]; rfl
          refine ⟨_, _, _, _, _, ks ++ [(head, ms)], vs ++ [.ref t2], rfl, L12.le (by omega), chg2.base _ f4 xG, chg2.lst n1 _ n14 e1, by rw [kA]; exact chg2.lst n3 _ n34 e3, e4', ?_, kN, by rw [kA]; exact nt, by rw [kA]; exact ht, fun k hk => ?_⟩
          · rw [List.map_append]
            exact (rk.mv chg2.tup flat_knd).snoc (.tup (chg2.tup _ _ (.inl (.inl et2))) (.cons (.str head (Nat.le_trans (nm_len hhead) (by decide))) (.cons (.tup (chg2.tup _ _ (.inl (.inl et1))) (rm.mv chg2.tup flat_mkr)) .nil)))
          · rcases List.mem_append.mp hk with hk | hk
            · exact ok k hk
            · rw [List.mem_singleton.mp hk]
              exact ⟨by show 1 ≤ ms.length; omega, by show ms.length ≤ 6; omega, okm⟩
      · subst eσ
        rw [List.length_map] at kn LG
        rw [List.take_length] at kn
        refine ⟨_, rfl, .inl ⟨n4, vs, rfl, .inl (.inl (off_un _ _ e4)), fun tp htp => ?_⟩⟩
        obtain ⟨L5, x5, e5⟩ := LG.new (o := .tup vs) htp
        refine k _ _ ks ?_ (.tup (.inl (.inl e5)) (rk.ex x5 LG.tb)) (xG.trans x5) (L5.le (by omega))
        have lk : ks.length = heads.length := by rw [← kn]; exact (List.length_map ..).symm
        exact ⟨by omega, by omega, fun k hk => (ok k hk).1, fun k hk => (ok k hk).2.1, fun k hk m hm => ((ok k hk).2.2 m hm).1, by rw [kn]; exact hh, by rw [kn]; exact nd, ht, nt, fun k hk m hm z hz => by rw [kn]; exact ((ok k hk).2.2 m hm).2 z hz⟩
end
end JF
set_option Elab.async false
set_option linter.all false
set_option maxRecDepth 100000
set_option maxHeartbeats 2000000
/-! drawn deeds and registers -/
namespace JF
open PySem PySem.Spec PyProof PyProof.Rows L2 GxR GA
abbrev sAnyD : Stmt := topS 72
abbrev sAnyR : Stmt := topS 73
theorem RpAll.app {K : PySem.W.Frag} {G : Hp} : ∀ {vs ws : List V} {ds es : List PyData}, RpAll K G vs ds → RpAll K G ws es → RpAll K G (vs ++ ws) (ds ++ es)
  | _, _, _, _, .nil, r => r
  | _, _, _, _, .cons h q, r => .cons h (RpAll.app q r)
theorem RpAll.rep {K : PySem.W.Frag} {G : Hp} {vs : List V} {ds : List PyData} (r : RpAll K G vs ds) : ∀ n : Nat, RpAll K G (List.replicate n vs).flatten (List.replicate n ds).flatten
  | 0 => .nil
  | n + 1 => by
    rw [List.replicate_succ, List.replicate_succ, List.flatten_cons, List.flatten_cons]
    exact r.app (RpAll.rep r n)
theorem rep_map {α β : Type} (f : α → β) (xs : List α) (n : Nat) : (List.replicate n (xs.map f)).flatten = ((List.replicate n xs).flatten).map f := by
  rw [List.map_flatten, List.map_replicate]
theorem rep_mem {α : Type} {xs : List α} {n : Nat} {x : α} (h : x ∈ (List.replicate n xs).flatten) : x ∈ xs := by
  obtain ⟨l, hl, hx⟩ := List.mem_flatten.mp h
  rw [List.eq_of_mem_replicate hl] at hx
  exact hx
theorem rep_len {α : Type} (xs : List α) (n : Nat) : ((List.replicate n xs).flatten).length = n * xs.length := by
  induction n with
  | zero => simp
  | succ n ih => rw [List.replicate_succ, List.flatten_cons, List.length_append, ih, Nat.succ_mul]; omega
section
variable {P : Program} {w : World} {K : PySem.W.Frag} {mg : Str → Option Value} {base : Heap} {T : List Addr}
def spAnyD (K : PySem.W.Frag) (T : List Addr) : Sp := fun vs H Q _ => ∃ (p q : Addr) (b : Nat) (m : Bool), vs = [.ref p, .bl m] ∧ Wl T p q b H ∧ b + 14 < 1000000 ∧
  ∀ H' v ds, DeedsF ds → Rp K (off p q H') v (deedsD ds) → Ex T (off p q H) (off p q H') → Wl T p q (b + 14) H' → Q v H'
theorem scAnyD : FnScope ["well", "may_be_long", "lot", "k", "r"] ["well", "may_be_long"] (defScope sAnyD) := ⟨rfl, rfl, rfl, by decide +kernel, rfl, by decide +kernel, by decide +kernel⟩
theorem ok_anyd {f aD : Addr} {fd dD : FuncData} (F : Fun K "_law_any_deeds" "_law_any_deeds" sAnyD f fd) (B : BI mg) (mr : mg "range" = none)
    (GD : FnOk P w K mg base CX0 1 aD dD ["well", "many"] spDraw) (mD : mg "_law_draw" = some (.ref aD)) (kD : PySem.W.keepIn K (.ref aD) = true) (bD : Binds K dD ["well", "many"] []) :
    FnOk P w K mg base CX0 2 f fd ["well", "may_be_long"] (spAnyD K T) := by
  refine F.ok scAnyD (fun vs H Q E h => ?_) (fun cdv A outer s H vs Q E hr h => ?_)
  · obtain ⟨p, q, b, m, rfl, _⟩ := h
    rfl
  · obtain ⟨p, q, b, m, rfl, L, hb, k⟩ := h
    refine ⟨_, pss_cons (ps_set (i := 2) scAnyD.nd rfl (.inl rfl) (pe_lst pa_nil))
      (pss_cons (ps_for PassesOwn.never rfl (pi_range1 (by rfl) mr (pa_cons (pe_ix ix_list (pe_lst (pa_cons pe_int (pa_cons pe_int (pa_cons pe_int (pa_cons pe_int (pa_cons pe_int pa_nil)))))) (pe_call GD (hr.mono (by decide)) (by rfl) mD kD bD .nil pass0 (pa_cons (pv 0) (pa_cons pe_int pa_nil))) (fun _ _ => rfl)) pa_nil)) (pg_name (i := 3) scAnyD.nd rfl (.inl rfl)) (pss_cons (ps_set (i := 4) scAnyD.nd rfl (.inl rfl) (pe_call GD (hr.mono (by decide)) (by rfl) mD kD bD .nil pass0 (pa_cons (pv 0) (pa_cons pe_int pa_nil))))
      (pss_one (ps_expr (pe_appK (K := K) rfl (pv 2) (pa_cons (pe_ix ix_list (pe_lst (pa_cons (pe_tup (pa_cons pe_str (pa_cons (pv 4) pa_nil))) (pa_cons (pe_tup (pa_cons pe_str (pa_cons (pv 4) pa_nil))) (pa_cons (pe_tup (pa_cons pe_str (pa_cons (pe_op op_fdiv (pv 4) pe_int) (pa_cons (pe_call GD (hr.mono (by decide)) (by rfl) mD kD bD .nil pass0 (pa_cons (pv 0) (pa_cons pe_int pa_nil))) pa_nil)))) pa_nil)))) (pe_call GD (hr.mono (by decide)) (by rfl) mD kD bD .nil pass0 (pa_cons (pv 0) (pa_cons pe_int pa_nil))) (fun _ _ => rfl)) pa_nil))))))
      (pss_cons (ps_if (PW.pt (pw_and (pt_val (pv 1)) (pw_and (pt_cmpR op_eq (pe_callB call_len_seq (by rfl) B.len PySem.boot_len (pa_cons (pv 2) pa_nil)) pe_int (nomark _)) (pw_and1 (pt_cmpR op_eq (pe_call GD (hr.mono (by decide)) (by rfl) mD kD bD .nil pass0 (pa_cons (pv 0) (pa_cons pe_int pa_nil))) pe_int (nomark _)))))) (pss_one (ps_set (i := 2) scAnyD.nd rfl (.inl rfl) (pe_op op_rep (pv 2) pe_int))) pss_nil)
      (pss_one (ps_ret (pe_tupK (K := K) rfl (by rfl) B.tuple (pv 2)))))), ?_⟩
    refine ⟨by show 0 ≤ sizeLine; decide, fun n1 hn1 => ?_⟩
    obtain ⟨L1, x1, e1⟩ := L.new (o := .lst []) hn1
    have f1 : off p q H n1 = none := off_none hn1
    refine ⟨by show 5 ≤ sizeLine; decide, fun l0 hl0 => ?_⟩
    obtain ⟨L2, x2, e0⟩ := L1.new (o := .lst [.int 0, .int 0, .int 1, .int 2, .int 3]) hl0
    have e1 := L1.keep x2 e1 (fun _ z => by cases z)
    refine ⟨_, rfl, p, q, _, 5, rfl, L2.w, by decide, by decide, by omega, fun H3 r r0 r1 kp hw => ?_⟩
    obtain ⟨L3, x3⟩ := L2.draw kp hw
    have e0 := L2.keep x3 e0 (fun _ z => by cases z)
    have e1 := L2.keep x3 e1 (fun _ z => by cases z)
    have xx := (x1.trans x2).trans x3
    obtain ⟨v, ev, mv⟩ := atI_of (xs := [.int 0, .int 0, .int 1, .int 2, .int 3]) r0 (by show _ < (5 : Int); omega)
    obtain ⟨n, rfl, n0, n3⟩ : ∃ n : Int, v = .int n ∧ 0 ≤ n ∧ n ≤ 3 := by
      simp only [List.mem_cons, List.mem_nil_iff, or_false] at mv
      rcases mv with rfl | rfl | rfl | rfl | rfl <;> exact ⟨_, rfl, by decide, by decide⟩
    refine ⟨l0, _, _, _, rfl, rfl, .inl (.inl (off_un _ _ e0)), ev, n, rfl, by omega, by omega, for_it (n := n.toNat) walk_range (fun i σ G => ∃ (a3 a4 : Option V) (ws : List V) (ds : List DeedD), σ = [some (.ref p), some (.bl m), some (.ref n1), a3, a4] ∧ Wl T p q (b + 1 + 3 * i) G ∧ Ex T (off p q H) (off p q G) ∧ off p q G n1 = some (.lst ws) ∧ RpAll K (off p q G) ws (ds.map dDeed) ∧ ds.length = i ∧ ∀ d ∈ ds, DeedF d)
      ⟨none, none, [], [], rfl, L3, xx, e1, .nil, rfl, fun _ h => by cases h⟩ (fun _ _ _ _ _ => trivial) (fun i y σ G G2 hi2 ⟨a3, a4, ws, ds, eσ, LG, xG, eG, rd, ld, hd⟩ y => ?_) (fun σ G ⟨a3, a4, ws, ds, eσ, LG, xG, eG, rd, ld, hd⟩ => ?_)⟩
    · obtain ⟨rfl, rfl⟩ := y
      subst eσ
      have hi3 : i < 3 := by have : i < n.toNat := hi2; omega
      refine ⟨_, rfl, p, q, _, 32, rfl, LG.w, by decide, by decide, by omega, fun H4 r r0 r1 kp hw => ?_⟩
      obtain ⟨L4, x4⟩ := LG.draw kp hw
      refine ⟨_, rfl, .inl ⟨rfl, _, .inl (.inl (off_un _ _ (LG.keep x4 eG (fun _ z => by cases z))))⟩, ?_⟩
      refine ⟨_, rfl, by show 2 ≤ sizeLine; decide, fun t1 ht1 => ⟨_, rfl, by show 2 ≤ sizeLine; decide, fun t2 ht2 => ?_⟩⟩
      obtain ⟨L5, x5, et1⟩ := L4.new (o := .tup [.str (Str.ofString "hold"), .int r]) ht1
      obtain ⟨L6, x6, et2⟩ := L5.new (o := .tup [.str (Str.ofString "drop"), .int r]) ht2
      have et1 := L5.keep x6 et1 (fun _ z => by cases z)
      refine ⟨_, rfl, _, _, rfl, rfl, ⟨by decide, by decide⟩, _, rfl, p, q, _, 5, rfl, L6.w, by decide, by decide, by omega, fun H7 s s0 s1 kp hw => ?_⟩
      obtain ⟨L7, x7⟩ := L6.draw kp hw
      have et1 := L6.keep x7 et1 (fun _ z => by cases z)
      have et2 := L6.keep x7 et2 (fun _ z => by cases z)
      refine ⟨by show 3 ≤ sizeLine; decide, fun t3 ht3 => ⟨by show 3 ≤ sizeLine; decide, fun l4 hl4 => ?_⟩⟩
      obtain ⟨L8, x8, et3⟩ := L7.new (o := .tup [.str (Str.ofString "free"), .int (r / 2), .int s]) ht3
      obtain ⟨L9, x9, el4⟩ := L8.new (o := .lst [.ref t1, .ref t2, .ref t3]) hl4
      have x89 := x8.trans x9
      have et1 := L7.keep x89 et1 (fun _ z => by cases z)
      have et2 := L7.keep x89 et2 (fun _ z => by cases z)
      have et3 := L8.keep x9 et3 (fun _ z => by cases z)
      refine ⟨_, rfl, p, q, _, 3, rfl, L9.w, by decide, by decide, by omega, fun H10 u u0 u1 kp hw => ?_⟩
      obtain ⟨L10, x10⟩ := L9.draw kp hw
      have et1 := L9.keep x10 et1 (fun _ z => by cases z)
      have et2 := L9.keep x10 et2 (fun _ z => by cases z)
      have et3 := L9.keep x10 et3 (fun _ z => by cases z)
      have el4 := L9.keep x10 el4 (fun _ z => by cases z)
      have xs := ((((x4.trans x5).trans x6).trans x7).trans x89).trans x10
      have eG := LG.keep xs eG (fun _ z => by cases z)
      have rd := rd.ex xs LG.tb
      have xG := xG.trans xs
      obtain ⟨v, ev, mv⟩ := atI_of (xs := [.ref t1, .ref t2, .ref t3]) u0 (by show _ < (3 : Int); omega)
      obtain ⟨d, hdd, rv⟩ : ∃ d, DeedF d ∧ Rp K (off p q H10) v (dDeed d) := by
        simp only [List.mem_cons, List.mem_nil_iff, or_false] at mv
        rcases mv with rfl | rfl | rfl
        · exact ⟨.hold r, ⟨by omega, by omega⟩, .tup (.inl (.inl et1)) (.cons (.str _ (by decide +kernel)) (.cons (.int _) .nil))⟩
        · exact ⟨.drop r, ⟨by omega, by omega⟩, .tup (.inl (.inl et2)) (.cons (.str _ (by decide +kernel)) (.cons (.int _) .nil))⟩
        · exact ⟨.free (r / 2) s, ⟨⟨by omega, by omega⟩, ⟨by omega, by omega⟩⟩, .tup (.inl (.inl et3)) (.cons (.str _ (by decide +kernel)) (.cons (.int _) (.cons (.int _) .nil)))⟩
      have fd : ∀ d : DeedD, flatT (dDeed d) = true := fun d => by
        have := flat_deeds [d]
        unfold deedsD flatT at this
        exact (Bool.and_eq_true_iff.mp (show (flatT (dDeed d) && flatTs []) = true from this)).1
      obtain ⟨L11, chg, e11⟩ := L10.fillC (K := K) eG (ys := ws ++ [v])
      have lw : ws.length = i := by rw [rd.lenM, ld]
      refine ⟨l4, _, _, _, rfl, rfl, .inl (.inl (off_un _ _ el4)), ev, n1, ws, _, rfl, rfl, off_un _ _ eG, small1000 (by omega), _, _, ws ++ [v], ds ++ [d], rfl, L11.le (by omega), chg.base _ f1 xG, e11, ?_, by rw [List.length_append, ld]; rfl, fun y hy => ?_⟩
      · rw [List.map_append]
        exact (rd.mv chg.tup fd).snoc (Rp.tups chg.tup rv (fd d))
      · rcases List.mem_append.mp hy with hy | hy
        · exact hd y hy
        · rw [List.mem_singleton.mp hy]; exact hdd
    · subst eσ
      have ld3 : ds.length ≤ 3 := by omega
      have LG := LG.le (show b + 1 + 3 * n.toNat ≤ b + 10 by omega)
      dsimp only
      refine seq_cut (fun σ G => ∃ (n1 : Addr) (a3 a4 : Option V) (ws : List V) (ds : List DeedD), σ = [some (.ref p), some (.bl m), some (.ref n1), a3, a4] ∧ Wl T p q (b + 11) G ∧ Ex T (off p q H) (off p q G) ∧ off p q G n1 = some (.lst ws) ∧ RpAll K (off p q G) ws (ds.map dDeed) ∧ DeedsF ds)
        (fun σ G ⟨n1, a3, a4, ws, ds, eσ, LG, xG, eG, rd, hd⟩ => ?_) (fun rest => ?_)
      · subst eσ
        refine ⟨_, rfl, .inl ⟨n1, ws, rfl, .inl (.inl (off_un _ _ eG)), fun tp htp => ?_⟩⟩
        obtain ⟨L5, x5, e5⟩ := LG.new (o := .tup ws) htp
        exact k _ _ ds hd (.tup (.inl (.inl e5)) (rd.ex x5 LG.tb)) (xG.trans x5) (L5.le (by omega))
      · have plain := rest _ _ ⟨n1, a3, a4, ws, ds, rfl, LG.le (by omega), xG, eG, rd, ⟨by omega, hd⟩⟩
        cases m with
        | false => exact ⟨_, rfl, _, rfl, iteF (iteF plain)⟩
        | true =>
          refine ⟨_, rfl, _, rfl, iteT ⟨_, rfl, n1, _, rfl, .inl (.inl (.inl (off_un _ _ eG))), rfl, _, rfl, ite2 (fun _ => ?_) (fun _ => iteF plain)⟩⟩
          refine ⟨_, rfl, p, q, _, 6, rfl, LG.w, by decide, by decide, by omega, fun H4 r r0 r1 kp hw => ?_⟩
          obtain ⟨L4, x4⟩ := LG.draw kp hw
          have eG := LG.keep x4 eG (fun _ z => by cases z)
          have rd := rd.ex x4 LG.tb
          have xG := xG.trans x4
          refine ⟨rfl, _, rfl, ite2 (fun _ => ?_) (fun _ => ?_)⟩
          · have lw : ws.length ≤ 3 := by rw [rd.lenM]; omega
            refine ⟨_, rfl, n1, 20, ws, rfl, rfl, off_un _ _ eG, by decide, by decide, ?_, fun n5 hn5 => ?_⟩
            · exact Nat.le_of_lt (small1000 (n := ws.length * 20) (by omega))
            · obtain ⟨L5, x5, e5⟩ := L4.new hn5
              refine rest _ _ ⟨n5, _, _, _, (List.replicate 20 ds).flatten, rfl, L5.le (by omega), xG.trans x5, e5, ?_, by rw [rep_len]; omega, fun d hdm => hd d (rep_mem hdm)⟩
              rw [← rep_map]
              exact (rd.ex x5 L4.tb).rep 20
          · exact rest _ _ ⟨n1, _, _, ws, ds, rfl, L4, xG, eG, rd, ⟨by omega, hd⟩⟩
def spAnyR (K : PySem.W.Frag) (T : List Addr) : Sp := fun vs H Q _ => ∃ (p q : Addr) (b n : Nat), vs = [.ref p, .int (n : Nat)] ∧ n ≤ 8 ∧ Wl T p q b H ∧ b + 10 < 1000000 ∧
  ∀ H' v xs, Regs n xs → Rp K (off p q H') v (regsD xs) → Ex T (off p q H) (off p q H') → Wl T p q (b + 10) H' → Q v H'
theorem scAnyR : FnScope ["well", "most", "k"] ["well", "most"] (defScope sAnyR) := ⟨rfl, rfl, rfl, by decide +kernel, rfl, by decide +kernel, by decide +kernel⟩
theorem ok_anyr {f aD : Addr} {fd dD : FuncData} (F : Fun K "_law_any_registers" "_law_any_registers" sAnyR f fd) (B : BI mg) (mr : mg "range" = none)
    (GD : FnOk P w K mg base CX0 1 aD dD ["well", "many"] spDraw) (mD : mg "_law_draw" = some (.ref aD)) (kD : PySem.W.keepIn K (.ref aD) = true) (bD : Binds K dD ["well", "many"] []) :
    FnOk P w K mg base CX0 2 f fd ["well", "most"] (spAnyR K T) := by
  refine F.ok scAnyR (fun vs H Q E h => ?_) (fun cdv A outer s H vs Q E hr h => ?_)
  · obtain ⟨p, q, b, n, rfl, _⟩ := h
    rfl
  · obtain ⟨p, q, b, n, rfl, n8, L, hb, k⟩ := h
    refine ⟨_, pss_one (ps_ret (pe_tupK (K := K) rfl (by rfl) B.tuple (pe_lc (own := [("k", 2)]) (g := gName 2) (tt := tYes) (by rfl) scAnyR.nd (pi_range1 (by rfl) mr (pa_cons (pe_call GD (hr.mono (by decide)) (by rfl) mD kD bD .nil pass0 (pa_cons (pv 0) (pa_cons (pe_op op_add (pv 1) pe_int) pa_nil))) pa_nil)) (blkOk_by (N := ["well", "most", "k"]) (sc := defScope sAnyR) (by decide +kernel)) (fun _ _ _ _ _ => pg_name (i := 2) scAnyR.nd rfl (.inl rfl)) (fun _ _ _ _ _ => pts_nil) (fun _ _ _ _ _ => (pe_call GD (hr.mono (by decide)) (by rfl) mD kD bD .nil pass0 (pa_cons (pv 0) (pa_cons pe_int pa_nil))))))), ?_⟩
    refine ⟨_, rfl, _, rfl, _, _, rfl, rfl, p, q, _, _, rfl, L.w, by omega, by omega, by omega, fun H2 r r0 r1 kp hw => ?_⟩
    obtain ⟨L2, x2⟩ := L.draw kp hw
    refine ⟨r, rfl, by omega, by omega, fun D hD => ?_⟩
    obtain ⟨L3, x3, e3⟩ := L2.new (o := .lst []) hD
    have nD := off_none (p := p) (q := q) hD
    refine lcB_it (n := r.toNat) walk_range (fun t G => ∃ xs : List Int, off p q G D = some (.lst (xs.map V.int)) ∧ xs.length = t ∧ (∀ x ∈ xs, Reg x) ∧ Wl T p q (b + 1 + t) G ∧ Ex T (off p q H2) (off p q G)) ⟨[], e3, rfl, (fun _ h => by cases h), L3, x3⟩ (fun _ _ _ _ => trivial) (fun t v G3 G4 ht4 ⟨xs, ef, lf, hf, L3, x3⟩ y => ?_) (fun G3 ⟨xs, ef, lf, hf, L3, x3⟩ => ?_)
    · obtain ⟨rfl, rfl⟩ := y
      have ht5 : t < r.toNat := ht4
      refine g_one (by decide) (by show 2 < 3; decide) fun σ2 _ keep g9 => yesT ⟨_, (keep 0 (by decide)).trans rfl, p, q, _, 32, rfl, L3.w, by decide, by decide, by omega, fun H5 u u0 u1 kp hw => ?_⟩
      obtain ⟨L5, x5⟩ := L3.draw kp hw
      have ef5 := L3.keep x5 ef (fun _ z => by cases z)
      obtain ⟨L6, x6, e6, _⟩ := L5.fillX (x3.trans x5) nD ef5 (ys := (xs ++ [u]).map V.int)
      refine ⟨xs.map V.int, off_un _ _ ef5, by rw [List.length_map]; exact small1000 (by omega), ?_⟩
      rw [show xs.map V.int ++ [V.int u] = (xs ++ [u]).map V.int by rw [List.map_append]; rfl]
      refine ⟨xs ++ [u], e6, by rw [List.length_append, lf]; rfl, fun y hy => ?_, L6, x6⟩
      rcases List.mem_append.mp hy with hy | hy
      · exact hf y hy
      · rw [List.mem_singleton.mp hy]; exact ⟨by omega, by omega⟩
    · refine .inl ⟨D, _, rfl, .inl (.inl (off_un _ _ ef)), fun tp htp => ?_⟩
      obtain ⟨L7, x7, e7⟩ := L3.new (o := .tup (xs.map V.int)) htp
      exact k _ _ xs ⟨by omega, hf⟩ (.tup (.inl (.inl e7)) RpAll.ofInts) ((x2.trans x3).trans x7) (L7.le (by omega))
end
end JF
set_option Elab.async false
set_option linter.all false
set_option maxRecDepth 100000
set_option maxHeartbeats 4000000
/-! drawn rows -/
namespace JF
open PySem PySem.Spec PyProof PyProof.Rows L2 GxR GA
abbrev sRowD : Stmt := topS 74
abbrev nRowD : List Str := ["well", "before", "r", "a", "following", "edges", "pick", "token", "number", "name", "lots", "k", "lot"]
theorem scRowD : FnScope ["well", "before", "r", "a", "following", "edges", "pick", "token", "number", "name", "lots", "k", "lot"] ["well"] (defScope sRowD) := ⟨rfl, rfl, rfl, by decide +kernel, rfl, by decide +kernel, by decide +kernel⟩
theorem deed_lay (d : DeedD) : PyData.canLay0 (dDeed d) = true ∧ PyData.depth (dDeed d) = 1 := by
  have h1 : PyData.strOk (Str.ofString "hold") = true := by decide +kernel
  have h2 : PyData.strOk (Str.ofString "drop") = true := by decide +kernel
  have h3 : PyData.strOk (Str.ofString "free") = true := by decide +kernel
  cases d <;> simp [dDeed, PyData.canLay0, PyData.canLayAll0, PyData.depth, PyData.depthAll, h1, h2, h3]
theorem deeds_lay : ∀ ds : List DeedD, PyData.canLayAll0 (ds.map dDeed) = true ∧ PyData.depthAll (ds.map dDeed) ≤ 1
  | [] => by simp [PyData.canLayAll0, PyData.depthAll]
  | d :: ds => by
    obtain ⟨h1, h2⟩ := deeds_lay ds
    obtain ⟨h3, h4⟩ := deed_lay d
    simp only [List.map_cons, PyData.canLayAll0, PyData.depthAll, h1, h3, h4, Bool.and_self, true_and]
    omega
theorem deeds_shaped (ds : List DeedD) : SeqAt.shaped (deedsD ds) = true := by
  obtain ⟨h1, h2⟩ := deeds_lay ds
  unfold SeqAt.shaped deedsD
  simp only [PyData.canLay0, PyData.depth, h1, Bool.true_and, decide_eq_true_eq]
  exact decide_eq_true (by omega)
mutual
theorem Rp.dpT {K : PySem.W.Frag} {H : Hp} : ∀ {v : V} {d : PyData}, Rp K H v d → flatT d = true → Dp K H v d
  | _, _, .non, _ => .non
  | _, _, .bl b, _ => .bl b
  | _, _, .int i, _ => .int i
  | _, _, .str x h, _ => .str x
  | _, _, .lst h r, f => by unfold flatT at f; cases f
  | _, _, .tup h r, f => .tup h (RpAll.dpT r (by unfold flatT at f; exact f))
  | _, _, .dic h, f => by unfold flatT at f; cases f
theorem RpAll.dpT {K : PySem.W.Frag} {H : Hp} : ∀ {vs : List V} {ds : List PyData}, RpAll K H vs ds → flatTs ds = true → DpAll K H vs ds
  | _, _, .nil, _ => .nil
  | _, _, .cons h r, f => by
    have f := Bool.and_eq_true_iff.mp (show (flatT _ && flatTs _) = true from f)
    exact .cons (Rp.dpT h f.1) (RpAll.dpT r f.2)
end
theorem Rp.tokO {K : PySem.W.Frag} {H : Hp} (t : Option Int) : Rp K H (tokV t) (tokD t) := by
  cases t with
  | none => exact .non
  | some i => exact .int i
section
variable {P : Program} {w : World} {K : PySem.W.Frag} {mg : Str → Option Value} {base : Heap} {T : List Addr}
def spRowD (K : PySem.W.Frag) (T : List Addr) : Sp := fun vs H Q _ => ∃ (p q : Addr) (b : Nat), vs = [.ref p] ∧ Wl T p q b H ∧ b + 220 < 1000000 ∧
  ∀ H' c v1 v2 row pl, RowF row → PlRF row pl → off p q H c = none → off p q H' c = some (.lst [v1, v2]) → Rp K (off p q H') v1 (dRow row) → Rp K (off p q H') v2 (dPlR pl) → Ex T (off p q H) (off p q H') → Wl T p q (b + 220) H' → Q (.ref c) H'
theorem ok_rowd {f aD aA aR aP : Addr} {fd dD dA dR dP : FuncData} (F : Fun K "_law_any_row" "_law_any_row" sRowD f fd) (B : BI mg) (mr : mg "range" = none)
    (GD : FnOk P w K mg base CX0 1 aD dD ["well", "many"] spDraw) (mD : mg "_law_draw" = some (.ref aD)) (kD : PySem.W.keepIn K (.ref aD) = true) (bD : Binds K dD ["well", "many"] [])
    (GA : FnOk P w K mg base CX0 2 aA dA ["well", "may_be_long"] (spAnyD K T)) (mA : mg "_law_any_deeds" = some (.ref aA)) (kA : PySem.W.keepIn K (.ref aA) = true) (bA : Binds K dA ["well", "may_be_long"] [])
    (GR : FnOk P w K mg base CX0 2 aR dR ["well", "most"] (spAnyR K T)) (mR : mg "_law_any_registers" = some (.ref aR)) (kR : PySem.W.keepIn K (.ref aR) = true) (bR : Binds K dR ["well", "most"] [])
    (GP : FnOk P w K mg base CX0 2 aP dP ["well", "letters"] (spPlain T)) (mP : mg "_law_plain" = some (.ref aP)) (kP : PySem.W.keepIn K (.ref aP) = true) (bP : Binds K dP ["well", "letters"] []) :
    FnOk P w K mg base CX0 3 f fd ["well"] (spRowD K T) := by
  refine F.ok scRowD (fun vs H Q E h => ?_) (fun cdv A outer s H vs Q E hr h => ?_)
  · obtain ⟨p, q, b, rfl, _⟩ := h
    rfl
  · obtain ⟨p, q, b, rfl, L, hb, k⟩ := h
    have hu64 : (A.deeper (envOfC "_law_any_row" (defScope sRowD) s.heap.objs.size f cdv)).units + 64 < cLine := by
      have := hr.un
      omega
    refine ⟨_, pss_cons (ps_set (i := 1) scRowD.nd rfl (.inl rfl) (pe_call GA (hr.mono (by decide)) (by rfl) mA kA bA .nil pass0 (pa_cons (pv 0) (pa_cons pe_bl pa_nil))))
      (pss_cons (ps_set (i := 2) scRowD.nd rfl (.inl rfl) (pe_call GD (hr.mono (by decide)) (by rfl) mD kD bD .nil pass0 (pa_cons (pv 0) (pa_cons pe_int pa_nil))))
      (pss_cons (ps_set (i := 3) scRowD.nd rfl (.inl rfl) (pe_call GD (hr.mono (by decide)) (by rfl) mD kD bD .nil pass0 (pa_cons (pv 0) (pa_cons pe_int pa_nil))))
      (pss_cons (ps_set (i := 4) scRowD.nd rfl (.inl rfl) (pe_call GD (hr.mono (by decide)) (by rfl) mD kD bD .nil pass0 (pa_cons (pv 0) (pa_cons pe_int pa_nil))))
      (pss_cons (ps_set (i := 5) scRowD.nd rfl (.inl rfl) (pe_tup (pa_cons (pe_call GA (hr.mono (by decide)) (by rfl) mA kA bA .nil pass0 (pa_cons (pv 0) (pa_cons (pe_cmpR (op_eqD hu64) (pv 1) (pe_tup pa_nil) (nomark _)) pa_nil))) pa_nil)))
      (pss_cons (ps_set (i := 6) scRowD.nd rfl (.inl rfl) (pe_call GD (hr.mono (by decide)) (by rfl) mD kD bD .nil pass0 (pa_cons (pv 0) (pa_cons pe_int pa_nil))))
      (pss_cons (ps_set (i := 7) scRowD.nd rfl (.inl rfl) (pe_ix ix_list (pe_lst (pa_cons pe_non (pa_cons (pe_call GD (hr.mono (by decide)) (by rfl) mD kD bD .nil pass0 (pa_cons (pv 0) (pa_cons pe_int pa_nil))) pa_nil))) (pe_call GD (hr.mono (by decide)) (by rfl) mD kD bD .nil pass0 (pa_cons (pv 0) (pa_cons pe_int pa_nil))) (fun _ _ => rfl)))
      (pss_cons (ps_if (pt_cmpR op_eq (pv 6) pe_int (nomark _)) (pss_cons (ps_set (i := 8) scRowD.nd rfl (.inl rfl) (pe_ix ix_list (pe_lst (pa_cons pe_int (pa_cons (pe_un un_neg pe_int) (pa_cons (pe_op op_pow pe_int pe_int) (pa_cons (pe_un un_neg (pe_op op_pow pe_int pe_int)) (pa_cons pe_int (pa_cons (pe_op op_sub (pe_call GD (hr.mono (by decide)) (by rfl) mD kD bD .nil pass0 (pa_cons (pv 0) (pa_cons (pe_op op_add (pe_op op_mul pe_int (pe_op op_pow pe_int pe_int)) pe_int) pa_nil))) (pe_op op_pow pe_int pe_int)) pa_nil))))))) (pe_call GD (hr.mono (by decide)) (by rfl) mD kD bD .nil pass0 (pa_cons (pv 0) (pa_cons pe_int pa_nil))) (fun _ _ => rfl)))
      (pss_one (ps_ret (pe_lst (pa_cons (pe_tup (pa_cons pe_str (pa_cons (pv 2) (pa_cons (pv 8) (pa_cons (pv 4) pa_nil))))) (pa_cons (pe_tup (pa_cons (pv 1) (pa_cons pe_non (pa_cons (pv 5) pa_nil)))) pa_nil)))))) pss_nil)
      (pss_cons (ps_if (pt_cmpR op_in_seq (pv 6) (pe_tup (pa_cons pe_int (pa_cons pe_int pa_nil))) rfl) (pss_one (ps_ret (pe_lst (pa_cons (pe_tup (pa_cons (pe_ix ix_list (pe_lst (pa_cons pe_str (pa_cons pe_str pa_nil))) (pe_op op_sub (pv 6) pe_int) (fun _ _ => rfl)) (pa_cons (pv 2) (pa_cons (pv 3) (pa_cons (pe_call GD (hr.mono (by decide)) (by rfl) mD kD bD .nil pass0 (pa_cons (pv 0) (pa_cons pe_int pa_nil))) (pa_cons (pv 4) pa_nil)))))) (pa_cons (pe_tup (pa_cons (pv 1) (pa_cons pe_non (pa_cons (pv 5) pa_nil)))) pa_nil))))) pss_nil)
      (pss_cons (ps_if (pt_cmpR op_eq (pv 6) pe_int (nomark _)) (pss_one (ps_ret (pe_lst (pa_cons (pe_tup (pa_cons pe_str (pa_cons (pv 2) (pa_cons (pv 3) (pa_cons (pv 4) (pa_cons (pe_call GD (hr.mono (by decide)) (by rfl) mD kD bD .nil pass0 (pa_cons (pv 0) (pa_cons pe_int pa_nil))) pa_nil)))))) (pa_cons (pe_tup (pa_cons (pv 1) (pa_cons pe_non (pa_cons (pe_op op_catA (pv 5) (pe_tup (pa_cons (pe_call GA (hr.mono (by decide)) (by rfl) mA kA bA .nil pass0 (pa_cons (pv 0) (pa_cons pe_bl pa_nil))) pa_nil))) pa_nil)))) pa_nil))))) pss_nil)
      (pss_cons (ps_if (pt_cmpR op_eq (pv 6) pe_int (nomark _)) (pss_cons (ps_set (i := 9) scRowD.nd rfl (.inl rfl) (pe_call GP (hr.mono (by decide)) (by rfl) mP kP bP .nil pass0 (pa_cons (pv 0) (pa_cons pe_str pa_nil))))
      (pss_one (ps_ret (pe_lst (pa_cons (pe_tup (pa_cons pe_str (pa_cons (pv 2) (pa_cons (pv 9) (pa_cons (pe_call GR (hr.mono (by decide)) (by rfl) mR kR bR .nil pass0 (pa_cons (pv 0) (pa_cons pe_int pa_nil))) (pa_cons (pv 4) pa_nil)))))) (pa_cons (pe_tup (pa_cons (pv 1) (pa_cons (pv 7) (pa_cons (pv 5) pa_nil)))) pa_nil)))))) pss_nil)
      (pss_cons (ps_if (pt_cmpR op_eq (pv 6) pe_int (nomark _)) (pss_cons (ps_set (i := 9) scRowD.nd rfl (.inl rfl) (pe_call GP (hr.mono (by decide)) (by rfl) mP kP bP .nil pass0 (pa_cons (pv 0) (pa_cons pe_str pa_nil))))
      (pss_one (ps_ret (pe_lst (pa_cons (pe_tup (pa_cons pe_str (pa_cons (pv 2) (pa_cons (pv 9) (pa_cons (pe_call GR (hr.mono (by decide)) (by rfl) mR kR bR .nil pass0 (pa_cons (pv 0) (pa_cons pe_int pa_nil))) (pa_cons (pv 4) pa_nil)))))) (pa_cons (pe_tup (pa_cons (pv 1) (pa_cons pe_non (pa_cons (pv 5) pa_nil)))) pa_nil)))))) pss_nil)
      (pss_cons (ps_if (pt_cmpR op_eq (pv 6) pe_int (nomark _)) (pss_one (ps_ret (pe_lst (pa_cons (pe_tup (pa_cons pe_str (pa_cons (pv 2) pa_nil))) (pa_cons (pe_tup (pa_cons (pv 1) (pa_cons pe_non (pa_cons (pe_tup pa_nil) pa_nil)))) pa_nil))))) pss_nil)
      (pss_cons (ps_setLc (i := 10) (own := [("k", 11)]) (g := gName 11) (tt := tYes) (by rfl) scRowD.nd rfl rfl (sw_true rfl rfl rfl (by decide +kernel)) (pi_range1 (by rfl) mr (pa_cons (pe_op op_add pe_int (pe_call GD (hr.mono (by decide)) (by rfl) mD kD bD .nil pass0 (pa_cons (pv 0) (pa_cons pe_int pa_nil)))) pa_nil)) (blkOk_by (N := nRowD) (sc := defScope sRowD) (by decide +kernel)) (fun _ _ _ _ _ => pg_name (i := 11) scRowD.nd rfl (.inl rfl)) (fun _ _ _ _ _ => pts_nil) (fun _ _ _ _ _ => (pe_tup (pa_cons (pe_call GR (hr.mono (by decide)) (by rfl) mR kR bR .nil pass0 (pa_cons (pv 0) (pa_cons pe_int pa_nil))) (pa_cons (pe_call GD (hr.mono (by decide)) (by rfl) mD kD bD .nil pass0 (pa_cons (pv 0) (pa_cons pe_int pa_nil))) pa_nil)))))
      (pss_one (ps_ret (pe_lst (pa_cons (pe_tup (pa_cons pe_str (pa_cons (pv 2) (pa_cons (pe_tupK (K := K) rfl (by rfl) B.tuple (pv 10)) pa_nil)))) (pa_cons (pe_tup (pa_cons (pv 1) (pa_cons (pv 7) (pa_cons (pe_tupK (K := K) rfl (by rfl) B.tuple (pe_lc (own := [("lot", 12)]) (g := gName 12) (tt := tYes) (by rfl) scRowD.nd (pi_list (pv 10)) (blkOk_by (N := nRowD) (sc := defScope sRowD) (by decide +kernel)) (fun _ _ _ _ _ => pg_name (i := 12) scRowD.nd rfl (.inl rfl)) (fun _ _ _ _ _ => pts_nil) (fun _ _ _ _ _ => (pe_call GA (hr.mono (by decide)) (by rfl) mA kA bA .nil pass0 (pa_cons (pv 0) (pa_cons pe_bl pa_nil)))))) pa_nil)))) pa_nil)))))))))))))))))), ?_⟩
    have fin : ∀ (G : Hp) (row : RowD) (pl : PlR) (us ws : List V) (rds pds : List PyData) (t1 t2 : Addr), Wl T p q (b + 220) G → Ex T (off p q H) (off p q G) → off p q G t1 = some (.tup us) → RpAll K (off p q G) us rds → off p q G t2 = some (.tup ws) → RpAll K (off p q G) ws pds →
        dRow row = .tuple rds → dPlR pl = .tuple pds → RowF row → PlRF row pl → ∀ l, G l = none → Q (.ref l) (upd G l (.lst [.ref t1, .ref t2])) := fun G row pl us ws rds pds t1 t2 LG xG e1 r1 e2 r2 d1 d2 rf pf l hl => by
      obtain ⟨L2, x2, e⟩ := LG.new (o := .lst [.ref t1, .ref t2]) hl
      refine k _ l _ _ row pl rf pf (fresh0 xG L.tb (off_none hl)) e (d1 ▸ .tup (.inl (.inl (LG.keep x2 e1 (fun _ z => by cases z)))) (r1.ex x2 LG.tb)) (d2 ▸ .tup (.inl (.inl (LG.keep x2 e2 (fun _ z => by cases z)))) (r2.ex x2 LG.tb)) (xG.trans x2) L2
    refine ⟨_, rfl, p, q, b, true, rfl, L, by omega, fun G1 v1 bs hbs rb x1 L1 => ?_⟩
    have xx := x1
    refine ⟨_, rfl, p, q, _, 32, rfl, L1.w, by decide, by decide, by omega, fun G2 r r0 r1 kp hw => ?_⟩
    obtain ⟨L2, x2⟩ := L1.draw kp hw
    have rb := rb.ex x2 L1.tb
    have xx := xx.trans x2
    refine ⟨_, rfl, p, q, _, 32, rfl, L2.w, by decide, by decide, by omega, fun G3 a a0 a1 kp hw => ?_⟩
    obtain ⟨L3, x3⟩ := L2.draw kp hw
    have rb := rb.ex x3 L2.tb
    have xx := xx.trans x3
    refine ⟨_, rfl, p, q, _, 60, rfl, L3.w, by decide, by decide, by omega, fun G4 fo fo0 fo1 kp hw => ?_⟩
    obtain ⟨L4, x4⟩ := L3.draw kp hw
    have rb := rb.ex x4 L3.tb
    have xx := xx.trans x4
    refine ⟨_, rfl, _, rfl, by show 0 ≤ sizeLine; decide, fun t0 ht0 => ?_⟩
    obtain ⟨L5, x5, e0⟩ := L4.new (o := .tup []) ht0
    have rb := rb.ex x5 L4.tb
    have xx := xx.trans x5
    refine ⟨deedsD bs, .tuple [], Rp.dpT rb.offU (flat_deeds bs), .tup (.inl (.inl (off_un _ _ e0))) .nil, deeds_shaped bs, (by decide +kernel), ?_⟩
    generalize PyData.eqv (deedsD bs) (.tuple []) = isE
    refine ⟨p, q, _, isE, rfl, L5, by omega, fun G6 ve es hes re x6 L6 => ⟨by show 1 ≤ sizeLine; decide, fun te hte => ?_⟩⟩
    have rb := rb.ex x6 L5.tb
    have xx := xx.trans x6
    obtain ⟨L7, x7, ee⟩ := L6.new (o := .tup [ve]) hte
    have rb := rb.ex x7 L6.tb
    have re := re.ex x7 L6.tb
    have xx := xx.trans x7
    refine ⟨_, rfl, p, q, _, 8, rfl, L7.w, by decide, by decide, by omega, fun G8 pick pk0 pk1 kp hw => ?_⟩
    obtain ⟨L8, x8⟩ := L7.draw kp hw
    have ee := L7.keep x8 ee (fun _ z => by cases z)
    have rb := rb.ex x8 L7.tb
    have re := re.ex x8 L7.tb
    have xx := xx.trans x8
    refine ⟨_, rfl, p, q, _, 16, rfl, L8.w, by decide, by decide, by omega, fun G9 tk tk0 tk1 kp hw => ⟨by show 2 ≤ sizeLine; decide, fun l9 hl9 => ?_⟩⟩
    obtain ⟨L9, x9⟩ := L8.draw kp hw
    have ee := L8.keep x9 ee (fun _ z => by cases z)
    have rb := rb.ex x9 L8.tb
    have re := re.ex x9 L8.tb
    have xx := xx.trans x9
    obtain ⟨L10, x10, e10⟩ := L9.new (o := .lst [.non, .int tk]) hl9
    have ee := L9.keep x10 ee (fun _ z => by cases z)
    have rb := rb.ex x10 L9.tb
    have re := re.ex x10 L9.tb
    have xx := xx.trans x10
    refine ⟨_, rfl, p, q, _, 2, rfl, L10.w, by decide, by decide, by omega, fun G11 r2 r20 r21 kp hw => ?_⟩
    obtain ⟨L11, x11⟩ := L10.draw kp hw
    have ee := L10.keep x11 ee (fun _ z => by cases z)
    have e10 := L10.keep x11 e10 (fun _ z => by cases z)
    have rb := rb.ex x11 L10.tb
    have re := re.ex x11 L10.tb
    have xx := xx.trans x11
    obtain ⟨vt, ev, mv⟩ := atI_of (xs := [.non, .int tk]) r20 (by show _ < (2 : Int); omega)
    obtain ⟨tok, rfl, htok⟩ : ∃ tok, vt = tokV tok ∧ ∀ t, tok = some t → Rng 0 15 t := by
      simp only [List.mem_cons, List.mem_nil_iff, or_false] at mv
      rcases mv with rfl | rfl
      · exact ⟨none, rfl, fun t h => by cases h⟩
      · exact ⟨some tk, rfl, fun t h => by cases h; exact ⟨by omega, by omega⟩⟩
    refine ⟨l9, _, _, _, rfl, rfl, .inl (.inl (off_un _ _ e10)), ev, ?_⟩
    generalize hB : b + 14 + 1 + 1 + 1 + 14 + 1 + 1 + 1 = bB at L11
    have hB1 : bB ≤ b + 40 := by omega
    clear e10 mv ev L1 L2 L3 L4 L5 L6 L7 L8 L9 L10 x1 x2 x3 x4 x5 x6 x7 x8 x9 x10 x11 hl9 hte ht0
    have RR : Reg r := ⟨by omega, by omega⟩
    have RA : Reg a := ⟨by omega, by omega⟩
    have RF : Nxt fo := ⟨by omega, by omega⟩
    dsimp only [gName]
    refine ⟨_, rfl, rfl, _, rfl, ite2 (fun e => ?_) (fun _ => ?_)⟩
    · refine ⟨_, rfl, _, _, rfl, rfl, ⟨by decide, by decide, by decide⟩, _, _, rfl, rfl, ⟨by decide, by decide, by decide⟩, _, rfl, _, rfl, _, _, rfl, rfl, ⟨by decide, by decide, by decide⟩, _, _, rfl, rfl, .inl ⟨by decide, by decide⟩, _, _, rfl, rfl,
        p, q, _, _, rfl, L11.w, by decide, by decide, by omega, fun G12 u u0 u1 kp hw => ⟨_, _, rfl, rfl, ⟨by decide, by decide, by decide⟩, _, _, rfl, rfl, by show 6 ≤ sizeLine; decide, fun o ho => ?_⟩⟩
      obtain ⟨L12, x12⟩ := L11.draw kp hw
      have ee := L11.keep x12 ee (fun _ z => by cases z)
      have rb := rb.ex x12 L11.tb
      have re := re.ex x12 L11.tb
      have xx := xx.trans x12
      obtain ⟨L13, x13, eo⟩ := L12.new (o := .lst [.int 0, .int (-1), .int ((10 : Int) ^ (12 : Int).toNat), .int (-((10 : Int) ^ (12 : Int).toNat)), .int 7, .int (u - (10 : Int) ^ (12 : Int).toNat)]) ho
      have ee := L12.keep x13 ee (fun _ z => by cases z)
      have rb := rb.ex x13 L12.tb
      have re := re.ex x13 L12.tb
      have xx := xx.trans x13
      refine ⟨_, rfl, p, q, _, 6, rfl, L13.w, by decide, by decide, by omega, fun G14 r3 r30 r31 kp hw => ?_⟩
      obtain ⟨L14, x14⟩ := L13.draw kp hw
      have ee := L13.keep x14 ee (fun _ z => by cases z)
      have eo := L13.keep x14 eo (fun _ z => by cases z)
      have rb := rb.ex x14 L13.tb
      have re := re.ex x14 L13.tb
      have xx := xx.trans x14
      obtain ⟨v, ev, mv⟩ := atI_of (xs := [V.int 0, .int (-1), .int ((10 : Int) ^ (12 : Int).toNat), .int (-((10 : Int) ^ (12 : Int).toNat)), .int 7, .int (u - (10 : Int) ^ (12 : Int).toNat)]) r30 (by show r3 < 6; omega)
      have e12 : ((10 : Int) ^ (12 : Int).toNat) = 1000000000000 := by decide
      have u1' : u < 2000000000001 := by
        have : (2 : Int) * (10 : Int) ^ (12 : Int).toNat + 1 = 2000000000001 := by decide
        omega
      obtain ⟨n, rfl, hn⟩ : ∃ n : Int, v = .int n ∧ Num n := by
        simp only [List.mem_cons, List.mem_nil_iff, or_false, e12] at mv
        rcases mv with rfl | rfl | rfl | rfl | rfl | rfl <;> exact ⟨_, rfl, by omega, by omega⟩
      refine ⟨o, _, _, _, rfl, rfl, .inl (.inl (off_un _ _ eo)), ev, ?_⟩
      dsimp only [gName]
      refine ⟨_, rfl, _, rfl, _, rfl, by show 4 ≤ sizeLine; decide, fun t1 ht1 => ?_⟩
      obtain ⟨LA, xA, e1⟩ := L14.new (o := .tup [.str (Str.ofString "number"), .int r, .int n, .int fo]) ht1
      have ee := L14.keep xA ee (fun _ z => by cases z)
      have rb := rb.ex xA L14.tb
      have re := re.ex xA L14.tb
      have xx := xx.trans xA
      have r1 : RpAll K (off p q _) [.str (Str.ofString "number"), .int r, .int n, .int fo] _ := RpAll.ex xA L14.tb (.cons (.str _ (by decide +kernel)) (.cons (.int _) (.cons (.int _) (.cons (.int _) .nil))))
      refine ⟨_, rfl, _, rfl, by show 3 ≤ sizeLine; decide, fun t2 ht2 => ⟨by show 2 ≤ sizeLine; decide, fun l hl => ?_⟩⟩
      obtain ⟨LB, xB, e2⟩ := LA.new (o := .tup [v1, .non, .ref te]) ht2
      have ee := LA.keep xB ee (fun _ z => by cases z)
      have e1 := LA.keep xB e1 (fun _ z => by cases z)
      have rb := rb.ex xB LA.tb
      have re := re.ex xB LA.tb
      have r1 := r1.ex xB LA.tb
      have xx := xx.trans xB
      exact fin _ (.num r n fo) ⟨bs, none, [es]⟩ _ _ _ _ t1 t2 (LB.le (by omega)) xx e1 r1 e2 (.cons rb (.cons .non (.cons (.tup (.inl (.inl ee)) (.cons re .nil)) .nil))) rfl rfl ⟨RR, hn, RF⟩ ⟨hbs, (fun t h => by cases h), rfl, fun e he => by rw [List.mem_singleton.mp he]; exact hes⟩ l hl
    refine ⟨_, rfl, by show 2 ≤ sizeLine; decide, fun tq htq => ⟨tq, [.int 1, .int 2], rfl, .inr (.inl (.inl upd_same)), rfl, by decide, _, rfl, ?_⟩⟩
    obtain ⟨L12, x12, eq12⟩ := L11.new (o := .tup [.int 1, .int 2]) htq
    have ee := L11.keep x12 ee (fun _ z => by cases z)
    have rb := rb.ex x12 L11.tb
    have re := re.ex x12 L11.tb
    have xx := xx.trans x12
    clear eq12
    generalize upd G11 tq (.tup [.int 1, .int 2]) = G12 at L12 x12 ee rb re xx ⊢
    by_cases h12 : pick = 1 ∨ pick = 2
    · have hin : inV (.int pick) [.int 1, .int 2] = true := by rcases h12 with rfl | rfl <;> decide
      rw [hin]
      refine iteT ⟨by show 2 ≤ sizeLine; decide, fun l1 hl1 => ?_⟩
      obtain ⟨L13, x13, el⟩ := L12.new (o := .lst [.str (Str.ofString "add"), .str (Str.ofString "sub")]) hl1
      have ee := L12.keep x13 ee (fun _ z => by cases z)
      have rb := rb.ex x13 L12.tb
      have re := re.ex x13 L12.tb
      have xx := xx.trans x13
      obtain ⟨sub, hsub⟩ : ∃ sub : Bool, atI [V.str (Str.ofString "add"), .str (Str.ofString "sub")] (pick - 1) = some (.str (ariW sub)) := by
        rcases h12 with rfl | rfl
        · exact ⟨false, rfl⟩
        · exact ⟨true, rfl⟩
      refine ⟨_, rfl, _, _, rfl, rfl, l1, _, _, _, rfl, rfl, .inl (.inl (off_un _ _ el)), hsub, ?_⟩
      refine ⟨_, rfl, _, rfl, _, rfl, p, q, _, 32, rfl, L13.w, by decide, by decide, by omega, fun G14 c c0 c1 kp hw => ?_⟩
      obtain ⟨L14, x14⟩ := L13.draw kp hw
      have ee := L13.keep x14 ee (fun _ z => by cases z)
      have rb := rb.ex x14 L13.tb
      have re := re.ex x14 L13.tb
      have xx := xx.trans x14
      refine ⟨_, rfl, by show 5 ≤ sizeLine; decide, fun t1 ht1 => ?_⟩
      obtain ⟨LA, xA, e1⟩ := L14.new (o := .tup [.str (ariW sub), .int r, .int a, .int c, .int fo]) ht1
      have ee := L14.keep xA ee (fun _ z => by cases z)
      have rb := rb.ex xA L14.tb
      have re := re.ex xA L14.tb
      have xx := xx.trans xA
      have r1 : RpAll K (off p q _) [.str (ariW sub), .int r, .int a, .int c, .int fo] _ := RpAll.ex xA L14.tb (.cons (.str _ (by cases sub <;> decide +kernel)) (.cons (.int _) (.cons (.int _) (.cons (.int _) (.cons (.int _) .nil)))))
      refine ⟨_, rfl, _, rfl, by show 3 ≤ sizeLine; decide, fun t2 ht2 => ⟨by show 2 ≤ sizeLine; decide, fun l hl => ?_⟩⟩
      obtain ⟨LB, xB, e2⟩ := LA.new (o := .tup [v1, .non, .ref te]) ht2
      have ee := LA.keep xB ee (fun _ z => by cases z)
      have e1 := LA.keep xB e1 (fun _ z => by cases z)
      have rb := rb.ex xB LA.tb
      have re := re.ex xB LA.tb
      have r1 := r1.ex xB LA.tb
      have xx := xx.trans xB
      exact fin _ (.ari sub r a c fo) ⟨bs, none, [es]⟩ _ _ _ _ t1 t2 (LB.le (by omega)) xx e1 r1 e2 (.cons rb (.cons .non (.cons (.tup (.inl (.inl ee)) (.cons re .nil)) .nil))) rfl rfl ⟨RR, RA, ⟨by omega, by omega⟩, RF⟩ ⟨hbs, (fun t h => by cases h), rfl, fun e he => by rw [List.mem_singleton.mp he]; exact hes⟩ l hl
    have hin : inV (.int pick) [.int 1, .int 2] = false := by
      cases e : inV (.int pick) [.int 1, .int 2] with
      | false => rfl
      | true =>
        refine absurd ?_ h12
        unfold inV eqV at e
        simp at e
        rcases e with e | e
        · exact .inl e.symm
        · exact .inr e.symm
    rw [hin]
    refine iteF ?_
    clear hin h12
    dsimp only [tNext]
    refine ⟨_, rfl, rfl, _, rfl, ite2 (fun e => ?_) (fun _ => ?_)⟩
    · refine ⟨_, rfl, _, rfl, _, rfl, _, rfl, p, q, _, 60, rfl, L12.w, by decide, by decide, by omega, fun G13 g g0 g1 kp hw => ?_⟩
      obtain ⟨L13, x13⟩ := L12.draw kp hw
      have ee := L12.keep x13 ee (fun _ z => by cases z)
      have rb := rb.ex x13 L12.tb
      have re := re.ex x13 L12.tb
      have xx := xx.trans x13
      refine ⟨by show 5 ≤ sizeLine; decide, fun t1 ht1 => ?_⟩
      obtain ⟨LA, xA, e1⟩ := L13.new (o := .tup [.str (Str.ofString "less"), .int r, .int a, .int fo, .int g]) ht1
      have ee := L13.keep xA ee (fun _ z => by cases z)
      have rb := rb.ex xA L13.tb
      have re := re.ex xA L13.tb
      have xx := xx.trans xA
      have r1 : RpAll K (off p q _) [.str (Str.ofString "less"), .int r, .int a, .int fo, .int g] _ := RpAll.ex xA L13.tb (.cons (.str _ (by decide +kernel)) (.cons (.int _) (.cons (.int _) (.cons (.int _) (.cons (.int _) .nil)))))
      refine ⟨_, rfl, _, rfl, _, rfl, p, q, _, false, rfl, LA, by omega, fun G15 vf fs hfs rf x15 L15 => ⟨by show 1 ≤ sizeLine; decide, fun tf htf => ?_⟩⟩
      have ee := LA.keep x15 ee (fun _ z => by cases z)
      have e1 := LA.keep x15 e1 (fun _ z => by cases z)
      have rb := rb.ex x15 LA.tb
      have re := re.ex x15 LA.tb
      have r1 := r1.ex x15 LA.tb
      have xx := xx.trans x15
      obtain ⟨L16, x16, ef⟩ := L15.new (o := .tup [vf]) htf
      have ee := L15.keep x16 ee (fun _ z => by cases z)
      have e1 := L15.keep x16 e1 (fun _ z => by cases z)
      have rb := rb.ex x16 L15.tb
      have re := re.ex x16 L15.tb
      have r1 := r1.ex x16 L15.tb
      have rf := rf.ex x16 L15.tb
      have xx := xx.trans x16
      refine ⟨te, tf, [ve], [vf], rfl, rfl, .inl (.inl (off_un _ _ ee)), .inl (.inl (off_un _ _ ef)), (by show 2 ≤ sizeLine; decide), (fun h => by cases h), (fun _ h => by cases h), fun _ _ tg htg => ?_⟩
      obtain ⟨L17, x17, eg⟩ := L16.new (o := .tup ([ve] ++ [vf])) htg
      have ee := L16.keep x17 ee (fun _ z => by cases z)
      have e1 := L16.keep x17 e1 (fun _ z => by cases z)
      have rb := rb.ex x17 L16.tb
      have re := re.ex x17 L16.tb
      have r1 := r1.ex x17 L16.tb
      have rf := rf.ex x17 L16.tb
      have xx := xx.trans x17
      refine ⟨by show 3 ≤ sizeLine; decide, fun t2 ht2 => ⟨by show 2 ≤ sizeLine; decide, fun l hl => ?_⟩⟩
      obtain ⟨LB, xB, e2⟩ := L17.new (o := .tup [v1, .non, .ref tg]) ht2
      have ee := L17.keep xB ee (fun _ z => by cases z)
      have e1 := L17.keep xB e1 (fun _ z => by cases z)
      have eg := L17.keep xB eg (fun _ z => by cases z)
      have rb := rb.ex xB L17.tb
      have re := re.ex xB L17.tb
      have r1 := r1.ex xB L17.tb
      have rf := rf.ex xB L17.tb
      have xx := xx.trans xB
      exact fin _ (.less r a fo g) ⟨bs, none, [es, fs]⟩ _ _ _ _ t1 t2 (LB.le (by omega)) xx e1 r1 e2 (.cons rb (.cons .non (.cons (.tup (.inl (.inl eg)) (.cons re (.cons rf .nil))) .nil))) rfl rfl ⟨RR, RA, RF, ⟨by omega, by omega⟩⟩ ⟨hbs, (fun t h => by cases h), rfl, fun e he => by
        simp only [List.mem_cons, List.mem_nil_iff, or_false] at he
        rcases he with rfl | rfl
        · exact hes
        · exact hfs⟩ l hl
    refine ⟨_, rfl, rfl, _, rfl, ite2 (fun e => ?_) (fun _ => ?_)⟩
    · refine ⟨_, rfl, p, q, _, true, rfl, L12, by omega, fun G13 nm hnm x13 L13 => ?_⟩
      have ee := L12.keep x13 ee (fun _ z => by cases z)
      have rb := rb.ex x13 L12.tb
      have re := re.ex x13 L12.tb
      have xx := xx.trans x13
      dsimp only [gName]
      refine ⟨_, rfl, _, rfl, _, rfl, p, q, _, 4, rfl, by decide, L13, by omega, fun G14 vx xs hxs rx x14 L14 => ?_⟩
      have ee := L13.keep x14 ee (fun _ z => by cases z)
      have rb := rb.ex x14 L13.tb
      have re := re.ex x14 L13.tb
      have xx := xx.trans x14
      refine ⟨_, rfl, by show 5 ≤ sizeLine; decide, fun t1 ht1 => ?_⟩
      obtain ⟨LA, xA, e1⟩ := L14.new (o := .tup [.str (Str.ofString "make"), .int r, .str nm, vx, .int fo]) ht1
      have ee := L14.keep xA ee (fun _ z => by cases z)
      have rb := rb.ex xA L14.tb
      have re := re.ex xA L14.tb
      have xx := xx.trans xA
      have r1 : RpAll K (off p q _) [.str (Str.ofString "make"), .int r, .str nm, vx, .int fo] _ := RpAll.ex xA L14.tb (.cons (.str _ (by decide +kernel)) (.cons (.int _) (.cons (.str _ (Nat.le_trans (nm_len hnm) (by decide))) (.cons rx (.cons (.int _) .nil)))))
      refine ⟨_, rfl, _, rfl, _, rfl, by show 3 ≤ sizeLine; decide, fun t2 ht2 => ⟨by show 2 ≤ sizeLine; decide, fun l hl => ?_⟩⟩
      obtain ⟨LB, xB, e2⟩ := LA.new (o := .tup [v1, tokV tok, .ref te]) ht2
      have ee := LA.keep xB ee (fun _ z => by cases z)
      have e1 := LA.keep xB e1 (fun _ z => by cases z)
      have rb := rb.ex xB LA.tb
      have re := re.ex xB LA.tb
      have r1 := r1.ex xB LA.tb
      have xx := xx.trans xB
      exact fin _ (.make r nm xs fo) ⟨bs, tok, [es]⟩ _ _ _ _ t1 t2 (LB.le (by omega)) xx e1 r1 e2 (.cons rb (.cons (Rp.tokO tok) (.cons (.tup (.inl (.inl ee)) (.cons re .nil)) .nil))) rfl rfl ⟨RR, hnm, hxs, RF⟩ ⟨hbs, (fun t h => ⟨rfl, htok t h⟩), rfl, fun e he => by rw [List.mem_singleton.mp he]; exact hes⟩ l hl
    refine ⟨_, rfl, rfl, _, rfl, ite2 (fun e => ?_) (fun _ => ?_)⟩
    · refine ⟨_, rfl, p, q, _, false, rfl, L12, by omega, fun G13 nm hnm x13 L13 => ?_⟩
      have ee := L12.keep x13 ee (fun _ z => by cases z)
      have rb := rb.ex x13 L12.tb
      have re := re.ex x13 L12.tb
      have xx := xx.trans x13
      dsimp only [gName]
      refine ⟨_, rfl, _, rfl, _, rfl, p, q, _, 8, rfl, by decide, L13, by omega, fun G14 vx xs hxs rx x14 L14 => ?_⟩
      have ee := L13.keep x14 ee (fun _ z => by cases z)
      have rb := rb.ex x14 L13.tb
      have re := re.ex x14 L13.tb
      have xx := xx.trans x14
      refine ⟨_, rfl, by show 5 ≤ sizeLine; decide, fun t1 ht1 => ?_⟩
      obtain ⟨LA, xA, e1⟩ := L14.new (o := .tup [.str (Str.ofString "call"), .int r, .str nm, vx, .int fo]) ht1
      have ee := L14.keep xA ee (fun _ z => by cases z)
      have rb := rb.ex xA L14.tb
      have re := re.ex xA L14.tb
      have xx := xx.trans xA
      have r1 : RpAll K (off p q _) [.str (Str.ofString "call"), .int r, .str nm, vx, .int fo] _ := RpAll.ex xA L14.tb (.cons (.str _ (by decide +kernel)) (.cons (.int _) (.cons (.str _ (Nat.le_trans (nm_len hnm) (by decide))) (.cons rx (.cons (.int _) .nil)))))
      refine ⟨_, rfl, _, rfl, by show 3 ≤ sizeLine; decide, fun t2 ht2 => ⟨by show 2 ≤ sizeLine; decide, fun l hl => ?_⟩⟩
      obtain ⟨LB, xB, e2⟩ := LA.new (o := .tup [v1, .non, .ref te]) ht2
      have ee := LA.keep xB ee (fun _ z => by cases z)
      have e1 := LA.keep xB e1 (fun _ z => by cases z)
      have rb := rb.ex xB LA.tb
      have re := re.ex xB LA.tb
      have r1 := r1.ex xB LA.tb
      have xx := xx.trans xB
      exact fin _ (.call r nm xs fo) ⟨bs, none, [es]⟩ _ _ _ _ t1 t2 (LB.le (by omega)) xx e1 r1 e2 (.cons rb (.cons .non (.cons (.tup (.inl (.inl ee)) (.cons re .nil)) .nil))) rfl rfl ⟨RR, hnm, hxs, RF⟩ ⟨hbs, (fun t h => by cases h), rfl, fun e he => by rw [List.mem_singleton.mp he]; exact hes⟩ l hl
    refine ⟨_, rfl, rfl, _, rfl, ite2 (fun e => ?_) (fun _ => ?_)⟩
    · refine ⟨_, rfl, by show 2 ≤ sizeLine; decide, fun t1 ht1 => ?_⟩
      obtain ⟨LA, xA, e1⟩ := L12.new (o := .tup [.str (Str.ofString "give"), .int r]) ht1
      have ee := L12.keep xA ee (fun _ z => by cases z)
      have rb := rb.ex xA L12.tb
      have re := re.ex xA L12.tb
      have xx := xx.trans xA
      refine ⟨_, rfl, by show 0 ≤ sizeLine; decide, fun tf htf => ?_⟩
      obtain ⟨L13, x13, ef⟩ := LA.new (o := .tup []) htf
      have ee := LA.keep x13 ee (fun _ z => by cases z)
      have e1 := LA.keep x13 e1 (fun _ z => by cases z)
      have rb := rb.ex x13 LA.tb
      have re := re.ex x13 LA.tb
      have xx := xx.trans x13
      refine ⟨by show 3 ≤ sizeLine; decide, fun t2 ht2 => ⟨by show 2 ≤ sizeLine; decide, fun l hl => ?_⟩⟩
      obtain ⟨LB, xB, e2⟩ := L13.new (o := .tup [v1, .non, .ref tf]) ht2
      have ee := L13.keep xB ee (fun _ z => by cases z)
      have e1 := L13.keep xB e1 (fun _ z => by cases z)
      have ef := L13.keep xB ef (fun _ z => by cases z)
      have rb := rb.ex xB L13.tb
      have re := re.ex xB L13.tb
      have xx := xx.trans xB
      exact fin _ (.give r) ⟨bs, none, []⟩ _ _ _ _ t1 t2 (LB.le (by omega)) xx e1 (.cons (.str _ (by decide +kernel)) (.cons (.int _) .nil)) e2 (.cons rb (.cons .non (.cons (.tup (.inl (.inl ef)) .nil) .nil))) rfl rfl RR ⟨hbs, (fun t h => by cases h), rfl, (fun e he => by cases he)⟩ l hl
    dsimp only [tNext]
    refine ⟨_, rfl, p, q, _, 6, rfl, L12.w, by decide, by decide, by omega, fun G13 u u0 u1 kp hw => ?_⟩
    obtain ⟨L13, x13⟩ := L12.draw kp hw
    have ee := L12.keep x13 ee (fun _ z => by cases z)
    have rb := rb.ex x13 L12.tb
    have re := re.ex x13 L12.tb
    have xx := xx.trans x13
    refine ⟨_, _, rfl, rfl, 1 + u, rfl, by omega, by omega, fun D hD => ?_⟩
    obtain ⟨LD, xD, eD⟩ := L13.new (o := .lst []) hD
    have nD := off_none (p := p) (q := q) hD
    refine lcB_it (n := (1 + u).toNat) walk_range (fun t G => ∃ (brs : List (List Int × Int)) (ws : List V), off p q G D = some (.lst ws) ∧ RpAll K (off p q G) ws (brs.map dBr) ∧ brs.length = t ∧ (∀ b ∈ brs, Regs 4 b.1 ∧ Nxt b.2) ∧ Wl T p q (bB + 1 + 11 * t) G ∧ Ex T (off p q G13) (off p q G)) ⟨[], [], eD, .nil, rfl, (fun _ h => by cases h), LD, xD⟩ (fun _ _ _ _ => trivial) (fun t v G3 G4 ht4 ⟨brs, ws, ef, rw0, lb, hb', L3, x3⟩ y => ?_) (fun G3 ⟨brs, ws, ef, rw0, lb, hb', L3, x3⟩ => ?_)
    · obtain ⟨rfl, rfl⟩ := y
      have ht5 : t < (1 + u).toNat := ht4
      refine g_one (by decide) (by show 11 < 13; decide) fun σ2 _ keep g9 => yesT ⟨_, (keep 0 (by decide)).trans rfl, p, q, _, 4, rfl, by decide, L3, by omega, fun G5 vx xs hxs rx x5 L5 => ⟨_, (keep 0 (by decide)).trans rfl, p, q, _, 60, rfl, L5.w, by decide, by decide, by omega, fun G6 g g0 g1 kp hw => ⟨by show 2 ≤ sizeLine; decide, fun tz htz => ?_⟩⟩⟩
      obtain ⟨L6, x6⟩ := L5.draw kp hw
      have rx := rx.ex x6 L5.tb
      obtain ⟨L7, x7, ez⟩ := L6.new (o := .tup [vx, .int g]) htz
      have rx := rx.ex x7 L6.tb
      have x57 := (x5.trans x6).trans x7
      have ef := L3.keep x57 ef (fun _ z => by cases z)
      have rw0 := rw0.ex x57 L3.tb
      have flb : ∀ b : List Int × Int, flatT (dBr b) = true := fun b => flatT_tup fun d hd => by
        simp only [List.mem_cons, List.mem_nil_iff, or_false] at hd
        rcases hd with rfl | rfl
        · exact flat_ints _
        · exact flat_int
      obtain ⟨L8, chg, e8⟩ := L7.fillC (K := K) ef (ys := ws ++ [.ref tz])
      have lw : ws.length = t := by rw [rw0.lenM, lb]
      refine ⟨ws, off_un _ _ ef, small1000 (by omega), brs ++ [(xs, g)], ws ++ [.ref tz], e8, ?_, by rw [List.length_append, lb]; rfl, fun y hy => ?_, L8.le (by omega), chg.base _ nD (x3.trans x57)⟩
      · rw [List.map_append]
        exact (rw0.mv chg.tup flb).snoc (.tup (chg.tup _ _ (.inl (.inl ez))) (.cons (Rp.tups chg.tup rx (flat_ints _)) (.cons (.int _) .nil)))
      · rcases List.mem_append.mp hy with hy | hy
        · exact hb' y hy
        · rw [List.mem_singleton.mp hy]; exact ⟨hxs, ⟨by omega, by omega⟩⟩
    · have lb6 : brs.length ≤ 6 := by omega
      have lb1 : 1 ≤ brs.length := by omega
      have L3 := L3.le (show bB + 1 + 11 * (1 + u).toNat ≤ bB + 70 by omega)
      have ee := L13.keep x3 ee (fun _ z => by cases z)
      have rb := rb.ex x3 L13.tb
      have re := re.ex x3 L13.tb
      have xx := xx.trans x3
      refine ⟨_, rfl, _, rfl, .inl ⟨D, ws, rfl, .inl (.inl (off_un _ _ ef)), fun tz htz => ⟨by show 3 ≤ sizeLine; decide, fun t1 ht1 => ?_⟩⟩⟩
      obtain ⟨L7, x7, ez⟩ := L3.new (o := .tup ws) htz
      have ee := L3.keep x7 ee (fun _ z => by cases z)
      have ef := L3.keep x7 ef (fun _ z => by cases z)
      have rb := rb.ex x7 L3.tb
      have re := re.ex x7 L3.tb
      have rw0 := rw0.ex x7 L3.tb
      have xx := xx.trans x7
      obtain ⟨LA, xA, e1⟩ := L7.new (o := .tup [.str (Str.ofString "match"), .int r, .ref tz]) ht1
      have ee := L7.keep xA ee (fun _ z => by cases z)
      have ef := L7.keep xA ef (fun _ z => by cases z)
      have ez := L7.keep xA ez (fun _ z => by cases z)
      have rb := rb.ex xA L7.tb
      have re := re.ex xA L7.tb
      have rw0 := rw0.ex xA L7.tb
      have xx := xx.trans xA
      refine ⟨_, rfl, _, rfl, _, rfl, D, rfl, ⟨ws, .inl (.inl (off_un _ _ ef))⟩, fun D2 hD2 => ?_⟩
      obtain ⟨LE, xE, eE⟩ := LA.new (o := .lst []) hD2
      have nD2 := off_none (p := p) (q := q) hD2
      have lws : ws.length = brs.length := rw0.lenM
      refine lcB_it (n := ws.length) walk_list (fun t G => ∃ (ess : List (List DeedD)) (us : List V), off p q G D2 = some (.lst us) ∧ RpAll K (off p q G) us (ess.map deedsD) ∧ ess.length = t ∧ (∀ e ∈ ess, DeedsF e) ∧ Wl T p q (bB + 70 + 14 * t) G ∧ Ex T (off p q _) (off p q G)) ⟨[], [], eE, .nil, rfl, (fun _ h => by cases h), LE, xE⟩ (fun t G _ ⟨_, _, _, _, _, _, _, x4⟩ => .inl (.inl (off_un _ _ (LA.keep x4 ef (fun _ z => by cases z))))) (fun t v G4 G5 ht4 ⟨ess, us, eu, ru, le, he, L4, x4⟩ y => ?_) (fun G4 ⟨ess, us, eu, ru, le, he, L4, x4⟩ => ?_)
      · obtain ⟨rfl, hv⟩ := y
        refine g_one (by decide) (by show 12 < 13; decide) fun σ2 _ keep g9 => yesT ⟨_, (keep 0 (by decide)).trans rfl, p, q, _, false, rfl, L4, by omega, fun G6 vf fs hfs rf x6 L6 => ?_⟩
        have eu := L4.keep x6 eu (fun _ z => by cases z)
        have ru := ru.ex x6 L4.tb
        obtain ⟨L8, chg, e8⟩ := L6.fillC (K := K) eu (ys := us ++ [vf])
        have lu : us.length = t := by rw [ru.lenM, le]
        refine ⟨us, off_un _ _ eu, small1000 (by omega), ess ++ [fs], us ++ [vf], e8, ?_, by rw [List.length_append, le]; rfl, fun y hy => ?_, L8.le (by omega), chg.base _ nD2 (x4.trans x6)⟩
        · rw [List.map_append]
          exact (ru.mv chg.tup flat_deeds).snoc (Rp.tups chg.tup rf (flat_deeds _))
        · rcases List.mem_append.mp hy with hy | hy
          · exact he y hy
          · rw [List.mem_singleton.mp hy]; exact hfs
      · have e1 := LA.keep x4 e1 (fun _ z => by cases z)
        have ez := LA.keep x4 ez (fun _ z => by cases z)
        have rb := rb.ex x4 LA.tb
        have rw0 := rw0.ex x4 LA.tb
        have xx := xx.trans x4
        refine .inl ⟨D2, us, rfl, .inl (.inl (off_un _ _ eu)), fun tf htf => ?_⟩
        obtain ⟨L7, x7, eg⟩ := L4.new (o := .tup us) htf
        have ez := L4.keep x7 ez (fun _ z => by cases z)
        have e1 := L4.keep x7 e1 (fun _ z => by cases z)
        have rb := rb.ex x7 L4.tb
        have rw0 := rw0.ex x7 L4.tb
        have ru := ru.ex x7 L4.tb
        have xx := xx.trans x7
        refine ⟨by show 3 ≤ sizeLine; decide, fun t2 ht2 => ⟨by show 2 ≤ sizeLine; decide, fun l hl => ?_⟩⟩
        obtain ⟨LB, xB, e2⟩ := L7.new (o := .tup [v1, tokV tok, .ref tf]) ht2
        have ez := L7.keep xB ez (fun _ z => by cases z)
        have e1 := L7.keep xB e1 (fun _ z => by cases z)
        have eg := L7.keep xB eg (fun _ z => by cases z)
        have rb := rb.ex xB L7.tb
        have rw0 := rw0.ex xB L7.tb
        have ru := ru.ex xB L7.tb
        have xx := xx.trans xB
        exact fin _ (.mat r brs) ⟨bs, tok, ess⟩ _ _ _ _ t1 t2 (LB.le (by omega)) xx e1 (.cons (.str _ (by decide +kernel)) (.cons (.int _) (.cons (.tup (.inl (.inl ez)) rw0) .nil))) e2 (.cons rb (.cons (Rp.tokO tok) (.cons (.tup (.inl (.inl eg)) ru) .nil))) rfl rfl ⟨RR, lb1, lb6, hb'⟩ ⟨hbs, (fun t h => ⟨rfl, htok t h⟩), by show ess.length = (brs.map _).length; rw [List.length_map]; omega, he⟩ l hl
end
end JF
set_option Elab.async false
set_option linter.all false
set_option maxRecDepth 100000
set_option maxHeartbeats 4000000
/-! drawn programs and placings -/
namespace JF
open PySem PySem.Spec PyProof PyProof.Rows L2 GxR GA
abbrev sAnyP : Stmt := topS 75
abbrev nAnyP : List Str := ["well", "kinds", "sorts", "name", "makers", "functions", "places", "k", "params", "j", "both", "row", "place", "function"]
theorem scAnyP : FnScope ["well", "kinds", "sorts", "name", "makers", "functions", "places", "k", "params", "j", "both", "row", "place", "function"] ["well"] (defScope sAnyP) := ⟨rfl, rfl, rfl, by decide +kernel, rfl, by decide +kernel, by decide +kernel⟩
theorem ix_tupJ {X : Cx} {K : PySem.W.Frag} (h : X.K = K) : IxR X (rIxT K) := by
  rw [← h]
  exact ix_tup
theorem pg_twoL {X : Cx} {K : PySem.W.Frag} {i j k : Nat} {x y : Str} {p q pos : Pos} (hK : X.K = K) (hc : X.calm = true) (hN : X.N.Nodup) (hi : X.N[i]? = some x) (hj : X.N[j]? = some y)
    (hx : X.env.scope.names.lookup x = some .local) (hy : X.env.scope.names.lookup y = some .local) : PG X (.Tuple [.Name x p, .Name y q] k pos) (gLst K 2 (gCons (gName i) (gCons (gName j) gNil))) := by
  rw [← hK]
  exact pg_lst hc (pgs_cons (pg_name hN hi (.inl hx) (.inr hx)) (pgs_cons (pg_name hN hj (.inl hy) (.inr hy)) pgs_nil))
theorem g_twoL {K : PySem.W.Frag} {b : Addr} {x y : V} {σ : L2.St} {vs : List Nat} {i j : Nat} {H : Hp} {C : L2.St → Hp → Prop} (hb : SqL K H b [x, y]) (hi : i ∈ vs) (hj : j ∈ vs) (hij : i ≠ j) (li : i < σ.length) (lj : j < σ.length)
    (h : ∀ σ2 : L2.St, σ2.length = σ.length → (∀ n, n ∉ vs → σ2[n]? = σ[n]?) → σ2[i]? = some (some x) → σ2[j]? = some (some y) → C σ2 H) :
    gLst K 2 (gCons (gName i) (gCons (gName j) gNil)) (.ref b) (wipe σ vs) H fun σ2 H2 => wipe σ2 vs = wipe σ vs ∧ C σ2 H2 := by
  refine ⟨b, _, rfl, hb, rfl, _, _, rfl, _, _, rfl, rfl, ?_, h _ ?_ (fun n hn => ?_) ?_ ?_⟩
  · rw [wipe_in _ _ _ _ hj, wipe_in _ _ _ _ hi, L3.wipe_wipe]
  · rw [List.length_set, List.length_set, wipe_length]
  · rw [List.getElem?_set_ne (fun e : j = n => hn (e ▸ hj)), List.getElem?_set_ne (fun e : i = n => hn (e ▸ hi)), wipe_out hn]
  · rw [List.getElem?_set_ne (Ne.symm hij), List.getElem?_set_self (by rw [wipe_length]; exact li)]
  · rw [List.getElem?_set_self (by rw [List.length_set, wipe_length]; exact lj)]
/-- rows with what the placing has for them, each pair in a list of its own -/
def BothAt (K : PySem.W.Frag) (us : List Addr) (G : Hp) (v : V) (rp : RowD × PlR) : Prop := ∃ c v1 v2, v = .ref c ∧ (∀ u ∈ us, c ≠ u) ∧ G c = some (.lst [v1, v2]) ∧ Rp K G v1 (dRow rp.1) ∧ Rp K G v2 (dPlR rp.2)
theorem BothAt.ex {K : PySem.W.Frag} {T us : List Addr} {G G' : Hp} {v : V} {rp : RowD × PlR} (h : BothAt K us G v rp) (x : Ex T G G') (t : TbOk T G) : BothAt K us G' v rp := by
  obtain ⟨c, v1, v2, e, n, h1, h2, h3⟩ := h
  exact ⟨c, v1, v2, e, n, x.keep c _ h1 (t.seqN h1 fun _ z => by cases z), h2.ex x t, h3.ex x t⟩
theorem BothAt.chg {K : PySem.W.Frag} {T us : List Addr} {u : Addr} {G G' : Hp} {v : V} {rp : RowD × PlR} (h : BothAt K us G v rp) (x : Chg K T u G G') (hu : u ∈ us) : BothAt K us G' v rp := by
  obtain ⟨c, v1, v2, e, n, h1, h2, h3⟩ := h
  exact ⟨c, v1, v2, e, n, x.lst c _ (n u hu) h1, h2.tups x.tup (flat_row _), h3.tups x.tup (flat_plr _)⟩
theorem paired_rep {α β : Type} {F : α → β → Prop} {xs : List α} {ys : List β} (h : Paired F xs ys) : ∀ n : Nat, Paired F (List.replicate n xs).flatten (List.replicate n ys).flatten
  | 0 => .nil
  | n + 1 => by
    rw [List.replicate_succ, List.replicate_succ, List.flatten_cons, List.flatten_cons]
    have app : ∀ {xs : List α} {ys : List β} {xs' : List α} {ys' : List β}, Paired F xs ys → Paired F xs' ys' → Paired F (xs ++ xs') (ys ++ ys') := fun {xs ys xs' ys'} a b => by
      induction a with
      | nil => exact b
      | cons h r ih => exact .cons h ih
    exact app h (paired_rep h n)
theorem zip_pairs {α β : Type} : ∀ rps : List (α × β), (rps.map (·.1)).zip (rps.map (·.2)) = rps
  | [] => rfl
  | (a, b) :: r => by
    show (a, b) :: (r.map (·.1)).zip (r.map (·.2)) = _
    rw [zip_pairs r]
theorem rep_zip {α β : Type} {xs : List α} {ys : List β} (h : xs.length = ys.length) : ∀ n : Nat, (List.replicate n xs).flatten.zip (List.replicate n ys).flatten = (List.replicate n (xs.zip ys)).flatten
  | 0 => rfl
  | n + 1 => by
    rw [List.replicate_succ, List.replicate_succ, List.replicate_succ, List.flatten_cons, List.flatten_cons, List.flatten_cons, List.zip_append h, rep_zip h n]
section
variable {P : Program} {w : World} {K : PySem.W.Frag} {mg : Str → Option Value} {base : Heap} {T : List Addr}
def spAnyP (K : PySem.W.Frag) (T : List Addr) : Sp := fun vs H Q _ => ∃ (p q : Addr) (b : Nat), vs = [.ref p] ∧ Wl T p q b H ∧ b + 8000 < 1000000 ∧
  ∀ H' c v1 v2 pr ps, PrgF pr ps → off p q H' c = some (.lst [v1, v2]) → Rp K (off p q H') v1 (dPrg pr) → Rp K (off p q H') v2 (dPlc ps) → Ex T (off p q H) (off p q H') → Wl T p q (b + 8000) H' → Q (.ref c) H'
theorem ok_anyp {f aD aK aP aW aA : Addr} {fd dD dK dP dW dA : FuncData} (F : Fun K "_law_any" "_law_any" sAnyP f fd) (B : BI mg) (mr : mg "range" = none) (mmax : mg "max" = none)
    (GD : FnOk P w K mg base CX0 1 aD dD ["well", "many"] spDraw) (mD : mg "_law_draw" = some (.ref aD)) (kD : PySem.W.keepIn K (.ref aD) = true) (bD : Binds K dD ["well", "many"] [])
    (GK : FnOk P w K mg base CX0 4 aK dK ["well"] (spLKs K T)) (mK : mg "_law_any_kinds" = some (.ref aK)) (kK : PySem.W.keepIn K (.ref aK) = true) (bK : Binds K dK ["well"] [])
    (GP : FnOk P w K mg base CX0 2 aP dP ["well", "letters"] (spPlain T)) (mP : mg "_law_plain" = some (.ref aP)) (kP : PySem.W.keepIn K (.ref aP) = true) (bP : Binds K dP ["well", "letters"] [])
    (GW : FnOk P w K mg base CX0 3 aW dW ["well"] (spRowD K T)) (mW : mg "_law_any_row" = some (.ref aW)) (kW : PySem.W.keepIn K (.ref aW) = true) (bW : Binds K dW ["well"] [])
    (GA : FnOk P w K mg base CX0 2 aA dA ["well", "may_be_long"] (spAnyD K T)) (mA : mg "_law_any_deeds" = some (.ref aA)) (kA : PySem.W.keepIn K (.ref aA) = true) (bA : Binds K dA ["well", "may_be_long"] []) :
    FnOk P w K mg base CX0 5 f fd ["well"] (spAnyP K T) := by
  refine F.ok scAnyP (fun vs H Q E h => ?_) (fun cdv A outer s H vs Q E hr h => ?_)
  · obtain ⟨p, q, b, rfl, _⟩ := h
    rfl
  · obtain ⟨p, q, b, rfl, L, hb, k⟩ := h
    refine ⟨_, pss_cons (ps_set (i := 1) scAnyP.nd rfl (.inl rfl) (pe_call GK (hr.mono (by decide)) (by rfl) mK kK bK .nil pass0 (pa_cons (pv 0) pa_nil)))
      (pss_cons (ps_set (i := 2) scAnyP.nd rfl (.inr rfl) (pe_op op_cat (pe_lc (own := [("name", 3), ("makers", 4)]) (tt := tYes) (by rfl) scAnyP.nd (pi_tup (pv 1)) (blkOk_by (N := nAnyP) (sc := defScope sAnyP) (by decide +kernel)) (fun _ _ _ _ _ => pg_two (K := K) (i := 3) (j := 4) rfl rfl scAnyP.nd rfl rfl rfl rfl) (fun _ _ _ _ _ => pts_nil) (fun _ _ _ _ _ => pv 3)) (pe_lst (pa_cons pe_str (pa_cons (pe_call GP (hr.mono (by decide)) (by rfl) mP kP bP .nil pass0 (pa_cons (pv 0) (pa_cons pe_str pa_nil))) pa_nil)))))
      (pss_cons (ps_set (i := 5) scAnyP.nd rfl (.inl rfl) (pe_lst pa_nil))
      (pss_cons (ps_set (i := 6) scAnyP.nd rfl (.inl rfl) (pe_lst pa_nil))
      (pss_cons (ps_for PassesOwn.never rfl (pi_range1 (by rfl) mr (pa_cons (pe_ix ix_list (pe_lst (pa_cons pe_int (pa_cons pe_int (pa_cons pe_int (pa_cons pe_int pa_nil))))) (pe_call GD (hr.mono (by decide)) (by rfl) mD kD bD .nil pass0 (pa_cons (pv 0) (pa_cons pe_int pa_nil))) (fun _ _ => rfl)) pa_nil)) (pg_name (i := 7) scAnyP.nd rfl (.inl rfl)) (pss_cons (ps_set (i := 3) scAnyP.nd rfl (.inl rfl) (pe_call GP (hr.mono (by decide)) (by rfl) mP kP bP .nil pass0 (pa_cons (pv 0) (pa_cons pe_str pa_nil))))
      (pss_cons (ps_set (i := 8) scAnyP.nd rfl (.inl rfl) (pe_tupK (K := K) rfl (by rfl) B.tuple (pe_lc (own := [("j", 9)]) (tt := tYes) (by rfl) scAnyP.nd (pi_range1 (by rfl) mr (pa_cons (pe_call GD (hr.mono (by decide)) (by rfl) mD kD bD .nil pass0 (pa_cons (pv 0) (pa_cons pe_int pa_nil))) pa_nil)) (blkOk_by (N := nAnyP) (sc := defScope sAnyP) (by decide +kernel)) (fun _ _ _ _ _ => pg_name (i := 9) scAnyP.nd rfl (.inl rfl)) (fun _ _ _ _ _ => pts_nil) (fun _ _ _ _ _ => (pe_ix (ix_listK (K := K) rfl) (pv 2) (pe_call GD (hr.mono (by decide)) (by rfl) mD kD bD .nil pass0 (pa_cons (pv 0) (pa_cons (pe_callB (call_lenK (K := K) rfl) (by rfl) B.len PySem.boot_len (pa_cons (pv 2) pa_nil)) pa_nil))) (fun _ _ => rfl))))))
      (pss_cons (ps_setLc (i := 10) (own := [("j", 9)]) (g := gName 9) (tt := tYes) (by rfl) scAnyP.nd rfl rfl (sw_true rfl rfl rfl (by decide +kernel)) (pi_range1 (by rfl) mr (pa_cons (pe_op op_add pe_int (pe_call GD (hr.mono (by decide)) (by rfl) mD kD bD .nil pass0 (pa_cons (pv 0) (pa_cons pe_int pa_nil)))) pa_nil)) (blkOk_by (N := nAnyP) (sc := defScope sAnyP) (by decide +kernel)) (fun _ _ _ _ _ => pg_name (i := 9) scAnyP.nd rfl (.inl rfl)) (fun _ _ _ _ _ => pts_nil) (fun _ _ _ _ _ => (pe_call GW (hr.mono (by decide)) (by rfl) mW kW bW .nil pass0 (pa_cons (pv 0) pa_nil))))
      (pss_cons (ps_if (PW.pt (pw_and (pt_cmpR op_eq (pe_callB call_len_seq (by rfl) B.len PySem.boot_len (pa_cons (pv 10) pa_nil)) pe_int (nomark _)) (pw_and (pt_cmpR op_lt (pe_callB (cr_max rfl) (by rfl) mmax (by decide +kernel) (pa_cons (pe_lc (own := [("row", 11), ("place", 12)]) (tt := tYes) (by rfl) scAnyP.nd (pi_list (pv 10)) (blkOk_by (N := nAnyP) (sc := defScope sAnyP) (by decide +kernel)) (fun _ _ _ _ _ => pg_twoL (K := K) (i := 11) (j := 12) rfl rfl scAnyP.nd rfl rfl rfl rfl) (fun _ _ _ _ _ => pts_nil) (fun _ _ _ _ _ => (pe_callB (call_lenK (K := K) rfl) (by rfl) B.len PySem.boot_len (pa_cons (pe_ix (ix_tupJ (K := K) rfl) (pv 12) pe_int (fun _ _ => rfl)) pa_nil)))) pa_nil)) pe_int (nomark _)) (pw_and1 (pt_cmpR op_eq (pe_call GD (hr.mono (by decide)) (by rfl) mD kD bD .nil pass0 (pa_cons (pv 0) (pa_cons pe_int pa_nil))) pe_int (nomark _)))))) (pss_one (ps_set (i := 10) scAnyP.nd rfl (.inl rfl) (pe_op op_rep (pv 10) pe_int))) pss_nil)
      (pss_cons (ps_expr (pe_appK (K := K) rfl (pv 5) (pa_cons (pe_tup (pa_cons (pv 3) (pa_cons (pv 8) (pa_cons (pe_ix ix_list (pv 2) (pe_call GD (hr.mono (by decide)) (by rfl) mD kD bD .nil pass0 (pa_cons (pv 0) (pa_cons (pe_callB call_len_seq (by rfl) B.len PySem.boot_len (pa_cons (pv 2) pa_nil)) pa_nil))) (fun _ _ => rfl)) (pa_cons (pe_tupK (K := K) rfl (by rfl) B.tuple (pe_lc (own := [("row", 11), ("place", 12)]) (tt := tYes) (by rfl) scAnyP.nd (pi_list (pv 10)) (blkOk_by (N := nAnyP) (sc := defScope sAnyP) (by decide +kernel)) (fun _ _ _ _ _ => pg_twoL (K := K) (i := 11) (j := 12) rfl rfl scAnyP.nd rfl rfl rfl rfl) (fun _ _ _ _ _ => pts_nil) (fun _ _ _ _ _ => pv 11))) pa_nil))))) pa_nil)))
      (pss_one (ps_expr (pe_appK (K := K) rfl (pv 6) (pa_cons (pe_tup (pa_cons (pe_call GA (hr.mono (by decide)) (by rfl) mA kA bA .nil pass0 (pa_cons (pv 0) (pa_cons pe_bl pa_nil))) (pa_cons (pe_tupK (K := K) rfl (by rfl) B.tuple (pe_lc (own := [("row", 11), ("place", 12)]) (tt := tYes) (by rfl) scAnyP.nd (pi_list (pv 10)) (blkOk_by (N := nAnyP) (sc := defScope sAnyP) (by decide +kernel)) (fun _ _ _ _ _ => pg_twoL (K := K) (i := 11) (j := 12) rfl rfl scAnyP.nd rfl rfl rfl rfl) (fun _ _ _ _ _ => pts_nil) (fun _ _ _ _ _ => pv 12))) pa_nil))) pa_nil))))))))))
      (pss_cons (ps_if (PW.pt (pw_and (pt_cmpR op_eq (pe_callB call_len_seq (by rfl) B.len PySem.boot_len (pa_cons (pv 5) pa_nil)) pe_int (nomark _)) (pw_and (pt_cmpR op_lt (pe_callB (cr_max rfl) (by rfl) mmax (by decide +kernel) (pa_cons (pe_lc (own := [("function", 13)]) (tt := tYes) (by rfl) scAnyP.nd (pi_list (pv 5)) (blkOk_by (N := nAnyP) (sc := defScope sAnyP) (by decide +kernel)) (fun _ _ _ _ _ => pg_name (i := 13) scAnyP.nd rfl (.inl rfl)) (fun _ _ _ _ _ => pts_nil) (fun _ _ _ _ _ => (pe_callB (call_lenK (K := K) rfl) (by rfl) B.len PySem.boot_len (pa_cons (pe_ix (ix_tupJ (K := K) rfl) (pv 13) pe_int (fun _ _ => rfl)) pa_nil)))) pa_nil)) pe_int (nomark _)) (pw_and1 (pt_cmpR op_eq (pe_call GD (hr.mono (by decide)) (by rfl) mD kD bD .nil pass0 (pa_cons (pv 0) (pa_cons pe_int pa_nil))) pe_int (nomark _)))))) (pss_cons (ps_set (i := 5) scAnyP.nd rfl (.inl rfl) (pe_op op_rep (pv 5) pe_int))
      (pss_one (ps_set (i := 6) scAnyP.nd rfl (.inl rfl) (pe_op op_rep (pv 6) pe_int)))) pss_nil)
      (pss_one (ps_ret (pe_lst (pa_cons (pe_tup (pa_cons (pv 1) (pa_cons (pe_tupK (K := K) rfl (by rfl) B.tuple (pv 5)) pa_nil))) (pa_cons (pe_tupK (K := K) rfl (by rfl) B.tuple (pv 6)) pa_nil)))))))))), ?_⟩
    refine ⟨_, rfl, p, q, b, rfl, L, by omega, fun G1 vk ks hks rk x1 L1 => ?_⟩
    have xx := x1
    obtain ⟨ak, xk, rfl, hak, rak⟩ := Rp.tupI rk
    refine ⟨_, rfl, ak, rfl, ⟨xk, sqT_un hak⟩, fun D hD => ?_⟩
    obtain ⟨LD, xD, eD⟩ := L1.new (o := .lst []) hD
    have nD := off_none (p := p) (q := q) hD
    have lxk : xk.length = ks.length := rak.lenM
    have k6 := hks.h6
    refine lcB_it (n := xk.length) walk_tup (fun t G => off p q G D = some (.lst (((kNames ks).take t).map V.str)) ∧ Wl T p q (b + 2000) G ∧ Ex T (off p q G1) (off p q G)) ⟨eD, LD, xD⟩ (fun t G _ ⟨_, _, x⟩ => sqT_un (x.sqT L1.tb hak)) (fun t v G3 G4 ht4 ⟨ef, L3, x3⟩ y => ?_) (fun G3 ⟨ef, L3, x3⟩ => ?_)
    · obtain ⟨rfl, hx⟩ := y
      obtain ⟨kd, hkd, rkd⟩ := rak.getM hx
      obtain ⟨c, us, rfl, hc, rc⟩ := Rp.tupI (rkd.ex x3 L1.tb)
      obtain ⟨u0, _, rfl, q0, rc⟩ := RpAll.consI rc
      obtain ⟨u1, _, rfl, q1, rc⟩ := RpAll.consI rc
      cases RpAll.nilI rc
      cases Rp.strI q0
      obtain ⟨L6, x6, e6, _⟩ := L3.fillX x3 nD ef (ys := ((kNames ks).take (t + 1)).map V.str)
      have hn : (kNames ks)[t]? = some kd.1 := by unfold kNames; rw [List.getElem?_map, hkd]; rfl
      refine g_two (sqT_un hc) (by decide) (by decide) (by decide) (by show 3 < 14; decide) (by show 4 < 14; decide) fun σ2 _ keep g3 g4 => yesT ⟨_, g3, _, off_un _ _ ef, ?_, ?_⟩
      · rw [List.length_map, List.length_take]
        exact small1000 (by omega)
      · rw [show ((kNames ks).take t).map V.str ++ [V.str kd.1] = ((kNames ks).take (t + 1)).map V.str by rw [take_at hn, List.map_append]; rfl]
        exact ⟨e6, L6, x6⟩
    · rw [show (kNames ks).take xk.length = kNames ks from List.take_of_length_le (by unfold kNames; rw [List.length_map]; omega)] at ef
      refine ⟨_, rfl, p, q, _, true, rfl, L3, by omega, fun G4 nm hnm x4 L4 => ⟨by show 2 ≤ sizeLine; decide, fun o5 ho5 => ?_⟩⟩
      have ef := L3.keep x4 ef (fun _ z => by cases z)
      obtain ⟨L5, x5, e5⟩ := L4.new (o := .lst ([Str.ofString "number", nm].map V.str)) ho5
      have ef := L4.keep x5 ef (fun _ z => by cases z)
      have lks : (kNames ks).length ≤ 6 := by unfold kNames; rw [List.length_map]; exact k6
      refine ⟨D, o5, _, _, rfl, rfl, off_un _ _ ef, off_un _ _ e5, ?_, fun n2 hn2 => ?_⟩
      · rw [List.length_map]
        exact Nat.le_of_lt (small1000 (n := (kNames ks).length + 2) (by omega))
      obtain ⟨ss, hss⟩ : ∃ ss : List Str, ss = kNames ks ++ [Str.ofString "number", nm] := ⟨_, rfl⟩
      have ess : (kNames ks).map V.str ++ [V.str (Str.ofString "number"), V.str nm] = ss.map V.str := by rw [hss, List.map_append]; rfl
      have hsf : ∀ z ∈ ss, isField (.str z) = true := fun z hz => by
        rw [hss] at hz
        show (isHigh (.str z) || decide (z = "number")) = true
        rcases List.mem_append.mp hz with h | h
        · rw [hks.nh z h]; rfl
        · simp only [List.mem_cons, List.mem_nil_iff, or_false] at h
          rcases h with rfl | rfl
          · rw [decide_eq_true rfl, Bool.or_true]
          · rw [show isHigh (.str z) = true from hnm]; rfl
      have lss1 : 1 ≤ ss.length := by rw [hss, List.length_append]; show 1 ≤ _ + 2; omega
      have lss8 : ss.length ≤ 8 := by rw [hss, List.length_append]; show _ + 2 ≤ 8; omega
      obtain ⟨L6, x6, e2⟩ := L5.new (o := .lst (ss.map V.str)) hn2
      have ess2 : upd (upd G4 o5 (.lst ([Str.ofString "number", nm].map V.str))) n2 (.lst ((kNames ks).map V.str ++ [V.str (Str.ofString "number"), V.str nm])) = upd (upd G4 o5 (.lst ([Str.ofString "number", nm].map V.str))) n2 (.lst (ss.map V.str)) := by rw [ess]
      show gName 2 (.ref n2) _ (upd (upd G4 o5 (.lst ([Str.ofString "number", nm].map V.str))) n2 (.lst ((kNames ks).map V.str ++ [V.str (Str.ofString "number"), V.str nm]))) _
      rw [ess2]
      have rk := rak.ex x3 L1.tb
      have rak0 := (rak.ex ((x3.trans x4).trans (x5.trans x6)) L1.tb)
      have hak := ((x3.trans x4).trans (x5.trans x6)).sqT L1.tb hak
      have rk : Rp K (off p q _) (.ref ak) (dKnds ks) := .tup hak rak0
      have xx := xx.trans ((x3.trans x4).trans (x5.trans x6))
      clear rak rak0 hak x1 x3 x4 x5 x6 ef e5 L1 L3 L4 L5 LD xD eD nD ess2
      refine ⟨by show 0 ≤ sizeLine; decide, fun n5 hn5 => ⟨by show 0 ≤ sizeLine; decide, fun n6 hn6 => ?_⟩⟩
      have f5 : off p q H n5 = none := fresh0 xx L.tb (off_none hn5)
      have n25 : n2 ≠ n5 := ne_of_none e2 (off_none hn5)
      obtain ⟨L7, x7, e5⟩ := L6.new (o := .lst []) hn5
      have e2 := L6.keep x7 e2 (fun _ z => by cases z)
      have rk := rk.ex x7 L6.tb
      have xx := xx.trans x7
      have f6 : off p q H n6 = none := fresh0 xx L.tb (off_none hn6)
      have n26 : n2 ≠ n6 := ne_of_none e2 (off_none hn6)
      have n56 : n5 ≠ n6 := ne_of_none e5 (off_none hn6)
      obtain ⟨L8, x8, e6⟩ := L7.new (o := .lst []) hn6
      have e2 := L7.keep x8 e2 (fun _ z => by cases z)
      have e5 := L7.keep x8 e5 (fun _ z => by cases z)
      have rk := rk.ex x8 L7.tb
      have xx := xx.trans x8
      refine ⟨by show 4 ≤ sizeLine; decide, fun l0 hl0 => ?_⟩
      obtain ⟨L9, x9, e0⟩ := L8.new (o := .lst [.int 1, .int 1, .int 2, .int 3]) hl0
      have e2 := L8.keep x9 e2 (fun _ z => by cases z)
      have e5 := L8.keep x9 e5 (fun _ z => by cases z)
      have e6 := L8.keep x9 e6 (fun _ z => by cases z)
      have rk := rk.ex x9 L8.tb
      have xx := xx.trans x9
      refine ⟨_, rfl, p, q, _, 4, rfl, L9.w, by decide, by decide, by omega, fun H10 r r0 r1 kp hw => ?_⟩
      obtain ⟨L10, x10⟩ := L9.draw kp hw
      have e2 := L9.keep x10 e2 (fun _ z => by cases z)
      have e5 := L9.keep x10 e5 (fun _ z => by cases z)
      have e6 := L9.keep x10 e6 (fun _ z => by cases z)
      have e0 := L9.keep x10 e0 (fun _ z => by cases z)
      have rk := rk.ex x10 L9.tb
      have xx := xx.trans x10
      obtain ⟨v, ev, mv⟩ := atI_of (xs := [.int 1, .int 1, .int 2, .int 3]) r0 (by show _ < (4 : Int); omega)
      obtain ⟨n, rfl, m0, m3⟩ : ∃ n : Int, v = .int n ∧ 1 ≤ n ∧ n ≤ 3 := by
        simp only [List.mem_cons, List.mem_nil_iff, or_false] at mv
        rcases mv with rfl | rfl | rfl | rfl <;> exact ⟨_, rfl, by decide, by decide⟩
      have L10 := L10.le (show b + 2000 + 16 + 1 ≤ b + 2100 by omega)
      refine ⟨l0, _, _, _, rfl, rfl, .inl (.inl (off_un _ _ e0)), ev, n, rfl, by omega, by omega, for_it (n := n.toNat) walk_range (fun i σ G => ∃ (a3 a7 a8 a10 : Option V) (funs : List FunD) (pls : List PlF) (fv pv : List V), σ = [some (.ref p), some (.ref ak), some (.ref n2), a3, none, some (.ref n5), some (.ref n6), a7, a8, none, a10, none, none, none] ∧ Wl T p q (b + 2100 + 1300 * i) G ∧ Ex T (off p q H) (off p q G) ∧
          off p q G n2 = some (.lst (ss.map V.str)) ∧ Rp K (off p q G) (.ref ak) (dKnds ks) ∧ off p q G n5 = some (.lst fv) ∧ RpAll K (off p q G) fv (funs.map dFun) ∧ off p q G n6 = some (.lst pv) ∧ RpAll K (off p q G) pv (pls.map dPlF) ∧ funs.length = i ∧ pls.length = i ∧ ∀ fp ∈ funs.zip pls, FunF fp.1 fp.2)
        ⟨_, _, _, _, [], [], [], [], rfl, L10, xx, e2, rk, e5, .nil, e6, .nil, rfl, rfl, fun _ h => by cases h⟩ (fun _ _ _ _ _ => trivial) (fun i y σ G G2 hi2 ⟨a3, a7, a8, a10, funs, pls, fv, pv, eσ, LG, xx, e2, rk, e5, rf, e6, rp, lf, lp, hf⟩ y => ?_) (fun σ G ⟨a3, a7, a8, a10, funs, pls, fv, pv, eσ, LG, xx, e2, rk, e5, rf, e6, rp, lf, lp, hf⟩ => ?_)⟩
      · obtain ⟨rfl, rfl⟩ := y
        subst eσ
        have hi3 : i < 3 := by have : i < n.toNat := hi2; omega
        generalize hB : b + 2100 + 1300 * i = bB at LG
        have hB1 : bB ≤ b + 4700 := by omega
        refine ⟨_, rfl, p, q, _, false, rfl, LG, by omega, fun G1 nm2 hnm2 x1 L1 => ?_⟩
        have e2 := LG.keep x1 e2 (fun _ z => by cases z)
        have e5 := LG.keep x1 e5 (fun _ z => by cases z)
        have e6 := LG.keep x1 e6 (fun _ z => by cases z)
        have rk := rk.ex x1 LG.tb
        have rf := rf.ex x1 LG.tb
        have rp := rp.ex x1 LG.tb
        have xx := xx.trans x1
        refine ⟨_, rfl, p, q, _, 9, rfl, L1.w, by decide, by decide, by omega, fun G2 r r0 r1 kp hw => ⟨r, rfl, by omega, by omega, fun D3 hD3 => ?_⟩⟩
        obtain ⟨L2, x2⟩ := L1.draw kp hw
        have e2 := L1.keep x2 e2 (fun _ z => by cases z)
        have e5 := L1.keep x2 e5 (fun _ z => by cases z)
        have e6 := L1.keep x2 e6 (fun _ z => by cases z)
        have rk := rk.ex x2 L1.tb
        have rf := rf.ex x2 L1.tb
        have rp := rp.ex x2 L1.tb
        have xx := xx.trans x2
        obtain ⟨LD, xD, eD⟩ := L2.new (o := .lst []) hD3
        have nD := off_none (p := p) (q := q) hD3
        refine lcB_it (n := r.toNat) walk_range (fun t G => ∃ zs : List Str, off p q G D3 = some (.lst (zs.map V.str)) ∧ zs.length = t ∧ (∀ z ∈ zs, isField (.str z) = true) ∧ Wl T p q (bB + 17 + t) G ∧ Ex T (off p q G2) (off p q G)) ⟨[], eD, rfl, (fun _ h => by cases h), LD, xD⟩ (fun _ _ _ _ => trivial) (fun t v G3 G4 ht4 ⟨zs, ef, lz, hz, L3, x3⟩ y => ?_) (fun G3 ⟨zs, ef, lz, hz, L3, x3⟩ => ?_)
        · obtain ⟨rfl, rfl⟩ := y
          have ht5 : t < r.toNat := ht4
          have es := L2.keep x3 e2 (fun _ z => by cases z)
          refine g_one (by decide) (by show 9 < 14; decide) fun σ2 _ keep g9 => yesT ⟨_, (keep 2 (by decide)).trans rfl, _, (keep 0 (by decide)).trans rfl, _, (keep 2 (by decide)).trans rfl, n2, _, rfl, .inl (.inl (.inl (off_un _ _ es))), p, q, _, _, rfl, L3.w, by rw [List.length_map]; omega, by rw [List.length_map]; omega, by omega, fun G5 u u0 u1 kp hw => ?_⟩
          obtain ⟨L5, x5⟩ := L3.draw kp hw
          have es5 := L3.keep x5 es (fun _ z => by cases z)
          have ef5 := L3.keep x5 ef (fun _ z => by cases z)
          obtain ⟨v, ev, mv⟩ := atI_of u0 u1
          obtain ⟨z, hzm, rfl⟩ := List.mem_map.mp mv
          obtain ⟨L6, x6, e6f, _⟩ := L5.fillX (x3.trans x5) nD ef5 (ys := (zs ++ [z]).map V.str)
          refine ⟨n2, _, _, _, rfl, rfl, .inl (.inl (off_un _ _ es5)), ev, zs.map V.str, off_un _ _ ef5, by rw [List.length_map]; exact small1000 (by omega), ?_⟩
          rw [show zs.map V.str ++ [V.str z] = (zs ++ [z]).map V.str by rw [List.map_append]; rfl]
          refine ⟨zs ++ [z], e6f, by rw [List.length_append, lz]; rfl, fun y hy => ?_, L6, x6⟩
          rcases List.mem_append.mp hy with hy | hy
          · exact hz y hy
          · rw [List.mem_singleton.mp hy]; exact hsf z hzm
        have lz8 : zs.length ≤ 8 := by omega
        have L3 := L3.le (show bB + 17 + r.toNat ≤ bB + 26 by omega)
        have e2 := L2.keep x3 e2 (fun _ z => by cases z)
        have e5 := L2.keep x3 e5 (fun _ z => by cases z)
        have e6 := L2.keep x3 e6 (fun _ z => by cases z)
        have rk := rk.ex x3 L2.tb
        have rf := rf.ex x3 L2.tb
        have rp := rp.ex x3 L2.tb
        have xx := xx.trans x3
        refine .inl ⟨D3, _, rfl, .inl (.inl (off_un _ _ ef)), fun t4 ht4 => ?_⟩
        obtain ⟨L4, x4, e8⟩ := L3.new (o := .tup (zs.map V.str)) ht4
        have e2 := L3.keep x4 e2 (fun _ z => by cases z)
        have e5 := L3.keep x4 e5 (fun _ z => by cases z)
        have e6 := L3.keep x4 e6 (fun _ z => by cases z)
        have rk := rk.ex x4 L3.tb
        have rf := rf.ex x4 L3.tb
        have rp := rp.ex x4 L3.tb
        have xx := xx.trans x4
        have rz : Rp K (off p q _) (.ref t4) (strsD zs) := .tup (.inl (.inl e8)) (RpAll.ofStrs fun z h => Nat.le_trans (field_len (hz z h)) (by decide))
        clear e8 ef x3 x4 xD eD nD LD ht4 hD3
        refine ⟨_, rfl, p, q, _, 5, rfl, L4.w, by decide, by decide, by omega, fun G5 u u0 u1 kp hw => ?_⟩
        obtain ⟨L5, x5⟩ := L4.draw kp hw
        have e2 := L4.keep x5 e2 (fun _ z => by cases z)
        have e5 := L4.keep x5 e5 (fun _ z => by cases z)
        have e6 := L4.keep x5 e6 (fun _ z => by cases z)
        have rk := rk.ex x5 L4.tb
        have rf := rf.ex x5 L4.tb
        have rp := rp.ex x5 L4.tb
        have rz := rz.ex x5 L4.tb
        have xx := xx.trans x5
        refine ⟨_, _, rfl, rfl, 1 + u, rfl, by omega, by omega, fun D4 hD4 => ?_⟩
        obtain ⟨LD, xD, eD⟩ := L5.new (o := .lst []) hD4
        have nD := off_none (p := p) (q := q) hD4
        have d45 : D4 ≠ n5 := (ne_of_none e5 nD).symm
        have d46 : D4 ≠ n6 := (ne_of_none e6 nD).symm
        refine lcB_it (n := (1 + u).toNat) walk_range (fun t G => ∃ (rps : List (RowD × PlR)) (ws : List V), off p q G D4 = some (.lst ws) ∧ Paired (BothAt K [n5, n6, D4] (off p q G)) ws rps ∧ rps.length = t ∧ (∀ x ∈ rps, RowF x.1 ∧ PlRF x.1 x.2) ∧ Wl T p q (bB + 27 + 220 * t) G ∧ Ex T (off p q G5) (off p q G)) ⟨[], [], eD, .nil, rfl, (fun _ h => by cases h), LD, xD⟩ (fun _ _ _ _ => trivial) (fun t v G3 G4 ht4 ⟨rps, ws, ef, pr, lr, hr', L3, x3⟩ y => ?_) (fun G6 ⟨rps, ws, ef, pr, lr, hr', L6, x6⟩ => ?_)
        · obtain ⟨rfl, rfl⟩ := y
          have ht5 : t < (1 + u).toNat := ht4
          refine g_one (by decide) (by show 9 < 14; decide) fun σ2 _ keep g9 => yesT ⟨_, (keep 0 (by decide)).trans rfl, p, q, _, rfl, L3, by omega, fun G6 c v1 v2 row pl hrf hpf nc ec r1 r2 x6 L6 => ?_⟩
          have cD : c ≠ D4 := fun e => by rw [e, ef] at nc; cases nc
          have c5 : c ≠ n5 := fun e => by
            have := L5.keep x3 e5 (fun _ z => by cases z)
            rw [e, this] at nc; cases nc
          have c6 : c ≠ n6 := fun e => by
            have := L5.keep x3 e6 (fun _ z => by cases z)
            rw [e, this] at nc; cases nc
          have ef := L3.keep x6 ef (fun _ z => by cases z)
          have pr := paired_map (fun v rp (h : BothAt K [n5, n6, D4] (off p q G4) v rp) => h.ex x6 L3.tb) pr
          obtain ⟨L7, chg, e7⟩ := L6.fillC (K := K) ef (ys := ws ++ [.ref c])
          have lw : ws.length = t := by rw [paired_len pr, lr]
          refine ⟨ws, off_un _ _ ef, small1000 (by omega), rps ++ [(row, pl)], ws ++ [.ref c], e7, ?_, by rw [List.length_append, lr]; rfl, fun y hy => ?_, L7.le (by omega), chg.base _ nD (x3.trans x6)⟩
          · have hm : ∀ u' ∈ [n5, n6, D4], c ≠ u' := fun u' hu' => by
              simp only [List.mem_cons, List.mem_nil_iff, or_false] at hu'
              rcases hu' with rfl | rfl | rfl
              · exact c5
              · exact c6
              · exact cD
            exact (paired_map (fun v rp h => BothAt.chg h chg (by simp)) pr).snoc ⟨c, v1, v2, rfl, hm, chg.lst c _ cD ec, r1.tups chg.tup (flat_row _), r2.tups chg.tup (flat_plr _)⟩
          · rcases List.mem_append.mp hy with hy | hy
            · exact hr' y hy
            · rw [List.mem_singleton.mp hy]; exact ⟨hrf, hpf⟩
        have lr5 : rps.length ≤ 5 := by omega
        have lr1 : 1 ≤ rps.length := by omega
        have L6 := L6.le (show bB + 27 + 220 * (1 + u).toNat ≤ bB + 1127 by omega)
        have e2 := L5.keep x6 e2 (fun _ z => by cases z)
        have e5 := L5.keep x6 e5 (fun _ z => by cases z)
        have e6 := L5.keep x6 e6 (fun _ z => by cases z)
        have rk := rk.ex x6 L5.tb
        have rf := rf.ex x6 L5.tb
        have rp := rp.ex x6 L5.tb
        have rz := rz.ex x6 L5.tb
        have xx := xx.trans x6
        have pr := paired_map (fun v rp (h : BothAt K [n5, n6, D4] (off p q G6) v rp) => (show BothAt K [n5, n6] (off p q G6) v rp from by
          obtain ⟨c, v1, v2, e, n, h1, h2, h3⟩ := h
          exact ⟨c, v1, v2, e, fun u' hu' => n u' (by simp only [List.mem_cons, List.mem_nil_iff, or_false] at hu' ⊢; rcases hu' with h | h; exact .inl h; exact .inr (.inl h)), h1, h2, h3⟩)) pr
        clear x6 xD eD nD LD hD4 L5 x5 L4 L3 L2 x2 L1 x1 LG
        dsimp only [gName]
        refine seq_cut (fun σ G => ∃ (a7' : Option V) (n10 : Addr) (ws : List V) (rps : List (RowD × PlR)), σ = [some (.ref p), some (.ref ak), some (.ref n2), some (.str nm2), none, some (.ref n5), some (.ref n6), a7', some (.ref t4), none, some (.ref n10), none, none, none] ∧ Wl T p q (bB + 1128) G ∧ Ex T (off p q H) (off p q G) ∧
            off p q G n2 = some (.lst (ss.map V.str)) ∧ Rp K (off p q G) (.ref ak) (dKnds ks) ∧ off p q G n5 = some (.lst fv) ∧ RpAll K (off p q G) fv (funs.map dFun) ∧ off p q G n6 = some (.lst pv) ∧ RpAll K (off p q G) pv (pls.map dPlF) ∧ Rp K (off p q G) (.ref t4) (strsD zs) ∧
            n10 ≠ n5 ∧ n10 ≠ n6 ∧ off p q G n10 = some (.lst ws) ∧ Paired (BothAt K [n5, n6] (off p q G)) ws rps ∧ 1 ≤ rps.length ∧ rps.length ≤ 60 ∧ ∀ x ∈ rps, RowF x.1 ∧ PlRF x.1 x.2)
          (fun σ G ⟨a7', n10, ws, rps, eσ, LG, xx, e2, rk, e5, rf, e6, rp, rz, n105, n106, ef, pr, lr1, lr60, hr'⟩ => ?_) (fun rest => ?_)
        rotate_left
        · have plain := rest _ _ ⟨some (.int (0 + (i : Nat))), D4, ws, rps, rfl, L6.le (by omega), xx, e2, rk, e5, rf, e6, rp, rz, d45, d46, ef, pr, lr1, by omega, hr'⟩
          have lws : ws.length = rps.length := paired_len pr
          refine ⟨_, rfl, D4, _, rfl, .inl (.inl (.inl (off_un _ _ ef))), rfl, _, rfl, ite2 (fun e5' => ?_) (fun _ => iteF plain)⟩
          refine ⟨_, rfl, D4, rfl, ⟨ws, .inl (.inl (off_un _ _ ef))⟩, fun D5 hD5 => ?_⟩
          obtain ⟨LD, xD, eD⟩ := L6.new (o := .lst []) hD5
          have nD := off_none (p := p) (q := q) hD5
          refine lcB_it (n := ws.length) walk_list (fun t G => ∃ ns : List Int, off p q G D5 = some (.lst (ns.map V.int)) ∧ ns.length = t ∧ Wl T p q (bB + 1127) G ∧ Ex T (off p q G6) (off p q G)) ⟨[], eD, rfl, LD, xD⟩ (fun t G _ ⟨_, _, _, _, x⟩ => .inl (.inl (off_un _ _ (L6.keep x ef (fun _ z => by cases z))))) (fun t v G3 G4 ht4 ⟨ns, en, ln, L3, x3⟩ y => ?_) (fun G7 ⟨ns, en, ln, L7, x7⟩ => ?_)
          · obtain ⟨rfl, hv⟩ := y
            obtain ⟨⟨row, pl⟩, hrp, c, v1, v2, rfl, _, ec, r1, r2⟩ := paired_get pr hv
            have ec := L6.keep x3 ec (fun _ z => by cases z)
            obtain ⟨c3, us3, rfl, hc3, rc3⟩ := Rp.tupI (r2.ex x3 L6.tb)
            obtain ⟨b0, us3', rfl, w0, rc3⟩ := RpAll.consI rc3
            obtain ⟨cb, xb, rfl, hcb, _⟩ := Rp.tupI w0
            obtain ⟨L8, x8, e8, _⟩ := L3.fillX x3 nD en (ys := (ns ++ [(xb.length : Int)]).map V.int)
            refine g_twoL (.inl (.inl (off_un _ _ ec))) (by decide) (by decide) (by decide) (by show 11 < 14; decide) (by show 12 < 14; decide) fun σ2 _ keep g11 g12 => yesT ⟨_, g12, c3, _, _, _, rfl, rfl, sqT_un hc3, atI_nat (j := 0) rfl, cb, xb, rfl, .inr (sqT_un hcb), _, off_un _ _ en, by rw [List.length_map]; exact small1000 (by omega), ?_⟩
            rw [show ns.map V.int ++ [V.int (xb.length : Nat)] = (ns ++ [(xb.length : Int)]).map V.int by rw [List.map_append]; rfl]
            exact ⟨ns ++ [(xb.length : Int)], e8, by rw [List.length_append, ln]; rfl, L8, x8⟩
          have e2 := L6.keep x7 e2 (fun _ z => by cases z)
          have e5 := L6.keep x7 e5 (fun _ z => by cases z)
          have e6 := L6.keep x7 e6 (fun _ z => by cases z)
          have ef := L6.keep x7 ef (fun _ z => by cases z)
          have rk := rk.ex x7 L6.tb
          have rf := rf.ex x7 L6.tb
          have rp := rp.ex x7 L6.tb
          have rz := rz.ex x7 L6.tb
          have xx := xx.trans x7
          have pr := paired_map (fun v rp (h : BothAt K [n5, n6] (off p q G6) v rp) => h.ex x7 L6.tb) pr
          have plain := rest _ _ ⟨some (.int (0 + (i : Nat))), D4, ws, rps, rfl, L7.le (by omega), xx, e2, rk, e5, rf, e6, rp, rz, d45, d46, ef, pr, lr1, by omega, hr'⟩
          refine ⟨D5, ns, rfl, .inl (.inl (off_un _ _ en)), by omega, fun m _ _ => ⟨_, _, rfl, rfl, _, rfl, ite2 (fun _ => ?_) (fun _ => iteF plain)⟩⟩
          refine ⟨_, rfl, p, q, _, 6, rfl, L7.w, by decide, by decide, by omega, fun G8 s s0 s1 kp hw => ?_⟩
          obtain ⟨L8, x8⟩ := L7.draw kp hw
          have e2 := L7.keep x8 e2 (fun _ z => by cases z)
          have e5 := L7.keep x8 e5 (fun _ z => by cases z)
          have e6 := L7.keep x8 e6 (fun _ z => by cases z)
          have ef := L7.keep x8 ef (fun _ z => by cases z)
          have rk := rk.ex x8 L7.tb
          have rf := rf.ex x8 L7.tb
          have rp := rp.ex x8 L7.tb
          have rz := rz.ex x8 L7.tb
          have xx := xx.trans x8
          have pr := paired_map (fun v rp (h : BothAt K [n5, n6] (off p q G7) v rp) => h.ex x8 L7.tb) pr
          refine ⟨rfl, _, rfl, ite2 (fun _ => ?_) (fun _ => ?_)⟩
          · refine ⟨_, rfl, D4, 12, ws, rfl, rfl, off_un _ _ ef, by decide, by decide, ?_, fun n10 hn10 => ?_⟩
            · exact Nat.le_of_lt (small1000 (n := ws.length * 12) (by omega))
            · have d105 : n10 ≠ n5 := (ne_of_none e5 (off_none hn10)).symm
              have d106 : n10 ≠ n6 := (ne_of_none e6 (off_none hn10)).symm
              obtain ⟨L9, x9, e9⟩ := L8.new hn10
              have e2 := L8.keep x9 e2 (fun _ z => by cases z)
              have e5 := L8.keep x9 e5 (fun _ z => by cases z)
              have e6 := L8.keep x9 e6 (fun _ z => by cases z)
              have ef := L8.keep x9 ef (fun _ z => by cases z)
              have rk := rk.ex x9 L8.tb
              have rf := rf.ex x9 L8.tb
              have rp := rp.ex x9 L8.tb
              have rz := rz.ex x9 L8.tb
              have xx := xx.trans x9
              have pr := paired_map (fun v rp (h : BothAt K [n5, n6] (off p q G8) v rp) => h.ex x9 L8.tb) pr
              refine rest _ _ ⟨some (.int (0 + (i : Nat))), n10, _, (List.replicate 12 rps).flatten, rfl, L9.le (by omega), xx, e2, rk, e5, rf, e6, rp, rz, d105, d106, e9, paired_rep pr 12, by rw [rep_len]; omega, by rw [rep_len]; omega, fun x hx => hr' x (rep_mem hx)⟩
          · exact rest _ _ ⟨some (.int (0 + (i : Nat))), D4, ws, rps, rfl, L8, xx, e2, rk, e5, rf, e6, rp, rz, d45, d46, ef, pr, lr1, by omega, hr'⟩
        · subst eσ
          have lws : ws.length = rps.length := paired_len pr
          refine ⟨_, rfl, .inl ⟨rfl, _, .inl (.inl (off_un _ _ e5))⟩, _, rfl, _, rfl, _, rfl, _, rfl, _, rfl, n2, _, rfl, .inl (.inl (.inl (off_un _ _ e2))), p, q, _, _, rfl, LG.w, by rw [List.length_map]; omega, by rw [List.length_map]; omega, by omega, fun G1 r r0 r1 kp hw => ?_⟩
          obtain ⟨L1, x1⟩ := LG.draw kp hw
          have e2 := LG.keep x1 e2 (fun _ z => by cases z)
          have e5 := LG.keep x1 e5 (fun _ z => by cases z)
          have e6 := LG.keep x1 e6 (fun _ z => by cases z)
          have ef := LG.keep x1 ef (fun _ z => by cases z)
          have rk := rk.ex x1 LG.tb
          have rf := rf.ex x1 LG.tb
          have rp := rp.ex x1 LG.tb
          have rz := rz.ex x1 LG.tb
          have xx := xx.trans x1
          have pr := paired_map (fun v rp (h : BothAt K [n5, n6] (off p q G) v rp) => h.ex x1 LG.tb) pr
          obtain ⟨v, ev, mv⟩ := atI_of r0 r1
          obtain ⟨res, hres, rfl⟩ := List.mem_map.mp mv
          refine ⟨n2, _, _, _, rfl, rfl, .inl (.inl (off_un _ _ e2)), ev, ?_⟩
          refine ⟨_, rfl, n10, rfl, ⟨ws, .inl (.inl (off_un _ _ ef))⟩, fun D6 hD6 => ?_⟩
          obtain ⟨LD, xD, eD⟩ := L1.new (o := .lst []) hD6
          have nD := off_none (p := p) (q := q) hD6
          refine lcB_it (n := ws.length) walk_list (fun t G => ∃ us : List V, off p q G D6 = some (.lst us) ∧ RpAll K (off p q G) us (((rps.map (·.1)).take t).map dRow) ∧ us.length = t ∧ Wl T p q (bB + 1129) G ∧ Ex T (off p q G1) (off p q G)) ⟨[], eD, .nil, rfl, LD, xD⟩ (fun t G _ ⟨_, _, _, _, _, x⟩ => .inl (.inl (off_un _ _ (L1.keep x ef (fun _ z => by cases z))))) (fun t v G3 G4 ht4 ⟨us, eu, ru, lu, L3, x3⟩ y => ?_) (fun G2 ⟨us, eu, ru, lu, L2, x2⟩ => ?_)
          · obtain ⟨rfl, hv⟩ := y
            obtain ⟨⟨row, pl⟩, hrp, c, v1, v2, rfl, _, ec, q1, q2⟩ := paired_get pr hv
            have ec := L1.keep x3 ec (fun _ z => by cases z)
            obtain ⟨L8, chg, e8⟩ := L3.fillC (K := K) eu (ys := us ++ [v1])
            have hr1 : (rps.map (·.1))[t]? = some row := by rw [List.getElem?_map, hrp]; rfl
            refine g_twoL (.inl (.inl (off_un _ _ ec))) (by decide) (by decide) (by decide) (by show 11 < 14; decide) (by show 12 < 14; decide) fun σ2 _ keep g11 g12 => yesT ⟨_, g11, us, off_un _ _ eu, small1000 (by omega), us ++ [v1], e8, ?_, by rw [List.length_append, lu]; rfl, L8, chg.base _ nD x3⟩
            rw [take_at hr1, List.map_append]
            exact (ru.mv chg.tup flat_row).snoc ((q1.ex x3 L1.tb).tups chg.tup (flat_row _))
          rw [show (rps.map (·.1)).take ws.length = rps.map (·.1) from List.take_of_length_le (by rw [List.length_map]; omega)] at ru
          have e2 := L1.keep x2 e2 (fun _ z => by cases z)
          have e5 := L1.keep x2 e5 (fun _ z => by cases z)
          have e6 := L1.keep x2 e6 (fun _ z => by cases z)
          have ef := L1.keep x2 ef (fun _ z => by cases z)
          have rk := rk.ex x2 L1.tb
          have rf := rf.ex x2 L1.tb
          have rp := rp.ex x2 L1.tb
          have rz := rz.ex x2 L1.tb
          have xx := xx.trans x2
          have pr := paired_map (fun v rp (h : BothAt K [n5, n6] (off p q G1) v rp) => h.ex x2 L1.tb) pr
          refine .inl ⟨D6, us, rfl, .inl (.inl (off_un _ _ eu)), fun t7 ht7 => ⟨by show 4 ≤ sizeLine; decide, fun t8 ht8 => ?_⟩⟩
          obtain ⟨L3, x3, e7⟩ := L2.new (o := .tup us) ht7
          have e2 := L2.keep x3 e2 (fun _ z => by cases z)
          have e5 := L2.keep x3 e5 (fun _ z => by cases z)
          have e6 := L2.keep x3 e6 (fun _ z => by cases z)
          have ef := L2.keep x3 ef (fun _ z => by cases z)
          have rk := rk.ex x3 L2.tb
          have rf := rf.ex x3 L2.tb
          have rp := rp.ex x3 L2.tb
          have rz := rz.ex x3 L2.tb
          have ru := ru.ex x3 L2.tb
          have xx := xx.trans x3
          have pr := paired_map (fun v rp (h : BothAt K [n5, n6] (off p q G2) v rp) => h.ex x3 L2.tb) pr
          obtain ⟨L4, x4, e8⟩ := L3.new (o := .tup [.str nm2, .ref t4, .str res, .ref t7]) ht8
          have e2 := L3.keep x4 e2 (fun _ z => by cases z)
          have e5 := L3.keep x4 e5 (fun _ z => by cases z)
          have e6 := L3.keep x4 e6 (fun _ z => by cases z)
          have ef := L3.keep x4 ef (fun _ z => by cases z)
          have e7 := L3.keep x4 e7 (fun _ z => by cases z)
          have rk := rk.ex x4 L3.tb
          have rf := rf.ex x4 L3.tb
          have rp := rp.ex x4 L3.tb
          have rz := rz.ex x4 L3.tb
          have ru := ru.ex x4 L3.tb
          have xx := xx.trans x4
          have pr := paired_map (fun v rp (h : BothAt K [n5, n6] (off p q _) v rp) => h.ex x4 L3.tb) pr
          have rfun : Rp K (off p q _) (.ref t8) (dFun ⟨nm2, zs, res, rps.map (·.1)⟩) := .tup (.inl (.inl e8)) (.cons (.str _ (Nat.le_trans (nm_len hnm2) (by decide))) (.cons rz (.cons (.str _ (Nat.le_trans (field_len (hsf res hres)) (by decide))) (.cons (.tup (.inl (.inl e7)) ru) .nil))))
          have lfv : fv.length = i := by rw [rf.lenM, lf]
          have lpv : pv.length = i := by rw [rp.lenM, lp]
          obtain ⟨L5, chg, e5'⟩ := L4.fillC (K := K) e5 (ys := fv ++ [.ref t8])
          refine ⟨n5, fv, _, rfl, rfl, off_un _ _ e5, small1000 (by omega), ?_⟩
          have e2 := chg.lst n2 _ n25 e2
          have e6 := chg.lst n6 _ n56.symm e6
          have ef := chg.lst n10 _ n105 ef
          have rk := rk.tups chg.tup (flatT_map fun k _ => flat_knd k)
          have rp := rp.mv chg.tup flat_plf
          have rf := (rf.mv chg.tup flat_fun).snoc (rfun.tups chg.tup (flat_fun _))
          have xx := chg.base _ f5 xx
          have pr := paired_map (fun v rp h => BothAt.chg h chg (by simp)) pr
          clear x1 x2 x3 x4 xD eD nD LD e7 e8 rz ru
          refine ⟨_, rfl, .inl ⟨rfl, _, .inl (.inl (off_un _ _ e6))⟩, _, rfl, p, q, _, true, rfl, L5, by omega, fun G6 ve es hes re x6 L6 => ?_⟩
          have e2 := L5.keep x6 e2 (fun _ z => by cases z)
          have e5' := L5.keep x6 e5' (fun _ z => by cases z)
          have e6 := L5.keep x6 e6 (fun _ z => by cases z)
          have ef := L5.keep x6 ef (fun _ z => by cases z)
          have rk := rk.ex x6 L5.tb
          have rf := rf.ex x6 L5.tb
          have rp := rp.ex x6 L5.tb
          have xx := xx.trans x6
          have pr := paired_map (fun v rp (h : BothAt K [n5, n6] (off p q _) v rp) => h.ex x6 L5.tb) pr
          refine ⟨_, rfl, n10, rfl, ⟨ws, .inl (.inl (off_un _ _ ef))⟩, fun D7 hD7 => ?_⟩
          obtain ⟨LD, xD, eD⟩ := L6.new (o := .lst []) hD7
          have nD := off_none (p := p) (q := q) hD7
          refine lcB_it (n := ws.length) walk_list (fun t G => ∃ us : List V, off p q G D7 = some (.lst us) ∧ RpAll K (off p q G) us (((rps.map (·.2)).take t).map dPlR) ∧ us.length = t ∧ Wl T p q (bB + 1145) G ∧ Ex T (off p q G6) (off p q G)) ⟨[], eD, .nil, rfl, LD.le (by omega), xD⟩ (fun t G _ ⟨_, _, _, _, _, x⟩ => .inl (.inl (off_un _ _ (L6.keep x ef (fun _ z => by cases z))))) (fun t v G3 G4 ht4 ⟨us, eu, ru, lu, L3, x3⟩ y => ?_) (fun G2 ⟨us, eu, ru, lu, L2, x2⟩ => ?_)
          · obtain ⟨rfl, hv⟩ := y
            obtain ⟨⟨row, pl⟩, hrp, c, v1, v2, rfl, _, ec, q1, q2⟩ := paired_get pr hv
            have ec := L6.keep x3 ec (fun _ z => by cases z)
            obtain ⟨L8, chg, e8⟩ := L3.fillC (K := K) eu (ys := us ++ [v2])
            have hr1 : (rps.map (·.2))[t]? = some pl := by rw [List.getElem?_map, hrp]; rfl
            refine g_twoL (.inl (.inl (off_un _ _ ec))) (by decide) (by decide) (by decide) (by show 11 < 14; decide) (by show 12 < 14; decide) fun σ2 _ keep g11 g12 => yesT ⟨_, g12, us, off_un _ _ eu, small1000 (by omega), us ++ [v2], e8, ?_, by rw [List.length_append, lu]; rfl, L8, chg.base _ nD x3⟩
            rw [take_at hr1, List.map_append]
            exact (ru.mv chg.tup flat_plr).snoc ((q2.ex x3 L6.tb).tups chg.tup (flat_plr _))
          rw [show (rps.map (·.2)).take ws.length = rps.map (·.2) from List.take_of_length_le (by rw [List.length_map]; omega)] at ru
          have e2 := L6.keep x2 e2 (fun _ z => by cases z)
          have e5' := L6.keep x2 e5' (fun _ z => by cases z)
          have e6 := L6.keep x2 e6 (fun _ z => by cases z)
          have rk := rk.ex x2 L6.tb
          have rf := rf.ex x2 L6.tb
          have rp := rp.ex x2 L6.tb
          have re := re.ex x2 L6.tb
          have xx := xx.trans x2
          refine .inl ⟨D7, us, rfl, .inl (.inl (off_un _ _ eu)), fun t9 ht9 => ⟨by show 2 ≤ sizeLine; decide, fun t10 ht10 => ?_⟩⟩
          obtain ⟨L3, x3, e9⟩ := L2.new (o := .tup us) ht9
          have e2 := L2.keep x3 e2 (fun _ z => by cases z)
          have e5' := L2.keep x3 e5' (fun _ z => by cases z)
          have e6 := L2.keep x3 e6 (fun _ z => by cases z)
          have rk := rk.ex x3 L2.tb
          have rf := rf.ex x3 L2.tb
          have rp := rp.ex x3 L2.tb
          have re := re.ex x3 L2.tb
          have ru := ru.ex x3 L2.tb
          have xx := xx.trans x3
          obtain ⟨L4, x4, e10⟩ := L3.new (o := .tup [ve, .ref t9]) ht10
          have e2 := L3.keep x4 e2 (fun _ z => by cases z)
          have e5' := L3.keep x4 e5' (fun _ z => by cases z)
          have e6 := L3.keep x4 e6 (fun _ z => by cases z)
          have e9 := L3.keep x4 e9 (fun _ z => by cases z)
          have rk := rk.ex x4 L3.tb
          have rf := rf.ex x4 L3.tb
          have rp := rp.ex x4 L3.tb
          have re := re.ex x4 L3.tb
          have ru := ru.ex x4 L3.tb
          have xx := xx.trans x4
          have rplf : Rp K (off p q _) (.ref t10) (dPlF ⟨es, rps.map (·.2)⟩) := .tup (.inl (.inl e10)) (.cons re (.cons (.tup (.inl (.inl e9)) ru) .nil))
          obtain ⟨L8, chg2, e6'⟩ := L4.fillC (K := K) e6 (ys := pv ++ [.ref t10])
          have hzip : (rps.map (·.1)).zip (rps.map (·.2)) = rps := zip_pairs rps
          refine ⟨n6, pv, _, rfl, rfl, off_un _ _ e6, small1000 (by omega), _, _, _, _, funs ++ [⟨nm2, zs, res, rps.map (·.1)⟩], pls ++ [⟨es, rps.map (·.2)⟩], _, _, rfl, L8.le (by omega), chg2.base _ f6 xx, chg2.lst n2 _ n26 e2, rk.tups chg2.tup (flatT_map fun k _ => flat_knd k), chg2.lst n5 _ n56 e5', ?_, e6', ?_, by rw [List.length_append, lf]; rfl, by rw [List.length_append, lp]; rfl, ?_⟩
          · have := rf.tups chg2.tup (flatTs_all fun d hd => ?_)
            · rw [List.map_append]; exact this
            · rcases List.mem_append.mp hd with h | h
              · obtain ⟨x, _, rfl⟩ := List.mem_map.mp h; exact flat_fun x
              · rw [List.mem_singleton.mp h]; exact flat_fun _
          · rw [List.map_append]
            exact (rp.mv chg2.tup flat_plf).snoc (rplf.tups chg2.tup (flat_plf _))
          · intro fp hfp
            rw [List.zip_append (by rw [lf, lp])] at hfp
            rcases List.mem_append.mp hfp with h | h
            · exact hf fp h
            · rw [List.mem_singleton.mp h]
              exact ⟨hnm2, ⟨lz8, hz⟩, hsf res hres, by show 1 ≤ (rps.map _).length; rw [List.length_map]; exact lr1, by show (rps.map _).length ≤ 60; rw [List.length_map]; exact lr60, by show (rps.map _).length = (rps.map _).length; rw [List.length_map, List.length_map], hes, fun rp hrp => hr' rp (by
                have hrp : rp ∈ (rps.map (·.1)).zip (rps.map (·.2)) := hrp
                rw [hzip] at hrp; exact hrp)⟩
      · subst eσ
        have hn3 : n.toNat ≤ 3 := by omega
        have hn1 : 1 ≤ n.toNat := by omega
        generalize hB : b + 2100 + 1300 * n.toNat = bB at LG
        dsimp only
        refine seq_cut (fun σ G => ∃ (a3 a7 a8 a10 : Option V) (n5 n6 : Addr) (fv pv : List V) (funs : List FunD) (pls : List PlF), σ = [some (.ref p), some (.ref ak), some (.ref n2), a3, none, some (.ref n5), some (.ref n6), a7, a8, none, a10, none, none, none] ∧ Wl T p q (bB + 1) G ∧ Ex T (off p q H) (off p q G) ∧ Rp K (off p q G) (.ref ak) (dKnds ks) ∧ off p q G n5 = some (.lst fv) ∧ RpAll K (off p q G) fv (funs.map dFun) ∧ off p q G n6 = some (.lst pv) ∧ RpAll K (off p q G) pv (pls.map dPlF) ∧ 1 ≤ funs.length ∧ funs.length ≤ 12 ∧ pls.length = funs.length ∧ ∀ fp ∈ funs.zip pls, FunF fp.1 fp.2)
           (fun σ G ⟨b3, b7, b8, b10, n5, n6, fv, pv, funs, pls, eσ, LG, xx, rk, e5, rf, e6, rp, f1, f12, lp, hf⟩ => ?_) (fun rest => ?_)
        rotate_left
        · have plain := rest _ _ ⟨a3, a7, a8, a10, n5, n6, fv, pv, funs, pls, rfl, LG.le (by omega), xx, rk, e5, rf, e6, rp, by omega, by omega, by omega, hf⟩
          have lfv : fv.length = funs.length := rf.lenM
          have lpv : pv.length = pls.length := rp.lenM
          refine ⟨_, rfl, n5, _, rfl, .inl (.inl (.inl (off_un _ _ e5))), rfl, _, rfl, ite2 (fun e5' => ?_) (fun _ => iteF plain)⟩
          refine ⟨_, rfl, n5, rfl, ⟨fv, .inl (.inl (off_un _ _ e5))⟩, fun D5 hD5 => ?_⟩
          obtain ⟨LD, xD, eD⟩ := LG.new (o := .lst []) hD5
          have nD := off_none (p := p) (q := q) hD5
          refine lcB_it (n := fv.length) walk_list (fun t G' => ∃ ns : List Int, off p q G' D5 = some (.lst (ns.map V.int)) ∧ ns.length = t ∧ Wl T p q bB G' ∧ Ex T (off p q G) (off p q G')) ⟨[], eD, rfl, LD, xD⟩ (fun t G' _ ⟨_, _, _, _, x⟩ => .inl (.inl (off_un _ _ (LG.keep x e5 (fun _ z => by cases z))))) (fun t v G3 G4 ht4 ⟨ns, en, ln, L3, x3⟩ y => ?_) (fun G7 ⟨ns, en, ln, L7, x7⟩ => ?_)
          · obtain ⟨rfl, hv⟩ := y
            obtain ⟨fd1, hfd, rfd⟩ := rf.getM hv
            obtain ⟨c3, us3, rfl, hc3, rc3⟩ := Rp.tupI (rfd.ex x3 LG.tb)
            obtain ⟨b0, us3', rfl, w0, rc3⟩ := RpAll.consI rc3
            obtain ⟨b1, us3', rfl, w1, rc3⟩ := RpAll.consI rc3
            obtain ⟨b2, us3', rfl, w2, rc3⟩ := RpAll.consI rc3
            obtain ⟨b3, us3', rfl, w3, rc3⟩ := RpAll.consI rc3
            obtain ⟨cb, xb, rfl, hcb, _⟩ := Rp.tupI w3
            obtain ⟨L8, x8, e8, _⟩ := L3.fillX x3 nD en (ys := (ns ++ [(xb.length : Int)]).map V.int)
            refine g_one (by decide) (by show 13 < 14; decide) fun σ2 _ keep g13 => yesT ⟨_, g13, c3, _, _, _, rfl, rfl, sqT_un hc3, atI_nat (j := 3) rfl, cb, xb, rfl, .inr (sqT_un hcb), _, off_un _ _ en, by rw [List.length_map]; exact small1000 (by omega), ?_⟩
            rw [show ns.map V.int ++ [V.int (xb.length : Nat)] = (ns ++ [(xb.length : Int)]).map V.int by rw [List.map_append]; rfl]
            exact ⟨ns ++ [(xb.length : Int)], e8, by rw [List.length_append, ln]; rfl, L8, x8⟩
          have e5 := LG.keep x7 e5 (fun _ z => by cases z)
          have e6 := LG.keep x7 e6 (fun _ z => by cases z)
          have rk := rk.ex x7 LG.tb
          have rf := rf.ex x7 LG.tb
          have rp := rp.ex x7 LG.tb
          have xx := xx.trans x7
          have plain := rest _ _ ⟨a3, a7, a8, a10, n5, n6, fv, pv, funs, pls, rfl, L7.le (by omega), xx, rk, e5, rf, e6, rp, by omega, by omega, by omega, hf⟩
          refine ⟨D5, ns, rfl, .inl (.inl (off_un _ _ en)), by omega, fun m _ _ => ⟨_, _, rfl, rfl, _, rfl, ite2 (fun _ => ?_) (fun _ => iteF plain)⟩⟩
          refine ⟨_, rfl, p, q, _, 8, rfl, L7.w, by decide, by decide, by omega, fun G8 s s0 s1 kp hw => ?_⟩
          obtain ⟨L8, x8⟩ := L7.draw kp hw
          have e5 := L7.keep x8 e5 (fun _ z => by cases z)
          have e6 := L7.keep x8 e6 (fun _ z => by cases z)
          have rk := rk.ex x8 L7.tb
          have rf := rf.ex x8 L7.tb
          have rp := rp.ex x8 L7.tb
          have xx := xx.trans x8
          have plain := rest _ _ ⟨a3, a7, a8, a10, n5, n6, fv, pv, funs, pls, rfl, L8, xx, rk, e5, rf, e6, rp, by omega, by omega, by omega, hf⟩
          refine ⟨rfl, _, rfl, ite2 (fun _ => ?_) (fun _ => plain)⟩
          refine ⟨_, rfl, n5, 4, fv, rfl, rfl, off_un _ _ e5, by decide, by decide, Nat.le_of_lt (small1000 (n := fv.length * 4) (by omega)), fun m5 hm5 => ?_⟩
          obtain ⟨L9, x9, e5⟩ := L8.new hm5
          have e6 := L8.keep x9 e6 (fun _ z => by cases z)
          have rk := rk.ex x9 L8.tb
          have rf := rf.ex x9 L8.tb
          have rp := rp.ex x9 L8.tb
          have xx := xx.trans x9
          refine ⟨_, rfl, n6, 4, pv, rfl, rfl, off_un _ _ e6, by decide, by decide, Nat.le_of_lt (small1000 (n := pv.length * 4) (by omega)), fun m6 hm6 => ?_⟩
          obtain ⟨L10, x10, e6⟩ := L9.new hm6
          have e5 := L9.keep x10 e5 (fun _ z => by cases z)
          have rk := rk.ex x10 L9.tb
          have rf := rf.ex x10 L9.tb
          have rp := rp.ex x10 L9.tb
          have xx := xx.trans x10
          refine rest _ _ ⟨a3, a7, a8, a10, m5, m6, _, _, (List.replicate 4 funs).flatten, (List.replicate 4 pls).flatten, rfl, L10, xx, rk, e5, by rw [← rep_map]; exact rf.rep 4, e6, by rw [← rep_map]; exact rp.rep 4, by rw [rep_len]; omega, by rw [rep_len]; omega, by rw [rep_len, rep_len]; omega, fun fp hfp => ?_⟩
          rw [rep_zip (by omega)] at hfp
          exact hf fp (rep_mem hfp)
        · subst eσ
          have lfv : fv.length = funs.length := rf.lenM
          have lpv : pv.length = pls.length := rp.lenM
          refine ⟨_, rfl, _, rfl, .inl ⟨n5, fv, rfl, .inl (.inl (off_un _ _ e5)), fun t1 ht1 => ⟨by show 2 ≤ sizeLine; decide, fun t2 ht2 => ?_⟩⟩⟩
          obtain ⟨L1, x1, e1⟩ := LG.new (o := .tup fv) ht1
          have e5 := LG.keep x1 e5 (fun _ z => by cases z)
          have e6 := LG.keep x1 e6 (fun _ z => by cases z)
          have rk := rk.ex x1 LG.tb
          have rf := rf.ex x1 LG.tb
          have rp := rp.ex x1 LG.tb
          have xx := xx.trans x1
          obtain ⟨L2, x2, e2⟩ := L1.new (o := .tup [.ref ak, .ref t1]) ht2
          have e5 := L1.keep x2 e5 (fun _ z => by cases z)
          have e6 := L1.keep x2 e6 (fun _ z => by cases z)
          have e1 := L1.keep x2 e1 (fun _ z => by cases z)
          have rk := rk.ex x2 L1.tb
          have rf := rf.ex x2 L1.tb
          have rp := rp.ex x2 L1.tb
          have xx := xx.trans x2
          refine ⟨_, rfl, .inl ⟨n6, pv, rfl, .inl (.inl (off_un _ _ e6)), fun t3 ht3 => ⟨by show 2 ≤ sizeLine; decide, fun c hc => ?_⟩⟩⟩
          obtain ⟨L3, x3, e3⟩ := L2.new (o := .tup pv) ht3
          have e5 := L2.keep x3 e5 (fun _ z => by cases z)
          have e6 := L2.keep x3 e6 (fun _ z => by cases z)
          have e1 := L2.keep x3 e1 (fun _ z => by cases z)
          have e2 := L2.keep x3 e2 (fun _ z => by cases z)
          have rk := rk.ex x3 L2.tb
          have rf := rf.ex x3 L2.tb
          have rp := rp.ex x3 L2.tb
          have xx := xx.trans x3
          obtain ⟨L4, x4, e4⟩ := L3.new (o := .lst [.ref t2, .ref t3]) hc
          have e1 := L3.keep x4 e1 (fun _ z => by cases z)
          have e2 := L3.keep x4 e2 (fun _ z => by cases z)
          have e3 := L3.keep x4 e3 (fun _ z => by cases z)
          have rk := rk.ex x4 L3.tb
          have rf := rf.ex x4 L3.tb
          have rp := rp.ex x4 L3.tb
          have xx := xx.trans x4
          exact k _ c _ _ ⟨ks, funs⟩ pls ⟨hks, f1, f12, lp, hf⟩ e4 (.tup (.inl (.inl e2)) (.cons rk (.cons (.tup (.inl (.inl e1)) rf) .nil))) (.tup (.inl (.inl e3)) rp) xx (L4.le (by omega))
end
end JF
set_option Elab.async false
set_option linter.all false
set_option maxRecDepth 100000
set_option maxHeartbeats 1000000
/-! words with a blank behind each, as code points -/
namespace JF
open PySem PySem.Spec PyProof PyProof.Rows L2 GxR GA TL
/-- the words, a blank behind each -/
def Sl (ws : List Str) : List Nat := ws.flatMap fun w => tl w ++ [32]
theorem Sl_nil : Sl [] = [] := rfl
theorem Sl_cons (w : Str) (ws : List Str) : Sl (w :: ws) = tl w ++ (32 :: Sl ws) := by simp [Sl]
theorem Sl_app (a b : List Str) : Sl (a ++ b) = Sl a ++ Sl b := by simp [Sl]
theorem Sl_len : ∀ ws : List Str, (Sl ws).length = wt ws
  | [] => rfl
  | w :: ws => by
    rw [Sl_cons, wt_cons, List.length_append, List.length_cons, Sl_len ws, len_tl]
    omega
/-- the text is these words, one blank between two -/
def Tx (ws : List Str) (x : Str) : Prop := tl x ++ [32] = Sl ws
/-- the text is these words, a blank behind each -/
def Sx (ws : List Str) (x : Str) : Prop := tl x = Sl ws
theorem Tx.len {ws : List Str} {x : Str} (h : Tx ws x) : x.length + 1 = wt ws := by
  have := congrArg List.length h
  rw [List.length_append, Sl_len] at this
  rw [len_tl]
  exact this
theorem Sx.len {ws : List Str} {x : Str} (h : Sx ws x) : x.length = wt ws := by
  rw [len_tl, h, Sl_len]
theorem Tx.uniq {ws : List Str} {x y : Str} (h : Tx ws x) (k : Tx ws y) : x = y := ext_tl (List.append_cancel_right (h.trans k.symm))
theorem tx_join : ∀ {ps : List (List Str)} {xs : List Str}, Paired Tx ps xs → ps ≠ [] → Tx ps.flatten (Txt.join (" " : Str) xs) := by
  have hb : tl (" " : Str) = [32] := by decide +kernel
  have key : ∀ {ps : List (List Str)} {xs : List Str}, Paired Tx ps xs → ps ≠ [] → joinL [32] (xs.map tl) ++ [32] = Sl ps.flatten := by
    intro ps
    induction ps with
    | nil => intro xs _ h; exact absurd rfl h
    | cons p ps ih =>
      intro xs h hne
      cases h with
      | @cons _ b _ bs h r =>
        clear hne
        cases ps with
        | nil =>
          cases r
          show tl b ++ [32] = _
          rw [List.flatten_cons, List.flatten_nil, List.append_nil]
          exact h
        | cons p2 ps2 =>
          have ih := ih r (by simp)
          cases r with
          | @cons _ b2 _ bs2 h2 r2 =>
            show (tl b ++ ([32] ++ joinL [32] ((b2 :: bs2).map tl))) ++ [32] = _
            rw [List.flatten_cons, Sl_app, ← ih, ← h]
            simp only [List.append_assoc]
  intro ps xs h hn
  unfold Tx
  have e := key h hn
  have ej : Txt.join (" " : Str) xs = Str.join (" " : Str) xs := join_eq _ _
  rw [ej, tl_join, hb]
  exact e
theorem tx_self : ∀ {ws : List Str}, ws ≠ [] → Tx ws (Txt.join (" " : Str) ws) := fun {ws} h => by
  have p : Paired Tx (ws.map fun w => [w]) ws := by
    clear h
    induction ws with
    | nil => exact .nil
    | cons w ws ih => exact .cons (show tl w ++ [32] = Sl [w] by rw [Sl_cons, Sl_nil]) ih
  have := tx_join p (by simpa using h)
  rwa [show (ws.map fun w => [w]).flatten = ws by clear p this h; induction ws with | nil => rfl | cons w ws ih => rw [List.map_cons, List.flatten_cons, ih]; rfl] at this
/-- the parts of a list with commas between, by a join -/
theorem sl_commas : ∀ {zs : List Str}, zs ≠ [] → Sl (joinW (zs.map fun e => [e])) = tl (Txt.join (" , " : Str) zs) ++ [32] := by
  have hb : tl (" , " : Str) = [32, 44, 32] := by decide +kernel
  have hc : tl (Str.ofString ",") = [44] := by decide +kernel
  have key : ∀ {zs : List Str}, zs ≠ [] → Sl (joinW (zs.map fun e => [e])) = joinL [32, 44, 32] (zs.map tl) ++ [32] := by
    intro zs
    induction zs with
    | nil => intro h; exact absurd rfl h
    | cons z zs ih =>
      intro _
      cases zs with
      | nil => exact Sl_cons z []
      | cons y ys =>
        have ih := ih (by simp)
        have e : joinW ((z :: y :: ys).map fun e => [e]) = z :: Str.ofString "," :: joinW ((y :: ys).map fun e => [e]) := rfl
        rw [e, Sl_cons, Sl_cons, ih, hc]
        show _ = (tl z ++ ([32, 44, 32] ++ joinL [32, 44, 32] ((y :: ys).map tl))) ++ [32]
        simp only [List.append_assoc, List.cons_append, List.nil_append]
  intro zs h
  have ej : Txt.join (" , " : Str) zs = Str.join (" , " : Str) zs := join_eq _ _
  rw [key h, ej, tl_join, hb]
theorem tx_list {zs : List Str} (h : zs ≠ []) : Tx (listW zs) ((("( " : Str) ++ Txt.join (" , " : Str) zs) ++ (" )" : Str)) := by
  have h1 : tl ("( " : Str) = [40, 32] := by decide +kernel
  have h2 : tl (" )" : Str) = [32, 41] := by decide +kernel
  have h3 : tl (Str.ofString "(") = [40] := by decide +kernel
  have h4 : tl (Str.ofString ")") = [41] := by decide +kernel
  unfold Tx listW
  rw [Sl_app, Sl_app, sl_commas h, tl_append, tl_append, h1, h2, Sl_cons, Sl_cons, Sl_nil, h3, h4]
  simp only [List.append_assoc, List.cons_append, List.nil_append]
theorem tx_list0 : Tx (listW []) ("( )" : Str) := by
  unfold Tx
  decide +kernel
end JF
set_option Elab.async false
set_option linter.all false
set_option maxRecDepth 100000
set_option maxHeartbeats 2000000
/-! the texts of the parts: brackets, registers, deeds, nexts -/
namespace JF
open PySem PySem.Spec PyProof PyProof.Rows L2 GxR GA TL
theorem cl0 : (Str.ofString "free t").length = 6 := by decide +kernel
theorem ct0 : tl (Str.ofString "free t") = [102, 114, 101, 101, 32, 116] := by decide +kernel
theorem cl1 : (Str.ofString " : ").length = 3 := by decide +kernel
theorem ct1 : tl (Str.ofString " : ") = [32, 58, 32] := by decide +kernel
theorem cl2 : (Str.ofString " ").length = 1 := by decide +kernel
theorem ct2 : tl (Str.ofString " ") = [32] := by decide +kernel
theorem cl3 : (Str.ofString "hold").length = 4 := by decide +kernel
theorem ct3 : tl (Str.ofString "hold") = [104, 111, 108, 100] := by decide +kernel
theorem cl4 : (Str.ofString "drop").length = 4 := by decide +kernel
theorem ct4 : tl (Str.ofString "drop") = [100, 114, 111, 112] := by decide +kernel
theorem cl5 : (Str.ofString " r").length = 2 := by decide +kernel
theorem ct5 : tl (Str.ofString " r") = [32, 114] := by decide +kernel
theorem cl6 : (Str.ofString "{ ").length = 2 := by decide +kernel
theorem ct6 : tl (Str.ofString "{ ") = [123, 32] := by decide +kernel
theorem cl7 : (Str.ofString "} ").length = 2 := by decide +kernel
theorem ct7 : tl (Str.ofString "} ") = [125, 32] := by decide +kernel
theorem cl8 : (Str.ofString " -> ").length = 4 := by decide +kernel
theorem ct8 : tl (Str.ofString " -> ") = [32, 45, 62, 32] := by decide +kernel
theorem cl9 : (Str.ofString "give r").length = 6 := by decide +kernel
theorem ct9 : tl (Str.ofString "give r") = [103, 105, 118, 101, 32, 114] := by decide +kernel
theorem cl10 : (Str.ofString " ;").length = 2 := by decide +kernel
theorem ct10 : tl (Str.ofString " ;") = [32, 59] := by decide +kernel
theorem cl11 : (Str.ofString "r").length = 1 := by decide +kernel
theorem ct11 : tl (Str.ofString "r") = [114] := by decide +kernel
theorem cl12 : (Str.ofString " < r").length = 4 := by decide +kernel
theorem ct12 : tl (Str.ofString " < r") = [32, 60, 32, 114] := by decide +kernel
theorem cl13 : (Str.ofString " ,").length = 2 := by decide +kernel
theorem ct13 : tl (Str.ofString " ,") = [32, 44] := by decide +kernel
theorem cl14 : (Str.ofString "case r").length = 6 := by decide +kernel
theorem ct14 : tl (Str.ofString "case r") = [99, 97, 115, 101, 32, 114] := by decide +kernel
theorem cl15 : (Str.ofString " into t").length = 7 := by decide +kernel
theorem ct15 : tl (Str.ofString " into t") = [32, 105, 110, 116, 111, 32, 116] := by decide +kernel
theorem cl16 : (Str.ofString " = ").length = 3 := by decide +kernel
theorem ct16 : tl (Str.ofString " = ") = [32, 61, 32] := by decide +kernel
theorem cl17 : (Str.ofString " + r").length = 4 := by decide +kernel
theorem ct17 : tl (Str.ofString " + r") = [32, 43, 32, 114] := by decide +kernel
theorem cl18 : (Str.ofString " - r").length = 4 := by decide +kernel
theorem ct18 : tl (Str.ofString " - r") = [32, 45, 32, 114] := by decide +kernel
theorem cl19 : (Str.ofString " in t").length = 5 := by decide +kernel
theorem ct19 : tl (Str.ofString " in t") = [32, 105, 110, 32, 116] := by decide +kernel
theorem cl20 : (Str.ofString "kind ").length = 5 := by decide +kernel
theorem ct20 : tl (Str.ofString "kind ") = [107, 105, 110, 100, 32] := by decide +kernel
theorem cl21 : (Str.ofString " {").length = 2 := by decide +kernel
theorem ct21 : tl (Str.ofString " {") = [32, 123] := by decide +kernel
theorem cl22 : (Str.ofString "}").length = 1 := by decide +kernel
theorem ct22 : tl (Str.ofString "}") = [125] := by decide +kernel
theorem cl23 : (Str.ofString "fun ").length = 4 := by decide +kernel
theorem ct23 : tl (Str.ofString "fun ") = [102, 117, 110, 32] := by decide +kernel
theorem cl24 : (Str.ofString "entry ").length = 6 := by decide +kernel
theorem ct24 : tl (Str.ofString "entry ") = [101, 110, 116, 114, 121, 32] := by decide +kernel
theorem cl25 : (Str.ofString ";").length = 1 := by decide +kernel
theorem ct25 : tl (Str.ofString ";") = [59] := by decide +kernel
theorem cl26 : (Str.ofString "free").length = 4 := by decide +kernel
theorem ct26 : tl (Str.ofString "free") = [102, 114, 101, 101] := by decide +kernel
theorem cl27 : (Str.ofString "{").length = 1 := by decide +kernel
theorem ct27 : tl (Str.ofString "{") = [123] := by decide +kernel
theorem cl28 : (Str.ofString ":").length = 1 := by decide +kernel
theorem ct28 : tl (Str.ofString ":") = [58] := by decide +kernel
theorem cl29 : (Str.ofString "->").length = 2 := by decide +kernel
theorem ct29 : tl (Str.ofString "->") = [45, 62] := by decide +kernel
theorem cl30 : (Str.ofString "give").length = 4 := by decide +kernel
theorem ct30 : tl (Str.ofString "give") = [103, 105, 118, 101] := by decide +kernel
theorem cl31 : (Str.ofString "<").length = 1 := by decide +kernel
theorem ct31 : tl (Str.ofString "<") = [60] := by decide +kernel
theorem cl32 : (Str.ofString ",").length = 1 := by decide +kernel
theorem ct32 : tl (Str.ofString ",") = [44] := by decide +kernel
theorem cl33 : (Str.ofString "case").length = 4 := by decide +kernel
theorem ct33 : tl (Str.ofString "case") = [99, 97, 115, 101] := by decide +kernel
theorem cl34 : (Str.ofString "into").length = 4 := by decide +kernel
theorem ct34 : tl (Str.ofString "into") = [105, 110, 116, 111] := by decide +kernel
theorem cl35 : (Str.ofString "=").length = 1 := by decide +kernel
theorem ct35 : tl (Str.ofString "=") = [61] := by decide +kernel
theorem cl36 : (Str.ofString "+").length = 1 := by decide +kernel
theorem ct36 : tl (Str.ofString "+") = [43] := by decide +kernel
theorem cl37 : (Str.ofString "-").length = 1 := by decide +kernel
theorem ct37 : tl (Str.ofString "-") = [45] := by decide +kernel
theorem cl38 : (Str.ofString "in").length = 2 := by decide +kernel
theorem ct38 : tl (Str.ofString "in") = [105, 110] := by decide +kernel
theorem cl39 : (Str.ofString "kind").length = 4 := by decide +kernel
theorem ct39 : tl (Str.ofString "kind") = [107, 105, 110, 100] := by decide +kernel
theorem cl40 : (Str.ofString "fun").length = 3 := by decide +kernel
theorem ct40 : tl (Str.ofString "fun") = [102, 117, 110] := by decide +kernel
theorem cl41 : (Str.ofString "entry").length = 5 := by decide +kernel
theorem ct41 : tl (Str.ofString "entry") = [101, 110, 116, 114, 121] := by decide +kernel
theorem cl42 : (Str.ofString "t").length = 1 := by decide +kernel
theorem ct42 : tl (Str.ofString "t") = [116] := by decide +kernel
theorem tl_iw (i : Int) : tl (Str.ofString (toString i)) = tl (iW i) := rfl
theorem len_iw (i : Int) : (Str.ofString (toString i)).length = (iW i).length := rfl
theorem tl_rW (i : Int) : tl (rW i) = 114 :: tl (iW i) := by
  unfold rW
  rw [tl_append, ct11]; rfl
theorem tl_tW (i : Int) : tl (tW i) = 116 :: tl (iW i) := by
  unfold tW
  rw [tl_append, ct42]; rfl
abbrev sBr : Stmt := topS 76
abbrev sLRegs : Stmt := topS 77
abbrev sDTxt : Stmt := topS 78
abbrev sLNext : Stmt := topS 79
theorem scBr : FnScope ["lot"] ["lot"] (defScope sBr) := ⟨rfl, rfl, rfl, by decide +kernel, rfl, by decide +kernel, by decide +kernel⟩
theorem scLRegs : FnScope ["lot", "r"] ["lot"] (defScope sLRegs) := ⟨rfl, rfl, rfl, by decide +kernel, rfl, by decide +kernel, by decide +kernel⟩
theorem scDTxt : FnScope ["deeds", "text", "deed"] ["deeds"] (defScope sDTxt) := ⟨rfl, rfl, rfl, by decide +kernel, rfl, by decide +kernel, by decide +kernel⟩
theorem scLNext : FnScope ["following", "deeds"] ["following", "deeds"] (defScope sLNext) := ⟨rfl, rfl, rfl, by decide +kernel, rfl, by decide +kernel, by decide +kernel⟩
theorem wt_sumL (zs : List Str) (n : Nat) : (zs.map (·.length)).sum + zs.length * n = (zs.map fun z => z.length + n).sum := by
  induction zs with
  | nil => simp
  | cons z zs ih => simp only [List.map_cons, List.sum_cons, List.length_cons]; rw [← ih, Nat.add_mul]; omega
theorem wt_three (zs : List Str) : (zs.map fun z => z.length + 3).sum ≤ 3 * wt zs := by
  induction zs with
  | nil => simp
  | cons z zs ih => simp only [List.map_cons, List.sum_cons]; rw [wt_cons]; omega
theorem wt_zs : ∀ zs : List Str, wt zs ≤ wt (commas (zs.map fun e => [e]))
  | [] => Nat.le_refl _
  | z :: zs => by
    have e : commas ((z :: zs).map fun e => [e]) = [z, Str.ofString ","] ++ commas (zs.map fun e => [e]) := rfl
    rw [e, wt_app, wt_cons, wt_cons]
    have := wt_zs zs
    omega
section
variable {P : Program} {w : World} {K : PySem.W.Frag} {mg : Str → Option Value} {base : Heap} {T : List Addr}
/-- a def that makes a text -/
def GivesT (T : List Addr) (H : Hp) (Q : VK) (C : Str → Prop) : Prop := ∀ H' x, Ex T H H' → C x → Q (.str x) H'
def spBr (K : PySem.W.Frag) (T : List Addr) : Sp := fun vs H Q _ => ∃ (a : Addr) (zs : List Str), vs = [.ref a] ∧ (SqL K H a (zs.map V.str) ∨ SqT K H a (zs.map V.str)) ∧ TbOk T H ∧ wt (listW zs) ≤ 4000000 ∧ GivesT T H Q (Tx (listW zs))
theorem ok_br {f : Addr} {fd : FuncData} (F : Fun K "_law_brackets" "_law_brackets" sBr f fd) (B : BI mg) (ml : mg "list" = none) : FnOk P w K mg base CX0 1 f fd ["lot"] (spBr K T) := by
  refine F.ok scBr (fun vs H Q E h => ?_) (fun cdv A outer s H vs Q E hr h => ?_)
  · obtain ⟨a, zs, rfl, _⟩ := h
    rfl
  · obtain ⟨a, zs, rfl, ha, tb, hw, k⟩ := h
    refine ⟨_, pss_cons (ps_if (pt_cmpR op_eq (pe_callB call_len_seq (by rfl) B.len PySem.boot_len (pa_cons (pv 0) pa_nil)) pe_int (nomark _)) (pss_one (ps_ret pe_str)) pss_nil) (pss_one (ps_ret (pe_op op_add_str (pe_op op_add_str pe_str (pe_join pe_str (pe_callTy call_list_of (by rfl) ml (by decide +kernel) (pa_cons (pv 0) pa_nil)))) pe_str))), ?_⟩
    refine ⟨_, rfl, a, _, rfl, ha, rfl, _, rfl, ite2 (fun e => ?_) (fun e => ?_)⟩
    · have e0 : zs = [] := by
        cases zs with
        | nil => rfl
        | cons z zs => simp at e; omega
      subst e0
      exact k H _ Ex.refl tx_list0
    · have hn : zs ≠ [] := by
        rintro rfl
        exact e rfl
      refine ⟨⟨_, rfl⟩, _, rfl, a, _, rfl, ha, fun l hl => ?_⟩
      have h3 := wt_three zs
      have h4 := wt_zs zs
      have h5 := commas_one zs
      have h6 := wt_listW zs
      have hj := sl_commas hn
      have hjl : (Txt.join (Str.ofString " , ") zs).length + 1 = wt (joinW (zs.map fun e => [e])) := by
        have := congrArg List.length hj
        rw [Sl_len, List.length_append] at this
        rw [len_tl]
        exact this.symm
      refine ⟨_, _, zs, rfl, rfl, .inl (.inl (.inl upd_same)), ?_, _, _, rfl, rfl, ?_, _, _, rfl, rfl, ?_, k _ _ (Ex.new hl) (tx_list hn)⟩
      · have : (Str.ofString " , ").length = 3 := by decide +kernel
        rw [this, wt_sumL]
        omega
      · have : (Str.ofString "( ").length = 2 := by decide +kernel
        rw [this]
        show _ ≤ 16777216
        omega
      · have h1 : (Str.ofString "( ").length = 2 := by decide +kernel
        have h2 : (Str.ofString " )").length = 2 := by decide +kernel
        rw [Str.length_append, h1, h2]
        show _ ≤ 16777216
        omega
def spLRegs (K : PySem.W.Frag) (T : List Addr) : Sp := fun vs H Q _ => ∃ (a : Addr) (zs : List Int), vs = [.ref a] ∧ SqT K H a (zs.map V.int) ∧ (∀ z ∈ zs, SmI z) ∧ TbOk T H ∧ wt (regsW zs) ≤ 4000000 ∧ GivesT T H Q (Tx (regsW zs))
theorem ok_lregs {f aB : Addr} {fd dB : FuncData} (F : Fun K "_law_registers" "_law_registers" sLRegs f fd) (ms : mg "str" = none)
    (GB : FnOk P w K mg base CX0 1 aB dB ["lot"] (spBr K T)) (mB : mg "_law_brackets" = some (.ref aB)) (kB : PySem.W.keepIn K (.ref aB) = true) (bB : Binds K dB ["lot"] []) :
    FnOk P w K mg base CX0 2 f fd ["lot"] (spLRegs K T) := by
  refine F.ok scLRegs (fun vs H Q E h => ?_) (fun cdv A outer s H vs Q E hr h => ?_)
  · obtain ⟨a, zs, rfl, _⟩ := h
    rfl
  · obtain ⟨a, zs, rfl, ha, hz, tb, hw, k⟩ := h
    refine ⟨_, pss_one (ps_ret (pe_call GB (hr.mono (by decide)) (by rfl) mB kB bB .nil pass0 (pa_cons (pe_lc (own := [("r", 1)]) (g := gName 1) (tt := tYes) (by rfl) scLRegs.nd (pi_tup (pv 0)) (blkOk_by (N := ["lot", "r"]) (sc := defScope sLRegs) (by decide +kernel)) (fun _ _ _ _ _ => pg_name (i := 1) scLRegs.nd rfl (.inl rfl)) (fun _ _ _ _ _ => pts_nil) (fun _ _ _ _ _ => (pe_op op_add_str pe_str (pe_callTy call_str_int (by rfl) ms (by decide +kernel) (pa_cons (pv 1) pa_nil))))) pa_nil))), ?_⟩
    refine ⟨_, rfl, a, rfl, ⟨_, ha⟩, fun D hD => ?_⟩
    have lw := wt_len (regsW zs)
    have ll : zs.length ≤ (regsW zs).length := by
      unfold regsW listW joinW
      have := len_commas1 (zs.map rW)
      rw [List.length_map] at this
      simp only [List.length_append, List.length_dropLast, this, List.length_cons, List.length_nil]
      omega
    refine lcB_it (n := (zs.map V.int).length) walk_tup (fun j G => Fl T H G D ((zs.take j).map rW)) (Fl.new tb Ex.refl hD) (fun j G _ F => F.x.sqT tb ha) (fun j v G G2 hj F y => ?_) (fun G F => ?_)
    · obtain ⟨rfl, hv⟩ := y
      rw [List.getElem?_map] at hv
      obtain ⟨z, hz1, rfl⟩ := Option.map_eq_some_iff.mp hv
      have sm := hz z (List.mem_of_getElem? hz1)
      have lz : j < zs.length := (List.getElem?_eq_some_iff.mp hz1).1
      refine g_one (by decide) (by show 1 < 2; decide) fun σ2 _ keep g => yesT ⟨_, g, z, rfl, logI sm, _, _, rfl, rfl, Nat.le_trans (show _ ≤ 15 from by have := lenR sm; unfold rW at this; rw [Str.length_append] at this; exact this) (by decide), _, F.e, ?_, ?_⟩
      · rw [List.length_map, List.length_map, List.length_take]
        exact Nat.lt_of_le_of_lt (m := 8000000) (by omega) (by decide)
      · have := F.put ((zs.take (j + 1)).map rW)
        rw [show ((zs.take j).map rW).map V.str ++ [V.str (Str.ofString "r" ++ Str.ofString (toString z))] = ((zs.take (j + 1)).map rW).map V.str by rw [take_at hz1]; simp; rfl]
        exact this
    · rw [List.length_map, List.take_length] at F
      exact ⟨D, zs.map rW, rfl, .inl (.inl (.inl F.e)), F.tbG, hw, fun H' x x1 hx => k H' x (F.x.trans x1) hx⟩
def spDTxt (K : PySem.W.Frag) (T : List Addr) : Sp := fun vs H Q _ => ∃ (v : V) (ds : List DeedD), vs = [v] ∧ Rp K H v (deedsD ds) ∧ (∀ d ∈ ds, d.Sm) ∧ TbOk T H ∧ wt (deedsW ds) ≤ 4000000 ∧ GivesT T H Q (Sx (deedsW ds))
theorem ok_dtxt {f : Addr} {fd : FuncData} (F : Fun K "_law_deeds_text" "_law_deeds_text" sDTxt f fd) (ms : mg "str" = none) : FnOk P w K mg base CX0 1 f fd ["deeds"] (spDTxt K T) := by
  refine F.ok scDTxt (fun vs H Q E h => ?_) (fun cdv A outer s H vs Q E hr h => ?_)
  · obtain ⟨v, ds, rfl, _⟩ := h
    rfl
  · obtain ⟨v, ds, rfl, rd, sm, tb, hw, k⟩ := h
    have hu64 : (A.deeper (envOfC "_law_deeds_text" (defScope sDTxt) s.heap.objs.size f cdv)).units + 64 < cLine := by
      have := hr.un
      omega
    refine ⟨_, pss_cons (ps_if (pt_cmpR (op_eqD hu64) (pv 0) (pe_tup pa_nil) (nomark _)) (pss_one (ps_ret pe_str)) pss_nil)
      (pss_cons (ps_set (i := 1) scDTxt.nd rfl (.inl rfl) pe_str)
      (pss_cons (ps_for PassesOwn.never rfl (pi_tup (pv 0)) (pg_name (i := 2) scDTxt.nd rfl (.inl rfl)) (pss_one (ps_if (pt_cmpR op_eq (pe_ix ix_tup (pv 2) pe_int (fun _ _ => rfl)) pe_str (nomark _)) (pss_one (ps_set (i := 1) scDTxt.nd rfl (.inl rfl) (pe_op op_add_str (pe_op op_add_str (pe_op op_add_str (pe_op op_add_str (pe_op op_add_str (pv 1) pe_str) (pe_callTy call_str_int (by rfl) ms (by decide +kernel) (pa_cons (pe_ix ix_tup (pv 2) pe_int (fun _ _ => rfl)) pa_nil))) pe_str) (pe_callTy call_str_int (by rfl) ms (by decide +kernel) (pa_cons (pe_ix ix_tup (pv 2) pe_int (fun _ _ => rfl)) pa_nil))) pe_str))) (pss_one (ps_set (i := 1) scDTxt.nd rfl (.inl rfl) (pe_op op_add_str (pe_op op_add_str (pe_op op_add_str (pe_op op_add_str (pv 1) (pe_ix ix_tup (pv 2) pe_int (fun _ _ => rfl))) pe_str) (pe_callTy call_str_int (by rfl) ms (by decide +kernel) (pa_cons (pe_ix ix_tup (pv 2) pe_int (fun _ _ => rfl)) pa_nil))) pe_str))))))
      (pss_one (ps_ret (pe_op op_add_str (pv 1) pe_str))))), ?_⟩
    refine ⟨_, rfl, by show 0 ≤ sizeLine; decide, fun t0 ht0 => ?_⟩
    have x0 : Ex T H (upd H t0 (.tup [])) := Ex.new ht0
    refine ⟨deedsD ds, .tuple [], Rp.dpT (rd.ex x0 tb) (flat_deeds ds), .tup (.inl (.inl upd_same)) .nil, deeds_shaped ds, (by decide +kernel), ?_⟩
    have rd := rd.ex x0 tb
    have tb := x0.tb tb
    generalize upd H t0 (.tup []) = H0 at x0 rd tb ⊢
    cases ds with
    | nil =>
      refine ⟨true, by rfl, iteT ?_⟩
      exact k H0 _ x0 (by unfold Sx; decide +kernel)
    | cons d0 ds0 =>
      refine ⟨false, by rfl, iteF ?_⟩
      obtain ⟨ds, eds⟩ : ∃ ds, ds = d0 :: ds0 := ⟨_, rfl⟩
      have eW : deedsW ds = [Str.ofString "{"] ++ ds.flatMap deedW ++ [Str.ofString "}"] := by
        unfold deedsW
        rw [if_neg]
        rw [eds]
        cases d0 <;> simp [deedW]
      rw [← eds] at rd sm hw k
      rw [eW, wt_app, wt_app] at hw
      obtain ⟨a, xs, rfl, ha, ra⟩ := Rp.tupI rd
      refine ⟨_, rfl, a, rfl, ⟨xs, ha⟩, for_it (n := xs.length) walk_tup (fun i σ G => ∃ (t : Str) (o : Option V), σ = [some (.ref a), some (.str t), o] ∧ G = H0 ∧ Sx ([Str.ofString "{"] ++ (ds.take i).flatMap deedW) t) ⟨_, _, rfl, rfl, by show tl (Str.ofString "{ ") = Sl [Str.ofString "{"]; decide +kernel⟩ (fun i σ G _ ⟨_, _, _, e, _⟩ => by rw [e]; exact ha) (fun i x σ G G2 hi ⟨t, o, eσ, eG, hx⟩ y => ?_) (fun σ G ⟨t, o, eσ, eG, hx⟩ => ?_)⟩
      · obtain ⟨rfl, hv⟩ := y
        subst eσ
        subst eG
        obtain ⟨dd, hdd, rdd⟩ := ra.getM hv
        have e1 : (ds.take (i + 1)).flatMap deedW = (ds.take i).flatMap deedW ++ deedW dd := flat_take deedW hdd
        have hle := wt_flat_take deedW ds i
        have lx := hx.len
        rw [wt_app] at lx
        have hlx : t.length ≤ 4000000 := by omega
        have smd := sm dd (List.mem_of_getElem? hdd)
        cases dd with
        | hold r =>
          obtain ⟨c, us, rfl, hc, rc⟩ := Rp.tupI rdd
          obtain ⟨u0, _, rfl, q0, rc⟩ := RpAll.consI rc
          obtain ⟨u1, _, rfl, q1, rc⟩ := RpAll.consI rc
          cases RpAll.nilI rc
          cases Rp.strI q0
          cases Rp.intI q1
          have s1 : SmI r := smd
          have l1 := lenI s1
          refine ⟨_, rfl, c, _, _, _, rfl, rfl, hc, atI_nat (j := 0) rfl, ?_⟩
          refine ⟨rfl, false, by rfl, iteF ?_⟩
          refine ⟨_, rfl, _, rfl, c, _, _, _, rfl, rfl, hc, atI_nat (j := 0) rfl, _, _, rfl, rfl, (by ((try simp only [Str.length_append, len_iw, cl0, cl1, cl2, cl3, cl4, cl5, cl6, cl7, cl8, cl9, cl10, cl11, cl12, cl13, cl14, cl15, cl16, cl17, cl18, cl19, cl20, cl21, cl22, cl23, cl24, cl25, cl26, cl27, cl28, cl29, cl30, cl31, cl32, cl33, cl34, cl35, cl36, cl37, cl38, cl39, cl40, cl41, cl42]); (show _ ≤ 16777216); omega)), _, _, rfl, rfl, (by ((try simp only [Str.length_append, len_iw, cl0, cl1, cl2, cl3, cl4, cl5, cl6, cl7, cl8, cl9, cl10, cl11, cl12, cl13, cl14, cl15, cl16, cl17, cl18, cl19, cl20, cl21, cl22, cl23, cl24, cl25, cl26, cl27, cl28, cl29, cl30, cl31, cl32, cl33, cl34, cl35, cl36, cl37, cl38, cl39, cl40, cl41, cl42]); (show _ ≤ 16777216); omega)), _, rfl, c, _, _, _, rfl, rfl, hc, atI_nat (j := 1) rfl, r, rfl, logI s1, _, _, rfl, rfl, (by ((try simp only [Str.length_append, len_iw, cl0, cl1, cl2, cl3, cl4, cl5, cl6, cl7, cl8, cl9, cl10, cl11, cl12, cl13, cl14, cl15, cl16, cl17, cl18, cl19, cl20, cl21, cl22, cl23, cl24, cl25, cl26, cl27, cl28, cl29, cl30, cl31, cl32, cl33, cl34, cl35, cl36, cl37, cl38, cl39, cl40, cl41, cl42]); (show _ ≤ 16777216); omega)), _, _, rfl, rfl, (by ((try simp only [Str.length_append, len_iw, cl0, cl1, cl2, cl3, cl4, cl5, cl6, cl7, cl8, cl9, cl10, cl11, cl12, cl13, cl14, cl15, cl16, cl17, cl18, cl19, cl20, cl21, cl22, cl23, cl24, cl25, cl26, cl27, cl28, cl29, cl30, cl31, cl32, cl33, cl34, cl35, cl36, cl37, cl38, cl39, cl40, cl41, cl42]); (show _ ≤ 16777216); omega)), _, _, rfl, rfl, ?_⟩
          rw [e1]
          unfold Sx at hx ⊢
          rw [← List.append_assoc, Sl_app _ (deedW _), ← hx]
          unfold deedW
          simp only [tl_append, tl_iw, tl_rW, tl_tW, Sl_app, Sl_cons, Sl_nil, ct0, ct1, ct2, ct3, ct4, ct5, ct6, ct7, ct8, ct9, ct10, ct11, ct12, ct13, ct14, ct15, ct16, ct17, ct18, ct19, ct20, ct21, ct22, ct23, ct24, ct25, ct26, ct27, ct28, ct29, ct30, ct31, ct32, ct33, ct34, ct35, ct36, ct37, ct38, ct39, ct40, ct41, ct42, List.append_assoc, List.cons_append, List.nil_append, List.append_nil]
        | drop r =>
          obtain ⟨c, us, rfl, hc, rc⟩ := Rp.tupI rdd
          obtain ⟨u0, _, rfl, q0, rc⟩ := RpAll.consI rc
          obtain ⟨u1, _, rfl, q1, rc⟩ := RpAll.consI rc
          cases RpAll.nilI rc
          cases Rp.strI q0
          cases Rp.intI q1
          have s1 : SmI r := smd
          have l1 := lenI s1
          refine ⟨_, rfl, c, _, _, _, rfl, rfl, hc, atI_nat (j := 0) rfl, ?_⟩
          refine ⟨rfl, false, by rfl, iteF ?_⟩
          refine ⟨_, rfl, _, rfl, c, _, _, _, rfl, rfl, hc, atI_nat (j := 0) rfl, _, _, rfl, rfl, (by ((try simp only [Str.length_append, len_iw, cl0, cl1, cl2, cl3, cl4, cl5, cl6, cl7, cl8, cl9, cl10, cl11, cl12, cl13, cl14, cl15, cl16, cl17, cl18, cl19, cl20, cl21, cl22, cl23, cl24, cl25, cl26, cl27, cl28, cl29, cl30, cl31, cl32, cl33, cl34, cl35, cl36, cl37, cl38, cl39, cl40, cl41, cl42]); (show _ ≤ 16777216); omega)), _, _, rfl, rfl, (by ((try simp only [Str.length_append, len_iw, cl0, cl1, cl2, cl3, cl4, cl5, cl6, cl7, cl8, cl9, cl10, cl11, cl12, cl13, cl14, cl15, cl16, cl17, cl18, cl19, cl20, cl21, cl22, cl23, cl24, cl25, cl26, cl27, cl28, cl29, cl30, cl31, cl32, cl33, cl34, cl35, cl36, cl37, cl38, cl39, cl40, cl41, cl42]); (show _ ≤ 16777216); omega)), _, rfl, c, _, _, _, rfl, rfl, hc, atI_nat (j := 1) rfl, r, rfl, logI s1, _, _, rfl, rfl, (by ((try simp only [Str.length_append, len_iw, cl0, cl1, cl2, cl3, cl4, cl5, cl6, cl7, cl8, cl9, cl10, cl11, cl12, cl13, cl14, cl15, cl16, cl17, cl18, cl19, cl20, cl21, cl22, cl23, cl24, cl25, cl26, cl27, cl28, cl29, cl30, cl31, cl32, cl33, cl34, cl35, cl36, cl37, cl38, cl39, cl40, cl41, cl42]); (show _ ≤ 16777216); omega)), _, _, rfl, rfl, (by ((try simp only [Str.length_append, len_iw, cl0, cl1, cl2, cl3, cl4, cl5, cl6, cl7, cl8, cl9, cl10, cl11, cl12, cl13, cl14, cl15, cl16, cl17, cl18, cl19, cl20, cl21, cl22, cl23, cl24, cl25, cl26, cl27, cl28, cl29, cl30, cl31, cl32, cl33, cl34, cl35, cl36, cl37, cl38, cl39, cl40, cl41, cl42]); (show _ ≤ 16777216); omega)), _, _, rfl, rfl, ?_⟩
          rw [e1]
          unfold Sx at hx ⊢
          rw [← List.append_assoc, Sl_app _ (deedW _), ← hx]
          unfold deedW
          simp only [tl_append, tl_iw, tl_rW, tl_tW, Sl_app, Sl_cons, Sl_nil, ct0, ct1, ct2, ct3, ct4, ct5, ct6, ct7, ct8, ct9, ct10, ct11, ct12, ct13, ct14, ct15, ct16, ct17, ct18, ct19, ct20, ct21, ct22, ct23, ct24, ct25, ct26, ct27, ct28, ct29, ct30, ct31, ct32, ct33, ct34, ct35, ct36, ct37, ct38, ct39, ct40, ct41, ct42, List.append_assoc, List.cons_append, List.nil_append, List.append_nil]
        | free t2 s2 =>
          obtain ⟨c, us, rfl, hc, rc⟩ := Rp.tupI rdd
          obtain ⟨u0, _, rfl, q0, rc⟩ := RpAll.consI rc
          obtain ⟨u1, _, rfl, q1, rc⟩ := RpAll.consI rc
          obtain ⟨u2, _, rfl, q2, rc⟩ := RpAll.consI rc
          cases RpAll.nilI rc
          cases Rp.strI q0
          cases Rp.intI q1
          cases Rp.intI q2
          have s1 : SmI t2 := smd.1
          have s3 : SmI s2 := smd.2
          have l1 := lenI s1
          have l3 := lenI s3
          refine ⟨_, rfl, c, _, _, _, rfl, rfl, hc, atI_nat (j := 0) rfl, ?_⟩
          refine ⟨rfl, true, by rfl, iteT ?_⟩
          refine ⟨_, rfl, _, _, rfl, rfl, (by ((try simp only [Str.length_append, len_iw, cl0, cl1, cl2, cl3, cl4, cl5, cl6, cl7, cl8, cl9, cl10, cl11, cl12, cl13, cl14, cl15, cl16, cl17, cl18, cl19, cl20, cl21, cl22, cl23, cl24, cl25, cl26, cl27, cl28, cl29, cl30, cl31, cl32, cl33, cl34, cl35, cl36, cl37, cl38, cl39, cl40, cl41, cl42]); (show _ ≤ 16777216); omega)), _, rfl, c, _, _, _, rfl, rfl, hc, atI_nat (j := 1) rfl, t2, rfl, logI s1, _, _, rfl, rfl, (by ((try simp only [Str.length_append, len_iw, cl0, cl1, cl2, cl3, cl4, cl5, cl6, cl7, cl8, cl9, cl10, cl11, cl12, cl13, cl14, cl15, cl16, cl17, cl18, cl19, cl20, cl21, cl22, cl23, cl24, cl25, cl26, cl27, cl28, cl29, cl30, cl31, cl32, cl33, cl34, cl35, cl36, cl37, cl38, cl39, cl40, cl41, cl42]); (show _ ≤ 16777216); omega)), _, _, rfl, rfl, (by ((try simp only [Str.length_append, len_iw, cl0, cl1, cl2, cl3, cl4, cl5, cl6, cl7, cl8, cl9, cl10, cl11, cl12, cl13, cl14, cl15, cl16, cl17, cl18, cl19, cl20, cl21, cl22, cl23, cl24, cl25, cl26, cl27, cl28, cl29, cl30, cl31, cl32, cl33, cl34, cl35, cl36, cl37, cl38, cl39, cl40, cl41, cl42]); (show _ ≤ 16777216); omega)), _, rfl, c, _, _, _, rfl, rfl, hc, atI_nat (j := 2) rfl, s2, rfl, logI s3, _, _, rfl, rfl, (by ((try simp only [Str.length_append, len_iw, cl0, cl1, cl2, cl3, cl4, cl5, cl6, cl7, cl8, cl9, cl10, cl11, cl12, cl13, cl14, cl15, cl16, cl17, cl18, cl19, cl20, cl21, cl22, cl23, cl24, cl25, cl26, cl27, cl28, cl29, cl30, cl31, cl32, cl33, cl34, cl35, cl36, cl37, cl38, cl39, cl40, cl41, cl42]); (show _ ≤ 16777216); omega)), _, _, rfl, rfl, (by ((try simp only [Str.length_append, len_iw, cl0, cl1, cl2, cl3, cl4, cl5, cl6, cl7, cl8, cl9, cl10, cl11, cl12, cl13, cl14, cl15, cl16, cl17, cl18, cl19, cl20, cl21, cl22, cl23, cl24, cl25, cl26, cl27, cl28, cl29, cl30, cl31, cl32, cl33, cl34, cl35, cl36, cl37, cl38, cl39, cl40, cl41, cl42]); (show _ ≤ 16777216); omega)), _, _, rfl, rfl, ?_⟩
          rw [e1]
          unfold Sx at hx ⊢
          rw [← List.append_assoc, Sl_app _ (deedW _), ← hx]
          unfold deedW
          simp only [tl_append, tl_iw, tl_rW, tl_tW, Sl_app, Sl_cons, Sl_nil, ct0, ct1, ct2, ct3, ct4, ct5, ct6, ct7, ct8, ct9, ct10, ct11, ct12, ct13, ct14, ct15, ct16, ct17, ct18, ct19, ct20, ct21, ct22, ct23, ct24, ct25, ct26, ct27, ct28, ct29, ct30, ct31, ct32, ct33, ct34, ct35, ct36, ct37, ct38, ct39, ct40, ct41, ct42, List.append_assoc, List.cons_append, List.nil_append, List.append_nil]
      · subst eσ
        subst eG
        rw [ra.lenM, List.take_length] at hx
        have lx := hx.len
        rw [wt_app] at lx
        refine ⟨_, rfl, _, _, rfl, rfl, (by ((try simp only [Str.length_append, len_iw, cl0, cl1, cl2, cl3, cl4, cl5, cl6, cl7, cl8, cl9, cl10, cl11, cl12, cl13, cl14, cl15, cl16, cl17, cl18, cl19, cl20, cl21, cl22, cl23, cl24, cl25, cl26, cl27, cl28, cl29, cl30, cl31, cl32, cl33, cl34, cl35, cl36, cl37, cl38, cl39, cl40, cl41, cl42]); (show _ ≤ 16777216); omega)), k _ _ x0 ?_⟩
        rw [eW]
        unfold Sx at hx ⊢
        rw [tl_append, hx]
        simp only [tl_append, tl_iw, tl_rW, tl_tW, Sl_app, Sl_cons, Sl_nil, ct0, ct1, ct2, ct3, ct4, ct5, ct6, ct7, ct8, ct9, ct10, ct11, ct12, ct13, ct14, ct15, ct16, ct17, ct18, ct19, ct20, ct21, ct22, ct23, ct24, ct25, ct26, ct27, ct28, ct29, ct30, ct31, ct32, ct33, ct34, ct35, ct36, ct37, ct38, ct39, ct40, ct41, ct42, List.append_assoc, List.cons_append, List.nil_append, List.append_nil]
end
end JF
set_option Elab.async false
set_option linter.all false
set_option maxRecDepth 100000
set_option maxHeartbeats 4000000
/-! the texts of rows -/
namespace JF
open PySem PySem.Spec PyProof PyProof.Rows L2 GxR GA TL
abbrev sRT : Stmt := topS 80
theorem scLNext' : True := trivial
theorem scRT : FnScope ["row", "place", "before", "token", "edges", "text", "branches", "k"] ["row", "place"] (defScope sRT) := ⟨rfl, rfl, rfl, by decide +kernel, rfl, by decide +kernel, by decide +kernel⟩
/-- the text is these words, a blank ahead of each -/
def NT (ws : List Str) (x : Str) : Prop := tl x ++ [32] = 32 :: Sl ws
theorem NT.len {ws : List Str} {x : Str} (h : NT ws x) : x.length = wt ws := by
  have := congrArg List.length h
  simp only [List.length_append, List.length_cons, List.length_nil, Sl_len] at this
  rw [len_tl]
  omega
theorem NT.on {ws : List Str} {x : Str} (h : NT ws x) (r : List Nat) : tl x ++ (32 :: r) = 32 :: (Sl ws ++ r) := by
  have := congrArg (· ++ r) h
  simpa using this
theorem Tx.on {ws : List Str} {x : Str} (h : Tx ws x) (r : List Nat) : tl x ++ (32 :: r) = Sl ws ++ r := by
  have := congrArg (· ++ r) h
  simpa using this
theorem joinW0 : joinW [] = [] := rfl
theorem joinW1 (a : List Str) : joinW [a] = a := by unfold joinW commas; simp
theorem joinW2 (a b : List Str) : joinW [a, b] = a ++ Str.ofString "," :: b := by
  unfold joinW commas
  have : List.flatMap (· ++ [("," : Str)]) [a, b] = (a ++ Str.ofString "," :: b) ++ [Str.ofString ","] := by simp
  rw [this, List.dropLast_concat]
theorem joinWc (a b : List Str) (r : List (List Str)) : joinW (a :: b :: r) = a ++ Str.ofString "," :: joinW (b :: r) := by
  unfold joinW
  have e : commas (a :: b :: r) = (a ++ [Str.ofString ","]) ++ commas (b :: r) := rfl
  rw [e, List.dropLast_append_of_ne_nil (by unfold commas; simp)]
  simp
theorem nt_join : ∀ {ps : List (List Str)} {xs : List Str}, Paired NT ps xs → ps ≠ [] → NT (joinW ps) (Txt.join (Str.ofString " ,") xs) := by
  have hb : tl (Str.ofString " ,") = [32, 44] := by decide +kernel
  have hc : tl (Str.ofString ",") = [44] := by decide +kernel
  have key : ∀ {ps : List (List Str)} {xs : List Str}, Paired NT ps xs → ps ≠ [] → joinL [32, 44] (xs.map tl) ++ [32] = 32 :: Sl (joinW ps) := by
    intro ps
    induction ps with
    | nil => intro xs _ h; exact absurd rfl h
    | cons p ps ih =>
      intro xs h hne
      cases h with
      | @cons _ b _ bs h r =>
        clear hne
        cases ps with
        | nil =>
          cases r
          show tl b ++ [32] = _
          rw [joinW1]
          exact h
        | cons p2 ps2 =>
          have ih := ih r (by simp)
          cases r with
          | @cons _ b2 _ bs2 h2 r2 =>
            show (tl b ++ ([32, 44] ++ joinL [32, 44] ((b2 :: bs2).map tl))) ++ [32] = _
            rw [joinWc, Sl_app, Sl_cons, hc]
            have e := NT.on h (44 :: (joinL [32, 44] ((b2 :: bs2).map tl) ++ [32]))
            rw [ih] at e
            simp only [List.append_assoc, List.cons_append, List.nil_append] at e ⊢
            rw [ih]
            exact e
  intro ps xs h hn
  unfold NT
  have ej : Txt.join (Str.ofString " ,") xs = Str.join (Str.ofString " ,") xs := join_eq _ _
  rw [ej, tl_join, hb]
  exact key h hn
theorem nt_sum {ps : List (List Str)} {xs : List Str} (h : Paired NT ps xs) : (xs.map (·.length)).sum + xs.length * 2 = wt (commas ps) := by
  induction h with
  | nil => rfl
  | @cons p x ps xs h r ih =>
    have e : commas (p :: ps) = (p ++ [Str.ofString ","]) ++ commas ps := rfl
    have l : (Str.ofString ",").length = 1 := by decide +kernel
    rw [e, wt_app, wt_app, ← ih, List.map_cons, List.sum_cons, List.length_cons, h.len, wt_cons, wt_nil, l]
    omega
theorem ends_get {a : Int} {brs : List (List Int × Int)} {es : List (List DeedD)} {i : Nat} {b : List Int × Int} {e : List DeedD} (h1 : brs[i]? = some b) (h2 : es[i]? = some e) : (endsW (.mat a brs) es)[i]? = some (regsW b.1 ++ endW e b.2) := by
  show ((brs.zip (zipEnds (brs.map (·.2)) es)).map fun be => regsW be.1.1 ++ be.2)[i]? = _
  have h3 : (brs.map (·.2))[i]? = some b.2 := by rw [List.getElem?_map, h1]; rfl
  rw [List.getElem?_map, (List.getElem?_zip_eq_some (z := (b, endW e b.2))).mpr ⟨h1, zipEnds_get h3 h2⟩]; rfl
theorem ends_len {a : Int} {brs : List (List Int × Int)} {es : List (List DeedD)} (h : es.length = brs.length) : (endsW (.mat a brs) es).length = brs.length := by
  show ((brs.zip (zipEnds (brs.map (·.2)) es)).map fun be => regsW be.1.1 ++ be.2).length = _
  rw [List.length_map, List.length_zip, zipEnds_len, List.length_map, h]; simp
section
variable {P : Program} {w : World} {K : PySem.W.Frag} {mg : Str → Option Value} {base : Heap} {T : List Addr}
def spLNext (K : PySem.W.Frag) (T : List Addr) : Sp := fun vs H Q _ => ∃ (g : Int) (v : V) (ds : List DeedD), vs = [.int g, v] ∧ Rp K H v (deedsD ds) ∧ DeedsF ds ∧ SmI g ∧ TbOk T H ∧ GivesT T H Q (NT (endW ds g))
theorem ok_lnext {f aD : Addr} {fd dD : FuncData} (F : Fun K "_law_next" "_law_next" sLNext f fd) (ms : mg "str" = none)
    (GD : FnOk P w K mg base CX0 1 aD dD ["deeds"] (spDTxt K T)) (mD : mg "_law_deeds_text" = some (.ref aD)) (kD : PySem.W.keepIn K (.ref aD) = true) (bD : Binds K dD ["deeds"] []) :
    FnOk P w K mg base CX0 2 f fd ["following", "deeds"] (spLNext K T) := by
  refine F.ok scLNext (fun vs H Q E h => ?_) (fun cdv A outer s H vs Q E hr h => ?_)
  · obtain ⟨g, v, ds, rfl, _⟩ := h
    rfl
  · obtain ⟨g, v, ds, rfl, rd, hd, sg, tb, k⟩ := h
    have hw := wt_deedsF hd
    refine ⟨_, pss_one (ps_ret (pe_op op_add_str (pe_op op_add_str pe_str (pe_call GD (hr.mono (by decide)) (by rfl) mD kD bD .nil pass0 (pa_cons (pv 1) pa_nil))) (pe_callTy call_str_int (by rfl) ms (by decide +kernel) (pa_cons (pv 0) pa_nil)))), ?_⟩
    refine ⟨_, rfl, v, ds, rfl, rd, fun d h => deed_sm (hd.2 d h), tb, by omega, fun H1 x x1 hx => ?_⟩
    have l1 := hx.len
    have l2 := lenI sg
    refine ⟨_, _, rfl, rfl, (by ((try simp only [Str.length_append, len_iw, cl0, cl1, cl2, cl3, cl4, cl5, cl6, cl7, cl8, cl9, cl10, cl11, cl12, cl13, cl14, cl15, cl16, cl17, cl18, cl19, cl20, cl21, cl22, cl23, cl24, cl25, cl26, cl27, cl28, cl29, cl30, cl31, cl32, cl33, cl34, cl35, cl36, cl37, cl38, cl39, cl40, cl41, cl42]); (show _ ≤ 16777216); omega)), _, rfl, g, rfl, logI sg, _, _, rfl, rfl, (by ((try simp only [Str.length_append, len_iw, cl0, cl1, cl2, cl3, cl4, cl5, cl6, cl7, cl8, cl9, cl10, cl11, cl12, cl13, cl14, cl15, cl16, cl17, cl18, cl19, cl20, cl21, cl22, cl23, cl24, cl25, cl26, cl27, cl28, cl29, cl30, cl31, cl32, cl33, cl34, cl35, cl36, cl37, cl38, cl39, cl40, cl41, cl42]); (show _ ≤ 16777216); omega)), k _ _ x1 ?_⟩
    unfold Sx at hx
    unfold NT endW
    rw [Sl_app, Sl_app, ← hx]
    simp only [tl_append, tl_iw, tl_rW, tl_tW, Sl_app, Sl_cons, Sl_nil, ct0, ct1, ct2, ct3, ct4, ct5, ct6, ct7, ct8, ct9, ct10, ct11, ct12, ct13, ct14, ct15, ct16, ct17, ct18, ct19, ct20, ct21, ct22, ct23, ct24, ct25, ct26, ct27, ct28, ct29, ct30, ct31, ct32, ct33, ct34, ct35, ct36, ct37, ct38, ct39, ct40, ct41, ct42, List.append_assoc, List.cons_append, List.nil_append, List.append_nil]
def spRT (K : PySem.W.Frag) (T : List Addr) : Sp := fun vs H Q _ => ∃ (v v2 : V) (row : RowD) (p : PlR), vs = [v, v2] ∧ Rp K H v (dRow row) ∧ Rp K H v2 (dPlR p) ∧ RowF row ∧ PlRF row p ∧ TbOk T H ∧ GivesT T H Q (Tx (rowW row p))
theorem ok_rt {f aD aN aR : Addr} {fd dD dN dR : FuncData} (F : Fun K "_law_row_text" "_law_row_text" sRT f fd) (B : BI mg) (ms : mg "str" = none) (mr : mg "range" = none)
    (GD : FnOk P w K mg base CX0 1 aD dD ["deeds"] (spDTxt K T)) (mD : mg "_law_deeds_text" = some (.ref aD)) (kD : PySem.W.keepIn K (.ref aD) = true) (bD : Binds K dD ["deeds"] [])
    (GN : FnOk P w K mg base CX0 2 aN dN ["following", "deeds"] (spLNext K T)) (mN : mg "_law_next" = some (.ref aN)) (kN : PySem.W.keepIn K (.ref aN) = true) (bN : Binds K dN ["following", "deeds"] [])
    (GR : FnOk P w K mg base CX0 2 aR dR ["lot"] (spLRegs K T)) (mR : mg "_law_registers" = some (.ref aR)) (kR : PySem.W.keepIn K (.ref aR) = true) (bR : Binds K dR ["lot"] []) :
    FnOk P w K mg base CX0 3 f fd ["row", "place"] (spRT K T) := by
  refine F.ok scRT (fun vs H Q E h => ?_) (fun cdv A outer s H vs Q E hr h => ?_)
  · obtain ⟨v, v2, row, p, rfl, _⟩ := h
    rfl
  · obtain ⟨v, v2, row, p, rfl, rd, rp, hf, hp, tb, k⟩ := h
    refine ⟨_, (pss_cons (ps_asg (pv 1) (pg_three (K := K) (i := 2) (j := 3) (l := 4) rfl rfl scRT.nd rfl rfl rfl rfl rfl rfl))
      (pss_cons (ps_set (i := 5) scRT.nd rfl (.inl rfl) (pe_call GD (hr.mono (by decide)) (by rfl) mD kD bD .nil pass0 (pa_cons (pv 2) pa_nil)))
      (pss_cons (ps_if (pt_cmpR op_eq (pe_ix (ix_tupJ (K := K) rfl) (pv 0) pe_int (fun _ _ => rfl)) pe_str (nomark _)) (pss_one (ps_ret (pe_op op_add_str (pe_op op_add_str (pe_op op_add_str (pv 5) pe_str) (pe_callTy call_str_int (by rfl) ms (by decide +kernel) (pa_cons (pe_ix (ix_tupJ (K := K) rfl) (pv 0) pe_int (fun _ _ => rfl)) pa_nil))) pe_str))) pss_nil)
      (pss_cons (ps_if (pt_cmpR op_eq (pe_ix (ix_tupJ (K := K) rfl) (pv 0) pe_int (fun _ _ => rfl)) pe_str (nomark _)) (pss_cons (ps_set (i := 5) scRT.nd rfl (.inl rfl) (pe_op op_add_str (pe_op op_add_str (pe_op op_add_str (pe_op op_add_str (pe_op op_add_str (pv 5) pe_str) (pe_callTy call_str_int (by rfl) ms (by decide +kernel) (pa_cons (pe_ix (ix_tupJ (K := K) rfl) (pv 0) pe_int (fun _ _ => rfl)) pa_nil))) pe_str) (pe_callTy call_str_int (by rfl) ms (by decide +kernel) (pa_cons (pe_ix (ix_tupJ (K := K) rfl) (pv 0) pe_int (fun _ _ => rfl)) pa_nil))) (pe_call GN (hr.mono (by decide)) (by rfl) mN kN bN .nil pass0 (pa_cons (pe_ix (ix_tupJ (K := K) rfl) (pv 0) pe_int (fun _ _ => rfl)) (pa_cons (pe_ix (ix_tupJ (K := K) rfl) (pv 4) pe_int (fun _ _ => rfl)) pa_nil)))))
      (pss_one (ps_ret (pe_op op_add_str (pe_op op_add_str (pe_op op_add_str (pv 5) pe_str) (pe_call GN (hr.mono (by decide)) (by rfl) mN kN bN .nil pass0 (pa_cons (pe_ix (ix_tupJ (K := K) rfl) (pv 0) pe_int (fun _ _ => rfl)) (pa_cons (pe_ix (ix_tupJ (K := K) rfl) (pv 4) pe_int (fun _ _ => rfl)) pa_nil)))) pe_str)))) pss_nil)
      (pss_cons (ps_if (pt_cmpR op_eq (pe_ix (ix_tupJ (K := K) rfl) (pv 0) pe_int (fun _ _ => rfl)) pe_str (nomark _)) (pss_cons (ps_set (i := 5) scRT.nd rfl (.inl rfl) (pe_op op_add_str (pe_op op_add_str (pv 5) pe_str) (pe_callTy call_str_int (by rfl) ms (by decide +kernel) (pa_cons (pe_ix (ix_tupJ (K := K) rfl) (pv 0) pe_int (fun _ _ => rfl)) pa_nil))))
      (pss_cons (ps_if (pt_cmp (pc_notN (pv 3)) rfl) (pss_one (ps_set (i := 5) scRT.nd rfl (.inl rfl) (pe_op op_add_str (pe_op op_add_str (pv 5) pe_str) (pe_callTy call_str_int (by rfl) ms (by decide +kernel) (pa_cons (pv 3) pa_nil))))) pss_nil)
      (pss_cons (ps_set (i := 6) scRT.nd rfl (.inl rfl) (pe_lst pa_nil))
      (pss_cons (ps_for PassesOwn.never rfl (pi_range1 (by rfl) mr (pa_cons (pe_callB call_len_seq (by rfl) B.len PySem.boot_len (pa_cons (pe_ix (ix_tupJ (K := K) rfl) (pv 0) pe_int (fun _ _ => rfl)) pa_nil)) pa_nil)) (pg_name (i := 7) scRT.nd rfl (.inl rfl)) (pss_one (ps_expr (pe_appK (K := K) rfl (pv 6) (pa_cons (pe_op op_add_str (pe_op op_add_str pe_str (pe_call GR (hr.mono (by decide)) (by rfl) mR kR bR .nil pass0 (pa_cons (pe_ix (ix_tupJ (K := K) rfl) (pe_ix (ix_tupJ (K := K) rfl) (pe_ix (ix_tupJ (K := K) rfl) (pv 0) pe_int (fun _ _ => rfl)) (pv 7) (fun _ _ => rfl)) pe_int (fun _ _ => rfl)) pa_nil))) (pe_call GN (hr.mono (by decide)) (by rfl) mN kN bN .nil pass0 (pa_cons (pe_ix (ix_tupJ (K := K) rfl) (pe_ix (ix_tupJ (K := K) rfl) (pe_ix (ix_tupJ (K := K) rfl) (pv 0) pe_int (fun _ _ => rfl)) (pv 7) (fun _ _ => rfl)) pe_int (fun _ _ => rfl)) (pa_cons (pe_ix (ix_tupJ (K := K) rfl) (pv 4) (pv 7) (fun _ _ => rfl)) pa_nil)))) pa_nil)))))
      (pss_one (ps_ret (pe_op op_add_str (pe_op op_add_str (pv 5) (pe_join pe_str (pv 6))) pe_str))))))) pss_nil)
      (pss_cons (ps_set (i := 5) scRT.nd rfl (.inl rfl) (pe_op op_add_str (pe_op op_add_str (pe_op op_add_str (pv 5) pe_str) (pe_callTy call_str_int (by rfl) ms (by decide +kernel) (pa_cons (pe_ix (ix_tupJ (K := K) rfl) (pv 0) pe_int (fun _ _ => rfl)) pa_nil))) pe_str))
      (pss_cons (ps_if (pt_cmpR op_eq (pe_ix (ix_tupJ (K := K) rfl) (pv 0) pe_int (fun _ _ => rfl)) pe_str (nomark _)) (pss_one (ps_set (i := 5) scRT.nd rfl (.inl rfl) (pe_op op_add_str (pv 5) (pe_callTy call_str_int (by rfl) ms (by decide +kernel) (pa_cons (pe_ix (ix_tupJ (K := K) rfl) (pv 0) pe_int (fun _ _ => rfl)) pa_nil))))) (pss_one (ps_if (pt_cmpR op_eq (pe_ix (ix_tupJ (K := K) rfl) (pv 0) pe_int (fun _ _ => rfl)) pe_str (nomark _)) (pss_one (ps_set (i := 5) scRT.nd rfl (.inl rfl) (pe_op op_add_str (pe_op op_add_str (pe_op op_add_str (pe_op op_add_str (pv 5) pe_str) (pe_callTy call_str_int (by rfl) ms (by decide +kernel) (pa_cons (pe_ix (ix_tupJ (K := K) rfl) (pv 0) pe_int (fun _ _ => rfl)) pa_nil))) pe_str) (pe_callTy call_str_int (by rfl) ms (by decide +kernel) (pa_cons (pe_ix (ix_tupJ (K := K) rfl) (pv 0) pe_int (fun _ _ => rfl)) pa_nil))))) (pss_one (ps_if (pt_cmpR op_eq (pe_ix (ix_tupJ (K := K) rfl) (pv 0) pe_int (fun _ _ => rfl)) pe_str (nomark _)) (pss_one (ps_set (i := 5) scRT.nd rfl (.inl rfl) (pe_op op_add_str (pe_op op_add_str (pe_op op_add_str (pe_op op_add_str (pv 5) pe_str) (pe_callTy call_str_int (by rfl) ms (by decide +kernel) (pa_cons (pe_ix (ix_tupJ (K := K) rfl) (pv 0) pe_int (fun _ _ => rfl)) pa_nil))) pe_str) (pe_callTy call_str_int (by rfl) ms (by decide +kernel) (pa_cons (pe_ix (ix_tupJ (K := K) rfl) (pv 0) pe_int (fun _ _ => rfl)) pa_nil))))) (pss_one (ps_set (i := 5) scRT.nd rfl (.inl rfl) (pe_op op_add_str (pe_op op_add_str (pe_op op_add_str (pv 5) (pe_ix (ix_tupJ (K := K) rfl) (pv 0) pe_int (fun _ _ => rfl))) pe_str) (pe_call GR (hr.mono (by decide)) (by rfl) mR kR bR .nil pass0 (pa_cons (pe_ix (ix_tupJ (K := K) rfl) (pv 0) pe_int (fun _ _ => rfl)) pa_nil))))))))))
      (pss_cons (ps_if (pt_cmp (pc_notN (pv 3)) rfl) (pss_one (ps_set (i := 5) scRT.nd rfl (.inl rfl) (pe_op op_add_str (pe_op op_add_str (pv 5) pe_str) (pe_callTy call_str_int (by rfl) ms (by decide +kernel) (pa_cons (pv 3) pa_nil))))) pss_nil)
      (pss_one (ps_ret (pe_op op_add_str (pe_op op_add_str (pv 5) (pe_call GN (hr.mono (by decide)) (by rfl) mN kN bN .nil pass0 (pa_cons (pe_ix (ix_tupJ (K := K) rfl) (pv 0) (pe_op op_sub (pe_callB call_len_seq (by rfl) B.len PySem.boot_len (pa_cons (pv 0) pa_nil)) pe_int) (fun _ _ => rfl)) (pa_cons (pe_ix (ix_tupJ (K := K) rfl) (pv 4) pe_int (fun _ _ => rfl)) pa_nil)))) pe_str))))))))))), ?_⟩
    obtain ⟨bef, tok, es⟩ := p
    obtain ⟨c2, us, rfl, hc2, rc⟩ := Rp.tupI rp
    obtain ⟨vb, _, rfl, rb, rc⟩ := RpAll.consI rc
    obtain ⟨vt, _, rfl, rt, rc⟩ := RpAll.consI rc
    obtain ⟨ve, _, rfl, re, rc⟩ := RpAll.consI rc
    cases RpAll.nilI rc
    obtain ⟨ce, ves, rfl, hce, rae⟩ := Rp.tupI re
    have sm := row_sm hf
    have hlen : es.length = row.nexts.length := hp.len
    have hes : ∀ e ∈ es, DeedsF e := hp.edges
    have hbe : DeedsF bef := hp.before
    have smt : ∀ t, tok = some t → SmI t := fun t ht => (hp.tok t ht).2.sm (by decide) (by decide)
    have wb := wt_deedsF hbe
    refine ⟨_, rfl, c2, _, rfl, hc2, rfl, _, _, rfl, _, _, rfl, _, _, rfl, rfl, ?_⟩
    dsimp only
    refine ⟨_, rfl, vb, bef, rfl, rb, fun d h => deed_sm (hbe.2 d h), tb, by omega, fun H1 t0 x1 hx0 => ?_⟩
    have lx0 := hx0.len
    have hx0 : tl t0 = Sl (deedsW bef) := hx0
    have rd := rd.ex x1 tb
    have hce := x1.sqT tb hce
    have rae := rae.ex x1 tb
    have xx := x1
    have tb := x1.tb tb
    clear rb rp hc2 x1 hbe
    cases row with
    | give r =>
      have s1 : SmI r := sm
      have l1 := lenI s1
      obtain ⟨c, us, rfl, hc, rc⟩ := Rp.tupI rd
      obtain ⟨u0, _, rfl, q0, rc⟩ := RpAll.consI rc
      obtain ⟨u1, _, rfl, q1, rc⟩ := RpAll.consI rc
      cases RpAll.nilI rc
      cases Rp.strI q0
      cases Rp.intI q1
      refine ⟨_, rfl, c, _, _, _, rfl, rfl, hc, atI_nat (j := 0) rfl, rfl, true, by rfl, iteT ?_⟩
      refine ⟨_, rfl, _, _, rfl, rfl, (by ((try simp only [Str.length_append, len_iw, cl0, cl1, cl2, cl3, cl4, cl5, cl6, cl7, cl8, cl9, cl10, cl11, cl12, cl13, cl14, cl15, cl16, cl17, cl18, cl19, cl20, cl21, cl22, cl23, cl24, cl25, cl26, cl27, cl28, cl29, cl30, cl31, cl32, cl33, cl34, cl35, cl36, cl37, cl38, cl39, cl40, cl41, cl42]); (show _ ≤ 16777216); omega)), _, rfl, c, _, _, _, rfl, rfl, hc, atI_nat (j := 1) rfl, r, rfl, logI s1, _, _, rfl, rfl, (by ((try simp only [Str.length_append, len_iw, cl0, cl1, cl2, cl3, cl4, cl5, cl6, cl7, cl8, cl9, cl10, cl11, cl12, cl13, cl14, cl15, cl16, cl17, cl18, cl19, cl20, cl21, cl22, cl23, cl24, cl25, cl26, cl27, cl28, cl29, cl30, cl31, cl32, cl33, cl34, cl35, cl36, cl37, cl38, cl39, cl40, cl41, cl42]); (show _ ≤ 16777216); omega)), _, _, rfl, rfl, (by ((try simp only [Str.length_append, len_iw, cl0, cl1, cl2, cl3, cl4, cl5, cl6, cl7, cl8, cl9, cl10, cl11, cl12, cl13, cl14, cl15, cl16, cl17, cl18, cl19, cl20, cl21, cl22, cl23, cl24, cl25, cl26, cl27, cl28, cl29, cl30, cl31, cl32, cl33, cl34, cl35, cl36, cl37, cl38, cl39, cl40, cl41, cl42]); (show _ ≤ 16777216); omega)), k _ _ xx ?_⟩
      unfold Tx rowW
      simp only [endsW, headW, RowD.nexts, zipEnds, List.zip_cons_cons, List.zip_nil_right, List.zip_nil_left, List.map_cons, List.map_nil, joinW0, joinW1, joinW2, tokW, reduceIte, Bool.false_eq_true]
      simp only [tl_append, tl_iw, tl_rW, tl_tW, Sl_app, Sl_cons, Sl_nil, ct0, ct1, ct2, ct3, ct4, ct5, ct6, ct7, ct8, ct9, ct10, ct11, ct12, ct13, ct14, ct15, ct16, ct17, ct18, ct19, ct20, ct21, ct22, ct23, ct24, ct25, ct26, ct27, ct28, ct29, ct30, ct31, ct32, ct33, ct34, ct35, ct36, ct37, ct38, ct39, ct40, ct41, ct42, List.append_assoc, List.cons_append, List.nil_append, List.append_nil, hx0]
      all_goals first | done | skip
    | less a b g h =>
      obtain ⟨s1, s2, s3, s4⟩ := sm
      have l1 := lenI s1
      have l2 := lenI s2
      obtain ⟨c, us, rfl, hc, rc⟩ := Rp.tupI rd
      obtain ⟨u0, _, rfl, q0, rc⟩ := RpAll.consI rc
      obtain ⟨u1, _, rfl, q1, rc⟩ := RpAll.consI rc
      obtain ⟨u2, _, rfl, q2, rc⟩ := RpAll.consI rc
      obtain ⟨u3, _, rfl, q3, rc⟩ := RpAll.consI rc
      obtain ⟨u4, _, rfl, q4, rc⟩ := RpAll.consI rc
      cases RpAll.nilI rc
      cases Rp.strI q0
      cases Rp.intI q1
      cases Rp.intI q2
      cases Rp.intI q3
      cases Rp.intI q4
      obtain ⟨e0, e1, rfl⟩ : ∃ e0 e1, es = [e0, e1] := by
        match es, hlen with
        | [e0, e1], _ => exact ⟨e0, e1, rfl⟩
      obtain ⟨w0, _, rfl, r0, rc⟩ := RpAll.consI rae
      obtain ⟨w1, _, rfl, r1, rc⟩ := RpAll.consI rc
      cases RpAll.nilI rc
      have d0 := hes e0 (List.mem_cons_self ..)
      have d1 := hes e1 (List.mem_cons_of_mem _ (List.mem_cons_self ..))
      have wd0 := wt_deedsF d0
      have wd1 := wt_deedsF d1
      refine ⟨_, rfl, c, _, _, _, rfl, rfl, hc, atI_nat (j := 0) rfl, rfl, false, by rfl, iteF ?_⟩
      refine ⟨_, rfl, c, _, _, _, rfl, rfl, hc, atI_nat (j := 0) rfl, rfl, true, by rfl, iteT ?_⟩
      have we0 := wt_endW (ds := e0) s3
      have we1 := wt_endW (ds := e1) s4
      refine ⟨_, rfl, _, _, rfl, rfl, (by ((try simp only [Str.length_append, len_iw, cl0, cl1, cl2, cl3, cl4, cl5, cl6, cl7, cl8, cl9, cl10, cl11, cl12, cl13, cl14, cl15, cl16, cl17, cl18, cl19, cl20, cl21, cl22, cl23, cl24, cl25, cl26, cl27, cl28, cl29, cl30, cl31, cl32, cl33, cl34, cl35, cl36, cl37, cl38, cl39, cl40, cl41, cl42]); (show _ ≤ 16777216); omega)), _, rfl, c, _, _, _, rfl, rfl, hc, atI_nat (j := 1) rfl, a, rfl, logI s1, _, _, rfl, rfl, (by ((try simp only [Str.length_append, len_iw, cl0, cl1, cl2, cl3, cl4, cl5, cl6, cl7, cl8, cl9, cl10, cl11, cl12, cl13, cl14, cl15, cl16, cl17, cl18, cl19, cl20, cl21, cl22, cl23, cl24, cl25, cl26, cl27, cl28, cl29, cl30, cl31, cl32, cl33, cl34, cl35, cl36, cl37, cl38, cl39, cl40, cl41, cl42]); (show _ ≤ 16777216); omega)), _, _, rfl, rfl, (by ((try simp only [Str.length_append, len_iw, cl0, cl1, cl2, cl3, cl4, cl5, cl6, cl7, cl8, cl9, cl10, cl11, cl12, cl13, cl14, cl15, cl16, cl17, cl18, cl19, cl20, cl21, cl22, cl23, cl24, cl25, cl26, cl27, cl28, cl29, cl30, cl31, cl32, cl33, cl34, cl35, cl36, cl37, cl38, cl39, cl40, cl41, cl42]); (show _ ≤ 16777216); omega)), _, rfl, c, _, _, _, rfl, rfl, hc, atI_nat (j := 2) rfl, b, rfl, logI s2, _, _, rfl, rfl, (by ((try simp only [Str.length_append, len_iw, cl0, cl1, cl2, cl3, cl4, cl5, cl6, cl7, cl8, cl9, cl10, cl11, cl12, cl13, cl14, cl15, cl16, cl17, cl18, cl19, cl20, cl21, cl22, cl23, cl24, cl25, cl26, cl27, cl28, cl29, cl30, cl31, cl32, cl33, cl34, cl35, cl36, cl37, cl38, cl39, cl40, cl41, cl42]); (show _ ≤ 16777216); omega)), _, rfl, c, _, _, _, rfl, rfl, hc, atI_nat (j := 3) rfl, _, rfl, ce, _, _, _, rfl, rfl, hce, atI_nat (j := 0) rfl, g, w0, e0, rfl, r0, d0, s3, tb, fun H2 n1 x2 hn1 => ?_⟩
      have hc := x2.sqT tb hc
      have hce := x2.sqT tb hce
      have r1 := r1.ex x2 tb
      have xx := xx.trans x2
      have tb := x2.tb tb
      have ln1 := hn1.len
      refine ⟨_, _, rfl, rfl, (by ((try simp only [Str.length_append, len_iw, cl0, cl1, cl2, cl3, cl4, cl5, cl6, cl7, cl8, cl9, cl10, cl11, cl12, cl13, cl14, cl15, cl16, cl17, cl18, cl19, cl20, cl21, cl22, cl23, cl24, cl25, cl26, cl27, cl28, cl29, cl30, cl31, cl32, cl33, cl34, cl35, cl36, cl37, cl38, cl39, cl40, cl41, cl42]); (show _ ≤ 16777216); omega)), _, rfl, _, _, rfl, rfl, (by ((try simp only [Str.length_append, len_iw, cl0, cl1, cl2, cl3, cl4, cl5, cl6, cl7, cl8, cl9, cl10, cl11, cl12, cl13, cl14, cl15, cl16, cl17, cl18, cl19, cl20, cl21, cl22, cl23, cl24, cl25, cl26, cl27, cl28, cl29, cl30, cl31, cl32, cl33, cl34, cl35, cl36, cl37, cl38, cl39, cl40, cl41, cl42]); (show _ ≤ 16777216); omega)), _, rfl, c, _, _, _, rfl, rfl, hc, atI_nat (j := 4) rfl, _, rfl, ce, _, _, _, rfl, rfl, hce, atI_nat (j := 1) rfl, h, w1, e1, rfl, r1, d1, s4, tb, fun H3 n2 x3 hn2 => ?_⟩
      have ln2 := hn2.len
      have xx := xx.trans x3
      refine ⟨_, _, rfl, rfl, (by ((try simp only [Str.length_append, len_iw, cl0, cl1, cl2, cl3, cl4, cl5, cl6, cl7, cl8, cl9, cl10, cl11, cl12, cl13, cl14, cl15, cl16, cl17, cl18, cl19, cl20, cl21, cl22, cl23, cl24, cl25, cl26, cl27, cl28, cl29, cl30, cl31, cl32, cl33, cl34, cl35, cl36, cl37, cl38, cl39, cl40, cl41, cl42]); (show _ ≤ 16777216); omega)), _, _, rfl, rfl, (by ((try simp only [Str.length_append, len_iw, cl0, cl1, cl2, cl3, cl4, cl5, cl6, cl7, cl8, cl9, cl10, cl11, cl12, cl13, cl14, cl15, cl16, cl17, cl18, cl19, cl20, cl21, cl22, cl23, cl24, cl25, cl26, cl27, cl28, cl29, cl30, cl31, cl32, cl33, cl34, cl35, cl36, cl37, cl38, cl39, cl40, cl41, cl42]); (show _ ≤ 16777216); omega)), k _ _ xx ?_⟩
      unfold Tx rowW
      simp only [endsW, headW, RowD.nexts, zipEnds, List.zip_cons_cons, List.zip_nil_right, List.zip_nil_left, List.map_cons, List.map_nil, joinW0, joinW1, joinW2, tokW, reduceIte, Bool.false_eq_true]
      simp only [tl_append, tl_iw, tl_rW, tl_tW, Sl_app, Sl_cons, Sl_nil, ct0, ct1, ct2, ct3, ct4, ct5, ct6, ct7, ct8, ct9, ct10, ct11, ct12, ct13, ct14, ct15, ct16, ct17, ct18, ct19, ct20, ct21, ct22, ct23, ct24, ct25, ct26, ct27, ct28, ct29, ct30, ct31, ct32, ct33, ct34, ct35, ct36, ct37, ct38, ct39, ct40, ct41, ct42, List.append_assoc, List.cons_append, List.nil_append, List.append_nil, hx0, hn1.on, hn2.on]
    | num r m g =>
      obtain ⟨s1, s2, sg⟩ := sm
      have l1 := lenI s1
      have l2 := lenI s2
      obtain rfl : tok = none := by
        cases tok with
        | none => rfl
        | some t => exact absurd (hp.tok t rfl).1 (fun h => by cases h)
      cases Rp.nonI rt
      obtain ⟨c, us, rfl, hc, rc⟩ := Rp.tupI rd
      obtain ⟨u0, _, rfl, q0, rc⟩ := RpAll.consI rc
      obtain ⟨u1, _, rfl, q1, rc⟩ := RpAll.consI rc
      obtain ⟨u2, _, rfl, q2, rc⟩ := RpAll.consI rc
      obtain ⟨u3, _, rfl, q3, rc⟩ := RpAll.consI rc
      cases RpAll.nilI rc
      cases Rp.strI q0
      cases Rp.intI q1
      cases Rp.intI q2
      cases Rp.intI q3
      obtain ⟨e0, rfl⟩ : ∃ e0, es = [e0] := by
        match es, hlen with
        | [e0], _ => exact ⟨e0, rfl⟩
      obtain ⟨w0, _, rfl, r0, rc⟩ := RpAll.consI rae
      cases RpAll.nilI rc
      have d0 := hes e0 (List.mem_cons_self ..)
      have wd0 := wt_deedsF d0
      refine ⟨_, rfl, c, _, _, _, rfl, rfl, hc, atI_nat (j := 0) rfl, rfl, false, by rfl, iteF ?_⟩
      refine ⟨_, rfl, c, _, _, _, rfl, rfl, hc, atI_nat (j := 0) rfl, rfl, false, by rfl, iteF ?_⟩
      refine ⟨_, rfl, c, _, _, _, rfl, rfl, hc, atI_nat (j := 0) rfl, rfl, false, by rfl, iteF ?_⟩
      refine ⟨_, rfl, _, _, rfl, rfl, (by ((try simp only [Str.length_append, len_iw, cl0, cl1, cl2, cl3, cl4, cl5, cl6, cl7, cl8, cl9, cl10, cl11, cl12, cl13, cl14, cl15, cl16, cl17, cl18, cl19, cl20, cl21, cl22, cl23, cl24, cl25, cl26, cl27, cl28, cl29, cl30, cl31, cl32, cl33, cl34, cl35, cl36, cl37, cl38, cl39, cl40, cl41, cl42]); (show _ ≤ 16777216); omega)), _, rfl, c, _, _, _, rfl, rfl, hc, atI_nat (j := 1) rfl, r, rfl, logI s1, _, _, rfl, rfl, (by ((try simp only [Str.length_append, len_iw, cl0, cl1, cl2, cl3, cl4, cl5, cl6, cl7, cl8, cl9, cl10, cl11, cl12, cl13, cl14, cl15, cl16, cl17, cl18, cl19, cl20, cl21, cl22, cl23, cl24, cl25, cl26, cl27, cl28, cl29, cl30, cl31, cl32, cl33, cl34, cl35, cl36, cl37, cl38, cl39, cl40, cl41, cl42]); (show _ ≤ 16777216); omega)), _, _, rfl, rfl, (by ((try simp only [Str.length_append, len_iw, cl0, cl1, cl2, cl3, cl4, cl5, cl6, cl7, cl8, cl9, cl10, cl11, cl12, cl13, cl14, cl15, cl16, cl17, cl18, cl19, cl20, cl21, cl22, cl23, cl24, cl25, cl26, cl27, cl28, cl29, cl30, cl31, cl32, cl33, cl34, cl35, cl36, cl37, cl38, cl39, cl40, cl41, cl42]); (show _ ≤ 16777216); omega)), ?_⟩
      refine ⟨_, rfl, c, _, _, _, rfl, rfl, hc, atI_nat (j := 0) rfl, rfl, true, by rfl, iteT ?_⟩
      refine ⟨_, rfl, _, rfl, c, _, _, _, rfl, rfl, hc, atI_nat (j := 2) rfl, m, rfl, logI s2, _, _, rfl, rfl, (by ((try simp only [Str.length_append, len_iw, cl0, cl1, cl2, cl3, cl4, cl5, cl6, cl7, cl8, cl9, cl10, cl11, cl12, cl13, cl14, cl15, cl16, cl17, cl18, cl19, cl20, cl21, cl22, cl23, cl24, cl25, cl26, cl27, cl28, cl29, cl30, cl31, cl32, cl33, cl34, cl35, cl36, cl37, cl38, cl39, cl40, cl41, cl42]); (show _ ≤ 16777216); omega)), ?_⟩
      refine ⟨_, rfl, _, rfl, iteF ?_⟩
      have we0 := wt_endW (ds := e0) sg
      refine ⟨_, rfl, _, rfl, _, rfl, c, _, rfl, .inr hc, _, _, rfl, rfl, c, _, _, _, rfl, rfl, hc, atI_nat (j := 3) rfl, _, rfl, ce, _, _, _, rfl, rfl, hce, atI_nat (j := 0) rfl, g, w0, e0, rfl, r0, d0, sg, tb, fun H9 n1 x9 hn1 => ?_⟩
      have ln1 := hn1.len
      have xx := xx.trans x9
      refine ⟨_, _, rfl, rfl, (by ((try simp only [Str.length_append, len_iw, cl0, cl1, cl2, cl3, cl4, cl5, cl6, cl7, cl8, cl9, cl10, cl11, cl12, cl13, cl14, cl15, cl16, cl17, cl18, cl19, cl20, cl21, cl22, cl23, cl24, cl25, cl26, cl27, cl28, cl29, cl30, cl31, cl32, cl33, cl34, cl35, cl36, cl37, cl38, cl39, cl40, cl41, cl42]); (show _ ≤ 16777216); omega)), _, _, rfl, rfl, (by ((try simp only [Str.length_append, len_iw, cl0, cl1, cl2, cl3, cl4, cl5, cl6, cl7, cl8, cl9, cl10, cl11, cl12, cl13, cl14, cl15, cl16, cl17, cl18, cl19, cl20, cl21, cl22, cl23, cl24, cl25, cl26, cl27, cl28, cl29, cl30, cl31, cl32, cl33, cl34, cl35, cl36, cl37, cl38, cl39, cl40, cl41, cl42]); (show _ ≤ 16777216); omega)), k _ _ xx ?_⟩
      unfold Tx rowW
      simp only [endsW, headW, RowD.nexts, zipEnds, List.zip_cons_cons, List.zip_nil_right, List.zip_nil_left, List.map_cons, List.map_nil, joinW0, joinW1, joinW2, tokW, reduceIte, Bool.false_eq_true]
      simp only [tl_append, tl_iw, tl_rW, tl_tW, Sl_app, Sl_cons, Sl_nil, ct0, ct1, ct2, ct3, ct4, ct5, ct6, ct7, ct8, ct9, ct10, ct11, ct12, ct13, ct14, ct15, ct16, ct17, ct18, ct19, ct20, ct21, ct22, ct23, ct24, ct25, ct26, ct27, ct28, ct29, ct30, ct31, ct32, ct33, ct34, ct35, ct36, ct37, ct38, ct39, ct40, ct41, ct42, List.append_assoc, List.cons_append, List.nil_append, List.append_nil, hx0, hn1.on]
    | ari sub r a b g =>
      obtain ⟨s1, s2, s3, sg⟩ := sm
      have l1 := lenI s1
      have l2 := lenI s2
      have l3 := lenI s3
      obtain rfl : tok = none := by
        cases tok with
        | none => rfl
        | some t => exact absurd (hp.tok t rfl).1 (fun h => by cases h)
      cases Rp.nonI rt
      cases sub with
      | false =>
        obtain ⟨c, us, rfl, hc, rc⟩ := Rp.tupI rd
        obtain ⟨u0, _, rfl, q0, rc⟩ := RpAll.consI rc
        obtain ⟨u1, _, rfl, q1, rc⟩ := RpAll.consI rc
        obtain ⟨u2, _, rfl, q2, rc⟩ := RpAll.consI rc
        obtain ⟨u3, _, rfl, q3, rc⟩ := RpAll.consI rc
        obtain ⟨u4, _, rfl, q4, rc⟩ := RpAll.consI rc
        cases RpAll.nilI rc
        cases Rp.strI q0
        cases Rp.intI q1
        cases Rp.intI q2
        cases Rp.intI q3
        cases Rp.intI q4
        obtain ⟨e0, rfl⟩ : ∃ e0, es = [e0] := by
          match es, hlen with
          | [e0], _ => exact ⟨e0, rfl⟩
        obtain ⟨w0, _, rfl, r0, rc⟩ := RpAll.consI rae
        cases RpAll.nilI rc
        have d0 := hes e0 (List.mem_cons_self ..)
        have wd0 := wt_deedsF d0
        refine ⟨_, rfl, c, _, _, _, rfl, rfl, hc, atI_nat (j := 0) rfl, rfl, false, by rfl, iteF ?_⟩
        refine ⟨_, rfl, c, _, _, _, rfl, rfl, hc, atI_nat (j := 0) rfl, rfl, false, by rfl, iteF ?_⟩
        refine ⟨_, rfl, c, _, _, _, rfl, rfl, hc, atI_nat (j := 0) rfl, rfl, false, by rfl, iteF ?_⟩
        refine ⟨_, rfl, _, _, rfl, rfl, (by ((try simp only [Str.length_append, len_iw, cl0, cl1, cl2, cl3, cl4, cl5, cl6, cl7, cl8, cl9, cl10, cl11, cl12, cl13, cl14, cl15, cl16, cl17, cl18, cl19, cl20, cl21, cl22, cl23, cl24, cl25, cl26, cl27, cl28, cl29, cl30, cl31, cl32, cl33, cl34, cl35, cl36, cl37, cl38, cl39, cl40, cl41, cl42]); (show _ ≤ 16777216); omega)), _, rfl, c, _, _, _, rfl, rfl, hc, atI_nat (j := 1) rfl, r, rfl, logI s1, _, _, rfl, rfl, (by ((try simp only [Str.length_append, len_iw, cl0, cl1, cl2, cl3, cl4, cl5, cl6, cl7, cl8, cl9, cl10, cl11, cl12, cl13, cl14, cl15, cl16, cl17, cl18, cl19, cl20, cl21, cl22, cl23, cl24, cl25, cl26, cl27, cl28, cl29, cl30, cl31, cl32, cl33, cl34, cl35, cl36, cl37, cl38, cl39, cl40, cl41, cl42]); (show _ ≤ 16777216); omega)), _, _, rfl, rfl, (by ((try simp only [Str.length_append, len_iw, cl0, cl1, cl2, cl3, cl4, cl5, cl6, cl7, cl8, cl9, cl10, cl11, cl12, cl13, cl14, cl15, cl16, cl17, cl18, cl19, cl20, cl21, cl22, cl23, cl24, cl25, cl26, cl27, cl28, cl29, cl30, cl31, cl32, cl33, cl34, cl35, cl36, cl37, cl38, cl39, cl40, cl41, cl42]); (show _ ≤ 16777216); omega)), ?_⟩
        refine ⟨_, rfl, c, _, _, _, rfl, rfl, hc, atI_nat (j := 0) rfl, rfl, false, by rfl, iteF ?_⟩
        refine ⟨_, rfl, c, _, _, _, rfl, rfl, hc, atI_nat (j := 0) rfl, rfl, true, by rfl, iteT ?_⟩
        refine ⟨_, rfl, _, _, rfl, rfl, (by ((try simp only [Str.length_append, len_iw, cl0, cl1, cl2, cl3, cl4, cl5, cl6, cl7, cl8, cl9, cl10, cl11, cl12, cl13, cl14, cl15, cl16, cl17, cl18, cl19, cl20, cl21, cl22, cl23, cl24, cl25, cl26, cl27, cl28, cl29, cl30, cl31, cl32, cl33, cl34, cl35, cl36, cl37, cl38, cl39, cl40, cl41, cl42]); (show _ ≤ 16777216); omega)), _, rfl, c, _, _, _, rfl, rfl, hc, atI_nat (j := 2) rfl, a, rfl, logI s2, _, _, rfl, rfl, (by ((try simp only [Str.length_append, len_iw, cl0, cl1, cl2, cl3, cl4, cl5, cl6, cl7, cl8, cl9, cl10, cl11, cl12, cl13, cl14, cl15, cl16, cl17, cl18, cl19, cl20, cl21, cl22, cl23, cl24, cl25, cl26, cl27, cl28, cl29, cl30, cl31, cl32, cl33, cl34, cl35, cl36, cl37, cl38, cl39, cl40, cl41, cl42]); (show _ ≤ 16777216); omega)), _, _, rfl, rfl, (by ((try simp only [Str.length_append, len_iw, cl0, cl1, cl2, cl3, cl4, cl5, cl6, cl7, cl8, cl9, cl10, cl11, cl12, cl13, cl14, cl15, cl16, cl17, cl18, cl19, cl20, cl21, cl22, cl23, cl24, cl25, cl26, cl27, cl28, cl29, cl30, cl31, cl32, cl33, cl34, cl35, cl36, cl37, cl38, cl39, cl40, cl41, cl42]); (show _ ≤ 16777216); omega)), _, rfl, c, _, _, _, rfl, rfl, hc, atI_nat (j := 3) rfl, b, rfl, logI s3, _, _, rfl, rfl, (by ((try simp only [Str.length_append, len_iw, cl0, cl1, cl2, cl3, cl4, cl5, cl6, cl7, cl8, cl9, cl10, cl11, cl12, cl13, cl14, cl15, cl16, cl17, cl18, cl19, cl20, cl21, cl22, cl23, cl24, cl25, cl26, cl27, cl28, cl29, cl30, cl31, cl32, cl33, cl34, cl35, cl36, cl37, cl38, cl39, cl40, cl41, cl42]); (show _ ≤ 16777216); omega)), ?_⟩
        refine ⟨_, rfl, _, rfl, iteF ?_⟩
        have we0 := wt_endW (ds := e0) sg
        refine ⟨_, rfl, _, rfl, _, rfl, c, _, rfl, .inr hc, _, _, rfl, rfl, c, _, _, _, rfl, rfl, hc, atI_nat (j := 4) rfl, _, rfl, ce, _, _, _, rfl, rfl, hce, atI_nat (j := 0) rfl, g, w0, e0, rfl, r0, d0, sg, tb, fun H9 n1 x9 hn1 => ?_⟩
        have ln1 := hn1.len
        have xx := xx.trans x9
        refine ⟨_, _, rfl, rfl, (by ((try simp only [Str.length_append, len_iw, cl0, cl1, cl2, cl3, cl4, cl5, cl6, cl7, cl8, cl9, cl10, cl11, cl12, cl13, cl14, cl15, cl16, cl17, cl18, cl19, cl20, cl21, cl22, cl23, cl24, cl25, cl26, cl27, cl28, cl29, cl30, cl31, cl32, cl33, cl34, cl35, cl36, cl37, cl38, cl39, cl40, cl41, cl42]); (show _ ≤ 16777216); omega)), _, _, rfl, rfl, (by ((try simp only [Str.length_append, len_iw, cl0, cl1, cl2, cl3, cl4, cl5, cl6, cl7, cl8, cl9, cl10, cl11, cl12, cl13, cl14, cl15, cl16, cl17, cl18, cl19, cl20, cl21, cl22, cl23, cl24, cl25, cl26, cl27, cl28, cl29, cl30, cl31, cl32, cl33, cl34, cl35, cl36, cl37, cl38, cl39, cl40, cl41, cl42]); (show _ ≤ 16777216); omega)), k _ _ xx ?_⟩
        unfold Tx rowW
        simp only [endsW, headW, RowD.nexts, zipEnds, List.zip_cons_cons, List.zip_nil_right, List.zip_nil_left, List.map_cons, List.map_nil, joinW0, joinW1, joinW2, tokW, reduceIte, Bool.false_eq_true]
        simp only [tl_append, tl_iw, tl_rW, tl_tW, Sl_app, Sl_cons, Sl_nil, ct0, ct1, ct2, ct3, ct4, ct5, ct6, ct7, ct8, ct9, ct10, ct11, ct12, ct13, ct14, ct15, ct16, ct17, ct18, ct19, ct20, ct21, ct22, ct23, ct24, ct25, ct26, ct27, ct28, ct29, ct30, ct31, ct32, ct33, ct34, ct35, ct36, ct37, ct38, ct39, ct40, ct41, ct42, List.append_assoc, List.cons_append, List.nil_append, List.append_nil, hx0, hn1.on]
      | true =>
        obtain ⟨c, us, rfl, hc, rc⟩ := Rp.tupI rd
        obtain ⟨u0, _, rfl, q0, rc⟩ := RpAll.consI rc
        obtain ⟨u1, _, rfl, q1, rc⟩ := RpAll.consI rc
        obtain ⟨u2, _, rfl, q2, rc⟩ := RpAll.consI rc
        obtain ⟨u3, _, rfl, q3, rc⟩ := RpAll.consI rc
        obtain ⟨u4, _, rfl, q4, rc⟩ := RpAll.consI rc
        cases RpAll.nilI rc
        cases Rp.strI q0
        cases Rp.intI q1
        cases Rp.intI q2
        cases Rp.intI q3
        cases Rp.intI q4
        obtain ⟨e0, rfl⟩ : ∃ e0, es = [e0] := by
          match es, hlen with
          | [e0], _ => exact ⟨e0, rfl⟩
        obtain ⟨w0, _, rfl, r0, rc⟩ := RpAll.consI rae
        cases RpAll.nilI rc
        have d0 := hes e0 (List.mem_cons_self ..)
        have wd0 := wt_deedsF d0
        refine ⟨_, rfl, c, _, _, _, rfl, rfl, hc, atI_nat (j := 0) rfl, rfl, false, by rfl, iteF ?_⟩
        refine ⟨_, rfl, c, _, _, _, rfl, rfl, hc, atI_nat (j := 0) rfl, rfl, false, by rfl, iteF ?_⟩
        refine ⟨_, rfl, c, _, _, _, rfl, rfl, hc, atI_nat (j := 0) rfl, rfl, false, by rfl, iteF ?_⟩
        refine ⟨_, rfl, _, _, rfl, rfl, (by ((try simp only [Str.length_append, len_iw, cl0, cl1, cl2, cl3, cl4, cl5, cl6, cl7, cl8, cl9, cl10, cl11, cl12, cl13, cl14, cl15, cl16, cl17, cl18, cl19, cl20, cl21, cl22, cl23, cl24, cl25, cl26, cl27, cl28, cl29, cl30, cl31, cl32, cl33, cl34, cl35, cl36, cl37, cl38, cl39, cl40, cl41, cl42]); (show _ ≤ 16777216); omega)), _, rfl, c, _, _, _, rfl, rfl, hc, atI_nat (j := 1) rfl, r, rfl, logI s1, _, _, rfl, rfl, (by ((try simp only [Str.length_append, len_iw, cl0, cl1, cl2, cl3, cl4, cl5, cl6, cl7, cl8, cl9, cl10, cl11, cl12, cl13, cl14, cl15, cl16, cl17, cl18, cl19, cl20, cl21, cl22, cl23, cl24, cl25, cl26, cl27, cl28, cl29, cl30, cl31, cl32, cl33, cl34, cl35, cl36, cl37, cl38, cl39, cl40, cl41, cl42]); (show _ ≤ 16777216); omega)), _, _, rfl, rfl, (by ((try simp only [Str.length_append, len_iw, cl0, cl1, cl2, cl3, cl4, cl5, cl6, cl7, cl8, cl9, cl10, cl11, cl12, cl13, cl14, cl15, cl16, cl17, cl18, cl19, cl20, cl21, cl22, cl23, cl24, cl25, cl26, cl27, cl28, cl29, cl30, cl31, cl32, cl33, cl34, cl35, cl36, cl37, cl38, cl39, cl40, cl41, cl42]); (show _ ≤ 16777216); omega)), ?_⟩
        refine ⟨_, rfl, c, _, _, _, rfl, rfl, hc, atI_nat (j := 0) rfl, rfl, false, by rfl, iteF ?_⟩
        refine ⟨_, rfl, c, _, _, _, rfl, rfl, hc, atI_nat (j := 0) rfl, rfl, false, by rfl, iteF ?_⟩
        refine ⟨_, rfl, c, _, _, _, rfl, rfl, hc, atI_nat (j := 0) rfl, rfl, true, by rfl, iteT ?_⟩
        refine ⟨_, rfl, _, _, rfl, rfl, (by ((try simp only [Str.length_append, len_iw, cl0, cl1, cl2, cl3, cl4, cl5, cl6, cl7, cl8, cl9, cl10, cl11, cl12, cl13, cl14, cl15, cl16, cl17, cl18, cl19, cl20, cl21, cl22, cl23, cl24, cl25, cl26, cl27, cl28, cl29, cl30, cl31, cl32, cl33, cl34, cl35, cl36, cl37, cl38, cl39, cl40, cl41, cl42]); (show _ ≤ 16777216); omega)), _, rfl, c, _, _, _, rfl, rfl, hc, atI_nat (j := 2) rfl, a, rfl, logI s2, _, _, rfl, rfl, (by ((try simp only [Str.length_append, len_iw, cl0, cl1, cl2, cl3, cl4, cl5, cl6, cl7, cl8, cl9, cl10, cl11, cl12, cl13, cl14, cl15, cl16, cl17, cl18, cl19, cl20, cl21, cl22, cl23, cl24, cl25, cl26, cl27, cl28, cl29, cl30, cl31, cl32, cl33, cl34, cl35, cl36, cl37, cl38, cl39, cl40, cl41, cl42]); (show _ ≤ 16777216); omega)), _, _, rfl, rfl, (by ((try simp only [Str.length_append, len_iw, cl0, cl1, cl2, cl3, cl4, cl5, cl6, cl7, cl8, cl9, cl10, cl11, cl12, cl13, cl14, cl15, cl16, cl17, cl18, cl19, cl20, cl21, cl22, cl23, cl24, cl25, cl26, cl27, cl28, cl29, cl30, cl31, cl32, cl33, cl34, cl35, cl36, cl37, cl38, cl39, cl40, cl41, cl42]); (show _ ≤ 16777216); omega)), _, rfl, c, _, _, _, rfl, rfl, hc, atI_nat (j := 3) rfl, b, rfl, logI s3, _, _, rfl, rfl, (by ((try simp only [Str.length_append, len_iw, cl0, cl1, cl2, cl3, cl4, cl5, cl6, cl7, cl8, cl9, cl10, cl11, cl12, cl13, cl14, cl15, cl16, cl17, cl18, cl19, cl20, cl21, cl22, cl23, cl24, cl25, cl26, cl27, cl28, cl29, cl30, cl31, cl32, cl33, cl34, cl35, cl36, cl37, cl38, cl39, cl40, cl41, cl42]); (show _ ≤ 16777216); omega)), ?_⟩
        refine ⟨_, rfl, _, rfl, iteF ?_⟩
        have we0 := wt_endW (ds := e0) sg
        refine ⟨_, rfl, _, rfl, _, rfl, c, _, rfl, .inr hc, _, _, rfl, rfl, c, _, _, _, rfl, rfl, hc, atI_nat (j := 4) rfl, _, rfl, ce, _, _, _, rfl, rfl, hce, atI_nat (j := 0) rfl, g, w0, e0, rfl, r0, d0, sg, tb, fun H9 n1 x9 hn1 => ?_⟩
        have ln1 := hn1.len
        have xx := xx.trans x9
        refine ⟨_, _, rfl, rfl, (by ((try simp only [Str.length_append, len_iw, cl0, cl1, cl2, cl3, cl4, cl5, cl6, cl7, cl8, cl9, cl10, cl11, cl12, cl13, cl14, cl15, cl16, cl17, cl18, cl19, cl20, cl21, cl22, cl23, cl24, cl25, cl26, cl27, cl28, cl29, cl30, cl31, cl32, cl33, cl34, cl35, cl36, cl37, cl38, cl39, cl40, cl41, cl42]); (show _ ≤ 16777216); omega)), _, _, rfl, rfl, (by ((try simp only [Str.length_append, len_iw, cl0, cl1, cl2, cl3, cl4, cl5, cl6, cl7, cl8, cl9, cl10, cl11, cl12, cl13, cl14, cl15, cl16, cl17, cl18, cl19, cl20, cl21, cl22, cl23, cl24, cl25, cl26, cl27, cl28, cl29, cl30, cl31, cl32, cl33, cl34, cl35, cl36, cl37, cl38, cl39, cl40, cl41, cl42]); (show _ ≤ 16777216); omega)), k _ _ xx ?_⟩
        unfold Tx rowW
        simp only [endsW, headW, RowD.nexts, zipEnds, List.zip_cons_cons, List.zip_nil_right, List.zip_nil_left, List.map_cons, List.map_nil, joinW0, joinW1, joinW2, tokW, reduceIte, Bool.false_eq_true]
        simp only [tl_append, tl_iw, tl_rW, tl_tW, Sl_app, Sl_cons, Sl_nil, ct0, ct1, ct2, ct3, ct4, ct5, ct6, ct7, ct8, ct9, ct10, ct11, ct12, ct13, ct14, ct15, ct16, ct17, ct18, ct19, ct20, ct21, ct22, ct23, ct24, ct25, ct26, ct27, ct28, ct29, ct30, ct31, ct32, ct33, ct34, ct35, ct36, ct37, ct38, ct39, ct40, ct41, ct42, List.append_assoc, List.cons_append, List.nil_append, List.append_nil, hx0, hn1.on]
    | make r nm xs g =>
      obtain ⟨s1, s2, sg⟩ := sm
      have l1 := lenI s1
      obtain ⟨lnm, lxs, _⟩ := row_nm (.inl rfl) hf
      have wr := wt_regs s2
      obtain ⟨c, us, rfl, hc, rc⟩ := Rp.tupI rd
      obtain ⟨u0, _, rfl, q0, rc⟩ := RpAll.consI rc
      obtain ⟨u1, _, rfl, q1, rc⟩ := RpAll.consI rc
      obtain ⟨u2, _, rfl, q2, rc⟩ := RpAll.consI rc
      obtain ⟨u3, _, rfl, q3, rc⟩ := RpAll.consI rc
      obtain ⟨u4, _, rfl, q4, rc⟩ := RpAll.consI rc
      cases RpAll.nilI rc
      cases Rp.strI q0
      cases Rp.intI q1
      cases Rp.strI q2
      obtain ⟨cr, xr, rfl, hcr, rr⟩ := Rp.tupI q3
      cases RpAll.ints rr
      cases Rp.intI q4
      obtain ⟨e0, rfl⟩ : ∃ e0, es = [e0] := by
        match es, hlen with
        | [e0], _ => exact ⟨e0, rfl⟩
      obtain ⟨w0, _, rfl, r0, rc⟩ := RpAll.consI rae
      cases RpAll.nilI rc
      have d0 := hes e0 (List.mem_cons_self ..)
      have wd0 := wt_deedsF d0
      refine ⟨_, rfl, c, _, _, _, rfl, rfl, hc, atI_nat (j := 0) rfl, rfl, false, by rfl, iteF ?_⟩
      refine ⟨_, rfl, c, _, _, _, rfl, rfl, hc, atI_nat (j := 0) rfl, rfl, false, by rfl, iteF ?_⟩
      refine ⟨_, rfl, c, _, _, _, rfl, rfl, hc, atI_nat (j := 0) rfl, rfl, false, by rfl, iteF ?_⟩
      refine ⟨_, rfl, _, _, rfl, rfl, (by ((try simp only [Str.length_append, len_iw, cl0, cl1, cl2, cl3, cl4, cl5, cl6, cl7, cl8, cl9, cl10, cl11, cl12, cl13, cl14, cl15, cl16, cl17, cl18, cl19, cl20, cl21, cl22, cl23, cl24, cl25, cl26, cl27, cl28, cl29, cl30, cl31, cl32, cl33, cl34, cl35, cl36, cl37, cl38, cl39, cl40, cl41, cl42]); (show _ ≤ 16777216); omega)), _, rfl, c, _, _, _, rfl, rfl, hc, atI_nat (j := 1) rfl, r, rfl, logI s1, _, _, rfl, rfl, (by ((try simp only [Str.length_append, len_iw, cl0, cl1, cl2, cl3, cl4, cl5, cl6, cl7, cl8, cl9, cl10, cl11, cl12, cl13, cl14, cl15, cl16, cl17, cl18, cl19, cl20, cl21, cl22, cl23, cl24, cl25, cl26, cl27, cl28, cl29, cl30, cl31, cl32, cl33, cl34, cl35, cl36, cl37, cl38, cl39, cl40, cl41, cl42]); (show _ ≤ 16777216); omega)), _, _, rfl, rfl, (by ((try simp only [Str.length_append, len_iw, cl0, cl1, cl2, cl3, cl4, cl5, cl6, cl7, cl8, cl9, cl10, cl11, cl12, cl13, cl14, cl15, cl16, cl17, cl18, cl19, cl20, cl21, cl22, cl23, cl24, cl25, cl26, cl27, cl28, cl29, cl30, cl31, cl32, cl33, cl34, cl35, cl36, cl37, cl38, cl39, cl40, cl41, cl42]); (show _ ≤ 16777216); omega)), ?_⟩
      refine ⟨_, rfl, c, _, _, _, rfl, rfl, hc, atI_nat (j := 0) rfl, rfl, false, by rfl, iteF ?_⟩
      refine ⟨_, rfl, c, _, _, _, rfl, rfl, hc, atI_nat (j := 0) rfl, rfl, false, by rfl, iteF ?_⟩
      refine ⟨_, rfl, c, _, _, _, rfl, rfl, hc, atI_nat (j := 0) rfl, rfl, false, by rfl, iteF ?_⟩
      refine ⟨_, rfl, _, rfl, c, _, _, _, rfl, rfl, hc, atI_nat (j := 2) rfl, _, _, rfl, rfl, (by ((try simp only [Str.length_append, len_iw, cl0, cl1, cl2, cl3, cl4, cl5, cl6, cl7, cl8, cl9, cl10, cl11, cl12, cl13, cl14, cl15, cl16, cl17, cl18, cl19, cl20, cl21, cl22, cl23, cl24, cl25, cl26, cl27, cl28, cl29, cl30, cl31, cl32, cl33, cl34, cl35, cl36, cl37, cl38, cl39, cl40, cl41, cl42]); (show _ ≤ 16777216); omega)), _, _, rfl, rfl, (by ((try simp only [Str.length_append, len_iw, cl0, cl1, cl2, cl3, cl4, cl5, cl6, cl7, cl8, cl9, cl10, cl11, cl12, cl13, cl14, cl15, cl16, cl17, cl18, cl19, cl20, cl21, cl22, cl23, cl24, cl25, cl26, cl27, cl28, cl29, cl30, cl31, cl32, cl33, cl34, cl35, cl36, cl37, cl38, cl39, cl40, cl41, cl42]); (show _ ≤ 16777216); omega)), _, rfl, c, _, _, _, rfl, rfl, hc, atI_nat (j := 3) rfl, cr, xs, rfl, hcr, s2, tb, by omega, fun H2 rg x2 hrg => ?_⟩
      have hc := x2.sqT tb hc
      have hce := x2.sqT tb hce
      have r0 := r0.ex x2 tb
      have xx := xx.trans x2
      have tb := x2.tb tb
      have lrg := hrg.len
      refine ⟨_, _, rfl, rfl, (by ((try simp only [Str.length_append, len_iw, cl0, cl1, cl2, cl3, cl4, cl5, cl6, cl7, cl8, cl9, cl10, cl11, cl12, cl13, cl14, cl15, cl16, cl17, cl18, cl19, cl20, cl21, cl22, cl23, cl24, cl25, cl26, cl27, cl28, cl29, cl30, cl31, cl32, cl33, cl34, cl35, cl36, cl37, cl38, cl39, cl40, cl41, cl42]); (show _ ≤ 16777216); omega)), ?_⟩
      cases tok with
      | none =>
        cases Rp.nonI rt
        refine ⟨_, rfl, _, rfl, iteF ?_⟩
        have we0 := wt_endW (ds := e0) sg
        refine ⟨_, rfl, _, rfl, _, rfl, c, _, rfl, .inr hc, _, _, rfl, rfl, c, _, _, _, rfl, rfl, hc, atI_nat (j := 4) rfl, _, rfl, ce, _, _, _, rfl, rfl, hce, atI_nat (j := 0) rfl, g, w0, e0, rfl, r0, d0, sg, tb, fun H9 n1 x9 hn1 => ?_⟩
        have ln1 := hn1.len
        have xx := xx.trans x9
        refine ⟨_, _, rfl, rfl, (by ((try simp only [Str.length_append, len_iw, cl0, cl1, cl2, cl3, cl4, cl5, cl6, cl7, cl8, cl9, cl10, cl11, cl12, cl13, cl14, cl15, cl16, cl17, cl18, cl19, cl20, cl21, cl22, cl23, cl24, cl25, cl26, cl27, cl28, cl29, cl30, cl31, cl32, cl33, cl34, cl35, cl36, cl37, cl38, cl39, cl40, cl41, cl42]); (show _ ≤ 16777216); omega)), _, _, rfl, rfl, (by ((try simp only [Str.length_append, len_iw, cl0, cl1, cl2, cl3, cl4, cl5, cl6, cl7, cl8, cl9, cl10, cl11, cl12, cl13, cl14, cl15, cl16, cl17, cl18, cl19, cl20, cl21, cl22, cl23, cl24, cl25, cl26, cl27, cl28, cl29, cl30, cl31, cl32, cl33, cl34, cl35, cl36, cl37, cl38, cl39, cl40, cl41, cl42]); (show _ ≤ 16777216); omega)), k _ _ xx ?_⟩
        unfold Tx rowW
        simp only [endsW, headW, RowD.nexts, zipEnds, List.zip_cons_cons, List.zip_nil_right, List.zip_nil_left, List.map_cons, List.map_nil, joinW0, joinW1, joinW2, tokW, reduceIte, Bool.false_eq_true]
        simp only [tl_append, tl_iw, tl_rW, tl_tW, Sl_app, Sl_cons, Sl_nil, ct0, ct1, ct2, ct3, ct4, ct5, ct6, ct7, ct8, ct9, ct10, ct11, ct12, ct13, ct14, ct15, ct16, ct17, ct18, ct19, ct20, ct21, ct22, ct23, ct24, ct25, ct26, ct27, ct28, ct29, ct30, ct31, ct32, ct33, ct34, ct35, ct36, ct37, ct38, ct39, ct40, ct41, ct42, List.append_assoc, List.cons_append, List.nil_append, List.append_nil, hx0, hn1.on, hrg.on]
      | some t =>
        cases Rp.intI rt
        have st := smt t rfl
        have lt := lenI st
        refine ⟨_, rfl, _, rfl, iteT ?_⟩
        refine ⟨_, rfl, _, _, rfl, rfl, (by ((try simp only [Str.length_append, len_iw, cl0, cl1, cl2, cl3, cl4, cl5, cl6, cl7, cl8, cl9, cl10, cl11, cl12, cl13, cl14, cl15, cl16, cl17, cl18, cl19, cl20, cl21, cl22, cl23, cl24, cl25, cl26, cl27, cl28, cl29, cl30, cl31, cl32, cl33, cl34, cl35, cl36, cl37, cl38, cl39, cl40, cl41, cl42]); (show _ ≤ 16777216); omega)), _, rfl, t, rfl, logI st, _, _, rfl, rfl, (by ((try simp only [Str.length_append, len_iw, cl0, cl1, cl2, cl3, cl4, cl5, cl6, cl7, cl8, cl9, cl10, cl11, cl12, cl13, cl14, cl15, cl16, cl17, cl18, cl19, cl20, cl21, cl22, cl23, cl24, cl25, cl26, cl27, cl28, cl29, cl30, cl31, cl32, cl33, cl34, cl35, cl36, cl37, cl38, cl39, cl40, cl41, cl42]); (show _ ≤ 16777216); omega)), ?_⟩
        have we0 := wt_endW (ds := e0) sg
        refine ⟨_, rfl, _, rfl, _, rfl, c, _, rfl, .inr hc, _, _, rfl, rfl, c, _, _, _, rfl, rfl, hc, atI_nat (j := 4) rfl, _, rfl, ce, _, _, _, rfl, rfl, hce, atI_nat (j := 0) rfl, g, w0, e0, rfl, r0, d0, sg, tb, fun H9 n1 x9 hn1 => ?_⟩
        have ln1 := hn1.len
        have xx := xx.trans x9
        refine ⟨_, _, rfl, rfl, (by ((try simp only [Str.length_append, len_iw, cl0, cl1, cl2, cl3, cl4, cl5, cl6, cl7, cl8, cl9, cl10, cl11, cl12, cl13, cl14, cl15, cl16, cl17, cl18, cl19, cl20, cl21, cl22, cl23, cl24, cl25, cl26, cl27, cl28, cl29, cl30, cl31, cl32, cl33, cl34, cl35, cl36, cl37, cl38, cl39, cl40, cl41, cl42]); (show _ ≤ 16777216); omega)), _, _, rfl, rfl, (by ((try simp only [Str.length_append, len_iw, cl0, cl1, cl2, cl3, cl4, cl5, cl6, cl7, cl8, cl9, cl10, cl11, cl12, cl13, cl14, cl15, cl16, cl17, cl18, cl19, cl20, cl21, cl22, cl23, cl24, cl25, cl26, cl27, cl28, cl29, cl30, cl31, cl32, cl33, cl34, cl35, cl36, cl37, cl38, cl39, cl40, cl41, cl42]); (show _ ≤ 16777216); omega)), k _ _ xx ?_⟩
        unfold Tx rowW
        simp only [endsW, headW, RowD.nexts, zipEnds, List.zip_cons_cons, List.zip_nil_right, List.zip_nil_left, List.map_cons, List.map_nil, joinW0, joinW1, joinW2, tokW, reduceIte, Bool.false_eq_true]
        simp only [tl_append, tl_iw, tl_rW, tl_tW, Sl_app, Sl_cons, Sl_nil, ct0, ct1, ct2, ct3, ct4, ct5, ct6, ct7, ct8, ct9, ct10, ct11, ct12, ct13, ct14, ct15, ct16, ct17, ct18, ct19, ct20, ct21, ct22, ct23, ct24, ct25, ct26, ct27, ct28, ct29, ct30, ct31, ct32, ct33, ct34, ct35, ct36, ct37, ct38, ct39, ct40, ct41, ct42, List.append_assoc, List.cons_append, List.nil_append, List.append_nil, hx0, hn1.on, hrg.on]
    | call r nm xs g =>
      obtain ⟨s1, s2, sg⟩ := sm
      have l1 := lenI s1
      obtain ⟨lnm, lxs, _⟩ := row_nm (.inr rfl) hf
      have wr := wt_regs s2
      obtain ⟨c, us, rfl, hc, rc⟩ := Rp.tupI rd
      obtain ⟨u0, _, rfl, q0, rc⟩ := RpAll.consI rc
      obtain ⟨u1, _, rfl, q1, rc⟩ := RpAll.consI rc
      obtain ⟨u2, _, rfl, q2, rc⟩ := RpAll.consI rc
      obtain ⟨u3, _, rfl, q3, rc⟩ := RpAll.consI rc
      obtain ⟨u4, _, rfl, q4, rc⟩ := RpAll.consI rc
      cases RpAll.nilI rc
      cases Rp.strI q0
      cases Rp.intI q1
      cases Rp.strI q2
      obtain ⟨cr, xr, rfl, hcr, rr⟩ := Rp.tupI q3
      cases RpAll.ints rr
      cases Rp.intI q4
      obtain ⟨e0, rfl⟩ : ∃ e0, es = [e0] := by
        match es, hlen with
        | [e0], _ => exact ⟨e0, rfl⟩
      obtain ⟨w0, _, rfl, r0, rc⟩ := RpAll.consI rae
      cases RpAll.nilI rc
      have d0 := hes e0 (List.mem_cons_self ..)
      have wd0 := wt_deedsF d0
      refine ⟨_, rfl, c, _, _, _, rfl, rfl, hc, atI_nat (j := 0) rfl, rfl, false, by rfl, iteF ?_⟩
      refine ⟨_, rfl, c, _, _, _, rfl, rfl, hc, atI_nat (j := 0) rfl, rfl, false, by rfl, iteF ?_⟩
      refine ⟨_, rfl, c, _, _, _, rfl, rfl, hc, atI_nat (j := 0) rfl, rfl, false, by rfl, iteF ?_⟩
      refine ⟨_, rfl, _, _, rfl, rfl, (by ((try simp only [Str.length_append, len_iw, cl0, cl1, cl2, cl3, cl4, cl5, cl6, cl7, cl8, cl9, cl10, cl11, cl12, cl13, cl14, cl15, cl16, cl17, cl18, cl19, cl20, cl21, cl22, cl23, cl24, cl25, cl26, cl27, cl28, cl29, cl30, cl31, cl32, cl33, cl34, cl35, cl36, cl37, cl38, cl39, cl40, cl41, cl42]); (show _ ≤ 16777216); omega)), _, rfl, c, _, _, _, rfl, rfl, hc, atI_nat (j := 1) rfl, r, rfl, logI s1, _, _, rfl, rfl, (by ((try simp only [Str.length_append, len_iw, cl0, cl1, cl2, cl3, cl4, cl5, cl6, cl7, cl8, cl9, cl10, cl11, cl12, cl13, cl14, cl15, cl16, cl17, cl18, cl19, cl20, cl21, cl22, cl23, cl24, cl25, cl26, cl27, cl28, cl29, cl30, cl31, cl32, cl33, cl34, cl35, cl36, cl37, cl38, cl39, cl40, cl41, cl42]); (show _ ≤ 16777216); omega)), _, _, rfl, rfl, (by ((try simp only [Str.length_append, len_iw, cl0, cl1, cl2, cl3, cl4, cl5, cl6, cl7, cl8, cl9, cl10, cl11, cl12, cl13, cl14, cl15, cl16, cl17, cl18, cl19, cl20, cl21, cl22, cl23, cl24, cl25, cl26, cl27, cl28, cl29, cl30, cl31, cl32, cl33, cl34, cl35, cl36, cl37, cl38, cl39, cl40, cl41, cl42]); (show _ ≤ 16777216); omega)), ?_⟩
      refine ⟨_, rfl, c, _, _, _, rfl, rfl, hc, atI_nat (j := 0) rfl, rfl, false, by rfl, iteF ?_⟩
      refine ⟨_, rfl, c, _, _, _, rfl, rfl, hc, atI_nat (j := 0) rfl, rfl, false, by rfl, iteF ?_⟩
      refine ⟨_, rfl, c, _, _, _, rfl, rfl, hc, atI_nat (j := 0) rfl, rfl, false, by rfl, iteF ?_⟩
      refine ⟨_, rfl, _, rfl, c, _, _, _, rfl, rfl, hc, atI_nat (j := 2) rfl, _, _, rfl, rfl, (by ((try simp only [Str.length_append, len_iw, cl0, cl1, cl2, cl3, cl4, cl5, cl6, cl7, cl8, cl9, cl10, cl11, cl12, cl13, cl14, cl15, cl16, cl17, cl18, cl19, cl20, cl21, cl22, cl23, cl24, cl25, cl26, cl27, cl28, cl29, cl30, cl31, cl32, cl33, cl34, cl35, cl36, cl37, cl38, cl39, cl40, cl41, cl42]); (show _ ≤ 16777216); omega)), _, _, rfl, rfl, (by ((try simp only [Str.length_append, len_iw, cl0, cl1, cl2, cl3, cl4, cl5, cl6, cl7, cl8, cl9, cl10, cl11, cl12, cl13, cl14, cl15, cl16, cl17, cl18, cl19, cl20, cl21, cl22, cl23, cl24, cl25, cl26, cl27, cl28, cl29, cl30, cl31, cl32, cl33, cl34, cl35, cl36, cl37, cl38, cl39, cl40, cl41, cl42]); (show _ ≤ 16777216); omega)), _, rfl, c, _, _, _, rfl, rfl, hc, atI_nat (j := 3) rfl, cr, xs, rfl, hcr, s2, tb, by omega, fun H2 rg x2 hrg => ?_⟩
      have hc := x2.sqT tb hc
      have hce := x2.sqT tb hce
      have r0 := r0.ex x2 tb
      have xx := xx.trans x2
      have tb := x2.tb tb
      have lrg := hrg.len
      refine ⟨_, _, rfl, rfl, (by ((try simp only [Str.length_append, len_iw, cl0, cl1, cl2, cl3, cl4, cl5, cl6, cl7, cl8, cl9, cl10, cl11, cl12, cl13, cl14, cl15, cl16, cl17, cl18, cl19, cl20, cl21, cl22, cl23, cl24, cl25, cl26, cl27, cl28, cl29, cl30, cl31, cl32, cl33, cl34, cl35, cl36, cl37, cl38, cl39, cl40, cl41, cl42]); (show _ ≤ 16777216); omega)), ?_⟩
      cases tok with
      | none =>
        cases Rp.nonI rt
        refine ⟨_, rfl, _, rfl, iteF ?_⟩
        have we0 := wt_endW (ds := e0) sg
        refine ⟨_, rfl, _, rfl, _, rfl, c, _, rfl, .inr hc, _, _, rfl, rfl, c, _, _, _, rfl, rfl, hc, atI_nat (j := 4) rfl, _, rfl, ce, _, _, _, rfl, rfl, hce, atI_nat (j := 0) rfl, g, w0, e0, rfl, r0, d0, sg, tb, fun H9 n1 x9 hn1 => ?_⟩
        have ln1 := hn1.len
        have xx := xx.trans x9
        refine ⟨_, _, rfl, rfl, (by ((try simp only [Str.length_append, len_iw, cl0, cl1, cl2, cl3, cl4, cl5, cl6, cl7, cl8, cl9, cl10, cl11, cl12, cl13, cl14, cl15, cl16, cl17, cl18, cl19, cl20, cl21, cl22, cl23, cl24, cl25, cl26, cl27, cl28, cl29, cl30, cl31, cl32, cl33, cl34, cl35, cl36, cl37, cl38, cl39, cl40, cl41, cl42]); (show _ ≤ 16777216); omega)), _, _, rfl, rfl, (by ((try simp only [Str.length_append, len_iw, cl0, cl1, cl2, cl3, cl4, cl5, cl6, cl7, cl8, cl9, cl10, cl11, cl12, cl13, cl14, cl15, cl16, cl17, cl18, cl19, cl20, cl21, cl22, cl23, cl24, cl25, cl26, cl27, cl28, cl29, cl30, cl31, cl32, cl33, cl34, cl35, cl36, cl37, cl38, cl39, cl40, cl41, cl42]); (show _ ≤ 16777216); omega)), k _ _ xx ?_⟩
        unfold Tx rowW
        simp only [endsW, headW, RowD.nexts, zipEnds, List.zip_cons_cons, List.zip_nil_right, List.zip_nil_left, List.map_cons, List.map_nil, joinW0, joinW1, joinW2, tokW, reduceIte, Bool.false_eq_true]
        simp only [tl_append, tl_iw, tl_rW, tl_tW, Sl_app, Sl_cons, Sl_nil, ct0, ct1, ct2, ct3, ct4, ct5, ct6, ct7, ct8, ct9, ct10, ct11, ct12, ct13, ct14, ct15, ct16, ct17, ct18, ct19, ct20, ct21, ct22, ct23, ct24, ct25, ct26, ct27, ct28, ct29, ct30, ct31, ct32, ct33, ct34, ct35, ct36, ct37, ct38, ct39, ct40, ct41, ct42, List.append_assoc, List.cons_append, List.nil_append, List.append_nil, hx0, hn1.on, hrg.on]
      | some t =>
        cases Rp.intI rt
        have st := smt t rfl
        have lt := lenI st
        refine ⟨_, rfl, _, rfl, iteT ?_⟩
        refine ⟨_, rfl, _, _, rfl, rfl, (by ((try simp only [Str.length_append, len_iw, cl0, cl1, cl2, cl3, cl4, cl5, cl6, cl7, cl8, cl9, cl10, cl11, cl12, cl13, cl14, cl15, cl16, cl17, cl18, cl19, cl20, cl21, cl22, cl23, cl24, cl25, cl26, cl27, cl28, cl29, cl30, cl31, cl32, cl33, cl34, cl35, cl36, cl37, cl38, cl39, cl40, cl41, cl42]); (show _ ≤ 16777216); omega)), _, rfl, t, rfl, logI st, _, _, rfl, rfl, (by ((try simp only [Str.length_append, len_iw, cl0, cl1, cl2, cl3, cl4, cl5, cl6, cl7, cl8, cl9, cl10, cl11, cl12, cl13, cl14, cl15, cl16, cl17, cl18, cl19, cl20, cl21, cl22, cl23, cl24, cl25, cl26, cl27, cl28, cl29, cl30, cl31, cl32, cl33, cl34, cl35, cl36, cl37, cl38, cl39, cl40, cl41, cl42]); (show _ ≤ 16777216); omega)), ?_⟩
        have we0 := wt_endW (ds := e0) sg
        refine ⟨_, rfl, _, rfl, _, rfl, c, _, rfl, .inr hc, _, _, rfl, rfl, c, _, _, _, rfl, rfl, hc, atI_nat (j := 4) rfl, _, rfl, ce, _, _, _, rfl, rfl, hce, atI_nat (j := 0) rfl, g, w0, e0, rfl, r0, d0, sg, tb, fun H9 n1 x9 hn1 => ?_⟩
        have ln1 := hn1.len
        have xx := xx.trans x9
        refine ⟨_, _, rfl, rfl, (by ((try simp only [Str.length_append, len_iw, cl0, cl1, cl2, cl3, cl4, cl5, cl6, cl7, cl8, cl9, cl10, cl11, cl12, cl13, cl14, cl15, cl16, cl17, cl18, cl19, cl20, cl21, cl22, cl23, cl24, cl25, cl26, cl27, cl28, cl29, cl30, cl31, cl32, cl33, cl34, cl35, cl36, cl37, cl38, cl39, cl40, cl41, cl42]); (show _ ≤ 16777216); omega)), _, _, rfl, rfl, (by ((try simp only [Str.length_append, len_iw, cl0, cl1, cl2, cl3, cl4, cl5, cl6, cl7, cl8, cl9, cl10, cl11, cl12, cl13, cl14, cl15, cl16, cl17, cl18, cl19, cl20, cl21, cl22, cl23, cl24, cl25, cl26, cl27, cl28, cl29, cl30, cl31, cl32, cl33, cl34, cl35, cl36, cl37, cl38, cl39, cl40, cl41, cl42]); (show _ ≤ 16777216); omega)), k _ _ xx ?_⟩
        unfold Tx rowW
        simp only [endsW, headW, RowD.nexts, zipEnds, List.zip_cons_cons, List.zip_nil_right, List.zip_nil_left, List.map_cons, List.map_nil, joinW0, joinW1, joinW2, tokW, reduceIte, Bool.false_eq_true]
        simp only [tl_append, tl_iw, tl_rW, tl_tW, Sl_app, Sl_cons, Sl_nil, ct0, ct1, ct2, ct3, ct4, ct5, ct6, ct7, ct8, ct9, ct10, ct11, ct12, ct13, ct14, ct15, ct16, ct17, ct18, ct19, ct20, ct21, ct22, ct23, ct24, ct25, ct26, ct27, ct28, ct29, ct30, ct31, ct32, ct33, ct34, ct35, ct36, ct37, ct38, ct39, ct40, ct41, ct42, List.append_assoc, List.cons_append, List.nil_append, List.append_nil, hx0, hn1.on, hrg.on]
    | mat a brs =>
      obtain ⟨s1, s2⟩ := sm
      have l1 := lenI s1
      obtain ⟨c, us, rfl, hc, rc⟩ := Rp.tupI rd
      obtain ⟨u0, _, rfl, q0, rc⟩ := RpAll.consI rc
      obtain ⟨u1, _, rfl, q1, rc⟩ := RpAll.consI rc
      obtain ⟨u2, _, rfl, q2, rc⟩ := RpAll.consI rc
      cases RpAll.nilI rc
      cases Rp.strI q0
      cases Rp.intI q1
      obtain ⟨cb, xb, rfl, hcb, rbr⟩ := Rp.tupI q2
      have hbl : es.length = brs.length := by rw [hlen]; show (brs.map (·.2)).length = _; rw [List.length_map]
      have lb6 : brs.length ≤ 6 := hf.2.2.1
      have lb1 : 1 ≤ brs.length := hf.2.1
      have lxb : xb.length = brs.length := rbr.lenM
      have lve : ves.length = es.length := rae.lenM
      have we := wt_ends hf hes
      have wh := wt_head (row := .mat a brs) hf smt
      refine ⟨_, rfl, c, _, _, _, rfl, rfl, hc, atI_nat (j := 0) rfl, rfl, false, by rfl, iteF ?_⟩
      refine ⟨_, rfl, c, _, _, _, rfl, rfl, hc, atI_nat (j := 0) rfl, rfl, false, by rfl, iteF ?_⟩
      refine ⟨_, rfl, c, _, _, _, rfl, rfl, hc, atI_nat (j := 0) rfl, rfl, true, by rfl, iteT ?_⟩
      refine ⟨_, rfl, _, _, rfl, rfl, (by ((try simp only [Str.length_append, len_iw, cl0, cl1, cl2, cl3, cl4, cl5, cl6, cl7, cl8, cl9, cl10, cl11, cl12, cl13, cl14, cl15, cl16, cl17, cl18, cl19, cl20, cl21, cl22, cl23, cl24, cl25, cl26, cl27, cl28, cl29, cl30, cl31, cl32, cl33, cl34, cl35, cl36, cl37, cl38, cl39, cl40, cl41, cl42]); (show _ ≤ 16777216); omega)), _, rfl, c, _, _, _, rfl, rfl, hc, atI_nat (j := 1) rfl, a, rfl, logI s1, _, _, rfl, rfl, (by ((try simp only [Str.length_append, len_iw, cl0, cl1, cl2, cl3, cl4, cl5, cl6, cl7, cl8, cl9, cl10, cl11, cl12, cl13, cl14, cl15, cl16, cl17, cl18, cl19, cl20, cl21, cl22, cl23, cl24, cl25, cl26, cl27, cl28, cl29, cl30, cl31, cl32, cl33, cl34, cl35, cl36, cl37, cl38, cl39, cl40, cl41, cl42]); (show _ ≤ 16777216); omega)), ?_⟩
      dsimp only
      refine seq_cut (fun σ G => ∃ t1 : Str, σ = [some (.ref c), some (.ref c2), some vb, some vt, some (.ref ce), some (.str t1), none, none] ∧ G = H1 ∧ Tx (deedsW bef ++ headW (.mat a brs) tok) t1) (fun σ G ⟨t1, eσ, eG, ht1⟩ => ?_) (fun rest => ?_)
      rotate_left
      · cases tok with
        | none =>
          cases Rp.nonI rt
          refine ⟨_, rfl, _, rfl, iteF (rest _ _ ⟨_, rfl, rfl, ?_⟩)⟩
          unfold Tx
          simp only [headW, tokW]
          simp only [tl_append, tl_iw, tl_rW, tl_tW, Sl_app, Sl_cons, Sl_nil, ct0, ct1, ct2, ct3, ct4, ct5, ct6, ct7, ct8, ct9, ct10, ct11, ct12, ct13, ct14, ct15, ct16, ct17, ct18, ct19, ct20, ct21, ct22, ct23, ct24, ct25, ct26, ct27, ct28, ct29, ct30, ct31, ct32, ct33, ct34, ct35, ct36, ct37, ct38, ct39, ct40, ct41, ct42, List.append_assoc, List.cons_append, List.nil_append, List.append_nil, hx0]
        | some t =>
          cases Rp.intI rt
          have st := smt t rfl
          have lt := lenI st
          refine ⟨_, rfl, _, rfl, iteT ⟨_, rfl, _, _, rfl, rfl, (by ((try simp only [Str.length_append, len_iw, cl0, cl1, cl2, cl3, cl4, cl5, cl6, cl7, cl8, cl9, cl10, cl11, cl12, cl13, cl14, cl15, cl16, cl17, cl18, cl19, cl20, cl21, cl22, cl23, cl24, cl25, cl26, cl27, cl28, cl29, cl30, cl31, cl32, cl33, cl34, cl35, cl36, cl37, cl38, cl39, cl40, cl41, cl42]); (show _ ≤ 16777216); omega)), _, rfl, t, rfl, logI st, _, _, rfl, rfl, (by ((try simp only [Str.length_append, len_iw, cl0, cl1, cl2, cl3, cl4, cl5, cl6, cl7, cl8, cl9, cl10, cl11, cl12, cl13, cl14, cl15, cl16, cl17, cl18, cl19, cl20, cl21, cl22, cl23, cl24, cl25, cl26, cl27, cl28, cl29, cl30, cl31, cl32, cl33, cl34, cl35, cl36, cl37, cl38, cl39, cl40, cl41, cl42]); (show _ ≤ 16777216); omega)), rest _ _ ⟨_, rfl, rfl, ?_⟩⟩⟩
          unfold Tx
          simp only [headW, tokW]
          simp only [tl_append, tl_iw, tl_rW, tl_tW, Sl_app, Sl_cons, Sl_nil, ct0, ct1, ct2, ct3, ct4, ct5, ct6, ct7, ct8, ct9, ct10, ct11, ct12, ct13, ct14, ct15, ct16, ct17, ct18, ct19, ct20, ct21, ct22, ct23, ct24, ct25, ct26, ct27, ct28, ct29, ct30, ct31, ct32, ct33, ct34, ct35, ct36, ct37, ct38, ct39, ct40, ct41, ct42, List.append_assoc, List.cons_append, List.nil_append, List.append_nil, hx0]
      subst eσ
      subst eG
      have lt1 := ht1.len
      rw [wt_app] at lt1
      refine ⟨by show 0 ≤ sizeLine; decide, fun D hD => ?_⟩
      have F0 := Fl.new (T := T) tb Ex.refl hD
      refine ⟨_, rfl, c, _, _, _, rfl, rfl, F0.x.sqT tb hc, atI_nat (j := 2) rfl, cb, xb, rfl, .inr (F0.x.sqT tb hcb), _, rfl, by omega, by omega, for_it (n := ((xb.length : Nat) : Int).toNat) walk_range (fun i σ G' => ∃ (t : Option V) (xs : List Str), σ = [some (.ref c), some (.ref c2), some vb, some vt, some (.ref ce), some (.str t1), some (.ref D), t] ∧ Fl T G G' D xs ∧ Paired NT ((endsW (.mat a brs) es).take i) xs) ⟨_, [], rfl, F0, .nil⟩ (fun _ _ _ _ _ => trivial) (fun i x σ G1 G2 hi ⟨t, xs, eσ, F, pr⟩ y => ?_) (fun σ G1 ⟨t, xs, eσ, F, pr⟩ => ?_)⟩
      · obtain ⟨rfl, rfl⟩ := y
        subst eσ
        have hi2 : i < brs.length := by have : i < ((xb.length : Nat) : Int).toNat := hi; omega
        have hxi : xb[i]? = some xb[i] := List.getElem?_eq_getElem (by omega)
        have hwi : ves[i]? = some ves[i] := List.getElem?_eq_getElem (by omega)
        obtain ⟨bb, hbb, rbb⟩ := rbr.getM hxi
        obtain ⟨e, he, ree⟩ := rae.getM hwi
        have de := hes e (List.mem_of_getElem? he)
        obtain ⟨smA, smg⟩ := s2 bb (List.mem_of_getElem? hbb)
        have rgF := (hf.2.2.2 bb (List.mem_of_getElem? hbb)).1
        have wr := wt_regs smA
        have lrr := rgF.1
        have wde := wt_deedsF de
        have wee := wt_endW (ds := e) smg
        obtain ⟨cx, ux, ecx, hcx, rcx⟩ := Rp.tupI rbb
        obtain ⟨v0, _, rfl, p0, rcx⟩ := RpAll.consI rcx
        obtain ⟨v1, _, rfl, p1, rcx⟩ := RpAll.consI rcx
        cases RpAll.nilI rcx
        cases Rp.intI p1
        obtain ⟨cr, xr, rfl, hcr, rr⟩ := Rp.tupI p0
        cases RpAll.ints rr
        rw [ecx] at hxi
        refine ⟨_, rfl, .inl ⟨rfl, _, .inl (.inl F.e)⟩, _, rfl, c, _, _, _, rfl, rfl, F.x.sqT tb hc, atI_nat (j := 2) rfl, _, rfl, cb, _, _, _, rfl, rfl, F.x.sqT tb hcb, (by rw [Int.zero_add]; exact atI_nat hxi), cx, _, _, _, rfl, rfl, F.x.sqT tb hcx, atI_nat (j := 0) rfl, cr, bb.1, rfl, F.x.sqT tb hcr, smA, F.tbG, by omega, fun G3 rg x3 hrg => ?_⟩
        have F := F.go x3
        have lrg := hrg.len
        refine ⟨_, _, rfl, rfl, (by ((try simp only [Str.length_append, len_iw, cl0, cl1, cl2, cl3, cl4, cl5, cl6, cl7, cl8, cl9, cl10, cl11, cl12, cl13, cl14, cl15, cl16, cl17, cl18, cl19, cl20, cl21, cl22, cl23, cl24, cl25, cl26, cl27, cl28, cl29, cl30, cl31, cl32, cl33, cl34, cl35, cl36, cl37, cl38, cl39, cl40, cl41, cl42]); (show _ ≤ 16777216); omega)), _, rfl, c, _, _, _, rfl, rfl, F.x.sqT tb hc, atI_nat (j := 2) rfl, _, rfl, cb, _, _, _, rfl, rfl, F.x.sqT tb hcb, (by rw [Int.zero_add]; exact atI_nat hxi), cx, _, _, _, rfl, rfl, F.x.sqT tb hcx, atI_nat (j := 1) rfl, _, rfl, _, rfl, ce, _, _, _, rfl, rfl, F.x.sqT tb hce, (by rw [Int.zero_add]; exact atI_nat hwi), bb.2, _, e, rfl, ree.ex F.x tb, de, smg, F.tbG, fun G4 nx x4 hnx => ?_⟩
        have F := F.go x4
        have lnx := hnx.len
        have lxs : xs.length = i := by
          rw [← pr.length, List.length_take, ends_len hbl]
          omega
        refine ⟨_, _, rfl, rfl, (by ((try simp only [Str.length_append, len_iw, cl0, cl1, cl2, cl3, cl4, cl5, cl6, cl7, cl8, cl9, cl10, cl11, cl12, cl13, cl14, cl15, cl16, cl17, cl18, cl19, cl20, cl21, cl22, cl23, cl24, cl25, cl26, cl27, cl28, cl29, cl30, cl31, cl32, cl33, cl34, cl35, cl36, cl37, cl38, cl39, cl40, cl41, cl42]); (show _ ≤ 16777216); omega)), D, _, _, rfl, rfl, F.e, small1000 (by rw [List.length_map]; omega), _, xs ++ [Str.ofString " " ++ rg ++ nx], rfl, ?_, ?_⟩
        · rw [show xs.map V.str ++ [V.str (Str.ofString " " ++ rg ++ nx)] = (xs ++ [Str.ofString " " ++ rg ++ nx]).map V.str by rw [List.map_append]; rfl]
          exact F.put _
        · rw [take_at (ends_get hbb he)]
          refine pr.snoc ?_
          unfold NT
          simp only [tl_append, Sl_app, ct0, ct1, ct2, ct3, ct4, ct5, ct6, ct7, ct8, ct9, ct10, ct11, ct12, ct13, ct14, ct15, ct16, ct17, ct18, ct19, ct20, ct21, ct22, ct23, ct24, ct25, ct26, ct27, ct28, ct29, ct30, ct31, ct32, ct33, ct34, ct35, ct36, ct37, ct38, ct39, ct40, ct41, ct42, List.append_assoc, List.cons_append, List.nil_append, hnx.on, hrg.on, List.append_nil]
      · subst eσ
        have pr2 : Paired NT (endsW (.mat a brs) es) xs := by
          rwa [List.take_of_length_le (by rw [ends_len hbl]; omega)] at pr
        have hne : endsW (.mat a brs) es ≠ [] := fun e => by
          have := ends_len (a := a) hbl
          rw [e] at this
          have : 0 = brs.length := this
          omega
        have hj := nt_join pr2 hne
        have lj := hj.len
        have wj := wt_join (endsW (.mat a brs) es)
        have hs := nt_sum pr2
        refine ⟨_, rfl, ⟨_, rfl⟩, _, rfl, Str.ofString " ,", D, xs, rfl, rfl, .inl (.inl (.inl F.e)), ?_, _, _, rfl, rfl, (by ((try simp only [Str.length_append, len_iw, cl0, cl1, cl2, cl3, cl4, cl5, cl6, cl7, cl8, cl9, cl10, cl11, cl12, cl13, cl14, cl15, cl16, cl17, cl18, cl19, cl20, cl21, cl22, cl23, cl24, cl25, cl26, cl27, cl28, cl29, cl30, cl31, cl32, cl33, cl34, cl35, cl36, cl37, cl38, cl39, cl40, cl41, cl42]); (show _ ≤ 16777216); omega)), _, _, rfl, rfl, (by ((try simp only [Str.length_append, len_iw, cl0, cl1, cl2, cl3, cl4, cl5, cl6, cl7, cl8, cl9, cl10, cl11, cl12, cl13, cl14, cl15, cl16, cl17, cl18, cl19, cl20, cl21, cl22, cl23, cl24, cl25, cl26, cl27, cl28, cl29, cl30, cl31, cl32, cl33, cl34, cl35, cl36, cl37, cl38, cl39, cl40, cl41, cl42]); (show _ ≤ 16777216); omega)), k _ _ (xx.trans F.x) ?_⟩
        · have : (Str.ofString " ,").length = 2 := by decide +kernel
          rw [this, hs]
          omega
        · unfold Tx rowW
          simp only [tl_append, Sl_app, Sl_cons, Sl_nil, ct0, ct1, ct2, ct3, ct4, ct5, ct6, ct7, ct8, ct9, ct10, ct11, ct12, ct13, ct14, ct15, ct16, ct17, ct18, ct19, ct20, ct21, ct22, ct23, ct24, ct25, ct26, ct27, ct28, ct29, ct30, ct31, ct32, ct33, ct34, ct35, ct36, ct37, ct38, ct39, ct40, ct41, ct42, List.append_assoc, List.cons_append, List.nil_append, hj.on, ht1.on, List.append_nil]
end
end JF
set_option Elab.async false
set_option linter.all false
set_option maxRecDepth 100000
set_option maxHeartbeats 4000000
/-! the text of a program -/
namespace JF
open PySem PySem.Spec PyProof PyProof.Rows L2 GxR GA TL
abbrev sLT : Stmt := topS 81
theorem scLT : FnScope ["program", "placing", "lines", "name", "makers", "title", "fields", "k", "params", "result", "rows", "entry", "places", "at"] ["program", "placing"] (defScope sLT) := ⟨rfl, rfl, rfl, by decide +kernel, rfl, by decide +kernel, by decide +kernel⟩
theorem pg_fourL {X : Cx} {K : PySem.W.Frag} {i j l m k : Nat} {x y z u : Str} {p q r t pos : Pos} (hK : X.K = K) (hc : X.calm = true) (hN : X.N.Nodup) (hi : X.N[i]? = some x) (hj : X.N[j]? = some y) (hl : X.N[l]? = some z) (hm : X.N[m]? = some u)
    (hx : X.env.scope.names.lookup x = some .local) (hy : X.env.scope.names.lookup y = some .local) (hz : X.env.scope.names.lookup z = some .local) (hu : X.env.scope.names.lookup u = some .local) :
    PG X (.Tuple [.Name x p, .Name y q, .Name z r, .Name u t] k pos) (gTup K 4 (gCons (gName i) (gCons (gName j) (gCons (gName l) (gCons (gName m) gNil))))) := by
  rw [← hK]
  exact pg_tup hc (pgs_cons (pg_name hN hi (.inl hx) (.inr hx)) (pgs_cons (pg_name hN hj (.inl hy) (.inr hy)) (pgs_cons (pg_name hN hl (.inl hz) (.inr hz)) (pgs_cons (pg_name hN hm (.inl hu) (.inr hu)) pgs_nil))))
/-- lines under way at D that have these words -/
def Ln (T : List Addr) (H G : Hp) (D : Addr) (ws : List Str) : Prop := ∃ xs, Fl T H G D xs ∧ Sl xs = Sl ws
theorem Ln.go {T : List Addr} {H G G' : Hp} {D : Addr} {ws : List Str} (L : Ln T H G D ws) (x : Ex T G G') : Ln T H G' D ws := by
  obtain ⟨xs, F, h⟩ := L
  exact ⟨xs, F.go x, h⟩
theorem Ln.add {T : List Addr} {H G : Hp} {D : Addr} {xs ws u : List Str} {x : Str} (F : Fl T H G D xs) (hs : Sl xs = Sl ws) (hx : Tx u x) : Ln T H (upd G D (.lst (xs.map V.str ++ [V.str x]))) D (ws ++ u) := by
  refine ⟨xs ++ [x], ?_, ?_⟩
  · have := F.put (xs ++ [x])
    rwa [List.map_append] at this
  · rw [Sl_app, Sl_app, hs, ← hx, Sl_cons, Sl_nil]
theorem ln_sz {xs ws : List Str} (hs : Sl xs = Sl ws) (hw : wt ws ≤ 16000000) : xs.length ≤ 16000000 := by
  have := congrArg List.length hs
  rw [Sl_len, Sl_len] at this
  have := wt_len xs
  omega
theorem ln_at {xs : List Str} (h : xs.length ≤ 16000000) : (xs.map V.str).length < sizeLine := by
  rw [List.length_map]
  exact Nat.lt_of_le_of_lt (m := 16000000) h (by decide)
theorem sum1 (xs : List Str) : (xs.map (·.length)).sum + xs.length * 1 = wt xs := by
  rw [Nat.mul_one]; exact wt_sum xs
section
variable {P : Program} {w : World} {K : PySem.W.Frag} {mg : Str → Option Value} {base : Heap} {T : List Addr}
def spLT (K : PySem.W.Frag) (T : List Addr) : Sp := fun vs H Q _ => ∃ (v v2 : V) (p : Prg) (ps : List PlF), vs = [v, v2] ∧ Rp K H v (dPrg p) ∧ Rp K H v2 (dPlc ps) ∧ PrgF p ps ∧ TbOk T H ∧ ∀ H', Ex T H H' → Q (.str (textW p ps)) H'
theorem ok_lt {f aB aD aT : Addr} {fd dB dD dT : FuncData} (F : Fun K "_law_text" "_law_text" sLT f fd) (B : BI mg) (mr : mg "range" = none)
    (GB : FnOk P w K mg base CX0 1 aB dB ["lot"] (spBr K T)) (mB : mg "_law_brackets" = some (.ref aB)) (kB : PySem.W.keepIn K (.ref aB) = true) (bB : Binds K dB ["lot"] [])
    (GD : FnOk P w K mg base CX0 1 aD dD ["deeds"] (spDTxt K T)) (mD : mg "_law_deeds_text" = some (.ref aD)) (kD : PySem.W.keepIn K (.ref aD) = true) (bD : Binds K dD ["deeds"] [])
    (GT : FnOk P w K mg base CX0 3 aT dT ["row", "place"] (spRT K T)) (mT : mg "_law_row_text" = some (.ref aT)) (kT : PySem.W.keepIn K (.ref aT) = true) (bT : Binds K dT ["row", "place"] []) :
    FnOk P w K mg base CX0 4 f fd ["program", "placing"] (spLT K T) := by
  refine F.ok scLT (fun vs H Q E h => ?_) (fun cdv A outer s H vs Q E hr h => ?_)
  · obtain ⟨v, v2, p, ps, rfl, _⟩ := h
    rfl
  · obtain ⟨v, v2, p, ps, rfl, rp, rq, ok, tb, k⟩ := h
    have hu64 : (A.deeper (envOfC "_law_text" (defScope sLT) s.heap.objs.size f cdv)).units + 64 < cLine := by
      have := hr.un
      omega
    refine ⟨_, (pss_cons (ps_set (i := 2) scLT.nd rfl (.inl rfl) (pe_lst pa_nil))
      (pss_cons (ps_for PassesOwn.never rfl (pi_tup (pe_ix (ix_tupJ (K := K) rfl) (pv 0) pe_int (fun _ _ => rfl))) (pg_two (K := K) (i := 3) (j := 4) rfl rfl scLT.nd rfl rfl rfl rfl) (pss_cons (ps_expr (pe_appK (K := K) rfl (pv 2) (pa_cons (pe_op op_add_str (pe_op op_add_str pe_str (pv 3)) pe_str) pa_nil)))
      (pss_cons (ps_for PassesOwn.never rfl (pi_tup (pv 4)) (pg_two (K := K) (i := 5) (j := 6) rfl rfl scLT.nd rfl rfl rfl rfl) (pss_one (ps_expr (pe_appK (K := K) rfl (pv 2) (pa_cons (pe_op op_add_str (pe_op op_add_str (pv 5) pe_str) (pe_call GB (hr.mono (by decide)) (by rfl) mB kB bB .nil pass0 (pa_cons (pv 6) pa_nil))) pa_nil)))))
      (pss_one (ps_expr (pe_appK (K := K) rfl (pv 2) (pa_cons pe_str pa_nil)))))))
      (pss_cons (ps_for PassesOwn.never rfl (pi_range1 (by rfl) mr (pa_cons (pe_callB call_len_seq (by rfl) B.len PySem.boot_len (pa_cons (pe_ix (ix_tupJ (K := K) rfl) (pv 0) pe_int (fun _ _ => rfl)) pa_nil)) pa_nil)) (pg_name (i := 7) scLT.nd rfl (.inl rfl)) (pss_cons (ps_asg (pe_ix (ix_tupJ (K := K) rfl) (pe_ix (ix_tupJ (K := K) rfl) (pv 0) pe_int (fun _ _ => rfl)) (pv 7) (fun _ _ => rfl)) (pg_fourL (K := K) (i := 3) (j := 8) (l := 9) (m := 10) rfl rfl scLT.nd rfl rfl rfl rfl rfl rfl rfl rfl))
      (pss_cons (ps_asg (pe_ix (ix_tupJ (K := K) rfl) (pv 1) (pv 7) (fun _ _ => rfl)) (pg_two (K := K) (i := 11) (j := 12) rfl rfl scLT.nd rfl rfl rfl rfl))
      (pss_cons (ps_expr (pe_appK (K := K) rfl (pv 2) (pa_cons (pe_op op_add_str (pe_op op_add_str (pe_op op_add_str (pe_op op_add_str (pe_op op_add_str (pe_op op_add_str pe_str (pv 3)) pe_str) (pe_call GB (hr.mono (by decide)) (by rfl) mB kB bB .nil pass0 (pa_cons (pv 8) pa_nil))) pe_str) (pv 9)) pe_str) pa_nil)))
      (pss_cons (ps_if (pt_cmpR (op_neD hu64) (pv 11) (pe_tup pa_nil) (nomark _)) (pss_one (ps_expr (pe_appK (K := K) rfl (pv 2) (pa_cons (pe_op op_add_str (pe_op op_add_str pe_str (pe_call GD (hr.mono (by decide)) (by rfl) mD kD bD .nil pass0 (pa_cons (pv 11) pa_nil))) pe_str) pa_nil)))) pss_nil)
      (pss_cons (ps_for PassesOwn.never rfl (pi_range1 (by rfl) mr (pa_cons (pe_callB call_len_seq (by rfl) B.len PySem.boot_len (pa_cons (pv 10) pa_nil)) pa_nil)) (pg_name (i := 13) scLT.nd rfl (.inl rfl)) (pss_one (ps_expr (pe_appK (K := K) rfl (pv 2) (pa_cons (pe_call GT (hr.mono (by decide)) (by rfl) mT kT bT .nil pass0 (pa_cons (pe_ix (ix_tupJ (K := K) rfl) (pv 10) (pv 13) (fun _ _ => rfl)) (pa_cons (pe_ix (ix_tupJ (K := K) rfl) (pv 12) (pv 13) (fun _ _ => rfl)) pa_nil))) pa_nil)))))
      (pss_one (ps_expr (pe_appK (K := K) rfl (pv 2) (pa_cons pe_str pa_nil))))))))))
      (pss_one (ps_ret (pe_join pe_str (pv 2))))))), ?_⟩
    obtain ⟨c, us, rfl, hc, rc⟩ := Rp.tupI rp
    obtain ⟨u0, _, rfl, q0, rc⟩ := RpAll.consI rc
    obtain ⟨u1, _, rfl, q1, rc⟩ := RpAll.consI rc
    cases RpAll.nilI rc
    obtain ⟨ak, xk, rfl, hak, rak⟩ := Rp.tupI q0
    obtain ⟨af, xf, rfl, haf, raf⟩ := Rp.tupI q1
    obtain ⟨aq, xq, rfl, haq, raq⟩ := Rp.tupI rq
    have hw := ok.ok.wt
    unfold prgW at hw
    rw [wt_app] at hw
    have lxf : xf.length = p.funs.length := raf.lenM
    have lxq : xq.length = ps.length := raq.lenM
    have lps := ok.len
    refine ⟨by show 0 ≤ sizeLine; decide, fun D hD => ?_⟩
    have L0 : Ln T H (upd H D (.lst [])) D [] := ⟨[], Fl.new (T := T) tb Ex.refl hD, rfl⟩
    have x0 : Ex T H (upd H D (.lst [])) := Ex.new hD
    have LX : ∀ {G : Hp} {ws : List Str}, Ln T H G D ws → Ex T H G := fun ⟨_, F, _⟩ => F.x
    refine ⟨_, rfl, c, _, _, _, rfl, rfl, x0.sqT tb hc, atI_nat (j := 0) rfl, ak, rfl, ⟨xk, x0.sqT tb hak⟩, for_it (n := xk.length) walk_tup (fun i σ G => ∃ a3 a4 a5 a6, σ = [some (.ref c), some (.ref aq), some (.ref D), a3, a4, a5, a6, none, none, none, none, none, none, none] ∧ Ln T H G D ((p.kinds.take i).flatMap kndW))
      ⟨_, _, _, _, rfl, L0⟩ (fun i σ G _ ⟨_, _, _, _, _, L⟩ => (LX L).sqT tb hak) (fun i x σ G G2 hi ⟨a3, a4, a5, a6, eσ, L⟩ y => ?_) (fun σ G ⟨a3, a4, a5, a6, eσ, L⟩ => ?_)⟩
    · obtain ⟨rfl, hx⟩ := y
      subst eσ
      obtain ⟨kd, hkd, rkd⟩ := rak.getM hx
      have kw := wt_kindF ok.kinds (List.mem_of_getElem? hkd)
      have e1 : (p.kinds.take (i + 1)).flatMap kndW = (p.kinds.take i).flatMap kndW ++ kndW kd := flat_take kndW hkd
      have hle := wt_flat_take kndW p.kinds (i + 1)
      rw [e1, wt_app] at hle
      have ekd : kndW kd = ([Str.ofString "kind", kd.1, Str.ofString "{"] ++ kd.2.flatMap mkrW) ++ [Str.ofString "}"] := rfl
      rw [ekd, wt_app, wt_app] at kw hle
      rw [e1, ekd]
      generalize (p.kinds.take i).flatMap kndW = W0 at L hle ⊢
      obtain ⟨ck, uk, rfl, hck, rck⟩ := Rp.tupI rkd
      obtain ⟨v0, _, rfl, p0, rck⟩ := RpAll.consI rck
      obtain ⟨v1, _, rfl, p1, rck⟩ := RpAll.consI rck
      cases RpAll.nilI rck
      cases Rp.strI p0
      obtain ⟨am, xm, rfl, ham, ram⟩ := Rp.tupI p1
      have lnm : kd.1.length + 1 ≤ wt [Str.ofString "kind", kd.1, Str.ofString "{"] := wt_mem (by simp)
      refine ⟨ck, _, rfl, (LX L).sqT tb hck, rfl, _, _, rfl, _, _, rfl, rfl, ?_⟩
      try dsimp only
      obtain ⟨xs, F, hs⟩ := L
      refine ⟨_, rfl, .inl ⟨rfl, _, .inl (.inl F.e)⟩, _, rfl, _, _, rfl, rfl, (by ((try simp only [Str.length_append, len_iw, cl0, cl1, cl2, cl3, cl4, cl5, cl6, cl7, cl8, cl9, cl10, cl11, cl12, cl13, cl14, cl15, cl16, cl17, cl18, cl19, cl20, cl21, cl22, cl23, cl24, cl25, cl26, cl27, cl28, cl29, cl30, cl31, cl32, cl33, cl34, cl35, cl36, cl37, cl38, cl39, cl40, cl41, cl42]); (show _ ≤ 16777216); omega)), _, _, rfl, rfl, (by ((try simp only [Str.length_append, len_iw, cl0, cl1, cl2, cl3, cl4, cl5, cl6, cl7, cl8, cl9, cl10, cl11, cl12, cl13, cl14, cl15, cl16, cl17, cl18, cl19, cl20, cl21, cl22, cl23, cl24, cl25, cl26, cl27, cl28, cl29, cl30, cl31, cl32, cl33, cl34, cl35, cl36, cl37, cl38, cl39, cl40, cl41, cl42]); (show _ ≤ 16777216); omega)), D, _, _, rfl, rfl, F.e, ln_at (ln_sz hs (by omega)), ?_⟩
      have L := Ln.add F hs (x := Str.ofString "kind " ++ kd.1 ++ Str.ofString " {") (u := [Str.ofString "kind", kd.1, Str.ofString "{"]) (by unfold Tx; simp only [tl_append, tl_iw, tl_rW, tl_tW, Sl_app, Sl_cons, Sl_nil, ct0, ct1, ct2, ct3, ct4, ct5, ct6, ct7, ct8, ct9, ct10, ct11, ct12, ct13, ct14, ct15, ct16, ct17, ct18, ct19, ct20, ct21, ct22, ct23, ct24, ct25, ct26, ct27, ct28, ct29, ct30, ct31, ct32, ct33, ct34, ct35, ct36, ct37, ct38, ct39, ct40, ct41, ct42, List.append_assoc, List.cons_append, List.nil_append, List.append_nil])
      clear F hs
      dsimp only
      refine ⟨_, rfl, am, rfl, ⟨xm, (LX L).sqT tb ham⟩, for_it (n := xm.length) walk_tup (fun j σ G => ∃ a5 a6, σ = [some (.ref c), some (.ref aq), some (.ref D), some (.str kd.1), some (.ref am), a5, a6, none, none, none, none, none, none, none] ∧ Ln T H G D ((W0 ++ [Str.ofString "kind", kd.1, Str.ofString "{"]) ++ (kd.2.take j).flatMap mkrW))
        ⟨_, _, rfl, by simpa using L⟩ (fun i σ G _ ⟨_, _, _, L⟩ => (LX L).sqT tb ham) (fun j x σ G G2 hi ⟨a5, a6, eσ, L⟩ y => ?_) (fun σ G ⟨a5, a6, eσ, L⟩ => ?_)⟩
      · obtain ⟨rfl, hx⟩ := y
        subst eσ
        obtain ⟨m, hm, rm⟩ := ram.getM hx
        obtain ⟨cm, um, rfl, hcm, rm⟩ := Rp.tupI rm
        obtain ⟨m0, _, rfl, w0, rm⟩ := RpAll.consI rm
        obtain ⟨m1, _, rfl, w1, rm⟩ := RpAll.consI rm
        cases RpAll.nilI rm
        cases Rp.strI w0
        obtain ⟨cf, xf', rfl, hcf, rf⟩ := Rp.tupI w1
        cases RpAll.strs rf
        have e1 : (kd.2.take (j + 1)).flatMap mkrW = (kd.2.take j).flatMap mkrW ++ mkrW m := flat_take mkrW hm
        have hl2 := wt_flat_take mkrW kd.2 (j + 1)
        have wm : wt (mkrW m) = wt [m.1] + wt (listW m.2) := wt_app _ _
        rw [e1, wt_app] at hl2
        have lm1 : m.1.length + 1 ≤ wt [m.1] := wt_mem (by simp)
        refine ⟨cm, _, rfl, (LX L).sqT tb hcm, rfl, _, _, rfl, _, _, rfl, rfl, ?_⟩
        try dsimp only
        have LD := L
        obtain ⟨xs, F, hs⟩ := L
        refine ⟨_, rfl, .inl ⟨rfl, _, .inl (.inl F.e)⟩, _, rfl, _, _, rfl, rfl, (by ((try simp only [Str.length_append, len_iw, cl0, cl1, cl2, cl3, cl4, cl5, cl6, cl7, cl8, cl9, cl10, cl11, cl12, cl13, cl14, cl15, cl16, cl17, cl18, cl19, cl20, cl21, cl22, cl23, cl24, cl25, cl26, cl27, cl28, cl29, cl30, cl31, cl32, cl33, cl34, cl35, cl36, cl37, cl38, cl39, cl40, cl41, cl42]); (show _ ≤ 16777216); omega)), _, rfl, cf, m.2, rfl, .inr (F.x.sqT tb hcf), F.tbG, by omega, fun G3 bx x3 hbx => ?_⟩
        have F := F.go x3
        have lbx := hbx.len
        refine ⟨_, _, rfl, rfl, (by ((try simp only [Str.length_append, len_iw, cl0, cl1, cl2, cl3, cl4, cl5, cl6, cl7, cl8, cl9, cl10, cl11, cl12, cl13, cl14, cl15, cl16, cl17, cl18, cl19, cl20, cl21, cl22, cl23, cl24, cl25, cl26, cl27, cl28, cl29, cl30, cl31, cl32, cl33, cl34, cl35, cl36, cl37, cl38, cl39, cl40, cl41, cl42]); (show _ ≤ 16777216); omega)), D, _, _, rfl, rfl, F.e, ln_at (ln_sz hs (by rw [wt_app, wt_app]; omega)), _, _, rfl, ?_⟩
        have L := Ln.add F hs (x := m.1 ++ Str.ofString " " ++ bx) (u := mkrW m) (by unfold Tx at hbx ⊢; unfold mkrW; simp only [tl_append, Sl_app, ← hbx]; simp only [tl_append, tl_iw, tl_rW, tl_tW, Sl_app, Sl_cons, Sl_nil, ct0, ct1, ct2, ct3, ct4, ct5, ct6, ct7, ct8, ct9, ct10, ct11, ct12, ct13, ct14, ct15, ct16, ct17, ct18, ct19, ct20, ct21, ct22, ct23, ct24, ct25, ct26, ct27, ct28, ct29, ct30, ct31, ct32, ct33, ct34, ct35, ct36, ct37, ct38, ct39, ct40, ct41, ct42, List.append_assoc, List.cons_append, List.nil_append, List.append_nil])
        rw [e1, ← List.append_assoc]
        exact L
      · subst eσ
        rw [ram.lenM, List.take_length] at L
        obtain ⟨xs, F, hs⟩ := L
        refine ⟨_, rfl, .inl ⟨rfl, _, .inl (.inl F.e)⟩, D, _, _, rfl, rfl, F.e, ln_at (ln_sz hs (by rw [wt_app, wt_app]; omega)), _, _, _, _, rfl, ?_⟩
        have L := Ln.add F hs (x := Str.ofString "}") (u := [Str.ofString "}"]) (by unfold Tx; simp only [tl_append, tl_iw, tl_rW, tl_tW, Sl_app, Sl_cons, Sl_nil, ct0, ct1, ct2, ct3, ct4, ct5, ct6, ct7, ct8, ct9, ct10, ct11, ct12, ct13, ct14, ct15, ct16, ct17, ct18, ct19, ct20, ct21, ct22, ct23, ct24, ct25, ct26, ct27, ct28, ct29, ct30, ct31, ct32, ct33, ct34, ct35, ct36, ct37, ct38, ct39, ct40, ct41, ct42, List.append_assoc, List.cons_append, List.nil_append, List.append_nil])
        simpa only [List.append_assoc] using L
    · subst eσ
      rw [rak.lenM, List.take_length] at L
      have hcG := (LX L).sqT tb hc
      refine ⟨_, rfl, c, _, _, _, rfl, rfl, hcG, atI_nat (j := 1) rfl, af, _, rfl, .inr ((LX L).sqT tb haf), _, rfl, by omega, by have := ok.f12; omega, for_it (n := ((xf.length : Nat) : Int).toNat) walk_range (fun i σ G => ∃ a3 a4 a5 a6 a7 a8 a9 a10 a11 a12 a13, σ = [some (.ref c), some (.ref aq), some (.ref D), a3, a4, a5, a6, a7, a8, a9, a10, a11, a12, a13] ∧ Ln T H G D (p.kinds.flatMap kndW ++ ((p.funs.zip ps).take i).flatMap (fun fp => funW fp.1 fp.2)))
        ⟨_, _, _, _, _, _, _, _, _, _, _, rfl, by simpa using L⟩ (fun _ _ _ _ _ => trivial) (fun i x σ G G2 hi ⟨a3, a4, a5, a6, a7, a8, a9, a10, a11, a12, a13, eσ, L⟩ y => ?_) (fun σ G ⟨a3, a4, a5, a6, a7, a8, a9, a10, a11, a12, a13, eσ, L⟩ => ?_)⟩
      · obtain ⟨rfl, rfl⟩ := y
        subst eσ
        have hi2 : i < p.funs.length := by have : i < ((xf.length : Nat) : Int).toNat := hi; omega
        have hxi : xf[i]? = some xf[i] := List.getElem?_eq_getElem (by omega)
        have hqi : xq[i]? = some xq[i] := List.getElem?_eq_getElem (by omega)
        obtain ⟨g, hg, rg⟩ := raf.getM hxi
        obtain ⟨q, hq, rqq⟩ := raq.getM hqi
        have ff : FunF g q := ok.funs (g, q) (List.mem_of_getElem? (zip_get hg hq))
        have e1 : ((p.funs.zip ps).take (i + 1)).flatMap (fun fp => funW fp.1 fp.2) = ((p.funs.zip ps).take i).flatMap (fun fp => funW fp.1 fp.2) ++ funW g q := flat_take (fun fp : FunD × PlF => funW fp.1 fp.2) (zip_get hg hq)
        have hle := wt_flat_take (fun fp : FunD × PlF => funW fp.1 fp.2) (p.funs.zip ps) (i + 1)
        have hfw : wt (funW g q) ≤ 16000000 := by have := wt_funF ff; omega
        rw [e1, wt_app] at hle
        have efw : funW g q = (([Str.ofString "fun", g.name] ++ listW g.params ++ [g.result, Str.ofString "{"]) ++ entryW q.entry ++ (g.rows.zip q.rows).flatMap (fun rp => rowW rp.1 rp.2)) ++ [Str.ofString "}"] := rfl
        rw [efw, wt_app, wt_app, wt_app, wt_app, wt_app] at hle
        rw [e1, efw]
        obtain ⟨W0, hW0⟩ : ∃ W0, W0 = p.kinds.flatMap kndW ++ ((p.funs.zip ps).take i).flatMap (fun fp => funW fp.1 fp.2) := ⟨_, rfl⟩
        have lW0 : wt W0 = wt (p.kinds.flatMap kndW) + wt (((p.funs.zip ps).take i).flatMap (fun fp => funW fp.1 fp.2)) := by rw [hW0, wt_app]
        rw [← hW0] at L
        rw [← List.append_assoc, ← hW0]
        obtain ⟨cg, ug, ecg, hcg, rcg⟩ := Rp.tupI rg
        obtain ⟨n0, _, rfl, p0, rcg⟩ := RpAll.consI rcg
        obtain ⟨n1, _, rfl, p1, rcg⟩ := RpAll.consI rcg
        obtain ⟨n2, _, rfl, p2, rcg⟩ := RpAll.consI rcg
        obtain ⟨n3, _, rfl, p3, rcg⟩ := RpAll.consI rcg
        cases RpAll.nilI rcg
        cases Rp.strI p0
        cases Rp.strI p2
        obtain ⟨cp, xp, rfl, hcp, rpp⟩ := Rp.tupI p1
        cases RpAll.strs rpp
        obtain ⟨cw, xr, rfl, hcw, rrow⟩ := Rp.tupI p3
        obtain ⟨cl, ul, ecl, hcl, rcl⟩ := Rp.tupI rqq
        obtain ⟨m0, _, rfl, o0, rcl⟩ := RpAll.consI rcl
        obtain ⟨m1, _, rfl, o1, rcl⟩ := RpAll.consI rcl
        cases RpAll.nilI rcl
        obtain ⟨cq, xpr, rfl, hcq, rpl⟩ := Rp.tupI o1
        rw [ecg] at hxi
        rw [ecl] at hqi
        have lnm := nm_len ff.name
        have lrs := field_len ff.result
        have wpr := wt_list (zs := g.params) (c := 10) (fun z hz => field_len (ff.params.2 z hz))
        have l8 := ff.params.1
        have wen := wt_deedsF ff.entry
        have len2 := ff.len
        have r60 := ff.r60
        have lxr : xr.length = g.rows.length := rrow.lenM
        have lxpr : xpr.length = q.rows.length := rpl.lenM
        refine ⟨_, rfl, c, _, _, _, rfl, rfl, (LX L).sqT tb hc, atI_nat (j := 1) rfl, _, rfl, af, _, _, _, rfl, rfl, (LX L).sqT tb haf, (by rw [Int.zero_add]; exact atI_nat hxi), cg, _, rfl, (LX L).sqT tb hcg, rfl, _, _, rfl, _, _, rfl, _, _, rfl, _, _, rfl, rfl, ?_⟩
        dsimp only
        refine ⟨_, rfl, _, rfl, aq, _, _, _, rfl, rfl, (LX L).sqT tb haq, (by rw [Int.zero_add]; exact atI_nat hqi), cl, _, rfl, (LX L).sqT tb hcl, rfl, _, _, rfl, _, _, rfl, rfl, ?_⟩
        dsimp only
        obtain ⟨xs, F, hs⟩ := L
        refine ⟨_, rfl, .inl ⟨rfl, _, .inl (.inl F.e)⟩, _, rfl, _, _, rfl, rfl, (by ((try simp only [Str.length_append, len_iw, cl0, cl1, cl2, cl3, cl4, cl5, cl6, cl7, cl8, cl9, cl10, cl11, cl12, cl13, cl14, cl15, cl16, cl17, cl18, cl19, cl20, cl21, cl22, cl23, cl24, cl25, cl26, cl27, cl28, cl29, cl30, cl31, cl32, cl33, cl34, cl35, cl36, cl37, cl38, cl39, cl40, cl41, cl42]); (show _ ≤ 16777216); omega)), _, _, rfl, rfl, (by ((try simp only [Str.length_append, len_iw, cl0, cl1, cl2, cl3, cl4, cl5, cl6, cl7, cl8, cl9, cl10, cl11, cl12, cl13, cl14, cl15, cl16, cl17, cl18, cl19, cl20, cl21, cl22, cl23, cl24, cl25, cl26, cl27, cl28, cl29, cl30, cl31, cl32, cl33, cl34, cl35, cl36, cl37, cl38, cl39, cl40, cl41, cl42]); (show _ ≤ 16777216); omega)), _, rfl, cp, g.params, rfl, .inr (F.x.sqT tb hcp), F.tbG, by omega, fun G3 bx x3 hbx => ?_⟩
        have F := F.go x3
        have lbx := hbx.len
        refine ⟨_, _, rfl, rfl, (by ((try simp only [Str.length_append, len_iw, cl0, cl1, cl2, cl3, cl4, cl5, cl6, cl7, cl8, cl9, cl10, cl11, cl12, cl13, cl14, cl15, cl16, cl17, cl18, cl19, cl20, cl21, cl22, cl23, cl24, cl25, cl26, cl27, cl28, cl29, cl30, cl31, cl32, cl33, cl34, cl35, cl36, cl37, cl38, cl39, cl40, cl41, cl42]); (show _ ≤ 16777216); omega)), _, _, rfl, rfl, (by ((try simp only [Str.length_append, len_iw, cl0, cl1, cl2, cl3, cl4, cl5, cl6, cl7, cl8, cl9, cl10, cl11, cl12, cl13, cl14, cl15, cl16, cl17, cl18, cl19, cl20, cl21, cl22, cl23, cl24, cl25, cl26, cl27, cl28, cl29, cl30, cl31, cl32, cl33, cl34, cl35, cl36, cl37, cl38, cl39, cl40, cl41, cl42]); (show _ ≤ 16777216); omega)), _, rfl, _, _, rfl, rfl, (by ((try simp only [Str.length_append, len_iw, cl0, cl1, cl2, cl3, cl4, cl5, cl6, cl7, cl8, cl9, cl10, cl11, cl12, cl13, cl14, cl15, cl16, cl17, cl18, cl19, cl20, cl21, cl22, cl23, cl24, cl25, cl26, cl27, cl28, cl29, cl30, cl31, cl32, cl33, cl34, cl35, cl36, cl37, cl38, cl39, cl40, cl41, cl42]); (show _ ≤ 16777216); omega)), _, _, rfl, rfl, (by ((try simp only [Str.length_append, len_iw, cl0, cl1, cl2, cl3, cl4, cl5, cl6, cl7, cl8, cl9, cl10, cl11, cl12, cl13, cl14, cl15, cl16, cl17, cl18, cl19, cl20, cl21, cl22, cl23, cl24, cl25, cl26, cl27, cl28, cl29, cl30, cl31, cl32, cl33, cl34, cl35, cl36, cl37, cl38, cl39, cl40, cl41, cl42]); (show _ ≤ 16777216); omega)), D, _, _, rfl, rfl, F.e, ln_at (ln_sz hs (by omega)), ?_⟩
        have L := Ln.add F hs (x := Str.ofString "fun " ++ g.name ++ Str.ofString " " ++ bx ++ Str.ofString " " ++ g.result ++ Str.ofString " {") (u := [Str.ofString "fun", g.name] ++ listW g.params ++ [g.result, Str.ofString "{"]) (by
          unfold Tx
          simp only [tl_append, Sl_app, Sl_cons, Sl_nil, ct0, ct1, ct2, ct3, ct4, ct5, ct6, ct7, ct8, ct9, ct10, ct11, ct12, ct13, ct14, ct15, ct16, ct17, ct18, ct19, ct20, ct21, ct22, ct23, ct24, ct25, ct26, ct27, ct28, ct29, ct30, ct31, ct32, ct33, ct34, ct35, ct36, ct37, ct38, ct39, ct40, ct41, ct42, List.append_assoc, List.cons_append, List.nil_append, List.append_nil, hbx.on])
        clear F hs hbx
        obtain ⟨W1, hW1⟩ : ∃ W1, W1 = W0 ++ ([Str.ofString "fun", g.name] ++ listW g.params ++ [g.result, Str.ofString "{"]) := ⟨_, rfl⟩
        have lW1 : wt W1 = wt W0 + (wt [Str.ofString "fun", g.name] + wt (listW g.params) + wt [g.result, Str.ofString "{"]) := by rw [hW1, wt_app, wt_app, wt_app]
        rw [← hW1] at L
        rw [show W0 ++ ((([Str.ofString "fun", g.name] ++ listW g.params ++ [g.result, Str.ofString "{"]) ++ entryW q.entry ++ (g.rows.zip q.rows).flatMap (fun rp => rowW rp.1 rp.2)) ++ [Str.ofString "}"]) = ((W1 ++ entryW q.entry) ++ (g.rows.zip q.rows).flatMap (fun rp => rowW rp.1 rp.2)) ++ [Str.ofString "}"] by rw [hW1]; simp only [List.append_assoc]]
        dsimp only
        refine seq_cut (fun σ G => σ = [some (.ref c), some (.ref aq), some (.ref D), some (.str g.name), a4, a5, a6, some (.int (0 + (i : Nat))), some (.ref cp), some (.str g.result), some (.ref cw), some m0, some (.ref cq), a13] ∧ Ln T H G D (W1 ++ entryW q.entry)) (fun σ G ⟨eσ, L⟩ => ?_) (fun rest => ?_)
        rotate_left
        · refine ⟨_, rfl, by show 0 ≤ sizeLine; decide, fun t0 ht0 => ?_⟩
          have L := L.go (Ex.new (o := .tup []) ht0)
          refine ⟨deedsD q.entry, .tuple [], Rp.dpT (o0.ex (LX L) tb) (flat_deeds q.entry), .tup (.inl (.inl upd_same)) .nil, deeds_shaped q.entry, (by decide +kernel), ?_⟩
          obtain e | ⟨d0, ds0, e⟩ : q.entry = [] ∨ ∃ d0 ds0, q.entry = d0 :: ds0 := by
            cases q.entry with
            | nil => exact .inl rfl
            | cons d ds => exact .inr ⟨d, ds, rfl⟩
          · have plain := rest _ _ ⟨rfl, (by
              rw [e]
              have : entryW [] = [] := rfl
              rw [this, List.append_nil]
              exact L)⟩
            exact ⟨false, by rw [e]; rfl, iteF plain⟩
          · refine ⟨true, by rw [e]; rfl, iteT ?_⟩
            obtain ⟨xs, F, hs⟩ := L
            refine ⟨_, rfl, .inl ⟨rfl, _, .inl (.inl F.e)⟩, _, rfl, m0, q.entry, rfl, o0.ex F.x tb, fun d hd => deed_sm (ff.entry.2 d hd), F.tbG, by omega, fun G4 dx x4 hdx => ?_⟩
            have F := F.go x4
            have ldx := hdx.len
            refine ⟨_, _, rfl, rfl, (by ((try simp only [Str.length_append, len_iw, cl0, cl1, cl2, cl3, cl4, cl5, cl6, cl7, cl8, cl9, cl10, cl11, cl12, cl13, cl14, cl15, cl16, cl17, cl18, cl19, cl20, cl21, cl22, cl23, cl24, cl25, cl26, cl27, cl28, cl29, cl30, cl31, cl32, cl33, cl34, cl35, cl36, cl37, cl38, cl39, cl40, cl41, cl42]); (show _ ≤ 16777216); omega)), _, _, rfl, rfl, (by ((try simp only [Str.length_append, len_iw, cl0, cl1, cl2, cl3, cl4, cl5, cl6, cl7, cl8, cl9, cl10, cl11, cl12, cl13, cl14, cl15, cl16, cl17, cl18, cl19, cl20, cl21, cl22, cl23, cl24, cl25, cl26, cl27, cl28, cl29, cl30, cl31, cl32, cl33, cl34, cl35, cl36, cl37, cl38, cl39, cl40, cl41, cl42]); (show _ ≤ 16777216); omega)), D, _, _, rfl, rfl, F.e, ln_at (ln_sz hs (by omega)), rest _ _ ⟨rfl, ?_⟩⟩
            refine Ln.add F hs (x := Str.ofString "entry " ++ dx ++ Str.ofString ";") (u := entryW q.entry) ?_
            unfold Tx entryW
            unfold Sx at hdx
            rw [if_neg (by rw [e]; simp)]
            simp only [tl_append, Sl_app, Sl_cons, Sl_nil, ct0, ct1, ct2, ct3, ct4, ct5, ct6, ct7, ct8, ct9, ct10, ct11, ct12, ct13, ct14, ct15, ct16, ct17, ct18, ct19, ct20, ct21, ct22, ct23, ct24, ct25, ct26, ct27, ct28, ct29, ct30, ct31, ct32, ct33, ct34, ct35, ct36, ct37, ct38, ct39, ct40, ct41, ct42, List.append_assoc, List.cons_append, List.nil_append, List.append_nil, hdx]
        · subst eσ
          refine ⟨_, rfl, cw, xr, rfl, .inr ((LX L).sqT tb hcw), _, rfl, by omega, by omega, for_it (n := ((xr.length : Nat) : Int).toNat) walk_range (fun j σ G => ∃ a13, σ = [some (.ref c), some (.ref aq), some (.ref D), some (.str g.name), a4, a5, a6, some (.int (0 + (i : Nat))), some (.ref cp), some (.str g.result), some (.ref cw), some m0, some (.ref cq), a13] ∧ Ln T H G D ((W1 ++ entryW q.entry) ++ ((g.rows.zip q.rows).take j).flatMap (fun rp => rowW rp.1 rp.2)))
            ⟨_, rfl, by simpa using L⟩ (fun _ _ _ _ _ => trivial) (fun j x σ G G2 hj ⟨a13, eσ, L⟩ y => ?_) (fun σ G ⟨a13, eσ, L⟩ => ?_)⟩
          · obtain ⟨rfl, rfl⟩ := y
            subst eσ
            have hj2 : j < g.rows.length := by have : j < ((xr.length : Nat) : Int).toNat := hj; omega
            have hri : xr[j]? = some xr[j] := List.getElem?_eq_getElem (by omega)
            have hpi : xpr[j]? = some xpr[j] := List.getElem?_eq_getElem (by omega)
            obtain ⟨row, hrow, rrw⟩ := rrow.getM hri
            obtain ⟨pl, hpl, rpw⟩ := rpl.getM hpi
            obtain ⟨hrf, hpf⟩ := ff.rows (row, pl) (List.mem_of_getElem? (zip_get hrow hpl))
            have e2 : ((g.rows.zip q.rows).take (j + 1)).flatMap (fun rp => rowW rp.1 rp.2) = ((g.rows.zip q.rows).take j).flatMap (fun rp => rowW rp.1 rp.2) ++ rowW row pl := flat_take (fun rp : RowD × PlR => rowW rp.1 rp.2) (zip_get hrow hpl)
            have hl2 := wt_flat_take (fun rp : RowD × PlR => rowW rp.1 rp.2) (g.rows.zip q.rows) (j + 1)
            rw [e2, wt_app] at hl2
            obtain ⟨xs, F, hs⟩ := L
            refine ⟨_, rfl, .inl ⟨rfl, _, .inl (.inl F.e)⟩, _, rfl, _, rfl, cw, _, _, _, rfl, rfl, F.x.sqT tb hcw, (by rw [Int.zero_add]; exact atI_nat hri), _, rfl, _, rfl, cq, _, _, _, rfl, rfl, F.x.sqT tb hcq, (by rw [Int.zero_add]; exact atI_nat hpi), _, _, row, pl, rfl, rrw.ex F.x tb, rpw.ex F.x tb, hrf, hpf, F.tbG, fun G4 dx x4 hdx => ?_⟩
            have F := F.go x4
            refine ⟨D, _, _, rfl, rfl, F.e, ln_at (ln_sz hs (by rw [wt_app, wt_app]; omega)), _, rfl, ?_⟩
            rw [e2, ← List.append_assoc]
            exact Ln.add F hs hdx
          · subst eσ
            have hz : (g.rows.zip q.rows).take ((xr.length : Nat) : Int).toNat = g.rows.zip q.rows := List.take_of_length_le (by rw [List.length_zip]; omega)
            rw [hz] at L
            obtain ⟨xs, F, hs⟩ := L
            refine ⟨_, rfl, .inl ⟨rfl, _, .inl (.inl F.e)⟩, D, _, _, rfl, rfl, F.e, ln_at (ln_sz hs (by rw [wt_app, wt_app]; omega)), _, _, _, _, _, _, _, _, _, _, _, rfl, ?_⟩
            exact Ln.add F hs (x := Str.ofString "}") (u := [Str.ofString "}"]) (by unfold Tx; simp only [tl_append, tl_iw, tl_rW, tl_tW, Sl_app, Sl_cons, Sl_nil, ct0, ct1, ct2, ct3, ct4, ct5, ct6, ct7, ct8, ct9, ct10, ct11, ct12, ct13, ct14, ct15, ct16, ct17, ct18, ct19, ct20, ct21, ct22, ct23, ct24, ct25, ct26, ct27, ct28, ct29, ct30, ct31, ct32, ct33, ct34, ct35, ct36, ct37, ct38, ct39, ct40, ct41, ct42, List.append_assoc, List.cons_append, List.nil_append, List.append_nil])
      · subst eσ
        have hz : (p.funs.zip ps).take ((xf.length : Nat) : Int).toNat = p.funs.zip ps := List.take_of_length_le (by rw [List.length_zip]; omega)
        rw [hz] at L
        obtain ⟨xs, F, hs⟩ := L
        have hwx : wt xs = wt (prgW p ps) := by rw [← Sl_len, hs, Sl_len]; rfl
        have hne : xs ≠ [] := fun e => by
          rw [e] at hwx
          have h1 := ok.f1
          obtain ⟨fp, hfp⟩ : ∃ fp, fp ∈ p.funs.zip ps := List.exists_mem_of_length_pos (by rw [List.length_zip]; omega)
          have hm : Str.ofString "}" ∈ prgW p ps := List.mem_append.mpr (.inr (List.mem_flatMap.mpr ⟨fp, hfp, List.mem_append.mpr (.inr (List.mem_singleton.mpr rfl))⟩))
          have := wt_mem hm
          have : wt ([] : List Str) = 0 := rfl
          omega
        have ht := tx_self hne
        refine ⟨⟨_, rfl⟩, _, rfl, Str.ofString " ", D, xs, rfl, rfl, .inl (.inl (.inl F.e)), ?_, ?_⟩
        · have h1 : (Str.ofString " ").length = 1 := by decide +kernel
          have h2 := ok.ok.wt
          rw [h1, sum1]
          omega
        · have e : Txt.join (Str.ofString " ") xs = textW p ps := by
            refine Tx.uniq (ws := prgW p ps) ?_ (tx_self ?_)
            · unfold Tx at ht ⊢
              rw [ht, hs]; rfl
            · intro e
              rw [e] at hwx
              have := wt_len xs
              have : wt ([] : List Str) = 0 := rfl
              exact hne (List.length_eq_zero_iff.mp (by omega))
          rw [e]
          exact k G F.x
end
end JF
set_option Elab.async false
set_option linter.all false
set_option maxRecDepth 100000
set_option maxHeartbeats 4000000
/-! a call by names alone that may raise -/
namespace CK
open PySem PySem.Spec PyProof.Rows L2 GxR GA
/-- the names ks, in this order, bind the params as g puts them -/
structure KB0 (K : PySem.W.Frag) (fd : FuncData) (ps ks : List Str) (n : Nat) (g : ∀ {α : Type}, List α → List α) : Prop where
  to : ∀ (s : Shared) (ws : List Value), K.In s.heap → ws.length = n → BindsTo s fd ⟨[], ks.zip ws⟩ (ps.zip (g ws))
  rel : ∀ {zs : List V} {ws : List Value}, Vals zs ws → Vals (g zs) (g ws)
  len : ∀ ws : List Value, (g ws).length = ws.length
  ps : ps.length = n
def tCallKS (sp : Sp) (g : List V → List V) (E : L2.St → XK) (tk : TA) : TE := fun σ H Q => tk σ H fun zs H2 => sp (g zs) H2 Q (E σ)
section
variable {X : Cx} {CX : CXT} {k : Nat} {f : Addr} {fd : FuncData} {ps ks : List Str} {n : Nat} {g : ∀ {α : Type}, List α → List α} {sp : Sp} {E : L2.St → XK} {x : Str} {p pos : Pos} {kws : List Keyword} {tk : TA}
theorem pe_callKS (F : FnOk X.prog X.w X.K X.mg X.base CX k f fd ps sp) (hr : Room k X.A) (hg : Gl X x) (hm : X.mg x = some (.ref f)) (hk : PySem.W.keepIn X.K (.ref f) = true) (hb : KB0 X.K fd ps ks n g) (hx : ∀ σ, PassesAt CX X σ (E σ))
    (hkw : PK X kws tk) (hall : (backToKw pos (keywordEach kws X.env)).all (·.1.isSome) = true := by rfl) (hks : (backToKw pos (keywordEach kws X.env)).filterMap (·.1) = ks := by rfl)
    (hdb : (x == ("__debug__" : Str)) = false := by decide)
    (hpl : ((backTo pos (starEach [] X.env)).any (·.1) || (backToKw pos (keywordEach kws X.env)).any (·.1.isNone)) = false := by rfl) :
    PE X (.Call (.Name x p) [] kws pos) (tCallKS sp g E tk) := by
  refine ⟨fun pins s σ H Q I h => ?_⟩
  refine wpAny_Call_Name_kw (ld_glob I hg hm ?_ hdb)
  refine PySem.W.callWith_KW0 (h₀ := X.base) I.ok.mod.kin hk hall ?_ hpl
  refine thn (hkw.run pos pins s σ H _ I h) fun ws s2 ⟨zs, H2, I2, rz, q2⟩ => ⟨I2.kIn, ?_⟩
  rw [hks]
  have r2 := hb.rel rz
  have hl : ws.length = n := by
    have := F.len _ _ _ _ q2
    rw [r2.length, hb.len, hb.ps] at this
    exact this
  refine wpAny_call (codeAny_mono (F.run X.A X.stack s2 H2 ⟨[], ks.zip ws⟩ (g ws) (g zs) Q (E σ) hr I2.env0 (hb.to s2 ws I2.kIn hl) r2 q2) fun r s' hq => ?_)
  cases r with
  | error e => exact hx σ pins H2 s2 e s' I2 hq
  | ok fl =>
    cases fl with
    | ret u => exact I2.after hq
    | next => exact False.elim hq
    | brk => exact False.elim hq
    | cont => exact False.elim hq
end
end CK
set_option Elab.async false
set_option linter.all false
set_option maxRecDepth 100000
set_option maxHeartbeats 4000000
/-! a def's promise where no repr is under way; repr of data there -/
namespace HG
open PySem PySem.Spec PyProof.Rows L2
def Free (A : Around) : Prop := A.guards = some []
structure FnG (P : Program) (w : World) (K : PySem.W.Frag) (mg : Str → Option Value) (base : Heap) (CX : CXT) (k : Nat) (f : Addr) (fd : FuncData) (ps : List Str) (sp : Sp) : Prop where
  len : ∀ vs H Q E, sp vs H Q E → vs.length = ps.length
  run : ∀ (A : Around) (outer : List Env) (s : Shared) (H : Hp) (args : Args) (us : List Value) (vs : List V) (Q : VK) (E : XK), Room k A ∧ Free A → Env0 P w K mg base A outer s H → BindsTo s fd args (ps.zip us) → Vals vs us → sp vs H Q E →
    codeAny (model P w) A (.call (.ref f) args) (CR CX outer P w H s Q E) s
theorem fn_ofG {CX : CXT} {P : Program} {w : World} {K : PySem.W.Frag} {mg : Str → Option Value} {base : Heap} {k : Nat} {f : Addr} {x qual : Str} {st : Stmt} {fd : FuncData} {N ps : List Str} {sp : Sp} (FN : Fun K x qual st f fd) (S : FnScope N ps (defScope st))
    (len : ∀ vs H Q E, sp vs H Q E → vs.length = ps.length)
    (hb : ∀ (cdv : Value) (A : Around) (outer : List Env) (s : Shared) (H : Hp) (vs : List V) (Q : VK) (E : XK), Free (A.deeper (envOfC qual (defScope st) s.heap.objs.size f cdv)) → Room k (A.deeper (envOfC qual (defScope st) s.heap.objs.size f cdv)) → sp vs H Q E →
      ∃ t, PSs (cxOf CX P w K mg base N qual (defScope st) f cdv A outer s H E) (defBody st) t ∧ t { nx := fun _ H' => Q .non H', rt := Q } (L2.start N vs) H) : FnG P w K mg base CX (k + 1) f fd ps sp := by
  obtain ⟨oc, od, kV, doc, pm, an, cdv, ct, osl, rfl, lk, hcd⟩ := FN.ex
  refine ⟨len, ?_⟩
  rintro A outer s H args us vs Q E ⟨room, free⟩ e0 bd r q
  have kp := fun b o e => (e0.bs b o e).1
  have KX : K.In s.heap := e0.mod.kin.keeps kp
  obtain ⟨t, ht, hq⟩ := hb cdv A outer s H vs Q E free (room.deeper _) q
  have kinds : ∀ y ∈ ps.zip us, (defScope st).names.lookup y.1 = some .local ∨ ((defScope st).names.lookup y.1 = some .cell ∧ ((cellsFrom (s.heap.objs.size + 1) (defScope st).names []).lookup y.1).isSome = true) := by
    rintro ⟨n, v⟩ hy
    exact (S.par n (List.of_mem_zip hy).1).imp id fun z => ⟨z, PySem.W.cellsFrom_some _ _ _ (.inl z)⟩
  refine codeAny_call_function room.depth (KX _ _ lk) rfl S.co S.gen rfl (PySem.W.codeRec_of KX hcd) (bd _ _ _ _ (wpAny_newFunctionEnv_cells S.kind kinds ?_))
  rintro env rfl s1 x
  refine ⟨(e0.mod.nolimit.keeps kp).keeps x.toInCall.keep, codeAny_func (wpAny_mono (ht.run [] s1 _ H _ (inv_start S room.hd e0 (len _ _ _ _ q) r x) hq) ?_ fun _ _ z => z)⟩
  rintro (_ | _ | _ | u) s2 z
  · obtain ⟨σ', H', J, q'⟩ := z
    exact ⟨.non, H', J.os, J.bare, J.base, J.hok, rfl, q'⟩
  · obtain ⟨_, _, _, n⟩ := z
    exact n.elim
  · obtain ⟨_, _, _, n⟩ := z
    exact n.elim
  · obtain ⟨v, σ', H', J, rv, q'⟩ := z
    exact ⟨v, H', J.os, J.bare, J.base, J.hok, rv, q'⟩
section
variable {X : Cx} {CX : CXT} {k : Nat} {f : Addr} {fd : FuncData} {ps : List Str} {sp : Sp} {E : L2.St → XK} {x : Str} {q pos : Pos} {e : Expr} {es : List Expr} {t : TA}
theorem pe_callG (F : FnG X.prog X.w X.K X.mg X.base CX k f fd ps sp) (hr : Room k X.A) (fr : Free X.A) (hg : Gl X x) (hm : X.mg x = some (.ref f)) (hk : PySem.W.keepIn X.K (.ref f) = true) (hb : Binds X.K fd ps []) (hx : ∀ σ, PassesAt CX X σ (E σ))
    (ha : PA X (e :: es) t) (hdb : (x == ("__debug__" : Str)) = false := by decide) (he : starEach (e :: es) X.env = (false, eval e X.env) :: starEach es X.env := by rfl) (hpl : (backTo pos (starEach es X.env)).any (·.1) = false := by rfl) :
    PE X (.Call (.Name x q) (e :: es) [] pos) (tCallS sp E t) := by
  constructor
  intro pins s σ H Q I h
  refine wpAny_Call_Name_kw (ld_glob I hg hm (PySem.W.callWith_K (h₀ := X.base) I.ok.mod.kin hk (thn (ha.run pos pins s σ H _ I h) ?_) he hpl) hdb)
  rintro us s1 ⟨vs, H1, J, r, z⟩
  have b := hb s1 us J.kIn (by rw [List.append_nil, ← r.length]; exact F.len _ _ _ _ z)
  rw [List.append_nil] at b
  refine ⟨J.kIn, wpAny_call (codeAny_mono (F.run X.A X.stack s1 H1 ⟨us, []⟩ us vs Q (E σ) ⟨hr, fr⟩ J.env0 b r z) ?_)⟩
  rintro (err | fl) s2 y
  · exact hx σ pins H1 s1 err s2 J y
  · cases fl with
    | ret u => exact J.after y
    | _ => exact False.elim y
/-- repr(x) of data -/
def rRepr (K : PySem.W.Frag) : List V → Hp → VK → Prop := fun xs H Q => ∃ (a : Addr) (d : PyData), xs = [.ref a] ∧ Dp K H (.ref a) d ∧ d.showable = true ∧ d.hasDict = false ∧ d.depth ≤ 60 ∧ d.shown.length ≤ sizeLine ∧ Q (.str d.shown) H
theorem call_repr (fr : Free X.A) (hu : X.A.units + 64 < cLine) : CallR X (.builtin "repr") (rRepr X.K) := by
  intro pins s σ H xs us Q I r h
  obtain ⟨a, d, rfl, hd, h1, h2, h3, h4, q⟩ := h
  obtain ⟨u, rfl, ru⟩ := vals1 r
  obtain ⟨as, rd⟩ := Dp.reads I d _ _ hd ru
  obtain rfl : u = .ref a := ru
  exact repr_of_reads' rd h1 (fun e => by rw [h2] at e; cases e) fr (by omega) (fun _ _ e => e) (fun h' tk t' hk => ⟨.str d.shown, H, I.kept (t' := t') fun b o e => hk b o e, ⟨tk, rfl⟩, q⟩) h4
end
end HG
set_option Elab.async false
set_option linter.all false
set_option maxRecDepth 100000
set_option maxHeartbeats 4000000
/-! the law -/
namespace JF
open PySem PySem.Spec PyProof PyProof.Rows L2 GxR GA
abbrev sLaw : Stmt := topS 82
theorem scLaw : FnScope ["script", "well", "program", "placing", "further", "other", "due", "found"] ["script"] (defScope sLaw) := ⟨rfl, rfl, rfl, by decide +kernel, rfl, by decide +kernel, by decide +kernel⟩
abbrev idL {α : Type} (xs : List α) : List α := xs
abbrev rev2 {α : Type} (xs : List α) : List α := xs.reverse
theorem pass0A {X : Cx} {σ : L2.St} : PassesAt CX0 X σ E0 := fun _ _ _ _ _ _ h => h.elim
def spLaw (K : PySem.W.Frag) (T : List Addr) : Sp := fun vs H Q _ => ∃ (a : Addr) (ns : List Int), vs = [.ref a] ∧ SqL K H a (ns.map V.int) ∧ ns.length ≤ 63 ∧ TbOk T H ∧ ∀ H', Q (.bl true) H'
section
variable {P : Program} {w : World} {K : PySem.W.Frag} {mg : Str → Option Value} {base : Heap} {T : List Addr}
theorem ok_law {f aW aA aT aR : Addr} {fd dW dA dT dR : FuncData} (F : Fun K "law" "law" sLaw f fd) (B : BI mg) (mi : mg "isinstance" = none)
    (GW : FnOk P w K mg base CX0 1 aW dW ["script", "at"] (spWell K)) (mW : mg "_law_well" = some (.ref aW)) (kW : PySem.W.keepIn K (.ref aW) = true) (bW : Binds K dW ["script", "at"] [])
    (GA : FnOk P w K mg base CX0 5 aA dA ["well"] (spAnyP K T)) (mA : mg "_law_any" = some (.ref aA)) (kA : PySem.W.keepIn K (.ref aA) = true) (bA : Binds K dA ["well"] [])
    (GT : FnOk P w K mg base CX0 4 aT dT ["program", "placing"] (spLT K T)) (mT : mg "_law_text" = some (.ref aT)) (kT : PySem.W.keepIn K (.ref aT) = true) (bT : Binds K dT ["program", "placing"] [])
    (GR : FnOk P w K mg base CX0 23 aR dR ["program", "placing"] (spWrite K T)) (mR : mg "write_text" = some (.ref aR)) (kR : PySem.W.keepIn K (.ref aR) = true) (bR : Binds K dR ["program", "placing"] [])
    (kb1 : CK.KB0 K dR ["program", "placing"] ["placing", "program"] 2 (@rev2)) (kb2 : CK.KB0 K dR ["program", "placing"] ["program", "placing"] 2 (@idL)) :
    HG.FnG P w K mg base CX0 24 f fd ["script"] (spLaw K T) := by
  refine HG.fn_ofG F scLaw (fun vs H Q E h => ?_) (fun cdv A outer s H vs Q E fr hr h => ?_)
  · obtain ⟨a, ns, rfl, _⟩ := h
    rfl
  · obtain ⟨sc, ns, rfl, hS, l63, tb, k⟩ := h
    refine ⟨_, PSs.nox ((pss_cons (ps_set (i := 1) scLaw.nd rfl (.inl rfl) (pe_call GW (hr.mono (by decide)) (by rfl) mW kW bW .nil pass0 (pa_cons (pv 0) (pa_cons pe_int pa_nil))))
      (pss_cons (ps_asg (pe_call GA (hr.mono (by decide)) (by rfl) mA kA bA .nil pass0 (pa_cons (pv 1) pa_nil)) (pg_twoL (K := K) (i := 2) (j := 3) rfl rfl scLaw.nd rfl rfl rfl rfl))
      (pss_cons (ps_asg (pe_call GA (hr.mono (by decide)) (by rfl) mA kA bA .nil pass0 (pa_cons (pv 1) pa_nil)) (pg_twoL (K := K) (i := 4) (j := 5) rfl rfl scLaw.nd rfl rfl rfl rfl))
      (pss_cons (ps_set (i := 6) scLaw.nd rfl (.inl rfl) (pe_call GT (hr.mono (by decide)) (by rfl) mT kT bT .nil pass0 (pa_cons (pv 2) (pa_cons (pv 3) pa_nil))))
      (pss_cons (ps_set (i := 7) scLaw.nd rfl (.inl rfl) (pe_callS GR (hr.mono (by decide)) (by rfl) mR kR bR (E := fun _ => E0) (fun _ => pass0A) (pa_cons (pv 2) (pa_cons (pv 3) pa_nil))))
      (pss_cons (ps_if (PW.pt (pw_or (pt_not (pt_val (pe_callB call_isi (by rfl) mi boot_isinstance (pa_cons (pv 7) (pa_cons (pe_bltn (v := .ty "str") (by rfl) B.str (by decide +kernel) rfl) pa_nil))))) (pw_or1 (pt_cmpR op_ne (pv 7) (pv 6) (nomark _))))) (pss_one (ps_ret pe_bl)) pss_nil)
      (pss_cons (ps_if (pt_cmpR op_ne (CK.pe_callKS GR (hr.mono (by decide)) (by rfl) mR kR kb1 (E := fun _ => E0) (fun _ => pass0A) (pk_cons (pv 5) (pk_cons (pv 4) pk_nil))) (pe_call GT (hr.mono (by decide)) (by rfl) mT kT bT .nil pass0 (pa_cons (pv 4) (pa_cons (pv 5) pa_nil))) (nomark _)) (pss_one (ps_ret pe_bl)) pss_nil)
      (pss_one (ps_ret (pe_cmpR op_eq (CK.pe_callKS GR (hr.mono (by decide)) (by rfl) mR kR kb2 (E := fun _ => E0) (fun _ => pass0A) (pk_cons (pv 2) (pk_cons (pv 3) pk_nil))) (pv 6) (nomark _)))))))))))), ?_⟩
    refine ⟨_, rfl, sc, ns, 0, rfl, hS, l63, rfl, fun H1 p q sm np nq hw => ?_⟩
    have nT : ∀ {x : Addr}, H x = none → x ∉ T := fun n z => by
      obtain ⟨ps, e, _⟩ := tb _ z
      rw [n] at e; cases e
    have L1 : Wl T p q 0 H1 := ⟨hw, nT np, nT nq, fun P hP => by
      obtain ⟨ps, e, t⟩ := tb P hP
      exact ⟨ps, off_at (sm _ _ e) (fun z => by rw [z, np] at e; cases e) (fun z => by rw [z, nq] at e; cases e), t⟩⟩
    refine ⟨_, rfl, p, q, 0, rfl, L1, by decide, fun H2 c v1 v2 pr ps hF ec r1 r2 x2 L2 => ?_⟩
    refine ⟨c, _, rfl, .inl (.inl (off_un _ _ ec)), rfl, _, _, rfl, _, _, rfl, rfl, ?_⟩
    dsimp only
    refine ⟨_, rfl, p, q, _, rfl, L2, by decide, fun H3 c' v3 v4 pr' ps' hF' ec' r3 r4 x3 L3 => ?_⟩
    refine ⟨c', _, rfl, .inl (.inl (off_un _ _ ec')), rfl, _, _, rfl, _, _, rfl, rfl, ?_⟩
    dsimp only
    have r1 := (r1.ex x3 L2.tb).offU
    have r2 := (r2.ex x3 L2.tb).offU
    have r3 := r3.offU
    have r4 := r4.offU
    have tb := L3.tbH
    refine ⟨_, rfl, _, rfl, v1, v2, pr, ps, rfl, r1, r2, hF, tb, fun H4 x4 => ?_⟩
    have tb4 := x4.tb tb
    refine ⟨_, rfl, _, rfl, v1, v2, pr, ps, rfl, r1.ex x4 tb, r2.ex x4 tb, hF.ok, tb4, fun H5 x5 => ?_⟩
    have x45 := x4.trans x5
    have tb5 := x5.tb tb4
    refine ⟨_, rfl, .str (textW pr ps), .ty "str", .type "str", .type "str", true, rfl, .ty "str", .base (.str _), by rfl, ⟨_, rfl, ?_⟩⟩
    dsimp only
    refine iteF ?_
    refine ⟨_, rfl, _, rfl, rfl, false, (by rw [decide_eq_true rfl]; rfl), iteF ?_⟩
    refine ⟨_, rfl, _, rfl, v3, v4, pr', ps', rfl, (r3.ex x45 tb), (r4.ex x45 tb), hF'.ok, tb5, fun H6 x6 => ?_⟩
    have x46 := x45.trans x6
    have tb6 := x6.tb tb5
    refine ⟨_, rfl, _, rfl, v3, v4, pr', ps', rfl, (r3.ex x46 tb), (r4.ex x46 tb), hF', tb6, fun H7 x7 => ?_⟩
    have x47 := x46.trans x7
    have tb7 := x7.tb tb6
    refine ⟨rfl, false, (by rw [decide_eq_true rfl]; rfl), iteF ?_⟩
    refine ⟨_, rfl, _, rfl, v1, v2, pr, ps, rfl, (r1.ex x47 tb), (r2.ex x47 tb), hF.ok, tb7, fun H8 x8 => ?_⟩
    refine ⟨_, rfl, rfl, ?_⟩
    rw [decide_eq_true rfl]
    exact k _
end
end JF
set_option Elab.async false
set_option linter.all false
set_option maxRecDepth 100000
set_option maxHeartbeats 4000000
/-! the end of a law whose promise asks that no repr is under way -/
namespace EG
open PySem PySem.Spec PyProof.Rows L2
section
variable {K : PySem.W.Frag} {g : Heap} {a : Addr} {vs : List Value} {ns : List Int} {tbs : List Addr}
/-- the script, unless it is written, and the tables -/
def trk (K : PySem.W.Frag) (tbs : List Addr) (a : Addr) (vs : List Value) (ns : List Int) : Hp := fun b =>
  if b ∈ tbs then some (.tbl #[]) else if b = a ∧ K.lookup a = none then some (.frz { cls := .type "list", data := .seq vs.toArray } (.lst (ns.map V.int))) else none
theorem trk_tab {b : Addr} (h : b ∈ tbs) : trk K tbs a vs ns b = some (.tbl #[]) := if_pos h
theorem trk_some {b : Addr} {u : HO} (h : trk K tbs a vs ns b = some u) : (b ∈ tbs ∧ u = .tbl #[]) ∨ (b = a ∧ K.lookup a = none ∧ u = .frz { cls := .type "list", data := .seq vs.toArray } (.lst (ns.map V.int))) := by
  unfold trk at h
  by_cases m : b ∈ tbs
  · rw [if_pos m] at h
    exact .inl ⟨m, (Option.some.inj h).symm⟩
  · rw [if_neg m] at h
    by_cases e : b = a ∧ K.lookup a = none
    · rw [if_pos e] at h
      exact .inr ⟨e.1, e.2, (Option.some.inj h).symm⟩
    · rw [if_neg e] at h
      cases h
end
theorem call_g {P : Program} {w : World} {K : PySem.W.Frag} {mg mb : Str → Option Value} {k : Nat} {fa a : Addr} {cs : List (Addr × Addr)} {fd : FuncData} {x : Str} {sp : Sp} {t : Shared} {vs : List Value} {ns : List Int}
    (inK : K.In t.heap) (gl : t.heap.Ns mainGlobals mg) (bl : t.heap.Ns builtinsNs mb) (bb : ∀ y : Str, y ≠ "__name__" → mb y = bootBuiltins y) (nl : t.heap.NoLimit) (ng : t.gens = #[])
    (tabE : ∀ c ∈ cs, t.heap.get? c.2 = some { cls := .none, data := .fields #[] }) (tabK : ∀ c ∈ cs, K.lookup c.2 = none) (tabC : ∀ c ∈ cs, PySem.W.CodeHd t.heap c.1 c.2)
    (bm : ∃ (m : Addr) (o : Obj), mg "__builtins__" = some (.ref m) ∧ m ≠ builtinsNs ∧ t.heap.get? m = some o ∧ o.cls = .type "module" ∧ o.dict = some builtinsNs ∧ o.data = .plain)
    (at' : t.heap.get? a = some { cls := .type "list", data := .seq vs.toArray }) (are : IntsAre vs ns) (few : ns.length ≤ sizeLine) (room : Room k callerA)
    (F : ∀ base : Heap, K.In base → base.Ns mainGlobals mg → (∀ c ∈ cs, GxR.TabB base mg c.1 c.2) → HG.FnG P w K mg base CX0 k fa fd [x] sp) (bnd : ∀ (u : Shared) (v : Value), BindsTo u fd ⟨[v], []⟩ [(x, v)])
    (ask : ∀ H : Hp, (∀ c ∈ cs, H c.2 = some (.tbl #[])) → SqL K H a (ns.map V.int) → sp [.ref a] H (fun v _ => v = .bl true) fun _ _ _ => False) :
    codeAny (model P w) callerA (.call (.ref fa) ⟨[.ref a], []⟩) (fun r t' => r = .ok (.ret (.bool true)) ∧ OldK t.heap t'.heap ∧ t'.os = t.os ∧ AllBare t'.gens) t := by
  have rel := vals_ints are
  have emp : ∀ b ∈ cs.map Prod.snd, t.heap.get? b = some { cls := .none, data := .fields #[] } := fun b m => by
    obtain ⟨c, hc, rfl⟩ := List.mem_map.mp m
    exact tabE c hc
  have low : ∀ c ∈ cs, c.2 ∈ cs.map Prod.snd := fun c hc => List.mem_map_of_mem hc
  have aOut : a ∉ cs.map Prod.snd := fun m => by
    have e := emp a m
    rw [at'] at e
    have d : (Data.seq vs.toArray : Data) = Data.fields #[] := congrArg Obj.data (Option.some.inj e)
    cases d
  have tabN : ∀ b ∈ cs.map Prod.snd, K.lookup b = none := fun b m => by
    obtain ⟨c, hc, rfl⟩ := List.mem_map.mp m
    exact tabK c hc
  -- what is tracked
  have seq : SqL K (trk K (cs.map Prod.snd) a vs ns) a (ns.map V.int) := by
    cases e : K.lookup a with
    | none => exact .inl (.inr ⟨_, (if_neg aOut).trans (if_pos ⟨rfl, e⟩)⟩)
    | some o =>
      have e2 := inK a o e
      rw [at'] at e2
      cases e2
      exact .inr ⟨_, vs.toArray, _, e, rfl, rfl, rfl, by rw [List.size_toArray, are.length]; exact few, by simpa using rel⟩
  have hok : HOk P w (trk K (cs.map Prod.snd) a vs ns) t.heap := fun b u e => by
    rcases trk_some e with ⟨m, rfl⟩ | ⟨rfl, _, rfl⟩
    · exact emp b m
    · exact ⟨at', by rw [List.length_map]; exact few, vs, _, rel, at'⟩
  have bare : ∀ {b : Addr} {o : Obj}, t.heap.get? b = some o → (∀ its n, o.data ≠ .seq its n) → o.data ≠ .fields #[] → trk K (cs.map Prod.snd) a vs ns b = none := fun {b o} e n1 n2 => by
    cases q : trk K (cs.map Prod.snd) a vs ns b with
    | none => rfl
    | some u =>
      rcases trk_some q with ⟨m, _⟩ | ⟨rfl, _, _⟩
      · rw [emp b m] at e
        cases e
        exact absurd rfl n2
      · rw [at'] at e
        cases e
        exact absurd rfl (n1 _ _)
  have hid : ∀ {b : Addr} {o : Obj}, t.heap.get? b = some o → trk K (cs.map Prod.snd) a vs ns b = none → (hidT t.heap (trk K (cs.map Prod.snd) a vs ns)).get? b = some o := fun e n => hidT_get e n
  have dct : ∀ {b : Addr} {f : Str → Option Value}, t.heap.Ns b f → (hidT t.heap (trk K (cs.map Prod.snd) a vs ns)).Ns b f := fun {b f} ⟨o, es, n, e, d, r⟩ =>
    ⟨o, es, n, hid e (bare e (fun _ _ z => by rw [d] at z; cases z) fun z => by rw [d] at z; cases z), d, r⟩
  have inB : K.In (hidT t.heap (trk K (cs.map Prod.snd) a vs ns)) := fun b o e => hid (inK b o e) (by
    cases q : trk K (cs.map Prod.snd) a vs ns b with
    | none => rfl
    | some u =>
      rcases trk_some q with ⟨m, _⟩ | ⟨rfl, n, _⟩
      · rw [tabN b m] at e
        cases e
      · rw [n] at e
        cases e)
  have mod : L2.Mod K mg (hidT t.heap (trk K (cs.map Prod.snd) a vs ns)) := ⟨inB, dct gl, ⟨mb, dct bl, bb⟩, let ⟨mc, h1, h2⟩ := nl; ⟨mc, dct h1, h2⟩⟩
  have tb : ∀ c ∈ cs, GxR.TabB (hidT t.heap (trk K (cs.map Prod.snd) a vs ns)) mg c.1 c.2 := fun c hc => by
    refine ⟨?_, ?_, fun z => ?_⟩
    · obtain ⟨o, us, fl, tf, fg, tg, inF, tx, tt, e1, r1, r2, r3, r⟩ := tabC c hc
      exact ⟨o, us, fl, tf, fg, tg, inF, tx, tt, hid e1 (bare e1 (fun _ _ z => by rw [r2] at z; cases z) fun z => by rw [r2] at z; cases z; simp at r3), r1, r2, r3, r⟩
    · obtain ⟨m, o, h1, h2, h3, h4, h5, h6⟩ := bm
      refine ⟨m, o, h1, h2, fun z => ?_, fun z => ?_, hid h3 (bare h3 (fun _ _ z => by rw [h6] at z; cases z) fun z => by rw [h6] at z; cases z), h4, h5, h6⟩
      · obtain ⟨o2, es, n, e, d, _⟩ := gl
        rw [z, e] at h3
        cases h3
        rw [d] at h6
        cases h6
      · rw [z, tabE c hc] at h3
        cases h3
        cases h6
    · obtain ⟨o2, es, n, e, d, _⟩ := gl
      rw [z, tabE c hc] at e
      cases e
      cases d
  have env : Env0 P w K mg (hidT t.heap (trk K (cs.map Prod.snd) a vs ns)) callerA [] t (trk K (cs.map Prod.snd) a vs ns) :=
    ⟨rfl, mod, fun b o e => of_hidT e, Nat.le_of_eq (hidT_size _ _), trivial, fun b m => absurd (show b ∈ ([] : List Addr) from m) List.not_mem_nil, hok, .of_eq ng⟩
  refine codeAny_mono ((F _ inB (dct gl) tb).run callerA [] t _ ⟨[.ref a], []⟩ [.ref a] [.ref a] _ _ ⟨room, rfl⟩ env (bnd t (.ref a)) (.cons rfl .nil) (ask _ (fun c hc => trk_tab (low c hc)) seq)) fun r t' h => ?_
  match r, h with
  | .error e, h => exact False.elim h
  | .ok .next, h => exact False.elim h
  | .ok .brk, h => exact False.elim h
  | .ok .cont, h => exact False.elim h
  | .ok (.ret u), ⟨v, G, os, ba, un, hokG, rv, q⟩ =>
    have q : v = .bl true := q
    subst q
    obtain rfl : u = Value.bool true := rv
    have old : ∀ b o, b ∉ cs.map Prod.snd → t.heap.get? b = some o → t'.heap.get? b = some o := fun b o nb e => by
      cases q : trk K (cs.map Prod.snd) a vs ns b with
      | none => exact un.keep b o e q (by intro z; exact absurd (show b ∈ ([] : List Addr) from z) (by simp)) (by simp)
      | some u =>
        rcases trk_some q with ⟨m, _⟩ | ⟨_, _, rfl⟩
        · exact absurd m nb
        · obtain ⟨e1, _⟩ := hok b _ q
          obtain ⟨e2, _⟩ := hokG b _ (un.frzs b _ _ q)
          rw [e] at e1
          cases e1
          exact e2
    have grew : ∀ c ∈ cs, ∃ more : Array Value, t'.heap.get? c.2 = some { cls := .none, data := .fields more } := fun c hc => by
      obtain ⟨more, z⟩ := un.tbls c.2 #[] (trk_tab (low c hc))
      exact ⟨_, hokG c.2 _ z⟩
    refine ⟨rfl, ⟨fun b o e => ?_, fun b o e => ?_⟩, os, ba⟩
    · by_cases m : b ∈ cs.map Prod.snd
      · obtain ⟨c, hc, rfl⟩ := List.mem_map.mp m
        obtain ⟨more, hm⟩ := grew c hc
        rw [tabE c hc] at e
        cases e
        exact .inr (.inl ⟨((tabC c hc).tab (tabE c hc)).isCodeTable, rfl, #[], more, rfl, by rw [Array.empty_append]; exact hm⟩)
      · exact .inl (old b o m e)
    · by_cases m : b ∈ cs.map Prod.snd
      · obtain ⟨c, hc, rfl⟩ := List.mem_map.mp m
        obtain ⟨more, hm⟩ := grew c hc
        exact ⟨_, hm⟩
      · exact ⟨o, old b o m e⟩
/-- what a law's end wants at the heap h that the head leaves -/
def Kept (l : PySem.W.OpenLaw) (w : World) (K : PySem.W.Frag) (k n : Nat) (x : Str) (mg : Str → Option Value) (fa : Addr) (h : Heap) : Prop :=
  ∃ (fd : FuncData) (cs : List (Addr × Addr)) (sp : Sp), ((∀ c ∈ cs, h.get? c.2 = some { cls := .none, data := .fields #[] }) ∧ (∀ c ∈ cs, K.lookup c.2 = none) ∧ ∀ c ∈ cs, PySem.W.CodeHd h c.1 c.2) ∧ (∀ (u : Shared) (v : Value), BindsTo u fd ⟨[v], []⟩ [(x, v)]) ∧
    (∀ (H : Hp) (a : Addr) (ns : List Int), ns.length ≤ n → (∀ c ∈ cs, H c.2 = some (.tbl #[])) → SqL K H a (ns.map V.int) → sp [.ref a] H (fun v _ => v = .bl true) fun _ _ _ => False) ∧
    ∀ base : Heap, K.In base → base.Ns mainGlobals mg → (∀ c ∈ cs, GxR.TabB base mg c.1 c.2) → HG.FnG l.prog w K mg base CX0 k fa fd [x] sp
theorem walk_g {l : PySem.W.OpenLaw} {n k : Nat} {q : Program} {loose : List Str} {XP : (Str → Option Value) → Heap → Prop} {YP : World → Heap → Prop} {d : DefRec} {K : Params → PySem.W.Frag} {x : Str}
    (most : l.most = some n) (fits : n ≤ sizeLine) (dfl : d.params.defaults = []) (room : Room k callerA) (inK : ∀ (w : World) (h : Heap), YP w h → (K w.params).In h)
    (F : ∀ (w : World) (mg mb : Str → Option Value) (fa : Addr) (h : Heap) (mean : ExcName → Option Value), Top q (PySem.W.looseW q loose) mean mg mb h → (K w.params).In h → mg d.name = some (.ref fa) → Kept l w (K w.params) k n x mg fa h) :
    PySem.W.WalkO q loose XP YP l.row.toRowW d [] (fun f vs => PySem.call f vs) := by
  refine Att.attach_callB most dfl fun w s₀ t mg mb fa o pm cd doc a vs ns G Y ho hd hcd hmg obj are len _ hg => ?_
  have KX := inK w _ Y
  obtain ⟨fd, cs, sp, ⟨h1, h2, h3⟩, h4, h5, h6⟩ := F w mg mb fa _ _ G.T KX hmg
  exact call_g KX G.T.g G.T.b G.T.builtins G.T.nolimit hg h1 h2 h3 G.T.bmain obj are (Nat.le_trans len fits) room h6 h4 fun H hH hS => h5 H a ns len hH hS
end EG
set_option Elab.async false
set_option linter.all false
set_option maxRecDepth 100000
set_option maxHeartbeats 4000000
/-! the facts of what the top leaves, from one look -/
namespace JF
open PySem PySem.Spec PyProof.Rows L2 GxR GA
section
variable {P : Program} {w : World} {K : PySem.W.Frag} {mg mb : Str → Option Value} {h : Heap}
def dD (x : Str) (st : Stmt) : He.DefD := ⟨(x, none), x, x, defArgs st, defBody st, defScope st, [], []⟩
theorem fun_of {x qual : Str} {st : Stmt} {f : Addr} {fd : FuncData} (F : _root_.L2.FunD K x qual (defArgs st) (defBody st) (defScope st) [] [] f fd) : Fun K x qual st f fd := by
  obtain ⟨oc, od, dV, kV, doc, pm, an, cd, ct, sl, e, lk, c, d, _⟩ := F.ex
  rcases d with ⟨_, e2⟩ | ⟨n, _⟩
  · subst e2
    exact ⟨⟨oc, od, kV, doc, pm, an, cd, ct, sl, e, lk, c⟩, F.kp⟩
  · exact absurd rfl n
theorem func_of {x : Str} {st : Stmt} {fd : FuncData} (F : _root_.L2.FunD K x x (defArgs st) (defBody st) (defScope st) [] [] (He.ga K x) fd) : FunC K x x st (He.ga K x) fd (He.codeOf K (x, none)) := by
  obtain ⟨oc, od, dV, kV, doc, pm, an, cd, ct, sl, e, lk, c, d, _⟩ := F.ex
  obtain ⟨c0, rfl⟩ := He.codeIn_ref c
  rcases d with ⟨_, e2⟩ | ⟨n, _⟩
  · subst e2
    have e3 : He.codeOf K (x, none) = c0 := He.codeOf_eq (p := (x, none)) (oc := oc) (od := od) (osl := sl) (fd := fd) lk (by rw [e])
    rw [e3]
    exact ⟨⟨oc, od, kV, doc, pm, an, ct, sl, e, lk, c⟩, F.kp⟩
  · exact absurd rfl n
/-- a def of the module -/
structure Dn (K : PySem.W.Frag) (mg : Str → Option Value) (x : Str) (st : Stmt) (fd : FuncData) : Prop where
  m : mg x = some (.ref (He.ga K x))
  F : Fun K x x st (He.ga K x) fd
theorem Dn.k {x : Str} {st : Stmt} {fd : FuncData} (D : Dn K mg x st fd) : PySem.W.keepIn K (.ref (He.ga K x)) = true := D.F.kp
theorem dn_of {fa : List He.Fa} {fn : List He.DefD} (X : K.In h) (G : h.Ns mainGlobals mg) (S : He.SaysD fa fn K) {x : Str} {st : Stmt} (i j : Nat) (hi : fn[i]? = some (dD x st)) (hj : fa[j]? = some (.glo x)) : ∃ fd, Dn K mg x st fd := by
  obtain ⟨fd, F⟩ := S.def_ i hi
  exact ⟨fd, He.glo_ok X G (S.fact j hj), fun_of F⟩
structure Dc (K : PySem.W.Frag) (mg : Str → Option Value) (x : Str) (st : Stmt) (fd : FuncData) : Prop where
  m : mg x = some (.ref (He.ga K x))
  F : FunC K x x st (He.ga K x) fd (He.codeOf K (x, none))
theorem dc_of {fa : List He.Fa} {fn : List He.DefD} (X : K.In h) (G : h.Ns mainGlobals mg) (S : He.SaysD fa fn K) {x : Str} {st : Stmt} (i j : Nat) (hi : fn[i]? = some (dD x st)) (hj : fa[j]? = some (.glo x)) : ∃ fd, Dc K mg x st fd := by
  obtain ⟨fd, F⟩ := S.def_ i hi
  exact ⟨fd, He.glo_ok X G (S.fact j hj), func_of F⟩
/-! ### the table of forms -/
theorem nsIn_out {a : Addr} {ks : List Str} {Q : Params} {z : Str} (d : He.dicW K a = some (He.keysIn Q ks)) (hz : z ∉ ks) : PySem.W.nsIn K a z = some none := by
  have key : ∀ (l : List DictEntry) (ks : List Str), l.map He.keyOf = He.keysIn Q ks → z ∉ ks → l.find? (·.key.isStr z) = none ∧ l.any (·.refKey) = false := by
    intro l
    induction l with
    | nil => exact fun _ _ _ => ⟨rfl, rfl⟩
    | cons e r ih =>
      intro ks h hz
      cases ks with
      | nil => cases h
      | cons k ks =>
        have h1 : He.keyOf e :: r.map He.keyOf = some (k, PyData.keyHash Q k) :: He.keysIn Q ks := h
        injection h1 with h2 h3
        obtain ⟨i1, i2⟩ := ih ks h3 fun m => hz (List.mem_cons_of_mem _ m)
        obtain ⟨eh, ek, ev⟩ := e
        unfold He.keyOf at h2
        cases ek with
        | str y t =>
          have h4 : (y, eh) = (k, PyData.keyHash Q k) := Option.some.inj h2
          have ey : y = k := (Prod.mk.inj h4).1
          subst ey
          have ny : (Value.str y t).isStr z = false := by
            show (y == z) = false
            exact beq_eq_false_iff_ne.mpr fun e => hz (by rw [← e]; exact List.mem_cons_self)
          exact ⟨by rw [List.find?_cons, ny]; exact i1, by rw [List.any_cons, i2]; rfl⟩
        | _ => cases h2
  unfold He.dicW at d
  unfold PySem.W.nsIn
  cases q : K.lookup a with
  | none => rw [q] at d; cases d
  | some o =>
    obtain ⟨oc, od, dt, sl⟩ := o
    rw [q] at d
    cases oc with
    | type c =>
      cases od with
      | none =>
        cases dt with
        | dict es n =>
          have d2 : (match decide (c = "dict") && (sl.isEmpty && !(a == sysModules)) with | true => some (es.toList.map He.keyOf) | false => none) = some (He.keysIn Q ks) := d
          cases hb : decide (c = "dict") && (sl.isEmpty && !(a == sysModules)) with
          | false => rw [hb] at d2; cases d2
          | true =>
            rw [hb] at d2
            obtain ⟨k1, k2⟩ := key es.toList ks (Option.some.inj d2) hz
            show (match es.toList.find? (·.key.isStr z) with | some e => some (some e.val) | none => if es.toList.any (·.refKey) then none else some none) = some none
            rw [k1]
            show (if es.toList.any (·.refKey) = true then none else some none) = some none
            rw [k2]
            rfl
        | _ => cases d
      | some _ => cases dt <;> cases d
    | _ => cases od <;> cases dt <;> cases d
def names8 : List Str := ["is_register", "is_number", "is_next", "is_high_name", "are_make_args", "are_branches", "is_low_name", "are_call_args", "is_token", "is_size"]
def fns8 : List (PyData → Bool) := [isRegister, isNumber, isNext, isHigh, isMakeArgs, isBranches, isLow, isCallArgs, isToken, isSize]
def S8 (K : PySem.W.Frag) (T : List Addr) : Addr → Option Sp := fun f => ((names8.map (He.ga K)).zip (fns8.map fun g => spIsD K T (fun _ => True) g)).lookup f
theorem lookup_zip {s : List Sp} : ∀ {l : List Addr} {s : List Sp} {i : Nat} {a : Addr} {sp : Sp}, l.Nodup → l[i]? = some a → s[i]? = some sp → (l.zip s).lookup a = some sp
  | [], _, i, a, sp, _, h, _ => by simp at h
  | _ :: _, [], i, a, sp, _, _, h => by simp at h
  | b :: l, t :: s, 0, a, sp, _, h1, h2 => by
    cases h1
    cases h2
    show (match b == b with | true => some t | false => (l.zip s).lookup b) = some t
    rw [beq_self_eq_true]
  | b :: l, t :: s, i + 1, a, sp, nd, h1, h2 => by
    have m : a ∈ l := List.mem_of_getElem? (i := i) h1
    have ne : (a == b) = false := beq_eq_false_iff_ne.mpr fun e => (List.nodup_cons.mp nd).1 (by rw [← e]; exact m)
    show (match a == b with | true => some t | false => (l.zip s).lookup a) = some sp
    rw [ne]
    exact lookup_zip (s := s) (l := l) (i := i) (List.nodup_cons.mp nd).2 h1 h2
theorem s8_at {T : List Addr} (nd : (names8.map (He.ga K)).Nodup) {x : Str} {g : PyData → Bool} (i : Nat) (h1 : names8[i]? = some x) (h2 : fns8[i]? = some g) : S8 K T (He.ga K x) = some (spIsD K T (fun _ => True) g) :=
  lookup_zip (s := []) (i := i) nd (by rw [List.getElem?_map, h1]; rfl) (by rw [List.getElem?_map, h2]; rfl)
theorem s8_inv {T : List Addr} {f : Addr} {sp : Sp} (h : S8 K T f = some sp) : ∃ (i : Nat) (x : Str) (g : PyData → Bool), names8[i]? = some x ∧ fns8[i]? = some g ∧ f = He.ga K x ∧ sp = spIsD K T (fun _ => True) g := by
  have inv : ∀ (l : List Str) (s : List (PyData → Bool)), ((l.map (He.ga K)).zip (s.map fun g => spIsD K T (fun _ => True) g)).lookup f = some sp → ∃ (i : Nat) (x : Str) (g : PyData → Bool), l[i]? = some x ∧ s[i]? = some g ∧ f = He.ga K x ∧ sp = spIsD K T (fun _ => True) g := by
    intro l
    induction l with
    | nil => intro s h; cases h
    | cons x l ih =>
      intro s h
      cases s with
      | nil => cases h
      | cons g s =>
        have h : (match f == He.ga K x with | true => some (spIsD K T (fun _ => True) g) | false => ((l.map (He.ga K)).zip (s.map fun g => spIsD K T (fun _ => True) g)).lookup f) = some sp := h
        cases e : f == He.ga K x with
        | true =>
          rw [e] at h
          exact ⟨0, x, g, rfl, rfl, beq_iff_eq.mp e, (Option.some.inj h).symm⟩
        | false =>
          rw [e] at h
          obtain ⟨i, y, g2, a, b, c, d⟩ := ih s h
          exact ⟨i + 1, y, g2, a, b, c, d⟩
  exact inv _ _ h
def formNames : List (Str × List Str) := [("number", ["is_register", "is_number", "is_next"]), ("add", ["is_register", "is_register", "is_register", "is_next"]), ("sub", ["is_register", "is_register", "is_register", "is_next"]),
  ("less", ["is_register", "is_register", "is_next", "is_next"]), ("make", ["is_register", "is_high_name", "are_make_args", "is_next"]), ("match", ["is_register", "are_branches"]), ("call", ["is_register", "is_low_name", "are_call_args", "is_next"]), ("give", ["is_register"])]
def pFa (K : PySem.W.Frag) (z : Str) : Addr := match PySem.W.nsIn K (He.ga K "ROW_FORMS") z with
  | some (some (.ref a)) => a
  | _ => 0
def tupIs (K : PySem.W.Frag) (a : Addr) (vs : List Value) : Bool := match K.lookup a with
  | some ⟨.type c, _, .seq its _, _⟩ => decide (c = "tuple") && (decide (its.size ≤ 10) && decide (its.toList = vs))
  | _ => false
theorem tupIs_ok {a : Addr} {gs : List Addr} (h : tupIs K a (gs.map Value.ref) = true) (H : Hp) : SqT K H a (gs.map V.ref) := by
  unfold tupIs at h
  cases q : K.lookup a with
  | none => rw [q] at h; cases h
  | some o =>
    obtain ⟨oc, od, dt, sl⟩ := o
    rw [q] at h
    cases oc with
    | type c =>
      cases dt with
      | seq its n =>
        obtain ⟨h1, h2⟩ := He.ba (show (decide (c = "tuple") && (decide (its.size ≤ 10) && decide (its.toList = gs.map Value.ref))) = true from h)
        obtain ⟨h3, h4⟩ := He.ba h2
        have rel : ∀ l : List Addr, Vals (l.map V.ref) (l.map Value.ref) := fun l => by
          induction l with
          | nil => exact .nil
          | cons x r ih => exact .cons rfl ih
        exact .inr ⟨_, its, n, q, congrArg Value.type (of_decide_eq_true h1), rfl, Nat.le_trans (of_decide_eq_true h3) (by decide), by rw [of_decide_eq_true h4]; exact rel gs⟩
      | _ => cases h
    | _ => cases dt <;> cases h
def formB (K : PySem.W.Frag) : Bool := formNames.all fun q => He.eqO (PySem.W.nsIn K (He.ga K "ROW_FORMS") q.1) (some (some (.ref (pFa K q.1)))) && tupIs K (pFa K q.1) ((q.2.map (He.ga K)).map Value.ref)
theorem forms_of {T : List Addr} (dw : He.dicW K (He.ga K "ROW_FORMS") = some (He.keysIn w.params ["number", "add", "sub", "less", "make", "match", "call", "give"])) (fb : formB K = true) (nd : (names8.map (He.ga K)).Nodup) : Forms w K T (He.ga K "ROW_FORMS") (S8 K T) := by
  obtain ⟨es, n, D⟩ := He.dicW_ok dw
  refine ⟨⟨es, n, D, fun _ _ _ => ⟨D.at_, D.lit⟩⟩, fun z hz => nsIn_out dw fun m => ?_, fun z fs hz => ?_⟩
  · have all : (["number", "add", "sub", "less", "make", "match", "call", "give"] : List Str).all (fun z => (formOf z).isSome) = true := by decide +kernel
    have := List.all_eq_true.mp all z m
    rw [hz] at this
    cases this
  · have one : ∀ (q : Str × List Str), q ∈ formNames → PySem.W.nsIn K (He.ga K "ROW_FORMS") q.1 = some (some (.ref (pFa K q.1))) ∧ ∀ H, SqT K H (pFa K q.1) ((q.2.map (He.ga K)).map V.ref) := fun q hq => by
      obtain ⟨h1, h2⟩ := He.ba (List.all_eq_true.mp fb q hq)
      exact ⟨He.eqO_ok h1, tupIs_ok h2⟩
    have r0 := s8_at (T := T) nd (x := "is_register") (g := isRegister) 0 rfl rfl
    have r1 := s8_at (T := T) nd (x := "is_number") (g := isNumber) 1 rfl rfl
    have r2 := s8_at (T := T) nd (x := "is_next") (g := isNext) 2 rfl rfl
    have r3 := s8_at (T := T) nd (x := "is_high_name") (g := isHigh) 3 rfl rfl
    have r4 := s8_at (T := T) nd (x := "are_make_args") (g := isMakeArgs) 4 rfl rfl
    have r5 := s8_at (T := T) nd (x := "are_branches") (g := isBranches) 5 rfl rfl
    have r6 := s8_at (T := T) nd (x := "is_low_name") (g := isLow) 6 rfl rfl
    have r7 := s8_at (T := T) nd (x := "are_call_args") (g := isCallArgs) 7 rfl rfl
    unfold formOf at hz
    split at hz
    · subst z; cases hz
      obtain ⟨a, b⟩ := one ("number", _) (List.mem_cons_self ..)
      exact ⟨_, _, a, b, .cons r0 (.cons r1 (.cons r2 .nil))⟩
    split at hz
    · subst z; cases hz
      obtain ⟨a, b⟩ := one ("add", _) (.tail _ (List.mem_cons_self ..))
      exact ⟨_, _, a, b, .cons r0 (.cons r0 (.cons r0 (.cons r2 .nil)))⟩
    split at hz
    · subst z; cases hz
      obtain ⟨a, b⟩ := one ("sub", _) (.tail _ (.tail _ (List.mem_cons_self ..)))
      exact ⟨_, _, a, b, .cons r0 (.cons r0 (.cons r0 (.cons r2 .nil)))⟩
    split at hz
    · subst z; cases hz
      obtain ⟨a, b⟩ := one ("less", _) (.tail _ (.tail _ (.tail _ (List.mem_cons_self ..))))
      exact ⟨_, _, a, b, .cons r0 (.cons r0 (.cons r2 (.cons r2 .nil)))⟩
    split at hz
    · subst z; cases hz
      obtain ⟨a, b⟩ := one ("make", _) (.tail _ (.tail _ (.tail _ (.tail _ (List.mem_cons_self ..)))))
      exact ⟨_, _, a, b, .cons r0 (.cons r3 (.cons r4 (.cons r2 .nil)))⟩
    split at hz
    · subst z; cases hz
      obtain ⟨a, b⟩ := one ("match", _) (.tail _ (.tail _ (.tail _ (.tail _ (.tail _ (List.mem_cons_self ..))))))
      exact ⟨_, _, a, b, .cons r0 (.cons r5 .nil)⟩
    split at hz
    · subst z; cases hz
      obtain ⟨a, b⟩ := one ("call", _) (.tail _ (.tail _ (.tail _ (.tail _ (.tail _ (.tail _ (List.mem_cons_self ..)))))))
      exact ⟨_, _, a, b, .cons r0 (.cons r6 (.cons r7 (.cons r2 .nil)))⟩
    split at hz
    · subst z; cases hz
      obtain ⟨a, b⟩ := one ("give", _) (.tail _ (.tail _ (.tail _ (.tail _ (.tail _ (.tail _ (.tail _ (List.mem_cons_self ..))))))))
      exact ⟨_, _, a, b, .cons r0 .nil⟩
    · cases hz
def formNamesD : List (Str × List Str) := [("hold", ["is_register"]), ("drop", ["is_register"]), ("free", ["is_token", "is_size"])]
def pFaD (K : PySem.W.Frag) (z : Str) : Addr := match PySem.W.nsIn K (He.ga K "DEED_FORMS") z with
  | some (some (.ref a)) => a
  | _ => 0
def formBD (K : PySem.W.Frag) : Bool := formNamesD.all fun q => He.eqO (PySem.W.nsIn K (He.ga K "DEED_FORMS") q.1) (some (some (.ref (pFaD K q.1)))) && tupIs K (pFaD K q.1) ((q.2.map (He.ga K)).map Value.ref)
theorem formsD_of {T : List Addr} (dw : He.dicW K (He.ga K "DEED_FORMS") = some (He.keysIn w.params ["hold", "drop", "free"])) (fb : formBD K = true) (nd : (names8.map (He.ga K)).Nodup) : FormsD w K T (He.ga K "DEED_FORMS") (S8 K T) := by
  obtain ⟨es, n, D⟩ := He.dicW_ok dw
  refine ⟨⟨es, n, D, fun _ _ _ => ⟨D.at_, D.lit⟩⟩, fun z hz => nsIn_out dw fun m => ?_, fun z fs hz => ?_⟩
  · have all : (["hold", "drop", "free"] : List Str).all (fun z => (deedForm z).isSome) = true := by decide +kernel
    have := List.all_eq_true.mp all z m
    rw [hz] at this
    cases this
  · have one : ∀ (q : Str × List Str), q ∈ formNamesD → PySem.W.nsIn K (He.ga K "DEED_FORMS") q.1 = some (some (.ref (pFaD K q.1))) ∧ ∀ H, SqT K H (pFaD K q.1) ((q.2.map (He.ga K)).map V.ref) := fun q hq => by
      obtain ⟨h1, h2⟩ := He.ba (List.all_eq_true.mp fb q hq)
      exact ⟨He.eqO_ok h1, tupIs_ok h2⟩
    have r0 := s8_at (T := T) nd (x := "is_register") (g := isRegister) 0 rfl rfl
    have r8 := s8_at (T := T) nd (x := "is_token") (g := isToken) 8 rfl rfl
    have r9 := s8_at (T := T) nd (x := "is_size") (g := isSize) 9 rfl rfl
    unfold deedForm at hz
    split at hz
    · subst z; cases hz
      obtain ⟨a, b⟩ := one ("hold", _) (List.mem_cons_self ..)
      exact ⟨_, _, a, b, .cons r0 .nil⟩
    split at hz
    · subst z; cases hz
      obtain ⟨a, b⟩ := one ("drop", _) (.tail _ (List.mem_cons_self ..))
      exact ⟨_, _, a, b, .cons r0 .nil⟩
    split at hz
    · subst z; cases hz
      obtain ⟨a, b⟩ := one ("free", _) (.tail _ (.tail _ (List.mem_cons_self ..)))
      exact ⟨_, _, a, b, .cons r8 (.cons r9 .nil)⟩
    · cases hz
def tabNames : List Str := ["reads_as_cell", "is_name", "is_tuple_of", "is_kinds"]
def tabB (K : PySem.W.Frag) : Bool := tabNames.all fun x => decide (PySem.W.tabIn K x = some (He.cT K (x, none))) && (K.lookup (He.cT K (x, none)).2).isNone
end
end JF
set_option Elab.async false
set_option linter.all false
set_option maxRecDepth 100000
set_option maxHeartbeats 8000000
namespace JF
open PySem PySem.Spec PyProof.Rows L2 GxR GA
def fnL : List He.DefD := [dD "is_integer" sIsInteger, dD "is_number" sIsNumber, dD "is_register" sIsRegister, dD "is_next" sIsNext, dD "is_low_name" sLow, dD "is_high_name" sHigh,
  dD "is_field_word" sField, dD "is_pair" sPair, dD "are_fields" sFields, dD "is_maker" sMaker, dD "are_makers" sMakers, dD "is_kind" sKind,
  dD "are_make_args" sMakeArgs, dD "are_call_args" sCallArgs, dD "is_branch" sBranch, dD "are_branches" sBranches, dD "begins_with_word" sBegins, dD "has_parts" sParts,
  dD "is_row" sRow, dD "is_function" sFunction, dD "are_functions" sFunctions, dD "is_program" sProgram, dD "need_program" sNeed, dD "nexts" sNexts,
  dD "is_token" sToken, dD "is_size" sSize, dD "is_deed" sDeed, dD "are_deeds" sDeeds, dD "is_any_tuple" sAnyTup, dD "fits_row" sFitsR,
  dD "fits_function" sFitsF, dD "fits_program" sFitsP, dD "need_placing" sNeedPl, dD "joined" sJoined, dD "list_words" sListW, dD "registers_words" sRegsW,
  dD "token_words" sTokW, dD "deeds_words" sDeedsW, dD "head_words" sHeadW, dD "ends_words" sEndsW, dD "kind_words" sKindW, dD "function_words" sFunW,
  dD "write_text" sWrite, dD "_law_well" sWell, dD "_law_draw" sDraw, dD "_law_plain" sPlain, dD "_law_unlike" sUnl, dD "_law_any_kinds" sLKs,
  dD "_law_any_deeds" sAnyD, dD "_law_any_registers" sAnyR, dD "_law_any_row" sRowD, dD "_law_any" sAnyP, dD "_law_brackets" sBr, dD "_law_registers" sLRegs,
  dD "_law_deeds_text" sDTxt, dD "_law_next" sLNext, dD "_law_row_text" sRT, dD "_law_text" sLT, dD "law" sLaw, dD "reads_as_cell" sCell,
  dD "is_name" sName, dD "is_tuple_of" sTupleOf, dD "is_kinds" sKinds]
def faL : List He.Fa := [.glo "is_integer", .glo "is_number", .glo "is_register", .glo "is_next", .glo "is_low_name", .glo "is_high_name",
  .glo "is_field_word", .glo "is_pair", .glo "are_fields", .glo "is_maker", .glo "are_makers", .glo "is_kind",
  .glo "are_make_args", .glo "are_call_args", .glo "is_branch", .glo "are_branches", .glo "begins_with_word", .glo "has_parts",
  .glo "is_row", .glo "is_function", .glo "are_functions", .glo "is_program", .glo "need_program", .glo "nexts",
  .glo "is_token", .glo "is_size", .glo "is_deed", .glo "are_deeds", .glo "is_any_tuple", .glo "fits_row",
  .glo "fits_function", .glo "fits_program", .glo "need_placing", .glo "joined", .glo "list_words", .glo "registers_words",
  .glo "token_words", .glo "deeds_words", .glo "head_words", .glo "ends_words", .glo "kind_words", .glo "function_words",
  .glo "write_text", .glo "_law_well", .glo "_law_draw", .glo "_law_plain", .glo "_law_unlike", .glo "_law_any_kinds",
  .glo "_law_any_deeds", .glo "_law_any_registers", .glo "_law_any_row", .glo "_law_any", .glo "_law_brackets", .glo "_law_registers",
  .glo "_law_deeds_text", .glo "_law_next", .glo "_law_row_text", .glo "_law_text", .glo "law", .glo "reads_as_cell",
  .glo "is_name", .glo "is_tuple_of", .glo "is_kinds", .glo "BadProgram", .glo "BadPlacing", .glo "WORDS",
  .glo "ROW_FORMS", .glo "DEED_FORMS", .free "type", .free "int", .free "str", .free "tuple",
  .free "len", .free "all", .free "any", .free "zip", .free "set", .free "list",
  .free "range", .free "isinstance", .free "abs", .free "max", .int "GREATEST_NUMBER" 1000000000000, .int "REGISTERS" 32,
  .int "TOKENS" 16, .int "MOST_DEEDS" 60, .str "DIGITS" "0123456789", .str "NAME_SIGNS" "abcdefghijklmnopqrstuvwxyzABCDEFGHIJKLMNOPQRSTUVWXYZ0123456789", .str "SMALL_LETTERS" "abcdefghijklmnopqrstuvwxyz", .str "CAPITAL_LETTERS" "ABCDEFGHIJKLMNOPQRSTUVWXYZ",
  .exc "BadProgram", .exc "BadPlacing"]
def bits (K : PySem.W.Frag) : Bool := [tabB K, formB K, formBD K, decide ((names8.map (He.ga K)).Nodup), He.tupB K "WORDS" ((["case", "drop", "entry", "free", "fun", "give", "hold", "in", "into", "kind", "number"] : List Str).map He.Dv.str)].all id
theorem all5 {b1 b2 b3 b4 b5 : Bool} (h : [b1, b2, b3, b4, b5].all id = true) : b1 = true ∧ b2 = true ∧ b3 = true ∧ b4 = true ∧ b5 = true := by
  simp only [List.all_cons, List.all_nil, id_eq, Bool.and_true, Bool.and_eq_true] at h
  exact h
theorem errC_of {K : PySem.W.Frag} {mg : Str → Option Value} {h : Heap} (X : K.In h) (G : h.Ns mainGlobals mg) (S : He.SaysD faL fnL K) {x : Str} (i j : Nat) (hi : faL[i]? = some (.glo x)) (hj : faL[j]? = some (.exc x)) : ErrC K mg x (He.ga K x) := by
  obtain ⟨a, b, c, d⟩ := He.exc_ok (S.fact j hj)
  exact ⟨He.glo_ok X G (S.fact i hi), b, a, c, d⟩
theorem assemble {l : PySem.W.OpenLaw} {w : World} {K : PySem.W.Frag} {mg mb : Str → Option Value} {h : Heap} {q : Program} {loose : List Str} {mean : ExcName → Option Value} {a0 : Addr} (T0 : Top q loose mean mg mb h) (X : K.In h) (S : He.SaysD faL fnL K)
    (bt : bits K = true) (dw : He.dicW K (He.ga K "ROW_FORMS") = some (He.keysIn w.params ["number", "add", "sub", "less", "make", "match", "call", "give"])) (dwd : He.dicW K (He.ga K "DEED_FORMS") = some (He.keysIn w.params ["hold", "drop", "free"]))
    (rec : tabNames.all (fun x => ((recsOf q).find? fun e => e.name == x).isSome) = true) (hl : mg ("law" : Str) = some (.ref a0)) : EG.Kept l w K 24 63 "script" mg a0 h := by
  have G := T0.g
  obtain ⟨bT, bF, bFD, bN, bW⟩ := all5 bt
  obtain ⟨f_is_integer, D_is_integer⟩ := dn_of (x := "is_integer") (st := sIsInteger) X G S 0 0 rfl rfl
  obtain ⟨f_is_number, D_is_number⟩ := dn_of (x := "is_number") (st := sIsNumber) X G S 1 1 rfl rfl
  obtain ⟨f_is_register, D_is_register⟩ := dn_of (x := "is_register") (st := sIsRegister) X G S 2 2 rfl rfl
  obtain ⟨f_is_next, D_is_next⟩ := dn_of (x := "is_next") (st := sIsNext) X G S 3 3 rfl rfl
  obtain ⟨f_is_low_name, D_is_low_name⟩ := dn_of (x := "is_low_name") (st := sLow) X G S 4 4 rfl rfl
  obtain ⟨f_is_high_name, D_is_high_name⟩ := dn_of (x := "is_high_name") (st := sHigh) X G S 5 5 rfl rfl
  obtain ⟨f_is_field_word, D_is_field_word⟩ := dn_of (x := "is_field_word") (st := sField) X G S 6 6 rfl rfl
  obtain ⟨f_is_pair, D_is_pair⟩ := dn_of (x := "is_pair") (st := sPair) X G S 7 7 rfl rfl
  obtain ⟨f_are_fields, D_are_fields⟩ := dn_of (x := "are_fields") (st := sFields) X G S 8 8 rfl rfl
  obtain ⟨f_is_maker, D_is_maker⟩ := dn_of (x := "is_maker") (st := sMaker) X G S 9 9 rfl rfl
  obtain ⟨f_are_makers, D_are_makers⟩ := dn_of (x := "are_makers") (st := sMakers) X G S 10 10 rfl rfl
  obtain ⟨f_is_kind, D_is_kind⟩ := dn_of (x := "is_kind") (st := sKind) X G S 11 11 rfl rfl
  obtain ⟨f_are_make_args, D_are_make_args⟩ := dn_of (x := "are_make_args") (st := sMakeArgs) X G S 12 12 rfl rfl
  obtain ⟨f_are_call_args, D_are_call_args⟩ := dn_of (x := "are_call_args") (st := sCallArgs) X G S 13 13 rfl rfl
  obtain ⟨f_is_branch, D_is_branch⟩ := dn_of (x := "is_branch") (st := sBranch) X G S 14 14 rfl rfl
  obtain ⟨f_are_branches, D_are_branches⟩ := dn_of (x := "are_branches") (st := sBranches) X G S 15 15 rfl rfl
  obtain ⟨f_begins_with_word, D_begins_with_word⟩ := dn_of (x := "begins_with_word") (st := sBegins) X G S 16 16 rfl rfl
  obtain ⟨f_has_parts, D_has_parts⟩ := dn_of (x := "has_parts") (st := sParts) X G S 17 17 rfl rfl
  obtain ⟨f_is_row, D_is_row⟩ := dn_of (x := "is_row") (st := sRow) X G S 18 18 rfl rfl
  obtain ⟨f_is_function, D_is_function⟩ := dn_of (x := "is_function") (st := sFunction) X G S 19 19 rfl rfl
  obtain ⟨f_are_functions, D_are_functions⟩ := dn_of (x := "are_functions") (st := sFunctions) X G S 20 20 rfl rfl
  obtain ⟨f_is_program, D_is_program⟩ := dn_of (x := "is_program") (st := sProgram) X G S 21 21 rfl rfl
  obtain ⟨f_need_program, D_need_program⟩ := dn_of (x := "need_program") (st := sNeed) X G S 22 22 rfl rfl
  obtain ⟨f_nexts, D_nexts⟩ := dn_of (x := "nexts") (st := sNexts) X G S 23 23 rfl rfl
  obtain ⟨f_is_token, D_is_token⟩ := dn_of (x := "is_token") (st := sToken) X G S 24 24 rfl rfl
  obtain ⟨f_is_size, D_is_size⟩ := dn_of (x := "is_size") (st := sSize) X G S 25 25 rfl rfl
  obtain ⟨f_is_deed, D_is_deed⟩ := dn_of (x := "is_deed") (st := sDeed) X G S 26 26 rfl rfl
  obtain ⟨f_are_deeds, D_are_deeds⟩ := dn_of (x := "are_deeds") (st := sDeeds) X G S 27 27 rfl rfl
  obtain ⟨f_is_any_tuple, D_is_any_tuple⟩ := dn_of (x := "is_any_tuple") (st := sAnyTup) X G S 28 28 rfl rfl
  obtain ⟨f_fits_row, D_fits_row⟩ := dn_of (x := "fits_row") (st := sFitsR) X G S 29 29 rfl rfl
  obtain ⟨f_fits_function, D_fits_function⟩ := dn_of (x := "fits_function") (st := sFitsF) X G S 30 30 rfl rfl
  obtain ⟨f_fits_program, D_fits_program⟩ := dn_of (x := "fits_program") (st := sFitsP) X G S 31 31 rfl rfl
  obtain ⟨f_need_placing, D_need_placing⟩ := dn_of (x := "need_placing") (st := sNeedPl) X G S 32 32 rfl rfl
  obtain ⟨f_joined, D_joined⟩ := dn_of (x := "joined") (st := sJoined) X G S 33 33 rfl rfl
  obtain ⟨f_list_words, D_list_words⟩ := dn_of (x := "list_words") (st := sListW) X G S 34 34 rfl rfl
  obtain ⟨f_registers_words, D_registers_words⟩ := dn_of (x := "registers_words") (st := sRegsW) X G S 35 35 rfl rfl
  obtain ⟨f_token_words, D_token_words⟩ := dn_of (x := "token_words") (st := sTokW) X G S 36 36 rfl rfl
  obtain ⟨f_deeds_words, D_deeds_words⟩ := dn_of (x := "deeds_words") (st := sDeedsW) X G S 37 37 rfl rfl
  obtain ⟨f_head_words, D_head_words⟩ := dn_of (x := "head_words") (st := sHeadW) X G S 38 38 rfl rfl
  obtain ⟨f_ends_words, D_ends_words⟩ := dn_of (x := "ends_words") (st := sEndsW) X G S 39 39 rfl rfl
  obtain ⟨f_kind_words, D_kind_words⟩ := dn_of (x := "kind_words") (st := sKindW) X G S 40 40 rfl rfl
  obtain ⟨f_function_words, D_function_words⟩ := dn_of (x := "function_words") (st := sFunW) X G S 41 41 rfl rfl
  obtain ⟨f_write_text, D_write_text⟩ := dn_of (x := "write_text") (st := sWrite) X G S 42 42 rfl rfl
  obtain ⟨f__law_well, D__law_well⟩ := dn_of (x := "_law_well") (st := sWell) X G S 43 43 rfl rfl
  obtain ⟨f__law_draw, D__law_draw⟩ := dn_of (x := "_law_draw") (st := sDraw) X G S 44 44 rfl rfl
  obtain ⟨f__law_plain, D__law_plain⟩ := dn_of (x := "_law_plain") (st := sPlain) X G S 45 45 rfl rfl
  obtain ⟨f__law_unlike, D__law_unlike⟩ := dn_of (x := "_law_unlike") (st := sUnl) X G S 46 46 rfl rfl
  obtain ⟨f__law_any_kinds, D__law_any_kinds⟩ := dn_of (x := "_law_any_kinds") (st := sLKs) X G S 47 47 rfl rfl
  obtain ⟨f__law_any_deeds, D__law_any_deeds⟩ := dn_of (x := "_law_any_deeds") (st := sAnyD) X G S 48 48 rfl rfl
  obtain ⟨f__law_any_registers, D__law_any_registers⟩ := dn_of (x := "_law_any_registers") (st := sAnyR) X G S 49 49 rfl rfl
  obtain ⟨f__law_any_row, D__law_any_row⟩ := dn_of (x := "_law_any_row") (st := sRowD) X G S 50 50 rfl rfl
  obtain ⟨f__law_any, D__law_any⟩ := dn_of (x := "_law_any") (st := sAnyP) X G S 51 51 rfl rfl
  obtain ⟨f__law_brackets, D__law_brackets⟩ := dn_of (x := "_law_brackets") (st := sBr) X G S 52 52 rfl rfl
  obtain ⟨f__law_registers, D__law_registers⟩ := dn_of (x := "_law_registers") (st := sLRegs) X G S 53 53 rfl rfl
  obtain ⟨f__law_deeds_text, D__law_deeds_text⟩ := dn_of (x := "_law_deeds_text") (st := sDTxt) X G S 54 54 rfl rfl
  obtain ⟨f__law_next, D__law_next⟩ := dn_of (x := "_law_next") (st := sLNext) X G S 55 55 rfl rfl
  obtain ⟨f__law_row_text, D__law_row_text⟩ := dn_of (x := "_law_row_text") (st := sRT) X G S 56 56 rfl rfl
  obtain ⟨f__law_text, D__law_text⟩ := dn_of (x := "_law_text") (st := sLT) X G S 57 57 rfl rfl
  obtain ⟨f_law, D_law⟩ := dn_of (x := "law") (st := sLaw) X G S 58 58 rfl rfl
  obtain ⟨f_reads_as_cell, D_reads_as_cell⟩ := dc_of (x := "reads_as_cell") (st := sCell) X G S 59 59 rfl rfl
  obtain ⟨f_is_name, D_is_name⟩ := dc_of (x := "is_name") (st := sName) X G S 60 60 rfl rfl
  obtain ⟨f_is_tuple_of, D_is_tuple_of⟩ := dc_of (x := "is_tuple_of") (st := sTupleOf) X G S 61 61 rfl rfl
  obtain ⟨f_is_kinds, D_is_kinds⟩ := dc_of (x := "is_kinds") (st := sKinds) X G S 62 62 rfl rfl
  have b_is_integer := D_is_integer.F.binds (ps := ["thing", "low", "high"]) fun _ _ _ _ _ _ us hu => match us, hu with | [_, _, _], _ => rfl
  have b_is_number := D_is_number.F.binds (ps := ["thing"]) fun _ _ _ _ _ _ us hu => match us, hu with | [_], _ => rfl
  have b_is_register := D_is_register.F.binds (ps := ["thing"]) fun _ _ _ _ _ _ us hu => match us, hu with | [_], _ => rfl
  have b_is_next := D_is_next.F.binds (ps := ["thing"]) fun _ _ _ _ _ _ us hu => match us, hu with | [_], _ => rfl
  have b_is_low_name := D_is_low_name.F.binds (ps := ["thing"]) fun _ _ _ _ _ _ us hu => match us, hu with | [_], _ => rfl
  have b_is_high_name := D_is_high_name.F.binds (ps := ["thing"]) fun _ _ _ _ _ _ us hu => match us, hu with | [_], _ => rfl
  have b_is_field_word := D_is_field_word.F.binds (ps := ["thing"]) fun _ _ _ _ _ _ us hu => match us, hu with | [_], _ => rfl
  have b_is_pair := D_is_pair.F.binds (ps := ["thing", "fits_first", "fits_second"]) fun _ _ _ _ _ _ us hu => match us, hu with | [_, _, _], _ => rfl
  have b_are_fields := D_are_fields.F.binds (ps := ["thing"]) fun _ _ _ _ _ _ us hu => match us, hu with | [_], _ => rfl
  have b_is_maker := D_is_maker.F.binds (ps := ["thing"]) fun _ _ _ _ _ _ us hu => match us, hu with | [_], _ => rfl
  have b_are_makers := D_are_makers.F.binds (ps := ["thing"]) fun _ _ _ _ _ _ us hu => match us, hu with | [_], _ => rfl
  have b_is_kind := D_is_kind.F.binds (ps := ["thing"]) fun _ _ _ _ _ _ us hu => match us, hu with | [_], _ => rfl
  have b_are_make_args := D_are_make_args.F.binds (ps := ["thing"]) fun _ _ _ _ _ _ us hu => match us, hu with | [_], _ => rfl
  have b_are_call_args := D_are_call_args.F.binds (ps := ["thing"]) fun _ _ _ _ _ _ us hu => match us, hu with | [_], _ => rfl
  have b_is_branch := D_is_branch.F.binds (ps := ["thing"]) fun _ _ _ _ _ _ us hu => match us, hu with | [_], _ => rfl
  have b_are_branches := D_are_branches.F.binds (ps := ["thing"]) fun _ _ _ _ _ _ us hu => match us, hu with | [_], _ => rfl
  have b_begins_with_word := D_begins_with_word.F.binds (ps := ["thing"]) fun _ _ _ _ _ _ us hu => match us, hu with | [_], _ => rfl
  have b_has_parts := D_has_parts.F.binds (ps := ["thing", "form"]) fun _ _ _ _ _ _ us hu => match us, hu with | [_, _], _ => rfl
  have b_is_row := D_is_row.F.binds (ps := ["thing"]) fun _ _ _ _ _ _ us hu => match us, hu with | [_], _ => rfl
  have b_is_function := D_is_function.F.binds (ps := ["thing"]) fun _ _ _ _ _ _ us hu => match us, hu with | [_], _ => rfl
  have b_are_functions := D_are_functions.F.binds (ps := ["thing"]) fun _ _ _ _ _ _ us hu => match us, hu with | [_], _ => rfl
  have b_is_program := D_is_program.F.binds (ps := ["thing"]) fun _ _ _ _ _ _ us hu => match us, hu with | [_], _ => rfl
  have b_need_program := D_need_program.F.binds (ps := ["program"]) fun _ _ _ _ _ _ us hu => match us, hu with | [_], _ => rfl
  have b_nexts := D_nexts.F.binds (ps := ["row"]) fun _ _ _ _ _ _ us hu => match us, hu with | [_], _ => rfl
  have b_is_token := D_is_token.F.binds (ps := ["thing"]) fun _ _ _ _ _ _ us hu => match us, hu with | [_], _ => rfl
  have b_is_size := D_is_size.F.binds (ps := ["thing"]) fun _ _ _ _ _ _ us hu => match us, hu with | [_], _ => rfl
  have b_is_deed := D_is_deed.F.binds (ps := ["thing"]) fun _ _ _ _ _ _ us hu => match us, hu with | [_], _ => rfl
  have b_are_deeds := D_are_deeds.F.binds (ps := ["thing"]) fun _ _ _ _ _ _ us hu => match us, hu with | [_], _ => rfl
  have b_is_any_tuple := D_is_any_tuple.F.binds (ps := ["thing"]) fun _ _ _ _ _ _ us hu => match us, hu with | [_], _ => rfl
  have b_fits_row := D_fits_row.F.binds (ps := ["row", "thing"]) fun _ _ _ _ _ _ us hu => match us, hu with | [_, _], _ => rfl
  have b_fits_function := D_fits_function.F.binds (ps := ["function", "thing"]) fun _ _ _ _ _ _ us hu => match us, hu with | [_, _], _ => rfl
  have b_fits_program := D_fits_program.F.binds (ps := ["program", "thing"]) fun _ _ _ _ _ _ us hu => match us, hu with | [_, _], _ => rfl
  have b_need_placing := D_need_placing.F.binds (ps := ["program", "placing"]) fun _ _ _ _ _ _ us hu => match us, hu with | [_, _], _ => rfl
  have b_joined := D_joined.F.binds (ps := ["parts"]) fun _ _ _ _ _ _ us hu => match us, hu with | [_], _ => rfl
  have b_list_words := D_list_words.F.binds (ps := ["entries"]) fun _ _ _ _ _ _ us hu => match us, hu with | [_], _ => rfl
  have b_registers_words := D_registers_words.F.binds (ps := ["setting"]) fun _ _ _ _ _ _ us hu => match us, hu with | [_], _ => rfl
  have b_token_words := D_token_words.F.binds (ps := ["word", "token"]) fun _ _ _ _ _ _ us hu => match us, hu with | [_, _], _ => rfl
  have b_deeds_words := D_deeds_words.F.binds (ps := ["deeds"]) fun _ _ _ _ _ _ us hu => match us, hu with | [_], _ => rfl
  have b_head_words := D_head_words.F.binds (ps := ["row", "token"]) fun _ _ _ _ _ _ us hu => match us, hu with | [_, _], _ => rfl
  have b_ends_words := D_ends_words.F.binds (ps := ["row", "edges"]) fun _ _ _ _ _ _ us hu => match us, hu with | [_, _], _ => rfl
  have b_kind_words := D_kind_words.F.binds (ps := ["kind"]) fun _ _ _ _ _ _ us hu => match us, hu with | [_], _ => rfl
  have b_function_words := D_function_words.F.binds (ps := ["function", "part"]) fun _ _ _ _ _ _ us hu => match us, hu with | [_, _], _ => rfl
  have b_write_text := D_write_text.F.binds (ps := ["program", "placing"]) fun _ _ _ _ _ _ us hu => match us, hu with | [_, _], _ => rfl
  have b__law_well := D__law_well.F.binds (ps := ["script", "at"]) fun _ _ _ _ _ _ us hu => match us, hu with | [_, _], _ => rfl
  have b__law_draw := D__law_draw.F.binds (ps := ["well", "many"]) fun _ _ _ _ _ _ us hu => match us, hu with | [_, _], _ => rfl
  have b__law_plain := D__law_plain.F.binds (ps := ["well", "letters"]) fun _ _ _ _ _ _ us hu => match us, hu with | [_, _], _ => rfl
  have b__law_unlike := D__law_unlike.F.binds (ps := ["well", "used"]) fun _ _ _ _ _ _ us hu => match us, hu with | [_, _], _ => rfl
  have b__law_any_kinds := D__law_any_kinds.F.binds (ps := ["well"]) fun _ _ _ _ _ _ us hu => match us, hu with | [_], _ => rfl
  have b__law_any_deeds := D__law_any_deeds.F.binds (ps := ["well", "may_be_long"]) fun _ _ _ _ _ _ us hu => match us, hu with | [_, _], _ => rfl
  have b__law_any_registers := D__law_any_registers.F.binds (ps := ["well", "most"]) fun _ _ _ _ _ _ us hu => match us, hu with | [_, _], _ => rfl
  have b__law_any_row := D__law_any_row.F.binds (ps := ["well"]) fun _ _ _ _ _ _ us hu => match us, hu with | [_], _ => rfl
  have b__law_any := D__law_any.F.binds (ps := ["well"]) fun _ _ _ _ _ _ us hu => match us, hu with | [_], _ => rfl
  have b__law_brackets := D__law_brackets.F.binds (ps := ["lot"]) fun _ _ _ _ _ _ us hu => match us, hu with | [_], _ => rfl
  have b__law_registers := D__law_registers.F.binds (ps := ["lot"]) fun _ _ _ _ _ _ us hu => match us, hu with | [_], _ => rfl
  have b__law_deeds_text := D__law_deeds_text.F.binds (ps := ["deeds"]) fun _ _ _ _ _ _ us hu => match us, hu with | [_], _ => rfl
  have b__law_next := D__law_next.F.binds (ps := ["following", "deeds"]) fun _ _ _ _ _ _ us hu => match us, hu with | [_, _], _ => rfl
  have b__law_row_text := D__law_row_text.F.binds (ps := ["row", "place"]) fun _ _ _ _ _ _ us hu => match us, hu with | [_, _], _ => rfl
  have b__law_text := D__law_text.F.binds (ps := ["program", "placing"]) fun _ _ _ _ _ _ us hu => match us, hu with | [_, _], _ => rfl
  have b_law := D_law.F.binds (ps := ["script"]) fun _ _ _ _ _ _ us hu => match us, hu with | [_], _ => rfl
  have b_reads_as_cell := D_reads_as_cell.F.binds (ps := ["name"]) fun _ _ _ _ _ us hu => match us, hu with | [_], _ => rfl
  have b_is_name := D_is_name.F.binds (ps := ["thing", "first_signs"]) fun _ _ _ _ _ us hu => match us, hu with | [_, _], _ => rfl
  have b_is_tuple_of := D_is_tuple_of.F.binds (ps := ["thing", "least", "most", "fits"]) fun _ _ _ _ _ us hu => match us, hu with | [_, _, _, _], _ => rfl
  have b_is_kinds := D_is_kinds.F.binds (ps := ["thing"]) fun _ _ _ _ _ us hu => match us, hu with | [_], _ => rfl
  have z_type : mg ("type" : Str) = none := He.free_ok X G (x := "type") (S.fact 68 rfl)
  have z_int : mg ("int" : Str) = none := He.free_ok X G (x := "int") (S.fact 69 rfl)
  have z_str : mg ("str" : Str) = none := He.free_ok X G (x := "str") (S.fact 70 rfl)
  have z_tuple : mg ("tuple" : Str) = none := He.free_ok X G (x := "tuple") (S.fact 71 rfl)
  have z_len : mg ("len" : Str) = none := He.free_ok X G (x := "len") (S.fact 72 rfl)
  have z_all : mg ("all" : Str) = none := He.free_ok X G (x := "all") (S.fact 73 rfl)
  have z_any : mg ("any" : Str) = none := He.free_ok X G (x := "any") (S.fact 74 rfl)
  have z_zip : mg ("zip" : Str) = none := He.free_ok X G (x := "zip") (S.fact 75 rfl)
  have z_set : mg ("set" : Str) = none := He.free_ok X G (x := "set") (S.fact 76 rfl)
  have z_list : mg ("list" : Str) = none := He.free_ok X G (x := "list") (S.fact 77 rfl)
  have z_range : mg ("range" : Str) = none := He.free_ok X G (x := "range") (S.fact 78 rfl)
  have z_isinstance : mg ("isinstance" : Str) = none := He.free_ok X G (x := "isinstance") (S.fact 79 rfl)
  have z_abs : mg ("abs" : Str) = none := He.free_ok X G (x := "abs") (S.fact 80 rfl)
  have z_max : mg ("max" : Str) = none := He.free_ok X G (x := "max") (S.fact 81 rfl)
  have B : BI mg := ⟨z_type, z_int, z_str, z_tuple, z_len, z_all, z_any⟩
  obtain ⟨t_GREATEST_NUMBER, c_GREATEST_NUMBER⟩ := He.int_ok X G (x := "GREATEST_NUMBER") (S.fact 82 rfl)
  obtain ⟨t_REGISTERS, c_REGISTERS⟩ := He.int_ok X G (x := "REGISTERS") (S.fact 83 rfl)
  obtain ⟨t_TOKENS, c_TOKENS⟩ := He.int_ok X G (x := "TOKENS") (S.fact 84 rfl)
  obtain ⟨t_MOST_DEEDS, c_MOST_DEEDS⟩ := He.int_ok X G (x := "MOST_DEEDS") (S.fact 85 rfl)
  obtain ⟨t_DIGITS, c_DIGITS⟩ := He.str_ok X G (x := "DIGITS") (S.fact 86 rfl)
  obtain ⟨t_NAME_SIGNS, c_NAME_SIGNS⟩ := He.str_ok X G (x := "NAME_SIGNS") (S.fact 87 rfl)
  obtain ⟨t_SMALL_LETTERS, c_SMALL_LETTERS⟩ := He.str_ok X G (x := "SMALL_LETTERS") (S.fact 88 rfl)
  obtain ⟨t_CAPITAL_LETTERS, c_CAPITAL_LETTERS⟩ := He.str_ok X G (x := "CAPITAL_LETTERS") (S.fact 89 rfl)
  have E_BadProgram : ErrC K mg "BadProgram" (He.ga K "BadProgram") := errC_of X G S 63 90 rfl rfl
  have E_BadPlacing : ErrC K mg "BadPlacing" (He.ga K "BadPlacing") := errC_of X G S 64 91 rfl rfl
  have g_WORDS : mg ("WORDS" : Str) = some (.ref (He.ga K "WORDS")) := He.glo_ok X G (S.fact 65 rfl)
  have g_ROW_FORMS : mg ("ROW_FORMS" : Str) = some (.ref (He.ga K "ROW_FORMS")) := He.glo_ok X G (S.fact 66 rfl)
  have g_DEED_FORMS : mg ("DEED_FORMS" : Str) = some (.ref (He.ga K "DEED_FORMS")) := He.glo_ok X G (S.fact 67 rfl)
  have kb1 : CK.KB0 K f_write_text ["program", "placing"] ["placing", "program"] 2 (@rev2) := by
    obtain ⟨oc, od, kV, doc, pm, an, cd, ct, sl, e, _⟩ := D_write_text.F.ex
    refine ⟨fun s ws _ hw => ?_, fun r => r.reverse, fun _ => List.length_reverse, rfl⟩
    match ws, hw with
    | [a, b], _ =>
      rw [e]
      exact .of_eq rfl
  have kb2 : CK.KB0 K f_write_text ["program", "placing"] ["program", "placing"] 2 (@idL) := by
    obtain ⟨oc, od, kV, doc, pm, an, cd, ct, sl, e, _⟩ := D_write_text.F.ex
    refine ⟨fun s ws _ hw => ?_, fun r => r, fun _ => rfl, rfl⟩
    match ws, hw with
    | [a, b], _ =>
      rw [e]
      exact .of_eq rfl
  have tabs : ∀ x ∈ tabNames, PySem.W.CodeHd h (He.cT K (x, none)).1 (He.cT K (x, none)).2 ∧ h.get? (He.cT K (x, none)).2 = some { cls := .none, data := .fields #[] } ∧ K.lookup (He.cT K (x, none)).2 = none := fun x hx => by
    obtain ⟨a, b⟩ := He.ba (List.all_eq_true.mp bT x hx)
    obtain ⟨d, hd⟩ := Option.isSome_iff_exists.mp (List.all_eq_true.mp rec x hx)
    obtain ⟨u, v⟩ := PySem.W.tab_of (x := x) T0 X hd (of_decide_eq_true a)
    exact ⟨u, v, Option.isNone_iff_eq_none.mp b⟩
  have lawA : He.ga K "law" = a0 := by
    have := D_law.m.symm.trans hl
    injection this with this
    injection this
  subst lawA
  have bl : ∀ (s : Shared) (v : Value), BindsTo s f_law ⟨[v], []⟩ [("script", v)] := by
    obtain ⟨oc, od, kV, doc, pm, an, cd, ct, sl, e, _⟩ := D_law.F.ex
    intro s v
    rw [e]
    exact .of_eq rfl
  refine ⟨f_law, tabNames.map fun x => He.cT K (x, none), spLaw K ((tabNames.map fun x => He.cT K (x, none)).map Prod.snd), ⟨fun c hc => ?_, fun c hc => ?_, fun c hc => ?_⟩, bl, fun H a ns hn hH hS => ⟨a, ns, rfl, hS, hn, fun P hP => ?_, fun _ => rfl⟩, fun base KB GB TB => ?_⟩
  · obtain ⟨x, hx, rfl⟩ := List.mem_map.mp hc
    exact (tabs x hx).2.1
  · obtain ⟨x, hx, rfl⟩ := List.mem_map.mp hc
    exact (tabs x hx).2.2
  · obtain ⟨x, hx, rfl⟩ := List.mem_map.mp hc
    exact (tabs x hx).1
  · obtain ⟨c, hc, rfl⟩ := List.mem_map.mp hP
    exact ⟨#[], hH c hc, by simp [TriplesOk]⟩
  · generalize hT : (tabNames.map fun x => He.cT K (x, none)).map Prod.snd = T
    have inT : ∀ x ∈ tabNames, (He.cT K (x, none)).2 ∈ T := fun x hx => by
      rw [← hT]
      exact List.mem_map_of_mem (List.mem_map_of_mem (f := fun x => He.cT K (x, none)) hx)
    have tb : ∀ x ∈ tabNames, GxR.TabB base mg (He.codeOf K (x, none)) (He.cT K (x, none)).2 := fun x hx => TB _ (List.mem_map_of_mem (f := fun x => He.cT K (x, none)) hx)
    have m0 : ("reads_as_cell" : Str) ∈ tabNames := List.mem_cons_self ..
    have m1 : ("is_name" : Str) ∈ tabNames := .tail _ (List.mem_cons_self ..)
    have m2 : ("is_tuple_of" : Str) ∈ tabNames := .tail _ (.tail _ (List.mem_cons_self ..))
    have m3 : ("is_kinds" : Str) ∈ tabNames := .tail _ (.tail _ (.tail _ (List.mem_cons_self ..)))
    have hW : ∀ H, SqT K H (He.ga K "WORDS") wordsV := fun H => He.tupB_ok bW H
    have q_int := ok_integer (P := l.prog) (w := w) (base := base) (mg := mg) D_is_integer.F B
    have q_num := ok_number (P := l.prog) (w := w) (base := base) (mg := mg) (T := T) D_is_number.F q_int D_is_integer.m D_is_integer.k b_is_integer c_GREATEST_NUMBER
    have q_reg := ok_register (P := l.prog) (w := w) (base := base) (mg := mg) (T := T) D_is_register.F q_int D_is_integer.m D_is_integer.k b_is_integer c_REGISTERS
    have q_next := ok_next (P := l.prog) (w := w) (base := base) (mg := mg) (T := T) D_is_next.F q_int D_is_integer.m D_is_integer.k b_is_integer
    have q_tok := ok_token (P := l.prog) (w := w) (base := base) (mg := mg) (T := T) D_is_token.F q_int D_is_integer.m D_is_integer.k b_is_integer c_TOKENS
    have q_size := ok_size (P := l.prog) (w := w) (base := base) (mg := mg) (T := T) D_is_size.F q_int D_is_integer.m D_is_integer.k b_is_integer
    have q_cell := ok_cell (P := l.prog) (w := w) (base := base) (mg := mg) (T := T) D_reads_as_cell.F B (tb _ m0) (inT _ m0) c_DIGITS
    have q_name := ok_name (P := l.prog) (w := w) (base := base) (mg := mg) (T := T) D_is_name.F B (tb _ m1) (inT _ m1) c_NAME_SIGNS g_WORDS hW q_cell D_reads_as_cell.m D_reads_as_cell.F.kp b_reads_as_cell
    have q_low := ok_low (P := l.prog) (w := w) (base := base) (mg := mg) (T := T) D_is_low_name.F q_name D_is_name.m D_is_name.F.kp b_is_name c_SMALL_LETTERS
    have q_high := ok_high (P := l.prog) (w := w) (base := base) (mg := mg) (T := T) D_is_high_name.F q_name D_is_name.m D_is_name.F.kp b_is_name c_CAPITAL_LETTERS
    have q_field := ok_field (P := l.prog) (w := w) (base := base) (mg := mg) (T := T) D_is_field_word.F B q_high D_is_high_name.m D_is_high_name.k b_is_high_name
    have q_tup := fun k => ok_tuple_of (P := l.prog) (w := w) (base := base) (mg := mg) (T := T) k D_is_tuple_of.F B (tb _ m2) (inT _ m2)
    have q_pair := fun k => ok_pair (P := l.prog) (w := w) (base := base) (mg := mg) (T := T) k D_is_pair.F B
    have q_fields := ok_fields (P := l.prog) (w := w) (base := base) (mg := mg) (T := T) D_are_fields.F (q_tup 6) D_is_tuple_of.m D_is_tuple_of.F.kp b_is_tuple_of D_is_field_word.m (IsDef.of (k := 6) (f := isField) q_field (by decide) D_is_field_word.k b_is_field_word)
    have q_maker := ok_maker (P := l.prog) (w := w) (base := base) (mg := mg) (T := T) D_is_maker.F (q_pair 9) D_is_pair.m D_is_pair.k b_is_pair D_is_high_name.m (IsDef.of (k := 9) (f := isHigh) q_high (by decide) D_is_high_name.k b_is_high_name) D_are_fields.m (IsDef.of (k := 9) (f := isFields) q_fields (by decide) D_are_fields.k b_are_fields)
    have q_makers := ok_makers (P := l.prog) (w := w) (base := base) (mg := mg) (T := T) D_are_makers.F (q_tup 11) D_is_tuple_of.m D_is_tuple_of.F.kp b_is_tuple_of D_is_maker.m (IsDef.of (k := 11) (f := isMaker) q_maker (by decide) D_is_maker.k b_is_maker)
    have q_kind := ok_kind (P := l.prog) (w := w) (base := base) (mg := mg) (T := T) D_is_kind.F (q_pair 14) D_is_pair.m D_is_pair.k b_is_pair D_is_high_name.m (IsDef.of (k := 14) (f := isHigh) q_high (by decide) D_is_high_name.k b_is_high_name) D_are_makers.m (IsDef.of (k := 14) (f := isMakers) q_makers (by decide) D_are_makers.k b_are_makers)
    have q_kinds := ok_kinds (P := l.prog) (w := w) (base := base) (mg := mg) (T := T) D_is_kinds.F B z_set (tb _ m3) (inT _ m3) (q_tup 16) D_is_tuple_of.m D_is_tuple_of.F.kp b_is_tuple_of D_is_kind.m (IsDef.of (k := 16) (f := isKind) q_kind (by decide) D_is_kind.k b_is_kind)
    have q_margs := ok_make_args (P := l.prog) (w := w) (base := base) (mg := mg) (T := T) D_are_make_args.F (q_tup 2) D_is_tuple_of.m D_is_tuple_of.F.kp b_is_tuple_of D_is_register.m (IsDef.of (k := 2) (f := isRegister) q_reg (by decide) D_is_register.k b_is_register)
    have q_cargs := ok_call_args (P := l.prog) (w := w) (base := base) (mg := mg) (T := T) D_are_call_args.F (q_tup 2) D_is_tuple_of.m D_is_tuple_of.F.kp b_is_tuple_of D_is_register.m (IsDef.of (k := 2) (f := isRegister) q_reg (by decide) D_is_register.k b_is_register)
    have q_branch := ok_branch (P := l.prog) (w := w) (base := base) (mg := mg) (T := T) D_is_branch.F (q_pair 5) D_is_pair.m D_is_pair.k b_is_pair D_are_make_args.m (IsDef.of (k := 5) (f := isMakeArgs) q_margs (by decide) D_are_make_args.k b_are_make_args) D_is_next.m (IsDef.of (k := 5) (f := isNext) q_next (by decide) D_is_next.k b_is_next)
    have q_branches := ok_branches (P := l.prog) (w := w) (base := base) (mg := mg) (T := T) D_are_branches.F (q_tup 7) D_is_tuple_of.m D_is_tuple_of.F.kp b_is_tuple_of D_is_branch.m (IsDef.of (k := 7) (f := isBranch) q_branch (by decide) D_is_branch.k b_is_branch)
    have q_begins := ok_begins (P := l.prog) (w := w) (base := base) (mg := mg) (T := T) D_begins_with_word.F B
    have nd8 := of_decide_eq_true bN
    have A8 : ∀ f sp, S8 K T f = some sp → Held l.prog w K mg base 10 f sp := fun f sp hs => by
      obtain ⟨i, x, g, h1, h2, rfl, rfl⟩ := s8_inv hs
      match i, h1, h2 with
      | 0, h1, h2 => cases h1; cases h2; exact ⟨_, _, (spIs_D (q_reg.mono (by decide))), D_is_register.k, b_is_register⟩
      | 1, h1, h2 => cases h1; cases h2; exact ⟨_, _, (spIs_D (q_num.mono (by decide))), D_is_number.k, b_is_number⟩
      | 2, h1, h2 => cases h1; cases h2; exact ⟨_, _, (spIs_D (q_next.mono (by decide))), D_is_next.k, b_is_next⟩
      | 3, h1, h2 => cases h1; cases h2; exact ⟨_, _, (spIs_D (q_high.mono (by decide))), D_is_high_name.k, b_is_high_name⟩
      | 4, h1, h2 => cases h1; cases h2; exact ⟨_, _, (spIs_D (q_margs.mono (by decide))), D_are_make_args.k, b_are_make_args⟩
      | 5, h1, h2 => cases h1; cases h2; exact ⟨_, _, (spIs_D (q_branches.mono (by decide))), D_are_branches.k, b_are_branches⟩
      | 6, h1, h2 => cases h1; cases h2; exact ⟨_, _, (spIs_D (q_low.mono (by decide))), D_is_low_name.k, b_is_low_name⟩
      | 7, h1, h2 => cases h1; cases h2; exact ⟨_, _, (spIs_D (q_cargs.mono (by decide))), D_are_call_args.k, b_are_call_args⟩
      | 8, h1, h2 => cases h1; cases h2; exact ⟨_, _, (spIs_D (q_tok.mono (by decide))), D_is_token.k, b_is_token⟩
      | 9, h1, h2 => cases h1; cases h2; exact ⟨_, _, (spIs_D (q_size.mono (by decide))), D_is_size.k, b_is_size⟩
      | i + 10, h1, _ => exact absurd h1 (by simp [names8])
    have q_parts := ok_parts (P := l.prog) (w := w) (base := base) (mg := mg) (T := T) (S := S8 K T) D_has_parts.F B z_zip A8
    have q_row := ok_row (P := l.prog) (w := w) (base := base) (mg := mg) (T := T) (S := S8 K T) D_is_row.F g_ROW_FORMS (forms_of (w := w) (T := T) dw bF nd8) (q_begins.mono (by decide)) D_begins_with_word.m D_begins_with_word.k b_begins_with_word q_parts D_has_parts.m D_has_parts.k b_has_parts
    have q_deed := ok_deed (P := l.prog) (w := w) (base := base) (mg := mg) (T := T) (S := S8 K T) D_is_deed.F g_DEED_FORMS (formsD_of (w := w) (T := T) dwd bFD nd8) (q_begins.mono (by decide)) D_begins_with_word.m D_begins_with_word.k b_begins_with_word q_parts D_has_parts.m D_has_parts.k b_has_parts
    have q_deeds := ok_deeds (P := l.prog) (w := w) (base := base) (mg := mg) (T := T) D_are_deeds.F (q_tup 12) D_is_tuple_of.m D_is_tuple_of.F.kp b_is_tuple_of c_MOST_DEEDS D_is_deed.m (IsDef.of (k := 12) (f := isDeed) q_deed (by decide) D_is_deed.k b_is_deed)
    have q_function := ok_function (P := l.prog) (w := w) (base := base) (mg := mg) (T := T) D_is_function.F B (q_low.mono (by decide)) D_is_low_name.m D_is_low_name.k b_is_low_name (q_field.mono (by decide)) D_is_field_word.m D_is_field_word.k b_is_field_word (IsDef.of (k := 6) (f := isField) q_field (by decide) D_is_field_word.k b_is_field_word) D_is_row.m (IsDef.of (k := 12) (f := isRow) q_row (by decide) D_is_row.k b_is_row) ((q_tup 6).mono (by decide)) (q_tup 12) D_is_tuple_of.m D_is_tuple_of.F.kp b_is_tuple_of
    have q_functions := ok_functions (P := l.prog) (w := w) (base := base) (mg := mg) (T := T) D_are_functions.F (q_tup 15) D_is_tuple_of.m D_is_tuple_of.F.kp b_is_tuple_of D_is_function.m (IsDef.of (k := 15) (f := isFunction) q_function (by decide) D_is_function.k b_is_function)
    have q_program := ok_program (P := l.prog) (w := w) (base := base) (mg := mg) (T := T) D_is_program.F (q_pair 19) D_is_pair.m D_is_pair.k b_is_pair D_is_kinds.m (IsDef.of (k := 19) (f := isKinds) q_kinds (by decide) D_is_kinds.F.kp b_is_kinds) D_are_functions.m (IsDef.of (k := 19) (f := isFunctions) q_functions (by decide) D_are_functions.k b_are_functions)
    have q_need := ok_need (P := l.prog) (w := w) (base := base) (mg := mg) (T := T) D_need_program.F q_program D_is_program.m D_is_program.k b_is_program E_BadProgram
    have q_nexts := ok_nexts (P := l.prog) (w := w) (base := base) (mg := mg) (T := T) D_nexts.F
    have q_anyt := ok_anytup (P := l.prog) (w := w) (base := base) (mg := mg) (T := T) D_is_any_tuple.F B
    have q_fitsr := ok_fitsr (P := l.prog) (w := w) (base := base) (mg := mg) (T := T) D_fits_row.F B q_nexts D_nexts.m D_nexts.k b_nexts q_deeds D_are_deeds.m D_are_deeds.k b_are_deeds (IsDef.of (k := 15) (f := areDeeds) q_deeds (by decide) D_are_deeds.k b_are_deeds) (q_tup 15) D_is_tuple_of.m D_is_tuple_of.F.kp b_is_tuple_of q_tok D_is_token.m D_is_token.k b_is_token
    have q_fitsf := ok_fitsf (P := l.prog) (w := w) (base := base) (mg := mg) (T := T) D_fits_function.F B z_zip q_fitsr D_fits_row.m D_fits_row.k b_fits_row D_are_deeds.m (IsDef.of (k := 15) (f := areDeeds) q_deeds (by decide) D_are_deeds.k b_are_deeds) D_is_any_tuple.m (IsDef.of (k := 15) (f := isAnyTup) q_anyt (by decide) D_is_any_tuple.k b_is_any_tuple) (q_pair 15) D_is_pair.m D_is_pair.k b_is_pair
    have q_fitsp := ok_fitsp (P := l.prog) (w := w) (base := base) (mg := mg) (T := T) D_fits_program.F B z_zip q_fitsf D_fits_function.m D_fits_function.k b_fits_function
    have q_needpl := ok_needpl (P := l.prog) (w := w) (base := base) (mg := mg) (T := T) D_need_placing.F q_fitsp D_fits_program.m D_fits_program.k b_fits_program E_BadPlacing
    have q_joined := ok_joined (P := l.prog) (w := w) (base := base) (mg := mg) (T := T) D_joined.F
    have q_listT := ok_listT (P := l.prog) (w := w) (base := base) (mg := mg) (T := T) D_list_words.F q_joined D_joined.m D_joined.k b_joined
    have q_listL := ok_listL (P := l.prog) (w := w) (base := base) (mg := mg) (T := T) D_list_words.F q_joined D_joined.m D_joined.k b_joined
    have q_regsw := ok_regsw (P := l.prog) (w := w) (base := base) (mg := mg) (T := T) D_registers_words.F q_listL D_list_words.m D_list_words.k b_list_words
    have q_tokw := ok_tokw (P := l.prog) (w := w) (base := base) (mg := mg) (T := T) D_token_words.F
    have q_deedsw := ok_deedsw (P := l.prog) (w := w) (base := base) (mg := mg) (T := T) D_deeds_words.F z_str
    have q_headw := ok_headw (P := l.prog) (w := w) (base := base) (mg := mg) (T := T) D_head_words.F z_str q_regsw D_registers_words.m D_registers_words.k b_registers_words q_tokw D_token_words.m D_token_words.k b_token_words
    have q_endsw := ok_endsw (P := l.prog) (w := w) (base := base) (mg := mg) (T := T) D_ends_words.F z_str z_zip q_nexts D_nexts.m D_nexts.k b_nexts q_deedsw D_deeds_words.m D_deeds_words.k b_deeds_words q_regsw D_registers_words.m D_registers_words.k b_registers_words
    have q_kindw := ok_kindw (P := l.prog) (w := w) (base := base) (mg := mg) (T := T) D_kind_words.F q_listT D_list_words.m D_list_words.k b_list_words
    have q_funw := ok_funw (P := l.prog) (w := w) (base := base) (mg := mg) (T := T) D_function_words.F z_zip q_listT D_list_words.m D_list_words.k b_list_words q_deedsw D_deeds_words.m D_deeds_words.k b_deeds_words q_headw D_head_words.m D_head_words.k b_head_words q_joined D_joined.m D_joined.k b_joined q_endsw D_ends_words.m D_ends_words.k b_ends_words
    have q_write := ok_write (P := l.prog) (w := w) (base := base) (mg := mg) (T := T) D_write_text.F z_zip q_need D_need_program.m D_need_program.k b_need_program q_needpl D_need_placing.m D_need_placing.k b_need_placing q_kindw D_kind_words.m D_kind_words.k b_kind_words q_funw D_function_words.m D_function_words.k b_function_words
    have q_well := ok_well (P := l.prog) (w := w) (base := base) (mg := mg) D__law_well.F z_list
    have q_draw := ok_draw (P := l.prog) (w := w) (base := base) (mg := mg) D__law_draw.F z_int z_abs z_len
    have q_plain := ok_plain (P := l.prog) (w := w) (base := base) (mg := mg) (T := T) D__law_plain.F B z_range q_draw D__law_draw.m D__law_draw.k b__law_draw
    have q_unl := ok_unl (P := l.prog) (w := w) (base := base) (mg := mg) (T := T) D__law_unlike.F B z_range q_plain D__law_plain.m D__law_plain.k b__law_plain
    have q_lks := ok_lks (P := l.prog) (w := w) (base := base) (mg := mg) (T := T) D__law_any_kinds.F B z_range q_draw D__law_draw.m D__law_draw.k b__law_draw q_unl D__law_unlike.m D__law_unlike.k b__law_unlike
    have q_anyd := ok_anyd (P := l.prog) (w := w) (base := base) (mg := mg) (T := T) D__law_any_deeds.F B z_range q_draw D__law_draw.m D__law_draw.k b__law_draw
    have q_anyr := ok_anyr (P := l.prog) (w := w) (base := base) (mg := mg) (T := T) D__law_any_registers.F B z_range q_draw D__law_draw.m D__law_draw.k b__law_draw
    have q_rowd := ok_rowd (P := l.prog) (w := w) (base := base) (mg := mg) (T := T) D__law_any_row.F B z_range q_draw D__law_draw.m D__law_draw.k b__law_draw q_anyd D__law_any_deeds.m D__law_any_deeds.k b__law_any_deeds q_anyr D__law_any_registers.m D__law_any_registers.k b__law_any_registers q_plain D__law_plain.m D__law_plain.k b__law_plain
    have q_anyp := ok_anyp (P := l.prog) (w := w) (base := base) (mg := mg) (T := T) D__law_any.F B z_range z_max q_draw D__law_draw.m D__law_draw.k b__law_draw q_lks D__law_any_kinds.m D__law_any_kinds.k b__law_any_kinds q_plain D__law_plain.m D__law_plain.k b__law_plain q_rowd D__law_any_row.m D__law_any_row.k b__law_any_row q_anyd D__law_any_deeds.m D__law_any_deeds.k b__law_any_deeds
    have q_br := ok_br (P := l.prog) (w := w) (base := base) (mg := mg) (T := T) D__law_brackets.F B z_list
    have q_lregs := ok_lregs (P := l.prog) (w := w) (base := base) (mg := mg) (T := T) D__law_registers.F z_str q_br D__law_brackets.m D__law_brackets.k b__law_brackets
    have q_dtxt := ok_dtxt (P := l.prog) (w := w) (base := base) (mg := mg) (T := T) D__law_deeds_text.F z_str
    have q_lnext := ok_lnext (P := l.prog) (w := w) (base := base) (mg := mg) (T := T) D__law_next.F z_str q_dtxt D__law_deeds_text.m D__law_deeds_text.k b__law_deeds_text
    have q_rt := ok_rt (P := l.prog) (w := w) (base := base) (mg := mg) (T := T) D__law_row_text.F B z_str z_range q_dtxt D__law_deeds_text.m D__law_deeds_text.k b__law_deeds_text q_lnext D__law_next.m D__law_next.k b__law_next q_lregs D__law_registers.m D__law_registers.k b__law_registers
    have q_lt := ok_lt (P := l.prog) (w := w) (base := base) (mg := mg) (T := T) D__law_text.F B z_range q_br D__law_brackets.m D__law_brackets.k b__law_brackets q_dtxt D__law_deeds_text.m D__law_deeds_text.k b__law_deeds_text q_rt D__law_row_text.m D__law_row_text.k b__law_row_text
    exact ok_law (P := l.prog) (w := w) (base := base) (mg := mg) (T := T) D_law.F B z_isinstance q_well D__law_well.m D__law_well.k b__law_well q_anyp D__law_any.m D__law_any.k b__law_any q_lt D__law_text.m D__law_text.k b__law_text q_write D_write_text.m D_write_text.k b_write_text kb1 kb2
end JF
open PySem PySem.W PyProof.Rows
set_option Elab.async false
set_option linter.all false
set_option maxRecDepth 100000 in
set_option maxHeartbeats 0 in
theorem PySem.Challenge.cw_justfreed_k30_whole_texts_written_holds : PySem.Challenge.rw_justfreed_k30_whole_texts_written.Holds := by
  w_on; o_law; k_head; (case hw => w_witness2)
  k_fill
  refine EG.walk_g (l := PySem.Challenge.rw_justfreed_k30_whole_texts_written) (n := 63) (k := 24) (x := "script") rfl (by decide) rfl ⟨rfl, by decide, by decide⟩ (fun w h Y => PySem.W.kIn_of Y) ?F
  case F =>
    intro w mg mb fa h mean T X hmg
    refine JF.assemble (l := PySem.Challenge.rw_justfreed_k30_whole_texts_written) T X ?S ?bt ?dw ?dwd ?rec hmg
    case rec => first | kernel_rfl | decide +kernel
    case S => (show _ = _; kernel_rfl)
    case dw => kernel_rfl
    case dwd => kernel_rfl
    case bt => kernel_rfl
