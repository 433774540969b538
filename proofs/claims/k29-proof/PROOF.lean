import PyProof.Rows.All
import Wide.All
import OpenK.AllK
import Wide.FinOn
import HandS.ForMost
import HandS.ForExc
import HandS.AnyAll
import HandS.GenList
import HandS.JoinGen
import HandS.ExcInit
import HandS.ExcField
import HandS.ExcIs
import HandS.TryMany
import HandS.IsInst
import HandS.HotCalls
import HandS.HeadHook4
import HandS.HeadWalk
import HandS.Head2
import HandS.Zip
import HandS.TupAny
import HandS.Flow
import HandS.Replace
import HandS.Wide
import HandS.TupMul
import HandS.StrMore
import HandS.RaiseMore
import HandS.Gcd
import HandS.WideBits
import HandS.Rev
import HandS.Text
import KE.KIntText
import KE.IntTextLaws
import PyProof.Rows.StrAscii
import PySem.Challenge.RW_everyohm_k29_whole_flood_by_widening
import KE.KStateDown
import HandS.Head3
set_option Elab.async false
set_option linter.all false
set_option maxRecDepth 100000
set_option maxHeartbeats 4000000
namespace GX
open PySem PySem.Spec PyProof.Rows L2 GenW GxR

theorem over_loop' {A : Around} {elt tg iter : Expr} {ifs : List Expr} {sc : Scope} {p : Pos} {it acc : Value} {env : Env} :
    A.over (.compLoop (.GeneratorExp elt [⟨tg, iter, ifs, 0⟩] sc p) 0 it acc env) [] = A.deeper env := by
  first
    | rfl
    | (obtain ⟨hd, d, fr, gs, u⟩ := A; simp [Around.over, Around.deeper, marksOver, frameCount, unitsOf, envsOf, guardsOf, pushEnvs, pushGuards, Code.envs, Code.env?, Code.isFrame, Code.guards, Code.isGuard, Code.weight, Code.frames, Code.isCreation, Code.isCaller, Code.cUnits])
theorem over_start' {A : Around} {elt tg iter : Expr} {ifs : List Expr} {sc : Scope} {p : Pos} {it acc : Value} {env : Env} :
    A.over (.compStart (.GeneratorExp elt [⟨tg, iter, ifs, 0⟩] sc p) 0 it acc env) [] = A.deeper env := by
  first
    | rfl
    | (obtain ⟨hd, d, fr, gs, u⟩ := A; simp [Around.over, Around.deeper, marksOver, frameCount, unitsOf, envsOf, guardsOf, pushEnvs, pushGuards, Code.envs, Code.env?, Code.isFrame, Code.guards, Code.isGuard, Code.weight, Code.frames, Code.isCreation, Code.isCaller, Code.cUnits])

/-- where the element of a generator expression runs: its frame over the def's -/
abbrev cx (X : Cx) (A : Around) (s : Shared) (H : Hp) (genv : Env) (fp : List Addr) (pn : List (Addr × Obj)) : Cx :=
  { X with A := A.deeper genv, s_0 := s, H_0 := H, env := genv, outer := X.stack, stack := genv :: X.stack, ex := fp, fn := fun _ => false, pn := pn, xe := fun _ _ => False }
abbrev genv (X : Cx) (scope : Scope) (C : Addr) (code : Value) : Env := genEnv scope (cloFrom X.env.cells scope.names []) C code builtinsNs X.env

section
variable {X : Cx} {pins : List (Addr × Obj)} {σ : L2.St} {H : Hp} {s : Shared}

theorem start {A : Around} {scope : Scope} {own : List (Str × Nat)} {fp : List Addr} {pn : List (Addr × Obj)} {code : Value} {s5 : Shared} {m : Str → Option Value}
    (I : Inv X pins σ H s) (ok : BlkOk X.N X.env.scope scope own) (hN : X.N.Nodup) (hfp : ∀ b ∈ fp, FpOk X pins H b ∧ b < s.heap.objs.size) (hcell : ∀ y ∈ scope.names, y.2 ≠ .cell)
    (hA : A.frames = some X.stack) (hh : A.handled = none) (hos : s5.os = s.os) (hb5 : AllBare s5.gens) (kp : ∀ b o, s.heap.get? b = some o → s5.heap.get? b = some o) (hn : s5.heap.Ns s.heap.objs.size m)
    (hpn : ∀ p ∈ pn, s5.heap.get? p.1 = some p.2 ∧ s.heap.objs.size < p.1 ∧ ∀ v, p.2.data ≠ .cell v) :
    Inv (cx X A s H (genv X scope s.heap.objs.size code) fp pn) [] (wipe σ (own.map (·.2))) H s5 := by
  have hfree : ∀ y ∈ scope.names, y.2 = .free → ∃ c, X.env.cells.lookup y.1 = some c := fun y hy e => by
    rcases ok.free y hy e with k | k
    · exact I.ok.has _ (.inl k)
    · exact I.ok.has _ (.inr k)
  have cm : ∀ {y c}, (y, c) ∈ cloFrom X.env.cells scope.names [] → X.env.cells.lookup y = some c ∧ c < s.heap.objs.size := fun {y c} hm => by
    rcases cloFrom_mem hm with hm | ⟨h1, rfl⟩
    · cases hm
    · obtain ⟨c, hc⟩ := hfree _ h1 rfl
      rw [hc]
      obtain ⟨w, z⟩ := I.cell _ _ hc
      exact ⟨rfl, z.lt⟩
  have mem : ∀ {y c}, (cloFrom X.env.cells scope.names []).lookup y = some c → X.env.cells.lookup y = some c ∧ c < s.heap.objs.size := fun {y c} e => cm (PySem.mem_of_lookup e)
  have look : ∀ {y}, scope.names.lookup y = some .free → ∃ c, (cloFrom X.env.cells scope.names []).lookup y = some c ∧ X.env.cells.lookup y = some c := fun {y} hl => by
    have hy : (y, NameKind.free) ∈ scope.names := PySem.mem_of_lookup hl
    obtain ⟨c', e'⟩ := mem_lookup (cloFrom_has (cells := X.env.cells) (acc := []) hy)
    exact ⟨c', e', (mem e').1⟩
  have nocell : ∀ {y}, scope.names.lookup y ≠ some .cell := fun {y} hl => hcell _ (PySem.mem_of_lookup hl) rfl
  have okB : (cx X A s H (genv X scope s.heap.objs.size code) fp pn).Ok := by
    refine ⟨I.ok.mod, ok.kind, I.ok.glob, rfl, Nat.le_refl _, fun y z c e1 e2 => ?_, fun y hy => ?_, fun y c z e => ?_, fun _ => hh, Around.frames_deeper hA, .inr ⟨rfl, rfl⟩, fun b hb => ⟨?_, fun y c e z => ?_⟩, I.bs, Nat.le_trans I.ok.bsz I.sz, fun b o e hb => ?_, fun b hb z => ?_, I.stack, I.stkFree⟩
    · exact I.ok.inj y z c (mem e1).1 (mem e2).1
    · rcases hy with hy | hy
      · exact absurd hy nocell
      · obtain ⟨c, h1, _⟩ := look hy
        exact ⟨c, h1⟩
    · cases z
    · exact Nat.ne_of_lt (hfp b hb).2
    · have e : (cloFrom X.env.cells scope.names []).lookup y = some c := e
      exact (hfp b hb).1.2.2.2.2.1 y c (mem e).1 z
    · rcases (hfp b hb).1.2.2.2.1 with z | z
      · exact I.ok.noex b o e z
      · exact absurd (Nat.lt_of_lt_of_le (Heap.lt_size e) (Nat.le_trans I.ok.bsz z)) (Nat.lt_irrefl _)
    · rcases List.mem_cons.mp (I.stkSub b z) with z | z
      · exact (hfp b hb).1.2.1 z
      · exact (hfp b hb).1.2.2.1 z
  refine ⟨okB, hos, hb5, Un.kept kp, ⟨m, hn, fun i y av e1 e2 e3 => ?_⟩, fun y c e => ?_, ?_, fun y c e => ?_, fun p hp => ?_, I.hok.kept kp, by rw [wipe_length]; exact I.len⟩
  · obtain ⟨e2, hne⟩ := wipe_some e2
    have e3 : Vis scope y := e3
    have hfr : scope.names.lookup y = some .free := by
      rcases e3 with e3 | e3 | e3
      · rcases ok.own _ (PySem.mem_of_lookup e3) (.inl rfl) with e' | e'
        · obtain ⟨p, hp, hpy⟩ := List.mem_map.mp e'
          have e4 := ok.ix p hp
          have hpy : p.1 = y := hpy
          rw [hpy] at e4
          exact absurd (List.mem_map.mpr ⟨p, hp, nodup_ix hN e4 e1⟩) hne
        · exact absurd (List.mem_of_getElem? e1) e'
      · exact absurd e3 nocell
      · exact e3
    obtain ⟨mm, hnn, hl⟩ := I.loc
    have hvis : Vis X.env.scope y := (ok.free _ (PySem.mem_of_lookup hfr) rfl).elim (fun k => .inr (.inl k)) (fun k => .inr (.inr k))
    obtain ⟨w, r, q⟩ := hl i y av e1 e2 hvis
    refine ⟨w, r, .inr ⟨.inr hfr, ?_⟩⟩
    obtain ⟨c, h1, h2⟩ := look hfr
    rcases q with ⟨k, _⟩ | ⟨_, c', e', z⟩
    · have k : X.env.scope.names.lookup y = some .local := k
      rcases ok.free _ (PySem.mem_of_lookup hfr) rfl with k' | k' <;> rw [show X.env.scope.names.lookup y = _ from k'] at k <;> cases k
    · rw [h2] at e'; cases e'
      exact ⟨c, h1, z.keeps kp⟩
  · have e : (cloFrom X.env.cells scope.names []).lookup y = some c := e
    obtain ⟨w, z⟩ := I.cell y c (mem e).1
    exact ⟨w, z.keeps kp⟩
  · exact I.hok.fresh (Nat.le_refl _)
  · have e : (cloFrom X.env.cells scope.names []).lookup y = some c := e
    exact I.freeC y c (mem e).1
  · rcases List.mem_append.mp hp with hp | hp
    · obtain ⟨h1, h2, h3⟩ := hpn p hp
      refine ⟨h1, I.hok.fresh (Nat.le_of_lt h2), Nat.ne_of_gt h2, fun z => ?_, h3⟩
      rcases List.mem_cons.mp (I.stkSub p.1 z) with z | z
      · exact absurd (Nat.lt_trans h2 (by rw [z]; exact I.lt)) (Nat.lt_irrefl _)
      · exact I.nofs (Nat.le_of_lt h2) z
    · exact absurd hp (by simp)

/-! ### asleep -/
/-- while the generator sleeps its consumer's own objects (at F) may change; all else is kept -/
structure Slp (F : List Addr) (s s' : Shared) : Prop where
  os : s'.os = s.os
  bare : AllBare s'.gens
  keep : ∀ b o, b ∉ F → s.heap.get? b = some o → s'.heap.get? b = some o
  obj : ∀ b ∈ F, ∃ o, s'.heap.get? b = some o ∧ ∀ v, o.data ≠ .cell v
def FSt (Y : Cx) (F fp : List Addr) : Prop := ∀ b ∈ F, b ≠ Y.env.locals ∧ b ∉ Y.fs ∧ Y.s_0.heap.objs.size ≤ b ∧ b ∉ fp ∧ (∀ p ∈ Y.pn, p.1 ≠ b) ∧ ∀ x c, Y.env.cells.lookup x = some c → c ≠ b
def FDy (F : List Addr) (H : Hp) (s : Shared) : Prop := ∀ b ∈ F, H b = none ∧ ∃ o, s.heap.get? b = some o ∧ ∀ v, o.data ≠ .cell v
theorem woken {Y : Cx} {F fp : List Addr} {s' : Shared} (I : Inv Y [] σ H s) (hf : FSt Y F fp) (hd : FDy F H s) (z : Slp F s s') : Inv Y [] σ H s' := by
  refine I.call' (ch := F) z.os ⟨fun b o q _ _ hx => z.keep b o hx q, fun b o q _ _ hx => ⟨o.slots, z.keep b o hx q⟩, fun _ _ _ n _ => n, fun b o q hx => ⟨o, z.keep b o hx q⟩, fun _ _ q => q, fun _ _ _ q => q, fun b ps q => ⟨#[], by rw [q]; simp⟩⟩ (fun b u q => ?_) z.bare fun b hb => ?_
  · have nF : ∀ c v, H c = some v → c ∉ F := fun c v e hc => by rw [(hd c hc).1] at e; cases e
    refine (I.hok b u q).stay (fun c v hc y => z.keep c v ?_ y) (fun _ y => y) fun _ _ y => y
    rcases hc with y | y
    · rw [y]; exact nF b u q
    · exact nF c _ y
  · obtain ⟨h1, h2, h3, h4, h5, h6⟩ := hf b hb
    exact ⟨.inr h3, h1, h6, fun p hp => h5 p (by simpa using hp)⟩

/-! ### the protocol -/
/-- the generator ends -/
def GR (X : Cx) (pins : List (Addr × Obj)) (σ : L2.St) (F : List Addr) (CO : List V → Heap → Prop) (Fin : List V → Hp → Prop) (n : Nat) (s₀ : Shared) (s : Shared) : Prop :=
  ∃ ys H, CO ys s.heap ∧ Inv X pins σ H s ∧ FDy F H s ∧ Fin ys H
/-- an item is handed out: the consumer cuts, or goes on -/
def GY (X : Cx) (pins : List (Addr × Obj)) (σ : L2.St) (a : Addr) (gn : Nat) (F : List Addr) (CO : List V → Heap → Prop) (Cut : List V → V → Hp → Prop) (Pass : List V → V → Prop) : Protocol := fun n s₀ v s kap =>
  ∃ ys y H, RelV y v ∧ CO ys s.heap ∧ Inv X pins σ H s ∧ FDy F H s ∧ s.heap.IsGen a gn ∧
    (Cut ys y H ∨ (0 < n ∧ Pass ys y ∧ ∀ s', Slp F s s' → CO (ys ++ [y]) s'.heap → kap (.send .none) s'))
/-- the turns of the loop -/
def tTurn (J : It) (g : TG) (tt : TT) (te : TE) (vs : List Nat) (σ : L2.St) (W : Nat → Nat → List V → Hp → Prop) (Fin : List V → Hp → Prop) (Cut : List V → V → Hp → Prop) (Pass : List V → V → Prop) : Prop :=
  ∀ i m ys H, W i m ys H → (J.stop i H ∧ Fin ys H) ∨ (J.go i H ∧ ∃ Nx : List V → Hp → Prop, (∀ ys' H', Nx ys' H' → ∃ m', m' < m ∧ W (i + 1) m' ys' H') ∧
    ∀ x H', J.yld i H x H' → g x (wipe σ vs) H' fun σ2 H2 => wipe σ2 vs = wipe σ vs ∧ tt σ2 H2 fun b H3 =>
      if b = true then te σ2 H3 fun y H4 => Cut ys y H4 ∨ (Pass ys y ∧ Nx (ys ++ [y]) H4) else Nx ys H3)

structure GI (Y : Cx) (fp F : List Addr) (tn : Nat → Heap → Prop) (σ : L2.St) (i : Nat) (H : Hp) (s : Shared) : Prop where
  inv : Inv Y [] σ H s
  st : tn i s.heap
  nfp : ∀ b ∈ fp, H b = none
  fd : FDy F H s

theorem seg_loop {A : Around} {sB : Shared} {HB : Hp} {ge : Env} {fp F : List Addr} {pn : List (Addr × Obj)} {vs : List Nat} {elt tg iter : Expr} {ifs : List Expr} {scope : Scope} {gpos : Pos} {it a : Addr} {gn : Nat} {tn : Nat → Heap → Prop} {J : It} {g : TG} {tt : TT} {te : TE}
    {CO : List V → Heap → Prop} {W : Nat → Nat → List V → Hp → Prop} {Fin : List V → Hp → Prop} {Cut : List V → V → Hp → Prop} {Pass : List V → V → Prop}
    (hc : X.calm = true) (hco : ge.scope.isCoroutine = false) (T : Turn X.prog X.w X.K tg J fp it tn) (pg : PG (cx X A sB HB ge fp pn) tg g) (pt : PTs (cx X A sB HB ge fp pn) ifs tt) (pe : PE (cx X A sB HB ge fp pn) elt te)
    (hF : FSt (cx X A sB HB ge fp pn) F fp) (hpf : ∀ p ∈ pn, p.1 ∉ fp) (hCO : ∀ ys h h', (∀ b ∈ F, ∀ o, h.get? b = some o → h'.get? b = some o) → CO ys h → CO ys h')
    (turn : tTurn J g tt te vs σ W Fin Cut Pass) (back : ∀ H s, Inv (cx X A sB HB ge fp pn) [] (wipe σ vs) H s → Inv X pins σ H s) (ga : ∀ H s, Inv (cx X A sB HB ge fp pn) [] (wipe σ vs) H s → s.heap.IsGen a gn) :
    ∀ (m i n : Nat) (ys : List V) (s₀ s : Shared) (H : Hp), m < n → GI (cx X A sB HB ge fp pn) fp F tn (wipe σ vs) i H s → W i m ys H → CO ys s.heap →
      Seg (model X.prog X.w) A (fun n s₀ r s₁ => r = .ok .next ∧ GR X pins σ F CO Fin n s₀ s₁) (GY X pins σ a gn F CO Cut Pass) n s₀ (.compLoop (.GeneratorExp elt [⟨tg, iter, ifs, 0⟩] scope gpos) 0 (.ref it) .none ge)
        ((model X.prog X.w).den (.compLoop (.GeneratorExp elt [⟨tg, iter, ifs, 0⟩] scope gpos) 0 (.ref it) .none ge)) [] s := by
  intro m
  induction m using Nat.strongRecOn with
  | ind m ih =>
    intro i n ys s₀ s H hmn hI w hCOs
    obtain ⟨I, st, nf, fd⟩ := hI
    obtain ⟨n, rfl⟩ : ∃ k, n = k + 1 := ⟨n - 1, by omega⟩
    show Seg _ A _ _ _ s₀ _ ((compTurn (.GeneratorExp elt [⟨tg, iter, ifs, 0⟩] scope gpos) 0 (.ref it) .none ge).onRaise (leaving ge)) [] s
    rw [compTurn_gen, Sem.onRaise_eq_wrap]
    refine seg_bind_wrap (wpAny_standAt ?_)
    have fF : ∀ b ∈ F, FpOk (cx X A sB HB ge fp pn) [] H b := fun b hb => by
      obtain ⟨h1, h2, h3, h4, h5, h6⟩ := hF b hb
      exact ⟨(fd b hb).1, h1, h2, .inr h3, h6, fun p hp => h5 p (by simpa using hp)⟩
    have IF := I.pinned fF fun b hb => (fd b hb).2
    have fst : ∀ {H' : Hp}, (∀ b ∈ fp, H' b = none) → ∀ b ∈ fp, FpOk (cx X A sB HB ge fp pn) ([] ++ pinsAt F s.heap) H' b := fun {H'} hn b hb => by
      refine ⟨hn b hb, (I.ok.exf b hb).1, I.ok.exfs b hb, .inl hb, fun x c e => (I.ok.exf b hb).2 x c e, fun p hp z => ?_⟩
      rcases List.mem_append.mp hp with hp | hp
      · exact hpf p hp (by rw [z]; exact hb)
      · have hp : p ∈ pinsAt F s.heap := by simpa using hp
        exact (hF p.1 (of_pinsAt hp).1).2.2.2.1 (by rw [z]; exact hb)
    have keepF : ∀ {σ' : L2.St} {H' : Hp} {s' : Shared} {pl : List (Addr × Obj)}, Inv (cx X A sB HB ge fp pn) (([] ++ pinsAt F s.heap) ++ pl) σ' H' s' → FDy F H' s' ∧ ∀ b ∈ F, ∀ o, s.heap.get? b = some o → s'.heap.get? b = some o := fun {σ' H' s' pl} I' => by
      have key : ∀ b ∈ F, ∀ o, s.heap.get? b = some o → s'.heap.get? b = some o ∧ H' b = none := fun b hb o e => by
        have z := I'.pin (b, o) (List.mem_append_right _ (List.mem_append_left _ (List.mem_append_right _ (mem_pinsAt hb e))))
        exact ⟨z.1, z.2.1⟩
      refine ⟨fun b hb => ?_, fun b hb o e => (key b hb o e).1⟩
      obtain ⟨_, o, e, d⟩ := fd b hb
      exact ⟨(key b hb o e).2, o, (key b hb o e).1, d⟩
    rcases turn i m ys H w with ⟨stop, fin⟩ | ⟨go, Nx, hNx, step⟩
    · refine seg_bind_wrap ?_
      rw [over_loop']
      refine thn (T.done (cx X A sB HB ge fp pn) rfl rfl rfl hc i _ s _ H _ IF (fst nf) st stop) fun r s6 ⟨hr, I6⟩ => ?_
      subst hr
      have k6 := keepF (pl := []) (by simpa using I6)
      exact seg_end (.ok .next) ⟨rfl, ys, H, hCO _ _ _ k6.2 hCOs, back H s6 (I6.unpinned (pins := [])), k6.1, fin⟩
    · refine seg_bind_wrap ?_
      rw [over_loop']
      refine thn (T.item (cx X A sB HB ge fp pn) rfl rfl rfl hc i _ s _ H _ IF (fst nf) st go) fun r s6 ⟨u, hr, h6⟩ => ?_
      subst hr
      refine seg_bind_wrap ?_
      rw [over_loop']
      refine thn h6 fun _ s7 ⟨x, H7, I7, r7, y7, st7, n7⟩ => ?_
      have I7' := I7.pinned (fst n7) (T.obj _ _ st7)
      refine seg_bind_wrap ?_
      rw [over_loop']
      refine thnF (pg.run _ s7 _ H7 x u _ I7' r7 (step x H7 y7)) fun _ s8 ⟨σ8, H8, I8, hw8, q8⟩ => ?_
      refine seg_bind_wrap ?_
      rw [over_loop']
      refine thnF (pt.run _ s8 σ8 H8 _ I8 q8) fun b s9 ⟨H9, I9, q9⟩ => ?_
      have fin : ∀ {s' : Shared} {H' : Hp}, Inv (cx X A sB HB ge fp pn) (([] ++ pinsAt F s.heap) ++ pinsAt fp s7.heap) σ8 H' s' → GI (cx X A sB HB ge fp pn) fp F tn (wipe σ vs) (i + 1) H' s' := fun {s' H'} I' => by
        have pin' : ∀ b ∈ fp, ∀ o, s7.heap.get? b = some o → s'.heap.get? b = some o ∧ H' b = none := fun b hb o e =>
          let z := I'.pin (b, o) (List.mem_append_right _ (List.mem_append_right _ (mem_pinsAt hb e)))
          ⟨z.1, z.2.1⟩
        have hl : (wipe σ vs).length = σ8.length := by rw [← hw8, wipe_length]
        refine ⟨((I'.unpinned (pins := [] ++ pinsAt F s.heap)).unpinned (pins := [])).weak hl (fun j v e => ?_), T.keep _ _ _ st7 fun b hb o e => (pin' b hb o e).1, fun b hb => ?_, (keepF I').1⟩
        · rw [← hw8] at e
          exact (wipe_some e).1
        · obtain ⟨o, e, _⟩ := T.obj _ _ st7 b hb
          exact (pin' b hb o e).2
      cases b with
      | false =>
        simp only [Bool.false_eq_true, if_false] at q9 ⊢
        obtain ⟨m', hm, w'⟩ := hNx _ _ q9
        exact seg_again rfl (ih m' hm (i + 1) (n + 1) ys s₀ s9 H9 (by omega) (fin I9) w' (hCO _ _ _ (keepF I9).2 hCOs))
      | true =>
        simp only [if_true] at q9 ⊢
        have hy : ∀ v, yieldOut ge v = yieldValue v := fun v => by simp only [yieldOut, hco, Bool.false_eq_true, if_false]
        simp only [hy]
        rw [Sem.bind_eq_wrap', Sem.bind_eq_wrap', Sem.wrap_wrap, Sem.wrap_wrap]
        refine seg_wrap ?_
        rw [over_loop']
        refine thnF (pe.run _ s9 σ8 H9 _ I9 q9) fun z s10 ⟨yv, H10, I10, r10, q10⟩ => ?_
        have G10 := fin I10
        refine seg_at (seg_yield rfl rfl rfl ⟨ys, yv, H10, r10, hCO _ _ _ (keepF I10).2 hCOs, back _ _ G10.inv, G10.fd, ga _ _ G10.inv, ?_⟩)
        rcases q10 with q | ⟨hp, q⟩
        · exact .inl q
        · obtain ⟨m', hm, w'⟩ := hNx _ _ q
          refine .inr ⟨by omega, hp, fun s'' zz hco' => ?_⟩
          refine seg_again rfl (ih m' hm (i + 1) n (ys ++ [yv]) s'' s'' H10 (by omega) ⟨woken G10.inv hF G10.fd zz, T.keep _ _ _ G10.st fun b hb o e => zz.keep b o (fun hbF => (hF b hbF).2.2.2.1 hb) e, G10.nfp, fun b hb => ⟨(G10.fd b hb).1, zz.obj b hb⟩⟩ w' hco')

theorem seg_start {A : Around} {sB : Shared} {HB : Hp} {ge : Env} {fp F : List Addr} {pn : List (Addr × Obj)} {vs : List Nat} {elt tg iter : Expr} {ifs : List Expr} {scope : Scope} {gpos : Pos} {it a : Addr} {gn : Nat} {tn : Nat → Heap → Prop} {J : It} {g : TG} {tt : TT} {te : TE}
    {CO : List V → Heap → Prop} {W : Nat → Nat → List V → Hp → Prop} {Fin : List V → Hp → Prop} {Cut : List V → V → Hp → Prop} {Pass : List V → V → Prop}
    (hc : X.calm = true) (hco : ge.scope.isCoroutine = false) (T : Turn X.prog X.w X.K tg J fp it tn) (pg : PG (cx X A sB HB ge fp pn) tg g) (pt : PTs (cx X A sB HB ge fp pn) ifs tt) (pe : PE (cx X A sB HB ge fp pn) elt te)
    (hF : FSt (cx X A sB HB ge fp pn) F fp) (hpf : ∀ p ∈ pn, p.1 ∉ fp) (hCO : ∀ ys h h', (∀ b ∈ F, ∀ o, h.get? b = some o → h'.get? b = some o) → CO ys h → CO ys h')
    (turn : tTurn J g tt te vs σ W Fin Cut Pass) (back : ∀ H s, Inv (cx X A sB HB ge fp pn) [] (wipe σ vs) H s → Inv X pins σ H s) (ga : ∀ H s, Inv (cx X A sB HB ge fp pn) [] (wipe σ vs) H s → s.heap.IsGen a gn)
    (m i n : Nat) (ys : List V) (s₀ s : Shared) (H : Hp) (hmn : m < n) (hI : GI (cx X A sB HB ge fp pn) fp F tn (wipe σ vs) i H s) (w : W i m ys H) (hCOs : CO ys s.heap) :
      Seg (model X.prog X.w) A (fun n s₀ r s₁ => r = .ok .next ∧ GR X pins σ F CO Fin n s₀ s₁) (GY X pins σ a gn F CO Cut Pass) n s₀ (.compStart (.GeneratorExp elt [⟨tg, iter, ifs, 0⟩] scope gpos) 0 (.ref it) .none ge)
        ((model X.prog X.w).den (.compStart (.GeneratorExp elt [⟨tg, iter, ifs, 0⟩] scope gpos) 0 (.ref it) .none ge)) [] s := by
  have loop := seg_loop (iter := iter) (scope := scope) (gpos := gpos) hc hco T pg pt pe hF hpf hCO turn back ga m i n ys s₀ s H hmn hI w hCOs
  show Seg _ A _ _ _ s₀ _ ((compStart (.GeneratorExp elt [⟨tg, iter, ifs, 0⟩] scope gpos) 0 (.ref it) .none ge).onRaise (leaving ge)) [] s
  unfold compStart
  rw [Sem.onRaise_eq_wrap]
  show Seg _ A _ _ _ s₀ _ ((ask >>= _).wrap _ _ _ _) [] s
  refine seg_bind_wrap (wpAny_askSetting ?_)
  split
  · exact seg_again rfl loop
  · first
      | exact seg_bind_wrap (wpAny_rule (seg_bind_wrap (wpAny_standAt (seg_bind_wrap (T.self _ i s _ _ hI.st (seg_again rfl loop))))))
      | (refine seg_bind_wrap (wpAny_rule ?_); show Seg _ A _ _ _ s₀ _ ((standAt iter.pos >>= _).wrap _ _ _ _) [] s; exact seg_bind_wrap (wpAny_standAt (seg_bind_wrap (T.self _ i s _ _ hI.st (seg_again rfl loop)))))

/-! ### made -/
theorem code_step {c P : Addr} {gpos : Pos} {qn : Str} {scope : Scope} {E : Value → Shared → Prop} {A : Around} (I : Inv X pins σ H s) (TB : TabB X.base X.mg c P) (hcode : X.env.code = .ref c) (hT : TabG H P) {Q : Value → Shared → Prop}
    (hQ : ∀ code s3 H3, Tabbed P H H3 → Inv X pins σ H3 s3 → (∀ b o, b ≠ P → s.heap.get? b = some o → s3.heap.get? b = some o) → Q code s3) :
    wpAny (model X.prog X.w) A (genexprCode X.env gpos qn scope) Q E s := by
  obtain ⟨ps, hP, ht⟩ := hT
  have hPs : s.heap.get? P = some { cls := .none, data := .fields ps } := I.hok P _ hP
  have cd : PySem.W.CodeHd s.heap c P := TB.code.keeps fun b u e => I.bk b u e
  cases hf : codeAmong gpos ps.toList with
  | none =>
    refine wpAny_genexprCodeX hcode (cd.code hPs ht) (cd.tab hPs) hf fun c' h' tk hx hge hlt hco' _ htab' _ => ?_
    obtain ⟨o1, vs, f1, tf, fl, tg, inF, tx, tt, op, _, _, _, _, _, _, _, _, _, htr, _⟩ := hco'
    have J := inv_tab (more := #[rawInt gpos.line, rawInt gpos.col, .ref c']) (h' := h') (g' := s.gens) (d' := s.drawn) (t' := tk) I hP (fun b u hb e => hx b u hb e) htab'.2 I.bare
    exact hQ _ _ (upd H P (.tbl (ps ++ #[rawInt gpos.line, rawInt gpos.col, .ref c']))) ⟨⟨_, upd_same, htr⟩, fun b hb => upd_ne hb⟩ J fun b o hb e => hx b o hb e
  | some cv =>
    exact wpAny_genexprCode_hit hcode (cd.code hPs ht) hf (hQ _ _ H ⟨⟨ps, hP, ht⟩, fun _ _ => rfl⟩ I fun _ _ _ e => e)

/-- the reading of a generator expression: behind the making of its code the table at P may have grown -/
def tGx (P : Addr) (wi : TI) (g : TG) (tt : TT) (te : TE) (vs : List Nat) (Fin : List V → Hp → Prop) (Cut : List V → V → Hp → Prop) (Pass : List V → V → Prop) (σ : L2.St) (H : Hp) : Prop :=
  wi σ H fun J H1 => TabG H1 P ∧ ∀ H2, Tabbed P H1 H2 → ∃ W : Nat → Nat → List V → Hp → Prop, (∃ m, W 0 m [] H2) ∧ tTurn J g tt te vs σ W Fin Cut Pass

/-- a generator that has not begun -/
def GMX (X : Cx) (pins : List (Addr × Obj)) (σ : L2.St) (Fin : List V → Hp → Prop) (Cut : List V → V → Hp → Prop) (Pass : List V → V → Prop) (u : Value) (s5 : Shared) : Prop :=
  ∃ (a : Addr) (gn : Nat) (c : Code) (n : Nat), u = .ref a ∧ s5.heap.IsGen a gn ∧ s5.gens[gn]? = some (.fresh c) ∧ a < s5.heap.objs.size ∧ AllBare s5.gens ∧ s5.heap.NoLimit ∧
    ∀ (F : List Addr) (CO : List V → Heap → Prop) (s6 : Shared), (∀ b ∈ F, s5.heap.objs.size ≤ b) → (∀ ys h h', (∀ b ∈ F, ∀ o, h.get? b = some o → h'.get? b = some o) → CO ys h → CO ys h') → CO [] s6.heap → Slp F s5 s6 →
      Seg (model X.prog X.w) X.A.in4.in1 (fun n s₀ r s₁ => r = .ok .next ∧ GR X pins σ F CO Fin n s₀ s₁) (GY X pins σ a gn F CO Cut Pass) n s6 c ((model X.prog X.w).den c) [] s6

theorem made {k : Nat} {c P : Addr} {elt tg iter : Expr} {ifs : List Expr} {scope : Scope} {own : List (Str × Nat)} {gpos : Pos} {wi : TI} {g : TG} {tt : TT} {te : TE} {Fin : List V → Hp → Prop} {Cut : List V → V → Hp → Prop} {Pass : List V → V → Prop}
    (hr : Room k X.A) (hc : X.calm = true) (hN : X.N.Nodup) (TB : TabB X.base X.mg c P) (hcode : X.env.code = .ref c) (hi : PI X tg iter wi) (ok : BlkOk X.N X.env.scope scope own) (hco : scope.isCoroutine = false) (hcell : ∀ y ∈ scope.names, y.2 ≠ .cell) (hdot : scope.names.lookup (".0" : Str) = some NameKind.local)
    (hg : ∀ (s : Shared) (H : Hp) (C : Addr) (code : Value) (fp : List Addr) (pn : List (Addr × Obj)), PG (cx X X.A.in4.in1 s H (genv X scope C code) fp pn) tg g)
    (ht : ∀ (s : Shared) (H : Hp) (C : Addr) (code : Value) (fp : List Addr) (pn : List (Addr × Obj)), PTs (cx X X.A.in4.in1 s H (genv X scope C code) fp pn) ifs tt)
    (he : ∀ (s : Shared) (H : Hp) (C : Addr) (code : Value) (fp : List Addr) (pn : List (Addr × Obj)), PE (cx X X.A.in4.in1 s H (genv X scope C code) fp pn) elt te)
    (hs : ∀ x, genFold iter X.env x = pure x) (I : Inv X pins σ H s) (h : tGx P wi g tt te (own.map (·.2)) Fin Cut Pass σ H) :
    wpAny (model X.prog X.w) X.A (eval (.GeneratorExp elt [⟨tg, iter, ifs, 0⟩] scope gpos) X.env) (GMX X pins σ Fin Cut Pass) X.xe s := by
  have hfree : ∀ y ∈ scope.names, y.2 = .free → ∃ c, X.env.cells.lookup y.1 = some c := fun y hy e => by
    rcases ok.free y hy e with k | k
    · exact I.ok.has _ (.inl k)
    · exact I.ok.has _ (.inr k)
  refine wpAny_GeneratorExp_make hco (closure_ok hfree) hcell hdot ok.kind (by have := hr.dp; omega)
    (thn (hi.run pins s σ H _ I h) fun xv s1 hx => thn hx fun itv s2 h2 => ?_) hs
  obtain ⟨it, fp, tn, J, H1, e, I2, T, st2, f2, hTab, q⟩ := h2
  subst e
  refine ⟨I2.nolimit, code_step I2 TB hcode hTab fun code s3 H3 hH3 I3 kp23 => ?_⟩
  obtain ⟨W, ⟨m0, w0⟩, turn⟩ := q H3 hH3
  obtain ⟨bm, ob, e1, e2, e3, e4, e5, e6, e7, e8⟩ := TB.bm
  refine wpAny_builtinsFor (m := X.mg) (by rw [I3.ok.glob]; exact I3.mod.glob.keeps I3.bk) e1 e2 (I3.bk _ _ e5) e6 e7 e8 ?_
  obtain ⟨ps1, hP1, _⟩ := hTab
  have fpP : ∀ b ∈ fp, b ≠ P := fun b hb z => by
    have e := (f2 b hb).1
    rw [z, hP1] at e; cases e
  have f3 : ∀ b ∈ fp, FpOk X pins H3 b ∧ b < s3.heap.objs.size := fun b hb => by
    obtain ⟨o, e, _⟩ := T.obj _ _ st2 b hb
    exact ⟨⟨by rw [hH3.2 b (fpP b hb)]; exact (f2 b hb).1, (f2 b hb).2⟩, Heap.lt_size (kp23 b o (fpP b hb) e)⟩
  have st3 : tn 0 s3.heap := T.keep _ _ _ st2 fun b hb o e => kp23 b o (fpP b hb) e
  intro h' hn' hs'
  have hsz : h'.objs.size = s3.heap.objs.size + 1 := by rw [hs'.1, Heap.size_push]
  have keep' : ∀ b o, s3.heap.get? b = some o → h'.get? b = some o := fun b o e => hs'.extBut b o (Nat.ne_of_lt (Heap.lt_size e)) (Heap.get?_push_of_some _ e)
  have main : ∀ (go : Obj) (nm qn : Value) (tk2 : Nat), go.cls = .type "generator" → go.data = .fields #[.int s3.gens.size 0, nm, qn] → go.slots = #[] → (∀ h : Heap, (h.push go).get? h.objs.size = some go) →
      GMX X pins σ Fin Cut Pass (.ref h'.objs.size) { s3 with gens := s3.gens.push (.fresh (.compStart (.GeneratorExp elt [⟨tg, iter, ifs, 0⟩] scope gpos) 0 (.ref it) .none (genv X scope s3.heap.objs.size code))), toks := tk2, heap := h'.push go } := by
    intro go nm qn tk2 hgc hgd0 hgs hgp
    have hgen : ∀ h : Heap, h.get? h'.objs.size = some go → h.IsGen h'.objs.size s3.gens.size := fun h e => ⟨go, nm, qn, e, hgc, hgd0, hgs⟩
    have keep5 : ∀ b o, s3.heap.get? b = some o → (h'.push go).get? b = some o := fun b o e => Heap.get?_push_of_some _ (keep' b o e)
    have hbare : AllBare (s3.gens.push (.fresh (.compStart (.GeneratorExp elt [⟨tg, iter, ifs, 0⟩] scope gpos) 0 (.ref it) .none (genv X scope s3.heap.objs.size code)))) := AllBare.push I3.bare rfl
    refine ⟨h'.objs.size, s3.gens.size, _, m0 + 1, rfl, hgen _ (hgp _), Array.getElem?_push_size .., ?_, hbare, I3.nolimit.keeps keep5, ?_⟩
    · show h'.objs.size < (h'.push go).objs.size
      rw [Heap.size_push]; exact Nat.lt_succ_self _
    intro F CO s6 hF hCO hC0 hSl
    have hF' : ∀ b ∈ F, s3.heap.objs.size + 2 ≤ b := fun b hb => by
      have := hF b hb
      have e : ({ s3 with gens := s3.gens.push (.fresh (.compStart (.GeneratorExp elt [⟨tg, iter, ifs, 0⟩] scope gpos) 0 (.ref it) .none (genv X scope s3.heap.objs.size code))), toks := tk2, heap := h'.push go } : Shared).heap.objs.size = h'.objs.size + 1 := Heap.size_push ..
      rw [e, hsz] at this
      exact this
    have k36 : ∀ b o, s3.heap.get? b = some o → s6.heap.get? b = some o := fun b o e => hSl.keep b o (fun hb => by
      have h1 := hF' b hb
      have h2 := Heap.lt_size e
      exact absurd (Nat.lt_of_lt_of_le h2 (Nat.le_trans (Nat.le_add_right _ 2) h1)) (Nat.lt_irrefl _)) (keep5 b o e)
    have hga6 : s6.heap.get? h'.objs.size = some go := hSl.keep _ _ (fun hb => by have := hF' _ hb; rw [hsz] at this; omega) (hgp _)
    have hn6 : s6.heap.Ns s3.heap.objs.size (fun y => if y = ".0" then some (.ref it) else none) := by
      refine hn'.at' fun o e => hSl.keep _ _ (fun hb => ?_) (Heap.get?_push_of_some _ e)
      have := hF' _ hb
      omega
    have hpn : ∀ p ∈ [(h'.objs.size, go)], s6.heap.get? p.1 = some p.2 ∧ s3.heap.objs.size < p.1 ∧ ∀ v, p.2.data ≠ .cell v := fun p hp => by
      rw [List.mem_singleton.mp hp]
      exact ⟨hga6, by show s3.heap.objs.size < h'.objs.size; omega, fun v q => by rw [hgd0] at q; cases q⟩
    have I6 := start (A := X.A.in4.in1) (code := code) I3 ok hN f3 hcell I3.ok.frames hr.hd hSl.os hSl.bare k36 hn6 hpn
    refine seg_start (A := X.A.in4.in1) (sB := s3) (HB := H3) (ge := genv X scope s3.heap.objs.size code) (fp := fp) (F := F) (pn := [(h'.objs.size, go)]) (vs := own.map (·.2)) hc hco T (hg _ _ _ _ _ _) (ht _ _ _ _ _ _) (he _ _ _ _ _ _) ?_ ?_ hCO turn ?_ ?_ m0 0 (m0 + 1) [] s6 s6 H3 (Nat.lt_succ_self _) ⟨I6, ?_, fun b hb => (f3 b hb).1.1, fun b hb => ⟨?_, hSl.obj b hb⟩⟩ w0 hC0
    · intro b hb
      have hb' := hF' b hb
      have hb1 : s3.heap.objs.size < b := Nat.lt_of_succ_lt hb'
      refine ⟨?_, fun z => ?_, ?_, fun z => ?_, fun p hp z => ?_, fun x cc e z => ?_⟩
      · exact Nat.ne_of_gt hb1
      · rcases List.mem_cons.mp (I3.stkSub b z) with z | z
        · have h9 : b < s3.heap.objs.size := by rw [z]; exact I3.lt
          exact absurd (Nat.lt_trans hb1 h9) (Nat.lt_irrefl _)
        · exact I3.nofs (Nat.le_of_lt hb1) z
      · exact Nat.le_of_lt hb1
      · exact absurd (Nat.lt_trans hb1 (f3 b z).2) (Nat.lt_irrefl _)
      · rw [List.mem_singleton.mp hp] at z
        have z : h'.objs.size = b := z
        rw [← z, hsz] at hb'
        exact absurd hb' (by omega)
      · obtain ⟨v, q⟩ := I6.cell x cc e
        have e : (cloFrom X.env.cells scope.names []).lookup x = some cc := e
        have hlt : cc < s3.heap.objs.size := by
          rcases cloFrom_mem (PySem.mem_of_lookup e) with hm | ⟨h1, h2⟩
          · cases hm
          · obtain ⟨c2, hc2⟩ := hfree _ h1 rfl
            rw [hc2] at h2
            have h2 : cc = c2 := h2
            rw [h2]
            obtain ⟨_, z2⟩ := I3.cell _ _ hc2
            exact z2.lt
        rw [z] at hlt
        exact absurd (Nat.lt_trans hb1 hlt) (Nat.lt_irrefl _)
    · intro p hp hb
      rw [List.mem_singleton.mp hp] at hb
      have := (f3 _ hb).2
      have this : h'.objs.size < s3.heap.objs.size := this
      omega
    · intro H' s' J'
      exact I3.call' (ch := fp) J'.os J'.base J'.hok J'.bare fun b hb => ⟨(f3 b hb).1.2.2.2.1, (f3 b hb).1.2.1, (f3 b hb).1.2.2.2.2.1, (f3 b hb).1.2.2.2.2.2⟩
    · intro H' s' J'
      exact hgen _ (J'.pin (h'.objs.size, go) (List.mem_append_left _ (List.mem_singleton.mpr rfl))).1
    · exact T.keep _ _ _ st3 fun b hb o e => k36 b o e
    · exact I3.hok.fresh (Nat.le_of_lt (Nat.lt_of_succ_lt (hF' b hb)))
  exact main _ _ _ _ rfl rfl rfl fun h => Heap.get?_push_size _ rfl

/-! ### the next item -/
theorem inv_gens {g' : Array GenState} (I : Inv X pins σ H s) (hb : AllBare g') : Inv X pins σ H { s with gens := g' } :=
  ⟨I.ok, I.os, hb, I.base, I.loc, I.cell, I.free, I.freeC, I.pin, I.hok, I.len⟩
theorem inv_heap {h' : Heap} {g' : Array GenState} (I : Inv X pins σ H s) (hb : AllBare g') (k : ∀ b o, s.heap.get? b = some o → h'.get? b = some o) : Inv X pins σ H { s with heap := h', gens := g' } :=
  inv_gens (I.kept (t' := s.toks) k) hb

def Live (X : Cx) (pins : List (Addr × Obj)) (σ : L2.St) (a : Addr) (gn : Nat) (F : List Addr) (CO : List V → Heap → Prop) (Fin : List V → Hp → Prop) (Cut : List V → V → Hp → Prop) (Pass : List V → V → Prop) (n : Nat) (s : Shared) : Prop :=
  s.heap.IsGen a gn ∧ s.heap.NoLimit ∧ ∃ gs, s.gens[gn]? = some gs ∧ gs.Goes (model X.prog X.w) X.A.in4.in1 (fun n s₀ r s₁ => r = .ok .next ∧ GR X pins σ F CO Fin n s₀ s₁) (GY X pins σ a gn F CO Cut Pass) n (.send .none) (s.setGen gn .running)

theorem GMX.live {Fin : List V → Hp → Prop} {Cut : List V → V → Hp → Prop} {Pass : List V → V → Prop} {u : Value} {s5 : Shared} (h : GMX X pins σ Fin Cut Pass u s5) :
    ∃ (a : Addr) (gn : Nat) (n : Nat), u = .ref a ∧ s5.heap.IsGen a gn ∧ a < s5.heap.objs.size ∧ AllBare s5.gens ∧ s5.heap.NoLimit ∧
    ∀ (F : List Addr) (CO : List V → Heap → Prop) (h6 : Heap) (tk : Nat), (∀ b ∈ F, s5.heap.objs.size ≤ b) → (∀ ys h h', (∀ b ∈ F, ∀ o, h.get? b = some o → h'.get? b = some o) → CO ys h → CO ys h') → CO [] h6 → (∀ b o, b ∉ F → s5.heap.get? b = some o → h6.get? b = some o) → (∀ b ∈ F, ∃ o, h6.get? b = some o ∧ ∀ v, o.data ≠ .cell v) →
      Live X pins σ a gn F CO Fin Cut Pass n { s5 with heap := h6, toks := tk } := by
  obtain ⟨a, gn, c, n, rfl, hg, hgs, hlt, hb, hl, run⟩ := h
  refine ⟨a, gn, n, rfl, hg, hlt, hb, hl, fun F CO h6 tk hF hCO h0 hk ho => ?_⟩
  have hcl : cStatics < s5.heap.objs.size := let ⟨_, hn, _⟩ := hl; hn.lt
  refine ⟨?_, ?_, _, hgs, rfl, run F CO _ hF hCO h0 ⟨rfl, allBare_setGen (s := { s5 with heap := h6, toks := tk }) hb rfl, hk, ho⟩⟩
  · obtain ⟨o, nm, qn, e, r⟩ := hg
    exact ⟨o, nm, qn, hk a o (fun hm => absurd (Nat.lt_of_lt_of_le hlt (hF a hm)) (Nat.lt_irrefl _)) e, r⟩
  · obtain ⟨mc, hns, hnn⟩ := hl
    exact ⟨mc, hns.at' fun o e => hk _ o (fun hm => absurd (Nat.lt_of_lt_of_le hcl (hF _ hm)) (Nat.lt_irrefl _)) e, hnn⟩

theorem next {k : Nat} {a : Addr} {gn : Nat} {F : List Addr} {CO : List V → Heap → Prop} {Fin : List V → Hp → Prop} {Cut : List V → V → Hp → Prop} {Pass : List V → V → Prop} {n : Nat} {Q : Option Value → Shared → Prop} {E : Value → Shared → Prop}
    (hr : Room k X.A) (haF : a ∉ F) (hcF : cStatics ∉ F) (hL : Live X pins σ a gn F CO Fin Cut Pass n s)
    (hcut : ∀ v s' ys y H, RelV y v → CO ys s'.heap → Inv X pins σ H s' → FDy F H s' → Cut ys y H → Q (some v) s')
    (hpass : ∀ v s' ys y H m, n = m + 1 → RelV y v → CO ys s'.heap → Inv X pins σ H s' → FDy F H s' → Pass ys y →
      (∀ h' tk, (∀ b o, b ∉ F → s'.heap.get? b = some o → h'.get? b = some o) → (∀ b ∈ F, ∃ o, h'.get? b = some o ∧ ∀ v, o.data ≠ .cell v) → CO (ys ++ [y]) h' → Live X pins σ a gn F CO Fin Cut Pass m { s' with heap := h', toks := tk }) → Q (some v) s')
    (hend : ∀ s' ys H, CO ys s'.heap → Inv X pins σ H s' → FDy F H s' → Fin ys H → Q none s') (hCO : ∀ ys h h', (∀ b ∈ F, ∀ o, h.get? b = some o → h'.get? b = some o) → CO ys h → CO ys h') :
    wpAny (model X.prog X.w) X.A.in4 (pyNext (.ref a)) Q E s := by
  obtain ⟨hg, hl, gs, hgs, hgo⟩ := hL
  have hgl : gn < s.gens.size := (Array.getElem?_eq_some_iff.mp hgs).1
  refine wpAny_gsz (n := gn + 1) hgl (wpAny_pyNext_genexpQ (A := X.A.in4) (P := fun n s₀ s₁ => GR X pins σ F CO Fin n s₀ s₁) hr.hd hl (by have := hr.dp; show X.A.depth < _; omega) hg hgs hgo (fun v s₁ gs' hbare hv => ?_) (fun s₁ hp h' hk => ?_))
  · intro hsz
    obtain ⟨ys, y, H1, rv, co, I1, fd1, hg1, hq⟩ := hv
    have hb2 : AllBare (s₁.setGen gn gs').gens := allBare_setGen I1.bare hbare
    have I2 : Inv X pins σ H1 (s₁.setGen gn gs') := inv_gens I1 hb2
    have hsz1 : gn < s₁.gens.size := by
      have q : (s₁.setGen gn gs').gens.size = s₁.gens.size := setGen_size _ _ _
      have hsz' : gn + 1 ≤ (s₁.setGen gn gs').gens.size := hsz
      omega
    rcases hq with hq | ⟨hn0, hp, kap⟩
    · exact hcut v _ ys y H1 rv co I2 fd1 hq
    · cases n with
      | zero =>
        exact absurd hn0 (by decide)
      | succ m =>
        refine hpass v _ ys y H1 m rfl rv co I2 fd1 hp fun h' tk hk ho hco' => ?_
        refine ⟨?_, ?_, gs', setGen_at hsz1, ?_⟩
        · obtain ⟨o, nm, qn, e, r⟩ := hg1
          exact ⟨o, nm, qn, hk a o haF e, r⟩
        · obtain ⟨mc, hns, hnn⟩ := I2.nolimit
          exact ⟨mc, hns.at' fun o e => hk _ o hcF e, hnn⟩
        · exact kap _ ⟨rfl, allBare_setGen (s := { s₁.setGen gn gs' with heap := h', toks := tk }) hb2 rfl, fun b o hb e => hk b o hb e, ho⟩ hco'
  · intro hsz
    obtain ⟨ys, H1, co, I1, fd1, hq⟩ := hp
    refine hend _ ys H1 (hCO _ _ _ (fun b _ o e => hk b o e) co) (inv_heap (s := s₁) I1 (allBare_setGen I1.bare rfl) hk) (fun b hb => ?_) hq
    obtain ⟨h1, o, e, d⟩ := fd1 b hb
    exact ⟨h1, o, hk b o e, d⟩
end

/-! ### consumers -/
section
variable {X : Cx} {pins : List (Addr × Obj)} {σ : L2.St} {H : Hp} {s : Shared}
theorem in4_1 {α : Type} {M : Model} {A : Around} {t : Sem α} {Q : α → Shared → Prop} {E : Value → Shared → Prop} {s : Shared} (h : wpAny M A.in4 t Q E s) : wpAny M A.in1 t Q E s :=
  wpAny_of_in1 (A := A.in1) (wpAny_of_in1 (A := A.in1.in1) (wpAny_of_in1 (A := A.in1.in1.in1) h))
theorem in4_2 {α : Type} {M : Model} {A : Around} {t : Sem α} {Q : α → Shared → Prop} {E : Value → Shared → Prop} {s : Shared} (h : wpAny M A.in4 t Q E s) : wpAny M A.in1.in1 t Q E s :=
  wpAny_of_in1 (A := A.in1.in1) (wpAny_of_in1 (A := A.in1.in1.in1) h)
theorem in4_3 {α : Type} {M : Model} {A : Around} {t : Sem α} {Q : α → Shared → Prop} {E : Value → Shared → Prop} {s : Shared} (h : wpAny M A.in4 t Q E s) : wpAny M A.in1.in1.in1 t Q E s :=
  wpAny_of_in1 (A := A.in1.in1.in1) h

abbrev CO0 : List V → Heap → Prop := fun _ _ => True
theorem CO0_ok : ∀ (ys : List V) (h h' : Heap), (∀ b ∈ ([] : List Addr), ∀ o, h.get? b = some o → h'.get? b = some o) → CO0 ys h → CO0 ys h' := fun _ _ _ _ _ => trivial
theorem live_same {a : Addr} {gn n : Nat} {Fin : List V → Hp → Prop} {Cut : List V → V → Hp → Prop} {Pass : List V → V → Prop} {s' : Shared} {ys : List V}
    (h : ∀ h' tk, (∀ b o, b ∉ ([] : List Addr) → s'.heap.get? b = some o → h'.get? b = some o) → (∀ b ∈ ([] : List Addr), ∃ o, h'.get? b = some o ∧ ∀ v, o.data ≠ .cell v) → CO0 ys h' → Live X pins σ a gn [] CO0 Fin Cut Pass n { s' with heap := h', toks := tk }) : Live X pins σ a gn [] CO0 Fin Cut Pass n s' :=
  h s'.heap s'.toks (fun _ _ _ e => e) (fun b hb => absurd hb (by simp)) trivial

theorem all_loop {k : Nat} {a : Addr} {gn : Nat} {QQ : VK} {R : Result → Shared → Prop} (hr : Room k X.A)
    (hR : ∀ b s' H', Inv X pins σ H' s' → QQ (.bl b) H' → R (.ok (.ret (.bool b))) s') :
    ∀ (n : Nat) (s : Shared), Live X pins σ a gn [] CO0 (fun _ H => QQ (.bl true) H) (fun _ y H => y = .bl false ∧ QQ (.bl false) H) (fun _ y => y = .bl true) n s → codeAny (model X.prog X.w) X.A (.builtin "all.loop" ⟨[.ref a], []⟩) R s := by
  intro n
  induction n with
  | zero =>
    intro s hL
    refine codeAny_builtin F.entry_all_loop ?_
    rw [Around.under_plainId F.plain_all_loop _]
    show wpAny _ X.A.in1 (pyNext (.ref a) >>= _) _ _ s
    refine wpAny_bind (in4_1 (next hr (by simp) (by simp) hL (fun v s' ys y H1 rv _ I1 _ hq => ?_) (fun v s' ys y H1 m hm => ?_) (fun s' ys H1 _ I1 _ hq => ?_) CO0_ok))
    · obtain ⟨rfl, hq⟩ := hq
      obtain rfl : v = Value.bool false := rv
      refine wpAny_bind (wpAny_holding (wpAny_truthy_bool ?_))
      refine wpAny_bind (wpAny_letGo ?_)
      simp only [Bool.false_eq_true, if_false]
      exact wpAny_bind (wpAny_rule (wpAny_pure (hR false _ _ I1 hq)))
    · cases hm
    · exact wpAny_bind (wpAny_rule (wpAny_pure (hR true _ _ I1 hq)))
  | succ n ih =>
    intro s hL
    refine codeAny_builtin F.entry_all_loop ?_
    rw [Around.under_plainId F.plain_all_loop _]
    show wpAny _ X.A.in1 (pyNext (.ref a) >>= _) _ _ s
    refine wpAny_bind (in4_1 (next hr (by simp) (by simp) hL (fun v s' ys y H1 rv _ I1 _ hq => ?_) (fun v s' ys y H1 m hm rv _ I1 _ hp hl => ?_) (fun s' ys H1 _ I1 _ hq => ?_) CO0_ok))
    · obtain ⟨rfl, hq⟩ := hq
      obtain rfl : v = Value.bool false := rv
      refine wpAny_bind (wpAny_holding (wpAny_truthy_bool ?_))
      refine wpAny_bind (wpAny_letGo ?_)
      simp only [Bool.false_eq_true, if_false]
      exact wpAny_bind (wpAny_rule (wpAny_pure (hR false _ _ I1 hq)))
    · subst hp
      obtain rfl : v = Value.bool true := rv
      obtain rfl : n = m := Nat.succ.inj hm
      refine wpAny_bind (wpAny_holding (wpAny_truthy_bool ?_))
      refine wpAny_bind (wpAny_letGo ?_)
      simp only [if_true]
      exact wpAny_pure ⟨plainId_quiet F.plain_all_loop _, ih s' (live_same hl)⟩
    · exact wpAny_bind (wpAny_rule (wpAny_pure (hR true _ _ I1 hq)))

theorem any_loop {k : Nat} {a : Addr} {gn : Nat} {QQ : VK} {R : Result → Shared → Prop} (hr : Room k X.A)
    (hR : ∀ b s' H', Inv X pins σ H' s' → QQ (.bl b) H' → R (.ok (.ret (.bool b))) s') :
    ∀ (n : Nat) (s : Shared), Live X pins σ a gn [] CO0 (fun _ H => QQ (.bl false) H) (fun _ y H => y = .bl true ∧ QQ (.bl true) H) (fun _ y => y = .bl false) n s → codeAny (model X.prog X.w) X.A (.builtin "any.loop" ⟨[.ref a], []⟩) R s := by
  intro n
  induction n with
  | zero =>
    intro s hL
    refine codeAny_builtin F.entry_any_loop ?_
    rw [Around.under_plainId F.plain_any_loop _]
    show wpAny _ X.A.in1 (pyNext (.ref a) >>= _) _ _ s
    refine wpAny_bind (in4_1 (next hr (by simp) (by simp) hL (fun v s' ys y H1 rv _ I1 _ hq => ?_) (fun v s' ys y H1 m hm => ?_) (fun s' ys H1 _ I1 _ hq => ?_) CO0_ok))
    · obtain ⟨rfl, hq⟩ := hq
      obtain rfl : v = Value.bool true := rv
      refine wpAny_bind (wpAny_holding (wpAny_truthy_bool ?_))
      refine wpAny_bind (wpAny_letGo ?_)
      simp only [if_true]
      exact wpAny_bind (wpAny_rule (wpAny_pure (hR true _ _ I1 hq)))
    · cases hm
    · exact wpAny_bind (wpAny_rule (wpAny_pure (hR false _ _ I1 hq)))
  | succ n ih =>
    intro s hL
    refine codeAny_builtin F.entry_any_loop ?_
    rw [Around.under_plainId F.plain_any_loop _]
    show wpAny _ X.A.in1 (pyNext (.ref a) >>= _) _ _ s
    refine wpAny_bind (in4_1 (next hr (by simp) (by simp) hL (fun v s' ys y H1 rv _ I1 _ hq => ?_) (fun v s' ys y H1 m hm rv _ I1 _ hp hl => ?_) (fun s' ys H1 _ I1 _ hq => ?_) CO0_ok))
    · obtain ⟨rfl, hq⟩ := hq
      obtain rfl : v = Value.bool true := rv
      refine wpAny_bind (wpAny_holding (wpAny_truthy_bool ?_))
      refine wpAny_bind (wpAny_letGo ?_)
      simp only [if_true]
      exact wpAny_bind (wpAny_rule (wpAny_pure (hR true _ _ I1 hq)))
    · subst hp
      obtain rfl : v = Value.bool false := rv
      obtain rfl : n = m := Nat.succ.inj hm
      refine wpAny_bind (wpAny_holding (wpAny_truthy_bool ?_))
      refine wpAny_bind (wpAny_letGo ?_)
      simp only [Bool.false_eq_true, if_false]
      exact wpAny_pure ⟨plainId_quiet F.plain_any_loop _, ih s' (live_same hl)⟩
    · exact wpAny_bind (wpAny_rule (wpAny_pure (hR false _ _ I1 hq)))

/-- the list that collects, at S -/
def COl (S : Addr) : List V → Heap → Prop := fun ys h => ∃ acc c, h.get? S = some (lstObj acc c) ∧ Vals ys acc.toList
theorem COl_ok (S : Addr) : ∀ (ys : List V) (h h' : Heap), (∀ b ∈ [S], ∀ o, h.get? b = some o → h'.get? b = some o) → COl S ys h → COl S ys h' := fun ys h h' hk ⟨acc, c, e, r⟩ => ⟨acc, c, hk S (by simp) _ e, r⟩
abbrev NoCut : List V → V → Hp → Prop := fun _ _ _ => False
abbrev Fits : List V → V → Prop := fun ys _ => ys.length < sizeLine

theorem extend_loop {k : Nat} {B : Around} {a S : Addr} {gn : Nat} {Fin : List V → Hp → Prop} {R : Result → Shared → Prop} {res : Value} (hr : Room k X.A) (hSa : a ≠ S) (hSc : cStatics ≠ S)
    (lift : ∀ (t : Sem (Option Value)) Q E s, wpAny (model X.prog X.w) X.A.in4 t Q E s → wpAny (model X.prog X.w) B.in1 t Q E s)
    (hR : ∀ s' acc c ys H', s'.heap.get? S = some (lstObj acc c) → Vals ys acc.toList → Inv X pins σ H' s' → H' S = none → Fin ys H' → R (.ok (.ret res)) s') :
    ∀ (n : Nat) (s : Shared), Live X pins σ a gn [S] (COl S) Fin NoCut Fits n s → codeAny (model X.prog X.w) B (.builtin "list.extend.loop" ⟨[.ref S, .ref a, res], []⟩) R s := by
  intro n
  induction n with
  | zero =>
    intro s hL
    refine codeAny_builtin F.entry_extend_loop ?_
    rw [Around.under_plainId F.plain_extend_loop _]
    show wpAny _ B.in1 (pyNext (.ref a) >>= _) _ _ s
    refine wpAny_bind (lift _ _ _ _ (next hr (by simpa using hSa) (by simpa using hSc) hL (fun v s' ys y H1 rv _ I1 _ hq => hq.elim) (fun v s' ys y H1 m hm => by cases hm) (fun s' ys H1 co I1 fd hq => ?_) (COl_ok S)))
    obtain ⟨acc, c, e, r⟩ := co
    exact wpAny_pure (hR _ acc c ys H1 e r I1 (fd S (by simp)).1 hq)
  | succ n ih =>
    intro s hL
    refine codeAny_builtin F.entry_extend_loop ?_
    rw [Around.under_plainId F.plain_extend_loop _]
    show wpAny _ B.in1 (pyNext (.ref a) >>= _) _ _ s
    refine wpAny_bind (lift _ _ _ _ (next hr (by simpa using hSa) (by simpa using hSc) hL (fun v s' ys y H1 rv _ I1 _ hq => hq.elim) (fun v s' ys y H1 m hm rv co I1 fd hp hl => ?_) (fun s' ys H1 co I1 fd hq => ?_) (COl_ok S)))
    · obtain rfl : n = m := Nat.succ.inj hm
      obtain ⟨acc, c, e, r⟩ := co
      have hlen : acc.size < sizeLine := by
        have e1 := r.length
        have e2 : acc.toList.length = acc.size := by simp
        have hp : ys.length < sizeLine := hp
        omega
      show wpAny _ B.in1 (updateSeq S (·.push v) >>= _) _ _ _
      refine wpAny_bind ?_
      refine wpAny_updateSeq e rfl (wpAny_pure ⟨plainId_quiet F.plain_extend_loop _, ?_⟩) (Nat.le_of_lt hlen) (by show (acc.push v).size ≤ sizeLine + 1; rw [Array.size_push]; omega)
      have hS' := Heap.get?_update_self (Obj.mapSeq (·.push v)) e rfl
      refine ih _ (hl (s'.heap.update S (Obj.mapSeq (·.push v))) s'.toks (fun b o hb q => (Heap.get?_update_other _ _ (fun z => hb (by rw [z]; simp))).trans q) (fun b hb => ?_) ⟨acc.push v, _, hS', ?_⟩)
      · rw [List.mem_singleton.mp hb]
        exact ⟨_, hS', fun v q => by cases q⟩
      · rw [Array.toList_push]
        exact r.append (.cons rv .nil)
    · obtain ⟨acc, c, e, r⟩ := co
      exact wpAny_pure (hR _ acc c ys H1 e r I1 (fd S (by simp)).1 hq)

/-- all that the generator hands out, in a list -/
theorem collectG {k : Nat} {B : Around} {Fin : List V → Hp → Prop} {a : Addr} {Q : List Value → Shared → Prop} {E : Value → Shared → Prop} (hr : Room k X.A)
    (lift : ∀ (t : Sem (Option Value)) Q E s, wpAny (model X.prog X.w) X.A.in4 t Q E s → wpAny (model X.prog X.w) B.in1 t Q E s)
    (hG : GMX X pins σ Fin NoCut Fits (.ref a) s)
    (hQ : ∀ s' us ys H', Inv X pins σ H' s' → Vals ys us → Fin ys H' → Q us s') : wpAny (model X.prog X.w) B (collect (.ref a)) Q E s := by
  obtain ⟨a', gn, n, ea, hg, hlt, hb, hl, live⟩ := hG.live
  cases ea
  have hSI : s.heap.objs.size ≠ a := Nat.ne_of_gt hlt
  have hcl : cStatics < s.heap.objs.size := let ⟨_, hn, _⟩ := hl; hn.lt
  unfold collect
  refine wpAny_bind (wpAny_runValue (codeAny_builtin F.entry_proto_collect ?_))
  rw [Around.under_plainId F.plain_proto_collect _]
  show wpAny _ B.in1 (newList [] >>= fun l => again (.builtin "list.__iadd__" ⟨[l, .ref a], []⟩)) _ _ s
  refine wpAny_bind (wpAny_newObj_type ?_)
  refine wpAny_pure ⟨plainId_quiet F.plain_list_iadd _, codeAny_builtin F.entry_list_iadd ?_⟩
  rw [Around.under_plainId F.plain_list_iadd _]
  have k1 : ∀ b o, s.heap.get? b = some o → (s.heap.push { cls := .type "list", data := .seq ([] : List Value).toArray }).get? b = some o := fun b o e => Heap.get?_push_of_some _ e
  have gty : ∀ {h : Heap}, (∀ b o, s.heap.get? b = some o → h.get? b = some o) → h.IsGen a gn := fun {h} q => hg.keeps q
  show wpAny _ B.in1 (Builtin.List.listExtendWith (.ref s.heap.objs.size) (.ref a) (.ref s.heap.objs.size)) _ _ _
  unfold Builtin.List.listExtendWith
  refine wpAny_bind (wpAny_typeOf (Heap.IsGen.typeIs (s := { s with heap := _ }) (gty k1)) ?_)
  have h1 : Builtin.List.listSameRef (.ref s.heap.objs.size) (.ref a) = false := by simp [Builtin.List.listSameRef, hSI]
  have h2 : (Value.type "generator" == Value.type "list") = false := by decide
  have h3 : (Value.type "generator" == Value.type "tuple") = false := by decide
  simp only [h1, h2, h3, Bool.or_false, Bool.false_eq_true, if_false]
  refine wpAny_bind (wpAny_pyIter_gen (s := { s with heap := _ }) (gty k1) ?_)
  refine wpAny_bind (wpAny_holding ?_)
  unfold Builtin.List.listLengthHint
  refine wpAny_bind (wpAny_specialOf (Heap.IsGen.typeIs (s := { s with heap := _ }) (gty k1)) F.gen_no_len ?_)
  show wpAny _ B.in1 (specialOf (Value.ref a) (Str.ofString "__length_hint__") >>= _) _ _ _
  refine wpAny_bind (wpAny_specialOf (Heap.IsGen.typeIs (s := { s with heap := _ }) (gty k1)) F.gen_no_hint ?_)
  refine wpAny_pure ?_
  show wpAny _ B.in1 (rule "list.extend.makes-room" >>= fun _ => Builtin.List.listTouch (.ref s.heap.objs.size) >>= fun _ =>
    again (.builtin "list.extend.loop" ⟨[.ref s.heap.objs.size, .ref a, .ref s.heap.objs.size], []⟩)) _ _ _
  refine wpAny_bind (wpAny_rule ?_)
  have hS₁ : (s.heap.push { cls := .type "list", data := .seq ([] : List Value).toArray }).get? s.heap.objs.size = some { cls := .type "list", data := .seq ([] : List Value).toArray } := Heap.get?_push_size _ rfl
  refine wpAny_bind ?_
  show wpAny _ B.in1 (updateSeq s.heap.objs.size (·.push .none) >>= fun _ => updateSeq s.heap.objs.size (·.pop)) _ _ _
  refine wpAny_bind (wpAny_updateSeq hS₁ rfl ?_)
  have hS₂ := Heap.get?_update_self (Obj.mapSeq (·.push Value.none)) hS₁ rfl
  refine wpAny_updateSeq hS₂ rfl ?_
  have hS₃ := Heap.get?_update_self (Obj.mapSeq (·.pop)) hS₂ rfl
  have oth : ∀ b o, b ∉ [s.heap.objs.size] → s.heap.get? b = some o →
      (((s.heap.push { cls := .type "list", data := .seq ([] : List Value).toArray }).update s.heap.objs.size (Obj.mapSeq (·.push Value.none))).update s.heap.objs.size (Obj.mapSeq (·.pop))).get? b = some o :=
    fun b o hb e => (Heap.get?_update_other _ _ (fun z => hb (by rw [z]; simp))).trans ((Heap.get?_update_other _ _ (fun z => hb (by rw [z]; simp))).trans (k1 b o e))
  refine wpAny_pure ⟨plainId_quiet F.plain_extend_loop _, extend_loop hr (Ne.symm hSI) (Nat.ne_of_lt hcl) lift (fun s' acc c ys H' e r I' _ hf => ?_) n _
    (live [s.heap.objs.size] (COl s.heap.objs.size) _ s.toks (fun b hb => by rw [List.mem_singleton.mp hb]; exact Nat.le_refl _) (COl_ok _) ⟨_, _, hS₃, .nil⟩ oth fun b hb => ?_)⟩
  · show wpAny _ B (load s.heap.objs.size >>= _) _ _ s'
    refine wpAny_bind (wpAny_load e ?_)
    exact wpAny_pure (hQ s' acc.toList ys H' I' r hf)
  · rw [List.mem_singleton.mp hb]
    exact ⟨_, hS₃, fun v q => by cases q⟩

/-! ### the rules -/
section
variable {c P : Addr} {elt tg iter : Expr} {ifs : List Expr} {scope : Scope} {own : List (Str × Nat)} {p pos gpos : Pos} {wi : TI} {g : TG} {tt : TT} {te : TE} {k : Nat}
/-- what a generator expression of the def asks -/
structure GE (X : Cx) (c P : Addr) (k : Nat) (elt tg iter : Expr) (ifs : List Expr) (scope : Scope) (own : List (Str × Nat)) (gpos : Pos) (wi : TI) (g : TG) (tt : TT) (te : TE) : Prop where
  hr : Room k X.A
  hc : X.calm = true
  hN : X.N.Nodup
  TB : TabB X.base X.mg c P
  hcode : X.env.code = .ref c
  hi : PI X tg iter wi
  ok : BlkOk X.N X.env.scope scope own
  hco : scope.isCoroutine = false
  hcell : ∀ y ∈ scope.names, y.2 ≠ .cell
  hdot : scope.names.lookup (".0" : Str) = some NameKind.local
  hg : ∀ (s : Shared) (H : Hp) (C : Addr) (code : Value) (fp : List Addr) (pn : List (Addr × Obj)), PG (cx X X.A.in4.in1 s H (genv X scope C code) fp pn) tg g
  ht : ∀ (s : Shared) (H : Hp) (C : Addr) (code : Value) (fp : List Addr) (pn : List (Addr × Obj)), PTs (cx X X.A.in4.in1 s H (genv X scope C code) fp pn) ifs tt
  he : ∀ (s : Shared) (H : Hp) (C : Addr) (code : Value) (fp : List Addr) (pn : List (Addr × Obj)), PE (cx X X.A.in4.in1 s H (genv X scope C code) fp pn) elt te
  hs : ∀ x, genFold iter X.env x = pure x
theorem GE.run {Fin : List V → Hp → Prop} {Cut : List V → V → Hp → Prop} {Pass : List V → V → Prop} (G : GE X c P k elt tg iter ifs scope own gpos wi g tt te) (I : Inv X pins σ H s) (h : tGx P wi g tt te (own.map (·.2)) Fin Cut Pass σ H) :
    wpAny (model X.prog X.w) X.A (eval (.GeneratorExp elt [⟨tg, iter, ifs, 0⟩] scope gpos) X.env) (GMX X pins σ Fin Cut Pass) X.xe s :=
  made G.hr G.hc G.hN G.TB G.hcode G.hi G.ok G.hco G.hcell G.hdot G.hg G.ht G.he G.hs I h
theorem room_in {k : Nat} {A : Around} {env : Env} (h : Room (k + 1) A) : Room k (A.in4.in1.deeper env) :=
  ⟨h.hd, by have := h.dp; show A.depth + 1 + 3 * k + 5 < _; omega, by have := h.un; show A.units + 1 + 1 + 1 + 1 + 1 + 3 + 16 * k + 200 < _; omega⟩

def tAllG (P : Addr) (wi : TI) (g : TG) (tt : TT) (te : TE) (vs : List Nat) : TE := fun σ H Q =>
  tGx P wi g tt te vs (fun _ H => Q (.bl true) H) (fun _ y H => y = .bl false ∧ Q (.bl false) H) (fun _ y => y = .bl true) σ H
def tAnyG (P : Addr) (wi : TI) (g : TG) (tt : TT) (te : TE) (vs : List Nat) : TE := fun σ H Q =>
  tGx P wi g tt te vs (fun _ H => Q (.bl false) H) (fun _ y H => y = .bl true ∧ Q (.bl true) H) (fun _ y => y = .bl false) σ H
def tTupG (P : Addr) (wi : TI) (g : TG) (tt : TT) (te : TE) (vs : List Nat) : TE := fun σ H Q =>
  tGx P wi g tt te vs (fun ys H => ys.length ≤ sizeLine ∧ ∀ p, H p = none → Q (.ref p) (upd H p (.tup ys))) NoCut Fits σ H
def tJoinG (P : Addr) (to : TE) (wi : TI) (g : TG) (tt : TT) (te : TE) (vs : List Nat) : TE := fun σ H Q => to σ H fun x H1 => ∃ sep, x = .str sep ∧
  tGx P wi g tt te vs (fun ys H => ∃ zs : List Str, ys = zs.map V.str ∧ JoinOk sep zs = true ∧ Q (.str (Txt.join sep zs)) H) NoCut Fits σ H1

theorem pe_allG (G : GE X c P k elt tg iter ifs scope own gpos wi g tt te) (hgl : Gl X "all") (hm : X.mg "all" = none) (hb : bootBuiltins "all" = some (.builtin "all") := by decide +kernel)
    (he : starEach [.GeneratorExp elt [⟨tg, iter, ifs, 0⟩] scope gpos] X.env = (false, eval (.GeneratorExp elt [⟨tg, iter, ifs, 0⟩] scope gpos) X.env) :: starEach [] X.env := by rfl) :
    PE X (.Call (.Name "all" p) [.GeneratorExp elt [⟨tg, iter, ifs, 0⟩] scope gpos] [] pos) (tAllG P wi g tt te (own.map (·.2))) := by
  refine ⟨fun pins s σ H Q I h => ?_⟩
  refine wpAny_Call_Name_kw (ld_blt I hgl hm hb ?_)
  refine PyProof.Rows.callWith_builtin1 ?_ he (by rfl)
  rw [he]
  show wpAny _ _ (spliced ((false, eval (.GeneratorExp elt [⟨tg, iter, ifs, 0⟩] scope gpos) X.env) :: backTo pos (starEach [] X.env))) _ _ s
  refine Calls.spliced_cons (thn (G.run I h) fun u s5 hG => ?_)
  refine Calls.spliced_nil ?_
  obtain ⟨a, gn, n, rfl, hg, hlt, hb5, hl, live⟩ := hG.live
  refine call_function_tree F.kind_all F.plain_all F.entry_all (F.args_all1 _) ?_
  unfold Builtin.«all»
  refine wpAny_bind (m := oneArg "all" _) (wpAny_pure ?_)
  refine wpAny_bind (wpAny_pyIter_gen hg ?_)
  refine wpAny_pure ⟨plainId_quiet F.plain_all_loop _, all_loop (QQ := Q) G.hr (fun b s' H' I' q => ?_) n s5 (live [] CO0 s5.heap s5.toks (fun b hb => absurd hb (by simp)) CO0_ok trivial (fun _ _ _ e => e) fun b hb => absurd hb (by simp))⟩
  exact ⟨.bl b, H', I', rfl, q⟩
theorem pe_anyG (G : GE X c P k elt tg iter ifs scope own gpos wi g tt te) (hgl : Gl X "any") (hm : X.mg "any" = none) (hb : bootBuiltins "any" = some (.builtin "any") := by decide +kernel)
    (he : starEach [.GeneratorExp elt [⟨tg, iter, ifs, 0⟩] scope gpos] X.env = (false, eval (.GeneratorExp elt [⟨tg, iter, ifs, 0⟩] scope gpos) X.env) :: starEach [] X.env := by rfl) :
    PE X (.Call (.Name "any" p) [.GeneratorExp elt [⟨tg, iter, ifs, 0⟩] scope gpos] [] pos) (tAnyG P wi g tt te (own.map (·.2))) := by
  refine ⟨fun pins s σ H Q I h => ?_⟩
  refine wpAny_Call_Name_kw (ld_blt I hgl hm hb ?_)
  refine PyProof.Rows.callWith_builtin1 ?_ he (by rfl)
  rw [he]
  show wpAny _ _ (spliced ((false, eval (.GeneratorExp elt [⟨tg, iter, ifs, 0⟩] scope gpos) X.env) :: backTo pos (starEach [] X.env))) _ _ s
  refine Calls.spliced_cons (thn (G.run I h) fun u s5 hG => ?_)
  refine Calls.spliced_nil ?_
  obtain ⟨a, gn, n, rfl, hg, hlt, hb5, hl, live⟩ := hG.live
  refine call_function_tree F.kind_any F.plain_any F.entry_any (F.args_any1 _) ?_
  unfold Builtin.«any»
  refine wpAny_bind (m := oneArg "any" _) (wpAny_pure ?_)
  refine wpAny_bind (wpAny_pyIter_gen hg ?_)
  refine wpAny_pure ⟨plainId_quiet F.plain_any_loop _, any_loop (QQ := Q) G.hr (fun b s' H' I' q => ?_) n s5 (live [] CO0 s5.heap s5.toks (fun b hb => absurd hb (by simp)) CO0_ok trivial (fun _ _ _ e => e) fun b hb => absurd hb (by simp))⟩
  exact ⟨.bl b, H', I', rfl, q⟩

theorem code_tuple_newG {a : Addr} {Fin : List V → Hp → Prop} {Q₁ : Value → Shared → Prop} {E : Value → Shared → Prop} {gn : Nat} (hr : Room k X.A) (hG : GMX X pins σ Fin NoCut Fits (.ref a) s) (hTI : s.TypeIs (.ref a) "generator")
    (hsz : ∀ ys H', Fin ys H' → ys.length ≤ sizeLine)
    (h : ∀ s' (us : List Value) ys H', Inv X pins σ H' s' → Vals ys us → Fin ys H' → Q₁ (.ref s'.heap.objs.size) { s' with heap := s'.heap.push { cls := .type "tuple", data := .seq us.toArray } }) :
    codeAny (model X.prog X.w) X.A.in1 (.call (.builtin "tuple.__new__") ⟨[.type "tuple", .ref a], []⟩) (wants Q₁ E) s := by
  refine codeAny_of_tree ?_
  show wpAny _ X.A.in1.in1 (do checkBuiltinCall "tuple.__new__" ⟨[.type "tuple", .ref a], []⟩; again (.builtin "tuple.__new__" ⟨[.type "tuple", .ref a], []⟩)) _ _ s
  refine wpAny_bind (wpAny_of_eq (F.newCall_tuple_1 _) (wpAny_pure ⟨plainId_quiet F.plain_tuple_new _, codeAny_builtin F.entry_tuple_new ?_⟩))
  rw [Around.under_plainId F.plain_tuple_new _]
  have hsub := sub_tuple_self
  have hinit := init_tuple_lookup
  have hmh := madeHere_tuple
  wp_walk using wpAny_typeOf hTI, collectG hr (fun _ _ _ _ h => in4_3 h) hG
  intro s' us ys H' I' r hf
  show wpAny _ _ (Builtin.Tuple.tupleExact us.toArray >>= fun v => ret v) _ _ _
  unfold Builtin.Tuple.tupleExact
  refine wpAny_bind (wpAny_newObj_type ?_ (by show us.toArray.size ≤ sizeLine; rw [List.size_toArray]; have := r.length; have := hsz _ _ hf; omega))
  exact wpAny_pure (h s' us ys H' I' r hf)

theorem pe_tupG (G : GE X c P k elt tg iter ifs scope own gpos wi g tt te) (hgl : Gl X "tuple") (hm : X.mg "tuple" = none) (hb : bootBuiltins "tuple" = some (.type "tuple") := by decide +kernel)
    (he : starEach [.GeneratorExp elt [⟨tg, iter, ifs, 0⟩] scope gpos] X.env = (false, eval (.GeneratorExp elt [⟨tg, iter, ifs, 0⟩] scope gpos) X.env) :: starEach [] X.env := by rfl) :
    PE X (.Call (.Name "tuple" p) [.GeneratorExp elt [⟨tg, iter, ifs, 0⟩] scope gpos] [] pos) (tTupG P wi g tt te (own.map (·.2))) := by
  refine ⟨fun pins s σ H Q I h => ?_⟩
  refine wpAny_Call_Name_kw (ld_blt I hgl hm hb ?_)
  refine PyProof.Rows.callWith_type1 ?_ he rfl
  rw [he]
  show wpAny _ _ (spliced ((false, eval (.GeneratorExp elt [⟨tg, iter, ifs, 0⟩] scope gpos) X.env) :: backTo pos (starEach [] X.env))) _ _ s
  refine Calls.spliced_cons (thn (G.run I h) fun u s5 hG => ?_)
  refine Calls.spliced_nil ?_
  obtain ⟨a, gn, n, rfl, hg, _⟩ := hG.live
  refine callType_codes (Q₁ := fun obj s₁ => s₁.TypeIs obj "tuple" ∧ EP X pins σ Q obj s₁) F.called_tuple (F.typeCall_tuple_1 _) F.entry_object_init
    (code_tuple_newG (gn := gn) G.hr hG hg.typeIs (fun ys H' hf => hf.1) fun s' us ys H' I' r hf => ⟨⟨_, Heap.get?_push_size _ rfl, rfl⟩, ?_⟩) fun obj s₁ h₁ => ?_
  · have hn : H' s'.heap.objs.size = none := I'.hok.fresh (Nat.le_refl _)
    refine ⟨.ref s'.heap.objs.size, upd H' s'.heap.objs.size (.tup ys), I'.laid (t' := s'.toks) (fun b o e => Heap.get?_push_of_some _ e) (Nat.le_refl _) ⟨hf.1, us, r, _, Heap.get?_push_size _ rfl, rfl, 0, by simp⟩, rfl, hf.2 _ hn⟩
  · exact ⟨h₁.1, F.args_object_init_2 obj _, object_init_meets F.called_tuple.init.lookup F.called_tuple.made (by decide) X.prog X.w X.A.in1 _ s₁ ⟨h₁.1, rfl, h₁.2⟩⟩
end
end
section
variable {X : Cx} {c P : Addr} {elt tg iter o : Expr} {ifs : List Expr} {scope : Scope} {own : List (Str × Nat)} {apos cpos gpos : Pos} {wi : TI} {g : TG} {tt : TT} {te to : TE} {k : Nat}
theorem vals_strs : ∀ {zs : List Str} {us : List Value}, Vals (zs.map V.str) us → ∃ l : List (Str × Tok), strValues l = us ∧ l.map (·.1) = zs := by
  intro zs
  induction zs with
  | nil =>
    intro us h
    cases h
    exact ⟨[], rfl, rfl⟩
  | cons z zs ih =>
    intro us h
    cases us with
    | nil => exact absurd h.length (by simp)
    | cons u us =>
      rw [List.map_cons] at h
      cases h with
      | cons r t =>
        obtain ⟨tk, rfl⟩ := r
        obtain ⟨l, rfl, e⟩ := ih t
        exact ⟨(z, tk) :: l, rfl, by rw [← e]; rfl⟩
theorem call_joinG {pins : List (Addr × Obj)} {σ : L2.St} {Q : VK} {a : Addr} {sep : Str} {tk : Tok} {s5 : Shared} {gn : Nat} (hr : Room k X.A) (hg : s5.heap.IsGen a gn)
    (hG : GMX X pins σ (fun ys H => ∃ zs : List Str, ys = zs.map V.str ∧ JoinOk sep zs = true ∧ Q (.str (Txt.join sep zs)) H) NoCut Fits (.ref a) s5) {E : Value → Shared → Prop} :
    wpAny (model X.prog X.w) X.A (call (.builtin "str.join") [.str sep tk, .ref a]) (EP X pins σ Q) E s5 := by
  refine wpAny_call (codeAny_call_builtin F.slot_str_join.plain F.entry_str_join (F.slot_str_join.check _ _ _ _ _ _ _ _ (typeIs_str _ _ _) (F.args_str_join_2 _ _) ?_))
  rw [join_tree_other]
  refine wpAny_bind (wpAny_typeOf hg.typeIs ?_)
  show wpAny _ X.A.in1 ((pyIter (.ref a)).tryCatch _ >>= fun it => collect it >>= fun items => joinTail sep items) _ _ s5
  refine wpAny_bind (wpAny_tryCatch (wpAny_pyIter_gen hg ?_))
  refine wpAny_bind (collectG hr (fun _ _ _ _ h => in4_2 h) hG fun s' us ys H' I' r hf => ?_)
  obtain ⟨zs, rfl, hok, hq⟩ := hf
  obtain ⟨l, rfl, el⟩ := vals_strs r
  have hok' : JoinOk sep (l.map (·.1)) = true := by rw [el]; exact hok
  have hpost : ∀ t' k, EP X pins σ Q (.str (Txt.join sep (l.map (·.1))) t') { s' with toks := k } := fun t' k => by
    rw [el]
    exact ⟨.str _, H', I'.tok k, ⟨t', rfl⟩, hq⟩
  clear r
  unfold JoinOk at hok'
  rw [Bool.not_eq_true'] at hok'
  have gv : Gives (joinTail sep (strValues l)) (joinMade sep l) := by
    have g0 := gives_joinTail sep l hok'
    cases l with
    | nil => exact g0
    | cons p r => cases r with
      | nil => exact g0
      | cons q r' => exact g0
  exact gv X.prog X.w X.A (wants _ _) s' (post_join l ⟨joinFit_length hok', hpost⟩)
theorem pe_joinG (ho : PE X o to) (G : GE X c P k elt tg iter ifs scope own gpos wi g tt te)
    (hbase : attributeBase o "join" X.env (eval o X.env) = eval o X.env := by rfl)
    (hfew : (([.GeneratorExp elt [⟨tg, iter, ifs, 0⟩] scope gpos] : List Expr).all (fun e => match e with | .Starred _ _ => false | _ => true)
      && ([] : List Keyword).all (fun k => match k with | ⟨none, _, _⟩ => false | _ => true)
      && decide (([.GeneratorExp elt [⟨tg, iter, ifs, 0⟩] scope gpos] : List Expr).length + ([] : List Keyword).length + (if ([] : List Keyword).isEmpty then 0 else 1) < 30)) = true := by rfl)
    (hline : (apos.endLine == cpos.line) = true := by rfl)
    (he : starEach [.GeneratorExp elt [⟨tg, iter, ifs, 0⟩] scope gpos] X.env = (false, eval (.GeneratorExp elt [⟨tg, iter, ifs, 0⟩] scope gpos) X.env) :: starEach [] X.env := by rfl)
    (hplain : (backTo cpos (starEach [] X.env)).any (·.1) = false := by rfl) :
    PE X (.Call (.Attribute o "join" apos) [.GeneratorExp elt [⟨tg, iter, ifs, 0⟩] scope gpos] [] cpos) (tJoinG P to wi g tt te (own.map (·.2))) := by
  refine ⟨fun pins s σ H Q I h => ?_⟩
  refine wpAny_Call_method_late hbase hfew hline rfl (thn (ho.run pins s σ H _ I h) fun v s1 ⟨x', H1, I1, r1, sep, ex, q1⟩ => ?_)
  subst ex
  obtain ⟨tk, rfl⟩ := (show ∃ t, v = Value.str sep t from r1)
  refine ⟨"str", _, PySem.F.plainAttrs_str, PySem.F.slot_str_join, PySem.F.type_str_join, typeIs_str _ _ _, (fun _ e => nomatch e), ?_⟩
  rw [he]
  refine Calls.callWith_builtin (by show (false || (backTo cpos (starEach [] X.env)).any (·.1)) = false; rw [hplain] <;> rfl) (Calls.evalArgs_plain ?_)
  show wpAny _ _ (spliced ((false, eval (.GeneratorExp elt [⟨tg, iter, ifs, 0⟩] scope gpos) X.env) :: backTo cpos (starEach [] X.env))) _ _ s1
  refine Calls.spliced_cons (thn (G.run I1 q1) fun u s5 hG => ?_)
  refine Calls.spliced_nil ?_
  obtain ⟨a, gn, n, rfl, hg, _⟩ := hG.live
  exact call_joinG G.hr hg hG
end
end GX

set_option Elab.async false
set_option linter.all false
set_option maxRecDepth 100000
set_option maxHeartbeats 4000000
/-! ### defs as they stand, their code objects named -/
namespace XT
open PySem PySem.Spec PyProof.Rows L2 L2H
structure FT (K : PySem.W.Frag) (x qual : Str) (ar : Arguments) (bd : List Stmt) (sc : Scope) (f c : Addr) (fd : FuncData) : Prop where
  ex : ∃ (oc : Value) (od : Option Addr) (kV doc pm : Value) (an : Option Addr) (ct : Value) (osl : Array (Option Value)),
    fd = PySem.W.fnOf x qual ar bd sc .none kV doc pm an (.ref c) ct ∧ K.lookup f = some ⟨oc, od, .func fd, osl⟩ ∧ PySem.W.codeIn K (.ref c) qual = true
  kp : PySem.W.keepIn K (.ref f) = true
section
variable {P : Program} {w : World} {K : PySem.W.Frag} {mg : Str → Option Value} {base : Heap} {x qual : Str} {ar : Arguments} {bd : List Stmt} {sc : Scope} {f c : Addr} {fd : FuncData} {N ps : List Str} {k : Nat} {sp : Sp}
theorem FT.ok {CX : CXT} (F : FT K x qual ar bd sc f c fd) (S : FnScope N ps sc) (len : ∀ vs H Q E, sp vs H Q E → vs.length = ps.length)
    (hbody : ∀ (A : Around) (outer : List Env) (s : Shared) (H : Hp) (vs : List V) (Q : VK) (E : XK), Room k (A.deeper (envOfC qual sc s.heap.objs.size f (.ref c))) → sp vs H Q E →
      ∃ t, PSs (cxOf CX P w K mg base N qual sc f (.ref c) A outer s H E) bd t ∧ t { nx := fun _ H' => Q .non H', rt := Q } (start N vs) H) : FnOk P w K mg base CX (k + 1) f fd ps sp := by
  obtain ⟨oc, od, kV, doc, pm, an, ct, osl, rfl, lk, hcd⟩ := F.ex
  exact fn_of lk hcd S len hbody
theorem FT.binds (F : FT K x qual ar bd sc f c fd)
    (h : ∀ (kV doc pm : Value) (an : Option Addr) (cdv ct : Value) (us : List Value), us.length = ps.length → bindArgs (PySem.W.fnOf x qual ar bd sc .none kV doc pm an cdv ct) ⟨us, []⟩ = pure (ps.zip us)) : Binds K fd ps [] := by
  obtain ⟨oc, od, kV, doc, pm, an, ct, osl, rfl, lk, hcd⟩ := F.ex
  exact .all (h kV doc pm an _ ct)
theorem FT.of {d : He.DefD} (hd : d.dfl = []) (F : FunD K d.name d.qual d.params d.body d.scope (d.dvs K) (d.kws K) (He.fAd K d.at_) fd) : FT K d.name d.qual d.params d.body d.scope (He.fAd K d.at_) (He.codeOf K d.at_) fd := by
  obtain ⟨oc, od, dV, kV, doc, pm, an, cdv, ct, osl, rfl, lk, hcd, hD, hK⟩ := F.ex
  obtain ⟨c, rfl⟩ := He.codeIn_ref hcd
  have e : He.codeOf K d.at_ = c := He.codeOf_eq lk rfl
  have hz : dV = .none := by
    rcases hD with ⟨_, h1⟩ | ⟨h1, _⟩
    · exact h1
    · exact absurd (by unfold He.DefD.dvs; rw [hd]; rfl) h1
  subst hz
  rw [e]
  exact ⟨⟨oc, od, kV, doc, pm, an, ct, osl, rfl, lk, hcd⟩, F.kp⟩

/-! ### a def that may be called while an exception is handled -/
structure FnA (P : Program) (w : World) (K : PySem.W.Frag) (mg : Str → Option Value) (base : Heap) (CX : CXT) (k : Nat) (f : Addr) (fd : FuncData) (ps : List Str) (sp : Sp) : Prop where
  len : ∀ vs H Q E, sp vs H Q E → vs.length = ps.length
  run : ∀ (A : Around) (outer : List Env) (s : Shared) (H : Hp) (args : Args) (us : List Value) (vs : List V) (Q : VK) (E : XK), RoomH k A → Env0 P w K mg base A outer s H → BindsTo s fd args (ps.zip us) → Vals vs us → sp vs H Q E →
    codeAny (model P w) A (.call (.ref f) args) (CR CX outer P w H s Q E) s
theorem FnA.ok {CX : CXT} (F : FnA P w K mg base CX k f fd ps sp) : FnOk P w K mg base CX k f fd ps sp := ⟨F.len, fun A outer s H args us vs Q E hr => F.run A outer s H args us vs Q E (roomH_of hr)⟩
def cxA (CX : CXT) (P : Program) (w : World) (K : PySem.W.Frag) (mg : Str → Option Value) (base : Heap) (N : List Str) (qual : Str) (scope : Scope) (f : Addr) (cd : Value) (A : Around) (outer : List Env) (s : Shared) (H : Hp) (E : XK) : Cx :=
  { cxOf CX P w K mg base N qual scope f cd A outer s H E with calm := false }
theorem inv_startA {CX : CXT} {P : Program} {w : World} {K : PySem.W.Frag} {mg : Str → Option Value} {base : Heap} {N ps : List Str} {qual : Str} {scope : Scope} {f : Addr} {cd : Value} {A : Around} {outer : List Env} {s s1 : Shared} {H : Hp} {E : XK} {us : List Value} {vs : List V}
    (S : FnScope N ps scope) (e0 : Env0 P w K mg base A outer s H) (hl : vs.length = ps.length) (r : Vals vs us)
    (x : InCallC s s.heap.objs.size (bindL (envOfC qual scope s.heap.objs.size f cd).kindOf (ps.zip us) fun _ => none) (cellsFrom (s.heap.objs.size + 1) scope.names []) (bindC (envOfC qual scope s.heap.objs.size f cd).kindOf (ps.zip us) fun _ => none) s1) :
    Inv (cxA CX P w K mg base N qual scope f cd A outer s H E) [] (L2.start N vs) H s1 := by
  have hpl : ps.length ≤ N.length := by have := congrArg List.length S.pre; rw [List.length_take] at this; omega
  obtain ⟨h1, tk, rfl, hk⟩ := x.done
  have noA : ∀ b : Addr, b ∉ (cxA CX P w K mg base N qual scope f cd A outer s H E).ex := fun b z => absurd (show b ∈ ([] : List Addr) from z) (by simp)
  refine ⟨⟨e0.mod, S.kind, rfl, rfl, Nat.le_refl _, fun y z c h1 h2 => ?_, fun y hy => ?_, fun y c _ h => ?_, (fun z => Bool.noConfusion (show false = true from z)), Around.frames_deeper e0.frames, .inr ⟨rfl, rfl⟩, fun b z => absurd z (noA b), e0.bs, e0.bsz, fun b _ _ => noA b, fun b z => absurd z (noA b), e0.funs, e0.frf⟩,
    rfl, e0.bare, Un.kept hk, ⟨_, x.toInCall.ns, fun i y v h1 h2 h3 => ?_⟩, fun y c h => ⟨_, x.cell y c h⟩, e0.hok.fresh (Nat.le_refl _), fun y c h => ?_, fun p hp => absurd (show p ∈ ([] : List (Addr × Obj)) from hp) (by simp), e0.hok.kept hk, ?_⟩
  · exact name_of_addr x.apart (PySem.mem_of_lookup h1) (PySem.mem_of_lookup h2)
  · have hy : scope.names.lookup y = some .cell ∨ scope.names.lookup y = some .free := hy
    rcases hy with hy | hy
    · exact cell_has hy
    · exact absurd rfl (S.nofree _ (PySem.mem_of_lookup hy))
  · exact Nat.le_of_lt (x.above y c (PySem.mem_of_lookup h))
  · have hi : i < vs.length := by
      unfold L2.start at h2
      by_cases hi : i < vs.length
      · exact hi
      · rw [List.getElem?_append_right (by simpa using hi)] at h2
        rw [List.getElem?_replicate] at h2
        split at h2 <;> cases h2
    have ha : vs[i]? = some v := by
      unfold L2.start at h2
      rw [List.getElem?_append_left (by simpa using hi), List.getElem?_map] at h2
      cases e : vs[i]? with
      | none => rw [e] at h2; cases h2
      | some a => rw [e] at h2; cases h2; rfl
    obtain ⟨u, hu, rv⟩ := r.get ha
    have hp : ps[i]? = some y := by
      rw [← S.pre, List.getElem?_take_of_lt (by omega)]; exact h1
    have ndP : ps.Nodup := by rw [← S.pre]; exact S.nd.sublist (List.take_sublist _ _)
    refine ⟨u, rv, ?_⟩
    rcases S.par y (List.mem_of_getElem? hp) with k | k
    · exact .inl ⟨k, bindL_get ndP hp hu k⟩
    · obtain ⟨c, e⟩ := cell_has (n := s.heap.objs.size + 1) k
      refine .inr ⟨.inl k, c, e, ?_⟩
      have q := x.cell y c e
      rw [bindC_get ndP hp hu (by show scope.names.lookup y ≠ _; rw [k]; decide)] at q
      exact q
  · exact e0.hok.fresh (Nat.le_of_lt (x.above y c (PySem.mem_of_lookup h)))
  · unfold L2.start
    show _ = N.length
    rw [List.length_append, List.length_map, List.length_replicate]
    omega
theorem fn_ofA {CX : CXT} {P : Program} {w : World} {K : PySem.W.Frag} {mg : Str → Option Value} {base : Heap} {k : Nat} {f : Addr} {name qual : Str} {params : Arguments} {body : List Stmt} {scope : Scope} {dV kV doc pm cdv ct oc : Value} {an od : Option Addr}
    {osl : Array (Option Value)} {N ps : List Str} {sp : Sp} (lk : K.lookup f = some ⟨oc, od, .func (PySem.W.fnOf name qual params body scope dV kV doc pm an cdv ct), osl⟩) (hcd : PySem.W.codeIn K cdv qual = true) (S : FnScope N ps scope)
    (len : ∀ vs H Q E, sp vs H Q E → vs.length = ps.length)
    (hbody : ∀ (A : Around) (outer : List Env) (s : Shared) (H : Hp) (vs : List V) (Q : VK) (E : XK), RoomH k (A.deeper (envOfC qual scope s.heap.objs.size f cdv)) → sp vs H Q E →
      ∃ t, PSs (cxA CX P w K mg base N qual scope f cdv A outer s H E) body t ∧ t { nx := fun _ H' => Q .non H', rt := Q } (L2.start N vs) H) :
    FnA P w K mg base CX (k + 1) f (PySem.W.fnOf name qual params body scope dV kV doc pm an cdv ct) ps sp := by
  refine ⟨len, fun A outer s H args us vs Q E hr e0 hb r hsp => ?_⟩
  have hl := len _ _ _ _ hsp
  have KX : K.In s.heap := e0.mod.kin.keeps fun b o e => (e0.bs b o e).1
  have lim : s.heap.NoLimit := e0.mod.nolimit.keeps fun b o e => (e0.bs b o e).1
  have hkind : ∀ y ∈ ps.zip us, scope.names.lookup y.1 = some .local ∨ (scope.names.lookup y.1 = some .cell ∧ ((cellsFrom (s.heap.objs.size + 1) scope.names []).lookup y.1).isSome = true) := fun ⟨n, v⟩ hy => by
    rcases S.par n (List.of_mem_zip hy).1 with q | q
    · exact .inl q
    · exact .inr ⟨q, PySem.W.cellsFrom_some _ _ _ (.inl q)⟩
  refine codeAny_call_function hr.depth (KX _ _ lk) rfl S.co S.gen rfl (PySem.W.codeRec_of KX hcd) (hb _ _ _ _ ?_)
  refine wpAny_newFunctionEnv_cells S.kind hkind fun env he s1 x => ?_
  subst he
  refine ⟨lim.keeps x.toInCall.keep, codeAny_func ?_⟩
  obtain ⟨t, ht, hq⟩ := hbody A outer s H vs Q E (hr.deeper _) hsp
  have I : Inv (cxA CX P w K mg base N qual scope f cdv A outer s H E) [] (L2.start N vs) H s1 := inv_startA S e0 hl r x
  refine wpAny_mono (ht.run [] s1 (L2.start N vs) H _ I hq) (fun fl s' hs => ?_) fun e s' hs => hs
  have fin : ∀ {σ' : L2.St} {H' : Hp} {v : V} {u : Value}, Inv (cxA CX P w K mg base N qual scope f cdv A outer s H E) [] σ' H' s' → RelV v u → Q v H' → CE outer P w H s Q u s' :=
    fun {σ' H' v u} J rv q => ⟨v, H', J.os, J.bare, J.base, J.hok, rv, q⟩
  cases fl with
  | ret u =>
    obtain ⟨v, σ', H', J, rv, q⟩ := hs
    exact fin J rv q
  | next =>
    obtain ⟨σ', H', J, q⟩ := hs
    exact fin (v := V.non) (u := Value.none) J rfl q
  | brk =>
    obtain ⟨_, _, _, q⟩ := hs
    exact False.elim q
  | cont =>
    obtain ⟨_, _, _, q⟩ := hs
    exact False.elim q
theorem FT.okA {CX : CXT} (F : FT K x qual ar bd sc f c fd) (S : FnScope N ps sc) (len : ∀ vs H Q E, sp vs H Q E → vs.length = ps.length)
    (hbody : ∀ (A : Around) (outer : List Env) (s : Shared) (H : Hp) (vs : List V) (Q : VK) (E : XK), RoomH k (A.deeper (envOfC qual sc s.heap.objs.size f (.ref c))) → sp vs H Q E →
      ∃ t, PSs (cxA CX P w K mg base N qual sc f (.ref c) A outer s H E) bd t ∧ t { nx := fun _ H' => Q .non H', rt := Q } (L2.start N vs) H) : FnA P w K mg base CX (k + 1) f fd ps sp := by
  obtain ⟨oc, od, kV, doc, pm, an, ct, osl, rfl, lk, hcd⟩ := F.ex
  exact fn_ofA lk hcd S len hbody
end
section
variable {X : Cx} {CX : CXT} {k : Nat} {f : Addr} {fd : FuncData} {ps : List Str} {sp : Sp} {E : XK} {x : Str} {q pos : Pos} {e : Expr} {es : List Expr} {t : TA}
/-- f(e, ..) whatever is handled -/
theorem pe_callA (F : FnA X.prog X.w X.K X.mg X.base CX k f fd ps sp) (hr : RoomH k X.A) (hg : Gl X x) (hm : X.mg x = some (.ref f)) (hk : PySem.W.keepIn X.K (.ref f) = true) (hb : Binds X.K fd ps []) (hx : Passes CX X E)
    (ha : PA X (e :: es) t) (hdb : (x == ("__debug__" : Str)) = false := by decide) (he : starEach (e :: es) X.env = (false, eval e X.env) :: starEach es X.env := by rfl) (hpl : (backTo pos (starEach es X.env)).any (·.1) = false := by rfl) :
    PE X (.Call (.Name x q) (e :: es) [] pos) (tCall sp [] E t) := by
  refine ⟨fun pins s σ H Q I h => ?_⟩
  refine wpAny_Call_Name_kw (ld_glob I hg hm ?_ hdb)
  refine PySem.W.callWith_K (h₀ := X.base) I.ok.mod.kin hk (thn (ha.run pos pins s σ H _ I h) fun us s1 ⟨vs, H1, I1, r, q⟩ => ⟨I1.kIn, ?_⟩) he hpl
  have q : sp (vs ++ []) H1 Q E := q
  rw [List.append_nil] at q
  have hl : us.length = ps.length := by rw [← r.length]; exact F.len _ _ _ _ q
  have b := hb s1 us I1.kIn (by rw [List.append_nil]; exact hl)
  rw [List.append_nil] at b
  refine wpAny_call (codeAny_mono (F.run X.A X.stack s1 H1 ⟨us, []⟩ us vs Q E hr I1.env0 b r q) fun r s' hq => ?_)
  cases r with
  | error e => exact hx pins σ H1 s1 e s' I1 hq
  | ok fl =>
    cases fl with
    | ret u => exact I1.after hq
    | next => exact False.elim hq
    | brk => exact False.elim hq
    | cont => exact False.elim hq
end
end XT

/-! ### isinstance of a caught error that has fields -/
namespace PySem.W
open PySem PySem.Spec PySem.Calls PyProof.Rows
section
variable {prog : Program} {w : World} {A : Around} {E : Value → Shared → Prop} {s : Shared} {K : Frag} {x D : Addr} {ox : Obj} {od : Option Obj}
theorem xt_findObj {C : Addr} {name : Str} {a g : Value} (hc : (clsIn K C).isSome = true) (ha : findIn K (.ref C) name = some (some a)) (hg : specialIn K a "__get__" = some (some g)) (ht : takesIn K a = some true) : findObj K C od name = some (.bind g a) := by
  obtain ⟨cd, hc⟩ := Option.isSome_iff_exists.mp hc
  unfold findObj
  rw [hc, Option.bind_some, ha, Option.bind_some]
  simp [hg, ht]
theorem xt_kin_classE {Q : Option Value → Shared → Prop} (hga : findIn K (.ref D) "__getattribute__" = some (some (.builtin "BaseException.__getattribute__"))) (hgt : findIn K (.ref D) "__getattr__" = some none) (hsub : subIn K (.ref D) (.type "BaseException") = some true)
    (hdct : hasDictIn K D = true) (ha : findIn K (.ref D) "__class__" = some (some (.builtin "object.__class__")))
    (hn : specialIn K (.builtin "object.__class__") "__get__" = some (some (.builtin "getset_descriptor.__get__"))) (htk : takesIn K (.builtin "object.__class__") = some true) (hm : mroIn K D (.type "object") = some true)
    (X : K.In s.heap) (I : InstAt s.heap x ox D od) (h : Q (some (.ref D)) { s with toks := s.toks + 1 }) : wpAny (model prog w) A (getAttr? (.ref x) "__class__") Q E s := by
  have hf : findObj K D od "__class__" = some (.bind (.builtin "getset_descriptor.__get__") (.builtin "object.__class__")) := xt_findObj (by obtain ⟨cd, hc, _⟩ := any_some hdct; rw [hc]; rfl) ha hn htk
  obtain ⟨hp, g, d, t, os⟩ := s
  have L0 := I.type (M := model prog w)
  have L1 := looks_findIn (M := model prog w) X hga
  have L2 := looks_findIn (M := model prog w) X hgt
  have L3 := looks_find (M := model prog w) X I hf
  have sub : Looks (model prog w) hp (isInstance (.ref x) (.type "BaseException")) true := L0.andThen (looks_subIn X hsub)
  have hx0 : (false && onTheHeap (Value.builtin "BaseException.__getattribute__")) = false := rfl
  have hx2 : (Value.builtin "BaseException.__getattribute__" == Value.builtin "object.__getattribute__") = false := by decide +kernel
  have hx1 : (onTheHeap (Value.ref D) && Value.builtin "BaseException.__getattribute__" == Value.builtin "object.__getattribute__") = false := by rw [hx2]; rfl
  unfold getAttr? getAttrBy? getAttrBy
  refine wpAny_bind (wpAny_mkText (wpAny_bind (wpAny_attempt (wpAny_holding (wpAny_bind (L0.at (wpAny_bind (L1.at ?_))))))))
  show wpAny _ _ (if (onTheHeap (Value.ref D) && Value.builtin "BaseException.__getattribute__" == Value.builtin "object.__getattribute__") = true then _ else _) _ _ _
  rw [hx1, if_neg Bool.false_ne_true]
  unfold getAttrByItsOwn hookBefore
  refine wpAny_bind ?_
  rw [if_pos (show onTheHeap (Value.ref D) = true from rfl)]
  refine L2.at ?_
  refine wpAny_bind (wpAny_attempt (wpAny_holding ?_))
  unfold callGetattribute
  rw [hx0, if_neg Bool.false_ne_true]
  unfold boundAndCalled
  rw [PySem.F.excAttr_ValueError.ga.bind (.ref x)]
  refine wpAny_bind (wpAny_pure ?_)
  show wpAny _ _ (call (.builtin "BaseException.__getattribute__") [.ref x, .str "__class__" t]) _ _ _
  refine wpAny_call (codeAny_call_builtin PySem.F.excAttr_ValueError.ga.plain PySem.F.entry_bexc_ga ?_)
  refine @check_slot (model prog w) _ _ ⟨hp, g, d, t + 1, os⟩ "BaseException.__getattribute__" "BaseException" "__getattribute__" (.ref x) [.str "__class__" t] [] _ (by decide +kernel) (by decide +kernel) sub (PySem.F.args_bexc_ga (.ref x) (.str "__class__" t)) ?_
  unfold Builtin.«object.__getattribute__»
  refine wpAny_bind (wpAny_of_eq (a := ((Value.ref x : Value), [Value.str "__class__" t])) (by first | rfl | (simp only [slotArgs]; rfl)) ?_)
  refine wpAny_bind (wpAny_pure (wpAny_bind (L0.at (wpAny_bind (L3.at ?_)))))
  show wpAny _ _ (holding [Value.builtin "object.__class__"] (call (.builtin "getset_descriptor.__get__") [.builtin "object.__class__", .ref x, .ref D]) >>= ret) _ _ _
  refine wpAny_bind (wpAny_holding (wpAny_call (class_get (s := ⟨hp, g, d, t + 1, os⟩) (ox := ox) (od := od) X I hm ?_)))
  refine wpAny_pure ?_
  show wpAny _ _ (handedOut (.ref D)) _ _ _
  rw [handedOut_of (v := .ref D) rfl]
  first
    | exact wpAny_pure (wpAny_pure h)
    | exact wpAny_pure h
    | exact wpAny_pure (wpAny_bind (wpAny_pure (wpAny_pure h)))
theorem xt_kitx (hga : findIn K (.ref D) "__getattribute__" = some (some (.builtin "BaseException.__getattribute__"))) (hgt : findIn K (.ref D) "__getattr__" = some none) (hsub : subIn K (.ref D) (.type "BaseException") = some true) (hdct : hasDictIn K D = true) (ha : findIn K (.ref D) "__class__" = some (some (.builtin "object.__class__")))
    (hn : specialIn K (.builtin "object.__class__") "__get__" = some (some (.builtin "getset_descriptor.__get__"))) (htk : takesIn K (.builtin "object.__class__") = some true) (hm : mroIn K D (.type "object") = some true) :
    KitX K (.ref x) (.ref D) (fun h => InstAt h x ox D od) where
  ty := fun _ _ _ I => I.type
  it := fun _ _ X _ => by
    obtain ⟨cdD, hcD, _⟩ := any_some hdct
    unfold clsIn at hcD
    split at hcD
    · rename_i c' d' cd' sl' ho
      intro A' Q' E' s' k q
      unfold isType loadHead
      exact wpAny_bind (wpAny_loadPart (k _ _ (X _ _ ho)) (wpAny_pure q))
    · cases hcD
  ne := fun h tp dd its n sl X htp => by
    obtain ⟨cdD, hcD, _⟩ := any_some hdct
    refine Bool.eq_false_iff.mpr fun q => ?_
    have e : D = tp := Value.ref.inj (beq_iff_eq.mp q)
    subst e
    unfold clsIn at hcD
    split at hcD
    · rename_i c' d' cd' sl' ho
      have z := (X _ _ ho).symm.trans htp
      cases z
    · cases hcD
  ca := fun X I k => xt_kin_classE hga hgt hsub hdct ha hn htk hm X I k
end
end PySem.W
namespace XT
open PySem PySem.Spec PyProof.Rows L2 L2H
/-- isinstance(e, c), e the exception that the suite holds: a its address, cls its class, d its dict -/
def rIsX (K : PySem.W.Frag) (a : Addr) (cls : Value) (d : Option Addr) (D : Addr) : List V → Hp → VK → Prop := fun xs H Q => ∃ (c : V) (cv : Value) (b : Bool) (dd : Addr) (fs : List (Str × V)),
  xs = [.ref a, c] ∧ cls = .ref D ∧ d = some dd ∧ H dd = some (.xd fs) ∧ (∀ u, RelV c u → u = cv) ∧ PySem.W.kitOne K (.ref D) cv = some b ∧ Q (.bl b) H
theorem call_isX {X : Cx} {a D : Addr} {oe : Obj} {cls : Value} {d : Option Addr} {pn : List (Addr × Obj)} (C : ExcC X.K D) (hz : Zc cls d oe) (hf : ∃ vs, oe.data = .fields vs) : CallR (X.suite a ((a, oe) :: pn)) (.builtin "isinstance") (rIsX X.K a cls d D) := by
  intro pins s σ H xs us Q I r h
  obtain ⟨c, cv, b, dd, fs, rfl, rfl, rfl, hdd, hcv, e, q⟩ := h
  cases r with
  | cons rx rr =>
    cases rr with
    | cons rt rr =>
      cases rr
      cases rx
      have ec := hcv _ rt
      subst ec
      obtain ⟨hget, _⟩ := I.pin (a, oe) (List.mem_append.mpr (.inl List.mem_cons_self))
      obtain ⟨vs, hv⟩ := hf
      have hx : ObjOk X.prog X.w H s.heap dd (.xd fs) := I.hok dd _ hdd
      obtain ⟨mA, hns, hr⟩ := hx
      obtain ⟨od, es, ep, ho, hl⟩ := hns
      have J : PySem.W.InstAt s.heap a oe D (some od) := by
        obtain ⟨oc, ode, oda, osl⟩ := oe
        obtain ⟨h1, h2⟩ := hz
        dsimp only at h1 h2 hv
        subst h1 h2 hv
        exact ⟨hget, rfl, rfl, ho⟩
      exact PySem.W.kia_one (PySem.W.xt_kitx C.hg C.hk C.hs C.hd C.ha C.hn C.ht C.hm) I.kIn J e (fun z => nomatch z) fun tk => ⟨.bl b, H, I.kept (t' := tk) fun _ _ z => z, rfl, q⟩

/-! ### try: .. except X as n: .. except Y: .. -/
def wAsM (K : PySem.W.Frag) (c : Value) (i : Nat) (ts : Addr → Value → Option Addr → TS) (Wr : Ends → WX) (D : Ends) : WX := fun cls d σ H =>
  ∃ b, PySem.W.exmOne K cls c = some b ∧ (b = true → ∀ a, H a = none → ts a cls d { nx := fun σ' H' => D.nx (σ'.set i none) H', rt := D.rt, bk := fun σ' H' => D.bk (σ'.set i none) H', ct := fun σ' H' => D.ct (σ'.set i none) H' } (σ.set i (some (.ref a))) H) ∧
    (b = false → Wr D cls d σ H)
section
variable {X : Cx} {x n : Str} {c : Value} {i : Nat} {body suite : List Stmt} {b₀ : Stmt} {np pos pos' : Pos} {hds : List ExceptHandler} {l : List (Value × (Addr → Value → Option Addr → TS))} {tb : WX → TS} {ts : Addr → Value → Option Addr → TS} {Wout : WX}
theorem ps_try_asM (hs : X.stack = X.env :: X.outer) (hf : X.env.frame = some X.env.locals) (hN : X.N.Nodup) (hi : X.N[i]? = some n) (hln : X.env.kindOf n = some .local) (hc : Names X x c) (tk : Takes X Wout)
    (hb : ∀ (W : WX) (pn : List (Addr × Obj)) (xe : Value → Shared → Prop), Takes (X.tr pn xe) W → PassesOwn (model X.prog X.w) X.A X.env xe → PSs (X.tr pn xe) body (tb W))
    (hsu : ∀ (a : Addr) (oe : Obj) (cls : Value) (d : Option Addr) (pn : List (Addr × Obj)), Zc cls d oe → (∃ vs, oe.data = .fields vs) → PSs (X.suite a ((a, oe) :: pn)) (b₀ :: suite) (ts a cls d))
    (hh : HdsOk X hds l) :
    PS X (.Try body (.ExceptHandler (some (.Name x np)) (some n) (b₀ :: suite) pos' :: hds) [] [] pos) (fun D σ H => tb (wAsM X.K c i ts (fun D => wMany X.K Wout D l) D) D σ H) := by
  refine ⟨fun pins s σ H D I h => ?_⟩
  have ok := I.ok
  have hfr : X.A.frames = some (X.env :: X.outer) := by rw [ok.frames, hs]
  have hloc : Loc X.env.scope n := .inl hln
  refine wpAny_Try_except ?_
  refine wpAny_mono ((hb (wAsM X.K c i ts (fun D => wMany X.K Wout D l) D) (X.pn ++ pins) (fun e s₁ => wpAny (model X.prog X.w) X.A (noteFrame e X.env) (fun _ s₂ => wpAny (model X.prog X.w) X.A (setFlight e none) (fun _ s₃ =>
    wpAny (model X.prog X.w) X.A (handleBy e X.env (.ExceptHandler (some (.Name x np)) (some n) (b₀ :: suite) pos' :: hds)) (SP X pins D) X.xe s₃) X.xe s₂) X.xe s₁) (fun u s' xx => ?_) PassesOwn.looking).run [] s σ H D (I.toTry _) h) (fun f s1 hsp => ?_) (fun e s1 he => he)
  · -- the catch
    obtain ⟨a, B, sI, pins', σ', H', cls, d, rfl, J', nb, up, sky, na, os, ag, b, hb1, hyes, hno⟩ := xx
    have J : Inv X pins σ' H' sI := J'.ofTry ok
    have sky' : Sky B (X.env :: X.outer) a (Zc cls d) X.env.locals s'.heap := by rw [← hs]; exact sky
    show wpAny (model X.prog X.w) X.A (noteFrame (.ref a) X.env) _ _ _
    refine Sky.land Zc.steady hfr hf sky' fun h3 fl3 up3 => ?_
    have J3 : Inv X pins σ' H' { s' with heap := h3 } := J.landed nb fl3.1 (up.trans up3) os ag
    obtain ⟨oe3, vs3, he3, hz3, hd3⟩ := fl3.there
    have notFr : ∀ {h : Heap} {o : Obj} {vs : Array Value}, h.FunFrames B (X.env :: X.outer) → h.get? a = some o → o.data = .fields vs → a ∉ frs (X.env :: X.outer) := fun {h o vs} ff e dd hm => by
      obtain ⟨_, o', e', hnf⟩ := ff.mem hm
      rw [e] at e'; cases e'
      exact hnf _ dd
    have nfr := notFr fl3.2.2.1 he3 hd3
    have nL : a ≠ X.env.locals := fun z => nfr (List.mem_filterMap.mpr ⟨X.env, List.mem_cons_self, by rw [hf, z]⟩)
    have nF : a ∉ X.fs := fun hm => by
      obtain ⟨e, he, q⟩ := List.mem_filterMap.mp hm
      exact nfr (List.mem_filterMap.mpr ⟨e, List.mem_cons_of_mem _ he, q⟩)
    have S3 := J3.suite he3 hd3 na nL nF
    have LT : PySem.W.Looks (model X.prog X.w) h3 (typeOf (.ref a)) cls := fun A Q E s k q => wpAny_typeOf_ref (k _ _ he3) (by rw [hz3.1]; exact q)
    have go : ∀ {hds' : List ExceptHandler} {l' : List (Value × (Addr → Value → Option Addr → TS))}, HdsOk X hds' l' → wMany X.K Wout D l' cls d σ' H' →
        wpAny (model X.prog X.w) X.A (handleBy (.ref a) X.env hds') (SP X pins D) X.xe { s' with heap := h3 } := by
      intro hds' l' hk
      induction hk with
      | nil =>
        intro w
        refine wpAny_handleBy_nil ?_
        obtain ⟨k1, k2, k3, oe, vs, T, oT, ts', he, hz, hd, h1, hr⟩ := id fl3
        unfold PySem.passOn
        refine wpAny_bind (wpAny_field he hd h1 ?_)
        rw [if_neg (show ¬ ((Value.ref T == Value.none) = true) from by simp)]
        have fin : wpAny (model X.prog X.w) X.A (setFlight (.ref a) X.env.frame) (fun _ s4 => wpAny (model X.prog X.w) X.A (throw (.ref a) : Sem Flow) (SP X pins D) X.xe s4) X.xe { s' with heap := h3 } := by
          rw [hf]
          refine HandSPX.setFlight_upZ fl3 fun h4 hh4 up4 => wpAny_throw (tk _ _ ?_)
          exact ⟨a, B, sI, pins, σ', H', cls, d, rfl, J, nb, (up.trans up3).trans up4, .inr (.inr (by rw [hs]; exact hh4)), na, os, ag, w⟩
        first
          | exact wpAny_bind (wpAny_pure (wpAny_bind fin))
          | exact wpAny_bind fin
      | @cons x c ts b₀ suite np pos' hds2 l2 hc hsu r ih =>
        intro w
        obtain ⟨b, hb1, hyes, hno⟩ := w
        refine wpAny_handleBy_cons (codeAny_handlers_test ?_) (by intro q; cases q)
        have LM := PySem.W.exm_one (M := model X.prog X.w) (J3.kIn) LT hb1
        have test : ∀ {Q : Value → Shared → Prop} {E : Value → Shared → Prop}, Q c { s' with heap := h3 } → wpAny (model X.prog X.w) (X.A.mark (some (.ref a))) (eval (.Name x np) X.env) Q E { s' with heap := h3 } := fun {Q E} q => by
          obtain ⟨hg, hdbg, hm | ⟨hm, hv, hnn⟩⟩ := hc
          · exact ld_glob (X := X.suite a ((a, oe3) :: (X.pn ++ pins))) S3 hg hm q hdbg
          · exact ld_blt (X := X.suite a ((a, oe3) :: (X.pn ++ pins))) S3 hg hm hv q hnn hdbg
        refine test (LM.here ?_)
        cases b with
        | true =>
          refine codeAny_handlers_suite ?_
          refine HandSPX.lands_againZ fl3 fun h4 fl4 up4 => ?_
          have J4 : Inv X pins σ' H' { s' with heap := h4 } := J.landed nb fl4.1 ((up.trans up3).trans up4) os ag
          obtain ⟨oe4, vs4, he4, hz4, hd4⟩ := fl4.there
          have S4 := J4.suite he4 hd4 na nL nF
          refine wpAny_mono ((hsu a oe4 cls d (X.pn ++ pins) hz4 ⟨_, hd4⟩).run [] _ _ H' _ S4 (hyes rfl a na)) (fun f s6 hsp => ?_) (fun _ _ z => False.elim z)
          cases f with
          | next =>
            obtain ⟨σ6, H6, S6, q6⟩ := hsp
            exact ⟨_, _, S6.unsuite ok, q6⟩
          | brk =>
            obtain ⟨σ6, H6, S6, q6⟩ := hsp
            exact ⟨_, _, S6.unsuite ok, q6⟩
          | cont =>
            obtain ⟨σ6, H6, S6, q6⟩ := hsp
            exact ⟨_, _, S6.unsuite ok, q6⟩
          | ret u =>
            obtain ⟨v6, σ6, H6, S6, r6, q6⟩ := hsp
            exact ⟨_, _, _, S6.unsuite ok, r6, q6⟩
        | false =>
          show wpAny _ X.A (handleBy (.ref a) X.env hds2) _ _ _
          exact ih (hno rfl)
    refine wpAny_handleBy_cons (codeAny_handlers_test ?_) (by intro q; cases q)
    have LM := PySem.W.exm_one (M := model X.prog X.w) (J3.kIn) LT hb1
    have test : ∀ {Q : Value → Shared → Prop} {E : Value → Shared → Prop}, Q c { s' with heap := h3 } → wpAny (model X.prog X.w) (X.A.mark (some (.ref a))) (eval (.Name x np) X.env) Q E { s' with heap := h3 } := fun {Q E} q => by
      obtain ⟨hg, hdbg, hm | ⟨hm, hv, hnn⟩⟩ := hc
      · exact ld_glob (X := X.suite a ((a, oe3) :: (X.pn ++ pins))) S3 hg hm q hdbg
      · exact ld_blt (X := X.suite a ((a, oe3) :: (X.pn ++ pins))) S3 hg hm hv q hnn hdbg
    refine test (LM.here ?_)
    cases b with
    | true =>
      refine codeAny_handlers_suite_as ?_
      refine HandSPX.lands_againZ fl3 fun h4 fl4 up4 => ?_
      have J4 : Inv X pins σ' H' { s' with heap := h4 } := J.landed nb fl4.1 ((up.trans up3).trans up4) os ag
      obtain ⟨oe4, vs4, he4, hz4, hd4⟩ := fl4.there
      have S4 := J4.suite he4 hd4 na nL nF
      refine store_ok (X := X.suite a ((a, oe4) :: (X.pn ++ pins))) (v := .ref a) S4 hN hi hloc rfl (fun s5 S5 => ?_) (.inr hln)
      refine wpAny_mono ((hsu a oe4 cls d (X.pn ++ pins) hz4 ⟨_, hd4⟩).run [] s5 _ H' _ S5 (hyes rfl a na)) (fun f s6 hsp => ?_) (fun _ _ z => False.elim z)
      have end_ : ∀ {σ6 : L2.St} {H6 : Hp} {Q : Shared → Prop}, Inv (X.suite a ((a, oe4) :: (X.pn ++ pins))) [] σ6 H6 s6 → (∀ s7, Inv X pins (σ6.set i none) H6 s7 → Q s7) →
          wpAny (model X.prog X.w) X.A (do bindName X.env n .none; unbindBehindTheSuite X.env n pos') (fun _ s7 => Q s7) X.xe s6 := fun {σ6 H6 Q} S6 hq => gone_ok (S6.unsuite ok) hN hi hln hq
      cases f with
      | next =>
        obtain ⟨σ6, H6, S6, q6⟩ := hsp
        exact end_ S6 fun s7 J7 => ⟨_, _, J7, q6⟩
      | brk =>
        obtain ⟨σ6, H6, S6, q6⟩ := hsp
        exact end_ S6 fun s7 J7 => ⟨_, _, J7, q6⟩
      | cont =>
        obtain ⟨σ6, H6, S6, q6⟩ := hsp
        exact end_ S6 fun s7 J7 => ⟨_, _, J7, q6⟩
      | ret u =>
        obtain ⟨v6, σ6, H6, S6, r6, q6⟩ := hsp
        exact end_ S6 fun s7 J7 => ⟨_, _, _, J7, r6, q6⟩
    | false =>
      show wpAny _ X.A (handleBy (.ref a) X.env hds) _ _ _
      exact go hh (hno rfl)
  · cases f with
    | next =>
      obtain ⟨σ', H', J', q⟩ := hsp
      exact wpAny_execs_nil ⟨σ', H', J'.ofTry ok, q⟩
    | brk =>
      obtain ⟨σ', H', J', q⟩ := hsp
      exact ⟨σ', H', J'.ofTry ok, q⟩
    | cont =>
      obtain ⟨σ', H', J', q⟩ := hsp
      exact ⟨σ', H', J'.ofTry ok, q⟩
    | ret u =>
      obtain ⟨v, σ', H', J', r, q⟩ := hsp
      exact ⟨v, σ', H', J'.ofTry ok, r, q⟩
end
end XT

/-! ### what a class of errors must say -/
namespace XT
open PySem PySem.Spec PyProof.Rows L2 L2H
def oexB (K : PySem.W.Frag) (C : Addr) : Bool := match K.lookup C with
  | some ⟨.type "type", _, .cls cd, sl⟩ => (match cd.mro, sl.toList with
    | .ref C' :: bm, [_, _, _, _, some (.builtin n), _] => decide (C' = C) && (decide (n = "ValueError.__new__") && (!cd.hasDel && (cd.hasDict && PySem.HandSPX.refsVE bm)))
    | _, _ => false)
  | _ => false
theorem oexB_ok {K : PySem.W.Frag} {C : Addr} (h : oexB K C = true) : ∃ nm q N bs bm sn sub ab col dd k0 k1 k2 k3 k5,
    K.lookup C = some (excClassObj nm q C N bs bm true sn sub ab col dd k0 k1 k2 k3 k5 "ValueError.__new__") ∧ PySem.HandSPX.refsVE bm = true := by
  unfold oexB at h
  split at h
  · rename_i dd cd sl lk
    split at h
    · rename_i C' bm k0 k1 k2 k3 n k5 hm hs
      obtain ⟨nm, bs, mro, N, q, hd, sn, sub, ab, col, del⟩ := cd
      dsimp only at h hm
      obtain ⟨h1, h⟩ := Bool.and_eq_true_iff.mp h
      obtain ⟨h2, h⟩ := Bool.and_eq_true_iff.mp h
      obtain ⟨h3, h⟩ := Bool.and_eq_true_iff.mp h
      obtain ⟨h4, h5⟩ := Bool.and_eq_true_iff.mp h
      have e1 : C' = C := of_decide_eq_true h1
      have e2 : n = "ValueError.__new__" := of_decide_eq_true h2
      have e3 : del = false := by
        cases del with
        | false => rfl
        | true => cases h3
      have e5 : sl = #[k0, k1, k2, k3, some (.builtin n), k5] := by
        obtain ⟨l⟩ := sl
        exact congrArg Array.mk hs
      subst hm e1 e2 e3 e5
      have e4 : hd = true := h4
      subst e4
      exact ⟨nm, q, N, bs, bm, sn, sub, ab, col, dd, k0, k1, k2, k3, k5, lk, h5⟩
    · cases h
  · cases h
/-- the facts of a class of errors whose __init__ stands at fI -/
structure ExF (K : PySem.W.Frag) (C fI : Addr) : Prop where
  oex : OexC K C
  xf : XfC K C
  ec : ExcC K C
  iC : PySem.W.findIn K (.ref C) "__init__" = some (some (.ref fI))
  tI : PySem.W.typeIn K (.ref fI) = some (.type "function")
def exfB (K : PySem.W.Frag) (C fI : Addr) : Bool :=
  oexB K C && (decide (PySem.W.findIn K (.ref C) "__setattr__" = some (some (.builtin "object.__setattr__"))) && (decide (PySem.W.typeIn K (.ref C) = some (.type "type")) && (PySem.W.keepIn K (.ref C) && (xfB K C &&
    (decide (PySem.W.findIn K (.ref C) "__class__" = some (some (.builtin "object.__class__"))) && (decide (PySem.W.specialIn K (.builtin "object.__class__") "__get__" = some (some (.builtin "getset_descriptor.__get__"))) &&
      (decide (PySem.W.takesIn K (.builtin "object.__class__") = some true) && (decide (PySem.W.mroIn K C (.type "object") = some true) &&
        (decide (PySem.W.findIn K (.ref C) "__init__" = some (some (.ref fI))) && decide (PySem.W.typeIn K (.ref fI) = some (.type "function")))))))))))
theorem exfB_ok {K : PySem.W.Frag} {C fI : Addr} (h : exfB K C fI = true) : ExF K C fI := by
  obtain ⟨h1, h⟩ := Bool.and_eq_true_iff.mp h
  obtain ⟨h2, h⟩ := Bool.and_eq_true_iff.mp h
  obtain ⟨h3, h⟩ := Bool.and_eq_true_iff.mp h
  obtain ⟨h4, h⟩ := Bool.and_eq_true_iff.mp h
  obtain ⟨h5, h⟩ := Bool.and_eq_true_iff.mp h
  obtain ⟨h6, h⟩ := Bool.and_eq_true_iff.mp h
  obtain ⟨h7, h⟩ := Bool.and_eq_true_iff.mp h
  obtain ⟨h8, h⟩ := Bool.and_eq_true_iff.mp h
  obtain ⟨h9, h⟩ := Bool.and_eq_true_iff.mp h
  obtain ⟨h10, h11⟩ := Bool.and_eq_true_iff.mp h
  have xf := xfB_ok h5
  exact ⟨⟨oexB_ok h1, of_decide_eq_true h2, xf.exC, of_decide_eq_true h3, h4⟩, xf, ⟨xf.ga, xf.gg, xf.exC, xf.hdC, of_decide_eq_true h6, of_decide_eq_true h7, of_decide_eq_true h8, of_decide_eq_true h9⟩, of_decide_eq_true h10, of_decide_eq_true h11⟩

/-! ### an __init__ of two fields; raised -/
def spInit2 (C : Addr) (f1 f2 : Str) : Sp := fun vs H Q _ => ∃ (a : Addr) (v1 v2 : V), vs = [.ref a, v1, v2] ∧ H a = some (exo a C none) ∧
  ∀ dx, H dx = none → dx ≠ a → Q .non (upd (upd (upd H dx (exd dx [(f1, v1)])) a (exo a C (some dx))) dx (exd dx [(f2, v2), (f1, v1)]))
theorem read_init2 {K : PySem.W.Frag} {C : Addr} {f1 f2 : Str} {N : List Str} {vs : List V} {H : Hp} {Q : VK} {E : XK} (T : OexC K C) (n1 : PySem.W.findIn K (.ref C) f1 = some none) (n2 : PySem.W.findIn K (.ref C) f2 = some none) (h : spInit2 C f1 f2 vs H Q E) (hN : N.length = 3) :
    tSeq (tOst K f1 (tVar 0) (tVar 1)) (tSeq (tOst K f2 (tVar 0) (tVar 2)) tNext) { nx := fun _ H' => Q .non H', rt := Q } (start N vs) H := by
  obtain ⟨a, v1, v2, rfl, ea, q⟩ := h
  refine ⟨v1, rfl, .ref a, rfl, a, C, rfl, T, n1, .inl ⟨ea, fun dx hd hne => ?_⟩⟩
  refine ⟨v2, rfl, .ref a, rfl, a, C, rfl, T, n2, .inr ⟨dx, [(f1, v1)], upd_same, ?_, by simp, ?_⟩⟩
  · rw [upd_ne hne, upd_same]
  · exact q dx hd hne
/-- C(v1, v2) as what is raised -/
theorem mk2 {C : Addr} {f1 f2 : Str} {ta : TA} {σ : L2.St} {H : Hp} {Q : XK} (h : ta σ H fun vs H1 => ∃ v1 v2, vs = [v1, v2] ∧ ∀ d, H1 d = none → Q (.ref C) (some d) (upd H1 d (.xd [(f2, v2), (f1, v1)])))
    (mono : ∀ (Q1 Q2 : List V → Hp → Prop), (∀ vs H, Q1 vs H → Q2 vs H) → ta σ H Q1 → ta σ H Q2) : tMkO C (spInit2 C f1 f2) [] ta σ H Q := by
  refine mono _ _ (fun vs H1 ⟨v1, v2, e, q⟩ => ?_) h
  subst e
  refine ⟨by simp, fun a ha => ⟨a, v1, v2, rfl, upd_same, fun dx hd hne => ⟨rfl, dx, [(f2, v2), (f1, v1)], ?_, upd_same, ?_, ?_⟩⟩⟩
  · rw [upd_ne (Ne.symm hne), upd_same]
  · rw [upd_ne hne] at hd; exact hd
  · have hd' : H1 dx = none := by rw [upd_ne hne] at hd; exact hd
    have e : upd (del (upd (upd (upd (upd H1 a (exo a C none)) dx (exd dx [(f1, v1)])) a (exo a C (some dx))) dx (exd dx [(f2, v2), (f1, v1)])) a) dx (.xd [(f2, v2), (f1, v1)]) = upd H1 dx (.xd [(f2, v2), (f1, v1)]) := by
      funext b
      by_cases hb : b = dx
      · rw [hb, upd_same, upd_same]
      · rw [upd_ne hb, upd_ne hb]
        by_cases hba : b = a
        · rw [hba, del_same, ha]
        · rw [del_ne hba, upd_ne hb, upd_ne hba, upd_ne hb, upd_ne hba]
    have q' := q dx hd'
    rw [← e] at q'
    exact q'
end XT

set_option Elab.async false
set_option linter.all false
set_option maxRecDepth 100000
set_option maxHeartbeats 4000000
namespace RD
open PySem PySem.Spec PyProof.Rows L2 L2H XT GX
/-! ### calls by keywords alone -/
section
variable {X : Cx} {CX : CXT} {k : Nat} {f : Addr} {fd : FuncData} {ps ks : List Str} {sp : Sp} {E : XK} {x : Str} {p pos : Pos} {kws : List Keyword} {tk : TA} {g : List Value → List Value → List Value} {gV : List V → List V → List V}
theorem pe_callK0 (F : FnOk X.prog X.w X.K X.mg X.base CX k f fd ps sp) (hr : Room k X.A) (hg : Gl X x) (hm : X.mg x = some (.ref f)) (hk : PySem.W.keepIn X.K (.ref f) = true) (hb : KBinds X.K fd ps ks g gV) (hx : Passes CX X E)
    (hkw : PK X kws tk) (hall : (backToKw pos (keywordEach kws X.env)).all (·.1.isSome) = true := by rfl) (hks : (backToKw pos (keywordEach kws X.env)).filterMap (·.1) = ks := by rfl)
    (hdb : (x == ("__debug__" : Str)) = false := by decide) (hpl : ((backTo pos (starEach [] X.env)).any (·.1) || (backToKw pos (keywordEach kws X.env)).any (·.1.isNone)) = false := by rfl) :
    PE X (.Call (.Name x p) [] kws pos) (tCallK sp gV E tNil tk) := by
  refine ⟨fun pins s σ H Q I h => wpAny_Call_Name_kw (ld_glob I hg hm ?_ hdb)⟩
  refine PySem.W.callWith_KW0 (h₀ := X.base) I.ok.mod.kin hk hall (thn (hkw.run pos pins s σ H _ I h) fun ws s2 hw => ?_) hpl
  obtain ⟨zs, H2, I2, rz, q2⟩ := hw
  refine ⟨I2.kIn, ?_⟩
  rw [hks]
  exact run_fnk F hr hb hx I2 .nil rz q2
end
def g1 {α : Type} : List α → List α → List α
  | [], [a] => [a]
  | _, _ => []
def g2 {α : Type} : List α → List α → List α
  | [], [a, b] => [a, b]
  | _, _ => []
def g2r {α : Type} : List α → List α → List α
  | [], [a, b] => [b, a]
  | _, _ => []
theorem rel1 {vs : List V} {us : List Value} {zs : List V} {ws : List Value} (h : Vals vs us) (h2 : Vals zs ws) : Vals (g1 vs zs) (g1 us ws) := by
  cases h with
  | nil =>
    cases h2 with
    | nil => exact .nil
    | cons a r =>
      cases r with
      | nil => exact .cons a .nil
      | cons b r => exact .nil
  | cons a r => exact .nil
theorem rel2 {vs : List V} {us : List Value} {zs : List V} {ws : List Value} (h : Vals vs us) (h2 : Vals zs ws) : Vals (g2 vs zs) (g2 us ws) := by
  cases h with
  | nil =>
    cases h2 with
    | nil => exact .nil
    | cons a r =>
      cases r with
      | nil => exact .nil
      | cons b r =>
        cases r with
        | nil => exact .cons a (.cons b .nil)
        | cons c r => exact .nil
  | cons a r => exact .nil
theorem rel2r {vs : List V} {us : List Value} {zs : List V} {ws : List Value} (h : Vals vs us) (h2 : Vals zs ws) : Vals (g2r vs zs) (g2r us ws) := by
  cases h with
  | nil =>
    cases h2 with
    | nil => exact .nil
    | cons a r =>
      cases r with
      | nil => exact .nil
      | cons b r =>
        cases r with
        | nil => exact .cons b (.cons a .nil)
        | cons c r => exact .nil
  | cons a r => exact .nil
section
variable {K : PySem.W.Frag} {x qual : Str} {ar : Arguments} {bd : List Stmt} {sc : Scope} {f c : Addr} {fd : FuncData} {p1 p2 : Str}
theorem kb1 (F : FT K x qual ar bd sc f c fd)
    (h : ∀ (kV doc pm : Value) (an : Option Addr) (cdv ct : Value) (a : Value), bindArgs (PySem.W.fnOf x qual ar bd sc .none kV doc pm an cdv ct) ⟨[], [(p1, a)]⟩ = pure [(p1, a)]) : KBinds K fd [p1] [p1] g1 g1 := by
  obtain ⟨oc, od, kV, doc, pm, an, ct, osl, rfl, _, _⟩ := F.ex
  refine ⟨fun s us ws _ hl => ?_, rel1⟩
  match us, ws, hl with
  | [], [a], _ => exact .of_eq (h kV doc pm an _ ct a)
theorem kb2 (F : FT K x qual ar bd sc f c fd)
    (h : ∀ (kV doc pm : Value) (an : Option Addr) (cdv ct : Value) (a b : Value), bindArgs (PySem.W.fnOf x qual ar bd sc .none kV doc pm an cdv ct) ⟨[], [(p1, a), (p2, b)]⟩ = pure [(p1, a), (p2, b)]) : KBinds K fd [p1, p2] [p1, p2] g2 g2 := by
  obtain ⟨oc, od, kV, doc, pm, an, ct, osl, rfl, _, _⟩ := F.ex
  refine ⟨fun s us ws _ hl => ?_, rel2⟩
  match us, ws, hl with
  | [], [a, b], _ => exact .of_eq (h kV doc pm an _ ct a b)
theorem kb2r (F : FT K x qual ar bd sc f c fd)
    (h : ∀ (kV doc pm : Value) (an : Option Addr) (cdv ct : Value) (a b : Value), bindArgs (PySem.W.fnOf x qual ar bd sc .none kV doc pm an cdv ct) ⟨[], [(p2, b), (p1, a)]⟩ = pure [(p1, a), (p2, b)]) : KBinds K fd [p1, p2] [p2, p1] g2r g2r := by
  obtain ⟨oc, od, kV, doc, pm, an, ct, osl, rfl, _, _⟩ := F.ex
  refine ⟨fun s us ws _ hl => ?_, rel2r⟩
  match us, ws, hl with
  | [], [b, a], _ => exact .of_eq (h kV doc pm an _ ct a b)
end
/-! ### how a heap goes on -/
/-- what is not at ms, and no table, stands as it stood; the tables at ts stand -/
structure Nx (ts ms : List Addr) (H H' : Hp) : Prop where
  keep : ∀ b u, b ∉ ms → H b = some u → (∀ ps, u ≠ .tbl ps) → H' b = some u
  tab : ∀ P ∈ ts, GxR.TabG H' P
def Tb (ts : List Addr) (H : Hp) : Prop := ∀ P ∈ ts, GxR.TabG H P
section
variable {ts ms : List Addr} {H H1 H2 : Hp} {K : PySem.W.Frag} {a : Addr} {xs : List V}
theorem Nx.refl (t : Tb ts H) : Nx ts ms H H := ⟨fun _ _ _ e _ => e, t⟩
theorem Nx.trans (x : Nx ts ms H H1) (y : Nx ts ms H1 H2) : Nx ts ms H H2 := ⟨fun b u hb e n => y.keep b u hb (x.keep b u hb e n) n, y.tab⟩
theorem Nx.tb (x : Nx ts ms H H1) : Tb ts H1 := x.tab
theorem Nx.mono {ms' : List Addr} (x : Nx ts ms H H1) (h : ∀ b ∈ ms, b ∈ ms') : Nx ts ms' H H1 := ⟨fun b u hb e n => x.keep b u (fun z => hb (h b z)) e n, x.tab⟩
theorem Nx.new {p : Addr} {o : HO} (t : Tb ts H) (hp : H p = none) : Nx ts ms H (upd H p o) :=
  ⟨fun b u _ e _ => by rw [upd_ne (ne_of_none e hp)]; exact e, fun P hP => by
    obtain ⟨ps, e, r⟩ := t P hP
    exact ⟨ps, by rw [upd_ne (ne_of_none e hp)]; exact e, r⟩⟩
theorem Nx.put {p : Addr} {o u : HO} (t : Tb ts H) (hp : H p = some u) (hu : ∀ ps, u ≠ .tbl ps) (hm : p ∈ ms) : Nx ts ms H (upd H p o) :=
  ⟨fun b v hb e _ => by rw [upd_ne (fun z => hb (by rw [z]; exact hm))]; exact e, fun P hP => by
    obtain ⟨ps, e, r⟩ := t P hP
    refine ⟨ps, ?_, r⟩
    rw [upd_ne (fun z => ?_)]
    · exact e
    · rw [z, hp] at e
      exact hu ps (Option.some.inj e)⟩
theorem Nx.tabbed {P : Addr} (t : Tb ts H) (hP : P ∈ ts) (h : GxR.Tabbed P H H1) : Nx ts ms H H1 := by
  refine ⟨fun b u _ e n => ?_, fun P' hP' => ?_⟩
  · by_cases z : b = P
    · obtain ⟨ps, e2, _⟩ := t P hP
      rw [z, e2] at e
      exact absurd (Option.some.inj e).symm (n ps)
    · rw [h.2 b z]; exact e
  · by_cases z : P' = P
    · rw [z]; exact h.1
    · obtain ⟨ps, e2, r⟩ := t P' hP'
      exact ⟨ps, by rw [h.2 P' z]; exact e2, r⟩
theorem Nx.rd {u : HO} (x : Nx ts ms H H1) (h : Rd H a u) (ha : a ∉ ms) (n : ∀ ps, u ≠ .tbl ps) : Rd H1 a u := by
  rcases h with h | ⟨o, h⟩
  · exact .inl (x.keep a u ha h n)
  · exact .inr ⟨o, x.keep a _ ha h (fun ps z => by cases z)⟩
theorem Nx.sqL (x : Nx ts ms H H1) (h : SqL K H a xs) (ha : a ∉ ms) : SqL K H1 a xs := by
  rcases h with h | h
  · exact .inl (x.rd h ha (fun ps z => by cases z))
  · exact .inr h
theorem Nx.sqT (x : Nx ts ms H H1) (h : SqT K H a xs) (ha : a ∉ ms) : SqT K H1 a xs := by
  rcases h with h | h
  · exact .inl (x.rd h ha (fun ps z => by cases z))
  · exact .inr h
end
/-! ### things -/
inductive Thg (K : PySem.W.Frag) (H : Hp) : V → String → Prop
  | non : Thg K H .non "NoneType"
  | bl (b : Bool) : Thg K H (.bl b) "bool"
  | int (i : Int) : Thg K H (.int i) "int"
  | str (z : Str) : Thg K H (.str z) "str"
  | tup {a : Addr} {xs : List V} (h : SqT K H a xs) : Thg K H (.ref a) "tuple"
  | lst {a : Addr} {xs : List V} (h : SqL K H a xs) : Thg K H (.ref a) "list"
section
variable {K : PySem.W.Frag} {H H1 : Hp} {x : V} {t : String} {ts ms : List Addr}
theorem Thg.tyx (h : Thg K H x t) : TyX K H x (.type t) := by
  cases h with
  | non => exact .base .non
  | bl b => exact .base (.bl b)
  | int i => exact .base (.int i)
  | str z => exact .base (.str z)
  | tup h =>
    rcases h with (h | ⟨o, h⟩) | ⟨o, its, n, h1, h2, _⟩
    · exact .base (.tup h)
    · exact .fTuple h
    · exact .kTuple h1 h2
  | lst h =>
    rcases h with (h | ⟨o, h⟩) | ⟨o, its, n, h1, h2, _⟩
    · exact .base (.lst h)
    · exact .base (.frz h)
    · exact .kList h1 h2
theorem Thg.kit {b : String} (h : Thg K H x t) (hb : b ∈ ["int", "bool", "str", "tuple", "list"]) : PySem.W.kitOne K (.type t) (.type b) = some (t == b || (t == "bool" && b == "int")) := by
  refine kit_ty ?_
  have ht : t ∈ ["NoneType", "bool", "int", "str", "tuple", "list"] := by cases h <;> decide
  revert t b
  intro t b h hb ht
  have key : ∀ t ∈ ["NoneType", "bool", "int", "str", "tuple", "list"], ∀ b ∈ ["int", "bool", "str", "tuple", "list"], kitB t b = some (t == b || (t == "bool" && b == "int")) := by decide +kernel
  exact key t ht b hb
theorem Thg.nx (h : Thg K H x t) (n : Nx ts [] H H1) : Thg K H1 x t := by
  cases h with
  | non => exact .non
  | bl b => exact .bl b
  | int i => exact .int i
  | str z => exact .str z
  | tup h => exact .tup (n.sqT h (by simp))
  | lst h => exact .lst (n.sqL h (by simp))
end
def isInt : V → Bool
  | .int _ => true
  | _ => false
def isBl : V → Bool
  | .bl _ => true
  | _ => false
def isStr : V → Bool
  | .str _ => true
  | _ => false
def btw (lo hi : Int) : V → Bool
  | .int i => decide (lo ≤ i) && decide (i ≤ hi)
  | _ => false
theorem Thg.isInt {K : PySem.W.Frag} {H : Hp} {x : V} {t : String} (h : Thg K H x t) : (t == "int") = isInt x := by cases h <;> first | rfl | decide
theorem Thg.isBl {K : PySem.W.Frag} {H : Hp} {x : V} {t : String} (h : Thg K H x t) : (t == "bool") = isBl x := by cases h <;> first | rfl | decide
theorem Thg.isStr {K : PySem.W.Frag} {H : Hp} {x : V} {t : String} (h : Thg K H x t) : (t == "str") = isStr x := by cases h <;> first | rfl | decide
/-- isinstance(x, T) -/
theorem isi {K : PySem.W.Frag} {H : Hp} {x : V} {t b : String} {Q : VK} (h : Thg K H x t) (hb : b ∈ ["int", "bool", "str", "tuple", "list"]) (q : Q (.bl (t == b || (t == "bool" && b == "int"))) H) : rIsi K [x, .ty b] H Q :=
  ⟨x, .ty b, .type t, .type b, _, rfl, .ty b, h.tyx, h.kit hb, q⟩

/-! ### generator expressions whose elements are known -/
theorem wipe1 {σ : L2.St} {j : Nat} {x : Option V} : wipe ((wipe σ [j]).set j x) [j] = wipe σ [j] := by
  show ((σ.set j none).set j x).set j none = σ.set j none
  rw [List.set_set, List.set_set]
theorem wipe2 {σ : L2.St} {i j : Nat} {x y : Option V} : wipe (((wipe σ [i, j]).set i x).set j y) [i, j] = wipe σ [i, j] := by
  show (((((σ.set j none).set i none).set i x).set j y).set j none).set i none = (σ.set j none).set i none
  refine List.ext_getElem? fun k => ?_
  by_cases h : i = k
  · subst h
    simp [List.getElem?_set]
  · by_cases h2 : j = k
    · subst h2
      simp [List.getElem?_set, h]
    · simp [List.getElem?_set, h, h2]
section
variable {ts : List Addr} {J : It} {g : TG} {te : TE} {vs : List Nat} {σ : L2.St} {H2 : Hp}
theorem gx_all {Q : VK} (n : Nat) (f : Nat → Bool) (t2 : Tb ts H2) (hgo : ∀ i H', Nx ts [] H2 H' → i < n → J.go i H') (hstop : ∀ H', Nx ts [] H2 H' → J.stop n H')
    (hturn : ∀ i H', i < n → Nx ts [] H2 H' → ∀ x H'', J.yld i H' x H'' → ∀ C : VK, (∀ H4, Nx ts [] H2 H4 → C (.bl (f i)) H4) → g x (wipe σ vs) H'' fun σ2 H3 => wipe σ2 vs = wipe σ vs ∧ te σ2 H3 C)
    (q : ∀ H', Nx ts [] H2 H' → Q (.bl ((List.range n).all f)) H') :
    ∃ W : Nat → Nat → List V → Hp → Prop, (∃ m, W 0 m [] H2) ∧ tTurn J g tYes te vs σ W (fun _ H => Q (.bl true) H) (fun _ y H => y = .bl false ∧ Q (.bl false) H) (fun _ y => y = .bl true) := by
  refine ⟨fun i m _ H => Nx ts [] H2 H ∧ i ≤ n ∧ m = n - i ∧ ∀ j, j < i → f j = true, ⟨n, Nx.refl t2, Nat.zero_le _, rfl, fun j h => absurd h (Nat.not_lt_zero _)⟩, ?_⟩
  rintro i m ys H ⟨nx, hi, rfl, hf⟩
  by_cases h : i < n
  · refine .inr ⟨hgo i H nx h, fun _ H' => Nx ts [] H2 H' ∧ f i = true, fun ys' H' ⟨nx', e⟩ => ⟨n - (i + 1), by omega, nx', h, rfl, fun j hj => ?_⟩, fun x H' hy => ?_⟩
    · by_cases hji : j = i
      · rw [hji]; exact e
      · exact hf j (by omega)
    · refine hturn i H h nx x H' hy (fun y H4 => (y = .bl false ∧ Q (.bl false) H4) ∨ (y = .bl true ∧ Nx ts [] H2 H4 ∧ f i = true)) (fun H4 n4 => ?_)
      cases e : f i with
      | true => exact .inr ⟨rfl, n4, rfl⟩
      | false =>
        refine .inl ⟨rfl, ?_⟩
        have := q H4 n4
        rw [show (List.range n).all f = false from by
          rw [List.all_eq_false]
          exact ⟨i, List.mem_range.mpr h, by rw [e]; decide⟩] at this
        exact this
  · have e : i = n := by omega
    subst e
    refine .inl ⟨hstop H nx, ?_⟩
    have := q H nx
    rw [show (List.range i).all f = true from List.all_eq_true.mpr fun j hj => hf j (List.mem_range.mp hj)] at this
    exact this
theorem gx_col {Fin : List V → Hp → Prop} (n : Nat) (v : Nat → V) (hn : n ≤ sizeLine) (t2 : Tb ts H2) (hgo : ∀ i H', Nx ts [] H2 H' → i < n → J.go i H') (hstop : ∀ H', Nx ts [] H2 H' → J.stop n H')
    (hturn : ∀ i H', i < n → Nx ts [] H2 H' → ∀ x H'', J.yld i H' x H'' → ∀ C : VK, (∀ H4, Nx ts [] H2 H4 → C (v i) H4) → g x (wipe σ vs) H'' fun σ2 H3 => wipe σ2 vs = wipe σ vs ∧ te σ2 H3 C)
    (q : ∀ H', Nx ts [] H2 H' → Fin ((List.range n).map v) H') :
    ∃ W : Nat → Nat → List V → Hp → Prop, (∃ m, W 0 m [] H2) ∧ tTurn J g tYes te vs σ W Fin NoCut Fits := by
  refine ⟨fun i m ys H => Nx ts [] H2 H ∧ i ≤ n ∧ m = n - i ∧ ys = (List.range i).map v, ⟨n, Nx.refl t2, Nat.zero_le _, rfl, rfl⟩, ?_⟩
  rintro i m ys H ⟨nx, hi, rfl, rfl⟩
  by_cases h : i < n
  · refine .inr ⟨hgo i H nx h, fun ys' H' => Nx ts [] H2 H' ∧ ys' = (List.range (i + 1)).map v, fun ys' H' ⟨nx', e⟩ => ⟨n - (i + 1), by omega, nx', h, rfl, e⟩, fun x H' hy => ?_⟩
    refine hturn i H h nx x H' hy (fun y H4 => NoCut _ y H4 ∨ (Fits _ y ∧ Nx ts [] H2 H4 ∧ _ ++ [y] = (List.range (i + 1)).map v)) (fun H4 n4 => .inr ⟨?_, n4, ?_⟩)
    · show ((List.range i).map v).length < sizeLine
      rw [List.length_map, List.length_range]
      omega
    · rw [List.range_succ, List.map_append]
      rfl
  · have e : i = n := by omega
    subst e
    exact .inl ⟨hstop H nx, q H nx⟩
end
end RD

set_option Elab.async false
set_option linter.all false
set_option maxRecDepth 100000
set_option maxHeartbeats 4000000
/-! ### data, environments, meanings -/
namespace SX
open PySem PySem.Spec PyProof.Rows L2 L2H XT GX RD
inductive D where
  | non | bl (b : Bool) | int (i : Int) | str (s : Str) | tup (ds : List D) | lst (ds : List D) | scr (ns : List Int)
/-- a slot: nothing known; a value that nobody changes any more; a list of one's own (or of the caller's: io); an error held; a list of one's own of lists of one's own -/
inductive Sl where
  | no | fz (d : D) | ow (io : Bool) (ds : List D) | ex (c : Str) (fs : List (Str × D)) | oo (dss : List (List D))
abbrev EV := List Sl
/-- an expression's value: data; a new list; the list of one's own in a slot -/
inductive Vl where
  | fz (d : D) | ow (ds : List D) | bw (i : Nat)
/-- an error: its class, its fields -/
structure Er where
  c : Str
  fs : List (Str × D)
inductive Out (α : Type) where
  | no | ok (a : α) (Γ : EV) | rz (x : Er) (Γ : EV)
def Out.bind {α β : Type} (o : Out α) (f : α → EV → Out β) : Out β :=
  match o with
  | .no => .no
  | .ok a Γ => f a Γ
  | .rz x Γ => .rz x Γ
@[simp] theorem Out.bind_no {α β : Type} (f : α → EV → Out β) : Out.bind .no f = .no := rfl
@[simp] theorem Out.bind_ok {α β : Type} (a : α) (Γ : EV) (f : α → EV → Out β) : Out.bind (.ok a Γ) f = f a Γ := rfl
@[simp] theorem Out.bind_rz {α β : Type} (x : Er) (Γ : EV) (f : α → EV → Out β) : Out.bind (.rz x Γ) f = .rz x Γ := rfl

/-- a tuple of the written part -/
def KTup (K : PySem.W.Frag) (a : Addr) (xs : List V) : Prop := ∃ (o : Obj) (its : Array Value) (n : Nat), K.lookup a = some o ∧ o.cls = .type "tuple" ∧ o.data = .seq its n ∧ its.size ≤ sizeLine ∧ Vals xs its.toList
/-- a list of the written part -/
def KLst (K : PySem.W.Frag) (a : Addr) (xs : List V) : Prop := ∃ (o : Obj) (its : Array Value) (n : Nat), K.lookup a = some o ∧ o.cls = .type "list" ∧ o.dict = none ∧ o.data = .seq its n ∧ its.size ≤ sizeLine ∧ Vals xs its.toList
section
variable (K : PySem.W.Frag) (H : Hp) (S : Addr → Prop)
mutual
def Rep : D → V → Prop
  | .non, v => v = .non
  | .bl b, v => v = .bl b
  | .int i, v => v = .int i
  | .str s, v => v = .str s
  | .tup ds, v => ∃ a xs, v = .ref a ∧ ((¬ S a ∧ Rd H a (.tup xs)) ∨ KTup K a xs) ∧ Reps ds xs
  | .lst ds, v => ∃ a xs, v = .ref a ∧ ¬ S a ∧ H a = some (.lst xs) ∧ Reps ds xs
  | .scr ns, v => ∃ a, v = .ref a ∧ ((¬ S a ∧ Rd H a (.lst (ns.map V.int))) ∨ KLst K a (ns.map V.int))
def Reps : List D → List V → Prop
  | [], vs => vs = []
  | d :: ds, vs => ∃ v r, vs = v :: r ∧ Rep d v ∧ Reps ds r
end
end
section
variable {K : PySem.W.Frag} {H H' : Hp} {S S' : Addr → Prop}
/-- what is not S stands, what is S' is S or new -/
structure St2 (S : Addr → Prop) (H : Hp) (S' : Addr → Prop) (H' : Hp) : Prop where
  keep : ∀ b u, ¬ S b → H b = some u → (∀ ps, u ≠ .tbl ps) → H' b = some u
  sub : ∀ a, S' a → S a ∨ ∀ u, H a = some u → ∃ ps, u = .tbl ps
theorem St2.notS (g : St2 S H S' H') {a : Addr} {u : HO} (h : ¬ S a) (e : H a = some u) (n : ∀ ps, u ≠ .tbl ps) : ¬ S' a := fun z => by
  rcases g.sub a z with q | q
  · exact h q
  · obtain ⟨ps, e'⟩ := q u e
    exact n ps e'
theorem St2.rd (g : St2 S H S' H') {a : Addr} {u : HO} (h : ¬ S a) (e : Rd H a u) (n : ∀ ps, u ≠ .tbl ps) : ¬ S' a ∧ Rd H' a u := by
  rcases e with e | ⟨o, e⟩
  · exact ⟨g.notS h e n, .inl (g.keep a u h e n)⟩
  · exact ⟨g.notS h e (fun ps z => by cases z), .inr ⟨o, g.keep a _ h e (fun ps z => by cases z)⟩⟩
mutual
theorem Rep.go (g : St2 S H S' H') : ∀ (d : D) (v : V), Rep K H S d v → Rep K H' S' d v
  | .non, v, h => h
  | .bl _, v, h => h
  | .int _, v, h => h
  | .str _, v, h => h
  | .tup ds, v, h => by
    unfold Rep at h ⊢
    obtain ⟨a, xs, e, h1, h2⟩ := h
    refine ⟨a, xs, e, ?_, Reps.go g ds xs h2⟩
    rcases h1 with ⟨h1, h3⟩ | h1
    · exact .inl (g.rd h1 h3 (fun ps z => by cases z))
    · exact .inr h1
  | .lst ds, v, h => by
    unfold Rep at h ⊢
    obtain ⟨a, xs, e, h1, h3, h2⟩ := h
    exact ⟨a, xs, e, g.notS h1 h3 (fun ps z => by cases z), g.keep a _ h1 h3 (fun ps z => by cases z), Reps.go g ds xs h2⟩
  | .scr ns, v, h => by
    unfold Rep at h ⊢
    obtain ⟨a, e, h1⟩ := h
    refine ⟨a, e, ?_⟩
    rcases h1 with ⟨h1, h3⟩ | h1
    · exact .inl (g.rd h1 h3 (fun ps z => by cases z))
    · exact .inr h1
theorem Reps.go (g : St2 S H S' H') : ∀ (ds : List D) (vs : List V), Reps K H S ds vs → Reps K H' S' ds vs
  | [], vs, h => by unfold Reps at h ⊢; exact h
  | d :: ds, vs, h => by
    unfold Reps at h ⊢
    obtain ⟨v, r, e, h1, h2⟩ := h
    exact ⟨v, r, e, Rep.go g d v h1, Reps.go g ds r h2⟩
end
theorem scq {a : Addr} {xs : List V} (h : (¬ S a ∧ Rd H a (.lst xs)) ∨ KLst K a xs) : SqL K H a xs := h.elim (fun h => .inl h.2) .inr
theorem St2.same (h : ∀ a, S' a → S a) : St2 S H S' H := ⟨fun _ _ _ e _ => e, fun a z => .inl (h a z)⟩
theorem Rep.weak (h : ∀ a, S' a → S a) {d : D} {v : V} (r : Rep K H S d v) : Rep K H S' d v := r.go (St2.same h)
theorem Reps.weak (h : ∀ a, S' a → S a) {d : List D} {v : List V} (r : Reps K H S d v) : Reps K H S' d v := r.go (St2.same h)
theorem Reps.nil_iff {vs : List V} : Reps K H S [] vs ↔ vs = [] := by unfold Reps; exact Iff.rfl
theorem Reps.cons_iff {d : D} {ds : List D} {vs : List V} : Reps K H S (d :: ds) vs ↔ ∃ v r, vs = v :: r ∧ Rep K H S d v ∧ Reps K H S ds r := by
  constructor
  · intro h; unfold Reps at h; exact h
  · intro h; unfold Reps; exact h
theorem Reps.length : ∀ {ds : List D} {vs : List V}, Reps K H S ds vs → ds.length = vs.length
  | [], vs, h => by rw [Reps.nil_iff.mp h]; rfl
  | d :: ds, vs, h => by
    obtain ⟨v, r, e, _, h2⟩ := Reps.cons_iff.mp h
    rw [e, List.length_cons, List.length_cons, Reps.length h2]
theorem Reps.get : ∀ {ds : List D} {vs : List V} {i : Nat} {d : D}, Reps K H S ds vs → ds[i]? = some d → ∃ v, vs[i]? = some v ∧ Rep K H S d v
  | [], vs, i, d, h, e => by simp at e
  | d0 :: ds, vs, 0, d, h, e => by
    obtain ⟨v, r, e1, h1, _⟩ := Reps.cons_iff.mp h
    obtain rfl : d0 = d := by simpa using e
    exact ⟨v, by rw [e1]; rfl, h1⟩
  | d0 :: ds, vs, i + 1, d, h, e => by
    obtain ⟨v, r, e1, _, h2⟩ := Reps.cons_iff.mp h
    obtain ⟨w, e2, h3⟩ := Reps.get h2 (i := i) (d := d) (by simpa using e)
    exact ⟨w, by rw [e1]; simpa using e2, h3⟩
theorem Reps.get' : ∀ {ds : List D} {vs : List V} {i : Nat} {v : V}, Reps K H S ds vs → vs[i]? = some v → ∃ d, ds[i]? = some d ∧ Rep K H S d v := by
  intro ds vs i v h e
  have hl := h.length
  obtain ⟨hi, _⟩ := List.getElem?_eq_some_iff.mp e
  have hi' : i < ds.length := by omega
  obtain ⟨w, e2, r⟩ := h.get (List.getElem?_eq_getElem hi')
  rw [e] at e2; cases e2
  exact ⟨_, List.getElem?_eq_getElem hi', r⟩
theorem Reps.append : ∀ {ds es : List D} {vs us : List V}, Reps K H S ds vs → Reps K H S es us → Reps K H S (ds ++ es) (vs ++ us)
  | [], es, vs, us, h, h2 => by rw [Reps.nil_iff.mp h]; exact h2
  | d :: ds, es, vs, us, h, h2 => by
    obtain ⟨v, r, e, h1, h3⟩ := Reps.cons_iff.mp h
    rw [e]
    exact Reps.cons_iff.mpr ⟨v, r ++ us, rfl, h1, Reps.append h3 h2⟩
theorem Reps.take : ∀ {ds : List D} {vs : List V} (n : Nat), Reps K H S ds vs → Reps K H S (ds.take n) (vs.take n)
  | ds, vs, 0, h => by rw [List.take_zero, List.take_zero]; exact Reps.nil_iff.mpr rfl
  | [], vs, n + 1, h => by rw [Reps.nil_iff.mp h]; exact Reps.nil_iff.mpr rfl
  | d :: ds, vs, n + 1, h => by
    obtain ⟨v, r, e, h1, h2⟩ := Reps.cons_iff.mp h
    rw [e]
    exact Reps.cons_iff.mpr ⟨v, r.take n, rfl, h1, Reps.take n h2⟩
theorem Reps.drop : ∀ {ds : List D} {vs : List V} (n : Nat), Reps K H S ds vs → Reps K H S (ds.drop n) (vs.drop n)
  | ds, vs, 0, h => h
  | [], vs, n + 1, h => by rw [Reps.nil_iff.mp h]; exact Reps.nil_iff.mpr rfl
  | d :: ds, vs, n + 1, h => by
    obtain ⟨v, r, e, h1, h2⟩ := Reps.cons_iff.mp h
    rw [e]
    exact Reps.drop n h2
theorem Reps.snoc {ds : List D} {d : D} {vs : List V} {v : V} (h : Reps K H S ds vs) (h2 : Rep K H S d v) : Reps K H S (ds ++ [d]) (vs ++ [v]) := h.append (Reps.cons_iff.mpr ⟨v, [], rfl, h2, Reps.nil_iff.mpr rfl⟩)
theorem Reps.reverse : ∀ {ds : List D} {vs : List V}, Reps K H S ds vs → Reps K H S ds.reverse vs.reverse
  | [], vs, h => by rw [Reps.nil_iff.mp h]; exact Reps.nil_iff.mpr rfl
  | d :: ds, vs, h => by
    obtain ⟨v, r, e, h1, h2⟩ := Reps.cons_iff.mp h
    rw [e, List.reverse_cons, List.reverse_cons]
    exact Reps.snoc (Reps.reverse h2) h1
theorem Reps.set : ∀ {ds : List D} {vs : List V} (i : Nat) {d : D} {v : V}, Reps K H S ds vs → Rep K H S d v → Reps K H S (ds.set i d) (vs.set i v)
  | [], vs, i, d, v, h, h2 => by rw [Reps.nil_iff.mp h]; exact Reps.nil_iff.mpr rfl
  | d0 :: ds, vs, 0, d, v, h, h2 => by
    obtain ⟨w, r, e, h1, h3⟩ := Reps.cons_iff.mp h
    rw [e]
    exact Reps.cons_iff.mpr ⟨v, r, rfl, h2, h3⟩
  | d0 :: ds, vs, i + 1, d, v, h, h2 => by
    obtain ⟨w, r, e, h1, h3⟩ := Reps.cons_iff.mp h
    rw [e]
    exact Reps.cons_iff.mpr ⟨w, r.set i v, rfl, h1, Reps.set i h3 h2⟩
theorem Reps.dropLast {ds : List D} {vs : List V} (h : Reps K H S ds vs) : Reps K H S ds.dropLast vs.dropLast := by
  rw [List.dropLast_eq_take, List.dropLast_eq_take, h.length]
  exact h.take _
theorem Reps.replicate {ds : List D} {vs : List V} (h : Reps K H S ds vs) : ∀ n : Nat, Reps K H S (List.replicate n ds).flatten (List.replicate n vs).flatten
  | 0 => Reps.nil_iff.mpr rfl
  | n + 1 => by
    rw [List.replicate_succ, List.replicate_succ, List.flatten_cons, List.flatten_cons]
    exact h.append (Reps.replicate h n)
end
end SX

set_option Elab.async false
set_option linter.all false
set_option maxRecDepth 100000
set_option maxHeartbeats 4000000
namespace SX
open PySem PySem.Spec PyProof.Rows L2 L2H XT GX RD
/-- how the heap goes on: what is not at M, and no table, stands; the tables stand -/
structure Nw (ts : List Addr) (M : Addr → Prop) (H H' : Hp) : Prop where
  keep : ∀ b u, ¬ M b → H b = some u → (∀ ps, u ≠ .tbl ps) → H' b = some u
  tab : Tb ts H'
/-- an error in flight as the suite holds it: its address, its class, its dict -/
structure Cur where
  a : Addr
  cls : Value
  d : Option Addr
/-- the tables; the error that is handled -/
structure Tsx where
  l : List Addr
  cur : Option Cur
structure Cn where
  H0 : Hp
  M : Addr → Prop
  Z : Addr → Prop
  held : List (D × V)
  pin : Nat → Option Addr
  /-- where a list of lists of one's own lies, and its lists: they are at Z -/
  gh : Nat → Option (Addr × List Addr) := fun _ => none
def Own (Γ : EV) (σ : L2.St) (a : Addr) : Prop := ∃ (i : Nat) (b : Bool) (ds : List D), Γ[i]? = some (Sl.ow b ds) ∧ σ[i]? = some (some (V.ref a))
def Av (C : Cn) (Γ : EV) (σ : L2.St) (a : Addr) : Prop := Own Γ σ a ∨ C.Z a
def Fre (C : Cn) (a : Addr) : Prop := C.M a ∨ ∀ u, C.H0 a = some u → ∃ ps, u = .tbl ps
/-- the fields of an error, in its dict -/
def Flds (K : PySem.W.Frag) (H : Hp) (S : Addr → Prop) (fs : List (Str × D)) (vs : List (Str × V)) : Prop := vs.map (·.1) = fs.map (·.1) ∧ Reps K H S (fs.map (·.2)) (vs.map (·.2))
/-- an error of the class named c with these fields -/
def XOK (K : PySem.W.Frag) (H : Hp) (S : Addr → Prop) (x : Er) (cls : Value) (d : Option Addr) : Prop :=
  cls = .ref (He.ga K x.c) ∧ ∃ dd vs, d = some dd ∧ H dd = some (.xd vs) ∧ Flds K H S x.fs vs
structure GhOK (C : Cn) : Prop where
  z : ∀ (i : Nat) (a : Addr) (bs : List Addr) (x : Addr), C.gh i = some (a, bs) → x ∈ a :: bs → C.Z x ∧ Fre C x
  nd : ∀ (i : Nat) (a : Addr) (bs : List Addr), C.gh i = some (a, bs) → (a :: bs).Nodup
  dj : ∀ (i j : Nat) (a c : Addr) (bs ds : List Addr) (x : Addr), C.gh i = some (a, bs) → C.gh j = some (c, ds) → x ∈ a :: bs → x ∈ c :: ds → i = j
/-- the lists of lists stand for what the slots say -/
def OoOK (K : PySem.W.Frag) (C : Cn) (Γ : EV) (σ : L2.St) (H : Hp) : Prop := ∀ (i : Nat) (dss : List (List D)), Γ[i]? = some (Sl.oo dss) → ∃ (a : Addr) (bs : List Addr), C.gh i = some (a, bs) ∧ σ[i]? = some (some (V.ref a)) ∧ H a = some (.lst (bs.map V.ref)) ∧ bs.length = dss.length ∧
  ∀ (j : Nat) (b : Addr) (ds : List D), bs[j]? = some b → dss[j]? = some ds → ∃ xs, H b = some (.lst xs) ∧ Reps K H (Av C Γ σ) ds xs
theorem OoOK.go {K : PySem.W.Frag} {C C' : Cn} {Γ Γ' : EV} {σ σ' : L2.St} {H H' : Hp} (h : OoOK K C Γ σ H) (gh : C'.gh = C.gh) (st : St2 (Av C Γ σ) H (Av C' Γ' σ') H') (sl : ∀ (i : Nat) (dss : List (List D)), Γ'[i]? = some (Sl.oo dss) → Γ[i]? = some (Sl.oo dss) ∧ σ'[i]? = σ[i]?)
    (kp : ∀ (i : Nat) (a : Addr) (bs : List Addr) (x : Addr) (xs : List V), C.gh i = some (a, bs) → x ∈ a :: bs → H x = some (.lst xs) → H' x = some (.lst xs)) : OoOK K C' Γ' σ' H' := by
  intro i dss e
  obtain ⟨e1, e2⟩ := sl i dss e
  obtain ⟨a, bs, g, h1, h2, h3, h4⟩ := h i dss e1
  refine ⟨a, bs, by rw [gh]; exact g, by rw [e2]; exact h1, kp i a bs a _ g (by simp) h2, h3, fun j b ds k1 k2 => ?_⟩
  obtain ⟨xs, q1, q2⟩ := h4 j b ds k1 k2
  exact ⟨xs, kp i a bs b _ g (List.mem_cons_of_mem _ (List.mem_of_getElem? k1)) q1, q2.go st⟩
structure EnvOK (K : PySem.W.Frag) (ts : Tsx) (C : Cn) (Γ : EV) (σ : L2.St) (H : Hp) : Prop where
  len : Γ.length = σ.length
  fz : ∀ (i : Nat) (d : D), Γ[i]? = some (Sl.fz d) → ∃ v, σ[i]? = some (some v) ∧ Rep K H (Av C Γ σ) d v
  ow : ∀ (i : Nat) (b : Bool) (ds : List D), Γ[i]? = some (Sl.ow b ds) → ∃ a xs, σ[i]? = some (some (V.ref a)) ∧ H a = some (.lst xs) ∧ Reps K H (Av C Γ σ) ds xs ∧ (b = true → C.pin i = some a)
  ex : ∀ (i : Nat) (c : Str) (fs : List (Str × D)), Γ[i]? = some (Sl.ex c fs) → ∃ q, ts.cur = some q ∧ σ[i]? = some (some (V.ref q.a)) ∧ XOK K H (Av C Γ σ) ⟨c, fs⟩ q.cls q.d
  dis : ∀ (i j : Nat) (a : Addr) (b c : Bool) (ds es : List D), Γ[i]? = some (Sl.ow b ds) → Γ[j]? = some (Sl.ow c es) → σ[i]? = some (some (V.ref a)) → σ[j]? = some (some (V.ref a)) → i = j
  nz : ∀ a, Own Γ σ a → ¬ C.Z a
  fr : Nw ts.l C.M C.H0 H
  fo : ∀ a, Own Γ σ a → Fre C a
  z : ∀ a, C.Z a → ∃ xs, H a = some (.lst xs)
  hd : ∀ p ∈ C.held, Rep K H (Av C Γ σ) p.1 p.2
  gz : GhOK C
  oo : OoOK K C Γ σ H
/-- from one moment of a run to a later one: lists of one's own may change -/
structure Go (C : Cn) (Γ : EV) (σ : L2.St) (H : Hp) (Γ' : EV) (H' : Hp) : Prop where
  keep : ∀ b u, ¬ Own Γ σ b → H b = some u → (∀ ps, u ≠ .tbl ps) → H' b = some u
  sub : ∀ a, Own Γ' σ a → Own Γ σ a
  ix : ∀ (i : Nat) (b : Bool) (ds : List D), Γ'[i]? = some (Sl.ow b ds) → ∃ (es : List D), Γ[i]? = some (Sl.ow b es)
section
variable {K : PySem.W.Frag} {ts : Tsx} {C : Cn} {Γ Γ' Γ1 Γ2 : EV} {σ : L2.St} {H H' H1 H2 : Hp}
theorem Go.refl : Go C Γ σ H Γ H := ⟨fun _ _ _ e _ => e, fun _ z => z, fun _ _ ds e => ⟨ds, e⟩⟩
theorem Go.trans (g : Go C Γ σ H Γ1 H1) (k : Go C Γ1 σ H1 Γ2 H2) : Go C Γ σ H Γ2 H2 :=
  ⟨fun b u hb e n => k.keep b u (fun z => hb (g.sub b z)) (g.keep b u hb e n) n, fun a z => g.sub a (k.sub a z), fun i b ds e => let ⟨es, e1⟩ := k.ix i b ds e; g.ix i b es e1⟩
theorem Go.st (g : Go C Γ σ H Γ1 H1) : St2 (Av C Γ σ) H (Av C Γ1 σ) H1 :=
  ⟨fun b u hb e n => g.keep b u (fun z => hb (.inl z)) e n, fun a z => z.elim (fun z => .inl (.inl (g.sub a z))) (fun z => .inl (.inr z))⟩
theorem Go.rep (g : Go C Γ σ H Γ1 H1) {d : D} {v : V} (r : Rep K H (Av C Γ σ) d v) : Rep K H1 (Av C Γ1 σ) d v := r.go g.st
theorem Go.reps (g : Go C Γ σ H Γ1 H1) {d : List D} {v : List V} (r : Reps K H (Av C Γ σ) d v) : Reps K H1 (Av C Γ1 σ) d v := r.go g.st
theorem XOK.go {S S' : Addr → Prop} {x : Er} {cls : Value} {d : Option Addr} (g : St2 S H S' H') (hn : ∀ dd vs, d = some dd → H dd = some (.xd vs) → ¬ S dd) (h : XOK K H S x cls d) : XOK K H' S' x cls d := by
  obtain ⟨e, dd, vs, e1, e2, f1, f2⟩ := h
  exact ⟨e, dd, vs, e1, g.keep dd _ (hn dd vs e1 e2) e2 (fun ps z => by cases z), f1, f2.go g⟩
theorem EnvOK.notAv (E : EnvOK K ts C Γ σ H) {a : Addr} {u : HO} (e : H a = some u) (n : ∀ xs, u ≠ .lst xs) : ¬ Av C Γ σ a := fun z => by
  rcases z with ⟨i, bb, ds, h1, h2⟩ | z
  · obtain ⟨b, xs, e1, e2, _⟩ := E.ow i _ ds h1
    rw [h2] at e1; cases e1
    rw [e] at e2; cases e2
    exact n xs rfl
  · obtain ⟨xs, e1⟩ := E.z a z
    rw [e] at e1; cases e1
    exact n xs rfl
theorem Nw.step {M : Addr → Prop} {H0 : Hp} (f : Nw ts.l M H0 H) (t : Tb ts.l H') (k : ∀ b u, ¬ M b → H0 b = some u → (∀ ps, u ≠ .tbl ps) → H b = some u → H' b = some u) : Nw ts.l M H0 H' :=
  ⟨fun b u hb e n => k b u hb e n (f.keep b u hb e n), t⟩
theorem EnvOK.tb (E : EnvOK K ts C Γ σ H) : Tb ts.l H := E.fr.tab
/-- the heap goes on and nothing that is tracked changes -/
theorem EnvOK.more (E : EnvOK K ts C Γ σ H) (t : Tb ts.l H') (k : ∀ b u, H b = some u → (∀ ps, u ≠ .tbl ps) → H' b = some u) : EnvOK K ts C Γ σ H' := by
  have g : St2 (Av C Γ σ) H (Av C Γ σ) H' := ⟨fun b u _ e n => k b u e n, fun a z => .inl z⟩
  refine ⟨E.len, fun i d e => ?_, fun i b ds e => ?_, fun i c fs e => ?_, E.dis, E.nz, E.fr.step t (fun b u _ _ n e => k b u e n), E.fo, fun a z => ?_, fun p hp => (E.hd p hp).go g, E.gz, E.oo.go rfl g (fun i dss e => ⟨e, rfl⟩) fun i a bs x xs _ _ e => k x _ e (fun ps z => by cases z)⟩
  · obtain ⟨v, h1, h2⟩ := E.fz i d e
    exact ⟨v, h1, h2.go g⟩
  · obtain ⟨a, xs, h1, h2, h3, h4⟩ := E.ow i b ds e
    exact ⟨a, xs, h1, k a _ h2 (fun ps z => by cases z), h3.go g, h4⟩
  · obtain ⟨q, h1, h2, h3⟩ := E.ex i c fs e
    exact ⟨q, h1, h2, h3.go g fun dd vs _ e2 => E.notAv e2 (fun xs z => by cases z)⟩
  · obtain ⟨xs, e1⟩ := E.z a z
    exact ⟨xs, k a _ e1 (fun ps z => by cases z)⟩
theorem go_more (k : ∀ b u, H b = some u → (∀ ps, u ≠ .tbl ps) → H' b = some u) : Go C Γ σ H Γ H' := ⟨fun b u _ e n => k b u e n, fun _ z => z, fun _ _ ds e => ⟨ds, e⟩⟩
theorem tb_new {p : Addr} {o : HO} (t : Tb ts.l H) (hp : H p = none) : Tb ts.l (upd H p o) := (Nx.new (ms := []) t hp).tab
theorem keep_new {p : Addr} {o : HO} (hp : H p = none) : ∀ b u, H b = some u → (∀ ps, u ≠ .tbl ps) → upd H p o b = some u := fun b u e _ => by rw [upd_ne (ne_of_none e hp)]; exact e
theorem EnvOK.new {p : Addr} {o : HO} (E : EnvOK K ts C Γ σ H) (hp : H p = none) : EnvOK K ts C Γ σ (upd H p o) := E.more (tb_new E.tb hp) (keep_new hp)
theorem EnvOK.fresh {p : Addr} (E : EnvOK K ts C Γ σ H) (hp : H p = none) : ¬ Av C Γ σ p ∧ Fre C p := by
  refine ⟨fun z => ?_, ?_⟩
  · rcases z with ⟨i, bb, ds, h1, h2⟩ | z
    · obtain ⟨b, xs, e1, e2, _⟩ := E.ow i _ ds h1
      rw [h2] at e1; cases e1
      rw [hp] at e2; cases e2
    · obtain ⟨xs, e1⟩ := E.z p z
      rw [hp] at e1; cases e1
  · by_cases hm : C.M p
    · exact .inl hm
    · refine .inr fun u e => ?_
      by_cases hn : ∃ ps, u = .tbl ps
      · exact hn
      · have := E.fr.keep p u hm e (fun ps z => hn ⟨ps, z⟩)
        rw [hp] at this; cases this
/-- with a list of another's at p -/
def Cn.z1 (C : Cn) (p : Addr) : Cn := { C with Z := fun a => C.Z a ∨ a = p }
theorem EnvOK.zed {p : Addr} {xs : List V} (E : EnvOK K ts C Γ σ H) (hp : H p = none) : EnvOK K ts (C.z1 p) Γ σ (upd H p (.lst xs)) := by
  have E1 : EnvOK K ts C Γ σ (upd H p (.lst xs)) := E.new hp
  have g : St2 (Av C Γ σ) H (Av (C.z1 p) Γ σ) (upd H p (.lst xs)) := ⟨fun b u _ e n => keep_new hp b u e n, fun a z => by
    rcases z with z | z | z
    · exact .inl (.inl z)
    · exact .inl (.inr z)
    · exact .inr fun u e => by rw [z, hp] at e; cases e⟩
  refine ⟨E.len, fun i d e => ?_, fun i b ds e => ?_, fun i c fs e => ?_, E.dis, fun a h z => ?_, E1.fr, E.fo, fun a z => ?_, fun p hp => (E.hd p hp).go g, ⟨fun i a bs x e m => ⟨.inl (E.gz.z i a bs x e m).1, (E.gz.z i a bs x e m).2⟩, E.gz.nd, E.gz.dj⟩, E.oo.go rfl g (fun i dss e => ⟨e, rfl⟩) fun i a bs x xs _ _ e => keep_new hp x _ e (fun ps z => by cases z)⟩
  · obtain ⟨v, h1, h2⟩ := E.fz i d e
    exact ⟨v, h1, h2.go g⟩
  · obtain ⟨a, xs, h1, h2, h3, h4⟩ := E.ow i b ds e
    exact ⟨a, xs, h1, keep_new hp a _ h2 (fun ps z => by cases z), h3.go g, h4⟩
  · obtain ⟨q, h1, h2, h3⟩ := E.ex i c fs e
    exact ⟨q, h1, h2, h3.go g fun dd vs _ e2 => E.notAv e2 (fun xs z => by cases z)⟩
  · rcases z with z | z
    · exact E.nz a h z
    · rw [z] at h; exact (E.fresh hp).1 (.inl h)
  · rcases z with z | z
    · exact E1.z a z
    · exact ⟨xs, by rw [z, upd_same]⟩
theorem GhOK.of {C' : Cn} (h : GhOK C) (h1 : C'.gh = C.gh) (h2 : C'.H0 = C.H0) (h4 : C'.M = C.M) (h3 : ∀ a, C.Z a → C'.Z a) : GhOK C' :=
  ⟨fun i a bs x e m => let q := h.z i a bs x (by rw [← h1]; exact e) m; ⟨h3 x q.1, by unfold Fre; rw [h2, h4]; exact q.2⟩, by rw [h1]; exact h.nd, by rw [h1]; exact h.dj⟩
theorem EnvOK.unz {p : Addr} (E : EnvOK K ts (C.z1 p) Γ σ H) (hg : GhOK C) : EnvOK K ts C Γ σ H := by
  have w : ∀ a, Av C Γ σ a → Av (C.z1 p) Γ σ a := fun a z => z.elim .inl fun z => .inr (.inl z)
  refine ⟨E.len, fun i d e => ?_, fun i b ds e => ?_, fun i c fs e => ?_, E.dis, fun a h z => E.nz a h (.inl z), E.fr, E.fo, fun a z => E.z a (.inl z), fun p hp => (E.hd p hp).weak w, hg, E.oo.go rfl (St2.same w) (fun i dss e => ⟨e, rfl⟩) fun _ _ _ _ _ _ _ e => e⟩
  · obtain ⟨v, h1, h2⟩ := E.fz i d e
    exact ⟨v, h1, h2.weak w⟩
  · obtain ⟨a, xs, h1, h2, h3, h4⟩ := E.ow i b ds e
    exact ⟨a, xs, h1, h2, h3.weak w, h4⟩
  · obtain ⟨q, h1, h2, e0, dd, vs, e1, e2, f1, f2⟩ := E.ex i c fs e
    exact ⟨q, h1, h2, e0, dd, vs, e1, e2, f1, f2.weak w⟩
/-- how a value stands for what an expression is worth -/
def VOK (K : PySem.W.Frag) (ts : Tsx) (C : Cn) (Γ : EV) (σ : L2.St) (H : Hp) : Vl → V → Prop
  | .fz d, v => Rep K H (Av C Γ σ) d v
  | .bw i, v => σ[i]? = some (some v)
  | .ow ds, v => ∃ p xs, v = .ref p ∧ ¬ C.Z p ∧ Fre C p ∧ EnvOK K ts (C.z1 p) Γ σ H ∧ H p = some (.lst xs) ∧ Reps K H (Av (C.z1 p) Γ σ) ds xs
/-- a new list is not one's own any more -/
def Vl.op : Vl → Vl
  | .ow ds => .fz (.lst ds)
  | v => v
theorem VOK.op {val : Vl} {v : V} (h : VOK K ts C Γ σ H val v) : VOK K ts C Γ σ H val.op v := by
  cases val with
  | fz d => exact h
  | bw i => exact h
  | ow ds =>
    obtain ⟨p, xs, e, h1, h2, h3, h4, h5⟩ := h
    refine ⟨p, xs, e, fun z => ?_, h4, h5.weak fun a z => z.elim .inl fun z => .inr (.inl z)⟩
    rcases z with z | z
    · exact h3.nz p z (.inr rfl)
    · exact h1 z
theorem VOK.go {val : Vl} {v : V} (g : Go C Γ σ H Γ1 H1) (h : VOK K ts C Γ σ H val.op v) : VOK K ts C Γ1 σ H1 val.op v := by
  cases val with
  | fz d => exact g.rep h
  | bw i => exact h
  | ow ds => exact g.rep h
/-- what a value is just now -/
def peek (Γ : EV) : Vl → Option D
  | .fz d => some d
  | .ow ds => some (.lst ds)
  | .bw i => match Γ[i]? with
    | some (.ow _ ds) => some (.lst ds)
    | some (.fz d) => some d
    | _ => none
/-- .. to be read -/
def Pk (K : PySem.W.Frag) (H : Hp) (S : Addr → Prop) (d : D) (v : V) : Prop :=
  match d with
  | .lst ds => ∃ a xs, v = .ref a ∧ H a = some (.lst xs) ∧ Reps K H S ds xs
  | d => Rep K H S d v
theorem Rep.pk {S : Addr → Prop} {d : D} {v : V} (r : Rep K H S d v) : Pk K H S d v := by
  cases d with
  | lst ds =>
    unfold Rep at r
    obtain ⟨a, xs, e, _, h1, h2⟩ := r
    exact ⟨a, xs, e, h1, h2⟩
  | _ => exact r
theorem VOK.pk {val : Vl} {v : V} {d : D} (E : EnvOK K ts C Γ σ H) (h : VOK K ts C Γ σ H val.op v) (e : peek Γ val.op = some d) : Pk K H (Av C Γ σ) d v := by
  cases val with
  | fz d0 =>
    cases e
    exact Rep.pk h
  | ow ds =>
    cases e
    exact Rep.pk h
  | bw i =>
    have h : σ[i]? = some (some v) := h
    unfold peek at e
    simp only [Vl.op] at e
    split at e
    · rename_i bb ds hi
      cases e
      obtain ⟨a, xs, e1, e2, e3, _⟩ := E.ow i bb ds hi
      rw [h] at e1
      exact ⟨a, xs, Option.some.inj (Option.some.inj e1), e2, e3⟩
    · rename_i d0 hi
      cases e
      obtain ⟨w, e1, e2⟩ := E.fz i _ hi
      rw [h] at e1
      cases e1
      exact e2.pk
    · cases e
/-- a value that stays: a list of one's own is given up -/
def cool (Γ : EV) : Vl → Option (D × EV)
  | .fz d => some (d, Γ)
  | .ow ds => some (.lst ds, Γ)
  | .bw i => match Γ[i]? with
    | some (.ow false ds) => some (.lst ds, Γ.set i (.fz (.lst ds)))
    | some (.fz d) => some (d, Γ)
    | _ => none
theorem lt_of_get {α : Type} {l : List α} {i : Nat} {x : α} (h : l[i]? = some x) : i < l.length := (List.getElem?_eq_some_iff.mp h).1
theorem oo_set {i j : Nat} {s : Sl} {dss : List (List D)} (hs : ∀ dss, s ≠ .oo dss) (e : (Γ.set i s)[j]? = some (Sl.oo dss)) : j ≠ i ∧ Γ[j]? = some (Sl.oo dss) := by
  rw [List.getElem?_set] at e
  split at e
  · split at e
    · exact (hs dss (Option.some.inj e)).elim
    · cases e
  · rename_i h
    exact ⟨fun z => h z.symm, e⟩
theorem oo_setS {i j : Nat} {s : Sl} {dss : List (List D)} {o : Option V} (hs : ∀ dss, s ≠ .oo dss) (e : (Γ.set i s)[j]? = some (Sl.oo dss)) : Γ[j]? = some (Sl.oo dss) ∧ (σ.set i o)[j]? = σ[j]? := by
  obtain ⟨h1, h2⟩ := oo_set hs e
  exact ⟨h2, by rw [List.getElem?_set_ne (Ne.symm h1)]⟩
theorem EnvOK.give {i : Nat} {ds : List D} (E : EnvOK K ts C Γ σ H) (hi : Γ[i]? = some (Sl.ow false ds)) : EnvOK K ts C (Γ.set i (.fz (.lst ds))) σ H ∧ Go C Γ σ H (Γ.set i (.fz (.lst ds))) H ∧ ∀ v, σ[i]? = some (some v) → Rep K H (Av C (Γ.set i (.fz (.lst ds))) σ) (.lst ds) v := by
  have hl := lt_of_get hi
  have sub : ∀ a, Own (Γ.set i (.fz (.lst ds))) σ a → Own Γ σ a := fun a ⟨j, bb, es, h1, h2⟩ => by
    by_cases hj : j = i
    · subst hj
      rw [List.getElem?_set_self hl] at h1; cases h1
    · rw [List.getElem?_set_ne (Ne.symm hj)] at h1
      exact ⟨j, bb, es, h1, h2⟩
  have w : ∀ a, Av C (Γ.set i (.fz (.lst ds))) σ a → Av C Γ σ a := fun a z => z.elim (fun z => .inl (sub a z)) .inr
  obtain ⟨a, xs, e1, e2, e3, _⟩ := E.ow i false ds hi
  have rep : Rep K H (Av C (Γ.set i (.fz (.lst ds))) σ) (.lst ds) (.ref a) := by
    refine ⟨a, xs, rfl, fun z => ?_, e2, e3.weak w⟩
    rcases z with ⟨j, bb, es, h1, h2⟩ | z
    · by_cases hj : j = i
      · subst hj
        rw [List.getElem?_set_self hl] at h1; cases h1
      · rw [List.getElem?_set_ne (Ne.symm hj)] at h1
        exact hj (E.dis j i a _ _ es ds h1 hi h2 e1)
    · exact E.nz a ⟨i, _, ds, hi, e1⟩ z
  refine ⟨⟨by rw [List.length_set]; exact E.len, fun j d e => ?_, fun j bb es e => ?_, fun j c fs e => ?_, fun j k b b1 b2 es fs e f => ?_, fun b z => E.nz b (sub b z), E.fr, fun b z => E.fo b (sub b z), E.z, fun p hp => (E.hd p hp).weak w, E.gz, E.oo.go rfl (St2.same w) (fun j dss e => ⟨(oo_set (fun _ z => by cases z) e).2, rfl⟩) fun _ _ _ _ _ _ _ e => e⟩, ⟨fun _ _ _ e _ => e, sub, fun j bb es e => ?_⟩, fun v hv => ?_⟩
  · by_cases hj : j = i
    · subst hj
      rw [List.getElem?_set_self hl] at e; cases e
      exact ⟨_, e1, rep⟩
    · rw [List.getElem?_set_ne (Ne.symm hj)] at e
      obtain ⟨v, h1, h2⟩ := E.fz j d e
      exact ⟨v, h1, h2.weak w⟩
  · by_cases hj : j = i
    · subst hj
      rw [List.getElem?_set_self hl] at e; cases e
    · rw [List.getElem?_set_ne (Ne.symm hj)] at e
      obtain ⟨b, ys, h1, h2, h3, h4⟩ := E.ow j bb es e
      exact ⟨b, ys, h1, h2, h3.weak w, h4⟩
  · by_cases hj : j = i
    · subst hj
      rw [List.getElem?_set_self hl] at e; cases e
    · rw [List.getElem?_set_ne (Ne.symm hj)] at e
      obtain ⟨q, h1, h2, e0, dd, vs, e1, e2, f1, f2⟩ := E.ex j c fs e
      exact ⟨q, h1, h2, e0, dd, vs, e1, e2, f1, f2.weak w⟩
  · by_cases hj : j = i
    · subst hj
      rw [List.getElem?_set_self hl] at e; cases e
    · by_cases hk : k = i
      · subst hk
        rw [List.getElem?_set_self hl] at f; cases f
      · rw [List.getElem?_set_ne (Ne.symm hj)] at e
        rw [List.getElem?_set_ne (Ne.symm hk)] at f
        exact E.dis j k b b1 b2 es fs e f
  · by_cases hj : j = i
    · subst hj
      rw [List.getElem?_set_self hl] at e; cases e
    · rw [List.getElem?_set_ne (Ne.symm hj)] at e
      exact ⟨es, e⟩
  · rw [e1] at hv; cases hv
    exact rep
theorem VOK.cool {val : Vl} {v : V} {d : D} (E : EnvOK K ts C Γ σ H) (h : VOK K ts C Γ σ H val.op v) (e : cool Γ val.op = some (d, Γ1)) : EnvOK K ts C Γ1 σ H ∧ Go C Γ σ H Γ1 H ∧ Rep K H (Av C Γ1 σ) d v := by
  cases val with
  | fz d0 =>
    cases e
    exact ⟨E, Go.refl, h⟩
  | ow ds =>
    cases e
    exact ⟨E, Go.refl, h⟩
  | bw i =>
    have h : σ[i]? = some (some v) := h
    unfold SX.cool at e
    simp only [Vl.op] at e
    split at e
    · rename_i ds hi
      cases e
      obtain ⟨h1, h2, h3⟩ := E.give hi
      exact ⟨h1, h2, h3 v h⟩
    · rename_i d0 hi
      cases e
      obtain ⟨w, e1, e2⟩ := E.fz i _ hi
      rw [h] at e1
      cases e1
      exact ⟨E, Go.refl, e2⟩
    · cases e
end
end SX

set_option Elab.async false
set_option linter.all false
set_option maxRecDepth 100000
set_option maxHeartbeats 4000000
namespace SX
open PySem PySem.Spec PyProof.Rows L2 L2H XT GX RD
/-- what is wanted behind a meaning -/
def Post {α β : Type} (K : PySem.W.Frag) (ts : Tsx) (C : Cn) (W : WX) (σ : L2.St) (Γ : EV) (H : Hp) (R : EV → Hp → α → β → Prop) (Q : β → Hp → Prop) : Out α → Prop
  | .no => False
  | .ok a Γ' => ∀ b H', EnvOK K ts C Γ' σ H' → Go C Γ σ H Γ' H' → R Γ' H' a b → Q b H'
  | .rz x Γ' => ∀ cls d H', EnvOK K ts C Γ' σ H' → XOK K H' (Av C Γ' σ) x cls d → W cls d σ H'
section
variable {K : PySem.W.Frag} {ts : Tsx} {C : Cn} {W : WX} {σ : L2.St} {Γ Γ1 : EV} {H H1 : Hp} {α β γ δ : Type} {R : EV → Hp → α → β → Prop} {R' : EV → Hp → γ → δ → Prop} {Q : β → Hp → Prop} {Q' : δ → Hp → Prop}
theorem Post.shift {o : Out γ} (g : Go C Γ σ H Γ1 H1) (h : Post K ts C W σ Γ H R' Q' o) : Post K ts C W σ Γ1 H1 R' Q' o := by
  cases o with
  | no => exact h
  | ok a Γ' => exact fun b H' e k r => h b H' e (g.trans k) r
  | rz x Γ' => exact h
theorem Post.bind {m : Out α} {f : α → EV → Out γ} (h : Post K ts C W σ Γ H R' Q' (m.bind f))
    (k : ∀ a Γ1 b H1, EnvOK K ts C Γ1 σ H1 → Go C Γ σ H Γ1 H1 → R Γ1 H1 a b → Post K ts C W σ Γ1 H1 R' Q' (f a Γ1) → Q b H1) : Post K ts C W σ Γ H R Q m := by
  cases m with
  | no => exact h
  | ok a Γ1 => exact fun b H1 e g r => k a Γ1 b H1 e g r (Post.shift g h)
  | rz x Γ' => exact h
end
abbrev ME := EV → Out Vl
abbrev MT := EV → Out Bool
abbrev MA := EV → Out (List Vl)
abbrev MO := EV → Out (Option Int)
abbrev RE (K : PySem.W.Frag) (ts : Tsx) (C : Cn) (σ : L2.St) : EV → Hp → Vl → V → Prop := fun Γ H val v => VOK K ts C Γ σ H val v
def VOKs (K : PySem.W.Frag) (ts : Tsx) (C : Cn) (Γ : EV) (σ : L2.St) (H : Hp) : List Vl → List V → Prop
  | [], vs => vs = []
  | val :: vals, vs => ∃ v r, vs = v :: r ∧ VOK K ts C Γ σ H val.op v ∧ VOKs K ts C Γ σ H vals r
abbrev RA (K : PySem.W.Frag) (ts : Tsx) (C : Cn) (σ : L2.St) : EV → Hp → List Vl → List V → Prop := fun Γ H vals vs => VOKs K ts C Γ σ H vals vs
abbrev RQ {α : Type} : EV → Hp → α → α → Prop := fun _ _ a b => a = b
theorem VOKs.go {K : PySem.W.Frag} {ts : Tsx} {C : Cn} {Γ Γ1 : EV} {σ : L2.St} {H H1 : Hp} (g : Go C Γ σ H Γ1 H1) : ∀ {vals : List Vl} {vs : List V}, VOKs K ts C Γ σ H vals vs → VOKs K ts C Γ1 σ H1 vals vs
  | [], vs, h => h
  | val :: vals, vs, ⟨v, r, e, h1, h2⟩ => ⟨v, r, e, h1.go g, VOKs.go g h2⟩
structure SE (ts : Tsx) (X : Cx) (W : WX) (e : Expr) (m : ME) : Prop where
  ex : ∃ t : TE, PE X e t ∧ ∀ (C : Cn) (Γ : EV) (σ : L2.St) (H : Hp) (Q : VK), EnvOK X.K ts C Γ σ H → Post X.K ts C W σ Γ H (RE X.K ts C σ) Q (m Γ) → t σ H Q
structure ST (ts : Tsx) (X : Cx) (W : WX) (e : Expr) (m : MT) : Prop where
  ex : ∃ t : TT, PT X e t ∧ ∀ (C : Cn) (Γ : EV) (σ : L2.St) (H : Hp) (Q : Bool → Hp → Prop), EnvOK X.K ts C Γ σ H → Post X.K ts C W σ Γ H RQ Q (m Γ) → t σ H Q
structure SW (ts : Tsx) (X : Cx) (W : WX) (e : Expr) (m : MT) : Prop where
  ex : ∃ t : TT, PW X e t ∧ ∀ (C : Cn) (Γ : EV) (σ : L2.St) (H : Hp) (Q : Bool → Hp → Prop), EnvOK X.K ts C Γ σ H → Post X.K ts C W σ Γ H RQ Q (m Γ) → t σ H Q
structure SA (ts : Tsx) (X : Cx) (W : WX) (es : List Expr) (m : MA) : Prop where
  ex : ∃ t : TA, PA X es t ∧ ∀ (C : Cn) (Γ : EV) (σ : L2.St) (H : Hp) (Q : List V → Hp → Prop), EnvOK X.K ts C Γ σ H → Post X.K ts C W σ Γ H (RA X.K ts C σ) Q (m Γ) → t σ H Q
structure SO (ts : Tsx) (X : Cx) (W : WX) (e : Option Expr) (m : MO) : Prop where
  ex : ∃ t : TO, PO X e t ∧ ∀ (C : Cn) (Γ : EV) (σ : L2.St) (H : Hp) (Q : Option Int → Hp → Prop), EnvOK X.K ts C Γ σ H → Post X.K ts C W σ Γ H RQ Q (m Γ) → t σ H Q

section
variable {ts : Tsx} {X : Cx} {W : WX} {e a b c : Expr} {es : List Expr} {m ma mb mc : ME} {pos : Pos}
/-! ### names, constants -/
def mVar (i : Nat) : ME := fun Γ => match Γ[i]? with
  | some (.fz d) => .ok (.fz d) Γ
  | some (.ow _ _) => .ok (.bw i) Γ
  | some (.oo _) => .ok (.bw i) Γ
  | _ => .no
theorem se_var {i : Nat} {x : Str} (h : PE X (.Name x pos) (tVar i)) : SE ts X W (.Name x pos) (mVar i) := by
  refine ⟨tVar i, h, fun C Γ σ H Q E h => ?_⟩
  unfold mVar at h
  split at h
  · rename_i d hi
    obtain ⟨v, h1, h2⟩ := E.fz i d hi
    exact ⟨v, h1, h v H E Go.refl h2⟩
  · rename_i bb ds hi
    obtain ⟨v, xs, h1, h2, _⟩ := E.ow i bb ds hi
    exact ⟨.ref v, h1, h (.ref v) H E Go.refl h1⟩
  · rename_i dss hi
    obtain ⟨v, bs, _, h1, _⟩ := E.oo i dss hi
    exact ⟨.ref v, h1, h (.ref v) H E Go.refl h1⟩
  · exact h.elim
def mC (d : D) : ME := fun Γ => .ok (.fz d) Γ
theorem se_c {d : D} {v : V} (h : PE X e (tC v)) (r : ∀ H S, Rep X.K H S d v) : SE ts X W e (mC d) :=
  ⟨tC v, h, fun C Γ σ H Q E h => h v H E Go.refl (r _ _)⟩
theorem se_int {i j} : SE ts X W (.Constant (.int i) j pos) (mC (.int i)) := se_c pe_int fun _ _ => rfl
theorem se_bl {b j} : SE ts X W (.Constant (.bool b) j pos) (mC (.bl b)) := se_c pe_bl fun _ _ => rfl
theorem se_non {j} : SE ts X W (.Constant .none j pos) (mC .non) := se_c pe_non fun _ _ => rfl
theorem se_str {x j} : SE ts X W (.Constant (.str x) j pos) (mC (.str x)) := se_c pe_str fun _ _ => rfl
/-! ### operators -/
structure OpS (ts : Tsx) (X : Cx) (f : Value → Value → Sem Value) (p : D → D → Option Vl) : Prop where
  ex : ∃ r : R2, OpR X f r ∧ ∀ (C : Cn) (Γ : EV) (σ : L2.St) (H : Hp) (x y : V) (dx dy : D) (res : Vl) (Q : VK), EnvOK X.K ts C Γ σ H → Pk X.K H (Av C Γ σ) dx x → Pk X.K H (Av C Γ σ) dy y → p dx dy = some res →
    (∀ v H', EnvOK X.K ts C Γ σ H' → Go C Γ σ H Γ H' → VOK X.K ts C Γ σ H' res v → Q v H') → r x y H Q
def mBin (p : D → D → Option Vl) (ma mb : ME) : ME := fun Γ => (ma Γ).bind fun va Γ1 => (mb Γ1).bind fun vb Γ2 =>
  match peek Γ2 va.op, peek Γ2 vb.op with
  | some dx, some dy => match p dx dy with
    | some r => .ok r Γ2
    | none => .no
  | _, _ => .no
theorem bin_sim {p : D → D → Option Vl} {ta tb : TE} {r : R2} {C : Cn} {Γ : EV} {σ : L2.St} {H : Hp} {Q : VK}
    (sa : ∀ (C : Cn) (Γ : EV) (σ : L2.St) (H : Hp) (Q : VK), EnvOK X.K ts C Γ σ H → Post X.K ts C W σ Γ H (RE X.K ts C σ) Q (ma Γ) → ta σ H Q)
    (sb : ∀ (C : Cn) (Γ : EV) (σ : L2.St) (H : Hp) (Q : VK), EnvOK X.K ts C Γ σ H → Post X.K ts C W σ Γ H (RE X.K ts C σ) Q (mb Γ) → tb σ H Q)
    (sr : ∀ (C : Cn) (Γ : EV) (σ : L2.St) (H : Hp) (x y : V) (dx dy : D) (res : Vl) (Q : VK), EnvOK X.K ts C Γ σ H → Pk X.K H (Av C Γ σ) dx x → Pk X.K H (Av C Γ σ) dy y → p dx dy = some res →
      (∀ v H', EnvOK X.K ts C Γ σ H' → Go C Γ σ H Γ H' → VOK X.K ts C Γ σ H' res v → Q v H') → r x y H Q)
    (E : EnvOK X.K ts C Γ σ H) (h : Post X.K ts C W σ Γ H (RE X.K ts C σ) Q (mBin p ma mb Γ)) : tOp r ta tb σ H Q := by
  refine sa C Γ σ H _ E (Post.bind h fun va Γ1 x H1 E1 g1 v1 h1 => ?_)
  refine sb C Γ1 σ H1 _ E1 (Post.bind h1 fun vb Γ2 y H2 E2 g2 v2 h2 => ?_)
  have w1 := (v1.op).go g2
  have w2 := v2.op
  split at h2
  · rename_i dx dy e1 e2
    split at h2
    · rename_i res e3
      exact sr C Γ2 σ H2 x y dx dy res Q E2 (w1.pk E2 e1) (w2.pk E2 e2) e3 fun v H' E' g' v' => h2 v H' E' g' v'
    · exact h2.elim
  · exact h2.elim
theorem se_bin {op : Operator} {p : D → D → Option Vl} (ho : OpS ts X (binaryOp op) p) (ha : SE ts X W a ma) (hb : SE ts X W b mb) : SE ts X W (.BinOp a op b pos) (mBin p ma mb) := by
  obtain ⟨ta, pa, sa⟩ := ha
  obtain ⟨tb, pb, sb⟩ := hb
  obtain ⟨r, po, sr⟩ := ho
  exact ⟨tOp r ta tb, pe_op po pa pb, fun C Γ σ H Q E h => bin_sim sa sb sr E h⟩
theorem se_cmp {op : CmpOp} {p : D → D → Option Vl} (ho : OpS ts X (compareOp op) p) (ha : SE ts X W a ma) (hb : SE ts X W b mb) (hm : behindInMarks op b = false) : SE ts X W (.Compare a [op] [b] pos) (mBin p ma mb) := by
  obtain ⟨ta, pa, sa⟩ := ha
  obtain ⟨tb, pb, sb⟩ := hb
  obtain ⟨r, po, sr⟩ := ho
  exact ⟨tOp r ta tb, pe_cmpR po pa pb hm, fun C Γ σ H Q E h => bin_sim sa sb sr E h⟩
/-- a meaning that is a bool, as a test's -/
def mTest (m : ME) : MT := fun Γ => (m Γ).bind fun v Γ' => match v with
  | .fz (.bl b) => .ok b Γ'
  | _ => .no
theorem test_sim {m : ME} {C : Cn} {Γ : EV} {σ : L2.St} {H : Hp} {Q : Bool → Hp → Prop} (h : Post X.K ts C W σ Γ H RQ Q (mTest m Γ)) : Post X.K ts C W σ Γ H (RE X.K ts C σ) (fun x H' => ∃ k, x = .bl k ∧ Q k H') (m Γ) := by
  refine Post.bind h fun v Γ1 x H1 E1 g1 v1 h1 => ?_
  split at h1
  · rename_i b
    have v1 : x = .bl b := v1
    exact ⟨b, v1, h1 b H1 E1 Go.refl rfl⟩
  · exact h1.elim
theorem st_cmp {op : CmpOp} {p : D → D → Option Vl} (ho : OpS ts X (compareOp op) p) (ha : SE ts X W a ma) (hb : SE ts X W b mb) (hm : behindInMarks op b = false) : ST ts X W (.Compare a [op] [b] pos) (mTest (mBin p ma mb)) := by
  obtain ⟨ta, pa, sa⟩ := ha
  obtain ⟨tb, pb, sb⟩ := hb
  obtain ⟨r, po, sr⟩ := ho
  exact ⟨tTest (tOp r ta tb), pt_cmpR po pa pb hm, fun C Γ σ H Q E h => bin_sim sa sb sr E (test_sim h)⟩
theorem st_val (h : SE ts X W e m) (he : ∀ whole, isTrue e X.env whole = (do let v ← whole; standAt e.pos; holding [v] (truthy v)) := by intro _; rfl) : ST ts X W e (mTest m) := by
  obtain ⟨t, p, s⟩ := h
  exact ⟨tB t, pt_val p he, fun C Γ σ H Q E h => s C Γ σ H _ E (test_sim h)⟩
/-! ### and, or, not -/
def mAndT (a b : MT) : MT := fun Γ => (a Γ).bind fun k Γ1 => if k = true then b Γ1 else .ok false Γ1
def mOrT (a b : MT) : MT := fun Γ => (a Γ).bind fun k Γ1 => if k = true then .ok true Γ1 else b Γ1
def mNotT (a : MT) : MT := fun Γ => (a Γ).bind fun k Γ1 => .ok (!k) Γ1
variable {na nb : MT} {rest : List Expr}
theorem SW.st (h : SW ts X W e na) : ST ts X W e na := let ⟨t, p, s⟩ := h; ⟨t, p.pt, s⟩
theorem sw_and1 (h : ST ts X W a na) : SW ts X W (.BoolOp .And [a] pos) na := let ⟨t, p, s⟩ := h; ⟨t, pw_and1 p, s⟩
theorem sw_or1 (h : ST ts X W a na) : SW ts X W (.BoolOp .Or [a] pos) na := let ⟨t, p, s⟩ := h; ⟨t, pw_or1 p, s⟩
theorem sw_and (ha : ST ts X W a na) (hb : SW ts X W (.BoolOp .And (b :: rest) pos) nb) : SW ts X W (.BoolOp .And (a :: b :: rest) pos) (mAndT na nb) := by
  obtain ⟨ta, pa, sa⟩ := ha
  obtain ⟨tb, pb, sb⟩ := hb
  refine ⟨tAnd ta tb, pw_and pa pb, fun C Γ σ H Q E h => sa C Γ σ H _ E (Post.bind h fun k Γ1 x H1 E1 g1 e1 h1 => ?_)⟩
  obtain rfl : k = x := e1
  cases k with
  | true => exact iteT (sb C Γ1 σ H1 Q E1 h1)
  | false => exact iteF (h1 false H1 E1 Go.refl rfl)
theorem sw_or (ha : ST ts X W a na) (hb : SW ts X W (.BoolOp .Or (b :: rest) pos) nb) : SW ts X W (.BoolOp .Or (a :: b :: rest) pos) (mOrT na nb) := by
  obtain ⟨ta, pa, sa⟩ := ha
  obtain ⟨tb, pb, sb⟩ := hb
  refine ⟨tOr ta tb, pw_or pa pb, fun C Γ σ H Q E h => sa C Γ σ H _ E (Post.bind h fun k Γ1 x H1 E1 g1 e1 h1 => ?_)⟩
  obtain rfl : k = x := e1
  cases k with
  | true => exact iteT (h1 true H1 E1 Go.refl rfl)
  | false => exact iteF (sb C Γ1 σ H1 Q E1 h1)
theorem st_not (ha : ST ts X W a na) : ST ts X W (.UnaryOp .Not a pos) (mNotT na) := by
  obtain ⟨ta, pa, sa⟩ := ha
  refine ⟨tNot ta, pt_not pa, fun C Γ σ H Q E h => sa C Γ σ H _ E (Post.bind h fun k Γ1 x H1 E1 g1 e1 h1 => ?_)⟩
  obtain rfl : k = x := e1
  exact h1 (!k) H1 E1 Go.refl rfl
/-- .. as values -/
def mAnd (a b : ME) : ME := fun Γ => (a Γ).bind fun v Γ1 => match v with
  | .fz (.bl k) => if k = true then b Γ1 else .ok (.fz (.bl false)) Γ1
  | _ => .no
def mOr (a b : ME) : ME := fun Γ => (a Γ).bind fun v Γ1 => match v with
  | .fz (.bl k) => if k = true then .ok (.fz (.bl true)) Γ1 else b Γ1
  | _ => .no
def mNot (a : ME) : ME := fun Γ => (a Γ).bind fun v Γ1 => match v with
  | .fz (.bl k) => .ok (.fz (.bl (!k))) Γ1
  | _ => .no
theorem se_one {op} (h : SE ts X W a m) : SE ts X W (.BoolOp op [a] pos) m := let ⟨t, p, s⟩ := h; ⟨t, pe_one p, s⟩
theorem se_and (ha : SE ts X W a ma) (hb : SE ts X W (.BoolOp .And (b :: rest) pos) mb) : SE ts X W (.BoolOp .And (a :: b :: rest) pos) (mAnd ma mb) := by
  obtain ⟨ta, pa, sa⟩ := ha
  obtain ⟨tb, pb, sb⟩ := hb
  refine ⟨tAndV ta tb, pe_and pa pb, fun C Γ σ H Q E h => sa C Γ σ H _ E (Post.bind h fun v Γ1 x H1 E1 g1 v1 h1 => ?_)⟩
  split at h1
  · rename_i k
    refine ⟨k, v1, ?_⟩
    cases k with
    | true => exact iteT (sb C Γ1 σ H1 Q E1 h1)
    | false => exact iteF (h1 _ H1 E1 Go.refl rfl)
  · exact h1.elim
theorem se_or (ha : SE ts X W a ma) (hb : SE ts X W (.BoolOp .Or (b :: rest) pos) mb) : SE ts X W (.BoolOp .Or (a :: b :: rest) pos) (mOr ma mb) := by
  obtain ⟨ta, pa, sa⟩ := ha
  obtain ⟨tb, pb, sb⟩ := hb
  refine ⟨tOrV ta tb, pe_or pa pb, fun C Γ σ H Q E h => sa C Γ σ H _ E (Post.bind h fun v Γ1 x H1 E1 g1 v1 h1 => ?_)⟩
  split at h1
  · rename_i k
    refine ⟨k, v1, ?_⟩
    cases k with
    | true => exact iteT (h1 _ H1 E1 Go.refl rfl)
    | false => exact iteF (sb C Γ1 σ H1 Q E1 h1)
  · exact h1.elim
theorem se_not (ha : SE ts X W a ma) : SE ts X W (.UnaryOp .Not a pos) (mNot ma) := by
  obtain ⟨ta, pa, sa⟩ := ha
  refine ⟨tNotV ta, pe_not pa, fun C Γ σ H Q E h => sa C Γ σ H _ E (Post.bind h fun v Γ1 x H1 E1 g1 v1 h1 => ?_)⟩
  split at h1
  · rename_i k
    exact ⟨k, v1, h1 _ H1 E1 Go.refl rfl⟩
  · exact h1.elim
/-- by truth: of texts, tuples, lists, ints, bools, None -/
def truD : D → Option Bool
  | .non => some false
  | .bl b => some b
  | .int i => some (i != 0)
  | .str s => if s.length ≤ sizeLine then some ((s.length : Int) != 0) else none
  | .tup ds => some (!ds.isEmpty)
  | .lst ds => some (!ds.isEmpty)
  | .scr _ => none
theorem KTup.sq {K : PySem.W.Frag} {H : Hp} {a : Addr} {xs : List V} (h : KTup K a xs) : SqT K H a xs := .inr h
theorem Reps.isEmpty {K : PySem.W.Frag} {H : Hp} {S : Addr → Prop} {ds : List D} {vs : List V} (h : Reps K H S ds vs) : ds.isEmpty = vs.isEmpty := by
  cases ds with
  | nil => rw [Reps.nil_iff.mp h]; rfl
  | cons d ds =>
    obtain ⟨v, r, e, _, _⟩ := Reps.cons_iff.mp h
    rw [e]; rfl
theorem Pk.tup {K : PySem.W.Frag} {H : Hp} {S : Addr → Prop} {ds : List D} {v : V} (h : Pk K H S (.tup ds) v) : ∃ a xs, v = .ref a ∧ SqT K H a xs ∧ Reps K H S ds xs := by
  have h : Rep K H S (.tup ds) v := h
  unfold Rep at h
  obtain ⟨a, xs, e, h1, h2⟩ := h
  refine ⟨a, xs, e, ?_, h2⟩
  rcases h1 with ⟨_, h1⟩ | h1
  · exact .inl h1
  · exact .inr h1
theorem Pk.lst {K : PySem.W.Frag} {H : Hp} {S : Addr → Prop} {ds : List D} {v : V} (h : Pk K H S (.lst ds) v) : ∃ a xs, v = .ref a ∧ H a = some (.lst xs) ∧ Reps K H S ds xs := h
theorem Pk.int {K : PySem.W.Frag} {H : Hp} {S : Addr → Prop} {i : Int} {v : V} (h : Pk K H S (.int i) v) : v = .int i := by
  have h : Rep K H S (.int i) v := h
  unfold Rep at h
  exact h
theorem Pk.str {K : PySem.W.Frag} {H : Hp} {S : Addr → Prop} {i : Str} {v : V} (h : Pk K H S (.str i) v) : v = .str i := by
  have h : Rep K H S (.str i) v := h
  unfold Rep at h
  exact h
theorem Pk.bl {K : PySem.W.Frag} {H : Hp} {S : Addr → Prop} {i : Bool} {v : V} (h : Pk K H S (.bl i) v) : v = .bl i := by
  have h : Rep K H S (.bl i) v := h
  unfold Rep at h
  exact h
theorem Pk.non {K : PySem.W.Frag} {H : Hp} {S : Addr → Prop} {v : V} (h : Pk K H S .non v) : v = .non := by
  have h : Rep K H S .non v := h
  unfold Rep at h
  exact h
theorem tru_ok' {K : PySem.W.Frag} {H : Hp} {S : Addr → Prop} {d : D} {v : V} {k : Bool} (h : Pk K H S d v) (e : truD d = some k) : TruV K v H k := by
  cases d with
  | non => rw [h.non]; cases e; rfl
  | bl b => rw [h.bl]; cases e; rfl
  | int i => rw [h.int]; cases e; rfl
  | str s =>
    rw [h.str]
    simp only [truD] at e
    split at e
    · rename_i hl
      cases e; exact ⟨hl, rfl⟩
    · cases e
  | tup ds =>
    obtain ⟨a, xs, rfl, h1, h2⟩ := h.tup
    cases e
    exact .inr (.inl ⟨xs, h1, by rw [h2.isEmpty]⟩)
  | lst ds =>
    obtain ⟨a, xs, rfl, h1, h2⟩ := h.lst
    cases e
    exact .inl ⟨xs, SqL.of h1, by rw [h2.isEmpty]⟩
  | scr ns => cases e
def mTru (m : ME) : MT := fun Γ => (m Γ).bind fun v Γ1 => match (peek Γ1 v.op).bind truD with
  | some k => .ok k Γ1
  | none => .no
theorem st_tru (h : SE ts X W e m) (he : ∀ whole, isTrue e X.env whole = (do let v ← whole; standAt e.pos; holding [v] (truthy v)) := by intro _; rfl) : ST ts X W e (mTru m) := by
  obtain ⟨t, p, s⟩ := h
  refine ⟨_, pt_truth p he, fun C Γ σ H Q E h => s C Γ σ H _ E (Post.bind h fun v Γ1 x H1 E1 g1 v1 h1 => ?_)⟩
  split at h1
  · rename_i k e1
    obtain ⟨d, e2, e3⟩ := Option.bind_eq_some_iff.mp e1
    exact ⟨k, tru_ok' ((v1.op).pk E1 e2) e3, h1 k H1 E1 Go.refl rfl⟩
  · exact h1.elim
/-- x or y, x and y, by truth, where x is data -/
def mOrV (a b : ME) : ME := fun Γ => (a Γ).bind fun v Γ1 => match (peek Γ1 v.op).bind truD with
  | some k => if k = true then .ok v.op Γ1 else b Γ1
  | none => .no
theorem se_orV (ha : SE ts X W a ma) (hb : SE ts X W (.BoolOp .Or (b :: rest) pos) mb) : SE ts X W (.BoolOp .Or (a :: b :: rest) pos) (mOrV ma mb) := by
  obtain ⟨ta, pa, sa⟩ := ha
  obtain ⟨tb, pb, sb⟩ := hb
  refine ⟨tOrT X.K ta tb, pe_orT pa pb, fun C Γ σ H Q E h => sa C Γ σ H _ E (Post.bind h fun v Γ1 x H1 E1 g1 v1 h1 => ?_)⟩
  split at h1
  · rename_i k e1
    obtain ⟨d, e2, e3⟩ := Option.bind_eq_some_iff.mp e1
    refine ⟨k, tru_ok' ((v1.op).pk E1 e2) e3, ?_⟩
    cases k with
    | true => exact iteT (h1 x H1 E1 Go.refl v1.op)
    | false => exact iteF (sb C Γ1 σ H1 Q E1 h1)
  · exact h1.elim
def mIf (c : MT) (a b : ME) : ME := fun Γ => (c Γ).bind fun k Γ1 => if k = true then a Γ1 else b Γ1
theorem se_if {nc : MT} (hc : ST ts X W c nc) (ha : SE ts X W a ma) (hb : SE ts X W b mb) : SE ts X W (.IfExp c a b pos) (mIf nc ma mb) := by
  obtain ⟨tc, pc, sc⟩ := hc
  obtain ⟨ta, pa, sa⟩ := ha
  obtain ⟨tb, pb, sb⟩ := hb
  refine ⟨tIf tc ta tb, pe_ifExp pc pa pb, fun C Γ σ H Q E h => sc C Γ σ H _ E (Post.bind h fun k Γ1 x H1 E1 g1 e1 h1 => ?_)⟩
  obtain rfl : k = x := e1
  cases k with
  | true => exact iteT (sa C Γ1 σ H1 Q E1 h1)
  | false => exact iteF (sb C Γ1 σ H1 Q E1 h1)
/-! ### arguments -/
def mNil : MA := fun Γ => .ok [] Γ
def mCons (m : ME) (r : MA) : MA := fun Γ => (m Γ).bind fun v Γ1 => (r Γ1).bind fun vs Γ2 => .ok (v.op :: vs) Γ2
theorem Vl.op_op (v : Vl) : v.op.op = v.op := by cases v <;> rfl
theorem sa_nil : SA ts X W [] mNil := ⟨tNil, pa_nil, fun C Γ σ H Q E h => h [] H E Go.refl rfl⟩
theorem sa_cons {ms : MA} (ha : SE ts X W a ma) (hs : SA ts X W es ms) (hst : starEach (a :: es) X.env = (false, eval a X.env) :: starEach es X.env := by rfl) : SA ts X W (a :: es) (mCons ma ms) := by
  obtain ⟨ta, pa, sa⟩ := ha
  obtain ⟨tb, pb, sb⟩ := hs
  refine ⟨tCons ta tb, pa_cons pa pb hst, fun C Γ σ H Q E h => sa C Γ σ H _ E (Post.bind h fun v Γ1 x H1 E1 g1 v1 h1 => ?_)⟩
  refine sb C Γ1 σ H1 _ E1 (Post.bind h1 fun vs Γ2 xs H2 E2 g2 v2 h2 => ?_)
  exact h2 (x :: xs) H2 E2 Go.refl ⟨x, xs, rfl, by rw [Vl.op_op]; exact (v1.op).go g2, v2⟩
/-- all of them given up -/
def cools (Γ : EV) : List Vl → Option (List D × EV)
  | [] => some ([], Γ)
  | v :: vs => (cool Γ v.op).bind fun p => (cools p.2 vs).map fun q => (p.1 :: q.1, q.2)
theorem VOKs.cools {K : PySem.W.Frag} {C : Cn} {σ : L2.St} {H : Hp} : ∀ {vals : List Vl} {vs : List V} {Γ Γ1 : EV} {ds : List D}, EnvOK K ts C Γ σ H → VOKs K ts C Γ σ H vals vs → cools Γ vals = some (ds, Γ1) →
    EnvOK K ts C Γ1 σ H ∧ Go C Γ σ H Γ1 H ∧ Reps K H (Av C Γ1 σ) ds vs
  | [], vs, Γ, Γ1, ds, E, h, e => by
    cases e
    exact ⟨E, Go.refl, by rw [show vs = [] from h]; exact Reps.nil_iff.mpr rfl⟩
  | val :: vals, vs, Γ, Γ1, ds, E, ⟨v, r, e0, h1, h2⟩, e => by
    unfold SX.cools at e
    obtain ⟨⟨d, Γ2⟩, e1, e2⟩ := Option.bind_eq_some_iff.mp e
    obtain ⟨⟨ds', Γ3⟩, e3, e4⟩ := Option.map_eq_some_iff.mp e2
    cases e4
    obtain ⟨E2, g2, r2⟩ := h1.cool E e1
    obtain ⟨E3, g3, r3⟩ := VOKs.cools E2 (h2.go g2) e3
    exact ⟨E3, g2.trans g3, Reps.cons_iff.mpr ⟨v, r, e0, g3.rep r2, r3⟩⟩
/-! ### displays -/
def mTup (ms : MA) : ME := fun Γ => (ms Γ).bind fun vs Γ1 => match cools Γ1 vs with
  | some (ds, Γ2) => if ds.length ≤ sizeLine then .ok (.fz (.tup ds)) Γ2 else .no
  | none => .no
def mLst (ms : MA) : ME := fun Γ => (ms Γ).bind fun vs Γ1 => match cools Γ1 vs with
  | some (ds, Γ2) => if ds.length ≤ sizeLine then .ok (.ow ds) Γ2 else .no
  | none => .no
theorem new_tup {K : PySem.W.Frag} {C : Cn} {Γ : EV} {σ : L2.St} {H : Hp} {ds : List D} {xs : List V} {p : Addr} (E : EnvOK K ts C Γ σ H) (h : Reps K H (Av C Γ σ) ds xs) (hp : H p = none) :
    EnvOK K ts C Γ σ (upd H p (.tup xs)) ∧ Go C Γ σ H Γ (upd H p (.tup xs)) ∧ Rep K (upd H p (.tup xs)) (Av C Γ σ) (.tup ds) (.ref p) := by
  have g : Go C Γ σ H Γ (upd H p (.tup xs)) := go_more (keep_new hp)
  exact ⟨E.new hp, g, p, xs, rfl, .inl ⟨(E.fresh hp).1, .inl upd_same⟩, g.reps h⟩
theorem new_lst {K : PySem.W.Frag} {C : Cn} {Γ : EV} {σ : L2.St} {H : Hp} {ds : List D} {xs : List V} {p : Addr} (E : EnvOK K ts C Γ σ H) (h : Reps K H (Av C Γ σ) ds xs) (hp : H p = none) :
    EnvOK K ts C Γ σ (upd H p (.lst xs)) ∧ Go C Γ σ H Γ (upd H p (.lst xs)) ∧ VOK K ts C Γ σ (upd H p (.lst xs)) (.ow ds) (.ref p) := by
  have g : Go C Γ σ H Γ (upd H p (.lst xs)) := go_more (keep_new hp)
  have f := E.fresh hp
  refine ⟨E.new hp, g, p, xs, rfl, fun z => f.1 (.inr z), f.2, E.zed hp, upd_same, ?_⟩
  refine h.go ⟨fun b u _ e n => keep_new hp b u e n, fun a z => ?_⟩
  rcases z with z | z | z
  · exact .inl (.inl z)
  · exact .inl (.inr z)
  · exact .inr fun u e => by rw [z, hp] at e; cases e
theorem se_tup {ms : MA} {k1} (hs : SA ts X W es ms) : SE ts X W (.Tuple es k1 pos) (mTup ms) := by
  obtain ⟨t, p, s⟩ := hs
  refine ⟨tTup t, pe_tup p, fun C Γ σ H Q E h => s C Γ σ H _ E (Post.bind h fun vs Γ1 xs H1 E1 g1 v1 h1 => ?_)⟩
  split at h1
  · rename_i ds Γ2 e1
    obtain ⟨E2, g2, r2⟩ := v1.cools E1 e1
    split at h1
    · rename_i hl
      refine ⟨by rw [← r2.length]; exact hl, fun q hq => ?_⟩
      obtain ⟨E3, g3, r3⟩ := new_tup E2 r2 hq
      exact h1 _ _ E3 (g2.trans g3) r3
    · exact h1.elim
  · exact h1.elim
theorem se_lst {ms : MA} (hs : SA ts X W es ms) : SE ts X W (.List es pos) (mLst ms) := by
  obtain ⟨t, p, s⟩ := hs
  refine ⟨tLst t, pe_lst p, fun C Γ σ H Q E h => s C Γ σ H _ E (Post.bind h fun vs Γ1 xs H1 E1 g1 v1 h1 => ?_)⟩
  split at h1
  · rename_i ds Γ2 e1
    obtain ⟨E2, g2, r2⟩ := v1.cools E1 e1
    split at h1
    · rename_i hl
      refine ⟨by rw [← r2.length]; exact hl, fun q hq => ?_⟩
      obtain ⟨E3, g3, r3⟩ := new_lst E2 r2 hq
      exact h1 _ _ E3 (g2.trans g3) r3
    · exact h1.elim
  · exact h1.elim
end
end SX

set_option Elab.async false
set_option linter.all false
set_option maxRecDepth 100000
set_option maxHeartbeats 4000000
namespace SX
open PySem PySem.Spec PyProof.Rows L2 L2H XT GX RD
section
variable {ts : Tsx} {X : Cx} {W : WX}
/-! ### operators on data -/
theorem ops_of {f : Value → Value → Sem Value} {p : D → D → Option Vl} {r : R2} (h : OpR X f r)
    (s : ∀ (C : Cn) (Γ : EV) (σ : L2.St) (H : Hp) (x y : V) (dx dy : D) (res : Vl) (Q : VK), EnvOK X.K ts C Γ σ H → Pk X.K H (Av C Γ σ) dx x → Pk X.K H (Av C Γ σ) dy y → p dx dy = some res →
      (∀ v H', EnvOK X.K ts C Γ σ H' → Go C Γ σ H Γ H' → VOK X.K ts C Γ σ H' res v → Q v H') → r x y H Q) : OpS ts X f p := ⟨r, h, s⟩
def addD : D → D → Option Vl
  | .int i, .int j => some (.fz (.int (i + j)))
  | .str a, .str b => if a.length + b.length ≤ sizeLine then some (.fz (.str (a ++ b))) else none
  | .lst xs, .lst ys => if xs.length + ys.length ≤ sizeLine then some (.ow (xs ++ ys)) else none
  | .tup xs, .tup ys => if xs.length + ys.length ≤ sizeLine then some (.fz (.tup (xs ++ ys))) else none
  | _, _ => none
theorem ops_add : OpS ts X (binaryOp .Add) addD := by
  refine ops_of (OpR.or op_add (OpR.or op_add_str (OpR.or op_cat op_catA))) fun C Γ σ H x y dx dy res Q E hx hy e q => ?_
  unfold addD at e
  split at e
  · cases e
    exact .inl ⟨_, _, hx.int, hy.int, q _ H E Go.refl rfl⟩
  · split at e
    · rename_i hl
      cases e
      exact .inr (.inl ⟨_, _, hx.str, hy.str, hl, q _ H E Go.refl rfl⟩)
    · cases e
  · split at e
    · rename_i xs ys hl
      cases e
      obtain ⟨a, us, rfl, h1, r1⟩ := hx.lst
      obtain ⟨b, vs, rfl, h2, r2⟩ := hy.lst
      refine .inr (.inr (.inl ⟨a, b, us, vs, rfl, rfl, h1, h2, by rw [← r1.length, ← r2.length]; exact hl, fun p hp => ?_⟩))
      obtain ⟨E3, g3, v3⟩ := new_lst E (r1.append r2) hp
      exact q _ _ E3 g3 v3
    · cases e
  · split at e
    · rename_i xs ys hl
      cases e
      obtain ⟨a, us, rfl, h1, r1⟩ := hx.tup
      obtain ⟨b, vs, rfl, h2, r2⟩ := hy.tup
      have hx' : Rep X.K H (Av C Γ σ) (.tup xs) (.ref a) := hx
      have hy' : Rep X.K H (Av C Γ σ) (.tup ys) (.ref b) := hy
      refine .inr (.inr (.inr ⟨a, b, us, vs, rfl, rfl, h1, h2, by rw [← r1.length, ← r2.length]; exact hl, fun e => ?_, fun _ e => ?_, fun _ _ p hp => ?_⟩))
      · have : xs = [] := by
          cases xs with
          | nil => rfl
          | cons d ds => obtain ⟨v, r, e1, _⟩ := Reps.cons_iff.mp r1; rw [e] at e1; cases e1
        subst this
        exact q _ H E Go.refl hy'
      · have : ys = [] := by
          cases ys with
          | nil => rfl
          | cons d ds => obtain ⟨v, r, e1, _⟩ := Reps.cons_iff.mp r2; rw [e] at e1; cases e1
        subst this
        refine q _ H E Go.refl ?_
        rw [List.append_nil]
        exact hx'
      · obtain ⟨E3, g3, v3⟩ := new_tup E (r1.append r2) hp
        exact q _ _ E3 g3 v3
    · cases e
  · cases e
def subD : D → D → Option Vl
  | .int i, .int j => some (.fz (.int (i - j)))
  | _, _ => none
theorem ops_sub : OpS ts X (binaryOp .Sub) subD := by
  refine ops_of op_sub fun C Γ σ H x y dx dy res Q E hx hy e q => ?_
  unfold subD at e
  split at e
  · cases e
    exact ⟨_, _, hx.int, hy.int, q _ H E Go.refl rfl⟩
  · cases e
def mulOk (i j : Int) : Bool := decide (-(2 ^ 64) < i ∧ i < 2 ^ 64) || (decide (-(2 ^ 64) < j ∧ j < 2 ^ 64) || decide (i.natAbs.log2 + j.natAbs.log2 < 1000000))
def mulD : D → D → Option Vl
  | .int i, .int j => if mulOk i j = true then some (.fz (.int (i * j))) else none
  | .lst xs, .int k => if -(2 ^ 63) ≤ k ∧ k < 2 ^ 63 ∧ xs.length * k.toNat ≤ sizeLine then some (.ow (List.replicate k.toNat xs).flatten) else none
  | .str s, .int k => if 0 ≤ k ∧ k ≤ 1000000 ∧ s.length * k.toNat ≤ sizeLine then some (.fz (.str (Txt.mul s k))) else none
  | .tup xs, .int k => if xs ≠ [] ∧ 2 ≤ k ∧ k ≤ 1000 ∧ xs.length ≤ 1000 then some (.fz (.tup (List.replicate k.toNat xs).flatten)) else none
  | _, _ => none
theorem mulS_ok {s : Str} {k : Int} (h0 : 0 ≤ k) (h1 : k ≤ 1000000) (h2 : s.length * k.toNat ≤ sizeLine) : PySem.MulOk s k := by
  refine ⟨?_, fun h _ => ?_, fun _ _ => ?_⟩
  · rw [decide_eq_false (by omega), decide_eq_false (by omega)]; rfl
  · have e : sizeLine = 16777216 := by decide
    have h3 : (s.length : Int) * k ≤ 16777216 := by
      have := Int.ofNat_le.mpr h2
      rw [Int.natCast_mul, Int.toNat_of_nonneg h0, e] at this
      exact this
    have h4 : (s.length : Int) * k ≤ 2 ^ 63 - 1 := by omega
    have := (Int.le_ediv_iff_mul_le (c := k) (a := (s.length : Int)) (b := 2 ^ 63 - 1) (by omega)).mpr h4
    omega
  · unfold Builtin.Str.tooLong
    exact decide_eq_false (by omega)
theorem op_mulS : OpR X (binaryOp .Mult) (fun x y H Q => ∃ a k, x = .str a ∧ y = .int k ∧ PySem.MulOk a k ∧ Q (.str (Txt.mul a k)) H) := by
  intro pins s σ H x y v u Q I rx ry h
  obtain ⟨a, k, rfl, rfl, hk, q⟩ := h
  obtain ⟨t, rfl⟩ := rx
  obtain ⟨w, rfl⟩ := ry
  exact PySem.SB.mul hk fun t' tk => ⟨.str _, H, I.tok _, ⟨_, rfl⟩, q⟩
theorem ops_mul : OpS ts X (binaryOp .Mult) mulD := by
  refine ops_of (OpR.or op_mul (OpR.or op_mulW (OpR.or op_rep (OpR.or op_mulS op_repT)))) fun C Γ σ H x y dx dy res Q E hx hy e q => ?_
  unfold mulD at e
  split at e
  · rename_i i j
    split at e
    · rename_i hm
      cases e
      unfold mulOk at hm
      rcases Bool.or_eq_true_iff.mp hm with h | h
      · exact .inl ⟨_, _, hx.int, hy.int, .inl (of_decide_eq_true h), q _ H E Go.refl rfl⟩
      · rcases Bool.or_eq_true_iff.mp h with h | h
        · exact .inl ⟨_, _, hx.int, hy.int, .inr (of_decide_eq_true h), q _ H E Go.refl rfl⟩
        · exact .inr (.inl ⟨_, _, hx.int, hy.int, (show i.natAbs.log2 + j.natAbs.log2 < 1000000 from of_decide_eq_true h), q _ H E Go.refl rfl⟩)
    · cases e
  · split at e
    · rename_i xs k hm
      cases e
      obtain ⟨a, us, rfl, h1, r1⟩ := hx.lst
      refine .inr (.inr (.inl ⟨a, _, us, rfl, hy.int, h1, hm.1, hm.2.1, by rw [← r1.length]; exact hm.2.2, fun p hp => ?_⟩))
      obtain ⟨E3, g3, v3⟩ := new_lst E (r1.replicate _) hp
      exact q _ _ E3 g3 v3
    · cases e
  · split at e
    · rename_i hm
      cases e
      exact .inr (.inr (.inr (.inl ⟨_, _, hx.str, hy.int, mulS_ok hm.1 hm.2.1 hm.2.2, q _ H E Go.refl rfl⟩)))
    · cases e
  · split at e
    · rename_i xs k hm
      cases e
      obtain ⟨a, us, rfl, h1, r1⟩ := hx.tup
      refine .inr (.inr (.inr (.inr ⟨a, _, us, rfl, hy.int, h1, fun z => ?_, hm.2.1, hm.2.2.1, by rw [← r1.length]; exact hm.2.2.2, fun p hp => ?_⟩)))
      · subst z
        have := r1.length
        exact hm.1 (List.length_eq_zero_iff.mp this)
      · obtain ⟨E3, g3, v3⟩ := new_tup E (r1.replicate _) hp
        exact q _ _ E3 g3 v3
    · cases e
  · cases e
def fdivD : D → D → Option Vl
  | .int i, .int j => if 0 < j ∧ j.natAbs.log2 < 9000 then some (.fz (.int (i / j))) else if j ≠ 0 ∧ j.natAbs.log2 < 9000 then some (.fz (.int (i.fdiv j))) else none
  | _, _ => none
theorem op_fdivNW : OpR X (binaryOp .FloorDiv) (rI (fun _ j => j ≠ 0 ∧ j.natAbs.log2 < 9000) fun i j => .int (i.fdiv j)) := opI fun _ _ _ _ _ _ _ hc q => floordiv_int hc.1 q (.inl (PyProof.noPylong_of_log2 hc.2))
theorem ops_fdiv : OpS ts X (binaryOp .FloorDiv) fdivD := by
  refine ops_of (OpR.or op_fdivW op_fdivNW) fun C Γ σ H x y dx dy res Q E hx hy e q => ?_
  unfold fdivD at e
  split at e
  · split at e
    · rename_i hm
      cases e
      exact .inl ⟨_, _, hx.int, hy.int, hm, q _ H E Go.refl rfl⟩
    · split at e
      · rename_i hm
        cases e
        exact .inr ⟨_, _, hx.int, hy.int, hm, q _ H E Go.refl rfl⟩
      · cases e
  · cases e
def modD : D → D → Option Vl
  | .int i, .int j => if 0 < j then some (.fz (.int (i % j))) else if j ≠ 0 then some (.fz (.int (i.fmod j))) else none
  | _, _ => none
theorem ops_mod : OpS ts X (binaryOp .Mod) modD := by
  refine ops_of (OpR.or op_mod op_modN) fun C Γ σ H x y dx dy res Q E hx hy e q => ?_
  unfold modD at e
  split at e
  · split at e
    · rename_i hm
      cases e
      exact .inl ⟨_, _, hx.int, hy.int, hm, q _ H E Go.refl rfl⟩
    · split at e
      · rename_i hm
        cases e
        exact .inr ⟨_, _, hx.int, hy.int, hm, q _ H E Go.refl rfl⟩
      · cases e
  · cases e
def powD : D → D → Option Vl
  | .int i, .int j => if 0 ≤ j ∧ j ≤ 1000000 ∧ i.natAbs < 2 ^ 64 then some (.fz (.int (i ^ j.toNat))) else none
  | _, _ => none
theorem ops_pow : OpS ts X (binaryOp .Pow) powD := by
  refine ops_of op_pow fun C Γ σ H x y dx dy res Q E hx hy e q => ?_
  unfold powD at e
  split at e
  · split at e
    · rename_i hm
      cases e
      exact ⟨_, _, hx.int, hy.int, hm, q _ H E Go.refl rfl⟩
    · cases e
  · cases e
/-! ### comparisons -/
def cmpI (p : Int → Int → Bool) : D → D → Option Vl
  | .int i, .int j => some (.fz (.bl (p i j)))
  | _, _ => none
theorem ops_cmpI {p : Int → Int → Bool} {op : CmpOp} (h : OpR X (compareOp op) (rI0 fun i j => .bl (p i j))) : OpS ts X (compareOp op) (cmpI p) := by
  refine ops_of h fun C Γ σ H x y dx dy res Q E hx hy e q => ?_
  unfold cmpI at e
  split at e
  · cases e
    exact ⟨_, _, hx.int, hy.int, q _ H E Go.refl rfl⟩
  · cases e
abbrev ltD := cmpI fun i j => decide (i < j)
abbrev leD := cmpI fun i j => decide (i ≤ j)
abbrev gtD := cmpI fun i j => decide (j < i)
abbrev geD := cmpI fun i j => decide (j ≤ i)
theorem ops_lt : OpS ts X (compareOp .Lt) ltD := ops_cmpI op_lt
theorem ops_le : OpS ts X (compareOp .LtE) leD := ops_cmpI op_le
theorem ops_gt : OpS ts X (compareOp .Gt) gtD := ops_cmpI op_gt
theorem ops_ge : OpS ts X (compareOp .GtE) geD := ops_cmpI op_ge
mutual
def toP : D → PyData
  | .non => .none
  | .bl b => .bool b
  | .int i => .int i
  | .str s => .str s
  | .tup ds => .tuple (toPs ds)
  | .lst ds => .list (toPs ds)
  | .scr ns => .list (ns.map .int)
def toPs : List D → List PyData
  | [] => []
  | d :: ds => toP d :: toPs ds
end
section
variable {K : PySem.W.Frag} {H : Hp} {S : Addr → Prop}
theorem dp_ints : ∀ ns : List Int, DpAll K H (ns.map V.int) (ns.map .int)
  | [] => .nil
  | n :: ns => .cons (.int n) (dp_ints ns)
mutual
theorem Rep.dp : ∀ {d : D} {v : V}, Rep K H S d v → Dp K H v (toP d)
  | .non, v, h => by unfold Rep at h; subst h; exact .non
  | .bl b, v, h => by unfold Rep at h; subst h; exact .bl b
  | .int i, v, h => by unfold Rep at h; subst h; exact .int i
  | .str s, v, h => by unfold Rep at h; subst h; exact .str s
  | .tup ds, v, h => by
    unfold Rep at h
    obtain ⟨a, xs, rfl, h1, h2⟩ := h
    refine .tup (xs := xs) ?_ (Reps.dp h2)
    rcases h1 with ⟨_, h1⟩ | h1
    · exact .inl h1
    · exact .inr h1
  | .lst ds, v, h => by
    unfold Rep at h
    obtain ⟨a, xs, rfl, _, h1, h2⟩ := h
    exact .lst (SqL.of h1) (Reps.dp h2)
  | .scr ns, v, h => by
    unfold Rep at h
    obtain ⟨a, rfl, h1⟩ := h
    exact .lst (scq h1) (dp_ints ns)
theorem Reps.dp : ∀ {ds : List D} {vs : List V}, Reps K H S ds vs → DpAll K H vs (toPs ds)
  | [], vs, h => by rw [Reps.nil_iff.mp h]; exact .nil
  | d :: ds, vs, h => by
    obtain ⟨v, r, e, h1, h2⟩ := Reps.cons_iff.mp h
    rw [e]
    exact .cons (Rep.dp h1) (Reps.dp h2)
end
theorem Pk.dp {d : D} {v : V} (h : Pk K H S d v) : Dp K H v (toP d) := by
  cases d with
  | lst ds =>
    obtain ⟨a, xs, rfl, h1, h2⟩ := h.lst
    exact .lst (SqL.of h1) h2.dp
  | _ => exact Rep.dp (S := S) h
end
/-- == -/
def eqB : D → D → Option Bool
  | .int i, .int j => some (decide (i = j))
  | .str i, .str j => some (decide (i = j))
  | .bl i, .bl j => some (decide (i = j))
  | .non, .non => some true
  | a, b => if SeqAt.shaped (toP a) = true ∧ SeqAt.shaped (toP b) = true then some (PyData.eqv (toP a) (toP b)) else none
def eqD (a b : D) : Option Vl := (eqB a b).map fun k => .fz (.bl k)
def neD (a b : D) : Option Vl := (eqB a b).map fun k => .fz (.bl (!k))
theorem eqB_ok {K : PySem.W.Frag} {H : Hp} {S : Addr → Prop} {x y : V} {a b : D} {k : Bool} (hx : Pk K H S a x) (hy : Pk K H S b y) (e : eqB a b = some k) :
    (scal x y = true ∧ k = decide (x = y)) ∨ (SeqAt.shaped (toP a) = true ∧ SeqAt.shaped (toP b) = true ∧ k = PyData.eqv (toP a) (toP b)) := by
  unfold eqB at e
  split at e
  · cases e; rw [hx.int, hy.int]; exact .inl ⟨rfl, by simp⟩
  · cases e; rw [hx.str, hy.str]; exact .inl ⟨rfl, by simp⟩
  · cases e; rw [hx.bl, hy.bl]; exact .inl ⟨rfl, by simp⟩
  · cases e; rw [hx.non, hy.non]; exact .inl ⟨rfl, by simp⟩
  · split at e
    · rename_i h
      cases e
      exact .inr ⟨h.1, h.2, rfl⟩
    · cases e
theorem ops_eq (hu : X.A.units + 64 < cLine) : OpS ts X (compareOp .Eq) eqD := by
  refine ops_of (OpR.or op_eq (op_eqD hu)) fun C Γ σ H x y dx dy res Q E hx hy e q => ?_
  obtain ⟨k, e1, rfl⟩ := Option.map_eq_some_iff.mp e
  rcases eqB_ok hx hy e1 with ⟨h1, rfl⟩ | ⟨h1, h2, rfl⟩
  · exact .inl ⟨h1, q _ H E Go.refl rfl⟩
  · exact .inr ⟨_, _, hx.dp, hy.dp, h1, h2, q _ H E Go.refl rfl⟩
theorem ops_ne (hu : X.A.units + 64 < cLine) : OpS ts X (compareOp .NotEq) neD := by
  refine ops_of (OpR.or op_ne (op_neD hu)) fun C Γ σ H x y dx dy res Q E hx hy e q => ?_
  obtain ⟨k, e1, rfl⟩ := Option.map_eq_some_iff.mp e
  rcases eqB_ok hx hy e1 with ⟨h1, rfl⟩ | ⟨h1, h2, rfl⟩
  · exact .inl ⟨h1, q _ H E Go.refl rfl⟩
  · exact .inr ⟨_, _, hx.dp, hy.dp, h1, h2, q _ H E Go.refl rfl⟩
def isNon : D → Bool
  | .non => true
  | _ => false
def isD (neg : Bool) : D → D → Option Vl
  | a, .non => some (.fz (.bl (if neg then !isNon a else isNon a)))
  | _, _ => none
theorem Pk.isNon {K : PySem.W.Frag} {H : Hp} {S : Addr → Prop} {d : D} {v : V} (h : Pk K H S d v) : decide (v = .non) = isNon d := by
  cases d with
  | non => rw [h.non]; rfl
  | bl b => rw [h.bl]; rfl
  | int b => rw [h.int]; rfl
  | str b => rw [h.str]; rfl
  | tup ds => obtain ⟨a, xs, rfl, _⟩ := h.tup; rfl
  | lst ds => obtain ⟨a, xs, rfl, _⟩ := h.lst; rfl
  | scr ns =>
    have h : Rep K H S (.scr ns) v := h
    unfold Rep at h
    obtain ⟨a, rfl, _⟩ := h
    rfl
theorem ops_is : OpS ts X (compareOp .Is) (isD false) := by
  refine ops_of op_isN fun C Γ σ H x y dx dy res Q E hx hy e q => ?_
  unfold isD at e
  split at e
  · cases e
    refine ⟨hy.non, ?_⟩
    rw [hx.isNon]
    exact q _ H E Go.refl rfl
  · cases e
theorem ops_isnot : OpS ts X (compareOp .IsNot) (isD true) := by
  refine ops_of op_notN fun C Γ σ H x y dx dy res Q E hx hy e q => ?_
  unfold isD at e
  split at e
  · cases e
    refine ⟨hy.non, ?_⟩
    rw [hx.isNon]
    exact q _ H E Go.refl rfl
  · cases e
/-! ### in -/
def flatD : D → Bool
  | .non => true
  | .bl _ => true
  | .int _ => true
  | .str _ => true
  | _ => false
def toV : D → V
  | .non => .non
  | .bl b => .bl b
  | .int b => .int b
  | .str b => .str b
  | _ => .non
theorem Rep.flat {K : PySem.W.Frag} {H : Hp} {S : Addr → Prop} {d : D} {v : V} (h : Rep K H S d v) (f : flatD d = true) : v = toV d ∧ flatV v = true := by
  cases d with
  | non => rw [h.pk.non]; exact ⟨rfl, rfl⟩
  | bl b => rw [h.pk.bl]; exact ⟨rfl, rfl⟩
  | int b => rw [h.pk.int]; exact ⟨rfl, rfl⟩
  | str b => rw [h.pk.str]; exact ⟨rfl, rfl⟩
  | _ => cases f
theorem Reps.flat {K : PySem.W.Frag} {H : Hp} {S : Addr → Prop} : ∀ {ds : List D} {vs : List V}, Reps K H S ds vs → ds.all flatD = true → vs = ds.map toV ∧ vs.all flatV = true
  | [], vs, h, f => by rw [Reps.nil_iff.mp h]; exact ⟨rfl, rfl⟩
  | d :: ds, vs, h, f => by
    obtain ⟨v, r, e, h1, h2⟩ := Reps.cons_iff.mp h
    rw [List.all_cons, Bool.and_eq_true_iff] at f
    obtain ⟨e1, e2⟩ := h1.flat f.1
    obtain ⟨e3, e4⟩ := Reps.flat h2 f.2
    rw [e, e1, e3]
    refine ⟨rfl, ?_⟩
    rw [List.all_cons, ← e3, e4, ← e1, e2]
    rfl
def inB : D → D → Option Bool
  | .str a, .str b => match a.cps.toList with
    | [c] => some (decide (c ∈ b.cps.toList))
    | _ => some (!(Builtin.Str.occurrences b a 0 b.length 1).isEmpty)
  | d, .lst ds => if flatD d = true ∧ ds.all flatD = true then some (inV (toV d) (ds.map toV)) else none
  | d, .tup ds => if flatD d = true ∧ ds.all flatD = true then some (inV (toV d) (ds.map toV)) else none
  | _, _ => none
def inD (neg : Bool) (a b : D) : Option Vl := (inB a b).map fun k => .fz (.bl (if neg then !k else k))
theorem Pk.rep_flat {K : PySem.W.Frag} {H : Hp} {S : Addr → Prop} {d : D} {v : V} (h : Pk K H S d v) (f : flatD d = true) : Rep K H S d v := by
  cases d with
  | lst ds => cases f
  | _ => exact h
theorem str_one {a : Str} {c : Nat} (h : a.cps.toList = [c]) : a = ⟨#[c]⟩ := by
  obtain ⟨l⟩ := a
  have : l = #[c] := by
    rw [← Array.toList_inj]
    exact h
  rw [this]
theorem ops_in : OpS ts X (compareOp .In) (inD false) := by
  refine ops_of (OpR.or op_in_sign (OpR.or op_in_str op_in_seq)) fun C Γ σ H x y dx dy res Q E hx hy e q => ?_
  obtain ⟨k, e1, rfl⟩ := Option.map_eq_some_iff.mp e
  unfold inB at e1
  split at e1
  · split at e1
    · rename_i hc
      cases e1
      exact .inl ⟨_, _, by rw [hx.str, str_one hc], hy.str, q _ H E Go.refl rfl⟩
    · cases e1
      exact .inr (.inl ⟨_, _, hx.str, hy.str, q _ H E Go.refl rfl⟩)
  · split at e1
    · rename_i d ds hf
      cases e1
      obtain ⟨a, xs, rfl, h1, h2⟩ := hy.lst
      obtain ⟨e2, e3⟩ := (hx.rep_flat hf.1).flat hf.1
      obtain ⟨e4, e5⟩ := h2.flat hf.2
      refine .inr (.inr ⟨a, xs, rfl, .inl (SqL.of h1), e3, e5, ?_⟩)
      rw [e2, e4]
      exact q _ H E Go.refl rfl
    · cases e1
  · split at e1
    · rename_i d ds hf
      cases e1
      obtain ⟨a, xs, rfl, h1, h2⟩ := hy.tup
      obtain ⟨e2, e3⟩ := (hx.rep_flat hf.1).flat hf.1
      obtain ⟨e4, e5⟩ := h2.flat hf.2
      refine .inr (.inr ⟨a, xs, rfl, .inr h1, e3, e5, ?_⟩)
      rw [e2, e4]
      exact q _ H E Go.refl rfl
    · cases e1
  · cases e1
theorem ops_notin : OpS ts X (compareOp .NotIn) (inD true) := by
  refine ops_of (OpR.or op_notIn_sign (OpR.or op_notin_str op_notIn_seq)) fun C Γ σ H x y dx dy res Q E hx hy e q => ?_
  obtain ⟨k, e1, rfl⟩ := Option.map_eq_some_iff.mp e
  unfold inB at e1
  split at e1
  · split at e1
    · rename_i hc
      cases e1
      exact .inl ⟨_, _, by rw [hx.str, str_one hc], hy.str, q _ H E Go.refl rfl⟩
    · cases e1
      exact .inr (.inl ⟨_, _, hx.str, hy.str, q _ H E Go.refl rfl⟩)
  · split at e1
    · rename_i d ds hf
      cases e1
      obtain ⟨a, xs, rfl, h1, h2⟩ := hy.lst
      obtain ⟨e2, e3⟩ := (hx.rep_flat hf.1).flat hf.1
      obtain ⟨e4, e5⟩ := h2.flat hf.2
      refine .inr (.inr ⟨a, xs, rfl, .inl (SqL.of h1), e3, e5, ?_⟩)
      rw [e2, e4]
      exact q _ H E Go.refl rfl
    · cases e1
  · split at e1
    · rename_i d ds hf
      cases e1
      obtain ⟨a, xs, rfl, h1, h2⟩ := hy.tup
      obtain ⟨e2, e3⟩ := (hx.rep_flat hf.1).flat hf.1
      obtain ⟨e4, e5⟩ := h2.flat hf.2
      refine .inr (.inr ⟨a, xs, rfl, .inr h1, e3, e5, ?_⟩)
      rw [e2, e4]
      exact q _ H E Go.refl rfl
    · cases e1
  · cases e1
end
end SX

set_option Elab.async false
set_option linter.all false
set_option maxRecDepth 100000
set_option maxHeartbeats 4000000
namespace SX
open PySem PySem.Spec PyProof.Rows L2 L2H XT GX RD
section
variable {ts : Tsx} {X : Cx} {W : WX} {e a b c : Expr} {es : List Expr} {m ma mb mc : ME} {ms : MA} {pos : Pos}
/-! ### subscripts, slices -/
def idxD : D → D → Option Vl
  | .lst ds, .int i => (atI ds i).map .fz
  | .tup ds, .int i => (atI ds i).map .fz
  | .str s, .int i => if s.length ≤ sizeLine then (atI s.cps.toList i).map fun c => .fz (.str ⟨#[c]⟩) else none
  | _, _ => none
theorem Reps.atI {K : PySem.W.Frag} {H : Hp} {S : Addr → Prop} {ds : List D} {vs : List V} {i : Int} {d : D} (h : Reps K H S ds vs) (e : L2.atI ds i = some d) : ∃ v, L2.atI vs i = some v ∧ Rep K H S d v := by
  unfold L2.atI at e ⊢
  obtain ⟨j, h1, h2⟩ := Option.bind_eq_some_iff.mp e
  obtain ⟨v, h3, h4⟩ := h.get h2
  exact ⟨v, by rw [← h.length, h1]; exact h3, h4⟩
theorem ix_sim {C : Cn} {Γ : EV} {σ : L2.St} {H : Hp} {x y : V} {dx dy : D} {res : Vl} {Q : VK} (E : EnvOK X.K ts C Γ σ H) (hx : Pk X.K H (Av C Γ σ) dx x) (hy : Pk X.K H (Av C Γ σ) dy y) (e : idxD dx dy = some res)
    (q : ∀ v H', EnvOK X.K ts C Γ σ H' → Go C Γ σ H Γ H' → VOK X.K ts C Γ σ H' res v → Q v H') : rIxL X.K x y H Q ∨ rIxT X.K x y H Q ∨ rIxS x y H Q := by
  unfold idxD at e
  split at e
  · obtain ⟨d, e1, rfl⟩ := Option.map_eq_some_iff.mp e
    obtain ⟨a, xs, rfl, h1, h2⟩ := hx.lst
    obtain ⟨v, h3, h4⟩ := h2.atI e1
    exact .inl ⟨a, xs, _, v, rfl, hy.int, SqL.of h1, h3, q v H E Go.refl h4⟩
  · obtain ⟨d, e1, rfl⟩ := Option.map_eq_some_iff.mp e
    obtain ⟨a, xs, rfl, h1, h2⟩ := hx.tup
    obtain ⟨v, h3, h4⟩ := h2.atI e1
    exact .inr (.inl ⟨a, xs, _, v, rfl, hy.int, h1, h3, q v H E Go.refl h4⟩)
  · split at e
    · rename_i hl
      obtain ⟨c, e1, rfl⟩ := Option.map_eq_some_iff.mp e
      exact .inr (.inr ⟨_, _, c, hx.str, hy.int, hl, e1, q _ H E Go.refl rfl⟩)
    · cases e
  · cases e
theorem se_ix (ha : SE ts X W a ma) (hb : SE ts X W b mb) (hs : PlainIx b := by exact fun _ _ => rfl) : SE ts X W (.Subscript a b pos) (mBin idxD ma mb) := by
  obtain ⟨ta, pa, sa⟩ := ha
  obtain ⟨tb, pb, sb⟩ := hb
  exact ⟨_, pe_ix (IxR.or ix_list (IxR.or ix_tup ix_str)) pa pb hs, fun C Γ σ H Q E h => bin_sim sa sb (fun C Γ σ H x y dx dy res Q E hx hy e q => ix_sim E hx hy e q) E h⟩
def mONo : MO := fun Γ => .ok none Γ
def mOSo (m : ME) : MO := fun Γ => (m Γ).bind fun v Γ1 => match v with
  | .fz (.int i) => .ok (some i) Γ1
  | _ => .no
theorem so_none : SO ts X W none mONo := ⟨_, po_none, fun C Γ σ H Q E h => h _ H E Go.refl rfl⟩
theorem so_some (h : SE ts X W e m) : SO ts X W (some e) (mOSo m) := by
  obtain ⟨t, p, s⟩ := h
  refine ⟨_, po_some p, fun C Γ σ H Q E h => s C Γ σ H _ E (Post.bind h fun v Γ1 x H1 E1 g1 v1 h1 => ?_)⟩
  split at h1
  · exact ⟨_, v1, h1 _ H1 E1 Go.refl rfl⟩
  · exact h1.elim
def cutD (ds : List D) (lo hi : Option Int) : List D := (ds.drop (HT.sIx ds.length 0 lo)).take (HT.sIx ds.length ds.length hi - HT.sIx ds.length 0 lo)
def sliceD (d : D) (lo hi : Option Int) : Option Vl :=
  match d with
  | .lst ds => some (.ow (cutD ds lo hi))
  | .tup ds => some (.fz (.tup (cutD ds lo hi)))
  | .str s => if s.length ≤ sizeLine then some (.fz (.str (cutS s lo hi))) else none
  | _ => none
theorem Reps.cut {K : PySem.W.Frag} {H : Hp} {S : Addr → Prop} {ds : List D} {vs : List V} (h : Reps K H S ds vs) (lo hi : Option Int) : Reps K H S (cutD ds lo hi) (cutV vs lo hi) := by
  unfold cutD cutV
  rw [← h.length]
  exact (h.drop _).take _
def mSl (m : ME) (lo hi : MO) : ME := fun Γ => (m Γ).bind fun v Γ1 => (lo Γ1).bind fun l Γ2 => (hi Γ2).bind fun u Γ3 => match (peek Γ3 v.op).bind fun d => sliceD d l u with
  | some r => .ok r Γ3
  | none => .no
theorem cut_all (ds : List D) {lo hi : Option Int} (h : HT.sIx ds.length 0 lo = 0 ∧ HT.sIx ds.length ds.length hi = ds.length) : cutD ds lo hi = ds := by
  unfold cutD
  rw [h.1, h.2]
  simp
theorem se_slice {lo hi : Option Expr} {ml mh : MO} {p2 : Pos} (ha : SE ts X W a ma) (hl : SO ts X W lo ml) (hh : SO ts X W hi mh) : SE ts X W (.Subscript a (.Slice lo hi none p2) pos) (mSl ma ml mh) := by
  obtain ⟨ta, pa, sa⟩ := ha
  obtain ⟨tl, pl, sl⟩ := hl
  obtain ⟨th, ph, sh⟩ := hh
  refine ⟨_, pe_slice (SlR.or sl_list (SlR.or sl_tupA sl_str)) pa pl ph, fun C Γ σ H Q E h => sa C Γ σ H _ E (Post.bind h fun v Γ1 x H1 E1 g1 v1 h1 => ?_)⟩
  refine sl C Γ1 σ H1 _ E1 (Post.bind h1 fun l Γ2 l' H2 E2 g2 e2 h2 => ?_)
  obtain rfl : l = l' := e2
  refine sh C Γ2 σ H2 _ E2 (Post.bind h2 fun u Γ3 u' H3 E3 g3 e3 h3 => ?_)
  obtain rfl : u = u' := e3
  have w := (v1.op).go (g2.trans g3)
  split at h3
  · rename_i res e
    obtain ⟨d, e4, e5⟩ := Option.bind_eq_some_iff.mp e
    have pk := w.pk E3 e4
    unfold sliceD at e5
    split at e5
    · cases e5
      obtain ⟨p, xs, rfl, k1, k2⟩ := pk.lst
      refine .inl ⟨p, xs, rfl, SqL.of k1, fun q hq => ?_⟩
      obtain ⟨E4, g4, v4⟩ := new_lst E3 (k2.cut l u) hq
      exact h3 _ _ E4 g4 v4
    · cases e5
      have pk' : Rep X.K H3 (Av C Γ3 σ) _ x := pk
      obtain ⟨p, xs, rfl, k1, k2⟩ := pk.tup
      refine .inr (.inl ⟨p, xs, rfl, k1, fun z => ?_, fun _ q hq => ?_⟩)
      · refine h3 _ H3 E3 Go.refl ?_
        rw [cut_all _ (by rw [k2.length]; exact z)]
        exact pk'
      · obtain ⟨E4, g4, v4⟩ := new_tup E3 (k2.cut l u) hq
        exact h3 _ _ E4 g4 v4
    · split at e5
      · rename_i hz
        cases e5
        exact .inr (.inr ⟨_, pk.str, hz, h3 _ H3 E3 Go.refl rfl⟩)
      · cases e5
    · cases e5
  · exact h3.elim
def mNeg (m : ME) : ME := fun Γ => (m Γ).bind fun v Γ1 => match v with
  | .fz (.int i) => .ok (.fz (.int (-i))) Γ1
  | _ => .no
theorem se_neg (h : SE ts X W e m) : SE ts X W (.UnaryOp .USub e pos) (mNeg m) := by
  obtain ⟨t, p, s⟩ := h
  refine ⟨_, pe_un un_neg p, fun C Γ σ H Q E h => s C Γ σ H _ E (Post.bind h fun v Γ1 x H1 E1 g1 v1 h1 => ?_)⟩
  split at h1
  · exact ⟨_, v1, h1 _ H1 E1 Go.refl rfl⟩
  · exact h1.elim
def mChain (p q : D → D → Option Vl) (ma mb mc : ME) : ME := fun Γ => (ma Γ).bind fun va Γ1 => (mb Γ1).bind fun vb Γ2 =>
  match peek Γ2 va.op, peek Γ2 vb.op with
  | some dx, some dy => match p dx dy with
    | some (.fz (.bl k)) => if k = true then (mc Γ2).bind fun vc Γ3 => match peek Γ3 vb.op, peek Γ3 vc.op with
        | some dy, some dz => match q dy dz with
          | some r => .ok r Γ3
          | none => .no
        | _, _ => .no
      else .ok (.fz (.bl false)) Γ2
    | _ => .no
  | _, _ => .no
theorem chain_sim {p q : D → D → Option Vl} {ta tb tc : TE} {r r' : R2} {C : Cn} {Γ : EV} {σ : L2.St} {H : Hp} {Q : VK}
    (sa : ∀ (C : Cn) (Γ : EV) (σ : L2.St) (H : Hp) (Q : VK), EnvOK X.K ts C Γ σ H → Post X.K ts C W σ Γ H (RE X.K ts C σ) Q (ma Γ) → ta σ H Q)
    (sb : ∀ (C : Cn) (Γ : EV) (σ : L2.St) (H : Hp) (Q : VK), EnvOK X.K ts C Γ σ H → Post X.K ts C W σ Γ H (RE X.K ts C σ) Q (mb Γ) → tb σ H Q)
    (sc : ∀ (C : Cn) (Γ : EV) (σ : L2.St) (H : Hp) (Q : VK), EnvOK X.K ts C Γ σ H → Post X.K ts C W σ Γ H (RE X.K ts C σ) Q (mc Γ) → tc σ H Q)
    (sr : ∀ (C : Cn) (Γ : EV) (σ : L2.St) (H : Hp) (x y : V) (dx dy : D) (res : Vl) (Q : VK), EnvOK X.K ts C Γ σ H → Pk X.K H (Av C Γ σ) dx x → Pk X.K H (Av C Γ σ) dy y → p dx dy = some res →
      (∀ v H', EnvOK X.K ts C Γ σ H' → Go C Γ σ H Γ H' → VOK X.K ts C Γ σ H' res v → Q v H') → r x y H Q)
    (sr' : ∀ (C : Cn) (Γ : EV) (σ : L2.St) (H : Hp) (x y : V) (dx dy : D) (res : Vl) (Q : VK), EnvOK X.K ts C Γ σ H → Pk X.K H (Av C Γ σ) dx x → Pk X.K H (Av C Γ σ) dy y → q dx dy = some res →
      (∀ v H', EnvOK X.K ts C Γ σ H' → Go C Γ σ H Γ H' → VOK X.K ts C Γ σ H' res v → Q v H') → r' x y H Q)
    (E : EnvOK X.K ts C Γ σ H) (h : Post X.K ts C W σ Γ H (RE X.K ts C σ) Q (mChain p q ma mb mc Γ)) : tChain r r' ta tb tc σ H Q := by
  refine sa C Γ σ H _ E (Post.bind h fun va Γ1 x H1 E1 g1 v1 h1 => ?_)
  refine sb C Γ1 σ H1 _ E1 (Post.bind h1 fun vb Γ2 y H2 E2 g2 v2 h2 => ?_)
  have w1 := (v1.op).go g2
  have w2 := v2.op
  split at h2
  · rename_i dx dy e1 e2
    split at h2
    · rename_i k e3
      refine sr C Γ2 σ H2 x y dx dy _ _ E2 (w1.pk E2 e1) (w2.pk E2 e2) e3 fun v H3 E3 g3 v3 => ?_
      refine ⟨k, v3, ?_⟩
      cases k with
      | true =>
        refine iteT (sc C Γ2 σ H3 _ E3 (Post.bind (Post.shift g3 h2) fun vc Γ4 z H4 E4 g4 v4 h4 => ?_))
        have w3 := w2.go (g3.trans g4)
        split at h4
        · rename_i dy' dz e5 e6
          split at h4
          · rename_i res e7
            exact sr' C Γ4 σ H4 y z dy' dz res Q E4 (w3.pk E4 e5) ((v4.op).pk E4 e6) e7 fun v H' E' g' v' => h4 v H' E' g' v'
          · exact h4.elim
        · exact h4.elim
      | false => exact iteF (h2 _ H3 E3 g3 rfl)
    · exact h2.elim
  · exact h2.elim
theorem se_chain {o1 o2 : CmpOp} {p q : D → D → Option Vl} (h1 : OpS ts X (compareOp o1) p) (h2 : OpS ts X (compareOp o2) q) (ha : SE ts X W a ma) (hb : SE ts X W b mb) (hc : SE ts X W c mc) (hm : lastMarks [o1, o2] [b, c] = false := by rfl) :
    SE ts X W (.Compare a [o1, o2] [b, c] pos) (mChain p q ma mb mc) := by
  obtain ⟨ta, pa, sa⟩ := ha
  obtain ⟨tb, pb, sb⟩ := hb
  obtain ⟨tc, pc, sc⟩ := hc
  obtain ⟨r, po, sr⟩ := h1
  obtain ⟨r', po', sr'⟩ := h2
  exact ⟨_, pe_chain po po' pa pb pc hm, fun C Γ σ H Q E h => chain_sim sa sb sc sr sr' E h⟩
theorem st_chain {o1 o2 : CmpOp} {p q : D → D → Option Vl} (h1 : OpS ts X (compareOp o1) p) (h2 : OpS ts X (compareOp o2) q) (ha : SE ts X W a ma) (hb : SE ts X W b mb) (hc : SE ts X W c mc) (hm : lastMarks [o1, o2] [b, c] = false := by rfl) :
    ST ts X W (.Compare a [o1, o2] [b, c] pos) (mTest (mChain p q ma mb mc)) := by
  obtain ⟨ta, pa, sa⟩ := ha
  obtain ⟨tb, pb, sb⟩ := hb
  obtain ⟨tc, pc, sc⟩ := hc
  obtain ⟨r, po, sr⟩ := h1
  obtain ⟨r', po', sr'⟩ := h2
  exact ⟨_, pt_chain po po' pa pb pc hm, fun C Γ σ H Q E h => chain_sim sa sb sc sr sr' E (test_sim h)⟩
/-! ### built-in functions of data -/
/-- a function of data, its rule -/
structure FnS (ts : Tsx) (X : Cx) (f : Value) (p : List D → Option Vl) : Prop where
  ex : ∃ r : List V → Hp → VK → Prop, CallR X f r ∧ ∀ (C : Cn) (Γ : EV) (σ : L2.St) (H : Hp) (xs : List V) (ds : List D) (res : Vl) (Q : VK), EnvOK X.K ts C Γ σ H → Paired (Pk X.K H (Av C Γ σ)) ds xs → p ds = some res →
    (∀ v H', EnvOK X.K ts C Γ σ H' → Go C Γ σ H Γ H' → VOK X.K ts C Γ σ H' res v → Q v H') → r xs H Q
def peeks (Γ : EV) : List Vl → Option (List D)
  | [] => some []
  | v :: vs => (peek Γ v.op).bind fun d => (peeks Γ vs).map fun ds => d :: ds
theorem VOKs.pks {K : PySem.W.Frag} {C : Cn} {Γ : EV} {σ : L2.St} {H : Hp} (E : EnvOK K ts C Γ σ H) : ∀ {vals : List Vl} {vs : List V} {ds : List D}, VOKs K ts C Γ σ H vals vs → peeks Γ vals = some ds → Paired (Pk K H (Av C Γ σ)) ds vs
  | [], vs, ds, h, e => by
    cases e
    rw [show vs = [] from h]
    exact .nil
  | val :: vals, vs, ds, ⟨v, r, e0, h1, h2⟩, e => by
    unfold peeks at e
    obtain ⟨d, e1, e2⟩ := Option.bind_eq_some_iff.mp e
    obtain ⟨ds', e3, e4⟩ := Option.map_eq_some_iff.mp e2
    subst e4
    rw [e0]
    exact .cons (h1.pk E e1) (VOKs.pks E h2 e3)
def mFn (p : List D → Option Vl) (ms : MA) : ME := fun Γ => (ms Γ).bind fun vs Γ1 => match (peeks Γ1 vs).bind p with
  | some r => .ok r Γ1
  | none => .no
theorem fn_sim {p : List D → Option Vl} {ta : TA} {r : List V → Hp → VK → Prop} {C : Cn} {Γ : EV} {σ : L2.St} {H : Hp} {Q : VK}
    (sa : ∀ (C : Cn) (Γ : EV) (σ : L2.St) (H : Hp) (Q : List V → Hp → Prop), EnvOK X.K ts C Γ σ H → Post X.K ts C W σ Γ H (RA X.K ts C σ) Q (ms Γ) → ta σ H Q)
    (sr : ∀ (C : Cn) (Γ : EV) (σ : L2.St) (H : Hp) (xs : List V) (ds : List D) (res : Vl) (Q : VK), EnvOK X.K ts C Γ σ H → Paired (Pk X.K H (Av C Γ σ)) ds xs → p ds = some res →
      (∀ v H', EnvOK X.K ts C Γ σ H' → Go C Γ σ H Γ H' → VOK X.K ts C Γ σ H' res v → Q v H') → r xs H Q)
    (E : EnvOK X.K ts C Γ σ H) (h : Post X.K ts C W σ Γ H (RE X.K ts C σ) Q (mFn p ms Γ)) : tCB r ta σ H Q := by
  refine sa C Γ σ H _ E (Post.bind h fun vs Γ1 xs H1 E1 g1 v1 h1 => ?_)
  split at h1
  · rename_i res e
    obtain ⟨ds, e1, e2⟩ := Option.bind_eq_some_iff.mp e
    exact sr C Γ1 σ H1 xs ds res Q E1 (v1.pks E1 e1) e2 fun v H' E' g' v' => h1 v H' E' g' v'
  · exact h1.elim
variable {x : Str} {q : Pos}
theorem se_callB {id : String} {p : List D → Option Vl} (hf : FnS ts X (.builtin id) p) (hg : Gl X x) (hm : X.mg x = none) (hb : bootBuiltins x = some (.builtin id)) (ha : SA ts X W (e :: es) ms) (hn : x ≠ "__name__" := by decide)
    (hdb : (x == ("__debug__" : Str)) = false := by decide) (he : starEach (e :: es) X.env = (false, eval e X.env) :: starEach es X.env := by rfl) (hpl : (backTo pos (starEach es X.env)).any (·.1) = false := by rfl) :
    SE ts X W (.Call (.Name x q) (e :: es) [] pos) (mFn p ms) := by
  obtain ⟨r, pr, sr⟩ := hf
  obtain ⟨ta, pa, sa⟩ := ha
  exact ⟨_, pe_callB pr hg hm hb pa hn hdb he hpl, fun C Γ σ H Q E h => fn_sim sa sr E h⟩
theorem se_callTy {T : String} {p : List D → Option Vl} (hf : FnS ts X (.type T) p) (hg : Gl X x) (hm : X.mg x = none) (hb : bootBuiltins x = some (.type T)) (ha : SA ts X W (e :: es) ms) (hn : x ≠ "__name__" := by decide)
    (hdb : (x == ("__debug__" : Str)) = false := by decide) (he : starEach (e :: es) X.env = (false, eval e X.env) :: starEach es X.env := by rfl) (hpl : (backTo pos (starEach es X.env)).any (·.1) = false := by rfl) :
    SE ts X W (.Call (.Name x q) (e :: es) [] pos) (mFn p ms) := by
  obtain ⟨r, pr, sr⟩ := hf
  obtain ⟨ta, pa, sa⟩ := ha
  exact ⟨_, pe_callTy pr hg hm hb pa hn hdb he hpl, fun C Γ σ H Q E h => fn_sim sa sr E h⟩
def lenD : List D → Option Vl
  | [.str s] => if s.length ≤ sizeLine then some (.fz (.int s.length)) else none
  | [.lst ds] => some (.fz (.int ds.length))
  | [.tup ds] => some (.fz (.int ds.length))
  | [.scr ns] => some (.fz (.int ns.length))
  | _ => none
theorem paired1 {α β : Type} {F : α → β → Prop} {a : α} {bs : List β} (h : Paired F [a] bs) : ∃ b, bs = [b] ∧ F a b := by
  cases h with
  | cons r t => cases t; exact ⟨_, rfl, r⟩
theorem paired2 {α β : Type} {F : α → β → Prop} {a a2 : α} {bs : List β} (h : Paired F [a, a2] bs) : ∃ b b2, bs = [b, b2] ∧ F a b ∧ F a2 b2 := by
  cases h with
  | cons r t =>
    obtain ⟨b2, rfl, r2⟩ := paired1 t
    exact ⟨_, b2, rfl, r, r2⟩
theorem fns_len : FnS ts X (.builtin "len") lenD := by
  refine ⟨_, call_len, fun C Γ σ H xs ds res Q E hp e q => ?_⟩
  unfold lenD at e
  split at e
  · split at e
    · rename_i hl
      cases e
      obtain ⟨v, rfl, h⟩ := paired1 hp
      exact ⟨v, _, rfl, by rw [h.str]; exact ⟨hl, rfl⟩, q _ H E Go.refl rfl⟩
    · cases e
  · cases e
    obtain ⟨v, rfl, h⟩ := paired1 hp
    obtain ⟨a, xs, rfl, h1, h2⟩ := h.lst
    exact ⟨_, _, rfl, .inl ⟨xs, SqL.of h1, rfl⟩, by rw [← h2.length]; exact q _ H E Go.refl rfl⟩
  · cases e
    obtain ⟨v, rfl, h⟩ := paired1 hp
    obtain ⟨a, xs, rfl, h1, h2⟩ := h.tup
    exact ⟨_, _, rfl, .inr ⟨xs, h1, rfl⟩, by rw [← h2.length]; exact q _ H E Go.refl rfl⟩
  · cases e
    obtain ⟨v, rfl, h⟩ := paired1 hp
    have h : Rep X.K H _ (.scr _) v := h
    unfold Rep at h
    obtain ⟨a, rfl, h1⟩ := h
    refine ⟨_, _, rfl, .inl ⟨_, scq h1, rfl⟩, ?_⟩
    rw [List.length_map]
    exact q _ H E Go.refl rfl
  · cases e
def intD : List D → Option Vl
  | [.int i] => some (.fz (.int i))
  | [.bl b] => some (.fz (.int (if b = true then 1 else 0)))
  | _ => none
theorem fns_int : FnS ts X (.type "int") intD := by
  refine ⟨_, call_int1, fun C Γ σ H xs ds res Q E hp e q => ?_⟩
  unfold intD at e
  split at e
  · cases e
    obtain ⟨v, rfl, h⟩ := paired1 hp
    exact .inl ⟨_, by rw [h.int], q _ H E Go.refl rfl⟩
  · cases e
    obtain ⟨v, rfl, h⟩ := paired1 hp
    refine .inr ⟨_, by rw [h.bl], ?_⟩
    exact q _ H E Go.refl rfl
  · cases e
def min2D : List D → Option Vl
  | [.int i, .int j] => some (.fz (.int (if j < i then j else i)))
  | _ => none
theorem fns_min (hc : X.calm = true) : FnS ts X (.builtin "min") min2D := by
  refine ⟨_, call_min2 hc, fun C Γ σ H xs ds res Q E hp e q => ?_⟩
  unfold min2D at e
  split at e
  · cases e
    obtain ⟨v, w, rfl, h, h2⟩ := paired2 hp
    exact ⟨_, _, by rw [h.int, h2.int], q _ H E Go.refl rfl⟩
  · cases e
def max2D : List D → Option Vl
  | [.int i, .int j] => some (.fz (.int (if j > i then j else i)))
  | _ => none
theorem fns_max (hc : X.calm = true) : FnS ts X (.builtin "max") max2D := by
  refine ⟨_, call_max2 hc, fun C Γ σ H xs ds res Q E hp e q => ?_⟩
  unfold max2D at e
  split at e
  · cases e
    obtain ⟨v, w, rfl, h, h2⟩ := paired2 hp
    exact ⟨_, _, by rw [h.int, h2.int], q _ H E Go.refl rfl⟩
  · cases e
def absD : List D → Option Vl
  | [.int i] => some (.fz (.int (if i < 0 then -i else i)))
  | _ => none
theorem fns_abs : FnS ts X (.builtin "abs") absD := by
  refine ⟨_, call_abs, fun C Γ σ H xs ds res Q E hp e q => ?_⟩
  unfold absD at e
  split at e
  · cases e
    obtain ⟨v, rfl, h⟩ := paired1 hp
    exact ⟨_, by rw [h.int], q _ H E Go.refl rfl⟩
  · cases e
def listD : List D → Option Vl
  | [.lst ds] => some (.ow ds)
  | [.tup ds] => some (.ow ds)
  | _ => none
theorem fns_list : FnS ts X (.type "list") listD := by
  refine ⟨_, call_list_of, fun C Γ σ H xs ds res Q E hp e q => ?_⟩
  unfold listD at e
  split at e
  · cases e
    obtain ⟨v, rfl, h⟩ := paired1 hp
    obtain ⟨a, xs, rfl, h1, h2⟩ := h.lst
    refine ⟨a, xs, rfl, .inl (SqL.of h1), fun l hl => ?_⟩
    obtain ⟨E4, g4, v4⟩ := new_lst E h2 hl
    exact q _ _ E4 g4 v4
  · cases e
    obtain ⟨v, rfl, h⟩ := paired1 hp
    obtain ⟨a, xs, rfl, h1, h2⟩ := h.tup
    refine ⟨a, xs, rfl, .inr h1, fun l hl => ?_⟩
    obtain ⟨E4, g4, v4⟩ := new_lst E h2 hl
    exact q _ _ E4 g4 v4
  · cases e
def tupD : List D → Option Vl
  | [.lst ds] => some (.fz (.tup ds))
  | [.tup ds] => some (.fz (.tup ds))
  | _ => none
theorem fns_tup : FnS ts X (.type "tuple") tupD := by
  refine ⟨_, call_tuple_of, fun C Γ σ H xs ds res Q E hp e q => ?_⟩
  unfold tupD at e
  split at e
  · cases e
    obtain ⟨v, rfl, h⟩ := paired1 hp
    obtain ⟨a, xs, rfl, h1, h2⟩ := h.lst
    refine ⟨a, xs, rfl, .inl ⟨SqL.of h1, fun l hl => ?_⟩⟩
    obtain ⟨E4, g4, v4⟩ := new_tup E h2 hl
    exact q _ _ E4 g4 v4
  · cases e
    obtain ⟨v, rfl, h⟩ := paired1 hp
    have h' : Rep X.K H (Av C Γ σ) _ v := h
    obtain ⟨a, xs, rfl, h1, h2⟩ := h.tup
    exact ⟨a, xs, rfl, .inr ⟨h1, q _ H E Go.refl h'⟩⟩
  · cases e
/-! ### isinstance -/
def tyD : D → String
  | .non => "NoneType"
  | .bl _ => "bool"
  | .int _ => "int"
  | .str _ => "str"
  | .tup _ => "tuple"
  | .lst _ => "list"
  | .scr _ => "list"
theorem Pk.tyx {K : PySem.W.Frag} {H : Hp} {S : Addr → Prop} {d : D} {v : V} (h : Pk K H S d v) : TyX K H v (.type (tyD d)) := by
  cases d with
  | non => rw [h.non]; exact .base .non
  | bl b => rw [h.bl]; exact .base (.bl b)
  | int b => rw [h.int]; exact .base (.int b)
  | str b => rw [h.str]; exact .base (.str b)
  | tup ds =>
    obtain ⟨a, xs, rfl, h1, _⟩ := h.tup
    exact Thg.tyx (.tup h1)
  | lst ds =>
    obtain ⟨a, xs, rfl, h1, _⟩ := h.lst
    exact Thg.tyx (.lst (SqL.of h1))
  | scr ns =>
    have h : Rep K H S (.scr _) v := h
    unfold Rep at h
    obtain ⟨a, rfl, h1⟩ := h
    exact Thg.tyx (.lst (scq h1))
def isiB (t b : String) : Bool := t == b || (t == "bool" && b == "int")
theorem kit_tyD {K : PySem.W.Frag} (d : D) {b : String} (hb : b ∈ ["int", "bool", "str", "tuple", "list"]) : PySem.W.kitOne K (.type (tyD d)) (.type b) = some (isiB (tyD d) b) := by
  refine kit_ty ?_
  have ht : tyD d ∈ ["NoneType", "bool", "int", "str", "tuple", "list"] := by cases d <;> (simp only [tyD]; decide)
  have key : ∀ t ∈ ["NoneType", "bool", "int", "str", "tuple", "list"], ∀ b ∈ ["int", "bool", "str", "tuple", "list"], kitB t b = some (isiB t b) := by decide +kernel
  exact key _ ht _ hb
def mIsi (b : String) (m : ME) : ME := fun Γ => (m Γ).bind fun v Γ1 => match peek Γ1 v.op with
  | some d => .ok (.fz (.bl (isiB (tyD d) b))) Γ1
  | none => .no
theorem se_isi {b : String} {n : Str} {p1 : Pos} (hb : b ∈ ["int", "bool", "str", "tuple", "list"]) (hg : Gl X "isinstance") (hm : X.mg "isinstance" = none) (h : SE ts X W e m) (hn : PE X (.Name n p1) (tC (.ty b)))
    (he : starEach [e, .Name n p1] X.env = (false, eval e X.env) :: starEach [.Name n p1] X.env := by rfl) (hpl : (backTo pos (starEach [.Name n p1] X.env)).any (·.1) = false := by rfl)
    (he2 : starEach [.Name n p1] X.env = (false, eval (.Name n p1) X.env) :: starEach [] X.env := by rfl) : SE ts X W (.Call (.Name "isinstance" q) [e, .Name n p1] [] pos) (mIsi b m) := by
  obtain ⟨t, p, s⟩ := h
  refine ⟨_, pe_callB call_isi hg hm (by decide +kernel) (pa_cons p (pa_cons hn pa_nil he2) he) (by decide) (by decide) he hpl, fun C Γ σ H Q E h => s C Γ σ H _ E (Post.bind h fun v Γ1 x H1 E1 g1 v1 h1 => ?_)⟩
  split at h1
  · rename_i d e1
    have pk := (v1.op).pk E1 e1
    exact ⟨x, .ty b, .type (tyD d), .type b, _, rfl, .ty b, pk.tyx, kit_tyD d hb, h1 _ H1 E1 Go.refl rfl⟩
  · exact h1.elim
/-! ### methods of texts -/
structure MtS (ts : Tsx) (X : Cx) (id : String) (p : Str → List D → Option Vl) : Prop where
  ex : ∃ r : V → List V → Hp → VK → Prop, MtR X id r ∧ ∀ (C : Cn) (Γ : EV) (σ : L2.St) (H : Hp) (s : Str) (xs : List V) (ds : List D) (res : Vl) (Q : VK), EnvOK X.K ts C Γ σ H → Paired (Pk X.K H (Av C Γ σ)) ds xs → p s ds = some res →
    (∀ v H', EnvOK X.K ts C Γ σ H' → Go C Γ σ H Γ H' → VOK X.K ts C Γ σ H' res v → Q v H') → r (.str s) xs H Q
def mM1 (p : Str → List D → Option Vl) (mo ma : ME) : ME := fun Γ => (mo Γ).bind fun v Γ1 => match v with
  | .fz (.str s) => (ma Γ1).bind fun w Γ2 => match (peek Γ2 w.op).bind fun d => p s [d] with
    | some r => .ok r Γ2
    | none => .no
  | _ => .no
def mM0 (p : Str → List D → Option Vl) (mo : ME) : ME := fun Γ => (mo Γ).bind fun v Γ1 => match v with
  | .fz (.str s) => match p s [] with
    | some r => .ok r Γ1
    | none => .no
  | _ => .no
variable {o : Expr} {mo : ME} {name : Str} {apos : Pos}
theorem se_m1 {id : String} {p : Str → List D → Option Vl} (sl : Slot "str" name id) (st : typeOf (.builtin id) = pure (.type "method_descriptor")) (hr : MtS ts X id p) (ho : SE ts X W o mo) (he : SE ts X W e m)
    (h1 : starEach [e] X.env = [(false, eval e X.env)] := by rfl) (h2 : attributeBase o name X.env (eval o X.env) = eval o X.env := by rfl) (h3 : (apos.endLine == pos.line) = true := by rfl) :
    SE ts X W (.Call (.Attribute o name apos) [e] [] pos) (mM1 p mo m) := by
  obtain ⟨r, pr, sr⟩ := hr
  obtain ⟨to, po, so⟩ := ho
  obtain ⟨te, pe, se⟩ := he
  refine ⟨_, pe_m1 sl st pr po pe h1 h2 h3, fun C Γ σ H Q E h => so C Γ σ H _ E (Post.bind h fun v Γ1 x H1 E1 g1 v1 h1 => ?_)⟩
  split at h1
  · rename_i s
    obtain rfl : x = .str s := v1
    refine ⟨⟨s, rfl⟩, se C Γ1 σ H1 _ E1 (Post.bind h1 fun w Γ2 y H2 E2 g2 w2 h2 => ?_)⟩
    split at h2
    · rename_i res e1
      obtain ⟨d, e2, e3⟩ := Option.bind_eq_some_iff.mp e1
      exact sr C Γ2 σ H2 s [y] [d] res Q E2 (.cons ((w2.op).pk E2 e2) .nil) e3 fun v H' E' g' v' => h2 v H' E' g' v'
    · exact h2.elim
  · exact h1.elim
theorem se_m0 {id : String} {p : Str → List D → Option Vl} (sl : Slot "str" name id) (st : typeOf (.builtin id) = pure (.type "method_descriptor")) (hr : MtS ts X id p) (ho : SE ts X W o mo)
    (h2 : attributeBase o name X.env (eval o X.env) = eval o X.env := by rfl) (h3 : (apos.endLine == pos.line) = true := by rfl) :
    SE ts X W (.Call (.Attribute o name apos) [] [] pos) (mM0 p mo) := by
  obtain ⟨r, pr, sr⟩ := hr
  obtain ⟨to, po, so⟩ := ho
  refine ⟨_, pe_m0 sl st pr po h2 h3, fun C Γ σ H Q E h => so C Γ σ H _ E (Post.bind h fun v Γ1 x H1 E1 g1 v1 h1 => ?_)⟩
  split at h1
  · rename_i s
    obtain rfl : x = .str s := v1
    refine ⟨⟨s, rfl⟩, ?_⟩
    split at h1
    · rename_i res e1
      exact sr C Γ1 σ H1 s [] [] res Q E1 .nil e1 fun v H' E' g' v' => h1 v H' E' g' v'
    · exact h1.elim
  · exact h1.elim
def findD (s : Str) : List D → Option Vl
  | [.str b] => some (.fz (.int (Txt.find s b)))
  | _ => none
theorem mts_find : MtS ts X "str.find" findD := by
  refine ⟨_, mt_find, fun C Γ σ H s xs ds res Q E hp e q => ?_⟩
  unfold findD at e
  split at e
  · cases e
    obtain ⟨v, rfl, h⟩ := paired1 hp
    exact ⟨_, _, rfl, by rw [h.str], q _ H E Go.refl rfl⟩
  · cases e
def sindexD (s : Str) : List D → Option Vl
  | [.str b] => match Builtin.Str.occurrences s b 0 s.length 1 with
    | i :: _ => some (.fz (.int i))
    | [] => none
  | _ => none
theorem mts_index : MtS ts X "str.index" sindexD := by
  refine ⟨_, mt_sindex, fun C Γ σ H s xs ds res Q E hp e q => ?_⟩
  unfold sindexD at e
  split at e
  · split at e
    · rename_i hi
      cases e
      obtain ⟨v, rfl, h⟩ := paired1 hp
      exact ⟨_, _, _, _, rfl, by rw [h.str], hi, q _ H E Go.refl rfl⟩
    · cases e
  · cases e
def upperD (s : Str) : List D → Option Vl
  | [] => if s.length ≤ 5592405 then some (.fz (.str (Txt.upper s))) else none
  | _ => none
theorem mts_upper : MtS ts X "str.upper" upperD := by
  refine ⟨_, mt_upper, fun C Γ σ H s xs ds res Q E hp e q => ?_⟩
  unfold upperD at e
  split at e
  · split at e
    · rename_i hl
      cases e
      cases hp
      exact ⟨_, rfl, rfl, hl, q _ H E Go.refl rfl⟩
    · cases e
  · cases e
def strsD : List D → Option (List Str)
  | [] => some []
  | .str s :: ds => (strsD ds).map fun r => s :: r
  | _ => none
theorem Reps.strs {K : PySem.W.Frag} {H : Hp} {S : Addr → Prop} : ∀ {ds : List D} {vs : List V} {ys : List Str}, Reps K H S ds vs → strsD ds = some ys → vs = ys.map V.str
  | [], vs, ys, h, e => by cases e; exact Reps.nil_iff.mp h
  | .str s :: ds, vs, ys, h, e => by
    obtain ⟨r, e1, e2⟩ := Option.map_eq_some_iff.mp e
    subst e2
    obtain ⟨v, w, e3, h1, h2⟩ := Reps.cons_iff.mp h
    rw [e3, h1.pk.str, Reps.strs h2 e1]
    rfl
  | .non :: _, _, _, _, e => by cases e
  | .bl _ :: _, _, _, _, e => by cases e
  | .int _ :: _, _, _, _, e => by cases e
  | .tup _ :: _, _, _, _, e => by cases e
  | .lst _ :: _, _, _, _, e => by cases e
  | .scr _ :: _, _, _, _, e => by cases e
def joinD (s : Str) : List D → Option Vl
  | [.lst ds] => (strsD ds).bind fun ys => if (ys.map (·.length)).sum + ys.length * s.length ≤ 16777216 then some (.fz (.str (Txt.join s ys))) else none
  | [.tup ds] => (strsD ds).bind fun ys => if (ys.map (·.length)).sum + ys.length * s.length ≤ 16777216 then some (.fz (.str (Txt.join s ys))) else none
  | _ => none
theorem mts_join : MtS ts X "str.join" joinD := by
  refine ⟨_, mt_join, fun C Γ σ H s xs ds res Q E hp e q => ?_⟩
  unfold joinD at e
  split at e
  · obtain ⟨ys, e1, e2⟩ := Option.bind_eq_some_iff.mp e
    split at e2
    · rename_i hl
      cases e2
      obtain ⟨v, rfl, h⟩ := paired1 hp
      obtain ⟨a, us, rfl, h1, h2⟩ := h.lst
      exact ⟨s, a, ys, rfl, rfl, .inl (by rw [← h2.strs e1]; exact SqL.of h1), hl, q _ H E Go.refl rfl⟩
    · cases e2
  · obtain ⟨ys, e1, e2⟩ := Option.bind_eq_some_iff.mp e
    split at e2
    · rename_i hl
      cases e2
      obtain ⟨v, rfl, h⟩ := paired1 hp
      obtain ⟨a, us, rfl, h1, h2⟩ := h.tup
      exact ⟨s, a, ys, rfl, rfl, .inr (by rw [← h2.strs e1]; exact h1), hl, q _ H E Go.refl rfl⟩
    · cases e2
  · cases e
end
end SX

set_option Elab.async false
set_option linter.all false
set_option maxRecDepth 100000
set_option maxHeartbeats 4000000
namespace SX
open PySem PySem.Spec PyProof.Rows L2 L2H XT GX RD
section
variable {K : PySem.W.Frag} {ts : Tsx} {C : Cn} {Γ Γ' Γ1 Γ2 : EV} {σ : L2.St} {H H' H1 H2 : Hp}
/-- a slot is stored -/
theorem EnvOK.put {i : Nat} {d : D} {v : V} (E : EnvOK K ts C Γ σ H) (r : Rep K H (Av C Γ σ) d v) (hn : ∀ ds, Γ[i]? ≠ some (Sl.ow true ds)) : EnvOK K ts C (Γ.set i (.fz d)) (σ.set i (some v)) H := by
  by_cases hl : i < Γ.length
  · have hl' : i < σ.length := by rw [← E.len]; exact hl
    have sub : ∀ a, Own (Γ.set i (.fz d)) (σ.set i (some v)) a → Own Γ σ a := fun a ⟨j, bb, es, h1, h2⟩ => by
      by_cases hj : j = i
      · subst hj
        rw [List.getElem?_set_self hl] at h1; cases h1
      · rw [List.getElem?_set_ne (Ne.symm hj)] at h1 h2
        exact ⟨j, bb, es, h1, h2⟩
    have w : ∀ a, Av C (Γ.set i (.fz d)) (σ.set i (some v)) a → Av C Γ σ a := fun a z => z.elim (fun z => .inl (sub a z)) .inr
    refine ⟨by rw [List.length_set, List.length_set]; exact E.len, fun j d' e => ?_, fun j bb es e => ?_, fun j c fs e => ?_, fun j k b b1 b2 es fs e f e' f' => ?_, fun b z => E.nz b (sub b z), E.fr, fun b z => E.fo b (sub b z), E.z, fun p hp => (E.hd p hp).weak w, E.gz, E.oo.go rfl (St2.same w) (fun j dss e => oo_setS (fun _ z => by cases z) e) fun _ _ _ _ _ _ _ e => e⟩
    · by_cases hj : j = i
      · subst hj
        rw [List.getElem?_set_self hl] at e; cases e
        exact ⟨v, List.getElem?_set_self hl', r.weak w⟩
      · rw [List.getElem?_set_ne (Ne.symm hj)] at e ⊢
        obtain ⟨u, h1, h2⟩ := E.fz j d' e
        exact ⟨u, h1, h2.weak w⟩
    · by_cases hj : j = i
      · subst hj
        rw [List.getElem?_set_self hl] at e; cases e
      · rw [List.getElem?_set_ne (Ne.symm hj)] at e ⊢
        obtain ⟨b, ys, h1, h2, h3, h4⟩ := E.ow j bb es e
        exact ⟨b, ys, h1, h2, h3.weak w, h4⟩
    · by_cases hj : j = i
      · subst hj
        rw [List.getElem?_set_self hl] at e; cases e
      · rw [List.getElem?_set_ne (Ne.symm hj)] at e ⊢
        obtain ⟨q, h1, h2, e0, dd, vs, e1, e2, f1, f2⟩ := E.ex j c fs e
        exact ⟨q, h1, h2, e0, dd, vs, e1, e2, f1, f2.weak w⟩
    · by_cases hj : j = i
      · subst hj
        rw [List.getElem?_set_self hl] at e; cases e
      · by_cases hk : k = i
        · subst hk
          rw [List.getElem?_set_self hl] at f; cases f
        · rw [List.getElem?_set_ne (Ne.symm hj)] at e e'
          rw [List.getElem?_set_ne (Ne.symm hk)] at f f'
          exact E.dis j k b b1 b2 es fs e f e' f'
  · have h1 : Γ.set i (.fz d) = Γ := List.set_eq_of_length_le (Nat.le_of_not_lt hl)
    have h2 : σ.set i (some v) = σ := List.set_eq_of_length_le (by rw [← E.len]; exact Nat.le_of_not_lt hl)
    rw [h1, h2]
    exact E
/-- a slot is forgotten -/
theorem EnvOK.drop1 {i : Nat} {o : Option V} (E : EnvOK K ts C Γ σ H) : EnvOK K ts C (Γ.set i .no) (σ.set i o) H := by
  by_cases hl : i < Γ.length
  · have hl' : i < σ.length := by rw [← E.len]; exact hl
    have sub : ∀ a, Own (Γ.set i .no) (σ.set i o) a → Own Γ σ a := fun a ⟨j, bb, es, h1, h2⟩ => by
      by_cases hj : j = i
      · subst hj
        rw [List.getElem?_set_self hl] at h1; cases h1
      · rw [List.getElem?_set_ne (Ne.symm hj)] at h1 h2
        exact ⟨j, bb, es, h1, h2⟩
    have w : ∀ a, Av C (Γ.set i .no) (σ.set i o) a → Av C Γ σ a := fun a z => z.elim (fun z => .inl (sub a z)) .inr
    refine ⟨by rw [List.length_set, List.length_set]; exact E.len, fun j d' e => ?_, fun j bb es e => ?_, fun j c fs e => ?_, fun j k b b1 b2 es fs e f e' f' => ?_, fun b z => E.nz b (sub b z), E.fr, fun b z => E.fo b (sub b z), E.z, fun p hp => (E.hd p hp).weak w, E.gz, E.oo.go rfl (St2.same w) (fun j dss e => oo_setS (fun _ z => by cases z) e) fun _ _ _ _ _ _ _ e => e⟩
    · by_cases hj : j = i
      · subst hj
        rw [List.getElem?_set_self hl] at e; cases e
      · rw [List.getElem?_set_ne (Ne.symm hj)] at e ⊢
        obtain ⟨u, h1, h2⟩ := E.fz j d' e
        exact ⟨u, h1, h2.weak w⟩
    · by_cases hj : j = i
      · subst hj
        rw [List.getElem?_set_self hl] at e; cases e
      · rw [List.getElem?_set_ne (Ne.symm hj)] at e ⊢
        obtain ⟨b, ys, h1, h2, h3, h4⟩ := E.ow j bb es e
        exact ⟨b, ys, h1, h2, h3.weak w, h4⟩
    · by_cases hj : j = i
      · subst hj
        rw [List.getElem?_set_self hl] at e; cases e
      · rw [List.getElem?_set_ne (Ne.symm hj)] at e ⊢
        obtain ⟨q, h1, h2, e0, dd, vs, e1, e2, f1, f2⟩ := E.ex j c fs e
        exact ⟨q, h1, h2, e0, dd, vs, e1, e2, f1, f2.weak w⟩
    · by_cases hj : j = i
      · subst hj
        rw [List.getElem?_set_self hl] at e; cases e
      · by_cases hk : k = i
        · subst hk
          rw [List.getElem?_set_self hl] at f; cases f
        · rw [List.getElem?_set_ne (Ne.symm hj)] at e e'
          rw [List.getElem?_set_ne (Ne.symm hk)] at f f'
          exact E.dis j k b b1 b2 es fs e f e' f'
  · have h1 : Γ.set i .no = Γ := List.set_eq_of_length_le (Nat.le_of_not_lt hl)
    have h2 : σ.set i o = σ := List.set_eq_of_length_le (by rw [← E.len]; exact Nat.le_of_not_lt hl)
    rw [h1, h2]
    exact E
/-- a new list is stored -/
theorem EnvOK.putN {i : Nat} {ds : List D} {v : V} (hg : GhOK C) (h : VOK K ts C Γ σ H (.ow ds) v) (hi : i < Γ.length) (hn : ∀ ds, Γ[i]? ≠ some (Sl.ow true ds)) : EnvOK K ts C (Γ.set i (.ow false ds)) (σ.set i (some v)) H := by
  obtain ⟨p, xs, rfl, hz, hf, E, hp, r⟩ := h
  have hl := hi
  have hl' : i < σ.length := by rw [← E.len]; exact hl
  have sub : ∀ a, Own (Γ.set i (.ow false ds)) (σ.set i (some (.ref p))) a → Own Γ σ a ∨ a = p := fun a ⟨j, bb, es, h1, h2⟩ => by
    by_cases hj : j = i
    · subst hj
      rw [List.getElem?_set_self hl'] at h2; cases h2
      exact .inr rfl
    · rw [List.getElem?_set_ne (Ne.symm hj)] at h1 h2
      exact .inl ⟨j, bb, es, h1, h2⟩
  have w : ∀ a, Av C (Γ.set i (.ow false ds)) (σ.set i (some (.ref p))) a → Av (C.z1 p) Γ σ a := fun a z => z.elim (fun z => (sub a z).elim .inl fun z => .inr (.inr z)) fun z => .inr (.inl z)
  have np : ∀ (j : Nat) (b : Bool) (es : List D), Γ[j]? = some (Sl.ow b es) → σ[j]? = some (some (V.ref p)) → False := fun j b es h1 h2 => E.nz p ⟨j, b, es, h1, h2⟩ (.inr rfl)
  refine ⟨by rw [List.length_set, List.length_set]; exact E.len, fun j d' e => ?_, fun j bb es e => ?_, fun j c fs e => ?_, fun j k b b1 b2 es fs e f e' f' => ?_, fun b z zz => ?_, E.fr, fun b z => ?_, fun a z => E.z a (.inl z), fun p hp => (E.hd p hp).weak w, hg, E.oo.go rfl (St2.same w) (fun j dss e => oo_setS (fun _ z => by cases z) e) fun _ _ _ _ _ _ _ e => e⟩
  · by_cases hj : j = i
    · subst hj
      rw [List.getElem?_set_self hl] at e; cases e
    · rw [List.getElem?_set_ne (Ne.symm hj)] at e ⊢
      obtain ⟨u, h1, h2⟩ := E.fz j d' e
      exact ⟨u, h1, h2.weak w⟩
  · by_cases hj : j = i
    · subst hj
      rw [List.getElem?_set_self hl] at e; cases e
      exact ⟨p, xs, List.getElem?_set_self hl', hp, r.weak w, fun z => by cases z⟩
    · rw [List.getElem?_set_ne (Ne.symm hj)] at e ⊢
      obtain ⟨b, ys, h1, h2, h3, h4⟩ := E.ow j bb es e
      exact ⟨b, ys, h1, h2, h3.weak w, h4⟩
  · by_cases hj : j = i
    · subst hj
      rw [List.getElem?_set_self hl] at e; cases e
    · rw [List.getElem?_set_ne (Ne.symm hj)] at e ⊢
      obtain ⟨q, h1, h2, e0, dd, vs, e1, e2, f1, f2⟩ := E.ex j c fs e
      exact ⟨q, h1, h2, e0, dd, vs, e1, e2, f1, f2.weak w⟩
  · by_cases hj : j = i
    · subst hj
      by_cases hk : k = j
      · exact hk.symm
      · rw [List.getElem?_set_self hl'] at e'; cases e'
        rw [List.getElem?_set_ne (Ne.symm hk)] at f f'
        exact (np k _ _ f f').elim
    · by_cases hk : k = i
      · subst hk
        rw [List.getElem?_set_self hl'] at f'; cases f'
        rw [List.getElem?_set_ne (Ne.symm hj)] at e e'
        exact (np j _ _ e e').elim
      · rw [List.getElem?_set_ne (Ne.symm hj)] at e e'
        rw [List.getElem?_set_ne (Ne.symm hk)] at f f'
        exact E.dis j k b b1 b2 es fs e f e' f'
  · rcases sub b z with q | q
    · exact E.nz b q (.inl zz)
    · rw [q] at zz; exact hz zz
  · rcases sub b z with q | q
    · exact E.fo b q
    · rw [q]; exact hf
/-- a list of one's own changes -/
theorem EnvOK.mut {i : Nat} {b : Bool} {a : Addr} {ds ds' : List D} {xs xs' : List V} (E : EnvOK K ts C Γ σ H) (hi : Γ[i]? = some (Sl.ow b ds)) (ha : σ[i]? = some (some (V.ref a))) (hx : H a = some (.lst xs)) (r : Reps K H (Av C Γ σ) ds' xs') :
    EnvOK K ts C (Γ.set i (.ow b ds')) σ (upd H a (.lst xs')) ∧ Go C Γ σ H (Γ.set i (.ow b ds')) (upd H a (.lst xs')) ∧ ∀ c, Own (Γ.set i (.ow b ds')) σ c ↔ Own Γ σ c := by
  have hl := lt_of_get hi
  have own : Own Γ σ a := ⟨i, b, ds, hi, ha⟩
  have iff : ∀ c, Own (Γ.set i (.ow b ds')) σ c ↔ Own Γ σ c := fun c => by
    constructor
    · rintro ⟨j, bb, es, h1, h2⟩
      by_cases hj : j = i
      · subst hj; exact ⟨j, b, ds, hi, h2⟩
      · rw [List.getElem?_set_ne (Ne.symm hj)] at h1
        exact ⟨j, bb, es, h1, h2⟩
    · rintro ⟨j, bb, es, h1, h2⟩
      by_cases hj : j = i
      · subst hj; exact ⟨j, b, ds', List.getElem?_set_self hl, h2⟩
      · exact ⟨j, bb, es, by rw [List.getElem?_set_ne (Ne.symm hj)]; exact h1, h2⟩
  have keep : ∀ c u, ¬ Own Γ σ c → H c = some u → (∀ ps, u ≠ .tbl ps) → upd H a (.lst xs') c = some u := fun c u hc e _ => by
    rw [upd_ne (fun z => hc (by rw [z]; exact own))]; exact e
  have g : Go C Γ σ H (Γ.set i (.ow b ds')) (upd H a (.lst xs')) := ⟨keep, fun c z => (iff c).mp z, fun j bb es e => by
    by_cases hj : j = i
    · subst hj
      rw [List.getElem?_set_self hl] at e; cases e
      exact ⟨ds, hi⟩
    · rw [List.getElem?_set_ne (Ne.symm hj)] at e
      exact ⟨es, e⟩⟩
  have tb : Tb ts.l (upd H a (.lst xs')) := (Nx.put (ms := [a]) E.tb hx (fun ps z => by cases z) (by simp)).tab
  have fr : Nw ts.l C.M C.H0 (upd H a (.lst xs')) := E.fr.step tb fun c u hc e n e1 => by
    rw [upd_ne (fun z => ?_)]
    · exact e1
    · rcases E.fo a own with q | q
      · exact hc (by rw [z]; exact q)
      · obtain ⟨ps, e2⟩ := q u (by rw [← z]; exact e)
        exact n ps e2
  refine ⟨⟨by rw [List.length_set]; exact E.len, fun j d' e => ?_, fun j bb es e => ?_, fun j c fs e => ?_, fun j k c b1 b2 es fs e f e' f' => ?_, fun c z => E.nz c ((iff c).mp z), fr, fun c z => E.fo c ((iff c).mp z), fun c z => ?_, fun p hp => g.rep (E.hd p hp), E.gz, E.oo.go rfl g.st (fun j dss e => ⟨(oo_set (fun _ z => by cases z) e).2, rfl⟩) fun i' a' bs x xs q m e => by rw [upd_ne (fun z => E.nz a own (by rw [← z]; exact (E.gz.z i' a' bs x q m).1))]; exact e⟩, g, iff⟩
  · by_cases hj : j = i
    · subst hj
      rw [List.getElem?_set_self hl] at e; cases e
    · rw [List.getElem?_set_ne (Ne.symm hj)] at e
      obtain ⟨u, h1, h2⟩ := E.fz j d' e
      exact ⟨u, h1, g.rep h2⟩
  · by_cases hj : j = i
    · subst hj
      rw [List.getElem?_set_self hl] at e; cases e
      obtain ⟨a', ys, h1, _, _, h4⟩ := E.ow j b ds hi
      rw [ha] at h1; cases h1
      exact ⟨a, xs', ha, upd_same, g.reps r, h4⟩
    · rw [List.getElem?_set_ne (Ne.symm hj)] at e
      obtain ⟨c, ys, h1, h2, h3, h4⟩ := E.ow j bb es e
      refine ⟨c, ys, h1, ?_, g.reps h3, h4⟩
      rw [upd_ne (fun z => ?_)]
      · exact h2
      · rw [z] at h1
        exact hj (E.dis j i a _ _ es ds e hi h1 ha)
  · by_cases hj : j = i
    · subst hj
      rw [List.getElem?_set_self hl] at e; cases e
    · rw [List.getElem?_set_ne (Ne.symm hj)] at e
      obtain ⟨q, h1, h2, h3⟩ := E.ex j c fs e
      exact ⟨q, h1, h2, h3.go g.st fun dd vs _ e2 => E.notAv e2 (fun xs z => by cases z)⟩
  · have get : ∀ (k : Nat) (b1 : Bool) (fs : List D), (Γ.set i (.ow b ds'))[k]? = some (Sl.ow b1 fs) → ∃ b2 es, Γ[k]? = some (Sl.ow b2 es) := fun k b1 fs q => by
      by_cases hk : k = i
      · subst hk; exact ⟨b, ds, hi⟩
      · rw [List.getElem?_set_ne (Ne.symm hk)] at q
        exact ⟨b1, fs, q⟩
    obtain ⟨_, _, k1⟩ := get j _ _ e
    obtain ⟨_, _, k2⟩ := get k _ _ f
    exact E.dis j k c _ _ _ _ k1 k2 e' f'
  · obtain ⟨ys, e1⟩ := E.z c z
    refine ⟨ys, ?_⟩
    rw [upd_ne (fun q => ?_)]
    · exact e1
    · rw [q] at z
      exact E.nz a own z
end
/-! ### statements -/
inductive Fl where
  | nx | bk | ct | rt (v : Vl)
abbrev MS := EV → Out Fl
/-- what a statement may make of the frame: lists of lists come, and go -/
structure Ext (C C' : Cn) : Prop where
  h0 : C'.H0 = C.H0
  m : C'.M = C.M
  hl : C'.held = C.held
  pin : C'.pin = C.pin
  z : ∀ a, C.Z a → Fre C a ∨ C'.Z a
theorem Ext.refl {C : Cn} : Ext C C := ⟨rfl, rfl, rfl, rfl, fun _ z => .inr z⟩
theorem Ext.trans {C C1 C2 : Cn} (x : Ext C C1) (y : Ext C1 C2) : Ext C C2 :=
  ⟨y.h0.trans x.h0, y.m.trans x.m, y.hl.trans x.hl, y.pin.trans x.pin, fun a z => (x.z a z).elim .inl fun q => (y.z a q).elim (fun f => .inl (by unfold Fre at f ⊢; rw [← x.h0, ← x.m]; exact f)) .inr⟩
def PostS (K : PySem.W.Frag) (ts : Tsx) (C : Cn) (W : WX) (D : Ends) : Out Fl → Prop
  | .no => False
  | .ok .nx Γ' => ∀ C' σ' H', Ext C C' → EnvOK K ts C' Γ' σ' H' → D.nx σ' H'
  | .ok .bk Γ' => ∀ C' σ' H', Ext C C' → EnvOK K ts C' Γ' σ' H' → D.bk σ' H'
  | .ok .ct Γ' => ∀ C' σ' H', Ext C C' → EnvOK K ts C' Γ' σ' H' → D.ct σ' H'
  | .ok (.rt val) Γ' => ∀ C' v σ' H', Ext C C' → EnvOK K ts C' Γ' σ' H' → VOK K ts C' Γ' σ' H' val v → D.rt v H'
  | .rz x Γ' => ∀ C' cls d σ' H', Ext C C' → EnvOK K ts C' Γ' σ' H' → XOK K H' (Av C' Γ' σ') x cls d → W cls d σ' H'
theorem PostS.ext {K : PySem.W.Frag} {ts : Tsx} {C C1 : Cn} {W : WX} {D : Ends} {o : Out Fl} (x : Ext C C1) (h : PostS K ts C W D o) : PostS K ts C1 W D o := by
  cases o with
  | no => exact h
  | ok f Γ' =>
    cases f with
    | nx => exact fun C' σ' H' y E => h C' σ' H' (x.trans y) E
    | bk => exact fun C' σ' H' y E => h C' σ' H' (x.trans y) E
    | ct => exact fun C' σ' H' y E => h C' σ' H' (x.trans y) E
    | rt val => exact fun C' v σ' H' y E hv => h C' v σ' H' (x.trans y) E hv
  | rz e Γ' => exact fun C' cls d σ' H' y E hx => h C' cls d σ' H' (x.trans y) E hx
structure S1 (ts : Tsx) (X : Cx) (W : WX) (st : Stmt) (m : MS) : Prop where
  ex : ∃ t : TS, PS X st t ∧ ∀ (C : Cn) (Γ : EV) (σ : L2.St) (H : Hp) (D : Ends), EnvOK X.K ts C Γ σ H → PostS X.K ts C W D (m Γ) → t D σ H
structure SB (ts : Tsx) (X : Cx) (W : WX) (st : List Stmt) (m : MS) : Prop where
  ex : ∃ t : TS, PSs X st t ∧ ∀ (C : Cn) (Γ : EV) (σ : L2.St) (H : Hp) (D : Ends), EnvOK X.K ts C Γ σ H → PostS X.K ts C W D (m Γ) → t D σ H
/-- an expression ahead of the rest of a statement -/
theorem PostS.bind {K : PySem.W.Frag} {ts : Tsx} {C : Cn} {W : WX} {D : Ends} {α β : Type} {σ : L2.St} {Γ : EV} {H : Hp} {R : EV → Hp → α → β → Prop} {Q : β → Hp → Prop} {m : Out α} {f : α → EV → Out Fl} (h : PostS K ts C W D (m.bind f))
    (k : ∀ a Γ1 b H1, EnvOK K ts C Γ1 σ H1 → Go C Γ σ H Γ1 H1 → R Γ1 H1 a b → PostS K ts C W D (f a Γ1) → Q b H1) : Post K ts C W σ Γ H R Q m := by
  cases m with
  | no => exact h
  | ok a Γ1 => exact fun b H1 e g r => k a Γ1 b H1 e g r h
  | rz x Γ' => exact fun cls d H' e x => h C cls d σ H' Ext.refl e x
section
variable {ts : Tsx} {X : Cx} {W : WX} {e a b c : Expr} {es : List Expr} {m ma mb mc : ME} {ms : MA} {pos : Pos} {st : Stmt} {rest : List Stmt} {n n2 : MS}
def mSkip : MS := fun Γ => .ok .nx Γ
def mSeq (a b : MS) : MS := fun Γ => match a Γ with
  | .ok .nx Γ1 => b Γ1
  | o => o
theorem sb_nil : SB ts X W [] mSkip := ⟨tNext, pss_nil, fun C Γ σ H D E h => h C σ H Ext.refl E⟩
theorem sb_one (h : S1 ts X W st n) : SB ts X W [st] n := let ⟨t, p, s⟩ := h; ⟨t, pss_one p, s⟩
theorem sb_cons (h : S1 ts X W st n) (k : SB ts X W rest n2) : SB ts X W (st :: rest) (mSeq n n2) := by
  obtain ⟨t, p, s⟩ := h
  obtain ⟨u, q, r⟩ := k
  refine ⟨tSeq t u, pss_cons p q, fun C Γ σ H D E h => s C Γ σ H _ E ?_⟩
  unfold mSeq at h
  cases e : n Γ with
  | no => rw [e] at h; exact h
  | ok f Γ1 =>
    rw [e] at h
    cases f with
    | nx => exact fun C' σ' H' x E' => r C' Γ1 σ' H' D E' (PostS.ext x h)
    | bk => exact h
    | ct => exact h
    | rt v => exact h
  | rz x Γ1 => rw [e] at h; exact h
theorem s1_pass : S1 ts X W (.Pass pos) mSkip := ⟨tNext, ps_pass, fun C Γ σ H D E h => h C σ H Ext.refl E⟩
theorem s1_break : S1 ts X W (.Break pos) (fun Γ => .ok .bk Γ) := ⟨tBreak, ps_break, fun C Γ σ H D E h => h C σ H Ext.refl E⟩
theorem s1_cont : S1 ts X W (.Continue pos) (fun Γ => .ok .ct Γ) := ⟨tCont, ps_continue, fun C Γ σ H D E h => h C σ H Ext.refl E⟩
theorem s1_doc {x j pos'} : S1 ts X W (.Expr (.Constant (.str x) j pos) pos') mSkip := ⟨tNext, ps_doc, fun C Γ σ H D E h => h C σ H Ext.refl E⟩
def mExpr (m : ME) : MS := fun Γ => (m Γ).bind fun _ Γ1 => .ok .nx Γ1
theorem s1_expr (h : SE ts X W e m) (hs : swapsWith e none pos.line X.env = pure false := by rfl) : S1 ts X W (.Expr e pos) (mExpr m) := by
  obtain ⟨t, p, s⟩ := h
  exact ⟨_, ps_expr p hs, fun C Γ σ H D E h => s C Γ σ H _ E (PostS.bind h fun v Γ1 x H1 E1 g1 v1 h1 => h1 C σ H1 Ext.refl E1)⟩
def mRet (m : ME) : MS := fun Γ => (m Γ).bind fun v Γ1 => .ok (.rt v) Γ1
theorem s1_ret (h : SE ts X W e m) : S1 ts X W (.Return (some e) pos) (mRet m) := by
  obtain ⟨t, p, s⟩ := h
  exact ⟨_, ps_ret p, fun C Γ σ H D E h => s C Γ σ H _ E (PostS.bind h fun v Γ1 x H1 E1 g1 v1 h1 => h1 C x σ H1 Ext.refl E1 v1)⟩
def mRetN : MS := fun Γ => .ok (.rt (.fz .non)) Γ
theorem s1_retN : S1 ts X W (.Return none pos) mRetN := ⟨_, ps_retN, fun C Γ σ H D E h => h C .non σ H Ext.refl E rfl⟩
def mIfS (c : MT) (a b : MS) : MS := fun Γ => (c Γ).bind fun k Γ1 => if k = true then a Γ1 else b Γ1
theorem s1_if {nc : MT} {ba bb : List Stmt} (hc : ST ts X W c nc) (ha : SB ts X W ba n) (hb : SB ts X W bb n2) : S1 ts X W (.If c ba bb pos) (mIfS nc n n2) := by
  obtain ⟨tc, pc, sc⟩ := hc
  obtain ⟨ta, pa, sa⟩ := ha
  obtain ⟨tb, pb, sb⟩ := hb
  refine ⟨_, ps_if pc pa pb, fun C Γ σ H D E h => sc C Γ σ H _ E (PostS.bind h fun k Γ1 x H1 E1 g1 e1 h1 => ?_)⟩
  obtain rfl : k = x := e1
  cases k with
  | true => exact iteT (sa C Γ1 σ H1 D E1 h1)
  | false => exact iteF (sb C Γ1 σ H1 D E1 h1)
/-- may slot i be stored -/
def freeAt (Γ : EV) (i : Nat) : Bool := match Γ[i]? with
  | some (.ow true _) => false
  | some _ => true
  | none => false
theorem free_not {Γ : EV} {i : Nat} (h : freeAt Γ i = true) : (∀ ds, Γ[i]? ≠ some (Sl.ow true ds)) ∧ i < Γ.length := by
  unfold freeAt at h
  split at h
  · cases h
  · rename_i s h1 h2
    exact ⟨fun ds z => h1 ds (Option.some.inj (h2.symm.trans z)), lt_of_get h2⟩
  · cases h
def setV (i : Nat) (v : Vl) (Γ : EV) : Option EV :=
  if freeAt Γ i = true then match v with
    | .ow ds => some (Γ.set i (.ow false ds))
    | v => (cool Γ v).bind fun p => if freeAt p.2 i = true then some (p.2.set i (.fz p.1)) else none
  else none
def mSet (i : Nat) (m : ME) : MS := fun Γ => (m Γ).bind fun v Γ1 => match setV i v Γ1 with
  | some Γ2 => .ok .nx Γ2
  | none => .no
theorem set_sim {K : PySem.W.Frag} {C : Cn} {i : Nat} {v : Vl} {Γ Γ' : EV} {σ : L2.St} {H : Hp} {x : V} (E : EnvOK K ts C Γ σ H) (h : VOK K ts C Γ σ H v x) (e : setV i v Γ = some Γ') : EnvOK K ts C Γ' (σ.set i (some x)) H := by
  unfold setV at e
  split at e
  · rename_i hf
    obtain ⟨hn, hl⟩ := free_not hf
    split at e
    · cases e
      exact EnvOK.putN E.gz h hl hn
    · rename_i hv
      obtain ⟨⟨d, Γ1⟩, e1, e2⟩ := Option.bind_eq_some_iff.mp e
      split at e2
      · rename_i hf2
        cases e2
        have hop : v.op = v := by
          cases v with
          | ow ds => exact (hv ds rfl).elim
          | _ => rfl
        obtain ⟨E2, g2, r2⟩ := (VOK.op h).cool E (by rw [hop]; exact e1)
        exact E2.put r2 (free_not hf2).1
      · cases e2
  · cases e
/-- name = e, whatever rule serves it -/
theorem s1_set_of {i : Nat} {t : TE} (p : PS X st (tAsg t (gName i))) (s : ∀ (C : Cn) (Γ : EV) (σ : L2.St) (H : Hp) (Q : VK), EnvOK X.K ts C Γ σ H → Post X.K ts C W σ Γ H (RE X.K ts C σ) Q (m Γ) → t σ H Q) : S1 ts X W st (mSet i m) := by
  refine ⟨_, p, fun C Γ σ H D E h => s C Γ σ H _ E (PostS.bind h fun v Γ1 x H1 E1 g1 v1 h1 => ?_)⟩
  split at h1
  · rename_i Γ2 e1
    exact h1 C _ H1 Ext.refl (set_sim E1 v1 e1)
  · exact h1.elim
theorem s1_set {i : Nat} {x : Str} {pos' : Pos} (hN : X.N.Nodup) (hi : X.N[i]? = some x) (hx : L2.Loc X.env.scope x) (h : SE ts X W e m) (hf : X.fn x = true ∨ X.env.scope.names.lookup x = some .local := by first | exact .inl rfl | exact .inr rfl | assumption)
    (hs : swapsWith e (some (.Name x pos')) pos.line X.env = pure false := by rfl) : S1 ts X W (.Assign [.Name x pos'] e pos) (mSet i m) := by
  obtain ⟨t, p, s⟩ := h
  exact s1_set_of (ps_set hN hi hx p hs hf) s
/-! ### lists of one's own are changed -/
def ownAt (Γ : EV) (i : Nat) : Option (Bool × List D) := match Γ[i]? with
  | some (.ow b ds) => some (b, ds)
  | _ => none
theorem ownAt_eq {Γ : EV} {i : Nat} {b : Bool} {ds : List D} (h : ownAt Γ i = some (b, ds)) : Γ[i]? = some (Sl.ow b ds) := by
  unfold ownAt at h
  split at h
  · cases h; assumption
  · cases h
def mSetIx (i : Nat) (mv mi : ME) : MS := fun Γ => (mv Γ).bind fun v Γ1 => match ownAt Γ1 i with
  | some _ => (mi Γ1).bind fun k Γ2 => match k, cool Γ2 v.op with
    | .fz (.int k), some (d, Γ3) => match ownAt Γ3 i with
      | some (b, ds) => match ixN ds.length k with
        | some j => .ok .nx (Γ3.set i (.ow b (ds.set j d)))
        | none => .no
      | none => .no
    | _, _ => .no
  | none => .no
theorem s1_setIx {i : Nat} {k : Expr} {x : Str} {px p2 : Pos} (ho : PE X (.Name x px) (tVar i)) (hv : SE ts X W e m) (hk : SE ts X W k mb)
    (ha : ∀ v, assign (.Subscript (.Name x px) k p2) X.env v = (do
      let ov ← holding [v] (eval (.Name x px) X.env)
      let iv ← holding [v, ov] (eval k X.env)
      standAt p2
      holding [v, ov, iv] (setItem ov iv v)
      release [v, ov, iv] []) := by intro _; rfl)
    (hs : swapsWithSole [.Subscript (.Name x px) k p2] e pos.line X.env = pure false := by rfl) (hw : swappedStores [.Subscript (.Name x px) k p2] e X.env = pure none := by rfl)
    (h1 : (assignEach [.Subscript (.Name x px) k p2] X.env).map (·.2) = [assign (.Subscript (.Name x px) k p2) X.env] := by rfl) :
    S1 ts X W (.Assign [.Subscript (.Name x px) k p2] e pos) (mSetIx i m mb) := by
  obtain ⟨tv, pv', sv⟩ := hv
  obtain ⟨tk, pk, sk⟩ := hk
  refine ⟨_, ps_asg pv' (pg_sub ho pk set_list ha) hs hw h1, fun C Γ σ H D E h => sv C Γ σ H _ E (PostS.bind h fun v Γ1 y H1 E1 g1 v1 h1 => ?_)⟩
  split at h1
  · rename_i q e0
    obtain ⟨a0, xs0, k1, k2, _⟩ := E1.ow i q.1 q.2 (ownAt_eq e0)
    refine ⟨.ref a0, k1, sk C Γ1 σ H1 _ E1 (PostS.bind h1 fun w Γ2 z H2 E2 g2 v2 h2 => ?_)⟩
    split at h2
    · rename_i kk d Γ3 e1
      obtain ⟨E3, g3, r3⟩ := ((v1.op).go g2).cool E2 e1
      split at h2
      · rename_i b ds e2
        split at h2
        · rename_i j e3
          obtain ⟨a, xs, k3, k4, k5, _⟩ := E3.ow i b ds (ownAt_eq e2)
          rw [k1] at k3; cases k3
          obtain ⟨E4, _, _⟩ := E3.mut (ownAt_eq e2) k1 k4 (k5.set j r3)
          exact ⟨a0, xs, kk, j, rfl, v2, k4, by rw [← k5.length]; exact e3, h2 C σ _ Ext.refl E4⟩
        · exact h2.elim
      · exact h2.elim
    · exact h2.elim
  · exact h1.elim
/-- name.append(e) -/
def mAppend (i : Nat) (m : ME) : ME := fun Γ => match ownAt Γ i with
  | some _ => (m Γ).bind fun v Γ1 => match cool Γ1 v.op with
    | some (d, Γ2) => match ownAt Γ2 i with
      | some (b, ds) => if ds.length < sizeLine then .ok (.fz .non) (Γ2.set i (.ow b (ds ++ [d]))) else .no
      | none => .no
    | none => .no
  | none => .no
variable {i : Nat} {x : Str} {px apos : Pos}
theorem se_append (ho : PE X (.Name x px) (tVar i)) (h : SE ts X W e m)
    (hst : starEach [e] X.env = (false, eval e X.env) :: starEach [] X.env := by rfl) (hbase : attributeBase (.Name x px) "append" X.env (eval (.Name x px) X.env) = eval (.Name x px) X.env := by rfl)
    (hpl : ((backTo pos (starEach [e] X.env)).all (fun x => !x.1) && (backToKw pos (keywordEach [] X.env)).all (·.1.isSome) && decide (([e] : List Expr).length + ([] : List Keyword).length + (if ([] : List Keyword).isEmpty = true then 0 else 1) < 30)) = true := by rfl)
    (hline : (apos.endLine == pos.line) = true := by rfl) (hpl2 : (backTo pos (starEach [] X.env)).any (·.1) = false := by rfl) :
    SE ts X W (.Call (.Attribute (.Name x px) "append" apos) [e] [] pos) (mAppend i m) := by
  obtain ⟨t, p, s⟩ := h
  refine ⟨_, pe_bm PySem.F.plainAttrs_list PySem.F.slot_list_append PySem.F.type_list_append mt_append ho (pa_cons p pa_nil hst) hbase hpl hline hst hpl2, fun C Γ σ H Q E h => ?_⟩
  unfold mAppend at h
  split at h
  · rename_i q e0
    obtain ⟨a0, xs0, k1, k2, _⟩ := E.ow i q.1 q.2 (ownAt_eq e0)
    refine ⟨.ref a0, k1, Or.inl ⟨rfl, xs0, SqL.of k2⟩, s C Γ σ H _ E (Post.bind h fun v Γ1 y H1 E1 g1 v1 h1 => ?_)⟩
    split at h1
    · rename_i d Γ2 e1
      obtain ⟨E2, g2, r2⟩ := (v1.op).cool E1 e1
      split at h1
      · rename_i b ds e2
        split at h1
        · rename_i hl
          obtain ⟨a, xs, k3, k4, k5, _⟩ := E2.ow i b ds (ownAt_eq e2)
          rw [k1] at k3; cases k3
          obtain ⟨E3, g3, _⟩ := E2.mut (ownAt_eq e2) k1 k4 (k5.snoc r2)
          exact ⟨a0, xs, y, rfl, rfl, k4, by rw [← k5.length]; exact hl, h1 .non _ E3 (g2.trans g3) rfl⟩
        · exact h1.elim
      · exact h1.elim
    · exact h1.elim
  · exact h.elim
/-- name.pop() -/
def mPop (i : Nat) : ME := fun Γ => match ownAt Γ i with
  | some (b, ds) => match ds[ds.length - 1]? with
    | some d => .ok (.fz d) (Γ.set i (.ow b ds.dropLast))
    | none => .no
  | none => .no
theorem se_pop (ho : PE X (.Name x px) (tVar i)) (hbase : attributeBase (.Name x px) "pop" X.env (eval (.Name x px) X.env) = eval (.Name x px) X.env := by rfl) (hline : (apos.endLine == pos.line) = true := by rfl) :
    SE ts X W (.Call (.Attribute (.Name x px) "pop" apos) [] [] pos) (mPop i) := by
  refine ⟨_, pe_bm0 PySem.F.plainAttrs_list PySem.F.slot_list_pop PySem.F.type_list_pop mt_pop ho hbase hline, fun C Γ σ H Q E h => ?_⟩
  unfold mPop at h
  split at h
  · rename_i b ds e0
    obtain ⟨a0, xs, k1, k2, k5, _⟩ := E.ow i b ds (ownAt_eq e0)
    split at h
    · rename_i d hd
      obtain ⟨v, hv, rv⟩ := k5.get hd
      obtain ⟨E3, g3, _⟩ := E.mut (ownAt_eq e0) k1 k2 k5.dropLast
      exact ⟨.ref a0, k1, Or.inl ⟨rfl, xs, SqL.of k2⟩, a0, xs, v, rfl, rfl, k2, by rw [← k5.length]; exact hv, h v _ E3 g3 (g3.rep rv)⟩
    · exact h.elim
  · exact h.elim
/-- name.reverse() -/
def mReverse (i : Nat) : ME := fun Γ => match ownAt Γ i with
  | some (b, ds) => .ok (.fz .non) (Γ.set i (.ow b ds.reverse))
  | none => .no
theorem se_reverse (ho : PE X (.Name x px) (tVar i)) (hbase : attributeBase (.Name x px) "reverse" X.env (eval (.Name x px) X.env) = eval (.Name x px) X.env := by rfl) (hline : (apos.endLine == pos.line) = true := by rfl) :
    SE ts X W (.Call (.Attribute (.Name x px) "reverse" apos) [] [] pos) (mReverse i) := by
  refine ⟨_, pe_bm0 PySem.F.plainAttrs_list PySem.F.slot_list_reverse PySem.F.type_list_reverse mt_reverse ho hbase hline, fun C Γ σ H Q E h => ?_⟩
  unfold mReverse at h
  split at h
  · rename_i b ds e0
    obtain ⟨a0, xs, k1, k2, k5, _⟩ := E.ow i b ds (ownAt_eq e0)
    obtain ⟨E3, g3, _⟩ := E.mut (ownAt_eq e0) k1 k2 k5.reverse
    exact ⟨.ref a0, k1, Or.inl ⟨rfl, xs, SqL.of k2⟩, a0, xs, rfl, rfl, k2, h .non _ E3 g3 rfl⟩
  · exact h.elim
/-- name op= e -/
def mAug (i : Nat) (p : D → D → Option Vl) (m : ME) : MS := fun Γ => match Γ[i]? with
  | some (.fz dx) => (m Γ).bind fun v Γ1 => match (peek Γ1 v.op).bind fun dy => p dx dy with
    | some r => match setV i r Γ1 with
      | some Γ2 => .ok .nx Γ2
      | none => .no
    | none => .no
  | _ => .no
theorem s1_aug {op : Operator} {p : D → D → Option Vl} {pos' : Pos} (hN : X.N.Nodup) (hi : X.N[i]? = some x) (hx : L2.Loc X.env.scope x) (h : SE ts X W e m) (ho : OpS ts X (inplaceOp op) p)
    (hf : X.fn x = true ∨ X.env.scope.names.lookup x = some .local := by first | exact .inl rfl | exact .inr rfl | assumption) : S1 ts X W (.AugAssign (.Name x pos') op e pos) (mAug i p m) := by
  obtain ⟨t, pt, s⟩ := h
  obtain ⟨r, pr, sr⟩ := ho
  refine ⟨_, ps_aug (ti := r) hN hi hx pt pr hf, fun C Γ σ H D E h => ?_⟩
  unfold mAug at h
  split at h
  · rename_i dx hd
    obtain ⟨v, h1, h2⟩ := E.fz i dx hd
    refine ⟨v, h1, s C Γ σ H _ E (PostS.bind h fun w Γ1 y H1 E1 g1 v1 k1 => ?_)⟩
    split at k1
    · rename_i res e1
      obtain ⟨dy, e2, e3⟩ := Option.bind_eq_some_iff.mp e1
      refine sr C Γ1 σ H1 v y dx dy res _ E1 (g1.rep h2).pk ((v1.op).pk E1 e2) e3 fun u H2 E2 g2 v2 => ?_
      split at k1
      · rename_i Γ2 e4
        exact k1 C _ H2 Ext.refl (set_sim E2 v2 e4)
      · exact k1.elim
    · exact k1.elim
  · exact h.elim
def iaddD : D → D → Option Vl
  | .int i, .int j => some (.fz (.int (i + j)))
  | .str a, .str b => if a.length + b.length ≤ sizeLine then some (.fz (.str (a ++ b))) else none
  | _, _ => none
theorem ops_iadd : OpS ts X (inplaceOp .Add) iaddD := by
  refine ops_of (OpR.or iop_add iop_add_str) fun C Γ σ H x y dx dy res Q E hx hy e q => ?_
  unfold iaddD at e
  split at e
  · cases e
    exact .inl ⟨_, _, hx.int, hy.int, q _ H E Go.refl rfl⟩
  · split at e
    · rename_i hl
      cases e
      exact .inr ⟨_, _, hx.str, hy.str, hl, q _ H E Go.refl rfl⟩
    · cases e
  · cases e
theorem ops_isub : OpS ts X (inplaceOp .Sub) subD := by
  refine ops_of iop_sub fun C Γ σ H x y dx dy res Q E hx hy e q => ?_
  unfold subD at e
  split at e
  · cases e
    exact ⟨_, _, hx.int, hy.int, q _ H E Go.refl rfl⟩
  · cases e
/-! ### while -/
def mWhile : Nat → MT → MS → MS
  | 0, _, _ => fun _ => .no
  | k + 1, c, b => fun Γ => (c Γ).bind fun t Γ1 => if t = true then match b Γ1 with
      | .ok .nx Γ2 => mWhile k c b Γ2
      | .ok .ct Γ2 => mWhile k c b Γ2
      | .ok .bk Γ2 => .ok .nx Γ2
      | o => o
    else .ok .nx Γ1
theorem s1_while {nc : MT} {body : List Stmt} (k : Nat) (hp : PassesOwn (model X.prog X.w) X.A X.env X.xe) (hc : ST ts X W c nc) (hb : SB ts X W body n) : S1 ts X W (.While c body [] pos) (mWhile k nc n) := by
  obtain ⟨tc, pc, sc⟩ := hc
  obtain ⟨tb, pb, sb⟩ := hb
  refine ⟨_, ps_while hp pc pb, fun C Γ σ H D E h => ?_⟩
  refine ⟨fun k σ H => ∃ C Γ, EnvOK X.K ts C Γ σ H ∧ PostS X.K ts C W D (mWhile k nc n Γ), ⟨k, C, Γ, E, h⟩, ?_⟩
  rintro k σ H ⟨C, Γ, E, h⟩
  cases k with
  | zero => exact h.elim
  | succ k =>
    unfold mWhile at h
    refine sc C Γ σ H _ E (PostS.bind h fun t Γ1 t' H1 E1 g1 e1 h1 => ?_)
    obtain rfl : t = t' := e1
    cases t with
    | false => exact iteF (h1 C σ H1 Ext.refl E1)
    | true =>
      refine iteT ⟨fun σ H => ∃ C Γ, EnvOK X.K ts C Γ σ H ∧ PostS X.K ts C W D (mWhile k nc n Γ), fun σ' H' w => ⟨k, Nat.lt_succ_self k, w⟩, sb C Γ1 σ H1 _ E1 ?_⟩
      rw [if_pos rfl] at h1
      cases e : n Γ1 with
      | no => rw [e] at h1; exact h1
      | ok f Γ2 =>
        rw [e] at h1
        cases f with
        | nx => exact fun C' σ' H' x E' => ⟨C', Γ2, E', PostS.ext x h1⟩
        | ct => exact fun C' σ' H' x E' => ⟨C', Γ2, E', PostS.ext x h1⟩
        | bk => exact h1
        | rt v => exact h1
      | rz x Γ2 => rw [e] at h1; exact h1
end
end SX

set_option Elab.async false
set_option linter.all false
set_option maxRecDepth 100000
set_option maxHeartbeats 4000000
/-! ### enumerate over a text -/
namespace SX
open PySem PySem.Spec PyProof.Rows L2 L2H XT GX RD
theorem draws_str {prog : Program} {w : World} {A : Around} (hh : A.handled = none) (it : Addr) (x : Str) (t : Tok) (ty : String) (hty : ty = "str_ascii_iterator" ∨ ty = "str_iterator") :
    Draws prog w A it [it] x.cps.size (SignAt x) (fun i h => h.IsStrIter it ty x t i) where
  live := fun i h ⟨o, e, _⟩ => ⟨o, e⟩
  frame := fun i h h' ⟨o, e, c, d⟩ k => ⟨o, k it (by simp) o e, c, d⟩
  item := fun i s Q E hi st hQ => by
    have hx : x.cps[i]? = some x.cps[i] := Array.getElem?_eq_getElem hi
    rcases hty with e | e
    · subst e
      exact wpAny_nextOf_ascii_item st hx fun h' st' sb => hQ _ h' _ ⟨_, _, hx, rfl⟩ st' sb
    · subst e
      exact wpAny_nextOf_wide_item st hx fun h' st' sb => hQ _ h' _ ⟨_, _, hx, rfl⟩ st' sb
  done := fun s Q E st hE => by
    have hx : x.cps[x.cps.size]? = none := Array.getElem?_eq_none (Nat.le_refl _)
    rcases hty with e | e
    · subst e
      exact wpAny_nextOf_ascii_end hh st hx hE
    · subst e
      exact wpAny_nextOf_wide_end hh st hx hE
/-- the signs of x, each with its place in a new pair -/
def Ites (x : Str) : It :=
  ⟨fun i _ => i < x.cps.size, fun i H v H' => ∃ T c, v = .ref T ∧ H T = none ∧ H' = upd H T (.tup [.int (i : Nat), .str ⟨#[c]⟩]) ∧ x.cps[i]? = some c, fun i _ => i = x.cps.size⟩
theorem turn_enumS {P : Program} {w : World} {K : PySem.W.Frag} {elts : List Expr} {kk : Nat} {tpos : Pos} (e it : Addr) (x : Str) (t : Tok) (ty : String) (hty : ty = "str_ascii_iterator" ∨ ty = "str_iterator") :
    Turn P w K (.Tuple elts kk tpos) (Ites x) [e, it] e (fun i h => (∃ old, IsEnum h e it ((i : Nat) : Int) old) ∧ h.IsStrIter it ty x t i ∧ e ≠ it) where
  mem := by simp
  obj := fun i h st b hb => by
    obtain ⟨⟨old, he⟩, ⟨o, ho, hc, hd⟩, _⟩ := st
    have e' : b = e ∨ b = it := by simpa using hb
    rcases e' with z | z
    · rw [z]; exact ⟨_, he, fun v q => nomatch q⟩
    · rw [z]; exact ⟨o, ho, fun v q => by rw [hd] at q; cases q⟩
  keep := fun i h h' st k => let ⟨⟨old, he⟩, ⟨o, ho, hc, hd⟩, hne⟩ := st; ⟨⟨old, k e (by simp) _ he⟩, ⟨o, k it (by simp) o ho, hc, hd⟩, hne⟩
  item := by
    intro X hP hw hK hc i pins s σ H E I hf st hg
    subst hP hw hK
    obtain ⟨⟨old, he⟩, hit, hne⟩ := st
    have hg : i < x.cps.size := hg
    have hel : e < s.heap.objs.size := Heap.lt_size he
    have hil : it < s.heap.objs.size := by obtain ⟨_, q, _⟩ := id hit; exact Heap.lt_size q
    refine wpAny_pyNext_enum_itemD (draws_str (A := X.A.in1) (I.ok.hd hc) it x t ty hty) he hit hg hne (by simpa using hne) fun u h' tk hu ho hit' hT hsz hk => ?_
    obtain ⟨c, t2, hx, rfl⟩ := hu
    refine ⟨_, rfl, wpAny_letOwnedTupleGo_enum (s := { s with heap := h', toks := tk + 1 }) ho fun h'' he' sb => ?_⟩
    have hT2 : h''.get? s.heap.objs.size = some { cls := .type "tuple", data := .seq #[.int i tk, .str ⟨#[c]⟩ t2] } := (sb.2 _ (Nat.ne_of_gt hel)).trans hT
    have new : ObjOk X.prog X.w (upd H s.heap.objs.size (.tup [.int (i : Nat), .str ⟨#[c]⟩])) h'' s.heap.objs.size (.tup [.int (i : Nat), .str ⟨#[c]⟩]) :=
      ⟨by show 2 ≤ sizeLine; decide, [.int i tk, .str ⟨#[c]⟩ t2], .cons ⟨_, rfl⟩ (.cons ⟨_, rfl⟩ .nil), ⟨_, hT2, rfl, _, rfl⟩⟩
    have I1 : Inv X pins σ (upd H s.heap.objs.size (.tup [.int (i : Nat), .str ⟨#[c]⟩])) { s with heap := h'', toks := tk + 1 } :=
      I.turnedNew (ch := [e, it]) (fun b ob hb q => (sb.2 b (fun z => hb (by simp [z]))).trans (hk b ob (fun z => hb (by simp [z])) (fun z => hb (by simp [z])) q)) hf (Nat.le_refl _) new
    refine ⟨.ref s.heap.objs.size, _, I1, rfl, ⟨_, c, rfl, I.hok.fresh (Nat.le_refl _), rfl, hx⟩, ⟨⟨.str ⟨#[c]⟩ t2, ?_⟩, ?_, hne⟩, fun b hb => ?_⟩
    · have e1 : ((i + 1 : Nat) : Int) = (i : Int) + 1 := by omega
      rw [e1]; exact he'
    · obtain ⟨o, ho, hc, hd⟩ := hit'
      exact ⟨o, (sb.2 it (Ne.symm hne)).trans ho, hc, hd⟩
    · have hb' : b < s.heap.objs.size := by
        have e' : b = e ∨ b = it := by simpa using hb
        rcases e' with z | z
        · rw [z]; exact hel
        · rw [z]; exact hil
      rw [upd_ne (Nat.ne_of_lt hb')]
      exact (hf b hb).1
  done := by
    intro X hP hw hK hc i pins s σ H E I hf st hg
    subst hP hw hK
    obtain ⟨⟨old, he⟩, hit, hne⟩ := st
    have hg : i = x.cps.size := hg
    subst hg
    obtain ⟨f0, f1, f2, f3, f4, f5⟩ := hf it (by simp)
    exact wpAny_pyNext_enum_endD (draws_str (A := X.A.in1) (I.ok.hd hc) it x t ty hty) he hit fun h' eb => ⟨rfl, I.turned (t' := s.toks) (fun b o hb q => eb b o hb q) f0 f1 f3 f4 f5⟩
  self := fun A i s Q E st h => let ⟨⟨_, he⟩, _⟩ := st; wpAny_pyIter_enum he h
def iEnumS (ta : TA) : TI := fun σ H R => ta σ H fun vs H1 => ∃ x, vs = [.str x] ∧ R (Ites x) H1
theorem pi_enumS {X : Cx} {e : Expr} {ta : TA} {p pos tpos : Pos} {elts : List Expr} {kk : Nat} (hg : Gl X "enumerate") (hm : X.mg "enumerate" = none) (ha : PA X [e] ta) (hs : starEach [e] X.env = [(false, eval e X.env)] := by rfl) :
    PI X (.Tuple elts kk tpos) (.Call (.Name "enumerate" p) [e] [] pos) (iEnumS ta) := by
  refine ⟨fun pins s σ H R I h => ?_⟩
  refine Call_ (ld_blt I hg hm boot_enumerate (PyProof.Rows.callWith_type1 (thn (ha.run pos pins s σ H _ I h) fun us s1 ⟨vs, H1, I1, r1, q1⟩ => ?_) hs rfl))
  obtain ⟨x, ex, q⟩ := q1
  subst ex
  cases r1 with
  | cons r rr =>
    cases rr
    obtain ⟨t, rfl⟩ := r
    refine call_enumerate_str fun h' he hit hsz hk => wpAny_pyIter_enum he ?_
    have I2 : Inv X pins σ H1 { s1 with heap := h' } := I1.kept (t' := s1.toks) hk
    refine ⟨s1.heap.objs.size + 1, [s1.heap.objs.size + 1, s1.heap.objs.size], _, _, H1, rfl, I2, turn_enumS (s1.heap.objs.size + 1) s1.heap.objs.size x t _ (by unfold strIterType; split <;> simp), ⟨⟨.none, he⟩, hit, Nat.succ_ne_self _⟩, fun b hb => ?_, q⟩
    have e' : b = s1.heap.objs.size + 1 ∨ b = s1.heap.objs.size := by simpa using hb
    have hle : s1.heap.objs.size ≤ b := by
      rcases e' with z | z
      · rw [z]; exact Nat.le_add_right _ _
      · rw [z]; exact Nat.le_refl _
    exact I1.fpOk hle (I1.hok.fresh hle)

/-! ### what is walked -/
/-- the walk J hands out just these items, as long as what is held stands -/
structure ItOK (K : PySem.W.Frag) (items : List D) (held : List (D × V)) (J : It) : Prop where
  go : ∀ (i : Nat) (d : D) (H : Hp) (S : Addr → Prop), items[i]? = some d → (∀ p ∈ held, Rep K H S p.1 p.2) → J.go i H
  yld : ∀ (i : Nat) (d : D) (H : Hp) (S : Addr → Prop) (x : V) (H1 : Hp), items[i]? = some d → (∀ p ∈ held, Rep K H S p.1 p.2) → (∀ a, S a → ∃ u, H a = some u) → J.yld i H x H1 → (∀ b u, H b = some u → H1 b = some u) ∧ Rep K H1 S d x
  stop : ∀ (H : Hp) (S : Addr → Prop), (∀ p ∈ held, Rep K H S p.1 p.2) → J.stop items.length H
abbrev MI := EV → Out (List D)
abbrev RIt (K : PySem.W.Frag) (C : Cn) (σ : L2.St) : EV → Hp → List D → It → Prop := fun Γ H items J => ∃ held, (∀ p ∈ held, Rep K H (Av C Γ σ) p.1 p.2) ∧ ItOK K items held J
structure SI (ts : Tsx) (X : Cx) (W : WX) (tg iter : Expr) (m : MI) : Prop where
  ex : ∃ t : TI, PI X tg iter t ∧ ∀ (C : Cn) (Γ : EV) (σ : L2.St) (H : Hp) (R : It → Hp → Prop), EnvOK X.K ts C Γ σ H → Post X.K ts C W σ Γ H (RIt X.K C σ) R (m Γ) → t σ H R
section
variable {ts : Tsx} {X : Cx} {W : WX} {e tg : Expr} {es : List Expr} {m : ME} {ms : MA} {p pos : Pos}
/-- a list, a tuple; it is given up -/
def mIL (m : ME) : MI := fun Γ => (m Γ).bind fun v Γ1 => match cool Γ1 v.op with
  | some (.lst ds, Γ2) => .ok ds Γ2
  | _ => .no
def mIT (m : ME) : MI := fun Γ => (m Γ).bind fun v Γ1 => match cool Γ1 v.op with
  | some (.tup ds, Γ2) => .ok ds Γ2
  | _ => .no
def mIC (m : ME) : MI := fun Γ => (m Γ).bind fun v Γ1 => match v with
  | .fz (.scr ns) => .ok (ns.map .int) Γ1
  | _ => .no
def mIS (m : ME) : MI := fun Γ => (m Γ).bind fun v Γ1 => match v with
  | .fz (.str s) => .ok (s.cps.toList.map fun c => .str ⟨#[c]⟩) Γ1
  | _ => .no
theorem held1 {K : PySem.W.Frag} {H : Hp} {S : Addr → Prop} {d : D} {v : V} : (∀ p ∈ [(d, v)], Rep K H S p.1 p.2) ↔ Rep K H S d v := by simp
theorem it_list {K : PySem.W.Frag} {ds : List D} {a : Addr} : ItOK K ds [(.lst ds, .ref a)] (Itl K a) := by
  have get : ∀ {H : Hp} {S : Addr → Prop}, (∀ p ∈ [((.lst ds : D), V.ref a)], Rep K H S p.1 p.2) → ∃ xs, H a = some (.lst xs) ∧ Reps K H S ds xs := fun {H S} h => by
    have h := held1.mp h
    unfold Rep at h
    obtain ⟨b, xs, e, _, h1, h2⟩ := h
    cases e
    exact ⟨xs, h1, h2⟩
  refine ⟨fun i d H S e h => ?_, fun i d H S x H1 e h hS hy => ?_, fun H S h => ?_⟩
  · obtain ⟨xs, h1, h2⟩ := get h
    obtain ⟨v, h3, _⟩ := h2.get e
    exact ⟨xs, v, SqL.of h1, h3⟩
  · obtain ⟨xs, h1, h2⟩ := get h
    obtain ⟨v, h3, h4⟩ := h2.get e
    obtain ⟨rfl, h5⟩ := hy
    have h6 := h5 xs (SqL.of h1)
    rw [h3] at h6; cases h6
    exact ⟨fun _ _ q => q, h4⟩
  · obtain ⟨xs, h1, h2⟩ := get h
    exact ⟨xs, SqL.of h1, by rw [h2.length]; exact Nat.le_refl _⟩
theorem si_list (h : SE ts X W e m) : SI ts X W tg e (mIL m) := by
  obtain ⟨t, pt, s⟩ := h
  refine ⟨_, pi_list pt, fun C Γ σ H R E h => s C Γ σ H _ E (Post.bind h fun v Γ1 x H1 E1 g1 v1 h1 => ?_)⟩
  split at h1
  · rename_i ds Γ2 e1
    obtain ⟨E2, g2, r2⟩ := (v1.op).cool E1 e1
    have r2' := r2
    unfold Rep at r2
    obtain ⟨a, xs, rfl, _, k1, k2⟩ := r2
    exact ⟨a, rfl, ⟨xs, SqL.of k1⟩, h1 _ H1 E2 g2 ⟨_, held1.mpr r2', it_list⟩⟩
  · exact h1.elim
theorem it_tup {K : PySem.W.Frag} {ds : List D} {a : Addr} : ItOK K ds [(.tup ds, .ref a)] (Itt K a) := by
  have get : ∀ {H : Hp} {S : Addr → Prop}, (∀ p ∈ [((.tup ds : D), V.ref a)], Rep K H S p.1 p.2) → ∃ xs, SqT K H a xs ∧ Reps K H S ds xs := fun {H S} h => by
    obtain ⟨b, xs, e, h1, h2⟩ := (held1.mp h).pk.tup
    cases e
    exact ⟨xs, h1, h2⟩
  refine ⟨fun i d H S e h => ?_, fun i d H S x H1 e h hS hy => ?_, fun H S h => ?_⟩
  · obtain ⟨xs, h1, h2⟩ := get h
    obtain ⟨v, h3, _⟩ := h2.get e
    exact ⟨xs, v, h1, h3⟩
  · obtain ⟨xs, h1, h2⟩ := get h
    obtain ⟨v, h3, h4⟩ := h2.get e
    obtain ⟨rfl, h5⟩ := hy
    have h6 := h5 xs h1
    rw [h3] at h6; cases h6
    exact ⟨fun _ _ q => q, h4⟩
  · obtain ⟨xs, h1, h2⟩ := get h
    exact ⟨xs, h1, by rw [h2.length]; exact Nat.le_refl _⟩
theorem si_tup (h : SE ts X W e m) : SI ts X W tg e (mIT m) := by
  obtain ⟨t, pt, s⟩ := h
  refine ⟨_, pi_tup pt, fun C Γ σ H R E h => s C Γ σ H _ E (Post.bind h fun v Γ1 x H1 E1 g1 v1 h1 => ?_)⟩
  split at h1
  · rename_i ds Γ2 e1
    obtain ⟨E2, g2, r2⟩ := (v1.op).cool E1 e1
    obtain ⟨a, xs, rfl, k1, k2⟩ := r2.pk.tup
    exact ⟨a, rfl, ⟨xs, k1⟩, h1 _ H1 E2 g2 ⟨_, held1.mpr r2, it_tup⟩⟩
  · exact h1.elim
theorem it_scr {K : PySem.W.Frag} {ns : List Int} {a : Addr} : ItOK K (ns.map .int) [(.scr ns, .ref a)] (Itl K a) := by
  have get : ∀ {H : Hp} {S : Addr → Prop}, (∀ p ∈ [((.scr ns : D), V.ref a)], Rep K H S p.1 p.2) → SqL K H a (ns.map V.int) := fun {H S} h => by
    have h := held1.mp h
    unfold Rep at h
    obtain ⟨b, e, h1⟩ := h
    cases e
    exact scq h1
  have at_ : ∀ {i : Nat} {d : D}, (ns.map D.int)[i]? = some d → ∃ n, d = .int n ∧ (ns.map V.int)[i]? = some (.int n) := fun {i d} e => by
    rw [List.getElem?_map] at e
    obtain ⟨n, e1, e2⟩ := Option.map_eq_some_iff.mp e
    exact ⟨n, e2.symm, by rw [List.getElem?_map, e1]; rfl⟩
  refine ⟨fun i d H S e h => ?_, fun i d H S x H1 e h hS hy => ?_, fun H S h => ?_⟩
  · obtain ⟨n, _, h3⟩ := at_ e
    exact ⟨_, _, get h, h3⟩
  · obtain ⟨n, rfl, h3⟩ := at_ e
    obtain ⟨rfl, h5⟩ := hy
    have h6 := h5 _ (get h)
    rw [h3] at h6; cases h6
    exact ⟨fun _ _ q => q, rfl⟩
  · exact ⟨_, get h, by rw [List.length_map, List.length_map]; exact Nat.le_refl _⟩
theorem si_scr (h : SE ts X W e m) : SI ts X W tg e (mIC m) := by
  obtain ⟨t, pt, s⟩ := h
  refine ⟨_, pi_list pt, fun C Γ σ H R E h => s C Γ σ H _ E (Post.bind h fun v Γ1 x H1 E1 g1 v1 h1 => ?_)⟩
  split at h1
  · rename_i ns
    have v1 : Rep X.K H1 (Av C Γ1 σ) (.scr ns) x := v1
    have v1' := v1
    unfold Rep at v1
    obtain ⟨a, rfl, k1⟩ := v1
    exact ⟨a, rfl, ⟨_, scq k1⟩, h1 _ H1 E1 Go.refl ⟨_, held1.mpr v1', it_scr⟩⟩
  · exact h1.elim
theorem held0 {K : PySem.W.Frag} {H : Hp} {S : Addr → Prop} : ∀ p ∈ ([] : List (D × V)), Rep K H S p.1 p.2 := fun p hp => absurd hp (by simp)
theorem it_str {K : PySem.W.Frag} {s : Str} : ItOK K (s.cps.toList.map fun c => .str ⟨#[c]⟩) [] (Its s) := by
  have at_ : ∀ {i : Nat} {d : D}, (s.cps.toList.map fun c => D.str ⟨#[c]⟩)[i]? = some d → ∃ c, d = .str ⟨#[c]⟩ ∧ s.cps[i]? = some c := fun {i d} e => by
    rw [List.getElem?_map] at e
    obtain ⟨n, e1, e2⟩ := Option.map_eq_some_iff.mp e
    exact ⟨n, e2.symm, by rw [← Array.getElem?_toList]; exact e1⟩
  refine ⟨fun i d H S e _ => ?_, fun i d H S x H1 e h hS hy => ?_, fun H S h => ?_⟩
  · obtain ⟨c, _, h⟩ := at_ e
    exact (Array.getElem?_eq_some_iff.mp h).1
  · obtain ⟨c, rfl, h3⟩ := at_ e
    obtain ⟨rfl, c', h4, rfl⟩ := hy
    rw [h3] at h4; cases h4
    exact ⟨fun _ _ q => q, rfl⟩
  · show s.cps.size ≤ _
    rw [List.length_map, Array.length_toList]
    exact Nat.le_refl _
theorem si_str (h : SE ts X W e m) : SI ts X W tg e (mIS m) := by
  obtain ⟨t, pt, s⟩ := h
  refine ⟨_, pi_str pt, fun C Γ σ H R E h => s C Γ σ H _ E (Post.bind h fun v Γ1 x H1 E1 g1 v1 h1 => ?_)⟩
  split at h1
  · exact ⟨_, v1, h1 _ H1 E1 Go.refl ⟨[], held0, it_str⟩⟩
  · exact h1.elim
/-- lo, lo + 1, .., n of them -/
def rngD (lo : Int) (n : Nat) : List D := (List.range n).map fun i => .int (lo + (i : Nat))
theorem it_rng {K : PySem.W.Frag} {lo : Int} {n : Nat} : ItOK K (rngD lo n) [] (Itr lo n) := by
  have at_ : ∀ {i : Nat} {d : D}, (rngD lo n)[i]? = some d → i < n ∧ d = .int (lo + (i : Nat)) := fun {i d} e => by
    unfold rngD at e
    rw [List.getElem?_map] at e
    obtain ⟨k, e1, e2⟩ := Option.map_eq_some_iff.mp e
    obtain ⟨h1, h2⟩ := List.getElem?_eq_some_iff.mp e1
    rw [List.getElem_range] at h2
    rw [List.length_range] at h1
    subst h2
    exact ⟨h1, e2.symm⟩
  refine ⟨fun i d H S e _ => (at_ e).1, fun i d H S x H1 e h hS hy => ?_, fun H S h => ?_⟩
  · obtain ⟨h1, rfl⟩ := at_ e
    obtain ⟨rfl, rfl⟩ := hy
    exact ⟨fun _ _ q => q, rfl⟩
  · show n ≤ _
    unfold rngD
    rw [List.length_map, List.length_range]
    exact Nat.le_refl _
def mIR1 (ms : MA) : MI := fun Γ => (ms Γ).bind fun vs Γ1 => match vs with
  | [.fz (.int j)] => if -2 ^ 62 ≤ j ∧ j < 2 ^ 62 then .ok (rngD 0 j.toNat) Γ1 else .no
  | _ => .no
theorem VOKs.one {K : PySem.W.Frag} {C : Cn} {Γ : EV} {σ : L2.St} {H : Hp} {a : Vl} {xs : List V} (h : VOKs K ts C Γ σ H [a] xs) : ∃ v, xs = [v] ∧ VOK K ts C Γ σ H a.op v := by
  obtain ⟨v, r, e, h1, h2⟩ := h
  obtain rfl : r = [] := h2
  exact ⟨v, e, h1⟩
theorem VOKs.two {K : PySem.W.Frag} {C : Cn} {Γ : EV} {σ : L2.St} {H : Hp} {a b : Vl} {xs : List V} (h : VOKs K ts C Γ σ H [a, b] xs) : ∃ v w, xs = [v, w] ∧ VOK K ts C Γ σ H a.op v ∧ VOK K ts C Γ σ H b.op w := by
  obtain ⟨v, r, e, h1, h2⟩ := h
  obtain ⟨w, e2, h3⟩ := VOKs.one h2
  exact ⟨v, w, by rw [e, e2], h1, h3⟩
variable {a b : Expr}
theorem si_range1 (hg : Gl X "range") (hm : X.mg "range" = none) (ha : SA ts X W [a] ms) (hs : starEach [a] X.env = [(false, eval a X.env)] := by rfl) : SI ts X W tg (.Call (.Name "range" p) [a] [] pos) (mIR1 ms) := by
  obtain ⟨t, pt, s⟩ := ha
  refine ⟨_, pi_range1 hg hm pt hs, fun C Γ σ H R E h => s C Γ σ H _ E (Post.bind h fun vs Γ1 xs H1 E1 g1 v1 h1 => ?_)⟩
  split at h1
  · split at h1
    · rename_i j hj
      obtain ⟨v, rfl, hv⟩ := v1.one
      have hv : v = .int _ := hv
      subst hv
      exact ⟨_, rfl, hj.1, hj.2, h1 _ H1 E1 Go.refl ⟨[], held0, it_rng⟩⟩
    · exact h1.elim
  · exact h1.elim
def mIR2 (ms : MA) : MI := fun Γ => (ms Γ).bind fun vs Γ1 => match vs with
  | [.fz (.int i), .fz (.int j)] => if -2 ^ 62 ≤ i ∧ i < 2 ^ 62 ∧ -2 ^ 62 ≤ j ∧ j < 2 ^ 62 then .ok (rngD i (j - i).toNat) Γ1 else .no
  | _ => .no
theorem si_range2 (hg : Gl X "range") (hm : X.mg "range" = none) (ha : SA ts X W [a, b] ms) (hs : starEach [a, b] X.env = [(false, eval a X.env), (false, eval b X.env)] := by rfl) (hs2 : starEach [b] X.env = [(false, eval b X.env)] := by rfl) : SI ts X W tg (.Call (.Name "range" p) [a, b] [] pos) (mIR2 ms) := by
  obtain ⟨t, pt, s⟩ := ha
  refine ⟨_, pi_range2 hg hm pt hs hs2, fun C Γ σ H R E h => s C Γ σ H _ E (Post.bind h fun vs Γ1 xs H1 E1 g1 v1 h1 => ?_)⟩
  split at h1
  · split at h1
    · rename_i hj
      obtain ⟨v, w, rfl, hv, hw⟩ := v1.two
      have hv : v = .int _ := hv
      have hw : w = .int _ := hw
      subst hv hw
      exact ⟨_, _, rfl, hj, h1 _ H1 E1 Go.refl ⟨[], held0, it_rng⟩⟩
    · exact h1.elim
  · exact h1.elim
/-- the signs with their places -/
def enumS (s : Str) : List D := (List.range s.cps.size).map fun i => .tup [.int (i : Nat), .str ⟨#[s.cps.toList.getD i 0]⟩]
theorem rep_tup {K : PySem.W.Frag} {H : Hp} {S : Addr → Prop} {T : Addr} {ds : List D} {xs : List V} (hT : H T = none) (hS : ∀ a, S a → ∃ u, H a = some u) (h : Reps K (upd H T (.tup xs)) S ds xs) : Rep K (upd H T (.tup xs)) S (.tup ds) (.ref T) :=
  ⟨T, xs, rfl, .inl ⟨fun z => (by obtain ⟨u, e⟩ := hS T z; rw [hT] at e; cases e), .inl upd_same⟩, h⟩
theorem keep_all {H : Hp} {T : Addr} {o : HO} (hT : H T = none) : ∀ b u, H b = some u → upd H T o b = some u := fun b u e => by rw [upd_ne (ne_of_none e hT)]; exact e
theorem it_enumS {K : PySem.W.Frag} {s : Str} : ItOK K (enumS s) [] (Ites s) := by
  have at_ : ∀ {i : Nat} {d : D}, (enumS s)[i]? = some d → i < s.cps.size ∧ d = .tup [.int (i : Nat), .str ⟨#[s.cps.toList.getD i 0]⟩] := fun {i d} e => by
    unfold enumS at e
    rw [List.getElem?_map] at e
    obtain ⟨k, e1, e2⟩ := Option.map_eq_some_iff.mp e
    obtain ⟨h1, h2⟩ := List.getElem?_eq_some_iff.mp e1
    rw [List.getElem_range] at h2
    rw [List.length_range] at h1
    subst h2
    exact ⟨h1, e2.symm⟩
  refine ⟨fun i d H S e _ => (at_ e).1, fun i d H S x H1 e h hS hy => ?_, fun H S h => ?_⟩
  · obtain ⟨h1, rfl⟩ := at_ e
    obtain ⟨T, c, rfl, hT, rfl, hc⟩ := hy
    refine ⟨keep_all hT, rep_tup hT hS ?_⟩
    have e2 : s.cps.toList.getD i 0 = c := by
      rw [List.getD_eq_getElem?_getD, Array.getElem?_toList, hc]; rfl
    rw [e2]
    exact Reps.cons_iff.mpr ⟨_, _, rfl, rfl, Reps.cons_iff.mpr ⟨_, _, rfl, rfl, Reps.nil_iff.mpr rfl⟩⟩
  · show _ = s.cps.size
    unfold enumS
    rw [List.length_map, List.length_range]
def mIES (ms : MA) : MI := fun Γ => (ms Γ).bind fun vs Γ1 => match vs with
  | [.fz (.str s)] => .ok (enumS s) Γ1
  | _ => .no
variable {elts : List Expr} {kk : Nat} {tpos : Pos}
theorem si_enumS (hg : Gl X "enumerate") (hm : X.mg "enumerate" = none) (ha : SA ts X W [a] ms) (hs : starEach [a] X.env = [(false, eval a X.env)] := by rfl) : SI ts X W (.Tuple elts kk tpos) (.Call (.Name "enumerate" p) [a] [] pos) (mIES ms) := by
  obtain ⟨t, pt, s⟩ := ha
  refine ⟨_, pi_enumS hg hm pt hs, fun C Γ σ H R E h => s C Γ σ H _ E (Post.bind h fun vs Γ1 xs H1 E1 g1 v1 h1 => ?_)⟩
  split at h1
  · obtain ⟨v, rfl, hv⟩ := v1.one
    have hv : v = .str _ := hv
    subst hv
    exact ⟨_, rfl, h1 _ H1 E1 Go.refl ⟨[], held0, it_enumS⟩⟩
  · exact h1.elim
/-- pairs of two tuples' items (or of two lists') -/
def zipD (xs ys : List D) : List D := (xs.zip ys).map fun p => .tup [p.1, p.2]
theorem zipD_at {xs ys : List D} {i : Nat} {d : D} (e : (zipD xs ys)[i]? = some d) : ∃ x y, xs[i]? = some x ∧ ys[i]? = some y ∧ d = .tup [x, y] := by
  unfold zipD at e
  rw [List.getElem?_map] at e
  obtain ⟨⟨x, y⟩, e1, e2⟩ := Option.map_eq_some_iff.mp e
  obtain ⟨h1, h2⟩ := List.getElem?_zip_eq_some.mp e1
  exact ⟨x, y, h1, h2, e2.symm⟩
theorem held2 {K : PySem.W.Frag} {H : Hp} {S : Addr → Prop} {d d2 : D} {v v2 : V} : (∀ p ∈ [(d, v), (d2, v2)], Rep K H S p.1 p.2) ↔ Rep K H S d v ∧ Rep K H S d2 v2 := by simp
theorem pair_go {K : PySem.W.Frag} {H : Hp} {S : Addr → Prop} {T : Addr} {x y : D} {u v : V} (hT : H T = none) (hS : ∀ a, S a → ∃ u, H a = some u) (h1 : Rep K H S x u) (h2 : Rep K H S y v) : Rep K (upd H T (.tup [u, v])) S (.tup [x, y]) (.ref T) := by
  have g : St2 S H S (upd H T (.tup [u, v])) := ⟨fun b w _ e _ => keep_all hT b w e, fun a z => .inl z⟩
  exact rep_tup hT hS (Reps.cons_iff.mpr ⟨_, _, rfl, h1.go g, Reps.cons_iff.mpr ⟨_, _, rfl, h2.go g, Reps.nil_iff.mpr rfl⟩⟩)
theorem it_zipT {K : PySem.W.Frag} {xs ys : List D} {a b : Addr} : ItOK K (zipD xs ys) [(.tup xs, .ref a), (.tup ys, .ref b)] (RZ.ItzT K a b) := by
  have get : ∀ {H : Hp} {S : Addr → Prop}, (∀ p ∈ [((.tup xs : D), V.ref a), (.tup ys, .ref b)], Rep K H S p.1 p.2) → ∃ us vs, SqT K H a us ∧ Reps K H S xs us ∧ SqT K H b vs ∧ Reps K H S ys vs := fun {H S} h => by
    obtain ⟨h1, h2⟩ := held2.mp h
    obtain ⟨c, us, e, k1, k2⟩ := h1.pk.tup
    cases e
    obtain ⟨c, vs, e, k3, k4⟩ := h2.pk.tup
    cases e
    exact ⟨us, vs, k1, k2, k3, k4⟩
  refine ⟨fun i d H S e h => ?_, fun i d H S x H1 e h hS hy => ?_, fun H S h => ?_⟩
  · obtain ⟨us, vs, k1, k2, k3, k4⟩ := get h
    obtain ⟨x, y, e1, e2, rfl⟩ := zipD_at e
    obtain ⟨u, e3, _⟩ := k2.get e1
    obtain ⟨v, e4, _⟩ := k4.get e2
    exact ⟨us, vs, u, v, k1, k3, e3, e4⟩
  · obtain ⟨us, vs, k1, k2, k3, k4⟩ := get h
    obtain ⟨x, y, e1, e2, rfl⟩ := zipD_at e
    obtain ⟨u, e3, r1⟩ := k2.get e1
    obtain ⟨v, e4, r2⟩ := k4.get e2
    obtain ⟨T, u', v', rfl, hT, rfl, f1, f2⟩ := hy
    have f1 := f1 us k1
    have f2 := f2 vs k3
    rw [e3] at f1; cases f1
    rw [e4] at f2; cases f2
    exact ⟨keep_all hT, pair_go hT hS r1 r2⟩
  · obtain ⟨us, vs, k1, k2, k3, k4⟩ := get h
    refine ⟨us, vs, k1, k3, ?_⟩
    have : (zipD xs ys).length = min xs.length ys.length := by unfold zipD; rw [List.length_map, List.length_zip]
    rw [this, k2.length, k4.length]
    omega
theorem it_zipL {K : PySem.W.Frag} {xs ys : List D} {a b : Addr} : ItOK K (zipD xs ys) [(.lst xs, .ref a), (.lst ys, .ref b)] (Itz K a b) := by
  have get : ∀ {H : Hp} {S : Addr → Prop}, (∀ p ∈ [((.lst xs : D), V.ref a), (.lst ys, .ref b)], Rep K H S p.1 p.2) → ∃ us vs, SqL K H a us ∧ Reps K H S xs us ∧ SqL K H b vs ∧ Reps K H S ys vs := fun {H S} h => by
    obtain ⟨h1, h2⟩ := held2.mp h
    obtain ⟨c, us, e, k1, k2⟩ := h1.pk.lst
    cases e
    obtain ⟨c, vs, e, k3, k4⟩ := h2.pk.lst
    cases e
    exact ⟨us, vs, SqL.of k1, k2, SqL.of k3, k4⟩
  refine ⟨fun i d H S e h => ?_, fun i d H S x H1 e h hS hy => ?_, fun H S h => ?_⟩
  · obtain ⟨us, vs, k1, k2, k3, k4⟩ := get h
    obtain ⟨x, y, e1, e2, rfl⟩ := zipD_at e
    obtain ⟨u, e3, _⟩ := k2.get e1
    obtain ⟨v, e4, _⟩ := k4.get e2
    exact ⟨us, vs, u, v, k1, k3, e3, e4⟩
  · obtain ⟨us, vs, k1, k2, k3, k4⟩ := get h
    obtain ⟨x, y, e1, e2, rfl⟩ := zipD_at e
    obtain ⟨u, e3, r1⟩ := k2.get e1
    obtain ⟨v, e4, r2⟩ := k4.get e2
    obtain ⟨T, u', v', rfl, hT, rfl, f1, f2⟩ := hy
    have f1 := f1 us k1
    have f2 := f2 vs k3
    rw [e3] at f1; cases f1
    rw [e4] at f2; cases f2
    exact ⟨keep_all hT, pair_go hT hS r1 r2⟩
  · obtain ⟨us, vs, k1, k2, k3, k4⟩ := get h
    refine ⟨us, vs, k1, k3, ?_⟩
    have : (zipD xs ys).length = min xs.length ys.length := by unfold zipD; rw [List.length_map, List.length_zip]
    rw [this, k2.length, k4.length]
    omega
def mIZ (ms : MA) : MI := fun Γ => (ms Γ).bind fun vs Γ1 => match cools Γ1 vs with
  | some ([.tup xs, .tup ys], Γ2) => .ok (zipD xs ys) Γ2
  | some ([.lst xs, .lst ys], Γ2) => .ok (zipD xs ys) Γ2
  | _ => .no
theorem si_zip (hg : Gl X "zip") (hm : X.mg "zip" = none) (ha : SA ts X W [a, b] ms) (hs : starEach [a, b] X.env = (false, eval a X.env) :: starEach [b] X.env := by rfl) (hpl : (backTo pos (starEach [b] X.env)).any (·.1) = false := by rfl) :
    SI ts X W (.Tuple elts kk tpos) (.Call (.Name "zip" p) [a, b] [] pos) (mIZ ms) := by
  obtain ⟨t, pt, s⟩ := ha
  refine ⟨_, RZ.pi_zipA hg hm pt hs hpl, fun C Γ σ H R E h => s C Γ σ H _ E (Post.bind h fun vs Γ1 xs H1 E1 g1 v1 h1 => ?_)⟩
  split at h1
  · rename_i ds es Γ2 e1
    obtain ⟨E2, g2, r2⟩ := v1.cools E1 e1
    obtain ⟨v, r, rfl, k1, k2⟩ := Reps.cons_iff.mp r2
    obtain ⟨w, r', rfl, k3, k4⟩ := Reps.cons_iff.mp k2
    obtain rfl := Reps.nil_iff.mp k4
    obtain ⟨a', us, rfl, q1, _⟩ := k1.pk.tup
    obtain ⟨b', ws, rfl, q2, _⟩ := k3.pk.tup
    exact ⟨a', b', us, ws, rfl, .inr ⟨q1, q2, h1 _ H1 E2 g2 ⟨_, held2.mpr ⟨k1, k3⟩, it_zipT⟩⟩⟩
  · rename_i ds es Γ2 e1
    obtain ⟨E2, g2, r2⟩ := v1.cools E1 e1
    obtain ⟨v, r, rfl, k1, k2⟩ := Reps.cons_iff.mp r2
    obtain ⟨w, r', rfl, k3, k4⟩ := Reps.cons_iff.mp k2
    obtain rfl := Reps.nil_iff.mp k4
    obtain ⟨a', us, rfl, q1, _⟩ := k1.pk.lst
    obtain ⟨b', ws, rfl, q2, _⟩ := k3.pk.lst
    exact ⟨a', b', us, ws, rfl, .inl ⟨SqL.of q1, SqL.of q2, h1 _ H1 E2 g2 ⟨_, held2.mpr ⟨k1, k3⟩, it_zipL⟩⟩⟩
  · exact h1.elim
end
end SX

set_option Elab.async false
set_option linter.all false
set_option maxRecDepth 100000
set_option maxHeartbeats 4000000
namespace SX
open PySem PySem.Spec PyProof.Rows L2 L2H XT GX RD
/-! ### wiped slots -/
theorem wipe_get (σ : L2.St) : ∀ (vs : List Nat) (k : Nat), (wipe σ vs)[k]? = if k ∈ vs ∧ k < σ.length then some none else σ[k]?
  | [], k => by simp [wipe]
  | v :: vs, k => by
    unfold wipe
    rw [List.getElem?_set, wipe_length, wipe_get σ vs k]
    by_cases h : v = k
    · subst h
      by_cases h2 : v < σ.length
      · simp [h2]
      · have : σ[v]? = none := List.getElem?_eq_none (Nat.le_of_not_lt h2)
        simp [h2, this]
    · have h' : ¬ k = v := fun z => h z.symm
      simp [h, h']
theorem wipe_comm (σ : L2.St) (vs us : List Nat) : wipe (wipe σ vs) us = wipe (wipe σ us) vs := by
  refine List.ext_getElem? fun k => ?_
  simp only [wipe_get, wipe_length]
  by_cases h1 : k ∈ us ∧ k < σ.length <;> by_cases h2 : k ∈ vs ∧ k < σ.length <;> simp [h1, h2]
theorem wipe_append (σ : L2.St) (vs us : List Nat) : wipe σ (vs ++ us) = wipe (wipe σ us) vs := by
  refine List.ext_getElem? fun k => ?_
  simp only [wipe_get, wipe_length, List.mem_append]
  by_cases h1 : k < σ.length <;> by_cases h2 : k ∈ vs <;> by_cases h3 : k ∈ us <;> simp [h1, h2, h3]
theorem wipe_wipe (σ : L2.St) (vs : List Nat) : wipe (wipe σ vs) vs = wipe σ vs := by
  refine List.ext_getElem? fun k => ?_
  simp only [wipe_get, wipe_length]
  by_cases h1 : k ∈ vs ∧ k < σ.length <;> simp [h1]
theorem wipe_set (σ : L2.St) (i : Nat) (x : Option V) : wipe (σ.set i x) [i] = wipe σ [i] := by
  show (σ.set i x).set i none = σ.set i none
  rw [List.set_set]
def wipeE (Γ : EV) : List Nat → EV
  | [] => Γ
  | v :: vs => (wipeE Γ vs).set v .no
section
variable {K : PySem.W.Frag} {ts : Tsx} {C : Cn} {Γ Γ' Γ1 Γ2 : EV} {σ σ' : L2.St} {H H' H1 H2 : Hp}
theorem wipeE_get (Γ : EV) : ∀ (vs : List Nat) (k : Nat), k ∈ vs → (wipeE Γ vs)[k]? = some Sl.no ∨ (wipeE Γ vs)[k]? = none
  | v :: vs, k, h => by
    unfold wipeE
    rw [List.getElem?_set]
    by_cases hv : v = k
    · subst hv
      simp only [if_true]
      split
      · exact .inl rfl
      · exact .inr rfl
    · rw [if_neg hv]
      exact wipeE_get Γ vs k ((List.mem_cons.mp h).resolve_left (fun z => hv z.symm))
theorem wipeE_ow {vs : List Nat} {k : Nat} {b : Bool} {ds : List D} : (wipeE Γ vs)[k]? = some (Sl.ow b ds) → Γ[k]? = some (Sl.ow b ds) := by
  induction vs with
  | nil => exact fun h => h
  | cons v vs ih =>
    intro h
    unfold wipeE at h
    rw [List.getElem?_set] at h
    split at h
    · split at h <;> cases h
    · exact ih h
theorem own_wipe {vs : List Nat} {a : Addr} (h : Own (wipeE Γ vs) (wipe σ vs) a) : Own Γ σ a := by
  obtain ⟨i, b, ds, h1, h2⟩ := h
  refine ⟨i, b, ds, wipeE_ow h1, ?_⟩
  rw [wipe_get] at h2
  split at h2
  · cases h2
  · exact h2
theorem EnvOK.wipe (E : EnvOK K ts C Γ σ H) : ∀ vs : List Nat, EnvOK K ts C (wipeE Γ vs) (L2.wipe σ vs) H
  | [] => E
  | v :: vs => (EnvOK.wipe E vs).drop1
/-- slots of which nothing is known may hold anything -/
theorem EnvOK.unwipe {vs : List Nat} (E : EnvOK K ts C Γ (L2.wipe σ vs) H) (hn : ∀ k ∈ vs, Γ[k]? = some Sl.no ∨ Γ[k]? = none) : EnvOK K ts C Γ σ H ∧ (∀ a, Own Γ σ a ↔ Own Γ (L2.wipe σ vs) a) := by
  have nv : ∀ {k : Nat} {s : Sl}, Γ[k]? = some s → s ≠ .no → k ∉ vs := fun {k s} e ns hk => by
    rcases hn k hk with z | z
    · rw [e] at z; cases z; exact ns rfl
    · rw [e] at z; cases z
  have same : ∀ {k : Nat}, k ∉ vs → (L2.wipe σ vs)[k]? = σ[k]? := fun {k} hk => by rw [wipe_get, if_neg (fun z => hk z.1)]
  have own : ∀ a, Own Γ σ a ↔ Own Γ (L2.wipe σ vs) a := fun a => by
    constructor
    · rintro ⟨i, b, ds, h1, h2⟩
      exact ⟨i, b, ds, h1, by rw [same (nv h1 (fun z => by cases z))]; exact h2⟩
    · rintro ⟨i, b, ds, h1, h2⟩
      exact ⟨i, b, ds, h1, by rw [same (nv h1 (fun z => by cases z))] at h2; exact h2⟩
  have w : ∀ a, Av C Γ σ a → Av C Γ (L2.wipe σ vs) a := fun a z => z.elim (fun z => .inl ((own a).mp z)) .inr
  refine ⟨⟨by rw [E.len, wipe_length], fun i d e => ?_, fun i b ds e => ?_, fun i c fs e => ?_, fun i j a b c ds es e f e' f' => ?_, fun a z => E.nz a ((own a).mp z), E.fr, fun a z => E.fo a ((own a).mp z), E.z, fun p hp => (E.hd p hp).weak w, E.gz, E.oo.go rfl (St2.same w) (fun j dss e => ⟨e, (same (nv e (fun z => by cases z))).symm⟩) fun _ _ _ _ _ _ _ e => e⟩, own⟩
  · obtain ⟨v, h1, h2⟩ := E.fz i d e
    exact ⟨v, by rw [same (nv e (fun z => by cases z))] at h1; exact h1, h2.weak w⟩
  · obtain ⟨a, xs, h1, h2, h3, h4⟩ := E.ow i b ds e
    exact ⟨a, xs, by rw [same (nv e (fun z => by cases z))] at h1; exact h1, h2, h3.weak w, h4⟩
  · obtain ⟨q, h1, h2, e0, dd, us, e1, e2, f1, f2⟩ := E.ex i c fs e
    exact ⟨q, h1, by rw [same (nv e (fun z => by cases z))] at h2; exact h2, e0, dd, us, e1, e2, f1, f2.weak w⟩
  · exact E.dis i j a b c ds es e f (by rw [same (nv e (fun z => by cases z))]; exact e') (by rw [same (nv f (fun z => by cases z))]; exact f')
/-- more is held -/
def Cn.hold (C : Cn) (l : List (D × V)) : Cn := { C with held := l ++ C.held }
theorem EnvOK.hold {l : List (D × V)} (E : EnvOK K ts C Γ σ H) (h : ∀ p ∈ l, Rep K H (Av C Γ σ) p.1 p.2) : EnvOK K ts (C.hold l) Γ σ H :=
  ⟨E.len, E.fz, E.ow, E.ex, E.dis, E.nz, E.fr, E.fo, E.z, fun p hp => (List.mem_append.mp hp).elim (h p) (E.hd p), E.gz.of rfl rfl rfl (fun _ z => z), E.oo⟩
theorem EnvOK.unhold {l : List (D × V)} (E : EnvOK K ts (C.hold l) Γ σ H) : EnvOK K ts C Γ σ H ∧ ∀ p ∈ l, Rep K H (Av C Γ σ) p.1 p.2 :=
  ⟨⟨E.len, E.fz, E.ow, E.ex, E.dis, E.nz, E.fr, E.fo, E.z, fun p hp => E.hd p (List.mem_append_right _ hp), E.gz.of rfl rfl rfl (fun _ z => z), E.oo⟩, fun p hp => E.hd p (List.mem_append_left _ hp)⟩
theorem VOK.unhold {l : List (D × V)} {val : Vl} {v : V} (h : VOK K ts (C.hold l) Γ σ H val v) : VOK K ts C Γ σ H val v := by
  cases val with
  | fz d => exact h
  | bw i => exact h
  | ow ds =>
    obtain ⟨p, xs, e, h1, h2, h3, h4, h5⟩ := h
    exact ⟨p, xs, e, h1, h2, (EnvOK.unhold (C := C.z1 p) (l := l) h3).1, h4, h5⟩
theorem PostS.hold {W : WX} {Dn : Ends} {l : List (D × V)} {o : Out Fl} (h : PostS K ts C W Dn o) : PostS K ts (C.hold l) W Dn o := by
  have go : ∀ {C' : Cn}, Ext (C.hold l) C' → ∃ C2, C' = C2.hold l ∧ Ext C C2 := fun {C'} x => by
    obtain ⟨h0, m, z, hl, pin, gh⟩ := C'
    exact ⟨⟨h0, m, z, C.held, pin, gh⟩, by show Cn.mk h0 m z hl pin gh = Cn.mk h0 m z (l ++ C.held) pin gh; rw [show hl = l ++ C.held from x.hl], ⟨x.h0, x.m, rfl, x.pin, x.z⟩⟩
  cases o with
  | no => exact h
  | ok f Γ' =>
    cases f with
    | nx => exact fun C' σ' H' x E => by obtain ⟨C2, rfl, y⟩ := go x; exact h C2 σ' H' y E.unhold.1
    | bk => exact fun C' σ' H' x E => by obtain ⟨C2, rfl, y⟩ := go x; exact h C2 σ' H' y E.unhold.1
    | ct => exact fun C' σ' H' x E => by obtain ⟨C2, rfl, y⟩ := go x; exact h C2 σ' H' y E.unhold.1
    | rt val => exact fun C' v σ' H' x E hv => by obtain ⟨C2, rfl, y⟩ := go x; exact h C2 v σ' H' y E.unhold.1 hv.unhold
  | rz e Γ' => exact fun C' cls d σ' H' x E hx => by obtain ⟨C2, rfl, y⟩ := go x; exact h C2 cls d σ' H' y E.unhold.1 hx
theorem EnvOK.trk (E : EnvOK K ts C Γ σ H) : ∀ a, Av C Γ σ a → ∃ u, H a = some u := fun a z => by
  rcases z with ⟨i, b, ds, h1, h2⟩ | z
  · obtain ⟨c, xs, e1, e2, _⟩ := E.ow i b ds h1
    rw [h2] at e1; cases e1
    exact ⟨_, e2⟩
  · obtain ⟨xs, e⟩ := E.z a z
    exact ⟨_, e⟩
theorem tb_all {t : Tb ts.l H} (k : ∀ b u, H b = some u → H' b = some u) : Tb ts.l H' := fun P hP => by
  obtain ⟨ps, e, r⟩ := t P hP
  exact ⟨ps, k _ _ e, r⟩
/-- the list of another's at p changes -/
theorem EnvOK.mutZ {p : Addr} {xs xs' : List V} (E : EnvOK K ts (C.z1 p) Γ σ H) (hg : GhOK C) (hz : ¬ C.Z p) (hf : Fre C p) (hp : H p = some (.lst xs)) : EnvOK K ts (C.z1 p) Γ σ (upd H p (.lst xs')) ∧ St2 (Av (C.z1 p) Γ σ) H (Av (C.z1 p) Γ σ) (upd H p (.lst xs')) := by
  have pz : Av (C.z1 p) Γ σ p := .inr (.inr rfl)
  have g : St2 (Av (C.z1 p) Γ σ) H (Av (C.z1 p) Γ σ) (upd H p (.lst xs')) := ⟨fun b u hb e _ => by rw [upd_ne (fun z => hb (by rw [z]; exact pz))]; exact e, fun a z => .inl z⟩
  have tb : Tb ts.l (upd H p (.lst xs')) := (Nx.put (ms := [p]) E.tb hp (fun ps z => by cases z) (by simp)).tab
  refine ⟨⟨E.len, fun i d e => ?_, fun i b ds e => ?_, fun i c fs e => ?_, E.dis, E.nz, E.fr.step tb fun b u hb e n e1 => ?_, E.fo, fun a z => ?_, fun q hq => (E.hd q hq).go g, E.gz, E.oo.go rfl g (fun j dss e => ⟨e, rfl⟩) fun i' a' bs x xs q m e => by rw [upd_ne (fun z => hz (by rw [← z]; exact (hg.z i' a' bs x q m).1))]; exact e⟩, g⟩
  · obtain ⟨v, h1, h2⟩ := E.fz i d e
    exact ⟨v, h1, h2.go g⟩
  · obtain ⟨a, ys, h1, h2, h3, h4⟩ := E.ow i b ds e
    refine ⟨a, ys, h1, ?_, h3.go g, h4⟩
    rw [upd_ne (fun z => E.nz a ⟨i, b, ds, e, h1⟩ (.inr z))]
    exact h2
  · obtain ⟨q, h1, h2, h3⟩ := E.ex i c fs e
    exact ⟨q, h1, h2, h3.go g fun dd vs _ e2 => E.notAv e2 (fun xs z => by cases z)⟩
  · rw [upd_ne (fun z => ?_)]
    · exact e1
    · rcases hf with q | q
      · exact hb (by rw [z]; exact q)
      · obtain ⟨ps, e2⟩ := q u (by rw [← z]; exact e)
        exact n ps e2
  · by_cases ha : a = p
    · exact ⟨xs', by rw [ha, upd_same]⟩
    · rw [upd_ne ha]; exact E.z a z
end
/-! ### targets -/
structure SG (X : Cx) (tg : Expr) (vs : List Nat) (g : D → EV → Option EV) : Prop where
  ex : ∃ t : TG, PG X tg t ∧ ∀ (ts : Tsx) (C : Cn) (Γ : EV) (σ : L2.St) (H : Hp) (d : D) (v : V) (Γ' : EV) (Q : L2.St → Hp → Prop), EnvOK X.K ts C Γ σ H → Rep X.K H (Av C Γ σ) d v → g d Γ = some Γ' →
    (∀ σ', EnvOK X.K ts C Γ' σ' H → (∀ a, Own Γ' σ' a → Own Γ σ a) → wipe σ' vs = wipe σ vs → Q σ' H) → t v σ H Q
structure SGs (X : Cx) (tgs : List Expr) (vs : List Nat) (g : List D → EV → Option EV) : Prop where
  ex : ∃ t : TGs, PGs X tgs t ∧ ∀ (ts : Tsx) (C : Cn) (Γ : EV) (σ : L2.St) (H : Hp) (ds : List D) (us : List V) (Γ' : EV) (Q : L2.St → Hp → Prop), EnvOK X.K ts C Γ σ H → Reps X.K H (Av C Γ σ) ds us → g ds Γ = some Γ' →
    (∀ σ', EnvOK X.K ts C Γ' σ' H → (∀ a, Own Γ' σ' a → Own Γ σ a) → wipe σ' vs = wipe σ vs → Q σ' H) → t us σ H Q
def gN (i : Nat) (d : D) (Γ : EV) : Option EV := if freeAt Γ i = true then some (Γ.set i (.fz d)) else none
theorem own_put {Γ : EV} {σ : L2.St} {i : Nat} {d : D} {o : Option V} (h : i < Γ.length) : ∀ a, Own (Γ.set i (.fz d)) (σ.set i o) a → Own Γ σ a := fun a ⟨j, bb, es, h1, h2⟩ => by
  by_cases hj : j = i
  · subst hj
    rw [List.getElem?_set_self h] at h1; cases h1
  · rw [List.getElem?_set_ne (Ne.symm hj)] at h1 h2
    exact ⟨j, bb, es, h1, h2⟩
section
variable {ts : Tsx} {X : Cx} {W : WX} {tg e : Expr} {es : List Expr} {m : ME} {pos : Pos} {vs us : List Nat}
theorem sg_name {i : Nat} {x : Str} (hN : X.N.Nodup) (hi : X.N[i]? = some x) (hx : L2.Loc X.env.scope x) (hf : X.fn x = true ∨ X.env.scope.names.lookup x = some .local := by first | exact .inl rfl | exact .inr rfl | assumption) : SG X (.Name x pos) [i] (gN i) := by
  refine ⟨_, pg_name hN hi hx hf, fun ts C Γ σ H d v Γ' Q E r e q => ?_⟩
  unfold gN at e
  split at e
  · rename_i hf
    cases e
    obtain ⟨h1, h2⟩ := free_not hf
    exact q _ (E.put r h1) (own_put h2) (wipe_set _ _ _)
  · cases e
def gsN : List D → EV → Option EV
  | [], Γ => some Γ
  | _ :: _, _ => none
def gsC (g : D → EV → Option EV) (k : List D → EV → Option EV) : List D → EV → Option EV
  | d :: ds, Γ => (g d Γ).bind (k ds)
  | [], _ => none
theorem sgs_nil : SGs X [] [] gsN := by
  refine ⟨_, pgs_nil, fun ts C Γ σ H ds us Γ' Q E r e q => ?_⟩
  cases ds with
  | nil =>
    cases e
    exact ⟨Reps.nil_iff.mp r, q σ E (fun _ z => z) rfl⟩
  | cons d ds => cases e
theorem sgs_cons {g : D → EV → Option EV} {k : List D → EV → Option EV} (h1 : SG X tg vs g) (h2 : SGs X es us k) (hs : (assignEach (tg :: es) X.env).map (·.2) = assign tg X.env :: (assignEach es X.env).map (·.2) := by rfl) : SGs X (tg :: es) (vs ++ us) (gsC g k) := by
  obtain ⟨t, p, s⟩ := h1
  obtain ⟨u, q, r⟩ := h2
  refine ⟨_, pgs_cons p q hs, fun ts C Γ σ H ds xs Γ' Q E rp e k => ?_⟩
  cases ds with
  | nil => cases e
  | cons d ds =>
    obtain ⟨Γ1, e1, e2⟩ := Option.bind_eq_some_iff.mp e
    obtain ⟨x, xr, rfl, r1, r2⟩ := Reps.cons_iff.mp rp
    refine ⟨x, xr, rfl, s ts C Γ σ H d x Γ1 _ E r1 e1 fun σ1 E1 o1 w1 => ?_⟩
    refine r ts C Γ1 σ1 H ds xr Γ' _ E1 (r2.weak fun a z => z.elim (fun z => .inl (o1 a z)) .inr) e2 fun σ2 E2 o2 w2 => k σ2 E2 (fun a z => o1 a (o2 a z)) ?_
    rw [wipe_append, w2, wipe_comm, w1, wipe_comm, ← wipe_append]
def gT (n : Nat) (k : List D → EV → Option EV) : D → EV → Option EV
  | .tup ds, Γ => if ds.length = n then k ds Γ else none
  | _, _ => none
theorem sg_tup {n : Nat} {k : List D → EV → Option EV} {kk : Nat} (hc : X.calm = true) (h : SGs X es vs k) (hn : (assignEach es X.env).length = n := by rfl) (hst : (assignEach es X.env).findIdx? (·.1) = none := by rfl) : SG X (.Tuple es kk pos) vs (gT n k) := by
  obtain ⟨t, p, s⟩ := h
  refine ⟨_, pg_tup hc p hn hst, fun ts C Γ σ H d v Γ' Q E r e q => ?_⟩
  unfold gT at e
  split at e
  · split at e
    · rename_i hl
      obtain ⟨a, xs, rfl, h1, h2⟩ := r.pk.tup
      exact ⟨a, xs, rfl, h1, by rw [← h2.length]; exact hl, s ts C Γ σ H _ xs Γ' Q E h2 e q⟩
    · cases e
  · cases e
/-- target = value -/
def mAsg (g : D → EV → Option EV) (m : ME) : MS := fun Γ => (m Γ).bind fun v Γ1 => match (cool Γ1 v.op).bind fun p => g p.1 p.2 with
  | some Γ2 => .ok .nx Γ2
  | none => .no
theorem s1_asg {g : D → EV → Option EV} (he : SE ts X W e m) (hg : SG X tg vs g) (hs : swapsWithSole [tg] e pos.line X.env = pure false := by rfl) (hw : swappedStores [tg] e X.env = pure none := by rfl)
    (h1 : (assignEach [tg] X.env).map (·.2) = [assign tg X.env] := by rfl) : S1 ts X W (.Assign [tg] e pos) (mAsg g m) := by
  obtain ⟨t, p, s⟩ := he
  obtain ⟨u, q, r⟩ := hg
  refine ⟨_, ps_asg p q hs hw h1, fun C Γ σ H D E h => s C Γ σ H _ E (PostS.bind h fun v Γ1 x H1 E1 g1 v1 k1 => ?_)⟩
  split at k1
  · rename_i Γ2 e1
    obtain ⟨⟨d, Γ3⟩, e2, e3⟩ := Option.bind_eq_some_iff.mp e1
    obtain ⟨E2, g2, r2⟩ := (v1.op).cool E1 e2
    exact r ts C Γ3 σ H1 d x Γ2 _ E2 r2 e3 fun σ' E' _ _ => k1 C σ' H1 Ext.refl E'
  · exact k1.elim
/-! ### for -/
def forL (g : D → EV → Option EV) (b : MS) : List D → MS
  | [] => fun Γ => .ok .nx Γ
  | d :: ds => fun Γ => match g d Γ with
    | none => .no
    | some Γ1 => match b Γ1 with
      | .ok .nx Γ2 => forL g b ds Γ2
      | .ok .ct Γ2 => forL g b ds Γ2
      | .ok .bk Γ2 => .ok .nx Γ2
      | o => o
def mFor (mi : MI) (g : D → EV → Option EV) (b : MS) : MS := fun Γ => (mi Γ).bind fun items Γ1 => forL g b items Γ1
theorem s1_for {iter : Expr} {body : List Stmt} {mi : MI} {g : D → EV → Option EV} {n : MS} (hp : PassesOwn (model X.prog X.w) X.A X.env X.xe) (hc : X.calm = true) (hi : SI ts X W tg iter mi) (hg : SG X tg vs g) (hb : SB ts X W body n)
    (hs : ∀ x, foldedSetIterable iter X.env x = pure x := by intro _; rfl) : S1 ts X W (.For tg iter body [] pos) (mFor mi g n) := by
  obtain ⟨ti, pi, si⟩ := hi
  obtain ⟨tt, pg, sg⟩ := hg
  obtain ⟨tb, pb, sb⟩ := hb
  refine ⟨_, ps_for hp hc pi pg pb hs, fun C Γ σ H D E h => si C Γ σ H _ E (PostS.bind h fun items Γ1 J H1 E1 g1 v1 h1 => ?_)⟩
  obtain ⟨held, hh, ok⟩ := v1
  refine ⟨fun i k σ H => k = items.length - i ∧ i ≤ items.length ∧ ∃ C' Γ, C'.held = held ++ C.held ∧ EnvOK X.K ts C' Γ σ H ∧ PostS X.K ts C' W D (forL g n (items.drop i) Γ), ⟨_, rfl, Nat.zero_le _, C.hold held, Γ1, rfl, E1.hold hh, PostS.hold h1⟩, ?_⟩
  rintro i k σ H ⟨rfl, hi, C', Γ, hl, E, h⟩
  have hh : ∀ {H : Hp} {Γ : EV} {σ : L2.St}, EnvOK X.K ts C' Γ σ H → ∀ p ∈ held, Rep X.K H (Av C' Γ σ) p.1 p.2 := fun E p hp => E.hd p (by rw [hl]; exact List.mem_append_left _ hp)
  by_cases hlt : i < items.length
  · refine .inr ⟨ok.go i _ H _ (List.getElem?_eq_getElem hlt) (hh E), fun σ H => i + 1 ≤ items.length ∧ ∃ C' Γ, C'.held = held ++ C.held ∧ EnvOK X.K ts C' Γ σ H ∧ PostS X.K ts C' W D (forL g n (items.drop (i + 1)) Γ), fun σ' H' w => ⟨items.length - (i + 1), by omega, rfl, w⟩, fun x H' hy => ?_⟩
    obtain ⟨k1, r1⟩ := ok.yld i _ H _ x H' (List.getElem?_eq_getElem hlt) (hh E) E.trk hy
    have E2 : EnvOK X.K ts C' Γ σ H' := E.more (tb_all (t := E.tb) k1) (fun b u e _ => k1 b u e)
    rw [List.drop_eq_getElem_cons hlt] at h
    unfold forL at h
    split at h
    · exact h.elim
    · rename_i Γ2 e2
      refine sg ts C' Γ σ H' _ x Γ2 _ E2 r1 e2 fun σ2 E3 _ _ => sb C' Γ2 σ2 H' _ E3 ?_
      cases e3 : n Γ2 with
      | no => rw [e3] at h; exact h
      | ok f Γ3 =>
        rw [e3] at h
        cases f with
        | nx => exact fun C2 σ' H' x E' => ⟨hlt, C2, Γ3, x.hl.trans hl, E', PostS.ext x h⟩
        | ct => exact fun C2 σ' H' x E' => ⟨hlt, C2, Γ3, x.hl.trans hl, E', PostS.ext x h⟩
        | bk => exact h
        | rt v => exact h
      | rz x Γ3 => rw [e3] at h; exact h
  · have e : i = items.length := by omega
    subst e
    rw [List.drop_length] at h
    exact .inl ⟨ok.stop H _ (hh E), h C' σ H Ext.refl E⟩
end
end SX

set_option Elab.async false
set_option linter.all false
set_option maxRecDepth 100000
set_option maxHeartbeats 4000000
namespace SX
open PySem PySem.Spec PyProof.Rows L2 L2H XT GX RD GenW GxR
/-- where nothing may be raised -/
def Out.nr {α : Type} : Out α → Out α
  | .rz _ _ => .no
  | o => o
@[simp] theorem Out.nr_ok {α : Type} (a : α) (Γ : EV) : (Out.ok a Γ).nr = .ok a Γ := rfl
@[simp] theorem Out.nr_no {α : Type} : (Out.no : Out α).nr = .no := rfl
theorem Post.bindN {K : PySem.W.Frag} {ts : Tsx} {C : Cn} {W W2 : WX} {σ σ' : L2.St} {Γ Γ0 : EV} {H H0 : Hp} {α β γ δ : Type} {R : EV → Hp → α → β → Prop} {R' : EV → Hp → γ → δ → Prop} {Q : β → Hp → Prop} {Q' : δ → Hp → Prop} {m : Out α} {f : α → EV → Out γ}
    (h : Post K ts C W σ' Γ0 H0 R' Q' (m.nr.bind f)) (k : ∀ a Γ1 b H1, EnvOK K ts C Γ1 σ H1 → Go C Γ σ H Γ1 H1 → R Γ1 H1 a b → Post K ts C W σ' Γ0 H0 R' Q' (f a Γ1) → Q b H1) : Post K ts C W2 σ Γ H R Q m := by
  cases m with
  | no => exact h
  | ok a Γ1 => exact fun b H1 e g r => k a Γ1 b H1 e g r h
  | rz x Γ' => exact h.elim
theorem Post.hold {K : PySem.W.Frag} {ts : Tsx} {C : Cn} {W : WX} {σ : L2.St} {Γ : EV} {H : Hp} {Q : VK} {l : List (D × V)} {o : Out Vl} (h : Post K ts C W σ Γ H (RE K ts C σ) Q o) : Post K ts (C.hold l) W σ Γ H (RE K ts (C.hold l) σ) Q o := by
  cases o with
  | no => exact h
  | ok val Γ' => exact fun v H' E g hv => h v H' E.unhold.1 ⟨g.keep, g.sub, g.ix⟩ hv.unhold
  | rz x Γ' => exact fun cls d H' E hx => h cls d H' E.unhold.1 hx
abbrev WF : WX := fun _ _ _ _ => False
/-- what a loop of a comprehension keeps of the frame at its beginning -/
structure Gw (Γ : EV) (σ : L2.St) (H : Hp) (Γ' : EV) (σ' : L2.St) (H' : Hp) : Prop where
  keep : ∀ b u, ¬ Own Γ σ b → H b = some u → (∀ ps, u ≠ .tbl ps) → H' b = some u
  sub : ∀ a, Own Γ' σ' a → Own Γ σ a
  ix : ∀ (i : Nat) (b : Bool) (ds : List D), Γ'[i]? = some (Sl.ow b ds) → ∃ (es : List D), Γ[i]? = some (Sl.ow b es)
theorem gN_ix {i : Nat} {d : D} {Γ Γ' : EV} (h : gN i d Γ = some Γ') : ∀ (j : Nat) (b : Bool) (ds : List D), Γ'[j]? = some (Sl.ow b ds) → Γ[j]? = some (Sl.ow b ds) := by
  unfold gN at h
  split at h
  · cases h
    intro j b ds e
    rw [List.getElem?_set] at e
    split at e
    · split at e <;> cases e
    · exact e
  · cases h
/-- a target touches no list -/
def IxOK (g : D → EV → Option EV) : Prop := ∀ d Γ Γ', g d Γ = some Γ' → ∀ (j : Nat) (b : Bool) (ds : List D), Γ'[j]? = some (Sl.ow b ds) → Γ[j]? = some (Sl.ow b ds)
theorem ix_name (i : Nat) : IxOK (gN i) := fun d Γ Γ' h => gN_ix h
def IxsOK (g : List D → EV → Option EV) : Prop := ∀ d Γ Γ', g d Γ = some Γ' → ∀ (j : Nat) (b : Bool) (ds : List D), Γ'[j]? = some (Sl.ow b ds) → Γ[j]? = some (Sl.ow b ds)
theorem ixs_nil : IxsOK gsN := fun d Γ Γ' h => by
  cases d with
  | nil => cases h; exact fun _ _ _ e => e
  | cons a b => cases h
theorem ixs_cons {g : D → EV → Option EV} {k : List D → EV → Option EV} (h1 : IxOK g) (h2 : IxsOK k) : IxsOK (gsC g k) := fun d Γ Γ' h => by
  cases d with
  | nil => cases h
  | cons a b =>
    obtain ⟨Γ1, e1, e2⟩ := Option.bind_eq_some_iff.mp h
    exact fun j bb ds e => h1 _ _ _ e1 j bb ds (h2 _ _ _ e2 j bb ds e)
theorem ix_tup {n : Nat} {k : List D → EV → Option EV} (h : IxsOK k) : IxOK (gT n k) := fun d Γ Γ' e => by
  unfold gT at e
  split at e
  · split at e
    · exact h _ _ _ e
    · cases e
  · cases e
section
variable {ts : Tsx} {X : Cx} {W : WX} {tg iter elt : Expr} {pos : Pos} {vs : List Nat}
/-! ### list comprehensions -/
def lcL (g : D → EV → Option EV) (mt : MT) (me : ME) (vs : List Nat) : List D → List D → EV → Out Vl
  | [], acc, Γ => .ok (.ow acc) Γ
  | d :: ds, acc, Γ => match g d Γ with
    | none => .no
    | some Γ2 => (mt Γ2).nr.bind fun b Γ3 => if b = true then (me Γ3).nr.bind fun v Γ4 => match cool Γ4 v.op with
        | some (y, Γ5) => if acc.length < sizeLine then lcL g mt me vs ds (acc ++ [y]) (wipeE Γ5 vs) else .no
        | none => .no
      else lcL g mt me vs ds acc (wipeE Γ3 vs)
def mLc (mi : MI) (g : D → EV → Option EV) (mt : MT) (me : ME) (vs : List Nat) : ME := fun Γ => (mi Γ).bind fun items Γ1 => lcL g mt me vs items [] (wipeE Γ1 vs)
theorem wipeE_no (Γ : EV) (vs : List Nat) : ∀ k ∈ vs, (wipeE Γ vs)[k]? = some Sl.no ∨ (wipeE Γ vs)[k]? = none := fun k hk => wipeE_get Γ vs k hk
theorem lc_sim {C : Cn} {Γ1 : EV} {σ : L2.St} {H1 : Hp} {Q : VK} {items : List D} {held : List (D × V)} {J : It} {g : D → EV → Option EV} {mt : MT} {me : ME} {tt : TT} {te : TE} {tg' : TG} {Dl : Addr}
    (sg : ∀ (ts : Tsx) (C : Cn) (Γ : EV) (σ : L2.St) (H : Hp) (d : D) (v : V) (Γ' : EV) (Q : L2.St → Hp → Prop), EnvOK X.K ts C Γ σ H → Rep X.K H (Av C Γ σ) d v → g d Γ = some Γ' →
      (∀ σ', EnvOK X.K ts C Γ' σ' H → (∀ a, Own Γ' σ' a → Own Γ σ a) → wipe σ' vs = wipe σ vs → Q σ' H) → tg' v σ H Q) (gx : IxOK g)
    (st : ∀ (C : Cn) (Γ : EV) (σ : L2.St) (H : Hp) (Q : Bool → Hp → Prop), EnvOK X.K ts C Γ σ H → Post X.K ts C WF σ Γ H RQ Q (mt Γ) → tt σ H Q)
    (se : ∀ (C : Cn) (Γ : EV) (σ : L2.St) (H : Hp) (Q : VK), EnvOK X.K ts C Γ σ H → Post X.K ts C WF σ Γ H (RE X.K ts C σ) Q (me Γ) → te σ H Q)
    (E1 : EnvOK X.K ts C Γ1 σ H1) (hh : ∀ p ∈ held, Rep X.K H1 (Av C Γ1 σ) p.1 p.2) (ok : ItOK X.K items held J) (hD : H1 Dl = none)
    (h : Post X.K ts C W σ Γ1 H1 (RE X.K ts C σ) Q (lcL g mt me vs items [] (wipeE Γ1 vs))) :
    ∃ Wl : Nat → Nat → Hp → Prop, (∃ m, Wl 0 m (upd H1 Dl (.lst []))) ∧ ∀ i m H, Wl i m H →
      (J.stop i H ∧ Q (.ref Dl) H) ∨ (J.go i H ∧ ∃ Nx : Hp → Prop, (∀ H', Nx H' → ∃ m', m' < m ∧ Wl (i + 1) m' H') ∧ ∀ x H', J.yld i H x H' → tg' x (wipe σ vs) H' fun σ2 H2 => wipe σ2 vs = wipe σ vs ∧ tt σ2 H2 fun b H3 =>
        if b = true then te σ2 H3 fun y H4 => ∃ acc, H4 Dl = some (.lst acc) ∧ acc.length < sizeLine ∧ Nx (upd H4 Dl (.lst (acc ++ [y]))) else Nx H3) := by
  have fD := E1.fresh hD
  refine ⟨fun i k H => k = items.length - i ∧ i ≤ items.length ∧ ∃ Γ acc xs, EnvOK X.K ts ((C.hold held).z1 Dl) Γ (wipe σ vs) H ∧ (∀ k ∈ vs, Γ[k]? = some Sl.no ∨ Γ[k]? = none) ∧ H Dl = some (.lst xs) ∧
    Reps X.K H (Av ((C.hold held).z1 Dl) Γ (wipe σ vs)) acc xs ∧ Gw Γ1 σ H1 Γ (wipe σ vs) H ∧ Post X.K ts C W σ Γ1 H1 (RE X.K ts C σ) Q (lcL g mt me vs (items.drop i) acc Γ),
    ⟨_, rfl, Nat.zero_le _, wipeE Γ1 vs, [], [], ((E1.hold hh).wipe vs).zed hD, wipeE_no Γ1 vs, upd_same, Reps.nil_iff.mpr rfl, ⟨fun b u _ e n => keep_new hD b u e n, fun a z => own_wipe z, fun i b ds e => ⟨ds, wipeE_ow e⟩⟩, h⟩, ?_⟩
  rintro i k H ⟨rfl, hi, Γ, acc, xs, E, hno, hDl, racc, gw, h⟩
  have Eh : EnvOK X.K ts (C.hold held) Γ (wipe σ vs) H := E.unz (E1.gz.of rfl rfl rfl (fun _ z => z))
  by_cases hlt : i < items.length
  · refine .inr ⟨ok.go i _ H _ (List.getElem?_eq_getElem hlt) Eh.unhold.2, fun H => i + 1 ≤ items.length ∧ ∃ Γ acc xs, EnvOK X.K ts ((C.hold held).z1 Dl) Γ (wipe σ vs) H ∧ (∀ k ∈ vs, Γ[k]? = some Sl.no ∨ Γ[k]? = none) ∧ H Dl = some (.lst xs) ∧
      Reps X.K H (Av ((C.hold held).z1 Dl) Γ (wipe σ vs)) acc xs ∧ Gw Γ1 σ H1 Γ (wipe σ vs) H ∧ Post X.K ts C W σ Γ1 H1 (RE X.K ts C σ) Q (lcL g mt me vs (items.drop (i + 1)) acc Γ), fun H' w => ⟨items.length - (i + 1), by omega, rfl, w⟩, fun x H' hy => ?_⟩
    obtain ⟨k1, r1⟩ := ok.yld i _ H (Av ((C.hold held).z1 Dl) Γ (wipe σ vs)) x H' (List.getElem?_eq_getElem hlt) (fun p hp => (E.hd p (List.mem_append_left _ hp))) E.trk hy
    have E2 : EnvOK X.K ts ((C.hold held).z1 Dl) Γ (wipe σ vs) H' := E.more (tb_all (t := E.tb) k1) (fun b u e _ => k1 b u e)
    rw [List.drop_eq_getElem_cons hlt] at h
    unfold lcL at h
    split at h
    · exact h.elim
    · rename_i Γ2 e2
      refine sg ts ((C.hold held).z1 Dl) Γ (wipe σ vs) H' _ x Γ2 _ E2 r1 e2 fun σ2 E3 o3 w3 => ⟨by rw [w3, wipe_wipe], ?_⟩
      have racc3 : Reps X.K H' (Av ((C.hold held).z1 Dl) Γ2 σ2) acc xs := racc.go ⟨fun b u _ e _ => k1 b u e, fun a z => .inl (z.elim (fun z => .inl (o3 a z)) .inr)⟩
      have w3' : wipe σ2 vs = wipe σ vs := by rw [w3, wipe_wipe]
      refine st ((C.hold held).z1 Dl) Γ2 σ2 H' _ E3 ?_
      -- the test
      cases e4 : mt Γ2 with
      | no => rw [e4] at h; exact h
      | rz x Γ' => rw [e4] at h; exact h.elim
      | ok b Γ3 =>
        rw [e4] at h
        have h : Post X.K ts C W σ Γ1 H1 (RE X.K ts C σ) Q (if b = true then (me Γ3).nr.bind fun v Γ4 => match cool Γ4 v.op with
          | some (y, Γ5) => if acc.length < sizeLine then lcL g mt me vs (items.drop (i + 1)) (acc ++ [y]) (wipeE Γ5 vs) else .no
          | none => .no
          else lcL g mt me vs (items.drop (i + 1)) acc (wipeE Γ3 vs)) := h
        intro b' H3 E4 g4 eb
        obtain rfl : b = b' := eb
        cases b with
        | false =>
          rw [if_neg (by decide)]
          rw [if_neg (by decide)] at h
          have E5 := E4.wipe vs
          rw [w3'] at E5
          have hz3 : H3 Dl = some (.lst xs) := g4.keep Dl _ (fun z => E3.nz Dl z (.inr rfl)) (k1 _ _ hDl) (fun ps z => by cases z)
          refine ⟨hlt, wipeE Γ3 vs, acc, xs, E5, wipeE_no _ _, hz3, (g4.reps racc3).weak fun a z => ?_, ⟨fun b u hb e n => ?_, fun a z => ?_, fun j b ds e => ?_⟩, h⟩
          · rcases z with z | z
            · rw [← w3'] at z
              exact .inl (own_wipe z)
            · exact .inr z
          · have hg := gw.keep b u hb e n
            exact g4.keep b u (fun z => hb (gw.sub b (o3 b z))) (k1 b u hg) n
          · rw [← w3'] at z
            exact gw.sub a (o3 a (g4.sub a (own_wipe z)))
          · obtain ⟨es, e⟩ := g4.ix j b ds (wipeE_ow e)
            exact gw.ix j b es (gx _ _ _ e2 j b es e)
        | true =>
          rw [if_pos rfl]
          rw [if_pos rfl] at h
          refine se ((C.hold held).z1 Dl) Γ3 σ2 H3 _ E4 ?_
          cases e5 : me Γ3 with
          | no => rw [e5] at h; exact h
          | rz x Γ' => rw [e5] at h; exact h.elim
          | ok val Γ4 =>
            rw [e5] at h
            have h : Post X.K ts C W σ Γ1 H1 (RE X.K ts C σ) Q (match cool Γ4 val.op with
              | some (y, Γ5) => if acc.length < sizeLine then lcL g mt me vs (items.drop (i + 1)) (acc ++ [y]) (wipeE Γ5 vs) else .no
              | none => .no) := h
            intro y H4 E5 g5 vy
            split at h
            · rename_i yd Γ5 e6
              split at h
              · rename_i hl
                obtain ⟨E6, g6, r6⟩ := vy.op.cool E5 e6
                have gt := g4.trans (g5.trans g6)
                have hz4 : H4 Dl = some (.lst xs) := gt.keep Dl _ (fun z => E3.nz Dl z (.inr rfl)) (k1 _ _ hDl) (fun ps z => by cases z)
                have racc6 := gt.reps racc3
                obtain ⟨E7, g7⟩ := E6.mutZ (xs' := xs ++ [y]) (E1.gz.of rfl rfl rfl (fun _ z => z)) (fun z => fD.1 (.inr z)) fD.2 hz4
                have E8 := E7.wipe vs
                rw [w3'] at E8
                refine ⟨xs, hz4, by rw [← racc6.length]; exact hl, hlt, wipeE Γ5 vs, acc ++ [yd], xs ++ [y], E8, wipeE_no _ _, upd_same, ?_, ⟨fun b u hb e n => ?_, fun a z => ?_, fun j b ds e => ?_⟩, h⟩
                · refine ((racc6.snoc r6).go g7).weak fun a z => ?_
                  rcases z with z | z
                  · rw [← w3'] at z
                    exact .inl (own_wipe z)
                  · exact .inr z
                · have hg := gw.keep b u hb e n
                  have hg2 := gt.keep b u (fun z => hb (gw.sub b (o3 b z))) (k1 b u hg) n
                  rw [upd_ne (ne_of_none e hD)]
                  exact hg2
                · rw [← w3'] at z
                  exact gw.sub a (o3 a (gt.sub a (own_wipe z)))
                · obtain ⟨es, e⟩ := gt.ix j b ds (wipeE_ow e)
                  exact gw.ix j b es (gx _ _ _ e2 j b es e)
              · exact h.elim
            · exact h.elim
  · have e : i = items.length := by omega
    subst e
    rw [List.drop_length] at h
    refine .inl ⟨ok.stop H _ Eh.unhold.2, ?_⟩
    have h : ∀ (b : V) (H' : Hp), EnvOK X.K ts C Γ σ H' → Go C Γ1 σ H1 Γ H' → VOK X.K ts C Γ σ H' (.ow acc) b → Q b H' := h
    obtain ⟨E2, o2⟩ := Eh.unhold.1.unwipe hno
    obtain ⟨E3, o3⟩ := E.unwipe hno
    refine h (.ref Dl) H E2 ⟨gw.keep, fun a z => gw.sub a ((o2 a).mp z), gw.ix⟩ ⟨Dl, xs, rfl, fun z => fD.1 (.inr z), fD.2, ?_, hDl, racc.weak fun a z => ?_⟩
    · exact (EnvOK.unhold (C := C.z1 Dl) (l := held) E3).1
    · rcases z with z | z
      · exact .inl ((o3 a).mp z)
      · exact .inr z
/-! ### the readings that the meanings give -/
def cE (K : PySem.W.Frag) (ts : Tsx) (W : WX) (m : ME) : TE := fun σ H Q => ∃ C Γ, EnvOK K ts C Γ σ H ∧ Post K ts C W σ Γ H (RE K ts C σ) Q (m Γ)
def cT (K : PySem.W.Frag) (ts : Tsx) (W : WX) (m : MT) : TT := fun σ H Q => ∃ C Γ, EnvOK K ts C Γ σ H ∧ Post K ts C W σ Γ H RQ Q (m Γ)
def cG (K : PySem.W.Frag) (vs : List Nat) (g : D → EV → Option EV) : TG := fun v σ H Q => ∃ ts C Γ d Γ', EnvOK K ts C Γ σ H ∧ Rep K H (Av C Γ σ) d v ∧ g d Γ = some Γ' ∧ ∀ σ', EnvOK K ts C Γ' σ' H → (∀ a, Own Γ' σ' a → Own Γ σ a) → wipe σ' vs = wipe σ vs → Q σ' H
theorem SE.pe {e : Expr} {m : ME} (h : SE ts X W e m) : PE X e (cE X.K ts W m) := by
  obtain ⟨t, p, s⟩ := h
  exact ⟨fun pins s0 σ H Q I ⟨C, Γ, E, hp⟩ => p.run pins s0 σ H Q I (s C Γ σ H Q E hp)⟩
theorem SG.pg {vs : List Nat} {tg : Expr} {g : D → EV → Option EV} (h : SG X tg vs g) : PG X tg (cG X.K vs g) := by
  obtain ⟨t, p, s⟩ := h
  exact ⟨fun pins s0 σ H v u Q I r ⟨ts, C, Γ, d, Γ', E, rp, e, q⟩ => p.run pins s0 σ H v u Q I r (s ts C Γ σ H d v Γ' Q E rp e q)⟩
structure SF (ts : Tsx) (X : Cx) (W : WX) (es : List Expr) (m : MT) : Prop where
  ex : ∃ t : TT, PTs X es t ∧ ∀ (C : Cn) (Γ : EV) (σ : L2.St) (H : Hp) (Q : Bool → Hp → Prop), EnvOK X.K ts C Γ σ H → Post X.K ts C W σ Γ H RQ Q (m Γ) → t σ H Q
def mYes : MT := fun Γ => .ok true Γ
theorem sf_nil : SF ts X W [] mYes := ⟨_, pts_nil, fun C Γ σ H Q E h => h true H E Go.refl rfl⟩
theorem sf_one {c : Expr} {n : MT} (h : ST ts X W c n) : SF ts X W [c] n := let ⟨t, p, s⟩ := h; ⟨t, pts_one p, s⟩
theorem SF.pt {es : List Expr} {m : MT} (h : SF ts X W es m) : PTs X es (cT X.K ts W m) := by
  obtain ⟨t, p, s⟩ := h
  exact ⟨fun pins s0 σ H Q I ⟨C, Γ, E, hp⟩ => p.run pins s0 σ H Q I (s C Γ σ H Q E hp)⟩
theorem cE_sim {K : PySem.W.Frag} {m : ME} : ∀ (C : Cn) (Γ : EV) (σ : L2.St) (H : Hp) (Q : VK), EnvOK K ts C Γ σ H → Post K ts C W σ Γ H (RE K ts C σ) Q (m Γ) → cE K ts W m σ H Q := fun C Γ σ H Q E h => ⟨C, Γ, E, h⟩
theorem cT_sim {K : PySem.W.Frag} {m : MT} : ∀ (C : Cn) (Γ : EV) (σ : L2.St) (H : Hp) (Q : Bool → Hp → Prop), EnvOK K ts C Γ σ H → Post K ts C W σ Γ H RQ Q (m Γ) → cT K ts W m σ H Q := fun C Γ σ H Q E h => ⟨C, Γ, E, h⟩
theorem cG_sim {K : PySem.W.Frag} {vs : List Nat} {g : D → EV → Option EV} : ∀ (ts : Tsx) (C : Cn) (Γ : EV) (σ : L2.St) (H : Hp) (d : D) (v : V) (Γ' : EV) (Q : L2.St → Hp → Prop), EnvOK K ts C Γ σ H → Rep K H (Av C Γ σ) d v → g d Γ = some Γ' →
      (∀ σ', EnvOK K ts C Γ' σ' H → (∀ a, Own Γ' σ' a → Own Γ σ a) → wipe σ' vs = wipe σ vs → Q σ' H) → cG K vs g v σ H Q := fun ts C Γ σ H d v Γ' Q E r e q => ⟨ts, C, Γ, d, Γ', E, r, e, q⟩
section
variable {own : List (Str × Nat)} {scope : Scope} {mi : MI} {g : D → EV → Option EV} {mt : MT} {me : ME} {ifs : List Expr}
theorem lc_all (hi : ∃ t : TI, PI X tg iter t ∧ ∀ (C : Cn) (Γ : EV) (σ : L2.St) (H : Hp) (R : It → Hp → Prop), EnvOK X.K ts C Γ σ H → Post X.K ts C W σ Γ H (RIt X.K C σ) R (mi Γ) → t σ H R) (gx : IxOK g) :
    ∃ ti, PI X tg iter ti ∧ ∀ (C : Cn) (Γ : EV) (σ : L2.St) (H : Hp) (Q : VK), EnvOK X.K ts C Γ σ H → Post X.K ts C W σ Γ H (RE X.K ts C σ) Q (mLc mi g mt me vs Γ) → tLc ti (cG X.K vs g) (cT X.K ts WF mt) (cE X.K ts WF me) vs σ H Q := by
  obtain ⟨ti, pi, si⟩ := hi
  refine ⟨ti, pi, fun C Γ σ H Q E h => si C Γ σ H _ E (Post.bind h fun items Γ1 J H1 E1 g1 v1 h1 => ?_)⟩
  obtain ⟨held, hh, ok⟩ := v1
  exact fun Dl hD => lc_sim cG_sim gx cT_sim cE_sim E1 hh ok hD h1
theorem se_lc (hc : X.calm = true) (hN : X.N.Nodup) (hi : SI ts X W tg iter mi) (ok : BlkOk X.N X.env.scope scope own) (gx : IxOK g)
    (hg : ∀ (s : Shared) (H : Hp) (C : Addr) (cl : List (Str × Addr)) (fp : List Addr), SG (X.blk s H scope (compEnvC scope cl C X.env) fp) tg (own.map (·.2)) g)
    (ht : ∀ (s : Shared) (H : Hp) (C : Addr) (cl : List (Str × Addr)) (fp : List Addr), SF ts (X.blk s H scope (compEnvC scope cl C X.env) fp) WF ifs mt)
    (he : ∀ (s : Shared) (H : Hp) (C : Addr) (cl : List (Str × Addr)) (fp : List Addr), SE ts (X.blk s H scope (compEnvC scope cl C X.env) fp) WF elt me)
    (hs : ∀ x, foldedSetIterable iter X.env x = pure x := by intro _; rfl) : SE ts X W (.ListComp elt [⟨tg, iter, ifs, 0⟩] scope pos) (mLc mi g mt me (own.map (·.2))) := by
  obtain ⟨ti, pi, si⟩ := lc_all (mt := mt) (me := me) (vs := own.map (·.2)) hi.ex gx
  exact ⟨_, pe_lc hc hN pi ok (fun s H C cl fp => (hg s H C cl fp).pg) (fun s H C cl fp => (ht s H C cl fp).pt) (fun s H C cl fp => (he s H C cl fp).pe) hs, si⟩
theorem s1_setLc {i : Nat} {y : Str} {py spos : Pos} (hc : X.calm = true) (hN : X.N.Nodup) (hy : X.N[i]? = some y) (hyl : X.env.scope.names.lookup y = some .local)
    (hsw : swapsWith (.ListComp elt [⟨tg, iter, ifs, 0⟩] scope pos) (some (.Name y py)) spos.line X.env = pure true) (hi : SI ts X W tg iter mi) (ok : BlkOk X.N X.env.scope scope own) (gx : IxOK g)
    (hg : ∀ (s : Shared) (H : Hp) (C : Addr) (cl : List (Str × Addr)) (fp : List Addr), SG (X.blk s H scope (compEnvC scope cl C X.env) fp) tg (own.map (·.2)) g)
    (ht : ∀ (s : Shared) (H : Hp) (C : Addr) (cl : List (Str × Addr)) (fp : List Addr), SF ts (X.blk s H scope (compEnvC scope cl C X.env) fp) WF ifs mt)
    (he : ∀ (s : Shared) (H : Hp) (C : Addr) (cl : List (Str × Addr)) (fp : List Addr), SE ts (X.blk s H scope (compEnvC scope cl C X.env) fp) WF elt me)
    (hs : ∀ x, foldedSetIterable iter X.env x = pure x := by intro _; rfl) : S1 ts X W (.Assign [.Name y py] (.ListComp elt [⟨tg, iter, ifs, 0⟩] scope pos) spos) (mSet i (mLc mi g mt me (own.map (·.2)))) := by
  obtain ⟨ti, pi, si⟩ := lc_all (mt := mt) (me := me) (vs := own.map (·.2)) hi.ex gx
  exact s1_set_of (ps_setLc hc hN hy hyl hsw pi ok (fun s H C cl fp => (hg s H C cl fp).pg) (fun s H C cl fp => (ht s H C cl fp).pt) (fun s H C cl fp => (he s H C cl fp).pe) hs) si
end
/-! ### generator expressions -/
/-- all(..) -/
def gxAll (stop : Bool) (g : D → EV → Option EV) (mt : MT) (me : ME) (vs : List Nat) : List D → EV → Out Vl
  | [], Γ => .ok (.fz (.bl (!stop))) Γ
  | d :: ds, Γ => match g d Γ with
    | none => .no
    | some Γ2 => (mt Γ2).nr.bind fun b Γ3 => if b = true then (me Γ3).nr.bind fun v Γ4 => match v with
        | .fz (.bl k) => if k = stop then .ok (.fz (.bl stop)) (wipeE Γ4 vs) else gxAll stop g mt me vs ds (wipeE Γ4 vs)
        | _ => .no
      else gxAll stop g mt me vs ds (wipeE Γ3 vs)
def mGAll (stop : Bool) (mi : MI) (g : D → EV → Option EV) (mt : MT) (me : ME) (vs : List Nat) : ME := fun Γ => (mi Γ).bind fun items Γ1 => gxAll stop g mt me vs items (wipeE Γ1 vs)
/-- all that is handed out -/
def gxCol (g : D → EV → Option EV) (mt : MT) (me : ME) (vs : List Nat) : List D → List D → EV → Out (List D)
  | [], acc, Γ => .ok acc Γ
  | d :: ds, acc, Γ => match g d Γ with
    | none => .no
    | some Γ2 => (mt Γ2).nr.bind fun b Γ3 => if b = true then (me Γ3).nr.bind fun v Γ4 => match cool Γ4 v.op with
        | some (y, Γ5) => if acc.length < sizeLine then gxCol g mt me vs ds (acc ++ [y]) (wipeE Γ5 vs) else .no
        | none => .no
      else gxCol g mt me vs ds acc (wipeE Γ3 vs)
section
variable {K : PySem.W.Frag} {C : Cn} {Γ Γ1 : EV} {σ : L2.St} {H H1 H2 : Hp}
theorem EnvOK.tabbed {P : Addr} (E : EnvOK K ts C Γ σ H) (hP : P ∈ ts.l) (h : GxR.Tabbed P H H1) : EnvOK K ts C Γ σ H1 ∧ Go C Γ σ H Γ H1 := by
  have n := Nx.tabbed (ms := []) E.tb hP h
  have k : ∀ b u, H b = some u → (∀ ps, u ≠ .tbl ps) → H1 b = some u := fun b u e q => n.keep b u (by simp) e q
  exact ⟨E.more n.tab k, go_more k⟩
theorem gw_refl (vs : List Nat) : Gw Γ σ H (wipeE Γ vs) (wipe σ vs) H := ⟨fun _ _ _ e _ => e, fun a z => own_wipe z, fun i b ds e => ⟨ds, wipeE_ow e⟩⟩
theorem all_sim {stop : Bool} {Q : VK} {items : List D} {held : List (D × V)} {J : It} {g : D → EV → Option EV} {mt : MT} {me : ME} {tt : TT} {te : TE} {tg' : TG}
    (sg : ∀ (ts : Tsx) (C : Cn) (Γ : EV) (σ : L2.St) (H : Hp) (d : D) (v : V) (Γ' : EV) (Q : L2.St → Hp → Prop), EnvOK K ts C Γ σ H → Rep K H (Av C Γ σ) d v → g d Γ = some Γ' →
      (∀ σ', EnvOK K ts C Γ' σ' H → (∀ a, Own Γ' σ' a → Own Γ σ a) → wipe σ' vs = wipe σ vs → Q σ' H) → tg' v σ H Q) (gx : IxOK g)
    (st : ∀ (C : Cn) (Γ : EV) (σ : L2.St) (H : Hp) (Q : Bool → Hp → Prop), EnvOK K ts C Γ σ H → Post K ts C WF σ Γ H RQ Q (mt Γ) → tt σ H Q)
    (se : ∀ (C : Cn) (Γ : EV) (σ : L2.St) (H : Hp) (Q : VK), EnvOK K ts C Γ σ H → Post K ts C WF σ Γ H (RE K ts C σ) Q (me Γ) → te σ H Q)
    (E1 : EnvOK K ts C Γ1 σ H1) (hh : ∀ p ∈ held, Rep K H1 (Av C Γ1 σ) p.1 p.2) (ok : ItOK K items held J)
    (h : Post K ts C W σ Γ1 H1 (RE K ts C σ) Q (gxAll stop g mt me vs items (wipeE Γ1 vs))) :
    ∃ Wl : Nat → Nat → List V → Hp → Prop, (∃ m, Wl 0 m [] H1) ∧ GX.tTurn J tg' tt te vs σ Wl (fun _ H => Q (.bl (!stop)) H) (fun _ y H => y = .bl stop ∧ Q (.bl stop) H) (fun _ y => y = .bl (!stop)) := by
  refine ⟨fun i k _ H => k = items.length - i ∧ i ≤ items.length ∧ ∃ Γ, EnvOK K ts (C.hold held) Γ (wipe σ vs) H ∧ (∀ k ∈ vs, Γ[k]? = some Sl.no ∨ Γ[k]? = none) ∧ Gw Γ1 σ H1 Γ (wipe σ vs) H ∧ Post K ts C W σ Γ1 H1 (RE K ts C σ) Q (gxAll stop g mt me vs (items.drop i) Γ),
    ⟨_, rfl, Nat.zero_le _, wipeE Γ1 vs, (E1.hold hh).wipe vs, wipeE_no Γ1 vs, gw_refl vs, h⟩, ?_⟩
  rintro i k ys H ⟨rfl, hi, Γ, Eh, hno, gw, h⟩
  have fin : ∀ {Γ4 : EV} {H4 : Hp} {k : Bool}, EnvOK K ts (C.hold held) Γ4 (wipe σ vs) H4 → (∀ k ∈ vs, Γ4[k]? = some Sl.no ∨ Γ4[k]? = none) → Gw Γ1 σ H1 Γ4 (wipe σ vs) H4 → Post K ts C W σ Γ1 H1 (RE K ts C σ) Q (.ok (.fz (.bl k)) Γ4) → Q (.bl k) H4 := fun {Γ4 H4 k} E4 hn4 gw4 q => by
    obtain ⟨E2, o2⟩ := E4.unhold.1.unwipe hn4
    exact q (.bl k) H4 E2 ⟨gw4.keep, fun a z => gw4.sub a ((o2 a).mp z), gw4.ix⟩ rfl
  by_cases hlt : i < items.length
  · refine .inr ⟨ok.go i _ H _ (List.getElem?_eq_getElem hlt) Eh.unhold.2, fun _ H => i + 1 ≤ items.length ∧ ∃ Γ, EnvOK K ts (C.hold held) Γ (wipe σ vs) H ∧ (∀ k ∈ vs, Γ[k]? = some Sl.no ∨ Γ[k]? = none) ∧ Gw Γ1 σ H1 Γ (wipe σ vs) H ∧ Post K ts C W σ Γ1 H1 (RE K ts C σ) Q (gxAll stop g mt me vs (items.drop (i + 1)) Γ), fun ys' H' w => ⟨items.length - (i + 1), by omega, rfl, w⟩, fun x H' hy => ?_⟩
    obtain ⟨k1, r1⟩ := ok.yld i _ H (Av (C.hold held) Γ (wipe σ vs)) x H' (List.getElem?_eq_getElem hlt) Eh.unhold.2 Eh.trk hy
    have E2 : EnvOK K ts (C.hold held) Γ (wipe σ vs) H' := Eh.more (tb_all (t := Eh.tb) k1) (fun b u e _ => k1 b u e)
    rw [List.drop_eq_getElem_cons hlt] at h
    unfold gxAll at h
    split at h
    · exact h.elim
    · rename_i Γ2 e2
      refine sg ts (C.hold held) Γ (wipe σ vs) H' _ x Γ2 _ E2 r1 e2 fun σ2 E3 o3 w3 => ⟨by rw [w3, wipe_wipe], ?_⟩
      have w3' : wipe σ2 vs = wipe σ vs := by rw [w3, wipe_wipe]
      refine st (C.hold held) Γ2 σ2 H' _ E3 ?_
      cases e4 : mt Γ2 with
      | no => rw [e4] at h; exact h
      | rz x Γ' => rw [e4] at h; exact h.elim
      | ok b Γ3 =>
        rw [e4] at h
        have h : Post K ts C W σ Γ1 H1 (RE K ts C σ) Q (if b = true then (me Γ3).nr.bind fun v Γ4 => match v with
          | .fz (.bl k) => if k = stop then .ok (.fz (.bl stop)) (wipeE Γ4 vs) else gxAll stop g mt me vs (items.drop (i + 1)) (wipeE Γ4 vs)
          | _ => .no
          else gxAll stop g mt me vs (items.drop (i + 1)) (wipeE Γ3 vs)) := h
        intro b' H3 E4 g4 eb
        obtain rfl : b = b' := eb
        have gwt : ∀ {Γ5 : EV} {H5 : Hp}, Go (C.hold held) Γ2 σ2 H' Γ5 H5 → Gw Γ1 σ H1 (wipeE Γ5 vs) (wipe σ vs) H5 := fun {Γ5 H5} gt => ⟨fun b u hb e n => gt.keep b u (fun z => hb (gw.sub b (o3 b z))) (k1 b u (gw.keep b u hb e n)) n,
          fun a z => by rw [← w3'] at z; exact gw.sub a (o3 a (gt.sub a (own_wipe z))), fun j b ds e => by
            obtain ⟨es, e⟩ := gt.ix j b ds (wipeE_ow e)
            exact gw.ix j b es (gx _ _ _ e2 j b es e)⟩
        cases b with
        | false =>
          rw [if_neg (by decide)]
          rw [if_neg (by decide)] at h
          have E5 := E4.wipe vs
          rw [w3'] at E5
          exact ⟨hlt, wipeE Γ3 vs, E5, wipeE_no _ _, gwt g4, h⟩
        | true =>
          rw [if_pos rfl]
          rw [if_pos rfl] at h
          refine se (C.hold held) Γ3 σ2 H3 _ E4 ?_
          cases e5 : me Γ3 with
          | no => rw [e5] at h; exact h
          | rz x Γ' => rw [e5] at h; exact h.elim
          | ok val Γ4 =>
            rw [e5, Out.nr_ok, Out.bind_ok] at h
            clear e5
            intro y H4 E5 g5 vy
            split at h
            · rename_i k
              have vy : y = .bl k := vy
              have E6 := E5.wipe vs
              rw [w3'] at E6
              split at h
              · rename_i hk
                subst hk
                exact .inl ⟨vy, fin E6 (wipeE_no _ _) (gwt (g4.trans g5)) h⟩
              · rename_i hk
                refine .inr ⟨?_, hlt, wipeE Γ4 vs, E6, wipeE_no _ _, gwt (g4.trans g5), h⟩
                rw [vy]
                cases k <;> cases stop <;> first | rfl | exact (hk rfl).elim
            · exact h.elim
  · have e : i = items.length := by omega
    subst e
    rw [List.drop_length] at h
    exact .inl ⟨ok.stop H _ Eh.unhold.2, fin Eh hno gw h⟩
theorem col_sim {F : List D → EV → Out Vl} {Fin : List V → Hp → Prop} {Q : VK} {items : List D} {held : List (D × V)} {J : It} {g : D → EV → Option EV} {mt : MT} {me : ME} {tt : TT} {te : TE} {tg' : TG}
    (sg : ∀ (ts : Tsx) (C : Cn) (Γ : EV) (σ : L2.St) (H : Hp) (d : D) (v : V) (Γ' : EV) (Q : L2.St → Hp → Prop), EnvOK K ts C Γ σ H → Rep K H (Av C Γ σ) d v → g d Γ = some Γ' →
      (∀ σ', EnvOK K ts C Γ' σ' H → (∀ a, Own Γ' σ' a → Own Γ σ a) → wipe σ' vs = wipe σ vs → Q σ' H) → tg' v σ H Q) (gx : IxOK g)
    (st : ∀ (C : Cn) (Γ : EV) (σ : L2.St) (H : Hp) (Q : Bool → Hp → Prop), EnvOK K ts C Γ σ H → Post K ts C WF σ Γ H RQ Q (mt Γ) → tt σ H Q)
    (se : ∀ (C : Cn) (Γ : EV) (σ : L2.St) (H : Hp) (Q : VK), EnvOK K ts C Γ σ H → Post K ts C WF σ Γ H (RE K ts C σ) Q (me Γ) → te σ H Q)
    (fin : ∀ (acc : List D) (Γ : EV) (H : Hp) (xs : List V), EnvOK K ts C Γ σ H → Go C Γ1 σ H1 Γ H → Reps K H (Av C Γ σ) acc xs → Post K ts C W σ Γ H (RE K ts C σ) Q (F acc Γ) → Fin xs H)
    (E1 : EnvOK K ts C Γ1 σ H1) (hh : ∀ p ∈ held, Rep K H1 (Av C Γ1 σ) p.1 p.2) (ok : ItOK K items held J)
    (h : Post K ts C W σ Γ1 H1 (RE K ts C σ) Q ((gxCol g mt me vs items [] (wipeE Γ1 vs)).bind F)) :
    ∃ Wl : Nat → Nat → List V → Hp → Prop, (∃ m, Wl 0 m [] H1) ∧ GX.tTurn J tg' tt te vs σ Wl Fin GX.NoCut GX.Fits := by
  refine ⟨fun i k ys H => k = items.length - i ∧ i ≤ items.length ∧ ∃ Γ acc, EnvOK K ts (C.hold held) Γ (wipe σ vs) H ∧ (∀ k ∈ vs, Γ[k]? = some Sl.no ∨ Γ[k]? = none) ∧ Reps K H (Av (C.hold held) Γ (wipe σ vs)) acc ys ∧ Gw Γ1 σ H1 Γ (wipe σ vs) H ∧ Post K ts C W σ Γ1 H1 (RE K ts C σ) Q ((gxCol g mt me vs (items.drop i) acc Γ).bind F),
    ⟨_, rfl, Nat.zero_le _, wipeE Γ1 vs, [], (E1.hold hh).wipe vs, wipeE_no Γ1 vs, Reps.nil_iff.mpr rfl, gw_refl vs, h⟩, ?_⟩
  rintro i k ys H ⟨rfl, hi, Γ, acc, Eh, hno, racc, gw, h⟩
  by_cases hlt : i < items.length
  · refine .inr ⟨ok.go i _ H _ (List.getElem?_eq_getElem hlt) Eh.unhold.2, fun ys H => i + 1 ≤ items.length ∧ ∃ Γ acc, EnvOK K ts (C.hold held) Γ (wipe σ vs) H ∧ (∀ k ∈ vs, Γ[k]? = some Sl.no ∨ Γ[k]? = none) ∧ Reps K H (Av (C.hold held) Γ (wipe σ vs)) acc ys ∧ Gw Γ1 σ H1 Γ (wipe σ vs) H ∧ Post K ts C W σ Γ1 H1 (RE K ts C σ) Q ((gxCol g mt me vs (items.drop (i + 1)) acc Γ).bind F), fun ys' H' w => ⟨items.length - (i + 1), by omega, rfl, w⟩, fun x H' hy => ?_⟩
    obtain ⟨k1, r1⟩ := ok.yld i _ H (Av (C.hold held) Γ (wipe σ vs)) x H' (List.getElem?_eq_getElem hlt) Eh.unhold.2 Eh.trk hy
    have E2 : EnvOK K ts (C.hold held) Γ (wipe σ vs) H' := Eh.more (tb_all (t := Eh.tb) k1) (fun b u e _ => k1 b u e)
    rw [List.drop_eq_getElem_cons hlt] at h
    unfold gxCol at h
    split at h
    · exact h.elim
    · rename_i Γ2 e2
      refine sg ts (C.hold held) Γ (wipe σ vs) H' _ x Γ2 _ E2 r1 e2 fun σ2 E3 o3 w3 => ⟨by rw [w3, wipe_wipe], ?_⟩
      have w3' : wipe σ2 vs = wipe σ vs := by rw [w3, wipe_wipe]
      have racc3 : Reps K H' (Av (C.hold held) Γ2 σ2) acc ys := racc.go ⟨fun b u _ e _ => k1 b u e, fun a z => .inl (z.elim (fun z => .inl (o3 a z)) .inr)⟩
      refine st (C.hold held) Γ2 σ2 H' _ E3 ?_
      cases e4 : mt Γ2 with
      | no => rw [e4] at h; exact h
      | rz x Γ' => rw [e4] at h; exact h.elim
      | ok b Γ3 =>
        rw [e4] at h
        have h : Post K ts C W σ Γ1 H1 (RE K ts C σ) Q (Out.bind (if b = true then (me Γ3).nr.bind fun v Γ4 => match cool Γ4 v.op with
          | some (y, Γ5) => if acc.length < sizeLine then gxCol g mt me vs (items.drop (i + 1)) (acc ++ [y]) (wipeE Γ5 vs) else .no
          | none => .no
          else gxCol g mt me vs (items.drop (i + 1)) acc (wipeE Γ3 vs)) F) := h
        intro b' H3 E4 g4 eb
        obtain rfl : b = b' := eb
        have gwt : ∀ {Γ5 : EV} {H5 : Hp}, Go (C.hold held) Γ2 σ2 H' Γ5 H5 → Gw Γ1 σ H1 (wipeE Γ5 vs) (wipe σ vs) H5 := fun {Γ5 H5} gt => ⟨fun b u hb e n => gt.keep b u (fun z => hb (gw.sub b (o3 b z))) (k1 b u (gw.keep b u hb e n)) n,
          fun a z => by rw [← w3'] at z; exact gw.sub a (o3 a (gt.sub a (own_wipe z))), fun j b ds e => by
            obtain ⟨es, e⟩ := gt.ix j b ds (wipeE_ow e)
            exact gw.ix j b es (gx _ _ _ e2 j b es e)⟩
        have wk : ∀ {Γ5 : EV} (a : Addr), Av (C.hold held) (wipeE Γ5 vs) (wipe σ vs) a → Av (C.hold held) Γ5 σ2 a := fun {Γ5} a z => by
          rcases z with z | z
          · rw [← w3'] at z
            exact .inl (own_wipe z)
          · exact .inr z
        cases b with
        | false =>
          rw [if_neg (by decide)]
          rw [if_neg (by decide)] at h
          have E5 := E4.wipe vs
          rw [w3'] at E5
          exact ⟨hlt, wipeE Γ3 vs, acc, E5, wipeE_no _ _, (g4.reps racc3).weak wk, gwt g4, h⟩
        | true =>
          rw [if_pos rfl]
          rw [if_pos rfl] at h
          refine se (C.hold held) Γ3 σ2 H3 _ E4 ?_
          cases e5 : me Γ3 with
          | no => rw [e5] at h; exact h
          | rz x Γ' => rw [e5] at h; exact h.elim
          | ok val Γ4 =>
            rw [e5] at h
            have h : Post K ts C W σ Γ1 H1 (RE K ts C σ) Q (Out.bind (match cool Γ4 val.op with
              | some (y, Γ5) => if acc.length < sizeLine then gxCol g mt me vs (items.drop (i + 1)) (acc ++ [y]) (wipeE Γ5 vs) else .no
              | none => .no) F) := h
            intro y H4 E5 g5 vy
            split at h
            · rename_i yd Γ5 e6
              split at h
              · rename_i hl
                obtain ⟨E6, g6, r6⟩ := vy.op.cool E5 e6
                have gt := g4.trans (g5.trans g6)
                have racc6 := gt.reps racc3
                have E8 := E6.wipe vs
                rw [w3'] at E8
                exact .inr ⟨by show ys.length < sizeLine; rw [← racc6.length]; exact hl, hlt, wipeE Γ5 vs, acc ++ [yd], E8, wipeE_no _ _, (racc6.snoc r6).weak wk, gwt gt, h⟩
              · exact h.elim
            · exact h.elim
  · have e : i = items.length := by omega
    subst e
    rw [List.drop_length] at h
    refine .inl ⟨ok.stop H _ Eh.unhold.2, ?_⟩
    have h : Post K ts C W σ Γ1 H1 (RE K ts C σ) Q (F acc Γ) := h
    obtain ⟨E2, o2⟩ := Eh.unhold.1.unwipe hno
    have go : Go C Γ1 σ H1 Γ H := ⟨gw.keep, fun a z => gw.sub a ((o2 a).mp z), gw.ix⟩
    exact fin acc Γ H ys E2 go (racc.weak fun a z => z.elim (fun z => .inl ((o2 a).mp z)) .inr) (Post.shift go h)
end
section
variable {own : List (Str × Nat)} {scope : Scope} {mi : MI} {g : D → EV → Option EV} {mt : MT} {me : ME} {ifs : List Expr} {c P : Addr} {k : Nat} {gpos p : Pos}
/-- what a generator expression of the def asks -/
structure SGE (ts : Tsx) (X : Cx) (W : WX) (c P : Addr) (k : Nat) (elt tg iter : Expr) (ifs : List Expr) (scope : Scope) (own : List (Str × Nat)) (gpos : Pos) (mi : MI) (g : D → EV → Option EV) (mt : MT) (me : ME) : Prop where
  hP : P ∈ ts.l
  gx : IxOK g
  ex : ∃ wi, GX.GE X c P k elt tg iter ifs scope own gpos wi (cG X.K (own.map (·.2)) g) (cT X.K ts WF mt) (cE X.K ts WF me) ∧
    ∀ (C : Cn) (Γ : EV) (σ : L2.St) (H : Hp) (R : It → Hp → Prop), EnvOK X.K ts C Γ σ H → Post X.K ts C W σ Γ H (RIt X.K C σ) R (mi Γ) → wi σ H R
theorem sge_mk (hP : P ∈ ts.l) (gx : IxOK g) (hr : Room k X.A) (hc : X.calm = true) (hN : X.N.Nodup) (TB : GxR.TabB X.base X.mg c P) (hcode : X.env.code = .ref c) (hi : SI ts X W tg iter mi) (ok : BlkOk X.N X.env.scope scope own) (hco : scope.isCoroutine = false)
    (hcell : ∀ y ∈ scope.names, y.2 ≠ .cell) (hdot : scope.names.lookup (".0" : Str) = some NameKind.local)
    (hg : ∀ (s : Shared) (H : Hp) (C : Addr) (code : Value) (fp : List Addr) (pn : List (Addr × Obj)), SG (GX.cx X X.A.in4.in1 s H (GX.genv X scope C code) fp pn) tg (own.map (·.2)) g)
    (ht : ∀ (s : Shared) (H : Hp) (C : Addr) (code : Value) (fp : List Addr) (pn : List (Addr × Obj)), SF ts (GX.cx X X.A.in4.in1 s H (GX.genv X scope C code) fp pn) WF ifs mt)
    (he : ∀ (s : Shared) (H : Hp) (C : Addr) (code : Value) (fp : List Addr) (pn : List (Addr × Obj)), SE ts (GX.cx X X.A.in4.in1 s H (GX.genv X scope C code) fp pn) WF elt me)
    (hs : ∀ x, genFold iter X.env x = pure x) : SGE ts X W c P k elt tg iter ifs scope own gpos mi g mt me := by
  obtain ⟨wi, pi, si⟩ := hi
  exact ⟨hP, gx, wi, GX.GE.mk hr hc hN TB hcode pi ok hco hcell hdot (fun s H C code fp pn => (hg s H C code fp pn).pg) (fun s H C code fp pn => (ht s H C code fp pn).pt) (fun s H C code fp pn => (he s H C code fp pn).pe) hs, si⟩
end
end
end SX

set_option Elab.async false
set_option linter.all false
set_option maxRecDepth 100000
set_option maxHeartbeats 4000000
namespace SX
open PySem PySem.Spec PyProof.Rows L2 L2H XT GX RD GenW GxR
/-! ### all, any, tuple, join of generator expressions -/
section
variable {ts : Tsx} {X : Cx} {W : WX} {tg iter elt o : Expr} {pos p apos cpos gpos : Pos} {own : List (Str × Nat)} {scope : Scope} {mi : MI} {g : D → EV → Option EV} {mt : MT} {me mo : ME} {ifs : List Expr} {c P : Addr} {k : Nat}
theorem se_allG (G : SGE ts X W c P k elt tg iter ifs scope own gpos mi g mt me) (hgl : Gl X "all") (hm : X.mg "all" = none)
    (he : starEach [.GeneratorExp elt [⟨tg, iter, ifs, 0⟩] scope gpos] X.env = (false, eval (.GeneratorExp elt [⟨tg, iter, ifs, 0⟩] scope gpos) X.env) :: starEach [] X.env := by rfl) :
    SE ts X W (.Call (.Name "all" p) [.GeneratorExp elt [⟨tg, iter, ifs, 0⟩] scope gpos] [] pos) (mGAll false mi g mt me (own.map (·.2))) := by
  obtain ⟨hP, gx, wi, G, si⟩ := G
  refine ⟨_, pe_allG G hgl hm (by decide +kernel) he, fun C Γ σ H Q E h => si C Γ σ H _ E (Post.bind h fun items Γ1 J H1 E1 g1 v1 h1 => ⟨E1.tb P hP, fun H2 hT => ?_⟩)⟩
  obtain ⟨E2, g2⟩ := E1.tabbed hP hT
  obtain ⟨held, hh, ok⟩ := v1
  exact all_sim (stop := false) (Q := Q) cG_sim gx cT_sim cE_sim E2 (fun q hq => g2.rep (hh q hq)) ok (Post.shift g2 h1)
theorem se_anyG (G : SGE ts X W c P k elt tg iter ifs scope own gpos mi g mt me) (hgl : Gl X "any") (hm : X.mg "any" = none)
    (he : starEach [.GeneratorExp elt [⟨tg, iter, ifs, 0⟩] scope gpos] X.env = (false, eval (.GeneratorExp elt [⟨tg, iter, ifs, 0⟩] scope gpos) X.env) :: starEach [] X.env := by rfl) :
    SE ts X W (.Call (.Name "any" p) [.GeneratorExp elt [⟨tg, iter, ifs, 0⟩] scope gpos] [] pos) (mGAll true mi g mt me (own.map (·.2))) := by
  obtain ⟨hP, gx, wi, G, si⟩ := G
  refine ⟨_, pe_anyG G hgl hm (by decide +kernel) he, fun C Γ σ H Q E h => si C Γ σ H _ E (Post.bind h fun items Γ1 J H1 E1 g1 v1 h1 => ⟨E1.tb P hP, fun H2 hT => ?_⟩)⟩
  obtain ⟨E2, g2⟩ := E1.tabbed hP hT
  obtain ⟨held, hh, ok⟩ := v1
  exact all_sim (stop := true) (Q := Q) cG_sim gx cT_sim cE_sim E2 (fun q hq => g2.rep (hh q hq)) ok (Post.shift g2 h1)
def mGTup (mi : MI) (g : D → EV → Option EV) (mt : MT) (me : ME) (vs : List Nat) : ME := fun Γ => (mi Γ).bind fun items Γ1 => (gxCol g mt me vs items [] (wipeE Γ1 vs)).bind fun acc Γ2 => if acc.length ≤ sizeLine then .ok (.fz (.tup acc)) Γ2 else .no
theorem se_tupG (G : SGE ts X W c P k elt tg iter ifs scope own gpos mi g mt me) (hgl : Gl X "tuple") (hm : X.mg "tuple" = none)
    (he : starEach [.GeneratorExp elt [⟨tg, iter, ifs, 0⟩] scope gpos] X.env = (false, eval (.GeneratorExp elt [⟨tg, iter, ifs, 0⟩] scope gpos) X.env) :: starEach [] X.env := by rfl) :
    SE ts X W (.Call (.Name "tuple" p) [.GeneratorExp elt [⟨tg, iter, ifs, 0⟩] scope gpos] [] pos) (mGTup mi g mt me (own.map (·.2))) := by
  obtain ⟨hP, gx, wi, G, si⟩ := G
  refine ⟨_, pe_tupG G hgl hm (by decide +kernel) he, fun C Γ σ H Q E h => si C Γ σ H _ E (Post.bind h fun items Γ1 J H1 E1 g1 v1 h1 => ⟨E1.tb P hP, fun H2 hT => ?_⟩)⟩
  obtain ⟨E2, g2⟩ := E1.tabbed hP hT
  obtain ⟨held, hh, ok⟩ := v1
  refine col_sim (Q := Q) cG_sim gx cT_sim cE_sim (fun acc Γ3 H3 xs E3 g3 r3 h3 => ?_) E2 (fun q hq => g2.rep (hh q hq)) ok (Post.shift g2 h1)
  split at h3
  · rename_i hl
    refine ⟨by rw [← r3.length]; exact hl, fun q hq => ?_⟩
    obtain ⟨E4, g4, r4⟩ := new_tup E3 r3 hq
    exact h3 _ _ E4 g4 r4
  · exact h3.elim
def mGJoin (mo : ME) (mi : MI) (g : D → EV → Option EV) (mt : MT) (me : ME) (vs : List Nat) : ME := fun Γ => (mo Γ).bind fun v Γ0 => match v with
  | .fz (.str sep) => (mi Γ0).bind fun items Γ1 => (gxCol g mt me vs items [] (wipeE Γ1 vs)).bind fun acc Γ2 => match strsD acc with
    | some zs => if JoinOk sep zs = true then .ok (.fz (.str (Txt.join sep zs))) Γ2 else .no
    | none => .no
  | _ => .no
theorem se_joinG (ho : SE ts X W o mo) (G : SGE ts X W c P k elt tg iter ifs scope own gpos mi g mt me)
    (hbase : attributeBase o "join" X.env (eval o X.env) = eval o X.env := by rfl)
    (hfew : (([.GeneratorExp elt [⟨tg, iter, ifs, 0⟩] scope gpos] : List Expr).all (fun e => match e with | .Starred _ _ => false | _ => true)
      && ([] : List Keyword).all (fun k => match k with | ⟨none, _, _⟩ => false | _ => true)
      && decide (([.GeneratorExp elt [⟨tg, iter, ifs, 0⟩] scope gpos] : List Expr).length + ([] : List Keyword).length + (if ([] : List Keyword).isEmpty then 0 else 1) < 30)) = true := by rfl)
    (hline : (apos.endLine == cpos.line) = true := by rfl)
    (he : starEach [.GeneratorExp elt [⟨tg, iter, ifs, 0⟩] scope gpos] X.env = (false, eval (.GeneratorExp elt [⟨tg, iter, ifs, 0⟩] scope gpos) X.env) :: starEach [] X.env := by rfl)
    (hplain : (backTo cpos (starEach [] X.env)).any (·.1) = false := by rfl) :
    SE ts X W (.Call (.Attribute o "join" apos) [.GeneratorExp elt [⟨tg, iter, ifs, 0⟩] scope gpos] [] cpos) (mGJoin mo mi g mt me (own.map (·.2))) := by
  obtain ⟨hP, gx, wi, G, si⟩ := G
  obtain ⟨to, po, so⟩ := ho
  refine ⟨_, GX.pe_joinG po G hbase hfew hline he hplain, fun C Γ σ H Q E h => so C Γ σ H _ E (Post.bind h fun v Γ0 x H0 E0 g0 v0 h0 => ?_)⟩
  split at h0
  · rename_i sep
    refine ⟨sep, v0, si C Γ0 σ H0 _ E0 (Post.bind h0 fun items Γ1 J H1 E1 g1 v1 h1 => ⟨E1.tb P hP, fun H2 hT => ?_⟩)⟩
    obtain ⟨E2, g2⟩ := E1.tabbed hP hT
    obtain ⟨held, hh, ok⟩ := v1
    refine col_sim (Q := Q) cG_sim gx cT_sim cE_sim (fun acc Γ3 H3 xs E3 g3 r3 h3 => ?_) E2 (fun q hq => g2.rep (hh q hq)) ok (Post.shift g2 h1)
    split at h3
    · rename_i zs e
      split at h3
      · rename_i hj
        exact ⟨zs, r3.strs e, hj, h3 _ H3 E3 Go.refl rfl⟩
      · exact h3.elim
    · exact h3.elim
  · exact h0.elim
end
/-! ### the frame behind a call -/
def Cn.zx (C : Cn) (Zx : Addr → Prop) : Cn := { C with Z := fun a => C.Z a ∨ Zx a }
section
variable {K : PySem.W.Frag} {ts : Tsx} {C : Cn} {Γ Γ' : EV} {σ : L2.St} {H H' : Hp} {Zx Tad : Addr → Prop}
theorem EnvOK.turn (E : EnvOK K ts C Γ σ H) (hl : Γ'.length = Γ.length) (tb : Tb ts.l H') (hT : ∀ a, Tad a → Own Γ σ a)
    (kp : ∀ b u, ¬ Tad b → H b = some u → (∀ ps, u ≠ .tbl ps) → H' b = some u) (zx : ∀ a, Zx a → (∀ u, H a = some u → ∃ ps, u = .tbl ps) ∧ ∃ xs, H' a = some (.lst xs))
    (sl : ∀ i : Nat, (Γ'[i]? = Γ[i]? ∧ ∀ b ds a, Γ[i]? = some (Sl.ow b ds) → σ[i]? = some (some (V.ref a)) → ¬ Tad a) ∨ Γ'[i]? = some Sl.no ∨
      ∃ b ds es a xs, Γ[i]? = some (Sl.ow b ds) ∧ Γ'[i]? = some (Sl.ow b es) ∧ σ[i]? = some (some (V.ref a)) ∧ H' a = some (.lst xs) ∧ Reps K H' (fun a => Av C Γ σ a ∨ Zx a) es xs) :
    EnvOK K ts (C.zx Zx) Γ' σ H' ∧ Go C Γ σ H Γ' H' ∧ St2 (Av C Γ σ) H (Av (C.zx Zx) Γ' σ) H' := by
  have back : ∀ (i : Nat) (b : Bool) (es : List D), Γ'[i]? = some (Sl.ow b es) → ∃ ds, Γ[i]? = some (Sl.ow b ds) := fun i b es e => by
    rcases sl i with ⟨h, _⟩ | h | ⟨b', ds, es', a, xs, h1, h2, _⟩
    · exact ⟨es, by rw [← h]; exact e⟩
    · rw [e] at h; cases h
    · rw [e] at h2; cases h2
      exact ⟨ds, h1⟩
  have own : ∀ a, Own Γ' σ a → Own Γ σ a := fun a ⟨i, b, es, h1, h2⟩ => let ⟨ds, h3⟩ := back i b es h1; ⟨i, b, ds, h3, h2⟩
  have g : St2 (Av C Γ σ) H (Av (C.zx Zx) Γ' σ) H' := ⟨fun b u hb e n => kp b u (fun z => hb (.inl (hT b z))) e n, fun a z => by
    rcases z with z | z | z
    · exact .inl (.inl (own a z))
    · exact .inl (.inr z)
    · exact .inr (zx a z).1⟩
  have w : ∀ a, Av (C.zx Zx) Γ' σ a → (Av C Γ σ a ∨ Zx a) := fun a z => by
    rcases z with z | z | z
    · exact .inl (.inl (own a z))
    · exact .inl (.inr z)
    · exact .inr z
  refine ⟨⟨by rw [hl]; exact E.len, fun i d e => ?_, fun i b ds e => ?_, fun i c fs e => ?_, fun i j a b c ds es e f e' f' => ?_, fun a h z => ?_, E.fr.step tb fun b u hb e n e1 => ?_, fun a h => E.fo a (own a h), fun a z => ?_, fun p hp => (E.hd p hp).go g, E.gz.of rfl rfl rfl (fun _ z => .inl z), E.oo.go rfl g (fun i dss e => ?_) fun i a bs x xs q m e => kp x _ (fun z => E.nz x (hT x z) (E.gz.z i a bs x q m).1) e (fun ps z => by cases z)⟩,
    ⟨fun b u hb e n => kp b u (fun z => hb (hT b z)) e n, own, fun i b ds e => back i b ds e⟩, g⟩
  · rcases sl i with ⟨h, _⟩ | h | ⟨b', ds, es', a, xs, h1, h2, _⟩
    · rw [h] at e
      obtain ⟨v, h1, h2⟩ := E.fz i d e
      exact ⟨v, h1, h2.go g⟩
    · rw [e] at h; cases h
    · rw [e] at h2; cases h2
  · rcases sl i with ⟨h, hn⟩ | h | ⟨b', ds', es', a, xs, h1, h2, h3, h4, h5⟩
    · rw [h] at e
      obtain ⟨a, xs, h1, h2, h3, h4⟩ := E.ow i b ds e
      exact ⟨a, xs, h1, kp a _ (hn b ds a e h1) h2 (fun ps z => by cases z), h3.go g, h4⟩
    · rw [e] at h; cases h
    · rw [e] at h2; cases h2
      obtain ⟨a', ys, k1, _, _, k4⟩ := E.ow i b ds' h1
      rw [h3] at k1; cases k1
      exact ⟨a, xs, h3, h4, h5.weak w, k4⟩
  · rcases sl i with ⟨h, _⟩ | h | ⟨b', ds, es', a, xs, h1, h2, _⟩
    · rw [h] at e
      obtain ⟨q, h1, h2, h3⟩ := E.ex i c fs e
      exact ⟨q, h1, h2, h3.go g fun dd vs _ e2 => E.notAv e2 (fun xs z => by cases z)⟩
    · rw [e] at h; cases h
    · rw [e] at h2; cases h2
  · obtain ⟨_, k1⟩ := back i b ds e
    obtain ⟨_, k2⟩ := back j c es f
    exact E.dis i j a _ _ _ _ k1 k2 e' f'
  · rcases z with z | z
    · exact E.nz a (own a h) z
    · obtain ⟨i, b, ds, h1, h2⟩ := own a h
      obtain ⟨a', xs, k1, k2, _⟩ := E.ow i b ds h1
      rw [h2] at k1; cases k1
      obtain ⟨ps, q⟩ := (zx a z).1 _ k2
      cases q
  · refine kp b u (fun z => ?_) e1 n
    rcases E.fo b (hT b z) with q | q
    · exact hb q
    · obtain ⟨ps, e2⟩ := q u e
      exact n ps e2
  · rcases z with z | z
    · obtain ⟨xs, e⟩ := E.z a z
      exact ⟨xs, kp a _ (fun q => E.nz a (hT a q) z) e (fun ps q => by cases q)⟩
    · exact (zx a z).2
  · rcases sl i with ⟨h, _⟩ | h | ⟨b', ds, es', a, xs, h1, h2, _⟩
    · exact ⟨by rw [← h]; exact e, rfl⟩
    · rw [e] at h; cases h
    · rw [e] at h2; cases h2
theorem EnvOK.unzx (E : EnvOK K ts (C.zx Zx) Γ σ H) (hg : GhOK C) : EnvOK K ts C Γ σ H := by
  have w : ∀ a, Av C Γ σ a → Av (C.zx Zx) Γ σ a := fun a z => z.elim .inl fun z => .inr (.inl z)
  refine ⟨E.len, fun i d e => ?_, fun i b ds e => ?_, fun i c fs e => ?_, E.dis, fun a h z => E.nz a h (.inl z), E.fr, E.fo, fun a z => E.z a (.inl z), fun p hp => (E.hd p hp).weak w, hg, E.oo.go rfl (St2.same w) (fun i dss e => ⟨e, rfl⟩) fun _ _ _ _ _ _ _ e => e⟩
  · obtain ⟨v, h1, h2⟩ := E.fz i d e
    exact ⟨v, h1, h2.weak w⟩
  · obtain ⟨a, xs, h1, h2, h3, h4⟩ := E.ow i b ds e
    exact ⟨a, xs, h1, h2, h3.weak w, h4⟩
  · obtain ⟨q, h1, h2, e0, dd, vs, e1, e2, f1, f2⟩ := E.ex i c fs e
    exact ⟨q, h1, h2, e0, dd, vs, e1, e2, f1, f2.weak w⟩
end
/-! ### what a def promises -/
/-- a def's result: what it hands back, its lists that it was handed; an error -/
inductive FR where
  | no | ok (r : Vl) (outs : List Sl) | rz (x : Er)
abbrev MF := List D → FR
/-- the lists handed in to be changed -/
def IoA (io : List Bool) (vs : List V) (a : Addr) : Prop := ∃ j : Nat, io[j]? = some true ∧ vs[j]? = some (V.ref a)
def Zf (Z : Addr → Prop) (io : List Bool) (vs : List V) (a : Addr) : Prop := IoA io vs a ∨ Z a
structure ArgsOK (K : PySem.W.Frag) (H : Hp) (Z : Addr → Prop) (io : List Bool) (ds : List D) (vs : List V) : Prop where
  l1 : ds.length = vs.length
  l2 : io.length = vs.length
  fz : ∀ (j : Nat) (d : D) (v : V), io[j]? = some false → ds[j]? = some d → vs[j]? = some v → Rep K H (Zf Z io vs) d v
  iof : ∀ (j : Nat) (d : D) (v : V), io[j]? = some true → ds[j]? = some d → vs[j]? = some v → ∃ es a xs, d = .lst es ∧ v = .ref a ∧ H a = some (.lst xs) ∧ Reps K H (Zf Z io vs) es xs ∧ ¬ Z a
  dis : ∀ (i j : Nat) (a : Addr), io[i]? = some true → io[j]? = some true → vs[i]? = some (V.ref a) → vs[j]? = some (V.ref a) → i = j
def OutsOK (K : PySem.W.Frag) (H' : Hp) (S : Addr → Prop) (io : List Bool) (vs : List V) (outs : List Sl) : Prop :=
  ∀ (j : Nat) (a : Addr), io[j]? = some true → vs[j]? = some (V.ref a) → ∃ es xs, outs[j]? = some (Sl.ow true es) ∧ H' a = some (.lst xs) ∧ Reps K H' S es xs
def RetOK (K : PySem.W.Frag) (H H' : Hp) (Z : Addr → Prop) (io : List Bool) (vs : List V) (S : Addr → Prop) (v : V) : Vl → Prop
  | .fz d => S = Zf Z io vs ∧ Rep K H' S d v
  | .ow ds => ∃ p xs, v = .ref p ∧ (S = fun a => Zf Z io vs a ∨ a = p) ∧ ¬ Zf Z io vs p ∧ (∀ u, H p = some u → ∃ ps, u = .tbl ps) ∧ H' p = some (.lst xs) ∧ Reps K H' S ds xs
  | .bw _ => False
def FPost (K : PySem.W.Frag) (ts : List Addr) (Z : Addr → Prop) (io : List Bool) (vs : List V) (H : Hp) (Q : VK) (E : XK) : FR → Prop
  | .no => False
  | .ok r outs => ∀ v H' S, Nw ts (IoA io vs) H H' → RetOK K H H' Z io vs S v r → OutsOK K H' S io vs outs → Q v H'
  | .rz x => ∀ cls d H', Nw ts (IoA io vs) H H' → XOK K H' Z x cls d → E cls d H'
def spF (K : PySem.W.Frag) (ts : List Addr) (io : List Bool) (F : MF) : Sp := fun vs H Q E => ∃ (ds : List D) (Z : Addr → Prop), ArgsOK K H Z io ds vs ∧ Tb ts H ∧ (∀ a, Z a → ∃ xs, H a = some (.lst xs)) ∧ FPost K ts Z io vs H Q E (F ds)
def initE : List Bool → List D → Option EV
  | [], [] => some []
  | true :: io, .lst es :: ds => (initE io ds).map fun Γ => .ow true es :: Γ
  | false :: io, d :: ds => (initE io ds).map fun Γ => .fz d :: Γ
  | _, _ => none
def outsOf : List Bool → EV → Option (List Sl)
  | [], _ => some []
  | true :: io, .ow true es :: Γ => (outsOf io Γ).map fun r => .ow true es :: r
  | false :: io, _ :: Γ => (outsOf io Γ).map fun r => .no :: r
  | _, _ => none
def endF (io : List Bool) (v : Vl) (Γ : EV) : FR := match outsOf io Γ with
  | none => .no
  | some outs => match v with
    | .fz d => .ok (.fz d) outs
    | .ow ds => .ok (.ow ds) outs
    | .bw i => match Γ[i]? with
      | some (.ow false ds) => .ok (.ow ds) outs
      | some (.fz d) => .ok (.fz d) outs
      | some (.oo dss) => .ok (.fz (.lst (dss.map .lst))) outs
      | _ => .no
def runF (n : Nat) (io : List Bool) (body : MS) : MF := fun ds => match initE io ds with
  | none => .no
  | some Γ => match body (Γ ++ List.replicate (n - ds.length) .no) with
    | .ok (.rt v) Γ' => endF io v Γ'
    | .ok .nx Γ' => endF io (.fz .non) Γ'
    | .rz x _ => .rz x
    | _ => .no
theorem initE_get : ∀ {io : List Bool} {ds : List D} {Γ : EV}, initE io ds = some Γ → Γ.length = io.length ∧ ds.length = io.length ∧ ∀ (j : Nat), (∀ es b, Γ[j]? = some (Sl.ow b es) → b = true ∧ io[j]? = some true ∧ ds[j]? = some (.lst es)) ∧ (∀ d, Γ[j]? = some (Sl.fz d) → io[j]? = some false ∧ ds[j]? = some d) ∧ (∀ c fs, Γ[j]? ≠ some (Sl.ex c fs)) ∧
    (∀ es, io[j]? = some true → ds[j]? = some (.lst es) → Γ[j]? = some (Sl.ow true es))
  | [], [], Γ, h => by cases h; exact ⟨rfl, rfl, fun j => ⟨fun es b e => by simp at e, fun d e => by simp at e, fun c fs e => by simp at e, fun es e => by simp at e⟩⟩
  | true :: io, .lst es :: ds, Γ, h => by
    obtain ⟨Γ1, e1, rfl⟩ := Option.map_eq_some_iff.mp h
    obtain ⟨h1, h2, h3⟩ := initE_get e1
    refine ⟨by simp [h1], by simp [h2], fun j => ?_⟩
    cases j with
    | zero => exact ⟨fun es' b e => by simp at e; simp [e], fun d e => by simp at e, fun c fs e => by simp at e, fun es' e f => by simp at f; simp [f]⟩
    | succ j => simpa using h3 j
  | false :: io, d :: ds, Γ, h => by
    have h : (initE io ds).map (fun Γ => Sl.fz d :: Γ) = some Γ := by
      cases d <;> exact h
    obtain ⟨Γ1, e1, rfl⟩ := Option.map_eq_some_iff.mp h
    obtain ⟨h1, h2, h3⟩ := initE_get e1
    refine ⟨by simp [h1], by simp [h2], fun j => ?_⟩
    cases j with
    | zero => exact ⟨fun es' b e => by simp at e, fun d e => by simp at e; simp [e], fun c fs e => by simp at e, fun es' e f => by simp at e⟩
    | succ j => simpa using h3 j
theorem initE_oo : ∀ {io : List Bool} {ds : List D} {Γ : EV}, initE io ds = some Γ → ∀ (j : Nat) (dss : List (List D)), Γ[j]? ≠ some (Sl.oo dss)
  | [], [], Γ, h, j, dss => by cases h; intro e; simp at e
  | true :: io, .lst es :: ds, Γ, h, j, dss => by
    obtain ⟨Γ1, e1, rfl⟩ := Option.map_eq_some_iff.mp h
    cases j with
    | zero => intro e; simp at e
    | succ j => simpa using initE_oo e1 j dss
  | false :: io, d :: ds, Γ, h, j, dss => by
    have h : (initE io ds).map (fun Γ => Sl.fz d :: Γ) = some Γ := by
      cases d <;> exact h
    obtain ⟨Γ1, e1, rfl⟩ := Option.map_eq_some_iff.mp h
    cases j with
    | zero => intro e; simp at e
    | succ j => simpa using initE_oo e1 j dss
theorem outsOf_get : ∀ {io : List Bool} {Γ : EV} {outs : List Sl}, outsOf io Γ = some outs → ∀ j : Nat, io[j]? = some true → ∃ es, Γ[j]? = some (Sl.ow true es) ∧ outs[j]? = some (Sl.ow true es)
  | [], Γ, outs, h, j, e => by simp at e
  | true :: io, .ow true es :: Γ, outs, h, j, e => by
    obtain ⟨r, e1, rfl⟩ := Option.map_eq_some_iff.mp h
    cases j with
    | zero => exact ⟨es, rfl, rfl⟩
    | succ j => simpa using outsOf_get e1 j (by simpa using e)
  | false :: io, s :: Γ, outs, h, j, e => by
    have h : (outsOf io Γ).map (fun r => Sl.no :: r) = some outs := by
      cases s <;> exact h
    obtain ⟨r, e1, rfl⟩ := Option.map_eq_some_iff.mp h
    cases j with
    | zero => simp at e
    | succ j => simpa using outsOf_get e1 j (by simpa using e)
end SX

set_option Elab.async false
set_option linter.all false
set_option maxRecDepth 100000
set_option maxHeartbeats 4000000
namespace SX
open PySem PySem.Spec PyProof.Rows L2 L2H XT GX RD GenW GxR
/-! ### a def's body keeps its promise -/
def pinOf (io : List Bool) (vs : List V) (j : Nat) : Option Addr := if io[j]? = some true then match vs[j]? with
  | some (V.ref a) => some a
  | _ => none
  else none
def cn0 (H : Hp) (io : List Bool) (vs : List V) (Z : Addr → Prop) : Cn := ⟨H, IoA io vs, Z, [], pinOf io vs, fun _ => none⟩
section
variable {K : PySem.W.Frag} {ts : Tsx} {H H' : Hp} {Z : Addr → Prop} {io : List Bool} {vs : List V} {ds : List D} {Γ : EV} {σ : L2.St} {Q : VK} {E : XK}
theorem init_env {n : Nat} {N : List Str} {Γ : EV} (hN : N.length = n) (hle : io.length ≤ n) (A : ArgsOK K H Z io ds vs) (tb : Tb ts.l H) (hZ : ∀ a, Z a → ∃ xs, H a = some (.lst xs)) (e : initE io ds = some Γ) :
    EnvOK K ts (cn0 H io vs Z) (Γ ++ List.replicate (n - ds.length) .no) (L2.start N vs) H := by
  obtain ⟨h1, h2, h3⟩ := initE_get e
  have l1 := A.l1
  have l2 := A.l2
  have get : ∀ {i : Nat} {s : Sl}, (Γ ++ List.replicate (n - ds.length) Sl.no)[i]? = some s → s ≠ .no → Γ[i]? = some s := fun {i s} q hs => by
    by_cases hi : i < Γ.length
    · rw [List.getElem?_append_left hi] at q; exact q
    · rw [List.getElem?_append_right (Nat.le_of_not_lt hi), List.getElem?_replicate] at q
      split at q
      · cases q; exact (hs rfl).elim
      · cases q
  have sat : ∀ {i : Nat} {v : V}, vs[i]? = some v → (L2.start N vs)[i]? = some (some v) := fun {i v} q => by
    unfold L2.start
    have hi := lt_of_get q
    rw [List.getElem?_append_left (by rw [List.length_map]; exact hi), List.getElem?_map, q]
    rfl
  have tas : ∀ {i : Nat} {v : V}, i < vs.length → (L2.start N vs)[i]? = some (some v) → vs[i]? = some v := fun {i v} hi q => by
    unfold L2.start at q
    rw [List.getElem?_append_left (by rw [List.length_map]; exact hi), List.getElem?_map] at q
    obtain ⟨w, e1, e2⟩ := Option.map_eq_some_iff.mp q
    cases e2
    exact e1
  have own : ∀ a, Own (Γ ++ List.replicate (n - ds.length) Sl.no) (L2.start N vs) a → IoA io vs a := fun a ⟨i, b, es, q1, q2⟩ => by
    have q1 := get q1 (fun z => by cases z)
    obtain ⟨_, q3, q4⟩ := (h3 i).1 es b q1
    exact ⟨i, q3, tas (by rw [← l1]; exact lt_of_get q4) q2⟩
  have w : ∀ a, Av (cn0 H io vs Z) (Γ ++ List.replicate (n - ds.length) Sl.no) (L2.start N vs) a → Zf Z io vs a := fun a z => z.elim (fun z => .inl (own a z)) .inr
  refine ⟨?_, fun i d q => ?_, fun i b es q => ?_, fun i c fs q => ?_, fun i j a b c es fs q1 q2 q3 q4 => ?_, fun a q z => ?_, ⟨fun b u _ e _ => e, tb⟩, fun a q => .inl (own a q), hZ, fun p hp => absurd hp (by simp [cn0]), ⟨fun i a bs x e => (by cases e), fun i a bs e => (by cases e), fun i j a c bs ds x e => (by cases e)⟩, fun i dss q => (initE_oo e i dss (get q (fun z => by cases z))).elim⟩
  · unfold L2.start
    simp only [List.length_append, List.length_replicate, List.length_map]
    omega
  · have q := get q (fun z => by cases z)
    obtain ⟨k1, k2⟩ := (h3 i).2.1 d q
    have hi : i < vs.length := by rw [← l1]; exact lt_of_get k2
    exact ⟨vs[i], sat (List.getElem?_eq_getElem hi), (A.fz i d _ k1 k2 (List.getElem?_eq_getElem hi)).weak w⟩
  · have q := get q (fun z => by cases z)
    obtain ⟨k0, k1, k2⟩ := (h3 i).1 es b q
    have hi : i < vs.length := by rw [← l1]; exact lt_of_get k2
    obtain ⟨es', a, xs, e1, e2, e3, e4, e5⟩ := A.iof i _ _ k1 k2 (List.getElem?_eq_getElem hi)
    cases e1
    refine ⟨a, xs, ?_, e3, e4.weak w, fun _ => ?_⟩
    · rw [sat (List.getElem?_eq_getElem hi), e2]
    · show pinOf io vs i = some a
      unfold pinOf
      rw [if_pos k1, List.getElem?_eq_getElem hi, e2]
  · exact ((h3 i).2.2.1 c fs (get q (fun z => by cases z))).elim
  · have q1 := get q1 (fun z => by cases z)
    have q2 := get q2 (fun z => by cases z)
    obtain ⟨_, k1, k2⟩ := (h3 i).1 es b q1
    obtain ⟨_, k3, k4⟩ := (h3 j).1 fs c q2
    exact A.dis i j a k1 k3 (tas (by rw [← l1]; exact lt_of_get k2) q3) (tas (by rw [← l1]; exact lt_of_get k4) q4)
  · obtain ⟨j, k1, k2⟩ := own a q
    have hj := lt_of_get k2
    have hd : j < ds.length := by rw [l1]; exact hj
    obtain ⟨es', a', xs, e1, e2, e3, e4, e5⟩ := A.iof j _ _ k1 (List.getElem?_eq_getElem hd) k2
    cases e2
    exact e5 z
theorem pin_eq {j : Nat} {a b : Addr} (h1 : io[j]? = some true) (h2 : vs[j]? = some (V.ref a)) (h : pinOf io vs j = some b) : b = a := by
  unfold pinOf at h
  rw [if_pos h1, h2] at h
  cases h
  rfl
theorem reps_of {S : Addr → Prop} : ∀ {ds : List D} {vs : List V}, ds.length = vs.length → (∀ (j : Nat) (d : D) (v : V), ds[j]? = some d → vs[j]? = some v → Rep K H S d v) → Reps K H S ds vs
  | [], [], _, _ => Reps.nil_iff.mpr rfl
  | [], _ :: _, h, _ => by simp at h
  | _ :: _, [], h, _ => by simp at h
  | d :: ds, v :: vs, h, k => Reps.cons_iff.mpr ⟨v, vs, rfl, k 0 d v rfl rfl, reps_of (by simpa using h) fun j d v e1 e2 => k (j + 1) d v (by simpa using e1) (by simpa using e2)⟩
theorem end_sim {C' : Cn} {val : Vl} {v : V} (x : Ext (cn0 H io vs Z) C') (hZ : ∀ a, Z a → ∃ xs, H a = some (.lst xs)) (hio : ∀ a, IoA io vs a → ¬ Z a) (hv : VOK K ts C' Γ σ H' val v) (E1 : EnvOK K ts C' Γ σ H') (h : FPost K ts.l Z io vs H Q E (endF io val Γ)) : Q v H' := by
  have zz : ∀ a, Z a → C'.Z a := fun a z => (x.z a z).elim (fun f => f.elim (fun q => (hio a q z).elim) fun f => by
    obtain ⟨xs, e⟩ := hZ a z
    obtain ⟨ps, q⟩ := f _ e
    cases q) id
  have fr : Nw ts.l (IoA io vs) H H' := by
    have := E1.fr
    rw [x.m, x.h0] at this
    exact this
  have pn : ∀ {j : Nat} {a b : Addr}, io[j]? = some true → vs[j]? = some (V.ref a) → C'.pin j = some b → b = a := fun {j a b} h1 h2 h3 => pin_eq h1 h2 (by rw [x.pin] at h3; exact h3)
  unfold endF at h
  cases e : outsOf io Γ with
  | none => rw [e] at h; exact h.elim
  | some outs =>
    rw [e] at h
    have og := outsOf_get e
    have slot : ∀ (j : Nat) (a : Addr), io[j]? = some true → vs[j]? = some (V.ref a) → ∃ es xs, Γ[j]? = some (Sl.ow true es) ∧ outs[j]? = some (Sl.ow true es) ∧ σ[j]? = some (some (V.ref a)) ∧ H' a = some (.lst xs) ∧ Reps K H' (Av C' Γ σ) es xs := fun j a h1 h2 => by
      obtain ⟨es, k1, k2⟩ := og j h1
      obtain ⟨b, xs, q1, q2, q3, q4⟩ := E1.ow j true es k1
      have := pn h1 h2 (q4 rfl)
      subst this
      exact ⟨es, xs, k1, k2, q1, q2, q3⟩
    have ioOwn : ∀ a, IoA io vs a → Own Γ σ a := fun a ⟨j, h1, h2⟩ => by
      obtain ⟨es, xs, k1, _, k3, _⟩ := slot j a h1 h2
      exact ⟨j, true, es, k1, k3⟩
    have wf : ∀ a, Zf Z io vs a → Av C' Γ σ a := fun a z => z.elim (fun z => .inl (ioOwn a z)) fun z => .inr (zz a z)
    have outsF : OutsOK K H' (Zf Z io vs) io vs outs := fun j a h1 h2 => by
      obtain ⟨es, xs, _, k2, _, k4, k5⟩ := slot j a h1 h2
      exact ⟨es, xs, k2, k4, k5.weak wf⟩
    cases val with
    | fz d => exact h v H' _ fr ⟨rfl, Rep.weak wf hv⟩ outsF
    | ow ds =>
      obtain ⟨p, xs, rfl, hz, hf, Ez, hp, r⟩ := hv
      have np : ¬ IoA io vs p := fun z => Ez.nz p (ioOwn p z) (.inr rfl)
      have wz : ∀ a, (Zf Z io vs a ∨ a = p) → Av (C'.z1 p) Γ σ a := fun a z => by
        rcases z with (z | z) | z
        · exact .inl (ioOwn a z)
        · exact .inr (.inl (zz a z))
        · exact .inr (.inr z)
      refine h _ H' _ fr ⟨p, xs, rfl, rfl, fun z => z.elim np fun q => hz (zz p q), ?_, hp, r.weak wz⟩ fun j a h1 h2 => ?_
      · rcases hf with q | q
        · rw [x.m] at q
          exact (np q).elim
        · rw [x.h0] at q
          exact q
      · obtain ⟨es, k1, k2⟩ := og j h1
        obtain ⟨b, ys, q1, q2, q3, q4⟩ := Ez.ow j true es k1
        have := pn h1 h2 (q4 rfl)
        subst this
        exact ⟨es, ys, k2, q2, q3.weak wz⟩
    | bw i =>
      have hv : σ[i]? = some (some v) := hv
      cases ei : Γ[i]? with
      | none => simp only [ei] at h; exact h.elim
      | some s =>
        simp only [ei] at h
        cases s with
        | no => exact h.elim
        | ex c fs => exact h.elim
        | fz d =>
          obtain ⟨w, q1, q2⟩ := E1.fz i d ei
          rw [hv] at q1; cases q1
          exact h v H' _ fr ⟨rfl, q2.weak wf⟩ outsF
        | oo dss =>
          obtain ⟨a, bs, g, k1, k2, k3, k4⟩ := E1.oo i dss ei
          rw [hv] at k1; cases k1
          have nf : ∀ y, y ∈ a :: bs → ¬ Zf Z io vs y := fun y m z => by
            obtain ⟨q1, q2⟩ := E1.gz.z i a bs y g m
            rcases z with z | z
            · exact E1.nz y (ioOwn y z) q1
            · rcases q2 with q2 | q2
              · exact E1.nz y (ioOwn y (by rw [x.m] at q2; exact q2)) q1
              · obtain ⟨xs, e⟩ := hZ y z
                obtain ⟨ps, q⟩ := q2 _ (by rw [x.h0]; exact e)
                cases q
          refine h _ H' _ fr ⟨rfl, a, _, rfl, nf a (by simp), k2, reps_of (by simp [k3]) fun j d v e1 e2 => ?_⟩ outsF
          rw [List.getElem?_map] at e1 e2
          obtain ⟨ds, f1, rfl⟩ := Option.map_eq_some_iff.mp e1
          obtain ⟨b, f2, rfl⟩ := Option.map_eq_some_iff.mp e2
          obtain ⟨xs, q1, q2⟩ := k4 j b ds f2 f1
          exact ⟨b, xs, rfl, nf b (List.mem_cons_of_mem _ (List.mem_of_getElem? f2)), q1, q2.weak wf⟩
        | ow b ds =>
          cases b with
          | true => exact h.elim
          | false =>
            obtain ⟨p, xs, q1, q2, q3, _⟩ := E1.ow i false ds ei
            rw [hv] at q1; cases q1
            have op : Own Γ σ p := ⟨i, false, ds, ei, hv⟩
            have np : ¬ IoA io vs p := fun ⟨j, h1, h2⟩ => by
              obtain ⟨es, xs, k1, _, k3, _⟩ := slot j p h1 h2
              have := E1.dis i j p _ _ _ _ ei k1 hv k3
              subst this
              rw [ei] at k1; cases k1
            have wz : ∀ a, (Zf Z io vs a ∨ a = p) → Av C' Γ σ a := fun a z => by
              rcases z with z | z
              · exact wf a z
              · rw [z]; exact .inl op
            refine h _ H' _ fr ⟨p, xs, rfl, rfl, fun z => z.elim np fun q => E1.nz p op (zz p q), ?_, q2, q3.weak wz⟩ fun j a h1 h2 => ?_
            · rcases E1.fo p op with q | q
              · rw [x.m] at q
                exact (np q).elim
              · rw [x.h0] at q
                exact q
            · obtain ⟨es, xs, _, k2, _, k4, k5⟩ := slot j a h1 h2
              exact ⟨es, xs, k2, k4, k5.weak wz⟩
end
section
variable {P : Program} {w : World} {K : PySem.W.Frag} {ts : Tsx} {mg : Str → Option Value} {base : Heap} {x qual : Str} {ar : Arguments} {bd : List Stmt} {sc : Scope} {f c : Addr} {fd : FuncData} {N ps : List Str} {k n : Nat} {io : List Bool} {m : MS}
theorem body_sim {X : Cx} {H : Hp} {vs : List V} {Q : VK} {E : XK} (hK : X.K = K) (hN : N.length = n) (hle : io.length ≤ n) (hb : SB ts X (fun cls d _ H => E cls d H) bd m) (h : spF K ts.l io (runF n io m) vs H Q E) :
    ∃ t, PSs X bd t ∧ t { nx := fun _ H' => Q .non H', rt := Q } (L2.start N vs) H := by
  obtain ⟨t, p, s⟩ := hb
  subst hK
  obtain ⟨ds, Z, A, tb, hZ, h⟩ := h
  have hio : ∀ a, IoA io vs a → ¬ Z a := fun a ⟨j, k1, k2⟩ => by
    have hj := lt_of_get k2
    have hd : j < ds.length := by rw [A.l1]; exact hj
    obtain ⟨es', a', xs, e1, e2, e3, e4, e5⟩ := A.iof j _ _ k1 (List.getElem?_eq_getElem hd) k2
    cases e2
    exact e5
  refine ⟨t, p, ?_⟩
  unfold runF at h
  cases e : initE io ds with
  | none => rw [e] at h; exact h.elim
  | some Γ =>
    rw [e] at h
    refine s (cn0 H io vs Z) _ _ H _ (init_env hN hle A tb hZ e) ?_
    dsimp only at h
    cases e2 : m (Γ ++ List.replicate (n - ds.length) Sl.no) with
    | no => rw [e2] at h; exact h.elim
    | rz x Γ' =>
      rw [e2] at h
      intro C' cls d σ' H' x E1 hx
      refine h cls d H' (by have := E1.fr; rw [x.m, x.h0] at this; exact this) ?_
      obtain ⟨h1, dd, us, h2, h3, h4, h5⟩ := hx
      exact ⟨h1, dd, us, h2, h3, h4, h5.weak fun a z => .inr ((x.z a z).elim (fun f => f.elim (fun q => (hio a q z).elim) fun f => by
        obtain ⟨xs, e⟩ := hZ a z
        obtain ⟨ps, q⟩ := f _ e
        cases q) id)⟩
    | ok fl Γ' =>
      rw [e2] at h
      cases fl with
      | bk => exact h.elim
      | ct => exact h.elim
      | nx => exact fun C' σ' H' x E1 => end_sim (val := .fz .non) (v := .non) x hZ hio rfl E1 h
      | rt val => exact fun C' v σ' H' x E1 hv => end_sim x hZ hio hv E1 h
theorem spF_len {l : List Addr} {vs : List V} {H : Hp} {F : MF} {Q : VK} {E : XK} (hio : io.length = ps.length) (h : spF K l io F vs H Q E) : vs.length = ps.length := by
  obtain ⟨ds, Z, A, _⟩ := h
  rw [← A.l2, hio]
theorem fn_ok {l : List Addr} (F : FT K x qual ar bd sc f c fd) (S : FnScope N ps sc) (hio : io.length = ps.length) (hN : N.length = n)
    (hb : ∀ (A : Around) (outer : List Env) (s : Shared) (H : Hp) (E : XK), Room k (A.deeper (envOfC qual sc s.heap.objs.size f (.ref c))) → SB ⟨l, none⟩ (cxOf (L2.CX P w) P w K mg base N qual sc f (.ref c) A outer s H E) (fun cls d _ H => E cls d H) bd m) :
    FnOk P w K mg base (L2.CX P w) (k + 1) f fd ps (spF K l io (runF n io m)) := by
  refine F.ok S (fun vs H Q E h => spF_len hio h) fun A outer s H vs Q E hr h => ?_
  have hle : io.length ≤ n := by
    have := congrArg List.length S.pre
    rw [List.length_take] at this
    omega
  exact body_sim (ts := ⟨l, none⟩) rfl hN hle (hb A outer s H E hr) h
theorem fn_okA {l : List Addr} (F : FT K x qual ar bd sc f c fd) (S : FnScope N ps sc) (hio : io.length = ps.length) (hN : N.length = n)
    (hb : ∀ (A : Around) (outer : List Env) (s : Shared) (H : Hp) (E : XK), RoomH k (A.deeper (envOfC qual sc s.heap.objs.size f (.ref c))) → SB ⟨l, none⟩ (cxA (L2.CX P w) P w K mg base N qual sc f (.ref c) A outer s H E) (fun cls d _ H => E cls d H) bd m) :
    FnA P w K mg base (L2.CX P w) (k + 1) f fd ps (spF K l io (runF n io m)) := by
  refine F.okA S (fun vs H Q E h => spF_len hio h) fun A outer s H vs Q E hr h => ?_
  have hle : io.length ≤ n := by
    have := congrArg List.length S.pre
    rw [List.length_take] at this
    omega
  exact body_sim (ts := ⟨l, none⟩) rfl hN hle (hb A outer s H E hr) h
end
/-! ### a call -/
/-- f may be called here -/
structure Can (X : Cx) (f : Addr) (fd : FuncData) (ps : List Str) (sp : Sp) : Prop where
  len : ∀ vs H Q E, sp vs H Q E → vs.length = ps.length
  run : ∀ (outer : List Env) (s : Shared) (H : Hp) (args : Args) (us : List Value) (vs : List V) (Q : VK) (E : XK), Env0 X.prog X.w X.K X.mg X.base X.A outer s H → BindsTo s fd args (ps.zip us) → Vals vs us → sp vs H Q E →
    codeAny (model X.prog X.w) X.A (.call (.ref f) args) (CR (L2.CX X.prog X.w) outer X.prog X.w H s Q E) s
section
variable {ts : Tsx} {X : Cx} {W : WX} {f : Addr} {fd : FuncData} {ps : List Str} {sp : Sp} {k : Nat}
theorem can (F : FnOk X.prog X.w X.K X.mg X.base (L2.CX X.prog X.w) k f fd ps sp) (hr : Room k X.A) : Can X f fd ps sp := ⟨F.len, fun outer s H args us vs Q E => F.run X.A outer s H args us vs Q E hr⟩
theorem canA (F : FnA X.prog X.w X.K X.mg X.base (L2.CX X.prog X.w) k f fd ps sp) (hr : RoomH k X.A) : Can X f fd ps sp := ⟨F.len, fun outer s H args us vs Q E => F.run X.A outer s H args us vs Q E hr⟩
theorem run_can {pins : List (Addr × Obj)} {σ : L2.St} {H : Hp} {s : Shared} {Q : VK} {args : Args} {us : List Value} {vs : List V} (F : Can X f fd ps sp) (hb : BindsTo s fd args (ps.zip us)) (tk : Takes X W)
    (I : L2.Inv X pins σ H s) (r : Vals vs us) (h : sp vs H Q (WE W σ)) : wpAny (model X.prog X.w) X.A (call (.ref f) args.pos args.kw) (EP X pins σ Q) X.xe s := by
  refine wpAny_call (codeAny_mono (F.run X.stack s H args us vs Q (WE W σ) I.env0 hb r h) fun r s' hq => ?_)
  cases r with
  | error e => exact passAt tk σ pins H s e s' I hq
  | ok fl =>
    cases fl with
    | ret u => exact I.after hq
    | next => exact False.elim hq
    | brk => exact False.elim hq
    | cont => exact False.elim hq
variable {x : Str} {p pos : Pos} {e : Expr} {es : List Expr} {t : TA}
theorem pe_can (F : Can X f fd ps sp) (tk : Takes X W) (hg : Gl X x) (hm : X.mg x = some (.ref f)) (hk : PySem.W.keepIn X.K (.ref f) = true) (hb : L2.Binds X.K fd ps [])
    (ha : PA X (e :: es) t) (hdb : (x == ("__debug__" : Str)) = false := by decide) (he : starEach (e :: es) X.env = (false, eval e X.env) :: starEach es X.env := by rfl) (hpl : (backTo pos (starEach es X.env)).any (·.1) = false := by rfl) :
    PE X (.Call (.Name x p) (e :: es) [] pos) (tCallS sp (WE W) t) := by
  refine ⟨fun pins s σ H Q I h => ?_⟩
  refine wpAny_Call_Name_kw (ld_glob I hg hm ?_ hdb)
  refine PySem.W.callWith_K (h₀ := X.base) I.ok.mod.kin hk (thn (ha.run pos pins s σ H _ I h) fun us s1 ⟨vs, H1, I1, r, q⟩ => ⟨I1.kIn, ?_⟩) he hpl
  have hl : us.length = ps.length := by rw [← r.length]; exact F.len _ _ _ _ q
  have b := hb s1 us I1.kIn (by rw [List.append_nil]; exact hl)
  rw [List.append_nil] at b
  exact run_can F b tk I1 r q
theorem pe_can0 (F : Can X f fd ps sp) (tk : Takes X W) (hg : Gl X x) (hm : X.mg x = some (.ref f)) (hk : PySem.W.keepIn X.K (.ref f) = true) (hb : L2.Binds X.K fd ps [])
    (hdb : (x == ("__debug__" : Str)) = false := by decide) : PE X (.Call (.Name x p) [] [] pos) (tCallS sp (WE W) tNil) := by
  refine ⟨fun pins s σ H Q I h => ?_⟩
  refine wpAny_Call_Name_kw (ld_glob I hg hm ?_ hdb)
  have hl : ([] : List Value).length = ps.length := F.len [] _ _ _ h
  have b := hb s [] I.kIn (by rw [List.append_nil]; exact hl)
  rw [List.append_nil] at b
  exact PySem.W.callWith_K0 I.kIn hk (run_can F b tk I .nil h)
theorem pe_canK {kws : List Keyword} {tk' : TA} {ks : List Str} {g : List Value → List Value → List Value} {gV : List V → List V → List V} (F : Can X f fd ps sp) (tk : Takes X W) (hg : Gl X x) (hm : X.mg x = some (.ref f)) (hk : PySem.W.keepIn X.K (.ref f) = true) (hb : KBinds X.K fd ps ks g gV)
    (hkw : PK X kws tk') (hall : (backToKw pos (keywordEach kws X.env)).all (·.1.isSome) = true := by rfl) (hks : (backToKw pos (keywordEach kws X.env)).filterMap (·.1) = ks := by rfl)
    (hdb : (x == ("__debug__" : Str)) = false := by decide) (hpl : ((backTo pos (starEach [] X.env)).any (·.1) || (backToKw pos (keywordEach kws X.env)).any (·.1.isNone)) = false := by rfl) :
    PE X (.Call (.Name x p) [] kws pos) (tCallS (fun vs => sp (gV [] vs)) (WE W) tk') := by
  refine ⟨fun pins s σ H Q I h => wpAny_Call_Name_kw (ld_glob I hg hm ?_ hdb)⟩
  refine PySem.W.callWith_KW0 (h₀ := X.base) I.ok.mod.kin hk hall (thn (hkw.run pos pins s σ H _ I h) fun ws s2 hw => ?_) hpl
  obtain ⟨zs, H2, I2, rz, q2⟩ := hw
  refine ⟨I2.kIn, ?_⟩
  rw [hks]
  have r2 := hb.rel .nil rz
  have hl : (g [] ws).length = ps.length := by rw [← r2.length]; exact F.len _ _ _ _ q2
  exact run_can F (hb.to s2 [] ws I2.kIn hl) tk I2 r2 q2
/-! ### what a call is worth -/
def coolA : List Bool → List Vl → EV → Option (List Vl × EV)
  | [], [], Γ => some ([], Γ)
  | true :: io, .bw i :: vs, Γ => (coolA io vs Γ).map fun q => (.bw i :: q.1, q.2)
  | false :: io, v :: vs, Γ => (cool Γ v.op).bind fun p => (coolA io vs p.2).map fun q => (.fz p.1 :: q.1, q.2)
  | _, _, _ => none
def dsOf (Γ : EV) : List Vl → Option (List D)
  | [] => some []
  | .fz d :: vs => (dsOf Γ vs).map fun r => d :: r
  | .bw i :: vs => (ownAt Γ i).bind fun q => (dsOf Γ vs).map fun r => .lst q.2 :: r
  | .ow _ :: _ => none
def ixs : List Vl → List Nat
  | [] => []
  | .bw i :: vs => i :: ixs vs
  | _ :: vs => ixs vs
def putO (Γ : EV) (i : Nat) (es : List D) : EV := match Γ[i]? with
  | some (.ow b _) => Γ.set i (.ow b es)
  | _ => Γ
def put1 (Γ : EV) (v : Vl) (o : Sl) : EV := match v, o with
  | .bw i, .ow _ es => putO Γ i es
  | _, _ => Γ
def putOuts : List Vl → List Sl → EV → EV
  | [], _, Γ => Γ
  | _ :: _, [], Γ => Γ
  | v :: vs, o :: os, Γ => putOuts vs os (put1 Γ v o)
def doCall (io : List Bool) (F : MF) (vals : List Vl) (Γ : EV) : Out Vl := match coolA io vals Γ with
  | none => .no
  | some (vals', Γ1) => if (ixs vals').Nodup then match dsOf Γ1 vals' with
      | none => .no
      | some ds => match F ds with
        | .no => .no
        | .ok r outs => .ok r (putOuts vals' outs Γ1)
        | .rz x => .rz x (wipeE Γ1 (ixs vals'))
    else .no
def mCall (io : List Bool) (F : MF) (ms : MA) : ME := fun Γ => (ms Γ).bind fun vals Γ1 => doCall io F vals Γ1
section
variable {K : PySem.W.Frag} {C : Cn} {σ : L2.St} {H : Hp}
theorem coolA_get : ∀ {io : List Bool} {vals vals' : List Vl} {xs : List V} {Γ Γ1 : EV}, EnvOK K ts C Γ σ H → VOKs K ts C Γ σ H vals xs → coolA io vals Γ = some (vals', Γ1) →
    EnvOK K ts C Γ1 σ H ∧ Go C Γ σ H Γ1 H ∧ vals'.length = xs.length ∧ io.length = xs.length ∧ ∀ (j : Nat) (x : V), xs[j]? = some x → (io[j]? = some true ∧ ∃ i, vals'[j]? = some (Vl.bw i) ∧ σ[i]? = some (some x)) ∨ (io[j]? = some false ∧ ∃ d, vals'[j]? = some (Vl.fz d) ∧ Rep K H (Av C Γ1 σ) d x)
  | [], [], vals', xs, Γ, Γ1, E, h, e => by
    cases e
    obtain rfl : xs = [] := h
    exact ⟨E, Go.refl, rfl, rfl, fun j x q => by simp at q⟩
  | true :: io, .bw i :: vals, vals', xs, Γ, Γ1, E, ⟨v, r, e0, h1, h2⟩, e => by
    obtain ⟨⟨vs2, Γ2⟩, e1, e2⟩ := Option.map_eq_some_iff.mp e
    cases e2
    obtain ⟨E2, g2, l1, l2, q⟩ := coolA_get E h2 e1
    subst e0
    refine ⟨E2, g2, by simp [l1], by simp [l2], fun j x hx => ?_⟩
    cases j with
    | zero =>
      obtain rfl : v = x := by simpa using hx
      exact .inl ⟨rfl, i, rfl, h1⟩
    | succ j => simpa using q j x (by simpa using hx)
  | false :: io, val :: vals, vals', xs, Γ, Γ1, E, ⟨v, r, e0, h1, h2⟩, e => by
    have e : ((cool Γ val.op).bind fun p => (coolA io vals p.2).map fun q => (.fz p.1 :: q.1, q.2)) = some (vals', Γ1) := by
      cases val <;> exact e
    obtain ⟨⟨d, Γ2⟩, e1, e2⟩ := Option.bind_eq_some_iff.mp e
    obtain ⟨⟨vs2, Γ3⟩, e3, e4⟩ := Option.map_eq_some_iff.mp e2
    cases e4
    obtain ⟨E2, g2, r2⟩ := h1.cool E e1
    obtain ⟨E3, g3, l1, l2, q⟩ := coolA_get E2 (h2.go g2) e3
    subst e0
    refine ⟨E3, g2.trans g3, by simp [l1], by simp [l2], fun j x hx => ?_⟩
    cases j with
    | zero =>
      obtain rfl : v = x := by simpa using hx
      exact .inr ⟨rfl, d, rfl, g3.rep r2⟩
    | succ j => simpa using q j x (by simpa using hx)
end
theorem dsOf_get {Γ : EV} : ∀ {vals : List Vl} {ds : List D}, dsOf Γ vals = some ds → ds.length = vals.length ∧ ∀ j : Nat, (∀ d, vals[j]? = some (Vl.fz d) → ds[j]? = some d) ∧ (∀ i, vals[j]? = some (Vl.bw i) → ∃ b es, Γ[i]? = some (Sl.ow b es) ∧ ds[j]? = some (.lst es))
  | [], ds, h => by cases h; exact ⟨rfl, fun j => ⟨fun d e => by simp at e, fun d e => by simp at e⟩⟩
  | .fz d :: vals, ds, h => by
    obtain ⟨r, e1, rfl⟩ := Option.map_eq_some_iff.mp h
    obtain ⟨l, q⟩ := dsOf_get e1
    refine ⟨by simp [l], fun j => ?_⟩
    cases j with
    | zero => exact ⟨fun d' e => by simp at e; simp [e], fun i e => by simp at e⟩
    | succ j => simpa using q j
  | .bw i :: vals, ds, h => by
    obtain ⟨⟨b, es⟩, e0, e1⟩ := Option.bind_eq_some_iff.mp h
    obtain ⟨r, e2, rfl⟩ := Option.map_eq_some_iff.mp e1
    obtain ⟨l, q⟩ := dsOf_get e2
    refine ⟨by simp [l], fun j => ?_⟩
    cases j with
    | zero => exact ⟨fun d' e => by simp at e, fun i' e => by simp at e; subst e; exact ⟨b, es, ownAt_eq e0, rfl⟩⟩
    | succ j => simpa using q j
  | .ow _ :: _, ds, h => by cases h
theorem ixs_mem : ∀ {vals : List Vl} {j i : Nat}, vals[j]? = some (Vl.bw i) → i ∈ ixs vals
  | .bw k :: vals, 0, i, h => by simp at h; subst h; exact List.mem_cons_self
  | .bw k :: vals, j + 1, i, h => List.mem_cons_of_mem _ (ixs_mem (by simpa using h))
  | .fz _ :: vals, 0, i, h => by simp at h
  | .fz _ :: vals, j + 1, i, h => ixs_mem (vals := vals) (by simpa using h)
  | .ow _ :: vals, 0, i, h => by simp at h
  | .ow _ :: vals, j + 1, i, h => ixs_mem (vals := vals) (by simpa using h)
theorem mem_ixs : ∀ {vals : List Vl} {i : Nat}, i ∈ ixs vals → ∃ j : Nat, vals[j]? = some (Vl.bw i)
  | [], i, h => by simp [ixs] at h
  | .bw k :: vals, i, h => by
    rcases List.mem_cons.mp h with h | h
    · exact ⟨0, by rw [h]; rfl⟩
    · obtain ⟨j, e⟩ := mem_ixs h
      exact ⟨j + 1, by simpa using e⟩
  | .fz _ :: vals, i, h => by
    obtain ⟨j, e⟩ := mem_ixs (vals := vals) h
    exact ⟨j + 1, by simpa using e⟩
  | .ow _ :: vals, i, h => by
    obtain ⟨j, e⟩ := mem_ixs (vals := vals) h
    exact ⟨j + 1, by simpa using e⟩
theorem ixs_inj : ∀ {vals : List Vl} {j k i : Nat}, (ixs vals).Nodup → vals[j]? = some (Vl.bw i) → vals[k]? = some (Vl.bw i) → j = k
  | [], j, k, i, _, h, _ => by simp at h
  | .bw m :: vals, j, k, i, hn, h1, h2 => by
    obtain ⟨n1, n2⟩ := List.nodup_cons.mp hn
    cases j with
    | zero =>
      cases k with
      | zero => rfl
      | succ k =>
        simp at h1; subst h1
        exact (n1 (ixs_mem (by simpa using h2))).elim
    | succ j =>
      cases k with
      | zero =>
        simp at h2; subst h2
        exact (n1 (ixs_mem (by simpa using h1))).elim
      | succ k => exact congrArg (· + 1) (ixs_inj n2 (by simpa using h1) (by simpa using h2))
  | .fz _ :: vals, j, k, i, hn, h1, h2 => by
    cases j with
    | zero => simp at h1
    | succ j =>
      cases k with
      | zero => simp at h2
      | succ k => exact congrArg (· + 1) (ixs_inj (vals := vals) hn (by simpa using h1) (by simpa using h2))
  | .ow _ :: vals, j, k, i, hn, h1, h2 => by
    cases j with
    | zero => simp at h1
    | succ j =>
      cases k with
      | zero => simp at h2
      | succ k => exact congrArg (· + 1) (ixs_inj (vals := vals) hn (by simpa using h1) (by simpa using h2))
theorem putO_len {Γ : EV} {i : Nat} {es : List D} : (putO Γ i es).length = Γ.length := by
  unfold putO
  split
  · rw [List.length_set]
  · rfl
theorem putO_ne {Γ : EV} {i j : Nat} {es : List D} (h : j ≠ i) : (putO Γ i es)[j]? = Γ[j]? := by
  unfold putO
  split
  · rw [List.getElem?_set_ne (Ne.symm h)]
  · rfl
theorem putO_eq {Γ : EV} {i : Nat} {b : Bool} {ds es : List D} (h : Γ[i]? = some (Sl.ow b ds)) : (putO Γ i es)[i]? = some (Sl.ow b es) := by
  unfold putO
  rw [h]
  exact List.getElem?_set_self (lt_of_get h)
theorem put1_len {Γ : EV} {v : Vl} {o : Sl} : (put1 Γ v o).length = Γ.length := by
  unfold put1
  split
  · exact putO_len
  · rfl
theorem put1_ne {Γ : EV} {v : Vl} {o : Sl} {i : Nat} (h : v ≠ .bw i) : (put1 Γ v o)[i]? = Γ[i]? := by
  unfold put1
  split
  · rename_i k es b
    exact putO_ne (fun z => h (by rw [z]))
  · rfl
theorem putOuts_len : ∀ {vals : List Vl} {outs : List Sl} {Γ : EV}, (putOuts vals outs Γ).length = Γ.length
  | [], _, _ => rfl
  | _ :: _, [], _ => rfl
  | v :: vals, o :: outs, Γ => by
    show (putOuts vals outs (put1 Γ v o)).length = _
    rw [putOuts_len, put1_len]
theorem ixs_tail {v : Vl} {vals : List Vl} {i : Nat} (h : i ∉ ixs (v :: vals)) : v ≠ .bw i ∧ i ∉ ixs vals := by
  cases v with
  | bw k =>
    have h : i ∉ k :: ixs vals := h
    exact ⟨fun z => h (by cases z; exact List.mem_cons_self), fun z => h (List.mem_cons_of_mem _ z)⟩
  | fz d => exact ⟨fun z => (by cases z), h⟩
  | ow d => exact ⟨fun z => (by cases z), h⟩
theorem putOuts_ne {i : Nat} : ∀ {vals : List Vl} {outs : List Sl} {Γ : EV}, i ∉ ixs vals → (putOuts vals outs Γ)[i]? = Γ[i]?
  | [], _, _, _ => rfl
  | _ :: _, [], _, _ => rfl
  | v :: vals, o :: outs, Γ, h => by
    show (putOuts vals outs (put1 Γ v o))[i]? = _
    rw [putOuts_ne (ixs_tail h).2, put1_ne (ixs_tail h).1]
theorem nodup_tail {v : Vl} {vals : List Vl} (h : (ixs (v :: vals)).Nodup) : (ixs vals).Nodup := by
  cases v with
  | bw k => exact (List.nodup_cons.mp h).2
  | fz d => exact h
  | ow d => exact h
theorem putOuts_eq {i : Nat} {b b' : Bool} {ds es : List D} : ∀ {vals : List Vl} {j : Nat} {outs : List Sl} {Γ : EV}, (ixs vals).Nodup → vals[j]? = some (Vl.bw i) → outs[j]? = some (Sl.ow b' es) → Γ[i]? = some (Sl.ow b ds) → (putOuts vals outs Γ)[i]? = some (Sl.ow b es)
  | [], j, outs, Γ, _, h, _, _ => by simp at h
  | v :: vals, j, [], Γ, _, _, h, _ => by simp at h
  | v :: vals, 0, o :: outs, Γ, hn, hv, ho, hg => by
    obtain rfl : v = .bw i := by simpa using hv
    obtain rfl : o = .ow b' es := by simpa using ho
    show (putOuts vals outs (putO Γ i es))[i]? = _
    rw [putOuts_ne (List.nodup_cons.mp hn).1]
    exact putO_eq hg
  | v :: vals, j + 1, o :: outs, Γ, hn, hv, ho, hg => by
    have hv' : vals[j]? = some (Vl.bw i) := by simpa using hv
    have ho' : outs[j]? = some (Sl.ow b' es) := by simpa using ho
    show (putOuts vals outs (put1 Γ v o))[i]? = _
    refine putOuts_eq (ds := ds) (nodup_tail hn) hv' ho' ?_
    rw [put1_ne (fun z => ?_)]
    · exact hg
    · subst z
      exact (List.nodup_cons.mp hn).1 (ixs_mem hv')
theorem wipeE_ne {Γ : EV} {k : Nat} : ∀ {vs : List Nat}, k ∉ vs → (wipeE Γ vs)[k]? = Γ[k]?
  | [], _ => rfl
  | v :: vs, h => by
    unfold wipeE
    rw [List.getElem?_set_ne (fun z => h (by rw [z]; exact List.mem_cons_self))]
    exact wipeE_ne (fun z => h (List.mem_cons_of_mem _ z))
theorem wipeE_len {Γ : EV} : ∀ {vs : List Nat}, (wipeE Γ vs).length = Γ.length
  | [] => rfl
  | v :: vs => by unfold wipeE; rw [List.length_set, wipeE_len]
theorem nw_tab {M : Addr → Prop} {H H' : Hp} (n : Nw ts.l M H H') : Tb ts.l H' := n.tab
theorem call_sim {F : MF} {io : List Bool} {C : Cn} {Γ1 : EV} {σ : L2.St} {H1 : Hp} {vals : List Vl} {xs : List V} {Q : VK} (E1 : EnvOK X.K ts C Γ1 σ H1) (v1 : VOKs X.K ts C Γ1 σ H1 vals xs)
    (h : Post X.K ts C W σ Γ1 H1 (RE X.K ts C σ) Q (doCall io F vals Γ1)) : spF X.K ts.l io F xs H1 Q (WE W σ) := by
  unfold doCall at h
  split at h
  · exact h.elim
  · rename_i vals' Γ2 e1
    obtain ⟨E2, g2, l1, l2, pt⟩ := coolA_get E1 v1 e1
    split at h
    · rename_i hnd
      split at h
      · exact h.elim
      · rename_i ds e2
        obtain ⟨l3, dg⟩ := dsOf_get e2
        -- the lists handed in
        have arg : ∀ (j : Nat) (a : Addr), io[j]? = some true → xs[j]? = some (V.ref a) → ∃ i b es, vals'[j]? = some (Vl.bw i) ∧ σ[i]? = some (some (V.ref a)) ∧ Γ2[i]? = some (Sl.ow b es) ∧ ds[j]? = some (.lst es) := fun j a h1 h2 => by
          rcases pt j _ h2 with ⟨_, i, k1, k2⟩ | ⟨k, _⟩
          · obtain ⟨b, es, k3, k4⟩ := (dg j).2 i k1
            exact ⟨i, b, es, k1, k2, k3, k4⟩
          · rw [h1] at k; cases k
        have ioOwn : ∀ a, IoA io xs a → Own Γ2 σ a := fun a ⟨j, h1, h2⟩ => let ⟨i, b, es, _, k2, k3, _⟩ := arg j a h1 h2; ⟨i, b, es, k3, k2⟩
        have wf : ∀ a, Zf (fun a => Av C Γ2 σ a ∧ ¬ IoA io xs a) io xs a → Av C Γ2 σ a := fun a z => z.elim (fun z => .inl (ioOwn a z)) fun z => z.1
        have fw : ∀ a, Av C Γ2 σ a → Zf (fun a => Av C Γ2 σ a ∧ ¬ IoA io xs a) io xs a := fun a z => by
          by_cases q : IoA io xs a
          · exact .inl q
          · exact .inr ⟨z, q⟩
        have inIx : ∀ (i : Nat) (b : Bool) (es : List D) (a : Addr), Γ2[i]? = some (Sl.ow b es) → σ[i]? = some (some (V.ref a)) → IoA io xs a → i ∈ ixs vals' := fun i b es a k1 k2 ⟨j, h1, h2⟩ => by
          obtain ⟨i', b', es', q1, q2, q3, _⟩ := arg j a h1 h2
          have := E2.dis i i' a _ _ _ _ k1 q3 k2 q2
          subst this
          exact ixs_mem q1
        have ixIo : ∀ i ∈ ixs vals', ∃ (j : Nat) (a : Addr) (b : Bool) (es : List D), vals'[j]? = some (Vl.bw i) ∧ io[j]? = some true ∧ xs[j]? = some (V.ref a) ∧ σ[i]? = some (some (V.ref a)) ∧ Γ2[i]? = some (Sl.ow b es) := fun i hi => by
          obtain ⟨j, k1⟩ := mem_ixs hi
          have hj : j < xs.length := by rw [← l1]; exact lt_of_get k1
          rcases pt j _ (List.getElem?_eq_getElem hj) with ⟨k2, i', k3, k4⟩ | ⟨_, d, k3, _⟩
          · rw [k1] at k3; cases k3
            obtain ⟨b, es, k5, _⟩ := (dg j).2 i k1
            obtain ⟨a, ys, k6, _⟩ := E2.ow i b es k5
            refine ⟨j, a, b, es, k1, k2, ?_, k6, k5⟩
            rw [k4] at k6
            rw [List.getElem?_eq_getElem hj, Option.some.inj (Option.some.inj k6)]
          · rw [k1] at k3; cases k3
        refine ⟨ds, fun a => Av C Γ2 σ a ∧ ¬ IoA io xs a, ⟨by rw [l3, l1], l2, fun j d v h1 h2 h3 => ?_, fun j d v h1 h2 h3 => ?_, fun i j a h1 h2 h3 h4 => ?_⟩, E2.tb, fun a z => ?_, ?_⟩
        · rcases pt j v h3 with ⟨k, _⟩ | ⟨_, d', k1, k2⟩
          · rw [h1] at k; cases k
          · have := (dg j).1 d' k1
            rw [h2] at this; cases this
            exact k2.weak wf
        · rcases pt j v h3 with ⟨_, i, k1, k2⟩ | ⟨k, _⟩
          · obtain ⟨b, es, k3, k4⟩ := (dg j).2 i k1
            rw [h2] at k4; cases k4
            obtain ⟨a, ys, k5, k6, k7, _⟩ := E2.ow i b es k3
            rw [k2] at k5; cases k5
            exact ⟨es, a, ys, rfl, rfl, k6, k7.weak wf, fun z => z.2 ⟨j, h1, h3⟩⟩
          · rw [h1] at k; cases k
        · obtain ⟨i', b, es, k1, k2, k3, _⟩ := arg i a h1 h3
          obtain ⟨j', b', es', q1, q2, q3, _⟩ := arg j a h2 h4
          have := E2.dis i' j' a _ _ _ _ k3 q3 k2 q2
          subst this
          exact ixs_inj hnd k1 q1
        · obtain ⟨u, e⟩ := E2.trk a z.1
          rcases z.1 with ⟨i, b, es, k1, k2⟩ | z
          · obtain ⟨a', ys, k3, k4, _⟩ := E2.ow i b es k1
            rw [k2] at k3; cases k3
            exact ⟨ys, k4⟩
          · exact E2.z a z
        · split at h
          · rename_i e3
            rw [e3]
            exact h.elim
          · rename_i r outs e3
            rw [e3]
            intro v H' S nw ret outsOK
            -- the frame behind the call
            have main : ∀ (Zx : Addr → Prop), (∀ a, Zx a → (∀ u, H1 a = some u → ∃ ps, u = .tbl ps) ∧ ∃ xs, H' a = some (.lst xs)) → (∀ a, (Av C Γ2 σ a ∨ Zx a) → S a) →
                EnvOK X.K ts (C.zx Zx) (putOuts vals' outs Γ2) σ H' ∧ Go C Γ2 σ H1 (putOuts vals' outs Γ2) H' ∧ St2 (Av C Γ2 σ) H1 (Av (C.zx Zx) (putOuts vals' outs Γ2) σ) H' := fun Zx hz hs => by
              refine E2.turn (Tad := IoA io xs) putOuts_len nw.tab ioOwn (fun b u hb e n => nw.keep b u hb e n) hz fun i => ?_
              by_cases hi : i ∈ ixs vals'
              · obtain ⟨j, a, b, es, k1, k2, k3, k4, k5⟩ := ixIo i hi
                obtain ⟨es', ys, q1, q2, q3⟩ := outsOK j a k2 k3
                exact .inr (.inr ⟨b, es, es', a, ys, k5, putOuts_eq hnd k1 q1 k5, k4, q2, q3.weak hs⟩)
              · exact .inl ⟨putOuts_ne hi, fun b es a k1 k2 z => hi (inIx i b es a k1 k2 z)⟩
            cases r with
            | bw i => exact ret.elim
            | fz d =>
              obtain ⟨hS, hr⟩ := ret
              obtain ⟨E3, g3, s3⟩ := main (fun _ => False) (fun a z => z.elim) fun a z => by rw [hS]; exact z.elim (fw a) False.elim
              have w3 : ∀ a, Av C (putOuts vals' outs Γ2) σ a → S a := fun a z => by
                rw [hS]
                exact fw a (z.elim (fun z => .inl (g3.sub a z)) .inr)
              exact h v H' (E3.unzx E2.gz) (g2.trans g3) (Rep.weak w3 hr)
            | ow es =>
              obtain ⟨p, ys, rfl, hS, np, fp, hp, hr⟩ := ret
              obtain ⟨E3, g3, s3⟩ := main (fun a => a = p) (fun a z => by rw [z]; exact ⟨fp, ys, hp⟩) fun a z => by
                rw [hS]; exact z.elim (fun z => .inl (fw a z)) .inr
              refine h (.ref p) H' (E3.unzx E2.gz) (g2.trans g3) ⟨p, ys, rfl, fun z => np (fw p (.inr z)), ?_, E3, hp, hr.weak fun a z => ?_⟩
              · by_cases hm : C.M p
                · exact .inl hm
                · refine .inr fun u e => ?_
                  by_cases hn : ∃ ps, u = .tbl ps
                  · exact hn
                  · exact fp u (E2.fr.keep p u hm e (fun ps z => hn ⟨ps, z⟩))
              · rw [hS]
                rcases z with z | z | z
                · exact .inl (fw a (.inl (g3.sub a z)))
                · exact .inl (fw a (.inr z))
                · exact .inr z
          · rename_i x e3
            rw [e3]
            intro cls d H' nw hx
            have main := E2.turn (Γ' := wipeE Γ2 (ixs vals')) (H' := H') (Zx := fun _ => False) (Tad := IoA io xs) wipeE_len nw.tab ioOwn (fun b u hb e n => nw.keep b u hb e n) (fun a z => z.elim) fun i => by
              by_cases hi : i ∈ ixs vals'
              · obtain ⟨j, a, b, es, k1, k2, k3, k4, k5⟩ := ixIo i hi
                rcases wipeE_get Γ2 (ixs vals') i hi with q | q
                · exact .inr (.inl q)
                · have : i < (wipeE Γ2 (ixs vals')).length := by rw [wipeE_len]; exact lt_of_get k5
                  rw [List.getElem?_eq_getElem this] at q; cases q
              · exact .inl ⟨wipeE_ne hi, fun b es a k1 k2 z => hi (inIx i b es a k1 k2 z)⟩
            refine h cls d H' (main.1.unzx E2.gz) ?_
            obtain ⟨k1, dd, us, k2, k3, k4, k5⟩ := hx
            refine ⟨k1, dd, us, k2, k3, k4, k5.weak fun a z => ?_⟩
            rcases z with ⟨i, b, es, q1, q2⟩ | z
            · have hi : i ∉ ixs vals' := fun hi => by
                rcases wipeE_get Γ2 (ixs vals') i hi with q | q
                · rw [q1] at q; cases q
                · rw [q1] at q; cases q
              rw [wipeE_ne hi] at q1
              exact ⟨.inl ⟨i, b, es, q1, q2⟩, fun z => hi (inIx i b es a q1 q2 z)⟩
            · exact ⟨.inr z, fun q => E2.nz a (ioOwn a q) z⟩
    · exact h.elim
variable {F : MF} {io : List Bool} {ms : MA}
theorem se_call (hF : Can X f fd ps (spF X.K ts.l io F)) (tk : Takes X W) (hg : Gl X x) (hm : X.mg x = some (.ref f)) (hk : PySem.W.keepIn X.K (.ref f) = true) (hb : L2.Binds X.K fd ps [])
    (ha : SA ts X W (e :: es) ms) (hdb : (x == ("__debug__" : Str)) = false := by decide) (he : starEach (e :: es) X.env = (false, eval e X.env) :: starEach es X.env := by rfl) (hpl : (backTo pos (starEach es X.env)).any (·.1) = false := by rfl) :
    SE ts X W (.Call (.Name x p) (e :: es) [] pos) (mCall io F ms) := by
  obtain ⟨t, pa, s⟩ := ha
  exact ⟨_, pe_can hF tk hg hm hk hb pa hdb he hpl, fun C Γ σ H Q E h => s C Γ σ H _ E (Post.bind h fun vals Γ1 xs H1 E1 g1 v1 h1 => call_sim E1 v1 h1)⟩
theorem se_call0 (hF : Can X f fd ps (spF X.K ts.l io F)) (tk : Takes X W) (hg : Gl X x) (hm : X.mg x = some (.ref f)) (hk : PySem.W.keepIn X.K (.ref f) = true) (hb : L2.Binds X.K fd ps [])
    (hdb : (x == ("__debug__" : Str)) = false := by decide) : SE ts X W (.Call (.Name x p) [] [] pos) (mCall io F mNil) := by
  refine ⟨_, pe_can0 hF tk hg hm hk hb hdb, fun C Γ σ H Q E h => ?_⟩
  exact call_sim (vals := []) E rfl h
/-- keyword arguments alone, as they are written -/
structure SK (ts : Tsx) (X : Cx) (W : WX) (kws : List Keyword) (m : MA) : Prop where
  ex : ∃ t : TA, PK X kws t ∧ ∀ (C : Cn) (Γ : EV) (σ : L2.St) (H : Hp) (Q : List V → Hp → Prop), EnvOK X.K ts C Γ σ H → Post X.K ts C W σ Γ H (RA X.K ts C σ) Q (m Γ) → t σ H Q
theorem sk_nil : SK ts X W [] mNil := ⟨tNil, pk_nil, fun C Γ σ H Q E h => h [] H E Go.refl rfl⟩
theorem sk_cons {nm : Option Str} {kpos : Pos} {kws : List Keyword} {m : ME} (ha : SE ts X W e m) (hs : SK ts X W kws ms) : SK ts X W (⟨nm, e, kpos⟩ :: kws) (mCons m ms) := by
  obtain ⟨ta, pa, sa⟩ := ha
  obtain ⟨tb, pb, sb⟩ := hs
  refine ⟨tCons ta tb, pk_cons pa pb, fun C Γ σ H Q E h => sa C Γ σ H _ E (Post.bind h fun v Γ1 x H1 E1 g1 v1 h1 => ?_)⟩
  refine sb C Γ1 σ H1 _ E1 (Post.bind h1 fun vs Γ2 xs H2 E2 g2 v2 h2 => ?_)
  exact h2 (x :: xs) H2 E2 Go.refl ⟨x, xs, rfl, by rw [Vl.op_op]; exact (v1.op).go g2, v2⟩
/-- in another sequence -/
def gp {α : Type} (π : List Nat) (us : List α) (l : List α) : List α := match us with
  | [] => π.filterMap fun j => l[j]?
  | _ => []
theorem gp_nil {α : Type} {us l : List α} : gp [] us l = [] := by cases us <;> rfl
theorem gp_cons {α : Type} {j : Nat} {π : List Nat} {l : List α} : gp (j :: π) [] l = match l[j]? with
  | some a => a :: gp π [] l
  | none => gp π [] l := by
  show (j :: π).filterMap _ = _
  rw [List.filterMap_cons]
  cases l[j]? <;> rfl
theorem VOKs.get {K : PySem.W.Frag} {C : Cn} {Γ : EV} {σ : L2.St} {H : Hp} : ∀ {vals : List Vl} {xs : List V}, VOKs K ts C Γ σ H vals xs → vals.length = xs.length ∧ ∀ (j : Nat) (v : Vl), vals[j]? = some v → ∃ x, xs[j]? = some x ∧ VOK K ts C Γ σ H v.op x
  | [], xs, h => by
    obtain rfl : xs = [] := h
    exact ⟨rfl, fun j v e => by simp at e⟩
  | v :: vals, xs, ⟨x, r, e, h1, h2⟩ => by
    obtain ⟨l, q⟩ := VOKs.get h2
    subst e
    refine ⟨by simp [l], fun j w e => ?_⟩
    cases j with
    | zero => simp at e; subst e; exact ⟨x, rfl, h1⟩
    | succ j => simpa using q j w (by simpa using e)
theorem VOKs.perm {K : PySem.W.Frag} {C : Cn} {Γ : EV} {σ : L2.St} {H : Hp} {vals : List Vl} {xs : List V} (h : VOKs K ts C Γ σ H vals xs) : ∀ π : List Nat, VOKs K ts C Γ σ H (gp π [] vals) (gp π [] xs)
  | [] => rfl
  | j :: π => by
    obtain ⟨l, q⟩ := h.get
    have ih := VOKs.perm h π
    rw [gp_cons, gp_cons]
    cases e : vals[j]? with
    | none =>
      have e2 : xs[j]? = none := List.getElem?_eq_none (by rw [← l]; exact List.getElem?_eq_none_iff.mp e)
      rw [e2]
      exact ih
    | some v =>
      obtain ⟨x, e2, h2⟩ := q j v e
      rw [e2]
      exact ⟨x, _, rfl, h2, ih⟩
def mCallK (π : List Nat) (io : List Bool) (F : MF) (ms : MA) : ME := fun Γ => (ms Γ).bind fun vals Γ1 => doCall io F (gp π [] vals) Γ1
theorem se_callK {kws : List Keyword} {ks : List Str} {π : List Nat} (hF : Can X f fd ps (spF X.K ts.l io F)) (tk : Takes X W) (hg : Gl X x) (hm : X.mg x = some (.ref f)) (hk : PySem.W.keepIn X.K (.ref f) = true) (hb : KBinds X.K fd ps ks (gp π) (gp π))
    (ha : SK ts X W kws ms) (hall : (backToKw pos (keywordEach kws X.env)).all (·.1.isSome) = true := by rfl) (hks : (backToKw pos (keywordEach kws X.env)).filterMap (·.1) = ks := by rfl)
    (hdb : (x == ("__debug__" : Str)) = false := by decide) (hpl : ((backTo pos (starEach [] X.env)).any (·.1) || (backToKw pos (keywordEach kws X.env)).any (·.1.isNone)) = false := by rfl) :
    SE ts X W (.Call (.Name x p) [] kws pos) (mCallK π io F ms) := by
  obtain ⟨t, pa, s⟩ := ha
  exact ⟨_, pe_canK hF tk hg hm hk hb pa hall hks hdb hpl, fun C Γ σ H Q E h => s C Γ σ H _ E (Post.bind h fun vals Γ1 xs H1 E1 g1 v1 h1 => call_sim E1 (v1.perm π) h1)⟩
end
end SX

set_option Elab.async false
set_option linter.all false
set_option maxRecDepth 100000
set_option maxHeartbeats 4000000
namespace SX
open PySem PySem.Spec PyProof.Rows L2 L2H XT GX RD GenW GxR
/-! ### the readings of statements and arguments that their meanings give -/
def cS (K : PySem.W.Frag) (ts : Tsx) (W : WX) (m : MS) : TS := fun D σ H => ∃ C Γ, EnvOK K ts C Γ σ H ∧ PostS K ts C W D (m Γ)
def cA (K : PySem.W.Frag) (ts : Tsx) (W : WX) (m : MA) : TA := fun σ H Q => ∃ C Γ, EnvOK K ts C Γ σ H ∧ Post K ts C W σ Γ H (RA K ts C σ) Q (m Γ)
section
variable {ts : Tsx} {X : Cx} {W : WX}
theorem SB.pss {st : List Stmt} {m : MS} (h : SB ts X W st m) : PSs X st (cS X.K ts W m) := by
  obtain ⟨t, p, s⟩ := h
  exact ⟨fun pins s0 σ H D I ⟨C, Γ, E, hp⟩ => p.run pins s0 σ H D I (s C Γ σ H D E hp)⟩
theorem SA.pa {es : List Expr} {m : MA} (h : SA ts X W es m) : PA X es (cA X.K ts W m) := by
  obtain ⟨t, p, s⟩ := h
  exact ⟨fun pos pins s0 σ H Q I ⟨C, Γ, E, hp⟩ => p.run pos pins s0 σ H Q I (s C Γ σ H Q E hp)⟩
theorem cA_mono {K : PySem.W.Frag} {m : MA} {σ : L2.St} {H : Hp} (Q1 Q2 : List V → Hp → Prop) (h : ∀ vs H, Q1 vs H → Q2 vs H) (q : cA K ts W m σ H Q1) : cA K ts W m σ H Q2 := by
  obtain ⟨C, Γ, E, hp⟩ := q
  refine ⟨C, Γ, E, ?_⟩
  cases e : m Γ with
  | no => rw [e] at hp; exact hp
  | ok a Γ' => rw [e] at hp; exact fun b H' E' g r => h _ _ (hp b H' E' g r)
  | rz x Γ' => rw [e] at hp; exact hp
/-! ### raise -/
def mRaise (c : Str) (fs : List Str) (ms : MA) : MS := fun Γ => (ms Γ).bind fun vals Γ1 => match cools Γ1 vals with
  | some (ds, Γ2) => if ds.length = fs.length then .rz ⟨c, (fs.zip ds).reverse⟩ Γ2 else .no
  | none => .no
theorem raise2 {e : Expr} {es : List Expr} {ms : MA} {p pos pos' : Pos} {x : Str} {fI : Addr} {k : Nat} {fd : FuncData} {ps : List Str} {f1 f2 : Str} (hc : X.calm = true) (tk : Takes X W) (hx : He.ga X.K x = He.ga X.K x) (oex : OexC X.K (He.ga X.K x)) (iC : PySem.W.findIn X.K (.ref (He.ga X.K x)) "__init__" = some (some (.ref fI))) (tI : PySem.W.typeIn X.K (.ref fI) = some (.type "function"))
    (F : FnOk X.prog X.w X.K X.mg X.base (L2.CX X.prog X.w) k fI fd ps (spInit2 (He.ga X.K x) f1 f2)) (hr : Room (k + 1) X.A) (hb : L2.Binds X.K fd ps []) (hg : Gl X x) (hm : X.mg x = some (.ref (He.ga X.K x))) (ha : SA ts X W (e :: es) ms)
    (hdb : (x == ("__debug__" : Str)) = false := by decide) (he : starEach (e :: es) X.env = (false, eval e X.env) :: starEach es X.env := by rfl) (hpl : (backTo pos (starEach es X.env)).any (·.1) = false := by rfl) :
    S1 ts X W (.Raise (some (.Call (.Name x p) (e :: es) [] pos)) none pos') (mRaise x [f1, f2] ms) := by
  refine ⟨_, ps_raise hc tk (pmk_oex oex iC tI F hr hb .nil passL hg hm ha.pa hdb he hpl), fun C Γ σ H D E h => ?_⟩
  refine mk2 (ta := cA X.K ts W ms) ⟨C, Γ, E, PostS.bind h fun vals Γ1 xs H1 E1 g1 v1 h1 => ?_⟩ (fun Q1 Q2 h => cA_mono Q1 Q2 h)
  split at h1
  · rename_i ds Γ2 e1
    obtain ⟨E2, g2, r2⟩ := v1.cools E1 e1
    split at h1
    · rename_i hl
      match ds, hl, r2, h1 with
      | [d1, d2], _, r2, h1 =>
        obtain ⟨a, r, rfl, q1, q2⟩ := Reps.cons_iff.mp r2
        obtain ⟨b, r', rfl, q3, q4⟩ := Reps.cons_iff.mp q2
        obtain rfl := Reps.nil_iff.mp q4
        refine ⟨a, b, rfl, fun d hd => ?_⟩
        have g : Go C Γ2 σ H1 Γ2 (upd H1 d (.xd [(f2, b), (f1, a)])) := go_more (keep_new hd)
        exact h1 C _ _ σ _ Ext.refl (E2.new hd) ⟨rfl, d, _, rfl, upd_same, rfl, Reps.cons_iff.mpr ⟨_, _, rfl, g.rep q3, Reps.cons_iff.mpr ⟨_, _, rfl, g.rep q1, Reps.nil_iff.mpr rfl⟩⟩⟩
    · exact h1.elim
  · exact h1.elim
/-! ### the error that a suite holds -/
theorem Flds.look {K : PySem.W.Frag} {H : Hp} {S : Addr → Prop} : ∀ {fs : List (Str × D)} {vs : List (Str × V)} {n : Str} {d : D}, Flds K H S fs vs → fs.lookup n = some d → ∃ v, vs.lookup n = some v ∧ Rep K H S d v
  | [], vs, n, d, h, e => by cases e
  | (m, d0) :: fs, vs, n, d, ⟨h1, h2⟩, e => by
    cases vs with
    | nil => simp at h1
    | cons v vs =>
      obtain ⟨m', v0⟩ := v
      simp only [List.map_cons, List.cons.injEq] at h1
      obtain ⟨rfl, h1⟩ := h1
      simp only [List.map_cons] at h2
      obtain ⟨v1, r, e1, r1, r2⟩ := Reps.cons_iff.mp h2
      cases e1
      rw [List.lookup_cons] at e ⊢
      cases hq : (n == m') with
      | true =>
        rw [hq] at e
        cases e
        exact ⟨v0, rfl, r1⟩
      | false =>
        rw [hq] at e
        obtain ⟨v, q1, q2⟩ := Flds.look (fs := fs) (vs := vs) ⟨h1, r2⟩ e
        exact ⟨v, q1, q2⟩
theorem pe_never {e : Expr} : PE X e (fun _ _ _ => False) := ⟨fun _ _ _ _ _ _ h => h.elim⟩
def exAt (Γ : EV) (i : Nat) : Option (Str × List (Str × D)) := match Γ[i]? with
  | some (.ex c fs) => some (c, fs)
  | _ => none
theorem exAt_eq {Γ : EV} {i : Nat} {c : Str} {fs : List (Str × D)} (h : exAt Γ i = some (c, fs)) : Γ[i]? = some (Sl.ex c fs) := by
  unfold exAt at h
  split at h
  · cases h; assumption
  · cases h
def mIsX (i : Nat) (tab : Str → Option Bool) : ME := fun Γ => match exAt Γ i with
  | some (c, _) => match tab c with
    | some b => .ok (.fz (.bl b)) Γ
    | none => .no
  | none => .no
variable {a : Addr} {oe : Obj} {cls : Value} {dd : Option Addr} {pn : List (Addr × Obj)} {l : List Addr} {q pos : Pos} {i : Nat} {e : Expr} {n x : Str} {p1 px : Pos}
theorem se_isX {tab : Str → Option Bool} {vc : V} {cv : Value} (hz : Zc cls dd oe) (hf : ∃ vs, oe.data = .fields vs) (ht : ∀ c b, tab c = some b → ExcC X.K (He.ga X.K c) ∧ PySem.W.kitOne X.K (.ref (He.ga X.K c)) cv = some b) (hv : ∀ u, RelV vc u → u = cv)
    (hg : Gl X "isinstance") (hm : X.mg "isinstance" = none) (ho : PE (X.suite a ((a, oe) :: pn)) (.Name x px) (tVar i)) (hn : PE (X.suite a ((a, oe) :: pn)) (.Name n p1) (tC vc))
    (he : starEach [.Name x px, .Name n p1] X.env = (false, eval (.Name x px) X.env) :: starEach [.Name n p1] X.env := by rfl) (hpl : (backTo pos (starEach [.Name n p1] X.env)).any (·.1) = false := by rfl)
    (he2 : starEach [.Name n p1] X.env = (false, eval (.Name n p1) X.env) :: starEach [] X.env := by rfl) :
    SE ⟨l, some ⟨a, cls, dd⟩⟩ (X.suite a ((a, oe) :: pn)) W (.Call (.Name "isinstance" q) [.Name x px, .Name n p1] [] pos) (mIsX i tab) := by
  by_cases hc : ∃ c, cls = .ref (He.ga X.K c) ∧ ExcC X.K (He.ga X.K c)
  · obtain ⟨c0, hcls, hC⟩ := hc
    refine ⟨_, pe_callB (X := X.suite a ((a, oe) :: pn)) (call_isX hC hz hf) hg hm (by decide +kernel) (pa_cons ho (pa_cons hn pa_nil he2) he) (by decide) (by decide) he hpl, fun C Γ σ H Q E h => ?_⟩
    unfold mIsX at h
    split at h
    · rename_i c fs e1
      split at h
      · rename_i b e2
        obtain ⟨q, k1, k2, k3, d, vs, k4, k5, k6⟩ := E.ex i c fs (exAt_eq e1)
        have k1 : some (⟨a, cls, dd⟩ : Cur) = some q := k1
        cases k1
        have k3 : cls = .ref (He.ga X.K c) := k3
        obtain ⟨_, hk⟩ := ht c b e2
        refine ⟨.ref a, k2, vc, cv, b, d, vs, rfl, hcls, k4, k5, hv, ?_, h _ H E Go.refl rfl⟩
        have : He.ga X.K c = He.ga X.K c0 := Value.ref.inj (k3.symm.trans hcls)
        rw [← this]
        exact hk
      · exact h.elim
    · exact h.elim
  · refine ⟨_, pe_never, fun C Γ σ H Q E h => ?_⟩
    unfold mIsX at h
    split at h
    · rename_i c fs e1
      split at h
      · rename_i b e2
        obtain ⟨q, k1, k2, k3, d, vs, k4, k5, k6⟩ := E.ex i c fs (exAt_eq e1)
        have k1 : some (⟨a, cls, dd⟩ : Cur) = some q := k1
        cases k1
        exact hc ⟨c, k3, (ht c b e2).1⟩
      · exact h.elim
    · exact h.elim
def mXf (i : Nat) (tab : Str → Bool) (n : Str) : ME := fun Γ => match exAt Γ i with
  | some (c, fs) => if tab c = true then match fs.lookup n with
      | some d => .ok (.fz d) Γ
      | none => .no
    else .no
  | none => .no
theorem se_xf {tab : Str → Bool} (hz : Zc cls dd oe) (hf : ∃ vs, oe.data = .fields vs) (ht : ∀ c, tab c = true → XfC X.K (He.ga X.K c) ∧ PySem.W.findIn X.K (.ref (He.ga X.K c)) n = some none)
    (ho : PE (X.suite a ((a, oe) :: pn)) (.Name x px) (tVar i)) (hb : attributeBase (.Name x px) n X.env (eval (.Name x px) X.env) = eval (.Name x px) X.env := by rfl) :
    SE ⟨l, some ⟨a, cls, dd⟩⟩ (X.suite a ((a, oe) :: pn)) W (.Attribute (.Name x px) n pos) (mXf i tab n) := by
  by_cases hc : ∃ c, cls = .ref (He.ga X.K c) ∧ XfC X.K (He.ga X.K c) ∧ PySem.W.findIn X.K (.ref (He.ga X.K c)) n = some none
  · obtain ⟨c0, hcls, hC, hn⟩ := hc
    refine ⟨_, pe_xf hC hn hz hf ho hb, fun C Γ σ H Q E h => ?_⟩
    unfold mXf at h
    split at h
    · rename_i c fs e1
      split at h
      · split at h
        · rename_i dv e2
          obtain ⟨q, k1, k2, k3, d, vs, k4, k5, k6⟩ := E.ex i c fs (exAt_eq e1)
          have k1 : some (⟨a, cls, dd⟩ : Cur) = some q := k1
          cases k1
          obtain ⟨v, q1, q2⟩ := k6.look e2
          exact ⟨.ref a, k2, rfl, hcls, d, vs, v, k4, k5, q1, h v H E Go.refl q2⟩
        · exact h.elim
      · exact h.elim
    · exact h.elim
  · refine ⟨_, pe_never, fun C Γ σ H Q E h => ?_⟩
    unfold mXf at h
    split at h
    · rename_i c fs e1
      split at h
      · rename_i e2
        obtain ⟨q, k1, k2, k3, d, vs, k4, k5, k6⟩ := E.ex i c fs (exAt_eq e1)
        have k1 : some (⟨a, cls, dd⟩ : Cur) = some q := k1
        cases k1
        exact hc ⟨c, k3, ht c e2⟩
      · exact h.elim
    · exact h.elim
/-! ### try -/
def clrEx (Γ : EV) : EV := Γ.map fun s => match s with
  | .ex _ _ => .no
  | s => s
theorem clrEx_get {Γ : EV} {i : Nat} {s : Sl} (h : (clrEx Γ)[i]? = some s) (hn : s ≠ .no) : Γ[i]? = some s := by
  unfold clrEx at h
  rw [List.getElem?_map] at h
  obtain ⟨s0, e1, e2⟩ := Option.map_eq_some_iff.mp h
  rw [e1]
  cases s0 with
  | ex c fs => exact (hn e2.symm).elim
  | no => exact congrArg some e2
  | ow b d => exact congrArg some e2
  | oo d => exact congrArg some e2
  | fz d => exact congrArg some e2
theorem clrEx_ow {Γ : EV} {i : Nat} {b : Bool} {ds : List D} (h : Γ[i]? = some (Sl.ow b ds)) : (clrEx Γ)[i]? = some (Sl.ow b ds) := by
  unfold clrEx
  rw [List.getElem?_map, h]
  rfl
theorem clrEx_no {Γ : EV} {i : Nat} {c : Str} {fs : List (Str × D)} : (clrEx Γ)[i]? ≠ some (Sl.ex c fs) := fun h => by
  unfold clrEx at h
  rw [List.getElem?_map] at h
  obtain ⟨s0, e1, e2⟩ := Option.map_eq_some_iff.mp h
  cases s0 <;> cases e2
section
variable {K : PySem.W.Frag} {C : Cn} {Γ : EV} {σ : L2.St} {H : Hp} {c1 c2 : Option Cur}
theorem own_clr {a : Addr} : Own (clrEx Γ) σ a ↔ Own Γ σ a := by
  constructor
  · rintro ⟨i, b, ds, h1, h2⟩
    exact ⟨i, b, ds, clrEx_get h1 (fun z => by cases z), h2⟩
  · rintro ⟨i, b, ds, h1, h2⟩
    exact ⟨i, b, ds, clrEx_ow h1, h2⟩
theorem EnvOK.clr (E : EnvOK K ⟨l, c1⟩ C Γ σ H) : EnvOK K ⟨l, c2⟩ C (clrEx Γ) σ H := by
  have w : ∀ a, Av C (clrEx Γ) σ a → Av C Γ σ a := fun a z => z.elim (fun z => .inl (own_clr.mp z)) .inr
  refine ⟨?_, fun i d e => ?_, fun i b ds e => ?_, fun i c fs e => (clrEx_no e).elim, fun i j a b c ds es e f e' f' => ?_, fun a h => E.nz a (own_clr.mp h), E.fr, fun a h => E.fo a (own_clr.mp h), E.z, fun p hp => (E.hd p hp).weak w, E.gz, E.oo.go rfl (St2.same w) (fun i dss e => ⟨clrEx_get e (fun z => by cases z), rfl⟩) fun _ _ _ _ _ _ _ e => e⟩
  · unfold clrEx; rw [List.length_map]; exact E.len
  · obtain ⟨v, h1, h2⟩ := E.fz i d (clrEx_get e (fun z => by cases z))
    exact ⟨v, h1, h2.weak w⟩
  · obtain ⟨a, xs, h1, h2, h3, h4⟩ := E.ow i b ds (clrEx_get e (fun z => by cases z))
    exact ⟨a, xs, h1, h2, h3.weak w, h4⟩
  · exact E.dis i j a b c ds es (clrEx_get e (fun z => by cases z)) (clrEx_get f (fun z => by cases z)) e' f'
theorem EnvOK.recur (E : EnvOK K ⟨l, none⟩ C Γ σ H) : EnvOK K ⟨l, c2⟩ C Γ σ H :=
  ⟨E.len, E.fz, E.ow, fun i c fs e => (by obtain ⟨q, h, _⟩ := E.ex i c fs e; cases h), E.dis, E.nz, E.fr, E.fo, E.z, E.hd, E.gz, E.oo⟩
theorem EnvOK.putX {i : Nat} {x : Er} {a : Addr} {cls : Value} {d : Option Addr} (E : EnvOK K ⟨l, none⟩ C Γ σ H) (hx : XOK K H (Av C Γ σ) x cls d) : EnvOK K ⟨l, some ⟨a, cls, d⟩⟩ C (Γ.set i (.ex x.c x.fs)) (σ.set i (some (.ref a))) H := by
  have E := E.recur (c2 := some ⟨a, cls, d⟩)
  have noex : ∀ (j : Nat) (c : Str) (fs : List (Str × D)), Γ[j]? = some (Sl.ex c fs) → ∃ q, (some (⟨a, cls, d⟩ : Cur)) = some q ∧ σ[j]? = some (some (V.ref q.a)) ∧ XOK K H (Av C Γ σ) ⟨c, fs⟩ q.cls q.d := E.ex
  by_cases hl : i < Γ.length
  · have hl' : i < σ.length := by rw [← E.len]; exact hl
    have ne : ∀ {j : Nat} {s : Sl}, (Γ.set i (.ex x.c x.fs))[j]? = some s → (j = i ∧ s = .ex x.c x.fs) ∨ (j ≠ i ∧ Γ[j]? = some s) := fun {j s} e => by
      by_cases hj : j = i
      · subst hj
        rw [List.getElem?_set_self hl] at e; cases e
        exact .inl ⟨rfl, rfl⟩
      · rw [List.getElem?_set_ne (Ne.symm hj)] at e
        exact .inr ⟨hj, e⟩
    have sub : ∀ b, Own (Γ.set i (.ex x.c x.fs)) (σ.set i (some (.ref a))) b → Own Γ σ b := fun b ⟨j, bb, es, h1, h2⟩ => by
      rcases ne h1 with ⟨_, z⟩ | ⟨hj, h1⟩
      · cases z
      · rw [List.getElem?_set_ne (Ne.symm hj)] at h2
        exact ⟨j, bb, es, h1, h2⟩
    have w : ∀ b, Av C (Γ.set i (.ex x.c x.fs)) (σ.set i (some (.ref a))) b → Av C Γ σ b := fun b z => z.elim (fun z => .inl (sub b z)) .inr
    refine ⟨by rw [List.length_set, List.length_set]; exact E.len, fun j d' e => ?_, fun j bb es e => ?_, fun j c fs e => ?_, fun j k b b1 b2 es fs e f e' f' => ?_, fun b z => E.nz b (sub b z), E.fr, fun b z => E.fo b (sub b z), E.z, fun p hp => (E.hd p hp).weak w, E.gz, E.oo.go rfl (St2.same w) (fun j dss e => oo_setS (fun _ z => by cases z) e) fun _ _ _ _ _ _ _ e => e⟩
    · rcases ne e with ⟨_, z⟩ | ⟨hj, e⟩
      · cases z
      · rw [List.getElem?_set_ne (Ne.symm hj)]
        obtain ⟨u, h1, h2⟩ := E.fz j d' e
        exact ⟨u, h1, h2.weak w⟩
    · rcases ne e with ⟨_, z⟩ | ⟨hj, e⟩
      · cases z
      · rw [List.getElem?_set_ne (Ne.symm hj)]
        obtain ⟨b, ys, h1, h2, h3, h4⟩ := E.ow j bb es e
        exact ⟨b, ys, h1, h2, h3.weak w, h4⟩
    · rcases ne e with ⟨rfl, z⟩ | ⟨hj, e⟩
      · cases z
        obtain ⟨e0, dd, vs, e1, e2, f1, f2⟩ := hx
        exact ⟨⟨a, cls, d⟩, rfl, List.getElem?_set_self hl', e0, dd, vs, e1, e2, f1, f2.weak w⟩
      · rw [List.getElem?_set_ne (Ne.symm hj)]
        obtain ⟨q, h1, h2, e0, dd, vs, e1, e2, f1, f2⟩ := E.ex j c fs e
        exact ⟨q, h1, h2, e0, dd, vs, e1, e2, f1, f2.weak w⟩
    · rcases ne e with ⟨_, z⟩ | ⟨hj, e⟩
      · cases z
      · rcases ne f with ⟨_, z⟩ | ⟨hk, f⟩
        · cases z
        · rw [List.getElem?_set_ne (Ne.symm hj)] at e'
          rw [List.getElem?_set_ne (Ne.symm hk)] at f'
          exact E.dis j k b b1 b2 es fs e f e' f'
  · have h1 : Γ.set i (.ex x.c x.fs) = Γ := List.set_eq_of_length_le (Nat.le_of_not_lt hl)
    have h2 : σ.set i (some (.ref a)) = σ := List.set_eq_of_length_le (by rw [← E.len]; exact Nat.le_of_not_lt hl)
    rw [h1, h2]
    exact E
end
/-- behind a suite: its error is gone -/
def clrO (f : EV → EV) : Out Fl → Out Fl
  | .ok (.rt (.bw _)) _ => .no
  | .ok fl Γ => .ok fl (f (clrEx Γ))
  | _ => .no
def mHds : List ((Str → Option Bool) × MS) → Er → MS
  | [], x => fun Γ => .rz x Γ
  | (tab, s) :: hs, x => fun Γ => match tab x.c with
    | some true => clrO id (s Γ)
    | some false => mHds hs x Γ
    | none => .no
def mTryAs (i : Nat) (tab : Str → Option Bool) (suite : MS) (hs : List ((Str → Option Bool) × MS)) (body : MS) : MS := fun Γ => match body Γ with
  | .rz x Γ1 => match tab x.c with
    | some true => if freeAt Γ1 i = true then clrO (fun Γ => Γ.set i .no) (suite (Γ1.set i (.ex x.c x.fs))) else .no
    | some false => mHds hs x Γ1
    | none => .no
  | o => o
def mTry (hs : List ((Str → Option Bool) × MS)) (body : MS) : MS := fun Γ => match body Γ with
  | .rz x Γ1 => mHds hs x Γ1
  | o => o
/-- what a test of a clause asks of the classes -/
def TabOK (K : PySem.W.Frag) (c : Value) (tab : Str → Option Bool) : Prop := ∀ x b, tab x = some b → PySem.W.exmOne K (.ref (He.ga K x)) c = some b
theorem VOK.clr {K : PySem.W.Frag} {C : Cn} {Γ : EV} {σ : L2.St} {H : Hp} {c1 c2 : Option Cur} {val : Vl} {v : V} (hb : ∀ i, val ≠ .bw i) (h : VOK K ⟨l, c1⟩ C Γ σ H val v) : VOK K ⟨l, c2⟩ C (clrEx Γ) σ H val v := by
  have w : ∀ {C : Cn} (a : Addr), Av C (clrEx Γ) σ a → Av C Γ σ a := fun {C} a z => z.elim (fun z => .inl (own_clr.mp z)) .inr
  cases val with
  | fz d => exact Rep.weak w h
  | bw i => exact (hb i rfl).elim
  | ow ds =>
    obtain ⟨p, xs, e, h1, h2, h3, h4, h5⟩ := h
    exact ⟨p, xs, e, h1, h2, h3.clr, h4, h5.weak w⟩
/-- a suite's end is the statement's end -/
theorem clr_id {K : PySem.W.Frag} {C : Cn} {W2 : WX} {Dn : Ends} {q : Cur} {o : Out Fl} (h : PostS K ⟨l, none⟩ C W Dn (clrO id o)) : PostS K ⟨l, some q⟩ C W2 Dn o := by
  cases o with
  | no => exact h
  | rz x Γ => exact h.elim
  | ok fl Γ =>
    cases fl with
    | nx => exact fun C' σ' H' x E => h C' σ' H' x E.clr
    | bk => exact fun C' σ' H' x E => h C' σ' H' x E.clr
    | ct => exact fun C' σ' H' x E => h C' σ' H' x E.clr
    | rt val =>
      cases val with
      | bw i => exact h.elim
      | fz d => exact fun C' v σ' H' x E hv => h C' v σ' H' x E.clr (VOK.clr (fun i z => by cases z) hv)
      | ow ds => exact fun C' v σ' H' x E hv => h C' v σ' H' x E.clr (VOK.clr (fun i z => by cases z) hv)
theorem VOK.drop1 {K : PySem.W.Frag} {C : Cn} {Γ : EV} {σ : L2.St} {H : Hp} {i : Nat} {o : Option V} {val : Vl} {v : V} (hb : ∀ i, val ≠ .bw i) (h : VOK K ts C Γ σ H val v) : VOK K ts C (Γ.set i .no) (σ.set i o) H val v := by
  have own : ∀ a, Own (Γ.set i .no) (σ.set i o) a → Own Γ σ a := fun a ⟨j, bb, es, h1, h2⟩ => by
    by_cases hj : j = i
    · subst hj
      rw [List.getElem?_set] at h1
      split at h1
      · split at h1 <;> cases h1
      · rename_i hn; exact (hn rfl).elim
    · rw [List.getElem?_set_ne (Ne.symm hj)] at h1 h2
      exact ⟨j, bb, es, h1, h2⟩
  have w : ∀ {C : Cn} (a : Addr), Av C (Γ.set i .no) (σ.set i o) a → Av C Γ σ a := fun {C} a z => z.elim (fun z => .inl (own a z)) .inr
  cases val with
  | fz d => exact Rep.weak w h
  | bw i => exact (hb i rfl).elim
  | ow ds =>
    obtain ⟨p, xs, e, h1, h2, h3, h4, h5⟩ := h
    exact ⟨p, xs, e, h1, h2, h3.drop1, h4, h5.weak w⟩
theorem clr_as {K : PySem.W.Frag} {C : Cn} {W2 : WX} {Dn : Ends} {q : Cur} {o : Out Fl} (h : PostS K ⟨l, none⟩ C W Dn (clrO (fun Γ => Γ.set i .no) o)) :
    PostS K ⟨l, some q⟩ C W2 { nx := fun σ' H' => Dn.nx (σ'.set i none) H', rt := Dn.rt, bk := fun σ' H' => Dn.bk (σ'.set i none) H', ct := fun σ' H' => Dn.ct (σ'.set i none) H' } o := by
  cases o with
  | no => exact h
  | rz x Γ => exact h.elim
  | ok fl Γ =>
    cases fl with
    | nx => exact fun C' σ' H' x E => h C' _ H' x E.clr.drop1
    | bk => exact fun C' σ' H' x E => h C' _ H' x E.clr.drop1
    | ct => exact fun C' σ' H' x E => h C' _ H' x E.clr.drop1
    | rt val =>
      cases val with
      | bw i => exact h.elim
      | fz d => exact fun C' v σ' H' x E hv => h C' v (σ'.set i none) H' x E.clr.drop1 (VOK.drop1 (fun i z => by cases z) (VOK.clr (fun i z => by cases z) hv))
      | ow ds => exact fun C' v σ' H' x E hv => h C' v (σ'.set i none) H' x E.clr.drop1 (VOK.drop1 (fun i z => by cases z) (VOK.clr (fun i z => by cases z) hv))
/-- the further clauses -/
inductive SHds (l : List Addr) (X : Cx) : List ExceptHandler → List (Value × MS × (Str → Option Bool)) → Prop
  | nil : SHds l X [] []
  | cons {x : Str} {c : Value} {m : MS} {tab : Str → Option Bool} {b₀ : Stmt} {suite : List Stmt} {np pos' : Pos} {hds : List ExceptHandler} {r : List (Value × MS × (Str → Option Bool))} (hc : Names X x c) (ht : TabOK X.K c tab)
      (hsu : ∀ (a : Addr) (oe : Obj) (cls : Value) (d : Option Addr) (pn : List (Addr × Obj)), Zc cls d oe → (∃ vs, oe.data = .fields vs) → SB ⟨l, some ⟨a, cls, d⟩⟩ (X.suite a ((a, oe) :: pn)) WF (b₀ :: suite) m) (h : SHds l X hds r) :
      SHds l X (.ExceptHandler (some (.Name x np)) none (b₀ :: suite) pos' :: hds) ((c, m, tab) :: r)
def hdsT (l : List Addr) (K : PySem.W.Frag) (r : List (Value × MS × (Str → Option Bool))) : List (Value × (Addr → Value → Option Addr → TS)) := r.map fun h => (h.1, fun a cls d => cS K ⟨l, some ⟨a, cls, d⟩⟩ WF h.2.1)
theorem SHds.ok {hds : List ExceptHandler} {r : List (Value × MS × (Str → Option Bool))} (h : SHds l X hds r) : HdsOk X hds (hdsT l X.K r) := by
  induction h with
  | nil => exact .nil
  | cons hc ht hsu h ih => exact .cons hc (fun a oe cls d pn hz hf => (hsu a oe cls d pn hz hf).pss) ih
theorem hds_sim {hds : List ExceptHandler} {r : List (Value × MS × (Str → Option Bool))} {C : Cn} {Dn : Ends} {x : Er} {Γ : EV} (h : SHds l X hds r) (hp : PostS X.K ⟨l, none⟩ C W Dn (mHds (r.map fun h => (h.2.2, h.2.1)) x Γ)) :
    ∀ C' cls d σ' H', Ext C C' → EnvOK X.K ⟨l, none⟩ C' Γ σ' H' → XOK X.K H' (Av C' Γ σ') x cls d → wMany X.K W Dn (hdsT l X.K r) cls d σ' H' := by
  induction h with
  | nil => exact hp
  | @cons xn c m tab b₀ suite np pos' hds r hc ht hsu h ih =>
    intro C' cls d σ' H' xx E hx
    have hp : PostS X.K ⟨l, none⟩ C W Dn (match tab x.c with
      | some true => clrO id (m Γ)
      | some false => mHds (r.map fun h => (h.2.2, h.2.1)) x Γ
      | none => .no) := hp
    obtain ⟨hcls, _⟩ := id hx
    cases e : tab x.c with
    | none => rw [e] at hp; exact hp.elim
    | some b =>
      rw [e] at hp
      refine ⟨b, by rw [hcls]; exact ht x.c b e, fun eb a _ => ?_, fun eb => ?_⟩
      · subst eb
        exact ⟨C', Γ, E.recur, clr_id (PostS.ext xx hp)⟩
      · subst eb
        exact ih hp C' cls d σ' H' xx E hx
variable {body suite : List Stmt} {b₀ : Stmt} {np pos' : Pos} {hds : List ExceptHandler} {r : List (Value × MS × (Str → Option Bool))} {mb ms : MS} {tab : Str → Option Bool} {c : Value}
theorem s1_tryAs (hs : X.stack = X.env :: X.outer) (hf : X.env.frame = some X.env.locals) (hN : X.N.Nodup) (hi : X.N[i]? = some n) (hln : X.env.kindOf n = some .local) (hc : Names X x c) (ht : TabOK X.K c tab) (tk : Takes X W)
    (hb : ∀ (W : WX) (pn : List (Addr × Obj)) (xe : Value → Shared → Prop), Takes (X.tr pn xe) W → PassesOwn (model X.prog X.w) X.A X.env xe → SB ⟨l, none⟩ (X.tr pn xe) W body mb)
    (hsu : ∀ (a : Addr) (oe : Obj) (cls : Value) (d : Option Addr) (pn : List (Addr × Obj)), Zc cls d oe → (∃ vs, oe.data = .fields vs) → SB ⟨l, some ⟨a, cls, d⟩⟩ (X.suite a ((a, oe) :: pn)) WF (b₀ :: suite) ms) (hh : SHds l X hds r) :
    S1 ⟨l, none⟩ X W (.Try body (.ExceptHandler (some (.Name x np)) (some n) (b₀ :: suite) pos' :: hds) [] [] pos) (mTryAs i tab ms (r.map fun h => (h.2.2, h.2.1)) mb) := by
  refine ⟨_, ps_try_asM (tb := fun W => cS X.K ⟨l, none⟩ W mb) (ts := fun a cls d => cS X.K ⟨l, some ⟨a, cls, d⟩⟩ WF ms) hs hf hN hi hln hc tk (fun W pn xe tk po => (hb W pn xe tk po).pss) (fun a oe cls d pn hz hf => (hsu a oe cls d pn hz hf).pss) hh.ok, fun C Γ σ H Dn E h => ⟨C, Γ, E, ?_⟩⟩
  unfold mTryAs at h
  cases e : mb Γ with
  | no => rw [e] at h; exact h
  | ok fl Γ1 => rw [e] at h; cases fl <;> exact h
  | rz x Γ1 =>
    rw [e] at h
    intro C' cls d σ' H' xx E1 hx
    obtain ⟨hcls, _⟩ := id hx
    dsimp only at h
    cases e2 : tab x.c with
    | none => rw [e2] at h; exact h.elim
    | some b =>
      rw [e2] at h
      refine ⟨b, by rw [hcls]; exact ht x.c b e2, fun eb a _ => ?_, fun eb => ?_⟩
      · subst eb
        dsimp only at h
        split at h
        · exact ⟨C', _, E1.putX hx, clr_as (PostS.ext xx h)⟩
        · exact h.elim
      · subst eb
        exact hds_sim hh h C' cls d σ' H' xx E1 hx
theorem s1_try {h₀ : ExceptHandler} (hs : X.stack = X.env :: X.outer) (hf : X.env.frame = some X.env.locals) (tk : Takes X W)
    (hb : ∀ (W : WX) (pn : List (Addr × Obj)) (xe : Value → Shared → Prop), Takes (X.tr pn xe) W → PassesOwn (model X.prog X.w) X.A X.env xe → SB ⟨l, none⟩ (X.tr pn xe) W body mb) (hh : SHds l X (h₀ :: hds) r) :
    S1 ⟨l, none⟩ X W (.Try body (h₀ :: hds) [] [] pos) (mTry (r.map fun h => (h.2.2, h.2.1)) mb) := by
  refine ⟨_, ps_try_many (tb := fun W => cS X.K ⟨l, none⟩ W mb) hs hf tk (fun W pn xe tk po => (hb W pn xe tk po).pss) hh.ok, fun C Γ σ H Dn E h => ⟨C, Γ, E, ?_⟩⟩
  unfold mTry at h
  cases e : mb Γ with
  | no => rw [e] at h; exact h
  | ok fl Γ1 => rw [e] at h; cases fl <;> exact h
  | rz x Γ1 =>
    rw [e] at h
    exact hds_sim hh h
end
end SX

set_option Elab.async false
set_option linter.all false
set_option maxRecDepth 100000
set_option maxHeartbeats 4000000
namespace SX
open PySem PySem.Spec PyProof.Rows L2 L2H XT GX RD GenW GxR
/-! ### room -/
theorem hu_of {k : Nat} {A : Around} (h : Room k A) : A.units + 64 < cLine := by have := h.un; omega
theorem hu_h {k : Nat} {A : Around} (h : RoomH k A) : A.units + 64 < cLine := by have := h.un; omega
theorem roomH_suite {k : Nat} {A : Around} {v : Option Value} (h : Room k A) : RoomH k (A.mark v) := ⟨h.dp, h.un⟩
theorem fnA_ok {P : Program} {w : World} {K : PySem.W.Frag} {mg : Str → Option Value} {base : Heap} {k : Nat} {f : Addr} {fd : FuncData} {ps : List Str} {sp : Sp} (F : FnA P w K mg base (L2.CX P w) k f fd ps sp) : FnOk P w K mg base (L2.CX P w) k f fd ps sp :=
  ⟨F.len, fun A outer s H args us vs Q E hr => F.run A outer s H args us vs Q E (roomH_of hr)⟩
/-! ### calls by keywords -/
theorem gp_rel {vs : List V} {us : List Value} (h : Vals vs us) (π : List Nat) {zs : List V} {ws : List Value} (r : Vals zs ws) : Vals (gp π vs zs) (gp π us ws) := by
  cases h with
  | cons a q => exact .nil
  | nil =>
    induction π with
    | nil => exact .nil
    | cons j π ih =>
      rw [gp_cons, gp_cons]
      have key : (zs[j]? = none ∧ ws[j]? = none) ∨ ∃ z w, zs[j]? = some z ∧ ws[j]? = some w ∧ L2.RelV z w := by
        clear ih
        induction r generalizing j with
        | nil => exact .inl ⟨rfl, rfl⟩
        | cons a r ih =>
          cases j with
          | zero => exact .inr ⟨_, _, rfl, rfl, a⟩
          | succ j => simpa using ih j
      rcases key with ⟨e1, e2⟩ | ⟨z, w, e1, e2, h3⟩
      · rw [e1, e2]; exact ih
      · rw [e1, e2]; exact .cons h3 ih
section
variable {K : PySem.W.Frag} {x qual : Str} {ar : Arguments} {bd : List Stmt} {sc : Scope} {f c : Addr} {fd : FuncData} {p1 p2 : Str}
theorem kp1 (F : FT K x qual ar bd sc f c fd)
    (h : ∀ (kV doc pm : Value) (an : Option Addr) (cdv ct : Value) (a : Value), bindArgs (PySem.W.fnOf x qual ar bd sc .none kV doc pm an cdv ct) ⟨[], [(p1, a)]⟩ = pure [(p1, a)]) : KBinds K fd [p1] [p1] (gp [0]) (gp [0]) := by
  obtain ⟨oc, od, kV, doc, pm, an, ct, osl, rfl, _, _⟩ := F.ex
  refine ⟨fun s us ws _ hl => ?_, fun a b => gp_rel a [0] b⟩
  match us, ws, hl with
  | [], a :: r, _ => exact .of_eq (h kV doc pm an _ ct a)
theorem kp2 (F : FT K x qual ar bd sc f c fd)
    (h : ∀ (kV doc pm : Value) (an : Option Addr) (cdv ct : Value) (a b : Value), bindArgs (PySem.W.fnOf x qual ar bd sc .none kV doc pm an cdv ct) ⟨[], [(p1, a), (p2, b)]⟩ = pure [(p1, a), (p2, b)]) : KBinds K fd [p1, p2] [p1, p2] (gp [0, 1]) (gp [0, 1]) := by
  obtain ⟨oc, od, kV, doc, pm, an, ct, osl, rfl, _, _⟩ := F.ex
  refine ⟨fun s us ws _ hl => ?_, fun a b => gp_rel a [0, 1] b⟩
  match us, ws, hl with
  | [], a :: b :: r, _ => exact .of_eq (h kV doc pm an _ ct a b)
theorem kp2r (F : FT K x qual ar bd sc f c fd)
    (h : ∀ (kV doc pm : Value) (an : Option Addr) (cdv ct : Value) (a b : Value), bindArgs (PySem.W.fnOf x qual ar bd sc .none kV doc pm an cdv ct) ⟨[], [(p2, b), (p1, a)]⟩ = pure [(p1, a), (p2, b)]) : KBinds K fd [p1, p2] [p2, p1] (gp [1, 0]) (gp [1, 0]) := by
  obtain ⟨oc, od, kV, doc, pm, an, ct, osl, rfl, _, _⟩ := F.ex
  refine ⟨fun s us ws _ hl => ?_, fun a b => gp_rel a [1, 0] b⟩
  match us, ws, hl with
  | [], b :: a :: r, _ => exact .of_eq (h kV doc pm an _ ct a b)
end
/-! ### while, however many turns -/
open Classical in
noncomputable def mWhl (c : MT) (b : MS) : MS := fun Γ => if h : ∃ k, mWhile k c b Γ ≠ .no then mWhile h.choose c b Γ else .no
theorem mWhile_mono {c : MT} {b : MS} : ∀ {k j : Nat} {Γ : EV}, k ≤ j → mWhile k c b Γ ≠ .no → mWhile j c b Γ = mWhile k c b Γ
  | 0, _, _, _, h => (h rfl).elim
  | k + 1, 0, _, hj, _ => by omega
  | k + 1, j + 1, Γ, hj, h => by
    have hj : k ≤ j := by omega
    unfold mWhile at h ⊢
    cases e : c Γ with
    | no => rw [e] at h; exact (h rfl).elim
    | rz x Γ1 => rfl
    | ok t Γ1 =>
      rw [e] at h
      show (if t = true then _ else _) = (if t = true then _ else _)
      have h : (if t = true then match b Γ1 with
        | .ok .nx Γ2 => mWhile k c b Γ2
        | .ok .ct Γ2 => mWhile k c b Γ2
        | .ok .bk Γ2 => .ok .nx Γ2
        | o => o
        else .ok .nx Γ1) ≠ .no := h
      cases t with
      | false => rfl
      | true =>
        rw [if_pos rfl] at h ⊢
        rw [if_pos rfl]
        cases e2 : b Γ1 with
        | no => rfl
        | rz x Γ2 => rfl
        | ok fl Γ2 =>
          rw [e2] at h
          cases fl with
          | nx => exact mWhile_mono hj h
          | ct => exact mWhile_mono hj h
          | bk => rfl
          | rt v => rfl
theorem mWhl_eq {c : MT} {b : MS} {k : Nat} {Γ : EV} {o : Out Fl} (e : mWhile k c b Γ = o) (h : o ≠ .no) : mWhl c b Γ = o := by
  have hx : ∃ k, mWhile k c b Γ ≠ .no := ⟨k, by rw [e]; exact h⟩
  unfold mWhl
  rw [dif_pos hx]
  have h2 := hx.choose_spec
  rcases Nat.le_total k hx.choose with q | q
  · rw [mWhile_mono q (by rw [e]; exact h)]; exact e
  · rw [← mWhile_mono q h2]; exact e
section
variable {ts : Tsx} {X : Cx} {W : WX} {nc : MT} {n : MS} {body : List Stmt} {c : Expr} {pos : Pos}
theorem s1_whl (hp : PassesOwn (model X.prog X.w) X.A X.env X.xe) (hc : ST ts X W c nc) (hb : SB ts X W body n) : S1 ts X W (.While c body [] pos) (mWhl nc n) := by
  obtain ⟨tc, pc, sc⟩ := hc
  obtain ⟨tb, pb, sb⟩ := hb
  refine ⟨_, ps_while hp pc pb, fun C Γ σ H D E h => ?_⟩
  unfold mWhl at h
  split at h
  · rename_i hx
    revert h
    generalize hx.choose = k
    intro h
    refine ⟨fun k σ H => ∃ C Γ, EnvOK X.K ts C Γ σ H ∧ PostS X.K ts C W D (mWhile k nc n Γ), ⟨k, C, Γ, E, h⟩, ?_⟩
    clear h E hx
    rintro k σ H ⟨C, Γ, E, h⟩
    cases k with
    | zero => exact h.elim
    | succ k =>
      unfold mWhile at h
      refine sc C Γ σ H _ E (PostS.bind h fun t Γ1 t' H1 E1 g1 e1 h1 => ?_)
      obtain rfl : t = t' := e1
      cases t with
      | false => exact iteF (h1 C σ H1 Ext.refl E1)
      | true =>
        refine iteT ⟨fun σ H => ∃ C Γ, EnvOK X.K ts C Γ σ H ∧ PostS X.K ts C W D (mWhile k nc n Γ), fun σ' H' w => ⟨k, Nat.lt_succ_self k, w⟩, sb C Γ1 σ H1 _ E1 ?_⟩
        rw [if_pos rfl] at h1
        cases e : n Γ1 with
        | no => rw [e] at h1; exact h1
        | ok f Γ2 =>
          rw [e] at h1
          cases f with
          | nx => exact fun C' σ' H' x E' => ⟨C', Γ2, E', PostS.ext x h1⟩
          | ct => exact fun C' σ' H' x E' => ⟨C', Γ2, E', PostS.ext x h1⟩
          | bk => exact h1
          | rt v => exact h1
        | rz x Γ2 => rw [e] at h1; exact h1
  · exact h.elim
end
end SX

set_option Elab.async false
set_option linter.all false
set_option maxRecDepth 100000
set_option maxHeartbeats 4000000
namespace SX
open PySem PySem.Spec PyProof.Rows L2 L2H XT GX RD GenW GxR
/-! ### tables of error classes -/
def tbl (l : List (Str × Bool)) : Str → Option Bool := fun x => l.lookup x
def TOK (P : Str → Bool → Prop) (l : List (Str × Bool)) : Prop := ∀ x b, tbl l x = some b → P x b
theorem tok_nil {P : Str → Bool → Prop} : TOK P [] := fun x b h => by cases h
theorem tok_cons {P : Str → Bool → Prop} {c : Str} {k : Bool} {l : List (Str × Bool)} (h : P c k) (t : TOK P l) : TOK P ((c, k) :: l) := fun x b e => by
  unfold tbl at e
  rw [List.lookup_cons] at e
  cases q : (x == c) with
  | true =>
    rw [q] at e
    cases e
    rw [eq_of_beq q]
    exact h
  | false =>
    rw [q] at e
    exact t x b e
theorem tab_ok {K : PySem.W.Frag} {c : Value} {l : List (Str × Bool)} (t : TOK (fun x b => PySem.W.exmOne K (.ref (He.ga K x)) c = some b) l) : TabOK K c (tbl l) := t
def ins (l : List (Str × Bool)) : Str → Bool := fun x => (l.lookup x).isSome
theorem ins_ok {P : Str → Prop} {l : List (Str × Bool)} (t : TOK (fun x _ => P x) l) : ∀ c, ins l c = true → P c := fun c h => by
  unfold ins at h
  obtain ⟨b, e⟩ := Option.isSome_iff_exists.mp h
  exact t c b e
end SX

set_option Elab.async false
set_option linter.all false
set_option maxRecDepth 100000
set_option maxHeartbeats 4000000
namespace SX
open PySem PySem.Spec PyProof.Rows L2 L2H XT GX RD GenW GxR
/-! ### a law's end -/
theorem law_sp {K : PySem.W.Frag} {H : Hp} {a : Addr} {ns : List Int} {F : MF} {ts : List Addr} (tb : ∀ P ∈ ts, H P = some (.tbl #[])) (hS : SqL K H a (ns.map V.int)) (hF : ∃ outs, F [.scr ns] = .ok (.fz (.bl true)) outs) :
    spF K ts [false] F [.ref a] H (fun v _ => v = .bl true) fun _ _ _ => False := by
  obtain ⟨outs, hF⟩ := hF
  have noIo : ∀ b, ¬ IoA [false] [V.ref a] b := fun b ⟨j, h1, h2⟩ => by
    match j, h1 with
    | 0, h1 => cases h1
    | j + 1, h1 => simp at h1
  refine ⟨[.scr ns], fun _ => False, ⟨rfl, rfl, fun j d v h1 h2 h3 => ?_, fun j d v h1 h2 h3 => ?_, fun i j b h1 => ?_⟩, fun P hP => ⟨#[], tb P hP, by unfold TriplesOk; trivial⟩, fun a z => z.elim, ?_⟩
  · match j, h1, h2, h3 with
    | 0, h1, h2, h3 =>
      cases h2
      cases h3
      unfold Rep
      refine ⟨a, rfl, ?_⟩
      rcases hS with hS | hS
      · exact .inl ⟨fun z => z.elim (noIo a) id, hS⟩
      · exact .inr hS
    | j + 1, h1, h2, h3 => simp at h1
  · match j, h1 with
    | 0, h1 => cases h1
    | j + 1, h1 => simp at h1
  · match i, h1 with
    | 0, h1 => cases h1
    | i + 1, h1 => simp at h1
  · rw [hF]
    intro v H' S _ hr _
    have hr : Rep K H' S (.bl true) v := hr.2
    unfold Rep at hr
    exact hr
theorem cx_none {P : Program} {w : World} {H : Hp} {s : Shared} {e : Value} {s' : Shared} (h : L2.CX P w [] H s (fun _ _ _ => False) e s') : False := by
  obtain ⟨a, B, H', cls, d, _, _, _, _, _, _, _, h⟩ := h
  exact h
theorem tab_gx {base : Heap} {mg : Str → Option Value} {c P : Addr} (t : LamX.TabB base mg c P) : GxR.TabB base mg c P := ⟨t.code, t.bm, t.gP⟩
theorem says_d {fa : List He.Fa} {fn : List He.DefD} {ts : List He.Tab} {w : World} {K : PySem.W.Frag} (h : He.SaysT fa fn ts w K) : He.SaysD fa fn K := congrArg Prod.fst h
theorem ba2 {a b : Bool} (h : (a && b) = true) : a = true ∧ b = true := Bool.and_eq_true_iff.mp h
end SX

set_option Elab.async false
set_option linter.all false
set_option maxRecDepth 100000
set_option maxHeartbeats 4000000
namespace SX
open PySem PySem.Spec PyProof.Rows L2 L2H XT GX RD GenW GxR
/-! ### more methods of texts -/
section
variable {ts : Tsx} {X : Cx} {W : WX} {e o : Expr} {es : List Expr} {ms : MA} {mo : ME} {name : Str} {apos pos : Pos}
def mMN (p : Str → List D → Option Vl) (mo : ME) (ms : MA) : ME := fun Γ => (mo Γ).bind fun v Γ1 => match v with
  | .fz (.str s) => (ms Γ1).bind fun ws Γ2 => match (peeks Γ2 ws).bind (p s) with
    | some r => .ok r Γ2
    | none => .no
  | _ => .no
theorem se_mN {id : String} {p : Str → List D → Option Vl} (sl : Slot "str" name id) (st : typeOf (.builtin id) = pure (.type "method_descriptor")) (hr : MtS ts X id p) (ho : SE ts X W o mo) (he : SA ts X W (e :: es) ms)
    (hbase : attributeBase o name X.env (eval o X.env) = eval o X.env := by rfl)
    (hpl : ((backTo pos (starEach (e :: es) X.env)).all (fun x => !x.1) && (backToKw pos (keywordEach [] X.env)).all (·.1.isSome) && decide ((e :: es).length + ([] : List Keyword).length + (if ([] : List Keyword).isEmpty = true then 0 else 1) < 30)) = true := by rfl)
    (hline : (apos.endLine == pos.line) = true := by rfl) (hst : starEach (e :: es) X.env = (false, eval e X.env) :: starEach es X.env := by rfl) (hpl2 : (backTo pos (starEach es X.env)).any (·.1) = false := by rfl) :
    SE ts X W (.Call (.Attribute o name apos) (e :: es) [] pos) (mMN p mo ms) := by
  obtain ⟨r, pr, sr⟩ := hr
  obtain ⟨to, po, so⟩ := ho
  obtain ⟨te, pe, se⟩ := he
  refine ⟨_, pe_bm PySem.F.plainAttrs_str sl st pr po pe hbase hpl hline hst hpl2, fun C Γ σ H Q E h => so C Γ σ H _ E (Post.bind h fun v Γ1 x H1 E1 g1 v1 h1 => ?_)⟩
  split at h1
  · rename_i s
    obtain rfl : x = .str s := v1
    refine ⟨rfl, se C Γ1 σ H1 _ E1 (Post.bind h1 fun ws Γ2 xs H2 E2 g2 w2 h2 => ?_)⟩
    split at h2
    · rename_i res e1
      obtain ⟨ds, e2, e3⟩ := Option.bind_eq_some_iff.mp e1
      exact sr C Γ2 σ H2 s xs ds res Q E2 (w2.pks E2 e2) e3 fun v H' E' g' v' => h2 v H' E' g' v'
    · exact h2.elim
  · exact h1.elim
def isdigitD (s : Str) : List D → Option Vl
  | [] => some (.fz (.bl (Txt.isdigit s)))
  | _ => none
theorem mts_isdigit : MtS ts X "str.isdigit" isdigitD := by
  refine ⟨_, mt_isdigit, fun C Γ σ H s xs ds res Q E hp e q => ?_⟩
  unfold isdigitD at e
  split at e
  · cases e
    cases hp
    exact ⟨_, rfl, rfl, trivial, q _ H E Go.refl rfl⟩
  · cases e
def isalphaD (s : Str) : List D → Option Vl
  | [] => some (.fz (.bl (Txt.isalpha s)))
  | _ => none
theorem mts_isalpha : MtS ts X "str.isalpha" isalphaD := by
  refine ⟨_, mt_isalpha, fun C Γ σ H s xs ds res Q E hp e q => ?_⟩
  unfold isalphaD at e
  split at e
  · cases e
    cases hp
    exact ⟨_, rfl, rfl, trivial, q _ H E Go.refl rfl⟩
  · cases e
def stripD (s : Str) : List D → Option Vl
  | [] => if s.length ≤ sizeLine then some (.fz (.str (Txt.strip s))) else none
  | _ => none
theorem mts_strip : MtS ts X "str.strip" stripD := by
  refine ⟨_, mt_strip, fun C Γ σ H s xs ds res Q E hp e q => ?_⟩
  unfold stripD at e
  split at e
  · split at e
    · rename_i hl
      cases e
      cases hp
      exact ⟨_, rfl, rfl, hl, q _ H E Go.refl rfl⟩
    · cases e
  · cases e
def startsD (s : Str) : List D → Option Vl
  | [.str b] => some (.fz (.bl (Txt.startswith s b)))
  | [.str b, .int i] => some (.fz (.bl (Txt.startswith3 s b i)))
  | _ => none
theorem mts_startswith : MtS ts X "str.startswith" startsD := by
  refine ⟨_, MtR.or mt_startswith mt_startswith3, fun C Γ σ H s xs ds res Q E hp e q => ?_⟩
  unfold startsD at e
  split at e
  · cases e
    obtain ⟨v, rfl, h⟩ := paired1 hp
    exact .inl ⟨_, _, rfl, by rw [h.str], q _ H E Go.refl rfl⟩
  · cases e
    obtain ⟨v, w, rfl, h, h2⟩ := paired2 hp
    exact .inr ⟨_, _, _, rfl, by rw [h.str, h2.int], q _ H E Go.refl rfl⟩
  · cases e
def endsD (s : Str) : List D → Option Vl
  | [.str b] => some (.fz (.bl (Txt.endswith s b)))
  | _ => none
theorem mts_endswith : MtS ts X "str.endswith" endsD := by
  refine ⟨_, mt_endswith, fun C Γ σ H s xs ds res Q E hp e q => ?_⟩
  unfold endsD at e
  split at e
  · cases e
    obtain ⟨v, rfl, h⟩ := paired1 hp
    exact ⟨_, _, rfl, by rw [h.str], q _ H E Go.refl rfl⟩
  · cases e
/-! ### str -/
def strD : List D → Option Vl
  | [.int i] => if i.natAbs.log2 < 1920 then some (.fz (.str (toString i))) else none
  | [.str s] => some (.fz (.str s))
  | _ => none
theorem fns_str : FnS ts X (.type "str") strD := by
  refine ⟨_, CallR.or call_str_int SkE.call_str_str, fun C Γ σ H xs ds res Q E hp e q => ?_⟩
  unfold strD at e
  split at e
  · split at e
    · rename_i hl
      cases e
      obtain ⟨v, rfl, h⟩ := paired1 hp
      exact .inl ⟨_, by rw [h.int], hl, q _ H E Go.refl rfl⟩
    · cases e
  · cases e
    obtain ⟨v, rfl, h⟩ := paired1 hp
    exact .inr ⟨_, by rw [h.str], q _ H E Go.refl rfl⟩
  · cases e
/-! ### reversed, of a list -/
theorem it_rev {K : PySem.W.Frag} {ds : List D} {a : Addr} {n : Nat} (hn : n = ds.length) : ItOK K ds.reverse [(.lst ds, .ref a)] (Itv K a n) := by
  have get : ∀ {H : Hp} {S : Addr → Prop}, (∀ p ∈ [((.lst ds : D), V.ref a)], Rep K H S p.1 p.2) → ∃ xs, H a = some (.lst xs) ∧ Reps K H S ds xs := fun {H S} h => by
    have h := held1.mp h
    unfold Rep at h
    obtain ⟨b, xs, e, _, h1, h2⟩ := h
    cases e
    exact ⟨xs, h1, h2⟩
  have ix : ∀ {i : Nat} {d : D}, ds.reverse[i]? = some d → i < n ∧ ds[n - 1 - i]? = some d := fun {i d} e => by
    have hi := lt_of_get e
    rw [List.length_reverse] at hi
    rw [List.getElem?_reverse hi] at e
    exact ⟨by omega, by rw [hn]; exact e⟩
  refine ⟨fun i d H S e h => ?_, fun i d H S x H1 e h hS hy => ?_, fun H S h => ?_⟩
  · obtain ⟨hi, e⟩ := ix e
    obtain ⟨xs, h1, h2⟩ := get h
    obtain ⟨v, h3, _⟩ := h2.get e
    exact ⟨hi, xs, v, SqL.of h1, h3⟩
  · obtain ⟨hi, e⟩ := ix e
    obtain ⟨xs, h1, h2⟩ := get h
    obtain ⟨v, h3, h4⟩ := h2.get e
    obtain ⟨rfl, h5⟩ := hy
    have h6 := h5 xs (SqL.of h1)
    rw [h3] at h6; cases h6
    exact ⟨fun _ _ q => q, h4⟩
  · show n ≤ _
    rw [List.length_reverse, hn]
    exact Nat.le_refl _
def mIRev (ms : MA) : MI := fun Γ => (ms Γ).bind fun vs Γ1 => match cools Γ1 vs with
  | some ([.lst ds], Γ2) => .ok ds.reverse Γ2
  | _ => .no
theorem si_reversed {tg a : Expr} {p : Pos} (hg : Gl X "reversed") (hm : X.mg "reversed" = none) (ha : SA ts X W [a] ms) (hs : starEach [a] X.env = [(false, eval a X.env)] := by rfl) : SI ts X W tg (.Call (.Name "reversed" p) [a] [] pos) (mIRev ms) := by
  obtain ⟨t, pt, s⟩ := ha
  refine ⟨_, pi_reversed hg hm pt hs, fun C Γ σ H R E h => s C Γ σ H _ E (Post.bind h fun vs Γ1 xs H1 E1 g1 v1 h1 => ?_)⟩
  split at h1
  · rename_i ds Γ2 e1
    obtain ⟨E2, g2, r2⟩ := v1.cools E1 e1
    obtain ⟨v, r, rfl, k1, k2⟩ := Reps.cons_iff.mp r2
    obtain rfl := Reps.nil_iff.mp k2
    obtain ⟨a', us, rfl, q1, q2⟩ := k1.pk.lst
    exact ⟨a', us, rfl, SqL.of q1, h1 _ H1 E2 g2 ⟨_, held1.mpr k1, it_rev q2.length.symm⟩⟩
  · exact h1.elim
end
end SX

set_option Elab.async false
set_option linter.all false
set_option maxRecDepth 100000
set_option maxHeartbeats 4000000
namespace SX
open PySem PySem.Spec PyProof.Rows L2 L2H XT GX RD GenW GxR
section
variable {ts : Tsx} {X : Cx} {W : WX} {a b c e o : Expr} {es rest : List Expr} {m ma mb : ME} {ms : MA} {mo : ME} {name x : Str} {apos pos q p : Pos}
/-! ### x and y, by truth -/
def mAndV (a b : ME) : ME := fun Γ => (a Γ).bind fun v Γ1 => match (peek Γ1 v.op).bind truD with
  | some k => if k = true then b Γ1 else .ok v.op Γ1
  | none => .no
theorem se_andV (ha : SE ts X W a ma) (hb : SE ts X W (.BoolOp .And (b :: rest) pos) mb) : SE ts X W (.BoolOp .And (a :: b :: rest) pos) (mAndV ma mb) := by
  obtain ⟨ta, pa, sa⟩ := ha
  obtain ⟨tb, pb, sb⟩ := hb
  refine ⟨tAndT X.K ta tb, pe_andT pa pb, fun C Γ σ H Q E h => sa C Γ σ H _ E (Post.bind h fun v Γ1 x H1 E1 g1 v1 h1 => ?_)⟩
  split at h1
  · rename_i k e1
    obtain ⟨d, e2, e3⟩ := Option.bind_eq_some_iff.mp e1
    refine ⟨k, tru_ok' ((v1.op).pk E1 e2) e3, ?_⟩
    cases k with
    | true => exact iteT (sb C Γ1 σ H1 Q E1 h1)
    | false => exact iteF (h1 x H1 E1 Go.refl v1.op)
  · exact h1.elim
/-! ### gcd, bit_length -/
theorem se_callBf {id : String} {p : List D → Option Vl} (hf : FnS ts X (.builtin id) p) (hg : Gl X x) (hm : X.mg x = some (.builtin id)) (ha : SA ts X W (e :: es) ms)
    (hdb : (x == ("__debug__" : Str)) = false := by decide) (he : starEach (e :: es) X.env = (false, eval e X.env) :: starEach es X.env := by rfl) (hpl : (backTo pos (starEach es X.env)).any (·.1) = false := by rfl) :
    SE ts X W (.Call (.Name x q) (e :: es) [] pos) (mFn p ms) := by
  obtain ⟨r, pr, sr⟩ := hf
  obtain ⟨ta, pa, sa⟩ := ha
  exact ⟨_, pe_callBfun pr hg hm pa hdb he hpl, fun C Γ σ H Q E h => fn_sim sa sr E h⟩
def gcdD : List D → Option Vl
  | [.int i, .int j] => some (.fz (.int ((Nat.gcd i.natAbs j.natAbs : Nat) : Int)))
  | _ => none
theorem fns_gcd : FnS ts X (.builtin "math.gcd") gcdD := by
  refine ⟨_, cr_gcd, fun C Γ σ H xs ds res Q E hp e q => ?_⟩
  unfold gcdD at e
  split at e
  · cases e
    obtain ⟨v, w, rfl, h, h2⟩ := paired2 hp
    exact ⟨_, _, by rw [h.int, h2.int], q _ H E Go.refl rfl⟩
  · cases e
def mBits (m : ME) : ME := fun Γ => (m Γ).bind fun v Γ1 => match v with
  | .fz (.int i) => .ok (.fz (.int (Builtin.Int.intBits i : Nat))) Γ1
  | _ => .no
theorem se_bits (ho : SE ts X W o mo) (hbase : attributeBase o "bit_length" X.env (eval o X.env) = eval o X.env := by rfl) (hline : (apos.endLine == pos.line) = true := by rfl) : SE ts X W (.Call (.Attribute o "bit_length" apos) [] [] pos) (mBits mo) := by
  obtain ⟨to, po, so⟩ := ho
  refine ⟨_, pe_bits po hbase hline, fun C Γ σ H Q E h => so C Γ σ H _ E (Post.bind h fun v Γ1 x H1 E1 g1 v1 h1 => ?_)⟩
  split at h1
  · rename_i i
    exact ⟨i, v1, h1 _ H1 E1 Go.refl rfl⟩
  · exact h1.elim
/-! ### range with a step -/
def rngC (lo c : Int) (n : Nat) : List D := (List.range n).map fun i => .int (lo + (i : Nat) * c)
theorem it_rngC {K : PySem.W.Frag} {lo c : Int} {n : Nat} : ItOK K (rngC lo c n) [] (Itc lo c n) := by
  have at_ : ∀ {i : Nat} {d : D}, (rngC lo c n)[i]? = some d → i < n ∧ d = .int (lo + (i : Nat) * c) := fun {i d} e => by
    unfold rngC at e
    rw [List.getElem?_map] at e
    obtain ⟨k, e1, e2⟩ := Option.map_eq_some_iff.mp e
    obtain ⟨h1, h2⟩ := List.getElem?_eq_some_iff.mp e1
    rw [List.getElem_range] at h2
    rw [List.length_range] at h1
    subst h2
    exact ⟨h1, e2.symm⟩
  refine ⟨fun i d H S e _ => (at_ e).1, fun i d H S x H1 e h hS hy => ?_, fun H S h => ?_⟩
  · obtain ⟨h1, rfl⟩ := at_ e
    obtain ⟨rfl, rfl⟩ := hy
    exact ⟨fun _ _ q => q, rfl⟩
  · show n ≤ _
    unfold rngC
    rw [List.length_map, List.length_range]
    exact Nat.le_refl _
def mIR3 (ms : MA) : MI := fun Γ => (ms Γ).bind fun vs Γ1 => match vs with
  | [.fz (.int i), .fz (.int j), .fz (.int c)] => if c ≠ 0 ∧ c.natAbs < 1073741824 ∧ Builtin.Range.small i j c = true ∧ 0 ≤ Builtin.Range.rangeSize i j c then .ok (rngC i c (Builtin.Range.rangeSize i j c).toNat) Γ1 else .no
  | _ => .no
theorem VOKs.three {K : PySem.W.Frag} {C : Cn} {Γ : EV} {σ : L2.St} {H : Hp} {a b c : Vl} {xs : List V} (h : VOKs K ts C Γ σ H [a, b, c] xs) : ∃ v w u, xs = [v, w, u] ∧ VOK K ts C Γ σ H a.op v ∧ VOK K ts C Γ σ H b.op w ∧ VOK K ts C Γ σ H c.op u := by
  obtain ⟨v, r, e, h1, h2⟩ := h
  obtain ⟨w, u, e2, h3, h4⟩ := VOKs.two h2
  exact ⟨v, w, u, by rw [e, e2], h1, h3, h4⟩
theorem si_range3 {tg : Expr} (hg : Gl X "range") (hm : X.mg "range" = none) (ha : SA ts X W [a, b, c] ms) (hs : starEach [a, b, c] X.env = (false, eval a X.env) :: starEach [b, c] X.env := by rfl) (hpl : (backTo pos (starEach [b, c] X.env)).any (·.1) = false := by rfl) :
    SI ts X W tg (.Call (.Name "range" p) [a, b, c] [] pos) (mIR3 ms) := by
  obtain ⟨t, pt, s⟩ := ha
  refine ⟨_, pi_range3 hg hm pt hs hpl, fun C Γ σ H R E h => s C Γ σ H _ E (Post.bind h fun vs Γ1 xs H1 E1 g1 v1 h1 => ?_)⟩
  split at h1
  · split at h1
    · rename_i i j c hj
      obtain ⟨v, w, u, rfl, hv, hw, hu⟩ := v1.three
      have hv : v = .int i := hv
      have hw : w = .int j := hw
      have hu : u = .int c := hu
      subst hv hw hu
      exact ⟨i, j, c, _, rfl, ⟨hj.1, hj.2.1, hj.2.2.1, (Int.toNat_of_nonneg hj.2.2.2).symm⟩, h1 _ H1 E1 Go.refl ⟨[], held0, it_rngC⟩⟩
    · exact h1.elim
  · exact h1.elim
/-! ### partition -/
def partD (s : Str) : List D → Option Vl
  | [.str b] => if (b.length == 0) = false ∧ s.length ≤ sizeLine then some (.fz (.tup [.str (Txt.partition s b).1, .str (Txt.partition s b).2.1, .str (Txt.partition s b).2.2])) else none
  | _ => none
theorem mts_partition : MtS ts X "str.partition" partD := by
  refine ⟨_, mt_partition, fun C Γ σ H s xs ds res Q E hp e q => ?_⟩
  unfold partD at e
  split at e
  · split at e
    · rename_i hl
      cases e
      obtain ⟨v, rfl, h⟩ := paired1 hp
      refine ⟨_, _, rfl, by rw [h.str], hl.1, hl.2, fun p hq => ?_⟩
      obtain ⟨E2, g2, r2⟩ := new_tup E (ds := [.str (Txt.partition s _).1, .str (Txt.partition s _).2.1, .str (Txt.partition s _).2.2]) (Reps.cons_iff.mpr ⟨_, _, rfl, rfl, Reps.cons_iff.mpr ⟨_, _, rfl, rfl, Reps.cons_iff.mpr ⟨_, _, rfl, rfl, Reps.nil_iff.mpr rfl⟩⟩⟩) hq
      exact q _ _ E2 g2 r2
    · cases e
  · cases e
end
end SX

set_option Elab.async false
set_option linter.all false
set_option maxRecDepth 100000
set_option maxHeartbeats 4000000
namespace SX
open PySem PySem.Spec PyProof.Rows L2 L2H XT GX RD GenW GxR
/-! ### join over reversed(a list) -/
def tJoinRev (K : PySem.W.Frag) (to te : TE) : TE := fun σ H Q => to σ H fun x H1 => ∃ sep, x = .str sep ∧ te σ H1 fun v H2 => ∃ (a : Addr) (zs : List Str), v = .ref a ∧ SqL K H2 a (zs.map V.str) ∧ JoinOk sep zs.reverse = true ∧ Q (.str (Txt.join sep zs.reverse)) H2
section
variable {X : Cx} {o e : Expr} {to te : TE} {p2 pos2 apos cpos : Pos}
theorem pe_joinRev (hc : X.calm = true) (ho : PE X o to) (hg2 : Gl X "reversed") (hm2 : X.mg "reversed" = none) (he : PE X e te)
    (hbase : attributeBase o "join" X.env (eval o X.env) = eval o X.env := by rfl)
    (hfew : (([.Call (.Name "reversed" p2) [e] [] pos2] : List Expr).all (fun e => match e with | .Starred _ _ => false | _ => true)
      && ([] : List Keyword).all (fun k => match k with | ⟨none, _, _⟩ => false | _ => true)
      && decide (([.Call (.Name "reversed" p2) [e] [] pos2] : List Expr).length + ([] : List Keyword).length + (if ([] : List Keyword).isEmpty then 0 else 1) < 30)) = true := by rfl)
    (hline : (apos.endLine == cpos.line) = true := by rfl)
    (hs : starEach [e] X.env = (false, eval e X.env) :: starEach [] X.env := by rfl)
    (hs2 : starEach [.Call (.Name "reversed" p2) [e] [] pos2] X.env = (false, eval (.Call (.Name "reversed" p2) [e] [] pos2) X.env) :: starEach [] X.env := by rfl)
    (hplain : (backTo cpos (starEach [] X.env)).any (·.1) = false := by rfl) :
    PE X (.Call (.Attribute o "join" apos) [.Call (.Name "reversed" p2) [e] [] pos2] [] cpos) (tJoinRev X.K to te) := by
  refine ⟨fun pins s σ H Q I h => ?_⟩
  refine wpAny_Call_method_late hbase hfew hline rfl (thn (ho.run pins s σ H _ I h) fun v s1 ⟨x', H1, I1, r1, sep, ex, q1⟩ => ?_)
  subst ex
  obtain ⟨tk, rfl⟩ := (show ∃ t, v = Value.str sep t from r1)
  refine ⟨"str", _, PySem.F.plainAttrs_str, PySem.F.slot_str_join, PySem.F.type_str_join, typeIs_str _ _ _, (fun _ e => nomatch e), ?_⟩
  rw [hs2]
  refine Calls.callWith_builtin (by show (false || (backTo cpos (starEach [] X.env)).any (·.1)) = false; rw [hplain] <;> rfl) (Calls.evalArgs_plain ?_)
  show wpAny _ _ (spliced ((false, eval (.Call (.Name "reversed" p2) [e] [] pos2) X.env) :: backTo cpos (starEach [] X.env))) _ _ s1
  refine Calls.spliced_cons (Call_ (ld_blt I1 hg2 hm2 PyProof.Rows.boot_reversed (PyProof.Rows.callWith_type1 (args_cons (thn (he.run pins s1 σ H1 _ I1 q1) fun u s2 ⟨v, H2, I2, r2, q2⟩ => args_nil ?_) hs) hs rfl)))
  obtain ⟨a, zs, ev, hq, hok, q⟩ := q2
  subst ev
  obtain rfl : u = Value.ref a := r2
  obtain ⟨its, rv, p', hz⟩ := I2.list hq
  refine call_reversed_list p'.isList (Calls.spliced_nil ?_)
  have k0 : ∀ b o, s2.heap.get? b = some o → (s2.heap.push (revObj a ((its.toArray.size : Int) - 1))).get? b = some o := fun b o e => Heap.get?_push_of_some _ e
  have I3 : Inv X pins σ H2 { s2 with heap := s2.heap.push (revObj a ((its.toArray.size : Int) - 1)) } := I2.kept (t' := s2.toks) k0
  obtain ⟨f0, f1, f2, f3, f4, f5⟩ := I2.fpOk (H' := H2) (b := s2.heap.objs.size) (Nat.le_refl _) (I2.hok.fresh (Nat.le_refl _))
  have hl := p'.isList
  obtain ⟨ol, hol, _⟩ := id hl
  have hne : a ≠ s2.heap.objs.size := Nat.ne_of_lt (Heap.lt_size hol)
  have hn : its.toArray.size ≤ sizeLine := by rw [List.size_toArray, ← rv.length]; exact hz
  have hit : (s2.heap.push (revObj a ((its.toArray.size : Int) - 1))).IsRevIter s2.heap.objs.size a ((its.toArray.size : Int) - 1) := ⟨_, Heap.get?_push_size _ rfl, rfl, rfl⟩
  show wpAny (model X.prog X.w) X.A (call (.builtin "str.join") [.str sep tk, .ref s2.heap.objs.size]) _ _ _
  refine wpAny_call (codeAny_call_builtin F.slot_str_join.plain F.entry_str_join (F.slot_str_join.check _ _ _ _ _ _ _ _ (typeIs_str _ _ _) (F.args_str_join_2 _ _) ?_))
  rw [join_tree_other]
  refine wpAny_bind (wpAny_typeOf hit.typeIs ?_)
  show wpAny _ X.A.in1 ((pyIter (.ref s2.heap.objs.size)).tryCatch _ >>= fun it => collect it >>= fun items => joinTail sep items) _ _ _
  refine wpAny_bind (wpAny_tryCatch (wpAny_pyIter_revIter hit ?_))
  refine wpAny_bind (RT.collect_rev (A := X.A.in1) (I2.ok.hd hc) hit (hl.push _) hne hn fun h' tk acc hk hi => ?_)
  have I4 : Inv X pins σ H2 { s2 with heap := h', toks := tk } := I3.turned (t' := tk) (fun b o hb e => hk b o hb e) f0 f1 f3 f4 f5
  have r := RT.vals_rev rv hi
  rw [← List.map_reverse] at r
  obtain ⟨l, hl2, el⟩ := vals_strs r
  rw [← hl2]
  have hok' : JoinOk sep (l.map (·.1)) = true := by rw [el]; exact hok
  have hpost : ∀ t' k, EP X pins σ Q (.str (Txt.join sep (l.map (·.1))) t') { s2 with heap := h', toks := k } := fun t' k => by
    rw [el]
    exact ⟨.str _, H2, I4.tok k, ⟨t', rfl⟩, q⟩
  clear r
  unfold JoinOk at hok'
  rw [Bool.not_eq_true'] at hok'
  have gv : Gives (joinTail sep (strValues l)) (joinMade sep l) := by
    have g0 := gives_joinTail sep l hok'
    cases l with
    | nil => exact g0
    | cons p r => cases r with
      | nil => exact g0
      | cons q r' => exact g0
  exact gv X.prog X.w X.A (wants _ _) _ (post_join l ⟨joinFit_length hok', hpost⟩)
variable {ts : Tsx} {W : WX} {mo me : ME}
def mJoinRev (mo me : ME) : ME := fun Γ => (mo Γ).bind fun v Γ1 => match v with
  | .fz (.str sep) => (me Γ1).bind fun w Γ2 => match peek Γ2 w.op with
    | some (.lst ds) => match strsD ds with
      | some zs => if JoinOk sep zs.reverse = true then .ok (.fz (.str (Txt.join sep zs.reverse))) Γ2 else .no
      | none => .no
    | _ => .no
  | _ => .no
theorem se_joinRev (hc : X.calm = true) (ho : SE ts X W o mo) (hg2 : Gl X "reversed") (hm2 : X.mg "reversed" = none) (he : SE ts X W e me)
    (hbase : attributeBase o "join" X.env (eval o X.env) = eval o X.env := by rfl)
    (hfew : (([.Call (.Name "reversed" p2) [e] [] pos2] : List Expr).all (fun e => match e with | .Starred _ _ => false | _ => true)
      && ([] : List Keyword).all (fun k => match k with | ⟨none, _, _⟩ => false | _ => true)
      && decide (([.Call (.Name "reversed" p2) [e] [] pos2] : List Expr).length + ([] : List Keyword).length + (if ([] : List Keyword).isEmpty then 0 else 1) < 30)) = true := by rfl)
    (hline : (apos.endLine == cpos.line) = true := by rfl)
    (hs : starEach [e] X.env = (false, eval e X.env) :: starEach [] X.env := by rfl)
    (hs2 : starEach [.Call (.Name "reversed" p2) [e] [] pos2] X.env = (false, eval (.Call (.Name "reversed" p2) [e] [] pos2) X.env) :: starEach [] X.env := by rfl)
    (hplain : (backTo cpos (starEach [] X.env)).any (·.1) = false := by rfl) :
    SE ts X W (.Call (.Attribute o "join" apos) [.Call (.Name "reversed" p2) [e] [] pos2] [] cpos) (mJoinRev mo me) := by
  obtain ⟨to, po, so⟩ := ho
  obtain ⟨te, pe, se⟩ := he
  refine ⟨_, pe_joinRev hc po hg2 hm2 pe hbase hfew hline hs hs2 hplain, fun C Γ σ H Q E h => so C Γ σ H _ E (Post.bind h fun v Γ1 x H1 E1 g1 v1 h1 => ?_)⟩
  split at h1
  · rename_i sep
    refine ⟨sep, v1, se C Γ1 σ H1 _ E1 (Post.bind h1 fun w Γ2 y H2 E2 g2 w2 h2 => ?_)⟩
    split at h2
    · rename_i ds e1
      split at h2
      · rename_i zs e2
        split at h2
        · rename_i hj
          obtain ⟨a, us, rfl, q1, q2⟩ := ((w2.op).pk E2 e1).lst
          exact ⟨a, zs, rfl, by rw [← q2.strs e2]; exact SqL.of q1, hj, h2 _ H2 E2 Go.refl rfl⟩
        · exact h2.elim
      · exact h2.elim
    · exact h2.elim
  · exact h1.elim
end
end SX

set_option Elab.async false
set_option linter.all false
set_option maxRecDepth 100000
set_option maxHeartbeats 4000000
namespace SX
open PySem PySem.Spec PyProof.Rows L2 L2H XT GX RD GenW GxR
section
variable {ts : Tsx} {X : Cx} {W : WX}
theorem strs_reps {K : PySem.W.Frag} {H : Hp} {S : Addr → Prop} : ∀ ys : List Str, Reps K H S (ys.map D.str) (ys.map V.str)
  | [] => Reps.nil_iff.mpr rfl
  | y :: ys => Reps.cons_iff.mpr ⟨_, _, rfl, rfl, strs_reps ys⟩
def splitD (s : Str) : List D → Option Vl
  | [.str b] => if (b.length == 0) = false ∧ s.length + 2 ≤ sizeLine then some (.ow ((Txt.split s b).map .str)) else none
  | _ => none
theorem mts_split : MtS ts X "str.split" splitD := by
  refine ⟨_, mt_split, fun C Γ σ H s xs ds res Q E hp e q => ?_⟩
  unfold splitD at e
  split at e
  · split at e
    · rename_i hl
      cases e
      obtain ⟨v, rfl, h⟩ := paired1 hp
      refine ⟨_, _, rfl, by rw [h.str], hl.1, hl.2, fun p hq => ?_⟩
      obtain ⟨E2, g2, r2⟩ := new_lst E (strs_reps (Txt.split s _)) hq
      exact q _ _ E2 g2 r2
    · cases e
  · cases e
def zfillD (s : Str) : List D → Option Vl
  | [.int i] => if PadOk i = true then some (.fz (.str (Txt.zfill s i))) else none
  | _ => none
theorem mts_zfill : MtS ts X "str.zfill" zfillD := by
  refine ⟨_, mt_zfill, fun C Γ σ H s xs ds res Q E hp e q => ?_⟩
  unfold zfillD at e
  split at e
  · split at e
    · rename_i hl
      cases e
      obtain ⟨v, rfl, h⟩ := paired1 hp
      exact ⟨_, _, rfl, by rw [h.int], hl, q _ H E Go.refl rfl⟩
    · cases e
  · cases e
/-! ### name.insert(i, e) -/
variable {e k : Expr} {m mk : ME} {x : Str} {px apos pos : Pos} {i : Nat}
def mInsert (i : Nat) (mk m : ME) : ME := fun Γ => match ownAt Γ i with
  | some _ => (mk Γ).bind fun w Γ1 => (m Γ1).bind fun v Γ2 => match w, cool Γ2 v.op with
    | .fz (.int j), some (d, Γ3) => match ownAt Γ3 i with
      | some (b, ds) => if ds.length < sizeLine ∧ 0 ≤ j ∧ j < 2 ^ 63 then .ok (.fz .non) (Γ3.set i (.ow b (ds.take j.toNat ++ [d] ++ ds.drop j.toNat))) else .no
      | none => .no
    | _, _ => .no
  | none => .no
theorem Reps.takes {K : PySem.W.Frag} {H : Hp} {S : Addr → Prop} : ∀ {ds : List D} {vs : List V}, Reps K H S ds vs → ∀ j, Reps K H S (ds.take j) (vs.take j)
  | [], vs, h, j => by rw [Reps.nil_iff.mp h]; simp; exact Reps.nil_iff.mpr rfl
  | d :: ds, vs, h, j => by
    obtain ⟨v, r, rfl, h1, h2⟩ := Reps.cons_iff.mp h
    cases j with
    | zero => exact Reps.nil_iff.mpr rfl
    | succ j => exact Reps.cons_iff.mpr ⟨v, _, rfl, h1, Reps.takes h2 j⟩
theorem Reps.drops {K : PySem.W.Frag} {H : Hp} {S : Addr → Prop} : ∀ {ds : List D} {vs : List V}, Reps K H S ds vs → ∀ j, Reps K H S (ds.drop j) (vs.drop j)
  | [], vs, h, j => by rw [Reps.nil_iff.mp h]; simp; exact Reps.nil_iff.mpr rfl
  | d :: ds, vs, h, j => by
    cases j with
    | zero => exact h
    | succ j =>
      obtain ⟨v, r, rfl, h1, h2⟩ := Reps.cons_iff.mp h
      exact Reps.drops h2 j
theorem se_insert (ho : PE X (.Name x px) (tVar i)) (hk : SE ts X W k mk) (h : SE ts X W e m)
    (hst : starEach [k, e] X.env = (false, eval k X.env) :: starEach [e] X.env := by rfl) (hst2 : starEach [e] X.env = (false, eval e X.env) :: starEach [] X.env := by rfl) (hbase : attributeBase (.Name x px) "insert" X.env (eval (.Name x px) X.env) = eval (.Name x px) X.env := by rfl)
    (hpl : ((backTo pos (starEach [k, e] X.env)).all (fun x => !x.1) && (backToKw pos (keywordEach [] X.env)).all (·.1.isSome) && decide (([k, e] : List Expr).length + ([] : List Keyword).length + (if ([] : List Keyword).isEmpty = true then 0 else 1) < 30)) = true := by rfl)
    (hline : (apos.endLine == pos.line) = true := by rfl) (hpl2 : (backTo pos (starEach [e] X.env)).any (·.1) = false := by rfl) :
    SE ts X W (.Call (.Attribute (.Name x px) "insert" apos) [k, e] [] pos) (mInsert i mk m) := by
  obtain ⟨tk, pk, sk⟩ := hk
  obtain ⟨t, p, s⟩ := h
  refine ⟨_, pe_bm PySem.F.plainAttrs_list PySem.F.slot_list_insert PySem.F.type_list_insert mt_insert ho (pa_cons pk (pa_cons p pa_nil hst2) hst) hbase hpl hline hst hpl2, fun C Γ σ H Q E h => ?_⟩
  unfold mInsert at h
  split at h
  · rename_i q e0
    obtain ⟨a0, xs0, k1, k2, _⟩ := E.ow i q.1 q.2 (ownAt_eq e0)
    refine ⟨.ref a0, k1, Or.inl ⟨rfl, xs0, SqL.of k2⟩, sk C Γ σ H _ E (Post.bind h fun w Γ1 z H1 E1 g1 w1 h1 => ?_)⟩
    refine s C Γ1 σ H1 _ E1 (Post.bind h1 fun v Γ2 y H2 E2 g2 v2 h2 => ?_)
    split at h2
    · rename_i j d Γ3 e1
      obtain ⟨E3, g3, r3⟩ := (v2.op).cool E2 e1
      split at h2
      · rename_i b ds e2
        split at h2
        · rename_i hl
          obtain ⟨a, xs, k3, k4, k5, _⟩ := E3.ow i b ds (ownAt_eq e2)
          rw [k1] at k3; cases k3
          obtain ⟨E4, g4, _⟩ := E3.mut (ownAt_eq e2) k1 k4 (((k5.takes j.toNat).append (Reps.cons_iff.mpr ⟨_, _, rfl, r3, Reps.nil_iff.mpr rfl⟩)).append (k5.drops j.toNat))
          exact ⟨a0, xs, j, y, rfl, by rw [show z = V.int j from w1], k4, by rw [← k5.length]; exact hl.1, hl.2.1, hl.2.2, h2 .non _ E4 (g3.trans g4) rfl⟩
        · exact h2.elim
      · exact h2.elim
    · exact h2.elim
  · exact h.elim
end
end SX

set_option Elab.async false
set_option linter.all false
set_option maxRecDepth 100000
set_option maxHeartbeats 4000000
namespace SX
open PySem PySem.Spec PyProof.Rows L2 L2H XT GX RD GenW GxR
/-! ### constants that are tuples -/
theorem flat_rep {K : PySem.W.Frag} {H : Hp} {S : Addr → Prop} {d : D} (h : flatD d = true) : Rep K H S d (toV d) := by
  cases d <;> first | rfl | cases h
theorem flat_reps {K : PySem.W.Frag} {H : Hp} {S : Addr → Prop} : ∀ {ds : List D}, ds.all flatD = true → Reps K H S ds (ds.map toV)
  | [], _ => Reps.nil_iff.mpr rfl
  | d :: ds, h => by
    rw [List.all_cons, Bool.and_eq_true] at h
    exact Reps.cons_iff.mpr ⟨_, _, rfl, flat_rep h.1, flat_reps h.2⟩
theorem rep_ktup {K : PySem.W.Frag} {H : Hp} {S : Addr → Prop} {a : Addr} {ds : List D} (h : KTup K a (ds.map toV)) (f : ds.all flatD = true) : Rep K H S (.tup ds) (.ref a) := by
  unfold Rep
  exact ⟨a, _, rfl, .inr h, flat_reps f⟩
theorem ktup_of {K : PySem.W.Frag} {a : Addr} {xs : List V} (h : SqT K (fun _ => none) a xs) : KTup K a xs := by
  rcases h with h | h
  · rcases h with h | ⟨o, h⟩ <;> cases h
  · exact h
end SX

set_option Elab.async false
set_option linter.all false
set_option maxRecDepth 100000
set_option maxHeartbeats 4000000
namespace SX
open PySem PySem.Spec PyProof.Rows L2 L2H XT GX RD GenW GxR
section
variable {ts : Tsx} {X : Cx}
def divmodD : List D → Option Vl
  | [.int i, .int j] => if 0 < j ∧ Builtin.divisionGoesByPylong i j = false then some (.fz (.tup [.int (i / j), .int (i % j)])) else none
  | _ => none
theorem fns_divmod : FnS ts X (.builtin "divmod") divmodD := by
  refine ⟨_, call_divmodW, fun C Γ σ H xs ds res Q E hp e q => ?_⟩
  unfold divmodD at e
  split at e
  · split at e
    · rename_i i j hj
      cases e
      obtain ⟨v, w, rfl, h, h2⟩ := paired2 hp
      refine ⟨i, j, by rw [h.int, h2.int], ⟨hj.1, hj.2⟩, fun p hq => ?_⟩
      obtain ⟨E2, g2, r2⟩ := new_tup E (ds := [.int (i / j), .int (i % j)]) (Reps.cons_iff.mpr ⟨_, _, rfl, rfl, Reps.cons_iff.mpr ⟨_, _, rfl, rfl, Reps.nil_iff.mpr rfl⟩⟩) hq
      exact q _ _ E2 g2 r2
    · cases e
  · cases e
end
end SX

set_option Elab.async false
set_option linter.all false
set_option maxRecDepth 100000
set_option maxHeartbeats 4000000
namespace SX
open PySem PySem.Spec PyProof.Rows L2 L2H XT GX RD GenW GxR
/-! ### isinstance of the error held, with several classes -/
def rIsXT (K : PySem.W.Frag) (a : Addr) (cls : Value) (d : Option Addr) (D : Addr) : List V → Hp → VK → Prop := fun xs H Q => ∃ (tp : Addr) (cs : List V) (us : List Value) (b : Bool) (dd : Addr) (fs : List (Str × V)),
  xs = [.ref a, .ref tp] ∧ cls = .ref D ∧ d = some dd ∧ H dd = some (.xd fs) ∧ H tp = some (.tup cs) ∧ Paired ClsV cs us ∧ PySem.W.kitAny K (.ref D) us = some b ∧ Q (.bl b) H
theorem call_isXT {X : Cx} {a D : Addr} {oe : Obj} {cls : Value} {d : Option Addr} {pn : List (Addr × Obj)} (C : ExcC X.K D) (hz : Zc cls d oe) (hf : ∃ vs, oe.data = .fields vs) : CallR (X.suite a ((a, oe) :: pn)) (.builtin "isinstance") (rIsXT X.K a cls d D) := by
  intro pins s σ H xs us Q I r h
  obtain ⟨tp, cs, ws, b, dd, fs, rfl, rfl, rfl, hdd, hT, k, e, q⟩ := h
  cases r with
  | cons rx rr =>
    cases rr with
    | cons rt rr =>
      cases rr
      cases rx
      rename_i u2
      cases (show u2 = Value.ref tp from rt)
      obtain ⟨hget, _⟩ := I.pin (a, oe) (List.mem_append.mpr (.inl List.mem_cons_self))
      obtain ⟨vs, hv⟩ := hf
      have hx : ObjOk X.prog X.w H s.heap dd (.xd fs) := I.hok dd _ hdd
      obtain ⟨mA, hns, hr⟩ := hx
      obtain ⟨od, es, ep, ho, hl⟩ := hns
      have J : PySem.W.InstAt s.heap a oe D (some od) := by
        obtain ⟨oc, od', oda, osl⟩ := oe
        obtain ⟨h1, h2⟩ := hz
        dsimp only at h1 h2 hv
        subst h1 h2 hv
        exact ⟨hget, rfl, rfl, ho⟩
      obtain ⟨_, its, rv, o, h1, h2, n, h3⟩ := (show ObjOk X.prog X.w H s.heap tp (.tup cs) from I.hok tp _ hT)
      have e3 := ClsV.all k rv
      subst e3
      obtain ⟨oc, od2, dt, sl⟩ := o
      simp only at h2 h3
      subst h2 h3
      exact PySem.W.kia_tup (PySem.W.xt_kitx C.hg C.hk C.hs C.hd C.ha C.hn C.ht C.hm) I.kIn J h1 e (fun z => nomatch z) fun tk => ⟨.bl b, H, I.kept (t' := tk) fun _ _ z => z, rfl, q⟩
section
variable {X : Cx} {W : WX} {a : Addr} {oe : Obj} {cls : Value} {dd : Option Addr} {pn : List (Addr × Obj)} {l : List Addr} {q pos : Pos} {i : Nat} {x : Str} {p1 px : Pos} {es : List Expr} {k1 : Nat}
theorem se_isXT {tab : Str → Option Bool} {cs : List V} {us : List Value} {tt : TA} (hz : Zc cls dd oe) (hf : ∃ vs, oe.data = .fields vs) (ht : ∀ c b, tab c = some b → ExcC X.K (He.ga X.K c) ∧ PySem.W.kitAny X.K (.ref (He.ga X.K c)) us = some b) (hcs : Paired ClsV cs us)
    (hg : Gl X "isinstance") (hm : X.mg "isinstance" = none) (ho : PE (X.suite a ((a, oe) :: pn)) (.Name x px) (tVar i)) (hpa : PA (X.suite a ((a, oe) :: pn)) es tt) (htt : ∀ σ H Q, Q cs H → tt σ H Q) (hn : cs.length ≤ sizeLine)
    (he : starEach [.Name x px, .Tuple es k1 p1] X.env = (false, eval (.Name x px) X.env) :: starEach [.Tuple es k1 p1] X.env := by rfl) (hpl : (backTo pos (starEach [.Tuple es k1 p1] X.env)).any (·.1) = false := by rfl)
    (he2 : starEach [.Tuple es k1 p1] X.env = (false, eval (.Tuple es k1 p1) X.env) :: starEach [] X.env := by rfl) :
    SE ⟨l, some ⟨a, cls, dd⟩⟩ (X.suite a ((a, oe) :: pn)) W (.Call (.Name "isinstance" q) [.Name x px, .Tuple es k1 p1] [] pos) (mIsX i tab) := by
  by_cases hc : ∃ c, cls = .ref (He.ga X.K c) ∧ ExcC X.K (He.ga X.K c)
  · obtain ⟨c0, hcls, hC⟩ := hc
    refine ⟨_, pe_callB (X := X.suite a ((a, oe) :: pn)) (call_isXT hC hz hf) hg hm (by decide +kernel) (pa_cons ho (pa_cons (pe_tup hpa) pa_nil he2) he) (by decide) (by decide) he hpl, fun C Γ σ H Q E h => ?_⟩
    unfold mIsX at h
    split at h
    · rename_i c fs e1
      split at h
      · rename_i b e2
        obtain ⟨qq, k1, k2, k3, d, vs, k4, k5, k6⟩ := E.ex i c fs (exAt_eq e1)
        have k1 : some (⟨a, cls, dd⟩ : Cur) = some qq := k1
        cases k1
        have k3 : cls = .ref (He.ga X.K c) := k3
        obtain ⟨_, hk⟩ := ht c b e2
        refine ⟨.ref a, k2, htt σ H _ ⟨hn, fun tp hq => ?_⟩⟩
        have hd : d ≠ tp := fun z => by rw [← z, k5] at hq; cases hq
        refine ⟨tp, cs, us, b, d, vs, rfl, hcls, k4, by rw [upd_ne hd]; exact k5, upd_same, hcs, ?_, h _ _ (E.new hq) (go_more (keep_new hq)) rfl⟩
        have : He.ga X.K c = He.ga X.K c0 := Value.ref.inj (k3.symm.trans hcls)
        rw [← this]
        exact hk
      · exact h.elim
    · exact h.elim
  · refine ⟨_, pe_never, fun C Γ σ H Q E h => ?_⟩
    unfold mIsX at h
    split at h
    · rename_i c fs e1
      split at h
      · rename_i b e2
        obtain ⟨q, k1, k2, k3, d, vs, k4, k5, k6⟩ := E.ex i c fs (exAt_eq e1)
        have k1 : some (⟨a, cls, dd⟩ : Cur) = some q := k1
        cases k1
        exact hc ⟨c, k3, (ht c b e2).1⟩
      · exact h.elim
    · exact h.elim
end
end SX

set_option Elab.async false
set_option linter.all false
set_option maxRecDepth 100000
set_option maxHeartbeats 4000000
namespace SX
open PySem PySem.Spec PyProof.Rows L2 L2H XT GX RD GenW GxR
section
variable {ts : Tsx} {X : Cx} {W : WX}
/-! ### lcm, sum -/
def rLcm : List V → Hp → VK → Prop := fun vs H Q => ∃ a b : Int, vs = [.int a, .int b] ∧ (max 1 a.natAbs).log2 < 13000 ∧ (max a.natAbs b.natAbs).log2 < 13000 ∧ (Nat.lcm a.natAbs b.natAbs).log2 < bitsLine ∧ Q (.int ((Nat.lcm a.natAbs b.natAbs : Nat) : Int)) H
theorem cr_lcm : CallR X (.builtin "math.lcm") rLcm := by
  intro pins s σ H vs us Q I r h
  obtain ⟨a, b, rfl, h1, h2, h3, q⟩ := h
  obtain ⟨t, u, rfl⟩ := Vals.int2 r
  have g := PySem.W.mg_run_lcm a t b u (by omega) (by omega) (by rw [Nat.lcm_one_left]; exact h3)
  rw [Nat.lcm_one_left] at g
  exact call_function_meets PySem.W.MGF.kind_lcm PySem.W.MGF.plain_lcm PySem.W.MGF.entry_lcm (PySem.W.MGF.args_lcm _ _) g.meets ⟨.int _, H, I.tok _, ⟨_, rfl⟩, q⟩
def lcmD : List D → Option Vl
  | [.int i, .int j] => if (max 1 i.natAbs).log2 < 13000 ∧ (max i.natAbs j.natAbs).log2 < 13000 ∧ (Nat.lcm i.natAbs j.natAbs).log2 < bitsLine then some (.fz (.int ((Nat.lcm i.natAbs j.natAbs : Nat) : Int))) else none
  | _ => none
theorem fns_lcm : FnS ts X (.builtin "math.lcm") lcmD := by
  refine ⟨_, cr_lcm, fun C Γ σ H xs ds res Q E hp e q => ?_⟩
  unfold lcmD at e
  split at e
  · split at e
    · rename_i hl
      cases e
      obtain ⟨v, w, rfl, h, h2⟩ := paired2 hp
      exact ⟨_, _, by rw [h.int, h2.int], hl.1, hl.2.1, hl.2.2, q _ H E Go.refl rfl⟩
    · cases e
  · cases e
def intsD : List D → Option (List Int)
  | [] => some []
  | .int i :: ds => (intsD ds).map (i :: ·)
  | _ => none
theorem reps_ints {K : PySem.W.Frag} {H : Hp} {S : Addr → Prop} : ∀ {ds : List D} {vs : List V} {ns : List Int}, Reps K H S ds vs → intsD ds = some ns → vs = ns.map V.int
  | [], vs, ns, h, e => by
    cases e
    exact Reps.nil_iff.mp h
  | d :: ds, vs, ns, h, e => by
    cases d with
    | int i =>
      unfold intsD at e
      obtain ⟨ms, e1, e2⟩ := Option.map_eq_some_iff.mp e
      subst e2
      obtain ⟨v, r, e3, h1, h2⟩ := Reps.cons_iff.mp h
      have h1 : v = .int i := h1
      rw [e3, h1, reps_ints h2 e1]
      rfl
    | _ => cases e
def sumD : List D → Option Vl
  | [.lst ds] => (intsD ds).map fun ns => .fz (.int ns.sum)
  | _ => none
theorem fns_sum (hc : X.calm = true) : FnS ts X (.builtin "sum") sumD := by
  refine ⟨_, cr_sum hc, fun C Γ σ H xs ds res Q E hp e q => ?_⟩
  unfold sumD at e
  split at e
  · obtain ⟨ns, e1, e2⟩ := Option.map_eq_some_iff.mp e
    subst e2
    obtain ⟨v, rfl, h⟩ := paired1 hp
    obtain ⟨a, ys, e3, e4, e5⟩ := h.lst
    have e6 := reps_ints e5 e1
    subst e6
    exact ⟨a, ns, by rw [e3], .inl (.inl e4), q _ H E Go.refl rfl⟩
  · cases e
end
end SX

set_option Elab.async false
set_option linter.all false
set_option maxRecDepth 100000
set_option maxHeartbeats 4000000
namespace SX
open PySem PySem.Spec PyProof.Rows L2 L2H XT GX RD GenW GxR PySem.Builtin
section
variable {M : Model} {A : Around} {E : Value → Shared → Prop} {s : Shared}
/-! ### str of an int beyond 1920 bits: no limit on figures has been set -/
theorem noLimit_run {a : Int} {Q : Option Nat → Shared → Prop} (ha : a.natAbs.log2 < 12900) (hs : ∀ {A : Around} {Q : Option Value → Shared → Prop} {E : Value → Shared → Prop}, Q none s → wpAny M A (nsGet cStatics "sys.int_max_str_digits") Q E s) (h : Q none s) : wpAny M A (overDigitLimit? a) Q E s := by
  by_cases h1 : a.natAbs.log2 < 1920
  · rw [PySem.overDigitLimit_small h1]
    exact wpAny_pure h
  · unfold overDigitLimit?
    rw [if_neg h1]
    refine wpAny_bind ?_
    unfold intMaxStrDigits
    refine wpAny_bind (hs ?_)
    refine wpAny_pure ?_
    have h2 : ¬ (a.natAbs.log2 / 30 + 1 > 1000) := by omega
    have h3 : ((4300 : Nat) == 0 || decide (a.natAbs.log2 < 3 * 4300)) = true := by
      have : decide (a.natAbs.log2 < 3 * 4300) = true := decide_eq_true (by omega)
      rw [this]; rfl
    dsimp only
    rw [if_neg h2, if_pos h3]
    exact wpAny_pure h
theorem meets_repr_wide {a : Int} {t : Tok} (ha : a.natAbs.log2 < 12900) :
    Meets («int.__repr__» ⟨[.int a t], []⟩) (fun A R s => (∀ (M : Model) (A : Around) (Q : Option Value → Shared → Prop) (E : Value → Shared → Prop), Q none s → wpAny M A (nsGet cStatics "sys.int_max_str_digits") Q E s) ∧ R (.ok (.ret (.str (toString a) s.toks))) { s with toks := s.toks + 1 }) := by
  refine Meets.of_wp fun prog w A R s h => ?_
  unfold «int.__repr__»
  refine wpAny_bind (wpAny_pure ?_)
  refine wpAny_bind (noLimit_run ha (fun {A Q E} hq => h.1 _ A Q E hq) ?_)
  have hz : (Str.ofString (toString a)).length ≤ sizeLine := by
    have e := int_text_length_le (k := 12900) (by decide) ha
    rw [PySem.ofString_length, sizeLine_eq]; omega
  refine wpAny_bind (wpAny_mkStr ?_ hz)
  exact wpAny_pure ⟨_, rfl, h.2⟩
end
section
variable {ts : Tsx} {X : Cx} {W : WX}
def strN (K : PySem.W.Frag) : Prop := PySem.W.nsIn K cStatics "sys.int_max_str_digits" = some none
theorem cr_strW (hu : X.A.units + 64 < cLine) (hk : strN X.K) : CallR X (.type "str") (fun xs H Q => ∃ i, xs = [.int i] ∧ i.natAbs.log2 < 12900 ∧ Q (.str (toString i)) H) := by
  intro pins s σ H xs us Q I r h
  obtain ⟨i, rfl, hz, q⟩ := h
  obtain ⟨u, rfl, t, rfl⟩ := vals1 r
  refine callType_new F.called_str (by decide) (F.typeCall_str_1 _) (F.newCall_str_1 _) (fun obj => F.args_object_init_2 obj _) F.entry_str_new
    (meets_str_new_slot rfl F.slot_int_str F.slot_int_repr F.entry_int_repr (F.args_int_repr_1 _) (meets_repr_wide hz)) ⟨typeIs_int _ _ _, ?_, fun M A Q E hq => ?_, _, _, rfl, ?_⟩
  · show X.A.units + 1 + 2 < cLine
    omega
  · exact PySem.W.looks_nsIn I.kIn hk _ _ _ _ (fun _ _ e => e) hq
  · exact ⟨typeIs_str _ _ _, .str _, H, I.tok _, ⟨_, rfl⟩, q⟩
def strWD : List D → Option Vl
  | [.int i] => if i.natAbs.log2 < 12900 then some (.fz (.str (toString i))) else none
  | [.str s] => some (.fz (.str s))
  | _ => none
theorem fns_strW (hu : X.A.units + 64 < cLine) (hk : strN X.K) : FnS ts X (.type "str") strWD := by
  refine ⟨_, CallR.or (cr_strW hu hk) SkE.call_str_str, fun C Γ σ H xs ds res Q E hp e q => ?_⟩
  unfold strWD at e
  split at e
  · split at e
    · rename_i hl
      cases e
      obtain ⟨v, rfl, h⟩ := paired1 hp
      exact .inl ⟨_, by rw [h.int], hl, q _ H E Go.refl rfl⟩
    · cases e
  · cases e
    obtain ⟨v, rfl, h⟩ := paired1 hp
    exact .inr ⟨_, by rw [h.str], q _ H E Go.refl rfl⟩
  · cases e
/-! ### int of a text too -/
def intSD : List D → Option Vl
  | [.int i] => some (.fz (.int i))
  | [.bl b] => some (.fz (.int (if b = true then 1 else 0)))
  | [.str s] => (PySem.intText? s).bind fun n => if s.length ≤ 640 then some (.fz (.int n)) else none
  | _ => none
theorem fns_intS : FnS ts X (.type "int") intSD := by
  refine ⟨_, CallR.or call_int1 call_int_str, fun C Γ σ H xs ds res Q E hp e q => ?_⟩
  unfold intSD at e
  split at e
  · cases e
    obtain ⟨v, rfl, h⟩ := paired1 hp
    exact .inl (.inl ⟨_, by rw [h.int], q _ H E Go.refl rfl⟩)
  · cases e
    obtain ⟨v, rfl, h⟩ := paired1 hp
    refine .inl (.inr ⟨_, by rw [h.bl], ?_⟩)
    exact q _ H E Go.refl rfl
  · obtain ⟨n, e1, e2⟩ := Option.bind_eq_some_iff.mp e
    split at e2
    · rename_i hl
      cases e2
      obtain ⟨v, rfl, h⟩ := paired1 hp
      exact .inr ⟨_, n, by rw [h.str], e1, hl, q _ H E Go.refl rfl⟩
    · cases e2
  · cases e
end
/-! ### the hook that also looks at the interpreter's own settings -/
section
variable {n : Nat} {fa : List He.Fa} {fn : List He.DefD} {tb : List He.Tab} {tf : List He.Defn} {ex : PySem.W.Frag → Bool} {w : World} {h : Heap}
theorem says_frT {as : List Addr} (e1 : He.obsT fa fn tb (He.frT h.get? as) = He.valT fn tb w) (e2 : ex (He.frT h.get? as) = true) (e3 : He.tabsB h.get? tf (He.frT h.get? as) = true) : He.SaysX fa fn tb tf ex w h (He.frT h.get? as) := by
  have one : ∀ p ∈ tf, ∃ o, h.get? (He.cT (He.frT h.get? as) p).2 = some o ∧ He.emptyTab o = true ∧ PySem.W.codeHdIn (He.frT h.get? as) (He.cT (He.frT h.get? as) p).1 (He.cT (He.frT h.get? as) p).2 = true := by
    intro p hp
    have := List.all_eq_true.mp e3 p hp
    rw [Bool.and_eq_true] at this
    obtain ⟨a, b⟩ := this
    split at b
    · rename_i o q
      exact ⟨o, q, b, a⟩
    · cases b
  constructor
  · exact e1
  · exact e2
  · intro p hp
    exact (one p hp).choose_spec.2.2
  · intro p hp
    obtain ⟨o, q, z, _⟩ := one p hp
    exact He.frT_none q z
  · intro p hp
    obtain ⟨o, q, z, _⟩ := one p hp
    rw [q, He.emptyTab_eq z]
def asS (g : Addr → Option Obj) (n : Nat) : List Addr := cStatics :: He.asD g n
def obsS (n : Nat) (fa : List He.Fa) (fn : List He.DefD) (tb : List He.Tab) (tf : List He.Defn) (ex : PySem.W.Frag → Bool) (g : Addr → Option Obj) : He.AlX :=
  (He.obsT fa fn tb (He.frT g (asS g n)), ex (He.frT g (asS g n)) && He.tabsB g tf (He.frT g (asS g n)))
def hookS (n : Nat) (fa : List He.Fa) (fn : List He.DefD) (tb : List He.Tab) (tf : List He.Defn) (ex : PySem.W.Frag → Bool) : PySem.W.Hook where
  α := He.AlX
  obs := fun s => obsS n fa fn tb tf ex s.heap.get?
  val := fun w => He.valX fn tb w
  says := fun w h => ∃ K : PySem.W.Frag, K.In h ∧ He.SaysX fa fn tb tf ex w h K
  of := fun w h e => by
    have a := congrArg Prod.fst e
    have b := congrArg Prod.snd e
    have b : (ex (He.frT _ (asS _ n)) && He.tabsB _ tf (He.frT _ (asS _ n))) = true := b
    rw [Bool.and_eq_true] at b
    exact ⟨_, He.frT_in, says_frT a b.1 b.2⟩
  keeps := fun _ _ _ ⟨K, hK, c⟩ k => ⟨K, hK.keeps k, { t := c.t, more := c.more, hd := c.hd, out := c.out, empty := fun p hp => k _ _ (c.empty p hp) }⟩
theorem obsS_eq {g : Addr → Option Obj} {s : Shared} (e : ∀ a, g a = s.heap.get? a) : obsS n fa fn tb tf ex g = (hookS n fa fn tb tf ex).obs s := by
  have : g = s.heap.get? := funext e
  subst this
  rfl
end
end SX

set_option Elab.async false
set_option linter.all false
set_option maxRecDepth 100000
set_option maxHeartbeats 4000000
/-! defs that call themselves: the promise of no fuel -/
namespace SX
open PySem PySem.Spec PyProof.Rows L2 L2H XT GX RD
section
variable {P : Program} {w : World} {K : PySem.W.Frag} {mg : Str → Option Value} {base : Heap} {k : Nat} {f c : Addr} {fd : FuncData} {ps N : List Str} {x qual : Str} {ar : Arguments} {bd : List Stmt} {sc : Scope} {io : List Bool}
theorem fn_zero {l : List Addr} (F : FT K x qual ar bd sc f c fd) (S : FnScope N ps sc) (hio : io.length = ps.length) :
    FnOk P w K mg base (L2.CX P w) (k + 1) f fd ps (spF K l io (fun _ => .no)) := by
  refine F.ok S (fun vs H Q E h => spF_len hio h) fun A outer s H vs Q E hr h => ?_
  obtain ⟨ds, Z, _, _, _, hp⟩ := h
  exact hp.elim
theorem fn_zeroA {l : List Addr} (F : FT K x qual ar bd sc f c fd) (S : FnScope N ps sc) (hio : io.length = ps.length) :
    FnA P w K mg base (L2.CX P w) (k + 1) f fd ps (spF K l io (fun _ => .no)) := by
  refine F.okA S (fun vs H Q E h => spF_len hio h) fun A outer s H vs Q E hr h => ?_
  obtain ⟨ds, Z, _, _, _, hp⟩ := h
  exact hp.elim
end
section
variable {ts : Tsx} {X : Cx}
/-- find with a start -/
def find3D (s : Str) : List D → Option Vl
  | [.str b, .int i] => some (.fz (.int (Txt.find3 s b i)))
  | _ => none
theorem mts_find3 : MtS ts X "str.find" find3D := by
  refine ⟨_, mt_find3, fun C Γ σ H s xs ds res Q E hp e q => ?_⟩
  unfold find3D at e
  split at e
  · cases e
    obtain ⟨v, w, rfl, h, h2⟩ := paired2 hp
    exact ⟨_, _, _, rfl, by rw [h.str, h2.int], q _ H E Go.refl rfl⟩
  · cases e
end
end SX

set_option Elab.async false
set_option linter.all false
set_option maxRecDepth 100000
set_option maxHeartbeats 4000000
/-! a, b = x, y -/
namespace SX
open PySem PySem.Spec PyProof.Rows L2 L2H XT GX RD
section
variable {ts : Tsx} {X : Cx} {W : WX}
def mPar (i j : Nat) (ms : MA) : MS := fun Γ => (ms Γ).bind fun vs Γ1 => match cools Γ1 vs with
  | some ([d, e], Γ2) => if freeAt Γ2 i = true ∧ freeAt (Γ2.set i (.fz d)) j = true then .ok .nx ((Γ2.set i (.fz d)).set j (.fz e)) else .no
  | _ => .no
theorem s1_par {i j : Nat} {x y : Str} {a b : Expr} {ms : MA} {px py pt pos : Pos} {kt k2 pt2} (hc : X.calm = true) (hN : X.N.Nodup) (hi : X.N[i]? = some x) (hj : X.N[j]? = some y) (hij : i ≠ j)
    (hx : X.env.scope.names.lookup x = some .local) (hy : X.env.scope.names.lookup y = some .local) (ha : SA ts X W [a, b] ms)
    (hw : swappedStores [.Tuple [.Name x px, .Name y py] kt pt] (.Tuple [a, b] k2 pt2) X.env = pure (some [x, y]))
    (hs : swapsWithSole [.Tuple [.Name x px, .Name y py] kt pt] (.Tuple [a, b] k2 pt2) pos.line X.env = pure false := by rfl) :
    S1 ts X W (.Assign [.Tuple [.Name x px, .Name y py] kt pt] (.Tuple [a, b] k2 pt2) pos) (mPar i j ms) := by
  obtain ⟨t, p, s⟩ := ha
  refine ⟨_, ps_par hc hN hi hj hij hx hy p hw hs, fun C Γ σ H D E h => s C Γ σ H _ E (PostS.bind h fun vs Γ1 xs H1 E1 g1 v1 h1 => ?_)⟩
  split at h1
  · rename_i d e Γ2 e1
    obtain ⟨E2, g2, r2⟩ := v1.cools E1 e1
    obtain ⟨v, r, rfl, rv, r3⟩ := Reps.cons_iff.mp r2
    obtain ⟨w, r', rfl, rw', r4⟩ := Reps.cons_iff.mp r3
    obtain rfl := Reps.nil_iff.mp r4
    split at h1
    · rename_i hf
      obtain ⟨n1, l1⟩ := free_not hf.1
      obtain ⟨n2, l2⟩ := free_not hf.2
      have E3 := E2.put rv n1
      have wk : ∀ a, Av C (Γ2.set i (.fz d)) (σ.set i (some v)) a → Av C Γ2 σ a := fun a z => z.elim (fun z => .inl (own_put l1 a z)) .inr
      exact ⟨v, w, rfl, h1 C _ H1 Ext.refl (E3.put (rw'.weak wk) n2)⟩
    · exact h1.elim
  · exact h1.elim
end
end SX

set_option Elab.async false
set_option linter.all false
set_option maxRecDepth 100000
set_option maxHeartbeats 4000000
/-! lists of lists of one's own: they are made, their lists grow -/
namespace SX
open PySem PySem.Spec PyProof.Rows L2 L2H XT GX RD GenW GxR
section
variable {K : PySem.W.Frag} {ts : Tsx} {C C' : Cn} {Γ Γ' Γ1 Γ2 : EV} {σ σ' : L2.St} {H H' H1 H2 : Hp}
/-- a list at Z changes -/
theorem EnvOK.mutY {p : Addr} {xs xs' : List V} (E : EnvOK K ts C Γ σ H) (pz : C.Z p) (hf : Fre C p) (hn : ∀ (i : Nat) (a : Addr) (bs : List Addr), C.gh i = some (a, bs) → ¬ p ∈ a :: bs) (hp : H p = some (.lst xs)) :
    EnvOK K ts C Γ σ (upd H p (.lst xs')) ∧ St2 (Av C Γ σ) H (Av C Γ σ) (upd H p (.lst xs')) := by
  have g : St2 (Av C Γ σ) H (Av C Γ σ) (upd H p (.lst xs')) := ⟨fun b u hb e _ => by rw [upd_ne (fun z => hb (by rw [z]; exact .inr pz))]; exact e, fun a z => .inl z⟩
  have tb : Tb ts.l (upd H p (.lst xs')) := (Nx.put (ms := [p]) E.tb hp (fun ps z => by cases z) (by simp)).tab
  refine ⟨⟨E.len, fun i d e => ?_, fun i b ds e => ?_, fun i c fs e => ?_, E.dis, E.nz, E.fr.step tb fun b u hb e n e1 => ?_, E.fo, fun a z => ?_, fun q hq => (E.hd q hq).go g, E.gz, E.oo.go rfl g (fun j dss e => ⟨e, rfl⟩) fun i' a' bs x xs q m e => by rw [upd_ne (fun z => hn i' a' bs q (by rw [← z]; exact m))]; exact e⟩, g⟩
  · obtain ⟨v, h1, h2⟩ := E.fz i d e
    exact ⟨v, h1, h2.go g⟩
  · obtain ⟨a, ys, h1, h2, h3, h4⟩ := E.ow i b ds e
    refine ⟨a, ys, h1, ?_, h3.go g, h4⟩
    rw [upd_ne (fun z => E.nz a ⟨i, b, ds, e, h1⟩ (by rw [z]; exact pz))]
    exact h2
  · obtain ⟨q, h1, h2, h3⟩ := E.ex i c fs e
    exact ⟨q, h1, h2, h3.go g fun dd vs _ e2 => E.notAv e2 (fun xs z => by cases z)⟩
  · rw [upd_ne (fun z => ?_)]
    · exact e1
    · rcases hf with q | q
      · exact hb (by rw [z]; exact q)
      · obtain ⟨ps, e2⟩ := q u (by rw [← z]; exact e)
        exact n ps e2
  · by_cases ha : a = p
    · exact ⟨xs', by rw [ha, upd_same]⟩
    · rw [upd_ne ha]; exact E.z a z
/-- one of the lists changes -/
theorem EnvOK.mutO {i j : Nat} {dss : List (List D)} {a b : Addr} {bs : List Addr} {ds' : List D} {xs xs' : List V} (E : EnvOK K ts C Γ σ H) (hi : Γ[i]? = some (Sl.oo dss)) (hgh : C.gh i = some (a, bs)) (hj : bs[j]? = some b) (hp : H b = some (.lst xs)) (r : Reps K H (Av C Γ σ) ds' xs') :
    EnvOK K ts C (Γ.set i (.oo (dss.set j ds'))) σ (upd H b (.lst xs')) := by
  have hl := lt_of_get hi
  have mb : b ∈ a :: bs := List.mem_cons_of_mem _ (List.mem_of_getElem? hj)
  obtain ⟨pz, hf⟩ := E.gz.z i a bs b hgh mb
  have own : ∀ c, Own (Γ.set i (.oo (dss.set j ds'))) σ c → Own Γ σ c := fun c ⟨k, bb, es, h1, h2⟩ => by
    by_cases hk : k = i
    · subst hk
      rw [List.getElem?_set_self hl] at h1; cases h1
    · rw [List.getElem?_set_ne (Ne.symm hk)] at h1
      exact ⟨k, bb, es, h1, h2⟩
  have w : ∀ c, Av C (Γ.set i (.oo (dss.set j ds'))) σ c → Av C Γ σ c := fun c z => z.elim (fun z => .inl (own c z)) .inr
  have g : St2 (Av C Γ σ) H (Av C (Γ.set i (.oo (dss.set j ds'))) σ) (upd H b (.lst xs')) := ⟨fun c u hb e _ => by rw [upd_ne (fun z => hb (by rw [z]; exact .inr pz))]; exact e, fun c z => .inl (w c z)⟩
  have tb : Tb ts.l (upd H b (.lst xs')) := (Nx.put (ms := [b]) E.tb hp (fun ps z => by cases z) (by simp)).tab
  have get : ∀ {k : Nat} {s : Sl}, (Γ.set i (.oo (dss.set j ds')))[k]? = some s → (∀ q, s ≠ .oo q) → Γ[k]? = some s := fun {k s} e n => by
    by_cases hk : k = i
    · subst hk
      rw [List.getElem?_set_self hl] at e
      exact (n _ (Option.some.inj e).symm).elim
    · rw [List.getElem?_set_ne (Ne.symm hk)] at e
      exact e
  have ne : ∀ {x : Addr}, x ≠ b → ∀ {u : HO}, H x = some u → upd H b (.lst xs') x = some u := by intro x h u e; rw [upd_ne h]; exact e
  refine ⟨by rw [List.length_set]; exact E.len, fun k d e => ?_, fun k bb ds e => ?_, fun k c fs e => ?_, fun k k2 c b1 b2 es fs e f => E.dis k k2 c b1 b2 es fs (get e (fun _ z => by cases z)) (get f (fun _ z => by cases z)), fun c z => E.nz c (own c z), E.fr.step tb fun c u hb e n e1 => ?_, fun c z => E.fo c (own c z), fun c z => ?_, fun q hq => (E.hd q hq).go g, E.gz, fun k ess e => ?_⟩
  · obtain ⟨v, h1, h2⟩ := E.fz k d (get e (fun _ z => by cases z))
    exact ⟨v, h1, h2.go g⟩
  · have e := get e (fun _ z => by cases z)
    obtain ⟨c, ys, h1, h2, h3, h4⟩ := E.ow k bb ds e
    exact ⟨c, ys, h1, ne (fun z => E.nz c ⟨k, bb, ds, e, h1⟩ (by rw [z]; exact pz)) h2, h3.go g, h4⟩
  · obtain ⟨q, h1, h2, h3⟩ := E.ex k c fs (get e (fun _ z => by cases z))
    exact ⟨q, h1, h2, h3.go g fun dd vs _ e2 => E.notAv e2 (fun xs z => by cases z)⟩
  · refine ne (fun z => ?_) e1
    rcases hf with q | q
    · exact hb (by rw [z]; exact q)
    · obtain ⟨ps, e2⟩ := q u (by rw [← z]; exact e)
      exact n ps e2
  · by_cases hc : c = b
    · exact ⟨xs', by rw [hc, upd_same]⟩
    · rw [upd_ne hc]; exact E.z c z
  · by_cases hk : k = i
    · subst hk
      rw [List.getElem?_set_self hl] at e
      cases e
      obtain ⟨a2, bs2, q1, q2, q3, q4, q5⟩ := E.oo k dss hi
      rw [hgh] at q1; cases q1
      have nd := E.gz.nd k a bs hgh
      refine ⟨a, bs, hgh, q2, ne (fun z => ?_) q3, by rw [List.length_set]; exact q4, fun m c es k1 k2 => ?_⟩
      · rw [List.nodup_cons] at nd
        exact nd.1 (by rw [z]; exact List.mem_of_getElem? hj)
      · by_cases hm : m = j
        · subst hm
          rw [hj] at k1; cases k1
          rw [List.getElem?_set_self (by rw [← q4]; exact lt_of_get hj)] at k2
          cases k2
          exact ⟨xs', upd_same, r.go g⟩
        · rw [List.getElem?_set_ne (Ne.symm hm)] at k2
          obtain ⟨ys, r1, r2⟩ := q5 m c es k1 k2
          refine ⟨ys, ne (fun z => hm ?_) r1, r2.go g⟩
          subst z
          have nd2 := (List.nodup_cons.mp nd).2
          exact (List.getElem?_inj (lt_of_get k1) nd2).mp (k1.trans hj.symm)
    · rw [List.getElem?_set_ne (Ne.symm hk)] at e
      obtain ⟨a2, bs2, q1, q2, q3, q4, q5⟩ := E.oo k ess e
      have nb : ∀ x ∈ a2 :: bs2, x ≠ b := fun x hx z => hk (E.gz.dj k i a2 a bs2 bs x q1 hgh hx (by rw [z]; exact mb))
      refine ⟨a2, bs2, q1, q2, ne (nb a2 (by simp)) q3, q4, fun m c es k1 k2 => ?_⟩
      obtain ⟨ys, r1, r2⟩ := q5 m c es k1 k2
      exact ⟨ys, ne (nb c (List.mem_cons_of_mem _ (List.mem_of_getElem? k1))) r1, r2.go g⟩
/-- C' is C, with S at Z besides -/
structure Lk (C C' : Cn) (L : List (D × V)) (S : Addr → Prop) : Prop where
  h0 : C'.H0 = C.H0
  m : C'.M = C.M
  hl : C'.held = L ++ C.held
  pin : C'.pin = C.pin
  gh : C'.gh = C.gh
  z : ∀ a, C'.Z a ↔ (C.Z a ∨ S a)
/-- a new list at Dl of new lists -/
structure Obs (C C' : Cn) (L : List (D × V)) (H : Hp) (Dl : Addr) (bs : List Addr) (acc : List (List D)) : Prop where
  lk : Lk C C' L (fun a => a = Dl ∨ a ∈ bs)
  nd : (Dl :: bs).Nodup
  nz : ∀ x ∈ Dl :: bs, ¬ C.Z x ∧ Fre C x
  hd : H Dl = some (.lst (bs.map V.ref))
  len : bs.length = acc.length
  it : ∀ (j : Nat) (b : Addr) (ds : List D), bs[j]? = some b → acc[j]? = some ds → ∃ xs, H b = some (.lst xs) ∧ ds.length = xs.length ∧ ∀ (k : Nat) (d : D) (v : V), ds[k]? = some d → xs[k]? = some v → (d, v) ∈ L
theorem Obs.notOwn {Dl : Addr} {bs : List Addr} {acc : List (List D)} {L : List (D × V)} (E : EnvOK K ts C' Γ σ H) (o : Obs C C' L H1 Dl bs acc) : ∀ x ∈ Dl :: bs, C'.Z x ∧ ¬ Own Γ σ x := fun x m => by
  have z : C'.Z x := (o.lk.z x).mpr (.inr (by simpa using m))
  exact ⟨z, fun q => E.nz x q z⟩
/-- nothing happens to the lists -/
theorem Obs.go {Dl : Addr} {bs : List Addr} {acc : List (List D)} {L : List (D × V)} (o : Obs C C' L H Dl bs acc) (kp : ∀ x ∈ Dl :: bs, ∀ xs, H x = some (.lst xs) → H' x = some (.lst xs)) : Obs C C' L H' Dl bs acc :=
  ⟨o.lk, o.nd, o.nz, kp Dl (by simp) _ o.hd, o.len, fun j b ds e1 e2 => let ⟨xs, h1, h2⟩ := o.it j b ds e1 e2; ⟨xs, kp b (List.mem_cons_of_mem _ (List.mem_of_getElem? e1)) xs h1, h2⟩⟩
def okOw {α : Type} (v : Vl) (f : List D → Out α) : Out α := match v with
  | .ow es => f es
  | _ => .no
/-- [[..] for .. in ..]: the lists that come -/
def lcO (g : D → EV → Option EV) (mt : MT) (me : ME) (vs : List Nat) : List D → List (List D) → EV → Out (List (List D))
  | [], acc, Γ => .ok acc Γ
  | d :: ds, acc, Γ => match g d Γ with
    | none => .no
    | some Γ2 => (mt Γ2).nr.bind fun b Γ3 => if b = true then (me Γ3).nr.bind fun v Γ4 => okOw v fun es => if acc.length < sizeLine then lcO g mt me vs ds (acc ++ [es]) (wipeE Γ4 vs) else .no
      else lcO g mt me vs ds acc (wipeE Γ3 vs)
def okO (Fin : List (List D) → EV → Prop) : Out (List (List D)) → Prop
  | .ok acc Γ => Fin acc Γ
  | _ => False
theorem lcO_sim {Q : VK} {vs : List Nat} {items : List D} {held : List (D × V)} {J : It} {g : D → EV → Option EV} {mt : MT} {me : ME} {tt : TT} {te : TE} {tg' : TG} {Dl : Addr} {Fin : List (List D) → EV → Prop}
    (sg : ∀ (ts : Tsx) (C : Cn) (Γ : EV) (σ : L2.St) (H : Hp) (d : D) (v : V) (Γ' : EV) (Q : L2.St → Hp → Prop), EnvOK K ts C Γ σ H → Rep K H (Av C Γ σ) d v → g d Γ = some Γ' →
      (∀ σ', EnvOK K ts C Γ' σ' H → (∀ a, Own Γ' σ' a → Own Γ σ a) → wipe σ' vs = wipe σ vs → Q σ' H) → tg' v σ H Q)
    (st : ∀ (C : Cn) (Γ : EV) (σ : L2.St) (H : Hp) (Q : Bool → Hp → Prop), EnvOK K ts C Γ σ H → Post K ts C WF σ Γ H RQ Q (mt Γ) → tt σ H Q)
    (se : ∀ (C : Cn) (Γ : EV) (σ : L2.St) (H : Hp) (Q : VK), EnvOK K ts C Γ σ H → Post K ts C WF σ Γ H (RE K ts C σ) Q (me Γ) → te σ H Q)
    (fin : ∀ (C' : Cn) (acc : List (List D)) (Γ : EV) (H : Hp) (bs : List Addr), Fin acc Γ → EnvOK K ts C' Γ σ H → Lk C C' [] (fun a => a = Dl ∨ a ∈ bs) → (Dl :: bs).Nodup → (∀ x ∈ Dl :: bs, ¬ C.Z x ∧ Fre C x) → H Dl = some (.lst (bs.map V.ref)) → bs.length = acc.length →
      (∀ (j : Nat) (b : Addr) (ds : List D), bs[j]? = some b → acc[j]? = some ds → ∃ xs, H b = some (.lst xs) ∧ Reps K H (Av C' Γ σ) ds xs) → Q (.ref Dl) H)
    (E1 : EnvOK K ts C Γ1 σ H1) (hh : ∀ p ∈ held, Rep K H1 (Av C Γ1 σ) p.1 p.2) (ok : ItOK K items held J) (hD : H1 Dl = none)
    (h : okO Fin (lcO g mt me vs items [] (wipeE Γ1 vs))) :
    ∃ Wl : Nat → Nat → Hp → Prop, (∃ m, Wl 0 m (upd H1 Dl (.lst []))) ∧ ∀ i m H, Wl i m H →
      (J.stop i H ∧ Q (.ref Dl) H) ∨ (J.go i H ∧ ∃ Nx : Hp → Prop, (∀ H', Nx H' → ∃ m', m' < m ∧ Wl (i + 1) m' H') ∧ ∀ x H', J.yld i H x H' → tg' x (wipe σ vs) H' fun σ2 H2 => wipe σ2 vs = wipe σ vs ∧ tt σ2 H2 fun b H3 =>
        if b = true then te σ2 H3 fun y H4 => ∃ acc, H4 Dl = some (.lst acc) ∧ acc.length < sizeLine ∧ Nx (upd H4 Dl (.lst (acc ++ [y]))) else Nx H3) := by
  have fD := E1.fresh hD
  have gz0 := E1.gz
  refine ⟨fun i k H => k = items.length - i ∧ i ≤ items.length ∧ ∃ C' L Γ acc bs, EnvOK K ts C' Γ (wipe σ vs) H ∧ (∀ k ∈ vs, Γ[k]? = some Sl.no ∨ Γ[k]? = none) ∧ Obs (C.hold held) C' L H Dl bs acc ∧ okO Fin (lcO g mt me vs (items.drop i) acc Γ),
    ⟨_, rfl, Nat.zero_le _, (C.hold held).z1 Dl, [], wipeE Γ1 vs, [], [], ((E1.hold hh).wipe vs).zed hD, wipeE_no Γ1 vs, ⟨⟨rfl, rfl, rfl, rfl, rfl, fun a => by show (C.Z a ∨ a = Dl) ↔ (C.Z a ∨ (a = Dl ∨ a ∈ [])); simp⟩, by simp, fun x m => ?_, upd_same, rfl, fun j b ds e => by simp at e⟩, h⟩, ?_⟩
  · obtain rfl : x = Dl := by simpa using m
    exact ⟨fun z => fD.1 (.inr z), fD.2⟩
  rintro i k H ⟨rfl, hi, C', L, Γ, acc, bs, E, hno, o, h⟩
  have hhE : ∀ {H : Hp} {Γ : EV} {σ : L2.St}, EnvOK K ts C' Γ σ H → ∀ p ∈ held, Rep K H (Av C' Γ σ) p.1 p.2 := fun E p hp => E.hd p (by rw [o.lk.hl]; exact List.mem_append_right _ (List.mem_append_left _ hp))
  by_cases hlt : i < items.length
  · refine .inr ⟨ok.go i _ H _ (List.getElem?_eq_getElem hlt) (hhE E), fun H => i + 1 ≤ items.length ∧ ∃ C' L Γ acc bs, EnvOK K ts C' Γ (wipe σ vs) H ∧ (∀ k ∈ vs, Γ[k]? = some Sl.no ∨ Γ[k]? = none) ∧ Obs (C.hold held) C' L H Dl bs acc ∧ okO Fin (lcO g mt me vs (items.drop (i + 1)) acc Γ), fun H' w => ⟨items.length - (i + 1), by omega, rfl, w⟩, fun x H' hy => ?_⟩
    obtain ⟨k1, r1⟩ := ok.yld i _ H (Av C' Γ (wipe σ vs)) x H' (List.getElem?_eq_getElem hlt) (hhE E) E.trk hy
    have E2 : EnvOK K ts C' Γ (wipe σ vs) H' := E.more (tb_all (t := E.tb) k1) (fun b u e _ => k1 b u e)
    have o2 : Obs (C.hold held) C' L H' Dl bs acc := o.go (fun x _ xs e => k1 x _ e)
    rw [List.drop_eq_getElem_cons hlt] at h
    unfold lcO at h
    split at h
    · exact h.elim
    · rename_i Γ2 e2
      refine sg ts C' Γ (wipe σ vs) H' _ x Γ2 _ E2 r1 e2 fun σ2 E3 o3 w3 => ⟨by rw [w3, wipe_wipe], ?_⟩
      have w3' : wipe σ2 vs = wipe σ vs := by rw [w3, wipe_wipe]
      have ob3 := o2
      refine st C' Γ2 σ2 H' _ E3 ?_
      cases e4 : mt Γ2 with
      | no => rw [e4] at h; exact h
      | rz x Γ' => rw [e4] at h; exact h.elim
      | ok b Γ3 =>
        rw [e4] at h
        have h : okO Fin (if b = true then (me Γ3).nr.bind fun v Γ4 => okOw v fun es => if acc.length < sizeLine then lcO g mt me vs (items.drop (i + 1)) (acc ++ [es]) (wipeE Γ4 vs) else .no
          else lcO g mt me vs (items.drop (i + 1)) acc (wipeE Γ3 vs)) := h
        intro b' H3 E4 g4 eb
        obtain rfl : b = b' := eb
        have kp : ∀ {Γ5 : EV} {H5 : Hp}, Go C' Γ2 σ2 H' Γ5 H5 → ∀ x ∈ Dl :: bs, ∀ xs, H' x = some (.lst xs) → H5 x = some (.lst xs) := fun {Γ5 H5} gt x m xs e => gt.keep x _ (ob3.notOwn E3 x m).2 e (fun ps z => by cases z)
        cases b with
        | false =>
          rw [if_neg (by decide)]
          rw [if_neg (by decide)] at h
          have E5 := E4.wipe vs
          rw [w3'] at E5
          exact ⟨hlt, C', L, wipeE Γ3 vs, acc, bs, E5, wipeE_no _ _, ob3.go (kp g4), h⟩
        | true =>
          rw [if_pos rfl]
          rw [if_pos rfl] at h
          refine se C' Γ3 σ2 H3 _ E4 ?_
          cases e5 : me Γ3 with
          | no => rw [e5] at h; exact h
          | rz x Γ' => rw [e5] at h; exact h.elim
          | ok val Γ4 =>
            rw [e5] at h
            have h : okO Fin (okOw val fun es => if acc.length < sizeLine then lcO g mt me vs (items.drop (i + 1)) (acc ++ [es]) (wipeE Γ4 vs) else .no) := h
            intro y H4 E5 g5 vy
            cases val with
            | fz d => exact h.elim
            | bw i => exact h.elim
            | ow es =>
              unfold okOw at h
              dsimp only at h
              split at h
              · rename_i hl
                obtain ⟨p, xs, rfl, hz, hf, E6, hp, r6⟩ := vy
                have gt := g4.trans g5
                have ob4 := ob3.go (kp gt)
                -- the list at Dl gets p
                have pD : p ≠ Dl := fun z => hz (by rw [z]; exact (ob4.notOwn E5 Dl (by simp)).1)
                have pb : ∀ x ∈ Dl :: bs, x ≠ p := fun x m z => hz (by rw [← z]; exact (ob4.notOwn E5 x m).1)
                have gzp : ∀ (i : Nat) (a : Addr) (cs : List Addr), (C'.z1 p).gh i = some (a, cs) → ¬ Dl ∈ a :: cs := fun i a cs e m => by
                  have e : C'.gh i = some (a, cs) := e
                  rw [o.lk.gh] at e
                  exact fD.1 (.inr (gz0.z i a cs Dl e m).1)
                have fDp : Fre (C'.z1 p) Dl := by
                  have := fD.2
                  unfold Fre
                  show C'.M Dl ∨ ∀ u, C'.H0 Dl = some u → ∃ ps, u = .tbl ps
                  rw [o.lk.m, o.lk.h0]
                  exact this
                obtain ⟨E7, g7⟩ := E6.mutY (xs' := bs.map V.ref ++ [.ref p]) (.inl (ob4.notOwn E5 Dl (by simp)).1) fDp gzp ob4.hd
                have E8 := E7.wipe vs
                rw [w3'] at E8
                have np : ∀ {u : HO}, ∀ x, x ≠ Dl → H4 x = some u → upd H4 Dl (.lst (bs.map V.ref ++ [.ref p])) x = some u := by
                  intro u x hx e
                  rw [upd_ne hx]; exact e
                have l6 := r6.length
                have hh9 : ∀ q ∈ es.zip xs, Rep K (upd H4 Dl (.lst (bs.map V.ref ++ [.ref p]))) (Av (C'.z1 p) (wipeE Γ4 vs) (wipe σ vs)) q.1 q.2 := fun q hq => by
                  obtain ⟨k, hk⟩ := List.mem_iff_getElem?.mp hq
                  obtain ⟨k1, k2⟩ := List.getElem?_zip_eq_some.mp hk
                  obtain ⟨w, k3, k4⟩ := r6.get k1
                  rw [k2] at k3; cases k3
                  refine Rep.weak (fun a z => ?_) (k4.go g7)
                  rcases z with z | z
                  · rw [← w3'] at z
                    exact .inl (own_wipe z)
                  · exact .inr z
                refine ⟨bs.map V.ref, ob4.hd, by rw [List.length_map, ob4.len]; exact hl, hlt, (C'.z1 p).hold (es.zip xs), es.zip xs ++ L, wipeE Γ4 vs, acc ++ [es], bs ++ [p], E8.hold hh9, wipeE_no _ _, ⟨⟨o.lk.h0, o.lk.m, ?_, o.lk.pin, o.lk.gh, fun a => ?_⟩, ?_, fun x m => ?_, by rw [List.map_append]; exact upd_same, by simp [ob4.len], fun j b ds e1 e2 => ?_⟩, h⟩
                · show es.zip xs ++ C'.held = _
                  rw [o.lk.hl, List.append_assoc]
                · show (C'.Z a ∨ a = p) ↔ _
                  rw [o.lk.z a, List.mem_append, List.mem_singleton]
                  constructor
                  · rintro ((z | z | z) | z)
                    · exact .inl z
                    · exact .inr (.inl z)
                    · exact .inr (.inr (.inl z))
                    · exact .inr (.inr (.inr z))
                  · rintro (z | z | z | z)
                    · exact .inl (.inl z)
                    · exact .inl (.inr (.inl z))
                    · exact .inl (.inr (.inr z))
                    · exact .inr z
                · have nd := o.nd
                  rw [← List.cons_append, List.nodup_append]
                  refine ⟨nd, by simp, fun a ha b hb z => ?_⟩
                  obtain rfl : b = p := by simpa using hb
                  exact pb a ha z
                · rw [← List.cons_append, List.mem_append] at m
                  rcases m with m | m
                  · exact o.nz x m
                  · obtain rfl : x = p := by simpa using m
                    refine ⟨fun z => hz ((o.lk.z x).mpr (.inl z)), ?_⟩
                    unfold Fre at hf ⊢
                    rw [o.lk.m, o.lk.h0] at hf
                    exact hf
                · by_cases hj : j < bs.length
                  · rw [List.getElem?_append_left hj] at e1
                    rw [List.getElem?_append_left (by rw [← ob4.len]; exact hj)] at e2
                    obtain ⟨ys, q1, q2, q3⟩ := ob4.it j b ds e1 e2
                    refine ⟨ys, np b (fun z => ?_) q1, q2, fun k d v f1 f2 => List.mem_append_right _ (q3 k d v f1 f2)⟩
                    exact (List.nodup_cons.mp o.nd).1 (by rw [← z]; exact List.mem_of_getElem? e1)
                  · have hj2 : j = bs.length := by
                      have := lt_of_get e1
                      simp at this
                      omega
                    subst hj2
                    rw [List.getElem?_append_right (Nat.le_refl _), Nat.sub_self] at e1
                    rw [ob4.len, List.getElem?_append_right (Nat.le_refl _), Nat.sub_self] at e2
                    simp at e1 e2
                    subst e1 e2
                    exact ⟨xs, np p pD hp, l6, fun k d v f1 f2 => List.mem_append_left _ (List.mem_of_getElem? (List.getElem?_zip_eq_some.mpr ⟨f1, f2⟩))⟩
              · exact h.elim
  · have e : i = items.length := by omega
    subst e
    rw [List.drop_length] at h
    refine .inl ⟨ok.stop H _ (hhE E), ?_⟩
    obtain ⟨E3, o3⟩ := E.unwipe hno
    obtain ⟨h0, m, z, hl, pin, gh⟩ := C'
    have ehl : hl = (L ++ held) ++ C.held := by rw [List.append_assoc]; exact o.lk.hl
    subst ehl
    have E4 : EnvOK K ts ((Cn.mk h0 m z C.held pin gh).hold (L ++ held)) Γ σ H := E3
    obtain ⟨E5, hr⟩ := E4.unhold
    refine fin ⟨h0, m, z, C.held, pin, gh⟩ acc Γ H bs h E5 ⟨o.lk.h0, o.lk.m, rfl, o.lk.pin, o.lk.gh, o.lk.z⟩ o.nd o.nz o.hd o.len fun j b ds e1 e2 => ?_
    obtain ⟨ys, q1, q2, q3⟩ := o.it j b ds e1 e2
    exact ⟨ys, q1, reps_of q2 fun k d v f1 f2 => hr (d, v) (List.mem_append_left _ (q3 k d v f1 f2))⟩
/-- a list of lists is stored -/
theorem EnvOK.putO {i : Nat} {Dl : Addr} {bs : List Addr} {acc : List (List D)} (E : EnvOK K ts C' Γ σ H) (gz : GhOK C) (lk : Lk C C' [] (fun a => a = Dl ∨ a ∈ bs)) (nd : (Dl :: bs).Nodup) (nz : ∀ x ∈ Dl :: bs, ¬ C.Z x ∧ Fre C x) (hD : H Dl = some (.lst (bs.map V.ref))) (len : bs.length = acc.length)
    (it : ∀ (j : Nat) (b : Addr) (ds : List D), bs[j]? = some b → acc[j]? = some ds → ∃ xs, H b = some (.lst xs) ∧ Reps K H (Av C' Γ σ) ds xs) (hi : i < Γ.length) :
    ∃ C2, Ext C C2 ∧ EnvOK K ts C2 (Γ.set i (.oo acc)) (σ.set i (some (.ref Dl))) H := by
  have hl' : i < σ.length := by rw [← E.len]; exact hi
  have E0 := E.drop1 (i := i) (o := some (V.ref Dl))
  have own : ∀ a, Own (Γ.set i (.oo acc)) (σ.set i (some (.ref Dl))) a ↔ Own (Γ.set i .no) (σ.set i (some (.ref Dl))) a := fun a => by
    constructor
    · rintro ⟨k, b, ds, h1, h2⟩
      by_cases hk : k = i
      · subst hk
        rw [List.getElem?_set_self hi] at h1; cases h1
      · rw [List.getElem?_set_ne (Ne.symm hk)] at h1
        exact ⟨k, b, ds, by rw [List.getElem?_set_ne (Ne.symm hk)]; exact h1, h2⟩
    · rintro ⟨k, b, ds, h1, h2⟩
      by_cases hk : k = i
      · subst hk
        rw [List.getElem?_set_self hi] at h1; cases h1
      · rw [List.getElem?_set_ne (Ne.symm hk)] at h1
        exact ⟨k, b, ds, by rw [List.getElem?_set_ne (Ne.symm hk)]; exact h1, h2⟩
  have get : ∀ {k : Nat} {s : Sl}, (Γ.set i (.oo acc))[k]? = some s → (∀ q, s ≠ .oo q) → (Γ.set i .no)[k]? = some s := fun {k s} e n => by
    by_cases hk : k = i
    · subst hk
      rw [List.getElem?_set_self hi] at e
      exact (n _ (Option.some.inj e).symm).elim
    · rw [List.getElem?_set_ne (Ne.symm hk)] at e
      rw [List.getElem?_set_ne (Ne.symm hk)]
      exact e
  refine ⟨{ C' with gh := fun k => if k = i then some (Dl, bs) else C.gh k }, ⟨lk.h0, lk.m, lk.hl, lk.pin, fun a z => .inr ((lk.z a).mpr (.inl z))⟩, ?_⟩
  generalize hC2 : ({ C' with gh := fun k => if k = i then some (Dl, bs) else C.gh k } : Cn) = C2
  have cz : ∀ a, C2.Z a ↔ C'.Z a := fun a => by rw [← hC2]
  have ch : C2.held = C'.held := by rw [← hC2]
  have c0 : C2.H0 = C'.H0 := by rw [← hC2]
  have cm : C2.M = C'.M := by rw [← hC2]
  have cp : C2.pin = C'.pin := by rw [← hC2]
  have cg : ∀ k, C2.gh k = if k = i then some (Dl, bs) else C.gh k := fun k => by rw [← hC2]
  have fre : ∀ a, Fre C a → Fre C2 a := fun a h => by
    unfold Fre at h ⊢
    rw [cm, c0, lk.m, lk.h0]
    exact h
  have w : ∀ a, Av C2 (Γ.set i (.oo acc)) (σ.set i (some (.ref Dl))) a → Av C' (Γ.set i .no) (σ.set i (some (.ref Dl))) a := fun a z => z.elim (fun z => .inl ((own a).mp z)) fun z => .inr ((cz a).mp z)
  have old : ∀ (k : Nat) (a : Addr) (cs : List Addr) (x : Addr), C.gh k = some (a, cs) → x ∈ a :: cs → ¬ x ∈ Dl :: bs := fun k a cs x e m m2 => (nz x m2).1 (gz.z k a cs x e m).1
  have ghc : ∀ (k : Nat) (a : Addr) (cs : List Addr), C2.gh k = some (a, cs) → (k = i ∧ a = Dl ∧ cs = bs) ∨ (k ≠ i ∧ C.gh k = some (a, cs)) := fun k a cs e => by
    rw [cg k] at e
    split at e
    · rename_i hk
      cases e
      exact .inl ⟨hk, rfl, rfl⟩
    · rename_i hk
      exact .inr ⟨hk, e⟩
  refine ⟨by rw [List.length_set, List.length_set]; exact E.len, fun k d e => ?_, fun k bb ds e => ?_, fun k c fs e => ?_, fun k k2 c b1 b2 es fs e f => E0.dis k k2 c b1 b2 es fs (get e (fun _ z => by cases z)) (get f (fun _ z => by cases z)), fun c z q => E0.nz c ((own c).mp z) ((cz c).mp q), by rw [cm, c0]; exact E0.fr, fun c z => ?_, fun c z => E0.z c ((cz c).mp z), fun q hq => ?_, ⟨fun k a cs x e m => ?_, fun k a cs e => ?_, fun k k2 a c cs ds x e f m m2 => ?_⟩, fun k ess e => ?_⟩
  · obtain ⟨v, h1, h2⟩ := E0.fz k d (get e (fun _ z => by cases z))
    exact ⟨v, h1, h2.weak w⟩
  · obtain ⟨c, ys, h1, h2, h3, h4⟩ := E0.ow k bb ds (get e (fun _ z => by cases z))
    exact ⟨c, ys, h1, h2, h3.weak w, fun q => by rw [cp]; exact h4 q⟩
  · obtain ⟨q, h1, h2, e0, dd, vs, e1, e2, f1, f2⟩ := E0.ex k c fs (get e (fun _ z => by cases z))
    exact ⟨q, h1, h2, e0, dd, vs, e1, e2, f1, f2.weak w⟩
  · have := E0.fo c ((own c).mp z)
    unfold Fre at this ⊢
    rw [cm, c0]
    exact this
  · exact (E0.hd q (by rw [← ch]; exact hq)).weak w
  · rcases ghc k a cs e with ⟨_, rfl, rfl⟩ | ⟨_, e⟩
    · exact ⟨(cz x).mpr ((lk.z x).mpr (.inr (by simpa using m))), fre x (nz x m).2⟩
    · obtain ⟨h1, h2⟩ := gz.z k a cs x e m
      exact ⟨(cz x).mpr ((lk.z x).mpr (.inl h1)), fre x h2⟩
  · rcases ghc k a cs e with ⟨_, rfl, rfl⟩ | ⟨_, e⟩
    · exact nd
    · exact gz.nd k a cs e
  · rcases ghc k a cs e with ⟨rfl, rfl, rfl⟩ | ⟨hk, e⟩
    · rcases ghc k2 c ds f with ⟨rfl, _, _⟩ | ⟨_, f⟩
      · rfl
      · exact (old k2 c ds x f m2 m).elim
    · rcases ghc k2 c ds f with ⟨rfl, rfl, rfl⟩ | ⟨_, f⟩
      · exact (old k a cs x e m m2).elim
      · exact gz.dj k k2 a c cs ds x e f m m2
  · by_cases hk : k = i
    · subst hk
      rw [List.getElem?_set_self hi] at e
      cases e
      refine ⟨Dl, bs, by rw [cg k, if_pos rfl], List.getElem?_set_self hl', hD, len, fun j b ds e1 e2 => ?_⟩
      obtain ⟨xs, h1, h2⟩ := it j b ds e1 e2
      refine ⟨xs, h1, h2.weak fun a z => ?_⟩
      rcases z with ⟨q, bb, es, f1, f2⟩ | z
      · by_cases hq : q = k
        · subst hq
          rw [List.getElem?_set_self hi] at f1; cases f1
        · rw [List.getElem?_set_ne (Ne.symm hq)] at f1 f2
          exact .inl ⟨q, bb, es, f1, f2⟩
      · exact .inr ((cz a).mp z)
    · rw [List.getElem?_set_ne (Ne.symm hk)] at e
      obtain ⟨a, cs, h1, h2, h3, h4, h5⟩ := E0.oo k ess (by rw [List.getElem?_set_ne (Ne.symm hk)]; exact e)
      refine ⟨a, cs, by rw [cg k, if_neg hk, ← lk.gh]; exact h1, h2, h3, h4, fun j b ds e1 e2 => ?_⟩
      obtain ⟨xs, q1, q2⟩ := h5 j b ds e1 e2
      exact ⟨xs, q1, q2.weak w⟩
end
section
variable {ts : Tsx} {X : Cx} {W : WX} {tg iter elt e k : Expr} {pos : Pos} {vs : List Nat} {own : List (Str × Nat)} {scope : Scope} {mi : MI} {g : D → EV → Option EV} {mt : MT} {me mk m : ME} {ifs : List Expr}
/-- name = [[..] for .. in ..] -/
def mSetO (i : Nat) (mi : MI) (g : D → EV → Option EV) (mt : MT) (me : ME) (vs : List Nat) : MS := fun Γ => (mi Γ).bind fun items Γ1 => match lcO g mt me vs items [] (wipeE Γ1 vs) with
  | .ok acc Γ2 => if freeAt Γ2 i = true then .ok .nx (Γ2.set i (.oo acc)) else .no
  | _ => .no
theorem s1_setO_of {i : Nat} {st : Stmt} {ti : TI} (p : PS X st (tAsg (tLc ti (cG X.K vs g) (cT X.K ts WF mt) (cE X.K ts WF me) vs) (gName i)))
    (si : ∀ (C : Cn) (Γ : EV) (σ : L2.St) (H : Hp) (R : It → Hp → Prop), EnvOK X.K ts C Γ σ H → Post X.K ts C W σ Γ H (RIt X.K C σ) R (mi Γ) → ti σ H R) : S1 ts X W st (mSetO i mi g mt me vs) := by
  refine ⟨_, p, fun C Γ σ H Dn E h => si C Γ σ H _ E (PostS.bind h fun items Γ1 J H1 E1 g1 v1 h1 => ?_)⟩
  obtain ⟨held, hh, ok⟩ := v1
  refine fun Dl hD => lcO_sim (Q := fun x H1 => gName i x σ H1 Dn.nx) (vs := vs) (g := g) (mt := mt) (me := me) (Fin := fun acc Γ2 => freeAt Γ2 i = true ∧ PostS X.K ts C W Dn (.ok .nx (Γ2.set i (.oo acc)))) cG_sim cT_sim cE_sim (fun C' acc Γ2 H2 bs hf E2 lk nd nz hd len it => ?_) E1 hh ok hD ?_
  · obtain ⟨C2, x, E3⟩ := E2.putO E1.gz lk nd nz hd len it (free_not hf.1).2
    exact hf.2 C2 _ H2 x E3
  · cases e : lcO g mt me vs items [] (wipeE Γ1 vs) with
    | no => rw [e] at h1; exact h1
    | rz x Γ' => rw [e] at h1; exact h1.elim
    | ok acc Γ2 =>
      rw [e] at h1
      dsimp only at h1
      split at h1
      · rename_i hf
        exact ⟨hf, h1⟩
      · exact h1.elim
theorem s1_setO {i : Nat} {y : Str} {py spos : Pos} (hc : X.calm = true) (hN : X.N.Nodup) (hy : X.N[i]? = some y) (hyl : L2.Loc X.env.scope y) (hi : SI ts X W tg iter mi) (ok : BlkOk X.N X.env.scope scope own) (gx : IxOK g)
    (hg : ∀ (s : Shared) (H : Hp) (C : Addr) (cl : List (Str × Addr)) (fp : List Addr), SG (X.blk s H scope (compEnvC scope cl C X.env) fp) tg (own.map (·.2)) g)
    (ht : ∀ (s : Shared) (H : Hp) (C : Addr) (cl : List (Str × Addr)) (fp : List Addr), SF ts (X.blk s H scope (compEnvC scope cl C X.env) fp) WF ifs mt)
    (he : ∀ (s : Shared) (H : Hp) (C : Addr) (cl : List (Str × Addr)) (fp : List Addr), SE ts (X.blk s H scope (compEnvC scope cl C X.env) fp) WF elt me)
    (hf : X.fn y = true ∨ X.env.scope.names.lookup y = some .local := by first | exact .inl rfl | exact .inr rfl | assumption)
    (hs : ∀ x, foldedSetIterable iter X.env x = pure x := by intro _; rfl) (hsw : swapsWith (.ListComp elt [⟨tg, iter, ifs, 0⟩] scope pos) (some (.Name y py)) spos.line X.env = pure false := by rfl) :
    S1 ts X W (.Assign [.Name y py] (.ListComp elt [⟨tg, iter, ifs, 0⟩] scope pos) spos) (mSetO i mi g mt me (own.map (·.2))) := by
  obtain ⟨ti, pi, si⟩ := hi.ex
  exact s1_setO_of (ps_set hN hy hyl (pe_lc hc hN pi ok (fun s H C cl fp => (hg s H C cl fp).pg) (fun s H C cl fp => (ht s H C cl fp).pt) (fun s H C cl fp => (he s H C cl fp).pe) hs) hsw hf) si
theorem s1_setLcO {i : Nat} {y : Str} {py spos : Pos} (hc : X.calm = true) (hN : X.N.Nodup) (hy : X.N[i]? = some y) (hyl : X.env.scope.names.lookup y = some .local)
    (hsw : swapsWith (.ListComp elt [⟨tg, iter, ifs, 0⟩] scope pos) (some (.Name y py)) spos.line X.env = pure true) (hi : SI ts X W tg iter mi) (ok : BlkOk X.N X.env.scope scope own) (gx : IxOK g)
    (hg : ∀ (s : Shared) (H : Hp) (C : Addr) (cl : List (Str × Addr)) (fp : List Addr), SG (X.blk s H scope (compEnvC scope cl C X.env) fp) tg (own.map (·.2)) g)
    (ht : ∀ (s : Shared) (H : Hp) (C : Addr) (cl : List (Str × Addr)) (fp : List Addr), SF ts (X.blk s H scope (compEnvC scope cl C X.env) fp) WF ifs mt)
    (he : ∀ (s : Shared) (H : Hp) (C : Addr) (cl : List (Str × Addr)) (fp : List Addr), SE ts (X.blk s H scope (compEnvC scope cl C X.env) fp) WF elt me)
    (hs : ∀ x, foldedSetIterable iter X.env x = pure x := by intro _; rfl) : S1 ts X W (.Assign [.Name y py] (.ListComp elt [⟨tg, iter, ifs, 0⟩] scope pos) spos) (mSetO i mi g mt me (own.map (·.2))) := by
  obtain ⟨ti, pi, si⟩ := hi.ex
  exact s1_setO_of (ps_setLc hc hN hy hyl hsw pi ok (fun s H C cl fp => (hg s H C cl fp).pg) (fun s H C cl fp => (ht s H C cl fp).pt) (fun s H C cl fp => (he s H C cl fp).pe) hs) si
/-- name[k].append(e) -/
def ooAt (Γ : EV) (i : Nat) : Option (List (List D)) := match Γ[i]? with
  | some (.oo dss) => some dss
  | _ => none
theorem ooAt_eq {Γ : EV} {i : Nat} {dss : List (List D)} (h : ooAt Γ i = some dss) : Γ[i]? = some (Sl.oo dss) := by
  unfold ooAt at h
  split at h
  · cases h; assumption
  · cases h
def mAppO (i : Nat) (mk m : ME) : MS := fun Γ => match ooAt Γ i with
  | none => .no
  | some _ => (mk Γ).bind fun kv Γ1 => match kv, ooAt Γ1 i with
    | .fz (.int z), some dss1 => match ixN dss1.length z with
      | none => .no
      | some j => (m Γ1).bind fun v Γ2 => match cool Γ2 v.op with
        | some (d, Γ3) => match ooAt Γ3 i with
          | some dss => match dss[j]? with
            | some ds => if ds.length < sizeLine then .ok .nx (Γ3.set i (.oo (dss.set j (ds ++ [d])))) else .no
            | none => .no
          | none => .no
        | none => .no
    | _, _ => .no
variable {i : Nat} {x : Str} {px apos spos p2 : Pos}
theorem s1_appO (ho : PE X (.Name x px) (tVar i)) (hk : SE ts X W k mk) (h : SE ts X W e m) (hsx : PlainIx k := by exact fun _ _ => rfl)
    (hst : starEach [e] X.env = (false, eval e X.env) :: starEach [] X.env := by rfl) (hbase : attributeBase (.Subscript (.Name x px) k p2) "append" X.env (eval (.Subscript (.Name x px) k p2) X.env) = eval (.Subscript (.Name x px) k p2) X.env := by rfl)
    (hpl : ((backTo pos (starEach [e] X.env)).all (fun x => !x.1) && (backToKw pos (keywordEach [] X.env)).all (·.1.isSome) && decide (([e] : List Expr).length + ([] : List Keyword).length + (if ([] : List Keyword).isEmpty = true then 0 else 1) < 30)) = true := by rfl)
    (hline : (apos.endLine == pos.line) = true := by rfl) (hpl2 : (backTo pos (starEach [] X.env)).any (·.1) = false := by rfl)
    (hs : swapsWith (.Call (.Attribute (.Subscript (.Name x px) k p2) "append" apos) [e] [] pos) none spos.line X.env = pure false := by rfl) :
    S1 ts X W (.Expr (.Call (.Attribute (.Subscript (.Name x px) k p2) "append" apos) [e] [] pos) spos) (mAppO i mk m) := by
  obtain ⟨tk, pk, sk⟩ := hk
  obtain ⟨t, p, s⟩ := h
  refine ⟨_, ps_expr (pe_bm PySem.F.plainAttrs_list PySem.F.slot_list_append PySem.F.type_list_append mt_append (pe_ix ix_list ho pk hsx) (pa_cons p pa_nil hst) hbase hpl hline hst hpl2) hs, fun C Γ σ H Dn E h => ?_⟩
  unfold mAppO at h
  split at h
  · exact h.elim
  · rename_i dss0 e0
    obtain ⟨a, bs, gh, k1, k2, k3, k4⟩ := E.oo i _ (ooAt_eq e0)
    refine ⟨.ref a, k1, sk C Γ σ H _ E (PostS.bind h fun kv Γ1 y H1 E1 g1 v1 h1 => ?_)⟩
    split at h1
    · rename_i z dss1 e1
      obtain ⟨a', bs', gh', q1, q2, q3, q4⟩ := E1.oo i _ (ooAt_eq e1)
      rw [gh] at gh'; cases gh'
      split at h1
      · exact h1.elim
      · rename_i j ej
        have jl : j < bs.length := by
          rw [q3]
          unfold ixN at ej
          split at ej
          · split at ej
            · cases ej; omega
            · cases ej
          · split at ej
            · cases ej; omega
            · cases ej
        have hj : bs[j]? = some bs[j] := List.getElem?_eq_getElem jl
        have yz : y = .int z := v1
        subst yz
        obtain ⟨xs1, r1, _⟩ := q4 j bs[j] (dss1[j]'(by rw [← q3]; exact jl)) hj (List.getElem?_eq_getElem _)
        refine ⟨a, bs.map V.ref, z, .ref bs[j], rfl, rfl, SqL.of q2, ?_, Or.inl ⟨rfl, xs1, SqL.of r1⟩, s C Γ1 σ H1 _ E1 (PostS.bind h1 fun v Γ2 w H2 E2 g2 v2 h2 => ?_)⟩
        · unfold atI
          rw [List.length_map, q3, ej]
          show (bs.map V.ref)[j]? = _
          rw [List.getElem?_map, hj]
          rfl
        · split at h2
          · rename_i d Γ3 e3
            obtain ⟨E3, g3, r3⟩ := (v2.op).cool E2 e3
            split at h2
            · rename_i dss e4
              obtain ⟨a', bs', gh', f1, f2, f3, f4⟩ := E3.oo i _ (ooAt_eq e4)
              rw [gh] at gh'; cases gh'
              split at h2
              · rename_i ds e5
                split at h2
                · rename_i hl
                  obtain ⟨xs, u1, u2⟩ := f4 j _ ds hj e5
                  exact ⟨bs[j], xs, w, rfl, rfl, u1, by rw [← u2.length]; exact hl, h2 C σ _ Ext.refl (E3.mutO (ooAt_eq e4) gh hj u1 (u2.snoc r3))⟩
                · exact h2.elim
              · exact h2.elim
            · exact h2.elim
          · exact h2.elim
    · exact h1.elim
end
end SX

set_option Elab.async false
set_option linter.all false
set_option maxRecDepth 100000
set_option maxHeartbeats 4000000
/-! keyword arguments, in the other sequence -/
namespace SX
open PySem PySem.Spec PyProof.Rows L2 L2H XT GX RD GenW GxR
section
variable {K : PySem.W.Frag} {x qual : Str} {ar : Arguments} {bd : List Stmt} {sc : Scope} {f c : Addr} {fd : FuncData} {p1 p2 p3 p4 p5 : Str}
theorem kp3r (F : FT K x qual ar bd sc f c fd)
    (h : ∀ (kV doc pm : Value) (an : Option Addr) (cdv ct : Value) (v1 v2 v3 : Value), bindArgs (PySem.W.fnOf x qual ar bd sc .none kV doc pm an cdv ct) ⟨[], [(p3, v3), (p2, v2), (p1, v1)]⟩ = pure [(p1, v1), (p2, v2), (p3, v3)]) : KBinds K fd [p1, p2, p3] [p3, p2, p1] (gp [2, 1, 0]) (gp [2, 1, 0]) := by
  obtain ⟨oc, od, kV, doc, pm, an, ct, osl, rfl, _, _⟩ := F.ex
  refine ⟨fun s us ws _ hl => ?_, fun a b => gp_rel a [2, 1, 0] b⟩
  match us, ws, hl with
  | [], v3 :: v2 :: v1 :: r, _ => exact .of_eq (h kV doc pm an _ ct v1 v2 v3)
theorem kp4r (F : FT K x qual ar bd sc f c fd)
    (h : ∀ (kV doc pm : Value) (an : Option Addr) (cdv ct : Value) (v1 v2 v3 v4 : Value), bindArgs (PySem.W.fnOf x qual ar bd sc .none kV doc pm an cdv ct) ⟨[], [(p4, v4), (p3, v3), (p2, v2), (p1, v1)]⟩ = pure [(p1, v1), (p2, v2), (p3, v3), (p4, v4)]) : KBinds K fd [p1, p2, p3, p4] [p4, p3, p2, p1] (gp [3, 2, 1, 0]) (gp [3, 2, 1, 0]) := by
  obtain ⟨oc, od, kV, doc, pm, an, ct, osl, rfl, _, _⟩ := F.ex
  refine ⟨fun s us ws _ hl => ?_, fun a b => gp_rel a [3, 2, 1, 0] b⟩
  match us, ws, hl with
  | [], v4 :: v3 :: v2 :: v1 :: r, _ => exact .of_eq (h kV doc pm an _ ct v1 v2 v3 v4)
theorem kp5r (F : FT K x qual ar bd sc f c fd)
    (h : ∀ (kV doc pm : Value) (an : Option Addr) (cdv ct : Value) (v1 v2 v3 v4 v5 : Value), bindArgs (PySem.W.fnOf x qual ar bd sc .none kV doc pm an cdv ct) ⟨[], [(p5, v5), (p4, v4), (p3, v3), (p2, v2), (p1, v1)]⟩ = pure [(p1, v1), (p2, v2), (p3, v3), (p4, v4), (p5, v5)]) : KBinds K fd [p1, p2, p3, p4, p5] [p5, p4, p3, p2, p1] (gp [4, 3, 2, 1, 0]) (gp [4, 3, 2, 1, 0]) := by
  obtain ⟨oc, od, kV, doc, pm, an, ct, osl, rfl, _, _⟩ := F.ex
  refine ⟨fun s us ws _ hl => ?_, fun a b => gp_rel a [4, 3, 2, 1, 0] b⟩
  match us, ws, hl with
  | [], v5 :: v4 :: v3 :: v2 :: v1 :: r, _ => exact .of_eq (h kV doc pm an _ ct v1 v2 v3 v4 v5)
end
end SX

set_option Elab.async false
set_option linter.all false
set_option maxRecDepth 100000
set_option maxHeartbeats 4000000
/-! walks over a list of one's own that stays one's own -/
namespace SX
open PySem PySem.Spec PyProof.Rows L2 L2H XT GX RD GenW GxR
/-- a walk over the list at a -/
structure ItW (K : PySem.W.Frag) (ds items : List D) (a : Addr) (J : It) : Prop where
  go : ∀ (i : Nat) (d : D) (H : Hp) (S : Addr → Prop) (xs : List V), items[i]? = some d → H a = some (.lst xs) → Reps K H S ds xs → J.go i H
  yld : ∀ (i : Nat) (d : D) (H : Hp) (S : Addr → Prop) (x : V) (H' : Hp) (xs : List V), items[i]? = some d → H a = some (.lst xs) → Reps K H S ds xs → (∀ a, S a → ∃ u, H a = some u) → J.yld i H x H' → (∀ b u, H b = some u → H' b = some u) ∧ Rep K H' S d x
  stop : ∀ (H : Hp) (S : Addr → Prop) (xs : List V), H a = some (.lst xs) → Reps K H S ds xs → J.stop items.length H
section
variable {ts : Tsx} {X : Cx} {W : WX} {tg iter elt : Expr} {pos : Pos} {vs : List Nat}
open Classical in
noncomputable def lcW (i0 : Nat) (b0 : Bool) (ds0 : List D) (g : D → EV → Option EV) (mt : MT) (me : ME) (vs : List Nat) : List D → List D → EV → Out Vl
  | [], acc, Γ => if Γ[i0]? = some (Sl.ow b0 ds0) then .ok (.ow acc) Γ else .no
  | d :: ds, acc, Γ => if Γ[i0]? = some (Sl.ow b0 ds0) then (match g d Γ with
    | none => .no
    | some Γ2 => (mt Γ2).nr.bind fun b Γ3 => if b = true then (me Γ3).nr.bind fun v Γ4 => match cool Γ4 v.op with
        | some (y, Γ5) => if acc.length < sizeLine then lcW i0 b0 ds0 g mt me vs ds (acc ++ [y]) (wipeE Γ5 vs) else .no
        | none => .no
      else lcW i0 b0 ds0 g mt me vs ds acc (wipeE Γ3 vs)) else .no
theorem lcW_sim {i0 : Nat} {b0 : Bool} {ds0 : List D} {a0 : Addr} {C : Cn} {Γ1 : EV} {σ : L2.St} {H1 : Hp} {Q : VK} {items : List D} {J : It} {g : D → EV → Option EV} {mt : MT} {me : ME} {tt : TT} {te : TE} {tg' : TG} {Dl : Addr}
    (sg : ∀ (ts : Tsx) (C : Cn) (Γ : EV) (σ : L2.St) (H : Hp) (d : D) (v : V) (Γ' : EV) (Q : L2.St → Hp → Prop), EnvOK X.K ts C Γ σ H → Rep X.K H (Av C Γ σ) d v → g d Γ = some Γ' →
      (∀ σ', EnvOK X.K ts C Γ' σ' H → (∀ a, Own Γ' σ' a → Own Γ σ a) → wipe σ' vs = wipe σ vs → Q σ' H) → tg' v σ H Q) (gx : IxOK g)
    (st : ∀ (C : Cn) (Γ : EV) (σ : L2.St) (H : Hp) (Q : Bool → Hp → Prop), EnvOK X.K ts C Γ σ H → Post X.K ts C WF σ Γ H RQ Q (mt Γ) → tt σ H Q)
    (se : ∀ (C : Cn) (Γ : EV) (σ : L2.St) (H : Hp) (Q : VK), EnvOK X.K ts C Γ σ H → Post X.K ts C WF σ Γ H (RE X.K ts C σ) Q (me Γ) → te σ H Q)
    (E1 : EnvOK X.K ts C Γ1 σ H1) (hv : i0 ∉ vs) (ha : σ[i0]? = some (some (V.ref a0))) (ok : ItW X.K ds0 items a0 J) (hD : H1 Dl = none)
    (h : Post X.K ts C W σ Γ1 H1 (RE X.K ts C σ) Q (lcW i0 b0 ds0 g mt me vs items [] (wipeE Γ1 vs))) :
    ∃ Wl : Nat → Nat → Hp → Prop, (∃ m, Wl 0 m (upd H1 Dl (.lst []))) ∧ ∀ i m H, Wl i m H →
      (J.stop i H ∧ Q (.ref Dl) H) ∨ (J.go i H ∧ ∃ Nx : Hp → Prop, (∀ H', Nx H' → ∃ m', m' < m ∧ Wl (i + 1) m' H') ∧ ∀ x H', J.yld i H x H' → tg' x (wipe σ vs) H' fun σ2 H2 => wipe σ2 vs = wipe σ vs ∧ tt σ2 H2 fun b H3 =>
        if b = true then te σ2 H3 fun y H4 => ∃ acc, H4 Dl = some (.lst acc) ∧ acc.length < sizeLine ∧ Nx (upd H4 Dl (.lst (acc ++ [y]))) else Nx H3) := by
  have fD := E1.fresh hD
  refine ⟨fun i k H => k = items.length - i ∧ i ≤ items.length ∧ ∃ Γ acc xs, EnvOK X.K ts (C.z1 Dl) Γ (wipe σ vs) H ∧ (∀ k ∈ vs, Γ[k]? = some Sl.no ∨ Γ[k]? = none) ∧ H Dl = some (.lst xs) ∧
    Reps X.K H (Av (C.z1 Dl) Γ (wipe σ vs)) acc xs ∧ Gw Γ1 σ H1 Γ (wipe σ vs) H ∧ Post X.K ts C W σ Γ1 H1 (RE X.K ts C σ) Q (lcW i0 b0 ds0 g mt me vs (items.drop i) acc Γ),
    ⟨_, rfl, Nat.zero_le _, wipeE Γ1 vs, [], [], (E1.wipe vs).zed hD, wipeE_no Γ1 vs, upd_same, Reps.nil_iff.mpr rfl, ⟨fun b u _ e n => keep_new hD b u e n, fun a z => own_wipe z, fun i b ds e => ⟨ds, wipeE_ow e⟩⟩, h⟩, ?_⟩
  rintro i k H ⟨rfl, hi, Γ, acc, xs, E, hno, hDl, racc, gw, h⟩
  have Eh : EnvOK X.K ts C Γ (wipe σ vs) H := E.unz E1.gz
  -- the list walked over
  by_cases chk : Γ[i0]? = some (Sl.ow b0 ds0)
  case neg =>
    exfalso
    unfold lcW at h
    split at h
    · rw [if_neg chk] at h; exact h
    · rw [if_neg chk] at h; exact h
  obtain ⟨a1, xs0, q1, q2, q3, _⟩ := E.ow i0 b0 ds0 chk
  have q1 : σ[i0]? = some (some (V.ref a1)) := by rw [wipe_get, if_neg (fun z => hv z.1)] at q1; exact q1
  rw [ha] at q1; cases q1
  by_cases hlt : i < items.length
  · refine .inr ⟨ok.go i _ H _ xs0 (List.getElem?_eq_getElem hlt) q2 q3, fun H => i + 1 ≤ items.length ∧ ∃ Γ acc xs, EnvOK X.K ts (C.z1 Dl) Γ (wipe σ vs) H ∧ (∀ k ∈ vs, Γ[k]? = some Sl.no ∨ Γ[k]? = none) ∧ H Dl = some (.lst xs) ∧
      Reps X.K H (Av (C.z1 Dl) Γ (wipe σ vs)) acc xs ∧ Gw Γ1 σ H1 Γ (wipe σ vs) H ∧ Post X.K ts C W σ Γ1 H1 (RE X.K ts C σ) Q (lcW i0 b0 ds0 g mt me vs (items.drop (i + 1)) acc Γ), fun H' w => ⟨items.length - (i + 1), by omega, rfl, w⟩, fun x H' hy => ?_⟩
    obtain ⟨k1, r1⟩ := ok.yld i _ H (Av (C.z1 Dl) Γ (wipe σ vs)) x H' xs0 (List.getElem?_eq_getElem hlt) q2 q3 E.trk hy
    have E2 : EnvOK X.K ts (C.z1 Dl) Γ (wipe σ vs) H' := E.more (tb_all (t := E.tb) k1) (fun b u e _ => k1 b u e)
    rw [List.drop_eq_getElem_cons hlt] at h
    unfold lcW at h
    rw [if_pos chk] at h
    split at h
    · exact h.elim
    · rename_i Γ2 e2
      refine sg ts (C.z1 Dl) Γ (wipe σ vs) H' _ x Γ2 _ E2 r1 e2 fun σ2 E3 o3 w3 => ⟨by rw [w3, wipe_wipe], ?_⟩
      have racc3 : Reps X.K H' (Av (C.z1 Dl) Γ2 σ2) acc xs := racc.go ⟨fun b u _ e _ => k1 b u e, fun a z => .inl (z.elim (fun z => .inl (o3 a z)) .inr)⟩
      have w3' : wipe σ2 vs = wipe σ vs := by rw [w3, wipe_wipe]
      refine st (C.z1 Dl) Γ2 σ2 H' _ E3 ?_
      -- the test
      cases e4 : mt Γ2 with
      | no => rw [e4] at h; exact h
      | rz x Γ' => rw [e4] at h; exact h.elim
      | ok b Γ3 =>
        rw [e4] at h
        have h : Post X.K ts C W σ Γ1 H1 (RE X.K ts C σ) Q (if b = true then (me Γ3).nr.bind fun v Γ4 => match cool Γ4 v.op with
          | some (y, Γ5) => if acc.length < sizeLine then lcW i0 b0 ds0 g mt me vs (items.drop (i + 1)) (acc ++ [y]) (wipeE Γ5 vs) else .no
          | none => .no
          else lcW i0 b0 ds0 g mt me vs (items.drop (i + 1)) acc (wipeE Γ3 vs)) := h
        intro b' H3 E4 g4 eb
        obtain rfl : b = b' := eb
        cases b with
        | false =>
          rw [if_neg (by decide)]
          rw [if_neg (by decide)] at h
          have E5 := E4.wipe vs
          rw [w3'] at E5
          have hz3 : H3 Dl = some (.lst xs) := g4.keep Dl _ (fun z => E3.nz Dl z (.inr rfl)) (k1 _ _ hDl) (fun ps z => by cases z)
          refine ⟨hlt, wipeE Γ3 vs, acc, xs, E5, wipeE_no _ _, hz3, (g4.reps racc3).weak fun a z => ?_, ⟨fun b u hb e n => ?_, fun a z => ?_, fun j b ds e => ?_⟩, h⟩
          · rcases z with z | z
            · rw [← w3'] at z
              exact .inl (own_wipe z)
            · exact .inr z
          · have hg := gw.keep b u hb e n
            exact g4.keep b u (fun z => hb (gw.sub b (o3 b z))) (k1 b u hg) n
          · rw [← w3'] at z
            exact gw.sub a (o3 a (g4.sub a (own_wipe z)))
          · obtain ⟨es, e⟩ := g4.ix j b ds (wipeE_ow e)
            exact gw.ix j b es (gx _ _ _ e2 j b es e)
        | true =>
          rw [if_pos rfl]
          rw [if_pos rfl] at h
          refine se (C.z1 Dl) Γ3 σ2 H3 _ E4 ?_
          cases e5 : me Γ3 with
          | no => rw [e5] at h; exact h
          | rz x Γ' => rw [e5] at h; exact h.elim
          | ok val Γ4 =>
            rw [e5] at h
            have h : Post X.K ts C W σ Γ1 H1 (RE X.K ts C σ) Q (match cool Γ4 val.op with
              | some (y, Γ5) => if acc.length < sizeLine then lcW i0 b0 ds0 g mt me vs (items.drop (i + 1)) (acc ++ [y]) (wipeE Γ5 vs) else .no
              | none => .no) := h
            intro y H4 E5 g5 vy
            split at h
            · rename_i yd Γ5 e6
              split at h
              · rename_i hl
                obtain ⟨E6, g6, r6⟩ := vy.op.cool E5 e6
                have gt := g4.trans (g5.trans g6)
                have hz4 : H4 Dl = some (.lst xs) := gt.keep Dl _ (fun z => E3.nz Dl z (.inr rfl)) (k1 _ _ hDl) (fun ps z => by cases z)
                have racc6 := gt.reps racc3
                obtain ⟨E7, g7⟩ := E6.mutZ (xs' := xs ++ [y]) E1.gz (fun z => fD.1 (.inr z)) fD.2 hz4
                have E8 := E7.wipe vs
                rw [w3'] at E8
                refine ⟨xs, hz4, by rw [← racc6.length]; exact hl, hlt, wipeE Γ5 vs, acc ++ [yd], xs ++ [y], E8, wipeE_no _ _, upd_same, ?_, ⟨fun b u hb e n => ?_, fun a z => ?_, fun j b ds e => ?_⟩, h⟩
                · refine ((racc6.snoc r6).go g7).weak fun a z => ?_
                  rcases z with z | z
                  · rw [← w3'] at z
                    exact .inl (own_wipe z)
                  · exact .inr z
                · have hg := gw.keep b u hb e n
                  have hg2 := gt.keep b u (fun z => hb (gw.sub b (o3 b z))) (k1 b u hg) n
                  rw [upd_ne (ne_of_none e hD)]
                  exact hg2
                · rw [← w3'] at z
                  exact gw.sub a (o3 a (gt.sub a (own_wipe z)))
                · obtain ⟨es, e⟩ := gt.ix j b ds (wipeE_ow e)
                  exact gw.ix j b es (gx _ _ _ e2 j b es e)
              · exact h.elim
            · exact h.elim
  · have e : i = items.length := by omega
    subst e
    rw [List.drop_length] at h
    refine .inl ⟨ok.stop H _ xs0 q2 q3, ?_⟩
    unfold lcW at h
    rw [if_pos chk] at h
    have h : ∀ (b : V) (H' : Hp), EnvOK X.K ts C Γ σ H' → Go C Γ1 σ H1 Γ H' → VOK X.K ts C Γ σ H' (.ow acc) b → Q b H' := h
    obtain ⟨E2, o2⟩ := Eh.unwipe hno
    obtain ⟨E3, o3⟩ := E.unwipe hno
    refine h (.ref Dl) H E2 ⟨gw.keep, fun a z => gw.sub a ((o2 a).mp z), gw.ix⟩ ⟨Dl, xs, rfl, fun z => fD.1 (.inr z), fD.2, ?_, hDl, racc.weak fun a z => ?_⟩
    · exact E3
    · rcases z with z | z
      · exact .inl ((o3 a).mp z)
      · exact .inr z

/-- enumerate(name), name a list of one's own -/
def enumL (ds : List D) : List D := ds.zipIdx.map fun p => .tup [.int (p.2 : Nat), p.1]
theorem enumL_at {ds : List D} {i : Nat} {d : D} (e : (enumL ds)[i]? = some d) : ∃ x, ds[i]? = some x ∧ d = .tup [.int (i : Nat), x] := by
  unfold enumL at e
  rw [List.getElem?_map] at e
  obtain ⟨⟨x, k⟩, e1, e2⟩ := Option.map_eq_some_iff.mp e
  rw [List.getElem?_zipIdx] at e1
  obtain ⟨y, e3, e4⟩ := Option.map_eq_some_iff.mp e1
  simp only [Prod.mk.injEq] at e4
  obtain ⟨rfl, rfl⟩ := e4
  refine ⟨y, e3, ?_⟩
  rw [← e2]
  simp
theorem itw_enum {K : PySem.W.Frag} {ds : List D} {a : Addr} : ItW K ds (enumL ds) a (Ite K a) := by
  refine ⟨fun i d H S xs e hx r => ?_, fun i d H S x H' xs e hx r hS hy => ?_, fun H S xs hx r => ?_⟩
  · obtain ⟨x, e1, _⟩ := enumL_at e
    obtain ⟨v, e2, _⟩ := r.get e1
    exact ⟨xs, v, SqL.of hx, e2⟩
  · obtain ⟨x, e1, rfl⟩ := enumL_at e
    obtain ⟨v, e2, r1⟩ := r.get e1
    obtain ⟨T, w, rfl, hT, rfl, f⟩ := hy
    have f := f xs (SqL.of hx)
    rw [e2] at f; cases f
    exact ⟨keep_all hT, pair_go hT hS rfl r1⟩
  · refine ⟨xs, SqL.of hx, ?_⟩
    have : (enumL ds).length = ds.length := by unfold enumL; simp
    rw [this, r.length]
    exact Nat.le_refl _
theorem itw_list {K : PySem.W.Frag} {ds : List D} {a : Addr} : ItW K ds ds a (Itl K a) := by
  refine ⟨fun i d H S xs e hx r => ?_, fun i d H S x H' xs e hx r hS hy => ?_, fun H S xs hx r => ⟨xs, SqL.of hx, by rw [r.length]; exact Nat.le_refl _⟩⟩
  · obtain ⟨v, e2, _⟩ := r.get e
    exact ⟨xs, v, SqL.of hx, e2⟩
  · obtain ⟨v, e2, r1⟩ := r.get e
    obtain ⟨rfl, f⟩ := hy
    have f := f xs (SqL.of hx)
    rw [e2] at f; cases f
    exact ⟨fun _ _ q => q, r1⟩
variable {own : List (Str × Nat)} {scope : Scope} {g : D → EV → Option EV} {mt : MT} {me : ME} {ifs : List Expr} {i0 : Nat} {mk : List D → List D} {ti : TI}
/-- a walk over name's list -/
structure SIW (X : Cx) (tg iter : Expr) (i0 : Nat) (mk : List D → List D) : Prop where
  ex : ∃ ti : TI, PI X tg iter ti ∧ ∀ (σ : L2.St) (H : Hp) (R : It → Hp → Prop) (a : Addr) (xs : List V), σ[i0]? = some (some (V.ref a)) → H a = some (.lst xs) → (∀ J, (∀ ds, ItW X.K ds (mk ds) a J) → R J H) → ti σ H R
noncomputable def mLcW (i0 : Nat) (mk : List D → List D) (g : D → EV → Option EV) (mt : MT) (me : ME) (vs : List Nat) : ME := fun Γ => match ownAt Γ i0 with
  | some (b, ds) => if i0 ∈ vs then .no else lcW i0 b ds g mt me vs (mk ds) [] (wipeE Γ vs)
  | none => .no
theorem lcW_all (hi : SIW X tg iter i0 mk) (gx : IxOK g) :
    ∃ ti, PI X tg iter ti ∧ ∀ (C : Cn) (Γ : EV) (σ : L2.St) (H : Hp) (Q : VK), EnvOK X.K ts C Γ σ H → Post X.K ts C W σ Γ H (RE X.K ts C σ) Q (mLcW i0 mk g mt me vs Γ) → tLc ti (cG X.K vs g) (cT X.K ts WF mt) (cE X.K ts WF me) vs σ H Q := by
  obtain ⟨ti, pi, si⟩ := hi.ex
  refine ⟨ti, pi, fun C Γ σ H Q E h => ?_⟩
  unfold mLcW at h
  split at h
  · rename_i b ds e0
    split at h
    · exact h.elim
    · rename_i hv
      obtain ⟨a, xs, k1, k2, _⟩ := E.ow i0 b ds (ownAt_eq e0)
      exact si σ H _ a xs k1 k2 fun J ok Dl hD => lcW_sim (Q := Q) (g := g) (mt := mt) (me := me) cG_sim gx cT_sim cE_sim E hv k1 (ok ds) hD h
  · exact h.elim
theorem s1_setLcW {i : Nat} {y : Str} {py spos : Pos} (hc : X.calm = true) (hN : X.N.Nodup) (hy : X.N[i]? = some y) (hyl : X.env.scope.names.lookup y = some .local)
    (hsw : swapsWith (.ListComp elt [⟨tg, iter, ifs, 0⟩] scope pos) (some (.Name y py)) spos.line X.env = pure true) (hi : SIW X tg iter i0 mk) (ok : BlkOk X.N X.env.scope scope own) (gx : IxOK g)
    (hg : ∀ (s : Shared) (H : Hp) (C : Addr) (cl : List (Str × Addr)) (fp : List Addr), SG (X.blk s H scope (compEnvC scope cl C X.env) fp) tg (own.map (·.2)) g)
    (ht : ∀ (s : Shared) (H : Hp) (C : Addr) (cl : List (Str × Addr)) (fp : List Addr), SF ts (X.blk s H scope (compEnvC scope cl C X.env) fp) WF ifs mt)
    (he : ∀ (s : Shared) (H : Hp) (C : Addr) (cl : List (Str × Addr)) (fp : List Addr), SE ts (X.blk s H scope (compEnvC scope cl C X.env) fp) WF elt me)
    (hs : ∀ x, foldedSetIterable iter X.env x = pure x := by intro _; rfl) : S1 ts X W (.Assign [.Name y py] (.ListComp elt [⟨tg, iter, ifs, 0⟩] scope pos) spos) (mSet i (mLcW i0 mk g mt me (own.map (·.2)))) := by
  obtain ⟨ti, pi, si⟩ := lcW_all (ts := ts) (W := W) (mt := mt) (me := me) (vs := own.map (·.2)) hi gx
  exact s1_set_of (ps_setLc hc hN hy hyl hsw pi ok (fun s H C cl fp => (hg s H C cl fp).pg) (fun s H C cl fp => (ht s H C cl fp).pt) (fun s H C cl fp => (he s H C cl fp).pe) hs) si
theorem se_lcW (hc : X.calm = true) (hN : X.N.Nodup) (hi : SIW X tg iter i0 mk) (ok : BlkOk X.N X.env.scope scope own) (gx : IxOK g)
    (hg : ∀ (s : Shared) (H : Hp) (C : Addr) (cl : List (Str × Addr)) (fp : List Addr), SG (X.blk s H scope (compEnvC scope cl C X.env) fp) tg (own.map (·.2)) g)
    (ht : ∀ (s : Shared) (H : Hp) (C : Addr) (cl : List (Str × Addr)) (fp : List Addr), SF ts (X.blk s H scope (compEnvC scope cl C X.env) fp) WF ifs mt)
    (he : ∀ (s : Shared) (H : Hp) (C : Addr) (cl : List (Str × Addr)) (fp : List Addr), SE ts (X.blk s H scope (compEnvC scope cl C X.env) fp) WF elt me)
    (hs : ∀ x, foldedSetIterable iter X.env x = pure x := by intro _; rfl) : SE ts X W (.ListComp elt [⟨tg, iter, ifs, 0⟩] scope pos) (mLcW i0 mk g mt me (own.map (·.2))) := by
  obtain ⟨ti, pi, si⟩ := lcW_all (ts := ts) (W := W) (mt := mt) (me := me) (vs := own.map (·.2)) hi gx
  exact ⟨_, pe_lc hc hN pi ok (fun s H C cl fp => (hg s H C cl fp).pg) (fun s H C cl fp => (ht s H C cl fp).pt) (fun s H C cl fp => (he s H C cl fp).pe) hs, si⟩
variable {x : Str} {p px tpos : Pos} {elts : List Expr} {kk : Nat}
theorem siw_enum (ho : PE X (.Name x px) (tVar i0)) (hg : Gl X "enumerate") (hm : X.mg "enumerate" = none) (hst : starEach [.Name x px] X.env = [(false, eval (.Name x px) X.env)] := by rfl) :
    SIW X (.Tuple elts kk tpos) (.Call (.Name "enumerate" p) [.Name x px] [] pos) i0 enumL :=
  ⟨_, pi_enum hg hm (pa_cons ho pa_nil (by rw [hst]; rfl)) hst, fun σ H R a xs h1 h2 q => ⟨.ref a, h1, a, xs, rfl, SqL.of h2, q _ fun ds => itw_enum⟩⟩
end
end SX

set_option Elab.async false
set_option linter.all false
set_option maxRecDepth 100000
set_option maxHeartbeats 4000000
/-! figures of whole numbers -/
namespace DG
open PySem
abbrev AD := PySem.NumText.AllDigits
abbrev dv := PySem.NumText.digitsVal
def dec (n : Nat) : List Nat := (Nat.toDigits 10 n).map Char.toNat
theorem digitChar_toNat : ∀ d, d < 10 → (Nat.digitChar d).toNat = 48 + d := by decide
theorem dec_small {n : Nat} (h : n < 10) : dec n = [48 + n] := by
  unfold dec
  rw [Nat.toDigits_of_lt_base h]
  simp [digitChar_toNat n h]
theorem dec_snoc {n d : Nat} (h : 0 < n) (hd : d < 10) : dec (n * 10 + d) = dec n ++ [48 + d] := by
  have := Nat.toDigits_append_toDigits (b := 10) (n := n) (d := d) (by decide) h hd
  unfold dec
  rw [show n * 10 + d = 10 * n + d by omega, ← this, List.map_append, Nat.toDigits_of_lt_base hd]
  simp [digitChar_toNat d hd]
theorem dec_ne (n : Nat) : dec n ≠ [] := by
  unfold dec
  simp [Nat.toDigits_ne_nil]
theorem dec_ind {P : Nat → Prop} (h0 : ∀ n, n < 10 → P n) (h1 : ∀ n d, 0 < n → d < 10 → P n → P (n * 10 + d)) : ∀ n, P n := by
  intro n
  induction n using Nat.strongRecOn with
  | _ n ih =>
    by_cases h : n < 10
    · exact h0 n h
    · have := h1 (n / 10) (n % 10) (by omega) (by omega) (ih (n / 10) (by omega))
      rwa [show n / 10 * 10 + n % 10 = n by omega] at this
theorem dec_ad : ∀ n, AD (dec n) := by
  refine dec_ind (fun n h => ?_) (fun n d hn hd ih => ?_)
  · rw [dec_small h]
    intro c hc
    simp at hc
    omega
  · rw [dec_snoc hn hd]
    intro c hc
    rcases List.mem_append.mp hc with hc | hc
    · exact ih c hc
    · simp at hc
      omega
theorem dv_dec (n : Nat) : dv (dec n) = n := PySem.W.KIN.val_back n
theorem dv_app (a b : List Nat) : dv (a ++ b) = dv a * 10 ^ b.length + dv b := by
  have key : ∀ (b : List Nat) (x : Nat), b.foldl (fun acc c => acc * 10 + (c - 48)) x = x * 10 ^ b.length + dv b := by
    intro b
    induction b with
    | nil => intro x; simp [dv, PySem.NumText.digitsVal]
    | cons c b ih =>
      intro x
      have e : dv (c :: b) = (c - 48) * 10 ^ b.length + dv b := by
        show (c :: b).foldl (fun acc c => acc * 10 + (c - 48)) 0 = _
        rw [List.foldl_cons, ih]
        simp
      rw [List.foldl_cons, ih, e, List.length_cons, Nat.pow_succ, Nat.add_mul, Nat.mul_assoc, Nat.mul_comm 10, Nat.add_assoc]
  show (a ++ b).foldl (fun acc c => acc * 10 + (c - 48)) 0 = _
  rw [List.foldl_append, key]
  rfl
theorem dv_one (c : Nat) : dv [c] = c - 48 := by simp [dv, PySem.NumText.digitsVal]
theorem dv_nil : dv [] = 0 := rfl
theorem dv_cons (c : Nat) (b : List Nat) : dv (c :: b) = (c - 48) * 10 ^ b.length + dv b := by
  rw [show c :: b = [c] ++ b from rfl, dv_app, dv_one]
theorem dv_lt {b : List Nat} (h : AD b) : dv b < 10 ^ b.length := by
  induction b with
  | nil => simp [dv_nil]
  | cons c b ih =>
    have h1 := ih h.tail
    have h2 := h.head
    rw [dv_cons, List.length_cons, Nat.pow_succ]
    have : c - 48 ≤ 9 := by omega
    have := Nat.mul_le_mul_right (10 ^ b.length) this
    omega
theorem dv_zeros (k : Nat) : dv (List.replicate k 48) = 0 := by
  induction k with
  | zero => rfl
  | succ k ih => rw [List.replicate_succ, dv_cons, ih]; simp
theorem ad_zeros (k : Nat) : AD (List.replicate k 48) := fun c hc => by
  rw [(List.mem_replicate.mp hc).2]; omega
theorem ad_app {a b : List Nat} (h1 : AD a) (h2 : AD b) : AD (a ++ b) := fun c hc => (List.mem_append.mp hc).elim (h1 c) (h2 c)
/-- the one way to write it -/
def Can (cs : List Nat) : Prop := AD cs ∧ cs ≠ [] ∧ (cs.head? = some 48 → cs = [48])
theorem dv_pos {cs : List Nat} (h : AD cs) (hn : cs ≠ []) (h0 : cs.head? ≠ some 48) : 0 < dv cs := by
  cases cs with
  | nil => exact (hn rfl).elim
  | cons c b =>
    rw [dv_cons]
    have h2 := h.head
    have : c ≠ 48 := fun z => h0 (by rw [z]; rfl)
    have h3 : 1 ≤ c - 48 := by omega
    have h4 : 0 < 10 ^ b.length := Nat.pow_pos (by decide)
    have h5 := Nat.mul_le_mul_right (10 ^ b.length) h3
    omega
theorem can_dec : ∀ n, Can (dec n) := by
  refine dec_ind (fun n h => ?_) (fun n d hn hd ih => ?_)
  · refine ⟨dec_ad n, dec_ne n, fun z => ?_⟩
    rw [dec_small h] at z ⊢
    simp at z
    rw [z]
  · refine ⟨dec_ad _, dec_ne _, fun z => ?_⟩
    rw [dec_snoc hn hd] at z
    have e : (dec n).head? = some 48 := by
      cases e : dec n with
      | nil => exact (dec_ne n e).elim
      | cons c b => rw [e] at z; exact z
    have e2 := ih.2.2 e
    have := dv_dec n
    rw [e2, dv_one] at this
    omega
theorem dec_can {cs : List Nat} (h : Can cs) : dec (dv cs) = cs := by
  have key : ∀ (k : Nat) (cs : List Nat), cs.length = k → Can cs → dec (dv cs) = cs := by
    intro k
    induction k with
    | zero => intro cs hl h; exact (h.2.1 (List.length_eq_zero_iff.mp hl)).elim
    | succ k ih =>
      intro cs hl h
      obtain ⟨ds, c, rfl⟩ : ∃ ds c, cs = ds ++ [c] := ⟨cs.dropLast, cs.getLast h.2.1, (List.dropLast_concat_getLast h.2.1).symm⟩
      have hc := h.1 c (by simp)
      by_cases hd : ds = []
      · subst hd
        rw [List.nil_append, dv_one, dec_small (by omega), show 48 + (c - 48) = c by omega]
      · have h1 : AD ds := fun x hx => h.1 x (List.mem_append_left _ hx)
        have h2 : ds.head? ≠ some 48 := fun z => by
          have e : (ds ++ [c]).head? = some 48 := by
            cases ds with
            | nil => exact (hd rfl).elim
            | cons x b => exact z
          have := congrArg List.length (h.2.2 e)
          rw [List.length_append] at this
          have : ds.length = 0 := by simpa using this
          exact hd (List.length_eq_zero_iff.mp this)
        have h3 := ih ds (by rw [List.length_append] at hl; simpa using hl) ⟨h1, hd, fun z => (h2 z).elim⟩
        have hp := dv_pos h1 hd h2
        rw [dv_app, dv_one, List.length_singleton, Nat.pow_one, dec_snoc hp (by omega), h3, show 48 + (c - 48) = c by omega]
  exact key _ cs rfl h
theorem dec_len {n k : Nat} (hk : 0 < k) : (dec n).length ≤ k ↔ n < 10 ^ k := by
  unfold dec
  rw [List.length_map]
  exact Nat.length_toDigits_le_iff (by decide) hk
def pad (k r : Nat) : List Nat := List.replicate (k - (dec r).length) 48 ++ dec r
theorem pad_len {k r : Nat} (hk : 0 < k) (h : r < 10 ^ k) : (pad k r).length = k := by
  unfold pad
  have := (dec_len hk).mpr h
  rw [List.length_append, List.length_replicate]
  omega
theorem dv_pad (k r : Nat) : dv (pad k r) = r := by
  unfold pad
  rw [dv_app, dv_zeros, dv_dec]
  simp
theorem ad_pad (k r : Nat) : AD (pad k r) := ad_app (ad_zeros _) (dec_ad _)
theorem dec_pad {q k r : Nat} (hq : 0 < q) (hk : 0 < k) (h : r < 10 ^ k) : dec (q * 10 ^ k + r) = dec q ++ pad k r := by
  have hc := can_dec q
  have h2 : (dec q).head? ≠ some 48 := fun z => by
    have e := hc.2.2 z
    have := dv_dec q
    rw [e, dv_one] at this
    omega
  have e : dv (dec q ++ pad k r) = q * 10 ^ k + r := by rw [dv_app, dv_dec, pad_len hk h, dv_pad]
  rw [← e]
  refine dec_can ⟨ad_app hc.1 (ad_pad k r), by simp [dec_ne], fun z => (h2 ?_).elim⟩
  cases e2 : dec q with
  | nil => exact (dec_ne q e2).elim
  | cons c b => rw [e2] at z; exact z
/-- the text of a whole number -/
def txt (i : Int) : List Nat := if i < 0 then 45 :: dec i.natAbs else dec i.natAbs
theorem cps_ofString (s : String) : (Str.ofString s).cps.toList = s.toList.map Char.toNat := PyProof.Rows.signs_ofString s
theorem txt_eq (i : Int) : (Str.ofString (toString i)).cps.toList = txt i := by
  rw [cps_ofString]
  unfold txt
  cases i with
  | ofNat m =>
    rw [if_neg (by simp)]
    show (Nat.repr m).toList.map Char.toNat = _
    rw [Nat.toList_repr]
    rfl
  | negSucc m =>
    rw [if_pos (Int.negSucc_lt_zero m)]
    show ("-" ++ Nat.repr (m + 1)).toList.map Char.toNat = _
    rw [String.toList_append, Nat.toList_repr]
    rfl
theorem str_ext {a b : Str} (h : a.cps.toList = b.cps.toList) : a = b := by
  obtain ⟨a⟩ := a
  obtain ⟨b⟩ := b
  congr 1
  exact Array.toList_inj.mp h
theorem str_eq {a : Str} {i : Int} (h : a.cps.toList = txt i) : a = Str.ofString (toString i) := str_ext (h.trans (txt_eq i).symm)
end DG

set_option Elab.async false
set_option linter.all false
set_option maxRecDepth 100000
set_option maxHeartbeats 4000000
/-! how meanings run: for the pure parts -/
namespace PU
open PySem PySem.Spec PyProof.Rows L2 L2H XT GX RD SX
theorem all_run {g : D → EV → Option EV} {me : ME} {vs : List Nat} {P : D → Bool} {Γ : EV} : ∀ {items : List D}, (∀ d ∈ items, ∃ Γ2 Γ4, g d Γ = some Γ2 ∧ me Γ2 = .ok (.fz (.bl (P d))) Γ4 ∧ wipeE Γ4 vs = Γ) →
    gxAll false g mYes me vs items Γ = .ok (.fz (.bl (items.all P))) Γ
  | [], h => rfl
  | d :: ds, h => by
    obtain ⟨Γ2, Γ4, e1, e2, e3⟩ := h d List.mem_cons_self
    have ih := all_run (items := ds) fun x hx => h x (List.mem_cons_of_mem _ hx)
    unfold gxAll
    simp only [e1, mYes, Out.nr_ok, Out.bind_ok, e2, e3, ih, if_pos]
    cases hp : P d with
    | true => simp [hp]
    | false => simp [hp]
theorem col_run {g : D → EV → Option EV} {me : ME} {vs : List Nat} {f : D → D} {Γ : EV} : ∀ {items acc : List D}, acc.length + items.length ≤ sizeLine → (∀ d ∈ items, ∃ Γ2 Γ4, g d Γ = some Γ2 ∧ me Γ2 = .ok (.fz (f d)) Γ4 ∧ wipeE Γ4 vs = Γ) →
    gxCol g mYes me vs items acc Γ = .ok (acc ++ items.map f) Γ
  | [], acc, hl, h => by simp [gxCol]
  | d :: ds, acc, hl, h => by
    obtain ⟨Γ2, Γ4, e1, e2, e3⟩ := h d List.mem_cons_self
    rw [List.length_cons] at hl
    have ih := col_run (items := ds) (acc := acc ++ [f d]) (by rw [List.length_append]; simp; omega) fun x hx => h x (List.mem_cons_of_mem _ hx)
    unfold gxCol
    have : acc.length < sizeLine := by omega
    simp only [e1, mYes, Out.nr_ok, Out.bind_ok, e2, e3, ih, if_pos, Vl.op, cool, this]
    simp
/-- a slot that may be set -/
def FS (x : Sl) : Prop := x = .no ∨ ∃ d, x = .fz d
theorem FS.no : FS .no := .inl rfl
theorem FS.fz {d : D} : FS (.fz d) := .inr ⟨d, rfl⟩
theorem for_run {g : D → EV → Option EV} {b : MS} {items : List D} (I : Nat → EV → Prop) (h : ∀ k d, items[k]? = some d → ∀ Γ, I k Γ → ∃ Γ1 Γ2, g d Γ = some Γ1 ∧ b Γ1 = .ok .nx Γ2 ∧ I (k + 1) Γ2) {Γ : EV} (h0 : I 0 Γ) :
    ∃ Γ', forL g b items Γ = .ok .nx Γ' ∧ I items.length Γ' := by
  have key : ∀ (rest : List D) (k : Nat) (Γ : EV), items.drop k = rest → I k Γ → ∃ Γ', forL g b rest Γ = .ok .nx Γ' ∧ I (k + rest.length) Γ' := by
    intro rest
    induction rest with
    | nil => intro k Γ _ hI; exact ⟨Γ, rfl, hI⟩
    | cons d rest ih =>
      intro k Γ e hI
      have e1 : items[k]? = some d := by
        have : (items.drop k)[0]? = some d := by rw [e]; rfl
        simpa using this
      obtain ⟨Γ1, Γ2, q1, q2, q3⟩ := h k d e1 Γ hI
      have e2 : items.drop (k + 1) = rest := by
        rw [← List.drop_drop, e]; rfl
      obtain ⟨Γ', q4, q5⟩ := ih (k + 1) Γ2 e2 q3
      refine ⟨Γ', ?_, by rw [List.length_cons, show k + (rest.length + 1) = k + 1 + rest.length by omega]; exact q5⟩
      unfold forL
      simp only [q1, q2]
      exact q4
  obtain ⟨Γ', h1, h2⟩ := key items 0 Γ rfl h0
  exact ⟨Γ', h1, by simpa using h2⟩
theorem for_c {g : D → EV → Option EV} {b : MS} {d : D} {ds : List D} {Γ Γ1 Γ2 : EV} (h1 : g d Γ = some Γ1) (h2 : b Γ1 = .ok .nx Γ2) : forL g b (d :: ds) Γ = forL g b ds Γ2 := by
  conv => lhs; unfold forL
  simp only [h1, h2]
theorem for_b {g : D → EV → Option EV} {b : MS} {d : D} {ds : List D} {Γ Γ1 Γ2 : EV} (h1 : g d Γ = some Γ1) (h2 : b Γ1 = .ok .bk Γ2) : forL g b (d :: ds) Γ = .ok .nx Γ2 := by
  unfold forL
  simp only [h1, h2]
theorem for_r {g : D → EV → Option EV} {b : MS} {d : D} {ds : List D} {Γ Γ1 Γ2 : EV} {v : Vl} (h1 : g d Γ = some Γ1) (h2 : b Γ1 = .ok (.rt v) Γ2) : forL g b (d :: ds) Γ = .ok (.rt v) Γ2 := by
  unfold forL
  simp only [h1, h2]
theorem rng_at {n : Nat} {k : Nat} {d : D} (h : (rngD 0 n)[k]? = some d) : k < n ∧ d = .int k := by
  unfold rngD at h
  rw [List.getElem?_map] at h
  obtain ⟨j, h1, rfl⟩ := Option.map_eq_some_iff.mp h
  obtain ⟨h2, h3⟩ := List.getElem?_eq_some_iff.mp h1
  rw [List.getElem_range] at h3
  rw [List.length_range] at h2
  subst h3
  exact ⟨h2, by simp⟩
theorem rng_len {n : Nat} : (rngD 0 n).length = n := by unfold rngD; rw [List.length_map, List.length_range]
theorem atI_nat {α : Type} {l : List α} {k : Nat} {a : α} (h : l[k]? = some a) : atI l (k : Int) = some a := by
  have hk := lt_of_get h
  unfold atI ixN
  rw [if_pos (by omega), if_pos (by omega)]
  simpa using h
theorem ixN_nat {n k : Nat} (h : k < n) : ixN n (k : Int) = some k := by
  unfold ixN
  rw [if_pos (by omega), if_pos (by omega)]
  simp
theorem int62 {n : Nat} (h : n ≤ 1000000) : -2 ^ 62 ≤ (n : Int) ∧ (n : Int) < 2 ^ 62 := by
  omega
theorem rng_run {ms : MA} {Γ Γ1 : EV} {n : Nat} (e : ms Γ = .ok [.fz (.int n)] Γ1) (h : n ≤ 1000000) : mIR1 ms Γ = .ok (rngD 0 n) Γ1 := by
  unfold mIR1
  rw [e, Out.bind_ok]
  show (if -2 ^ 62 ≤ (n : Int) ∧ (n : Int) < 2 ^ 62 then Out.ok (rngD 0 (n : Int).toNat) Γ1 else .no) = _
  rw [if_pos (int62 h)]
  rfl
theorem seq_nx {a b : MS} {Γ Γ1 : EV} (h : a Γ = .ok .nx Γ1) : mSeq a b Γ = b Γ1 := by unfold mSeq; rw [h]
theorem seq_rt {a b : MS} {Γ Γ1 : EV} {v : Vl} (h : a Γ = .ok (.rt v) Γ1) : mSeq a b Γ = .ok (.rt v) Γ1 := by unfold mSeq; rw [h]
theorem seq_rz {a b : MS} {Γ Γ1 : EV} {x : Er} (h : a Γ = .rz x Γ1) : mSeq a b Γ = .rz x Γ1 := by unfold mSeq; rw [h]
theorem run_rt {n : Nat} {io : List Bool} {b : MS} {ds : List D} {Γ Γ' : EV} {v : Vl} {r : FR} (h0 : initE io ds = some Γ) (h1 : b (Γ ++ List.replicate (n - ds.length) .no) = .ok (.rt v) Γ') (h2 : SX.endF io v Γ' = r) : runF n io b ds = r := by
  unfold runF; rw [h0]; show (match b _ with | .ok (.rt v) Γ' => SX.endF io v Γ' | .ok .nx Γ' => SX.endF io (.fz .non) Γ' | .rz x _ => .rz x | _ => .no) = r; rw [h1]; exact h2
theorem run_rz {n : Nat} {io : List Bool} {b : MS} {ds : List D} {Γ Γ' : EV} {x : Er} (h0 : initE io ds = some Γ) (h1 : b (Γ ++ List.replicate (n - ds.length) .no) = .rz x Γ') : runF n io b ds = .rz x := by
  unfold runF; rw [h0]; show (match b _ with | .ok (.rt v) Γ' => SX.endF io v Γ' | .ok .nx Γ' => SX.endF io (.fz .non) Γ' | .rz x _ => .rz x | _ => .no) = _; rw [h1]
theorem for_nx {mi : MI} {g : D → EV → Option EV} {b : MS} {Γ Γ1 : EV} {items : List D} {o : Out Fl} (h : mi Γ = .ok items Γ1) (h2 : forL g b items Γ1 = o) : mFor mi g b Γ = o := by unfold mFor; rw [h]; exact h2
theorem bin_run {p : D → D → Option Vl} {ma mb : ME} {Γ Γ1 Γ2 : EV} {va vb r : Vl} {dx dy : D} (ha : ma Γ = .ok va Γ1) (hb : mb Γ1 = .ok vb Γ2) (hx : peek Γ2 va.op = some dx) (hy : peek Γ2 vb.op = some dy) (hp : p dx dy = some r) : mBin p ma mb Γ = .ok r Γ2 := by
  unfold mBin
  simp only [ha, hb, Out.bind_ok, hx, hy, hp]
theorem set_run {i : Nat} {m : ME} {Γ Γ1 Γ2 : EV} {v : Vl} (h : m Γ = .ok v Γ1) (h2 : setV i v Γ1 = some Γ2) : mSet i m Γ = .ok .nx Γ2 := by
  unfold mSet
  simp only [h, Out.bind_ok, h2]
theorem if_t {c : MT} {a b : MS} {Γ Γ1 : EV} {o : Out Fl} (h : c Γ = .ok true Γ1) (h2 : a Γ1 = o) : mIfS c a b Γ = o := by unfold mIfS; rw [h]; exact h2
theorem if_f {c : MT} {a b : MS} {Γ Γ1 : EV} {o : Out Fl} (h : c Γ = .ok false Γ1) (h2 : b Γ1 = o) : mIfS c a b Γ = o := by unfold mIfS; rw [h]; exact h2
theorem and_f {a b : MT} {Γ Γ1 : EV} (h : a Γ = .ok false Γ1) : mAndT a b Γ = .ok false Γ1 := by unfold mAndT; rw [h]; rfl
theorem and_t {a b : MT} {Γ Γ1 : EV} {o : Out Bool} (h : a Γ = .ok true Γ1) (h2 : b Γ1 = o) : mAndT a b Γ = o := by unfold mAndT; rw [h]; exact h2
theorem or_f {a b : MT} {Γ Γ1 : EV} {o : Out Bool} (h : a Γ = .ok false Γ1) (h2 : b Γ1 = o) : mOrT a b Γ = o := by unfold mOrT; rw [h]; exact h2
theorem or_t {a b : MT} {Γ Γ1 : EV} (h : a Γ = .ok true Γ1) : mOrT a b Γ = .ok true Γ1 := by unfold mOrT; rw [h]; rfl
theorem not_run {a : MT} {Γ Γ1 : EV} {k : Bool} (h : a Γ = .ok k Γ1) : mNotT a Γ = .ok (!k) Γ1 := by unfold mNotT; rw [h]; rfl
theorem test_run {a : ME} {Γ Γ1 : EV} {k : Bool} (h : a Γ = .ok (.fz (.bl k)) Γ1) : mTest a Γ = .ok k Γ1 := by unfold mTest; rw [h]; rfl
theorem whl_f {c : MT} {b : MS} {k : Nat} {Γ Γ1 : EV} (h : c Γ = .ok false Γ1) : mWhile (k + 1) c b Γ = .ok .nx Γ1 := by
  unfold mWhile
  simp only [h, Out.bind_ok]
  rfl
theorem whl_t {c : MT} {b : MS} {k : Nat} {Γ Γ1 Γ2 : EV} (h : c Γ = .ok true Γ1) (h2 : b Γ1 = .ok .nx Γ2) : mWhile (k + 1) c b Γ = mWhile k c b Γ2 := by
  conv => lhs; unfold mWhile
  simp only [h, Out.bind_ok, if_pos, h2]
theorem app_run {i : Nat} {m : ME} {Γ Γ1 Γ2 Γ3 : EV} {v : Vl} {d : D} {b : Bool} {ds : List D} {q : Bool × List D} (h0 : ownAt Γ i = some q) (h : m Γ = .ok v Γ1) (h2 : cool Γ1 v.op = some (d, Γ2)) (h3 : ownAt Γ2 i = some (b, ds)) (hl : ds.length < sizeLine) (h4 : Γ2.set i (.ow b (ds ++ [d])) = Γ3) : mExpr (mAppend i m) Γ = .ok .nx Γ3 := by
  unfold mExpr mAppend
  simp only [h0, h, h2, h3, Out.bind_ok, if_pos hl, h4]
theorem ix_run {i j : Nat} {mv mi : ME} {Γ Γ1 Γ2 Γ3 Γ4 : EV} {v : Vl} {k : Int} {d : D} {b b' : Bool} {ds ds' : List D} (h1 : mv Γ = .ok v Γ1) (h2 : ownAt Γ1 i = some (b, ds)) (h3 : mi Γ1 = .ok (.fz (.int k)) Γ2) (h4 : cool Γ2 v.op = some (d, Γ3)) (h5 : ownAt Γ3 i = some (b', ds')) (h6 : ixN ds'.length k = some j) (h7 : Γ3.set i (.ow b' (ds'.set j d)) = Γ4) :
    mSetIx i mv mi Γ = .ok .nx Γ4 := by
  unfold mSetIx
  simp only [h1, h2, h3, h4, h5, h6, h7, Out.bind_ok]
theorem atI_mem {l : List D} {k : Int} (h0 : 0 ≤ k) (h1 : k < l.length) : ∃ d, d ∈ l ∧ atI l k = some d := by
  obtain ⟨n, rfl⟩ := Int.eq_ofNat_of_zero_le h0
  have hn : n < l.length := by omega
  exact ⟨l[n], List.getElem_mem hn, atI_nat (List.getElem?_eq_getElem hn)⟩
/-! calls of defs with things that stay -/
section
variable {F : MF} {Γ Γ1 Γ2 Γ3 Γ4 : EV} {m1 m2 m3 m4 : ME} {a b c d : D} {r : Vl} {os : List Sl} {x : Er}
theorem call0 (e : F [] = .ok r os) : mCall [] F mNil Γ = .ok r Γ := by
  simp [e, runF, initE, mRet, mRetN, mAnd, mOr, mNot, mCall, mCallK, gp, mCons, mNil, mVar, mC, doCall, coolA, cool, Vl.op, dsOf, ixs, putOuts, put1, putO, endF, outsOf, mChain, mBin, mTest, mTru, truD, mAndT, mOrT, mNotT, mIf, mIfS, mSeq, mSet, setV, freeAt, mExpr, mSkip, mFn, peeks, peek, mIsi, tyD, isiB, lenD, leD, ltD, gtD, geD, cmpI, addD, subD, mTup, mLst, cools, mRaise, mNeg, idxD, eqD, neD, eqB, ownAt, mYes]
theorem call1 (h1 : m1 Γ = .ok (.fz a) Γ1) (e : F [a] = .ok r os) : mCall [false] F (mCons m1 mNil) Γ = .ok r Γ1 := by
  cases os <;> simp [h1, e, runF, initE, mRet, mRetN, mAnd, mOr, mNot, mCall, mCallK, gp, mCons, mNil, mVar, mC, doCall, coolA, cool, Vl.op, dsOf, ixs, putOuts, put1, putO, endF, outsOf, mChain, mBin, mTest, mTru, truD, mAndT, mOrT, mNotT, mIf, mIfS, mSeq, mSet, setV, freeAt, mExpr, mSkip, mFn, peeks, peek, mIsi, tyD, isiB, lenD, leD, ltD, gtD, geD, cmpI, addD, subD, mTup, mLst, cools, mRaise, mNeg, idxD, eqD, neD, eqB, ownAt, mYes]
theorem call2 (h1 : m1 Γ = .ok (.fz a) Γ1) (h2 : m2 Γ1 = .ok (.fz b) Γ2) (e : F [a, b] = .ok r os) : mCall [false, false] F (mCons m1 (mCons m2 mNil)) Γ = .ok r Γ2 := by
  rcases os with _ | ⟨_, _ | ⟨_, _⟩⟩ <;> simp [h1, h2, e, runF, initE, mRet, mRetN, mAnd, mOr, mNot, mCall, mCallK, gp, mCons, mNil, mVar, mC, doCall, coolA, cool, Vl.op, dsOf, ixs, putOuts, put1, putO, endF, outsOf, mChain, mBin, mTest, mTru, truD, mAndT, mOrT, mNotT, mIf, mIfS, mSeq, mSet, setV, freeAt, mExpr, mSkip, mFn, peeks, peek, mIsi, tyD, isiB, lenD, leD, ltD, gtD, geD, cmpI, addD, subD, mTup, mLst, cools, mRaise, mNeg, idxD, eqD, neD, eqB, ownAt, mYes]
theorem call3 (h1 : m1 Γ = .ok (.fz a) Γ1) (h2 : m2 Γ1 = .ok (.fz b) Γ2) (h3 : m3 Γ2 = .ok (.fz c) Γ3) (e : F [a, b, c] = .ok r os) : mCall [false, false, false] F (mCons m1 (mCons m2 (mCons m3 mNil))) Γ = .ok r Γ3 := by
  rcases os with _ | ⟨_, _ | ⟨_, _ | ⟨_, _⟩⟩⟩ <;> simp [h1, h2, h3, e, runF, initE, mRet, mRetN, mAnd, mOr, mNot, mCall, mCallK, gp, mCons, mNil, mVar, mC, doCall, coolA, cool, Vl.op, dsOf, ixs, putOuts, put1, putO, endF, outsOf, mChain, mBin, mTest, mTru, truD, mAndT, mOrT, mNotT, mIf, mIfS, mSeq, mSet, setV, freeAt, mExpr, mSkip, mFn, peeks, peek, mIsi, tyD, isiB, lenD, leD, ltD, gtD, geD, cmpI, addD, subD, mTup, mLst, cools, mRaise, mNeg, idxD, eqD, neD, eqB, ownAt, mYes]
theorem call1x (h1 : m1 Γ = .ok (.fz a) Γ1) (e : F [a] = .rz x) : mCall [false] F (mCons m1 mNil) Γ = .rz x Γ1 := by
  simp [h1, e, wipeE, runF, initE, mRet, mRetN, mAnd, mOr, mNot, mCall, mCallK, gp, mCons, mNil, mVar, mC, doCall, coolA, cool, Vl.op, dsOf, ixs, putOuts, put1, putO, endF, outsOf, mChain, mBin, mTest, mTru, truD, mAndT, mOrT, mNotT, mIf, mIfS, mSeq, mSet, setV, freeAt, mExpr, mSkip, mFn, peeks, peek, mIsi, tyD, isiB, lenD, leD, ltD, gtD, geD, cmpI, addD, subD, mTup, mLst, cools, mRaise, mNeg, idxD, eqD, neD, eqB, ownAt, mYes]
theorem call2x (h1 : m1 Γ = .ok (.fz a) Γ1) (h2 : m2 Γ1 = .ok (.fz b) Γ2) (e : F [a, b] = .rz x) : mCall [false, false] F (mCons m1 (mCons m2 mNil)) Γ = .rz x Γ2 := by
  simp [h1, h2, e, wipeE, runF, initE, mRet, mRetN, mAnd, mOr, mNot, mCall, mCallK, gp, mCons, mNil, mVar, mC, doCall, coolA, cool, Vl.op, dsOf, ixs, putOuts, put1, putO, endF, outsOf, mChain, mBin, mTest, mTru, truD, mAndT, mOrT, mNotT, mIf, mIfS, mSeq, mSet, setV, freeAt, mExpr, mSkip, mFn, peeks, peek, mIsi, tyD, isiB, lenD, leD, ltD, gtD, geD, cmpI, addD, subD, mTup, mLst, cools, mRaise, mNeg, idxD, eqD, neD, eqB, ownAt, mYes]
theorem call2K (h1 : m1 Γ = .ok (.fz a) Γ1) (h2 : m2 Γ1 = .ok (.fz b) Γ2) (e : F [b, a] = .ok r os) : mCallK [1, 0] [false, false] F (mCons m1 (mCons m2 mNil)) Γ = .ok r Γ2 := by
  rcases os with _ | ⟨_, _ | ⟨_, _⟩⟩ <;> simp [h1, h2, e, runF, initE, mRet, mRetN, mAnd, mOr, mNot, mCall, mCallK, gp, mCons, mNil, mVar, mC, doCall, coolA, cool, Vl.op, dsOf, ixs, putOuts, put1, putO, endF, outsOf, mChain, mBin, mTest, mTru, truD, mAndT, mOrT, mNotT, mIf, mIfS, mSeq, mSet, setV, freeAt, mExpr, mSkip, mFn, peeks, peek, mIsi, tyD, isiB, lenD, leD, ltD, gtD, geD, cmpI, addD, subD, mTup, mLst, cools, mRaise, mNeg, idxD, eqD, neD, eqB, ownAt, mYes]
theorem call1K (h1 : m1 Γ = .ok (.fz a) Γ1) (e : F [a] = .ok r os) : mCallK [0] [false] F (mCons m1 mNil) Γ = .ok r Γ1 := by
  cases os <;> simp [h1, e, runF, initE, mRet, mRetN, mAnd, mOr, mNot, mCall, mCallK, gp, mCons, mNil, mVar, mC, doCall, coolA, cool, Vl.op, dsOf, ixs, putOuts, put1, putO, endF, outsOf, mChain, mBin, mTest, mTru, truD, mAndT, mOrT, mNotT, mIf, mIfS, mSeq, mSet, setV, freeAt, mExpr, mSkip, mFn, peeks, peek, mIsi, tyD, isiB, lenD, leD, ltD, gtD, geD, cmpI, addD, subD, mTup, mLst, cools, mRaise, mNeg, idxD, eqD, neD, eqB, ownAt, mYes]
/-- .. the first argument a list of one's own that changes -/
theorem callO {i : Nat} {bb : Bool} {t t' : List D} (h : Γ[i]? = some (.ow bb t)) (e : F [.lst t] = .ok r [.ow true t']) : mCall [true] F (mCons (mVar i) mNil) Γ = .ok r (Γ.set i (.ow bb t')) := by
  simp [h, e, runF, initE, mRet, mRetN, mAnd, mOr, mNot, mCall, mCallK, gp, mCons, mNil, mVar, mC, doCall, coolA, cool, Vl.op, dsOf, ixs, putOuts, put1, putO, endF, outsOf, mChain, mBin, mTest, mTru, truD, mAndT, mOrT, mNotT, mIf, mIfS, mSeq, mSet, setV, freeAt, mExpr, mSkip, mFn, peeks, peek, mIsi, tyD, isiB, lenD, leD, ltD, gtD, geD, cmpI, addD, subD, mTup, mLst, cools, mRaise, mNeg, idxD, eqD, neD, eqB, ownAt, mYes]
theorem callO1 {i : Nat} {bb bc : Bool} {t t1 t' : List D} {o : Sl} (h : Γ[i]? = some (.ow bb t)) (h1 : m1 Γ = .ok (.fz a) Γ1) (h2 : Γ1[i]? = some (.ow bc t1)) (e : F [.lst t1, a] = .ok r [.ow true t', o]) : mCall [true, false] F (mCons (mVar i) (mCons m1 mNil)) Γ = .ok r (Γ1.set i (.ow bc t')) := by
  simp [h, h1, h2, e, runF, initE, mRet, mRetN, mAnd, mOr, mNot, mCall, mCallK, gp, mCons, mNil, mVar, mC, doCall, coolA, cool, Vl.op, dsOf, ixs, putOuts, put1, putO, endF, outsOf, mChain, mBin, mTest, mTru, truD, mAndT, mOrT, mNotT, mIf, mIfS, mSeq, mSet, setV, freeAt, mExpr, mSkip, mFn, peeks, peek, mIsi, tyD, isiB, lenD, leD, ltD, gtD, geD, cmpI, addD, subD, mTup, mLst, cools, mRaise, mNeg, idxD, eqD, neD, eqB, ownAt, mYes]
theorem callO2 {i : Nat} {bb bc : Bool} {t t1 t' : List D} {o o2 : Sl} (h : Γ[i]? = some (.ow bb t)) (h1 : m1 Γ = .ok (.fz a) Γ1) (h2 : m2 Γ1 = .ok (.fz b) Γ2) (h3 : Γ2[i]? = some (.ow bc t1)) (e : F [.lst t1, a, b] = .ok r [.ow true t', o, o2]) : mCall [true, false, false] F (mCons (mVar i) (mCons m1 (mCons m2 mNil))) Γ = .ok r (Γ2.set i (.ow bc t')) := by
  simp [h, h1, h2, h3, e, runF, initE, mRet, mRetN, mAnd, mOr, mNot, mCall, mCallK, gp, mCons, mNil, mVar, mC, doCall, coolA, cool, Vl.op, dsOf, ixs, putOuts, put1, putO, endF, outsOf, mChain, mBin, mTest, mTru, truD, mAndT, mOrT, mNotT, mIf, mIfS, mSeq, mSet, setV, freeAt, mExpr, mSkip, mFn, peeks, peek, mIsi, tyD, isiB, lenD, leD, ltD, gtD, geD, cmpI, addD, subD, mTup, mLst, cools, mRaise, mNeg, idxD, eqD, neD, eqB, ownAt, mYes]
end
end PU

set_option Elab.async false
set_option linter.all false
set_option maxRecDepth 100000
set_option maxHeartbeats 4000000
/-! texts as lists of signs -/
namespace DG
open PySem PySem.Spec PyProof.Rows L2 TL
abbrev Tx (l : List Nat) : Str := ⟨l.toArray⟩
theorem tlS (l : List Nat) : tl (Tx l) = l := rfl
theorem Stl (s : Str) : Tx (tl s) = s := mk_tl s
theorem Tx_len (l : List Nat) : (Tx l).length = l.length := by rw [len_tl, tlS]
theorem Tx_inj {a b : List Nat} (h : Tx a = Tx b) : a = b := by rw [← tlS a, ← tlS b, h]
theorem Tx_eq (a b : List Nat) : (Tx a = Tx b) ↔ a = b := ⟨Tx_inj, fun h => by rw [h]⟩
theorem Tx_add (a b : List Nat) : Tx a ++ Tx b = Tx (a ++ b) := ext_tl (by rw [tl_append, tlS, tlS, tlS])
theorem Tx_txt (i : Int) : Str.ofString (toString i) = Tx (txt i) := ext_tl (by rw [tlS]; exact txt_eq i)
theorem Tx_minus : ("-" : Str) = Tx [45] := ext_tl (by decide)
theorem Tx_slash : ("/" : Str) = Tx [47] := ext_tl (by decide)
theorem Tx_empty : ("" : Str) = Tx [] := ext_tl (by decide)
theorem Tx_zero : ("0" : Str) = Tx [48] := ext_tl (by decide)
theorem Tx_one : ("1" : Str) = Tx [49] := ext_tl (by decide)
theorem starts_minus (l : List Nat) : Txt.startswith (Tx l) "-" = decide (l.head? = some 45) := by
  unfold Txt.startswith
  rw [StrLaws.subAt_eq]
  have e1 : ("-" : Str).length = 1 := by decide
  have e2 : ("-" : Str).cps.toList = [45] := by decide
  rw [e1, e2, Tx_len]
  show (decide (0 + 1 ≤ l.length) && ((List.drop 0 l).take 1 == [45])) = _
  cases l with
  | nil => rfl
  | cons c r =>
    simp
    by_cases h : c = 45 <;> simp [h]
theorem cut_to (l : List Nat) (k : Nat) : cutS (Tx l) none (some (k : Int)) = Tx (l.take k) := by
  refine ext_tl ?_
  show ((Tx l).cps.toList.drop (HT.sIx (Tx l).length 0 none)).take (HT.sIx (Tx l).length (Tx l).length (some (k : Int)) - HT.sIx (Tx l).length 0 none) = l.take k
  rw [HT.sIx_none, HT.sIx_nat, Tx_len]
  show (l.drop 0).take (min k l.length - 0) = _
  rw [List.drop_zero, Nat.sub_zero]
  by_cases h : k ≤ l.length
  · rw [Nat.min_eq_left h]
  · rw [Nat.min_eq_right (by omega), List.take_length, List.take_of_length_le (by omega)]
theorem cut_from (l : List Nat) (k : Nat) : cutS (Tx l) (some (k : Int)) none = Tx (l.drop k) := by
  refine ext_tl ?_
  show ((Tx l).cps.toList.drop (HT.sIx (Tx l).length 0 (some (k : Int)))).take (HT.sIx (Tx l).length (Tx l).length none - HT.sIx (Tx l).length 0 (some (k : Int))) = l.drop k
  rw [HT.sIx_none, HT.sIx_nat, Tx_len]
  show (l.drop (min k l.length)).take (l.length - min k l.length) = _
  by_cases h : k ≤ l.length
  · rw [Nat.min_eq_left h, List.take_of_length_le (by rw [List.length_drop]; omega)]
  · rw [Nat.min_eq_right (by omega), List.drop_length, List.drop_of_length_le (by omega)]; simp
theorem cut_mid (l : List Nat) {a b : Nat} (h : a ≤ b) (hb : b ≤ l.length) : cutS (Tx l) (some (a : Int)) (some (b : Int)) = Tx ((l.drop a).take (b - a)) := by
  refine ext_tl ?_
  show ((Tx l).cps.toList.drop (HT.sIx (Tx l).length 0 (some (a : Int)))).take (HT.sIx (Tx l).length (Tx l).length (some (b : Int)) - HT.sIx (Tx l).length 0 (some (a : Int))) = (l.drop a).take (b - a)
  rw [HT.sIx_nat, HT.sIx_nat, Tx_len]
  show (l.drop (min a l.length)).take (min b l.length - min a l.length) = _
  rw [Nat.min_eq_left (by omega), Nat.min_eq_left (by omega)]
theorem in_digits (c : Nat) : SX.inD false (.str ⟨#[c]⟩) (.str "0123456789") = some (.fz (.bl (decide (48 ≤ c) && decide (c ≤ 57)))) := by
  unfold SX.inD SX.inB
  have h1 : (⟨#[c]⟩ : Str).cps.toList = [c] := rfl
  have h2 : ("0123456789" : Str).cps.toList = [48, 49, 50, 51, 52, 53, 54, 55, 56, 57] := by decide
  simp only [h1, h2, Option.map_some]
  have : decide (c ∈ [48, 49, 50, 51, 52, 53, 54, 55, 56, 57]) = (decide (48 ≤ c) && decide (c ≤ 57)) := by
    by_cases a : 48 ≤ c ∧ c ≤ 57
    · have : c = 48 ∨ c = 49 ∨ c = 50 ∨ c = 51 ∨ c = 52 ∨ c = 53 ∨ c = 54 ∨ c = 55 ∨ c = 56 ∨ c = 57 := by omega
      rcases this with rfl | rfl | rfl | rfl | rfl | rfl | rfl | rfl | rfl | rfl <;> rfl
    · have h3 : ¬ c ∈ [48, 49, 50, 51, 52, 53, 54, 55, 56, 57] := by
        intro z
        simp at z
        omega
      rw [decide_eq_false h3]
      by_cases b : 48 ≤ c
      · have : ¬ c ≤ 57 := fun z => a ⟨b, z⟩
        simp [b, this]
      · simp [b]
  rw [this]; rfl
instance (l : List Nat) : Decidable (AD l) := inferInstanceAs (Decidable (∀ c ∈ l, 48 ≤ c ∧ c ≤ 57))
theorem Tx_isdigit {l : List Nat} (h : ∀ c ∈ l, c < 128) : Txt.isdigit (Tx l) = decide (AD l ∧ l ≠ []) := by
  unfold Txt.isdigit
  rw [Tx_len]
  have e : (Tx l).cps.all Unicode.isDigit = l.all Unicode.isDigit := by rw [← Array.all_toList]
  rw [e]
  have e2 : l.all Unicode.isDigit = decide (AD l) := by
    induction l with
    | nil => rfl
    | cons c r ih =>
      have hc := h c List.mem_cons_self
      rw [List.all_cons, ih (fun x hx => h x (List.mem_cons_of_mem _ hx)) (by rw [← Array.all_toList])]
      have h1 : Unicode.isDigit c = decide (48 ≤ c ∧ c ≤ 57) := by
        have : ∀ c, c < 128 → Unicode.isDigit c = decide (48 ≤ c ∧ c ≤ 57) := by decide +kernel
        exact this c hc
      rw [h1]
      by_cases a : 48 ≤ c ∧ c ≤ 57
      · rw [decide_eq_true a, Bool.true_and]
        by_cases b : AD r
        · rw [decide_eq_true b, decide_eq_true (show AD (c :: r) from fun x hx => (List.mem_cons.mp hx).elim (fun z => by rw [z]; exact a) (b x))]
        · rw [decide_eq_false b, decide_eq_false (show ¬ AD (c :: r) from fun z => b z.tail)]
      · rw [decide_eq_false a, Bool.false_and, decide_eq_false (show ¬ AD (c :: r) from fun z => a z.head)]
  rw [e2]
  cases l with
  | nil => simp
  | cons c r => simp
theorem Tx_join (P : List (List Nat)) : Txt.join "" (P.map Tx) = Tx P.flatten := by
  refine ext_tl ?_
  have e : tl ("" : Str) = [] := by decide
  rw [join_eq, tl_join, e, List.map_map]
  have : ∀ P : List (List Nat), joinL [] P = P.flatten := by
    intro P
    induction P with
    | nil => rfl
    | cons a r ih =>
      cases r with
      | nil => simp [joinL]
      | cons b r => rw [joinL, ih]; simp
  rw [show List.map (tl ∘ Tx) P = P from by rw [show (tl ∘ Tx) = id from rfl, List.map_id], this]
theorem Tx_joinOk {P : List (List Nat)} (h : P.flatten.length ≤ 100000) : JoinOk "" (P.map Tx) = true := by
  unfold JoinOk
  have e : ∀ (P : List (List Nat)) (k : Nat), List.foldl (fun x1 x2 => x1 + x2.length + ("" : Str).length) k (P.map Tx) = k + P.flatten.length := by
    intro P
    induction P with
    | nil => intro k; simp
    | cons a r ih =>
      intro k
      rw [List.map_cons, List.foldl_cons, ih, Tx_len, List.flatten_cons, List.length_append]
      have : ("" : Str).length = 0 := by decide
      omega
  rw [List.foldl_toArray, e P 0]
  unfold Builtin.Str.tooLong sizeLine
  rw [decide_eq_false (by omega)]; rfl
theorem Tx_strs : ∀ P : List (List Nat), SX.strsD (P.map fun l => SX.D.str (Tx l)) = some (P.map Tx)
  | [] => rfl
  | l :: P => by
    show (SX.strsD (P.map fun l => SX.D.str (Tx l))).map (fun r => Tx l :: r) = _
    rw [Tx_strs P]; rfl
theorem Tx_zfill {k r : Nat} (hk : 0 < k) (h : r < 10 ^ k) : Txt.zfill (Tx (dec r)) (k : Int) = Tx (pad k r) := by
  have hl := (dec_len hk).mpr h
  unfold Txt.zfill
  rw [Tx_len]
  by_cases c : (k : Int) ≤ ((dec r).length : Int)
  · rw [if_pos c]
    unfold pad
    rw [show k - (dec r).length = 0 by omega]; rfl
  · rw [if_neg c]
    unfold zfilled
    have hd := dec_ad r
    have hn := dec_ne r
    cases e : dec r with
    | nil => exact (hn e).elim
    | cons x y =>
      rw [e] at hd
      have hx := hd.head
      have e0 : (Tx (x :: y)).cps[0]? = some x := by simp
      rw [e0]
      have h43 : x ≠ 43 := by omega
      have h45 : x ≠ 45 := by omega
      split
      · rename_i q; cases q; exact (h43 rfl).elim
      · rename_i q; cases q; exact (h45 rfl).elim
      · refine ext_tl ?_
        show (Array.replicate (((k : Int).toNat) - (x :: y).length) 48 ++ (x :: y).toArray ++ Array.replicate 0 48).toList = _
        rw [← e]
        simp [pad]
end DG

/-! Widening: rows of numbers that grow along edges; the row at which growing ends is one and the same, however one goes.
An edge (u, v, w): v may get min (x u) w, if that is more than it has and at least its floor. -/
namespace WID
abbrev Edge := Nat × Nat × Int
def gain (x : Nat → Int) (e : Edge) : Int := min (x e.1) e.2.2
def put (x : Nat → Int) (v : Nat) (m : Int) : Nat → Int := fun i => if i = v then m else x i
/-- nothing more grows -/
def Closed (E : List Edge) (f x : Nat → Int) : Prop := ∀ e ∈ E, x e.2.1 < gain x e → gain x e < f e.2.1
inductive Grows (E : List Edge) (f s : Nat → Int) : (Nat → Int) → Prop where
  | refl : Grows E f s s
  | step {x : Nat → Int} {e : Edge} (h : Grows E f s x) (he : e ∈ E) (h1 : x e.2.1 < gain x e) (h2 : f e.2.1 ≤ gain x e) : Grows E f s (put x e.2.1 (gain x e))
theorem gain_mono {x y : Nat → Int} {e : Edge} (h : ∀ i, x i ≤ y i) : gain x e ≤ gain y e := by
  unfold gain
  have := h e.1
  omega
/-- what grows stays below each row that is closed and not below the beginning -/
theorem Grows.under {E : List Edge} {f s x y : Nat → Int} (g : Grows E f s x) (c : Closed E f y) (h : ∀ i, s i ≤ y i) : ∀ i, x i ≤ y i := by
  induction g with
  | refl => exact h
  | @step x e g he h1 h2 ih =>
    intro i
    unfold put
    split
    · rename_i hi
      subst hi
      have hm := gain_mono (e := e) ih
      by_cases q : gain y e ≤ y e.2.1
      · omega
      · have := c e he (by omega)
        omega
    · exact ih i
theorem Grows.above {E : List Edge} {f s x : Nat → Int} (g : Grows E f s x) : ∀ i, s i ≤ x i := by
  induction g with
  | refl => exact fun i => Int.le_refl _
  | @step x e g he h1 h2 ih =>
    intro i
    unfold put
    split
    · rename_i hi
      subst hi
      have := ih e.2.1
      omega
    · exact ih i
/-- two ways to a row at which nothing grows end at the same one -/
theorem Grows.one {E : List Edge} {f s x y : Nat → Int} (g : Grows E f s x) (k : Grows E f s y) (cx : Closed E f x) (cy : Closed E f y) : x = y :=
  funext fun i => Int.le_antisymm (g.under cy k.above i) (k.under cx g.above i)
/-- .. also by edges that are the same but for their sequence -/
theorem Grows.imp {E E' : List Edge} {f s x : Nat → Int} (h : ∀ e ∈ E, e ∈ E') (g : Grows E f s x) : Grows E' f s x := by
  induction g with
  | refl => exact .refl
  | step _ he h1 h2 ih => exact .step ih (h _ he) h1 h2
theorem Closed.imp {E E' : List Edge} {f x : Nat → Int} (h : ∀ e ∈ E', e ∈ E) (c : Closed E f x) : Closed E' f x := fun e he => c e (h e he)
/-- a start and floors: what can be nowhere below nought stays so; no number goes beyond a bound of the beginning -/
theorem Grows.most {E : List Edge} {f s x : Nat → Int} {b : Int} (g : Grows E f s x) (h : ∀ i, s i ≤ b) : ∀ i, x i ≤ b := by
  induction g with
  | refl => exact h
  | @step x e g he h1 h2 ih =>
    intro i
    unfold put
    split
    · have := ih e.1
      unfold gain
      omega
    · exact ih i
/-- only ends of edges grow -/
theorem Grows.rest {E : List Edge} {f s x : Nat → Int} (g : Grows E f s x) {i : Nat} (h : ∀ e ∈ E, e.2.1 ≠ i) : x i = s i := by
  induction g with
  | refl => rfl
  | @step x e g he h1 h2 ih =>
    unfold put
    split
    · rename_i hi
      exact (h e he hi.symm).elim
    · exact ih
end WID

set_option Elab.async false
set_option linter.all false
set_option maxRecDepth 100000
set_option maxHeartbeats 4000000
namespace K29
open PySem PySem.Spec PyProof.Rows L2 L2H XT GX RD SX
def top (i : Nat) : Stmt := PySem.Challenge.pw_everyohm_k29_whole_flood_by_widening.main.body.getD i (.Pass ⟨0, 0, 0, 0⟩)
abbrev s_NotUsable_init : Stmt := inClass (top 6) 0
abbrev n_NotUsable_init : List Str := ["self", "word", "at"]
theorem sc_NotUsable_init : FnScope n_NotUsable_init ["self", "word", "at"] (defScope s_NotUsable_init) := ⟨rfl, rfl, rfl, by decide +kernel, rfl, by decide +kernel, by decide +kernel⟩
def d_NotUsable_init : He.DefD := ⟨("NotUsable", some "__init__"), "__init__", "NotUsable.__init__", defArgs s_NotUsable_init, defBody s_NotUsable_init, defScope s_NotUsable_init, [], []⟩
abbrev a_NotUsable_init (K : PySem.W.Frag) : Addr := He.fAd K ("NotUsable", some "__init__")
abbrev s_require : Stmt := top 8
abbrev n_require : List Str := ["fits", "word"]
theorem sc_require : FnScope n_require ["fits", "word"] (defScope s_require) := ⟨rfl, rfl, rfl, by decide +kernel, rfl, by decide +kernel, by decide +kernel⟩
def d_require : He.DefD := ⟨("require", none), "require", "require", defArgs s_require, defBody s_require, defScope s_require, [], []⟩
abbrev a_require (K : PySem.W.Frag) : Addr := He.fAd K ("require", none)
abbrev s_is_integer : Stmt := top 10
abbrev n_is_integer : List Str := ["thing"]
theorem sc_is_integer : FnScope n_is_integer ["thing"] (defScope s_is_integer) := ⟨rfl, rfl, rfl, by decide +kernel, rfl, by decide +kernel, by decide +kernel⟩
def d_is_integer : He.DefD := ⟨("is_integer", none), "is_integer", "is_integer", defArgs s_is_integer, defBody s_is_integer, defScope s_is_integer, [], []⟩
abbrev a_is_integer (K : PySem.W.Frag) : Addr := He.fAd K ("is_integer", none)
abbrev s_is_number : Stmt := top 11
abbrev n_is_number : List Str := ["thing"]
theorem sc_is_number : FnScope n_is_number ["thing"] (defScope s_is_number) := ⟨rfl, rfl, rfl, by decide +kernel, rfl, by decide +kernel, by decide +kernel⟩
def d_is_number : He.DefD := ⟨("is_number", none), "is_number", "is_number", defArgs s_is_number, defBody s_is_number, defScope s_is_number, [], []⟩
abbrev a_is_number (K : PySem.W.Frag) : Addr := He.fAd K ("is_number", none)
abbrev s_is_between : Stmt := top 12
abbrev n_is_between : List Str := ["thing", "least", "most"]
theorem sc_is_between : FnScope n_is_between ["thing", "least", "most"] (defScope s_is_between) := ⟨rfl, rfl, rfl, by decide +kernel, rfl, by decide +kernel, by decide +kernel⟩
def d_is_between : He.DefD := ⟨("is_between", none), "is_between", "is_between", defArgs s_is_between, defBody s_is_between, defScope s_is_between, [], []⟩
abbrev a_is_between (K : PySem.W.Frag) : Addr := He.fAd K ("is_between", none)
abbrev s_is_lot : Stmt := top 13
abbrev n_is_lot : List Str := ["thing", "one", "other"]
theorem sc_is_lot : FnScope n_is_lot ["thing"] (defScope s_is_lot) := ⟨rfl, rfl, rfl, by decide +kernel, rfl, by decide +kernel, by decide +kernel⟩
def d_is_lot : He.DefD := ⟨("is_lot", none), "is_lot", "is_lot", defArgs s_is_lot, defBody s_is_lot, defScope s_is_lot, [], []⟩
abbrev a_is_lot (K : PySem.W.Frag) : Addr := He.fAd K ("is_lot", none)
abbrev s_count_of_nodes : Stmt := top 15
abbrev n_count_of_nodes : List Str := ["net"]
theorem sc_count_of_nodes : FnScope n_count_of_nodes ["net"] (defScope s_count_of_nodes) := ⟨rfl, rfl, rfl, by decide +kernel, rfl, by decide +kernel, by decide +kernel⟩
def d_count_of_nodes : He.DefD := ⟨("count_of_nodes", none), "count_of_nodes", "count_of_nodes", defArgs s_count_of_nodes, defBody s_count_of_nodes, defScope s_count_of_nodes, [], []⟩
abbrev a_count_of_nodes (K : PySem.W.Frag) : Addr := He.fAd K ("count_of_nodes", none)
abbrev s_is_node : Stmt := top 16
abbrev n_is_node : List Str := ["net", "thing"]
theorem sc_is_node : FnScope n_is_node ["net", "thing"] (defScope s_is_node) := ⟨rfl, rfl, rfl, by decide +kernel, rfl, by decide +kernel, by decide +kernel⟩
def d_is_node : He.DefD := ⟨("is_node", none), "is_node", "is_node", defArgs s_is_node, defBody s_is_node, defScope s_is_node, [], []⟩
abbrev a_is_node (K : PySem.W.Frag) : Addr := He.fAd K ("is_node", none)
abbrev s_is_switch_of : Stmt := top 17
abbrev n_is_switch_of : List Str := ["net", "thing"]
theorem sc_is_switch_of : FnScope n_is_switch_of ["net", "thing"] (defScope s_is_switch_of) := ⟨rfl, rfl, rfl, by decide +kernel, rfl, by decide +kernel, by decide +kernel⟩
def d_is_switch_of : He.DefD := ⟨("is_switch_of", none), "is_switch_of", "is_switch_of", defArgs s_is_switch_of, defBody s_is_switch_of, defScope s_is_switch_of, [], []⟩
abbrev a_is_switch_of (K : PySem.W.Frag) : Addr := He.fAd K ("is_switch_of", none)
abbrev s_rank_of : Stmt := top 21
abbrev n_rank_of : List Str := ["net", "node", "feeds"]
theorem sc_rank_of : FnScope n_rank_of ["net", "node"] (defScope s_rank_of) := ⟨rfl, rfl, rfl, by decide +kernel, rfl, by decide +kernel, by decide +kernel⟩
def d_rank_of : He.DefD := ⟨("rank_of", none), "rank_of", "rank_of", defArgs s_rank_of, defBody s_rank_of, defScope s_rank_of, [], []⟩
abbrev a_rank_of (K : PySem.W.Frag) : Addr := He.fAd K ("rank_of", none)
abbrev s_rank_of_strength : Stmt := top 22
abbrev n_rank_of_strength : List Str := ["strength"]
theorem sc_rank_of_strength : FnScope n_rank_of_strength ["strength"] (defScope s_rank_of_strength) := ⟨rfl, rfl, rfl, by decide +kernel, rfl, by decide +kernel, by decide +kernel⟩
def d_rank_of_strength : He.DefD := ⟨("rank_of_strength", none), "rank_of_strength", "rank_of_strength", defArgs s_rank_of_strength, defBody s_rank_of_strength, defScope s_rank_of_strength, [], []⟩
abbrev a_rank_of_strength (K : PySem.W.Frag) : Addr := He.fAd K ("rank_of_strength", none)
abbrev s_switch_rank : Stmt := top 23
abbrev n_switch_rank : List Str := ["net", "switch"]
theorem sc_switch_rank : FnScope n_switch_rank ["net", "switch"] (defScope s_switch_rank) := ⟨rfl, rfl, rfl, by decide +kernel, rfl, by decide +kernel, by decide +kernel⟩
def d_switch_rank : He.DefD := ⟨("switch_rank", none), "switch_rank", "switch_rank", defArgs s_switch_rank, defBody s_switch_rank, defScope s_switch_rank, [], []⟩
abbrev a_switch_rank (K : PySem.W.Frag) : Addr := He.fAd K ("switch_rank", none)
abbrev s_flood : Stmt := top 26
abbrev n_flood : List Str := ["net", "usable", "starts", "floors", "switch"]
theorem sc_flood : FnScope n_flood ["net", "usable", "starts", "floors"] (defScope s_flood) := ⟨rfl, rfl, rfl, by decide +kernel, rfl, by decide +kernel, by decide +kernel⟩
def d_flood : He.DefD := ⟨("flood", none), "flood", "flood", defArgs s_flood, defBody s_flood, defScope s_flood, [], []⟩
abbrev a_flood (K : PySem.W.Frag) : Addr := He.fAd K ("flood", none)
abbrev s_are_numbers : Stmt := top 27
abbrev n_are_numbers : List Str := ["net", "thing", "most", "number"]
theorem sc_are_numbers : FnScope n_are_numbers ["net", "thing", "most"] (defScope s_are_numbers) := ⟨rfl, rfl, rfl, by decide +kernel, rfl, by decide +kernel, by decide +kernel⟩
def d_are_numbers : He.DefD := ⟨("are_numbers", none), "are_numbers", "are_numbers", defArgs s_are_numbers, defBody s_are_numbers, defScope s_are_numbers, [], []⟩
abbrev a_are_numbers (K : PySem.W.Frag) : Addr := He.fAd K ("are_numbers", none)
abbrev s_flooded : Stmt := top 28
abbrev n_flooded : List Str := ["net", "usable", "starts", "floors", "ways", "numbers", "parents", "steps", "step", "rank", "waiting", "switch", "other", "width", "start", "floor", "node", "number"]
theorem sc_flooded : FnScope n_flooded ["net", "usable", "starts", "floors"] (defScope s_flooded) := ⟨rfl, rfl, rfl, by decide +kernel, rfl, by decide +kernel, by decide +kernel⟩
def d_flooded : He.DefD := ⟨("flooded", none), "flooded", "flooded", defArgs s_flooded, defBody s_flooded, defScope s_flooded, [], []⟩
abbrev a_flooded (K : PySem.W.Frag) : Addr := He.fAd K ("flooded", none)
abbrev s_ways_over : Stmt := top 29
abbrev n_ways_over : List Str := ["net", "usable", "feeds", "ways", "switch", "strength", "left", "right", "width", "_"]
theorem sc_ways_over : FnScope n_ways_over ["net", "usable"] (defScope s_ways_over) := ⟨rfl, rfl, rfl, by decide +kernel, rfl, by decide +kernel, by decide +kernel⟩
def d_ways_over : He.DefD := ⟨("ways_over", none), "ways_over", "ways_over", defArgs s_ways_over, defBody s_ways_over, defScope s_ways_over, [], []⟩
abbrev a_ways_over (K : PySem.W.Frag) : Addr := He.fAd K ("ways_over", none)
abbrev s_l_tape : Stmt := top 31
abbrev n_l_tape : List Str := ["_law_script", "_law_cell"]
theorem sc_l_tape : FnScope n_l_tape ["_law_script"] (defScope s_l_tape) := ⟨rfl, rfl, rfl, by decide +kernel, rfl, by decide +kernel, by decide +kernel⟩
def d_l_tape : He.DefD := ⟨("_law_tape", none), "_law_tape", "_law_tape", defArgs s_l_tape, defBody s_l_tape, defScope s_l_tape, [], []⟩
abbrev a_l_tape (K : PySem.W.Frag) : Addr := He.fAd K ("_law_tape", none)
abbrev s_l_pick : Stmt := top 32
abbrev n_l_pick : List Str := ["_law_tape_here", "_law_many", "_law_cell", "_law_told"]
theorem sc_l_pick : FnScope n_l_pick ["_law_tape_here", "_law_many"] (defScope s_l_pick) := ⟨rfl, rfl, rfl, by decide +kernel, rfl, by decide +kernel, by decide +kernel⟩
def d_l_pick : He.DefD := ⟨("_law_pick", none), "_law_pick", "_law_pick", defArgs s_l_pick, defBody s_l_pick, defScope s_l_pick, [], []⟩
abbrev a_l_pick (K : PySem.W.Frag) : Addr := He.fAd K ("_law_pick", none)
abbrev s_l_same : Stmt := top 33
abbrev n_l_same : List Str := ["_law_one", "_law_other", "_law_k"]
theorem sc_l_same : FnScope n_l_same ["_law_one", "_law_other"] (defScope s_l_same) := ⟨rfl, rfl, rfl, by decide +kernel, rfl, by decide +kernel, by decide +kernel⟩
def d_l_same : He.DefD := ⟨("_law_same", none), "_law_same", "_law_same", defArgs s_l_same, defBody s_l_same, defScope s_l_same, [], []⟩
abbrev a_l_same (K : PySem.W.Frag) : Addr := He.fAd K ("_law_same", none)
abbrev s_l_name : Stmt := top 34
abbrev n_l_name : List Str := ["_law_style", "_law_place"]
theorem sc_l_name : FnScope n_l_name ["_law_style", "_law_place"] (defScope s_l_name) := ⟨rfl, rfl, rfl, by decide +kernel, rfl, by decide +kernel, by decide +kernel⟩
def d_l_name : He.DefD := ⟨("_law_name", none), "_law_name", "_law_name", defArgs s_l_name, defBody s_l_name, defScope s_l_name, [], []⟩
abbrev a_l_name (K : PySem.W.Frag) : Addr := He.fAd K ("_law_name", none)
abbrev s_l_row : Stmt := top 35
abbrev n_l_row : List Str := ["_law_tape_here", "_law_left", "_law_right", "_law_total", "_law_kind", "_law_gate"]
theorem sc_l_row : FnScope n_l_row ["_law_tape_here", "_law_left", "_law_right", "_law_total"] (defScope s_l_row) := ⟨rfl, rfl, rfl, by decide +kernel, rfl, by decide +kernel, by decide +kernel⟩
def d_l_row : He.DefD := ⟨("_law_row", none), "_law_row", "_law_row", defArgs s_l_row, defBody s_l_row, defScope s_l_row, [], []⟩
abbrev a_l_row (K : PySem.W.Frag) : Addr := He.fAd K ("_law_row", none)
abbrev s_l_web : Stmt := top 36
abbrev n_l_web : List Str := ["_law_tape_here", "_law_feeds", "_law_tanks", "_law_most", "_law_total", "_law_style", "_law_build", "_law_ends", "_law_left", "_law_names", "_law_sized", "_law_rows", "_law_k", "_law_pair"]
theorem sc_l_web : FnScope n_l_web ["_law_tape_here"] (defScope s_l_web) := ⟨rfl, rfl, rfl, by decide +kernel, rfl, by decide +kernel, by decide +kernel⟩
def d_l_web : He.DefD := ⟨("_law_web", none), "_law_web", "_law_web", defArgs s_l_web, defBody s_l_web, defScope s_l_web, [], []⟩
abbrev a_l_web (K : PySem.W.Frag) : Addr := He.fAd K ("_law_web", none)
abbrev s_l_rank : Stmt := top 37
abbrev n_l_rank : List Str := ["_law_web_here", "_law_spot"]
theorem sc_l_rank : FnScope n_l_rank ["_law_web_here", "_law_spot"] (defScope s_l_rank) := ⟨rfl, rfl, rfl, by decide +kernel, rfl, by decide +kernel, by decide +kernel⟩
def d_l_rank : He.DefD := ⟨("_law_rank", none), "_law_rank", "_law_rank", defArgs s_l_rank, defBody s_l_rank, defScope s_l_rank, [], []⟩
abbrev a_l_rank (K : PySem.W.Frag) : Addr := He.fAd K ("_law_rank", none)
abbrev s_l_widened : Stmt := top 38
abbrev n_l_widened : List Str := ["_law_web_here", "_law_lets", "_law_begins_here", "_law_bars_here", "_law_many", "_law_turn", "_law_grown", "_law_place", "_law_row_here", "_law_ends", "_law_worth", "_law_into", "_law_k"]
theorem sc_l_widened : FnScope n_l_widened ["_law_web_here", "_law_lets", "_law_begins_here", "_law_bars_here"] (defScope s_l_widened) := ⟨rfl, rfl, rfl, by decide +kernel, rfl, by decide +kernel, by decide +kernel⟩
def d_l_widened : He.DefD := ⟨("_law_widened", none), "_law_widened", "_law_widened", defArgs s_l_widened, defBody s_l_widened, defScope s_l_widened, [], []⟩
abbrev a_l_widened (K : PySem.W.Frag) : Addr := He.fAd K ("_law_widened", none)
abbrev s_l_begins : Stmt := top 39
abbrev n_l_begins : List Str := ["_law_tape_here", "_law_web_here", "_law_total", "_law_style", "_law_k"]
theorem sc_l_begins : FnScope n_l_begins ["_law_tape_here", "_law_web_here"] (defScope s_l_begins) := ⟨rfl, rfl, rfl, by decide +kernel, rfl, by decide +kernel, by decide +kernel⟩
def d_l_begins : He.DefD := ⟨("_law_begins", none), "_law_begins", "_law_begins", defArgs s_l_begins, defBody s_l_begins, defScope s_l_begins, [], []⟩
abbrev a_l_begins (K : PySem.W.Frag) : Addr := He.fAd K ("_law_begins", none)
abbrev s_l_bars : Stmt := top 40
abbrev n_l_bars : List Str := ["_law_tape_here", "_law_free", "_law_bars_here", "_law_worth", "_law_way"]
theorem sc_l_bars : FnScope n_l_bars ["_law_tape_here", "_law_free"] (defScope s_l_bars) := ⟨rfl, rfl, rfl, by decide +kernel, rfl, by decide +kernel, by decide +kernel⟩
def d_l_bars : He.DefD := ⟨("_law_bars", none), "_law_bars", "_law_bars", defArgs s_l_bars, defBody s_l_bars, defScope s_l_bars, [], []⟩
abbrev a_l_bars (K : PySem.W.Frag) : Addr := He.fAd K ("_law_bars", none)
abbrev s_l_refused : Stmt := top 41
abbrev n_l_refused : List Str := ["_law_web_here", "_law_lets", "_law_begins_here", "_law_bars_here", "e"]
theorem sc_l_refused : FnScope n_l_refused ["_law_web_here", "_law_lets", "_law_begins_here", "_law_bars_here"] (defScope s_l_refused) := ⟨rfl, rfl, rfl, by decide +kernel, rfl, by decide +kernel, by decide +kernel⟩
def d_l_refused : He.DefD := ⟨("_law_refused", none), "_law_refused", "_law_refused", defArgs s_l_refused, defBody s_l_refused, defScope s_l_refused, [], []⟩
abbrev a_l_refused (K : PySem.W.Frag) : Addr := He.fAd K ("_law_refused", none)
abbrev s_l_no_rank : Stmt := top 42
abbrev n_l_no_rank : List Str := ["_law_web_here", "_law_spot", "_law_place", "_law_told", "e"]
theorem sc_l_no_rank : FnScope n_l_no_rank ["_law_web_here", "_law_spot", "_law_place"] (defScope s_l_no_rank) := ⟨rfl, rfl, rfl, by decide +kernel, rfl, by decide +kernel, by decide +kernel⟩
def d_l_no_rank : He.DefD := ⟨("_law_no_rank", none), "_law_no_rank", "_law_no_rank", defArgs s_l_no_rank, defBody s_l_no_rank, defScope s_l_no_rank, [], []⟩
abbrev a_l_no_rank (K : PySem.W.Frag) : Addr := He.fAd K ("_law_no_rank", none)
abbrev s_l_spoilt : Stmt := top 43
abbrev n_l_spoilt : List Str := ["_law_row_here", "_law_place", "_law_bad", "_law_way"]
theorem sc_l_spoilt : FnScope n_l_spoilt ["_law_row_here", "_law_place", "_law_bad", "_law_way"] (defScope s_l_spoilt) := ⟨rfl, rfl, rfl, by decide +kernel, rfl, by decide +kernel, by decide +kernel⟩
def d_l_spoilt : He.DefD := ⟨("_law_spoilt", none), "_law_spoilt", "_law_spoilt", defArgs s_l_spoilt, defBody s_l_spoilt, defScope s_l_spoilt, [], []⟩
abbrev a_l_spoilt (K : PySem.W.Frag) : Addr := He.fAd K ("_law_spoilt", none)
abbrev s_l_refusals : Stmt := top 44
abbrev n_l_refusals : List Str := ["_law_tape_here", "_law_web_here", "_law_lets", "_law_begins_here", "_law_bars_here", "_law_switches", "_law_place", "_law_way", "_law_odd", "_law_high", "_law_deep", "_law_no_start", "_law_no_bar", "_law_doubled", "_law_no_lets", "_law_spot"]
theorem sc_l_refusals : FnScope n_l_refusals ["_law_tape_here", "_law_web_here", "_law_lets", "_law_begins_here", "_law_bars_here"] (defScope s_l_refusals) := ⟨rfl, rfl, rfl, by decide +kernel, rfl, by decide +kernel, by decide +kernel⟩
def d_l_refusals : He.DefD := ⟨("_law_refusals", none), "_law_refusals", "_law_refusals", defArgs s_l_refusals, defBody s_l_refusals, defScope s_l_refusals, [], []⟩
abbrev a_l_refusals (K : PySem.W.Frag) : Addr := He.fAd K ("_law_refusals", none)
abbrev s_law : Stmt := top 45
abbrev n_law : List Str := ["_law_script", "_law_tape_here", "_law_web_here", "_law_total", "_law_spot", "_law_due", "_law_place", "_law_asked", "_law_turn", "_law_lets", "_law_begins_here", "_law_bars_here", "_law_told", "_law_one", "_law_k"]
theorem sc_law : FnScope n_law ["_law_script"] (defScope s_law) := ⟨rfl, rfl, rfl, by decide +kernel, rfl, by decide +kernel, by decide +kernel⟩
def d_law : He.DefD := ⟨("law", none), "law", "law", defArgs s_law, defBody s_law, defScope s_law, [], []⟩
abbrev a_law (K : PySem.W.Frag) : Addr := He.fAd K ("law", none)
structure Txt (K : PySem.W.Frag) (mg : Str → Option Value) where
  c_OhmError : mg "OhmError" = some (.ref (He.ga K "OhmError"))
  c_UseError : mg "UseError" = some (.ref (He.ga K "UseError"))
  c_NetError : mg "NetError" = some (.ref (He.ga K "NetError"))
  c_TextError : mg "TextError" = some (.ref (He.ga K "TextError"))
  c_LiveError : mg "LiveError" = some (.ref (He.ga K "LiveError"))
  c_NotUsable : mg "NotUsable" = some (.ref (He.ga K "NotUsable"))
  m_ValueError : mg "ValueError" = none
  m_abs : mg "abs" = none
  m_all : mg "all" = none
  m_bool : mg "bool" = none
  m_enumerate : mg "enumerate" = none
  m_int : mg "int" = none
  m_isinstance : mg "isinstance" = none
  m_len : mg "len" = none
  m_list : mg "list" = none
  m_max : mg "max" = none
  m_min : mg "min" = none
  m_range : mg "range" = none
  m_str : mg "str" = none
  m_tuple : mg "tuple" = none
  m_zip : mg "zip" = none
  t_RANK_OF_FEEDS : Tok
  v_RANK_OF_FEEDS : mg "RANK_OF_FEEDS" = some (.int 11 t_RANK_OF_FEEDS)
  t_RANK_BELOW_SWITCHES : Tok
  v_RANK_BELOW_SWITCHES : mg "RANK_BELOW_SWITCHES" = some (.int 4 t_RANK_BELOW_SWITCHES)
  t_GREATEST_FLOOR : Tok
  v_GREATEST_FLOOR : mg "GREATEST_FLOOR" = some (.int 12 t_GREATEST_FLOOR)
  fd_NotUsable_init : FuncData
  F_NotUsable_init : FT K "__init__" "NotUsable.__init__" (defArgs s_NotUsable_init) (defBody s_NotUsable_init) (defScope s_NotUsable_init) (a_NotUsable_init K) (He.codeOf K ("NotUsable", some "__init__")) fd_NotUsable_init
  fd_require : FuncData
  F_require : FT K "require" "require" (defArgs s_require) (defBody s_require) (defScope s_require) (a_require K) (He.codeOf K ("require", none)) fd_require
  g_require : mg "require" = some (.ref (a_require K))
  fd_is_integer : FuncData
  F_is_integer : FT K "is_integer" "is_integer" (defArgs s_is_integer) (defBody s_is_integer) (defScope s_is_integer) (a_is_integer K) (He.codeOf K ("is_integer", none)) fd_is_integer
  g_is_integer : mg "is_integer" = some (.ref (a_is_integer K))
  fd_is_number : FuncData
  F_is_number : FT K "is_number" "is_number" (defArgs s_is_number) (defBody s_is_number) (defScope s_is_number) (a_is_number K) (He.codeOf K ("is_number", none)) fd_is_number
  g_is_number : mg "is_number" = some (.ref (a_is_number K))
  fd_is_between : FuncData
  F_is_between : FT K "is_between" "is_between" (defArgs s_is_between) (defBody s_is_between) (defScope s_is_between) (a_is_between K) (He.codeOf K ("is_between", none)) fd_is_between
  g_is_between : mg "is_between" = some (.ref (a_is_between K))
  fd_is_lot : FuncData
  F_is_lot : FT K "is_lot" "is_lot" (defArgs s_is_lot) (defBody s_is_lot) (defScope s_is_lot) (a_is_lot K) (He.codeOf K ("is_lot", none)) fd_is_lot
  g_is_lot : mg "is_lot" = some (.ref (a_is_lot K))
  fd_count_of_nodes : FuncData
  F_count_of_nodes : FT K "count_of_nodes" "count_of_nodes" (defArgs s_count_of_nodes) (defBody s_count_of_nodes) (defScope s_count_of_nodes) (a_count_of_nodes K) (He.codeOf K ("count_of_nodes", none)) fd_count_of_nodes
  g_count_of_nodes : mg "count_of_nodes" = some (.ref (a_count_of_nodes K))
  fd_is_node : FuncData
  F_is_node : FT K "is_node" "is_node" (defArgs s_is_node) (defBody s_is_node) (defScope s_is_node) (a_is_node K) (He.codeOf K ("is_node", none)) fd_is_node
  g_is_node : mg "is_node" = some (.ref (a_is_node K))
  fd_is_switch_of : FuncData
  F_is_switch_of : FT K "is_switch_of" "is_switch_of" (defArgs s_is_switch_of) (defBody s_is_switch_of) (defScope s_is_switch_of) (a_is_switch_of K) (He.codeOf K ("is_switch_of", none)) fd_is_switch_of
  g_is_switch_of : mg "is_switch_of" = some (.ref (a_is_switch_of K))
  fd_rank_of : FuncData
  F_rank_of : FT K "rank_of" "rank_of" (defArgs s_rank_of) (defBody s_rank_of) (defScope s_rank_of) (a_rank_of K) (He.codeOf K ("rank_of", none)) fd_rank_of
  g_rank_of : mg "rank_of" = some (.ref (a_rank_of K))
  fd_rank_of_strength : FuncData
  F_rank_of_strength : FT K "rank_of_strength" "rank_of_strength" (defArgs s_rank_of_strength) (defBody s_rank_of_strength) (defScope s_rank_of_strength) (a_rank_of_strength K) (He.codeOf K ("rank_of_strength", none)) fd_rank_of_strength
  g_rank_of_strength : mg "rank_of_strength" = some (.ref (a_rank_of_strength K))
  fd_switch_rank : FuncData
  F_switch_rank : FT K "switch_rank" "switch_rank" (defArgs s_switch_rank) (defBody s_switch_rank) (defScope s_switch_rank) (a_switch_rank K) (He.codeOf K ("switch_rank", none)) fd_switch_rank
  g_switch_rank : mg "switch_rank" = some (.ref (a_switch_rank K))
  fd_flood : FuncData
  F_flood : FT K "flood" "flood" (defArgs s_flood) (defBody s_flood) (defScope s_flood) (a_flood K) (He.codeOf K ("flood", none)) fd_flood
  g_flood : mg "flood" = some (.ref (a_flood K))
  fd_are_numbers : FuncData
  F_are_numbers : FT K "are_numbers" "are_numbers" (defArgs s_are_numbers) (defBody s_are_numbers) (defScope s_are_numbers) (a_are_numbers K) (He.codeOf K ("are_numbers", none)) fd_are_numbers
  g_are_numbers : mg "are_numbers" = some (.ref (a_are_numbers K))
  fd_flooded : FuncData
  F_flooded : FT K "flooded" "flooded" (defArgs s_flooded) (defBody s_flooded) (defScope s_flooded) (a_flooded K) (He.codeOf K ("flooded", none)) fd_flooded
  g_flooded : mg "flooded" = some (.ref (a_flooded K))
  fd_ways_over : FuncData
  F_ways_over : FT K "ways_over" "ways_over" (defArgs s_ways_over) (defBody s_ways_over) (defScope s_ways_over) (a_ways_over K) (He.codeOf K ("ways_over", none)) fd_ways_over
  g_ways_over : mg "ways_over" = some (.ref (a_ways_over K))
  fd_l_tape : FuncData
  F_l_tape : FT K "_law_tape" "_law_tape" (defArgs s_l_tape) (defBody s_l_tape) (defScope s_l_tape) (a_l_tape K) (He.codeOf K ("_law_tape", none)) fd_l_tape
  g_l_tape : mg "_law_tape" = some (.ref (a_l_tape K))
  fd_l_pick : FuncData
  F_l_pick : FT K "_law_pick" "_law_pick" (defArgs s_l_pick) (defBody s_l_pick) (defScope s_l_pick) (a_l_pick K) (He.codeOf K ("_law_pick", none)) fd_l_pick
  g_l_pick : mg "_law_pick" = some (.ref (a_l_pick K))
  fd_l_same : FuncData
  F_l_same : FT K "_law_same" "_law_same" (defArgs s_l_same) (defBody s_l_same) (defScope s_l_same) (a_l_same K) (He.codeOf K ("_law_same", none)) fd_l_same
  g_l_same : mg "_law_same" = some (.ref (a_l_same K))
  fd_l_name : FuncData
  F_l_name : FT K "_law_name" "_law_name" (defArgs s_l_name) (defBody s_l_name) (defScope s_l_name) (a_l_name K) (He.codeOf K ("_law_name", none)) fd_l_name
  g_l_name : mg "_law_name" = some (.ref (a_l_name K))
  fd_l_row : FuncData
  F_l_row : FT K "_law_row" "_law_row" (defArgs s_l_row) (defBody s_l_row) (defScope s_l_row) (a_l_row K) (He.codeOf K ("_law_row", none)) fd_l_row
  g_l_row : mg "_law_row" = some (.ref (a_l_row K))
  fd_l_web : FuncData
  F_l_web : FT K "_law_web" "_law_web" (defArgs s_l_web) (defBody s_l_web) (defScope s_l_web) (a_l_web K) (He.codeOf K ("_law_web", none)) fd_l_web
  g_l_web : mg "_law_web" = some (.ref (a_l_web K))
  fd_l_rank : FuncData
  F_l_rank : FT K "_law_rank" "_law_rank" (defArgs s_l_rank) (defBody s_l_rank) (defScope s_l_rank) (a_l_rank K) (He.codeOf K ("_law_rank", none)) fd_l_rank
  g_l_rank : mg "_law_rank" = some (.ref (a_l_rank K))
  fd_l_widened : FuncData
  F_l_widened : FT K "_law_widened" "_law_widened" (defArgs s_l_widened) (defBody s_l_widened) (defScope s_l_widened) (a_l_widened K) (He.codeOf K ("_law_widened", none)) fd_l_widened
  g_l_widened : mg "_law_widened" = some (.ref (a_l_widened K))
  fd_l_begins : FuncData
  F_l_begins : FT K "_law_begins" "_law_begins" (defArgs s_l_begins) (defBody s_l_begins) (defScope s_l_begins) (a_l_begins K) (He.codeOf K ("_law_begins", none)) fd_l_begins
  g_l_begins : mg "_law_begins" = some (.ref (a_l_begins K))
  fd_l_bars : FuncData
  F_l_bars : FT K "_law_bars" "_law_bars" (defArgs s_l_bars) (defBody s_l_bars) (defScope s_l_bars) (a_l_bars K) (He.codeOf K ("_law_bars", none)) fd_l_bars
  g_l_bars : mg "_law_bars" = some (.ref (a_l_bars K))
  fd_l_refused : FuncData
  F_l_refused : FT K "_law_refused" "_law_refused" (defArgs s_l_refused) (defBody s_l_refused) (defScope s_l_refused) (a_l_refused K) (He.codeOf K ("_law_refused", none)) fd_l_refused
  g_l_refused : mg "_law_refused" = some (.ref (a_l_refused K))
  fd_l_no_rank : FuncData
  F_l_no_rank : FT K "_law_no_rank" "_law_no_rank" (defArgs s_l_no_rank) (defBody s_l_no_rank) (defScope s_l_no_rank) (a_l_no_rank K) (He.codeOf K ("_law_no_rank", none)) fd_l_no_rank
  g_l_no_rank : mg "_law_no_rank" = some (.ref (a_l_no_rank K))
  fd_l_spoilt : FuncData
  F_l_spoilt : FT K "_law_spoilt" "_law_spoilt" (defArgs s_l_spoilt) (defBody s_l_spoilt) (defScope s_l_spoilt) (a_l_spoilt K) (He.codeOf K ("_law_spoilt", none)) fd_l_spoilt
  g_l_spoilt : mg "_law_spoilt" = some (.ref (a_l_spoilt K))
  fd_l_refusals : FuncData
  F_l_refusals : FT K "_law_refusals" "_law_refusals" (defArgs s_l_refusals) (defBody s_l_refusals) (defScope s_l_refusals) (a_l_refusals K) (He.codeOf K ("_law_refusals", none)) fd_l_refusals
  g_l_refusals : mg "_law_refusals" = some (.ref (a_l_refusals K))
  fd_law : FuncData
  F_law : FT K "law" "law" (defArgs s_law) (defBody s_law) (defScope s_law) (a_law K) (He.codeOf K ("law", none)) fd_law
  g_law : mg "law" = some (.ref (a_law K))
  x_NotUsable : ExF K (He.ga K "NotUsable") (a_NotUsable_init K)
  stN : PySem.W.nsIn K cStatics "sys.int_max_str_digits" = some none
  f_NotUsable_word : PySem.W.findIn K (.ref (He.ga K "NotUsable")) "word" = some none
  f_NotUsable_at : PySem.W.findIn K (.ref (He.ga K "NotUsable")) "at" = some none
  k_NotUsable_NotUsable : PySem.W.kitOne K (.ref (He.ga K "NotUsable")) (.ref (He.ga K "NotUsable")) = some true
  e_NotUsable_OhmError : PySem.W.exmOne K (.ref (He.ga K "NotUsable")) (.ref (He.ga K "OhmError")) = some true
  e_NotUsable_UseError : PySem.W.exmOne K (.ref (He.ga K "NotUsable")) (.ref (He.ga K "UseError")) = some true
  k_NotUsable_ValueError : PySem.W.kitOne K (.ref (He.ga K "NotUsable")) (.type "ValueError") = some true
  k_NotUsable_OhmError : PySem.W.kitOne K (.ref (He.ga K "NotUsable")) (.ref (He.ga K "OhmError")) = some true
  k_NotUsable_UseError : PySem.W.kitOne K (.ref (He.ga K "NotUsable")) (.ref (He.ga K "UseError")) = some true
  ka_NotUsable_NetError_TextError_LiveError : PySem.W.kitAny K (.ref (He.ga K "NotUsable")) [.ref (He.ga K "NetError"), .ref (He.ga K "TextError"), .ref (He.ga K "LiveError")] = some false
  e_NotUsable_NotUsable : PySem.W.exmOne K (.ref (He.ga K "NotUsable")) (.ref (He.ga K "NotUsable")) = some true
structure Tabs (K : PySem.W.Frag) (mg : Str → Option Value) (base : Heap) : Prop where
  tb_is_lot : GxR.TabB base mg (He.codeOf K ("is_lot", none)) (He.tabOf K (He.codeOf K ("is_lot", none)))
  tb_flood : GxR.TabB base mg (He.codeOf K ("flood", none)) (He.tabOf K (He.codeOf K ("flood", none)))
  tb_are_numbers : GxR.TabB base mg (He.codeOf K ("are_numbers", none)) (He.tabOf K (He.codeOf K ("are_numbers", none)))
abbrev p_is_lot (K : PySem.W.Frag) : Addr := He.tabOf K (He.codeOf K ("is_lot", none))
abbrev p_flood (K : PySem.W.Frag) : Addr := He.tabOf K (He.codeOf K ("flood", none))
abbrev p_are_numbers (K : PySem.W.Frag) : Addr := He.tabOf K (He.codeOf K ("are_numbers", none))
abbrev ts (K : PySem.W.Frag) : List Addr := [p_is_lot K, p_flood K, p_are_numbers K]
section
variable {K : PySem.W.Frag} {mg : Str → Option Value}
theorem b_require (T : Txt K mg) : Binds K T.fd_require ["fits", "word"] [] := T.F_require.binds fun _ _ _ _ _ _ us hl => match us, hl with | [_, _], _ => rfl
theorem b_is_integer (T : Txt K mg) : Binds K T.fd_is_integer ["thing"] [] := T.F_is_integer.binds fun _ _ _ _ _ _ us hl => match us, hl with | [_], _ => rfl
theorem b_is_number (T : Txt K mg) : Binds K T.fd_is_number ["thing"] [] := T.F_is_number.binds fun _ _ _ _ _ _ us hl => match us, hl with | [_], _ => rfl
theorem b_is_between (T : Txt K mg) : Binds K T.fd_is_between ["thing", "least", "most"] [] := T.F_is_between.binds fun _ _ _ _ _ _ us hl => match us, hl with | [_, _, _], _ => rfl
theorem b_is_lot (T : Txt K mg) : Binds K T.fd_is_lot ["thing"] [] := T.F_is_lot.binds fun _ _ _ _ _ _ us hl => match us, hl with | [_], _ => rfl
theorem b_count_of_nodes (T : Txt K mg) : Binds K T.fd_count_of_nodes ["net"] [] := T.F_count_of_nodes.binds fun _ _ _ _ _ _ us hl => match us, hl with | [_], _ => rfl
theorem b_is_node (T : Txt K mg) : Binds K T.fd_is_node ["net", "thing"] [] := T.F_is_node.binds fun _ _ _ _ _ _ us hl => match us, hl with | [_, _], _ => rfl
theorem b_is_switch_of (T : Txt K mg) : Binds K T.fd_is_switch_of ["net", "thing"] [] := T.F_is_switch_of.binds fun _ _ _ _ _ _ us hl => match us, hl with | [_, _], _ => rfl
theorem b_rank_of (T : Txt K mg) : Binds K T.fd_rank_of ["net", "node"] [] := T.F_rank_of.binds fun _ _ _ _ _ _ us hl => match us, hl with | [_, _], _ => rfl
theorem b_rank_of_strength (T : Txt K mg) : Binds K T.fd_rank_of_strength ["strength"] [] := T.F_rank_of_strength.binds fun _ _ _ _ _ _ us hl => match us, hl with | [_], _ => rfl
theorem b_switch_rank (T : Txt K mg) : Binds K T.fd_switch_rank ["net", "switch"] [] := T.F_switch_rank.binds fun _ _ _ _ _ _ us hl => match us, hl with | [_, _], _ => rfl
theorem b_flood (T : Txt K mg) : Binds K T.fd_flood ["net", "usable", "starts", "floors"] [] := T.F_flood.binds fun _ _ _ _ _ _ us hl => match us, hl with | [_, _, _, _], _ => rfl
theorem b_are_numbers (T : Txt K mg) : Binds K T.fd_are_numbers ["net", "thing", "most"] [] := T.F_are_numbers.binds fun _ _ _ _ _ _ us hl => match us, hl with | [_, _, _], _ => rfl
theorem b_flooded (T : Txt K mg) : Binds K T.fd_flooded ["net", "usable", "starts", "floors"] [] := T.F_flooded.binds fun _ _ _ _ _ _ us hl => match us, hl with | [_, _, _, _], _ => rfl
theorem b_ways_over (T : Txt K mg) : Binds K T.fd_ways_over ["net", "usable"] [] := T.F_ways_over.binds fun _ _ _ _ _ _ us hl => match us, hl with | [_, _], _ => rfl
theorem b_l_tape (T : Txt K mg) : Binds K T.fd_l_tape ["_law_script"] [] := T.F_l_tape.binds fun _ _ _ _ _ _ us hl => match us, hl with | [_], _ => rfl
theorem b_l_pick (T : Txt K mg) : Binds K T.fd_l_pick ["_law_tape_here", "_law_many"] [] := T.F_l_pick.binds fun _ _ _ _ _ _ us hl => match us, hl with | [_, _], _ => rfl
theorem b_l_same (T : Txt K mg) : Binds K T.fd_l_same ["_law_one", "_law_other"] [] := T.F_l_same.binds fun _ _ _ _ _ _ us hl => match us, hl with | [_, _], _ => rfl
theorem b_l_name (T : Txt K mg) : Binds K T.fd_l_name ["_law_style", "_law_place"] [] := T.F_l_name.binds fun _ _ _ _ _ _ us hl => match us, hl with | [_, _], _ => rfl
theorem b_l_row (T : Txt K mg) : Binds K T.fd_l_row ["_law_tape_here", "_law_left", "_law_right", "_law_total"] [] := T.F_l_row.binds fun _ _ _ _ _ _ us hl => match us, hl with | [_, _, _, _], _ => rfl
theorem b_l_web (T : Txt K mg) : Binds K T.fd_l_web ["_law_tape_here"] [] := T.F_l_web.binds fun _ _ _ _ _ _ us hl => match us, hl with | [_], _ => rfl
theorem b_l_rank (T : Txt K mg) : Binds K T.fd_l_rank ["_law_web_here", "_law_spot"] [] := T.F_l_rank.binds fun _ _ _ _ _ _ us hl => match us, hl with | [_, _], _ => rfl
theorem b_l_widened (T : Txt K mg) : Binds K T.fd_l_widened ["_law_web_here", "_law_lets", "_law_begins_here", "_law_bars_here"] [] := T.F_l_widened.binds fun _ _ _ _ _ _ us hl => match us, hl with | [_, _, _, _], _ => rfl
theorem b_l_begins (T : Txt K mg) : Binds K T.fd_l_begins ["_law_tape_here", "_law_web_here"] [] := T.F_l_begins.binds fun _ _ _ _ _ _ us hl => match us, hl with | [_, _], _ => rfl
theorem b_l_bars (T : Txt K mg) : Binds K T.fd_l_bars ["_law_tape_here", "_law_free"] [] := T.F_l_bars.binds fun _ _ _ _ _ _ us hl => match us, hl with | [_, _], _ => rfl
theorem b_l_refused (T : Txt K mg) : Binds K T.fd_l_refused ["_law_web_here", "_law_lets", "_law_begins_here", "_law_bars_here"] [] := T.F_l_refused.binds fun _ _ _ _ _ _ us hl => match us, hl with | [_, _, _, _], _ => rfl
theorem b_l_no_rank (T : Txt K mg) : Binds K T.fd_l_no_rank ["_law_web_here", "_law_spot", "_law_place"] [] := T.F_l_no_rank.binds fun _ _ _ _ _ _ us hl => match us, hl with | [_, _, _], _ => rfl
theorem b_l_spoilt (T : Txt K mg) : Binds K T.fd_l_spoilt ["_law_row_here", "_law_place", "_law_bad", "_law_way"] [] := T.F_l_spoilt.binds fun _ _ _ _ _ _ us hl => match us, hl with | [_, _, _, _], _ => rfl
theorem b_l_refusals (T : Txt K mg) : Binds K T.fd_l_refusals ["_law_tape_here", "_law_web_here", "_law_lets", "_law_begins_here", "_law_bars_here"] [] := T.F_l_refusals.binds fun _ _ _ _ _ _ us hl => match us, hl with | [_, _, _, _, _], _ => rfl
theorem b_law (T : Txt K mg) : Binds K T.fd_law ["_law_script"] [] := T.F_law.binds fun _ _ _ _ _ _ us hl => match us, hl with | [_], _ => rfl
theorem b_NotUsable_init (T : Txt K mg) : Binds K T.fd_NotUsable_init ["self", "word", "at"] [] := T.F_NotUsable_init.binds fun _ _ _ _ _ _ us hl => match us, hl with | [_, _, _], _ => rfl
theorem kb_flood_floors_starts_usable_net (T : Txt K mg) : KBinds K T.fd_flood ["net", "usable", "starts", "floors"] ["floors", "starts", "usable", "net"] (gp [3, 2, 1, 0]) (gp [3, 2, 1, 0]) := kp4r T.F_flood fun _ _ _ _ _ _ _ _ _ _ => rfl
theorem kb_rank_of_node_net (T : Txt K mg) : KBinds K T.fd_rank_of ["net", "node"] ["node", "net"] (gp [1, 0]) (gp [1, 0]) := kp2r T.F_rank_of fun _ _ _ _ _ _ _ _ => rfl
theorem kb_switch_rank_switch_net (T : Txt K mg) : KBinds K T.fd_switch_rank ["net", "switch"] ["switch", "net"] (gp [1, 0]) (gp [1, 0]) := kp2r T.F_switch_rank fun _ _ _ _ _ _ _ _ => rfl
end
end K29

set_option Elab.async false
set_option linter.all false
set_option maxRecDepth 100000
set_option maxHeartbeats 4000000
namespace K29
open PySem PySem.Spec PyProof.Rows L2 L2H XT GX RD SX
section
variable {P : Program} {w : World} {K : PySem.W.Frag} {mg : Str → Option Value} {base : Heap}
theorem ok_NotUsable_init (T : Txt K mg) : FnOk P w K mg base (L2.CX P w) 1 (a_NotUsable_init K) T.fd_NotUsable_init ["self", "word", "at"] (spInit2 (He.ga K "NotUsable") "word" "at") := by
  refine T.F_NotUsable_init.ok sc_NotUsable_init (fun vs H Q E h => ?_) (fun A outer s H vs Q E hr h => ⟨_, pss_cons (ps_ost (pv 0) (pv 1)) (pss_cons (ps_ost (pv 0) (pv 2)) pss_nil), ?_⟩)
  · obtain ⟨a, v1, v2, rfl, _⟩ := h; rfl
  · exact read_init2 T.x_NotUsable.oex T.f_NotUsable_word T.f_NotUsable_at h rfl
abbrev io_is_integer : List Bool := [false]
noncomputable def bd_is_integer : MS := (mRet (mAnd (mIsi "int" (mVar 0)) (mNot (mIsi "bool" (mVar 0)))))
noncomputable def m_is_integer : MF := runF 1 io_is_integer bd_is_integer
theorem ok_is_integer (T : Txt K mg) (B : Tabs K mg base) : FnOk P w K mg base (L2.CX P w) 1 (a_is_integer K) T.fd_is_integer ["thing"] (spF K (ts K) io_is_integer m_is_integer) :=
  fn_ok (n := 1) (io := io_is_integer) (m := bd_is_integer) (l := ts K) T.F_is_integer sc_is_integer rfl rfl fun A outer s H E hr =>
    (sb_one (s1_ret (se_and (se_isi (b := "int") (by decide) (by rfl) T.m_isinstance (se_var (pv 0)) (pe_bltn (v := .ty "int") (by rfl) T.m_int (by decide +kernel) rfl)) (se_one (se_not (se_isi (b := "bool") (by decide) (by rfl) T.m_isinstance (se_var (pv 0)) (pe_bltn (v := .ty "bool") (by rfl) T.m_bool (by decide +kernel) rfl)))))))
abbrev io_count_of_nodes : List Bool := [false]
noncomputable def bd_count_of_nodes : MS := (mRet (mBin addD (mFn lenD (mCons (mBin idxD (mVar 0) (mC (.int 0))) mNil)) (mFn lenD (mCons (mBin idxD (mVar 0) (mC (.int 1))) mNil))))
noncomputable def m_count_of_nodes : MF := runF 1 io_count_of_nodes bd_count_of_nodes
theorem ok_count_of_nodes (T : Txt K mg) (B : Tabs K mg base) : FnOk P w K mg base (L2.CX P w) 1 (a_count_of_nodes K) T.fd_count_of_nodes ["net"] (spF K (ts K) io_count_of_nodes m_count_of_nodes) :=
  fn_ok (n := 1) (io := io_count_of_nodes) (m := bd_count_of_nodes) (l := ts K) T.F_count_of_nodes sc_count_of_nodes rfl rfl fun A outer s H E hr =>
    (sb_one (s1_ret (se_bin ops_add (se_callB fns_len (by rfl) T.m_len (by decide +kernel) (sa_cons (se_ix (se_var (pv 0)) se_int) sa_nil)) (se_callB fns_len (by rfl) T.m_len (by decide +kernel) (sa_cons (se_ix (se_var (pv 0)) se_int) sa_nil)))))
abbrev io_rank_of_strength : List Bool := [false]
noncomputable def bd_rank_of_strength : MS := (mRet (mBin addD (mC (.int 4)) (mVar 0)))
noncomputable def m_rank_of_strength : MF := runF 1 io_rank_of_strength bd_rank_of_strength
theorem ok_rank_of_strength (T : Txt K mg) (B : Tabs K mg base) : FnOk P w K mg base (L2.CX P w) 1 (a_rank_of_strength K) T.fd_rank_of_strength ["strength"] (spF K (ts K) io_rank_of_strength m_rank_of_strength) :=
  fn_ok (n := 1) (io := io_rank_of_strength) (m := bd_rank_of_strength) (l := ts K) T.F_rank_of_strength sc_rank_of_strength rfl rfl fun A outer s H E hr =>
    (sb_one (s1_ret (se_bin ops_add (se_c (d := (.int 4)) (pe_glob (v := (.int 4)) (by rfl) T.v_RANK_BELOW_SWITCHES ⟨_, rfl⟩) fun _ _ => rfl) (se_var (pv 0)))))
abbrev io_l_tape : List Bool := [false]
noncomputable def bd_l_tape : MS := (mRet (mLst (mCons (mLc (mIC (mVar 0)) (gN 1) mYes (mFn intSD (mCons (mVar 1) mNil)) [1]) (mCons (mC (.int 0)) (mCons (mC (.int 0)) (mCons (mC (.int 29211)) mNil))))))
noncomputable def m_l_tape : MF := runF 2 io_l_tape bd_l_tape
theorem ok_l_tape (T : Txt K mg) (B : Tabs K mg base) : FnOk P w K mg base (L2.CX P w) 1 (a_l_tape K) T.fd_l_tape ["_law_script"] (spF K (ts K) io_l_tape m_l_tape) :=
  fn_ok (n := 2) (io := io_l_tape) (m := bd_l_tape) (l := ts K) T.F_l_tape sc_l_tape rfl rfl fun A outer s H E hr =>
    (sb_one (s1_ret (se_lst (sa_cons (se_lc (own := [("_law_cell", 1)]) rfl sc_l_tape.nd (si_scr (se_var (pv 0))) (blkOk_by (N := n_l_tape) (sc := defScope s_l_tape) (own := [("_law_cell", 1)]) (by decide +kernel)) (ix_name 1) (fun _ _ _ _ _ => (sg_name (i := 1) sc_l_tape.nd rfl (by first | exact Or.inl rfl | exact Or.inr rfl))) (fun _ _ _ _ _ => sf_nil) (fun _ _ _ _ _ => (se_callTy fns_intS (by rfl) T.m_int (by decide +kernel) (sa_cons (se_var (pv 1)) sa_nil)))) (sa_cons se_int (sa_cons se_int (sa_cons se_int sa_nil)))))))
abbrev io_l_pick : List Bool := [true, false]
noncomputable def bd_l_pick : MS := (mSeq (mIfS (mTest (mBin ltD (mBin idxD (mVar 0) (mC (.int 2))) (mVar 1)))
      (mSeq (mSet 2 (mC (.int 0)))
    (mSeq (mIfS (mTest (mBin ltD (mBin idxD (mVar 0) (mC (.int 1))) (mFn lenD (mCons (mBin idxD (mVar 0) (mC (.int 0))) mNil))))
      (mSeq (mSet 2 (mBin idxD (mBin idxD (mVar 0) (mC (.int 0))) (mBin idxD (mVar 0) (mC (.int 1)))))
    (mSetIx 0 (mBin addD (mBin idxD (mVar 0) (mC (.int 1))) (mC (.int 1))) (mC (.int 1))))
      mSkip)
    (mSeq (mSetIx 0 (mBin modD (mBin addD (mBin addD (mBin mulD (mBin idxD (mVar 0) (mC (.int 3))) (mC (.int 1442695040888963407))) (mBin mulD (mVar 2) (mC (.int 6364136223846793005)))) (mC (.int 1013904223))) (mC (.int 2305843009213693951))) (mC (.int 3)))
    (mSeq (mIfS (mTest (mBin ltD (mFn absD (mCons (mVar 2) mNil)) (mBin powD (mC (.int 10)) (mC (.int 18)))))
      (mRet (mBin modD (mFn intSD (mCons (mBin fdivD (mBin idxD (mVar 0) (mC (.int 3))) (mC (.int 1048576))) mNil)) (mVar 1)))
      mSkip)
    (mSetIx 0 (mFn absD (mCons (mVar 2) mNil)) (mC (.int 2)))))))
      mSkip)
    (mSeq (mSet 3 (mBin modD (mFn intSD (mCons (mBin idxD (mVar 0) (mC (.int 2))) mNil)) (mVar 1)))
    (mSeq (mSetIx 0 (mBin fdivD (mBin idxD (mVar 0) (mC (.int 2))) (mVar 1)) (mC (.int 2)))
    (mRet (mVar 3)))))
noncomputable def m_l_pick : MF := runF 4 io_l_pick bd_l_pick
theorem ok_l_pick (T : Txt K mg) (B : Tabs K mg base) : FnOk P w K mg base (L2.CX P w) 1 (a_l_pick K) T.fd_l_pick ["_law_tape_here", "_law_many"] (spF K (ts K) io_l_pick m_l_pick) :=
  fn_ok (n := 4) (io := io_l_pick) (m := bd_l_pick) (l := ts K) T.F_l_pick sc_l_pick rfl rfl fun A outer s H E hr =>
    (sb_cons (s1_if (st_cmp ops_lt (se_ix (se_var (pv 0)) se_int) (se_var (pv 1)) (nomark _))
      (sb_cons (s1_set (i := 2) sc_l_pick.nd rfl (by first | exact Or.inl rfl | exact Or.inr rfl) se_int)
    (sb_cons (s1_if (st_cmp ops_lt (se_ix (se_var (pv 0)) se_int) (se_callB fns_len (by rfl) T.m_len (by decide +kernel) (sa_cons (se_ix (se_var (pv 0)) se_int) sa_nil)) (nomark _))
      (sb_cons (s1_set (i := 2) sc_l_pick.nd rfl (by first | exact Or.inl rfl | exact Or.inr rfl) (se_ix (se_ix (se_var (pv 0)) se_int) (se_ix (se_var (pv 0)) se_int)))
    (sb_one (s1_setIx (i := 0) (pv 0) (se_bin ops_add (se_ix (se_var (pv 0)) se_int) se_int) se_int)))
      sb_nil)
    (sb_cons (s1_setIx (i := 0) (pv 0) (se_bin ops_mod (se_bin ops_add (se_bin ops_add (se_bin ops_mul (se_ix (se_var (pv 0)) se_int) se_int) (se_bin ops_mul (se_var (pv 2)) se_int)) se_int) se_int) se_int)
    (sb_cons (s1_if (st_cmp ops_lt (se_callB fns_abs (by rfl) T.m_abs (by decide +kernel) (sa_cons (se_var (pv 2)) sa_nil)) (se_bin ops_pow se_int se_int) (nomark _))
      (sb_one (s1_ret (se_bin ops_mod (se_callTy fns_intS (by rfl) T.m_int (by decide +kernel) (sa_cons (se_bin ops_fdiv (se_ix (se_var (pv 0)) se_int) se_int) sa_nil)) (se_var (pv 1)))))
      sb_nil)
    (sb_one (s1_setIx (i := 0) (pv 0) (se_callB fns_abs (by rfl) T.m_abs (by decide +kernel) (sa_cons (se_var (pv 2)) sa_nil)) se_int))))))
      sb_nil)
    (sb_cons (s1_set (i := 3) sc_l_pick.nd rfl (by first | exact Or.inl rfl | exact Or.inr rfl) (se_bin ops_mod (se_callTy fns_intS (by rfl) T.m_int (by decide +kernel) (sa_cons (se_ix (se_var (pv 0)) se_int) sa_nil)) (se_var (pv 1))))
    (sb_cons (s1_setIx (i := 0) (pv 0) (se_bin ops_fdiv (se_ix (se_var (pv 0)) se_int) (se_var (pv 1))) se_int)
    (sb_one (s1_ret (se_var (pv 3)))))))
abbrev io_l_name : List Bool := [false, false]
noncomputable def bd_l_name : MS := (mSeq (mIfS (mTest (mBin eqD (mVar 0) (mC (.int 0))))
      (mRet (mBin addD (mC (.str "n")) (mFn strWD (mCons (mVar 1) mNil))))
      mSkip)
    (mSeq (mIfS (mTest (mBin eqD (mVar 0) (mC (.int 1))))
      (mRet (mBin addD (mBin addD (mC (.str "q[")) (mFn strWD (mCons (mVar 1) mNil))) (mC (.str "]"))))
      mSkip)
    (mRet (mBin addD (mBin addD (mBin addD (mC (.str "a")) (mFn strWD (mCons (mVar 1) mNil))) (mC (.str ".b_"))) (mFn strWD (mCons (mBin fdivD (mVar 1) (mC (.int 2))) mNil))))))
noncomputable def m_l_name : MF := runF 2 io_l_name bd_l_name
theorem ok_l_name (T : Txt K mg) (B : Tabs K mg base) : FnOk P w K mg base (L2.CX P w) 1 (a_l_name K) T.fd_l_name ["_law_style", "_law_place"] (spF K (ts K) io_l_name m_l_name) :=
  fn_ok (n := 2) (io := io_l_name) (m := bd_l_name) (l := ts K) T.F_l_name sc_l_name rfl rfl fun A outer s H E hr =>
    (sb_cons (s1_if (st_cmp (ops_eq (hu_of hr)) (se_var (pv 0)) se_int (nomark _))
      (sb_one (s1_ret (se_bin ops_add se_str (se_callTy (fns_strW (hu_of hr) T.stN) (by rfl) T.m_str (by decide +kernel) (sa_cons (se_var (pv 1)) sa_nil)))))
      sb_nil)
    (sb_cons (s1_if (st_cmp (ops_eq (hu_of hr)) (se_var (pv 0)) se_int (nomark _))
      (sb_one (s1_ret (se_bin ops_add (se_bin ops_add se_str (se_callTy (fns_strW (hu_of hr) T.stN) (by rfl) T.m_str (by decide +kernel) (sa_cons (se_var (pv 1)) sa_nil))) se_str)))
      sb_nil)
    (sb_one (s1_ret (se_bin ops_add (se_bin ops_add (se_bin ops_add se_str (se_callTy (fns_strW (hu_of hr) T.stN) (by rfl) T.m_str (by decide +kernel) (sa_cons (se_var (pv 1)) sa_nil))) se_str) (se_callTy (fns_strW (hu_of hr) T.stN) (by rfl) T.m_str (by decide +kernel) (sa_cons (se_bin ops_fdiv (se_var (pv 1)) se_int) sa_nil)))))))
abbrev io_l_rank : List Bool := [false, false]
noncomputable def bd_l_rank : MS := (mSeq (mIfS (mTest (mBin ltD (mVar 1) (mFn lenD (mCons (mBin idxD (mVar 0) (mC (.int 0))) mNil))))
      (mRet (mC (.int 11)))
      mSkip)
    (mRet (mBin idxD (mBin idxD (mBin idxD (mVar 0) (mC (.int 1))) (mBin subD (mVar 1) (mFn lenD (mCons (mBin idxD (mVar 0) (mC (.int 0))) mNil)))) (mC (.int 1)))))
noncomputable def m_l_rank : MF := runF 2 io_l_rank bd_l_rank
theorem ok_l_rank (T : Txt K mg) (B : Tabs K mg base) : FnOk P w K mg base (L2.CX P w) 1 (a_l_rank K) T.fd_l_rank ["_law_web_here", "_law_spot"] (spF K (ts K) io_l_rank m_l_rank) :=
  fn_ok (n := 2) (io := io_l_rank) (m := bd_l_rank) (l := ts K) T.F_l_rank sc_l_rank rfl rfl fun A outer s H E hr =>
    (sb_cons (s1_if (st_cmp ops_lt (se_var (pv 1)) (se_callB fns_len (by rfl) T.m_len (by decide +kernel) (sa_cons (se_ix (se_var (pv 0)) se_int) sa_nil)) (nomark _))
      (sb_one (s1_ret se_int))
      sb_nil)
    (sb_one (s1_ret (se_ix (se_ix (se_ix (se_var (pv 0)) se_int) (se_bin ops_sub (se_var (pv 1)) (se_callB fns_len (by rfl) T.m_len (by decide +kernel) (sa_cons (se_ix (se_var (pv 0)) se_int) sa_nil)))) se_int))))
abbrev io_l_widened : List Bool := [false, false, false, false]
noncomputable def bd_l_widened : MS := (mSeq (mSet 4 (mLc (mIR1 (mCons (mFn lenD (mCons (mVar 2) mNil)) mNil)) (gN 12) mYes (mIf (mTest (mBin geD (mBin idxD (mVar 2) (mVar 12)) (mBin idxD (mVar 3) (mVar 12)))) (mBin idxD (mVar 2) (mVar 12)) (mC (.int 0))) [12]))
    (mSeq (mFor (mIR1 (mCons (mC (.int 300)) mNil)) (gN 5)
      (mSeq (mSet 6 (mC (.bl false)))
    (mSeq (mFor (mIT (mVar 1)) (gN 7)
      (mSeq (mSet 8 (mBin idxD (mBin idxD (mVar 0) (mC (.int 2))) (mVar 7)))
    (mFor (mIT (mTup (mCons (mTup (mCons (mC (.int 3)) (mCons (mC (.int 4)) mNil))) (mCons (mTup (mCons (mC (.int 4)) (mCons (mC (.int 3)) mNil))) mNil)))) (gN 9)
      (mSeq (mSet 10 (mFn min2D (mCons (mBin idxD (mVar 4) (mBin idxD (mVar 8) (mBin idxD (mVar 9) (mC (.int 0))))) (mCons (mBin addD (mC (.int 4)) (mBin idxD (mVar 8) (mC (.int 1)))) mNil))))
    (mSeq (mSet 11 (mBin idxD (mVar 8) (mBin idxD (mVar 9) (mC (.int 1)))))
    (mIfS (mAndT (mTest (mBin geD (mVar 11) (mFn lenD (mCons (mBin idxD (mVar 0) (mC (.int 0))) mNil)))) (mAndT (mTest (mBin gtD (mVar 10) (mBin idxD (mVar 4) (mVar 11)))) (mTest (mBin geD (mVar 10) (mBin idxD (mVar 3) (mVar 11))))))
      (mSeq (mSetIx 4 (mVar 10) (mVar 11))
    (mSet 6 (mC (.bl true))))
      mSkip))))))
    (mIfS (mNotT (mTru (mVar 6)))
      (fun Γ => .ok .bk Γ)
      mSkip))))
    (mRet (mFn tupD (mCons (mVar 4) mNil)))))
noncomputable def m_l_widened : MF := runF 13 io_l_widened bd_l_widened
theorem ok_l_widened (T : Txt K mg) (B : Tabs K mg base) : FnOk P w K mg base (L2.CX P w) 1 (a_l_widened K) T.fd_l_widened ["_law_web_here", "_law_lets", "_law_begins_here", "_law_bars_here"] (spF K (ts K) io_l_widened m_l_widened) :=
  fn_ok (n := 13) (io := io_l_widened) (m := bd_l_widened) (l := ts K) T.F_l_widened sc_l_widened rfl rfl fun A outer s H E hr =>
    (sb_cons (s1_setLc (i := 4) (own := [("_law_k", 12)]) rfl sc_l_widened.nd rfl rfl (sw_true rfl rfl rfl (by decide +kernel)) (si_range1 (by rfl) T.m_range (sa_cons (se_callB fns_len (by rfl) T.m_len (by decide +kernel) (sa_cons (se_var (pv 2)) sa_nil)) sa_nil)) (blkOk_by (N := n_l_widened) (sc := defScope s_l_widened) (own := [("_law_k", 12)]) (by decide +kernel)) (ix_name 12) (fun _ _ _ _ _ => (sg_name (i := 12) sc_l_widened.nd rfl (by first | exact Or.inl rfl | exact Or.inr rfl))) (fun _ _ _ _ _ => sf_nil) (fun _ _ _ _ _ => (se_if (st_cmp ops_ge (se_ix (se_var (pv 2)) (se_var (pv 12))) (se_ix (se_var (pv 3)) (se_var (pv 12))) (nomark _)) (se_ix (se_var (pv 2)) (se_var (pv 12))) se_int)))
    (sb_cons (s1_for (passes_of rfl) rfl (si_range1 (by rfl) T.m_range (sa_cons se_int sa_nil)) (sg_name (i := 5) sc_l_widened.nd rfl (by first | exact Or.inl rfl | exact Or.inr rfl))
      (sb_cons (s1_set (i := 6) sc_l_widened.nd rfl (by first | exact Or.inl rfl | exact Or.inr rfl) se_bl)
    (sb_cons (s1_for (passes_of rfl) rfl (si_tup (se_var (pv 1))) (sg_name (i := 7) sc_l_widened.nd rfl (by first | exact Or.inl rfl | exact Or.inr rfl))
      (sb_cons (s1_set (i := 8) sc_l_widened.nd rfl (by first | exact Or.inl rfl | exact Or.inr rfl) (se_ix (se_ix (se_var (pv 0)) se_int) (se_var (pv 7))))
    (sb_one (s1_for (passes_of rfl) rfl (si_tup (se_tup (sa_cons (se_tup (sa_cons se_int (sa_cons se_int sa_nil))) (sa_cons (se_tup (sa_cons se_int (sa_cons se_int sa_nil))) sa_nil)))) (sg_name (i := 9) sc_l_widened.nd rfl (by first | exact Or.inl rfl | exact Or.inr rfl))
      (sb_cons (s1_set (i := 10) sc_l_widened.nd rfl (by first | exact Or.inl rfl | exact Or.inr rfl) (se_callB (fns_min rfl) (by rfl) T.m_min (by decide +kernel) (sa_cons (se_ix (se_var (pv 4)) (se_ix (se_var (pv 8)) (se_ix (se_var (pv 9)) se_int))) (sa_cons (se_bin ops_add se_int (se_ix (se_var (pv 8)) se_int)) sa_nil))))
    (sb_cons (s1_set (i := 11) sc_l_widened.nd rfl (by first | exact Or.inl rfl | exact Or.inr rfl) (se_ix (se_var (pv 8)) (se_ix (se_var (pv 9)) se_int)))
    (sb_one (s1_if (SW.st (sw_and (st_cmp ops_ge (se_var (pv 11)) (se_callB fns_len (by rfl) T.m_len (by decide +kernel) (sa_cons (se_ix (se_var (pv 0)) se_int) sa_nil)) (nomark _)) (sw_and (st_cmp ops_gt (se_var (pv 10)) (se_ix (se_var (pv 4)) (se_var (pv 11))) (nomark _)) (sw_and1 (st_cmp ops_ge (se_var (pv 10)) (se_ix (se_var (pv 3)) (se_var (pv 11))) (nomark _))))))
      (sb_cons (s1_setIx (i := 4) (pv 4) (se_var (pv 10)) (se_var (pv 11)))
    (sb_one (s1_set (i := 6) sc_l_widened.nd rfl (by first | exact Or.inl rfl | exact Or.inr rfl) se_bl)))
      sb_nil))))))))
    (sb_one (s1_if (st_not (st_tru (se_var (pv 6))))
      (sb_one s1_break)
      sb_nil)))))
    (sb_one (s1_ret (se_callTy fns_tup (by rfl) T.m_tuple (by decide +kernel) (sa_cons (se_var (pv 4)) sa_nil))))))
abbrev io_l_spoilt : List Bool := [false, false, false, false]
noncomputable def bd_l_spoilt : MS := (mSeq (mIfS (mTest (mBin eqD (mVar 3) (mC (.int 0))))
      (mRet (mFn listD (mCons (mVar 0) mNil)))
      mSkip)
    (mSeq (mIfS (mTest (mBin eqD (mVar 3) (mC (.int 1))))
      (mRet (mSl (mVar 0) mONo (mOSo (mNeg (mC (.int 1))))))
      mSkip)
    (mSeq (mIfS (mTest (mBin eqD (mVar 3) (mC (.int 2))))
      (mRet (mBin addD (mVar 0) (mTup (mCons (mC (.int 0)) mNil))))
      mSkip)
    (mSeq (mIfS (mTest (mBin eqD (mVar 3) (mC (.int 3))))
      (mRet (mC .non))
      mSkip)
    (mRet (mBin addD (mBin addD (mSl (mVar 0) mONo (mOSo (mVar 1))) (mTup (mCons (mVar 2) mNil))) (mSl (mVar 0) (mOSo (mBin addD (mVar 1) (mC (.int 1)))) mONo)))))))
noncomputable def m_l_spoilt : MF := runF 4 io_l_spoilt bd_l_spoilt
theorem ok_l_spoilt (T : Txt K mg) (B : Tabs K mg base) : FnOk P w K mg base (L2.CX P w) 1 (a_l_spoilt K) T.fd_l_spoilt ["_law_row_here", "_law_place", "_law_bad", "_law_way"] (spF K (ts K) io_l_spoilt m_l_spoilt) :=
  fn_ok (n := 4) (io := io_l_spoilt) (m := bd_l_spoilt) (l := ts K) T.F_l_spoilt sc_l_spoilt rfl rfl fun A outer s H E hr =>
    (sb_cons (s1_if (st_cmp (ops_eq (hu_of hr)) (se_var (pv 3)) se_int (nomark _))
      (sb_one (s1_ret (se_callTy fns_list (by rfl) T.m_list (by decide +kernel) (sa_cons (se_var (pv 0)) sa_nil))))
      sb_nil)
    (sb_cons (s1_if (st_cmp (ops_eq (hu_of hr)) (se_var (pv 3)) se_int (nomark _))
      (sb_one (s1_ret (se_slice (se_var (pv 0)) so_none (so_some (se_neg se_int)))))
      sb_nil)
    (sb_cons (s1_if (st_cmp (ops_eq (hu_of hr)) (se_var (pv 3)) se_int (nomark _))
      (sb_one (s1_ret (se_bin ops_add (se_var (pv 0)) (se_tup (sa_cons se_int sa_nil)))))
      sb_nil)
    (sb_cons (s1_if (st_cmp (ops_eq (hu_of hr)) (se_var (pv 3)) se_int (nomark _))
      (sb_one (s1_ret se_non))
      sb_nil)
    (sb_one (s1_ret (se_bin ops_add (se_bin ops_add (se_slice (se_var (pv 0)) so_none (so_some (se_var (pv 1)))) (se_tup (sa_cons (se_var (pv 2)) sa_nil))) (se_slice (se_var (pv 0)) (so_some (se_bin ops_add (se_var (pv 1)) se_int)) so_none))))))))
abbrev io_is_number : List Bool := [false]
noncomputable def bd_is_number : MS := (mRet (mAnd (mCall io_is_integer m_is_integer (mCons (mVar 0) mNil)) (mBin geD (mVar 0) (mC (.int 0)))))
noncomputable def m_is_number : MF := runF 1 io_is_number bd_is_number
theorem ok_is_number (T : Txt K mg) (B : Tabs K mg base) : FnOk P w K mg base (L2.CX P w) 2 (a_is_number K) T.fd_is_number ["thing"] (spF K (ts K) io_is_number m_is_number) :=
  fn_ok (n := 1) (io := io_is_number) (m := bd_is_number) (l := ts K) T.F_is_number sc_is_number rfl rfl fun A outer s H E hr =>
    (sb_one (s1_ret (se_and (se_call (can (ok_is_integer T B) (hr.mono (by decide))) (takes_of rfl rfl rfl rfl) (by rfl) T.g_is_integer T.F_is_integer.kp (b_is_integer T) (sa_cons (se_var (pv 0)) sa_nil)) (se_one (se_cmp ops_ge (se_var (pv 0)) se_int (nomark _))))))
abbrev io_is_between : List Bool := [false, false, false]
noncomputable def bd_is_between : MS := (mRet (mAnd (mCall io_is_integer m_is_integer (mCons (mVar 0) mNil)) (mChain leD leD (mVar 1) (mVar 0) (mVar 2))))
noncomputable def m_is_between : MF := runF 3 io_is_between bd_is_between
theorem ok_is_between (T : Txt K mg) (B : Tabs K mg base) : FnOk P w K mg base (L2.CX P w) 2 (a_is_between K) T.fd_is_between ["thing", "least", "most"] (spF K (ts K) io_is_between m_is_between) :=
  fn_ok (n := 3) (io := io_is_between) (m := bd_is_between) (l := ts K) T.F_is_between sc_is_between rfl rfl fun A outer s H E hr =>
    (sb_one (s1_ret (se_and (se_call (can (ok_is_integer T B) (hr.mono (by decide))) (takes_of rfl rfl rfl rfl) (by rfl) T.g_is_integer T.F_is_integer.kp (b_is_integer T) (sa_cons (se_var (pv 0)) sa_nil)) (se_one (se_chain ops_le ops_le (se_var (pv 1)) (se_var (pv 0)) (se_var (pv 2)))))))
abbrev io_ways_over : List Bool := [false, false]
noncomputable def bd_ways_over : MS := (mSeq (mSet 2 (mFn lenD (mCons (mBin idxD (mVar 0) (mC (.int 0))) mNil)))
    (mSeq (mSetO 3 (mIR1 (mCons (mCall io_count_of_nodes m_count_of_nodes (mCons (mVar 0) mNil)) mNil)) (gN 9) mYes (mLst mNil) [9])
    (mSeq (mFor (mIT (mVar 1)) (gN 4)
      (mSeq (mAsg (gT 5 (gsC (gN 9) (gsC (gN 5) (gsC (gN 9) (gsC (gN 6) (gsC (gN 7) gsN)))))) (mBin idxD (mBin idxD (mVar 0) (mC (.int 2))) (mVar 4)))
    (mSeq (mSet 8 (mCall io_rank_of_strength m_rank_of_strength (mCons (mVar 5) mNil)))
    (mSeq (mIfS (mTest (mBin geD (mVar 7) (mVar 2)))
      (mAppO 3 (mVar 6) (mTup (mCons (mVar 4) (mCons (mVar 7) (mCons (mVar 8) mNil)))))
      mSkip)
    (mIfS (mTest (mBin geD (mVar 6) (mVar 2)))
      (mAppO 3 (mVar 7) (mTup (mCons (mVar 4) (mCons (mVar 6) (mCons (mVar 8) mNil)))))
      mSkip)))))
    (mRet (mVar 3)))))
noncomputable def m_ways_over : MF := runF 10 io_ways_over bd_ways_over
theorem ok_ways_over (T : Txt K mg) (B : Tabs K mg base) : FnOk P w K mg base (L2.CX P w) 2 (a_ways_over K) T.fd_ways_over ["net", "usable"] (spF K (ts K) io_ways_over m_ways_over) :=
  fn_ok (n := 10) (io := io_ways_over) (m := bd_ways_over) (l := ts K) T.F_ways_over sc_ways_over rfl rfl fun A outer s H E hr =>
    (sb_cons (s1_set (i := 2) sc_ways_over.nd rfl (by first | exact Or.inl rfl | exact Or.inr rfl) (se_callB fns_len (by rfl) T.m_len (by decide +kernel) (sa_cons (se_ix (se_var (pv 0)) se_int) sa_nil)))
    (sb_cons (s1_setLcO (i := 3) (own := [("_", 9)]) rfl sc_ways_over.nd rfl rfl (sw_true rfl rfl rfl (by decide +kernel)) (si_range1 (by rfl) T.m_range (sa_cons (se_call (can (ok_count_of_nodes T B) (hr.mono (by decide))) (takes_of rfl rfl rfl rfl) (by rfl) T.g_count_of_nodes T.F_count_of_nodes.kp (b_count_of_nodes T) (sa_cons (se_var (pv 0)) sa_nil)) sa_nil)) (blkOk_by (N := n_ways_over) (sc := defScope s_ways_over) (own := [("_", 9)]) (by decide +kernel)) (ix_name 9) (fun _ _ _ _ _ => (sg_name (i := 9) sc_ways_over.nd rfl (by first | exact Or.inl rfl | exact Or.inr rfl))) (fun _ _ _ _ _ => sf_nil) (fun _ _ _ _ _ => (se_lst sa_nil)))
    (sb_cons (s1_for (passes_of rfl) rfl (si_tup (se_var (pv 1))) (sg_name (i := 4) sc_ways_over.nd rfl (by first | exact Or.inl rfl | exact Or.inr rfl))
      (sb_cons (s1_asg (se_ix (se_ix (se_var (pv 0)) se_int) (se_var (pv 4))) (sg_tup rfl (sgs_cons (sg_name (i := 9) sc_ways_over.nd rfl (by first | exact Or.inl rfl | exact Or.inr rfl)) (sgs_cons (sg_name (i := 5) sc_ways_over.nd rfl (by first | exact Or.inl rfl | exact Or.inr rfl)) (sgs_cons (sg_name (i := 9) sc_ways_over.nd rfl (by first | exact Or.inl rfl | exact Or.inr rfl)) (sgs_cons (sg_name (i := 6) sc_ways_over.nd rfl (by first | exact Or.inl rfl | exact Or.inr rfl)) (sgs_cons (sg_name (i := 7) sc_ways_over.nd rfl (by first | exact Or.inl rfl | exact Or.inr rfl)) sgs_nil)))))))
    (sb_cons (s1_set (i := 8) sc_ways_over.nd rfl (by first | exact Or.inl rfl | exact Or.inr rfl) (se_call (can (ok_rank_of_strength T B) (hr.mono (by decide))) (takes_of rfl rfl rfl rfl) (by rfl) T.g_rank_of_strength T.F_rank_of_strength.kp (b_rank_of_strength T) (sa_cons (se_var (pv 5)) sa_nil)))
    (sb_cons (s1_if (st_cmp ops_ge (se_var (pv 7)) (se_var (pv 2)) (nomark _))
      (sb_one (s1_appO (i := 3) (pv 3) (se_var (pv 6)) (se_tup (sa_cons (se_var (pv 4)) (sa_cons (se_var (pv 7)) (sa_cons (se_var (pv 8)) sa_nil))))))
      sb_nil)
    (sb_one (s1_if (st_cmp ops_ge (se_var (pv 6)) (se_var (pv 2)) (nomark _))
      (sb_one (s1_appO (i := 3) (pv 3) (se_var (pv 7)) (se_tup (sa_cons (se_var (pv 4)) (sa_cons (se_var (pv 6)) (sa_cons (se_var (pv 8)) sa_nil))))))
      sb_nil))))))
    (sb_one (s1_ret (se_var (pv 3)))))))
abbrev io_l_row : List Bool := [true, false, false, false]
noncomputable def bd_l_row : MS := (mSeq (mSet 4 (mBin idxD (mTup (mCons (mC (.str "tie")) (mCons (mC (.str "one")) (mCons (mC (.str "zero")) mNil)))) (mCall io_l_pick m_l_pick (mCons (mVar 0) (mCons (mC (.int 3)) mNil)))))
    (mSeq (mSet 5 (mCall io_l_pick m_l_pick (mCons (mVar 0) (mCons (mVar 3) mNil))))
    (mSeq (mIfS (mTest (mBin eqD (mVar 4) (mC (.str "tie"))))
      (mSet 5 (mNeg (mC (.int 1))))
      mSkip)
    (mRet (mTup (mCons (mVar 4) (mCons (mBin addD (mC (.int 1)) (mCall io_l_pick m_l_pick (mCons (mVar 0) (mCons (mC (.int 6)) mNil)))) (mCons (mVar 5) (mCons (mVar 1) (mCons (mVar 2) mNil))))))))))
noncomputable def m_l_row : MF := runF 6 io_l_row bd_l_row
theorem ok_l_row (T : Txt K mg) (B : Tabs K mg base) : FnOk P w K mg base (L2.CX P w) 2 (a_l_row K) T.fd_l_row ["_law_tape_here", "_law_left", "_law_right", "_law_total"] (spF K (ts K) io_l_row m_l_row) :=
  fn_ok (n := 6) (io := io_l_row) (m := bd_l_row) (l := ts K) T.F_l_row sc_l_row rfl rfl fun A outer s H E hr =>
    (sb_cons (s1_set (i := 4) sc_l_row.nd rfl (by first | exact Or.inl rfl | exact Or.inr rfl) (se_ix (se_tup (sa_cons se_str (sa_cons se_str (sa_cons se_str sa_nil)))) (se_call (can (ok_l_pick T B) (hr.mono (by decide))) (takes_of rfl rfl rfl rfl) (by rfl) T.g_l_pick T.F_l_pick.kp (b_l_pick T) (sa_cons (se_var (pv 0)) (sa_cons se_int sa_nil)))))
    (sb_cons (s1_set (i := 5) sc_l_row.nd rfl (by first | exact Or.inl rfl | exact Or.inr rfl) (se_call (can (ok_l_pick T B) (hr.mono (by decide))) (takes_of rfl rfl rfl rfl) (by rfl) T.g_l_pick T.F_l_pick.kp (b_l_pick T) (sa_cons (se_var (pv 0)) (sa_cons (se_var (pv 3)) sa_nil))))
    (sb_cons (s1_if (st_cmp (ops_eq (hu_of hr)) (se_var (pv 4)) se_str (nomark _))
      (sb_one (s1_set (i := 5) sc_l_row.nd rfl (by first | exact Or.inl rfl | exact Or.inr rfl) (se_neg se_int)))
      sb_nil)
    (sb_one (s1_ret (se_tup (sa_cons (se_var (pv 4)) (sa_cons (se_bin ops_add se_int (se_call (can (ok_l_pick T B) (hr.mono (by decide))) (takes_of rfl rfl rfl rfl) (by rfl) T.g_l_pick T.F_l_pick.kp (b_l_pick T) (sa_cons (se_var (pv 0)) (sa_cons se_int sa_nil)))) (sa_cons (se_var (pv 5)) (sa_cons (se_var (pv 1)) (sa_cons (se_var (pv 2)) sa_nil)))))))))))
abbrev io_l_begins : List Bool := [true, false]
noncomputable def bd_l_begins : MS := (mSeq (mSet 2 (mBin addD (mFn lenD (mCons (mBin idxD (mVar 1) (mC (.int 0))) mNil)) (mFn lenD (mCons (mBin idxD (mVar 1) (mC (.int 1))) mNil))))
    (mSeq (mSet 3 (mCall io_l_pick m_l_pick (mCons (mVar 0) (mCons (mC (.int 3)) mNil))))
    (mSeq (mIfS (mTest (mBin eqD (mVar 3) (mC (.int 0))))
      (mRet (mFn tupD (mCons (mLc (mIR1 (mCons (mVar 2) mNil)) (gN 4) mYes (mBin mulD (mCall io_l_rank m_l_rank (mCons (mVar 1) (mCons (mVar 4) mNil))) (mFn min2D (mCons (mC (.int 1)) (mCons (mCall io_l_pick m_l_pick (mCons (mVar 0) (mCons (mC (.int 3)) mNil))) mNil)))) [4]) mNil)))
      mSkip)
    (mSeq (mIfS (mTest (mBin eqD (mVar 3) (mC (.int 1))))
      (mRet (mFn tupD (mCons (mLc (mIR1 (mCons (mVar 2) mNil)) (gN 4) mYes (mCall io_l_pick m_l_pick (mCons (mVar 0) (mCons (mC (.int 12)) mNil))) [4]) mNil)))
      mSkip)
    (mRet (mFn tupD (mCons (mLc (mIR1 (mCons (mVar 2) mNil)) (gN 4) mYes (mBin mulD (mCall io_l_pick m_l_pick (mCons (mVar 0) (mCons (mC (.int 12)) mNil))) (mBin fdivD (mCall io_l_pick m_l_pick (mCons (mVar 0) (mCons (mC (.int 3)) mNil))) (mC (.int 2)))) [4]) mNil)))))))
noncomputable def m_l_begins : MF := runF 5 io_l_begins bd_l_begins
theorem ok_l_begins (T : Txt K mg) (B : Tabs K mg base) : FnOk P w K mg base (L2.CX P w) 2 (a_l_begins K) T.fd_l_begins ["_law_tape_here", "_law_web_here"] (spF K (ts K) io_l_begins m_l_begins) :=
  fn_ok (n := 5) (io := io_l_begins) (m := bd_l_begins) (l := ts K) T.F_l_begins sc_l_begins rfl rfl fun A outer s H E hr =>
    (sb_cons (s1_set (i := 2) sc_l_begins.nd rfl (by first | exact Or.inl rfl | exact Or.inr rfl) (se_bin ops_add (se_callB fns_len (by rfl) T.m_len (by decide +kernel) (sa_cons (se_ix (se_var (pv 1)) se_int) sa_nil)) (se_callB fns_len (by rfl) T.m_len (by decide +kernel) (sa_cons (se_ix (se_var (pv 1)) se_int) sa_nil))))
    (sb_cons (s1_set (i := 3) sc_l_begins.nd rfl (by first | exact Or.inl rfl | exact Or.inr rfl) (se_call (can (ok_l_pick T B) (hr.mono (by decide))) (takes_of rfl rfl rfl rfl) (by rfl) T.g_l_pick T.F_l_pick.kp (b_l_pick T) (sa_cons (se_var (pv 0)) (sa_cons se_int sa_nil))))
    (sb_cons (s1_if (st_cmp (ops_eq (hu_of hr)) (se_var (pv 3)) se_int (nomark _))
      (sb_one (s1_ret (se_callTy fns_tup (by rfl) T.m_tuple (by decide +kernel) (sa_cons (se_lc (own := [("_law_k", 4)]) rfl sc_l_begins.nd (si_range1 (by rfl) T.m_range (sa_cons (se_var (pv 2)) sa_nil)) (blkOk_by (N := n_l_begins) (sc := defScope s_l_begins) (own := [("_law_k", 4)]) (by decide +kernel)) (ix_name 4) (fun _ _ _ _ _ => (sg_name (i := 4) sc_l_begins.nd rfl (by first | exact Or.inl rfl | exact Or.inr rfl))) (fun _ _ _ _ _ => sf_nil) (fun _ _ _ _ _ => (se_bin ops_mul (se_call (can (ok_l_rank T B) (hr.mono (by decide))) takes0 (by rfl) T.g_l_rank T.F_l_rank.kp (b_l_rank T) (sa_cons (se_var (pv 1)) (sa_cons (se_var (pv 4)) sa_nil))) (se_callB (fns_min rfl) (by rfl) T.m_min (by decide +kernel) (sa_cons se_int (sa_cons (se_call (can (ok_l_pick T B) (hr.mono (by decide))) takes0 (by rfl) T.g_l_pick T.F_l_pick.kp (b_l_pick T) (sa_cons (se_var (pv 0)) (sa_cons se_int sa_nil))) sa_nil)))))) sa_nil))))
      sb_nil)
    (sb_cons (s1_if (st_cmp (ops_eq (hu_of hr)) (se_var (pv 3)) se_int (nomark _))
      (sb_one (s1_ret (se_callTy fns_tup (by rfl) T.m_tuple (by decide +kernel) (sa_cons (se_lc (own := [("_law_k", 4)]) rfl sc_l_begins.nd (si_range1 (by rfl) T.m_range (sa_cons (se_var (pv 2)) sa_nil)) (blkOk_by (N := n_l_begins) (sc := defScope s_l_begins) (own := [("_law_k", 4)]) (by decide +kernel)) (ix_name 4) (fun _ _ _ _ _ => (sg_name (i := 4) sc_l_begins.nd rfl (by first | exact Or.inl rfl | exact Or.inr rfl))) (fun _ _ _ _ _ => sf_nil) (fun _ _ _ _ _ => (se_call (can (ok_l_pick T B) (hr.mono (by decide))) takes0 (by rfl) T.g_l_pick T.F_l_pick.kp (b_l_pick T) (sa_cons (se_var (pv 0)) (sa_cons se_int sa_nil))))) sa_nil))))
      sb_nil)
    (sb_one (s1_ret (se_callTy fns_tup (by rfl) T.m_tuple (by decide +kernel) (sa_cons (se_lc (own := [("_law_k", 4)]) rfl sc_l_begins.nd (si_range1 (by rfl) T.m_range (sa_cons (se_var (pv 2)) sa_nil)) (blkOk_by (N := n_l_begins) (sc := defScope s_l_begins) (own := [("_law_k", 4)]) (by decide +kernel)) (ix_name 4) (fun _ _ _ _ _ => (sg_name (i := 4) sc_l_begins.nd rfl (by first | exact Or.inl rfl | exact Or.inr rfl))) (fun _ _ _ _ _ => sf_nil) (fun _ _ _ _ _ => (se_bin ops_mul (se_call (can (ok_l_pick T B) (hr.mono (by decide))) takes0 (by rfl) T.g_l_pick T.F_l_pick.kp (b_l_pick T) (sa_cons (se_var (pv 0)) (sa_cons se_int sa_nil))) (se_bin ops_fdiv (se_call (can (ok_l_pick T B) (hr.mono (by decide))) takes0 (by rfl) T.g_l_pick T.F_l_pick.kp (b_l_pick T) (sa_cons (se_var (pv 0)) (sa_cons se_int sa_nil))) se_int)))) sa_nil))))))))
abbrev io_l_bars : List Bool := [true, false]
noncomputable def bd_l_bars : MS := (mSeq (mSet 2 (mLst mNil))
    (mSeq (mFor (mIT (mVar 1)) (gN 3)
      (mSeq (mSet 4 (mCall io_l_pick m_l_pick (mCons (mVar 0) (mCons (mC (.int 6)) mNil))))
    (mIfS (mTest (mBin ltD (mVar 4) (mC (.int 2))))
      (mExpr (mAppend 2 (mC (.int 0))))
      (mIfS (mTest (mBin eqD (mVar 4) (mC (.int 2))))
      (mExpr (mAppend 2 (mCall io_l_pick m_l_pick (mCons (mVar 0) (mCons (mC (.int 13)) mNil)))))
      (mExpr (mAppend 2 (mFn max2D (mCons (mC (.int 0)) (mCons (mBin subD (mBin addD (mVar 3) (mVar 4)) (mC (.int 4))) mNil)))))))))
    (mRet (mFn tupD (mCons (mVar 2) mNil)))))
noncomputable def m_l_bars : MF := runF 5 io_l_bars bd_l_bars
theorem ok_l_bars (T : Txt K mg) (B : Tabs K mg base) : FnOk P w K mg base (L2.CX P w) 2 (a_l_bars K) T.fd_l_bars ["_law_tape_here", "_law_free"] (spF K (ts K) io_l_bars m_l_bars) :=
  fn_ok (n := 5) (io := io_l_bars) (m := bd_l_bars) (l := ts K) T.F_l_bars sc_l_bars rfl rfl fun A outer s H E hr =>
    (sb_cons (s1_set (i := 2) sc_l_bars.nd rfl (by first | exact Or.inl rfl | exact Or.inr rfl) (se_lst sa_nil))
    (sb_cons (s1_for (passes_of rfl) rfl (si_tup (se_var (pv 1))) (sg_name (i := 3) sc_l_bars.nd rfl (by first | exact Or.inl rfl | exact Or.inr rfl))
      (sb_cons (s1_set (i := 4) sc_l_bars.nd rfl (by first | exact Or.inl rfl | exact Or.inr rfl) (se_call (can (ok_l_pick T B) (hr.mono (by decide))) (takes_of rfl rfl rfl rfl) (by rfl) T.g_l_pick T.F_l_pick.kp (b_l_pick T) (sa_cons (se_var (pv 0)) (sa_cons se_int sa_nil))))
    (sb_one (s1_if (st_cmp ops_lt (se_var (pv 4)) se_int (nomark _))
      (sb_one (s1_expr (se_append (i := 2) (pv 2) se_int)))
      (sb_one (s1_if (st_cmp (ops_eq (hu_of hr)) (se_var (pv 4)) se_int (nomark _))
      (sb_one (s1_expr (se_append (i := 2) (pv 2) (se_call (can (ok_l_pick T B) (hr.mono (by decide))) (takes_of rfl rfl rfl rfl) (by rfl) T.g_l_pick T.F_l_pick.kp (b_l_pick T) (sa_cons (se_var (pv 0)) (sa_cons se_int sa_nil))))))
      (sb_one (s1_expr (se_append (i := 2) (pv 2) (se_callB (fns_max rfl) (by rfl) T.m_max (by decide +kernel) (sa_cons se_int (sa_cons (se_bin ops_sub (se_bin ops_add (se_var (pv 3)) (se_var (pv 4))) se_int) sa_nil))))))))))))
    (sb_one (s1_ret (se_callTy fns_tup (by rfl) T.m_tuple (by decide +kernel) (sa_cons (se_var (pv 2)) sa_nil))))))
abbrev io_require : List Bool := [false, false]
noncomputable def bd_require : MS := (mIfS (mNotT (mTru (mVar 0)))
      (mRaise "NotUsable" ["word", "at"] (mCons (mVar 1) (mCons (mNeg (mC (.int 1))) mNil)))
      mSkip)
noncomputable def m_require : MF := runF 2 io_require bd_require
theorem ok_require (T : Txt K mg) (B : Tabs K mg base) : FnOk P w K mg base (L2.CX P w) 3 (a_require K) T.fd_require ["fits", "word"] (spF K (ts K) io_require m_require) :=
  fn_ok (n := 2) (io := io_require) (m := bd_require) (l := ts K) T.F_require sc_require rfl rfl fun A outer s H E hr =>
    (sb_one (s1_if (st_not (st_tru (se_var (pv 0))))
      (sb_one (raise2 rfl (takes_of rfl rfl rfl rfl) rfl T.x_NotUsable.oex T.x_NotUsable.iC T.x_NotUsable.tI (ok_NotUsable_init T) (hr.mono (by decide)) (b_NotUsable_init T) (by rfl) T.c_NotUsable (sa_cons (se_var (pv 1)) (sa_cons (se_neg se_int) sa_nil))))
      sb_nil))
abbrev io_is_node : List Bool := [false, false]
noncomputable def bd_is_node : MS := (mRet (mCall io_is_between m_is_between (mCons (mVar 1) (mCons (mC (.int 0)) (mCons (mBin subD (mCall io_count_of_nodes m_count_of_nodes (mCons (mVar 0) mNil)) (mC (.int 1))) mNil)))))
noncomputable def m_is_node : MF := runF 2 io_is_node bd_is_node
theorem ok_is_node (T : Txt K mg) (B : Tabs K mg base) : FnOk P w K mg base (L2.CX P w) 3 (a_is_node K) T.fd_is_node ["net", "thing"] (spF K (ts K) io_is_node m_is_node) :=
  fn_ok (n := 2) (io := io_is_node) (m := bd_is_node) (l := ts K) T.F_is_node sc_is_node rfl rfl fun A outer s H E hr =>
    (sb_one (s1_ret (se_call (can (ok_is_between T B) (hr.mono (by decide))) (takes_of rfl rfl rfl rfl) (by rfl) T.g_is_between T.F_is_between.kp (b_is_between T) (sa_cons (se_var (pv 1)) (sa_cons se_int (sa_cons (se_bin ops_sub (se_call (can (ok_count_of_nodes T B) (hr.mono (by decide))) (takes_of rfl rfl rfl rfl) (by rfl) T.g_count_of_nodes T.F_count_of_nodes.kp (b_count_of_nodes T) (sa_cons (se_var (pv 0)) sa_nil)) se_int) sa_nil))))))
abbrev io_is_switch_of : List Bool := [false, false]
noncomputable def bd_is_switch_of : MS := (mRet (mCall io_is_between m_is_between (mCons (mVar 1) (mCons (mC (.int 0)) (mCons (mBin subD (mFn lenD (mCons (mBin idxD (mVar 0) (mC (.int 2))) mNil)) (mC (.int 1))) mNil)))))
noncomputable def m_is_switch_of : MF := runF 2 io_is_switch_of bd_is_switch_of
theorem ok_is_switch_of (T : Txt K mg) (B : Tabs K mg base) : FnOk P w K mg base (L2.CX P w) 3 (a_is_switch_of K) T.fd_is_switch_of ["net", "thing"] (spF K (ts K) io_is_switch_of m_is_switch_of) :=
  fn_ok (n := 2) (io := io_is_switch_of) (m := bd_is_switch_of) (l := ts K) T.F_is_switch_of sc_is_switch_of rfl rfl fun A outer s H E hr =>
    (sb_one (s1_ret (se_call (can (ok_is_between T B) (hr.mono (by decide))) (takes_of rfl rfl rfl rfl) (by rfl) T.g_is_between T.F_is_between.kp (b_is_between T) (sa_cons (se_var (pv 1)) (sa_cons se_int (sa_cons (se_bin ops_sub (se_callB fns_len (by rfl) T.m_len (by decide +kernel) (sa_cons (se_ix (se_var (pv 0)) se_int) sa_nil)) se_int) sa_nil))))))
abbrev io_flooded : List Bool := [false, false, false, false]
noncomputable def bd_flooded : MS := (mSeq (mSet 4 (mCall io_ways_over m_ways_over (mCons (mVar 0) (mCons (mVar 1) mNil))))
    (mSeq (mSet 5 (mLc (mIZ (mCons (mVar 2) (mCons (mVar 3) mNil))) (gT 2 (gsC (gN 14) (gsC (gN 15) gsN))) mYes (mIf (mTest (mBin geD (mVar 14) (mVar 15))) (mVar 14) (mC (.int 0))) [14, 15]))
    (mSeq (mSet 6 (mBin mulD (mLst (mCons (mNeg (mC (.int 1))) mNil)) (mFn lenD (mCons (mVar 5) mNil))))
    (mSeq (mSet 7 (mBin mulD (mLst (mCons (mC (.int 0)) mNil)) (mFn lenD (mCons (mVar 5) mNil))))
    (mSeq (mSet 8 (mC (.int 0)))
    (mSeq (mFor (mIR3 (mCons (mC (.int 11)) (mCons (mC (.int 0)) (mCons (mNeg (mC (.int 1))) mNil)))) (gN 9)
      (mSeq (mSet 10 (mLcW 5 enumL (gT 2 (gsC (gN 16) (gsC (gN 17) gsN))) (mTest (mBin eqD (mVar 17) (mVar 9))) (mVar 16) [16, 17]))
    (mWhl (mTru (mVar 10))
      (mSeq (mSet 16 (mPop 10))
    (mSeq (mSetIx 7 (mVar 8) (mVar 16))
    (mSeq (mAug 8 iaddD (mC (.int 1)))
    (mFor (mIL (mBin idxD (mVar 4) (mVar 16))) (gT 3 (gsC (gN 11) (gsC (gN 12) (gsC (gN 13) gsN))))
      (mSeq (mSet 17 (mFn min2D (mCons (mVar 9) (mCons (mVar 13) mNil))))
    (mIfS (mAndT (mTest (mBin gtD (mVar 17) (mBin idxD (mVar 5) (mVar 12)))) (mTest (mBin geD (mVar 17) (mBin idxD (mVar 3) (mVar 12)))))
      (mSeq (mSetIx 5 (mVar 17) (mVar 12))
    (mSeq (mSetIx 6 (mVar 11) (mVar 12))
    (mIfS (mTest (mBin eqD (mVar 17) (mVar 9)))
      (mExpr (mAppend 10 (mVar 12)))
      mSkip)))
      mSkip)))))))))
    (mRet (mTup (mCons (mFn tupD (mCons (mVar 5) mNil)) (mCons (mFn tupD (mCons (mVar 6) mNil)) (mCons (mFn tupD (mCons (mVar 7) mNil)) mNil)))))))))))
noncomputable def m_flooded : MF := runF 18 io_flooded bd_flooded
theorem ok_flooded (T : Txt K mg) (B : Tabs K mg base) : FnOk P w K mg base (L2.CX P w) 3 (a_flooded K) T.fd_flooded ["net", "usable", "starts", "floors"] (spF K (ts K) io_flooded m_flooded) :=
  fn_ok (n := 18) (io := io_flooded) (m := bd_flooded) (l := ts K) T.F_flooded sc_flooded rfl rfl fun A outer s H E hr =>
    (sb_cons (s1_set (i := 4) sc_flooded.nd rfl (by first | exact Or.inl rfl | exact Or.inr rfl) (se_call (can (ok_ways_over T B) (hr.mono (by decide))) (takes_of rfl rfl rfl rfl) (by rfl) T.g_ways_over T.F_ways_over.kp (b_ways_over T) (sa_cons (se_var (pv 0)) (sa_cons (se_var (pv 1)) sa_nil))))
    (sb_cons (s1_setLc (i := 5) (own := [("start", 14), ("floor", 15)]) rfl sc_flooded.nd rfl rfl (sw_true rfl rfl rfl (by decide +kernel)) (si_zip (by rfl) T.m_zip (sa_cons (se_var (pv 2)) (sa_cons (se_var (pv 3)) sa_nil))) (blkOk_by (N := n_flooded) (sc := defScope s_flooded) (own := [("start", 14), ("floor", 15)]) (by decide +kernel)) (ix_tup (ixs_cons (ix_name 14) (ixs_cons (ix_name 15) ixs_nil))) (fun _ _ _ _ _ => (sg_tup rfl (sgs_cons (sg_name (i := 14) sc_flooded.nd rfl (by first | exact Or.inl rfl | exact Or.inr rfl)) (sgs_cons (sg_name (i := 15) sc_flooded.nd rfl (by first | exact Or.inl rfl | exact Or.inr rfl)) sgs_nil)))) (fun _ _ _ _ _ => sf_nil) (fun _ _ _ _ _ => (se_if (st_cmp ops_ge (se_var (pv 14)) (se_var (pv 15)) (nomark _)) (se_var (pv 14)) se_int)))
    (sb_cons (s1_set (i := 6) sc_flooded.nd rfl (by first | exact Or.inl rfl | exact Or.inr rfl) (se_bin ops_mul (se_lst (sa_cons (se_neg se_int) sa_nil)) (se_callB fns_len (by rfl) T.m_len (by decide +kernel) (sa_cons (se_var (pv 5)) sa_nil))))
    (sb_cons (s1_set (i := 7) sc_flooded.nd rfl (by first | exact Or.inl rfl | exact Or.inr rfl) (se_bin ops_mul (se_lst (sa_cons se_int sa_nil)) (se_callB fns_len (by rfl) T.m_len (by decide +kernel) (sa_cons (se_var (pv 5)) sa_nil))))
    (sb_cons (s1_set (i := 8) sc_flooded.nd rfl (by first | exact Or.inl rfl | exact Or.inr rfl) se_int)
    (sb_cons (s1_for (passes_of rfl) rfl (si_range3 (by rfl) T.m_range (sa_cons (se_c (d := (.int 11)) (pe_glob (v := (.int 11)) (by rfl) T.v_RANK_OF_FEEDS ⟨_, rfl⟩) fun _ _ => rfl) (sa_cons se_int (sa_cons (se_neg se_int) sa_nil)))) (sg_name (i := 9) sc_flooded.nd rfl (by first | exact Or.inl rfl | exact Or.inr rfl))
      (sb_cons (s1_setLcW (i := 10) (own := [("node", 16), ("number", 17)]) rfl sc_flooded.nd rfl rfl (sw_true rfl rfl rfl (by decide +kernel)) (siw_enum (i0 := 5) (pv 5) rfl T.m_enumerate) (blkOk_by (N := n_flooded) (sc := defScope s_flooded) (own := [("node", 16), ("number", 17)]) (by decide +kernel)) (ix_tup (ixs_cons (ix_name 16) (ixs_cons (ix_name 17) ixs_nil))) (fun _ _ _ _ _ => (sg_tup rfl (sgs_cons (sg_name (i := 16) sc_flooded.nd rfl (by first | exact Or.inl rfl | exact Or.inr rfl)) (sgs_cons (sg_name (i := 17) sc_flooded.nd rfl (by first | exact Or.inl rfl | exact Or.inr rfl)) sgs_nil)))) (fun _ _ _ _ _ => (sf_one (st_cmp (ops_eq (hu_of hr)) (se_var (pv 17)) (se_var (pv 9)) (nomark _)))) (fun _ _ _ _ _ => (se_var (pv 16))))
    (sb_one (s1_whl (passes_of rfl) (st_tru (se_var (pv 10)))
      (sb_cons (s1_set (i := 16) sc_flooded.nd rfl (by first | exact Or.inl rfl | exact Or.inr rfl) (se_pop (i := 10) (pv 10)))
    (sb_cons (s1_setIx (i := 7) (pv 7) (se_var (pv 8)) (se_var (pv 16)))
    (sb_cons (s1_aug (i := 8) sc_flooded.nd rfl (by first | exact Or.inl rfl | exact Or.inr rfl) se_int ops_iadd)
    (sb_one (s1_for (passes_of rfl) rfl (si_list (se_ix (se_var (pv 4)) (se_var (pv 16)))) (sg_tup rfl (sgs_cons (sg_name (i := 11) sc_flooded.nd rfl (by first | exact Or.inl rfl | exact Or.inr rfl)) (sgs_cons (sg_name (i := 12) sc_flooded.nd rfl (by first | exact Or.inl rfl | exact Or.inr rfl)) (sgs_cons (sg_name (i := 13) sc_flooded.nd rfl (by first | exact Or.inl rfl | exact Or.inr rfl)) sgs_nil))))
      (sb_cons (s1_set (i := 17) sc_flooded.nd rfl (by first | exact Or.inl rfl | exact Or.inr rfl) (se_callB (fns_min rfl) (by rfl) T.m_min (by decide +kernel) (sa_cons (se_var (pv 9)) (sa_cons (se_var (pv 13)) sa_nil))))
    (sb_one (s1_if (SW.st (sw_and (st_cmp ops_gt (se_var (pv 17)) (se_ix (se_var (pv 5)) (se_var (pv 12))) (nomark _)) (sw_and1 (st_cmp ops_ge (se_var (pv 17)) (se_ix (se_var (pv 3)) (se_var (pv 12))) (nomark _)))))
      (sb_cons (s1_setIx (i := 5) (pv 5) (se_var (pv 17)) (se_var (pv 12)))
    (sb_cons (s1_setIx (i := 6) (pv 6) (se_var (pv 11)) (se_var (pv 12)))
    (sb_one (s1_if (st_cmp (ops_eq (hu_of hr)) (se_var (pv 17)) (se_var (pv 9)) (nomark _))
      (sb_one (s1_expr (se_append (i := 10) (pv 10) (se_var (pv 12)))))
      sb_nil))))
      sb_nil))))))))))))
    (sb_one (s1_ret (se_tup (sa_cons (se_callTy fns_tup (by rfl) T.m_tuple (by decide +kernel) (sa_cons (se_var (pv 5)) sa_nil)) (sa_cons (se_callTy fns_tup (by rfl) T.m_tuple (by decide +kernel) (sa_cons (se_var (pv 6)) sa_nil)) (sa_cons (se_callTy fns_tup (by rfl) T.m_tuple (by decide +kernel) (sa_cons (se_var (pv 7)) sa_nil)) sa_nil))))))))))))
abbrev io_l_web : List Bool := [true]
noncomputable def bd_l_web : MS := (mSeq (mSet 1 (mBin addD (mC (.int 2)) (mCall io_l_pick m_l_pick (mCons (mVar 0) (mCons (mC (.int 3)) mNil)))))
    (mSeq (mSet 2 (mBin idxD (mTup (mCons (mC (.int 3)) (mCons (mC (.int 2)) (mCons (mC (.int 4)) (mCons (mC (.int 1)) (mCons (mC (.int 5)) (mCons (mC (.int 3)) (mCons (mC (.int 2)) (mCons (mC (.int 4)) (mCons (mC (.int 6)) (mCons (mC (.int 3)) (mCons (mC (.int 0)) mNil)))))))))))) (mCall io_l_pick m_l_pick (mCons (mVar 0) (mCons (mC (.int 11)) mNil)))))
    (mSeq (mSet 3 (mC (.int 9)))
    (mSeq (mIfS (mTest (mBin eqD (mCall io_l_pick m_l_pick (mCons (mVar 0) (mCons (mC (.int 20)) mNil))) (mC (.int 19))))
      (mSeq (mSet 1 (mC (.int 12)))
    (mSeq (mSet 2 (mC (.int 24)))
    (mSet 3 (mC (.int 60)))))
      mSkip)
    (mSeq (mSet 4 (mBin addD (mVar 1) (mVar 2)))
    (mSeq (mSet 5 (mCall io_l_pick m_l_pick (mCons (mVar 0) (mCons (mC (.int 3)) mNil))))
    (mSeq (mSet 6 (mCall io_l_pick m_l_pick (mCons (mVar 0) (mCons (mC (.int 4)) mNil))))
    (mSeq (mSet 7 (mLst mNil))
    (mSeq (mIfS (mAndT (mTest (mBin gtD (mVar 2) (mC (.int 0)))) (mTest (mBin gtD (mVar 6) (mC (.int 0)))))
      (mExpr (mAppend 7 (mTup (mCons (mCall io_l_pick m_l_pick (mCons (mVar 0) (mCons (mVar 1) mNil))) (mCons (mVar 1) mNil)))))
      mSkip)
    (mSeq (mIfS (mAndT (mTest (mBin gtD (mVar 2) (mC (.int 1)))) (mTest (mBin (inD false) (mVar 6) (mTup (mCons (mC (.int 1)) (mCons (mC (.int 2)) mNil))))))
      (mSet 7 (mBin addD (mVar 7) (mLc (mIR1 (mCons (mBin subD (mVar 2) (mC (.int 1))) mNil)) (gN 12) mYes (mTup (mCons (mBin addD (mVar 1) (mVar 12)) (mCons (mBin addD (mBin addD (mVar 1) (mVar 12)) (mC (.int 1))) mNil))) [12])))
      mSkip)
    (mSeq (mIfS (mAndT (mTest (mBin gtD (mVar 2) (mC (.int 1)))) (mTest (mBin eqD (mVar 6) (mC (.int 2)))))
      (mExpr (mAppend 7 (mTup (mCons (mBin subD (mBin addD (mVar 1) (mVar 2)) (mC (.int 1))) (mCons (mVar 1) mNil)))))
      mSkip)
    (mSeq (mIfS (mAndT (mTest (mBin gtD (mVar 2) (mC (.int 1)))) (mTest (mBin eqD (mVar 6) (mC (.int 3)))))
      (mSet 7 (mBin addD (mVar 7) (mLst (mCons (mTup (mCons (mVar 1) (mCons (mBin addD (mVar 1) (mC (.int 1))) mNil))) (mCons (mTup (mCons (mBin addD (mVar 1) (mC (.int 1))) (mCons (mVar 1) mNil))) (mCons (mTup (mCons (mVar 1) (mCons (mBin addD (mVar 1) (mC (.int 1))) mNil))) mNil))))))
      mSkip)
    (mSeq (mFor (mIR1 (mCons (mBin addD (mBin addD (mCall io_l_pick m_l_pick (mCons (mVar 0) (mCons (mC (.int 4)) mNil))) (mBin mulD (mC (.int 3)) (mCall io_l_pick m_l_pick (mCons (mVar 0) (mCons (mC (.int 2)) mNil))))) (mBin fdivD (mBin subD (mVar 3) (mC (.int 9))) (mC (.int 2)))) mNil)) (gN 12)
      (mSeq (mSet 8 (mCall io_l_pick m_l_pick (mCons (mVar 0) (mCons (mVar 4) mNil))))
    (mExpr (mAppend 7 (mTup (mCons (mVar 8) (mCons (mBin modD (mFn intSD (mCons (mBin addD (mBin addD (mVar 8) (mC (.int 1))) (mCall io_l_pick m_l_pick (mCons (mVar 0) (mCons (mBin subD (mVar 4) (mC (.int 1))) mNil)))) mNil)) (mVar 4)) mNil)))))))
    (mSeq (mSet 9 (mBin addD (mLst (mCons (mC (.str "low")) (mCons (mC (.str "high")) mNil))) (mLc (mIR1 (mCons (mBin subD (mVar 1) (mC (.int 2))) mNil)) (gN 12) mYes (mCall io_l_name m_l_name (mCons (mVar 5) (mCons (mBin addD (mC (.int 100)) (mVar 12)) mNil))) [12])))
    (mSeq (mSet 10 (mLc (mIR1 (mCons (mVar 2) mNil)) (gN 12) mYes (mTup (mCons (mCall io_l_name m_l_name (mCons (mVar 5) (mCons (mVar 12) mNil))) (mCons (mBin addD (mC (.int 1)) (mCall io_l_pick m_l_pick (mCons (mVar 0) (mCons (mC (.int 4)) mNil)))) mNil))) [12]))
    (mSeq (mSet 11 (mLc (mIL (mSl (mVar 7) mONo (mOSo (mVar 3)))) (gN 13) mYes (mCall io_l_row m_l_row (mCons (mVar 0) (mCons (mBin idxD (mVar 13) (mC (.int 0))) (mCons (mBin idxD (mVar 13) (mC (.int 1))) (mCons (mVar 4) mNil))))) [13]))
    (mRet (mTup (mCons (mFn tupD (mCons (mVar 9) mNil)) (mCons (mFn tupD (mCons (mVar 10) mNil)) (mCons (mFn tupD (mCons (mVar 11) mNil)) mNil)))))))))))))))))))))
noncomputable def m_l_web : MF := runF 14 io_l_web bd_l_web
theorem ok_l_web (T : Txt K mg) (B : Tabs K mg base) : FnOk P w K mg base (L2.CX P w) 3 (a_l_web K) T.fd_l_web ["_law_tape_here"] (spF K (ts K) io_l_web m_l_web) :=
  fn_ok (n := 14) (io := io_l_web) (m := bd_l_web) (l := ts K) T.F_l_web sc_l_web rfl rfl fun A outer s H E hr =>
    (sb_cons (s1_set (i := 1) sc_l_web.nd rfl (by first | exact Or.inl rfl | exact Or.inr rfl) (se_bin ops_add se_int (se_call (can (ok_l_pick T B) (hr.mono (by decide))) (takes_of rfl rfl rfl rfl) (by rfl) T.g_l_pick T.F_l_pick.kp (b_l_pick T) (sa_cons (se_var (pv 0)) (sa_cons se_int sa_nil)))))
    (sb_cons (s1_set (i := 2) sc_l_web.nd rfl (by first | exact Or.inl rfl | exact Or.inr rfl) (se_ix (se_tup (sa_cons se_int (sa_cons se_int (sa_cons se_int (sa_cons se_int (sa_cons se_int (sa_cons se_int (sa_cons se_int (sa_cons se_int (sa_cons se_int (sa_cons se_int (sa_cons se_int sa_nil)))))))))))) (se_call (can (ok_l_pick T B) (hr.mono (by decide))) (takes_of rfl rfl rfl rfl) (by rfl) T.g_l_pick T.F_l_pick.kp (b_l_pick T) (sa_cons (se_var (pv 0)) (sa_cons se_int sa_nil)))))
    (sb_cons (s1_set (i := 3) sc_l_web.nd rfl (by first | exact Or.inl rfl | exact Or.inr rfl) se_int)
    (sb_cons (s1_if (st_cmp (ops_eq (hu_of hr)) (se_call (can (ok_l_pick T B) (hr.mono (by decide))) (takes_of rfl rfl rfl rfl) (by rfl) T.g_l_pick T.F_l_pick.kp (b_l_pick T) (sa_cons (se_var (pv 0)) (sa_cons se_int sa_nil))) se_int (nomark _))
      (sb_cons (s1_set (i := 1) sc_l_web.nd rfl (by first | exact Or.inl rfl | exact Or.inr rfl) se_int)
    (sb_cons (s1_set (i := 2) sc_l_web.nd rfl (by first | exact Or.inl rfl | exact Or.inr rfl) se_int)
    (sb_one (s1_set (i := 3) sc_l_web.nd rfl (by first | exact Or.inl rfl | exact Or.inr rfl) se_int))))
      sb_nil)
    (sb_cons (s1_set (i := 4) sc_l_web.nd rfl (by first | exact Or.inl rfl | exact Or.inr rfl) (se_bin ops_add (se_var (pv 1)) (se_var (pv 2))))
    (sb_cons (s1_set (i := 5) sc_l_web.nd rfl (by first | exact Or.inl rfl | exact Or.inr rfl) (se_call (can (ok_l_pick T B) (hr.mono (by decide))) (takes_of rfl rfl rfl rfl) (by rfl) T.g_l_pick T.F_l_pick.kp (b_l_pick T) (sa_cons (se_var (pv 0)) (sa_cons se_int sa_nil))))
    (sb_cons (s1_set (i := 6) sc_l_web.nd rfl (by first | exact Or.inl rfl | exact Or.inr rfl) (se_call (can (ok_l_pick T B) (hr.mono (by decide))) (takes_of rfl rfl rfl rfl) (by rfl) T.g_l_pick T.F_l_pick.kp (b_l_pick T) (sa_cons (se_var (pv 0)) (sa_cons se_int sa_nil))))
    (sb_cons (s1_set (i := 7) sc_l_web.nd rfl (by first | exact Or.inl rfl | exact Or.inr rfl) (se_lst sa_nil))
    (sb_cons (s1_if (SW.st (sw_and (st_cmp ops_gt (se_var (pv 2)) se_int (nomark _)) (sw_and1 (st_cmp ops_gt (se_var (pv 6)) se_int (nomark _)))))
      (sb_one (s1_expr (se_append (i := 7) (pv 7) (se_tup (sa_cons (se_call (can (ok_l_pick T B) (hr.mono (by decide))) (takes_of rfl rfl rfl rfl) (by rfl) T.g_l_pick T.F_l_pick.kp (b_l_pick T) (sa_cons (se_var (pv 0)) (sa_cons (se_var (pv 1)) sa_nil))) (sa_cons (se_var (pv 1)) sa_nil))))))
      sb_nil)
    (sb_cons (s1_if (SW.st (sw_and (st_cmp ops_gt (se_var (pv 2)) se_int (nomark _)) (sw_and1 (st_cmp ops_in (se_var (pv 6)) (se_tup (sa_cons se_int (sa_cons se_int sa_nil))) rfl))))
      (sb_one (s1_set (i := 7) sc_l_web.nd rfl (by first | exact Or.inl rfl | exact Or.inr rfl) (se_bin ops_add (se_var (pv 7)) (se_lc (own := [("_law_k", 12)]) rfl sc_l_web.nd (si_range1 (by rfl) T.m_range (sa_cons (se_bin ops_sub (se_var (pv 2)) se_int) sa_nil)) (blkOk_by (N := n_l_web) (sc := defScope s_l_web) (own := [("_law_k", 12)]) (by decide +kernel)) (ix_name 12) (fun _ _ _ _ _ => (sg_name (i := 12) sc_l_web.nd rfl (by first | exact Or.inl rfl | exact Or.inr rfl))) (fun _ _ _ _ _ => sf_nil) (fun _ _ _ _ _ => (se_tup (sa_cons (se_bin ops_add (se_var (pv 1)) (se_var (pv 12))) (sa_cons (se_bin ops_add (se_bin ops_add (se_var (pv 1)) (se_var (pv 12))) se_int) sa_nil))))))))
      sb_nil)
    (sb_cons (s1_if (SW.st (sw_and (st_cmp ops_gt (se_var (pv 2)) se_int (nomark _)) (sw_and1 (st_cmp (ops_eq (hu_of hr)) (se_var (pv 6)) se_int (nomark _)))))
      (sb_one (s1_expr (se_append (i := 7) (pv 7) (se_tup (sa_cons (se_bin ops_sub (se_bin ops_add (se_var (pv 1)) (se_var (pv 2))) se_int) (sa_cons (se_var (pv 1)) sa_nil))))))
      sb_nil)
    (sb_cons (s1_if (SW.st (sw_and (st_cmp ops_gt (se_var (pv 2)) se_int (nomark _)) (sw_and1 (st_cmp (ops_eq (hu_of hr)) (se_var (pv 6)) se_int (nomark _)))))
      (sb_one (s1_set (i := 7) sc_l_web.nd rfl (by first | exact Or.inl rfl | exact Or.inr rfl) (se_bin ops_add (se_var (pv 7)) (se_lst (sa_cons (se_tup (sa_cons (se_var (pv 1)) (sa_cons (se_bin ops_add (se_var (pv 1)) se_int) sa_nil))) (sa_cons (se_tup (sa_cons (se_bin ops_add (se_var (pv 1)) se_int) (sa_cons (se_var (pv 1)) sa_nil))) (sa_cons (se_tup (sa_cons (se_var (pv 1)) (sa_cons (se_bin ops_add (se_var (pv 1)) se_int) sa_nil))) sa_nil)))))))
      sb_nil)
    (sb_cons (s1_for (passes_of rfl) rfl (si_range1 (by rfl) T.m_range (sa_cons (se_bin ops_add (se_bin ops_add (se_call (can (ok_l_pick T B) (hr.mono (by decide))) (takes_of rfl rfl rfl rfl) (by rfl) T.g_l_pick T.F_l_pick.kp (b_l_pick T) (sa_cons (se_var (pv 0)) (sa_cons se_int sa_nil))) (se_bin ops_mul se_int (se_call (can (ok_l_pick T B) (hr.mono (by decide))) (takes_of rfl rfl rfl rfl) (by rfl) T.g_l_pick T.F_l_pick.kp (b_l_pick T) (sa_cons (se_var (pv 0)) (sa_cons se_int sa_nil))))) (se_bin ops_fdiv (se_bin ops_sub (se_var (pv 3)) se_int) se_int)) sa_nil)) (sg_name (i := 12) sc_l_web.nd rfl (by first | exact Or.inl rfl | exact Or.inr rfl))
      (sb_cons (s1_set (i := 8) sc_l_web.nd rfl (by first | exact Or.inl rfl | exact Or.inr rfl) (se_call (can (ok_l_pick T B) (hr.mono (by decide))) (takes_of rfl rfl rfl rfl) (by rfl) T.g_l_pick T.F_l_pick.kp (b_l_pick T) (sa_cons (se_var (pv 0)) (sa_cons (se_var (pv 4)) sa_nil))))
    (sb_one (s1_expr (se_append (i := 7) (pv 7) (se_tup (sa_cons (se_var (pv 8)) (sa_cons (se_bin ops_mod (se_callTy fns_intS (by rfl) T.m_int (by decide +kernel) (sa_cons (se_bin ops_add (se_bin ops_add (se_var (pv 8)) se_int) (se_call (can (ok_l_pick T B) (hr.mono (by decide))) (takes_of rfl rfl rfl rfl) (by rfl) T.g_l_pick T.F_l_pick.kp (b_l_pick T) (sa_cons (se_var (pv 0)) (sa_cons (se_bin ops_sub (se_var (pv 4)) se_int) sa_nil)))) sa_nil)) (se_var (pv 4))) sa_nil))))))))
    (sb_cons (s1_set (i := 9) sc_l_web.nd rfl (by first | exact Or.inl rfl | exact Or.inr rfl) (se_bin ops_add (se_lst (sa_cons se_str (sa_cons se_str sa_nil))) (se_lc (own := [("_law_k", 12)]) rfl sc_l_web.nd (si_range1 (by rfl) T.m_range (sa_cons (se_bin ops_sub (se_var (pv 1)) se_int) sa_nil)) (blkOk_by (N := n_l_web) (sc := defScope s_l_web) (own := [("_law_k", 12)]) (by decide +kernel)) (ix_name 12) (fun _ _ _ _ _ => (sg_name (i := 12) sc_l_web.nd rfl (by first | exact Or.inl rfl | exact Or.inr rfl))) (fun _ _ _ _ _ => sf_nil) (fun _ _ _ _ _ => (se_call (can (ok_l_name T B) (hr.mono (by decide))) takes0 (by rfl) T.g_l_name T.F_l_name.kp (b_l_name T) (sa_cons (se_var (pv 5)) (sa_cons (se_bin ops_add se_int (se_var (pv 12))) sa_nil)))))))
    (sb_cons (s1_setLc (i := 10) (own := [("_law_k", 12)]) rfl sc_l_web.nd rfl rfl (sw_true rfl rfl rfl (by decide +kernel)) (si_range1 (by rfl) T.m_range (sa_cons (se_var (pv 2)) sa_nil)) (blkOk_by (N := n_l_web) (sc := defScope s_l_web) (own := [("_law_k", 12)]) (by decide +kernel)) (ix_name 12) (fun _ _ _ _ _ => (sg_name (i := 12) sc_l_web.nd rfl (by first | exact Or.inl rfl | exact Or.inr rfl))) (fun _ _ _ _ _ => sf_nil) (fun _ _ _ _ _ => (se_tup (sa_cons (se_call (can (ok_l_name T B) (hr.mono (by decide))) takes0 (by rfl) T.g_l_name T.F_l_name.kp (b_l_name T) (sa_cons (se_var (pv 5)) (sa_cons (se_var (pv 12)) sa_nil))) (sa_cons (se_bin ops_add se_int (se_call (can (ok_l_pick T B) (hr.mono (by decide))) takes0 (by rfl) T.g_l_pick T.F_l_pick.kp (b_l_pick T) (sa_cons (se_var (pv 0)) (sa_cons se_int sa_nil)))) sa_nil)))))
    (sb_cons (s1_setLc (i := 11) (own := [("_law_pair", 13)]) rfl sc_l_web.nd rfl rfl (sw_true rfl rfl rfl (by decide +kernel)) (si_list (se_slice (se_var (pv 7)) so_none (so_some (se_var (pv 3))))) (blkOk_by (N := n_l_web) (sc := defScope s_l_web) (own := [("_law_pair", 13)]) (by decide +kernel)) (ix_name 13) (fun _ _ _ _ _ => (sg_name (i := 13) sc_l_web.nd rfl (by first | exact Or.inl rfl | exact Or.inr rfl))) (fun _ _ _ _ _ => sf_nil) (fun _ _ _ _ _ => (se_call (can (ok_l_row T B) (hr.mono (by decide))) takes0 (by rfl) T.g_l_row T.F_l_row.kp (b_l_row T) (sa_cons (se_var (pv 0)) (sa_cons (se_ix (se_var (pv 13)) se_int) (sa_cons (se_ix (se_var (pv 13)) se_int) (sa_cons (se_var (pv 4)) sa_nil)))))))
    (sb_one (s1_ret (se_tup (sa_cons (se_callTy fns_tup (by rfl) T.m_tuple (by decide +kernel) (sa_cons (se_var (pv 9)) sa_nil)) (sa_cons (se_callTy fns_tup (by rfl) T.m_tuple (by decide +kernel) (sa_cons (se_var (pv 10)) sa_nil)) (sa_cons (se_callTy fns_tup (by rfl) T.m_tuple (by decide +kernel) (sa_cons (se_var (pv 11)) sa_nil)) sa_nil))))))))))))))))))))))
abbrev io_is_lot : List Bool := [false]
noncomputable def bd_is_lot : MS := (mSeq (mIfS (mOrT (mNotT (mTest (mIsi "tuple" (mVar 0)))) (mNotT (mTest (mGAll false (mIT (mVar 0)) (gN 1) mYes (mCall io_is_number m_is_number (mCons (mVar 1) mNil)) [1]))))
      (mRet (mC (.bl false)))
      mSkip)
    (mRet (mGAll false (mIZ (mCons (mVar 0) (mCons (mSl (mVar 0) (mOSo (mC (.int 1))) mONo) mNil))) (gT 2 (gsC (gN 1) (gsC (gN 2) gsN))) mYes (mBin ltD (mVar 1) (mVar 2)) [1, 2])))
noncomputable def m_is_lot : MF := runF 3 io_is_lot bd_is_lot
theorem ok_is_lot (T : Txt K mg) (B : Tabs K mg base) : FnOk P w K mg base (L2.CX P w) 4 (a_is_lot K) T.fd_is_lot ["thing"] (spF K (ts K) io_is_lot m_is_lot) :=
  fn_ok (n := 3) (io := io_is_lot) (m := bd_is_lot) (l := ts K) T.F_is_lot sc_is_lot rfl rfl fun A outer s H E hr =>
    (sb_cons (s1_if (SW.st (sw_or (st_not (st_val (se_isi (b := "tuple") (by decide) (by rfl) T.m_isinstance (se_var (pv 0)) (pe_bltn (v := .ty "tuple") (by rfl) T.m_tuple (by decide +kernel) rfl)))) (sw_or1 (st_not (st_val (se_allG (own := [("one", 1)]) (sge_mk (own := [("one", 1)]) (by simp [ts]) (ix_name 1) hr rfl sc_is_lot.nd B.tb_is_lot rfl (si_tup (se_var (pv 0))) (blkOk_by (N := n_is_lot) (sc := defScope s_is_lot) (by decide +kernel)) rfl (by decide) rfl (fun _ _ _ _ _ _ => (sg_name (i := 1) sc_is_lot.nd rfl (by first | exact Or.inl rfl | exact Or.inr rfl))) (fun _ _ _ _ _ _ => sf_nil) (fun _ _ _ _ _ _ => (se_call (can (ok_is_number T B) (room_in (hr.mono (by decide)))) takes0 (by rfl) T.g_is_number T.F_is_number.kp (b_is_number T) (sa_cons (se_var (pv 1)) sa_nil))) (fun _ => rfl)) (by rfl) T.m_all))))))
      (sb_one (s1_ret se_bl))
      sb_nil)
    (sb_one (s1_ret (se_allG (own := [("one", 1), ("other", 2)]) (sge_mk (own := [("one", 1), ("other", 2)]) (by simp [ts]) (ix_tup (ixs_cons (ix_name 1) (ixs_cons (ix_name 2) ixs_nil))) hr rfl sc_is_lot.nd B.tb_is_lot rfl (si_zip (by rfl) T.m_zip (sa_cons (se_var (pv 0)) (sa_cons (se_slice (se_var (pv 0)) (so_some se_int) so_none) sa_nil))) (blkOk_by (N := n_is_lot) (sc := defScope s_is_lot) (by decide +kernel)) rfl (by decide) rfl (fun _ _ _ _ _ _ => (sg_tup rfl (sgs_cons (sg_name (i := 1) sc_is_lot.nd rfl (by first | exact Or.inl rfl | exact Or.inr rfl)) (sgs_cons (sg_name (i := 2) sc_is_lot.nd rfl (by first | exact Or.inl rfl | exact Or.inr rfl)) sgs_nil)))) (fun _ _ _ _ _ _ => sf_nil) (fun _ _ _ _ _ _ => (se_cmp ops_lt (se_var (pv 1)) (se_var (pv 2)) (nomark _))) (fun _ => rfl)) (by rfl) T.m_all))))
abbrev io_rank_of : List Bool := [false, false]
noncomputable def bd_rank_of : MS := (mSeq (mExpr (mCall io_require m_require (mCons (mCall io_is_node m_is_node (mCons (mVar 0) (mCons (mVar 1) mNil))) (mCons (mC (.str "node")) mNil))))
    (mSeq (mSet 2 (mFn lenD (mCons (mBin idxD (mVar 0) (mC (.int 0))) mNil)))
    (mRet (mIf (mTest (mBin ltD (mVar 1) (mVar 2))) (mC (.int 11)) (mBin idxD (mBin idxD (mBin idxD (mVar 0) (mC (.int 1))) (mBin subD (mVar 1) (mVar 2))) (mC (.int 1)))))))
noncomputable def m_rank_of : MF := runF 3 io_rank_of bd_rank_of
theorem ok_rank_of (T : Txt K mg) (B : Tabs K mg base) : FnOk P w K mg base (L2.CX P w) 4 (a_rank_of K) T.fd_rank_of ["net", "node"] (spF K (ts K) io_rank_of m_rank_of) :=
  fn_ok (n := 3) (io := io_rank_of) (m := bd_rank_of) (l := ts K) T.F_rank_of sc_rank_of rfl rfl fun A outer s H E hr =>
    (sb_cons (s1_expr (se_call (can (ok_require T B) (hr.mono (by decide))) (takes_of rfl rfl rfl rfl) (by rfl) T.g_require T.F_require.kp (b_require T) (sa_cons (se_call (can (ok_is_node T B) (hr.mono (by decide))) (takes_of rfl rfl rfl rfl) (by rfl) T.g_is_node T.F_is_node.kp (b_is_node T) (sa_cons (se_var (pv 0)) (sa_cons (se_var (pv 1)) sa_nil))) (sa_cons se_str sa_nil))))
    (sb_cons (s1_set (i := 2) sc_rank_of.nd rfl (by first | exact Or.inl rfl | exact Or.inr rfl) (se_callB fns_len (by rfl) T.m_len (by decide +kernel) (sa_cons (se_ix (se_var (pv 0)) se_int) sa_nil)))
    (sb_one (s1_ret (se_if (st_cmp ops_lt (se_var (pv 1)) (se_var (pv 2)) (nomark _)) (se_c (d := (.int 11)) (pe_glob (v := (.int 11)) (by rfl) T.v_RANK_OF_FEEDS ⟨_, rfl⟩) fun _ _ => rfl) (se_ix (se_ix (se_ix (se_var (pv 0)) se_int) (se_bin ops_sub (se_var (pv 1)) (se_var (pv 2)))) se_int))))))
abbrev io_switch_rank : List Bool := [false, false]
noncomputable def bd_switch_rank : MS := (mSeq (mExpr (mCall io_require m_require (mCons (mCall io_is_switch_of m_is_switch_of (mCons (mVar 0) (mCons (mVar 1) mNil))) (mCons (mC (.str "switch")) mNil))))
    (mRet (mCall io_rank_of_strength m_rank_of_strength (mCons (mBin idxD (mBin idxD (mBin idxD (mVar 0) (mC (.int 2))) (mVar 1)) (mC (.int 1))) mNil))))
noncomputable def m_switch_rank : MF := runF 2 io_switch_rank bd_switch_rank
theorem ok_switch_rank (T : Txt K mg) (B : Tabs K mg base) : FnOk P w K mg base (L2.CX P w) 4 (a_switch_rank K) T.fd_switch_rank ["net", "switch"] (spF K (ts K) io_switch_rank m_switch_rank) :=
  fn_ok (n := 2) (io := io_switch_rank) (m := bd_switch_rank) (l := ts K) T.F_switch_rank sc_switch_rank rfl rfl fun A outer s H E hr =>
    (sb_cons (s1_expr (se_call (can (ok_require T B) (hr.mono (by decide))) (takes_of rfl rfl rfl rfl) (by rfl) T.g_require T.F_require.kp (b_require T) (sa_cons (se_call (can (ok_is_switch_of T B) (hr.mono (by decide))) (takes_of rfl rfl rfl rfl) (by rfl) T.g_is_switch_of T.F_is_switch_of.kp (b_is_switch_of T) (sa_cons (se_var (pv 0)) (sa_cons (se_var (pv 1)) sa_nil))) (sa_cons se_str sa_nil))))
    (sb_one (s1_ret (se_call (can (ok_rank_of_strength T B) (hr.mono (by decide))) (takes_of rfl rfl rfl rfl) (by rfl) T.g_rank_of_strength T.F_rank_of_strength.kp (b_rank_of_strength T) (sa_cons (se_ix (se_ix (se_ix (se_var (pv 0)) se_int) (se_var (pv 1))) se_int) sa_nil)))))
abbrev io_are_numbers : List Bool := [false, false, false]
noncomputable def bd_are_numbers : MS := (mSeq (mIfS (mOrT (mNotT (mTest (mIsi "tuple" (mVar 1)))) (mTest (mBin neD (mFn lenD (mCons (mVar 1) mNil)) (mCall io_count_of_nodes m_count_of_nodes (mCons (mVar 0) mNil)))))
      (mRet (mC (.bl false)))
      mSkip)
    (mRet (mGAll false (mIT (mVar 1)) (gN 3) mYes (mCall io_is_between m_is_between (mCons (mVar 3) (mCons (mC (.int 0)) (mCons (mVar 2) mNil)))) [3])))
noncomputable def m_are_numbers : MF := runF 4 io_are_numbers bd_are_numbers
theorem ok_are_numbers (T : Txt K mg) (B : Tabs K mg base) : FnOk P w K mg base (L2.CX P w) 4 (a_are_numbers K) T.fd_are_numbers ["net", "thing", "most"] (spF K (ts K) io_are_numbers m_are_numbers) :=
  fn_ok (n := 4) (io := io_are_numbers) (m := bd_are_numbers) (l := ts K) T.F_are_numbers sc_are_numbers rfl rfl fun A outer s H E hr =>
    (sb_cons (s1_if (SW.st (sw_or (st_not (st_val (se_isi (b := "tuple") (by decide) (by rfl) T.m_isinstance (se_var (pv 1)) (pe_bltn (v := .ty "tuple") (by rfl) T.m_tuple (by decide +kernel) rfl)))) (sw_or1 (st_cmp (ops_ne (hu_of hr)) (se_callB fns_len (by rfl) T.m_len (by decide +kernel) (sa_cons (se_var (pv 1)) sa_nil)) (se_call (can (ok_count_of_nodes T B) (hr.mono (by decide))) (takes_of rfl rfl rfl rfl) (by rfl) T.g_count_of_nodes T.F_count_of_nodes.kp (b_count_of_nodes T) (sa_cons (se_var (pv 0)) sa_nil)) (nomark _)))))
      (sb_one (s1_ret se_bl))
      sb_nil)
    (sb_one (s1_ret (se_allG (own := [("number", 3)]) (sge_mk (own := [("number", 3)]) (by simp [ts]) (ix_name 3) hr rfl sc_are_numbers.nd B.tb_are_numbers rfl (si_tup (se_var (pv 1))) (blkOk_by (N := n_are_numbers) (sc := defScope s_are_numbers) (by decide +kernel)) rfl (by decide) rfl (fun _ _ _ _ _ _ => (sg_name (i := 3) sc_are_numbers.nd rfl (by first | exact Or.inl rfl | exact Or.inr rfl))) (fun _ _ _ _ _ _ => sf_nil) (fun _ _ _ _ _ _ => (se_call (can (ok_is_between T B) (room_in (hr.mono (by decide)))) takes0 (by rfl) T.g_is_between T.F_is_between.kp (b_is_between T) (sa_cons (se_var (pv 3)) (sa_cons se_int (sa_cons (se_var (pv 2)) sa_nil))))) (fun _ => rfl)) (by rfl) T.m_all))))
abbrev io_flood : List Bool := [false, false, false, false]
noncomputable def bd_flood : MS := (mSeq (mExpr (mCall io_require m_require (mCons (mAnd (mCall io_is_lot m_is_lot (mCons (mVar 1) mNil)) (mGAll false (mIT (mVar 1)) (gN 4) mYes (mCall io_is_switch_of m_is_switch_of (mCons (mVar 0) (mCons (mVar 4) mNil))) [4])) (mCons (mC (.str "usable")) mNil))))
    (mSeq (mExpr (mCall io_require m_require (mCons (mCall io_are_numbers m_are_numbers (mCons (mVar 0) (mCons (mVar 2) (mCons (mC (.int 11)) mNil)))) (mCons (mC (.str "starts")) mNil))))
    (mSeq (mExpr (mCall io_require m_require (mCons (mCall io_are_numbers m_are_numbers (mCons (mVar 0) (mCons (mVar 3) (mCons (mC (.int 12)) mNil)))) (mCons (mC (.str "floors")) mNil))))
    (mRet (mBin idxD (mCall io_flooded m_flooded (mCons (mVar 0) (mCons (mVar 1) (mCons (mVar 2) (mCons (mVar 3) mNil))))) (mC (.int 0)))))))
noncomputable def m_flood : MF := runF 5 io_flood bd_flood
theorem ok_flood (T : Txt K mg) (B : Tabs K mg base) : FnOk P w K mg base (L2.CX P w) 5 (a_flood K) T.fd_flood ["net", "usable", "starts", "floors"] (spF K (ts K) io_flood m_flood) :=
  fn_ok (n := 5) (io := io_flood) (m := bd_flood) (l := ts K) T.F_flood sc_flood rfl rfl fun A outer s H E hr =>
    (sb_cons (s1_expr (se_call (can (ok_require T B) (hr.mono (by decide))) (takes_of rfl rfl rfl rfl) (by rfl) T.g_require T.F_require.kp (b_require T) (sa_cons (se_and (se_call (can (ok_is_lot T B) (hr.mono (by decide))) (takes_of rfl rfl rfl rfl) (by rfl) T.g_is_lot T.F_is_lot.kp (b_is_lot T) (sa_cons (se_var (pv 1)) sa_nil)) (se_one (se_allG (own := [("switch", 4)]) (sge_mk (own := [("switch", 4)]) (by simp [ts]) (ix_name 4) hr rfl sc_flood.nd B.tb_flood rfl (si_tup (se_var (pv 1))) (blkOk_by (N := n_flood) (sc := defScope s_flood) (by decide +kernel)) rfl (by decide) rfl (fun _ _ _ _ _ _ => (sg_name (i := 4) sc_flood.nd rfl (by first | exact Or.inl rfl | exact Or.inr rfl))) (fun _ _ _ _ _ _ => sf_nil) (fun _ _ _ _ _ _ => (se_call (can (ok_is_switch_of T B) (room_in (hr.mono (by decide)))) takes0 (by rfl) T.g_is_switch_of T.F_is_switch_of.kp (b_is_switch_of T) (sa_cons (se_var (pv 0)) (sa_cons (se_var (pv 4)) sa_nil)))) (fun _ => rfl)) (by rfl) T.m_all))) (sa_cons se_str sa_nil))))
    (sb_cons (s1_expr (se_call (can (ok_require T B) (hr.mono (by decide))) (takes_of rfl rfl rfl rfl) (by rfl) T.g_require T.F_require.kp (b_require T) (sa_cons (se_call (can (ok_are_numbers T B) (hr.mono (by decide))) (takes_of rfl rfl rfl rfl) (by rfl) T.g_are_numbers T.F_are_numbers.kp (b_are_numbers T) (sa_cons (se_var (pv 0)) (sa_cons (se_var (pv 2)) (sa_cons (se_c (d := (.int 11)) (pe_glob (v := (.int 11)) (by rfl) T.v_RANK_OF_FEEDS ⟨_, rfl⟩) fun _ _ => rfl) sa_nil)))) (sa_cons se_str sa_nil))))
    (sb_cons (s1_expr (se_call (can (ok_require T B) (hr.mono (by decide))) (takes_of rfl rfl rfl rfl) (by rfl) T.g_require T.F_require.kp (b_require T) (sa_cons (se_call (can (ok_are_numbers T B) (hr.mono (by decide))) (takes_of rfl rfl rfl rfl) (by rfl) T.g_are_numbers T.F_are_numbers.kp (b_are_numbers T) (sa_cons (se_var (pv 0)) (sa_cons (se_var (pv 3)) (sa_cons (se_c (d := (.int 12)) (pe_glob (v := (.int 12)) (by rfl) T.v_GREATEST_FLOOR ⟨_, rfl⟩) fun _ _ => rfl) sa_nil)))) (sa_cons se_str sa_nil))))
    (sb_one (s1_ret (se_ix (se_call (can (ok_flooded T B) (hr.mono (by decide))) (takes_of rfl rfl rfl rfl) (by rfl) T.g_flooded T.F_flooded.kp (b_flooded T) (sa_cons (se_var (pv 0)) (sa_cons (se_var (pv 1)) (sa_cons (se_var (pv 2)) (sa_cons (se_var (pv 3)) sa_nil))))) se_int))))))
abbrev io_l_no_rank : List Bool := [false, false, false]
noncomputable def bd_l_no_rank : MS := (mSeq (mSet 3 (mLst mNil))
    (mSeq (mTryAs 4 (tbl [("NotUsable", true)]) (mIfS (mTest (mIsX 4 (tbl [("NotUsable", true)])))
      (mSeq (mExpr (mAppend 3 (mXf 4 (ins [("NotUsable", true)]) "word")))
    (mExpr (mAppend 3 (mXf 4 (ins [("NotUsable", true)]) "at"))))
      mSkip)
      []
      (mSeq (mExpr (mCall io_rank_of m_rank_of (mCons (mVar 0) (mCons (mVar 1) mNil))))
    (mExpr (mAppend 3 (mC (.str "let"))))))
    (mSeq (mTryAs 4 (tbl [("NotUsable", true)]) (mIfS (mTest (mIsX 4 (tbl [("NotUsable", true)])))
      (mSeq (mExpr (mAppend 3 (mXf 4 (ins [("NotUsable", true)]) "word")))
    (mExpr (mAppend 3 (mXf 4 (ins [("NotUsable", true)]) "at"))))
      mSkip)
      []
      (mSeq (mExpr (mCall io_switch_rank m_switch_rank (mCons (mVar 0) (mCons (mVar 2) mNil))))
    (mExpr (mAppend 3 (mC (.str "let"))))))
    (mRet (mFn tupD (mCons (mVar 3) mNil))))))
noncomputable def m_l_no_rank : MF := runF 5 io_l_no_rank bd_l_no_rank
theorem ok_l_no_rank (T : Txt K mg) (B : Tabs K mg base) : FnOk P w K mg base (L2.CX P w) 5 (a_l_no_rank K) T.fd_l_no_rank ["_law_web_here", "_law_spot", "_law_place"] (spF K (ts K) io_l_no_rank m_l_no_rank) :=
  fn_ok (n := 5) (io := io_l_no_rank) (m := bd_l_no_rank) (l := ts K) T.F_l_no_rank sc_l_no_rank rfl rfl fun A outer s H E hr =>
    (sb_cons (s1_set (i := 3) sc_l_no_rank.nd rfl (by first | exact Or.inl rfl | exact Or.inr rfl) (se_lst sa_nil))
    (sb_cons (s1_tryAs (i := 4) (tab := (tbl [("NotUsable", true)])) rfl rfl sc_l_no_rank.nd rfl (by first | rfl | decide) ⟨by rfl, by decide, .inl T.c_UseError⟩ (tab_ok (tok_cons T.e_NotUsable_UseError tok_nil)) (takes_of rfl rfl rfl rfl) (fun W pn xe tk po => (sb_cons (s1_expr (se_call (can (ok_rank_of T B) (hr.mono (by decide))) tk (by rfl) T.g_rank_of T.F_rank_of.kp (b_rank_of T) (sa_cons (se_var (pv 0)) (sa_cons (se_var (pv 1)) sa_nil))))
    (sb_one (s1_expr (se_append (i := 3) (pv 3) se_str)))))
      (fun a oe cls d pn hz hf => (sb_one (s1_if (st_val (se_isX (i := 4) (tab := tbl [("NotUsable", true)]) (vc := (.ref (He.ga K "NotUsable"))) (cv := (.ref (He.ga K "NotUsable"))) hz hf (tok_cons ⟨T.x_NotUsable.ec, T.k_NotUsable_NotUsable⟩ tok_nil) (fun _ h => h) (by rfl) T.m_isinstance (pv 4) (pe_glob (v := .ref (He.ga K "NotUsable")) (by rfl) T.c_NotUsable rfl)))
      (sb_cons (s1_expr (se_append (i := 3) (pv 3) (se_xf (i := 4) (tab := ins [("NotUsable", true)]) hz hf (ins_ok (tok_cons ⟨T.x_NotUsable.xf, T.f_NotUsable_word⟩ tok_nil)) (pv 4))))
    (sb_one (s1_expr (se_append (i := 3) (pv 3) (se_xf (i := 4) (tab := ins [("NotUsable", true)]) hz hf (ins_ok (tok_cons ⟨T.x_NotUsable.xf, T.f_NotUsable_at⟩ tok_nil)) (pv 4))))))
      sb_nil)))
      SHds.nil)
    (sb_cons (s1_tryAs (i := 4) (tab := (tbl [("NotUsable", true)])) rfl rfl sc_l_no_rank.nd rfl (by first | rfl | decide) ⟨by rfl, by decide, .inl T.c_OhmError⟩ (tab_ok (tok_cons T.e_NotUsable_OhmError tok_nil)) (takes_of rfl rfl rfl rfl) (fun W pn xe tk po => (sb_cons (s1_expr (se_call (can (ok_switch_rank T B) (hr.mono (by decide))) tk (by rfl) T.g_switch_rank T.F_switch_rank.kp (b_switch_rank T) (sa_cons (se_var (pv 0)) (sa_cons (se_var (pv 2)) sa_nil))))
    (sb_one (s1_expr (se_append (i := 3) (pv 3) se_str)))))
      (fun a oe cls d pn hz hf => (sb_one (s1_if (st_val (se_isX (i := 4) (tab := tbl [("NotUsable", true)]) (vc := (.ref (He.ga K "NotUsable"))) (cv := (.ref (He.ga K "NotUsable"))) hz hf (tok_cons ⟨T.x_NotUsable.ec, T.k_NotUsable_NotUsable⟩ tok_nil) (fun _ h => h) (by rfl) T.m_isinstance (pv 4) (pe_glob (v := .ref (He.ga K "NotUsable")) (by rfl) T.c_NotUsable rfl)))
      (sb_cons (s1_expr (se_append (i := 3) (pv 3) (se_xf (i := 4) (tab := ins [("NotUsable", true)]) hz hf (ins_ok (tok_cons ⟨T.x_NotUsable.xf, T.f_NotUsable_word⟩ tok_nil)) (pv 4))))
    (sb_one (s1_expr (se_append (i := 3) (pv 3) (se_xf (i := 4) (tab := ins [("NotUsable", true)]) hz hf (ins_ok (tok_cons ⟨T.x_NotUsable.xf, T.f_NotUsable_at⟩ tok_nil)) (pv 4))))))
      sb_nil)))
      SHds.nil)
    (sb_one (s1_ret (se_callTy fns_tup (by rfl) T.m_tuple (by decide +kernel) (sa_cons (se_var (pv 3)) sa_nil)))))))
abbrev io_l_refused : List Bool := [false, false, false, false]
noncomputable def bd_l_refused : MS := (mSeq (mTryAs 4 (tbl [("NotUsable", true)]) (mSeq (mIfS (mTest (mIsX 4 (tbl [("NotUsable", false)])))
      (mRet (mC .non))
      mSkip)
    (mSeq (mIfS (mOrT (mNotT (mTest (mIsX 4 (tbl [("NotUsable", true)])))) (mOrT (mNotT (mTest (mIsX 4 (tbl [("NotUsable", true)])))) (mNotT (mTest (mIsX 4 (tbl [("NotUsable", true)]))))))
      (mRet (mC .non))
      mSkip)
    (mRet (mTup (mCons (mXf 4 (ins [("NotUsable", true)]) "word") (mCons (mXf 4 (ins [("NotUsable", true)]) "at") mNil))))))
      []
      (mExpr (mCall io_flood m_flood (mCons (mVar 0) (mCons (mVar 1) (mCons (mVar 2) (mCons (mVar 3) mNil)))))))
    (mRet (mC .non)))
noncomputable def m_l_refused : MF := runF 5 io_l_refused bd_l_refused
theorem ok_l_refused (T : Txt K mg) (B : Tabs K mg base) : FnOk P w K mg base (L2.CX P w) 6 (a_l_refused K) T.fd_l_refused ["_law_web_here", "_law_lets", "_law_begins_here", "_law_bars_here"] (spF K (ts K) io_l_refused m_l_refused) :=
  fn_ok (n := 5) (io := io_l_refused) (m := bd_l_refused) (l := ts K) T.F_l_refused sc_l_refused rfl rfl fun A outer s H E hr =>
    (sb_cons (s1_tryAs (i := 4) (tab := (tbl [("NotUsable", true)])) rfl rfl sc_l_refused.nd rfl (by first | rfl | decide) ⟨by rfl, by decide, .inl T.c_NotUsable⟩ (tab_ok (tok_cons T.e_NotUsable_NotUsable tok_nil)) (takes_of rfl rfl rfl rfl) (fun W pn xe tk po => (sb_one (s1_expr (se_call (can (ok_flood T B) (hr.mono (by decide))) tk (by rfl) T.g_flood T.F_flood.kp (b_flood T) (sa_cons (se_var (pv 0)) (sa_cons (se_var (pv 1)) (sa_cons (se_var (pv 2)) (sa_cons (se_var (pv 3)) sa_nil))))))))
      (fun a oe cls d pn hz hf => (sb_cons (s1_if (st_val (se_isXT (i := 4) (tab := tbl [("NotUsable", false)]) (cs := [(.ref (He.ga K "NetError")), (.ref (He.ga K "TextError")), (.ref (He.ga K "LiveError"))]) (us := [.ref (He.ga K "NetError"), .ref (He.ga K "TextError"), .ref (He.ga K "LiveError")]) hz hf (tok_cons ⟨T.x_NotUsable.ec, T.ka_NotUsable_NetError_TextError_LiveError⟩ tok_nil) (.cons (.own _) (.cons (.own _) (.cons (.own _) .nil))) (by rfl) T.m_isinstance (pv 4) (pa_cons (pe_glob (v := .ref (He.ga K "NetError")) (by rfl) T.c_NetError rfl) (pa_cons (pe_glob (v := .ref (He.ga K "TextError")) (by rfl) T.c_TextError rfl) (pa_cons (pe_glob (v := .ref (He.ga K "LiveError")) (by rfl) T.c_LiveError rfl) pa_nil))) (fun _ _ _ h => h) (by simp [sizeLine])))
      (sb_one (s1_ret se_non))
      sb_nil)
    (sb_cons (s1_if (SW.st (sw_or (st_not (st_val (se_isX (i := 4) (tab := tbl [("NotUsable", true)]) (vc := (.ref (He.ga K "UseError"))) (cv := (.ref (He.ga K "UseError"))) hz hf (tok_cons ⟨T.x_NotUsable.ec, T.k_NotUsable_UseError⟩ tok_nil) (fun _ h => h) (by rfl) T.m_isinstance (pv 4) (pe_glob (v := .ref (He.ga K "UseError")) (by rfl) T.c_UseError rfl)))) (sw_or (st_not (st_val (se_isX (i := 4) (tab := tbl [("NotUsable", true)]) (vc := (.ref (He.ga K "OhmError"))) (cv := (.ref (He.ga K "OhmError"))) hz hf (tok_cons ⟨T.x_NotUsable.ec, T.k_NotUsable_OhmError⟩ tok_nil) (fun _ h => h) (by rfl) T.m_isinstance (pv 4) (pe_glob (v := .ref (He.ga K "OhmError")) (by rfl) T.c_OhmError rfl)))) (sw_or1 (st_not (st_val (se_isX (i := 4) (tab := tbl [("NotUsable", true)]) (vc := (.ty "ValueError")) (cv := (.type "ValueError")) hz hf (tok_cons ⟨T.x_NotUsable.ec, T.k_NotUsable_ValueError⟩ tok_nil) (fun _ h => h) (by rfl) T.m_isinstance (pv 4) (pe_bltn (v := .ty "ValueError") (by rfl) T.m_ValueError (by decide +kernel) rfl))))))))
      (sb_one (s1_ret se_non))
      sb_nil)
    (sb_one (s1_ret (se_tup (sa_cons (se_xf (i := 4) (tab := ins [("NotUsable", true)]) hz hf (ins_ok (tok_cons ⟨T.x_NotUsable.xf, T.f_NotUsable_word⟩ tok_nil)) (pv 4)) (sa_cons (se_xf (i := 4) (tab := ins [("NotUsable", true)]) hz hf (ins_ok (tok_cons ⟨T.x_NotUsable.xf, T.f_NotUsable_at⟩ tok_nil)) (pv 4)) sa_nil))))))))
      SHds.nil)
    (sb_one (s1_ret se_non)))
abbrev io_l_same : List Bool := [false, false]
noncomputable def bd_l_same (M_l_same : MF) : MS := (mSeq (mIfS (mAndT (mTest (mIsi "tuple" (mVar 0))) (mTest (mIsi "tuple" (mVar 1))))
      (mSeq (mIfS (mTest (mBin neD (mFn lenD (mCons (mVar 0) mNil)) (mFn lenD (mCons (mVar 1) mNil))))
      (mRet (mC (.bl false)))
      mSkip)
    (mSeq (mFor (mIR1 (mCons (mFn lenD (mCons (mVar 0) mNil)) mNil)) (gN 2)
      (mIfS (mNotT (mTest (mCall io_l_same M_l_same (mCons (mBin idxD (mVar 0) (mVar 2)) (mCons (mBin idxD (mVar 1) (mVar 2)) mNil)))))
      (mRet (mC (.bl false)))
      mSkip))
    (mRet (mC (.bl true)))))
      mSkip)
    (mSeq (mIfS (mOrT (mTest (mBin (isD false) (mVar 0) (mC .non))) (mTest (mBin (isD false) (mVar 1) (mC .non))))
      (mRet (mAnd (mBin (isD false) (mVar 0) (mC .non)) (mBin (isD false) (mVar 1) (mC .non))))
      mSkip)
    (mSeq (mIfS (mOrT (mTest (mIsi "bool" (mVar 0))) (mTest (mIsi "bool" (mVar 1))))
      (mRet (mOr (mAnd (mBin (isD false) (mVar 0) (mC (.bl true))) (mBin (isD false) (mVar 1) (mC (.bl true)))) (mAnd (mBin (isD false) (mVar 0) (mC (.bl false))) (mBin (isD false) (mVar 1) (mC (.bl false))))))
      mSkip)
    (mSeq (mIfS (mAndT (mTest (mIsi "int" (mVar 0))) (mTest (mIsi "int" (mVar 1))))
      (mRet (mBin eqD (mVar 0) (mVar 1)))
      mSkip)
    (mSeq (mIfS (mAndT (mTest (mIsi "str" (mVar 0))) (mTest (mIsi "str" (mVar 1))))
      (mRet (mBin eqD (mVar 0) (mVar 1)))
      mSkip)
    (mRet (mC (.bl false))))))))
noncomputable def rec_l_same : Nat → MF
  | 0 => fun _ => .no
  | n + 1 => runF 3 io_l_same (bd_l_same (rec_l_same n))
noncomputable def r_l_same (n : Nat) : MF := (rec_l_same n)
theorem rq_l_same (n : Nat) : r_l_same (n + 1) = runF 3 io_l_same (bd_l_same (r_l_same n)) := rfl
theorem rz_l_same : r_l_same 0 = fun _ => .no := rfl
noncomputable def m_l_same : MF := r_l_same 12
theorem okR_l_same (T : Txt K mg) (B : Tabs K mg base) : ∀ n : Nat, FnOk P w K mg base (L2.CX P w) (1 * n + 1) (a_l_same K) T.fd_l_same ["_law_one", "_law_other"] (spF K (ts K) io_l_same (r_l_same n))
  | 0 => fn_zero (k := 0) T.F_l_same sc_l_same rfl
  | n + 1 => by
    have ih := okR_l_same T B n
    have ih_l_same := ih
    have lv : 1 * (n + 1) + 1 = (1 * n + 1) + 1 := by omega
    rw [lv, rq_l_same]
    exact fn_ok (n := 3) (io := io_l_same) (m := bd_l_same (r_l_same n)) (l := ts K) T.F_l_same sc_l_same rfl rfl fun A outer s H E hr =>
    (sb_cons (s1_if (SW.st (sw_and (st_val (se_isi (b := "tuple") (by decide) (by rfl) T.m_isinstance (se_var (pv 0)) (pe_bltn (v := .ty "tuple") (by rfl) T.m_tuple (by decide +kernel) rfl))) (sw_and1 (st_val (se_isi (b := "tuple") (by decide) (by rfl) T.m_isinstance (se_var (pv 1)) (pe_bltn (v := .ty "tuple") (by rfl) T.m_tuple (by decide +kernel) rfl))))))
      (sb_cons (s1_if (st_cmp (ops_ne (hu_of hr)) (se_callB fns_len (by rfl) T.m_len (by decide +kernel) (sa_cons (se_var (pv 0)) sa_nil)) (se_callB fns_len (by rfl) T.m_len (by decide +kernel) (sa_cons (se_var (pv 1)) sa_nil)) (nomark _))
      (sb_one (s1_ret se_bl))
      sb_nil)
    (sb_cons (s1_for (passes_of rfl) rfl (si_range1 (by rfl) T.m_range (sa_cons (se_callB fns_len (by rfl) T.m_len (by decide +kernel) (sa_cons (se_var (pv 0)) sa_nil)) sa_nil)) (sg_name (i := 2) sc_l_same.nd rfl (by first | exact Or.inl rfl | exact Or.inr rfl))
      (sb_one (s1_if (st_not (st_val (se_call (can ih_l_same (hr.mono (by omega))) (takes_of rfl rfl rfl rfl) (by rfl) T.g_l_same T.F_l_same.kp (b_l_same T) (sa_cons (se_ix (se_var (pv 0)) (se_var (pv 2))) (sa_cons (se_ix (se_var (pv 1)) (se_var (pv 2))) sa_nil)))))
      (sb_one (s1_ret se_bl))
      sb_nil)))
    (sb_one (s1_ret se_bl))))
      sb_nil)
    (sb_cons (s1_if (SW.st (sw_or (st_cmp ops_is (se_var (pv 0)) se_non (nomark _)) (sw_or1 (st_cmp ops_is (se_var (pv 1)) se_non (nomark _)))))
      (sb_one (s1_ret (se_and (se_cmp ops_is (se_var (pv 0)) se_non (nomark _)) (se_one (se_cmp ops_is (se_var (pv 1)) se_non (nomark _))))))
      sb_nil)
    (sb_cons (s1_if (SW.st (sw_or (st_val (se_isi (b := "bool") (by decide) (by rfl) T.m_isinstance (se_var (pv 0)) (pe_bltn (v := .ty "bool") (by rfl) T.m_bool (by decide +kernel) rfl))) (sw_or1 (st_val (se_isi (b := "bool") (by decide) (by rfl) T.m_isinstance (se_var (pv 1)) (pe_bltn (v := .ty "bool") (by rfl) T.m_bool (by decide +kernel) rfl))))))
      (sb_one (s1_ret (se_or (se_and (se_cmp ops_is (se_var (pv 0)) se_bl (nomark _)) (se_one (se_cmp ops_is (se_var (pv 1)) se_bl (nomark _)))) (se_one (se_and (se_cmp ops_is (se_var (pv 0)) se_bl (nomark _)) (se_one (se_cmp ops_is (se_var (pv 1)) se_bl (nomark _))))))))
      sb_nil)
    (sb_cons (s1_if (SW.st (sw_and (st_val (se_isi (b := "int") (by decide) (by rfl) T.m_isinstance (se_var (pv 0)) (pe_bltn (v := .ty "int") (by rfl) T.m_int (by decide +kernel) rfl))) (sw_and1 (st_val (se_isi (b := "int") (by decide) (by rfl) T.m_isinstance (se_var (pv 1)) (pe_bltn (v := .ty "int") (by rfl) T.m_int (by decide +kernel) rfl))))))
      (sb_one (s1_ret (se_cmp (ops_eq (hu_of hr)) (se_var (pv 0)) (se_var (pv 1)) (nomark _))))
      sb_nil)
    (sb_cons (s1_if (SW.st (sw_and (st_val (se_isi (b := "str") (by decide) (by rfl) T.m_isinstance (se_var (pv 0)) (pe_bltn (v := .ty "str") (by rfl) T.m_str (by decide +kernel) rfl))) (sw_and1 (st_val (se_isi (b := "str") (by decide) (by rfl) T.m_isinstance (se_var (pv 1)) (pe_bltn (v := .ty "str") (by rfl) T.m_str (by decide +kernel) rfl))))))
      (sb_one (s1_ret (se_cmp (ops_eq (hu_of hr)) (se_var (pv 0)) (se_var (pv 1)) (nomark _))))
      sb_nil)
    (sb_one (s1_ret se_bl)))))))
theorem ok_l_same (T : Txt K mg) (B : Tabs K mg base) : FnOk P w K mg base (L2.CX P w) 13 (a_l_same K) T.fd_l_same ["_law_one", "_law_other"] (spF K (ts K) io_l_same m_l_same) := (okR_l_same T B 12)
abbrev io_l_refusals : List Bool := [true, false, false, false, false]
noncomputable def bd_l_refusals : MS := (mSeq (mSet 5 (mFn lenD (mCons (mBin idxD (mVar 1) (mC (.int 2))) mNil)))
    (mSeq (mSet 6 (mCall io_l_pick m_l_pick (mCons (mVar 0) (mCons (mFn lenD (mCons (mVar 3) mNil)) mNil))))
    (mSeq (mSet 7 (mCall io_l_pick m_l_pick (mCons (mVar 0) (mCons (mC (.int 10)) mNil))))
    (mSeq (mSet 8 (mBin idxD (mTup (mCons (mC (.bl true)) (mCons (mNeg (mC (.int 1))) (mCons (mC .non) (mCons (mC (.str "1")) (mCons (mTup (mCons (mC (.int 1)) mNil)) (mCons (mC (.bl false)) mNil))))))) (mCall io_l_pick m_l_pick (mCons (mVar 0) (mCons (mC (.int 6)) mNil)))))
    (mSeq (mSet 9 (mVar 8))
    (mSeq (mSet 10 (mVar 8))
    (mSeq (mIfS (mTest (mBin eqD (mCall io_l_pick m_l_pick (mCons (mVar 0) (mCons (mC (.int 2)) mNil))) (mC (.int 0))))
      (mSeq (mSet 9 (mC (.int 12)))
    (mSet 10 (mC (.int 13))))
      mSkip)
    (mSeq (mSet 11 (mCall io_l_spoilt m_l_spoilt (mCons (mVar 3) (mCons (mVar 6) (mCons (mVar 9) (mCons (mVar 7) mNil))))))
    (mSeq (mSet 12 (mCall io_l_spoilt m_l_spoilt (mCons (mVar 4) (mCons (mVar 6) (mCons (mVar 10) (mCons (mVar 7) mNil))))))
    (mSeq (mSet 13 (mLst (mCons (mBin addD (mVar 2) (mTup (mCons (mVar 5) mNil))) (mCons (mFn listD (mCons (mVar 2) mNil)) (mCons (mTup (mCons (mC (.bl true)) mNil)) (mCons (mTup (mCons (mC (.int 0)) (mCons (mC (.int 0)) mNil))) (mCons (mTup (mCons (mC (.int 1)) (mCons (mC (.int 0)) mNil))) (mCons (mBin addD (mTup (mCons (mNeg (mC (.int 1))) mNil)) (mVar 2)) (mCons (mC .non) (mCons (mC (.int 0)) (mCons (mC (.str "")) (mCons (mTup (mCons (mC .non) mNil)) mNil))))))))))))
    (mSeq (mSet 14 (mBin idxD (mVar 13) (mCall io_l_pick m_l_pick (mCons (mVar 0) (mCons (mC (.int 10)) mNil)))))
    (mSeq (mIfS (mNotT (mTest (mCall io_l_same m_l_same (mCons (mCall io_l_refused m_l_refused (mCons (mVar 1) (mCons (mVar 14) (mCons (mVar 3) (mCons (mVar 4) mNil))))) (mCons (mTup (mCons (mC (.str "usable")) (mCons (mNeg (mC (.int 1))) mNil))) mNil)))))
      (mRet (mC (.bl false)))
      mSkip)
    (mSeq (mIfS (mNotT (mTest (mCall io_l_same m_l_same (mCons (mCall io_l_refused m_l_refused (mCons (mVar 1) (mCons (mVar 14) (mCons (mVar 11) (mCons (mVar 12) mNil))))) (mCons (mTup (mCons (mC (.str "usable")) (mCons (mNeg (mC (.int 1))) mNil))) mNil)))))
      (mRet (mC (.bl false)))
      mSkip)
    (mSeq (mIfS (mNotT (mTest (mCall io_l_same m_l_same (mCons (mCall io_l_refused m_l_refused (mCons (mVar 1) (mCons (mVar 2) (mCons (mVar 11) (mCons (mVar 4) mNil))))) (mCons (mTup (mCons (mC (.str "starts")) (mCons (mNeg (mC (.int 1))) mNil))) mNil)))))
      (mRet (mC (.bl false)))
      mSkip)
    (mSeq (mIfS (mNotT (mTest (mCall io_l_same m_l_same (mCons (mCall io_l_refused m_l_refused (mCons (mVar 1) (mCons (mVar 2) (mCons (mVar 11) (mCons (mVar 12) mNil))))) (mCons (mTup (mCons (mC (.str "starts")) (mCons (mNeg (mC (.int 1))) mNil))) mNil)))))
      (mRet (mC (.bl false)))
      mSkip)
    (mSeq (mIfS (mNotT (mTest (mCall io_l_same m_l_same (mCons (mCall io_l_refused m_l_refused (mCons (mVar 1) (mCons (mVar 2) (mCons (mVar 3) (mCons (mVar 12) mNil))))) (mCons (mTup (mCons (mC (.str "floors")) (mCons (mNeg (mC (.int 1))) mNil))) mNil)))))
      (mRet (mC (.bl false)))
      mSkip)
    (mSeq (mSet 15 (mBin idxD (mTup (mCons (mFn lenD (mCons (mVar 3) mNil)) (mCons (mNeg (mC (.int 1))) (mCons (mC (.bl true)) (mCons (mC .non) (mCons (mTup (mCons (mC (.int 0)) mNil)) (mCons (mC (.str "0")) (mCons (mBin powD (mC (.int 10)) (mC (.int 30))) mNil)))))))) (mCall io_l_pick m_l_pick (mCons (mVar 0) (mCons (mC (.int 7)) mNil)))))
    (mSeq (mIfS (mNotT (mTest (mCall io_l_same m_l_same (mCons (mCall io_l_no_rank m_l_no_rank (mCons (mVar 1) (mCons (mVar 15) (mCons (mVar 8) mNil)))) (mCons (mTup (mCons (mC (.str "node")) (mCons (mNeg (mC (.int 1))) (mCons (mC (.str "switch")) (mCons (mNeg (mC (.int 1))) mNil))))) mNil)))))
      (mRet (mC (.bl false)))
      mSkip)
    (mRet (mCall io_l_same m_l_same (mCons (mCall io_l_no_rank m_l_no_rank (mCons (mVar 1) (mCons (mVar 8) (mCons (mBin addD (mVar 5) (mBin mulD (mC (.int 7)) (mBin fdivD (mVar 7) (mC (.int 2))))) mNil)))) (mCons (mTup (mCons (mC (.str "node")) (mCons (mNeg (mC (.int 1))) (mCons (mC (.str "switch")) (mCons (mNeg (mC (.int 1))) mNil))))) mNil))))))))))))))))))))))
noncomputable def m_l_refusals : MF := runF 16 io_l_refusals bd_l_refusals
theorem ok_l_refusals (T : Txt K mg) (B : Tabs K mg base) : FnOk P w K mg base (L2.CX P w) 14 (a_l_refusals K) T.fd_l_refusals ["_law_tape_here", "_law_web_here", "_law_lets", "_law_begins_here", "_law_bars_here"] (spF K (ts K) io_l_refusals m_l_refusals) :=
  fn_ok (n := 16) (io := io_l_refusals) (m := bd_l_refusals) (l := ts K) T.F_l_refusals sc_l_refusals rfl rfl fun A outer s H E hr =>
    (sb_cons (s1_set (i := 5) sc_l_refusals.nd rfl (by first | exact Or.inl rfl | exact Or.inr rfl) (se_callB fns_len (by rfl) T.m_len (by decide +kernel) (sa_cons (se_ix (se_var (pv 1)) se_int) sa_nil)))
    (sb_cons (s1_set (i := 6) sc_l_refusals.nd rfl (by first | exact Or.inl rfl | exact Or.inr rfl) (se_call (can (ok_l_pick T B) (hr.mono (by decide))) (takes_of rfl rfl rfl rfl) (by rfl) T.g_l_pick T.F_l_pick.kp (b_l_pick T) (sa_cons (se_var (pv 0)) (sa_cons (se_callB fns_len (by rfl) T.m_len (by decide +kernel) (sa_cons (se_var (pv 3)) sa_nil)) sa_nil))))
    (sb_cons (s1_set (i := 7) sc_l_refusals.nd rfl (by first | exact Or.inl rfl | exact Or.inr rfl) (se_call (can (ok_l_pick T B) (hr.mono (by decide))) (takes_of rfl rfl rfl rfl) (by rfl) T.g_l_pick T.F_l_pick.kp (b_l_pick T) (sa_cons (se_var (pv 0)) (sa_cons se_int sa_nil))))
    (sb_cons (s1_set (i := 8) sc_l_refusals.nd rfl (by first | exact Or.inl rfl | exact Or.inr rfl) (se_ix (se_tup (sa_cons se_bl (sa_cons (se_neg se_int) (sa_cons se_non (sa_cons se_str (sa_cons (se_tup (sa_cons se_int sa_nil)) (sa_cons se_bl sa_nil))))))) (se_call (can (ok_l_pick T B) (hr.mono (by decide))) (takes_of rfl rfl rfl rfl) (by rfl) T.g_l_pick T.F_l_pick.kp (b_l_pick T) (sa_cons (se_var (pv 0)) (sa_cons se_int sa_nil)))))
    (sb_cons (s1_set (i := 9) sc_l_refusals.nd rfl (by first | exact Or.inl rfl | exact Or.inr rfl) (se_var (pv 8)))
    (sb_cons (s1_set (i := 10) sc_l_refusals.nd rfl (by first | exact Or.inl rfl | exact Or.inr rfl) (se_var (pv 8)))
    (sb_cons (s1_if (st_cmp (ops_eq (hu_of hr)) (se_call (can (ok_l_pick T B) (hr.mono (by decide))) (takes_of rfl rfl rfl rfl) (by rfl) T.g_l_pick T.F_l_pick.kp (b_l_pick T) (sa_cons (se_var (pv 0)) (sa_cons se_int sa_nil))) se_int (nomark _))
      (sb_cons (s1_set (i := 9) sc_l_refusals.nd rfl (by first | exact Or.inl rfl | exact Or.inr rfl) se_int)
    (sb_one (s1_set (i := 10) sc_l_refusals.nd rfl (by first | exact Or.inl rfl | exact Or.inr rfl) se_int)))
      sb_nil)
    (sb_cons (s1_set (i := 11) sc_l_refusals.nd rfl (by first | exact Or.inl rfl | exact Or.inr rfl) (se_call (can (ok_l_spoilt T B) (hr.mono (by decide))) (takes_of rfl rfl rfl rfl) (by rfl) T.g_l_spoilt T.F_l_spoilt.kp (b_l_spoilt T) (sa_cons (se_var (pv 3)) (sa_cons (se_var (pv 6)) (sa_cons (se_var (pv 9)) (sa_cons (se_var (pv 7)) sa_nil))))))
    (sb_cons (s1_set (i := 12) sc_l_refusals.nd rfl (by first | exact Or.inl rfl | exact Or.inr rfl) (se_call (can (ok_l_spoilt T B) (hr.mono (by decide))) (takes_of rfl rfl rfl rfl) (by rfl) T.g_l_spoilt T.F_l_spoilt.kp (b_l_spoilt T) (sa_cons (se_var (pv 4)) (sa_cons (se_var (pv 6)) (sa_cons (se_var (pv 10)) (sa_cons (se_var (pv 7)) sa_nil))))))
    (sb_cons (s1_set (i := 13) sc_l_refusals.nd rfl (by first | exact Or.inl rfl | exact Or.inr rfl) (se_lst (sa_cons (se_bin ops_add (se_var (pv 2)) (se_tup (sa_cons (se_var (pv 5)) sa_nil))) (sa_cons (se_callTy fns_list (by rfl) T.m_list (by decide +kernel) (sa_cons (se_var (pv 2)) sa_nil)) (sa_cons (se_tup (sa_cons se_bl sa_nil)) (sa_cons (se_tup (sa_cons se_int (sa_cons se_int sa_nil))) (sa_cons (se_tup (sa_cons se_int (sa_cons se_int sa_nil))) (sa_cons (se_bin ops_add (se_tup (sa_cons (se_neg se_int) sa_nil)) (se_var (pv 2))) (sa_cons se_non (sa_cons se_int (sa_cons se_str (sa_cons (se_tup (sa_cons se_non sa_nil)) sa_nil))))))))))))
    (sb_cons (s1_set (i := 14) sc_l_refusals.nd rfl (by first | exact Or.inl rfl | exact Or.inr rfl) (se_ix (se_var (pv 13)) (se_call (can (ok_l_pick T B) (hr.mono (by decide))) (takes_of rfl rfl rfl rfl) (by rfl) T.g_l_pick T.F_l_pick.kp (b_l_pick T) (sa_cons (se_var (pv 0)) (sa_cons se_int sa_nil)))))
    (sb_cons (s1_if (st_not (st_val (se_call (can (ok_l_same T B) (hr.mono (by decide))) (takes_of rfl rfl rfl rfl) (by rfl) T.g_l_same T.F_l_same.kp (b_l_same T) (sa_cons (se_call (can (ok_l_refused T B) (hr.mono (by decide))) (takes_of rfl rfl rfl rfl) (by rfl) T.g_l_refused T.F_l_refused.kp (b_l_refused T) (sa_cons (se_var (pv 1)) (sa_cons (se_var (pv 14)) (sa_cons (se_var (pv 3)) (sa_cons (se_var (pv 4)) sa_nil))))) (sa_cons (se_tup (sa_cons se_str (sa_cons (se_neg se_int) sa_nil))) sa_nil)))))
      (sb_one (s1_ret se_bl))
      sb_nil)
    (sb_cons (s1_if (st_not (st_val (se_call (can (ok_l_same T B) (hr.mono (by decide))) (takes_of rfl rfl rfl rfl) (by rfl) T.g_l_same T.F_l_same.kp (b_l_same T) (sa_cons (se_call (can (ok_l_refused T B) (hr.mono (by decide))) (takes_of rfl rfl rfl rfl) (by rfl) T.g_l_refused T.F_l_refused.kp (b_l_refused T) (sa_cons (se_var (pv 1)) (sa_cons (se_var (pv 14)) (sa_cons (se_var (pv 11)) (sa_cons (se_var (pv 12)) sa_nil))))) (sa_cons (se_tup (sa_cons se_str (sa_cons (se_neg se_int) sa_nil))) sa_nil)))))
      (sb_one (s1_ret se_bl))
      sb_nil)
    (sb_cons (s1_if (st_not (st_val (se_call (can (ok_l_same T B) (hr.mono (by decide))) (takes_of rfl rfl rfl rfl) (by rfl) T.g_l_same T.F_l_same.kp (b_l_same T) (sa_cons (se_call (can (ok_l_refused T B) (hr.mono (by decide))) (takes_of rfl rfl rfl rfl) (by rfl) T.g_l_refused T.F_l_refused.kp (b_l_refused T) (sa_cons (se_var (pv 1)) (sa_cons (se_var (pv 2)) (sa_cons (se_var (pv 11)) (sa_cons (se_var (pv 4)) sa_nil))))) (sa_cons (se_tup (sa_cons se_str (sa_cons (se_neg se_int) sa_nil))) sa_nil)))))
      (sb_one (s1_ret se_bl))
      sb_nil)
    (sb_cons (s1_if (st_not (st_val (se_call (can (ok_l_same T B) (hr.mono (by decide))) (takes_of rfl rfl rfl rfl) (by rfl) T.g_l_same T.F_l_same.kp (b_l_same T) (sa_cons (se_call (can (ok_l_refused T B) (hr.mono (by decide))) (takes_of rfl rfl rfl rfl) (by rfl) T.g_l_refused T.F_l_refused.kp (b_l_refused T) (sa_cons (se_var (pv 1)) (sa_cons (se_var (pv 2)) (sa_cons (se_var (pv 11)) (sa_cons (se_var (pv 12)) sa_nil))))) (sa_cons (se_tup (sa_cons se_str (sa_cons (se_neg se_int) sa_nil))) sa_nil)))))
      (sb_one (s1_ret se_bl))
      sb_nil)
    (sb_cons (s1_if (st_not (st_val (se_call (can (ok_l_same T B) (hr.mono (by decide))) (takes_of rfl rfl rfl rfl) (by rfl) T.g_l_same T.F_l_same.kp (b_l_same T) (sa_cons (se_call (can (ok_l_refused T B) (hr.mono (by decide))) (takes_of rfl rfl rfl rfl) (by rfl) T.g_l_refused T.F_l_refused.kp (b_l_refused T) (sa_cons (se_var (pv 1)) (sa_cons (se_var (pv 2)) (sa_cons (se_var (pv 3)) (sa_cons (se_var (pv 12)) sa_nil))))) (sa_cons (se_tup (sa_cons se_str (sa_cons (se_neg se_int) sa_nil))) sa_nil)))))
      (sb_one (s1_ret se_bl))
      sb_nil)
    (sb_cons (s1_set (i := 15) sc_l_refusals.nd rfl (by first | exact Or.inl rfl | exact Or.inr rfl) (se_ix (se_tup (sa_cons (se_callB fns_len (by rfl) T.m_len (by decide +kernel) (sa_cons (se_var (pv 3)) sa_nil)) (sa_cons (se_neg se_int) (sa_cons se_bl (sa_cons se_non (sa_cons (se_tup (sa_cons se_int sa_nil)) (sa_cons se_str (sa_cons (se_bin ops_pow se_int se_int) sa_nil)))))))) (se_call (can (ok_l_pick T B) (hr.mono (by decide))) (takes_of rfl rfl rfl rfl) (by rfl) T.g_l_pick T.F_l_pick.kp (b_l_pick T) (sa_cons (se_var (pv 0)) (sa_cons se_int sa_nil)))))
    (sb_cons (s1_if (st_not (st_val (se_call (can (ok_l_same T B) (hr.mono (by decide))) (takes_of rfl rfl rfl rfl) (by rfl) T.g_l_same T.F_l_same.kp (b_l_same T) (sa_cons (se_call (can (ok_l_no_rank T B) (hr.mono (by decide))) (takes_of rfl rfl rfl rfl) (by rfl) T.g_l_no_rank T.F_l_no_rank.kp (b_l_no_rank T) (sa_cons (se_var (pv 1)) (sa_cons (se_var (pv 15)) (sa_cons (se_var (pv 8)) sa_nil)))) (sa_cons (se_tup (sa_cons se_str (sa_cons (se_neg se_int) (sa_cons se_str (sa_cons (se_neg se_int) sa_nil))))) sa_nil)))))
      (sb_one (s1_ret se_bl))
      sb_nil)
    (sb_one (s1_ret (se_call (can (ok_l_same T B) (hr.mono (by decide))) (takes_of rfl rfl rfl rfl) (by rfl) T.g_l_same T.F_l_same.kp (b_l_same T) (sa_cons (se_call (can (ok_l_no_rank T B) (hr.mono (by decide))) (takes_of rfl rfl rfl rfl) (by rfl) T.g_l_no_rank T.F_l_no_rank.kp (b_l_no_rank T) (sa_cons (se_var (pv 1)) (sa_cons (se_var (pv 8)) (sa_cons (se_bin ops_add (se_var (pv 5)) (se_bin ops_mul se_int (se_bin ops_fdiv (se_var (pv 7)) se_int))) sa_nil)))) (sa_cons (se_tup (sa_cons se_str (sa_cons (se_neg se_int) (sa_cons se_str (sa_cons (se_neg se_int) sa_nil))))) sa_nil)))))))))))))))))))))))
abbrev io_law : List Bool := [false]
noncomputable def bd_law : MS := (mSeq (mSet 1 (mCall io_l_tape m_l_tape (mCons (mVar 0) mNil)))
    (mSeq (mSet 2 (mCall io_l_web m_l_web (mCons (mVar 1) mNil)))
    (mSeq (mSet 3 (mBin addD (mFn lenD (mCons (mBin idxD (mVar 2) (mC (.int 0))) mNil)) (mFn lenD (mCons (mBin idxD (mVar 2) (mC (.int 1))) mNil))))
    (mSeq (mFor (mIR1 (mCons (mVar 3) mNil)) (gN 4)
      (mSeq (mSet 5 (mCall io_l_rank m_l_rank (mCons (mVar 2) (mCons (mVar 4) mNil))))
    (mIfS (mOrT (mNotT (mTest (mCall io_l_same m_l_same (mCons (mCall io_rank_of m_rank_of (mCons (mVar 2) (mCons (mVar 4) mNil))) (mCons (mVar 5) mNil))))) (mNotT (mTest (mCall io_l_same m_l_same (mCons (mCallK [1, 0] io_rank_of m_rank_of (mCons (mVar 4) (mCons (mVar 2) mNil))) (mCons (mVar 5) mNil))))))
      (mRet (mC (.bl false)))
      mSkip)))
    (mSeq (mFor (mIR1 (mCons (mFn lenD (mCons (mBin idxD (mVar 2) (mC (.int 2))) mNil)) mNil)) (gN 6)
      (mSeq (mSet 5 (mBin addD (mC (.int 4)) (mBin idxD (mBin idxD (mBin idxD (mVar 2) (mC (.int 2))) (mVar 6)) (mC (.int 1)))))
    (mIfS (mOrT (mNotT (mTest (mCall io_l_same m_l_same (mCons (mCall io_switch_rank m_switch_rank (mCons (mVar 2) (mCons (mVar 6) mNil))) (mCons (mVar 5) mNil))))) (mNotT (mTest (mCall io_l_same m_l_same (mCons (mCallK [1, 0] io_switch_rank m_switch_rank (mCons (mVar 6) (mCons (mVar 2) mNil))) (mCons (mVar 5) mNil))))))
      (mRet (mC (.bl false)))
      mSkip)))
    (mSeq (mSet 7 (mLst mNil))
    (mSeq (mFor (mIR1 (mCons (mC (.int 4)) mNil)) (gN 8)
      (mSeq (mSet 9 (mFn tupD (mCons (mLc (mIR1 (mCons (mFn lenD (mCons (mBin idxD (mVar 2) (mC (.int 2))) mNil)) mNil)) (gN 14) (mTest (mBin gtD (mCall io_l_pick m_l_pick (mCons (mVar 1) (mCons (mC (.int 6)) mNil))) (mC (.int 0)))) (mVar 14) [14]) mNil)))
    (mSeq (mSet 10 (mCall io_l_begins m_l_begins (mCons (mVar 1) (mCons (mVar 2) mNil))))
    (mSeq (mSet 11 (mCall io_l_bars m_l_bars (mCons (mVar 1) (mCons (mCall io_l_widened m_l_widened (mCons (mVar 2) (mCons (mVar 9) (mCons (mVar 10) (mCons (mBin mulD (mTup (mCons (mC (.int 0)) mNil)) (mVar 3)) mNil))))) mNil))))
    (mSeq (mSet 5 (mCall io_l_widened m_l_widened (mCons (mVar 2) (mCons (mVar 9) (mCons (mVar 10) (mCons (mVar 11) mNil))))))
    (mSeq (mExpr (mAppend 7 (mTup (mCons (mVar 9) (mCons (mVar 10) (mCons (mVar 11) (mCons (mVar 5) mNil)))))))
    (mSeq (mIfS (mTest (mBin eqD (mVar 8) (mC (.int 1))))
      (mSet 12 (mCallK [3, 2, 1, 0] io_flood m_flood (mCons (mVar 11) (mCons (mVar 10) (mCons (mVar 9) (mCons (mVar 2) mNil))))))
      (mSet 12 (mCall io_flood m_flood (mCons (mVar 2) (mCons (mVar 9) (mCons (mVar 10) (mCons (mVar 11) mNil)))))))
    (mIfS (mOrT (mNotT (mTest (mIsi "tuple" (mVar 12)))) (mNotT (mTest (mCall io_l_same m_l_same (mCons (mVar 12) (mCons (mVar 5) mNil))))))
      (mRet (mC (.bl false)))
      mSkip))))))))
    (mSeq (mIfS (mNotT (mTest (mCall io_l_refusals m_l_refusals (mCons (mVar 1) (mCons (mVar 2) (mCons (mBin idxD (mBin idxD (mVar 7) (mC (.int 0))) (mC (.int 0))) (mCons (mBin idxD (mBin idxD (mVar 7) (mC (.int 0))) (mC (.int 1))) (mCons (mBin idxD (mBin idxD (mVar 7) (mC (.int 0))) (mC (.int 2))) mNil))))))))
      (mRet (mC (.bl false)))
      mSkip)
    (mSeq (mFor (mIL (mSl (mVar 7) mONo (mOSo (mC (.int 2))))) (gN 13)
      (mIfS (mNotT (mTest (mCall io_l_same m_l_same (mCons (mCall io_flood m_flood (mCons (mVar 2) (mCons (mBin idxD (mVar 13) (mC (.int 0))) (mCons (mBin idxD (mVar 13) (mC (.int 1))) (mCons (mBin idxD (mVar 13) (mC (.int 2))) mNil))))) (mCons (mBin idxD (mVar 13) (mC (.int 3))) mNil)))))
      (mRet (mC (.bl false)))
      mSkip))
    (mRet (mC (.bl true))))))))))))
noncomputable def m_law : MF := runF 15 io_law bd_law
theorem ok_law (T : Txt K mg) (B : Tabs K mg base) : FnOk P w K mg base (L2.CX P w) 15 (a_law K) T.fd_law ["_law_script"] (spF K (ts K) io_law m_law) :=
  fn_ok (n := 15) (io := io_law) (m := bd_law) (l := ts K) T.F_law sc_law rfl rfl fun A outer s H E hr =>
    (sb_cons (s1_set (i := 1) sc_law.nd rfl (by first | exact Or.inl rfl | exact Or.inr rfl) (se_call (can (ok_l_tape T B) (hr.mono (by decide))) (takes_of rfl rfl rfl rfl) (by rfl) T.g_l_tape T.F_l_tape.kp (b_l_tape T) (sa_cons (se_var (pv 0)) sa_nil)))
    (sb_cons (s1_set (i := 2) sc_law.nd rfl (by first | exact Or.inl rfl | exact Or.inr rfl) (se_call (can (ok_l_web T B) (hr.mono (by decide))) (takes_of rfl rfl rfl rfl) (by rfl) T.g_l_web T.F_l_web.kp (b_l_web T) (sa_cons (se_var (pv 1)) sa_nil)))
    (sb_cons (s1_set (i := 3) sc_law.nd rfl (by first | exact Or.inl rfl | exact Or.inr rfl) (se_bin ops_add (se_callB fns_len (by rfl) T.m_len (by decide +kernel) (sa_cons (se_ix (se_var (pv 2)) se_int) sa_nil)) (se_callB fns_len (by rfl) T.m_len (by decide +kernel) (sa_cons (se_ix (se_var (pv 2)) se_int) sa_nil))))
    (sb_cons (s1_for (passes_of rfl) rfl (si_range1 (by rfl) T.m_range (sa_cons (se_var (pv 3)) sa_nil)) (sg_name (i := 4) sc_law.nd rfl (by first | exact Or.inl rfl | exact Or.inr rfl))
      (sb_cons (s1_set (i := 5) sc_law.nd rfl (by first | exact Or.inl rfl | exact Or.inr rfl) (se_call (can (ok_l_rank T B) (hr.mono (by decide))) (takes_of rfl rfl rfl rfl) (by rfl) T.g_l_rank T.F_l_rank.kp (b_l_rank T) (sa_cons (se_var (pv 2)) (sa_cons (se_var (pv 4)) sa_nil))))
    (sb_one (s1_if (SW.st (sw_or (st_not (st_val (se_call (can (ok_l_same T B) (hr.mono (by decide))) (takes_of rfl rfl rfl rfl) (by rfl) T.g_l_same T.F_l_same.kp (b_l_same T) (sa_cons (se_call (can (ok_rank_of T B) (hr.mono (by decide))) (takes_of rfl rfl rfl rfl) (by rfl) T.g_rank_of T.F_rank_of.kp (b_rank_of T) (sa_cons (se_var (pv 2)) (sa_cons (se_var (pv 4)) sa_nil))) (sa_cons (se_var (pv 5)) sa_nil))))) (sw_or1 (st_not (st_val (se_call (can (ok_l_same T B) (hr.mono (by decide))) (takes_of rfl rfl rfl rfl) (by rfl) T.g_l_same T.F_l_same.kp (b_l_same T) (sa_cons (se_callK (π := [1, 0]) (can (ok_rank_of T B) (hr.mono (by decide))) (takes_of rfl rfl rfl rfl) (by rfl) T.g_rank_of T.F_rank_of.kp (kb_rank_of_node_net T) (sk_cons (se_var (pv 4)) (sk_cons (se_var (pv 2)) sk_nil))) (sa_cons (se_var (pv 5)) sa_nil))))))))
      (sb_one (s1_ret se_bl))
      sb_nil))))
    (sb_cons (s1_for (passes_of rfl) rfl (si_range1 (by rfl) T.m_range (sa_cons (se_callB fns_len (by rfl) T.m_len (by decide +kernel) (sa_cons (se_ix (se_var (pv 2)) se_int) sa_nil)) sa_nil)) (sg_name (i := 6) sc_law.nd rfl (by first | exact Or.inl rfl | exact Or.inr rfl))
      (sb_cons (s1_set (i := 5) sc_law.nd rfl (by first | exact Or.inl rfl | exact Or.inr rfl) (se_bin ops_add se_int (se_ix (se_ix (se_ix (se_var (pv 2)) se_int) (se_var (pv 6))) se_int)))
    (sb_one (s1_if (SW.st (sw_or (st_not (st_val (se_call (can (ok_l_same T B) (hr.mono (by decide))) (takes_of rfl rfl rfl rfl) (by rfl) T.g_l_same T.F_l_same.kp (b_l_same T) (sa_cons (se_call (can (ok_switch_rank T B) (hr.mono (by decide))) (takes_of rfl rfl rfl rfl) (by rfl) T.g_switch_rank T.F_switch_rank.kp (b_switch_rank T) (sa_cons (se_var (pv 2)) (sa_cons (se_var (pv 6)) sa_nil))) (sa_cons (se_var (pv 5)) sa_nil))))) (sw_or1 (st_not (st_val (se_call (can (ok_l_same T B) (hr.mono (by decide))) (takes_of rfl rfl rfl rfl) (by rfl) T.g_l_same T.F_l_same.kp (b_l_same T) (sa_cons (se_callK (π := [1, 0]) (can (ok_switch_rank T B) (hr.mono (by decide))) (takes_of rfl rfl rfl rfl) (by rfl) T.g_switch_rank T.F_switch_rank.kp (kb_switch_rank_switch_net T) (sk_cons (se_var (pv 6)) (sk_cons (se_var (pv 2)) sk_nil))) (sa_cons (se_var (pv 5)) sa_nil))))))))
      (sb_one (s1_ret se_bl))
      sb_nil))))
    (sb_cons (s1_set (i := 7) sc_law.nd rfl (by first | exact Or.inl rfl | exact Or.inr rfl) (se_lst sa_nil))
    (sb_cons (s1_for (passes_of rfl) rfl (si_range1 (by rfl) T.m_range (sa_cons se_int sa_nil)) (sg_name (i := 8) sc_law.nd rfl (by first | exact Or.inl rfl | exact Or.inr rfl))
      (sb_cons (s1_set (i := 9) sc_law.nd rfl (by first | exact Or.inl rfl | exact Or.inr rfl) (se_callTy fns_tup (by rfl) T.m_tuple (by decide +kernel) (sa_cons (se_lc (own := [("_law_k", 14)]) rfl sc_law.nd (si_range1 (by rfl) T.m_range (sa_cons (se_callB fns_len (by rfl) T.m_len (by decide +kernel) (sa_cons (se_ix (se_var (pv 2)) se_int) sa_nil)) sa_nil)) (blkOk_by (N := n_law) (sc := defScope s_law) (own := [("_law_k", 14)]) (by decide +kernel)) (ix_name 14) (fun _ _ _ _ _ => (sg_name (i := 14) sc_law.nd rfl (by first | exact Or.inl rfl | exact Or.inr rfl))) (fun _ _ _ _ _ => (sf_one (st_cmp ops_gt (se_call (can (ok_l_pick T B) (hr.mono (by decide))) takes0 (by rfl) T.g_l_pick T.F_l_pick.kp (b_l_pick T) (sa_cons (se_var (pv 1)) (sa_cons se_int sa_nil))) se_int (nomark _)))) (fun _ _ _ _ _ => (se_var (pv 14)))) sa_nil)))
    (sb_cons (s1_set (i := 10) sc_law.nd rfl (by first | exact Or.inl rfl | exact Or.inr rfl) (se_call (can (ok_l_begins T B) (hr.mono (by decide))) (takes_of rfl rfl rfl rfl) (by rfl) T.g_l_begins T.F_l_begins.kp (b_l_begins T) (sa_cons (se_var (pv 1)) (sa_cons (se_var (pv 2)) sa_nil))))
    (sb_cons (s1_set (i := 11) sc_law.nd rfl (by first | exact Or.inl rfl | exact Or.inr rfl) (se_call (can (ok_l_bars T B) (hr.mono (by decide))) (takes_of rfl rfl rfl rfl) (by rfl) T.g_l_bars T.F_l_bars.kp (b_l_bars T) (sa_cons (se_var (pv 1)) (sa_cons (se_call (can (ok_l_widened T B) (hr.mono (by decide))) (takes_of rfl rfl rfl rfl) (by rfl) T.g_l_widened T.F_l_widened.kp (b_l_widened T) (sa_cons (se_var (pv 2)) (sa_cons (se_var (pv 9)) (sa_cons (se_var (pv 10)) (sa_cons (se_bin ops_mul (se_tup (sa_cons se_int sa_nil)) (se_var (pv 3))) sa_nil))))) sa_nil))))
    (sb_cons (s1_set (i := 5) sc_law.nd rfl (by first | exact Or.inl rfl | exact Or.inr rfl) (se_call (can (ok_l_widened T B) (hr.mono (by decide))) (takes_of rfl rfl rfl rfl) (by rfl) T.g_l_widened T.F_l_widened.kp (b_l_widened T) (sa_cons (se_var (pv 2)) (sa_cons (se_var (pv 9)) (sa_cons (se_var (pv 10)) (sa_cons (se_var (pv 11)) sa_nil))))))
    (sb_cons (s1_expr (se_append (i := 7) (pv 7) (se_tup (sa_cons (se_var (pv 9)) (sa_cons (se_var (pv 10)) (sa_cons (se_var (pv 11)) (sa_cons (se_var (pv 5)) sa_nil)))))))
    (sb_cons (s1_if (st_cmp (ops_eq (hu_of hr)) (se_var (pv 8)) se_int (nomark _))
      (sb_one (s1_set (i := 12) sc_law.nd rfl (by first | exact Or.inl rfl | exact Or.inr rfl) (se_callK (π := [3, 2, 1, 0]) (can (ok_flood T B) (hr.mono (by decide))) (takes_of rfl rfl rfl rfl) (by rfl) T.g_flood T.F_flood.kp (kb_flood_floors_starts_usable_net T) (sk_cons (se_var (pv 11)) (sk_cons (se_var (pv 10)) (sk_cons (se_var (pv 9)) (sk_cons (se_var (pv 2)) sk_nil)))))))
      (sb_one (s1_set (i := 12) sc_law.nd rfl (by first | exact Or.inl rfl | exact Or.inr rfl) (se_call (can (ok_flood T B) (hr.mono (by decide))) (takes_of rfl rfl rfl rfl) (by rfl) T.g_flood T.F_flood.kp (b_flood T) (sa_cons (se_var (pv 2)) (sa_cons (se_var (pv 9)) (sa_cons (se_var (pv 10)) (sa_cons (se_var (pv 11)) sa_nil))))))))
    (sb_one (s1_if (SW.st (sw_or (st_not (st_val (se_isi (b := "tuple") (by decide) (by rfl) T.m_isinstance (se_var (pv 12)) (pe_bltn (v := .ty "tuple") (by rfl) T.m_tuple (by decide +kernel) rfl)))) (sw_or1 (st_not (st_val (se_call (can (ok_l_same T B) (hr.mono (by decide))) (takes_of rfl rfl rfl rfl) (by rfl) T.g_l_same T.F_l_same.kp (b_l_same T) (sa_cons (se_var (pv 12)) (sa_cons (se_var (pv 5)) sa_nil))))))))
      (sb_one (s1_ret se_bl))
      sb_nil)))))))))
    (sb_cons (s1_if (st_not (st_val (se_call (can (ok_l_refusals T B) (hr.mono (by decide))) (takes_of rfl rfl rfl rfl) (by rfl) T.g_l_refusals T.F_l_refusals.kp (b_l_refusals T) (sa_cons (se_var (pv 1)) (sa_cons (se_var (pv 2)) (sa_cons (se_ix (se_ix (se_var (pv 7)) se_int) se_int) (sa_cons (se_ix (se_ix (se_var (pv 7)) se_int) se_int) (sa_cons (se_ix (se_ix (se_var (pv 7)) se_int) se_int) sa_nil))))))))
      (sb_one (s1_ret se_bl))
      sb_nil)
    (sb_cons (s1_for (passes_of rfl) rfl (si_list (se_slice (se_var (pv 7)) so_none (so_some se_int))) (sg_name (i := 13) sc_law.nd rfl (by first | exact Or.inl rfl | exact Or.inr rfl))
      (sb_one (s1_if (st_not (st_val (se_call (can (ok_l_same T B) (hr.mono (by decide))) (takes_of rfl rfl rfl rfl) (by rfl) T.g_l_same T.F_l_same.kp (b_l_same T) (sa_cons (se_call (can (ok_flood T B) (hr.mono (by decide))) (takes_of rfl rfl rfl rfl) (by rfl) T.g_flood T.F_flood.kp (b_flood T) (sa_cons (se_var (pv 2)) (sa_cons (se_ix (se_var (pv 13)) se_int) (sa_cons (se_ix (se_var (pv 13)) se_int) (sa_cons (se_ix (se_var (pv 13)) se_int) sa_nil))))) (sa_cons (se_ix (se_var (pv 13)) se_int) sa_nil)))))
      (sb_one (s1_ret se_bl))
      sb_nil)))
    (sb_one (s1_ret se_bl)))))))))))
end
end K29

set_option Elab.async false
set_option linter.all false
set_option maxRecDepth 100000
set_option maxHeartbeats 4000000
namespace K29
open PySem PySem.Spec PyProof.Rows L2 L2H XT GX RD SX
noncomputable abbrev v_is_integer_1 : ME := (mAnd (mIsi "int" (mVar 0)) (mNot (mIsi "bool" (mVar 0))))
noncomputable abbrev t_is_integer_1 : MS := (mRet v_is_integer_1)
theorem bq_is_integer : bd_is_integer = t_is_integer_1 := rfl
theorem slots_is_integer : ["thing"] = ["thing"] := rfl
noncomputable abbrev v_count_of_nodes_1 : ME := (mBin addD (mFn lenD (mCons (mBin idxD (mVar 0) (mC (.int 0))) mNil)) (mFn lenD (mCons (mBin idxD (mVar 0) (mC (.int 1))) mNil)))
noncomputable abbrev t_count_of_nodes_1 : MS := (mRet v_count_of_nodes_1)
theorem bq_count_of_nodes : bd_count_of_nodes = t_count_of_nodes_1 := rfl
theorem slots_count_of_nodes : ["net"] = ["net"] := rfl
noncomputable abbrev v_rank_of_strength_1 : ME := (mBin addD (mC (.int 4)) (mVar 0))
noncomputable abbrev t_rank_of_strength_1 : MS := (mRet v_rank_of_strength_1)
theorem bq_rank_of_strength : bd_rank_of_strength = t_rank_of_strength_1 := rfl
theorem slots_rank_of_strength : ["strength"] = ["strength"] := rfl
noncomputable abbrev v_l_tape_1 : ME := (mLst (mCons (mLc (mIC (mVar 0)) (gN 1) mYes (mFn intSD (mCons (mVar 1) mNil)) [1]) (mCons (mC (.int 0)) (mCons (mC (.int 0)) (mCons (mC (.int 29211)) mNil)))))
noncomputable abbrev t_l_tape_1 : MS := (mRet v_l_tape_1)
theorem bq_l_tape : bd_l_tape = t_l_tape_1 := rfl
theorem slots_l_tape : ["_law_script", "_law_cell"] = ["_law_script", "_law_cell"] := rfl
noncomputable abbrev v_l_pick_12 : ME := (mVar 3)
noncomputable abbrev t_l_pick_12 : MS := (mRet v_l_pick_12)
noncomputable abbrev t_l_pick_11 : MS := (mSetIx 0 (mBin fdivD (mBin idxD (mVar 0) (mC (.int 2))) (mVar 1)) (mC (.int 2)))
noncomputable abbrev v_l_pick_10 : ME := (mBin modD (mFn intSD (mCons (mBin idxD (mVar 0) (mC (.int 2))) mNil)) (mVar 1))
noncomputable abbrev t_l_pick_10 : MS := (mSet 3 v_l_pick_10)
noncomputable abbrev c_l_pick_1 : MT := (mTest (mBin ltD (mBin idxD (mVar 0) (mC (.int 2))) (mVar 1)))
noncomputable abbrev t_l_pick_9 : MS := (mSetIx 0 (mFn absD (mCons (mVar 2) mNil)) (mC (.int 2)))
noncomputable abbrev c_l_pick_7 : MT := (mTest (mBin ltD (mFn absD (mCons (mVar 2) mNil)) (mBin powD (mC (.int 10)) (mC (.int 18)))))
noncomputable abbrev v_l_pick_8 : ME := (mBin modD (mFn intSD (mCons (mBin fdivD (mBin idxD (mVar 0) (mC (.int 3))) (mC (.int 1048576))) mNil)) (mVar 1))
noncomputable abbrev t_l_pick_8 : MS := (mRet v_l_pick_8)
noncomputable abbrev t_l_pick_7 : MS := (mIfS c_l_pick_7 t_l_pick_8 mSkip)
noncomputable abbrev t_l_pick_6 : MS := (mSetIx 0 (mBin modD (mBin addD (mBin addD (mBin mulD (mBin idxD (mVar 0) (mC (.int 3))) (mC (.int 1442695040888963407))) (mBin mulD (mVar 2) (mC (.int 6364136223846793005)))) (mC (.int 1013904223))) (mC (.int 2305843009213693951))) (mC (.int 3)))
noncomputable abbrev c_l_pick_3 : MT := (mTest (mBin ltD (mBin idxD (mVar 0) (mC (.int 1))) (mFn lenD (mCons (mBin idxD (mVar 0) (mC (.int 0))) mNil))))
noncomputable abbrev t_l_pick_5 : MS := (mSetIx 0 (mBin addD (mBin idxD (mVar 0) (mC (.int 1))) (mC (.int 1))) (mC (.int 1)))
noncomputable abbrev v_l_pick_4 : ME := (mBin idxD (mBin idxD (mVar 0) (mC (.int 0))) (mBin idxD (mVar 0) (mC (.int 1))))
noncomputable abbrev t_l_pick_4 : MS := (mSet 2 v_l_pick_4)
noncomputable abbrev b_l_pick_3 : MS := (mSeq t_l_pick_4 t_l_pick_5)
noncomputable abbrev t_l_pick_3 : MS := (mIfS c_l_pick_3 b_l_pick_3 mSkip)
noncomputable abbrev v_l_pick_2 : ME := (mC (.int 0))
noncomputable abbrev t_l_pick_2 : MS := (mSet 2 v_l_pick_2)
noncomputable abbrev b_l_pick_1 : MS := (mSeq t_l_pick_2 (mSeq t_l_pick_3 (mSeq t_l_pick_6 (mSeq t_l_pick_7 t_l_pick_9))))
noncomputable abbrev t_l_pick_1 : MS := (mIfS c_l_pick_1 b_l_pick_1 mSkip)
theorem bq_l_pick : bd_l_pick = (mSeq t_l_pick_1 (mSeq t_l_pick_10 (mSeq t_l_pick_11 t_l_pick_12))) := rfl
theorem slots_l_pick : ["_law_tape_here", "_law_many", "_law_cell", "_law_told"] = ["_law_tape_here", "_law_many", "_law_cell", "_law_told"] := rfl
noncomputable abbrev v_l_name_5 : ME := (mBin addD (mBin addD (mBin addD (mC (.str "a")) (mFn strWD (mCons (mVar 1) mNil))) (mC (.str ".b_"))) (mFn strWD (mCons (mBin fdivD (mVar 1) (mC (.int 2))) mNil)))
noncomputable abbrev t_l_name_5 : MS := (mRet v_l_name_5)
noncomputable abbrev c_l_name_3 : MT := (mTest (mBin eqD (mVar 0) (mC (.int 1))))
noncomputable abbrev v_l_name_4 : ME := (mBin addD (mBin addD (mC (.str "q[")) (mFn strWD (mCons (mVar 1) mNil))) (mC (.str "]")))
noncomputable abbrev t_l_name_4 : MS := (mRet v_l_name_4)
noncomputable abbrev t_l_name_3 : MS := (mIfS c_l_name_3 t_l_name_4 mSkip)
noncomputable abbrev c_l_name_1 : MT := (mTest (mBin eqD (mVar 0) (mC (.int 0))))
noncomputable abbrev v_l_name_2 : ME := (mBin addD (mC (.str "n")) (mFn strWD (mCons (mVar 1) mNil)))
noncomputable abbrev t_l_name_2 : MS := (mRet v_l_name_2)
noncomputable abbrev t_l_name_1 : MS := (mIfS c_l_name_1 t_l_name_2 mSkip)
theorem bq_l_name : bd_l_name = (mSeq t_l_name_1 (mSeq t_l_name_3 t_l_name_5)) := rfl
theorem slots_l_name : ["_law_style", "_law_place"] = ["_law_style", "_law_place"] := rfl
noncomputable abbrev v_l_rank_3 : ME := (mBin idxD (mBin idxD (mBin idxD (mVar 0) (mC (.int 1))) (mBin subD (mVar 1) (mFn lenD (mCons (mBin idxD (mVar 0) (mC (.int 0))) mNil)))) (mC (.int 1)))
noncomputable abbrev t_l_rank_3 : MS := (mRet v_l_rank_3)
noncomputable abbrev c_l_rank_1 : MT := (mTest (mBin ltD (mVar 1) (mFn lenD (mCons (mBin idxD (mVar 0) (mC (.int 0))) mNil))))
noncomputable abbrev v_l_rank_2 : ME := (mC (.int 11))
noncomputable abbrev t_l_rank_2 : MS := (mRet v_l_rank_2)
noncomputable abbrev t_l_rank_1 : MS := (mIfS c_l_rank_1 t_l_rank_2 mSkip)
theorem bq_l_rank : bd_l_rank = (mSeq t_l_rank_1 t_l_rank_3) := rfl
theorem slots_l_rank : ["_law_web_here", "_law_spot"] = ["_law_web_here", "_law_spot"] := rfl
noncomputable abbrev v_l_widened_14 : ME := (mFn tupD (mCons (mVar 4) mNil))
noncomputable abbrev t_l_widened_14 : MS := (mRet v_l_widened_14)
noncomputable abbrev i_l_widened_2 : MI := (mIR1 (mCons (mC (.int 300)) mNil))
noncomputable abbrev g_l_widened_2 : (D → EV → Option EV) := (gN 5)
noncomputable abbrev c_l_widened_12 : MT := (mNotT (mTru (mVar 6)))
noncomputable abbrev t_l_widened_13 : MS := (fun Γ => .ok .bk Γ)
noncomputable abbrev t_l_widened_12 : MS := (mIfS c_l_widened_12 t_l_widened_13 mSkip)
noncomputable abbrev i_l_widened_4 : MI := (mIT (mVar 1))
noncomputable abbrev g_l_widened_4 : (D → EV → Option EV) := (gN 7)
noncomputable abbrev i_l_widened_6 : MI := (mIT (mTup (mCons (mTup (mCons (mC (.int 3)) (mCons (mC (.int 4)) mNil))) (mCons (mTup (mCons (mC (.int 4)) (mCons (mC (.int 3)) mNil))) mNil))))
noncomputable abbrev g_l_widened_6 : (D → EV → Option EV) := (gN 9)
noncomputable abbrev c_l_widened_9 : MT := (mAndT (mTest (mBin geD (mVar 11) (mFn lenD (mCons (mBin idxD (mVar 0) (mC (.int 0))) mNil)))) (mAndT (mTest (mBin gtD (mVar 10) (mBin idxD (mVar 4) (mVar 11)))) (mTest (mBin geD (mVar 10) (mBin idxD (mVar 3) (mVar 11))))))
noncomputable abbrev v_l_widened_11 : ME := (mC (.bl true))
noncomputable abbrev t_l_widened_11 : MS := (mSet 6 v_l_widened_11)
noncomputable abbrev t_l_widened_10 : MS := (mSetIx 4 (mVar 10) (mVar 11))
noncomputable abbrev b_l_widened_9 : MS := (mSeq t_l_widened_10 t_l_widened_11)
noncomputable abbrev t_l_widened_9 : MS := (mIfS c_l_widened_9 b_l_widened_9 mSkip)
noncomputable abbrev v_l_widened_8 : ME := (mBin idxD (mVar 8) (mBin idxD (mVar 9) (mC (.int 1))))
noncomputable abbrev t_l_widened_8 : MS := (mSet 11 v_l_widened_8)
noncomputable abbrev v_l_widened_7 : ME := (mFn min2D (mCons (mBin idxD (mVar 4) (mBin idxD (mVar 8) (mBin idxD (mVar 9) (mC (.int 0))))) (mCons (mBin addD (mC (.int 4)) (mBin idxD (mVar 8) (mC (.int 1)))) mNil)))
noncomputable abbrev t_l_widened_7 : MS := (mSet 10 v_l_widened_7)
noncomputable abbrev b_l_widened_6 : MS := (mSeq t_l_widened_7 (mSeq t_l_widened_8 t_l_widened_9))
noncomputable abbrev t_l_widened_6 : MS := (mFor i_l_widened_6 g_l_widened_6 b_l_widened_6)
noncomputable abbrev v_l_widened_5 : ME := (mBin idxD (mBin idxD (mVar 0) (mC (.int 2))) (mVar 7))
noncomputable abbrev t_l_widened_5 : MS := (mSet 8 v_l_widened_5)
noncomputable abbrev b_l_widened_4 : MS := (mSeq t_l_widened_5 t_l_widened_6)
noncomputable abbrev t_l_widened_4 : MS := (mFor i_l_widened_4 g_l_widened_4 b_l_widened_4)
noncomputable abbrev v_l_widened_3 : ME := (mC (.bl false))
noncomputable abbrev t_l_widened_3 : MS := (mSet 6 v_l_widened_3)
noncomputable abbrev b_l_widened_2 : MS := (mSeq t_l_widened_3 (mSeq t_l_widened_4 t_l_widened_12))
noncomputable abbrev t_l_widened_2 : MS := (mFor i_l_widened_2 g_l_widened_2 b_l_widened_2)
noncomputable abbrev t_l_widened_1 : MS := (mSet 4 (mLc (mIR1 (mCons (mFn lenD (mCons (mVar 2) mNil)) mNil)) (gN 12) mYes (mIf (mTest (mBin geD (mBin idxD (mVar 2) (mVar 12)) (mBin idxD (mVar 3) (mVar 12)))) (mBin idxD (mVar 2) (mVar 12)) (mC (.int 0))) [12]))
theorem bq_l_widened : bd_l_widened = (mSeq t_l_widened_1 (mSeq t_l_widened_2 t_l_widened_14)) := rfl
theorem slots_l_widened : ["_law_web_here", "_law_lets", "_law_begins_here", "_law_bars_here", "_law_many", "_law_turn", "_law_grown", "_law_place", "_law_row_here", "_law_ends", "_law_worth", "_law_into", "_law_k"] = ["_law_web_here", "_law_lets", "_law_begins_here", "_law_bars_here", "_law_many", "_law_turn", "_law_grown", "_law_place", "_law_row_here", "_law_ends", "_law_worth", "_law_into", "_law_k"] := rfl
noncomputable abbrev v_l_spoilt_9 : ME := (mBin addD (mBin addD (mSl (mVar 0) mONo (mOSo (mVar 1))) (mTup (mCons (mVar 2) mNil))) (mSl (mVar 0) (mOSo (mBin addD (mVar 1) (mC (.int 1)))) mONo))
noncomputable abbrev t_l_spoilt_9 : MS := (mRet v_l_spoilt_9)
noncomputable abbrev c_l_spoilt_7 : MT := (mTest (mBin eqD (mVar 3) (mC (.int 3))))
noncomputable abbrev v_l_spoilt_8 : ME := (mC .non)
noncomputable abbrev t_l_spoilt_8 : MS := (mRet v_l_spoilt_8)
noncomputable abbrev t_l_spoilt_7 : MS := (mIfS c_l_spoilt_7 t_l_spoilt_8 mSkip)
noncomputable abbrev c_l_spoilt_5 : MT := (mTest (mBin eqD (mVar 3) (mC (.int 2))))
noncomputable abbrev v_l_spoilt_6 : ME := (mBin addD (mVar 0) (mTup (mCons (mC (.int 0)) mNil)))
noncomputable abbrev t_l_spoilt_6 : MS := (mRet v_l_spoilt_6)
noncomputable abbrev t_l_spoilt_5 : MS := (mIfS c_l_spoilt_5 t_l_spoilt_6 mSkip)
noncomputable abbrev c_l_spoilt_3 : MT := (mTest (mBin eqD (mVar 3) (mC (.int 1))))
noncomputable abbrev v_l_spoilt_4 : ME := (mSl (mVar 0) mONo (mOSo (mNeg (mC (.int 1)))))
noncomputable abbrev t_l_spoilt_4 : MS := (mRet v_l_spoilt_4)
noncomputable abbrev t_l_spoilt_3 : MS := (mIfS c_l_spoilt_3 t_l_spoilt_4 mSkip)
noncomputable abbrev c_l_spoilt_1 : MT := (mTest (mBin eqD (mVar 3) (mC (.int 0))))
noncomputable abbrev v_l_spoilt_2 : ME := (mFn listD (mCons (mVar 0) mNil))
noncomputable abbrev t_l_spoilt_2 : MS := (mRet v_l_spoilt_2)
noncomputable abbrev t_l_spoilt_1 : MS := (mIfS c_l_spoilt_1 t_l_spoilt_2 mSkip)
theorem bq_l_spoilt : bd_l_spoilt = (mSeq t_l_spoilt_1 (mSeq t_l_spoilt_3 (mSeq t_l_spoilt_5 (mSeq t_l_spoilt_7 t_l_spoilt_9)))) := rfl
theorem slots_l_spoilt : ["_law_row_here", "_law_place", "_law_bad", "_law_way"] = ["_law_row_here", "_law_place", "_law_bad", "_law_way"] := rfl
noncomputable abbrev v_is_number_1 : ME := (mAnd (mCall io_is_integer m_is_integer (mCons (mVar 0) mNil)) (mBin geD (mVar 0) (mC (.int 0))))
noncomputable abbrev t_is_number_1 : MS := (mRet v_is_number_1)
theorem bq_is_number : bd_is_number = t_is_number_1 := rfl
theorem slots_is_number : ["thing"] = ["thing"] := rfl
noncomputable abbrev v_is_between_1 : ME := (mAnd (mCall io_is_integer m_is_integer (mCons (mVar 0) mNil)) (mChain leD leD (mVar 1) (mVar 0) (mVar 2)))
noncomputable abbrev t_is_between_1 : MS := (mRet v_is_between_1)
theorem bq_is_between : bd_is_between = t_is_between_1 := rfl
theorem slots_is_between : ["thing", "least", "most"] = ["thing", "least", "most"] := rfl
noncomputable abbrev v_ways_over_10 : ME := (mVar 3)
noncomputable abbrev t_ways_over_10 : MS := (mRet v_ways_over_10)
noncomputable abbrev i_ways_over_3 : MI := (mIT (mVar 1))
noncomputable abbrev g_ways_over_3 : (D → EV → Option EV) := (gN 4)
noncomputable abbrev c_ways_over_8 : MT := (mTest (mBin geD (mVar 6) (mVar 2)))
noncomputable abbrev t_ways_over_9 : MS := (mAppO 3 (mVar 7) (mTup (mCons (mVar 4) (mCons (mVar 6) (mCons (mVar 8) mNil)))))
noncomputable abbrev t_ways_over_8 : MS := (mIfS c_ways_over_8 t_ways_over_9 mSkip)
noncomputable abbrev c_ways_over_6 : MT := (mTest (mBin geD (mVar 7) (mVar 2)))
noncomputable abbrev t_ways_over_7 : MS := (mAppO 3 (mVar 6) (mTup (mCons (mVar 4) (mCons (mVar 7) (mCons (mVar 8) mNil)))))
noncomputable abbrev t_ways_over_6 : MS := (mIfS c_ways_over_6 t_ways_over_7 mSkip)
noncomputable abbrev v_ways_over_5 : ME := (mCall io_rank_of_strength m_rank_of_strength (mCons (mVar 5) mNil))
noncomputable abbrev t_ways_over_5 : MS := (mSet 8 v_ways_over_5)
noncomputable abbrev t_ways_over_4 : MS := (mAsg (gT 5 (gsC (gN 9) (gsC (gN 5) (gsC (gN 9) (gsC (gN 6) (gsC (gN 7) gsN)))))) (mBin idxD (mBin idxD (mVar 0) (mC (.int 2))) (mVar 4)))
noncomputable abbrev b_ways_over_3 : MS := (mSeq t_ways_over_4 (mSeq t_ways_over_5 (mSeq t_ways_over_6 t_ways_over_8)))
noncomputable abbrev t_ways_over_3 : MS := (mFor i_ways_over_3 g_ways_over_3 b_ways_over_3)
noncomputable abbrev t_ways_over_2 : MS := (mSetO 3 (mIR1 (mCons (mCall io_count_of_nodes m_count_of_nodes (mCons (mVar 0) mNil)) mNil)) (gN 9) mYes (mLst mNil) [9])
noncomputable abbrev v_ways_over_1 : ME := (mFn lenD (mCons (mBin idxD (mVar 0) (mC (.int 0))) mNil))
noncomputable abbrev t_ways_over_1 : MS := (mSet 2 v_ways_over_1)
theorem bq_ways_over : bd_ways_over = (mSeq t_ways_over_1 (mSeq t_ways_over_2 (mSeq t_ways_over_3 t_ways_over_10))) := rfl
theorem slots_ways_over : ["net", "usable", "feeds", "ways", "switch", "strength", "left", "right", "width", "_"] = ["net", "usable", "feeds", "ways", "switch", "strength", "left", "right", "width", "_"] := rfl
noncomputable abbrev v_l_row_5 : ME := (mTup (mCons (mVar 4) (mCons (mBin addD (mC (.int 1)) (mCall io_l_pick m_l_pick (mCons (mVar 0) (mCons (mC (.int 6)) mNil)))) (mCons (mVar 5) (mCons (mVar 1) (mCons (mVar 2) mNil))))))
noncomputable abbrev t_l_row_5 : MS := (mRet v_l_row_5)
noncomputable abbrev c_l_row_3 : MT := (mTest (mBin eqD (mVar 4) (mC (.str "tie"))))
noncomputable abbrev v_l_row_4 : ME := (mNeg (mC (.int 1)))
noncomputable abbrev t_l_row_4 : MS := (mSet 5 v_l_row_4)
noncomputable abbrev t_l_row_3 : MS := (mIfS c_l_row_3 t_l_row_4 mSkip)
noncomputable abbrev v_l_row_2 : ME := (mCall io_l_pick m_l_pick (mCons (mVar 0) (mCons (mVar 3) mNil)))
noncomputable abbrev t_l_row_2 : MS := (mSet 5 v_l_row_2)
noncomputable abbrev v_l_row_1 : ME := (mBin idxD (mTup (mCons (mC (.str "tie")) (mCons (mC (.str "one")) (mCons (mC (.str "zero")) mNil)))) (mCall io_l_pick m_l_pick (mCons (mVar 0) (mCons (mC (.int 3)) mNil))))
noncomputable abbrev t_l_row_1 : MS := (mSet 4 v_l_row_1)
theorem bq_l_row : bd_l_row = (mSeq t_l_row_1 (mSeq t_l_row_2 (mSeq t_l_row_3 t_l_row_5))) := rfl
theorem slots_l_row : ["_law_tape_here", "_law_left", "_law_right", "_law_total", "_law_kind", "_law_gate"] = ["_law_tape_here", "_law_left", "_law_right", "_law_total", "_law_kind", "_law_gate"] := rfl
noncomputable abbrev v_l_begins_7 : ME := (mFn tupD (mCons (mLc (mIR1 (mCons (mVar 2) mNil)) (gN 4) mYes (mBin mulD (mCall io_l_pick m_l_pick (mCons (mVar 0) (mCons (mC (.int 12)) mNil))) (mBin fdivD (mCall io_l_pick m_l_pick (mCons (mVar 0) (mCons (mC (.int 3)) mNil))) (mC (.int 2)))) [4]) mNil))
noncomputable abbrev t_l_begins_7 : MS := (mRet v_l_begins_7)
noncomputable abbrev c_l_begins_5 : MT := (mTest (mBin eqD (mVar 3) (mC (.int 1))))
noncomputable abbrev v_l_begins_6 : ME := (mFn tupD (mCons (mLc (mIR1 (mCons (mVar 2) mNil)) (gN 4) mYes (mCall io_l_pick m_l_pick (mCons (mVar 0) (mCons (mC (.int 12)) mNil))) [4]) mNil))
noncomputable abbrev t_l_begins_6 : MS := (mRet v_l_begins_6)
noncomputable abbrev t_l_begins_5 : MS := (mIfS c_l_begins_5 t_l_begins_6 mSkip)
noncomputable abbrev c_l_begins_3 : MT := (mTest (mBin eqD (mVar 3) (mC (.int 0))))
noncomputable abbrev v_l_begins_4 : ME := (mFn tupD (mCons (mLc (mIR1 (mCons (mVar 2) mNil)) (gN 4) mYes (mBin mulD (mCall io_l_rank m_l_rank (mCons (mVar 1) (mCons (mVar 4) mNil))) (mFn min2D (mCons (mC (.int 1)) (mCons (mCall io_l_pick m_l_pick (mCons (mVar 0) (mCons (mC (.int 3)) mNil))) mNil)))) [4]) mNil))
noncomputable abbrev t_l_begins_4 : MS := (mRet v_l_begins_4)
noncomputable abbrev t_l_begins_3 : MS := (mIfS c_l_begins_3 t_l_begins_4 mSkip)
noncomputable abbrev v_l_begins_2 : ME := (mCall io_l_pick m_l_pick (mCons (mVar 0) (mCons (mC (.int 3)) mNil)))
noncomputable abbrev t_l_begins_2 : MS := (mSet 3 v_l_begins_2)
noncomputable abbrev v_l_begins_1 : ME := (mBin addD (mFn lenD (mCons (mBin idxD (mVar 1) (mC (.int 0))) mNil)) (mFn lenD (mCons (mBin idxD (mVar 1) (mC (.int 1))) mNil)))
noncomputable abbrev t_l_begins_1 : MS := (mSet 2 v_l_begins_1)
theorem bq_l_begins : bd_l_begins = (mSeq t_l_begins_1 (mSeq t_l_begins_2 (mSeq t_l_begins_3 (mSeq t_l_begins_5 t_l_begins_7)))) := rfl
theorem slots_l_begins : ["_law_tape_here", "_law_web_here", "_law_total", "_law_style", "_law_k"] = ["_law_tape_here", "_law_web_here", "_law_total", "_law_style", "_law_k"] := rfl
noncomputable abbrev v_l_bars_10 : ME := (mFn tupD (mCons (mVar 2) mNil))
noncomputable abbrev t_l_bars_10 : MS := (mRet v_l_bars_10)
noncomputable abbrev i_l_bars_2 : MI := (mIT (mVar 1))
noncomputable abbrev g_l_bars_2 : (D → EV → Option EV) := (gN 3)
noncomputable abbrev c_l_bars_4 : MT := (mTest (mBin ltD (mVar 4) (mC (.int 2))))
noncomputable abbrev t_l_bars_5 : MS := (mExpr (mAppend 2 (mC (.int 0))))
noncomputable abbrev c_l_bars_6 : MT := (mTest (mBin eqD (mVar 4) (mC (.int 2))))
noncomputable abbrev t_l_bars_7 : MS := (mExpr (mAppend 2 (mCall io_l_pick m_l_pick (mCons (mVar 0) (mCons (mC (.int 13)) mNil)))))
noncomputable abbrev t_l_bars_9 : MS := (mExpr (mAppend 2 (mFn max2D (mCons (mC (.int 0)) (mCons (mBin subD (mBin addD (mVar 3) (mVar 4)) (mC (.int 4))) mNil)))))
noncomputable abbrev t_l_bars_6 : MS := (mIfS c_l_bars_6 t_l_bars_7 t_l_bars_9)
noncomputable abbrev t_l_bars_4 : MS := (mIfS c_l_bars_4 t_l_bars_5 t_l_bars_6)
noncomputable abbrev v_l_bars_3 : ME := (mCall io_l_pick m_l_pick (mCons (mVar 0) (mCons (mC (.int 6)) mNil)))
noncomputable abbrev t_l_bars_3 : MS := (mSet 4 v_l_bars_3)
noncomputable abbrev b_l_bars_2 : MS := (mSeq t_l_bars_3 t_l_bars_4)
noncomputable abbrev t_l_bars_2 : MS := (mFor i_l_bars_2 g_l_bars_2 b_l_bars_2)
noncomputable abbrev v_l_bars_1 : ME := (mLst mNil)
noncomputable abbrev t_l_bars_1 : MS := (mSet 2 v_l_bars_1)
theorem bq_l_bars : bd_l_bars = (mSeq t_l_bars_1 (mSeq t_l_bars_2 t_l_bars_10)) := rfl
theorem slots_l_bars : ["_law_tape_here", "_law_free", "_law_bars_here", "_law_worth", "_law_way"] = ["_law_tape_here", "_law_free", "_law_bars_here", "_law_worth", "_law_way"] := rfl
noncomputable abbrev c_require_1 : MT := (mNotT (mTru (mVar 0)))
noncomputable abbrev t_require_2 : MS := (mRaise "NotUsable" ["word", "at"] (mCons (mVar 1) (mCons (mNeg (mC (.int 1))) mNil)))
noncomputable abbrev t_require_1 : MS := (mIfS c_require_1 t_require_2 mSkip)
theorem bq_require : bd_require = t_require_1 := rfl
theorem slots_require : ["fits", "word"] = ["fits", "word"] := rfl
noncomputable abbrev v_is_node_1 : ME := (mCall io_is_between m_is_between (mCons (mVar 1) (mCons (mC (.int 0)) (mCons (mBin subD (mCall io_count_of_nodes m_count_of_nodes (mCons (mVar 0) mNil)) (mC (.int 1))) mNil))))
noncomputable abbrev t_is_node_1 : MS := (mRet v_is_node_1)
theorem bq_is_node : bd_is_node = t_is_node_1 := rfl
theorem slots_is_node : ["net", "thing"] = ["net", "thing"] := rfl
noncomputable abbrev v_is_switch_of_1 : ME := (mCall io_is_between m_is_between (mCons (mVar 1) (mCons (mC (.int 0)) (mCons (mBin subD (mFn lenD (mCons (mBin idxD (mVar 0) (mC (.int 2))) mNil)) (mC (.int 1))) mNil))))
noncomputable abbrev t_is_switch_of_1 : MS := (mRet v_is_switch_of_1)
theorem bq_is_switch_of : bd_is_switch_of = t_is_switch_of_1 := rfl
theorem slots_is_switch_of : ["net", "thing"] = ["net", "thing"] := rfl
noncomputable abbrev v_flooded_19 : ME := (mTup (mCons (mFn tupD (mCons (mVar 5) mNil)) (mCons (mFn tupD (mCons (mVar 6) mNil)) (mCons (mFn tupD (mCons (mVar 7) mNil)) mNil))))
noncomputable abbrev t_flooded_19 : MS := (mRet v_flooded_19)
noncomputable abbrev i_flooded_6 : MI := (mIR3 (mCons (mC (.int 11)) (mCons (mC (.int 0)) (mCons (mNeg (mC (.int 1))) mNil))))
noncomputable abbrev g_flooded_6 : (D → EV → Option EV) := (gN 9)
noncomputable abbrev c_flooded_8 : MT := (mTru (mVar 10))
noncomputable abbrev i_flooded_12 : MI := (mIL (mBin idxD (mVar 4) (mVar 16)))
noncomputable abbrev g_flooded_12 : (D → EV → Option EV) := (gT 3 (gsC (gN 11) (gsC (gN 12) (gsC (gN 13) gsN))))
noncomputable abbrev c_flooded_14 : MT := (mAndT (mTest (mBin gtD (mVar 17) (mBin idxD (mVar 5) (mVar 12)))) (mTest (mBin geD (mVar 17) (mBin idxD (mVar 3) (mVar 12)))))
noncomputable abbrev c_flooded_17 : MT := (mTest (mBin eqD (mVar 17) (mVar 9)))
noncomputable abbrev t_flooded_18 : MS := (mExpr (mAppend 10 (mVar 12)))
noncomputable abbrev t_flooded_17 : MS := (mIfS c_flooded_17 t_flooded_18 mSkip)
noncomputable abbrev t_flooded_16 : MS := (mSetIx 6 (mVar 11) (mVar 12))
noncomputable abbrev t_flooded_15 : MS := (mSetIx 5 (mVar 17) (mVar 12))
noncomputable abbrev b_flooded_14 : MS := (mSeq t_flooded_15 (mSeq t_flooded_16 t_flooded_17))
noncomputable abbrev t_flooded_14 : MS := (mIfS c_flooded_14 b_flooded_14 mSkip)
noncomputable abbrev v_flooded_13 : ME := (mFn min2D (mCons (mVar 9) (mCons (mVar 13) mNil)))
noncomputable abbrev t_flooded_13 : MS := (mSet 17 v_flooded_13)
noncomputable abbrev b_flooded_12 : MS := (mSeq t_flooded_13 t_flooded_14)
noncomputable abbrev t_flooded_12 : MS := (mFor i_flooded_12 g_flooded_12 b_flooded_12)
noncomputable abbrev t_flooded_11 : MS := (mAug 8 iaddD (mC (.int 1)))
noncomputable abbrev t_flooded_10 : MS := (mSetIx 7 (mVar 8) (mVar 16))
noncomputable abbrev v_flooded_9 : ME := (mPop 10)
noncomputable abbrev t_flooded_9 : MS := (mSet 16 v_flooded_9)
noncomputable abbrev b_flooded_8 : MS := (mSeq t_flooded_9 (mSeq t_flooded_10 (mSeq t_flooded_11 t_flooded_12)))
noncomputable abbrev t_flooded_8 : MS := (mWhl c_flooded_8 b_flooded_8)
noncomputable abbrev t_flooded_7 : MS := (mSet 10 (mLcW 5 enumL (gT 2 (gsC (gN 16) (gsC (gN 17) gsN))) (mTest (mBin eqD (mVar 17) (mVar 9))) (mVar 16) [16, 17]))
noncomputable abbrev b_flooded_6 : MS := (mSeq t_flooded_7 t_flooded_8)
noncomputable abbrev t_flooded_6 : MS := (mFor i_flooded_6 g_flooded_6 b_flooded_6)
noncomputable abbrev v_flooded_5 : ME := (mC (.int 0))
noncomputable abbrev t_flooded_5 : MS := (mSet 8 v_flooded_5)
noncomputable abbrev v_flooded_4 : ME := (mBin mulD (mLst (mCons (mC (.int 0)) mNil)) (mFn lenD (mCons (mVar 5) mNil)))
noncomputable abbrev t_flooded_4 : MS := (mSet 7 v_flooded_4)
noncomputable abbrev v_flooded_3 : ME := (mBin mulD (mLst (mCons (mNeg (mC (.int 1))) mNil)) (mFn lenD (mCons (mVar 5) mNil)))
noncomputable abbrev t_flooded_3 : MS := (mSet 6 v_flooded_3)
noncomputable abbrev t_flooded_2 : MS := (mSet 5 (mLc (mIZ (mCons (mVar 2) (mCons (mVar 3) mNil))) (gT 2 (gsC (gN 14) (gsC (gN 15) gsN))) mYes (mIf (mTest (mBin geD (mVar 14) (mVar 15))) (mVar 14) (mC (.int 0))) [14, 15]))
noncomputable abbrev v_flooded_1 : ME := (mCall io_ways_over m_ways_over (mCons (mVar 0) (mCons (mVar 1) mNil)))
noncomputable abbrev t_flooded_1 : MS := (mSet 4 v_flooded_1)
theorem bq_flooded : bd_flooded = (mSeq t_flooded_1 (mSeq t_flooded_2 (mSeq t_flooded_3 (mSeq t_flooded_4 (mSeq t_flooded_5 (mSeq t_flooded_6 t_flooded_19)))))) := rfl
theorem slots_flooded : ["net", "usable", "starts", "floors", "ways", "numbers", "parents", "steps", "step", "rank", "waiting", "switch", "other", "width", "start", "floor", "node", "number"] = ["net", "usable", "starts", "floors", "ways", "numbers", "parents", "steps", "step", "rank", "waiting", "switch", "other", "width", "start", "floor", "node", "number"] := rfl
noncomputable abbrev v_l_web_26 : ME := (mTup (mCons (mFn tupD (mCons (mVar 9) mNil)) (mCons (mFn tupD (mCons (mVar 10) mNil)) (mCons (mFn tupD (mCons (mVar 11) mNil)) mNil))))
noncomputable abbrev t_l_web_26 : MS := (mRet v_l_web_26)
noncomputable abbrev t_l_web_25 : MS := (mSet 11 (mLc (mIL (mSl (mVar 7) mONo (mOSo (mVar 3)))) (gN 13) mYes (mCall io_l_row m_l_row (mCons (mVar 0) (mCons (mBin idxD (mVar 13) (mC (.int 0))) (mCons (mBin idxD (mVar 13) (mC (.int 1))) (mCons (mVar 4) mNil))))) [13]))
noncomputable abbrev t_l_web_24 : MS := (mSet 10 (mLc (mIR1 (mCons (mVar 2) mNil)) (gN 12) mYes (mTup (mCons (mCall io_l_name m_l_name (mCons (mVar 5) (mCons (mVar 12) mNil))) (mCons (mBin addD (mC (.int 1)) (mCall io_l_pick m_l_pick (mCons (mVar 0) (mCons (mC (.int 4)) mNil)))) mNil))) [12]))
noncomputable abbrev v_l_web_23 : ME := (mBin addD (mLst (mCons (mC (.str "low")) (mCons (mC (.str "high")) mNil))) (mLc (mIR1 (mCons (mBin subD (mVar 1) (mC (.int 2))) mNil)) (gN 12) mYes (mCall io_l_name m_l_name (mCons (mVar 5) (mCons (mBin addD (mC (.int 100)) (mVar 12)) mNil))) [12]))
noncomputable abbrev t_l_web_23 : MS := (mSet 9 v_l_web_23)
noncomputable abbrev i_l_web_20 : MI := (mIR1 (mCons (mBin addD (mBin addD (mCall io_l_pick m_l_pick (mCons (mVar 0) (mCons (mC (.int 4)) mNil))) (mBin mulD (mC (.int 3)) (mCall io_l_pick m_l_pick (mCons (mVar 0) (mCons (mC (.int 2)) mNil))))) (mBin fdivD (mBin subD (mVar 3) (mC (.int 9))) (mC (.int 2)))) mNil))
noncomputable abbrev g_l_web_20 : (D → EV → Option EV) := (gN 12)
noncomputable abbrev t_l_web_22 : MS := (mExpr (mAppend 7 (mTup (mCons (mVar 8) (mCons (mBin modD (mFn intSD (mCons (mBin addD (mBin addD (mVar 8) (mC (.int 1))) (mCall io_l_pick m_l_pick (mCons (mVar 0) (mCons (mBin subD (mVar 4) (mC (.int 1))) mNil)))) mNil)) (mVar 4)) mNil)))))
noncomputable abbrev v_l_web_21 : ME := (mCall io_l_pick m_l_pick (mCons (mVar 0) (mCons (mVar 4) mNil)))
noncomputable abbrev t_l_web_21 : MS := (mSet 8 v_l_web_21)
noncomputable abbrev b_l_web_20 : MS := (mSeq t_l_web_21 t_l_web_22)
noncomputable abbrev t_l_web_20 : MS := (mFor i_l_web_20 g_l_web_20 b_l_web_20)
noncomputable abbrev c_l_web_18 : MT := (mAndT (mTest (mBin gtD (mVar 2) (mC (.int 1)))) (mTest (mBin eqD (mVar 6) (mC (.int 3)))))
noncomputable abbrev v_l_web_19 : ME := (mBin addD (mVar 7) (mLst (mCons (mTup (mCons (mVar 1) (mCons (mBin addD (mVar 1) (mC (.int 1))) mNil))) (mCons (mTup (mCons (mBin addD (mVar 1) (mC (.int 1))) (mCons (mVar 1) mNil))) (mCons (mTup (mCons (mVar 1) (mCons (mBin addD (mVar 1) (mC (.int 1))) mNil))) mNil)))))
noncomputable abbrev t_l_web_19 : MS := (mSet 7 v_l_web_19)
noncomputable abbrev t_l_web_18 : MS := (mIfS c_l_web_18 t_l_web_19 mSkip)
noncomputable abbrev c_l_web_16 : MT := (mAndT (mTest (mBin gtD (mVar 2) (mC (.int 1)))) (mTest (mBin eqD (mVar 6) (mC (.int 2)))))
noncomputable abbrev t_l_web_17 : MS := (mExpr (mAppend 7 (mTup (mCons (mBin subD (mBin addD (mVar 1) (mVar 2)) (mC (.int 1))) (mCons (mVar 1) mNil)))))
noncomputable abbrev t_l_web_16 : MS := (mIfS c_l_web_16 t_l_web_17 mSkip)
noncomputable abbrev c_l_web_14 : MT := (mAndT (mTest (mBin gtD (mVar 2) (mC (.int 1)))) (mTest (mBin (inD false) (mVar 6) (mTup (mCons (mC (.int 1)) (mCons (mC (.int 2)) mNil))))))
noncomputable abbrev v_l_web_15 : ME := (mBin addD (mVar 7) (mLc (mIR1 (mCons (mBin subD (mVar 2) (mC (.int 1))) mNil)) (gN 12) mYes (mTup (mCons (mBin addD (mVar 1) (mVar 12)) (mCons (mBin addD (mBin addD (mVar 1) (mVar 12)) (mC (.int 1))) mNil))) [12]))
noncomputable abbrev t_l_web_15 : MS := (mSet 7 v_l_web_15)
noncomputable abbrev t_l_web_14 : MS := (mIfS c_l_web_14 t_l_web_15 mSkip)
noncomputable abbrev c_l_web_12 : MT := (mAndT (mTest (mBin gtD (mVar 2) (mC (.int 0)))) (mTest (mBin gtD (mVar 6) (mC (.int 0)))))
noncomputable abbrev t_l_web_13 : MS := (mExpr (mAppend 7 (mTup (mCons (mCall io_l_pick m_l_pick (mCons (mVar 0) (mCons (mVar 1) mNil))) (mCons (mVar 1) mNil)))))
noncomputable abbrev t_l_web_12 : MS := (mIfS c_l_web_12 t_l_web_13 mSkip)
noncomputable abbrev v_l_web_11 : ME := (mLst mNil)
noncomputable abbrev t_l_web_11 : MS := (mSet 7 v_l_web_11)
noncomputable abbrev v_l_web_10 : ME := (mCall io_l_pick m_l_pick (mCons (mVar 0) (mCons (mC (.int 4)) mNil)))
noncomputable abbrev t_l_web_10 : MS := (mSet 6 v_l_web_10)
noncomputable abbrev v_l_web_9 : ME := (mCall io_l_pick m_l_pick (mCons (mVar 0) (mCons (mC (.int 3)) mNil)))
noncomputable abbrev t_l_web_9 : MS := (mSet 5 v_l_web_9)
noncomputable abbrev v_l_web_8 : ME := (mBin addD (mVar 1) (mVar 2))
noncomputable abbrev t_l_web_8 : MS := (mSet 4 v_l_web_8)
noncomputable abbrev c_l_web_4 : MT := (mTest (mBin eqD (mCall io_l_pick m_l_pick (mCons (mVar 0) (mCons (mC (.int 20)) mNil))) (mC (.int 19))))
noncomputable abbrev v_l_web_7 : ME := (mC (.int 60))
noncomputable abbrev t_l_web_7 : MS := (mSet 3 v_l_web_7)
noncomputable abbrev v_l_web_6 : ME := (mC (.int 24))
noncomputable abbrev t_l_web_6 : MS := (mSet 2 v_l_web_6)
noncomputable abbrev v_l_web_5 : ME := (mC (.int 12))
noncomputable abbrev t_l_web_5 : MS := (mSet 1 v_l_web_5)
noncomputable abbrev b_l_web_4 : MS := (mSeq t_l_web_5 (mSeq t_l_web_6 t_l_web_7))
noncomputable abbrev t_l_web_4 : MS := (mIfS c_l_web_4 b_l_web_4 mSkip)
noncomputable abbrev v_l_web_3 : ME := (mC (.int 9))
noncomputable abbrev t_l_web_3 : MS := (mSet 3 v_l_web_3)
noncomputable abbrev v_l_web_2 : ME := (mBin idxD (mTup (mCons (mC (.int 3)) (mCons (mC (.int 2)) (mCons (mC (.int 4)) (mCons (mC (.int 1)) (mCons (mC (.int 5)) (mCons (mC (.int 3)) (mCons (mC (.int 2)) (mCons (mC (.int 4)) (mCons (mC (.int 6)) (mCons (mC (.int 3)) (mCons (mC (.int 0)) mNil)))))))))))) (mCall io_l_pick m_l_pick (mCons (mVar 0) (mCons (mC (.int 11)) mNil))))
noncomputable abbrev t_l_web_2 : MS := (mSet 2 v_l_web_2)
noncomputable abbrev v_l_web_1 : ME := (mBin addD (mC (.int 2)) (mCall io_l_pick m_l_pick (mCons (mVar 0) (mCons (mC (.int 3)) mNil))))
noncomputable abbrev t_l_web_1 : MS := (mSet 1 v_l_web_1)
theorem bq_l_web : bd_l_web = (mSeq t_l_web_1 (mSeq t_l_web_2 (mSeq t_l_web_3 (mSeq t_l_web_4 (mSeq t_l_web_8 (mSeq t_l_web_9 (mSeq t_l_web_10 (mSeq t_l_web_11 (mSeq t_l_web_12 (mSeq t_l_web_14 (mSeq t_l_web_16 (mSeq t_l_web_18 (mSeq t_l_web_20 (mSeq t_l_web_23 (mSeq t_l_web_24 (mSeq t_l_web_25 t_l_web_26)))))))))))))))) := rfl
theorem slots_l_web : ["_law_tape_here", "_law_feeds", "_law_tanks", "_law_most", "_law_total", "_law_style", "_law_build", "_law_ends", "_law_left", "_law_names", "_law_sized", "_law_rows", "_law_k", "_law_pair"] = ["_law_tape_here", "_law_feeds", "_law_tanks", "_law_most", "_law_total", "_law_style", "_law_build", "_law_ends", "_law_left", "_law_names", "_law_sized", "_law_rows", "_law_k", "_law_pair"] := rfl
noncomputable abbrev v_is_lot_3 : ME := (mGAll false (mIZ (mCons (mVar 0) (mCons (mSl (mVar 0) (mOSo (mC (.int 1))) mONo) mNil))) (gT 2 (gsC (gN 1) (gsC (gN 2) gsN))) mYes (mBin ltD (mVar 1) (mVar 2)) [1, 2])
noncomputable abbrev t_is_lot_3 : MS := (mRet v_is_lot_3)
noncomputable abbrev c_is_lot_1 : MT := (mOrT (mNotT (mTest (mIsi "tuple" (mVar 0)))) (mNotT (mTest (mGAll false (mIT (mVar 0)) (gN 1) mYes (mCall io_is_number m_is_number (mCons (mVar 1) mNil)) [1]))))
noncomputable abbrev v_is_lot_2 : ME := (mC (.bl false))
noncomputable abbrev t_is_lot_2 : MS := (mRet v_is_lot_2)
noncomputable abbrev t_is_lot_1 : MS := (mIfS c_is_lot_1 t_is_lot_2 mSkip)
theorem bq_is_lot : bd_is_lot = (mSeq t_is_lot_1 t_is_lot_3) := rfl
theorem slots_is_lot : ["thing", "one", "other"] = ["thing", "one", "other"] := rfl
noncomputable abbrev v_rank_of_3 : ME := (mIf (mTest (mBin ltD (mVar 1) (mVar 2))) (mC (.int 11)) (mBin idxD (mBin idxD (mBin idxD (mVar 0) (mC (.int 1))) (mBin subD (mVar 1) (mVar 2))) (mC (.int 1))))
noncomputable abbrev t_rank_of_3 : MS := (mRet v_rank_of_3)
noncomputable abbrev v_rank_of_2 : ME := (mFn lenD (mCons (mBin idxD (mVar 0) (mC (.int 0))) mNil))
noncomputable abbrev t_rank_of_2 : MS := (mSet 2 v_rank_of_2)
noncomputable abbrev t_rank_of_1 : MS := (mExpr (mCall io_require m_require (mCons (mCall io_is_node m_is_node (mCons (mVar 0) (mCons (mVar 1) mNil))) (mCons (mC (.str "node")) mNil))))
theorem bq_rank_of : bd_rank_of = (mSeq t_rank_of_1 (mSeq t_rank_of_2 t_rank_of_3)) := rfl
theorem slots_rank_of : ["net", "node", "feeds"] = ["net", "node", "feeds"] := rfl
noncomputable abbrev v_switch_rank_2 : ME := (mCall io_rank_of_strength m_rank_of_strength (mCons (mBin idxD (mBin idxD (mBin idxD (mVar 0) (mC (.int 2))) (mVar 1)) (mC (.int 1))) mNil))
noncomputable abbrev t_switch_rank_2 : MS := (mRet v_switch_rank_2)
noncomputable abbrev t_switch_rank_1 : MS := (mExpr (mCall io_require m_require (mCons (mCall io_is_switch_of m_is_switch_of (mCons (mVar 0) (mCons (mVar 1) mNil))) (mCons (mC (.str "switch")) mNil))))
theorem bq_switch_rank : bd_switch_rank = (mSeq t_switch_rank_1 t_switch_rank_2) := rfl
theorem slots_switch_rank : ["net", "switch"] = ["net", "switch"] := rfl
noncomputable abbrev v_are_numbers_3 : ME := (mGAll false (mIT (mVar 1)) (gN 3) mYes (mCall io_is_between m_is_between (mCons (mVar 3) (mCons (mC (.int 0)) (mCons (mVar 2) mNil)))) [3])
noncomputable abbrev t_are_numbers_3 : MS := (mRet v_are_numbers_3)
noncomputable abbrev c_are_numbers_1 : MT := (mOrT (mNotT (mTest (mIsi "tuple" (mVar 1)))) (mTest (mBin neD (mFn lenD (mCons (mVar 1) mNil)) (mCall io_count_of_nodes m_count_of_nodes (mCons (mVar 0) mNil)))))
noncomputable abbrev v_are_numbers_2 : ME := (mC (.bl false))
noncomputable abbrev t_are_numbers_2 : MS := (mRet v_are_numbers_2)
noncomputable abbrev t_are_numbers_1 : MS := (mIfS c_are_numbers_1 t_are_numbers_2 mSkip)
theorem bq_are_numbers : bd_are_numbers = (mSeq t_are_numbers_1 t_are_numbers_3) := rfl
theorem slots_are_numbers : ["net", "thing", "most", "number"] = ["net", "thing", "most", "number"] := rfl
noncomputable abbrev v_flood_4 : ME := (mBin idxD (mCall io_flooded m_flooded (mCons (mVar 0) (mCons (mVar 1) (mCons (mVar 2) (mCons (mVar 3) mNil))))) (mC (.int 0)))
noncomputable abbrev t_flood_4 : MS := (mRet v_flood_4)
noncomputable abbrev t_flood_3 : MS := (mExpr (mCall io_require m_require (mCons (mCall io_are_numbers m_are_numbers (mCons (mVar 0) (mCons (mVar 3) (mCons (mC (.int 12)) mNil)))) (mCons (mC (.str "floors")) mNil))))
noncomputable abbrev t_flood_2 : MS := (mExpr (mCall io_require m_require (mCons (mCall io_are_numbers m_are_numbers (mCons (mVar 0) (mCons (mVar 2) (mCons (mC (.int 11)) mNil)))) (mCons (mC (.str "starts")) mNil))))
noncomputable abbrev t_flood_1 : MS := (mExpr (mCall io_require m_require (mCons (mAnd (mCall io_is_lot m_is_lot (mCons (mVar 1) mNil)) (mGAll false (mIT (mVar 1)) (gN 4) mYes (mCall io_is_switch_of m_is_switch_of (mCons (mVar 0) (mCons (mVar 4) mNil))) [4])) (mCons (mC (.str "usable")) mNil))))
theorem bq_flood : bd_flood = (mSeq t_flood_1 (mSeq t_flood_2 (mSeq t_flood_3 t_flood_4))) := rfl
theorem slots_flood : ["net", "usable", "starts", "floors", "switch"] = ["net", "usable", "starts", "floors", "switch"] := rfl
noncomputable abbrev v_l_no_rank_16 : ME := (mFn tupD (mCons (mVar 3) mNil))
noncomputable abbrev t_l_no_rank_16 : MS := (mRet v_l_no_rank_16)
noncomputable abbrev t_l_no_rank_11 : MS := (mExpr (mAppend 3 (mC (.str "let"))))
noncomputable abbrev t_l_no_rank_10 : MS := (mExpr (mCall io_switch_rank m_switch_rank (mCons (mVar 0) (mCons (mVar 2) mNil))))
noncomputable abbrev c_l_no_rank_13 : MT := (mTest (mIsX 4 (tbl [("NotUsable", true)])))
noncomputable abbrev t_l_no_rank_15 : MS := (mExpr (mAppend 3 (mXf 4 (ins [("NotUsable", true)]) "at")))
noncomputable abbrev t_l_no_rank_14 : MS := (mExpr (mAppend 3 (mXf 4 (ins [("NotUsable", true)]) "word")))
noncomputable abbrev b_l_no_rank_13 : MS := (mSeq t_l_no_rank_14 t_l_no_rank_15)
noncomputable abbrev t_l_no_rank_13 : MS := (mIfS c_l_no_rank_13 b_l_no_rank_13 mSkip)
noncomputable abbrev t_l_no_rank_9 : MS := (mTryAs 4 (tbl [("NotUsable", true)]) t_l_no_rank_13 [] (mSeq t_l_no_rank_10 t_l_no_rank_11))
noncomputable abbrev t_l_no_rank_4 : MS := (mExpr (mAppend 3 (mC (.str "let"))))
noncomputable abbrev t_l_no_rank_3 : MS := (mExpr (mCall io_rank_of m_rank_of (mCons (mVar 0) (mCons (mVar 1) mNil))))
noncomputable abbrev c_l_no_rank_6 : MT := (mTest (mIsX 4 (tbl [("NotUsable", true)])))
noncomputable abbrev t_l_no_rank_8 : MS := (mExpr (mAppend 3 (mXf 4 (ins [("NotUsable", true)]) "at")))
noncomputable abbrev t_l_no_rank_7 : MS := (mExpr (mAppend 3 (mXf 4 (ins [("NotUsable", true)]) "word")))
noncomputable abbrev b_l_no_rank_6 : MS := (mSeq t_l_no_rank_7 t_l_no_rank_8)
noncomputable abbrev t_l_no_rank_6 : MS := (mIfS c_l_no_rank_6 b_l_no_rank_6 mSkip)
noncomputable abbrev t_l_no_rank_2 : MS := (mTryAs 4 (tbl [("NotUsable", true)]) t_l_no_rank_6 [] (mSeq t_l_no_rank_3 t_l_no_rank_4))
noncomputable abbrev v_l_no_rank_1 : ME := (mLst mNil)
noncomputable abbrev t_l_no_rank_1 : MS := (mSet 3 v_l_no_rank_1)
theorem bq_l_no_rank : bd_l_no_rank = (mSeq t_l_no_rank_1 (mSeq t_l_no_rank_2 (mSeq t_l_no_rank_9 t_l_no_rank_16))) := rfl
theorem slots_l_no_rank : ["_law_web_here", "_law_spot", "_law_place", "_law_told", "e"] = ["_law_web_here", "_law_spot", "_law_place", "_law_told", "e"] := rfl
noncomputable abbrev v_l_refused_9 : ME := (mC .non)
noncomputable abbrev t_l_refused_9 : MS := (mRet v_l_refused_9)
noncomputable abbrev t_l_refused_2 : MS := (mExpr (mCall io_flood m_flood (mCons (mVar 0) (mCons (mVar 1) (mCons (mVar 2) (mCons (mVar 3) mNil))))))
noncomputable abbrev v_l_refused_8 : ME := (mTup (mCons (mXf 4 (ins [("NotUsable", true)]) "word") (mCons (mXf 4 (ins [("NotUsable", true)]) "at") mNil)))
noncomputable abbrev t_l_refused_8 : MS := (mRet v_l_refused_8)
noncomputable abbrev c_l_refused_6 : MT := (mOrT (mNotT (mTest (mIsX 4 (tbl [("NotUsable", true)])))) (mOrT (mNotT (mTest (mIsX 4 (tbl [("NotUsable", true)])))) (mNotT (mTest (mIsX 4 (tbl [("NotUsable", true)]))))))
noncomputable abbrev v_l_refused_7 : ME := (mC .non)
noncomputable abbrev t_l_refused_7 : MS := (mRet v_l_refused_7)
noncomputable abbrev t_l_refused_6 : MS := (mIfS c_l_refused_6 t_l_refused_7 mSkip)
noncomputable abbrev c_l_refused_4 : MT := (mTest (mIsX 4 (tbl [("NotUsable", false)])))
noncomputable abbrev v_l_refused_5 : ME := (mC .non)
noncomputable abbrev t_l_refused_5 : MS := (mRet v_l_refused_5)
noncomputable abbrev t_l_refused_4 : MS := (mIfS c_l_refused_4 t_l_refused_5 mSkip)
noncomputable abbrev t_l_refused_1 : MS := (mTryAs 4 (tbl [("NotUsable", true)]) (mSeq t_l_refused_4 (mSeq t_l_refused_6 t_l_refused_8)) [] t_l_refused_2)
theorem bq_l_refused : bd_l_refused = (mSeq t_l_refused_1 t_l_refused_9) := rfl
theorem slots_l_refused : ["_law_web_here", "_law_lets", "_law_begins_here", "_law_bars_here", "e"] = ["_law_web_here", "_law_lets", "_law_begins_here", "_law_bars_here", "e"] := rfl
noncomputable abbrev v_l_same_16 (M_l_same : MF) : ME := (mC (.bl false))
noncomputable abbrev t_l_same_16 (M_l_same : MF) : MS := (mRet (v_l_same_16 M_l_same))
noncomputable abbrev c_l_same_14 (M_l_same : MF) : MT := (mAndT (mTest (mIsi "str" (mVar 0))) (mTest (mIsi "str" (mVar 1))))
noncomputable abbrev v_l_same_15 (M_l_same : MF) : ME := (mBin eqD (mVar 0) (mVar 1))
noncomputable abbrev t_l_same_15 (M_l_same : MF) : MS := (mRet (v_l_same_15 M_l_same))
noncomputable abbrev t_l_same_14 (M_l_same : MF) : MS := (mIfS (c_l_same_14 M_l_same) (t_l_same_15 M_l_same) mSkip)
noncomputable abbrev c_l_same_12 (M_l_same : MF) : MT := (mAndT (mTest (mIsi "int" (mVar 0))) (mTest (mIsi "int" (mVar 1))))
noncomputable abbrev v_l_same_13 (M_l_same : MF) : ME := (mBin eqD (mVar 0) (mVar 1))
noncomputable abbrev t_l_same_13 (M_l_same : MF) : MS := (mRet (v_l_same_13 M_l_same))
noncomputable abbrev t_l_same_12 (M_l_same : MF) : MS := (mIfS (c_l_same_12 M_l_same) (t_l_same_13 M_l_same) mSkip)
noncomputable abbrev c_l_same_10 (M_l_same : MF) : MT := (mOrT (mTest (mIsi "bool" (mVar 0))) (mTest (mIsi "bool" (mVar 1))))
noncomputable abbrev v_l_same_11 (M_l_same : MF) : ME := (mOr (mAnd (mBin (isD false) (mVar 0) (mC (.bl true))) (mBin (isD false) (mVar 1) (mC (.bl true)))) (mAnd (mBin (isD false) (mVar 0) (mC (.bl false))) (mBin (isD false) (mVar 1) (mC (.bl false)))))
noncomputable abbrev t_l_same_11 (M_l_same : MF) : MS := (mRet (v_l_same_11 M_l_same))
noncomputable abbrev t_l_same_10 (M_l_same : MF) : MS := (mIfS (c_l_same_10 M_l_same) (t_l_same_11 M_l_same) mSkip)
noncomputable abbrev c_l_same_8 (M_l_same : MF) : MT := (mOrT (mTest (mBin (isD false) (mVar 0) (mC .non))) (mTest (mBin (isD false) (mVar 1) (mC .non))))
noncomputable abbrev v_l_same_9 (M_l_same : MF) : ME := (mAnd (mBin (isD false) (mVar 0) (mC .non)) (mBin (isD false) (mVar 1) (mC .non)))
noncomputable abbrev t_l_same_9 (M_l_same : MF) : MS := (mRet (v_l_same_9 M_l_same))
noncomputable abbrev t_l_same_8 (M_l_same : MF) : MS := (mIfS (c_l_same_8 M_l_same) (t_l_same_9 M_l_same) mSkip)
noncomputable abbrev c_l_same_1 (M_l_same : MF) : MT := (mAndT (mTest (mIsi "tuple" (mVar 0))) (mTest (mIsi "tuple" (mVar 1))))
noncomputable abbrev v_l_same_7 (M_l_same : MF) : ME := (mC (.bl true))
noncomputable abbrev t_l_same_7 (M_l_same : MF) : MS := (mRet (v_l_same_7 M_l_same))
noncomputable abbrev i_l_same_4 (M_l_same : MF) : MI := (mIR1 (mCons (mFn lenD (mCons (mVar 0) mNil)) mNil))
noncomputable abbrev g_l_same_4 (M_l_same : MF) : (D → EV → Option EV) := (gN 2)
noncomputable abbrev c_l_same_5 (M_l_same : MF) : MT := (mNotT (mTest (mCall io_l_same M_l_same (mCons (mBin idxD (mVar 0) (mVar 2)) (mCons (mBin idxD (mVar 1) (mVar 2)) mNil)))))
noncomputable abbrev v_l_same_6 (M_l_same : MF) : ME := (mC (.bl false))
noncomputable abbrev t_l_same_6 (M_l_same : MF) : MS := (mRet (v_l_same_6 M_l_same))
noncomputable abbrev t_l_same_5 (M_l_same : MF) : MS := (mIfS (c_l_same_5 M_l_same) (t_l_same_6 M_l_same) mSkip)
noncomputable abbrev t_l_same_4 (M_l_same : MF) : MS := (mFor (i_l_same_4 M_l_same) (g_l_same_4 M_l_same) (t_l_same_5 M_l_same))
noncomputable abbrev c_l_same_2 (M_l_same : MF) : MT := (mTest (mBin neD (mFn lenD (mCons (mVar 0) mNil)) (mFn lenD (mCons (mVar 1) mNil))))
noncomputable abbrev v_l_same_3 (M_l_same : MF) : ME := (mC (.bl false))
noncomputable abbrev t_l_same_3 (M_l_same : MF) : MS := (mRet (v_l_same_3 M_l_same))
noncomputable abbrev t_l_same_2 (M_l_same : MF) : MS := (mIfS (c_l_same_2 M_l_same) (t_l_same_3 M_l_same) mSkip)
noncomputable abbrev b_l_same_1 (M_l_same : MF) : MS := (mSeq (t_l_same_2 M_l_same) (mSeq (t_l_same_4 M_l_same) (t_l_same_7 M_l_same)))
noncomputable abbrev t_l_same_1 (M_l_same : MF) : MS := (mIfS (c_l_same_1 M_l_same) (b_l_same_1 M_l_same) mSkip)
theorem bq_l_same (M_l_same : MF) : bd_l_same M_l_same = (mSeq (t_l_same_1 M_l_same) (mSeq (t_l_same_8 M_l_same) (mSeq (t_l_same_10 M_l_same) (mSeq (t_l_same_12 M_l_same) (mSeq (t_l_same_14 M_l_same) (t_l_same_16 M_l_same)))))) := rfl
theorem slots_l_same : ["_law_one", "_law_other", "_law_k"] = ["_law_one", "_law_other", "_law_k"] := rfl
noncomputable abbrev v_l_refusals_27 : ME := (mCall io_l_same m_l_same (mCons (mCall io_l_no_rank m_l_no_rank (mCons (mVar 1) (mCons (mVar 8) (mCons (mBin addD (mVar 5) (mBin mulD (mC (.int 7)) (mBin fdivD (mVar 7) (mC (.int 2))))) mNil)))) (mCons (mTup (mCons (mC (.str "node")) (mCons (mNeg (mC (.int 1))) (mCons (mC (.str "switch")) (mCons (mNeg (mC (.int 1))) mNil))))) mNil)))
noncomputable abbrev t_l_refusals_27 : MS := (mRet v_l_refusals_27)
noncomputable abbrev c_l_refusals_25 : MT := (mNotT (mTest (mCall io_l_same m_l_same (mCons (mCall io_l_no_rank m_l_no_rank (mCons (mVar 1) (mCons (mVar 15) (mCons (mVar 8) mNil)))) (mCons (mTup (mCons (mC (.str "node")) (mCons (mNeg (mC (.int 1))) (mCons (mC (.str "switch")) (mCons (mNeg (mC (.int 1))) mNil))))) mNil)))))
noncomputable abbrev v_l_refusals_26 : ME := (mC (.bl false))
noncomputable abbrev t_l_refusals_26 : MS := (mRet v_l_refusals_26)
noncomputable abbrev t_l_refusals_25 : MS := (mIfS c_l_refusals_25 t_l_refusals_26 mSkip)
noncomputable abbrev v_l_refusals_24 : ME := (mBin idxD (mTup (mCons (mFn lenD (mCons (mVar 3) mNil)) (mCons (mNeg (mC (.int 1))) (mCons (mC (.bl true)) (mCons (mC .non) (mCons (mTup (mCons (mC (.int 0)) mNil)) (mCons (mC (.str "0")) (mCons (mBin powD (mC (.int 10)) (mC (.int 30))) mNil)))))))) (mCall io_l_pick m_l_pick (mCons (mVar 0) (mCons (mC (.int 7)) mNil))))
noncomputable abbrev t_l_refusals_24 : MS := (mSet 15 v_l_refusals_24)
noncomputable abbrev c_l_refusals_22 : MT := (mNotT (mTest (mCall io_l_same m_l_same (mCons (mCall io_l_refused m_l_refused (mCons (mVar 1) (mCons (mVar 2) (mCons (mVar 3) (mCons (mVar 12) mNil))))) (mCons (mTup (mCons (mC (.str "floors")) (mCons (mNeg (mC (.int 1))) mNil))) mNil)))))
noncomputable abbrev v_l_refusals_23 : ME := (mC (.bl false))
noncomputable abbrev t_l_refusals_23 : MS := (mRet v_l_refusals_23)
noncomputable abbrev t_l_refusals_22 : MS := (mIfS c_l_refusals_22 t_l_refusals_23 mSkip)
noncomputable abbrev c_l_refusals_20 : MT := (mNotT (mTest (mCall io_l_same m_l_same (mCons (mCall io_l_refused m_l_refused (mCons (mVar 1) (mCons (mVar 2) (mCons (mVar 11) (mCons (mVar 12) mNil))))) (mCons (mTup (mCons (mC (.str "starts")) (mCons (mNeg (mC (.int 1))) mNil))) mNil)))))
noncomputable abbrev v_l_refusals_21 : ME := (mC (.bl false))
noncomputable abbrev t_l_refusals_21 : MS := (mRet v_l_refusals_21)
noncomputable abbrev t_l_refusals_20 : MS := (mIfS c_l_refusals_20 t_l_refusals_21 mSkip)
noncomputable abbrev c_l_refusals_18 : MT := (mNotT (mTest (mCall io_l_same m_l_same (mCons (mCall io_l_refused m_l_refused (mCons (mVar 1) (mCons (mVar 2) (mCons (mVar 11) (mCons (mVar 4) mNil))))) (mCons (mTup (mCons (mC (.str "starts")) (mCons (mNeg (mC (.int 1))) mNil))) mNil)))))
noncomputable abbrev v_l_refusals_19 : ME := (mC (.bl false))
noncomputable abbrev t_l_refusals_19 : MS := (mRet v_l_refusals_19)
noncomputable abbrev t_l_refusals_18 : MS := (mIfS c_l_refusals_18 t_l_refusals_19 mSkip)
noncomputable abbrev c_l_refusals_16 : MT := (mNotT (mTest (mCall io_l_same m_l_same (mCons (mCall io_l_refused m_l_refused (mCons (mVar 1) (mCons (mVar 14) (mCons (mVar 11) (mCons (mVar 12) mNil))))) (mCons (mTup (mCons (mC (.str "usable")) (mCons (mNeg (mC (.int 1))) mNil))) mNil)))))
noncomputable abbrev v_l_refusals_17 : ME := (mC (.bl false))
noncomputable abbrev t_l_refusals_17 : MS := (mRet v_l_refusals_17)
noncomputable abbrev t_l_refusals_16 : MS := (mIfS c_l_refusals_16 t_l_refusals_17 mSkip)
noncomputable abbrev c_l_refusals_14 : MT := (mNotT (mTest (mCall io_l_same m_l_same (mCons (mCall io_l_refused m_l_refused (mCons (mVar 1) (mCons (mVar 14) (mCons (mVar 3) (mCons (mVar 4) mNil))))) (mCons (mTup (mCons (mC (.str "usable")) (mCons (mNeg (mC (.int 1))) mNil))) mNil)))))
noncomputable abbrev v_l_refusals_15 : ME := (mC (.bl false))
noncomputable abbrev t_l_refusals_15 : MS := (mRet v_l_refusals_15)
noncomputable abbrev t_l_refusals_14 : MS := (mIfS c_l_refusals_14 t_l_refusals_15 mSkip)
noncomputable abbrev v_l_refusals_13 : ME := (mBin idxD (mVar 13) (mCall io_l_pick m_l_pick (mCons (mVar 0) (mCons (mC (.int 10)) mNil))))
noncomputable abbrev t_l_refusals_13 : MS := (mSet 14 v_l_refusals_13)
noncomputable abbrev v_l_refusals_12 : ME := (mLst (mCons (mBin addD (mVar 2) (mTup (mCons (mVar 5) mNil))) (mCons (mFn listD (mCons (mVar 2) mNil)) (mCons (mTup (mCons (mC (.bl true)) mNil)) (mCons (mTup (mCons (mC (.int 0)) (mCons (mC (.int 0)) mNil))) (mCons (mTup (mCons (mC (.int 1)) (mCons (mC (.int 0)) mNil))) (mCons (mBin addD (mTup (mCons (mNeg (mC (.int 1))) mNil)) (mVar 2)) (mCons (mC .non) (mCons (mC (.int 0)) (mCons (mC (.str "")) (mCons (mTup (mCons (mC .non) mNil)) mNil)))))))))))
noncomputable abbrev t_l_refusals_12 : MS := (mSet 13 v_l_refusals_12)
noncomputable abbrev v_l_refusals_11 : ME := (mCall io_l_spoilt m_l_spoilt (mCons (mVar 4) (mCons (mVar 6) (mCons (mVar 10) (mCons (mVar 7) mNil)))))
noncomputable abbrev t_l_refusals_11 : MS := (mSet 12 v_l_refusals_11)
noncomputable abbrev v_l_refusals_10 : ME := (mCall io_l_spoilt m_l_spoilt (mCons (mVar 3) (mCons (mVar 6) (mCons (mVar 9) (mCons (mVar 7) mNil)))))
noncomputable abbrev t_l_refusals_10 : MS := (mSet 11 v_l_refusals_10)
noncomputable abbrev c_l_refusals_7 : MT := (mTest (mBin eqD (mCall io_l_pick m_l_pick (mCons (mVar 0) (mCons (mC (.int 2)) mNil))) (mC (.int 0))))
noncomputable abbrev v_l_refusals_9 : ME := (mC (.int 13))
noncomputable abbrev t_l_refusals_9 : MS := (mSet 10 v_l_refusals_9)
noncomputable abbrev v_l_refusals_8 : ME := (mC (.int 12))
noncomputable abbrev t_l_refusals_8 : MS := (mSet 9 v_l_refusals_8)
noncomputable abbrev b_l_refusals_7 : MS := (mSeq t_l_refusals_8 t_l_refusals_9)
noncomputable abbrev t_l_refusals_7 : MS := (mIfS c_l_refusals_7 b_l_refusals_7 mSkip)
noncomputable abbrev v_l_refusals_6 : ME := (mVar 8)
noncomputable abbrev t_l_refusals_6 : MS := (mSet 10 v_l_refusals_6)
noncomputable abbrev v_l_refusals_5 : ME := (mVar 8)
noncomputable abbrev t_l_refusals_5 : MS := (mSet 9 v_l_refusals_5)
noncomputable abbrev v_l_refusals_4 : ME := (mBin idxD (mTup (mCons (mC (.bl true)) (mCons (mNeg (mC (.int 1))) (mCons (mC .non) (mCons (mC (.str "1")) (mCons (mTup (mCons (mC (.int 1)) mNil)) (mCons (mC (.bl false)) mNil))))))) (mCall io_l_pick m_l_pick (mCons (mVar 0) (mCons (mC (.int 6)) mNil))))
noncomputable abbrev t_l_refusals_4 : MS := (mSet 8 v_l_refusals_4)
noncomputable abbrev v_l_refusals_3 : ME := (mCall io_l_pick m_l_pick (mCons (mVar 0) (mCons (mC (.int 10)) mNil)))
noncomputable abbrev t_l_refusals_3 : MS := (mSet 7 v_l_refusals_3)
noncomputable abbrev v_l_refusals_2 : ME := (mCall io_l_pick m_l_pick (mCons (mVar 0) (mCons (mFn lenD (mCons (mVar 3) mNil)) mNil)))
noncomputable abbrev t_l_refusals_2 : MS := (mSet 6 v_l_refusals_2)
noncomputable abbrev v_l_refusals_1 : ME := (mFn lenD (mCons (mBin idxD (mVar 1) (mC (.int 2))) mNil))
noncomputable abbrev t_l_refusals_1 : MS := (mSet 5 v_l_refusals_1)
theorem bq_l_refusals : bd_l_refusals = (mSeq t_l_refusals_1 (mSeq t_l_refusals_2 (mSeq t_l_refusals_3 (mSeq t_l_refusals_4 (mSeq t_l_refusals_5 (mSeq t_l_refusals_6 (mSeq t_l_refusals_7 (mSeq t_l_refusals_10 (mSeq t_l_refusals_11 (mSeq t_l_refusals_12 (mSeq t_l_refusals_13 (mSeq t_l_refusals_14 (mSeq t_l_refusals_16 (mSeq t_l_refusals_18 (mSeq t_l_refusals_20 (mSeq t_l_refusals_22 (mSeq t_l_refusals_24 (mSeq t_l_refusals_25 t_l_refusals_27)))))))))))))))))) := rfl
theorem slots_l_refusals : ["_law_tape_here", "_law_web_here", "_law_lets", "_law_begins_here", "_law_bars_here", "_law_switches", "_law_place", "_law_way", "_law_odd", "_law_high", "_law_deep", "_law_no_start", "_law_no_bar", "_law_doubled", "_law_no_lets", "_law_spot"] = ["_law_tape_here", "_law_web_here", "_law_lets", "_law_begins_here", "_law_bars_here", "_law_switches", "_law_place", "_law_way", "_law_odd", "_law_high", "_law_deep", "_law_no_start", "_law_no_bar", "_law_doubled", "_law_no_lets", "_law_spot"] := rfl
noncomputable abbrev v_law_30 : ME := (mC (.bl true))
noncomputable abbrev t_law_30 : MS := (mRet v_law_30)
noncomputable abbrev i_law_27 : MI := (mIL (mSl (mVar 7) mONo (mOSo (mC (.int 2)))))
noncomputable abbrev g_law_27 : (D → EV → Option EV) := (gN 13)
noncomputable abbrev c_law_28 : MT := (mNotT (mTest (mCall io_l_same m_l_same (mCons (mCall io_flood m_flood (mCons (mVar 2) (mCons (mBin idxD (mVar 13) (mC (.int 0))) (mCons (mBin idxD (mVar 13) (mC (.int 1))) (mCons (mBin idxD (mVar 13) (mC (.int 2))) mNil))))) (mCons (mBin idxD (mVar 13) (mC (.int 3))) mNil)))))
noncomputable abbrev v_law_29 : ME := (mC (.bl false))
noncomputable abbrev t_law_29 : MS := (mRet v_law_29)
noncomputable abbrev t_law_28 : MS := (mIfS c_law_28 t_law_29 mSkip)
noncomputable abbrev t_law_27 : MS := (mFor i_law_27 g_law_27 t_law_28)
noncomputable abbrev c_law_25 : MT := (mNotT (mTest (mCall io_l_refusals m_l_refusals (mCons (mVar 1) (mCons (mVar 2) (mCons (mBin idxD (mBin idxD (mVar 7) (mC (.int 0))) (mC (.int 0))) (mCons (mBin idxD (mBin idxD (mVar 7) (mC (.int 0))) (mC (.int 1))) (mCons (mBin idxD (mBin idxD (mVar 7) (mC (.int 0))) (mC (.int 2))) mNil))))))))
noncomputable abbrev v_law_26 : ME := (mC (.bl false))
noncomputable abbrev t_law_26 : MS := (mRet v_law_26)
noncomputable abbrev t_law_25 : MS := (mIfS c_law_25 t_law_26 mSkip)
noncomputable abbrev i_law_13 : MI := (mIR1 (mCons (mC (.int 4)) mNil))
noncomputable abbrev g_law_13 : (D → EV → Option EV) := (gN 8)
noncomputable abbrev c_law_23 : MT := (mOrT (mNotT (mTest (mIsi "tuple" (mVar 12)))) (mNotT (mTest (mCall io_l_same m_l_same (mCons (mVar 12) (mCons (mVar 5) mNil))))))
noncomputable abbrev v_law_24 : ME := (mC (.bl false))
noncomputable abbrev t_law_24 : MS := (mRet v_law_24)
noncomputable abbrev t_law_23 : MS := (mIfS c_law_23 t_law_24 mSkip)
noncomputable abbrev c_law_19 : MT := (mTest (mBin eqD (mVar 8) (mC (.int 1))))
noncomputable abbrev v_law_20 : ME := (mCallK [3, 2, 1, 0] io_flood m_flood (mCons (mVar 11) (mCons (mVar 10) (mCons (mVar 9) (mCons (mVar 2) mNil)))))
noncomputable abbrev t_law_20 : MS := (mSet 12 v_law_20)
noncomputable abbrev v_law_22 : ME := (mCall io_flood m_flood (mCons (mVar 2) (mCons (mVar 9) (mCons (mVar 10) (mCons (mVar 11) mNil)))))
noncomputable abbrev t_law_22 : MS := (mSet 12 v_law_22)
noncomputable abbrev t_law_19 : MS := (mIfS c_law_19 t_law_20 t_law_22)
noncomputable abbrev t_law_18 : MS := (mExpr (mAppend 7 (mTup (mCons (mVar 9) (mCons (mVar 10) (mCons (mVar 11) (mCons (mVar 5) mNil)))))))
noncomputable abbrev v_law_17 : ME := (mCall io_l_widened m_l_widened (mCons (mVar 2) (mCons (mVar 9) (mCons (mVar 10) (mCons (mVar 11) mNil)))))
noncomputable abbrev t_law_17 : MS := (mSet 5 v_law_17)
noncomputable abbrev v_law_16 : ME := (mCall io_l_bars m_l_bars (mCons (mVar 1) (mCons (mCall io_l_widened m_l_widened (mCons (mVar 2) (mCons (mVar 9) (mCons (mVar 10) (mCons (mBin mulD (mTup (mCons (mC (.int 0)) mNil)) (mVar 3)) mNil))))) mNil)))
noncomputable abbrev t_law_16 : MS := (mSet 11 v_law_16)
noncomputable abbrev v_law_15 : ME := (mCall io_l_begins m_l_begins (mCons (mVar 1) (mCons (mVar 2) mNil)))
noncomputable abbrev t_law_15 : MS := (mSet 10 v_law_15)
noncomputable abbrev v_law_14 : ME := (mFn tupD (mCons (mLc (mIR1 (mCons (mFn lenD (mCons (mBin idxD (mVar 2) (mC (.int 2))) mNil)) mNil)) (gN 14) (mTest (mBin gtD (mCall io_l_pick m_l_pick (mCons (mVar 1) (mCons (mC (.int 6)) mNil))) (mC (.int 0)))) (mVar 14) [14]) mNil))
noncomputable abbrev t_law_14 : MS := (mSet 9 v_law_14)
noncomputable abbrev b_law_13 : MS := (mSeq t_law_14 (mSeq t_law_15 (mSeq t_law_16 (mSeq t_law_17 (mSeq t_law_18 (mSeq t_law_19 t_law_23))))))
noncomputable abbrev t_law_13 : MS := (mFor i_law_13 g_law_13 b_law_13)
noncomputable abbrev v_law_12 : ME := (mLst mNil)
noncomputable abbrev t_law_12 : MS := (mSet 7 v_law_12)
noncomputable abbrev i_law_8 : MI := (mIR1 (mCons (mFn lenD (mCons (mBin idxD (mVar 2) (mC (.int 2))) mNil)) mNil))
noncomputable abbrev g_law_8 : (D → EV → Option EV) := (gN 6)
noncomputable abbrev c_law_10 : MT := (mOrT (mNotT (mTest (mCall io_l_same m_l_same (mCons (mCall io_switch_rank m_switch_rank (mCons (mVar 2) (mCons (mVar 6) mNil))) (mCons (mVar 5) mNil))))) (mNotT (mTest (mCall io_l_same m_l_same (mCons (mCallK [1, 0] io_switch_rank m_switch_rank (mCons (mVar 6) (mCons (mVar 2) mNil))) (mCons (mVar 5) mNil))))))
noncomputable abbrev v_law_11 : ME := (mC (.bl false))
noncomputable abbrev t_law_11 : MS := (mRet v_law_11)
noncomputable abbrev t_law_10 : MS := (mIfS c_law_10 t_law_11 mSkip)
noncomputable abbrev v_law_9 : ME := (mBin addD (mC (.int 4)) (mBin idxD (mBin idxD (mBin idxD (mVar 2) (mC (.int 2))) (mVar 6)) (mC (.int 1))))
noncomputable abbrev t_law_9 : MS := (mSet 5 v_law_9)
noncomputable abbrev b_law_8 : MS := (mSeq t_law_9 t_law_10)
noncomputable abbrev t_law_8 : MS := (mFor i_law_8 g_law_8 b_law_8)
noncomputable abbrev i_law_4 : MI := (mIR1 (mCons (mVar 3) mNil))
noncomputable abbrev g_law_4 : (D → EV → Option EV) := (gN 4)
noncomputable abbrev c_law_6 : MT := (mOrT (mNotT (mTest (mCall io_l_same m_l_same (mCons (mCall io_rank_of m_rank_of (mCons (mVar 2) (mCons (mVar 4) mNil))) (mCons (mVar 5) mNil))))) (mNotT (mTest (mCall io_l_same m_l_same (mCons (mCallK [1, 0] io_rank_of m_rank_of (mCons (mVar 4) (mCons (mVar 2) mNil))) (mCons (mVar 5) mNil))))))
noncomputable abbrev v_law_7 : ME := (mC (.bl false))
noncomputable abbrev t_law_7 : MS := (mRet v_law_7)
noncomputable abbrev t_law_6 : MS := (mIfS c_law_6 t_law_7 mSkip)
noncomputable abbrev v_law_5 : ME := (mCall io_l_rank m_l_rank (mCons (mVar 2) (mCons (mVar 4) mNil)))
noncomputable abbrev t_law_5 : MS := (mSet 5 v_law_5)
noncomputable abbrev b_law_4 : MS := (mSeq t_law_5 t_law_6)
noncomputable abbrev t_law_4 : MS := (mFor i_law_4 g_law_4 b_law_4)
noncomputable abbrev v_law_3 : ME := (mBin addD (mFn lenD (mCons (mBin idxD (mVar 2) (mC (.int 0))) mNil)) (mFn lenD (mCons (mBin idxD (mVar 2) (mC (.int 1))) mNil)))
noncomputable abbrev t_law_3 : MS := (mSet 3 v_law_3)
noncomputable abbrev v_law_2 : ME := (mCall io_l_web m_l_web (mCons (mVar 1) mNil))
noncomputable abbrev t_law_2 : MS := (mSet 2 v_law_2)
noncomputable abbrev v_law_1 : ME := (mCall io_l_tape m_l_tape (mCons (mVar 0) mNil))
noncomputable abbrev t_law_1 : MS := (mSet 1 v_law_1)
theorem bq_law : bd_law = (mSeq t_law_1 (mSeq t_law_2 (mSeq t_law_3 (mSeq t_law_4 (mSeq t_law_8 (mSeq t_law_12 (mSeq t_law_13 (mSeq t_law_25 (mSeq t_law_27 t_law_30))))))))) := rfl
theorem slots_law : ["_law_script", "_law_tape_here", "_law_web_here", "_law_total", "_law_spot", "_law_due", "_law_place", "_law_asked", "_law_turn", "_law_lets", "_law_begins_here", "_law_bars_here", "_law_told", "_law_one", "_law_k"] = ["_law_script", "_law_tape_here", "_law_web_here", "_law_total", "_law_spot", "_law_due", "_law_place", "_law_asked", "_law_turn", "_law_lets", "_law_begins_here", "_law_bars_here", "_law_told", "_law_one", "_law_k"] := rfl
end K29

set_option Elab.async false
set_option linter.all false
set_option maxRecDepth 100000
set_option maxHeartbeats 4000000
namespace K29
open PySem PySem.Spec PyProof.Rows L2 L2H XT GX RD SX PU
/-! ### the tape, picks -/
section
variable {a b c d e f : D} {Γ : EV}
theorem ix0 : mBin idxD (mVar 0) (mC (.int 0)) (.ow true [a, b, c, d] :: Γ) = .ok (.fz a) (.ow true [a, b, c, d] :: Γ) := rfl
theorem ix1 : mBin idxD (mVar 0) (mC (.int 1)) (.ow true [a, b, c, d] :: Γ) = .ok (.fz b) (.ow true [a, b, c, d] :: Γ) := rfl
theorem ix2 : mBin idxD (mVar 0) (mC (.int 2)) (.ow true [a, b, c, d] :: Γ) = .ok (.fz c) (.ow true [a, b, c, d] :: Γ) := rfl
theorem ix3 : mBin idxD (mVar 0) (mC (.int 3)) (.ow true [a, b, c, d] :: Γ) = .ok (.fz d) (.ow true [a, b, c, d] :: Γ) := rfl
theorem six1 {mv : ME} (h : mv (.ow true [a, b, c, d] :: Γ) = .ok (.fz e) (.ow true [a, b, c, d] :: Γ)) : mSetIx 0 mv (mC (.int 1)) (.ow true [a, b, c, d] :: Γ) = .ok .nx (.ow true [a, e, c, d] :: Γ) := ix_run h rfl rfl rfl rfl rfl rfl
theorem six2 {mv : ME} (h : mv (.ow true [a, b, c, d] :: Γ) = .ok (.fz e) (.ow true [a, b, c, d] :: Γ)) : mSetIx 0 mv (mC (.int 2)) (.ow true [a, b, c, d] :: Γ) = .ok .nx (.ow true [a, b, e, d] :: Γ) := ix_run h rfl rfl rfl rfl rfl rfl
theorem six3 {mv : ME} (h : mv (.ow true [a, b, c, d] :: Γ) = .ok (.fz e) (.ow true [a, b, c, d] :: Γ)) : mSetIx 0 mv (mC (.int 3)) (.ow true [a, b, c, d] :: Γ) = .ok .nx (.ow true [a, b, c, e] :: Γ) := ix_run h rfl rfl rfl rfl rfl rfl
end
theorem sq {a b : MS} {Γ Γ1 : EV} {o : Out Fl} (h : a Γ = .ok .nx Γ1) (k : b Γ1 = o) : mSeq a b Γ = o := (seq_nx h).trans k
theorem fn1_run {p : List D → Option Vl} {m : ME} {Γ Γ1 : EV} {v r : Vl} {d : D} (h : m Γ = .ok v Γ1) (h2 : peek Γ1 v.op = some d) (hp : p [d] = some r) : mFn p (mCons m mNil) Γ = .ok r Γ1 := by
  have e : v.op.op = v.op := Vl.op_op v
  simp [mFn, mCons, mNil, h, peeks, e, h2, hp]
theorem fn2_run {p : List D → Option Vl} {m m2 : ME} {Γ Γ1 Γ2 : EV} {d d2 : D} {r : Vl} (h : m Γ = .ok (.fz d) Γ1) (h2 : m2 Γ1 = .ok (.fz d2) Γ2) (hp : p [d, d2] = some r) : mFn p (mCons m (mCons m2 mNil)) Γ = .ok r Γ2 := by
  simp [mFn, mCons, mNil, h, h2, peeks, peek, Vl.op, hp]
theorem lt_run {a b : ME} {Γ Γ1 Γ2 : EV} {i j : Int} (h : a Γ = .ok (.fz (.int i)) Γ1) (h2 : b Γ1 = .ok (.fz (.int j)) Γ2) : mTest (mBin ltD a b) Γ = .ok (decide (i < j)) Γ2 := test_run (bin_run h h2 rfl rfl rfl)
theorem ge_run {a b : ME} {Γ Γ1 Γ2 : EV} {i j : Int} (h : a Γ = .ok (.fz (.int i)) Γ1) (h2 : b Γ1 = .ok (.fz (.int j)) Γ2) : mTest (mBin geD a b) Γ = .ok (decide (j ≤ i)) Γ2 := test_run (bin_run h h2 rfl rfl rfl)
theorem gt_run {a b : ME} {Γ Γ1 Γ2 : EV} {i j : Int} (h : a Γ = .ok (.fz (.int i)) Γ1) (h2 : b Γ1 = .ok (.fz (.int j)) Γ2) : mTest (mBin gtD a b) Γ = .ok (decide (j < i)) Γ2 := test_run (bin_run h h2 rfl rfl rfl)
theorem eq_run {a b : ME} {Γ Γ1 Γ2 : EV} {i j : Int} (h : a Γ = .ok (.fz (.int i)) Γ1) (h2 : b Γ1 = .ok (.fz (.int j)) Γ2) : mTest (mBin eqD a b) Γ = .ok (decide (i = j)) Γ2 := test_run (bin_run h h2 rfl rfl rfl)
theorem add_run {a b : ME} {Γ Γ1 Γ2 : EV} {i j : Int} (h : a Γ = .ok (.fz (.int i)) Γ1) (h2 : b Γ1 = .ok (.fz (.int j)) Γ2) : mBin addD a b Γ = .ok (.fz (.int (i + j))) Γ2 := bin_run h h2 rfl rfl rfl
theorem sub_run {a b : ME} {Γ Γ1 Γ2 : EV} {i j : Int} (h : a Γ = .ok (.fz (.int i)) Γ1) (h2 : b Γ1 = .ok (.fz (.int j)) Γ2) : mBin subD a b Γ = .ok (.fz (.int (i - j))) Γ2 := bin_run h h2 rfl rfl rfl
theorem mod_run {a b : ME} {Γ Γ1 Γ2 : EV} {i j : Int} (h : a Γ = .ok (.fz (.int i)) Γ1) (h2 : b Γ1 = .ok (.fz (.int j)) Γ2) (hj : 0 < j) : mBin modD a b Γ = .ok (.fz (.int (i % j))) Γ2 := bin_run h h2 rfl rfl (by unfold modD; simp only; rw [if_pos hj])
theorem div_run {a b : ME} {Γ Γ1 Γ2 : EV} {i j : Int} (h : a Γ = .ok (.fz (.int i)) Γ1) (h2 : b Γ1 = .ok (.fz (.int j)) Γ2) (hj : 0 < j) (hl : j.natAbs.log2 < 9000) : mBin fdivD a b Γ = .ok (.fz (.int (i / j))) Γ2 := bin_run h h2 rfl rfl (by unfold fdivD; simp only; rw [if_pos ⟨hj, hl⟩])
theorem mul_run {a b : ME} {Γ Γ1 Γ2 : EV} {i j : Int} (h : a Γ = .ok (.fz (.int i)) Γ1) (h2 : b Γ1 = .ok (.fz (.int j)) Γ2) (hm : mulOk i j = true) : mBin mulD a b Γ = .ok (.fz (.int (i * j))) Γ2 := bin_run h h2 rfl rfl (by unfold mulD; simp only; rw [if_pos hm])
theorem ofi_run {m : ME} {Γ Γ1 : EV} {i : Int} (h : m Γ = .ok (.fz (.int i)) Γ1) : mFn intSD (mCons m mNil) Γ = .ok (.fz (.int i)) Γ1 := fn1_run h rfl rfl
theorem log_small {n : Nat} (h : n < 2 ^ 60) (h0 : 0 < n) : n.log2 < 9000 := by
  have := (Nat.log2_lt (by omega : n ≠ 0)).mpr h
  omega
abbrev T4 (ns : List Int) (p r s : Int) : List D := [.lst (ns.map .int), .int p, .int r, .int s]
/-- a good tape -/
def Tp (t : List D) : Prop := ∃ (ns : List Int) (p r s : Int), t = T4 ns p r s ∧ 0 ≤ p ∧ 0 ≤ r ∧ 0 ≤ s ∧ s < 2305843009213693951
theorem e18_run {Γ : EV} : mBin powD (mC (.int 10)) (mC (.int 18)) Γ = .ok (.fz (.int (10 ^ 18))) Γ := bin_run (va := .fz (.int 10)) (vb := .fz (.int 18)) rfl rfl rfl rfl (by
  unfold powD
  simp only
  rw [if_pos (by decide)]
  rfl)
theorem abs_run {m : ME} {Γ Γ1 : EV} {i : Int} (h : m Γ = .ok (.fz (.int i)) Γ1) : mFn absD (mCons m mNil) Γ = .ok (.fz (.int (if i < 0 then -i else i))) Γ1 := fn1_run h rfl rfl
theorem z_pick {t : List D} {m : Int} (ht : Tp t) (h0 : 0 < m) (h1 : m < 2 ^ 60) : ∃ k t', m_l_pick [.lst t, .int m] = .ok (.fz (.int k)) [.ow true t', .no] ∧ 0 ≤ k ∧ k < m ∧ Tp t' := by
  obtain ⟨ns, p, r, s, rfl, hp, hr, hs, hs2⟩ := ht
  have hm2 : m.natAbs.log2 < 9000 := log_small (by omega) (by omega)
  -- the end of it
  have tail : ∀ (p r s : Int) (x : Sl), (mSeq t_l_pick_10 (mSeq t_l_pick_11 t_l_pick_12)) [.ow true (T4 ns p r s), .fz (.int m), x, .no] = .ok (.rt (.fz (.int (r % m)))) [.ow true (T4 ns p (r / m) s), .fz (.int m), x, .fz (.int (r % m))] := fun p r s x => by
    exact sq (set_run (v := .fz (.int (r % m))) (mod_run (ofi_run ix2) rfl h0) rfl) (sq (six2 (e := .int (r / m)) (div_run ix2 rfl h0 hm2)) rfl)
  by_cases hc : r < m
  · have hc1 : c_l_pick_1 [.ow true (T4 ns p r s), .fz (.int m), .no, .no] = .ok true [.ow true (T4 ns p r s), .fz (.int m), .no, .no] := (lt_run ix2 rfl).trans (by rw [decide_eq_true hc])
    have s2 : t_l_pick_2 [.ow true (T4 ns p r s), .fz (.int m), .no, .no] = .ok .nx [.ow true (T4 ns p r s), .fz (.int m), .fz (.int 0), .no] := rfl
    have s3 : ∃ (z p' : Int), 0 ≤ p' ∧ t_l_pick_3 [.ow true (T4 ns p r s), .fz (.int m), .fz (.int 0), .no] = .ok .nx [.ow true (T4 ns p' r s), .fz (.int m), .fz (.int z), .no] := by
      have len : mFn lenD (mCons (mBin idxD (mVar 0) (mC (.int 0))) mNil) [.ow true (T4 ns p r s), .fz (.int m), .fz (.int 0), .no] = .ok (.fz (.int ns.length)) [.ow true (T4 ns p r s), .fz (.int m), .fz (.int 0), .no] := fn1_run ix0 rfl (by unfold lenD; simp)
      have c3 : c_l_pick_3 [.ow true (T4 ns p r s), .fz (.int m), .fz (.int 0), .no] = .ok (decide (p < ns.length)) [.ow true (T4 ns p r s), .fz (.int m), .fz (.int 0), .no] := lt_run ix1 len
      by_cases hl : p < ns.length
      · obtain ⟨k, rfl⟩ := Int.eq_ofNat_of_zero_le hp
        have hk : k < ns.length := by omega
        refine ⟨ns[k], k + 1, by omega, if_t (c3.trans (by rw [decide_eq_true hl])) ?_⟩
        have g : v_l_pick_4 [.ow true (T4 ns k r s), .fz (.int m), .fz (.int 0), .no] = .ok (.fz (.int ns[k])) [.ow true (T4 ns k r s), .fz (.int m), .fz (.int 0), .no] := bin_run (va := .fz (.lst (ns.map .int))) (vb := .fz (.int k)) ix0 ix1 rfl rfl (by
          unfold idxD
          simp only
          rw [atI_nat (a := .int ns[k]) (by rw [List.getElem?_map, List.getElem?_eq_getElem hk]; rfl)]
          rfl)
        have g4 : t_l_pick_4 [.ow true (T4 ns k r s), .fz (.int m), .fz (.int 0), .no] = .ok .nx [.ow true (T4 ns k r s), .fz (.int m), .fz (.int ns[k]), .no] := set_run g rfl
        show mSeq _ _ _ = _
        rw [seq_nx g4]
        exact six1 (add_run ix1 rfl)
      · exact ⟨0, p, hp, if_f (c3.trans (by rw [decide_eq_false hl])) rfl⟩
    obtain ⟨z, p', hp', s3⟩ := s3
    generalize hs' : (s * 1442695040888963407 + z * 6364136223846793005 + 1013904223) % 2305843009213693951 = s'
    have hs1 : 0 ≤ s' := by rw [← hs']; exact Int.emod_nonneg _ (by decide)
    have hs2' : s' < 2305843009213693951 := by rw [← hs']; exact Int.emod_lt_of_pos _ (by decide)
    have s6 : t_l_pick_6 [.ow true (T4 ns p' r s), .fz (.int m), .fz (.int z), .no] = .ok .nx [.ow true (T4 ns p' r s'), .fz (.int m), .fz (.int z), .no] := by
      rw [← hs']
      refine six3 (mod_run (add_run (add_run (mul_run ix3 rfl ?_) (mul_run rfl rfl ?_)) rfl) rfl (by decide))
      · unfold mulOk; simp
      · unfold mulOk; simp
    have c7 : c_l_pick_7 [.ow true (T4 ns p' r s'), .fz (.int m), .fz (.int z), .no] = .ok (decide ((if z < 0 then -z else z) < 10 ^ 18)) [.ow true (T4 ns p' r s'), .fz (.int m), .fz (.int z), .no] := lt_run (abs_run rfl) e18_run
    have hb : bd_l_pick [.ow true (T4 ns p r s), .fz (.int m), .no, .no] = (match (mSeq t_l_pick_7 t_l_pick_9) [.ow true (T4 ns p' r s'), .fz (.int m), .fz (.int z), .no] with
        | .ok .nx Γ1 => (mSeq t_l_pick_10 (mSeq t_l_pick_11 t_l_pick_12)) Γ1
        | o => o) := by
      rw [bq_l_pick]
      have : t_l_pick_1 [.ow true (T4 ns p r s), .fz (.int m), .no, .no] = (mSeq t_l_pick_7 t_l_pick_9) [.ow true (T4 ns p' r s'), .fz (.int m), .fz (.int z), .no] := if_t hc1 (by
        show mSeq _ _ _ = _
        rw [seq_nx s2, seq_nx s3, seq_nx s6])
      show (match t_l_pick_1 _ with | .ok .nx Γ1 => _ | o => o) = _
      rw [this]
    by_cases ha : (if z < 0 then -z else z) < 10 ^ 18
    · have s8 : (mSeq t_l_pick_7 t_l_pick_9) [.ow true (T4 ns p' r s'), .fz (.int m), .fz (.int z), .no] = .ok (.rt (.fz (.int (s' / 1048576 % m)))) [.ow true (T4 ns p' r s'), .fz (.int m), .fz (.int z), .no] := seq_rt (if_t (c7.trans (by rw [decide_eq_true ha])) (by
        have : v_l_pick_8 [.ow true (T4 ns p' r s'), .fz (.int m), .fz (.int z), .no] = .ok (.fz (.int (s' / 1048576 % m))) [.ow true (T4 ns p' r s'), .fz (.int m), .fz (.int z), .no] := mod_run (ofi_run (div_run ix3 rfl (by decide) (by decide +kernel))) rfl h0
        show mRet _ _ = _
        unfold mRet
        rw [this]
        rfl))
      rw [s8] at hb
      exact ⟨s' / 1048576 % m, T4 ns p' r s', run_rt rfl hb rfl, Int.emod_nonneg _ (by omega), Int.emod_lt_of_pos _ h0, ⟨ns, p', r, s', rfl, hp', hr, hs1, hs2'⟩⟩
    · have s9 : (mSeq t_l_pick_7 t_l_pick_9) [.ow true (T4 ns p' r s'), .fz (.int m), .fz (.int z), .no] = .ok .nx [.ow true (T4 ns p' (if z < 0 then -z else z) s'), .fz (.int m), .fz (.int z), .no] := by
        exact sq (if_f (c7.trans (by rw [decide_eq_false ha])) rfl) (six2 (abs_run rfl))
      rw [s9] at hb
      have hb := hb.trans (tail _ _ _ _)
      have hz : 0 ≤ (if z < 0 then -z else z) := by split <;> omega
      exact ⟨_, _, run_rt rfl hb rfl, Int.emod_nonneg _ (by omega), Int.emod_lt_of_pos _ h0, ⟨ns, p', _, s', rfl, hp', Int.ediv_nonneg hz (by omega), hs1, hs2'⟩⟩
  · have hb : bd_l_pick [.ow true (T4 ns p r s), .fz (.int m), .no, .no] = .ok (.rt (.fz (.int (r % m)))) [.ow true (T4 ns p (r / m) s), .fz (.int m), .no, .fz (.int (r % m))] := by
      rw [bq_l_pick]
      exact sq (if_f ((lt_run ix2 rfl).trans (by rw [decide_eq_false hc])) rfl) (tail p r s .no)
    exact ⟨_, _, run_rt rfl hb rfl, Int.emod_nonneg _ (by omega), Int.emod_lt_of_pos _ h0, ⟨ns, p, _, s, rfl, hp, Int.ediv_nonneg hr (by omega), hs, hs2⟩⟩
/-- a pick, in an expression -/
theorem pick_run {Γ Γ1 : EV} {i : Nat} {b b' : Bool} {t t1 : List D} {me : ME} {m : Int} (h : Γ[i]? = some (.ow b t)) (hm : me Γ = .ok (.fz (.int m)) Γ1) (h2 : Γ1[i]? = some (.ow b' t1)) (ht : Tp t1) (h0 : 0 < m) (h1 : m < 2 ^ 60) :
    ∃ k t', mCall io_l_pick m_l_pick (mCons (mVar i) (mCons me mNil)) Γ = .ok (.fz (.int k)) (Γ1.set i (.ow b' t')) ∧ 0 ≤ k ∧ k < m ∧ Tp t' := by
  obtain ⟨k, t', e, q1, q2, q3⟩ := z_pick ht h0 h1
  exact ⟨k, t', callO1 h hm h2 e, q1, q2, q3⟩
theorem z_tape {ns : List Int} (hl : ns.length ≤ 63) : ∃ t, m_l_tape [.scr ns] = .ok (.ow t) [.no] ∧ Tp t := by
  refine ⟨T4 ns 0 0 29211, ?_, ⟨ns, 0, 0, 29211, rfl, by omega, by omega, by omega, by omega⟩⟩
  have key : ∀ (zs : List Int) (acc : List D), acc.length + zs.length ≤ 63 → lcL (gN 1) mYes (mFn intSD (mCons (mVar 1) mNil)) [1] (zs.map .int) acc [.fz (.scr ns), .no] = .ok (.ow (acc ++ zs.map .int)) [.fz (.scr ns), .no] := by
    intro zs
    induction zs with
    | nil => intro acc h; simp [lcL]
    | cons z zs ih =>
      intro acc h
      have hl2 : acc.length < sizeLine := by rw [List.length_cons] at h; unfold sizeLine; omega
      have ih := ih (acc ++ [.int z]) (by simp at h ⊢; omega)
      rw [List.map_cons]
      unfold lcL
      have e : mFn intSD (mCons (mVar 1) mNil) [.fz (.scr ns), .fz (.int z)] = .ok (.fz (.int z)) [.fz (.scr ns), .fz (.int z)] := rfl
      simp only [gN, freeAt, mYes, Out.nr_ok, Out.bind_ok, List.getElem?_cons_succ, List.getElem?_cons_zero, if_pos, List.set_cons_succ, List.set_cons_zero, e, Vl.op, cool, hl2, wipeE]
      rw [ih]
      simp
  have e1 : mLc (mIC (mVar 0)) (gN 1) mYes (mFn intSD (mCons (mVar 1) mNil)) [1] [.fz (.scr ns), .no] = .ok (.ow (ns.map .int)) [.fz (.scr ns), .no] := by
    show (mIC (mVar 0) [.fz (.scr ns), .no]).bind _ = _
    rw [show mIC (mVar 0) [.fz (.scr ns), .no] = .ok (ns.map .int) [.fz (.scr ns), .no] from rfl, Out.bind_ok]
    have := key ns [] (by simpa using hl)
    simpa [wipeE] using this
  have e2 : v_l_tape_1 [.fz (.scr ns), .no] = .ok (.ow (T4 ns 0 0 29211)) [.fz (.scr ns), .no] := by
    have e3 : mCons (mLc (mIC (mVar 0)) (gN 1) mYes (mFn intSD (mCons (mVar 1) mNil)) [1]) (mCons (mC (.int 0)) (mCons (mC (.int 0)) (mCons (mC (.int 29211)) mNil))) [.fz (.scr ns), .no] = .ok [.fz (.lst (ns.map .int)), .fz (.int 0), .fz (.int 0), .fz (.int 29211)] [.fz (.scr ns), .no] := by
      show (mLc _ _ _ _ _ _).bind _ = _
      rw [e1]
      rfl
    show mLst _ _ = _
    unfold mLst
    rw [e3]
    rfl
  refine run_rt (v := .ow (T4 ns 0 0 29211)) (Γ' := [.fz (.scr ns), .no]) rfl ?_ rfl
  show bd_l_tape [.fz (.scr ns), .no] = _
  rw [bq_l_tape]
  show mRet _ _ = _
  unfold mRet
  rw [e2]
  rfl
end K29

set_option Elab.async false
set_option linter.all false
set_option maxRecDepth 100000
set_option maxHeartbeats 4000000
namespace K29
open PySem PySem.Spec PyProof.Rows L2 L2H XT GX RD SX PU
/-! ### nets -/
structure Rw where
  k : Str
  s : Int
  g : Int
  l : Nat
  r : Nat
structure Nt where
  names : List Str
  sized : List (Str × Int)
  rows : List Rw
def sizD (p : Str × Int) : D := .tup [.str p.1, .int p.2]
def rowD (w : Rw) : D := .tup [.str w.k, .int w.s, .int w.g, .int w.l, .int w.r]
def netD (n : Nt) : D := .tup [.tup (n.names.map .str), .tup (n.sized.map sizD), .tup (n.rows.map rowD)]
abbrev Nt.F (n : Nt) : Nat := n.names.length
abbrev Nt.T (n : Nt) : Nat := n.sized.length
abbrev Nt.N (n : Nt) : Nat := n.F + n.T
structure Good (n : Nt) : Prop where
  f2 : 2 ≤ n.F
  f12 : n.F ≤ 12
  t24 : n.T ≤ 24
  r60 : n.rows.length ≤ 60
  sz : ∀ p ∈ n.sized, 1 ≤ p.2 ∧ p.2 ≤ 4
  rw_ : ∀ w ∈ n.rows, 1 ≤ w.s ∧ w.s ≤ 6 ∧ w.l < n.N ∧ w.r < n.N
abbrev NU (w : Str) : Er := ⟨"NotUsable", [("at", .int (-1)), ("word", .str w)]⟩
def isI : D → Bool | .int _ => true | _ => false
theorem z_is_integer (d : D) : m_is_integer [d] = .ok (.fz (.bl (isI d))) [.no] := by
  cases d <;> rfl
def isN : D → Bool | .int i => decide (0 ≤ i) | _ => false
theorem z_is_number (d : D) : m_is_number [d] = .ok (.fz (.bl (isN d))) [.no] := by
  cases d with
  | int i => simp [m_is_number, bd_is_number, z_is_integer, isI, isN, runF, initE, mRet, mRetN, mAnd, mOr, mNot, mCall, mCallK, gp, mCons, mNil, mVar, mC, doCall, coolA, cool, Vl.op, dsOf, ixs, putOuts, put1, putO, endF, outsOf, mChain, mBin, mTest, mTru, truD, mAndT, mOrT, mNotT, mIf, mIfS, mSeq, mSet, setV, freeAt, mExpr, mSkip, mFn, peeks, peek, mIsi, tyD, isiB, lenD, leD, ltD, gtD, geD, cmpI, addD, subD, mTup, mLst, cools, mRaise, mNeg, idxD, eqD, neD, eqB, ownAt, mYes]
  | _ => rfl
def btw (lo hi : Int) : D → Bool | .int i => decide (lo ≤ i) && decide (i ≤ hi) | _ => false
theorem z_is_between (d : D) (lo hi : Int) : m_is_between [d, .int lo, .int hi] = .ok (.fz (.bl (btw lo hi d))) [.no, .no, .no] := by
  cases d with
  | int i =>
    by_cases h : lo ≤ i
    · simp [m_is_between, bd_is_between, z_is_integer, isI, btw, h, runF, initE, mRet, mRetN, mAnd, mOr, mNot, mCall, mCallK, gp, mCons, mNil, mVar, mC, doCall, coolA, cool, Vl.op, dsOf, ixs, putOuts, put1, putO, endF, outsOf, mChain, mBin, mTest, mTru, truD, mAndT, mOrT, mNotT, mIf, mIfS, mSeq, mSet, setV, freeAt, mExpr, mSkip, mFn, peeks, peek, mIsi, tyD, isiB, lenD, leD, ltD, gtD, geD, cmpI, addD, subD, mTup, mLst, cools, mRaise, mNeg, idxD, eqD, neD, eqB, ownAt, mYes]
    · simp [m_is_between, bd_is_between, z_is_integer, isI, btw, h, runF, initE, mRet, mRetN, mAnd, mOr, mNot, mCall, mCallK, gp, mCons, mNil, mVar, mC, doCall, coolA, cool, Vl.op, dsOf, ixs, putOuts, put1, putO, endF, outsOf, mChain, mBin, mTest, mTru, truD, mAndT, mOrT, mNotT, mIf, mIfS, mSeq, mSet, setV, freeAt, mExpr, mSkip, mFn, peeks, peek, mIsi, tyD, isiB, lenD, leD, ltD, gtD, geD, cmpI, addD, subD, mTup, mLst, cools, mRaise, mNeg, idxD, eqD, neD, eqB, ownAt, mYes]
  | _ => rfl
theorem btw_t {lo hi i : Int} (h : lo ≤ i) (h2 : i ≤ hi) : btw lo hi (.int i) = true := by
  show (decide (lo ≤ i) && decide (i ≤ hi)) = true
  rw [decide_eq_true h, decide_eq_true h2]; rfl
theorem btw_f {lo hi i : Int} (h : i < lo ∨ hi < i) : btw lo hi (.int i) = false := by
  show (decide (lo ≤ i) && decide (i ≤ hi)) = false
  rcases h with h | h
  · rw [decide_eq_false (by omega)]; rfl
  · rw [decide_eq_false (p := i ≤ hi) (by omega), Bool.and_false]
theorem z_require (k : Bool) (w : Str) : m_require [.bl k, .str w] = if k = true then .ok (.fz .non) [.no, .no] else .rz (NU w) := by
  cases k <;> rfl
section
variable {n : Nt} {Γ : EV} {i : Nat}
theorem nx0 (h : Γ[i]? = some (.fz (netD n))) : mBin idxD (mVar i) (mC (.int 0)) Γ = .ok (.fz (.tup (n.names.map .str))) Γ := bin_run (va := .fz (netD n)) (vb := .fz (.int 0)) (by unfold mVar; rw [h]) rfl rfl rfl rfl
theorem nx1 (h : Γ[i]? = some (.fz (netD n))) : mBin idxD (mVar i) (mC (.int 1)) Γ = .ok (.fz (.tup (n.sized.map sizD))) Γ := bin_run (va := .fz (netD n)) (vb := .fz (.int 1)) (by unfold mVar; rw [h]) rfl rfl rfl rfl
theorem nx2 (h : Γ[i]? = some (.fz (netD n))) : mBin idxD (mVar i) (mC (.int 2)) Γ = .ok (.fz (.tup (n.rows.map rowD))) Γ := bin_run (va := .fz (netD n)) (vb := .fz (.int 2)) (by unfold mVar; rw [h]) rfl rfl rfl rfl
theorem lentup_run {m : ME} {Γ Γ1 : EV} {ds : List D} (h : m Γ = .ok (.fz (.tup ds)) Γ1) : mFn lenD (mCons m mNil) Γ = .ok (.fz (.int ds.length)) Γ1 := fn1_run h rfl rfl
theorem lF (h : Γ[i]? = some (.fz (netD n))) : mFn lenD (mCons (mBin idxD (mVar i) (mC (.int 0))) mNil) Γ = .ok (.fz (.int n.F)) Γ := by
  have := lentup_run (nx0 h)
  rwa [List.length_map] at this
theorem lT (h : Γ[i]? = some (.fz (netD n))) : mFn lenD (mCons (mBin idxD (mVar i) (mC (.int 1))) mNil) Γ = .ok (.fz (.int n.T)) Γ := by
  have := lentup_run (nx1 h)
  rwa [List.length_map] at this
theorem lR (h : Γ[i]? = some (.fz (netD n))) : mFn lenD (mCons (mBin idxD (mVar i) (mC (.int 2))) mNil) Γ = .ok (.fz (.int n.rows.length)) Γ := by
  have := lentup_run (nx2 h)
  rwa [List.length_map] at this
theorem lN (h : Γ[i]? = some (.fz (netD n))) : mBin addD (mFn lenD (mCons (mBin idxD (mVar i) (mC (.int 0))) mNil)) (mFn lenD (mCons (mBin idxD (mVar i) (mC (.int 1))) mNil)) Γ = .ok (.fz (.int n.N)) Γ := by
  have := add_run (lF h) (lT h)
  rw [this]
  simp [Nt.N]
theorem var_run {d : D} (h : Γ[i]? = some (.fz d)) : mVar i Γ = .ok (.fz d) Γ := by unfold mVar; rw [h]
end
theorem ret_run {m : ME} {Γ Γ1 : EV} {v : Vl} (h : m Γ = .ok v Γ1) : mRet m Γ = .ok (.rt v) Γ1 := by unfold mRet; rw [h]; rfl
theorem exp_run {m : ME} {Γ Γ1 : EV} {v : Vl} (h : m Γ = .ok v Γ1) : mExpr m Γ = .ok .nx Γ1 := by unfold mExpr; rw [h]; rfl
theorem exp_rz {m : ME} {Γ Γ1 : EV} {x : Er} (h : m Γ = .rz x Γ1) : mExpr m Γ = .rz x Γ1 := by unfold mExpr; rw [h]; rfl
theorem z_count (n : Nt) : m_count_of_nodes [netD n] = .ok (.fz (.int n.N)) [.no] :=
  run_rt (v := .fz (.int n.N)) (Γ' := [.fz (netD n)]) rfl (ret_run (lN rfl)) rfl
theorem z_ros (s : Int) : m_rank_of_strength [.int s] = .ok (.fz (.int (4 + s))) [.no] := rfl
theorem z_is_node (n : Nt) (d : D) : m_is_node [netD n, d] = .ok (.fz (.bl (btw 0 (n.N - 1) d))) [.no, .no] := by
  refine run_rt (v := .fz (.bl (btw 0 (n.N - 1) d))) (Γ' := [.fz (netD n), .fz d]) rfl (ret_run ?_) rfl
  exact call3 (F := m_is_between) (a := d) (b := .int 0) (c := .int (n.N - 1)) rfl rfl (sub_run (call1 rfl (z_count n)) rfl) (z_is_between d 0 (n.N - 1))
theorem z_is_switch (n : Nt) (d : D) : m_is_switch_of [netD n, d] = .ok (.fz (.bl (btw 0 (n.rows.length - 1) d))) [.no, .no] := by
  refine run_rt (v := .fz (.bl (btw 0 (n.rows.length - 1) d))) (Γ' := [.fz (netD n), .fz d]) rfl (ret_run ?_) rfl
  exact call3 (F := m_is_between) (a := d) (b := .int 0) (c := .int (n.rows.length - 1)) rfl rfl (sub_run (lR rfl) rfl) (z_is_between d 0 (n.rows.length - 1))
/-- the rank of a node -/
def rk (n : Nt) (v : Nat) : Int := if v < n.F then 11 else (n.sized.getD (v - n.F) ("", 0)).2
theorem size_run {n : Nt} {v : Nat} {Γ Γ1 : EV} {i : Nat} {me : ME} (h : Γ[i]? = some (.fz (netD n))) (hm : me Γ = .ok (.fz (.int ((v - n.F : Nat) : Int))) Γ1) (h1 : n.F ≤ v) (h2 : v < n.N) : mBin idxD (mBin idxD (mBin idxD (mVar i) (mC (.int 1))) me) (mC (.int 1)) Γ = .ok (.fz (.int (rk n v))) Γ1 := by
  have hk : v - n.F < n.sized.length := by have h3 : v < n.F + n.T := h2; show v - n.F < n.T; omega
  have e : rk n v = (n.sized[v - n.F]).2 := by
    unfold rk
    rw [if_neg (by omega), List.getD_eq_getElem?_getD, List.getElem?_eq_getElem hk]
    rfl
  rw [e]
  refine bin_run (va := .fz (sizD (n.sized[v - n.F]))) (vb := .fz (.int 1)) (bin_run (va := .fz (.tup (n.sized.map sizD))) (vb := .fz (.int ((v - n.F : Nat) : Int))) (nx1 h) hm rfl rfl ?_) rfl rfl rfl rfl
  show (atI (n.sized.map sizD) ((v - n.F : Nat) : Int)).map Vl.fz = _
  rw [atI_nat (a := sizD (n.sized[v - n.F])) (by rw [List.getElem?_map, List.getElem?_eq_getElem hk]; rfl)]
  rfl
theorem z_rank_of {n : Nt} {v : Nat} (h : v < n.N) : m_rank_of [netD n, .int v] = .ok (.fz (.int (rk n v))) [.no, .no] := by
  have hb : btw 0 (n.N - 1) (.int v) = true := btw_t (by omega) (by omega)
  refine run_rt (v := .fz (.int (rk n v))) (Γ' := [.fz (netD n), .fz (.int v), .fz (.int n.F)]) rfl ?_ rfl
  show bd_rank_of [.fz (netD n), .fz (.int v), .no] = _
  rw [bq_rank_of]
  refine sq (Γ1 := [.fz (netD n), .fz (.int v), .no]) (exp_run (v := .fz .non) (call2 (F := m_require) (a := .bl true) (b := .str "node") (Γ1 := [.fz (netD n), .fz (.int v), .no]) ((call2 (F := m_is_node) rfl rfl (z_is_node n (.int v))).trans (by rw [hb])) rfl (z_require true "node"))) ?_
  refine sq (Γ1 := [.fz (netD n), .fz (.int v), .fz (.int n.F)]) (set_run (lF rfl) rfl) (ret_run ?_)
  have c : mTest (mBin ltD (mVar 1) (mVar 2)) [.fz (netD n), .fz (.int v), .fz (.int n.F)] = .ok (decide ((v : Int) < n.F)) [.fz (netD n), .fz (.int v), .fz (.int n.F)] := lt_run rfl rfl
  show mIf _ _ _ _ = _
  unfold mIf
  rw [c, Out.bind_ok]
  by_cases hv : v < n.F
  · have e : rk n v = 11 := by unfold rk; rw [if_pos hv]
    rw [decide_eq_true (by omega), e]; rfl
  · rw [decide_eq_false (by omega)]
    refine size_run rfl ?_ (by omega) h
    have := sub_run (a := mVar 1) (b := mVar 2) (i := v) (j := n.F) (Γ := [.fz (netD n), .fz (.int v), .fz (.int n.F)]) rfl rfl
    rw [this]
    congr 3
    omega
theorem z_rank_rz {n : Nt} {d : D} (h : btw 0 (n.N - 1) d = false) : m_rank_of [netD n, d] = .rz (NU "node") := by
  refine run_rz (Γ' := [.fz (netD n), .fz d, .no]) rfl ?_
  show bd_rank_of [.fz (netD n), .fz d, .no] = _
  rw [bq_rank_of]
  refine seq_rz (exp_rz (call2x (F := m_require) (a := .bl false) (b := .str "node") (Γ1 := [.fz (netD n), .fz d, .no]) ((call2 (F := m_is_node) rfl rfl (z_is_node n d)).trans (by rw [h])) rfl (z_require false "node")))
theorem row_run {n : Nt} {k : Nat} {Γ Γ1 : EV} {i : Nat} {me : ME} (h : Γ[i]? = some (.fz (netD n))) (hm : me Γ = .ok (.fz (.int k)) Γ1) (hk : k < n.rows.length) : mBin idxD (mBin idxD (mVar i) (mC (.int 2))) me Γ = .ok (.fz (rowD n.rows[k])) Γ1 := by
  refine bin_run (va := .fz (.tup (n.rows.map rowD))) (vb := .fz (.int k)) (nx2 h) hm rfl rfl ?_
  show (atI (n.rows.map rowD) (k : Int)).map Vl.fz = _
  rw [atI_nat (a := rowD n.rows[k]) (by rw [List.getElem?_map, List.getElem?_eq_getElem hk]; rfl)]
  rfl
theorem z_switch_rank {n : Nt} {k : Nat} (h : k < n.rows.length) : m_switch_rank [netD n, .int k] = .ok (.fz (.int (4 + n.rows[k].s))) [.no, .no] := by
  have hb : btw 0 (n.rows.length - 1) (.int k) = true := btw_t (by omega) (by omega)
  refine run_rt (v := .fz (.int (4 + n.rows[k].s))) (Γ' := [.fz (netD n), .fz (.int k)]) rfl ?_ rfl
  show bd_switch_rank [.fz (netD n), .fz (.int k)] = _
  rw [bq_switch_rank]
  refine sq (Γ1 := [.fz (netD n), .fz (.int k)]) (exp_run (v := .fz .non) (call2 (F := m_require) (a := .bl true) (b := .str "switch") (Γ1 := [.fz (netD n), .fz (.int k)]) ((call2 (F := m_is_switch_of) rfl rfl (z_is_switch n (.int k))).trans (by rw [hb])) rfl (z_require true "switch"))) (ret_run ?_)
  exact call1 (F := m_rank_of_strength) (a := .int n.rows[k].s) (bin_run (va := .fz (rowD n.rows[k])) (vb := .fz (.int 1)) (row_run (me := mVar 1) rfl rfl h) rfl rfl rfl rfl) (z_ros _)
theorem z_switch_rz {n : Nt} {d : D} (h : btw 0 (n.rows.length - 1) d = false) : m_switch_rank [netD n, d] = .rz (NU "switch") := by
  refine run_rz (Γ' := [.fz (netD n), .fz d]) rfl ?_
  show bd_switch_rank [.fz (netD n), .fz d] = _
  rw [bq_switch_rank]
  refine seq_rz (exp_rz (call2x (F := m_require) (a := .bl false) (b := .str "switch") (Γ1 := [.fz (netD n), .fz d]) ((call2 (F := m_is_switch_of) rfl rfl (z_is_switch n d)).trans (by rw [h])) rfl (z_require false "switch")))
/-- the law's own rank -/
theorem z_l_rank {n : Nt} {v : Nat} (h : v < n.N) : m_l_rank [netD n, .int v] = .ok (.fz (.int (rk n v))) [.no, .no] := by
  refine run_rt (v := .fz (.int (rk n v))) (Γ' := [.fz (netD n), .fz (.int v)]) rfl ?_ rfl
  show bd_l_rank [.fz (netD n), .fz (.int v)] = _
  rw [bq_l_rank]
  have c : c_l_rank_1 [.fz (netD n), .fz (.int v)] = .ok (decide ((v : Int) < n.F)) [.fz (netD n), .fz (.int v)] := lt_run rfl (lF rfl)
  by_cases hv : v < n.F
  · have e : rk n v = 11 := by unfold rk; rw [if_pos hv]
    rw [e]
    exact seq_rt (if_t (c.trans (by rw [decide_eq_true (by omega)])) rfl)
  · refine sq (if_f (c.trans (by rw [decide_eq_false (by omega)])) rfl) (ret_run (size_run rfl ?_ (by omega) h))
    have := sub_run (a := mVar 1) (b := mFn lenD (mCons (mBin idxD (mVar 0) (mC (.int 0))) mNil)) (i := v) (j := n.F) (Γ := [.fz (netD n), .fz (.int v)]) rfl (lF rfl)
    rw [this]
    congr 3
    omega
end K29

set_option Elab.async false
set_option linter.all false
set_option maxRecDepth 100000
set_option maxHeartbeats 4000000
namespace K29
open PySem PySem.Spec PyProof.Rows L2 L2H XT GX RD SX PU
/-! ### lots, rows of numbers -/
theorem cons_run {m : ME} {ms : MA} {Γ Γ1 Γ2 : EV} {v : Vl} {vs : List Vl} (h : m Γ = .ok v Γ1) (h2 : ms Γ1 = .ok vs Γ2) : mCons m ms Γ = .ok (v.op :: vs) Γ2 := by
  unfold mCons
  rw [h, Out.bind_ok, h2]
  rfl
theorem nil_run (Γ : EV) : mNil Γ = .ok [] Γ := rfl
theorem isi_tup (d : D) {Γ : EV} {i : Nat} (h : Γ[i]? = some (.fz d)) : mTest (mIsi "tuple" (mVar i)) Γ = .ok (match d with | .tup _ => true | _ => false) Γ := by
  have := var_run h
  cases d <;> simp [mTest, mIsi, this, Vl.op, peek, tyD, isiB, mFn, mCons, mNil, peeks] <;> rfl
theorem not_t {a : MT} {Γ : EV} {k : Bool} (h : a Γ = .ok k Γ) : mNotT a Γ = .ok (!k) Γ := not_run h
def lotT (ds : List D) : Bool := ds.all isN && (zipD ds (ds.drop 1)).all fun p => match p with
  | .tup [.int a, .int b] => decide (a < b)
  | _ => false
def isLot : D → Bool
  | .tup ds => lotT ds
  | _ => false
theorem isN_ex {d : D} (h : isN d = true) : ∃ i, d = .int i := by
  cases d <;> first | exact ⟨_, rfl⟩ | cases h
theorem z_is_lot (d : D) (hl : ∀ ds, d = .tup ds → ds.length < 1000) : m_is_lot [d] = .ok (.fz (.bl (isLot d))) [.no] := by
  have hb : ∀ o v, bd_is_lot [.fz d, .no, .no] = o → o = .ok (.rt (.fz v)) [.fz d, .no, .no] → v = .bl (isLot d) → m_is_lot [d] = .ok (.fz (.bl (isLot d))) [.no] := fun o v h1 h2 h3 => by
    subst h3
    exact run_rt (Γ' := [.fz d, .no, .no]) rfl (h1.trans h2) rfl
  have c := not_t (isi_tup d (Γ := [.fz d, .no, .no]) (i := 0) rfl)
  cases d with
  | tup ds =>
    have hl := hl ds rfl
    have g1 : mTest (mGAll false (mIT (mVar 0)) (gN 1) mYes (mCall io_is_number m_is_number (mCons (mVar 1) mNil)) [1]) [.fz (.tup ds), .no, .no] = .ok (ds.all isN) [.fz (.tup ds), .no, .no] := by
      refine test_run ?_
      show (mIT (mVar 0) [.fz (.tup ds), .no, .no]).bind _ = _
      rw [show mIT (mVar 0) [.fz (.tup ds), .no, .no] = .ok ds [.fz (.tup ds), .no, .no] from rfl, Out.bind_ok]
      exact all_run fun d _ => ⟨[.fz (.tup ds), .fz d, .no], [.fz (.tup ds), .fz d, .no], rfl, call1 rfl (z_is_number d), rfl⟩
    have c1 : c_is_lot_1 [.fz (.tup ds), .no, .no] = .ok (!ds.all isN) [.fz (.tup ds), .no, .no] := or_f c (not_t g1)
    cases ha : ds.all isN with
    | false =>
      refine hb _ (.bl false) ?_ rfl ?_
      · rw [bq_is_lot]
        exact seq_rt (if_t (c1.trans (by rw [ha]; rfl)) rfl)
      · show D.bl false = .bl (lotT ds)
        unfold lotT
        rw [ha]; rfl
    | true =>
      refine hb _ (.bl (lotT ds)) ?_ rfl rfl
      rw [bq_is_lot]
      refine sq (if_f (c1.trans (by rw [ha]; rfl)) rfl) (ret_run ?_)
      have e : lotT ds = (zipD ds (ds.drop 1)).all fun p => match p with
          | .tup [.int a, .int b] => decide (a < b)
          | _ => false := by unfold lotT; rw [ha, Bool.true_and]
      rw [e]
      have e1 : mSl (mVar 0) (mOSo (mC (.int 1))) mONo [.fz (.tup ds), .no, .no] = .ok (.fz (.tup (ds.drop 1))) [.fz (.tup ds), .no, .no] := by
        have : SX.cutD ds (some 1) none = ds.drop 1 := by
          have k1 : HT.sIx ds.length 0 (some 1) = min 1 ds.length := by unfold HT.sIx; simp
          have k2 : HT.sIx ds.length ds.length none = ds.length := rfl
          unfold SX.cutD
          rw [k1, k2]
          by_cases h0 : 1 ≤ ds.length
          · rw [Nat.min_eq_left h0, List.take_of_length_le (by rw [List.length_drop]; exact Nat.le_refl _)]
          · have : ds.length = 0 := by omega
            have : ds = [] := List.length_eq_zero_iff.mp this
            subst this
            rfl
        show mSl _ _ _ _ = _
        unfold mSl
        rw [show mVar 0 [.fz (.tup ds), .no, .no] = .ok (.fz (.tup ds)) [.fz (.tup ds), .no, .no] from rfl, ← this]
        rfl
      have e2 : mIZ (mCons (mVar 0) (mCons (mSl (mVar 0) (mOSo (mC (.int 1))) mONo) mNil)) [.fz (.tup ds), .no, .no] = .ok (zipD ds (ds.drop 1)) [.fz (.tup ds), .no, .no] := by
        have e3 : mCons (mVar 0) (mCons (mSl (mVar 0) (mOSo (mC (.int 1))) mONo) mNil) [.fz (.tup ds), .no, .no] = .ok [.fz (.tup ds), .fz (.tup (ds.drop 1))] [.fz (.tup ds), .no, .no] := by
          exact cons_run (v := .fz (.tup ds)) rfl (cons_run (v := .fz (.tup (ds.drop 1))) e1 (nil_run _))
        unfold mIZ
        rw [e3]
        rfl
      show (mIZ _ _).bind _ = _
      rw [e2, Out.bind_ok]
      refine all_run fun p hp => ?_
      obtain ⟨k, hk⟩ := List.mem_iff_getElem?.mp hp
      obtain ⟨x, y, h1, h2, rfl⟩ := zipD_at hk
      have hx := List.all_eq_true.mp ha x (List.mem_of_getElem? h1)
      have hy := List.all_eq_true.mp ha y (List.mem_of_mem_drop (List.mem_of_getElem? h2))
      obtain ⟨a, rfl⟩ := isN_ex hx
      obtain ⟨b, rfl⟩ := isN_ex hy
      exact ⟨[.fz (.tup ds), .fz (.int a), .fz (.int b)], [.fz (.tup ds), .fz (.int a), .fz (.int b)], rfl, bin_run (va := .fz (.int a)) (vb := .fz (.int b)) rfl rfl rfl rfl rfl, rfl⟩
  | _ =>
    refine hb _ (.bl false) ?_ rfl rfl
    rw [bq_is_lot]
    exact seq_rt (if_t (or_t c) rfl)
/-- a row of numbers for the nodes -/
def numsB (n : Nt) (most : Int) : D → Bool
  | .tup ds => decide (ds.length = n.N) && ds.all (btw 0 most)
  | _ => false
theorem z_nums (n : Nt) (d : D) (most : Int) : m_are_numbers [netD n, d, .int most] = .ok (.fz (.bl (numsB n most d))) [.no, .no, .no] := by
  have hb : ∀ o v, bd_are_numbers [.fz (netD n), .fz d, .fz (.int most), .no] = o → o = .ok (.rt (.fz v)) [.fz (netD n), .fz d, .fz (.int most), .no] → v = .bl (numsB n most d) → m_are_numbers [netD n, d, .int most] = .ok (.fz (.bl (numsB n most d))) [.no, .no, .no] := fun o v h1 h2 h3 => by
    subst h3
    exact run_rt (Γ' := [.fz (netD n), .fz d, .fz (.int most), .no]) rfl (h1.trans h2) rfl
  have c := not_t (isi_tup d (Γ := [.fz (netD n), .fz d, .fz (.int most), .no]) (i := 1) rfl)
  cases d with
  | tup ds =>
    have c2 : mTest (mBin neD (mFn lenD (mCons (mVar 1) mNil)) (mCall io_count_of_nodes m_count_of_nodes (mCons (mVar 0) mNil))) [.fz (netD n), .fz (.tup ds), .fz (.int most), .no] = .ok (!decide (ds.length = n.N)) [.fz (netD n), .fz (.tup ds), .fz (.int most), .no] := by
      refine (test_run (bin_run (va := .fz (.int ds.length)) (vb := .fz (.int n.N)) (lentup_run rfl) (call1 rfl (z_count n)) rfl rfl rfl)).trans ?_
      congr 2
      by_cases h : ds.length = n.N
      · rw [decide_eq_true h, decide_eq_true (by omega)]
      · rw [decide_eq_false h, decide_eq_false (by omega)]
    have c1 : c_are_numbers_1 [.fz (netD n), .fz (.tup ds), .fz (.int most), .no] = .ok (!decide (ds.length = n.N)) [.fz (netD n), .fz (.tup ds), .fz (.int most), .no] := or_f c c2
    by_cases h : ds.length = n.N
    · refine hb _ (.bl (ds.all (btw 0 most))) ?_ rfl ?_
      · rw [bq_are_numbers]
        refine sq (if_f (c1.trans (by rw [decide_eq_true h]; rfl)) rfl) (ret_run ?_)
        show (mIT (mVar 1) [.fz (netD n), .fz (.tup ds), .fz (.int most), .no]).bind _ = _
        rw [show mIT (mVar 1) [.fz (netD n), .fz (.tup ds), .fz (.int most), .no] = .ok ds [.fz (netD n), .fz (.tup ds), .fz (.int most), .no] from rfl, Out.bind_ok]
        exact all_run fun d _ => ⟨[.fz (netD n), .fz (.tup ds), .fz (.int most), .fz d], [.fz (netD n), .fz (.tup ds), .fz (.int most), .fz d], rfl, call3 (F := m_is_between) rfl rfl rfl (z_is_between d 0 most), rfl⟩
      · show _ = D.bl (decide (ds.length = n.N) && _)
        rw [decide_eq_true h, Bool.true_and]
    · refine hb _ (.bl false) ?_ rfl ?_
      · rw [bq_are_numbers]
        exact seq_rt (if_t (c1.trans (by rw [decide_eq_false h]; rfl)) rfl)
      · show _ = D.bl (decide (ds.length = n.N) && _)
        rw [decide_eq_false h, Bool.false_and]
  | _ =>
    refine hb _ (.bl false) ?_ rfl rfl
    rw [bq_are_numbers]
    exact seq_rt (if_t (or_t c) rfl)
/-! ### the same -/
theorem same_int (a b : Int) : m_l_same [.int a, .int b] = .ok (.fz (.bl (decide (a = b)))) [.no, .no] := by
  show r_l_same 12 _ = _
  rw [rq_l_same]
  refine run_rt (v := .fz (.bl (decide (a = b)))) (Γ' := [.fz (.int a), .fz (.int b), .no]) rfl ?_ rfl
  show bd_l_same _ [.fz (.int a), .fz (.int b), .no] = _
  rw [bq_l_same]
  rfl
theorem same_tup {r : Nat} {xs : List D} (hl : xs.length < 1000) (h : ∀ x ∈ xs, r_l_same r [x, x] = .ok (.fz (.bl true)) [.no, .no]) : r_l_same (r + 1) [.tup xs, .tup xs] = .ok (.fz (.bl true)) [.no, .no] := by
  rw [rq_l_same]
  generalize hM : r_l_same r = M at h ⊢
  have lp : ∃ Γ', t_l_same_4 M [.fz (.tup xs), .fz (.tup xs), .no] = .ok .nx Γ' ∧ ∃ s, Γ' = [.fz (.tup xs), .fz (.tup xs), s] := by
    have hr : i_l_same_4 M [.fz (.tup xs), .fz (.tup xs), .no] = .ok (rngD 0 xs.length) [.fz (.tup xs), .fz (.tup xs), .no] := rng_run (n := xs.length) (show mCons (mFn lenD (mCons (mVar 0) mNil)) mNil _ = .ok [.fz (.int xs.length)] _ from rfl) (by omega)
    obtain ⟨Γ', e, k⟩ := for_run (g := g_l_same_4 M) (b := t_l_same_5 M) (items := rngD 0 xs.length) (fun _ Γ => ∃ s, FS s ∧ Γ = [.fz (.tup xs), .fz (.tup xs), s]) (fun k d hk Γ hI => by
      obtain ⟨s, hs, rfl⟩ := hI
      obtain ⟨h1, rfl⟩ := rng_at hk
      have hx : xs[k]? = some xs[k] := List.getElem?_eq_getElem h1
      refine ⟨[.fz (.tup xs), .fz (.tup xs), .fz (.int k)], [.fz (.tup xs), .fz (.tup xs), .fz (.int k)], by rcases hs with rfl | ⟨_, rfl⟩ <;> rfl, ?_, ⟨_, .fz, rfl⟩⟩
      have ix : ∀ i, i < 2 → mBin idxD (mVar i) (mVar 2) [.fz (.tup xs), .fz (.tup xs), .fz (.int k)] = .ok (.fz xs[k]) [.fz (.tup xs), .fz (.tup xs), .fz (.int k)] := fun i hi => by
        have e0 : mVar i [.fz (.tup xs), .fz (.tup xs), .fz (.int k)] = .ok (.fz (.tup xs)) [.fz (.tup xs), .fz (.tup xs), .fz (.int k)] := by
          match i, hi with
          | 0, _ => rfl
          | 1, _ => rfl
        refine bin_run (vb := .fz (.int k)) e0 rfl rfl rfl ?_
        show (atI xs (k : Int)).map Vl.fz = _
        rw [PU.atI_nat hx]; rfl
      refine if_f ?_ rfl
      exact not_run (k := true) (test_run (call2 (F := M) (ix 0 (by omega)) (ix 1 (by omega)) (h _ (List.getElem_mem h1)))))
      (Γ := [.fz (.tup xs), .fz (.tup xs), .no]) ⟨.no, FS.no, rfl⟩
    obtain ⟨s, _, rfl⟩ := k
    exact ⟨_, for_nx hr e, s, rfl⟩
  obtain ⟨Γ', lp, s, rfl⟩ := lp
  refine run_rt (v := .fz (.bl true)) (Γ' := [.fz (.tup xs), .fz (.tup xs), s]) rfl ?_ rfl
  show bd_l_same M [.fz (.tup xs), .fz (.tup xs), .no] = _
  rw [bq_l_same]
  refine seq_rt (if_t (Γ1 := [.fz (.tup xs), .fz (.tup xs), .no]) rfl ?_)
  refine sq (Γ1 := [.fz (.tup xs), .fz (.tup xs), .no]) (if_f ?_ rfl) (sq lp rfl)
  refine (test_run (bin_run (va := .fz (.int xs.length)) (vb := .fz (.int xs.length)) (lentup_run rfl) (lentup_run rfl) rfl rfl rfl)).trans ?_
  simp
theorem same_intR (r : Nat) (a : Int) : r_l_same (r + 1) [.int a, .int a] = .ok (.fz (.bl true)) [.no, .no] := by
  rw [rq_l_same]
  refine run_rt (v := .fz (.bl true)) (Γ' := [.fz (.int a), .fz (.int a), .no]) rfl ?_ rfl
  show bd_l_same _ [.fz (.int a), .fz (.int a), .no] = _
  rw [bq_l_same]
  have : (show Out Fl from .ok (.rt (.fz (.bl (decide (a = a))))) [.fz (.int a), .fz (.int a), .no]) = .ok (.rt (.fz (.bl true))) [.fz (.int a), .fz (.int a), .no] := by simp
  exact this
theorem same_strR (r : Nat) (a : Str) : r_l_same (r + 1) [.str a, .str a] = .ok (.fz (.bl true)) [.no, .no] := by
  rw [rq_l_same]
  refine run_rt (v := .fz (.bl true)) (Γ' := [.fz (.str a), .fz (.str a), .no]) rfl ?_ rfl
  show bd_l_same _ [.fz (.str a), .fz (.str a), .no] = _
  rw [bq_l_same]
  have : (show Out Fl from .ok (.rt (.fz (.bl (decide (a = a))))) [.fz (.str a), .fz (.str a), .no]) = .ok (.rt (.fz (.bl true))) [.fz (.str a), .fz (.str a), .no] := by simp
  exact this
theorem same_ints (xs : List Int) (hl : xs.length < 1000) : m_l_same [.tup (xs.map .int), .tup (xs.map .int)] = .ok (.fz (.bl true)) [.no, .no] := by
  refine same_tup (r := 11) (by rw [List.length_map]; exact hl) fun x hx => ?_
  obtain ⟨a, _, rfl⟩ := List.mem_map.mp hx
  exact same_intR 10 a
theorem same_one (a : Int) : m_l_same [.int a, .int a] = .ok (.fz (.bl true)) [.no, .no] := same_intR 11 a
theorem same_word (w : Str) (i : Int) : m_l_same [.tup [.str w, .int i], .tup [.str w, .int i]] = .ok (.fz (.bl true)) [.no, .no] := by
  refine same_tup (r := 11) (by simp) fun x hx => ?_
  simp at hx
  rcases hx with rfl | rfl
  · exact same_strR 10 w
  · exact same_intR 10 i
theorem same_words (w u : Str) (i j : Int) : m_l_same [.tup [.str w, .int i, .str u, .int j], .tup [.str w, .int i, .str u, .int j]] = .ok (.fz (.bl true)) [.no, .no] := by
  refine same_tup (r := 11) (by simp) fun x hx => ?_
  simp at hx
  rcases hx with rfl | rfl | rfl | rfl
  · exact same_strR 10 w
  · exact same_intR 10 i
  · exact same_strR 10 u
  · exact same_intR 10 j
end K29

set_option Elab.async false
set_option linter.all false
set_option maxRecDepth 100000
set_option maxHeartbeats 4000000
namespace K29
open PySem PySem.Spec PyProof.Rows L2 L2H XT GX RD SX PU
/-! ### widening -/
def fnv (xs : List Int) : Nat → Int := fun i => xs.getD i 0
theorem fn_at {xs : List Int} {i : Nat} (h : i < xs.length) : xs[i]? = some (fnv xs i) := by
  unfold fnv
  rw [List.getD_eq_getElem?_getD, List.getElem?_eq_getElem h]
  rfl
theorem fn_set {xs : List Int} {v : Nat} {m : Int} (h : v < xs.length) : fnv (xs.set v m) = WID.put (fnv xs) v m := by
  funext i
  show (xs.set v m).getD i 0 = if i = v then m else xs.getD i 0
  rw [List.getD_eq_getElem?_getD, List.getElem?_set]
  by_cases hv : v = i
  · subst hv; simp [h]
  · rw [if_neg hv, if_neg (fun z => hv z.symm), List.getD_eq_getElem?_getD]
theorem fn_ext {xs ys : List Int} (hl : xs.length = ys.length) (h : fnv xs = fnv ys) : xs = ys := by
  refine List.ext_getElem? fun i => ?_
  by_cases hi : i < xs.length
  · rw [fn_at hi, fn_at (by omega), h]
  · rw [List.getElem?_eq_none (by omega), List.getElem?_eq_none (by omega)]
abbrev uD (us : List Nat) : D := .tup (us.map fun (k : Nat) => .int k)
abbrev iD (xs : List Int) : D := .tup (xs.map .int)
abbrev oD (xs : List Int) : Sl := .ow false (xs.map .int)
def edg (n : Nt) (us : List Nat) : List WID.Edge := us.flatMap fun k => match n.rows[k]? with
  | none => []
  | some w => (if n.F ≤ w.r then [(w.l, w.r, 4 + w.s)] else []) ++ (if n.F ≤ w.l then [(w.r, w.l, 4 + w.s)] else [])
theorem mem_edg {n : Nt} {us : List Nat} {e : WID.Edge} : e ∈ edg n us ↔ ∃ k w, k ∈ us ∧ n.rows[k]? = some w ∧ ((n.F ≤ w.r ∧ e = (w.l, w.r, 4 + w.s)) ∨ (n.F ≤ w.l ∧ e = (w.r, w.l, 4 + w.s))) := by
  unfold edg
  rw [List.mem_flatMap]
  constructor
  · rintro ⟨k, hk, h⟩
    cases e2 : n.rows[k]? with
    | none => rw [e2] at h; simp at h
    | some w =>
      rw [e2] at h
      refine ⟨k, w, hk, e2, ?_⟩
      rcases List.mem_append.mp h with h | h
      · split at h
        · exact .inl ⟨by assumption, by simpa using h⟩
        · simp at h
      · split at h
        · exact .inr ⟨by assumption, by simpa using h⟩
        · simp at h
  · rintro ⟨k, w, hk, e2, h⟩
    refine ⟨k, hk, ?_⟩
    rw [e2]
    rcases h with ⟨h, rfl⟩ | ⟨h, rfl⟩
    · exact List.mem_append_left _ (by rw [if_pos h]; simp)
    · exact List.mem_append_right _ (by rw [if_pos h]; simp)
/-- the numbers at the beginning -/
def ini (st fl : List Int) : List Int := List.zipWith (fun a b => if b ≤ a then a else 0) st fl
theorem ini_at {st fl : List Int} {i : Nat} (h1 : i < st.length) (h2 : i < fl.length) : (ini st fl)[i]? = some (if fnv fl i ≤ fnv st i then fnv st i else 0) := by
  unfold ini
  rw [List.getElem?_zipWith, fn_at h1, fn_at h2]
theorem ini_len {st fl : List Int} (h : st.length = fl.length) : (ini st fl).length = st.length := by
  unfold ini
  rw [List.length_zipWith, h, Nat.min_self]
theorem lc_run {g : D → EV → Option EV} {me : ME} {vs : List Nat} {f : D → D} {Γ : EV} : ∀ {items acc : List D}, acc.length + items.length ≤ 1000 → (∀ d ∈ items, ∃ Γ2 Γ4, g d Γ = some Γ2 ∧ me Γ2 = .ok (.fz (f d)) Γ4 ∧ wipeE Γ4 vs = Γ) →
    lcL g mYes me vs items acc Γ = .ok (.ow (acc ++ items.map f)) Γ
  | [], acc, hl, h => by simp [lcL]
  | d :: ds, acc, hl, h => by
    obtain ⟨Γ2, Γ4, e1, e2, e3⟩ := h d List.mem_cons_self
    rw [List.length_cons] at hl
    have ih := lc_run (items := ds) (acc := acc ++ [f d]) (by rw [List.length_append]; simp; omega) fun x hx => h x (List.mem_cons_of_mem _ hx)
    unfold lcL
    have : acc.length < sizeLine := by unfold sizeLine; omega
    simp only [e1, mYes, Out.nr_ok, Out.bind_ok, e2, e3, ih, if_pos, Vl.op, cool, this]
    simp
section
variable {Γ : EV} {i : Nat} {b : Bool} {xs : List Int} {me : ME} {a : Nat}
theorem own_ix (h : Γ[i]? = some (.ow b (xs.map .int))) (hm : me Γ = .ok (.fz (.int a)) Γ) (ha : a < xs.length) : mBin idxD (mVar i) me Γ = .ok (.fz (.int (fnv xs a))) Γ := by
  refine bin_run (va := .bw i) (vb := .fz (.int a)) (dx := .lst (xs.map .int)) (by unfold mVar; rw [h]) hm (by show peek Γ (.bw i) = _; unfold peek; simp only [h]) rfl ?_
  show (atI (xs.map .int) (a : Int)).map Vl.fz = _
  rw [PU.atI_nat (a := .int (fnv xs a)) (by rw [List.getElem?_map, fn_at ha]; rfl)]
  rfl
theorem tup_ix (h : Γ[i]? = some (.fz (iD xs))) (hm : me Γ = .ok (.fz (.int a)) Γ) (ha : a < xs.length) : mBin idxD (mVar i) me Γ = .ok (.fz (.int (fnv xs a))) Γ := by
  refine bin_run (va := .fz (iD xs)) (vb := .fz (.int a)) (var_run h) hm rfl rfl ?_
  show (atI (xs.map .int) (a : Int)).map Vl.fz = _
  rw [PU.atI_nat (a := .int (fnv xs a)) (by rw [List.getElem?_map, fn_at ha]; rfl)]
  rfl
theorem min_run {m1 m2 : ME} {Γ Γ1 Γ2 : EV} {x y : Int} (h1 : m1 Γ = .ok (.fz (.int x)) Γ1) (h2 : m2 Γ1 = .ok (.fz (.int y)) Γ2) : mFn min2D (mCons m1 (mCons m2 mNil)) Γ = .ok (.fz (.int (min x y))) Γ2 := fn2_run h1 h2 (by
  unfold min2D
  simp only
  congr 3
  all_goals omega)
end
abbrev wE (n : Nt) (us : List Nat) (st fl xs : List Int) (s5 s6 s7 s8 s9 s10 s11 : Sl) : EV := [.fz (netD n), .fz (uD us), .fz (iD st), .fz (iD fl), oD xs, s5, s6, s7, s8, s9, s10, s11, .no]
def okS (xs fl : List Int) (F : Nat) (a b : Nat) (w : Int) : Prop := F ≤ b ∧ fnv xs b < min (fnv xs a) w ∧ fnv fl b ≤ min (fnv xs a) w
/-- one direction of one switch -/
theorem w_step {n : Nt} {us : List Nat} {st fl xs : List Int} {s5 s10 s11 : Sl} {g : Bool} {s7 : Sl} {w : Rw} {a b : Nat} {p q : Int} (h10 : FS s10) (h11 : FS s11) (hp : (p = 3 ∧ q = 4 ∧ a = w.l ∧ b = w.r) ∨ (p = 4 ∧ q = 3 ∧ a = w.r ∧ b = w.l)) (hx : xs.length = n.N) (hf : fl.length = n.N) (ha : a < n.N) (hb : b < n.N) :
    (okS xs fl n.F a b (4 + w.s) → b_l_widened_6 (wE n us st fl xs s5 (.fz (.bl g)) s7 (.fz (rowD w)) (.fz (.tup [.int p, .int q])) s10 s11) = .ok .nx (wE n us st fl (xs.set b (min (fnv xs a) (4 + w.s))) s5 (.fz (.bl true)) s7 (.fz (rowD w)) (.fz (.tup [.int p, .int q])) (.fz (.int (min (fnv xs a) (4 + w.s)))) (.fz (.int b)))) ∧
    (¬ okS xs fl n.F a b (4 + w.s) → b_l_widened_6 (wE n us st fl xs s5 (.fz (.bl g)) s7 (.fz (rowD w)) (.fz (.tup [.int p, .int q])) s10 s11) = .ok .nx (wE n us st fl xs s5 (.fz (.bl g)) s7 (.fz (rowD w)) (.fz (.tup [.int p, .int q])) (.fz (.int (min (fnv xs a) (4 + w.s)))) (.fz (.int b)))) := by
  generalize hm : min (fnv xs a) (4 + w.s) = m
  have rd : ∀ s10 s11, mBin idxD (mVar 8) (mBin idxD (mVar 9) (mC (.int 0))) (wE n us st fl xs s5 (.fz (.bl g)) s7 (.fz (rowD w)) (.fz (.tup [.int p, .int q])) s10 s11) = .ok (.fz (.int a)) (wE n us st fl xs s5 (.fz (.bl g)) s7 (.fz (rowD w)) (.fz (.tup [.int p, .int q])) s10 s11) := fun s10 s11 => by
    rcases hp with ⟨rfl, rfl, rfl, rfl⟩ | ⟨rfl, rfl, rfl, rfl⟩ <;> rfl
  have rd2 : ∀ s10 s11, mBin idxD (mVar 8) (mBin idxD (mVar 9) (mC (.int 1))) (wE n us st fl xs s5 (.fz (.bl g)) s7 (.fz (rowD w)) (.fz (.tup [.int p, .int q])) s10 s11) = .ok (.fz (.int b)) (wE n us st fl xs s5 (.fz (.bl g)) s7 (.fz (rowD w)) (.fz (.tup [.int p, .int q])) s10 s11) := fun s10 s11 => by
    rcases hp with ⟨rfl, rfl, rfl, rfl⟩ | ⟨rfl, rfl, rfl, rfl⟩ <;> rfl
  have s7' : t_l_widened_7 (wE n us st fl xs s5 (.fz (.bl g)) s7 (.fz (rowD w)) (.fz (.tup [.int p, .int q])) s10 s11) = .ok .nx (wE n us st fl xs s5 (.fz (.bl g)) s7 (.fz (rowD w)) (.fz (.tup [.int p, .int q])) (.fz (.int m)) s11) := by
    refine set_run (v := .fz (.int m)) (Γ1 := wE n us st fl xs s5 (.fz (.bl g)) s7 (.fz (rowD w)) (.fz (.tup [.int p, .int q])) s10 s11) ?_ (by rcases h10 with rfl | ⟨_, rfl⟩ <;> rfl)
    rw [← hm]
    exact min_run (own_ix rfl (rd _ _) (by omega)) (add_run rfl rfl)
  have s8' : t_l_widened_8 (wE n us st fl xs s5 (.fz (.bl g)) s7 (.fz (rowD w)) (.fz (.tup [.int p, .int q])) (.fz (.int m)) s11) = .ok .nx (wE n us st fl xs s5 (.fz (.bl g)) s7 (.fz (rowD w)) (.fz (.tup [.int p, .int q])) (.fz (.int m)) (.fz (.int b))) :=
    set_run (v := .fz (.int b)) (rd2 _ _) (by rcases h11 with rfl | ⟨_, rfl⟩ <;> rfl)
  have c1 := ge_run (a := mVar 11) (b := mFn lenD (mCons (mBin idxD (mVar 0) (mC (.int 0))) mNil)) (i := b) (j := n.F) (Γ := wE n us st fl xs s5 (.fz (.bl g)) s7 (.fz (rowD w)) (.fz (.tup [.int p, .int q])) (.fz (.int m)) (.fz (.int b))) rfl (lF rfl)
  have c2 := gt_run (a := mVar 10) (b := mBin idxD (mVar 4) (mVar 11)) (i := m) (j := fnv xs b) (Γ := wE n us st fl xs s5 (.fz (.bl g)) s7 (.fz (rowD w)) (.fz (.tup [.int p, .int q])) (.fz (.int m)) (.fz (.int b))) rfl (own_ix rfl rfl (by omega))
  have c3 := ge_run (a := mVar 10) (b := mBin idxD (mVar 3) (mVar 11)) (i := m) (j := fnv fl b) (Γ := wE n us st fl xs s5 (.fz (.bl g)) s7 (.fz (rowD w)) (.fz (.tup [.int p, .int q])) (.fz (.int m)) (.fz (.int b))) rfl (tup_ix rfl rfl (by omega))
  have hk : okS xs fl n.F a b (4 + w.s) ↔ (n.F ≤ b ∧ fnv xs b < m ∧ fnv fl b ≤ m) := by unfold okS; rw [hm]
  rw [hk]
  constructor
  · rintro ⟨k1, k2, k3⟩
    refine sq s7' (sq s8' (if_t (and_t (c1.trans (by rw [decide_eq_true (by omega)])) (and_t (c2.trans (by rw [decide_eq_true k2])) (c3.trans (by rw [decide_eq_true k3])))) ?_))
    refine sq (Γ1 := wE n us st fl (xs.set b m) s5 (.fz (.bl g)) s7 (.fz (rowD w)) (.fz (.tup [.int p, .int q])) (.fz (.int m)) (.fz (.int b))) ?_ rfl
    refine ix_run (j := b) (v := .fz (.int m)) (k := (b : Nat)) rfl rfl rfl rfl rfl (ixN_nat (by rw [List.length_map]; omega)) ?_
    rw [← List.map_set]
    rfl
  · intro hn
    refine sq s7' (sq s8' (if_f (Γ1 := wE n us st fl xs s5 (.fz (.bl g)) s7 (.fz (rowD w)) (.fz (.tup [.int p, .int q])) (.fz (.int m)) (.fz (.int b))) ?_ rfl))
    by_cases k1 : n.F ≤ b
    · refine and_t (c1.trans (by rw [decide_eq_true (by omega)])) ?_
      by_cases k2 : fnv xs b < m
      · refine and_t (c2.trans (by rw [decide_eq_true k2])) (c3.trans (by rw [decide_eq_false (fun k3 => hn ⟨k1, k2, k3⟩)]))
      · exact and_f (c2.trans (by rw [decide_eq_false k2]))
    · exact and_f (c1.trans (by rw [decide_eq_false (by omega)]))
/-- what the numbers of the tanks make together -/
def sm (F : Nat) (xs : List Int) : Int := (xs.drop F).sum
theorem sum_set : ∀ {l : List Int} {i : Nat} {m : Int}, i < l.length → (l.set i m).sum = l.sum + m - l.getD i 0
  | a :: l, 0, m, _ => by simp; omega
  | a :: l, i + 1, m, h => by
    have := sum_set (l := l) (i := i) (m := m) (by simpa using h)
    simp only [List.set_cons_succ, List.sum_cons, List.getD_cons_succ]
    omega
theorem sm_set {F : Nat} {xs : List Int} {v : Nat} {m : Int} (h1 : F ≤ v) (h2 : v < xs.length) : sm F (xs.set v m) = sm F xs + m - fnv xs v := by
  unfold sm
  rw [List.drop_set, if_neg (by omega), sum_set (by rw [List.length_drop]; omega)]
  congr 1
  unfold fnv
  rw [List.getD_eq_getElem?_getD, List.getD_eq_getElem?_getD, List.getElem?_drop]
  congr 2
  omega
theorem sum_le {b : Int} : ∀ {l : List Int}, (∀ x ∈ l, x ≤ b) → l.sum ≤ b * l.length
  | [], _ => by simp
  | a :: l, h => by
    have h1 := h a List.mem_cons_self
    have h2 := sum_le (l := l) fun x hx => h x (List.mem_cons_of_mem _ hx)
    simp only [List.sum_cons, List.length_cons]
    have : b * ((l.length + 1 : Nat) : Int) = b * l.length + b := by rw [Int.natCast_add, Int.mul_add]; simp
    rw [this]
    omega
theorem sum_ge : ∀ {l : List Int}, (∀ x ∈ l, 0 ≤ x) → 0 ≤ l.sum
  | [], _ => by simp
  | a :: l, h => by
    have h1 := h a List.mem_cons_self
    have h2 := sum_ge (l := l) fun x hx => h x (List.mem_cons_of_mem _ hx)
    simp only [List.sum_cons]
    omega
end K29

set_option Elab.async false
set_option linter.all false
set_option maxRecDepth 100000
set_option maxHeartbeats 4000000
namespace K29
open PySem PySem.Spec PyProof.Rows L2 L2H XT GX RD SX PU
abbrev Ed := WID.Edge
/-- some steps of widening, over the edges es -/
structure Adv (F : Nat) (fl : List Int) (E es : List Ed) (xs : List Int) (g : Bool) (xs' : List Int) (g' : Bool) : Prop where
  len : xs'.length = xs.length
  gr : ∀ s, WID.Grows E (fnv fl) s (fnv xs) → WID.Grows E (fnv fl) s (fnv xs')
  no : g' = false → g = false ∧ xs' = xs ∧ WID.Closed es (fnv fl) (fnv xs)
  ye : g' = true → g = true ∨ sm F xs + 1 ≤ sm F xs'
  up : sm F xs ≤ sm F xs'
theorem Adv.nil {F : Nat} {fl : List Int} {E : List Ed} {xs : List Int} {g : Bool} : Adv F fl E [] xs g xs g :=
  ⟨rfl, fun _ h => h, fun h => ⟨h, rfl, fun e he => by simp at he⟩, fun h => .inl h, Int.le_refl _⟩
theorem Adv.trans {F : Nat} {fl : List Int} {E es es2 : List Ed} {xs xs1 xs2 : List Int} {g g1 g2 : Bool} (a : Adv F fl E es xs g xs1 g1) (b : Adv F fl E es2 xs1 g1 xs2 g2) : Adv F fl E (es ++ es2) xs g xs2 g2 := by
  refine ⟨b.len.trans a.len, fun s h => b.gr s (a.gr s h), fun h => ?_, fun h => ?_, Int.le_trans a.up b.up⟩
  · obtain ⟨h1, rfl, h2⟩ := b.no h
    obtain ⟨h3, rfl, h4⟩ := a.no h1
    exact ⟨h3, rfl, fun e he => (List.mem_append.mp he).elim (h4 e) (h2 e)⟩
  · have u1 := a.up
    have u2 := b.up
    rcases b.ye h with h1 | h1
    · rcases a.ye h1 with h2 | h2
      · exact .inl h2
      · exact .inr (by omega)
    · exact .inr (by omega)
def dirE (F a b : Nat) (w : Int) : List Ed := if F ≤ b then [(a, b, w)] else []
theorem adv_ok {F a b : Nat} {w : Int} {fl : List Int} {E : List Ed} {xs : List Int} {g : Bool} (h : okS xs fl F a b w) (hE : (a, b, w) ∈ E) (hb : b < xs.length) : Adv F fl E (dirE F a b w) xs g (xs.set b (min (fnv xs a) w)) true := by
  obtain ⟨h1, h2, h3⟩ := h
  have := sm_set (m := min (fnv xs a) w) h1 hb
  refine ⟨List.length_set, fun s gr => ?_, fun z => (by cases z), fun _ => .inr (by omega), by omega⟩
  rw [fn_set hb]
  exact .step (e := (a, b, w)) gr hE h2 h3
theorem adv_no {F a b : Nat} {w : Int} {fl : List Int} {E : List Ed} {xs : List Int} {g : Bool} (h : ¬ okS xs fl F a b w) : Adv F fl E (dirE F a b w) xs g xs g := by
  refine ⟨rfl, fun _ h => h, fun h0 => ⟨h0, rfl, fun e he lt => ?_⟩, fun h => .inl h, Int.le_refl _⟩
  unfold dirE at he
  split at he
  · rename_i hF
    obtain rfl := List.mem_singleton.mp he
    have lt : fnv xs b < min (fnv xs a) w := lt
    show min (fnv xs a) w < fnv fl b
    exact Int.not_le.mp fun k => h ⟨hF, lt, k⟩
  · simp at he
def rowE (n : Nt) (w : Rw) : List Ed := dirE n.F w.l w.r (4 + w.s) ++ dirE n.F w.r w.l (4 + w.s)
theorem edg_eq {n : Nt} {us : List Nat} : edg n us = us.flatMap fun k => match n.rows[k]? with | none => [] | some w => rowE n w := by
  unfold edg rowE dirE
  rfl
theorem edg_snoc {n : Nt} {us : List Nat} {k : Nat} {w : Rw} (h : n.rows[k]? = some w) : edg n (us ++ [k]) = edg n us ++ rowE n w := by
  rw [edg_eq, edg_eq, List.flatMap_append]
  simp [h]
theorem dir_mem {n : Nt} {us : List Nat} {k : Nat} {w : Rw} (hk : k ∈ us) (h : n.rows[k]? = some w) (hF : n.F ≤ w.r) : (w.l, w.r, 4 + w.s) ∈ edg n us := mem_edg.mpr ⟨k, w, hk, h, .inl ⟨hF, rfl⟩⟩
theorem dir_mem2 {n : Nt} {us : List Nat} {k : Nat} {w : Rw} (hk : k ∈ us) (h : n.rows[k]? = some w) (hF : n.F ≤ w.l) : (w.r, w.l, 4 + w.s) ∈ edg n us := mem_edg.mpr ⟨k, w, hk, h, .inr ⟨hF, rfl⟩⟩
section
variable {n : Nt} {us : List Nat} {st fl : List Int}
/-- a switch, both ways -/
theorem w_row {E : List Ed} (G : Good n) {xs : List Int} {g : Bool} {s5 s7 s9 s10 s11 : Sl} {k : Nat} {w : Rw} (hw : n.rows[k]? = some w) (h1 : n.F ≤ w.r → (w.l, w.r, 4 + w.s) ∈ E) (h2 : n.F ≤ w.l → (w.r, w.l, 4 + w.s) ∈ E) (h9 : FS s9) (h10 : FS s10) (h11 : FS s11) (hx : xs.length = n.N) (hf : fl.length = n.N) :
    ∃ xs' g' s9' s10' s11', FS s9' ∧ FS s10' ∧ FS s11' ∧ t_l_widened_6 (wE n us st fl xs s5 (.fz (.bl g)) s7 (.fz (rowD w)) s9 s10 s11) = .ok .nx (wE n us st fl xs' s5 (.fz (.bl g')) s7 (.fz (rowD w)) s9' s10' s11') ∧ Adv n.F fl E (rowE n w) xs g xs' g' := by
  obtain ⟨_, _, hl, hr⟩ := G.rw_ w (List.mem_of_getElem? hw)
  have e1 : ∀ (xs : List Int) (g : Bool) (s9 s10 s11 : Sl), FS s9 → FS s10 → FS s11 → xs.length = n.N → ∃ xs' g' m, b_l_widened_6 (wE n us st fl xs s5 (.fz (.bl g)) s7 (.fz (rowD w)) (.fz (.tup [.int 3, .int 4])) s10 s11) = .ok .nx (wE n us st fl xs' s5 (.fz (.bl g')) s7 (.fz (rowD w)) (.fz (.tup [.int 3, .int 4])) (.fz (.int m)) (.fz (.int w.r))) ∧ Adv n.F fl E (dirE n.F w.l w.r (4 + w.s)) xs g xs' g' := fun xs g s9 s10 s11 f9 f10 f11 hx => by
    obtain ⟨q1, q2⟩ := w_step (us := us) (st := st) (s5 := s5) (s7 := s7) (g := g) (w := w) (a := w.l) (b := w.r) (p := 3) (q := 4) f10 f11 (.inl ⟨rfl, rfl, rfl, rfl⟩) hx hf hl hr
    by_cases ho : okS xs fl n.F w.l w.r (4 + w.s)
    · exact ⟨_, _, _, q1 ho, adv_ok ho (h1 ho.1) (by omega)⟩
    · exact ⟨_, _, _, q2 ho, adv_no ho⟩
  have e2 : ∀ (xs : List Int) (g : Bool) (s9 s10 s11 : Sl), FS s9 → FS s10 → FS s11 → xs.length = n.N → ∃ xs' g' m, b_l_widened_6 (wE n us st fl xs s5 (.fz (.bl g)) s7 (.fz (rowD w)) (.fz (.tup [.int 4, .int 3])) s10 s11) = .ok .nx (wE n us st fl xs' s5 (.fz (.bl g')) s7 (.fz (rowD w)) (.fz (.tup [.int 4, .int 3])) (.fz (.int m)) (.fz (.int w.l))) ∧ Adv n.F fl E (dirE n.F w.r w.l (4 + w.s)) xs g xs' g' := fun xs g s9 s10 s11 f9 f10 f11 hx => by
    obtain ⟨q1, q2⟩ := w_step (us := us) (st := st) (s5 := s5) (s7 := s7) (g := g) (w := w) (a := w.r) (b := w.l) (p := 4) (q := 3) f10 f11 (.inr ⟨rfl, rfl, rfl, rfl⟩) hx hf hr hl
    by_cases ho : okS xs fl n.F w.r w.l (4 + w.s)
    · exact ⟨_, _, _, q1 ho, adv_ok ho (h2 ho.1) (by omega)⟩
    · exact ⟨_, _, _, q2 ho, adv_no ho⟩
  obtain ⟨xs1, g1, m1, r1, a1⟩ := e1 xs g s9 s10 s11 h9 h10 h11 hx
  obtain ⟨xs2, g2, m2, r2, a2⟩ := e2 xs1 g1 (.fz (.tup [.int 4, .int 3])) (.fz (.int m1)) (.fz (.int w.r)) .fz .fz .fz (a1.len.trans hx)
  refine ⟨xs2, g2, .fz (.tup [.int 4, .int 3]), .fz (.int m2), .fz (.int w.l), .fz, .fz, .fz, for_nx (items := [.tup [.int 3, .int 4], .tup [.int 4, .int 3]]) (Γ1 := wE n us st fl xs s5 (.fz (.bl g)) s7 (.fz (rowD w)) s9 s10 s11) rfl ?_, a1.trans a2⟩
  rw [for_c (Γ1 := wE n us st fl xs s5 (.fz (.bl g)) s7 (.fz (rowD w)) (.fz (.tup [.int 3, .int 4])) s10 s11) (by rcases h9 with rfl | ⟨_, rfl⟩ <;> rfl) r1]
  rw [for_c (Γ1 := wE n us st fl xs1 s5 (.fz (.bl g1)) s7 (.fz (rowD w)) (.fz (.tup [.int 4, .int 3])) (.fz (.int m1)) (.fz (.int w.r))) rfl r2]
  rfl
/-- once over all switches that are let -/
theorem w_pass (G : Good n) (hus : ∀ k ∈ us, k < n.rows.length) {xs : List Int} {s5 s7 s8 s9 s10 s11 : Sl} (h7 : FS s7) (h8 : FS s8) (h9 : FS s9) (h10 : FS s10) (h11 : FS s11) (hx : xs.length = n.N) (hf : fl.length = n.N) :
    ∃ xs' g' s7' s8' s9' s10' s11', FS s7' ∧ FS s8' ∧ FS s9' ∧ FS s10' ∧ FS s11' ∧ t_l_widened_4 (wE n us st fl xs s5 (.fz (.bl false)) s7 s8 s9 s10 s11) = .ok .nx (wE n us st fl xs' s5 (.fz (.bl g')) s7' s8' s9' s10' s11') ∧ Adv n.F fl (edg n us) (edg n us) xs false xs' g' := by
  obtain ⟨Γ', e, hI⟩ := for_run (g := g_l_widened_4) (b := b_l_widened_4) (items := us.map fun (k : Nat) => .int k)
    (fun j Γ => ∃ xs' g' s7' s8' s9' s10' s11', FS s7' ∧ FS s8' ∧ FS s9' ∧ FS s10' ∧ FS s11' ∧ Γ = wE n us st fl xs' s5 (.fz (.bl g')) s7' s8' s9' s10' s11' ∧ Adv n.F fl (edg n us) (edg n (us.take j)) xs false xs' g')
    (fun j d hj Γ hI => by
      obtain ⟨xs1, g1, t7, t8, t9, t10, t11, f7, f8, f9, f10, f11, rfl, a⟩ := hI
      rw [List.getElem?_map] at hj
      obtain ⟨k, hk, rfl⟩ := Option.map_eq_some_iff.mp hj
      have hkm := List.mem_of_getElem? hk
      have hkl := hus k hkm
      have hw : n.rows[k]? = some n.rows[k] := List.getElem?_eq_getElem (hus k hkm)
      obtain ⟨xs2, g2, u9, u10, u11, q9, q10, q11, r, a2⟩ := w_row (us := us) (st := st) (g := g1) (s5 := s5) (s7 := .fz (.int k)) (E := edg n us) G hw (dir_mem hkm hw) (dir_mem2 hkm hw) f9 f10 f11 (a.len.trans hx) hf
      refine ⟨wE n us st fl xs1 s5 (.fz (.bl g1)) (.fz (.int k)) t8 t9 t10 t11, wE n us st fl xs2 s5 (.fz (.bl g2)) (.fz (.int k)) (.fz (rowD n.rows[k])) u9 u10 u11, by rcases f7 with rfl | ⟨_, rfl⟩ <;> rfl, ?_, xs2, g2, _, _, _, _, _, .fz, .fz, q9, q10, q11, rfl, ?_⟩
      · refine sq (Γ1 := wE n us st fl xs1 s5 (.fz (.bl g1)) (.fz (.int k)) (.fz (rowD n.rows[k])) t9 t10 t11) ?_ r
        refine set_run (v := .fz (rowD n.rows[k])) (row_run (me := mVar 7) rfl rfl (hus k hkm)) (by rcases f8 with rfl | ⟨_, rfl⟩ <;> rfl)
      · have : us.take (j + 1) = us.take j ++ [k] := by rw [List.take_succ, hk]; rfl
        rw [this, edg_snoc hw]
        exact a.trans a2)
    (Γ := wE n us st fl xs s5 (.fz (.bl false)) s7 s8 s9 s10 s11) ⟨xs, false, s7, s8, s9, s10, s11, h7, h8, h9, h10, h11, rfl, Adv.nil⟩
  obtain ⟨xs', g', t7, t8, t9, t10, t11, f7, f8, f9, f10, f11, rfl, a⟩ := hI
  rw [List.length_map, List.take_length] at a
  exact ⟨xs', g', _, _, _, _, _, f7, f8, f9, f10, f11, for_nx (items := us.map fun (k : Nat) => .int k) rfl e, a⟩
/-- all turns -/
theorem w_turns (G : Good n) (hus : ∀ k ∈ us, k < n.rows.length) {s : Nat → Int} (hs0 : ∀ i, 0 ≤ s i) (hs1 : ∀ i, s i ≤ 11) (hf : fl.length = n.N) : ∀ (items : List D) (xs : List Int) (s5 s6 s7 s8 s9 s10 s11 : Sl), FS s5 → FS s6 → FS s7 → FS s8 → FS s9 → FS s10 → FS s11 → xs.length = n.N → WID.Grows (edg n us) (fnv fl) s (fnv xs) → 265 ≤ sm n.F xs + items.length →
    ∃ xs' s5' s6' s7' s8' s9' s10' s11', forL g_l_widened_2 b_l_widened_2 items (wE n us st fl xs s5 s6 s7 s8 s9 s10 s11) = .ok .nx (wE n us st fl xs' s5' s6' s7' s8' s9' s10' s11') ∧ xs'.length = n.N ∧ WID.Grows (edg n us) (fnv fl) s (fnv xs') ∧ WID.Closed (edg n us) (fnv fl) (fnv xs')
  | [], xs, s5, s6, s7, s8, s9, s10, s11, _, _, _, _, _, _, _, hx, gr, hm => by
    exfalso
    have hb : ∀ x ∈ xs.drop n.F, x ≤ 11 := fun x hx2 => by
      obtain ⟨i, hi⟩ := List.mem_iff_getElem?.mp hx2
      rw [List.getElem?_drop] at hi
      have := gr.most hs1 (n.F + i)
      rw [fn_at (lt_of_get hi)] at hi
      cases hi
      exact this
    have := sum_le hb
    rw [List.length_drop, hx] at this
    have t24 := G.t24
    have : n.N - n.F = n.T := by show n.F + n.T - n.F = n.T; omega
    unfold sm at hm
    simp only [List.length_nil] at hm
    omega
  | d :: items, xs, s5, s6, s7, s8, s9, s10, s11, f5, f6, f7, f8, f9, f10, f11, hx, gr, hm => by
    obtain ⟨xs1, g1, t7, t8, t9, t10, t11, k7, k8, k9, k10, k11, r, a⟩ := w_pass (us := us) (st := st) (s5 := .fz d) G hus f7 f8 f9 f10 f11 hx hf
    have e0 : g_l_widened_2 d (wE n us st fl xs s5 s6 s7 s8 s9 s10 s11) = some (wE n us st fl xs (.fz d) s6 s7 s8 s9 s10 s11) := by rcases f5 with rfl | ⟨_, rfl⟩ <;> rfl
    have e1 : t_l_widened_3 (wE n us st fl xs (.fz d) s6 s7 s8 s9 s10 s11) = .ok .nx (wE n us st fl xs (.fz d) (.fz (.bl false)) s7 s8 s9 s10 s11) := set_run (v := .fz (.bl false)) rfl (by rcases f6 with rfl | ⟨_, rfl⟩ <;> rfl)
    cases g1 with
    | true =>
      have e2 : b_l_widened_2 (wE n us st fl xs (.fz d) s6 s7 s8 s9 s10 s11) = .ok .nx (wE n us st fl xs1 (.fz d) (.fz (.bl true)) t7 t8 t9 t10 t11) := sq e1 (sq r rfl)
      rw [for_c e0 e2]
      have up : sm n.F xs + 1 ≤ sm n.F xs1 := (a.ye rfl).elim (fun z => by cases z) id
      exact w_turns G hus hs0 hs1 hf items xs1 _ _ _ _ _ _ _ .fz .fz k7 k8 k9 k10 k11 (a.len.trans hx) (a.gr s gr) (by simp only [List.length_cons] at hm; omega)
    | false =>
      obtain ⟨_, rfl, cl⟩ := a.no rfl
      have e2 : b_l_widened_2 (wE n us st fl xs1 (.fz d) s6 s7 s8 s9 s10 s11) = .ok .bk (wE n us st fl xs1 (.fz d) (.fz (.bl false)) t7 t8 t9 t10 t11) := sq e1 (sq r rfl)
      exact ⟨xs1, _, _, _, _, _, _, _, for_b e0 e2, hx, gr, cl⟩
theorem ini_ok {st fl : List Int} (hl : st.length = fl.length) (hs : ∀ x ∈ st, 0 ≤ x ∧ x ≤ 11) : (∀ i, 0 ≤ fnv (ini st fl) i) ∧ ∀ i, fnv (ini st fl) i ≤ 11 := by
  have key : ∀ i, 0 ≤ fnv (ini st fl) i ∧ fnv (ini st fl) i ≤ 11 := fun i => by
    by_cases h : i < (ini st fl).length
    · have h2 := fn_at h
      rw [ini_len hl] at h
      rw [ini_at h (by omega)] at h2
      have h3 := hs _ (List.mem_of_getElem? (fn_at h))
      have h2 := Option.some.inj h2
      split at h2 <;> omega
    · unfold fnv
      rw [List.getD_eq_getElem?_getD, List.getElem?_eq_none (by omega)]
      exact ⟨by decide, by decide⟩
  exact ⟨fun i => (key i).1, fun i => (key i).2⟩
theorem rng_map {N : Nat} {xs : List Int} {f : D → D} (hl : xs.length = N) (hf : ∀ k : Nat, k < N → f (.int (k : Nat)) = .int (fnv xs k)) : [] ++ (rngD 0 N).map f = xs.map .int := by
  rw [List.nil_append]
  refine List.ext_getElem? fun i => ?_
  rw [List.getElem?_map, List.getElem?_map]
  by_cases h : i < N
  · have : (rngD 0 N)[i]? = some (.int i) := by unfold rngD; rw [List.getElem?_map, List.getElem?_range h]; simp
    rw [this, fn_at (by omega)]
    simp [hf i h]
  · rw [List.getElem?_eq_none (by rw [rng_len]; omega), List.getElem?_eq_none (by omega)]
    rfl
theorem z_widened (G : Good n) (hus : ∀ k ∈ us, k < n.rows.length) (hst : st.length = n.N) (hf : fl.length = n.N) (hs : ∀ x ∈ st, 0 ≤ x ∧ x ≤ 11) :
    ∃ xs, m_l_widened [netD n, uD us, iD st, iD fl] = .ok (.fz (iD xs)) [.no, .no, .no, .no] ∧ xs.length = n.N ∧ WID.Grows (edg n us) (fnv fl) (fnv (ini st fl)) (fnv xs) ∧ WID.Closed (edg n us) (fnv fl) (fnv xs) := by
  have hN : n.N ≤ 36 := by have := G.f12; have := G.t24; show n.F + n.T ≤ 36; omega
  obtain ⟨i0, i1⟩ := ini_ok (st := st) (fl := fl) (by omega) hs
  have hil : (ini st fl).length = n.N := by rw [ini_len (by omega)]; exact hst
  let Γ0 : EV := [.fz (netD n), .fz (uD us), .fz (iD st), .fz (iD fl), .no, .no, .no, .no, .no, .no, .no, .no, .no]
  have s1 : t_l_widened_1 Γ0 = .ok .nx (wE n us st fl (ini st fl) .no .no .no .no .no .no .no) := by
    refine set_run (v := .ow ((ini st fl).map .int)) (Γ1 := Γ0) ?_ rfl
    show (mIR1 _ Γ0).bind _ = _
    have hr : mIR1 (mCons (mFn lenD (mCons (mVar 2) mNil)) mNil) Γ0 = .ok (rngD 0 st.length) Γ0 := rng_run (n := st.length) (by
      have := lentup_run (m := mVar 2) (Γ := Γ0) (Γ1 := Γ0) (ds := st.map .int) rfl
      rw [List.length_map] at this
      exact cons_run this (nil_run _)) (by omega)
    rw [hr, Out.bind_ok]
    have := lc_run (g := gN 12) (me := mIf (mTest (mBin geD (mBin idxD (mVar 2) (mVar 12)) (mBin idxD (mVar 3) (mVar 12)))) (mBin idxD (mVar 2) (mVar 12)) (mC (.int 0))) (vs := [12]) (f := fun d => match d with
      | .int i => .int (fnv (ini st fl) i.toNat)
      | d => d) (Γ := Γ0) (items := rngD 0 st.length) (acc := []) (by rw [rng_len]; simp; omega) (fun d hd => by
        obtain ⟨k, hk⟩ := List.mem_iff_getElem?.mp hd
        obtain ⟨h1, rfl⟩ := rng_at hk
        refine ⟨Γ0.set 12 (.fz (.int k)), Γ0.set 12 (.fz (.int k)), rfl, ?_, rfl⟩
        have r1 := tup_ix (i := 2) (xs := st) (me := mVar 12) (a := k) (Γ := Γ0.set 12 (.fz (.int k))) rfl rfl h1
        have r2 := tup_ix (i := 3) (xs := fl) (me := mVar 12) (a := k) (Γ := Γ0.set 12 (.fz (.int k))) rfl rfl (by omega)
        have e : fnv (ini st fl) k = if fnv fl k ≤ fnv st k then fnv st k else 0 := by
          have h2 := fn_at (xs := ini st fl) (i := k) (by omega)
          rw [ini_at h1 (by omega)] at h2
          exact (Option.some.inj h2).symm
        show mIf _ _ _ _ = .ok (.fz (.int (fnv (ini st fl) ((k : Int)).toNat))) _
        rw [Int.toNat_natCast, e]
        unfold mIf
        rw [ge_run r1 r2, Out.bind_ok]
        by_cases h : fnv fl k ≤ fnv st k
        · rw [decide_eq_true h, if_pos h]; exact r1
        · rw [decide_eq_false h, if_neg h]; rfl)
    rw [rng_map (xs := ini st fl) (by omega) (fun k _ => by show D.int (fnv (ini st fl) ((k : Int)).toNat) = _; rw [Int.toNat_natCast])] at this
    exact this
  obtain ⟨xs, t5, t6, t7, t8, t9, t10, t11, r, hx, gr, cl⟩ := w_turns (st := st) G hus i0 i1 hf (rngD 0 300) (ini st fl) .no .no .no .no .no .no .no FS.no FS.no FS.no FS.no FS.no FS.no FS.no hil .refl (by
    rw [rng_len]
    have := sum_ge (l := (ini st fl).drop n.F) fun x hx => by
      obtain ⟨i, hi⟩ := List.mem_iff_getElem?.mp (List.mem_of_mem_drop hx)
      rw [fn_at (lt_of_get hi)] at hi
      cases hi
      exact i0 i
    unfold sm
    omega)
  have s2 : t_l_widened_2 (wE n us st fl (ini st fl) .no .no .no .no .no .no .no) = .ok .nx (wE n us st fl xs t5 t6 t7 t8 t9 t10 t11) := for_nx (rng_run (n := 300) rfl (by decide)) r
  refine ⟨xs, run_rt (v := .fz (iD xs)) (Γ' := wE n us st fl xs t5 t6 t7 t8 t9 t10 t11) rfl ?_ rfl, hx, gr, cl⟩
  show bd_l_widened Γ0 = _
  rw [bq_l_widened]
  exact sq s1 (sq s2 (ret_run (fn1_run (v := .bw 4) rfl rfl rfl)))
end
end K29

set_option Elab.async false
set_option linter.all false
set_option maxRecDepth 100000
set_option maxHeartbeats 4000000
namespace K29
open PySem PySem.Spec PyProof.Rows L2 L2H XT GX RD SX PU
/-! ### the ways over the switches -/
abbrev tD (k o : Nat) (w : Int) : D := .tup [.int k, .int o, .int w]
def wyR (n : Nt) (k : Nat) (w : Rw) (v : Nat) : List D := (if n.F ≤ w.r ∧ v = w.l then [tD k w.r (4 + w.s)] else []) ++ (if n.F ≤ w.l ∧ v = w.r then [tD k w.l (4 + w.s)] else [])
def wy (n : Nt) (us : List Nat) (v : Nat) : List D := us.flatMap fun k => match n.rows[k]? with
  | none => []
  | some w => wyR n k w v
theorem wy_snoc {n : Nt} {us : List Nat} {k v : Nat} {w : Rw} (h : n.rows[k]? = some w) : wy n (us ++ [k]) v = wy n us v ++ wyR n k w v := by
  unfold wy
  rw [List.flatMap_append]
  simp [h]
theorem wyR_len {n : Nt} {k v : Nat} {w : Rw} : (wyR n k w v).length ≤ 2 := by
  unfold wyR
  rw [List.length_append]
  split <;> split <;> simp
theorem wy_len {n : Nt} {v : Nat} : ∀ {us : List Nat}, (wy n us v).length ≤ 2 * us.length
  | [] => by simp [wy]
  | k :: us => by
    have ih := wy_len (n := n) (v := v) (us := us)
    have : wy n (k :: us) v = (match n.rows[k]? with | none => [] | some w => wyR n k w v) ++ wy n us v := rfl
    rw [this, List.length_append, List.length_cons]
    cases n.rows[k]? with
    | none => simp; omega
    | some w => have := wyR_len (n := n) (k := k) (v := v) (w := w); simp only; omega
/-- what is among the ways is an edge -/
theorem wy_mem {n : Nt} {us : List Nat} {v : Nat} {d : D} (h : d ∈ wy n us v) : ∃ (k o : Nat) (w : Int), d = tD k o w ∧ (v, o, w) ∈ edg n us := by
  unfold wy at h
  obtain ⟨k, hk, h⟩ := List.mem_flatMap.mp h
  cases e : n.rows[k]? with
  | none => rw [e] at h; simp at h
  | some w =>
    rw [e] at h
    rcases List.mem_append.mp h with h | h
    · split at h
      · rename_i hc
        obtain rfl := List.mem_singleton.mp h
        exact ⟨k, w.r, _, rfl, mem_edg.mpr ⟨k, w, hk, e, .inl ⟨hc.1, by rw [hc.2]⟩⟩⟩
      · simp at h
    · split at h
      · rename_i hc
        obtain rfl := List.mem_singleton.mp h
        exact ⟨k, w.l, _, rfl, mem_edg.mpr ⟨k, w, hk, e, .inr ⟨hc.1, by rw [hc.2]⟩⟩⟩
      · simp at h
theorem mem_wy {n : Nt} {us : List Nat} {e : Ed} (h : e ∈ edg n us) : ∃ k : Nat, tD k e.2.1 e.2.2 ∈ wy n us e.1 := by
  obtain ⟨k, w, hk, e2, h⟩ := mem_edg.mp h
  refine ⟨k, ?_⟩
  unfold wy
  refine List.mem_flatMap.mpr ⟨k, hk, ?_⟩
  rw [e2]
  rcases h with ⟨hF, rfl⟩ | ⟨hF, rfl⟩
  · refine List.mem_append_left _ ?_
    rw [if_pos ⟨hF, rfl⟩]; simp
  · refine List.mem_append_right _ ?_
    rw [if_pos ⟨hF, rfl⟩]; simp
theorem appO_run {Γ : EV} {i j : Nat} {mk m : ME} {dss : List (List D)} {ds : List D} {d : D} (h0 : Γ[i]? = some (.oo dss)) (h1 : mk Γ = .ok (.fz (.int j)) Γ) (h2 : m Γ = .ok (.fz d) Γ) (h3 : dss[j]? = some ds) (hl : ds.length < 1000) : mAppO i mk m Γ = .ok .nx (Γ.set i (.oo (dss.set j (ds ++ [d])))) := by
  have e0 : ooAt Γ i = some dss := by unfold ooAt; rw [h0]
  have hs : ds.length < sizeLine := by unfold sizeLine; omega
  unfold mAppO
  simp only [e0, h1, Out.bind_ok, ixN_nat (lt_of_get h3), h2, Vl.op, cool, h3, if_pos hs]
theorem lcO_run {Γ : EV} {vs : List Nat} {g : D → EV → Option EV} {me : ME} : ∀ {items : List D} {acc : List (List D)}, acc.length + items.length ≤ 1000 → (∀ d ∈ items, ∃ Γ2 Γ4, g d Γ = some Γ2 ∧ me Γ2 = .ok (.ow []) Γ4 ∧ wipeE Γ4 vs = Γ) → lcO g mYes me vs items acc Γ = .ok (acc ++ items.map fun _ => []) Γ
  | [], acc, hl, h => by simp [lcO]
  | d :: ds, acc, hl, h => by
    obtain ⟨Γ2, Γ4, e1, e2, e3⟩ := h d List.mem_cons_self
    rw [List.length_cons] at hl
    have ih := lcO_run (items := ds) (acc := acc ++ [[]]) (by rw [List.length_append]; simp; omega) fun x hx => h x (List.mem_cons_of_mem _ hx)
    unfold lcO
    have : acc.length < sizeLine := by unfold sizeLine; omega
    simp only [e1, mYes, Out.nr_ok, Out.bind_ok, e2, e3, ih, if_pos, okOw, this]
    simp
abbrev yE (n : Nt) (us : List Nat) (dss : List (List D)) (s4 s5 s6 s7 s8 s9 : Sl) : EV := [.fz (netD n), .fz (uD us), .fz (.int n.F), .oo dss, s4, s5, s6, s7, s8, s9]
theorem y_row {n : Nt} {us : List Nat} {f : Nat → List D} {dss : List (List D)} {s5 s6 s7 s8 s9 : Sl} {k : Nat} {w : Rw} (G : Good n) (hw : n.rows[k]? = some w) (h5 : FS s5) (h6 : FS s6) (h7 : FS s7) (h8 : FS s8) (h9 : FS s9) (hd : dss.length = n.N ∧ ∀ v, v < n.N → dss[v]? = some (f v)) (hl : ∀ v, (f v).length < 900) :
    ∃ dss' s5' s6' s7' s8' s9', FS s5' ∧ FS s6' ∧ FS s7' ∧ FS s8' ∧ FS s9' ∧ b_ways_over_3 (yE n us dss (.fz (.int k)) s5 s6 s7 s8 s9) = .ok .nx (yE n us dss' (.fz (.int k)) s5' s6' s7' s8' s9') ∧ (dss'.length = n.N ∧ ∀ v, v < n.N → dss'[v]? = some (f v ++ wyR n k w v)) := by
  obtain ⟨_, _, hL, hR⟩ := G.rw_ w (List.mem_of_getElem? hw)
  obtain ⟨hk, ew⟩ := List.getElem?_eq_some_iff.mp hw
  let Γ (dss : List (List D)) (s8 : Sl) : EV := yE n us dss (.fz (.int k)) (.fz (.int w.s)) (.fz (.int w.l)) (.fz (.int w.r)) s8 (.fz (.int w.g))
  have s4' : t_ways_over_4 (yE n us dss (.fz (.int k)) s5 s6 s7 s8 s9) = .ok .nx (Γ dss s8) := by
    have := row_run (i := 0) (me := mVar 4) (Γ := yE n us dss (.fz (.int k)) s5 s6 s7 s8 s9) (Γ1 := yE n us dss (.fz (.int k)) s5 s6 s7 s8 s9) rfl rfl hk
    rw [ew] at this
    show mAsg _ _ _ = _
    unfold mAsg
    rw [this]
    rcases h5 with rfl | ⟨_, rfl⟩ <;> rcases h6 with rfl | ⟨_, rfl⟩ <;> rcases h7 with rfl | ⟨_, rfl⟩ <;> rcases h9 with rfl | ⟨_, rfl⟩ <;> rfl
  have s5' : t_ways_over_5 (Γ dss s8) = .ok .nx (Γ dss (.fz (.int (4 + w.s)))) := set_run (v := .fz (.int (4 + w.s))) (Γ1 := Γ dss s8) (call1 rfl (z_ros w.s)) (by rcases h8 with rfl | ⟨_, rfl⟩ <;> rfl)
  have ap : ∀ (dss : List (List D)) (f : Nat → List D) (a b ia ib : Nat) (_ : (ia = 6 ∧ ib = 7 ∧ a = w.l ∧ b = w.r) ∨ (ia = 7 ∧ ib = 6 ∧ a = w.r ∧ b = w.l)) (_ : dss.length = n.N ∧ ∀ v, v < n.N → dss[v]? = some (f v)) (_ : ∀ v, (f v).length < 901),
      ∃ dss', mIfS (mTest (mBin geD (mVar ib) (mVar 2))) (mAppO 3 (mVar ia) (mTup (mCons (mVar 4) (mCons (mVar ib) (mCons (mVar 8) mNil))))) mSkip (Γ dss (.fz (.int (4 + w.s)))) = .ok .nx (Γ dss' (.fz (.int (4 + w.s)))) ∧ (dss'.length = n.N ∧ ∀ v, v < n.N → dss'[v]? = some (f v ++ (if n.F ≤ b ∧ v = a then [tD k b (4 + w.s)] else []))) := fun dss f a b ia ib hab hd hl => by
    have ha : a < n.N := by rcases hab with ⟨_, _, rfl, rfl⟩ | ⟨_, _, rfl, rfl⟩ <;> assumption
    have vb : mVar ib (Γ dss (.fz (.int (4 + w.s)))) = .ok (.fz (.int b)) (Γ dss (.fz (.int (4 + w.s)))) := by rcases hab with ⟨rfl, rfl, rfl, rfl⟩ | ⟨rfl, rfl, rfl, rfl⟩ <;> rfl
    have va : mVar ia (Γ dss (.fz (.int (4 + w.s)))) = .ok (.fz (.int a)) (Γ dss (.fz (.int (4 + w.s)))) := by rcases hab with ⟨rfl, rfl, rfl, rfl⟩ | ⟨rfl, rfl, rfl, rfl⟩ <;> rfl
    have c := ge_run (a := mVar ib) (b := mVar 2) (i := b) (j := n.F) vb rfl
    by_cases hF : n.F ≤ b
    · refine ⟨dss.set a (f a ++ [tD k b (4 + w.s)]), if_t (c.trans (by rw [decide_eq_true (by omega)])) ?_, by rw [List.length_set]; exact hd.1, fun v hv => ?_⟩
      · refine appO_run (j := a) rfl va ?_ (hd.2 a ha) (by have := hl a; omega)
        have : mCons (mVar 4) (mCons (mVar ib) (mCons (mVar 8) mNil)) (Γ dss (.fz (.int (4 + w.s)))) = .ok [.fz (.int k), .fz (.int b), .fz (.int (4 + w.s))] (Γ dss (.fz (.int (4 + w.s)))) := cons_run (v := .fz (.int k)) rfl (cons_run (v := .fz (.int b)) vb (cons_run (v := .fz (.int (4 + w.s))) rfl (nil_run _)))
        unfold mTup
        rw [this]
        rfl
      · rw [List.getElem?_set]
        by_cases hva : a = v
        · subst hva
          rw [if_pos rfl, if_pos (by omega), if_pos ⟨hF, rfl⟩]
        · rw [if_neg hva, if_neg (fun z => hva z.2.symm), List.append_nil]
          exact hd.2 v hv
    · refine ⟨dss, if_f (c.trans (by rw [decide_eq_false (by omega)])) rfl, hd.1, fun v hv => ?_⟩
      rw [if_neg (fun z => hF z.1), List.append_nil]
      exact hd.2 v hv
  obtain ⟨d1, r1, q1⟩ := ap dss f w.l w.r 6 7 (.inl ⟨rfl, rfl, rfl, rfl⟩) hd (fun v => by have := hl v; omega)
  obtain ⟨d2, r2, q2⟩ := ap d1 _ w.r w.l 7 6 (.inr ⟨rfl, rfl, rfl, rfl⟩) q1 (fun v => by
    have := hl v
    simp only [List.length_append]
    split <;> simp <;> omega)
  refine ⟨d2, _, _, _, _, _, .fz, .fz, .fz, .fz, .fz, sq s4' (sq s5' (sq r1 r2)), q2.1, fun v hv => ?_⟩
  rw [q2.2 v hv, List.append_assoc]
  rfl
theorem z_ways {n : Nt} {us : List Nat} (G : Good n) (hus : ∀ k ∈ us, k < n.rows.length) (hul : us.length ≤ 60) : ∃ dss : List (List D), m_ways_over [netD n, uD us] = .ok (.fz (.lst (dss.map .lst))) [.no, .no] ∧ dss.length = n.N ∧ ∀ v, v < n.N → dss[v]? = some (wy n us v) := by
  have hN : n.N ≤ 36 := by have := G.f12; have := G.t24; show n.F + n.T ≤ 36; omega
  let Γ0 : EV := [.fz (netD n), .fz (uD us), .no, .no, .no, .no, .no, .no, .no, .no]
  let Γ1 : EV := [.fz (netD n), .fz (uD us), .fz (.int n.F), .no, .no, .no, .no, .no, .no, .no]
  have s1 : t_ways_over_1 Γ0 = .ok .nx Γ1 := set_run (lF rfl) rfl
  have s2 : t_ways_over_2 Γ1 = .ok .nx (yE n us ((rngD 0 n.N).map fun _ => []) .no .no .no .no .no .no) := by
    have hr : mIR1 (mCons (mCall io_count_of_nodes m_count_of_nodes (mCons (mVar 0) mNil)) mNil) Γ1 = .ok (rngD 0 n.N) Γ1 := rng_run (n := n.N) (cons_run (v := .fz (.int n.N)) (call1 rfl (z_count n)) (nil_run _)) (by omega)
    have hc := lcO_run (Γ := Γ1) (vs := [9]) (g := gN 9) (me := mLst mNil) (items := rngD 0 n.N) (acc := []) (by rw [rng_len]; simp; omega) (fun d _ => ⟨Γ1.set 9 (.fz d), Γ1.set 9 (.fz d), rfl, rfl, rfl⟩)
    show mSetO _ _ _ _ _ _ _ = _
    unfold mSetO
    rw [hr, Out.bind_ok]
    have e : wipeE Γ1 [9] = Γ1 := rfl
    rw [e, hc]
    rfl
  obtain ⟨Γ', e, hI⟩ := for_run (g := g_ways_over_3) (b := b_ways_over_3) (items := us.map fun (k : Nat) => .int k)
    (fun j Γ => ∃ dss s4 s5 s6 s7 s8 s9, FS s4 ∧ FS s5 ∧ FS s6 ∧ FS s7 ∧ FS s8 ∧ FS s9 ∧ Γ = yE n us dss s4 s5 s6 s7 s8 s9 ∧ (dss.length = n.N ∧ ∀ v, v < n.N → dss[v]? = some (wy n (us.take j) v)))
    (fun j d hj Γ hI => by
      obtain ⟨dss, s4, s5, s6, s7, s8, s9, f4, f5, f6, f7, f8, f9, rfl, hd⟩ := hI
      rw [List.getElem?_map] at hj
      obtain ⟨k, hk, rfl⟩ := Option.map_eq_some_iff.mp hj
      have hkm := List.mem_of_getElem? hk
      have hkl := hus k hkm
      have hw : n.rows[k]? = some n.rows[k] := List.getElem?_eq_getElem hkl
      obtain ⟨d2, t5, t6, t7, t8, t9, g5, g6, g7, g8, g9, r, q⟩ := y_row (us := us) G hw f5 f6 f7 f8 f9 hd (fun v => by
        have := wy_len (n := n) (v := v) (us := us.take j)
        rw [List.length_take] at this
        omega)
      refine ⟨yE n us dss (.fz (.int k)) s5 s6 s7 s8 s9, _, by rcases f4 with rfl | ⟨_, rfl⟩ <;> rfl, r, d2, _, _, _, _, _, _, .fz, g5, g6, g7, g8, g9, rfl, q.1, fun v hv => ?_⟩
      have : us.take (j + 1) = us.take j ++ [k] := by rw [List.take_succ, hk]; rfl
      rw [q.2 v hv, this, wy_snoc hw])
    (Γ := yE n us ((rngD 0 n.N).map fun _ => []) .no .no .no .no .no .no) ⟨_, _, _, _, _, _, _, FS.no, FS.no, FS.no, FS.no, FS.no, FS.no, rfl, by rw [List.length_map, rng_len], fun v hv => by
      rw [List.getElem?_map, List.getElem?_eq_getElem (by rw [rng_len]; exact hv)]
      rfl⟩
  obtain ⟨dss, s4, s5, s6, s7, s8, s9, _, _, _, _, _, _, rfl, hd⟩ := hI
  rw [List.length_map, List.take_length] at hd
  refine ⟨dss, run_rt (v := .bw 3) (Γ' := yE n us dss s4 s5 s6 s7 s8 s9) rfl ?_ rfl, hd.1, hd.2⟩
  show bd_ways_over Γ0 = _
  rw [bq_ways_over]
  exact sq s1 (sq s2 (sq (for_nx (items := us.map fun (k : Nat) => .int k) rfl e) rfl))
end K29

set_option Elab.async false
set_option linter.all false
set_option maxRecDepth 100000
set_option maxHeartbeats 4000000
namespace K29
open PySem PySem.Spec PyProof.Rows L2 L2H XT GX RD SX PU
/-! ### the flood: the numbers -/
def Ng (f x : Nat → Int) (e : Ed) : Prop := x e.2.1 < WID.gain x e → WID.gain x e < f e.2.1
theorem Ng.put {f x : Nat → Int} {e : Ed} {o : Nat} {m : Int} (h : Ng f x e) (h1 : e.1 ≠ o) (h2 : x o < m) : Ng f (WID.put x o m) e := by
  have g : WID.gain (WID.put x o m) e = WID.gain x e := by
    unfold WID.gain WID.put
    rw [if_neg h1]
  unfold Ng at h ⊢
  rw [g]
  intro lt
  refine h ?_
  unfold WID.put at lt
  split at lt
  · rename_i ho
    rw [ho]; omega
  · exact lt
/-- nodes that are not yet at R -/
def cnt (R : Int) (xs : List Int) : Nat := xs.countP fun x => decide (x < R)
/-- the flood at rank R: wl waits, u is looked at, done is what is done of it -/
structure St (E : List Ed) (f s : Nat → Int) (N : Nat) (R : Int) (xs : List Int) (wl : List Nat) (skip : Nat → Prop) (dn : List Ed) : Prop where
  len : xs.length = N
  gr : WID.Grows E f s (fnv xs)
  hi : ∀ e ∈ E, R < fnv xs e.1 → Ng f (fnv xs) e
  at_ : ∀ e ∈ E, fnv xs e.1 = R → ¬ e.1 ∈ wl → ¬ skip e.1 → Ng f (fnv xs) e
  dn_ : ∀ e ∈ dn, Ng f (fnv xs) e
  wl_ : ∀ v ∈ wl, v < N ∧ fnv xs v = R
theorem getD_len {xs : List Int} {v : Nat} (h : v < xs.length) : xs[v] = fnv xs v := by
  have := fn_at h
  rw [List.getElem?_eq_getElem h] at this
  exact Option.some.inj this
theorem cnt_set {R m : Int} {xs : List Int} {o : Nat} (h : o < xs.length) (h1 : fnv xs o < R) : cnt R (xs.set o m) + (if m < R then 0 else 1) = cnt R xs := by
  unfold cnt
  rw [List.countP_set h, getD_len h]
  have hp : 0 < xs.countP fun x => decide (x < R) := List.countP_pos_iff.mpr ⟨xs[o], List.getElem_mem h, by rw [getD_len h]; simpa using h1⟩
  simp only [decide_eq_true_eq]
  rw [if_pos h1]
  split <;> omega
/-- one way of u is tried -/
theorem St.try_ {E : List Ed} {f s : Nat → Int} {N u o : Nat} {R w : Int} {xs : List Int} {wl : List Nat} {dn : List Ed} (t : St E f s N R xs wl (fun v => v = u) dn) (hu : fnv xs u = R) (hE : (u, o, w) ∈ E) (ho : o < N) (hdn : ∀ e ∈ dn, e.1 = u) :
    ((fnv xs o < min R w ∧ f o ≤ min R w) → St E f s N R (xs.set o (min R w)) (wl ++ (if min R w = R then [o] else [])) (fun v => v = u) (dn ++ [(u, o, w)]) ∧ fnv (xs.set o (min R w)) u = R ∧ cnt R (xs.set o (min R w)) + (wl ++ (if min R w = R then [o] else [])).length = cnt R xs + wl.length) ∧
    (¬ (fnv xs o < min R w ∧ f o ≤ min R w) → St E f s N R xs wl (fun v => v = u) (dn ++ [(u, o, w)])) := by
  have ho' : o < xs.length := by rw [t.len]; exact ho
  have gn : WID.gain (fnv xs) (u, o, w) = min R w := by unfold WID.gain; rw [hu]
  constructor
  · rintro ⟨k1, k2⟩
    generalize hm : min R w = m at *
    have hmR : m ≤ R := by omega
    have hne : ∀ v, fnv xs v = R → v ≠ o := fun v hv z => by subst z; omega
    have fs : fnv (xs.set o m) = WID.put (fnv xs) o m := fn_set ho'
    have uo := hne u hu
    refine ⟨⟨by rw [List.length_set]; exact t.len, ?_, fun e he h => ?_, fun e he h h1 h2 => ?_, fun e he => ?_, fun v hv => ?_⟩, ?_, ?_⟩
    · rw [fs, ← gn]
      exact .step (e := (u, o, w)) t.gr hE (by rw [gn]; exact k1) (by rw [gn]; exact k2)
    · rw [fs] at h ⊢
      have h1 : e.1 ≠ o := fun z => by unfold WID.put at h; rw [if_pos z] at h; omega
      unfold WID.put at h
      rw [if_neg h1] at h
      exact (t.hi e he h).put h1 k1
    · rw [fs] at h ⊢
      have h3 : e.1 ≠ o := fun z => by
        unfold WID.put at h
        rw [if_pos z] at h
        exact h1 (List.mem_append_right _ (by rw [if_pos h, z]; simp))
      unfold WID.put at h
      rw [if_neg h3] at h
      exact (t.at_ e he h (fun z => h1 (List.mem_append_left _ z)) h2).put h3 k1
    · rw [fs]
      rcases List.mem_append.mp he with he | he
      · exact (t.dn_ e he).put (by rw [hdn e he]; exact uo) k1
      · obtain rfl := List.mem_singleton.mp he
        intro lt
        exfalso
        have : WID.gain (WID.put (fnv xs) o m) (u, o, w) = m := by
          rw [← gn]
          unfold WID.gain WID.put
          rw [if_neg uo]
        rw [this] at lt
        unfold WID.put at lt
        simp at lt
    · rw [fs]
      rcases List.mem_append.mp hv with hv | hv
      · obtain ⟨q1, q2⟩ := t.wl_ v hv
        exact ⟨q1, by unfold WID.put; rw [if_neg (hne v q2)]; exact q2⟩
      · split at hv
        · rename_i h
          obtain rfl := List.mem_singleton.mp hv
          exact ⟨ho, by unfold WID.put; rw [if_pos rfl]; exact h⟩
        · simp at hv
    · rw [fs]
      unfold WID.put
      rw [if_neg uo]; exact hu
    · have := cnt_set (m := m) ho' (show fnv xs o < R by omega)
      rw [List.length_append]
      by_cases h : m = R
      · rw [if_pos h, List.length_singleton]
        rw [if_neg (by omega)] at this
        omega
      · rw [if_neg h, List.length_nil]
        rw [if_pos (by omega)] at this
        omega
  · intro hn
    refine ⟨t.len, t.gr, t.hi, t.at_, fun e he => ?_, t.wl_⟩
    rcases List.mem_append.mp he with he | he
    · exact t.dn_ e he
    · obtain rfl := List.mem_singleton.mp he
      intro lt
      rw [gn] at lt ⊢
      exact Int.not_le.mp fun k => hn ⟨lt, k⟩
abbrev kE (n : Nt) (us : List Nat) (st fl : List Int) (dss : List (List D)) (xs : List Int) (ps ss : List D) (z R : Int) (wl : List Nat) (s11 s12 s13 s16 s17 : Sl) : EV :=
  [.fz (netD n), .fz (uD us), .fz (iD st), .fz (iD fl), .fz (.lst (dss.map .lst)), oD xs, .ow false ps, .ow false ss, .fz (.int z), .fz (.int R), .ow false (wl.map fun (k : Nat) => .int k), s11, s12, s13, .no, .no, s16, s17]
section
variable {n : Nt} {us : List Nat} {st fl : List Int} {dss : List (List D)} {s : Nat → Int}
/-- a way -/
theorem k_way {xs : List Int} {ps ss : List D} {z R w : Int} {wl : List Nat} {k o u : Nat} {s17 : Sl} {dn : List Ed} (h17 : FS s17) (hps : ps.length = n.N) (hf : fl.length = n.N) (t : St (edg n us) (fnv fl) s n.N R xs wl (fun v => v = u) dn) (hu : fnv xs u = R) (hE : (u, o, w) ∈ edg n us) (ho : o < n.N) (hdn : ∀ e ∈ dn, e.1 = u) (hwl : cnt R xs + wl.length ≤ 900) :
    ∃ xs' ps' wl' s17', FS s17' ∧ ps'.length = n.N ∧ b_flooded_12 (kE n us st fl dss xs ps ss z R wl (.fz (.int k)) (.fz (.int o)) (.fz (.int w)) (.fz (.int u)) s17) = .ok .nx (kE n us st fl dss xs' ps' ss z R wl' (.fz (.int k)) (.fz (.int o)) (.fz (.int w)) (.fz (.int u)) s17') ∧ St (edg n us) (fnv fl) s n.N R xs' wl' (fun v => v = u) (dn ++ [(u, o, w)]) ∧ fnv xs' u = R ∧ cnt R xs' + wl'.length = cnt R xs + wl.length := by
  obtain ⟨q1, q2⟩ := t.try_ hu hE ho hdn
  generalize hm : min R w = m at *
  have s13 : t_flooded_13 (kE n us st fl dss xs ps ss z R wl (.fz (.int k)) (.fz (.int o)) (.fz (.int w)) (.fz (.int u)) s17) = .ok .nx (kE n us st fl dss xs ps ss z R wl (.fz (.int k)) (.fz (.int o)) (.fz (.int w)) (.fz (.int u)) (.fz (.int m))) := by
    refine set_run (v := .fz (.int m)) (Γ1 := kE n us st fl dss xs ps ss z R wl (.fz (.int k)) (.fz (.int o)) (.fz (.int w)) (.fz (.int u)) s17) ?_ (by rcases h17 with rfl | ⟨_, rfl⟩ <;> rfl)
    rw [← hm]
    exact min_run rfl rfl
  have c1 := gt_run (a := mVar 17) (b := mBin idxD (mVar 5) (mVar 12)) (i := m) (j := fnv xs o) (Γ := kE n us st fl dss xs ps ss z R wl (.fz (.int k)) (.fz (.int o)) (.fz (.int w)) (.fz (.int u)) (.fz (.int m))) rfl (own_ix rfl rfl (by rw [t.len]; exact ho))
  have c2 := ge_run (a := mVar 17) (b := mBin idxD (mVar 3) (mVar 12)) (i := m) (j := fnv fl o) (Γ := kE n us st fl dss xs ps ss z R wl (.fz (.int k)) (.fz (.int o)) (.fz (.int w)) (.fz (.int u)) (.fz (.int m))) rfl (tup_ix rfl rfl (by omega))
  by_cases hc : fnv xs o < m ∧ fnv fl o ≤ m
  · obtain ⟨t2, hu2, hcn⟩ := q1 hc
    refine ⟨xs.set o m, ps.set o (.int k), wl ++ (if m = R then [o] else []), .fz (.int m), .fz, by rw [List.length_set]; exact hps, ?_, t2, hu2, hcn⟩
    refine sq s13 (if_t (and_t (c1.trans (by rw [decide_eq_true hc.1])) (c2.trans (by rw [decide_eq_true hc.2]))) ?_)
    refine sq (Γ1 := kE n us st fl dss (xs.set o m) ps ss z R wl (.fz (.int k)) (.fz (.int o)) (.fz (.int w)) (.fz (.int u)) (.fz (.int m))) ?_ (sq (Γ1 := kE n us st fl dss (xs.set o m) (ps.set o (.int k)) ss z R wl (.fz (.int k)) (.fz (.int o)) (.fz (.int w)) (.fz (.int u)) (.fz (.int m))) ?_ ?_)
    · refine ix_run (j := o) (v := .fz (.int m)) (k := (o : Nat)) rfl rfl rfl rfl rfl (ixN_nat (by rw [List.length_map, t.len]; exact ho)) ?_
      rw [← List.map_set]
      rfl
    · exact ix_run (j := o) (v := .fz (.int k)) (k := (o : Nat)) rfl rfl rfl rfl rfl (ixN_nat (by omega)) rfl
    · have c3 := eq_run (a := mVar 17) (b := mVar 9) (i := m) (j := R) (Γ := kE n us st fl dss (xs.set o m) (ps.set o (.int k)) ss z R wl (.fz (.int k)) (.fz (.int o)) (.fz (.int w)) (.fz (.int u)) (.fz (.int m))) rfl rfl
      by_cases hR : m = R
      · refine if_t (c3.trans (by rw [decide_eq_true hR])) ?_
        rw [if_pos hR]
        refine app_run (q := (false, wl.map fun (k : Nat) => .int k)) (d := .int o) (v := .fz (.int o)) rfl rfl rfl rfl (by rw [List.length_map]; unfold sizeLine; omega) ?_
        simp [kE, List.map_append]
      · refine if_f (c3.trans (by rw [decide_eq_false hR])) ?_
        rw [if_neg hR, List.append_nil]
        rfl
  · refine ⟨xs, ps, wl, .fz (.int m), .fz, hps, ?_, q2 hc, hu, rfl⟩
    refine sq s13 (if_f (Γ1 := kE n us st fl dss xs ps ss z R wl (.fz (.int k)) (.fz (.int o)) (.fz (.int w)) (.fz (.int u)) (.fz (.int m))) ?_ rfl)
    by_cases k1 : fnv xs o < m
    · exact and_t (c1.trans (by rw [decide_eq_true k1])) (c2.trans (by rw [decide_eq_false (fun k2 => hc ⟨k1, k2⟩)]))
    · exact and_f (c1.trans (by rw [decide_eq_false k1]))
theorem edg_lt (G : Good n) {e : Ed} (h : e ∈ edg n us) : e.1 < n.N ∧ e.2.1 < n.N := by
  obtain ⟨k, w, _, e2, h⟩ := mem_edg.mp h
  obtain ⟨_, _, h1, h2⟩ := G.rw_ w (List.mem_of_getElem? e2)
  rcases h with ⟨_, rfl⟩ | ⟨_, rfl⟩
  · exact ⟨h1, h2⟩
  · exact ⟨h2, h1⟩
/-- all ways of u -/
theorem k_ways (G : Good n) {ss : List D} {z R : Int} {u : Nat} (hf : fl.length = n.N) : ∀ (ds : List D) (xs : List Int) (ps : List D) (wl : List Nat) (s11 s12 s13 s17 : Sl) (dn : List Ed), (∀ d ∈ ds, ∃ (k o : Nat) (w : Int), d = tD k o w ∧ (u, o, w) ∈ edg n us) → FS s11 → FS s12 → FS s13 → FS s17 → ps.length = n.N → St (edg n us) (fnv fl) s n.N R xs wl (fun v => v = u) dn → fnv xs u = R → (∀ e ∈ dn, e.1 = u) → cnt R xs + wl.length ≤ 900 →
    ∃ xs' ps' wl' s11' s12' s13' s17' dn', FS s11' ∧ FS s12' ∧ FS s13' ∧ FS s17' ∧ ps'.length = n.N ∧ forL g_flooded_12 b_flooded_12 ds (kE n us st fl dss xs ps ss z R wl s11 s12 s13 (.fz (.int u)) s17) = .ok .nx (kE n us st fl dss xs' ps' ss z R wl' s11' s12' s13' (.fz (.int u)) s17') ∧ St (edg n us) (fnv fl) s n.N R xs' wl' (fun v => v = u) dn' ∧ cnt R xs' + wl'.length = cnt R xs + wl.length ∧ (∀ e ∈ dn, e ∈ dn') ∧ ∀ (k o : Nat) (w : Int), tD k o w ∈ ds → (u, o, w) ∈ dn'
  | [], xs, ps, wl, s11, s12, s13, s17, dn, _, f11, f12, f13, f17, hps, t, hu, hdn, hc => ⟨xs, ps, wl, s11, s12, s13, s17, dn, f11, f12, f13, f17, hps, rfl, t, rfl, fun _ h => h, fun k o w h => by simp at h⟩
  | d :: ds, xs, ps, wl, s11, s12, s13, s17, dn, hd, f11, f12, f13, f17, hps, t, hu, hdn, hc => by
    obtain ⟨k, o, w, rfl, hE⟩ := hd _ List.mem_cons_self
    obtain ⟨xs1, ps1, wl1, t17, g17, hps1, r, t1, hu1, hc1⟩ := k_way (dss := dss) (st := st) (ss := ss) (z := z) (k := k) f17 hps hf t hu hE (edg_lt G hE).2 hdn hc
    have hdn1 : ∀ e ∈ dn ++ [(u, o, w)], e.1 = u := fun e he => by
      rcases List.mem_append.mp he with he | he
      · exact hdn e he
      · obtain rfl := List.mem_singleton.mp he; rfl
    obtain ⟨xs2, ps2, wl2, u11, u12, u13, u17, dn2, q11, q12, q13, q17, hps2, r2, t2, hc2, hsub, hall⟩ := k_ways G hf ds xs1 ps1 wl1 (.fz (.int k)) (.fz (.int o)) (.fz (.int w)) t17 _ (fun d hd2 => hd d (List.mem_cons_of_mem _ hd2)) .fz .fz .fz g17 hps1 t1 hu1 hdn1 (by omega)
    refine ⟨xs2, ps2, wl2, u11, u12, u13, u17, dn2, q11, q12, q13, q17, hps2, ?_, t2, by omega, fun e he => hsub e (List.mem_append_left _ he), fun k' o' w' h => ?_⟩
    · rw [for_c (Γ1 := kE n us st fl dss xs ps ss z R wl (.fz (.int k)) (.fz (.int o)) (.fz (.int w)) (.fz (.int u)) s17) (by rcases f11 with rfl | ⟨_, rfl⟩ <;> rcases f12 with rfl | ⟨_, rfl⟩ <;> rcases f13 with rfl | ⟨_, rfl⟩ <;> rfl) r]
      exact r2
    · rcases List.mem_cons.mp h with h | h
      · have h := D.tup.inj h
        simp at h
        obtain ⟨_, h2, rfl⟩ := h
        have h2 : o' = o := by omega
        subst h2
        exact hsub _ (List.mem_append_right _ (by simp))
      · exact hall k' o' w' h
end
end K29

set_option Elab.async false
set_option linter.all false
set_option maxRecDepth 100000
set_option maxHeartbeats 4000000
namespace K29
open PySem PySem.Spec PyProof.Rows L2 L2H XT GX RD SX PU
section
variable {n : Nt} {us : List Nat} {st fl : List Int} {dss : List (List D)} {s : Nat → Int}
/-- one turn of the inner while -/
theorem k_turn (G : Good n) (hds : dss.length = n.N ∧ ∀ v, v < n.N → dss[v]? = some (wy n us v)) {xs : List Int} {ps ss : List D} {z R : Int} {u : Nat} {wl : List Nat} {s11 s12 s13 s16 s17 : Sl} (h11 : FS s11) (h12 : FS s12) (h13 : FS s13) (h16 : FS s16) (h17 : FS s17) (hps : ps.length = n.N) (hss : ss.length = n.N) (hf : fl.length = n.N) (t : St (edg n us) (fnv fl) s n.N R xs (wl ++ [u]) (fun _ => False) []) (hc : cnt R xs + (wl ++ [u]).length ≤ 900) :
    ∃ xs' ps' ss' z' wl' s11' s12' s13' s16' s17', FS s11' ∧ FS s12' ∧ FS s13' ∧ FS s16' ∧ FS s17' ∧ ps'.length = n.N ∧ ss'.length = n.N ∧ b_flooded_8 (kE n us st fl dss xs ps ss z R (wl ++ [u]) s11 s12 s13 s16 s17) = .ok .nx (kE n us st fl dss xs' ps' ss' z' R wl' s11' s12' s13' s16' s17') ∧ St (edg n us) (fnv fl) s n.N R xs' wl' (fun _ => False) [] ∧ cnt R xs' + wl'.length + 1 = cnt R xs + (wl ++ [u]).length := by
  obtain ⟨huN, huR⟩ := t.wl_ u (by simp)
  have s9 : t_flooded_9 (kE n us st fl dss xs ps ss z R (wl ++ [u]) s11 s12 s13 s16 s17) = .ok .nx (kE n us st fl dss xs ps ss z R wl s11 s12 s13 (.fz (.int u)) s17) := by
    refine set_run (v := .fz (.int u)) (Γ1 := kE n us st fl dss xs ps ss z R wl s11 s12 s13 s16 s17) ?_ (by rcases h16 with rfl | ⟨_, rfl⟩ <;> rfl)
    have e : ((wl ++ [u]).map fun (k : Nat) => D.int k) = (wl.map fun (k : Nat) => D.int k) ++ [.int u] := by simp
    show mPop 10 _ = _
    unfold mPop
    have eo : ownAt (kE n us st fl dss xs ps ss z R (wl ++ [u]) s11 s12 s13 s16 s17) 10 = some (false, (wl.map fun (k : Nat) => D.int k) ++ [.int u]) := by rw [← e]; rfl
    rw [eo]
    simp only [List.length_append, List.length_singleton, Nat.add_sub_cancel, List.getElem?_concat_length, List.dropLast_concat]
    rfl
  have s10 : t_flooded_10 (kE n us st fl dss xs ps ss z R wl s11 s12 s13 (.fz (.int u)) s17) = .ok .nx (kE n us st fl dss xs ps (ss.set u (.int z)) z R wl s11 s12 s13 (.fz (.int u)) s17) :=
    ix_run (j := u) (v := .fz (.int z)) (k := (u : Nat)) rfl rfl rfl rfl rfl (ixN_nat (by omega)) rfl
  have s11' : t_flooded_11 (kE n us st fl dss xs ps (ss.set u (.int z)) z R wl s11 s12 s13 (.fz (.int u)) s17) = .ok .nx (kE n us st fl dss xs ps (ss.set u (.int z)) (z + 1) R wl s11 s12 s13 (.fz (.int u)) s17) := rfl
  have t0 : St (edg n us) (fnv fl) s n.N R xs wl (fun v => v = u) [] := ⟨t.len, t.gr, t.hi, fun e he h1 h2 h3 => t.at_ e he h1 (fun z => (List.mem_append.mp z).elim h2 fun q => h3 (by simpa using q)) id, fun e he => by simp at he, fun v hv => t.wl_ v (List.mem_append_left _ hv)⟩
  rw [List.length_append, List.length_singleton] at hc ⊢
  obtain ⟨xs2, ps2, wl2, t11, t12, t13, t17, dn, g11, g12, g13, g17, hps2, r, t2, hc2, _, hall⟩ := k_ways (st := st) (dss := dss) (ss := ss.set u (.int z)) (z := z + 1) G hf (wy n us u) xs ps wl s11 s12 s13 s17 [] (fun d hd => wy_mem hd) h11 h12 h13 h17 hps t0 huR (fun e he => by simp at he) (by omega)
  have s12' : t_flooded_12 (kE n us st fl dss xs ps (ss.set u (.int z)) (z + 1) R wl s11 s12 s13 (.fz (.int u)) s17) = .ok .nx (kE n us st fl dss xs2 ps2 (ss.set u (.int z)) (z + 1) R wl2 t11 t12 t13 (.fz (.int u)) t17) := by
    refine for_nx (items := wy n us u) (Γ1 := kE n us st fl dss xs ps (ss.set u (.int z)) (z + 1) R wl s11 s12 s13 (.fz (.int u)) s17) ?_ r
    have : mBin idxD (mVar 4) (mVar 16) (kE n us st fl dss xs ps (ss.set u (.int z)) (z + 1) R wl s11 s12 s13 (.fz (.int u)) s17) = .ok (.fz (.lst (wy n us u))) (kE n us st fl dss xs ps (ss.set u (.int z)) (z + 1) R wl s11 s12 s13 (.fz (.int u)) s17) := by
      refine bin_run (va := .fz (.lst (dss.map .lst))) (vb := .fz (.int u)) rfl rfl rfl rfl ?_
      show (atI (dss.map .lst) (u : Int)).map Vl.fz = _
      rw [PU.atI_nat (a := .lst (wy n us u)) (by rw [List.getElem?_map, hds.2 u huN]; rfl)]
      rfl
    show mIL _ _ = _
    unfold mIL
    rw [this]
    rfl
  refine ⟨xs2, ps2, _, _, wl2, t11, t12, t13, _, t17, g11, g12, g13, .fz, g17, hps2, by rw [List.length_set]; exact hss, sq s9 (sq s10 (sq s11' s12')), ?_, by omega⟩
  refine ⟨t2.len, t2.gr, t2.hi, fun e he h1 h2 _ => ?_, fun e he => by simp at he, t2.wl_⟩
  by_cases hu : e.1 = u
  · obtain ⟨k, hk⟩ := mem_wy he
    rw [hu] at hk
    have := t2.dn_ _ (hall k e.2.1 e.2.2 hk)
    rw [← hu] at this
    exact this
  · exact t2.at_ e he h1 h2 hu
theorem k_while (G : Good n) (hds : dss.length = n.N ∧ ∀ v, v < n.N → dss[v]? = some (wy n us v)) {R : Int} (hf : fl.length = n.N) : ∀ (M : Nat) (xs : List Int) (ps ss : List D) (z : Int) (wl : List Nat) (s11 s12 s13 s16 s17 : Sl), FS s11 → FS s12 → FS s13 → FS s16 → FS s17 → ps.length = n.N → ss.length = n.N → St (edg n us) (fnv fl) s n.N R xs wl (fun _ => False) [] → cnt R xs + wl.length ≤ 900 → wl.length + cnt R xs ≤ M →
    ∃ xs' ps' ss' z' s11' s12' s13' s16' s17', FS s11' ∧ FS s12' ∧ FS s13' ∧ FS s16' ∧ FS s17' ∧ ps'.length = n.N ∧ ss'.length = n.N ∧ mWhile (M + 1) c_flooded_8 b_flooded_8 (kE n us st fl dss xs ps ss z R wl s11 s12 s13 s16 s17) = .ok .nx (kE n us st fl dss xs' ps' ss' z' R [] s11' s12' s13' s16' s17') ∧ St (edg n us) (fnv fl) s n.N R xs' [] (fun _ => False) []
  | M, xs, ps, ss, z, wl, s11, s12, s13, s16, s17, h11, h12, h13, h16, h17, hps, hss, t, hc, hM => by
    have c : c_flooded_8 (kE n us st fl dss xs ps ss z R wl s11 s12 s13 s16 s17) = .ok (!wl.isEmpty) (kE n us st fl dss xs ps ss z R wl s11 s12 s13 s16 s17) := by
      cases wl <;> rfl
    rcases List.eq_nil_or_concat wl with rfl | ⟨w', u, rfl⟩
    · exact ⟨xs, ps, ss, z, s11, s12, s13, s16, s17, h11, h12, h13, h16, h17, hps, hss, whl_f c, t⟩
    · rw [List.concat_eq_append] at *
      obtain ⟨xs1, ps1, ss1, z1, wl1, t11, t12, t13, t16, t17, g11, g12, g13, g16, g17, hps1, hss1, r, t1, hc1⟩ := k_turn (st := st) (z := z) G hds h11 h12 h13 h16 h17 hps hss hf t hc
      cases M with
      | zero => rw [List.length_append, List.length_singleton] at hM; omega
      | succ M =>
        obtain ⟨xs2, ps2, ss2, z2, u11, u12, u13, u16, u17, q11, q12, q13, q16, q17, hps2, hss2, r2, t2⟩ := k_while G hds hf M xs1 ps1 ss1 z1 wl1 t11 t12 t13 t16 t17 g11 g12 g13 g16 g17 hps1 hss1 t1 (by omega) (by omega)
        refine ⟨xs2, ps2, ss2, z2, u11, u12, u13, u16, u17, q11, q12, q13, q16, q17, hps2, hss2, ?_, t2⟩
        rw [whl_t (c.trans (by simp)) r]
        exact r2
/-- the nodes at R, in sequence -/
def sel (R : Int) : List Int → Nat → List Nat
  | [], _ => []
  | x :: xs, k => if x = R then k :: sel R xs (k + 1) else sel R xs (k + 1)
theorem sel_mem {R : Int} : ∀ {xs : List Int} {k v : Nat}, v ∈ sel R xs k ↔ ∃ i, v = k + i ∧ xs[i]? = some R
  | [], k, v => by simp [sel]
  | x :: xs, k, v => by
    have ih := sel_mem (R := R) (xs := xs) (k := k + 1) (v := v)
    unfold sel
    constructor
    · intro h
      by_cases hx : x = R
      · rw [if_pos hx] at h
        rcases List.mem_cons.mp h with rfl | h
        · exact ⟨0, rfl, by rw [hx]; rfl⟩
        · obtain ⟨i, h1, h2⟩ := ih.mp h
          exact ⟨i + 1, by omega, by simpa using h2⟩
      · rw [if_neg hx] at h
        obtain ⟨i, h1, h2⟩ := ih.mp h
        exact ⟨i + 1, by omega, by simpa using h2⟩
    · rintro ⟨i, h1, h2⟩
      cases i with
      | zero =>
        have : x = R := by simpa using h2
        rw [if_pos this]
        exact List.mem_cons.mpr (.inl (by omega))
      | succ i =>
        have h3 := ih.mpr ⟨i, by omega, by simpa using h2⟩
        split
        · exact List.mem_cons_of_mem _ h3
        · exact h3
theorem sel_len {R : Int} : ∀ {xs : List Int} {k : Nat}, (sel R xs k).length ≤ xs.length
  | [], k => by simp [sel]
  | x :: xs, k => by
    have ih := sel_len (R := R) (xs := xs) (k := k + 1)
    unfold sel
    split <;> simp <;> omega
theorem sel_cnt {R : Int} : ∀ {xs : List Int} {k : Nat}, (sel R xs k).length + cnt R xs ≤ xs.length
  | [], k => by simp [sel, cnt]
  | x :: xs, k => by
    have ih := sel_cnt (R := R) (xs := xs) (k := k + 1)
    unfold cnt at *
    unfold sel
    rw [List.countP_cons]
    by_cases hx : x = R
    · rw [if_pos hx, if_neg (by simp; omega)]
      simp; omega
    · rw [if_neg hx]
      simp
      split <;> omega
abbrev kF (n : Nt) (us : List Nat) (st fl : List Int) (dss : List (List D)) (xs : List Int) (ps ss : List D) (z : Int) (s9 s10 s11 s12 s13 s16 s17 : Sl) : EV :=
  [.fz (netD n), .fz (uD us), .fz (iD st), .fz (iD fl), .fz (.lst (dss.map .lst)), oD xs, .ow false ps, .ow false ss, .fz (.int z), s9, s10, s11, s12, s13, .no, .no, s16, s17]
theorem k_sel {xs : List Int} {ps ss : List D} {z R : Int} {s10 s11 s12 s13 : Sl} : ∀ (rest : List Int) (k : Nat) (acc : List Nat), acc.length + rest.length ≤ 1000 →
    lcW 5 false (xs.map .int) (gT 2 (gsC (gN 16) (gsC (gN 17) gsN))) (mTest (mBin eqD (mVar 17) (mVar 9))) (mVar 16) [16, 17] (((rest.map D.int).zipIdx k).map fun p => .tup [.int (p.2 : Nat), p.1]) (acc.map fun (k : Nat) => .int k) (kF n us st fl dss xs ps ss z (.fz (.int R)) s10 s11 s12 s13 .no .no) =
      .ok (.ow ((acc ++ sel R rest k).map fun (k : Nat) => .int k)) (kF n us st fl dss xs ps ss z (.fz (.int R)) s10 s11 s12 s13 .no .no)
  | [], k, acc, h => by
    unfold sel
    rw [List.append_nil]
    show lcW _ _ _ _ _ _ _ [] _ _ = _
    unfold lcW
    have hchk : (kF n us st fl dss xs ps ss z (.fz (.int R)) s10 s11 s12 s13 .no .no)[5]? = some (.ow false (xs.map .int)) := rfl
    rw [if_pos hchk]
  | x :: rest, k, acc, h => by
    rw [List.length_cons] at h
    have ih := k_sel (xs := xs) (ps := ps) (ss := ss) (z := z) (R := R) (s10 := s10) (s11 := s11) (s12 := s12) (s13 := s13) rest (k + 1)
    rw [List.map_cons, List.zipIdx_cons, List.map_cons]
    have hl : (acc.map fun (k : Nat) => D.int k).length < sizeLine := by rw [List.length_map]; unfold sizeLine; omega
    have e1 : gT 2 (gsC (gN 16) (gsC (gN 17) gsN)) (.tup [.int (k : Nat), .int x]) (kF n us st fl dss xs ps ss z (.fz (.int R)) s10 s11 s12 s13 .no .no) = some (kF n us st fl dss xs ps ss z (.fz (.int R)) s10 s11 s12 s13 (.fz (.int (k : Nat))) (.fz (.int x))) := rfl
    have e2 : mTest (mBin eqD (mVar 17) (mVar 9)) (kF n us st fl dss xs ps ss z (.fz (.int R)) s10 s11 s12 s13 (.fz (.int (k : Nat))) (.fz (.int x))) = .ok (decide (x = R)) (kF n us st fl dss xs ps ss z (.fz (.int R)) s10 s11 s12 s13 (.fz (.int (k : Nat))) (.fz (.int x))) := eq_run rfl rfl
    have e3 : mVar 16 (kF n us st fl dss xs ps ss z (.fz (.int R)) s10 s11 s12 s13 (.fz (.int (k : Nat))) (.fz (.int x))) = .ok (.fz (.int (k : Nat))) (kF n us st fl dss xs ps ss z (.fz (.int R)) s10 s11 s12 s13 (.fz (.int (k : Nat))) (.fz (.int x))) := rfl
    have e4 : wipeE (kF n us st fl dss xs ps ss z (.fz (.int R)) s10 s11 s12 s13 (.fz (.int (k : Nat))) (.fz (.int x))) [16, 17] = kF n us st fl dss xs ps ss z (.fz (.int R)) s10 s11 s12 s13 .no .no := rfl
    have hchk : (kF n us st fl dss xs ps ss z (.fz (.int R)) s10 s11 s12 s13 .no .no)[5]? = some (.ow false (xs.map .int)) := rfl
    have e5 : sel R (x :: rest) k = if x = R then k :: sel R rest (k + 1) else sel R rest (k + 1) := rfl
    rw [e5]
    conv => lhs; unfold lcW
    rw [if_pos hchk]
    simp only [e1, e2, Out.nr_ok, Out.bind_ok]
    by_cases hx : x = R
    · rw [decide_eq_true hx, if_pos rfl, if_pos hx]
      simp only [e3, Out.nr_ok, Out.bind_ok, Vl.op, cool, if_pos hl, e4]
      have := ih (acc ++ [k]) (by rw [List.length_append, List.length_singleton]; omega)
      rw [List.map_append] at this
      rw [show acc ++ k :: sel R rest (k + 1) = acc ++ [k] ++ sel R rest (k + 1) by simp]
      exact this
    · rw [decide_eq_false hx, if_neg hx]
      simp only [if_neg (by decide : ¬ (false = true)), e4]
      exact ih acc (by omega)
/-- one rank -/
theorem k_rank (G : Good n) (hds : dss.length = n.N ∧ ∀ v, v < n.N → dss[v]? = some (wy n us v)) {xs : List Int} {ps ss : List D} {z R : Int} {s10 s11 s12 s13 s16 s17 : Sl} (h10 : FS s10 ∨ ∃ ds, s10 = .ow false ds) (h11 : FS s11) (h12 : FS s12) (h13 : FS s13) (hps : ps.length = n.N) (hss : ss.length = n.N) (hf : fl.length = n.N) (hx : xs.length = n.N) (gr : WID.Grows (edg n us) (fnv fl) s (fnv xs)) (hi : ∀ e ∈ edg n us, R < fnv xs e.1 → Ng (fnv fl) (fnv xs) e) :
    ∃ xs' ps' ss' z' s10' s11' s12' s13' s16' s17', (∃ ds, s10' = .ow false ds) ∧ FS s11' ∧ FS s12' ∧ FS s13' ∧ FS s16' ∧ FS s17' ∧ ps'.length = n.N ∧ ss'.length = n.N ∧ b_flooded_6 (kF n us st fl dss xs ps ss z (.fz (.int R)) s10 s11 s12 s13 s16 s17) = .ok .nx (kF n us st fl dss xs' ps' ss' z' (.fz (.int R)) s10' s11' s12' s13' s16' s17') ∧ xs'.length = n.N ∧ WID.Grows (edg n us) (fnv fl) s (fnv xs') ∧ ∀ e ∈ edg n us, R - 1 < fnv xs' e.1 → Ng (fnv fl) (fnv xs') e := by
  have hN : n.N ≤ 36 := by have := G.f12; have := G.t24; show n.F + n.T ≤ 36; omega
  have s7 : t_flooded_7 (kF n us st fl dss xs ps ss z (.fz (.int R)) s10 s11 s12 s13 s16 s17) = .ok .nx (kE n us st fl dss xs ps ss z R (sel R xs 0) s11 s12 s13 .no .no) := by
    refine set_run (v := .ow ((sel R xs 0).map fun (k : Nat) => .int k)) (Γ1 := kF n us st fl dss xs ps ss z (.fz (.int R)) s10 s11 s12 s13 .no .no) ?_ (by rcases h10 with (rfl | ⟨_, rfl⟩) | ⟨_, rfl⟩ <;> rfl)
    show mLcW _ _ _ _ _ _ _ = _
    unfold mLcW
    have eo : ownAt (kF n us st fl dss xs ps ss z (.fz (.int R)) s10 s11 s12 s13 s16 s17) 5 = some (false, xs.map .int) := rfl
    rw [eo]
    have := k_sel (n := n) (us := us) (st := st) (fl := fl) (dss := dss) (xs := xs) (ps := ps) (ss := ss) (z := z) (R := R) (s10 := s10) (s11 := s11) (s12 := s12) (s13 := s13) xs 0 [] (by simp; omega)
    rw [List.nil_append] at this
    exact this
  have t : St (edg n us) (fnv fl) s n.N R xs (sel R xs 0) (fun _ => False) [] := ⟨hx, gr, hi, fun e he h1 h2 _ => (h2 (sel_mem.mpr ⟨e.1, by omega, by rw [fn_at (by rw [hx]; exact (edg_lt G he).1), h1]⟩)).elim, fun e he => by simp at he, fun v hv => by
    obtain ⟨i, h1, h2⟩ := sel_mem.mp hv
    have h1 : v = i := by omega
    subst h1
    have h3 := lt_of_get h2
    rw [fn_at h3] at h2
    exact ⟨by omega, Option.some.inj h2⟩⟩
  have hcn := sel_cnt (R := R) (xs := xs) (k := 0)
  obtain ⟨xs', ps', ss', z', t11, t12, t13, t16, t17, g11, g12, g13, g16, g17, hps', hss', r, t'⟩ := k_while (st := st) G hds hf 900 xs ps ss z (sel R xs 0) s11 s12 s13 .no .no h11 h12 h13 FS.no FS.no hps hss t (by omega) (by omega)
  refine ⟨xs', ps', ss', z', .ow false [], t11, t12, t13, t16, t17, ⟨_, rfl⟩, g11, g12, g13, g16, g17, hps', hss', sq s7 (mWhl_eq r (by simp)), t'.len, t'.gr, fun e he h => ?_⟩
  by_cases h2 : R < fnv xs' e.1
  · exact t'.hi e he h2
  · exact t'.at_ e he (by omega) (by simp) id
theorem zip_ini {st fl : List Int} {f : D → D} (hf : ∀ a b : Int, f (.tup [.int a, .int b]) = .int (if b ≤ a then a else 0)) : (zipD (st.map .int) (fl.map .int)).map f = (ini st fl).map .int := by
  unfold zipD ini
  induction st generalizing fl with
  | nil => rfl
  | cons a st ih =>
    cases fl with
    | nil => rfl
    | cons b fl =>
      simp only [List.map_cons, List.zip_cons_cons, List.zipWith_cons_cons, hf]
      congr 1
      exact ih
theorem rep_len {N : Nat} {d : D} : (List.replicate N [d]).flatten.length = N := by
  induction N with
  | zero => rfl
  | succ N ih => rw [List.replicate_succ, List.flatten_cons, List.length_append, ih]; simp; omega
theorem mul_rep {d : D} {N : Nat} (h : N ≤ 1000) : mulD (.lst [d]) (.int (N : Nat)) = some (.ow (List.replicate N [d]).flatten) := by
  simp only [mulD]
  rw [if_pos ⟨by omega, by omega, by unfold sizeLine; simp; omega⟩]
  simp
theorem z_flooded (G : Good n) (hus : ∀ k ∈ us, k < n.rows.length) (hul : us.length ≤ 60) (hst : st.length = n.N) (hf : fl.length = n.N) (hs : ∀ x ∈ st, 0 ≤ x ∧ x ≤ 11) :
    ∃ xs a b, m_flooded [netD n, uD us, iD st, iD fl] = .ok (.fz (.tup [iD xs, a, b])) [.no, .no, .no, .no] ∧ xs.length = n.N ∧ WID.Grows (edg n us) (fnv fl) (fnv (ini st fl)) (fnv xs) ∧ WID.Closed (edg n us) (fnv fl) (fnv xs) := by
  have hN : n.N ≤ 36 := by have := G.f12; have := G.t24; show n.F + n.T ≤ 36; omega
  obtain ⟨i0, i1⟩ := ini_ok (st := st) (fl := fl) (by omega) hs
  have hil : (ini st fl).length = n.N := by rw [ini_len (by omega)]; exact hst
  obtain ⟨dss, rw_, hds⟩ := z_ways G hus hul
  let Γ0 : EV := [.fz (netD n), .fz (uD us), .fz (iD st), .fz (iD fl), .no, .no, .no, .no, .no, .no, .no, .no, .no, .no, .no, .no, .no, .no]
  let Γ1 : EV := [.fz (netD n), .fz (uD us), .fz (iD st), .fz (iD fl), .fz (.lst (dss.map .lst)), .no, .no, .no, .no, .no, .no, .no, .no, .no, .no, .no, .no, .no]
  let Γ2 : EV := [.fz (netD n), .fz (uD us), .fz (iD st), .fz (iD fl), .fz (.lst (dss.map .lst)), oD (ini st fl), .no, .no, .no, .no, .no, .no, .no, .no, .no, .no, .no, .no]
  have s1 : t_flooded_1 Γ0 = .ok .nx Γ1 := set_run (v := .fz (.lst (dss.map .lst))) (call2 (F := m_ways_over) rfl rfl rw_) rfl
  have s2 : t_flooded_2 Γ1 = .ok .nx Γ2 := by
    refine set_run (v := .ow ((ini st fl).map .int)) (Γ1 := Γ1) ?_ rfl
    have := lc_run (g := gT 2 (gsC (gN 14) (gsC (gN 15) gsN))) (me := mIf (mTest (mBin geD (mVar 14) (mVar 15))) (mVar 14) (mC (.int 0))) (vs := [14, 15]) (f := fun d => match d with
      | .tup [.int a, .int b] => .int (if b ≤ a then a else 0)
      | d => d) (Γ := Γ1) (items := zipD (st.map .int) (fl.map .int)) (acc := []) (by unfold zipD; rw [List.length_map, List.length_zip]; simp; omega) (fun d hd => by
        obtain ⟨k, hk⟩ := List.mem_iff_getElem?.mp hd
        obtain ⟨x, y, h1, h2, rfl⟩ := zipD_at hk
        rw [List.getElem?_map] at h1 h2
        obtain ⟨a, _, rfl⟩ := Option.map_eq_some_iff.mp h1
        obtain ⟨b, _, rfl⟩ := Option.map_eq_some_iff.mp h2
        refine ⟨(Γ1.set 14 (.fz (.int a))).set 15 (.fz (.int b)), (Γ1.set 14 (.fz (.int a))).set 15 (.fz (.int b)), rfl, ?_, rfl⟩
        have c := ge_run (a := mVar 14) (b := mVar 15) (i := a) (j := b) (Γ := (Γ1.set 14 (.fz (.int a))).set 15 (.fz (.int b))) rfl rfl
        show mIf _ _ _ _ = _
        unfold mIf
        rw [c, Out.bind_ok]
        by_cases h : b ≤ a
        · rw [decide_eq_true h]
          show _ = Out.ok (Vl.fz (D.int (if b ≤ a then a else 0))) _
          rw [if_pos h]; rfl
        · rw [decide_eq_false h]
          show _ = Out.ok (Vl.fz (D.int (if b ≤ a then a else 0))) _
          rw [if_neg h]; rfl)
    rw [List.nil_append, zip_ini (fun a b => rfl)] at this
    show (mIZ _ Γ1).bind _ = _
    have e2 : mIZ (mCons (mVar 2) (mCons (mVar 3) mNil)) Γ1 = .ok (zipD (st.map .int) (fl.map .int)) Γ1 := rfl
    rw [e2, Out.bind_ok]
    exact this
  have rep : ∀ (d : D) (m : ME) (Γ : EV), mLst (mCons m mNil) Γ = .ok (.ow [d]) Γ → Γ[5]? = some (oD (ini st fl)) → mBin mulD (mLst (mCons m mNil)) (mFn lenD (mCons (mVar 5) mNil)) Γ = .ok (.ow (List.replicate n.N [d]).flatten) Γ := fun d m Γ h h5 => by
    have hv : mVar 5 Γ = .ok (.bw 5) Γ := by unfold mVar; rw [h5]
    have hp : peek Γ (Vl.op (.bw 5)) = some (.lst ((ini st fl).map .int)) := by show peek Γ (.bw 5) = _; unfold peek; simp only [h5]
    refine bin_run (va := .ow [d]) (vb := .fz (.int n.N)) h (fn1_run hv hp (by unfold lenD; simp [hil])) rfl rfl ?_
    exact mul_rep (by omega)
  have s3 : t_flooded_3 Γ2 = .ok .nx (Γ2.set 6 (.ow false (List.replicate n.N [.int (-1)]).flatten)) := set_run (rep (.int (-1)) _ Γ2 rfl rfl) rfl
  have s4 : t_flooded_4 (Γ2.set 6 (.ow false (List.replicate n.N [.int (-1)]).flatten)) = .ok .nx ((Γ2.set 6 (.ow false (List.replicate n.N [.int (-1)]).flatten)).set 7 (.ow false (List.replicate n.N [.int 0]).flatten)) := set_run (rep (.int 0) _ _ rfl rfl) rfl
  have s5 : t_flooded_5 ((Γ2.set 6 (.ow false (List.replicate n.N [.int (-1)]).flatten)).set 7 (.ow false (List.replicate n.N [.int 0]).flatten)) = .ok .nx (kF n us st fl dss (ini st fl) (List.replicate n.N [.int (-1)]).flatten (List.replicate n.N [.int 0]).flatten 0 .no .no .no .no .no .no .no) := rfl
  obtain ⟨Γ', e, hI⟩ := for_run (g := g_flooded_6) (b := b_flooded_6) (items := rngC 11 (-1) 11)
    (fun j Γ => ∃ xs ps ss z s9 s10 s11 s12 s13 s16 s17, FS s9 ∧ (FS s10 ∨ ∃ ds, s10 = .ow false ds) ∧ FS s11 ∧ FS s12 ∧ FS s13 ∧ ps.length = n.N ∧ ss.length = n.N ∧ Γ = kF n us st fl dss xs ps ss z s9 s10 s11 s12 s13 s16 s17 ∧ xs.length = n.N ∧ WID.Grows (edg n us) (fnv fl) (fnv (ini st fl)) (fnv xs) ∧ ∀ e ∈ edg n us, 11 - (j : Int) < fnv xs e.1 → Ng (fnv fl) (fnv xs) e)
    (fun j d hj Γ hI => by
      obtain ⟨xs, ps, ss, z, s9, s10, s11, s12, s13, s16, s17, f9, f10, f11, f12, f13, hps, hss, rfl, hx, gr, hi⟩ := hI
      unfold rngC at hj
      rw [List.getElem?_map] at hj
      obtain ⟨i, hi2, rfl⟩ := Option.map_eq_some_iff.mp hj
      obtain ⟨h1, h2⟩ := List.getElem?_eq_some_iff.mp hi2
      rw [List.getElem_range] at h2
      subst h2
      have eR : (11 : Int) + (j : Nat) * (-1) = 11 - (j : Int) := by omega
      rw [eR]
      obtain ⟨xs', ps', ss', z', t10, t11, t12, t13, t16, t17, g10, g11, g12, g13, g16, g17, hps', hss', r, hx', gr', hi'⟩ := k_rank (st := st) (s16 := s16) (s17 := s17) (z := z) G hds f10 f11 f12 f13 hps hss hf hx gr hi
      refine ⟨kF n us st fl dss xs ps ss z (.fz (.int (11 - (j : Int)))) s10 s11 s12 s13 s16 s17, _, by rcases f9 with rfl | ⟨_, rfl⟩ <;> rfl, r, xs', ps', ss', z', _, t10, t11, t12, t13, t16, t17, .fz, .inr g10, g11, g12, g13, hps', hss', rfl, hx', gr', fun e he h => hi' e he (by omega)⟩)
    (Γ := kF n us st fl dss (ini st fl) (List.replicate n.N [.int (-1)]).flatten (List.replicate n.N [.int 0]).flatten 0 .no .no .no .no .no .no .no)
    ⟨_, _, _, _, _, _, _, _, _, _, _, FS.no, .inl FS.no, FS.no, FS.no, FS.no, rep_len, rep_len, rfl, hil, .refl, fun e he h => by
      have := i1 e.1
      omega⟩
  obtain ⟨xs, ps, ss, z, s9, s10, s11, s12, s13, s16, s17, f9, f10, f11, f12, f13, hps, hss, rfl, hx, gr, hi⟩ := hI
  have s6 : t_flooded_6 (kF n us st fl dss (ini st fl) (List.replicate n.N [.int (-1)]).flatten (List.replicate n.N [.int 0]).flatten 0 .no .no .no .no .no .no .no) = .ok .nx (kF n us st fl dss xs ps ss z s9 s10 s11 s12 s13 s16 s17) := for_nx (items := rngC 11 (-1) 11) rfl e
  refine ⟨xs, .tup ps, .tup ss, run_rt (v := .fz (.tup [iD xs, .tup ps, .tup ss])) (Γ' := kF n us st fl dss xs ps ss z s9 s10 s11 s12 s13 s16 s17) rfl ?_ rfl, hx, gr, fun e he lt => ?_⟩
  · show bd_flooded Γ0 = _
    rw [bq_flooded]
    refine sq s1 (sq s2 (sq s3 (sq s4 (sq s5 (sq s6 (ret_run ?_))))))
    have a1 : mFn tupD (mCons (mVar 5) mNil) (kF n us st fl dss xs ps ss z s9 s10 s11 s12 s13 s16 s17) = .ok (.fz (iD xs)) (kF n us st fl dss xs ps ss z s9 s10 s11 s12 s13 s16 s17) := fn1_run (v := .bw 5) rfl rfl rfl
    have a2 : mFn tupD (mCons (mVar 6) mNil) (kF n us st fl dss xs ps ss z s9 s10 s11 s12 s13 s16 s17) = .ok (.fz (.tup ps)) (kF n us st fl dss xs ps ss z s9 s10 s11 s12 s13 s16 s17) := fn1_run (v := .bw 6) rfl rfl rfl
    have a3 : mFn tupD (mCons (mVar 7) mNil) (kF n us st fl dss xs ps ss z s9 s10 s11 s12 s13 s16 s17) = .ok (.fz (.tup ss)) (kF n us st fl dss xs ps ss z s9 s10 s11 s12 s13 s16 s17) := fn1_run (v := .bw 7) rfl rfl rfl
    show mTup _ _ = _
    unfold mTup
    rw [cons_run a1 (cons_run a2 (cons_run a3 (nil_run _)))]
    rfl
  · have h11 : (rngC 11 (-1) 11).length = 11 := rfl
    rw [h11] at hi
    by_cases h0 : 0 < fnv xs e.1
    · exact hi e he (by simpa using h0) lt
    · exfalso
      have := gr.above e.2.1
      have := i0 e.2.1
      unfold WID.gain at lt
      omega
end
end K29

set_option Elab.async false
set_option linter.all false
set_option maxRecDepth 100000
set_option maxHeartbeats 4000000
namespace K29
open PySem PySem.Spec PyProof.Rows L2 L2H XT GX RD SX PU
section
variable {F : MF} {Γ Γ1 Γ2 Γ3 Γ4 : EV} {m1 m2 m3 m4 : ME} {a b c d : D} {r : Vl} {x : Er}
theorem call4 (h1 : m1 Γ = .ok (.fz a) Γ1) (h2 : m2 Γ1 = .ok (.fz b) Γ2) (h3 : m3 Γ2 = .ok (.fz c) Γ3) (h4 : m4 Γ3 = .ok (.fz d) Γ4) (e : F [a, b, c, d] = .ok r [.no, .no, .no, .no]) : mCall [false, false, false, false] F (mCons m1 (mCons m2 (mCons m3 (mCons m4 mNil)))) Γ = .ok r Γ4 := by
  simp [h1, h2, h3, h4, e, runF, initE, mRet, mRetN, mAnd, mOr, mNot, mCall, mCallK, gp, mCons, mNil, mVar, mC, doCall, coolA, cool, Vl.op, dsOf, ixs, putOuts, put1, putO, endF, outsOf, mChain, mBin, mTest, mTru, truD, mAndT, mOrT, mNotT, mIf, mIfS, mSeq, mSet, setV, freeAt, mExpr, mSkip, mFn, peeks, peek, mIsi, tyD, isiB, lenD, leD, ltD, gtD, geD, cmpI, addD, subD, mTup, mLst, cools, mRaise, mNeg, idxD, eqD, neD, eqB, ownAt, mYes]
theorem call4x (h1 : m1 Γ = .ok (.fz a) Γ1) (h2 : m2 Γ1 = .ok (.fz b) Γ2) (h3 : m3 Γ2 = .ok (.fz c) Γ3) (h4 : m4 Γ3 = .ok (.fz d) Γ4) (e : F [a, b, c, d] = .rz x) : mCall [false, false, false, false] F (mCons m1 (mCons m2 (mCons m3 (mCons m4 mNil)))) Γ = .rz x Γ4 := by
  simp [h1, h2, h3, h4, e, wipeE, runF, initE, mRet, mRetN, mAnd, mOr, mNot, mCall, mCallK, gp, mCons, mNil, mVar, mC, doCall, coolA, cool, Vl.op, dsOf, ixs, putOuts, put1, putO, endF, outsOf, mChain, mBin, mTest, mTru, truD, mAndT, mOrT, mNotT, mIf, mIfS, mSeq, mSet, setV, freeAt, mExpr, mSkip, mFn, peeks, peek, mIsi, tyD, isiB, lenD, leD, ltD, gtD, geD, cmpI, addD, subD, mTup, mLst, cools, mRaise, mNeg, idxD, eqD, neD, eqB, ownAt, mYes]
theorem call4K (h1 : m1 Γ = .ok (.fz d) Γ1) (h2 : m2 Γ1 = .ok (.fz c) Γ2) (h3 : m3 Γ2 = .ok (.fz b) Γ3) (h4 : m4 Γ3 = .ok (.fz a) Γ4) (e : F [a, b, c, d] = .ok r [.no, .no, .no, .no]) : mCallK [3, 2, 1, 0] [false, false, false, false] F (mCons m1 (mCons m2 (mCons m3 (mCons m4 mNil)))) Γ = .ok r Γ4 := by
  simp [h1, h2, h3, h4, e, runF, initE, mRet, mRetN, mAnd, mOr, mNot, mCall, mCallK, gp, mCons, mNil, mVar, mC, doCall, coolA, cool, Vl.op, dsOf, ixs, putOuts, put1, putO, endF, outsOf, mChain, mBin, mTest, mTru, truD, mAndT, mOrT, mNotT, mIf, mIfS, mSeq, mSet, setV, freeAt, mExpr, mSkip, mFn, peeks, peek, mIsi, tyD, isiB, lenD, leD, ltD, gtD, geD, cmpI, addD, subD, mTup, mLst, cools, mRaise, mNeg, idxD, eqD, neD, eqB, ownAt, mYes]
end
/-! ### flood -/
def okU (n : Nt) : D → Bool
  | .tup ds => lotT ds && ds.all (btw 0 (n.rows.length - 1))
  | _ => false
theorem isLot_tup {d : D} (h : isLot d = true) : ∃ ds, d = .tup ds := by
  cases d <;> first | exact ⟨_, rfl⟩ | cases h
theorem req_run {Γ Γ1 : EV} {m : ME} {k : Bool} {w : Str} (h : m Γ = .ok (.fz (.bl k)) Γ1) : mExpr (mCall io_require m_require (mCons m (mCons (mC (.str w)) mNil))) Γ = if k = true then .ok .nx Γ1 else .rz (NU w) Γ1 := by
  cases k with
  | true => exact exp_run (call2 (F := m_require) (a := .bl true) (b := .str w) h rfl (z_require true w))
  | false => exact exp_rz (call2x (F := m_require) (a := .bl false) (b := .str w) h rfl (z_require false w))
theorem f_one {n : Nt} {u s f : D} (hl : ∀ ds, u = .tup ds → ds.length < 1000) : t_flood_1 [.fz (netD n), .fz u, .fz s, .fz f, .no] = if okU n u = true then .ok .nx [.fz (netD n), .fz u, .fz s, .fz f, .no] else .rz (NU "usable") [.fz (netD n), .fz u, .fz s, .fz f, .no] := by
  refine req_run ?_
  have h1 : mCall io_is_lot m_is_lot (mCons (mVar 1) mNil) [.fz (netD n), .fz u, .fz s, .fz f, .no] = .ok (.fz (.bl (isLot u))) [.fz (netD n), .fz u, .fz s, .fz f, .no] := call1 rfl (z_is_lot u hl)
  unfold mAnd
  rw [h1, Out.bind_ok]
  cases hb : isLot u with
  | false =>
    have : okU n u = false := by
      cases u with
      | tup ds => show (lotT ds && _) = false; rw [show lotT ds = false from hb]; rfl
      | _ => rfl
    rw [this]
    rfl
  | true =>
    obtain ⟨ds, rfl⟩ := isLot_tup hb
    have e : okU n (.tup ds) = ds.all (btw 0 (n.rows.length - 1)) := by show (lotT ds && _) = _; rw [show lotT ds = true from hb, Bool.true_and]
    rw [e]
    have g : mGAll false (mIT (mVar 1)) (gN 4) mYes (mCall io_is_switch_of m_is_switch_of (mCons (mVar 0) (mCons (mVar 4) mNil))) [4] [.fz (netD n), .fz (.tup ds), .fz s, .fz f, .no] = .ok (.fz (.bl (ds.all (btw 0 (n.rows.length - 1))))) [.fz (netD n), .fz (.tup ds), .fz s, .fz f, .no] := by
      show (mIT (mVar 1) [.fz (netD n), .fz (.tup ds), .fz s, .fz f, .no]).bind _ = _
      rw [show mIT (mVar 1) [.fz (netD n), .fz (.tup ds), .fz s, .fz f, .no] = .ok ds [.fz (netD n), .fz (.tup ds), .fz s, .fz f, .no] from rfl, Out.bind_ok]
      exact all_run fun d _ => ⟨[.fz (netD n), .fz (.tup ds), .fz s, .fz f, .fz d], [.fz (netD n), .fz (.tup ds), .fz s, .fz f, .fz d], rfl, call2 (F := m_is_switch_of) rfl rfl (z_is_switch n d), rfl⟩
    exact g
theorem f_two {n : Nt} {u s f : D} : t_flood_2 [.fz (netD n), .fz u, .fz s, .fz f, .no] = if numsB n 11 s = true then .ok .nx [.fz (netD n), .fz u, .fz s, .fz f, .no] else .rz (NU "starts") [.fz (netD n), .fz u, .fz s, .fz f, .no] :=
  req_run (call3 (F := m_are_numbers) rfl rfl rfl (z_nums n s 11))
theorem f_three {n : Nt} {u s f : D} : t_flood_3 [.fz (netD n), .fz u, .fz s, .fz f, .no] = if numsB n 12 f = true then .ok .nx [.fz (netD n), .fz u, .fz s, .fz f, .no] else .rz (NU "floors") [.fz (netD n), .fz u, .fz s, .fz f, .no] :=
  req_run (call3 (F := m_are_numbers) rfl rfl rfl (z_nums n f 12))
theorem z_flood_1 {n : Nt} {u s f : D} (hl : ∀ ds, u = .tup ds → ds.length < 1000) (h : okU n u = false) : m_flood [netD n, u, s, f] = .rz (NU "usable") := by
  refine run_rz (Γ' := [.fz (netD n), .fz u, .fz s, .fz f, .no]) rfl ?_
  show bd_flood [.fz (netD n), .fz u, .fz s, .fz f, .no] = _
  rw [bq_flood]
  exact seq_rz ((f_one hl).trans (by rw [h]; rfl))
theorem z_flood_2 {n : Nt} {u s f : D} (hl : ∀ ds, u = .tup ds → ds.length < 1000) (h : okU n u = true) (h2 : numsB n 11 s = false) : m_flood [netD n, u, s, f] = .rz (NU "starts") := by
  refine run_rz (Γ' := [.fz (netD n), .fz u, .fz s, .fz f, .no]) rfl ?_
  show bd_flood [.fz (netD n), .fz u, .fz s, .fz f, .no] = _
  rw [bq_flood]
  exact sq ((f_one hl).trans (by rw [h]; rfl)) (seq_rz (f_two.trans (by rw [h2]; rfl)))
theorem z_flood_3 {n : Nt} {u s f : D} (hl : ∀ ds, u = .tup ds → ds.length < 1000) (h : okU n u = true) (h2 : numsB n 11 s = true) (h3 : numsB n 12 f = false) : m_flood [netD n, u, s, f] = .rz (NU "floors") := by
  refine run_rz (Γ' := [.fz (netD n), .fz u, .fz s, .fz f, .no]) rfl ?_
  show bd_flood [.fz (netD n), .fz u, .fz s, .fz f, .no] = _
  rw [bq_flood]
  exact sq ((f_one hl).trans (by rw [h]; rfl)) (sq (f_two.trans (by rw [h2]; rfl)) (seq_rz (f_three.trans (by rw [h3]; rfl))))
/-- a good question -/
structure Ask (n : Nt) (us : List Nat) (st fl : List Int) : Prop where
  us_ : ∀ k ∈ us, k < n.rows.length
  asc : us.Pairwise (· < ·)
  ul : us.length ≤ 60
  sl : st.length = n.N
  fl_ : fl.length = n.N
  s11 : ∀ x ∈ st, 0 ≤ x ∧ x ≤ 11
  f12 : ∀ x ∈ fl, 0 ≤ x ∧ x ≤ 12
theorem Ask.u {n : Nt} {us : List Nat} {st fl : List Int} (A : Ask n us st fl) : okU n (uD us) = true := by
  show (lotT (us.map fun (k : Nat) => D.int k) && (us.map fun (k : Nat) => D.int k).all (btw 0 (n.rows.length - 1))) = true
  rw [Bool.and_eq_true]
  constructor
  · unfold lotT
    rw [Bool.and_eq_true]
    refine ⟨List.all_eq_true.mpr fun d hd => ?_, List.all_eq_true.mpr fun d hd => ?_⟩
    · obtain ⟨k, _, rfl⟩ := List.mem_map.mp hd
      show decide ((0 : Int) ≤ k) = true
      exact decide_eq_true (by omega)
    · obtain ⟨i, hi⟩ := List.mem_iff_getElem?.mp hd
      obtain ⟨x, y, h1, h2, rfl⟩ := zipD_at hi
      rw [List.getElem?_drop] at h2
      rw [List.getElem?_map] at h1 h2
      obtain ⟨a, ha, rfl⟩ := Option.map_eq_some_iff.mp h1
      obtain ⟨b, hb, rfl⟩ := Option.map_eq_some_iff.mp h2
      obtain ⟨l1, e1⟩ := List.getElem?_eq_some_iff.mp ha
      obtain ⟨l2, e2⟩ := List.getElem?_eq_some_iff.mp hb
      have := List.pairwise_iff_getElem.mp A.asc i (1 + i) l1 l2 (by omega)
      rw [e1, e2] at this
      show decide ((a : Int) < b) = true
      exact decide_eq_true (by omega)
  · refine List.all_eq_true.mpr fun d hd => ?_
    obtain ⟨k, hk, rfl⟩ := List.mem_map.mp hd
    have := A.us_ k hk
    exact btw_t (by omega) (by omega)
theorem nums_t {n : Nt} {xs : List Int} {b : Int} (hl : xs.length = n.N) (h : ∀ x ∈ xs, 0 ≤ x ∧ x ≤ b) : numsB n b (iD xs) = true := by
  show (decide ((xs.map D.int).length = n.N) && (xs.map D.int).all (btw 0 b)) = true
  rw [List.length_map, decide_eq_true hl, Bool.true_and]
  refine List.all_eq_true.mpr fun d hd => ?_
  obtain ⟨x, hx, rfl⟩ := List.mem_map.mp hd
  exact btw_t (h x hx).1 (h x hx).2
theorem u_len {us : List Nat} (h : us.length ≤ 60) : ∀ ds, uD us = .tup ds → ds.length < 1000 := fun ds e => by
  cases e
  rw [List.length_map]; omega
/-- flood gives what widening gives -/
theorem z_flood {n : Nt} {us : List Nat} {st fl : List Int} (G : Good n) (A : Ask n us st fl) : ∃ xs, m_flood [netD n, uD us, iD st, iD fl] = .ok (.fz (iD xs)) [.no, .no, .no, .no] ∧ m_l_widened [netD n, uD us, iD st, iD fl] = .ok (.fz (iD xs)) [.no, .no, .no, .no] ∧ xs.length = n.N ∧ ∀ x ∈ xs, 0 ≤ x ∧ x ≤ 11 := by
  obtain ⟨xs, a, b, e, hx, g, c⟩ := z_flooded G A.us_ A.ul A.sl A.fl_ A.s11
  obtain ⟨ys, e2, hy, g2, c2⟩ := z_widened G A.us_ A.sl A.fl_ A.s11
  have : xs = ys := fn_ext (by omega) (g.one g2 c c2)
  subst this
  obtain ⟨i0, i1⟩ := ini_ok (st := st) (fl := fl) (by rw [A.sl, A.fl_]) A.s11
  refine ⟨xs, ?_, e2, hx, fun x hx2 => ?_⟩
  · refine run_rt (v := .fz (iD xs)) (Γ' := [.fz (netD n), .fz (uD us), .fz (iD st), .fz (iD fl), .no]) rfl ?_ rfl
    show bd_flood [.fz (netD n), .fz (uD us), .fz (iD st), .fz (iD fl), .no] = _
    rw [bq_flood]
    refine sq ((f_one (u_len A.ul)).trans (by rw [A.u]; rfl)) (sq (f_two.trans (by rw [nums_t A.sl A.s11]; rfl)) (sq (f_three.trans (by rw [nums_t A.fl_ A.f12]; rfl)) (ret_run ?_)))
    exact bin_run (va := .fz (.tup [iD xs, a, b])) (vb := .fz (.int 0)) (call4 (F := m_flooded) rfl rfl rfl rfl e) rfl rfl rfl rfl
  · obtain ⟨i, hi⟩ := List.mem_iff_getElem?.mp hx2
    rw [fn_at (lt_of_get hi)] at hi
    cases hi
    have h1 := g.above i
    have h2 := i0 i
    exact ⟨by omega, g.most i1 i⟩
/-! ### refusals -/
theorem tryAs_rz {i : Nat} {tab : Str → Option Bool} {suite body : MS} {hs : List ((Str → Option Bool) × MS)} {Γ Γ1 Γ2 : EV} {x : Er} {fl : Fl} (h : body Γ = .rz x Γ1) (ht : tab x.c = some true) (hf : freeAt Γ1 i = true) (h2 : suite (Γ1.set i (.ex x.c x.fs)) = .ok fl Γ2) : mTryAs i tab suite hs body Γ = clrO (fun Γ => Γ.set i .no) (.ok fl Γ2) := by
  unfold mTryAs
  simp only [h, ht, hf, h2, if_pos]
abbrev xNU (n : Str) : Sl := .ex "NotUsable" [("at", .int (-1)), ("word", .str n)]
theorem tN1 : tbl [("NotUsable", true)] "NotUsable" = some true := by decide
theorem tN2 : tbl [("NotUsable", false)] "NotUsable" = some false := by decide
theorem tN3 : ins [("NotUsable", true)] "NotUsable" = true := by decide
theorem xf_word {Γ : EV} {i : Nat} {w : Str} (h : Γ[i]? = some (xNU w)) : mXf i (ins [("NotUsable", true)]) "word" Γ = .ok (.fz (.str w)) Γ := by
  have l2 : List.lookup ("word" : Str) [(("at" : Str), D.int (-1)), ("word", .str w)] = some (.str w) := by rfl
  simp [mXf, exAt, h, tN3, l2]
theorem xf_at {Γ : EV} {i : Nat} {w : Str} (h : Γ[i]? = some (xNU w)) : mXf i (ins [("NotUsable", true)]) "at" Γ = .ok (.fz (.int (-1))) Γ := by
  have l2 : List.lookup ("at" : Str) [(("at" : Str), D.int (-1)), ("word", .str w)] = some (.int (-1)) := by rfl
  simp [mXf, exAt, h, tN3, l2]
theorem isX_t {Γ : EV} {i : Nat} {w : Str} (h : Γ[i]? = some (xNU w)) : mTest (mIsX i (tbl [("NotUsable", true)])) Γ = .ok true Γ := test_run (by simp [mIsX, exAt, h, tN1])
theorem isX_f {Γ : EV} {i : Nat} {w : Str} (h : Γ[i]? = some (xNU w)) : mTest (mIsX i (tbl [("NotUsable", false)])) Γ = .ok false Γ := test_run (by simp [mIsX, exAt, h, tN2])
theorem z_refused {n : Nt} {u s f : D} {w : Str} (e : m_flood [netD n, u, s, f] = .rz (NU w)) : m_l_refused [netD n, u, s, f] = .ok (.fz (.tup [.str w, .int (-1)])) [.no, .no, .no, .no] := by
  refine run_rt (v := .fz (.tup [.str w, .int (-1)])) (Γ' := [.fz (netD n), .fz u, .fz s, .fz f, .no]) rfl ?_ rfl
  show bd_l_refused [.fz (netD n), .fz u, .fz s, .fz f, .no] = _
  rw [bq_l_refused]
  have s2 : t_l_refused_2 [.fz (netD n), .fz u, .fz s, .fz f, .no] = .rz (NU w) [.fz (netD n), .fz u, .fz s, .fz f, .no] := exp_rz (call4x (F := m_flood) rfl rfl rfl rfl e)
  have hx : ([.fz (netD n), .fz u, .fz s, .fz f, xNU w] : EV)[4]? = some (xNU w) := rfl
  refine seq_rt ((tryAs_rz (fl := .rt (.fz (.tup [.str w, .int (-1)]))) (Γ2 := [.fz (netD n), .fz u, .fz s, .fz f, xNU w]) s2 tN1 rfl ?_).trans rfl)
  refine sq (Γ1 := [.fz (netD n), .fz u, .fz s, .fz f, xNU w]) (if_f (isX_f hx) rfl) (sq (Γ1 := [.fz (netD n), .fz u, .fz s, .fz f, xNU w]) (if_f ?_ rfl) (ret_run ?_))
  · exact or_f (not_run (isX_t hx)) (or_f (not_run (isX_t hx)) (not_run (isX_t hx)))
  · show mTup _ _ = _
    unfold mTup
    rw [cons_run (xf_word hx) (cons_run (xf_at hx) (nil_run _))]
    rfl
theorem z_no_rank {n : Nt} {d e : D} (h1 : btw 0 (n.N - 1) d = false) (h2 : btw 0 (n.rows.length - 1) e = false) : m_l_no_rank [netD n, d, e] = .ok (.fz (.tup [.str "node", .int (-1), .str "switch", .int (-1)])) [.no, .no, .no] := by
  let G (ds : List D) (x : Sl) : EV := [.fz (netD n), .fz d, .fz e, .ow false ds, x]
  have s1 : t_l_no_rank_1 [.fz (netD n), .fz d, .fz e, .no, .no] = .ok .nx (G [] .no) := rfl
  have two : ∀ (ds : List D) (w : Str), ds.length < 100 → (mIfS (mTest (mIsX 4 (tbl [("NotUsable", true)]))) (mSeq (mExpr (mAppend 3 (mXf 4 (ins [("NotUsable", true)]) "word"))) (mExpr (mAppend 3 (mXf 4 (ins [("NotUsable", true)]) "at")))) mSkip) (G ds (xNU w)) = .ok .nx (G (ds ++ [.str w] ++ [.int (-1)]) (xNU w)) := fun ds w hl => by
    refine if_t (isX_t rfl) (sq (Γ1 := G (ds ++ [.str w]) (xNU w)) ?_ ?_)
    · exact app_run (q := (false, ds)) (d := .str w) rfl (xf_word rfl) rfl rfl (by unfold sizeLine; omega) rfl
    · exact app_run (q := (false, ds ++ [.str w])) (d := .int (-1)) rfl (xf_at rfl) rfl rfl (by rw [List.length_append]; unfold sizeLine; simp; omega) rfl
  have s2 : t_l_no_rank_2 (G [] .no) = .ok .nx (G [.str "node", .int (-1)] .no) := by
    have r : t_l_no_rank_3 (G [] .no) = .rz (NU "node") (G [] .no) := exp_rz (call2x (F := m_rank_of) rfl rfl (z_rank_rz h1))
    exact (tryAs_rz (seq_rz r) tN1 rfl (two [] "node" (by decide))).trans rfl
  have s3 : t_l_no_rank_9 (G [.str "node", .int (-1)] .no) = .ok .nx (G [.str "node", .int (-1), .str "switch", .int (-1)] .no) := by
    have r : t_l_no_rank_10 (G [.str "node", .int (-1)] .no) = .rz (NU "switch") (G [.str "node", .int (-1)] .no) := exp_rz (call2x (F := m_switch_rank) rfl rfl (z_switch_rz h2))
    exact (tryAs_rz (seq_rz r) tN1 rfl (two _ "switch" (by decide))).trans rfl
  refine run_rt (v := .fz (.tup [.str "node", .int (-1), .str "switch", .int (-1)])) (Γ' := G [.str "node", .int (-1), .str "switch", .int (-1)] .no) rfl ?_ rfl
  show bd_l_no_rank [.fz (netD n), .fz d, .fz e, .no, .no] = _
  rw [bq_l_no_rank]
  exact sq s1 (sq s2 (sq s3 (ret_run (fn1_run (v := .bw 3) rfl rfl rfl))))
end K29

set_option Elab.async false
set_option linter.all false
set_option maxRecDepth 100000
set_option maxHeartbeats 4000000
namespace K29
open PySem PySem.Spec PyProof.Rows L2 L2H XT GX RD SX PU
/-! ### drawing -/
theorem tupm_run {ms : MA} {Γ Γ1 Γ2 : EV} {vs : List Vl} {ds : List D} (h : ms Γ = .ok vs Γ1) (h2 : cools Γ1 vs = some (ds, Γ2)) (hl : ds.length ≤ 1000) : mTup ms Γ = .ok (.fz (.tup ds)) Γ2 := by
  unfold mTup
  rw [h, Out.bind_ok]
  simp only [h2]
  rw [if_pos (by unfold sizeLine; omega)]
theorem pick0 {Γr : EV} {t : List D} {me : ME} {m : Nat} (ht : Tp t) (hm : me (.ow true t :: Γr) = .ok (.fz (.int m)) (.ow true t :: Γr)) (h0 : 0 < m) (h1 : m < 2 ^ 60) :
    ∃ (k : Nat) (t' : List D), mCall io_l_pick m_l_pick (mCons (mVar 0) (mCons me mNil)) (.ow true t :: Γr) = .ok (.fz (.int k)) (.ow true t' :: Γr) ∧ k < m ∧ Tp t' := by
  obtain ⟨k, t', e, q1, q2, q3⟩ := pick_run (Γ := .ow true t :: Γr) (i := 0) rfl hm rfl ht (by omega) (by omega)
  obtain ⟨j, rfl⟩ := Int.eq_ofNat_of_zero_le q1
  exact ⟨j, t', e, by omega, q3⟩
theorem str_small {n : Nat} (h : n < 1000) : (Str.ofString (toString (n : Int))).length ≤ 3 := by
  have e := DG.txt_eq (n : Int)
  have : (Str.ofString (toString (n : Int))).length = (DG.txt (n : Int)).length := by rw [← e]; rfl
  rw [this]
  unfold DG.txt
  rw [if_neg (by omega), Int.natAbs_natCast]
  exact (DG.dec_len (by decide)).mpr h
theorem str_run {m : ME} {Γ Γ1 : EV} {n : Nat} (h : m Γ = .ok (.fz (.int n)) Γ1) (hn : n < 1000) : ∃ w : Str, w.length ≤ 3 ∧ mFn strWD (mCons m mNil) Γ = .ok (.fz (.str w)) Γ1 := by
  refine ⟨_, str_small hn, fn1_run h rfl ?_⟩
  have : (n : Int).natAbs.log2 < 12900 := by
    rw [Int.natAbs_natCast]
    by_cases h0 : n = 0
    · subst h0; decide +kernel
    · have := (Nat.log2_lt h0).mpr (show n < 2 ^ 10 by omega)
      omega
  unfold strWD
  simp only
  rw [if_pos this]
theorem len_add {a b : Str} : (a ++ b).length = a.length + b.length := by
  show (a.cps ++ b.cps).size = _
  rw [Array.size_append]; rfl
theorem cat_run {a b : ME} {Γ Γ1 Γ2 : EV} {x y : Str} {l k : Nat} (h : a Γ = .ok (.fz (.str x)) Γ1) (h2 : b Γ1 = .ok (.fz (.str y)) Γ2) (hx : x.length ≤ l) (hy : y.length ≤ k) (hs : l + k ≤ 1000) : ∃ w : Str, w.length ≤ l + k ∧ mBin addD a b Γ = .ok (.fz (.str w)) Γ2 := by
  refine ⟨x ++ y, by rw [len_add]; omega, bin_run h h2 rfl rfl ?_⟩
  unfold addD
  simp only
  rw [if_pos (by unfold sizeLine; omega)]
theorem z_name {s p : Nat} (hp : p < 1000) : ∃ w : Str, m_l_name [.int s, .int p] = .ok (.fz (.str w)) [.no, .no] := by
  let Γ : EV := [.fz (.int s), .fz (.int p)]
  have c1 : c_l_name_1 Γ = .ok (decide ((s : Int) = 0)) Γ := eq_run rfl rfl
  have c3 : c_l_name_3 Γ = .ok (decide ((s : Int) = 1)) Γ := eq_run rfl rfl
  obtain ⟨w, hw, e⟩ := str_run (m := mVar 1) (Γ := Γ) (Γ1 := Γ) (n := p) rfl hp
  by_cases h0 : (s : Int) = 0
  · obtain ⟨u, _, e2⟩ := cat_run (a := mC (.str "n")) (Γ := Γ) (l := 1) (k := 3) rfl e (by decide) hw (by decide)
    refine ⟨u, run_rt (v := .fz (.str u)) (Γ' := Γ) rfl ?_ rfl⟩
    show bd_l_name Γ = _
    rw [bq_l_name]
    exact seq_rt (if_t (c1.trans (by rw [decide_eq_true h0])) (ret_run e2))
  · by_cases h1 : (s : Int) = 1
    · obtain ⟨u, hu, e2⟩ := cat_run (a := mC (.str "q[")) (Γ := Γ) (l := 2) (k := 3) rfl e (by decide) hw (by decide)
      obtain ⟨v, _, e3⟩ := cat_run (b := mC (.str "]")) (l := 2 + 3) (k := 1) e2 rfl hu (by decide) (by decide)
      refine ⟨v, run_rt (v := .fz (.str v)) (Γ' := Γ) rfl ?_ rfl⟩
      show bd_l_name Γ = _
      rw [bq_l_name]
      exact sq (if_f (c1.trans (by rw [decide_eq_false h0])) rfl) (seq_rt (if_t (c3.trans (by rw [decide_eq_true h1])) (ret_run e3)))
    · have hd : mBin fdivD (mVar 1) (mC (.int 2)) Γ = .ok (.fz (.int ((p / 2 : Nat) : Int))) Γ := (div_run (a := mVar 1) (b := mC (.int 2)) (i := p) (j := 2) rfl rfl (by decide) (by decide +kernel)).trans (by congr 3)
      obtain ⟨w2, hw2, e4⟩ := str_run hd (by omega)
      obtain ⟨u, hu, e2⟩ := cat_run (a := mC (.str "a")) (Γ := Γ) (l := 1) (k := 3) rfl e (by decide) hw (by decide)
      obtain ⟨v, hv, e3⟩ := cat_run (b := mC (.str ".b_")) (l := 1 + 3) (k := 3) e2 rfl hu (by decide) (by decide)
      obtain ⟨y, _, e5⟩ := cat_run (l := 1 + 3 + 3) (k := 3) e3 e4 hv hw2 (by decide)
      refine ⟨y, run_rt (v := .fz (.str y)) (Γ' := Γ) rfl ?_ rfl⟩
      show bd_l_name Γ = _
      rw [bq_l_name]
      exact sq (if_f (c1.trans (by rw [decide_eq_false h0])) rfl) (sq (if_f (c3.trans (by rw [decide_eq_false h1])) rfl) (ret_run e5))
theorem z_row {t : List D} {l r tot : Nat} (ht : Tp t) (h0 : 0 < tot) (h1 : tot < 1000) : ∃ (w : Rw) (t' : List D), m_l_row [.lst t, .int l, .int r, .int tot] = .ok (.fz (rowD w)) [.ow true t', .no, .no, .no] ∧ Tp t' ∧ 1 ≤ w.s ∧ w.s ≤ 6 ∧ w.l = l ∧ w.r = r := by
  let Γ (t : List D) (x y : Sl) : EV := [.ow true t, .fz (.int l), .fz (.int r), .fz (.int tot), x, y]
  obtain ⟨k, t1, e1, k1, ht1⟩ := pick0 (Γr := [.fz (.int l), .fz (.int r), .fz (.int tot), .no, .no]) (me := mC (.int 3)) (m := 3) ht rfl (by decide) (by decide)
  obtain ⟨kd, hkd⟩ : ∃ kd : Str, atI [D.str "tie", .str "one", .str "zero"] (k : Int) = some (.str kd) := by
    match k, k1 with
    | 0, _ => exact ⟨_, rfl⟩
    | 1, _ => exact ⟨_, rfl⟩
    | 2, _ => exact ⟨_, rfl⟩
  have s1 : t_l_row_1 (Γ t .no .no) = .ok .nx (Γ t1 (.fz (.str kd)) .no) := set_run (v := .fz (.str kd)) (Γ1 := Γ t1 .no .no) (bin_run (va := .fz (.tup [.str "tie", .str "one", .str "zero"])) (vb := .fz (.int k)) rfl e1 rfl rfl (by
    show (atI [D.str "tie", .str "one", .str "zero"] (k : Int)).map Vl.fz = _
    rw [hkd]; rfl)) rfl
  obtain ⟨g, t2, e2, g1, ht2⟩ := pick0 (Γr := [.fz (.int l), .fz (.int r), .fz (.int tot), .fz (.str kd), .no]) (me := mVar 3) (m := tot) ht1 rfl h0 (by omega)
  have s2 : t_l_row_2 (Γ t1 (.fz (.str kd)) .no) = .ok .nx (Γ t2 (.fz (.str kd)) (.fz (.int g))) := set_run (v := .fz (.int g)) (Γ1 := Γ t2 (.fz (.str kd)) .no) e2 rfl
  obtain ⟨g', s3⟩ : ∃ g' : Int, t_l_row_3 (Γ t2 (.fz (.str kd)) (.fz (.int g))) = .ok .nx (Γ t2 (.fz (.str kd)) (.fz (.int g'))) := by
    have c : c_l_row_3 (Γ t2 (.fz (.str kd)) (.fz (.int g))) = .ok (decide (kd = "tie")) (Γ t2 (.fz (.str kd)) (.fz (.int g))) := test_run (bin_run (va := .fz (.str kd)) (vb := .fz (.str "tie")) rfl rfl rfl rfl rfl)
    by_cases h : kd = "tie"
    · exact ⟨-1, if_t (c.trans (by rw [decide_eq_true h])) rfl⟩
    · exact ⟨g, if_f (c.trans (by rw [decide_eq_false h])) rfl⟩
  obtain ⟨a, t3, e3, a1, ht3⟩ := pick0 (Γr := [.fz (.int l), .fz (.int r), .fz (.int tot), .fz (.str kd), .fz (.int g')]) (me := mC (.int 6)) (m := 6) ht2 rfl (by decide) (by decide)
  refine ⟨⟨kd, 1 + a, g', l, r⟩, t3, ?_, ht3, by show (1 : Int) ≤ 1 + a; omega, by show (1 : Int) + a ≤ 6; omega, rfl, rfl⟩
  refine run_rt (v := .fz (rowD ⟨kd, 1 + a, g', l, r⟩)) (Γ' := Γ t3 (.fz (.str kd)) (.fz (.int g'))) rfl ?_ rfl
  show bd_l_row (Γ t .no .no) = _
  rw [bq_l_row]
  refine sq s1 (sq s2 (sq s3 (ret_run ?_)))
  have e4 : mBin addD (mC (.int 1)) (mCall io_l_pick m_l_pick (mCons (mVar 0) (mCons (mC (.int 6)) mNil))) (Γ t2 (.fz (.str kd)) (.fz (.int g'))) = .ok (.fz (.int (1 + a))) (Γ t3 (.fz (.str kd)) (.fz (.int g'))) := add_run rfl e3
  exact tupm_run (cons_run (v := .fz (.str kd)) rfl (cons_run e4 (cons_run (v := .fz (.int g')) rfl (cons_run (v := .fz (.int l)) rfl (cons_run (v := .fz (.int r)) rfl (nil_run _)))))) rfl (by simp)
/-- a comprehension whose element changes the frame -/
theorem lc_inv {g : D → EV → Option EV} {mt : MT} {me : ME} {vs : List Nat} {items : List D} (I : Nat → List D → EV → Prop) (h : ∀ k d acc Γ, items[k]? = some d → I k acc Γ → ∃ Γ2, g d Γ = some Γ2 ∧ ((∃ Γ3 v Γ4 y Γ5, mt Γ2 = .ok true Γ3 ∧ me Γ3 = .ok v Γ4 ∧ cool Γ4 v.op = some (y, Γ5) ∧ I (k + 1) (acc ++ [y]) (wipeE Γ5 vs)) ∨ ∃ Γ3, mt Γ2 = .ok false Γ3 ∧ I (k + 1) acc (wipeE Γ3 vs)))
    {Γ : EV} (h0 : I 0 [] Γ) (hl : items.length ≤ 1000) : ∃ acc Γ', lcL g mt me vs items [] Γ = .ok (.ow acc) Γ' ∧ I items.length acc Γ' := by
  have key : ∀ (rest : List D) (k : Nat) (acc : List D) (Γ : EV), items.drop k = rest → acc.length ≤ k → k + rest.length ≤ 1000 → I k acc Γ → ∃ acc' Γ', lcL g mt me vs rest acc Γ = .ok (.ow acc') Γ' ∧ I (k + rest.length) acc' Γ' := by
    intro rest
    induction rest with
    | nil => intro k acc Γ _ _ _ hI; exact ⟨acc, Γ, rfl, hI⟩
    | cons d rest ih =>
      intro k acc Γ e ha hk hI
      have e1 : items[k]? = some d := by
        have : (items.drop k)[0]? = some d := by rw [e]; rfl
        simpa using this
      have e2 : items.drop (k + 1) = rest := by rw [← List.drop_drop, e]; rfl
      rw [List.length_cons] at hk ⊢
      have hs : acc.length < sizeLine := by unfold sizeLine; omega
      obtain ⟨Γ2, q1, q⟩ := h k d acc Γ e1 hI
      rcases q with ⟨Γ3, v, Γ4, y, Γ5, q2, q3, q4, q5⟩ | ⟨Γ3, q2, q5⟩
      · obtain ⟨acc', Γ', r1, r2⟩ := ih (k + 1) (acc ++ [y]) _ e2 (by rw [List.length_append, List.length_singleton]; omega) (by omega) q5
        refine ⟨acc', Γ', ?_, by rw [show k + (rest.length + 1) = k + 1 + rest.length by omega]; exact r2⟩
        unfold lcL
        simp only [q1, q2, Out.nr_ok, Out.bind_ok, if_pos, q3, q4, hs]
        exact r1
      · obtain ⟨acc', Γ', r1, r2⟩ := ih (k + 1) acc _ e2 (by omega) (by omega) q5
        refine ⟨acc', Γ', ?_, by rw [show k + (rest.length + 1) = k + 1 + rest.length by omega]; exact r2⟩
        unfold lcL
        simp only [q1, q2, Out.nr_ok, Out.bind_ok, if_neg (by decide : ¬ (false = true))]
        exact r1
  obtain ⟨acc, Γ', r1, r2⟩ := key items 0 [] Γ rfl (Nat.le_refl _) (by omega) h0
  exact ⟨acc, Γ', r1, by simpa using r2⟩
end K29

set_option Elab.async false
set_option linter.all false
set_option maxRecDepth 100000
set_option maxHeartbeats 4000000
namespace K29
open PySem PySem.Spec PyProof.Rows L2 L2H XT GX RD SX PU
/-! ### the net that is drawn -/
abbrev eP (p : Nat × Nat) : D := .tup [.int p.1, .int p.2]
def OKp (tot : Nat) (ps : List (Nat × Nat)) : Prop := ∀ p ∈ ps, p.1 < tot ∧ p.2 < tot
theorem OKp.app {tot : Nat} {a b : List (Nat × Nat)} (h : OKp tot a) (k : OKp tot b) : OKp tot (a ++ b) := fun p hp => (List.mem_append.mp hp).elim (h p) (k p)
theorem OKp.one {tot a b : Nat} (h : a < tot) (k : b < tot) : OKp tot [(a, b)] := fun p hp => by
  obtain rfl := List.mem_singleton.mp hp
  exact ⟨h, k⟩
abbrev mE (t : List D) (f k m sty b : Nat) (ps : List (Nat × Nat)) (s8 s12 : Sl) : EV :=
  [.ow true t, .fz (.int f), .fz (.int k), .fz (.int m), .fz (.int ((f + k : Nat) : Int)), .fz (.int sty), .fz (.int b), .ow false (ps.map eP), s8, .no, .no, .no, s12, .no]
structure Dim (f k m : Nat) : Prop where
  f2 : 2 ≤ f
  f12 : f ≤ 12
  k24 : k ≤ 24
  m60 : m = 9 ∨ m = 60
theorem tank_at {j : Nat} (h : j < 11) : ∃ k : Nat, k ≤ 6 ∧ atI [D.int 3, .int 2, .int 4, .int 1, .int 5, .int 3, .int 2, .int 4, .int 6, .int 3, .int 0] (j : Int) = some (.int (k : Nat)) := by
  match j, h with
  | 0, _ => exact ⟨3, by decide, rfl⟩
  | 1, _ => exact ⟨2, by decide, rfl⟩
  | 2, _ => exact ⟨4, by decide, rfl⟩
  | 3, _ => exact ⟨1, by decide, rfl⟩
  | 4, _ => exact ⟨5, by decide, rfl⟩
  | 5, _ => exact ⟨3, by decide, rfl⟩
  | 6, _ => exact ⟨2, by decide, rfl⟩
  | 7, _ => exact ⟨4, by decide, rfl⟩
  | 8, _ => exact ⟨6, by decide, rfl⟩
  | 9, _ => exact ⟨3, by decide, rfl⟩
  | 10, _ => exact ⟨0, by decide, rfl⟩
theorem web_head {t : List D} (ht : Tp t) (o : MS) : ∃ t' f k m sty b, Tp t' ∧ Dim f k m ∧ b < 4 ∧ sty < 3 ∧
    (mSeq t_l_web_1 (mSeq t_l_web_2 (mSeq t_l_web_3 (mSeq t_l_web_4 (mSeq t_l_web_8 (mSeq t_l_web_9 (mSeq t_l_web_10 (mSeq t_l_web_11 o)))))))) [.ow true t, .no, .no, .no, .no, .no, .no, .no, .no, .no, .no, .no, .no, .no] = o (mE t' f k m sty b [] .no .no) := by
  obtain ⟨a, t1, e1, a1, ht1⟩ := pick0 (Γr := [.no, .no, .no, .no, .no, .no, .no, .no, .no, .no, .no, .no, .no]) (me := mC (.int 3)) (m := 3) ht rfl (by decide) (by decide)
  have s1 : t_l_web_1 [.ow true t, .no, .no, .no, .no, .no, .no, .no, .no, .no, .no, .no, .no, .no] = .ok .nx [.ow true t1, .fz (.int ((2 + a : Nat) : Int)), .no, .no, .no, .no, .no, .no, .no, .no, .no, .no, .no, .no] := by
    refine set_run (v := .fz (.int ((2 + a : Nat) : Int))) (Γ1 := [.ow true t1, .no, .no, .no, .no, .no, .no, .no, .no, .no, .no, .no, .no, .no]) ?_ rfl
    rw [show (((2 + a : Nat) : Int)) = 2 + (a : Int) by omega]
    exact add_run (b := mCall io_l_pick m_l_pick (mCons (mVar 0) (mCons (mC (.int 3)) mNil))) rfl e1
  obtain ⟨j, t2, e2, j1, ht2⟩ := pick0 (Γr := [.fz (.int ((2 + a : Nat) : Int)), .no, .no, .no, .no, .no, .no, .no, .no, .no, .no, .no, .no]) (me := mC (.int 11)) (m := 11) ht1 rfl (by decide) (by decide)
  obtain ⟨k, hk, ek⟩ := tank_at j1
  have s2 : t_l_web_2 [.ow true t1, .fz (.int ((2 + a : Nat) : Int)), .no, .no, .no, .no, .no, .no, .no, .no, .no, .no, .no, .no] = .ok .nx [.ow true t2, .fz (.int ((2 + a : Nat) : Int)), .fz (.int k), .no, .no, .no, .no, .no, .no, .no, .no, .no, .no, .no] :=
    set_run (v := .fz (.int k)) (Γ1 := [.ow true t2, .fz (.int ((2 + a : Nat) : Int)), .no, .no, .no, .no, .no, .no, .no, .no, .no, .no, .no, .no]) (bin_run (va := .fz (.tup [.int 3, .int 2, .int 4, .int 1, .int 5, .int 3, .int 2, .int 4, .int 6, .int 3, .int 0])) (vb := .fz (.int j)) rfl e2 rfl rfl (by
      show (atI [D.int 3, .int 2, .int 4, .int 1, .int 5, .int 3, .int 2, .int 4, .int 6, .int 3, .int 0] (j : Int)).map Vl.fz = _
      rw [ek]; rfl)) rfl
  have s3 : t_l_web_3 [.ow true t2, .fz (.int ((2 + a : Nat) : Int)), .fz (.int k), .no, .no, .no, .no, .no, .no, .no, .no, .no, .no, .no] = .ok .nx [.ow true t2, .fz (.int ((2 + a : Nat) : Int)), .fz (.int k), .fz (.int (9 : Nat)), .no, .no, .no, .no, .no, .no, .no, .no, .no, .no] := rfl
  obtain ⟨c, t3, e3, c1, ht3⟩ := pick0 (Γr := [.fz (.int ((2 + a : Nat) : Int)), .fz (.int k), .fz (.int (9 : Nat)), .no, .no, .no, .no, .no, .no, .no, .no, .no, .no]) (me := mC (.int 20)) (m := 20) ht2 rfl (by decide) (by decide)
  obtain ⟨f, k', m, hd, s4⟩ : ∃ f k' m, Dim f k' m ∧ t_l_web_4 [.ow true t2, .fz (.int ((2 + a : Nat) : Int)), .fz (.int k), .fz (.int (9 : Nat)), .no, .no, .no, .no, .no, .no, .no, .no, .no, .no] = .ok .nx [.ow true t3, .fz (.int (f : Nat)), .fz (.int (k' : Nat)), .fz (.int (m : Nat)), .no, .no, .no, .no, .no, .no, .no, .no, .no, .no] := by
    have cc := eq_run (a := mCall io_l_pick m_l_pick (mCons (mVar 0) (mCons (mC (.int 20)) mNil))) (b := mC (.int 19)) e3 rfl
    by_cases h : (c : Int) = 19
    · exact ⟨12, 24, 60, ⟨by decide, by decide, by decide, .inr rfl⟩, if_t (cc.trans (by rw [decide_eq_true h])) rfl⟩
    · exact ⟨2 + a, k, 9, ⟨by omega, by omega, by omega, .inl rfl⟩, if_f (cc.trans (by rw [decide_eq_false h])) rfl⟩
  have s8 : t_l_web_8 [.ow true t3, .fz (.int (f : Nat)), .fz (.int (k' : Nat)), .fz (.int (m : Nat)), .no, .no, .no, .no, .no, .no, .no, .no, .no, .no] = .ok .nx [.ow true t3, .fz (.int (f : Nat)), .fz (.int (k' : Nat)), .fz (.int (m : Nat)), .fz (.int ((f + k' : Nat) : Int)), .no, .no, .no, .no, .no, .no, .no, .no, .no] := rfl
  obtain ⟨sty, t4, e4, y1, ht4⟩ := pick0 (Γr := [.fz (.int (f : Nat)), .fz (.int (k' : Nat)), .fz (.int (m : Nat)), .fz (.int ((f + k' : Nat) : Int)), .no, .no, .no, .no, .no, .no, .no, .no, .no]) (me := mC (.int 3)) (m := 3) ht3 rfl (by decide) (by decide)
  have s9 : t_l_web_9 [.ow true t3, .fz (.int (f : Nat)), .fz (.int (k' : Nat)), .fz (.int (m : Nat)), .fz (.int ((f + k' : Nat) : Int)), .no, .no, .no, .no, .no, .no, .no, .no, .no] = .ok .nx [.ow true t4, .fz (.int (f : Nat)), .fz (.int (k' : Nat)), .fz (.int (m : Nat)), .fz (.int ((f + k' : Nat) : Int)), .fz (.int sty), .no, .no, .no, .no, .no, .no, .no, .no] := set_run e4 rfl
  obtain ⟨b, t5, e5, b1, ht5⟩ := pick0 (Γr := [.fz (.int (f : Nat)), .fz (.int (k' : Nat)), .fz (.int (m : Nat)), .fz (.int ((f + k' : Nat) : Int)), .fz (.int sty), .no, .no, .no, .no, .no, .no, .no, .no]) (me := mC (.int 4)) (m := 4) ht4 rfl (by decide) (by decide)
  have s10 : t_l_web_10 [.ow true t4, .fz (.int (f : Nat)), .fz (.int (k' : Nat)), .fz (.int (m : Nat)), .fz (.int ((f + k' : Nat) : Int)), .fz (.int sty), .no, .no, .no, .no, .no, .no, .no, .no] = .ok .nx [.ow true t5, .fz (.int (f : Nat)), .fz (.int (k' : Nat)), .fz (.int (m : Nat)), .fz (.int ((f + k' : Nat) : Int)), .fz (.int sty), .fz (.int b), .no, .no, .no, .no, .no, .no, .no] := set_run e5 rfl
  have s11 : t_l_web_11 [.ow true t5, .fz (.int (f : Nat)), .fz (.int (k' : Nat)), .fz (.int (m : Nat)), .fz (.int ((f + k' : Nat) : Int)), .fz (.int sty), .fz (.int b), .no, .no, .no, .no, .no, .no, .no] = .ok .nx (mE t5 f k' m sty b [] .no .no) := rfl
  exact ⟨t5, f, k', m, sty, b, ht5, hd, b1, y1, sq s1 (sq s2 (sq s3 (sq s4 (sq s8 (sq s9 (sq s10 (sq s11 rfl)))))))⟩
section
variable {t : List D} {f k m sty b : Nat} {ps : List (Nat × Nat)} {s8 s12 : Sl}
theorem ap7 {me : ME} {t1 : List D} {p : Nat × Nat} (h : me (mE t f k m sty b ps s8 s12) = .ok (.fz (eP p)) (mE t1 f k m sty b ps s8 s12)) (hl : ps.length < 1000) : mExpr (mAppend 7 me) (mE t f k m sty b ps s8 s12) = .ok .nx (mE t1 f k m sty b (ps ++ [p]) s8 s12) := by
  refine app_run (q := (false, ps.map eP)) (d := eP p) rfl h rfl rfl (by rw [List.length_map]; unfold sizeLine; omega) ?_
  simp [mE]
theorem web_12 (ht : Tp t) (hd : Dim f k m) (hp : OKp (f + k) ps) (hl : ps.length < 500) : ∃ t' ps', t_l_web_12 (mE t f k m sty b ps s8 s12) = .ok .nx (mE t' f k m sty b ps' s8 s12) ∧ Tp t' ∧ OKp (f + k) ps' ∧ ps'.length ≤ ps.length + 1 := by
  have c1 := gt_run (a := mVar 2) (b := mC (.int 0)) (i := k) (j := 0) (Γ := mE t f k m sty b ps s8 s12) rfl rfl
  have c2 := gt_run (a := mVar 6) (b := mC (.int 0)) (i := b) (j := 0) (Γ := mE t f k m sty b ps s8 s12) rfl rfl
  by_cases h1 : (0 : Int) < k
  · by_cases h2 : (0 : Int) < b
    · have := hd.f2
      have := hd.f12
      obtain ⟨x, t1, e1, x1, ht1⟩ := pick0 (Γr := [.fz (.int f), .fz (.int k), .fz (.int m), .fz (.int ((f + k : Nat) : Int)), .fz (.int sty), .fz (.int b), .ow false (ps.map eP), s8, .no, .no, .no, s12, .no]) (me := mVar 1) (m := f) ht rfl (by omega) (by omega)
      refine ⟨t1, ps ++ [(x, f)], if_t (and_t (c1.trans (by rw [decide_eq_true h1])) (c2.trans (by rw [decide_eq_true h2]))) (ap7 (p := (x, f)) (tupm_run (cons_run e1 (cons_run (v := .fz (.int f)) rfl (nil_run _))) rfl (by simp)) (by omega)), ht1, hp.app (.one (by omega) (by omega)), by simp⟩
    · exact ⟨t, ps, if_f (and_t (c1.trans (by rw [decide_eq_true h1])) (c2.trans (by rw [decide_eq_false h2]))) rfl, ht, hp, by omega⟩
  · exact ⟨t, ps, if_f (and_f (c1.trans (by rw [decide_eq_false h1]))) rfl, ht, hp, by omega⟩
theorem in12 {b : Nat} : inD false (.int b) (.tup [.int 1, .int 2]) = some (.fz (.bl (decide (b = 1 ∨ b = 2)))) := by
  have : inB (.int b) (.tup [.int 1, .int 2]) = some (decide (b = 1 ∨ b = 2)) := by
    have e : inV (.int b) [.int 1, .int 2] = decide (b = 1 ∨ b = 2) := by
      have e1 : eqV (.int 1) (.int (b : Int)) = decide (b = 1) := by
        show decide ((1 : Int) = (b : Int)) = _
        by_cases h : b = 1
        · subst h; rfl
        · rw [decide_eq_false h, decide_eq_false (by omega)]
      have e2 : eqV (.int 2) (.int (b : Int)) = decide (b = 2) := by
        show decide ((2 : Int) = (b : Int)) = _
        by_cases h : b = 2
        · subst h; rfl
        · rw [decide_eq_false h, decide_eq_false (by omega)]
      show (eqV (.int 1) (.int (b : Int)) || (eqV (.int 2) (.int (b : Int)) || false)) = _
      rw [e1, e2, Bool.or_false, ← Bool.decide_or]
    show (if flatD (.int b) = true ∧ [D.int 1, .int 2].all flatD = true then some (inV (toV (.int b)) ([D.int 1, .int 2].map toV)) else none) = _
    rw [if_pos ⟨rfl, rfl⟩]
    exact congrArg some e
  unfold inD
  rw [this]
  rfl
theorem ext7 {me : ME} {qs : List (Nat × Nat)} (h : me (mE t f k m sty b ps s8 s12) = .ok (.ow (qs.map eP)) (mE t f k m sty b ps s8 .no)) (hl : ps.length + qs.length < 1000) : mSet 7 (mBin addD (mVar 7) me) (mE t f k m sty b ps s8 s12) = .ok .nx (mE t f k m sty b (ps ++ qs) s8 .no) := by
  refine set_run (v := .ow ((ps ++ qs).map eP)) (Γ1 := mE t f k m sty b ps s8 .no) (bin_run (va := .bw 7) (vb := .ow (qs.map eP)) (dx := .lst (ps.map eP)) (dy := .lst (qs.map eP)) rfl h rfl rfl ?_) rfl
  show (if (ps.map eP).length + (qs.map eP).length ≤ sizeLine then some (Vl.ow (ps.map eP ++ qs.map eP)) else none) = _
  rw [if_pos (by rw [List.length_map, List.length_map]; unfold sizeLine; omega), List.map_append]
theorem web_14 (hd : Dim f k m) (hp : OKp (f + k) ps) (hl : ps.length < 500) : ∃ ps' s12', t_l_web_14 (mE t f k m sty b ps s8 .no) = .ok .nx (mE t f k m sty b ps' s8 .no) ∧ OKp (f + k) ps' ∧ ps'.length ≤ ps.length + 24 ∧ s12' = Sl.no := by
  have c1 := gt_run (a := mVar 2) (b := mC (.int 1)) (i := k) (j := 1) (Γ := mE t f k m sty b ps s8 .no) rfl rfl
  have c2 : mTest (mBin (inD false) (mVar 6) (mTup (mCons (mC (.int 1)) (mCons (mC (.int 2)) mNil)))) (mE t f k m sty b ps s8 .no) = .ok (decide (b = 1 ∨ b = 2)) (mE t f k m sty b ps s8 .no) := test_run (bin_run (va := .fz (.int b)) (vb := .fz (.tup [.int 1, .int 2])) rfl rfl rfl rfl in12)
  have k24 := hd.k24
  by_cases h1 : (1 : Int) < k
  · by_cases h2 : b = 1 ∨ b = 2
    · refine ⟨ps ++ (List.range (k - 1)).map (fun j => (f + j, f + j + 1)), .no, if_t (and_t (c1.trans (by rw [decide_eq_true h1])) (c2.trans (by rw [decide_eq_true h2]))) (ext7 ?_ (by simp; omega)), hp.app fun p hp => ?_, by simp; omega, rfl⟩
      · have hr : mIR1 (mCons (mBin subD (mVar 2) (mC (.int 1))) mNil) (mE t f k m sty b ps s8 .no) = .ok (rngD 0 (k - 1)) (mE t f k m sty b ps s8 .no) := rng_run (n := k - 1) (cons_run ((sub_run (a := mVar 2) (b := mC (.int 1)) (i := k) (j := 1) rfl rfl).trans (by rw [show (k : Int) - 1 = ((k - 1 : Nat) : Int) by omega])) (nil_run _)) (by omega)
        have lc := lc_run (g := gN 12) (me := mTup (mCons (mBin addD (mVar 1) (mVar 12)) (mCons (mBin addD (mBin addD (mVar 1) (mVar 12)) (mC (.int 1))) mNil))) (vs := [12]) (f := fun d => match d with
          | .int i => eP (f + i.toNat, f + i.toNat + 1)
          | d => d) (Γ := mE t f k m sty b ps s8 .no) (items := rngD 0 (k - 1)) (acc := []) (by rw [rng_len]; simp; omega) (fun d hd => by
            obtain ⟨j, hj⟩ := List.mem_iff_getElem?.mp hd
            obtain ⟨h1, rfl⟩ := rng_at hj
            refine ⟨mE t f k m sty b ps s8 (.fz (.int j)), mE t f k m sty b ps s8 (.fz (.int j)), rfl, ?_, rfl⟩
            have a1 : mBin addD (mVar 1) (mVar 12) (mE t f k m sty b ps s8 (.fz (.int j))) = .ok (.fz (.int ((f + j : Nat) : Int))) (mE t f k m sty b ps s8 (.fz (.int j))) := rfl
            have a2 : mBin addD (mBin addD (mVar 1) (mVar 12)) (mC (.int 1)) (mE t f k m sty b ps s8 (.fz (.int j))) = .ok (.fz (.int ((f + j + 1 : Nat) : Int))) (mE t f k m sty b ps s8 (.fz (.int j))) := rfl
            show mTup _ _ = .ok (.fz (eP (f + ((j : Int)).toNat, f + ((j : Int)).toNat + 1))) _
            rw [Int.toNat_natCast]
            exact tupm_run (cons_run a1 (cons_run a2 (nil_run _))) rfl (by simp))
        show (mIR1 _ _).bind _ = _
        rw [hr, Out.bind_ok]
        refine Eq.trans lc ?_
        rw [List.nil_append, List.map_map]
        have : (rngD 0 (k - 1)).map (fun d => match d with
          | .int i => eP (f + i.toNat, f + i.toNat + 1)
          | d => d) = (List.range (k - 1)).map (eP ∘ fun j => (f + j, f + j + 1)) := by
          unfold rngD
          rw [List.map_map]
          refine List.map_congr_left fun j _ => ?_
          show eP (f + ((0 : Int) + (j : Nat)).toNat, f + ((0 : Int) + (j : Nat)).toNat + 1) = eP (f + j, f + j + 1)
          rw [show ((0 : Int) + (j : Nat)).toNat = j by omega]
        rw [this]
      · obtain ⟨j, hj, rfl⟩ := List.mem_map.mp hp
        have := List.mem_range.mp hj
        exact ⟨by show f + j < f + k; omega, by show f + j + 1 < f + k; omega⟩
    · exact ⟨ps, .no, if_f (and_t (c1.trans (by rw [decide_eq_true h1])) (c2.trans (by rw [decide_eq_false h2]))) rfl, hp, by omega, rfl⟩
  · exact ⟨ps, .no, if_f (and_f (c1.trans (by rw [decide_eq_false h1]))) rfl, hp, by omega, rfl⟩
theorem web_16 (hd : Dim f k m) (hp : OKp (f + k) ps) (hl : ps.length < 500) : ∃ ps', t_l_web_16 (mE t f k m sty b ps s8 .no) = .ok .nx (mE t f k m sty b ps' s8 .no) ∧ OKp (f + k) ps' ∧ ps'.length ≤ ps.length + 1 := by
  have c1 := gt_run (a := mVar 2) (b := mC (.int 1)) (i := k) (j := 1) (Γ := mE t f k m sty b ps s8 .no) rfl rfl
  have c2 := eq_run (a := mVar 6) (b := mC (.int 2)) (i := b) (j := 2) (Γ := mE t f k m sty b ps s8 .no) rfl rfl
  by_cases h1 : (1 : Int) < k
  · by_cases h2 : (b : Int) = 2
    · refine ⟨ps ++ [(f + k - 1, f)], if_t (and_t (c1.trans (by rw [decide_eq_true h1])) (c2.trans (by rw [decide_eq_true h2]))) (ap7 (p := (f + k - 1, f)) ?_ (by omega)), hp.app (.one (by omega) (by omega)), by simp⟩
      have a1 : mBin subD (mBin addD (mVar 1) (mVar 2)) (mC (.int 1)) (mE t f k m sty b ps s8 .no) = .ok (.fz (.int ((f + k - 1 : Nat) : Int))) (mE t f k m sty b ps s8 .no) := (sub_run (a := mBin addD (mVar 1) (mVar 2)) (b := mC (.int 1)) (i := (f : Int) + k) (j := 1) (add_run rfl rfl) rfl).trans (by rw [show (f : Int) + k - 1 = ((f + k - 1 : Nat) : Int) by omega])
      exact tupm_run (cons_run a1 (cons_run (v := .fz (.int f)) rfl (nil_run _))) rfl (by simp)
    · exact ⟨ps, if_f (and_t (c1.trans (by rw [decide_eq_true h1])) (c2.trans (by rw [decide_eq_false h2]))) rfl, hp, by omega⟩
  · exact ⟨ps, if_f (and_f (c1.trans (by rw [decide_eq_false h1]))) rfl, hp, by omega⟩
theorem web_18 (hd : Dim f k m) (hp : OKp (f + k) ps) (hl : ps.length < 500) : ∃ ps', t_l_web_18 (mE t f k m sty b ps s8 .no) = .ok .nx (mE t f k m sty b ps' s8 .no) ∧ OKp (f + k) ps' ∧ ps'.length ≤ ps.length + 3 := by
  have c1 := gt_run (a := mVar 2) (b := mC (.int 1)) (i := k) (j := 1) (Γ := mE t f k m sty b ps s8 .no) rfl rfl
  have c2 := eq_run (a := mVar 6) (b := mC (.int 3)) (i := b) (j := 3) (Γ := mE t f k m sty b ps s8 .no) rfl rfl
  by_cases h1 : (1 : Int) < k
  · by_cases h2 : (b : Int) = 3
    · refine ⟨ps ++ [(f, f + 1), (f + 1, f), (f, f + 1)], if_t (and_t (c1.trans (by rw [decide_eq_true h1])) (c2.trans (by rw [decide_eq_true h2]))) (ext7 (s12 := .no) (by rfl) (by simp; omega)), hp.app fun p hp => ?_, by simp⟩
      simp at hp
      rcases hp with rfl | rfl | rfl <;> exact ⟨by show _ < f + k; simp; omega, by show _ < f + k; simp; omega⟩
    · exact ⟨ps, if_f (and_t (c1.trans (by rw [decide_eq_true h1])) (c2.trans (by rw [decide_eq_false h2]))) rfl, hp, by omega⟩
  · exact ⟨ps, if_f (and_f (c1.trans (by rw [decide_eq_false h1]))) rfl, hp, by omega⟩
end
end K29

set_option Elab.async false
set_option linter.all false
set_option maxRecDepth 100000
set_option maxHeartbeats 4000000
namespace K29
open PySem PySem.Spec PyProof.Rows L2 L2H XT GX RD SX PU
theorem callO3 {F : MF} {Γ Γ1 Γ2 Γ3 : EV} {m1 m2 m3 : ME} {a b c : D} {r : Vl} {i : Nat} {bb bc : Bool} {t t1 t' : List D} {o o2 o3 : Sl} (h : Γ[i]? = some (.ow bb t)) (h1 : m1 Γ = .ok (.fz a) Γ1) (h2 : m2 Γ1 = .ok (.fz b) Γ2) (h3 : m3 Γ2 = .ok (.fz c) Γ3) (h4 : Γ3[i]? = some (.ow bc t1)) (e : F [.lst t1, a, b, c] = .ok r [.ow true t', o, o2, o3]) :
    mCall [true, false, false, false] F (mCons (mVar i) (mCons m1 (mCons m2 (mCons m3 mNil)))) Γ = .ok r (Γ3.set i (.ow bc t')) := by
  simp [h, h1, h2, h3, h4, e, runF, initE, mRet, mRetN, mAnd, mOr, mNot, mCall, mCallK, gp, mCons, mNil, mVar, mC, doCall, coolA, cool, Vl.op, dsOf, ixs, putOuts, put1, putO, endF, outsOf, mChain, mBin, mTest, mTru, truD, mAndT, mOrT, mNotT, mIf, mIfS, mSeq, mSet, setV, freeAt, mExpr, mSkip, mFn, peeks, peek, mIsi, tyD, isiB, lenD, leD, ltD, gtD, geD, cmpI, addD, subD, mTup, mLst, cools, mRaise, mNeg, idxD, eqD, neD, eqB, ownAt, mYes]
theorem callO4 {F : MF} {Γ Γ1 Γ2 Γ3 Γ4 : EV} {m1 m2 m3 m4 : ME} {a b c d : D} {r : Vl} {i : Nat} {bb bc : Bool} {t t1 t' : List D} {o o2 o3 o4 : Sl} (h : Γ[i]? = some (.ow bb t)) (h1 : m1 Γ = .ok (.fz a) Γ1) (h2 : m2 Γ1 = .ok (.fz b) Γ2) (h3 : m3 Γ2 = .ok (.fz c) Γ3) (h3' : m4 Γ3 = .ok (.fz d) Γ4) (h4 : Γ4[i]? = some (.ow bc t1)) (e : F [.lst t1, a, b, c, d] = .ok r [.ow true t', o, o2, o3, o4]) :
    mCall [true, false, false, false, false] F (mCons (mVar i) (mCons m1 (mCons m2 (mCons m3 (mCons m4 mNil))))) Γ = .ok r (Γ4.set i (.ow bc t')) := by
  simp [h, h1, h2, h3, h3', h4, e, runF, initE, mRet, mRetN, mAnd, mOr, mNot, mCall, mCallK, gp, mCons, mNil, mVar, mC, doCall, coolA, cool, Vl.op, dsOf, ixs, putOuts, put1, putO, endF, outsOf, mChain, mBin, mTest, mTru, truD, mAndT, mOrT, mNotT, mIf, mIfS, mSeq, mSet, setV, freeAt, mExpr, mSkip, mFn, peeks, peek, mIsi, tyD, isiB, lenD, leD, ltD, gtD, geD, cmpI, addD, subD, mTup, mLst, cools, mRaise, mNeg, idxD, eqD, neD, eqB, ownAt, mYes]
theorem cut_take {ds : List D} {m : Nat} : SX.cutD ds none (some (m : Int)) = ds.take m := by
  have k1 : HT.sIx ds.length 0 none = 0 := rfl
  have k2 : HT.sIx ds.length ds.length (some (m : Int)) = min m ds.length := by unfold HT.sIx; simp; omega
  unfold SX.cutD
  rw [k1, k2, List.drop_zero, Nat.sub_zero]
  by_cases h : m ≤ ds.length
  · rw [Nat.min_eq_left h]
  · rw [Nat.min_eq_right (by omega), List.take_of_length_le (by omega), List.take_of_length_le (by omega)]
section
variable {t : List D} {f k m sty b : Nat} {ps : List (Nat × Nat)} {s8 s12 : Sl}
theorem web_20 (ht : Tp t) (hd : Dim f k m) (hp : OKp (f + k) ps) (hl : ps.length < 500) (h8 : FS s8) : ∃ t' ps' s8' s12', t_l_web_20 (mE t f k m sty b ps s8 .no) = .ok .nx (mE t' f k m sty b ps' s8' s12') ∧ Tp t' ∧ OKp (f + k) ps' ∧ ps'.length < 600 := by
  have := hd.f2
  have := hd.f12
  have := hd.k24
  let R (t : List D) : EV := [.fz (.int f), .fz (.int k), .fz (.int m), .fz (.int ((f + k : Nat) : Int)), .fz (.int sty), .fz (.int b), .ow false (ps.map eP), s8, .no, .no, .no, .no, .no]
  obtain ⟨a, t1, e1, a1, ht1⟩ := pick0 (Γr := R t) (me := mC (.int 4)) (m := 4) ht rfl (by decide) (by decide)
  obtain ⟨c, t2, e2, c1, ht2⟩ := pick0 (Γr := R t1) (me := mC (.int 2)) (m := 2) ht1 rfl (by decide) (by decide)
  have hi : i_l_web_20 (mE t f k m sty b ps s8 .no) = .ok (rngD 0 (a + 3 * c + (m - 9) / 2)) (mE t2 f k m sty b ps s8 .no) := by
    have hm := hd.m60
    have d1 : mBin fdivD (mBin subD (mVar 3) (mC (.int 9))) (mC (.int 2)) (mE t2 f k m sty b ps s8 .no) = .ok (.fz (.int (((m - 9) / 2 : Nat) : Int))) (mE t2 f k m sty b ps s8 .no) :=
      (div_run (i := (m : Int) - 9) (j := 2) (sub_run (a := mVar 3) (b := mC (.int 9)) rfl rfl) rfl (by decide) (by decide +kernel)).trans (by rw [show ((m : Int) - 9) / 2 = (((m - 9) / 2 : Nat) : Int) by omega])
    have d2 : mBin mulD (mC (.int 3)) (mCall io_l_pick m_l_pick (mCons (mVar 0) (mCons (mC (.int 2)) mNil))) (.ow true t1 :: R t1) = .ok (.fz (.int (3 * (c : Int)))) (.ow true t2 :: R t1) := mul_run rfl e2 (by unfold mulOk; simp)
    have d3 : mBin addD (mBin addD (mCall io_l_pick m_l_pick (mCons (mVar 0) (mCons (mC (.int 4)) mNil))) (mBin mulD (mC (.int 3)) (mCall io_l_pick m_l_pick (mCons (mVar 0) (mCons (mC (.int 2)) mNil))))) (mBin fdivD (mBin subD (mVar 3) (mC (.int 9))) (mC (.int 2))) (mE t f k m sty b ps s8 .no) = .ok (.fz (.int ((a + 3 * c + (m - 9) / 2 : Nat) : Int))) (mE t2 f k m sty b ps s8 .no) := by
      rw [show ((a + 3 * c + (m - 9) / 2 : Nat) : Int) = (a : Int) + 3 * (c : Int) + (((m - 9) / 2 : Nat) : Int) by omega]
      exact add_run (add_run e1 d2) d1
    exact rng_run (n := a + 3 * c + (m - 9) / 2) (cons_run d3 (nil_run _)) (by omega)
  obtain ⟨Γ', e, hI⟩ := for_run (g := g_l_web_20) (b := b_l_web_20) (items := rngD 0 (a + 3 * c + (m - 9) / 2))
    (fun j Γ => ∃ t ps' s8 s12, FS s8 ∧ FS s12 ∧ Γ = mE t f k m sty b ps' s8 s12 ∧ Tp t ∧ OKp (f + k) ps' ∧ ps'.length = ps.length + j)
    (fun j d hj Γ hI => by
      obtain ⟨t, ps', s8, s12, f8, f12', rfl, ht, hp', hl'⟩ := hI
      obtain ⟨hj1, rfl⟩ := rng_at hj
      have hm := hd.m60
      let R2 (t : List D) (s8 : Sl) : EV := [.fz (.int f), .fz (.int k), .fz (.int m), .fz (.int ((f + k : Nat) : Int)), .fz (.int sty), .fz (.int b), .ow false (ps'.map eP), s8, .no, .no, .no, .fz (.int j), .no]
      obtain ⟨l, t1, e1, l1, ht1⟩ := pick0 (Γr := R2 t s8) (me := mVar 4) (m := f + k) ht rfl (by omega) (by omega)
      have s21 : t_l_web_21 (mE t f k m sty b ps' s8 (.fz (.int j))) = .ok .nx (mE t1 f k m sty b ps' (.fz (.int l)) (.fz (.int j))) := set_run (v := .fz (.int l)) (Γ1 := mE t1 f k m sty b ps' s8 (.fz (.int j))) e1 (by rcases f8 with rfl | ⟨_, rfl⟩ <;> rfl)
      obtain ⟨x, t2, e2, x1, ht2⟩ := pick0 (Γr := R2 t1 (.fz (.int l))) (me := mBin subD (mVar 4) (mC (.int 1))) (m := f + k - 1) ht1 ((sub_run (a := mVar 4) (b := mC (.int 1)) (i := ((f + k : Nat) : Int)) (j := 1) rfl rfl).trans (by rw [show ((f + k : Nat) : Int) - 1 = ((f + k - 1 : Nat) : Int) by omega])) (by omega) (by omega)
      have e3 : mBin modD (mFn intSD (mCons (mBin addD (mBin addD (mVar 8) (mC (.int 1))) (mCall io_l_pick m_l_pick (mCons (mVar 0) (mCons (mBin subD (mVar 4) (mC (.int 1))) mNil)))) mNil)) (mVar 4) (mE t1 f k m sty b ps' (.fz (.int l)) (.fz (.int j))) = .ok (.fz (.int (((l + 1 + x) % (f + k) : Nat) : Int))) (mE t2 f k m sty b ps' (.fz (.int l)) (.fz (.int j))) := by
        rw [show (((l + 1 + x) % (f + k) : Nat) : Int) = ((l : Int) + 1 + x) % ((f + k : Nat) : Int) by rw [show (l : Int) + 1 + (x : Int) = ((l + 1 + x : Nat) : Int) by omega, ← Int.natCast_emod]]
        exact mod_run (b := mVar 4) (ofi_run (add_run (add_run (a := mVar 8) (b := mC (.int 1)) rfl rfl) e2)) rfl (by omega)
      have s22 : t_l_web_22 (mE t1 f k m sty b ps' (.fz (.int l)) (.fz (.int j))) = .ok .nx (mE t2 f k m sty b (ps' ++ [(l, (l + 1 + x) % (f + k))]) (.fz (.int l)) (.fz (.int j))) :=
        ap7 (p := (l, (l + 1 + x) % (f + k))) (tupm_run (cons_run (v := .fz (.int l)) rfl (cons_run e3 (nil_run _))) rfl (by simp)) (by omega)
      refine ⟨mE t f k m sty b ps' s8 (.fz (.int j)), _, by rcases f12' with rfl | ⟨_, rfl⟩ <;> rfl, sq s21 s22, t2, _, _, _, .fz, .fz, rfl, ht2, hp'.app (.one l1 (Nat.mod_lt _ (by omega))), by rw [List.length_append, List.length_singleton]; omega⟩)
    (Γ := mE t2 f k m sty b ps s8 .no) ⟨t2, ps, s8, .no, h8, FS.no, rfl, ht2, hp, by omega⟩
  obtain ⟨t', ps', s8', s12', _, _, rfl, ht', hp', hl'⟩ := hI
  rw [rng_len] at hl'
  have hm := hd.m60
  exact ⟨t', ps', s8', s12', for_nx hi e, ht', hp', by omega⟩
abbrev nE (t : List D) (f k m sty b : Nat) (ps : List (Nat × Nat)) (s8 s9 s10 s11 s12 s13 : Sl) : EV :=
  [.ow true t, .fz (.int f), .fz (.int k), .fz (.int m), .fz (.int ((f + k : Nat) : Int)), .fz (.int sty), .fz (.int b), .ow false (ps.map eP), s8, s9, s10, s11, s12, s13]
theorem web_23 (hd : Dim f k m) : ∃ ns : List Str, ns.length = f ∧ t_l_web_23 (mE t f k m sty b ps s8 s12) = .ok .nx (nE t f k m sty b ps s8 (.ow false (ns.map .str)) .no .no .no .no) := by
  have f2 := hd.f2
  have f12 := hd.f12
  have hr : mIR1 (mCons (mBin subD (mVar 1) (mC (.int 2))) mNil) (mE t f k m sty b ps s8 s12) = .ok (rngD 0 (f - 2)) (mE t f k m sty b ps s8 s12) := rng_run (n := f - 2) (cons_run ((sub_run (a := mVar 1) (b := mC (.int 2)) (i := f) (j := 2) rfl rfl).trans (by rw [show (f : Int) - 2 = ((f - 2 : Nat) : Int) by omega])) (nil_run _)) (by omega)
  obtain ⟨acc, Γ', e, ns, h1, rfl, h2⟩ := lc_inv (g := gN 12) (mt := mYes) (me := mCall io_l_name m_l_name (mCons (mVar 5) (mCons (mBin addD (mC (.int 100)) (mVar 12)) mNil))) (vs := [12]) (items := rngD 0 (f - 2)) (fun j acc Γ => ∃ ns : List Str, acc = ns.map .str ∧ Γ = mE t f k m sty b ps s8 .no ∧ ns.length = j) (fun j d acc Γ hj hI => by
    obtain ⟨ns, rfl, rfl, hn⟩ := hI
    obtain ⟨h1, rfl⟩ := rng_at hj
    obtain ⟨w, hw⟩ := z_name (s := sty) (p := 100 + j) (by omega)
    refine ⟨mE t f k m sty b ps s8 (.fz (.int j)), rfl, .inl ⟨_, .fz (.str w), mE t f k m sty b ps s8 (.fz (.int j)), .str w, _, rfl, call2 (F := m_l_name) (a := .int sty) (b := .int ((100 + j : Nat) : Int)) (Γ1 := mE t f k m sty b ps s8 (.fz (.int j))) rfl rfl hw, rfl, ns ++ [w], by simp, rfl, by simp; omega⟩⟩)
    (Γ := mE t f k m sty b ps s8 .no) ⟨[], rfl, rfl, rfl⟩ (by rw [rng_len]; omega)
  rw [rng_len] at h2
  refine ⟨("low" : Str) :: ("high" : Str) :: ns, by simp; omega, set_run (v := .ow ((("low" : Str) :: ("high" : Str) :: ns).map .str)) (Γ1 := mE t f k m sty b ps s8 .no) ?_ rfl⟩
  refine bin_run (va := .ow [.str "low", .str "high"]) (vb := .ow (ns.map .str)) (dx := .lst [.str "low", .str "high"]) (dy := .lst (ns.map .str)) (Γ1 := mE t f k m sty b ps s8 s12) rfl ?_ rfl rfl ?_
  · show (mIR1 _ _).bind _ = _
    rw [hr, Out.bind_ok]
    rw [h1] at e
    exact e
  · show (if [D.str "low", .str "high"].length + (ns.map D.str).length ≤ sizeLine then some (Vl.ow ([D.str "low", .str "high"] ++ ns.map .str)) else none) = _
    rw [if_pos (by rw [List.length_map]; unfold sizeLine; simp; omega)]
    rfl
theorem web_24 {ns : List Str} (ht : Tp t) (hd : Dim f k m) : ∃ (t' : List D) (sz : List (Str × Int)), Tp t' ∧ sz.length = k ∧ (∀ p ∈ sz, (1 : Int) ≤ p.2 ∧ p.2 ≤ 4) ∧ t_l_web_24 (nE t f k m sty b ps s8 (.ow false (ns.map .str)) .no .no .no .no) = .ok .nx (nE t' f k m sty b ps s8 (.ow false (ns.map .str)) (.ow false (sz.map sizD)) .no .no .no) := by
  have k24 := hd.k24
  have hr : mIR1 (mCons (mVar 2) mNil) (nE t f k m sty b ps s8 (.ow false (ns.map .str)) .no .no .no .no) = .ok (rngD 0 k) (nE t f k m sty b ps s8 (.ow false (ns.map .str)) .no .no .no .no) := rng_run (n := k) rfl (by omega)
  obtain ⟨acc, Γ', e, t', sz, h1, rfl, ht', h2, h3⟩ := lc_inv (g := gN 12) (mt := mYes) (me := mTup (mCons (mCall io_l_name m_l_name (mCons (mVar 5) (mCons (mVar 12) mNil))) (mCons (mBin addD (mC (.int 1)) (mCall io_l_pick m_l_pick (mCons (mVar 0) (mCons (mC (.int 4)) mNil)))) mNil))) (vs := [12]) (items := rngD 0 k)
    (fun j acc Γ => ∃ (t : List D) (sz : List (Str × Int)), acc = sz.map sizD ∧ Γ = nE t f k m sty b ps s8 (.ow false (ns.map .str)) .no .no .no .no ∧ Tp t ∧ sz.length = j ∧ ∀ p ∈ sz, (1 : Int) ≤ p.2 ∧ p.2 ≤ 4) (fun j d acc Γ hj hI => by
    obtain ⟨t, sz, rfl, rfl, ht, hn, hs⟩ := hI
    obtain ⟨h1, rfl⟩ := rng_at hj
    obtain ⟨w, hw⟩ := z_name (s := sty) (p := j) (by omega)
    obtain ⟨x, t1, e1, x1, ht1⟩ := pick0 (Γr := [.fz (.int f), .fz (.int k), .fz (.int m), .fz (.int ((f + k : Nat) : Int)), .fz (.int sty), .fz (.int b), .ow false (ps.map eP), s8, .ow false (ns.map .str), .no, .no, .fz (.int j), .no]) (me := mC (.int 4)) (m := 4) ht rfl (by decide) (by decide)
    have c1 : mCall io_l_name m_l_name (mCons (mVar 5) (mCons (mVar 12) mNil)) (nE t f k m sty b ps s8 (.ow false (ns.map .str)) .no .no (.fz (.int j)) .no) = .ok (.fz (.str w)) (nE t f k m sty b ps s8 (.ow false (ns.map .str)) .no .no (.fz (.int j)) .no) := call2 (F := m_l_name) (a := .int sty) (b := .int (j : Nat)) rfl rfl hw
    have c2 : mBin addD (mC (.int 1)) (mCall io_l_pick m_l_pick (mCons (mVar 0) (mCons (mC (.int 4)) mNil))) (nE t f k m sty b ps s8 (.ow false (ns.map .str)) .no .no (.fz (.int j)) .no) = .ok (.fz (.int (1 + x))) (nE t1 f k m sty b ps s8 (.ow false (ns.map .str)) .no .no (.fz (.int j)) .no) := add_run rfl e1
    refine ⟨nE t f k m sty b ps s8 (.ow false (ns.map .str)) .no .no (.fz (.int j)) .no, rfl, .inl ⟨_, .fz (sizD (w, 1 + x)), nE t1 f k m sty b ps s8 (.ow false (ns.map .str)) .no .no (.fz (.int j)) .no, sizD (w, 1 + x), _, rfl, tupm_run (cons_run c1 (cons_run c2 (nil_run _))) rfl (by simp), rfl, t1, sz ++ [(w, 1 + (x : Int))], by simp, rfl, ht1, by simp; omega, fun p hp => ?_⟩⟩
    rcases List.mem_append.mp hp with hp | hp
    · exact hs p hp
    · obtain rfl := List.mem_singleton.mp hp
      exact ⟨by show (1 : Int) ≤ 1 + x; omega, by show (1 : Int) + x ≤ 4; omega⟩)
    (Γ := nE t f k m sty b ps s8 (.ow false (ns.map .str)) .no .no .no .no) ⟨t, [], rfl, rfl, ht, rfl, fun p hp => by simp at hp⟩ (by rw [rng_len]; omega)
  rw [rng_len] at h2
  refine ⟨t', sz, ht', h2, h3, set_run (v := .ow (sz.map sizD)) (Γ1 := nE t' f k m sty b ps s8 (.ow false (ns.map .str)) .no .no .no .no) ?_ rfl⟩
  show (mIR1 _ _).bind _ = _
  rw [hr, Out.bind_ok]
  rw [h1] at e
  exact e
theorem web_25 {ns : List Str} {sz : List (Str × Int)} (ht : Tp t) (hd : Dim f k m) (hp : OKp (f + k) ps) (hl : ps.length < 600) : ∃ (t' : List D) (rows : List Rw), Tp t' ∧ rows.length ≤ m ∧ (∀ w ∈ rows, 1 ≤ w.s ∧ w.s ≤ 6 ∧ w.l < f + k ∧ w.r < f + k) ∧ t_l_web_25 (nE t f k m sty b ps s8 (.ow false (ns.map .str)) (.ow false (sz.map sizD)) .no .no .no) = .ok .nx (nE t' f k m sty b ps s8 (.ow false (ns.map .str)) (.ow false (sz.map sizD)) (.ow false (rows.map rowD)) .no .no) := by
  have f2 := hd.f2
  have f12 := hd.f12
  have k24 := hd.k24
  let X (t : List D) (s11 s13 : Sl) : EV := nE t f k m sty b ps s8 (.ow false (ns.map .str)) (.ow false (sz.map sizD)) s11 .no s13
  have hi : mIL (mSl (mVar 7) mONo (mOSo (mVar 3))) (X t .no .no) = .ok ((ps.take m).map eP) (X t .no .no) := by
    have hs : mSl (mVar 7) mONo (mOSo (mVar 3)) (X t .no .no) = .ok (.ow ((ps.take m).map eP)) (X t .no .no) := by
      have : SX.cutD (ps.map eP) none (some (m : Int)) = (ps.take m).map eP := by rw [cut_take, List.map_take]
      rw [← this]
      rfl
    unfold mIL
    rw [hs]
    rfl
  obtain ⟨acc, Γ', e, t', rows, h1, rfl, ht', h2, h3⟩ := lc_inv (g := gN 13) (mt := mYes) (me := mCall io_l_row m_l_row (mCons (mVar 0) (mCons (mBin idxD (mVar 13) (mC (.int 0))) (mCons (mBin idxD (mVar 13) (mC (.int 1))) (mCons (mVar 4) mNil))))) (vs := [13]) (items := (ps.take m).map eP)
    (fun j acc Γ => ∃ (t : List D) (rows : List Rw), acc = rows.map rowD ∧ Γ = X t .no .no ∧ Tp t ∧ rows.length = j ∧ ∀ w ∈ rows, 1 ≤ w.s ∧ w.s ≤ 6 ∧ w.l < f + k ∧ w.r < f + k) (fun j d acc Γ hj hI => by
    obtain ⟨t, rows, rfl, rfl, ht, hn, hs⟩ := hI
    rw [List.getElem?_map] at hj
    obtain ⟨p, hjp, rfl⟩ := Option.map_eq_some_iff.mp hj
    obtain ⟨p1, p2⟩ := hp p (List.mem_of_mem_take (List.mem_of_getElem? hjp))
    obtain ⟨w, t1, e1, ht1, w1, w2, w3, w4⟩ := z_row (l := p.1) (r := p.2) (tot := f + k) ht (by omega) (by omega)
    have c1 : mCall io_l_row m_l_row (mCons (mVar 0) (mCons (mBin idxD (mVar 13) (mC (.int 0))) (mCons (mBin idxD (mVar 13) (mC (.int 1))) (mCons (mVar 4) mNil)))) (X t .no (.fz (eP p))) = .ok (.fz (rowD w)) (X t1 .no (.fz (eP p))) := by
      have h13 : mBin idxD (mVar 13) (mC (.int 0)) (X t .no (.fz (eP p))) = .ok (.fz (.int p.1)) (X t .no (.fz (eP p))) := rfl
      have h14 : mBin idxD (mVar 13) (mC (.int 1)) (X t .no (.fz (eP p))) = .ok (.fz (.int p.2)) (X t .no (.fz (eP p))) := rfl
      exact callO3 (F := m_l_row) (i := 0) (bb := true) (bc := true) (m3 := mVar 4) (Γ3 := X t .no (.fz (eP p))) rfl h13 h14 rfl rfl e1
    refine ⟨X t .no (.fz (eP p)), rfl, .inl ⟨_, .fz (rowD w), X t1 .no (.fz (eP p)), rowD w, _, rfl, c1, rfl, t1, rows ++ [w], by simp, rfl, ht1, by simp; omega, fun w' hw => ?_⟩⟩
    rcases List.mem_append.mp hw with hw | hw
    · exact hs w' hw
    · obtain rfl := List.mem_singleton.mp hw
      exact ⟨w1, w2, by omega, by omega⟩)
    (Γ := X t .no .no) ⟨t, [], rfl, rfl, ht, rfl, fun p hp => by simp at hp⟩ (by rw [List.length_map, List.length_take]; omega)
  rw [List.length_map, List.length_take] at h2
  refine ⟨t', rows, ht', by omega, h3, set_run (v := .ow (rows.map rowD)) (Γ1 := X t' .no .no) ?_ rfl⟩
  show (mIL _ _).bind _ = _
  have hi : mIL (mSl (mVar 7) mONo (mOSo (mVar 3))) (nE t f k m sty b ps s8 (.ow false (ns.map .str)) (.ow false (sz.map sizD)) .no .no .no) = .ok ((ps.take m).map eP) (X t .no .no) := hi
  rw [hi, Out.bind_ok]
  rw [h1] at e
  exact e
end
theorem z_web {t : List D} (ht : Tp t) : ∃ (n : Nt) (t' : List D), m_l_web [.lst t] = .ok (.fz (netD n)) [.ow true t'] ∧ Tp t' ∧ Good n := by
  obtain ⟨t1, f, k, m, sty, b, ht1, hd, hb, hsty, h⟩ := web_head ht (mSeq t_l_web_12 (mSeq t_l_web_14 (mSeq t_l_web_16 (mSeq t_l_web_18 (mSeq t_l_web_20 (mSeq t_l_web_23 (mSeq t_l_web_24 (mSeq t_l_web_25 t_l_web_26))))))))
  obtain ⟨t2, p2, r2, ht2, q2, l2⟩ := web_12 (m := m) (sty := sty) (b := b) (ps := []) (s8 := .no) (s12 := .no) ht1 hd (fun p hp => by simp at hp) (by simp)
  have l2 : p2.length ≤ 1 := l2
  obtain ⟨p3, _, r3, q3, l3, _⟩ := web_14 (t := t2) (sty := sty) (b := b) (s8 := .no) hd q2 (by omega)
  obtain ⟨p4, r4, q4, l4⟩ := web_16 (t := t2) (sty := sty) (b := b) (s8 := .no) hd q3 (by omega)
  obtain ⟨p5, r5, q5, l5⟩ := web_18 (t := t2) (sty := sty) (b := b) (s8 := .no) hd q4 (by omega)
  obtain ⟨t6, p6, s8, s12, r6, ht6, q6, l6⟩ := web_20 (sty := sty) (b := b) (s8 := .no) ht2 hd q5 (by omega) FS.no
  obtain ⟨ns, hns, r7⟩ := web_23 (t := t6) (m := m) (sty := sty) (b := b) (ps := p6) (s8 := s8) (s12 := s12) hd
  obtain ⟨t8, sz, ht8, hsz, hs4, r8⟩ := web_24 (sty := sty) (b := b) (ps := p6) (s8 := s8) (ns := ns) ht6 hd
  obtain ⟨t9, rows, ht9, hrl, hrw, r9⟩ := web_25 (sty := sty) (b := b) (ps := p6) (s8 := s8) (ns := ns) (sz := sz) ht8 hd q6 l6
  have f2 := hd.f2
  have f12 := hd.f12
  have k24 := hd.k24
  have m60 := hd.m60
  let n : Nt := ⟨ns, sz, rows⟩
  have hN : n.N = f + k := by show ns.length + sz.length = f + k; omega
  refine ⟨n, t9, ?_, ht9, ⟨by show 2 ≤ ns.length; omega, by show ns.length ≤ 12; omega, by show sz.length ≤ 24; omega, by show rows.length ≤ 60; omega, hs4, fun w hw => by rw [hN]; exact hrw w hw⟩⟩
  let Γ9 : EV := nE t9 f k m sty b p6 s8 (.ow false (ns.map .str)) (.ow false (sz.map sizD)) (.ow false (rows.map rowD)) .no .no
  have r10 : t_l_web_26 Γ9 = .ok (.rt (.fz (netD n))) Γ9 := ret_run (tupm_run (cons_run (fn1_run (v := .bw 9) rfl rfl rfl) (cons_run (fn1_run (v := .bw 10) rfl rfl rfl) (cons_run (fn1_run (v := .bw 11) rfl rfl rfl) (nil_run _)))) rfl (by simp))
  refine run_rt (v := .fz (netD n)) (Γ' := Γ9) rfl ?_ rfl
  show bd_l_web [.ow true t, .no, .no, .no, .no, .no, .no, .no, .no, .no, .no, .no, .no, .no] = _
  rw [bq_l_web, h]
  exact sq r2 (sq r3 (sq r4 (sq r5 (sq r6 (sq r7 (sq r8 (sq r9 r10)))))))
end K29

set_option Elab.async false
set_option linter.all false
set_option maxRecDepth 100000
set_option maxHeartbeats 4000000
namespace K29
open PySem PySem.Spec PyProof.Rows L2 L2H XT GX RD SX PU
/-! ### starts and floors that are drawn -/
theorem rk_ok {n : Nt} (G : Good n) {v : Nat} (h : v < n.N) : 0 ≤ rk n v ∧ rk n v ≤ 11 := by
  unfold rk
  split
  · exact ⟨by decide, by decide⟩
  · have hk : v - n.F < n.sized.length := by have h3 : v < n.F + n.T := h; show v - n.F < n.T; omega
    rw [List.getD_eq_getElem?_getD, List.getElem?_eq_getElem hk]
    have := G.sz _ (List.getElem_mem hk)
    show 0 ≤ (n.sized[v - n.F]).2 ∧ (n.sized[v - n.F]).2 ≤ 11
    omega
abbrev gE (n : Nt) (t : List D) (y : Nat) (s4 : Sl) : EV := [.ow true t, .fz (netD n), .fz (.int n.N), .fz (.int y), s4]
theorem beg_lc {n : Nt} {y : Nat} {me : ME} (G : Good n) (hm : ∀ (t : List D) (j : Nat), Tp t → j < n.N → ∃ (t' : List D) (x : Int), me (gE n t y (.fz (.int j))) = .ok (.fz (.int x)) (gE n t' y (.fz (.int j))) ∧ Tp t' ∧ 0 ≤ x ∧ x ≤ 11) {t : List D} (ht : Tp t) :
    ∃ (t' : List D) (st : List Int), mFn tupD (mCons (mLc (mIR1 (mCons (mVar 2) mNil)) (gN 4) mYes me [4]) mNil) (gE n t y .no) = .ok (.fz (iD st)) (gE n t' y .no) ∧ Tp t' ∧ st.length = n.N ∧ ∀ x ∈ st, 0 ≤ x ∧ x ≤ 11 := by
  have hN : n.N ≤ 36 := by have := G.f12; have := G.t24; show n.F + n.T ≤ 36; omega
  have hr : mIR1 (mCons (mVar 2) mNil) (gE n t y .no) = .ok (rngD 0 n.N) (gE n t y .no) := rng_run (n := n.N) rfl (by omega)
  obtain ⟨acc, Γ', e, t', st, h1, rfl, ht', h2, h3⟩ := lc_inv (g := gN 4) (mt := mYes) (me := me) (vs := [4]) (items := rngD 0 n.N)
    (fun j acc Γ => ∃ (t : List D) (st : List Int), acc = st.map .int ∧ Γ = gE n t y .no ∧ Tp t ∧ st.length = j ∧ ∀ x ∈ st, 0 ≤ x ∧ x ≤ 11) (fun j d acc Γ hj hI => by
    obtain ⟨t, st, rfl, rfl, ht, hl, hs⟩ := hI
    obtain ⟨hj1, rfl⟩ := rng_at hj
    obtain ⟨t', x, e, ht', x0, x1⟩ := hm t j ht hj1
    refine ⟨gE n t y (.fz (.int j)), rfl, .inl ⟨_, .fz (.int x), gE n t' y (.fz (.int j)), .int x, _, rfl, e, rfl, t', st ++ [x], by simp, rfl, ht', by simp; omega, fun z hz => ?_⟩⟩
    rcases List.mem_append.mp hz with hz | hz
    · exact hs z hz
    · obtain rfl := List.mem_singleton.mp hz
      exact ⟨x0, x1⟩)
    (Γ := gE n t y .no) ⟨t, [], rfl, rfl, ht, rfl, fun p hp => by simp at hp⟩ (by rw [rng_len]; omega)
  rw [rng_len] at h2
  refine ⟨t', st, fn1_run (v := .ow (st.map .int)) ?_ rfl rfl, ht', h2, h3⟩
  show (mIR1 _ _).bind _ = _
  rw [hr, Out.bind_ok]
  rw [h1] at e
  exact e
theorem z_begins {n : Nt} {t : List D} (G : Good n) (ht : Tp t) : ∃ (t' : List D) (st : List Int), m_l_begins [.lst t, netD n] = .ok (.fz (iD st)) [.ow true t', .no] ∧ Tp t' ∧ st.length = n.N ∧ ∀ x ∈ st, 0 ≤ x ∧ x ≤ 11 := by
  have s1 : t_l_begins_1 [.ow true t, .fz (netD n), .no, .no, .no] = .ok .nx [.ow true t, .fz (netD n), .fz (.int n.N), .no, .no] := set_run (lN rfl) rfl
  obtain ⟨y, t1, e1, y1, ht1⟩ := pick0 (Γr := [.fz (netD n), .fz (.int n.N), .no, .no]) (me := mC (.int 3)) (m := 3) ht rfl (by decide) (by decide)
  have s2 : t_l_begins_2 [.ow true t, .fz (netD n), .fz (.int n.N), .no, .no] = .ok .nx (gE n t1 y .no) := set_run e1 rfl
  have c3 : c_l_begins_3 (gE n t1 y .no) = .ok (decide ((y : Int) = 0)) (gE n t1 y .no) := eq_run rfl rfl
  have c5 : c_l_begins_5 (gE n t1 y .no) = .ok (decide ((y : Int) = 1)) (gE n t1 y .no) := eq_run rfl rfl
  have fin : ∀ (t' : List D) (st : List Int), bd_l_begins [.ow true t, .fz (netD n), .no, .no, .no] = .ok (.rt (.fz (iD st))) (gE n t' y .no) → m_l_begins [.lst t, netD n] = .ok (.fz (iD st)) [.ow true t', .no] := fun t' st h => run_rt (v := .fz (iD st)) (Γ' := gE n t' y .no) rfl h rfl
  by_cases h0 : (y : Int) = 0
  · obtain ⟨t', st, e, ht', hl, hs⟩ := beg_lc (y := y) (me := mBin mulD (mCall io_l_rank m_l_rank (mCons (mVar 1) (mCons (mVar 4) mNil))) (mFn min2D (mCons (mC (.int 1)) (mCons (mCall io_l_pick m_l_pick (mCons (mVar 0) (mCons (mC (.int 3)) mNil))) mNil)))) G (fun t j ht hj => by
      obtain ⟨x, t', e, x1, ht'⟩ := pick0 (Γr := [.fz (netD n), .fz (.int n.N), .fz (.int y), .fz (.int j)]) (me := mC (.int 3)) (m := 3) ht rfl (by decide) (by decide)
      have e2 : mCall io_l_rank m_l_rank (mCons (mVar 1) (mCons (mVar 4) mNil)) (gE n t y (.fz (.int j))) = .ok (.fz (.int (rk n j))) (gE n t y (.fz (.int j))) := call2 (F := m_l_rank) rfl rfl (z_l_rank hj)
      have e3 : mFn min2D (mCons (mC (.int 1)) (mCons (mCall io_l_pick m_l_pick (mCons (mVar 0) (mCons (mC (.int 3)) mNil))) mNil)) (gE n t y (.fz (.int j))) = .ok (.fz (.int (min 1 (x : Int)))) (gE n t' y (.fz (.int j))) := min_run rfl e
      obtain ⟨r0, r1⟩ := rk_ok G hj
      refine ⟨t', rk n j * min 1 (x : Int), mul_run e2 e3 (by unfold mulOk; simp; omega), ht', ?_, ?_⟩
      · exact Int.mul_nonneg r0 (by omega)
      · have : min 1 (x : Int) = 0 ∨ min 1 (x : Int) = 1 := by omega
        rcases this with h | h <;> rw [h] <;> omega) ht1
    refine ⟨t', st, fin t' st ?_, ht', hl, hs⟩
    rw [bq_l_begins]
    exact sq s1 (sq s2 (seq_rt (if_t (c3.trans (by rw [decide_eq_true h0])) (ret_run e))))
  · by_cases h1 : (y : Int) = 1
    · obtain ⟨t', st, e, ht', hl, hs⟩ := beg_lc (y := y) (me := mCall io_l_pick m_l_pick (mCons (mVar 0) (mCons (mC (.int 12)) mNil))) G (fun t j ht hj => by
        obtain ⟨x, t', e, x1, ht'⟩ := pick0 (Γr := [.fz (netD n), .fz (.int n.N), .fz (.int y), .fz (.int j)]) (me := mC (.int 12)) (m := 12) ht rfl (by decide) (by decide)
        exact ⟨t', x, e, ht', by omega, by omega⟩) ht1
      refine ⟨t', st, fin t' st ?_, ht', hl, hs⟩
      rw [bq_l_begins]
      exact sq s1 (sq s2 (sq (if_f (c3.trans (by rw [decide_eq_false h0])) rfl) (seq_rt (if_t (c5.trans (by rw [decide_eq_true h1])) (ret_run e)))))
    · obtain ⟨t', st, e, ht', hl, hs⟩ := beg_lc (y := y) (me := mBin mulD (mCall io_l_pick m_l_pick (mCons (mVar 0) (mCons (mC (.int 12)) mNil))) (mBin fdivD (mCall io_l_pick m_l_pick (mCons (mVar 0) (mCons (mC (.int 3)) mNil))) (mC (.int 2)))) G (fun t j ht hj => by
        obtain ⟨x, t1, e, x1, ht1⟩ := pick0 (Γr := [.fz (netD n), .fz (.int n.N), .fz (.int y), .fz (.int j)]) (me := mC (.int 12)) (m := 12) ht rfl (by decide) (by decide)
        obtain ⟨z, t2, e2, z1, ht2⟩ := pick0 (Γr := [.fz (netD n), .fz (.int n.N), .fz (.int y), .fz (.int j)]) (me := mC (.int 3)) (m := 3) ht1 rfl (by decide) (by decide)
        refine ⟨t2, (x : Int) * ((z : Int) / 2), mul_run e (div_run e2 rfl (by decide) (by decide +kernel)) (by unfold mulOk; simp; omega), ht2, ?_, ?_⟩
        · exact Int.mul_nonneg (by omega) (by omega)
        · have : (z : Int) / 2 = 0 ∨ (z : Int) / 2 = 1 := by omega
          rcases this with h | h <;> rw [h] <;> omega) ht1
      refine ⟨t', st, fin t' st ?_, ht', hl, hs⟩
      rw [bq_l_begins]
      exact sq s1 (sq s2 (sq (if_f (c3.trans (by rw [decide_eq_false h0])) rfl) (sq (if_f (c5.trans (by rw [decide_eq_false h1])) rfl) (ret_run e))))
theorem max_run {m1 m2 : ME} {Γ Γ1 Γ2 : EV} {x y : Int} (h1 : m1 Γ = .ok (.fz (.int x)) Γ1) (h2 : m2 Γ1 = .ok (.fz (.int y)) Γ2) : mFn max2D (mCons m1 (mCons m2 mNil)) Γ = .ok (.fz (.int (max x y))) Γ2 := fn2_run h1 h2 (by
  unfold max2D
  simp only
  congr 3
  all_goals omega)
abbrev hE (t : List D) (xs fl : List Int) (s3 s4 : Sl) : EV := [.ow true t, .fz (iD xs), .ow false (fl.map .int), s3, s4]
theorem ap2 {t t1 : List D} {xs fl : List Int} {s3 s4 : Sl} {me : ME} {x : Int} (h : me (hE t xs fl s3 s4) = .ok (.fz (.int x)) (hE t1 xs fl s3 s4)) (hl : fl.length < 1000) : mExpr (mAppend 2 me) (hE t xs fl s3 s4) = .ok .nx (hE t1 xs (fl ++ [x]) s3 s4) := by
  refine app_run (q := (false, fl.map .int)) (d := .int x) rfl h rfl rfl (by rw [List.length_map]; unfold sizeLine; omega) ?_
  simp [hE]
theorem z_bars {t : List D} {xs : List Int} (ht : Tp t) (hx : ∀ x ∈ xs, 0 ≤ x ∧ x ≤ 11) (hl : xs.length < 500) : ∃ (t' : List D) (fl : List Int), m_l_bars [.lst t, iD xs] = .ok (.fz (iD fl)) [.ow true t', .no] ∧ Tp t' ∧ fl.length = xs.length ∧ ∀ x ∈ fl, 0 ≤ x ∧ x ≤ 12 := by
  obtain ⟨Γ', e, hI⟩ := for_run (g := g_l_bars_2) (b := b_l_bars_2) (items := xs.map .int)
    (fun j Γ => ∃ (t : List D) (fl : List Int) (s3 s4 : Sl), FS s3 ∧ FS s4 ∧ Γ = hE t xs fl s3 s4 ∧ Tp t ∧ fl.length = j ∧ ∀ x ∈ fl, 0 ≤ x ∧ x ≤ 12)
    (fun j d hj Γ hI => by
      obtain ⟨t, fl, s3, s4, f3, f4, rfl, ht, hfl, hb⟩ := hI
      rw [List.getElem?_map] at hj
      obtain ⟨v, hjv, rfl⟩ := Option.map_eq_some_iff.mp hj
      have hv := hx v (List.mem_of_getElem? hjv)
      have hjl := lt_of_get hjv
      obtain ⟨w, t1, e1, w1, ht1⟩ := pick0 (Γr := [.fz (iD xs), .ow false (fl.map .int), .fz (.int v), s4]) (me := mC (.int 6)) (m := 6) ht rfl (by decide) (by decide)
      have s3' : t_l_bars_3 (hE t xs fl (.fz (.int v)) s4) = .ok .nx (hE t1 xs fl (.fz (.int v)) (.fz (.int w))) := set_run (v := .fz (.int w)) (Γ1 := hE t1 xs fl (.fz (.int v)) s4) e1 (by rcases f4 with rfl | ⟨_, rfl⟩ <;> rfl)
      have c4 : c_l_bars_4 (hE t1 xs fl (.fz (.int v)) (.fz (.int w))) = .ok (decide ((w : Int) < 2)) (hE t1 xs fl (.fz (.int v)) (.fz (.int w))) := lt_run rfl rfl
      have c6 : c_l_bars_6 (hE t1 xs fl (.fz (.int v)) (.fz (.int w))) = .ok (decide ((w : Int) = 2)) (hE t1 xs fl (.fz (.int v)) (.fz (.int w))) := eq_run rfl rfl
      have fin : ∀ (t2 : List D) (x : Int), Tp t2 → 0 ≤ x → x ≤ 12 → t_l_bars_4 (hE t1 xs fl (.fz (.int v)) (.fz (.int w))) = .ok .nx (hE t2 xs (fl ++ [x]) (.fz (.int v)) (.fz (.int w))) → ∃ Γ1 Γ2, g_l_bars_2 (.int v) (hE t xs fl s3 s4) = some Γ1 ∧ b_l_bars_2 Γ1 = .ok .nx Γ2 ∧ ∃ (t : List D) (fl : List Int) (s3 s4 : Sl), FS s3 ∧ FS s4 ∧ Γ2 = hE t xs fl s3 s4 ∧ Tp t ∧ fl.length = j + 1 ∧ ∀ x ∈ fl, 0 ≤ x ∧ x ≤ 12 := fun t2 x ht2 x0 x1 h => by
        refine ⟨hE t xs fl (.fz (.int v)) s4, _, by rcases f3 with rfl | ⟨_, rfl⟩ <;> rfl, sq s3' h, t2, fl ++ [x], _, _, .fz, .fz, rfl, ht2, by simp; omega, fun z hz => ?_⟩
        rcases List.mem_append.mp hz with hz | hz
        · exact hb z hz
        · obtain rfl := List.mem_singleton.mp hz
          exact ⟨x0, x1⟩
      by_cases h1 : (w : Int) < 2
      · exact fin t1 0 ht1 (by decide) (by decide) (if_t (c4.trans (by rw [decide_eq_true h1])) (ap2 rfl (by omega)))
      · by_cases h2 : (w : Int) = 2
        · obtain ⟨x, t2, e2, x1, ht2⟩ := pick0 (Γr := [.fz (iD xs), .ow false (fl.map .int), .fz (.int v), .fz (.int w)]) (me := mC (.int 13)) (m := 13) ht1 rfl (by decide) (by decide)
          exact fin t2 x ht2 (by omega) (by omega) (if_f (c4.trans (by rw [decide_eq_false h1])) (if_t (c6.trans (by rw [decide_eq_true h2])) (ap2 e2 (by omega))))
        · exact fin t1 (max 0 (v + w - 4)) ht1 (by omega) (by omega) (if_f (c4.trans (by rw [decide_eq_false h1])) (if_f (c6.trans (by rw [decide_eq_false h2])) (ap2 (max_run rfl (sub_run (add_run rfl rfl) rfl)) (by omega)))))
    (Γ := hE t xs [] .no .no) ⟨t, [], _, _, FS.no, FS.no, rfl, ht, rfl, fun p hp => by simp at hp⟩
  obtain ⟨t', fl, s3, s4, _, _, rfl, ht', hfl, hb⟩ := hI
  rw [List.length_map] at hfl
  refine ⟨t', fl, run_rt (v := .fz (iD fl)) (Γ' := hE t' xs fl s3 s4) rfl ?_ rfl, ht', hfl, hb⟩
  show bd_l_bars [.ow true t, .fz (iD xs), .no, .no, .no] = _
  rw [bq_l_bars]
  exact sq (Γ1 := hE t xs [] .no .no) rfl (sq (for_nx (items := xs.map .int) rfl e) (ret_run (fn1_run (v := .bw 2) rfl rfl rfl)))
/-! ### rows that are spoilt -/
theorem cut_drop {ds : List D} {m : Nat} : SX.cutD ds (some (m : Int)) none = ds.drop m := by
  have k1 : HT.sIx ds.length 0 (some (m : Int)) = min m ds.length := by unfold HT.sIx; simp; omega
  have k2 : HT.sIx ds.length ds.length none = ds.length := rfl
  unfold SX.cutD
  rw [k1, k2]
  by_cases h : m ≤ ds.length
  · rw [Nat.min_eq_left h, List.take_of_length_le (by rw [List.length_drop]; exact Nat.le_refl _)]
  · rw [Nat.min_eq_right (by omega), List.drop_eq_nil_of_le (Nat.le_refl _), List.drop_eq_nil_of_le (by omega), List.take_nil]
theorem cut_last {ds : List D} (h : 0 < ds.length) : (SX.cutD ds none (some (-1))).length = ds.length - 1 := by
  have k1 : HT.sIx ds.length 0 none = 0 := rfl
  have k2 : HT.sIx ds.length ds.length (some (-1)) = ds.length - 1 := by unfold HT.sIx; simp; omega
  unfold SX.cutD
  rw [k1, k2, List.drop_zero, List.length_take]
  omega
/-- a value, new or not -/
def VD (v : Vl) (d : D) : Prop := v = .fz d ∨ ∃ ds, v = .ow ds ∧ d = .lst ds
theorem nums_len {n : Nt} {b : Int} {ds : List D} (h : ds.length ≠ n.N) : numsB n b (.tup ds) = false := by
  show (decide (ds.length = n.N) && _) = false
  rw [decide_eq_false h]; rfl
theorem nums_bad {n : Nt} {b : Int} {ds : List D} {x : D} (h : x ∈ ds) (hb : btw 0 b x = false) : numsB n b (.tup ds) = false := by
  have : ds.all (btw 0 b) = false := by
    rw [List.all_eq_false]
    exact ⟨x, h, by rw [hb]; decide⟩
  show (_ && ds.all (btw 0 b)) = false
  rw [this, Bool.and_false]
theorem z_spoilt {n : Nt} {st : List Int} {p w : Nat} {x : D} {b : Int} (G : Good n) (hl : st.length = n.N) (hx : btw 0 b x = false) : ∃ v d, m_l_spoilt [iD st, .int p, x, .int w] = .ok v [.no, .no, .no, .no] ∧ VD v d ∧ numsB n b d = false := by
  have f2 := G.f2
  have hN0 : 0 < n.N := by show 0 < n.F + n.T; omega
  have hN : n.N ≤ 36 := by have := G.f12; have := G.t24; show n.F + n.T ≤ 36; omega
  let Γ : EV := [.fz (iD st), .fz (.int p), .fz x, .fz (.int w)]
  have ml : (st.map D.int).length = n.N := by rw [List.length_map, hl]
  have c1 : c_l_spoilt_1 Γ = .ok (decide ((w : Int) = 0)) Γ := eq_run rfl rfl
  have c3 : c_l_spoilt_3 Γ = .ok (decide ((w : Int) = 1)) Γ := eq_run rfl rfl
  have c5 : c_l_spoilt_5 Γ = .ok (decide ((w : Int) = 2)) Γ := eq_run rfl rfl
  have c7 : c_l_spoilt_7 Γ = .ok (decide ((w : Int) = 3)) Γ := eq_run rfl rfl
  have fin : ∀ v : Vl, endF io_l_spoilt v Γ = .ok v [.no, .no, .no, .no] → bd_l_spoilt Γ = .ok (.rt v) Γ → m_l_spoilt [iD st, .int p, x, .int w] = .ok v [.no, .no, .no, .no] := fun v hv h => run_rt (Γ' := Γ) rfl h hv
  by_cases h0 : (w : Int) = 0
  · refine ⟨.ow (st.map .int), .lst (st.map .int), fin _ rfl ?_, .inr ⟨_, rfl, rfl⟩, rfl⟩
    rw [bq_l_spoilt]
    exact seq_rt (if_t (c1.trans (by rw [decide_eq_true h0])) (ret_run (fn1_run (v := .fz (iD st)) rfl rfl rfl)))
  by_cases h1 : (w : Int) = 1
  · refine ⟨.fz (.tup (SX.cutD (st.map .int) none (some (-1)))), _, fin _ rfl ?_, .inl rfl, nums_len (by rw [cut_last (by omega)]; omega)⟩
    rw [bq_l_spoilt]
    exact sq (if_f (c1.trans (by rw [decide_eq_false h0])) rfl) (seq_rt (if_t (c3.trans (by rw [decide_eq_true h1])) rfl))
  by_cases h2 : (w : Int) = 2
  · refine ⟨.fz (.tup (st.map .int ++ [.int 0])), _, fin _ rfl ?_, .inl rfl, nums_len (by rw [List.length_append, ml]; simp)⟩
    rw [bq_l_spoilt]
    refine sq (if_f (c1.trans (by rw [decide_eq_false h0])) rfl) (sq (if_f (c3.trans (by rw [decide_eq_false h1])) rfl) (seq_rt (if_t (c5.trans (by rw [decide_eq_true h2])) (ret_run ?_))))
    refine bin_run (va := .fz (iD st)) (vb := .fz (.tup [.int 0])) rfl rfl rfl rfl ?_
    show (if (st.map D.int).length + [D.int 0].length ≤ sizeLine then some (Vl.fz (.tup (st.map .int ++ [.int 0]))) else none) = _
    rw [if_pos (by rw [ml]; unfold sizeLine; simp; omega)]
  by_cases h3 : (w : Int) = 3
  · refine ⟨.fz .non, .non, fin _ rfl ?_, .inl rfl, rfl⟩
    rw [bq_l_spoilt]
    exact sq (if_f (c1.trans (by rw [decide_eq_false h0])) rfl) (sq (if_f (c3.trans (by rw [decide_eq_false h1])) rfl) (sq (if_f (c5.trans (by rw [decide_eq_false h2])) rfl) (seq_rt (if_t (c7.trans (by rw [decide_eq_true h3])) rfl))))
  · refine ⟨.fz (.tup ((st.map .int).take p ++ [x] ++ (st.map .int).drop (p + 1))), _, fin _ rfl ?_, .inl rfl, nums_bad (x := x) (by simp) hx⟩
    rw [bq_l_spoilt]
    refine sq (if_f (c1.trans (by rw [decide_eq_false h0])) rfl) (sq (if_f (c3.trans (by rw [decide_eq_false h1])) rfl) (sq (if_f (c5.trans (by rw [decide_eq_false h2])) rfl) (sq (if_f (c7.trans (by rw [decide_eq_false h3])) rfl) (ret_run ?_))))
    have a1 : mSl (mVar 0) mONo (mOSo (mVar 1)) Γ = .ok (.fz (.tup ((st.map .int).take p))) Γ := by
      rw [← cut_take]; rfl
    have a2 : mSl (mVar 0) (mOSo (mBin addD (mVar 1) (mC (.int 1)))) mONo Γ = .ok (.fz (.tup ((st.map .int).drop (p + 1)))) Γ := by
      rw [← cut_drop]; rfl
    have t1 : ((st.map D.int).take p).length ≤ 36 := by rw [List.length_take, ml]; omega
    have t2 : ((st.map D.int).drop (p + 1)).length ≤ 36 := by rw [List.length_drop, ml]; omega
    refine bin_run (va := .fz (.tup ((st.map .int).take p ++ [x]))) (vb := .fz (.tup ((st.map .int).drop (p + 1)))) (bin_run (va := .fz (.tup ((st.map .int).take p))) (vb := .fz (.tup [x])) a1 rfl rfl rfl ?_) a2 rfl rfl ?_
    · show (if ((st.map D.int).take p).length + [x].length ≤ sizeLine then some (Vl.fz (.tup ((st.map .int).take p ++ [x]))) else none) = _
      rw [if_pos (by unfold sizeLine; simp only [List.length_singleton]; omega)]
    · show (if ((st.map D.int).take p ++ [x]).length + ((st.map D.int).drop (p + 1)).length ≤ sizeLine then some (Vl.fz (.tup ((st.map .int).take p ++ [x] ++ (st.map .int).drop (p + 1)))) else none) = _
      rw [if_pos (by rw [List.length_append]; unfold sizeLine; simp only [List.length_singleton]; omega)]
end K29

set_option Elab.async false
set_option linter.all false
set_option maxRecDepth 100000
set_option maxHeartbeats 4000000
namespace K29
open PySem PySem.Spec PyProof.Rows L2 L2H XT GX RD SX PU
/-! ### all refusals -/
theorem atI_all {l : List D} {k : Nat} (h : k < l.length) : ∃ d, d ∈ l ∧ atI l (k : Int) = some d := PU.atI_mem (by omega) (by omega)
theorem six_at {k : Nat} (h : k < 6) : ∃ d, atI [D.bl true, .int (-1), .non, .str "1", .tup [.int 1], .bl false] (k : Int) = some d ∧ ∀ b, btw 0 b d = false := by
  obtain ⟨d, hd, e⟩ := atI_all (l := [D.bl true, .int (-1), .non, .str "1", .tup [.int 1], .bl false]) h
  refine ⟨d, e, fun b => ?_⟩
  simp at hd
  rcases hd with rfl | rfl | rfl | rfl | rfl | rfl
  · rfl
  · exact btw_f (by omega)
  · rfl
  · rfl
  · rfl
  · rfl
/-- no lots -/
def menu (n : Nt) (us : List Nat) : List D := [.tup ((us.map fun (k : Nat) => .int k) ++ [.int n.rows.length]), .lst (us.map fun (k : Nat) => .int k), .tup [.bl true], .tup [.int 0, .int 0], .tup [.int 1, .int 0], .tup ([.int (-1)] ++ us.map fun (k : Nat) => .int k), .non, .int 0, .str "", .tup [.non]]
theorem menu_ok {n : Nt} {us : List Nat} (hul : us.length ≤ 60) : ∀ d ∈ menu n us, okU n d = false ∧ ∀ ds, d = .tup ds → ds.length < 1000 := by
  intro d hd
  simp only [menu, List.mem_cons, List.not_mem_nil, or_false] at hd
  have lt : ∀ ds, lotT ds = false → okU n (.tup ds) = false := fun ds h => by show (lotT ds && _) = false; rw [h]; rfl
  have bad : ∀ (ds : List D) (x : D), x ∈ ds → isN x = false → lotT ds = false := fun ds x hx h => by
    have : ds.all isN = false := by
      rw [List.all_eq_false]
      exact ⟨x, hx, by rw [h]; decide⟩
    unfold lotT
    rw [this]; rfl
  rcases hd with rfl | rfl | rfl | rfl | rfl | rfl | rfl | rfl | rfl | rfl
  · refine ⟨?_, fun ds e => by cases e; simp; omega⟩
    have : ((us.map fun (k : Nat) => D.int k) ++ [D.int n.rows.length]).all (btw 0 (n.rows.length - 1)) = false := by
      rw [List.all_eq_false]
      exact ⟨D.int n.rows.length, by simp, by rw [btw_f (by omega)]; decide⟩
    show (_ && ((us.map fun (k : Nat) => D.int k) ++ [D.int n.rows.length]).all (btw 0 (n.rows.length - 1))) = false
    rw [this, Bool.and_false]
  · exact ⟨rfl, fun ds e => by cases e⟩
  · exact ⟨lt _ (bad _ (.bl true) (by simp) rfl), fun ds e => by cases e; simp⟩
  · exact ⟨lt _ rfl, fun ds e => by cases e; simp⟩
  · exact ⟨lt _ rfl, fun ds e => by cases e; simp⟩
  · exact ⟨lt _ (bad _ (.int (-1)) (by simp) rfl), fun ds e => by cases e; simp; omega⟩
  · exact ⟨rfl, fun ds e => by cases e⟩
  · exact ⟨rfl, fun ds e => by cases e⟩
  · exact ⟨rfl, fun ds e => by cases e⟩
  · exact ⟨lt _ (bad _ .non (by simp) rfl), fun ds e => by cases e; simp⟩
theorem lstm_run {ms : MA} {Γ Γ1 Γ2 : EV} {vs : List Vl} {ds : List D} (h : ms Γ = .ok vs Γ1) (h2 : cools Γ1 vs = some (ds, Γ2)) (hl : ds.length ≤ 1000) : mLst ms Γ = .ok (.ow ds) Γ2 := by
  unfold mLst
  rw [h, Out.bind_ok]
  simp only [h2]
  rw [if_pos (by unfold sizeLine; omega)]
abbrev RE (t : List D) (w l b f sw pl wy od hi dp : D) (s11 s12 : Sl) (dl : List D) (nl : D) (s15 : Sl) : EV := [.ow true t, .fz w, .fz l, .fz b, .fz f, .fz sw, .fz pl, .fz wy, .fz od, .fz hi, .fz dp, s11, s12, .ow false dl, .fz nl, s15]
/-- a slot of a value that is handed on -/
def SD (s : Sl) (d : D) : Prop := s = .fz d ∨ ∃ ds, s = .ow false ds ∧ d = .lst ds
section
variable {t dl : List D} {w l b f sw pl wy od hi dp nl : D} {s11 s12 s15 : Sl} {F : MF} {r : Vl}
theorem cRa {d11 d12 : D} (h1 : SD s11 d11) (h2 : SD s12 d12) (e : F [w, nl, d11, d12] = .ok r [.no, .no, .no, .no]) : mCall [false, false, false, false] F (mCons (mVar 1) (mCons (mVar 14) (mCons (mVar 11) (mCons (mVar 12) mNil)))) (RE t w l b f sw pl wy od hi dp s11 s12 dl nl s15) = .ok r (RE t w l b f sw pl wy od hi dp (.fz d11) (.fz d12) dl nl s15) := by
  rcases h1 with rfl | ⟨ds, rfl, rfl⟩ <;> rcases h2 with rfl | ⟨es, rfl, rfl⟩ <;> simp [e, RE, runF, initE, mRet, mRetN, mAnd, mOr, mNot, mCall, mCallK, gp, mCons, mNil, mVar, mC, doCall, coolA, cool, Vl.op, dsOf, ixs, putOuts, put1, putO, endF, outsOf, mChain, mBin, mTest, mTru, truD, mAndT, mOrT, mNotT, mIf, mIfS, mSeq, mSet, setV, freeAt, mExpr, mSkip, mFn, peeks, peek, mIsi, tyD, isiB, lenD, leD, ltD, gtD, geD, cmpI, addD, subD, mTup, mLst, cools, mRaise, mNeg, idxD, eqD, neD, eqB, ownAt, mYes]
/-- a refusal as it is due -/
theorem due_run {Γ Γ1 : EV} {m : ME} {wd : Str} (h : m Γ = .ok (.fz (.tup [.str wd, .int (-1)])) Γ1) : mNotT (mTest (mCall io_l_same m_l_same (mCons m (mCons (mTup (mCons (mC (.str wd)) (mCons (mNeg (mC (.int 1))) mNil))) mNil)))) Γ = .ok false Γ1 := by
  refine (not_run (k := true) (test_run (call2 (F := m_l_same) h (tupm_run (cons_run (v := .fz (.str wd)) rfl (cons_run (v := .fz (.int (-1))) rfl (nil_run _))) rfl (by simp)) (same_word wd (-1))))).trans rfl
theorem due2_run {Γ Γ1 : EV} {m : ME} (h : m Γ = .ok (.fz (.tup [.str "node", .int (-1), .str "switch", .int (-1)])) Γ1) : mTest (mCall io_l_same m_l_same (mCons m (mCons (mTup (mCons (mC (.str "node")) (mCons (mNeg (mC (.int 1))) (mCons (mC (.str "switch")) (mCons (mNeg (mC (.int 1))) mNil))))) mNil))) Γ = .ok true Γ1 :=
  test_run (call2 (F := m_l_same) h (tupm_run (cons_run (v := .fz (.str "node")) rfl (cons_run (v := .fz (.int (-1))) rfl (cons_run (v := .fz (.str "switch")) rfl (cons_run (v := .fz (.int (-1))) rfl (nil_run _))))) rfl (by simp)) (same_words "node" "switch" (-1) (-1)))
end
theorem set_vd {i : Nat} {m : ME} {Γ Γ1 : EV} {v : Vl} {d : D} (h : m Γ = .ok v Γ1) (hv : VD v d) (hf : freeAt Γ1 i = true) : ∃ s, SD s d ∧ mSet i m Γ = .ok .nx (Γ1.set i s) := by
  rcases hv with rfl | ⟨ds, rfl, rfl⟩
  · exact ⟨_, .inl rfl, set_run h (by unfold setV; rw [if_pos hf]; simp [cool, hf])⟩
  · exact ⟨_, .inr ⟨ds, rfl, rfl⟩, set_run h (by unfold setV; rw [if_pos hf])⟩
theorem spots {n : Nt} {k : Nat} (h : k < 7) : ∃ d, atI [D.int n.N, .int (-1), .bl true, .non, .tup [.int 0], .str "0", .int (10 ^ 30)] (k : Int) = some d ∧ (n.N ≤ 1000 → btw 0 (n.N - 1) d = false) := by
  obtain ⟨d, hd, e⟩ := atI_all (l := [D.int n.N, .int (-1), .bl true, .non, .tup [.int 0], .str "0", .int (10 ^ 30)]) h
  refine ⟨d, e, fun hN => ?_⟩
  simp only [List.mem_cons, List.not_mem_nil, or_false] at hd
  rcases hd with rfl | rfl | rfl | rfl | rfl | rfl | rfl
  · exact btw_f (by omega)
  · exact btw_f (by omega)
  · rfl
  · rfl
  · rfl
  · rfl
  · exact btw_f (by omega)
theorem e30_run {Γ : EV} : mBin powD (mC (.int 10)) (mC (.int 30)) Γ = .ok (.fz (.int (10 ^ 30))) Γ := bin_run (va := .fz (.int 10)) (vb := .fz (.int 30)) rfl rfl rfl rfl (by
  unfold powD
  simp only
  rw [if_pos (by decide)]
  rfl)
theorem z_refusals {n : Nt} {us : List Nat} {st fl : List Int} {t : List D} (G : Good n) (A : Ask n us st fl) (ht : Tp t) : ∃ t', m_l_refusals [.lst t, netD n, uD us, iD st, iD fl] = .ok (.fz (.bl true)) [.ow true t', .no, .no, .no, .no] ∧ Tp t' := by
  have f2 := G.f2
  have hN0 : 0 < n.N := by show 0 < n.F + n.T; omega
  have hN : n.N ≤ 36 := by have := G.f12; have := G.t24; show n.F + n.T ≤ 36; omega
  have ul := A.ul
  -- the draws
  have hlen : ∀ {Γ : EV}, Γ[3]? = some (.fz (iD st)) → mFn lenD (mCons (mVar 3) mNil) Γ = .ok (.fz (.int n.N)) Γ := fun {Γ} h => by
    have := lentup_run (var_run h)
    rwa [List.length_map, A.sl] at this
  let R0 : EV := [.fz (netD n), .fz (uD us), .fz (iD st), .fz (iD fl), .no, .no, .no, .no, .no, .no, .no, .no, .no, .no, .no]
  have s1 : t_l_refusals_1 (.ow true t :: R0) = .ok .nx (.ow true t :: R0.set 4 (.fz (.int n.rows.length))) := set_run (lR rfl) rfl
  obtain ⟨pl, t1, e1, pl1, ht1⟩ := pick0 (Γr := R0.set 4 (.fz (.int n.rows.length))) (me := mFn lenD (mCons (mVar 3) mNil)) (m := n.N) ht (hlen rfl) hN0 (by omega)
  have s2 : t_l_refusals_2 (.ow true t :: R0.set 4 (.fz (.int n.rows.length))) = .ok .nx (.ow true t1 :: (R0.set 4 (.fz (.int n.rows.length))).set 5 (.fz (.int pl))) := set_run e1 rfl
  obtain ⟨wy, t2, e2, wy1, ht2⟩ := pick0 (Γr := (R0.set 4 (.fz (.int n.rows.length))).set 5 (.fz (.int pl))) (me := mC (.int 10)) (m := 10) ht1 rfl (by decide) (by decide)
  let R3 (t : List D) (s8 s9 s10 s11 s12 s13 s14 s15 : Sl) : EV := [.ow true t, .fz (netD n), .fz (uD us), .fz (iD st), .fz (iD fl), .fz (.int n.rows.length), .fz (.int pl), .fz (.int wy), s8, s9, s10, s11, s12, s13, s14, s15]
  have s3 : t_l_refusals_3 (.ow true t1 :: (R0.set 4 (.fz (.int n.rows.length))).set 5 (.fz (.int pl))) = .ok .nx (R3 t2 .no .no .no .no .no .no .no .no) := set_run e2 rfl
  obtain ⟨o, t3, e3, o1, ht3⟩ := pick0 (Γr := (R3 t2 .no .no .no .no .no .no .no .no).tail) (me := mC (.int 6)) (m := 6) ht2 rfl (by decide) (by decide)
  obtain ⟨od, eod, hod⟩ := six_at o1
  have s4 : t_l_refusals_4 (R3 t2 .no .no .no .no .no .no .no .no) = .ok .nx (R3 t3 (.fz od) .no .no .no .no .no .no .no) := by
    refine set_run (v := .fz od) (Γ1 := R3 t3 .no .no .no .no .no .no .no .no) (bin_run (va := .fz (.tup [.bl true, .int (-1), .non, .str "1", .tup [.int 1], .bl false])) (vb := .fz (.int o)) rfl e3 rfl rfl ?_) rfl
    show (atI [D.bl true, .int (-1), .non, .str "1", .tup [.int 1], .bl false] (o : Int)).map Vl.fz = _
    rw [eod]; rfl
  have s5 : t_l_refusals_5 (R3 t3 (.fz od) .no .no .no .no .no .no .no) = .ok .nx (R3 t3 (.fz od) (.fz od) .no .no .no .no .no .no) := rfl
  have s6 : t_l_refusals_6 (R3 t3 (.fz od) (.fz od) .no .no .no .no .no .no) = .ok .nx (R3 t3 (.fz od) (.fz od) (.fz od) .no .no .no .no .no) := rfl
  obtain ⟨c, t4, e4, c1, ht4⟩ := pick0 (Γr := (R3 t3 (.fz od) (.fz od) (.fz od) .no .no .no .no .no).tail) (me := mC (.int 2)) (m := 2) ht3 rfl (by decide) (by decide)
  obtain ⟨hi, dp, hhi, hdp, s7⟩ : ∃ hi dp : D, btw 0 11 hi = false ∧ btw 0 12 dp = false ∧ t_l_refusals_7 (R3 t3 (.fz od) (.fz od) (.fz od) .no .no .no .no .no) = .ok .nx (R3 t4 (.fz od) (.fz hi) (.fz dp) .no .no .no .no .no) := by
    have cc : c_l_refusals_7 (R3 t3 (.fz od) (.fz od) (.fz od) .no .no .no .no .no) = .ok (decide ((c : Int) = 0)) (R3 t4 (.fz od) (.fz od) (.fz od) .no .no .no .no .no) := eq_run e4 rfl
    by_cases h : (c : Int) = 0
    · exact ⟨.int 12, .int 13, btw_f (by omega), btw_f (by omega), if_t (cc.trans (by rw [decide_eq_true h])) rfl⟩
    · exact ⟨od, od, hod 11, hod 12, if_f (cc.trans (by rw [decide_eq_false h])) rfl⟩
  -- the bad rows
  obtain ⟨v1, d1, sp1, vd1, nb1⟩ := z_spoilt (p := pl) (w := wy) (b := 11) G A.sl hhi
  obtain ⟨s11, sd1, s10'⟩ := set_vd (i := 11) (Γ1 := R3 t4 (.fz od) (.fz hi) (.fz dp) .no .no .no .no .no) (call4 (F := m_l_spoilt) (m1 := mVar 3) (m2 := mVar 6) (m3 := mVar 9) (m4 := mVar 7) (Γ := R3 t4 (.fz od) (.fz hi) (.fz dp) .no .no .no .no .no) rfl rfl rfl rfl sp1) vd1 rfl
  obtain ⟨v2, d2, sp2, vd2, nb2⟩ := z_spoilt (p := pl) (w := wy) (b := 12) G A.fl_ hdp
  obtain ⟨s12, sd2, s11'⟩ := set_vd (i := 12) (Γ1 := R3 t4 (.fz od) (.fz hi) (.fz dp) s11 .no .no .no .no) (call4 (F := m_l_spoilt) (m1 := mVar 4) (m2 := mVar 6) (m3 := mVar 10) (m4 := mVar 7) (Γ := R3 t4 (.fz od) (.fz hi) (.fz dp) s11 .no .no .no .no) rfl rfl rfl rfl sp2) vd2 rfl
  have s12' : t_l_refusals_12 (R3 t4 (.fz od) (.fz hi) (.fz dp) s11 s12 .no .no .no) = .ok .nx (R3 t4 (.fz od) (.fz hi) (.fz dp) s11 s12 (.ow false (menu n us)) .no .no) := by
    let X := R3 t4 (.fz od) (.fz hi) (.fz dp) s11 s12 .no .no .no
    have m0 : mBin addD (mVar 2) (mTup (mCons (mVar 5) mNil)) X = .ok (.fz (.tup ((us.map fun (k : Nat) => .int k) ++ [.int n.rows.length]))) X := by
      refine bin_run (va := .fz (uD us)) (vb := .fz (.tup [.int n.rows.length])) rfl rfl rfl rfl ?_
      show (if (us.map fun (k : Nat) => D.int k).length + [D.int n.rows.length].length ≤ sizeLine then some (Vl.fz (.tup ((us.map fun (k : Nat) => .int k) ++ [.int n.rows.length]))) else none) = _
      rw [if_pos (by rw [List.length_map, List.length_singleton]; unfold sizeLine; omega)]
    have m1 : mFn listD (mCons (mVar 2) mNil) X = .ok (.ow (us.map fun (k : Nat) => .int k)) X := fn1_run (v := .fz (uD us)) rfl rfl rfl
    have m5 : mBin addD (mTup (mCons (mNeg (mC (.int 1))) mNil)) (mVar 2) X = .ok (.fz (.tup ([.int (-1)] ++ us.map fun (k : Nat) => .int k))) X := by
      refine bin_run (va := .fz (.tup [.int (-1)])) (vb := .fz (uD us)) rfl rfl rfl rfl ?_
      show (if [D.int (-1)].length + (us.map fun (k : Nat) => D.int k).length ≤ sizeLine then some (Vl.fz (.tup ([.int (-1)] ++ us.map fun (k : Nat) => .int k))) else none) = _
      rw [if_pos (by rw [List.length_map, List.length_singleton]; unfold sizeLine; omega)]
    have tup1 : ∀ (d : D) (m : ME), m X = .ok (.fz d) X → mTup (mCons m mNil) X = .ok (.fz (.tup [d])) X := fun d m h => tupm_run (cons_run h (nil_run _)) rfl (by simp)
    have tup2 : ∀ (a b : Int), mTup (mCons (mC (.int a)) (mCons (mC (.int b)) mNil)) X = .ok (.fz (.tup [.int a, .int b])) X := fun a b => rfl
    refine set_run (v := .ow (menu n us)) (Γ1 := X) ?_ rfl
    exact lstm_run (cons_run m0 (cons_run m1 (cons_run (tup1 (.bl true) (mC (.bl true)) rfl) (cons_run (tup2 0 0) (cons_run (tup2 1 0) (cons_run m5 (cons_run (v := .fz .non) rfl (cons_run (v := .fz (.int 0)) rfl (cons_run (v := .fz (.str "")) rfl (cons_run (tup1 .non (mC .non) rfl) (nil_run _))))))))))) rfl (show 10 ≤ 1000 by decide)
  obtain ⟨q, t5, e5, q1, ht5⟩ := pick0 (Γr := (R3 t4 (.fz od) (.fz hi) (.fz dp) s11 s12 (.ow false (menu n us)) .no .no).tail) (me := mC (.int 10)) (m := 10) ht4 rfl (by decide) (by decide)
  obtain ⟨nl, hnl, enl⟩ := atI_all (l := menu n us) (k := q) q1
  obtain ⟨okN, lenN⟩ := menu_ok (n := n) ul nl hnl
  let Z (t : List D) (s11 s12 s15 : Sl) : EV := RE t (netD n) (uD us) (iD st) (iD fl) (.int n.rows.length) (.int pl) (.int wy) od hi dp s11 s12 (menu n us) nl s15
  have s13 : t_l_refusals_13 (R3 t4 (.fz od) (.fz hi) (.fz dp) s11 s12 (.ow false (menu n us)) .no .no) = .ok .nx (Z t5 s11 s12 .no) := by
    refine set_run (v := .fz nl) (Γ1 := R3 t5 (.fz od) (.fz hi) (.fz dp) s11 s12 (.ow false (menu n us)) .no .no) (bin_run (va := .bw 13) (vb := .fz (.int q)) (dx := .lst (menu n us)) rfl e5 rfl rfl ?_) rfl
    show (atI (menu n us) (q : Int)).map Vl.fz = _
    rw [enl]; rfl
  -- the checks
  have s14 : t_l_refusals_14 (Z t5 s11 s12 .no) = .ok .nx (Z t5 s11 s12 .no) := if_f (due_run (call4 (F := m_l_refused) (m1 := mVar 1) (m2 := mVar 14) (m3 := mVar 3) (m4 := mVar 4) rfl rfl rfl rfl (z_refused (z_flood_1 lenN okN)))) rfl
  have s16 : t_l_refusals_16 (Z t5 s11 s12 .no) = .ok .nx (Z t5 (.fz d1) (.fz d2) .no) := if_f (due_run (cRa sd1 sd2 (z_refused (z_flood_1 lenN okN)))) rfl
  have uok := A.u
  have ulen := u_len (us := us) ul
  have s18 : t_l_refusals_18 (Z t5 (.fz d1) (.fz d2) .no) = .ok .nx (Z t5 (.fz d1) (.fz d2) .no) := if_f (due_run (call4 (F := m_l_refused) (m1 := mVar 1) (m2 := mVar 2) (m3 := mVar 11) (m4 := mVar 4) rfl rfl rfl rfl (z_refused (z_flood_2 ulen uok nb1)))) rfl
  have s20 : t_l_refusals_20 (Z t5 (.fz d1) (.fz d2) .no) = .ok .nx (Z t5 (.fz d1) (.fz d2) .no) := if_f (due_run (call4 (F := m_l_refused) (m1 := mVar 1) (m2 := mVar 2) (m3 := mVar 11) (m4 := mVar 12) rfl rfl rfl rfl (z_refused (z_flood_2 ulen uok nb1)))) rfl
  have s22 : t_l_refusals_22 (Z t5 (.fz d1) (.fz d2) .no) = .ok .nx (Z t5 (.fz d1) (.fz d2) .no) := if_f (due_run (call4 (F := m_l_refused) (m1 := mVar 1) (m2 := mVar 2) (m3 := mVar 3) (m4 := mVar 12) rfl rfl rfl rfl (z_refused (z_flood_3 ulen uok (nums_t A.sl A.s11) nb2)))) rfl
  obtain ⟨z, t6, e6, z1, ht6⟩ := pick0 (Γr := (Z t5 (.fz d1) (.fz d2) .no).tail) (me := mC (.int 7)) (m := 7) ht5 rfl (by decide) (by decide)
  obtain ⟨sp, esp, hsp⟩ := spots (n := n) z1
  have hsp := hsp (by omega)
  have s24 : t_l_refusals_24 (Z t5 (.fz d1) (.fz d2) .no) = .ok .nx (Z t6 (.fz d1) (.fz d2) (.fz sp)) := by
    refine set_run (v := .fz sp) (Γ1 := Z t6 (.fz d1) (.fz d2) .no) (bin_run (va := .fz (.tup [.int n.N, .int (-1), .bl true, .non, .tup [.int 0], .str "0", .int (10 ^ 30)])) (vb := .fz (.int z)) (tupm_run (cons_run (hlen rfl) (cons_run (v := .fz (.int (-1))) rfl (cons_run (v := .fz (.bl true)) rfl (cons_run (v := .fz .non) rfl (cons_run (v := .fz (.tup [.int 0])) rfl (cons_run (v := .fz (.str "0")) rfl (cons_run e30_run (nil_run _)))))))) rfl (by simp)) e6 rfl rfl ?_) rfl
    show (atI [D.int n.N, .int (-1), .bl true, .non, .tup [.int 0], .str "0", .int (10 ^ 30)] (z : Int)).map Vl.fz = _
    rw [esp]; rfl
  have s25 : t_l_refusals_25 (Z t6 (.fz d1) (.fz d2) (.fz sp)) = .ok .nx (Z t6 (.fz d1) (.fz d2) (.fz sp)) := if_f ((not_run (due2_run (call3 (F := m_l_no_rank) (m1 := mVar 1) (m2 := mVar 15) (m3 := mVar 8) rfl rfl rfl (z_no_rank hsp (hod _))))).trans rfl) rfl
  have s27 : t_l_refusals_27 (Z t6 (.fz d1) (.fz d2) (.fz sp)) = .ok (.rt (.fz (.bl true))) (Z t6 (.fz d1) (.fz d2) (.fz sp)) := by
    have a1 : mBin addD (mVar 5) (mBin mulD (mC (.int 7)) (mBin fdivD (mVar 7) (mC (.int 2)))) (Z t6 (.fz d1) (.fz d2) (.fz sp)) = .ok (.fz (.int (n.rows.length + 7 * ((wy : Int) / 2)))) (Z t6 (.fz d1) (.fz d2) (.fz sp)) := add_run rfl (mul_run rfl (div_run rfl rfl (by decide) (by decide +kernel)) (by unfold mulOk; simp))
    refine ret_run ?_
    have := call3 (F := m_l_no_rank) (m1 := mVar 1) (m2 := mVar 8) (m3 := mBin addD (mVar 5) (mBin mulD (mC (.int 7)) (mBin fdivD (mVar 7) (mC (.int 2))))) (Γ := Z t6 (.fz d1) (.fz d2) (.fz sp)) rfl rfl a1 (z_no_rank (n := n) (d := od) (hod _) (btw_f (by omega)))
    exact call2 (F := m_l_same) this (tupm_run (cons_run (v := .fz (.str "node")) rfl (cons_run (v := .fz (.int (-1))) rfl (cons_run (v := .fz (.str "switch")) rfl (cons_run (v := .fz (.int (-1))) rfl (nil_run _))))) rfl (by simp)) (same_words "node" "switch" (-1) (-1))
  refine ⟨t6, run_rt (v := .fz (.bl true)) (Γ' := Z t6 (.fz d1) (.fz d2) (.fz sp)) rfl ?_ rfl, ht6⟩
  show bd_l_refusals (.ow true t :: R0) = _
  rw [bq_l_refusals]
  exact sq s1 (sq s2 (sq s3 (sq s4 (sq s5 (sq s6 (sq s7 (sq s10' (sq s11' (sq s12' (sq s13 (sq s14 (sq s16 (sq s18 (sq s20 (sq s22 (sq s24 (sq s25 s27)))))))))))))))))
end K29

set_option Elab.async false
set_option linter.all false
set_option maxRecDepth 100000
set_option maxHeartbeats 4000000
namespace K29
open PySem PySem.Spec PyProof.Rows L2 L2H XT GX RD SX PU
/-! ### the law -/
theorem pick1 {x0 : Sl} {Γr : EV} {t : List D} {me : ME} {m : Nat} (ht : Tp t) (hm : me (x0 :: .ow false t :: Γr) = .ok (.fz (.int m)) (x0 :: .ow false t :: Γr)) (h0 : 0 < m) (h1 : m < 2 ^ 60) :
    ∃ (k : Nat) (t' : List D), mCall io_l_pick m_l_pick (mCons (mVar 1) (mCons me mNil)) (x0 :: .ow false t :: Γr) = .ok (.fz (.int k)) (x0 :: .ow false t' :: Γr) ∧ k < m ∧ Tp t' := by
  obtain ⟨k, t', e, q1, q2, q3⟩ := pick_run (Γ := x0 :: .ow false t :: Γr) (i := 1) rfl hm rfl ht (by omega) (by omega)
  obtain ⟨j, rfl⟩ := Int.eq_ofNat_of_zero_le q1
  exact ⟨j, t', e, by omega, q3⟩
abbrev LE (ns : List Int) (t : List D) (n : Nt) (s4 s5 s6 s7 s8 s9 s10 s11 s12 s13 s14 : Sl) : EV := [.fz (.scr ns), .ow false t, .fz (netD n), .fz (.int n.N), s4, s5, s6, s7, s8, s9, s10, s11, s12, s13, s14]
theorem same_t {Γ Γ1 Γ2 : EV} {m1 m2 : ME} {a : D} (h1 : m1 Γ = .ok (.fz a) Γ1) (h2 : m2 Γ1 = .ok (.fz a) Γ2) (e : m_l_same [a, a] = .ok (.fz (.bl true)) [.no, .no]) : mNotT (mTest (mCall io_l_same m_l_same (mCons m1 (mCons m2 mNil)))) Γ = .ok false Γ2 :=
  (not_run (k := true) (test_run (call2 (F := m_l_same) h1 h2 e))).trans rfl
section
variable {ns : List Int} {t : List D} {n : Nt}
theorem law_4 (G : Good n) : ∃ s4 s5, FS s5 ∧ t_law_4 (LE ns t n .no .no .no .no .no .no .no .no .no .no .no) = .ok .nx (LE ns t n s4 s5 .no .no .no .no .no .no .no .no .no) := by
  have hN : n.N ≤ 36 := by have := G.f12; have := G.t24; show n.F + n.T ≤ 36; omega
  obtain ⟨Γ', e, hI⟩ := for_run (g := g_law_4) (b := b_law_4) (items := rngD 0 n.N)
    (fun j Γ => ∃ s4 s5, FS s4 ∧ FS s5 ∧ Γ = LE ns t n s4 s5 .no .no .no .no .no .no .no .no .no)
    (fun j d hj Γ hI => by
      obtain ⟨s4, s5, f4, f5, rfl⟩ := hI
      obtain ⟨hj1, rfl⟩ := rng_at hj
      let X (s5 : Sl) : EV := LE ns t n (.fz (.int j)) s5 .no .no .no .no .no .no .no .no .no
      have s5' : t_law_5 (X s5) = .ok .nx (X (.fz (.int (rk n j)))) := set_run (v := .fz (.int (rk n j))) (Γ1 := X s5) (call2 (F := m_l_rank) rfl rfl (z_l_rank hj1)) (by rcases f5 with rfl | ⟨_, rfl⟩ <;> rfl)
      have s6' : t_law_6 (X (.fz (.int (rk n j)))) = .ok .nx (X (.fz (.int (rk n j)))) := if_f (or_f (same_t (call2 (F := m_rank_of) rfl rfl (z_rank_of hj1)) rfl (same_one _)) (same_t (call2K (F := m_rank_of) rfl rfl (z_rank_of hj1)) rfl (same_one _))) rfl
      exact ⟨X s5, _, by rcases f4 with rfl | ⟨_, rfl⟩ <;> rfl, sq s5' s6', _, _, .fz, .fz, rfl⟩)
    (Γ := LE ns t n .no .no .no .no .no .no .no .no .no .no .no) ⟨_, _, FS.no, FS.no, rfl⟩
  obtain ⟨s4, s5, _, f5, rfl⟩ := hI
  exact ⟨s4, s5, f5, for_nx (rng_run (n := n.N) rfl (by omega)) e⟩
theorem law_8 (G : Good n) {s4 s5 : Sl} (h5 : FS s5) : ∃ s5' s6, FS s5' ∧ t_law_8 (LE ns t n s4 s5 .no .no .no .no .no .no .no .no .no) = .ok .nx (LE ns t n s4 s5' s6 .no .no .no .no .no .no .no .no) := by
  have r60 := G.r60
  obtain ⟨Γ', e, hI⟩ := for_run (g := g_law_8) (b := b_law_8) (items := rngD 0 n.rows.length)
    (fun j Γ => ∃ s5 s6, FS s5 ∧ FS s6 ∧ Γ = LE ns t n s4 s5 s6 .no .no .no .no .no .no .no .no)
    (fun j d hj Γ hI => by
      obtain ⟨s5, s6, f5, f6, rfl⟩ := hI
      obtain ⟨hj1, rfl⟩ := rng_at hj
      let X (s5 : Sl) : EV := LE ns t n s4 s5 (.fz (.int j)) .no .no .no .no .no .no .no .no
      have s9' : t_law_9 (X s5) = .ok .nx (X (.fz (.int (4 + n.rows[j].s)))) := set_run (v := .fz (.int (4 + n.rows[j].s))) (Γ1 := X s5) (add_run rfl (bin_run (va := .fz (rowD n.rows[j])) (vb := .fz (.int 1)) (row_run (me := mVar 6) rfl rfl hj1) rfl rfl rfl rfl)) (by rcases f5 with rfl | ⟨_, rfl⟩ <;> rfl)
      have s10' : t_law_10 (X (.fz (.int (4 + n.rows[j].s)))) = .ok .nx (X (.fz (.int (4 + n.rows[j].s)))) := if_f (or_f (same_t (call2 (F := m_switch_rank) rfl rfl (z_switch_rank hj1)) rfl (same_one _)) (same_t (call2K (F := m_switch_rank) rfl rfl (z_switch_rank hj1)) rfl (same_one _))) rfl
      exact ⟨X s5, _, by rcases f6 with rfl | ⟨_, rfl⟩ <;> rfl, sq s9' s10', _, _, .fz, .fz, rfl⟩)
    (Γ := LE ns t n s4 s5 .no .no .no .no .no .no .no .no .no) ⟨_, _, h5, FS.no, rfl⟩
  obtain ⟨s5', s6, f5, _, rfl⟩ := hI
  exact ⟨s5', s6, f5, for_nx (rng_run (n := n.rows.length) (cons_run (lR rfl) (nil_run _)) (by omega)) e⟩
/-- a question that was asked, with what is due -/
structure Qu where
  us : List Nat
  st : List Int
  fl : List Int
  xs : List Int
abbrev qD (q : Qu) : D := .tup [uD q.us, iD q.st, iD q.fl, iD q.xs]
def QOK (n : Nt) (q : Qu) : Prop := Ask n q.us q.st q.fl ∧ m_flood [netD n, uD q.us, iD q.st, iD q.fl] = .ok (.fz (iD q.xs)) [.no, .no, .no, .no] ∧ q.xs.length = n.N
theorem zero_rep {N : Nat} : (List.replicate N [D.int 0]).flatten = (List.replicate N (0 : Int)).map .int := by
  induction N with
  | zero => rfl
  | succ N ih => rw [List.replicate_succ, List.replicate_succ, List.flatten_cons, List.map_cons, ih]; rfl
theorem mul_zero {N : Nat} (h : 2 ≤ N) (h2 : N ≤ 1000) : mulD (.tup [.int 0]) (.int (N : Nat)) = some (.fz (iD (List.replicate N 0))) := by
  have e : (List.replicate N (0 : Int)).map D.int = (List.replicate N [D.int 0]).flatten := zero_rep.symm
  show _ = some (Vl.fz (.tup ((List.replicate N (0 : Int)).map D.int)))
  rw [e]
  simp only [mulD]
  rw [if_pos ⟨by simp, by omega, by omega, by simp⟩]
  simp
theorem law_lets {Γf : List D → Sl → EV} (G : Good n) (hΓ : ∀ t s, ∃ a, Γf t s = .fz (.scr ns) :: .ow false t :: a) (h2 : ∀ t s, (Γf t s)[2]? = some (.fz (netD n))) (hg : ∀ t d, gN 14 d (Γf t .no) = some (Γf t (.fz d))) (hv : ∀ t d, (Γf t (.fz d))[14]? = some (.fz d)) (hw : ∀ t s, wipeE (Γf t s) [14] = Γf t .no) (hset : ∀ t t' s, (Γf t s).set 1 (.ow false t') = Γf t' s) (ht : Tp t) :
    ∃ t' us, Tp t' ∧ us.Pairwise (· < ·) ∧ (∀ k ∈ us, k < n.rows.length) ∧ us.length ≤ 60 ∧ v_law_14 (Γf t .no) = .ok (.fz (uD us)) (Γf t' .no) := by
  have r60 := G.r60
  have hr : mIR1 (mCons (mFn lenD (mCons (mBin idxD (mVar 2) (mC (.int 2))) mNil)) mNil) (Γf t .no) = .ok (rngD 0 n.rows.length) (Γf t .no) := rng_run (n := n.rows.length) (cons_run (lR (h2 t .no)) (nil_run _)) (by omega)
  obtain ⟨acc, Γ', e, t', us, h1, rfl, ht', ua, ub, ul⟩ := lc_inv (g := gN 14) (mt := mTest (mBin gtD (mCall io_l_pick m_l_pick (mCons (mVar 1) (mCons (mC (.int 6)) mNil))) (mC (.int 0)))) (me := mVar 14) (vs := [14]) (items := rngD 0 n.rows.length)
    (fun j acc Γ => ∃ (t : List D) (us : List Nat), acc = (us.map fun (k : Nat) => .int k) ∧ Γ = Γf t .no ∧ Tp t ∧ us.Pairwise (· < ·) ∧ (∀ k ∈ us, k < j) ∧ us.length ≤ j) (fun j d acc Γ hj hI => by
    obtain ⟨t, us, rfl, rfl, ht, ua, ub, ul⟩ := hI
    obtain ⟨hj1, rfl⟩ := rng_at hj
    obtain ⟨a, ea⟩ := hΓ t (.fz (.int j))
    obtain ⟨k, t', e, q1, q2, q3⟩ := pick_run (Γ := Γf t (.fz (.int j))) (Γ1 := Γf t (.fz (.int j))) (i := 1) (b := false) (b' := false) (t := t) (t1 := t) (me := mC (.int 6)) (m := 6) (by rw [ea]; rfl) rfl (by rw [ea]; rfl) ht (by decide) (by decide)
    rw [hset] at e
    refine ⟨Γf t (.fz (.int j)), hg _ _, ?_⟩
    have c := gt_run (b := mC (.int 0)) e rfl
    by_cases h : (0 : Int) < k
    · refine .inl ⟨Γf t' (.fz (.int j)), .fz (.int j), Γf t' (.fz (.int j)), .int j, Γf t' (.fz (.int j)), c.trans (by rw [decide_eq_true h]), var_run (hv _ _), rfl, t', us ++ [j], by simp, hw _ _, q3, ?_, fun i hi => ?_, by simp; omega⟩
      · rw [List.pairwise_append]
        exact ⟨ua, List.pairwise_singleton _ _, fun x hx y hy => by obtain rfl := List.mem_singleton.mp hy; exact ub x hx⟩
      · rcases List.mem_append.mp hi with hi | hi
        · have := ub i hi; omega
        · obtain rfl := List.mem_singleton.mp hi; omega
    · exact .inr ⟨Γf t' (.fz (.int j)), c.trans (by rw [decide_eq_false h]), t', us, rfl, hw _ _, q3, ua, fun i hi => by have := ub i hi; omega, by omega⟩)
    (Γ := Γf t .no) ⟨t, [], rfl, rfl, ht, List.Pairwise.nil, fun p hp => by simp at hp, by simp⟩ (by rw [rng_len]; omega)
  rw [rng_len] at ub ul
  refine ⟨t', us, ht', ua, ub, by omega, fn1_run (v := .ow (us.map fun (k : Nat) => .int k)) ?_ rfl rfl⟩
  show (mIR1 _ _).bind _ = _
  rw [hr, Out.bind_ok, hw]
  rw [h1] at e
  exact e
abbrev TE (ns : List Int) (n : Nt) (s4 : Sl) (s6 : Sl) (qs : List Qu) (t : List D) (s5 s8 s9 s10 s11 s12 s14 : Sl) : EV := LE ns t n s4 s5 s6 (.ow false (qs.map qD)) s8 s9 s10 s11 s12 .no s14
/-- one turn -/
theorem law_turn (G : Good n) (ht : Tp t) {s4 s6 s5 s9 s10 s11 s12 : Sl} {j : Nat} {qs : List Qu} (h5 : FS s5) (h9 : FS s9) (h10 : FS s10) (h11 : FS s11) (h12 : FS s12) (hq : qs.length < 100) : ∃ t' q s5' s9' s10' s11' s12', Tp t' ∧ QOK n q ∧ FS s5' ∧ FS s9' ∧ FS s10' ∧ FS s11' ∧ FS s12' ∧ b_law_13 (TE ns n s4 s6 qs t s5 (.fz (.int j)) s9 s10 s11 s12 .no) = .ok .nx (TE ns n s4 s6 (qs ++ [q]) t' s5' (.fz (.int j)) s9' s10' s11' s12' .no) := by
  have f2 := G.f2
  have hN0 : 2 ≤ n.N := by show 2 ≤ n.F + n.T; omega
  have hN : n.N ≤ 36 := by have := G.f12; have := G.t24; show n.F + n.T ≤ 36; omega
  obtain ⟨t1, us, ht1, ua, ub, ul, e1⟩ := law_lets (Γf := fun t s => TE ns n s4 s6 qs t s5 (.fz (.int j)) s9 s10 s11 s12 s) G (fun t s => ⟨_, rfl⟩) (fun t s => rfl) (fun t d => rfl) (fun t d => rfl) (fun t s => rfl) (fun t t' s => rfl) ht
  have s14 : t_law_14 (TE ns n s4 s6 qs t s5 (.fz (.int j)) s9 s10 s11 s12 .no) = .ok .nx (TE ns n s4 s6 qs t1 s5 (.fz (.int j)) (.fz (uD us)) s10 s11 s12 .no) := set_run e1 (by rcases h9 with rfl | ⟨_, rfl⟩ <;> rfl)
  obtain ⟨t2, st, e2, ht2, stl, stb⟩ := z_begins G ht1
  have s15 : t_law_15 (TE ns n s4 s6 qs t1 s5 (.fz (.int j)) (.fz (uD us)) s10 s11 s12 .no) = .ok .nx (TE ns n s4 s6 qs t2 s5 (.fz (.int j)) (.fz (uD us)) (.fz (iD st)) s11 s12 .no) :=
    set_run (v := .fz (iD st)) (Γ1 := TE ns n s4 s6 qs t2 s5 (.fz (.int j)) (.fz (uD us)) s10 s11 s12 .no) (callO1 (F := m_l_begins) (i := 1) (bb := false) (bc := false) (m1 := mVar 2) (t := t1) (t1 := t1) (Γ := TE ns n s4 s6 qs t1 s5 (.fz (.int j)) (.fz (uD us)) s10 s11 s12 .no) (Γ1 := TE ns n s4 s6 qs t1 s5 (.fz (.int j)) (.fz (uD us)) s10 s11 s12 .no) rfl rfl rfl e2) (by rcases h10 with rfl | ⟨_, rfl⟩ <;> rfl)
  have A0 : Ask n us st (List.replicate n.N 0) := ⟨ub, ua, ul, stl, List.length_replicate, stb, fun x hx => by have := List.eq_of_mem_replicate hx; omega⟩
  obtain ⟨x0, _, w0, x0l, x0b⟩ := z_flood G A0
  obtain ⟨t3, fl, e3, ht3, fll, flb⟩ := z_bars ht2 x0b (by omega)
  have s16 : t_law_16 (TE ns n s4 s6 qs t2 s5 (.fz (.int j)) (.fz (uD us)) (.fz (iD st)) s11 s12 .no) = .ok .nx (TE ns n s4 s6 qs t3 s5 (.fz (.int j)) (.fz (uD us)) (.fz (iD st)) (.fz (iD fl)) s12 .no) := by
    have z0 : mBin mulD (mTup (mCons (mC (.int 0)) mNil)) (mVar 3) (TE ns n s4 s6 qs t2 s5 (.fz (.int j)) (.fz (uD us)) (.fz (iD st)) s11 s12 .no) = .ok (.fz (iD (List.replicate n.N 0))) (TE ns n s4 s6 qs t2 s5 (.fz (.int j)) (.fz (uD us)) (.fz (iD st)) s11 s12 .no) := by
      refine bin_run (va := .fz (.tup [.int 0])) (vb := .fz (.int n.N)) rfl rfl rfl rfl ?_
      exact mul_zero hN0 (by omega)
    refine set_run (v := .fz (iD fl)) (Γ1 := TE ns n s4 s6 qs t3 s5 (.fz (.int j)) (.fz (uD us)) (.fz (iD st)) s11 s12 .no) ?_ (by rcases h11 with rfl | ⟨_, rfl⟩ <;> rfl)
    exact callO1 (F := m_l_bars) (i := 1) (bb := false) (bc := false) (t := t2) (t1 := t2) (Γ := TE ns n s4 s6 qs t2 s5 (.fz (.int j)) (.fz (uD us)) (.fz (iD st)) s11 s12 .no) (Γ1 := TE ns n s4 s6 qs t2 s5 (.fz (.int j)) (.fz (uD us)) (.fz (iD st)) s11 s12 .no) rfl (call4 (F := m_l_widened) (m1 := mVar 2) (m2 := mVar 9) (m3 := mVar 10) rfl rfl rfl z0 w0) rfl e3
  have A : Ask n us st fl := ⟨ub, ua, ul, stl, by omega, stb, flb⟩
  obtain ⟨xs, ef, ew, xl, xb⟩ := z_flood G A
  have s17 : t_law_17 (TE ns n s4 s6 qs t3 s5 (.fz (.int j)) (.fz (uD us)) (.fz (iD st)) (.fz (iD fl)) s12 .no) = .ok .nx (TE ns n s4 s6 qs t3 (.fz (iD xs)) (.fz (.int j)) (.fz (uD us)) (.fz (iD st)) (.fz (iD fl)) s12 .no) :=
    set_run (v := .fz (iD xs)) (Γ1 := TE ns n s4 s6 qs t3 s5 (.fz (.int j)) (.fz (uD us)) (.fz (iD st)) (.fz (iD fl)) s12 .no) (call4 (F := m_l_widened) (m1 := mVar 2) (m2 := mVar 9) (m3 := mVar 10) (m4 := mVar 11) rfl rfl rfl rfl ew) (by rcases h5 with rfl | ⟨_, rfl⟩ <;> rfl)
  let q : Qu := ⟨us, st, fl, xs⟩
  have s18 : t_law_18 (TE ns n s4 s6 qs t3 (.fz (iD xs)) (.fz (.int j)) (.fz (uD us)) (.fz (iD st)) (.fz (iD fl)) s12 .no) = .ok .nx (TE ns n s4 s6 (qs ++ [q]) t3 (.fz (iD xs)) (.fz (.int j)) (.fz (uD us)) (.fz (iD st)) (.fz (iD fl)) s12 .no) := by
    refine app_run (q := (false, qs.map qD)) (d := qD q) (v := .fz (qD q)) rfl rfl rfl rfl (by rw [List.length_map]; unfold sizeLine; omega) ?_
    simp [TE, LE, q]
  have s19 : t_law_19 (TE ns n s4 s6 (qs ++ [q]) t3 (.fz (iD xs)) (.fz (.int j)) (.fz (uD us)) (.fz (iD st)) (.fz (iD fl)) s12 .no) = .ok .nx (TE ns n s4 s6 (qs ++ [q]) t3 (.fz (iD xs)) (.fz (.int j)) (.fz (uD us)) (.fz (iD st)) (.fz (iD fl)) (.fz (iD xs)) .no) := by
    have c := eq_run (a := mVar 8) (b := mC (.int 1)) (i := j) (j := 1) (Γ := TE ns n s4 s6 (qs ++ [q]) t3 (.fz (iD xs)) (.fz (.int j)) (.fz (uD us)) (.fz (iD st)) (.fz (iD fl)) s12 .no) rfl rfl
    have fin : setV 12 (.fz (iD xs)) (TE ns n s4 s6 (qs ++ [q]) t3 (.fz (iD xs)) (.fz (.int j)) (.fz (uD us)) (.fz (iD st)) (.fz (iD fl)) s12 .no) = some (TE ns n s4 s6 (qs ++ [q]) t3 (.fz (iD xs)) (.fz (.int j)) (.fz (uD us)) (.fz (iD st)) (.fz (iD fl)) (.fz (iD xs)) .no) := by rcases h12 with rfl | ⟨_, rfl⟩ <;> rfl
    by_cases h : (j : Int) = 1
    · exact if_t (c.trans (by rw [decide_eq_true h])) (set_run (call4K (F := m_flood) (m1 := mVar 11) (m2 := mVar 10) (m3 := mVar 9) (m4 := mVar 2) rfl rfl rfl rfl ef) fin)
    · exact if_f (c.trans (by rw [decide_eq_false h])) (set_run (call4 (F := m_flood) (m1 := mVar 2) (m2 := mVar 9) (m3 := mVar 10) (m4 := mVar 11) rfl rfl rfl rfl ef) fin)
  have s23 : t_law_23 (TE ns n s4 s6 (qs ++ [q]) t3 (.fz (iD xs)) (.fz (.int j)) (.fz (uD us)) (.fz (iD st)) (.fz (iD fl)) (.fz (iD xs)) .no) = .ok .nx (TE ns n s4 s6 (qs ++ [q]) t3 (.fz (iD xs)) (.fz (.int j)) (.fz (uD us)) (.fz (iD st)) (.fz (iD fl)) (.fz (iD xs)) .no) :=
    if_f (or_f (not_run (k := true) (isi_tup (iD xs) (i := 12) rfl)) (same_t (m1 := mVar 12) (m2 := mVar 5) rfl rfl (same_ints xs (by omega)))) rfl
  exact ⟨t3, q, _, _, _, _, _, ht3, ⟨A, ef, xl⟩, .fz, .fz, .fz, .fz, .fz, sq s14 (sq s15 (sq s16 (sq s17 (sq s18 (sq s19 s23)))))⟩
end
theorem law_pure (ns : List Int) (hl : ns.length ≤ 63) (_hb : ∀ z ∈ ns, Builtin.Int.intBits z ≤ 1048576) : ∃ outs, m_law [.scr ns] = .ok (.fz (.bl true)) outs := by
  obtain ⟨t, et, ht⟩ := z_tape hl
  obtain ⟨n, t1, ew, ht1, G⟩ := z_web ht
  let Γ0 : EV := [.fz (.scr ns), .no, .no, .no, .no, .no, .no, .no, .no, .no, .no, .no, .no, .no, .no]
  have s1 : t_law_1 Γ0 = .ok .nx (Γ0.set 1 (.ow false t)) := set_run (v := .ow t) (Γ1 := Γ0) (call1 (F := m_l_tape) rfl et) rfl
  have s2 : t_law_2 (Γ0.set 1 (.ow false t)) = .ok .nx ((Γ0.set 1 (.ow false t1)).set 2 (.fz (netD n))) := set_run (v := .fz (netD n)) (Γ1 := Γ0.set 1 (.ow false t1)) (callO (F := m_l_web) (i := 1) (bb := false) (t := t) (Γ := Γ0.set 1 (.ow false t)) rfl ew) rfl
  have s3 : t_law_3 ((Γ0.set 1 (.ow false t1)).set 2 (.fz (netD n))) = .ok .nx (LE ns t1 n .no .no .no .no .no .no .no .no .no .no .no) := set_run (lN rfl) rfl
  obtain ⟨s4, s5, f5, e4⟩ := law_4 (ns := ns) (t := t1) G
  obtain ⟨s5', s6, f5', e8⟩ := law_8 (ns := ns) (t := t1) (s4 := s4) G f5
  have s12 : t_law_12 (LE ns t1 n s4 s5' s6 .no .no .no .no .no .no .no .no) = .ok .nx (TE ns n s4 s6 [] t1 s5' .no .no .no .no .no .no) := rfl
  obtain ⟨Γ', e, hI⟩ := for_run (g := g_law_13) (b := b_law_13) (items := rngD 0 4)
    (fun j Γ => ∃ t qs s5 s8 s9 s10 s11 s12, FS s5 ∧ FS s8 ∧ FS s9 ∧ FS s10 ∧ FS s11 ∧ FS s12 ∧ Γ = TE ns n s4 s6 qs t s5 s8 s9 s10 s11 s12 .no ∧ Tp t ∧ qs.length = j ∧ ∀ q ∈ qs, QOK n q)
    (fun j d hj Γ hI => by
      obtain ⟨t, qs, s5, s8, s9, s10, s11, s12, f5, f8, f9, f10, f11, f12, rfl, ht, hq, hqs⟩ := hI
      obtain ⟨hj1, rfl⟩ := rng_at hj
      obtain ⟨t', q, u5, u9, u10, u11, u12, ht', hQ, g5, g9, g10, g11, g12, r⟩ := law_turn (ns := ns) (s4 := s4) (s6 := s6) (j := j) (qs := qs) G ht f5 f9 f10 f11 f12 (by omega)
      refine ⟨TE ns n s4 s6 qs t s5 (.fz (.int j)) s9 s10 s11 s12 .no, _, by rcases f8 with rfl | ⟨_, rfl⟩ <;> rfl, r, t', qs ++ [q], u5, _, u9, u10, u11, u12, g5, .fz, g9, g10, g11, g12, rfl, ht', by simp; omega, fun q' hq' => ?_⟩
      rcases List.mem_append.mp hq' with h | h
      · exact hqs q' h
      · obtain rfl := List.mem_singleton.mp h; exact hQ)
    (Γ := TE ns n s4 s6 [] t1 s5' .no .no .no .no .no .no) ⟨t1, [], _, _, _, _, _, _, f5', FS.no, FS.no, FS.no, FS.no, FS.no, rfl, ht1, rfl, fun q hq => by simp at hq⟩
  obtain ⟨t4, qs, u5, u8, u9, u10, u11, u12, _, _, _, _, _, _, rfl, ht4, hq, hqs⟩ := hI
  rw [rng_len] at hq
  have s13 : t_law_13 (TE ns n s4 s6 [] t1 s5' .no .no .no .no .no .no) = .ok .nx (TE ns n s4 s6 qs t4 u5 u8 u9 u10 u11 u12 .no) := for_nx (rng_run (n := 4) rfl (by decide)) e
  obtain ⟨q0, q1, rest, rfl⟩ : ∃ q0 q1 rest, qs = q0 :: q1 :: rest := by
    match qs, hq with
    | q0 :: q1 :: rest, _ => exact ⟨q0, q1, rest, rfl⟩
  obtain ⟨A0, _, _⟩ := hqs q0 (by simp)
  obtain ⟨t5, er, ht5⟩ := z_refusals G A0 ht4
  have s25 : t_law_25 (TE ns n s4 s6 (q0 :: q1 :: rest) t4 u5 u8 u9 u10 u11 u12 .no) = .ok .nx (TE ns n s4 s6 (q0 :: q1 :: rest) t5 u5 u8 u9 u10 u11 u12 .no) := by
    have a : mBin idxD (mVar 7) (mC (.int 0)) (TE ns n s4 s6 (q0 :: q1 :: rest) t4 u5 u8 u9 u10 u11 u12 .no) = .ok (.fz (qD q0)) (TE ns n s4 s6 (q0 :: q1 :: rest) t4 u5 u8 u9 u10 u11 u12 .no) := by
      refine bin_run (va := .bw 7) (vb := .fz (.int 0)) (dx := .lst ((q0 :: q1 :: rest).map qD)) rfl rfl rfl rfl ?_
      show (atI ((q0 :: q1 :: rest).map qD) ((0 : Nat) : Int)).map Vl.fz = _
      rw [PU.atI_nat (a := qD q0) rfl]; rfl
    have a0 := bin_run (p := idxD) (va := .fz (qD q0)) (vb := .fz (.int 0)) (r := .fz (uD q0.us)) (mb := mC (.int 0)) a rfl rfl rfl rfl
    have a1 := bin_run (p := idxD) (va := .fz (qD q0)) (vb := .fz (.int 1)) (r := .fz (iD q0.st)) (mb := mC (.int 1)) a rfl rfl rfl rfl
    have a2 := bin_run (p := idxD) (va := .fz (qD q0)) (vb := .fz (.int 2)) (r := .fz (iD q0.fl)) (mb := mC (.int 2)) a rfl rfl rfl rfl
    refine if_f ((not_run (k := true) (test_run (callO4 (F := m_l_refusals) (i := 1) (bb := false) (bc := false) (t := t4) (t1 := t4) (m1 := mVar 2) (Γ := TE ns n s4 s6 (q0 :: q1 :: rest) t4 u5 u8 u9 u10 u11 u12 .no) (Γ4 := TE ns n s4 s6 (q0 :: q1 :: rest) t4 u5 u8 u9 u10 u11 u12 .no) rfl rfl a0 a1 a2 rfl er))).trans rfl) rfl
  have s27 : ∃ s13, t_law_27 (TE ns n s4 s6 (q0 :: q1 :: rest) t5 u5 u8 u9 u10 u11 u12 .no) = .ok .nx (LE ns t5 n s4 u5 s6 (.ow false ((q0 :: q1 :: rest).map qD)) u8 u9 u10 u11 u12 s13 .no) := by
    let Y (s13 : Sl) : EV := LE ns t5 n s4 u5 s6 (.ow false ((q0 :: q1 :: rest).map qD)) u8 u9 u10 u11 u12 s13 .no
    have one : ∀ q, QOK n q → t_law_28 (Y (.fz (qD q))) = .ok .nx (Y (.fz (qD q))) := fun q hQ => by
      obtain ⟨A, ef, xl⟩ := hQ
      have hN : n.N ≤ 36 := by have := G.f12; have := G.t24; show n.F + n.T ≤ 36; omega
      refine if_f (same_t (a := iD q.xs) (call4 (F := m_flood) (m1 := mVar 2) (a := netD n) (b := uD q.us) (c := iD q.st) (d := iD q.fl) (Γ1 := Y (.fz (qD q))) (Γ2 := Y (.fz (qD q))) (Γ3 := Y (.fz (qD q))) (Γ4 := Y (.fz (qD q))) rfl rfl rfl rfl ef) rfl (same_ints q.xs (by omega))) rfl
    have hi : i_law_27 (Y .no) = .ok [qD q0, qD q1] (Y .no) := by
      have hs : mSl (mVar 7) mONo (mOSo (mC (.int 2))) (Y .no) = .ok (.ow [qD q0, qD q1]) (Y .no) := by
        have : SX.cutD ((q0 :: q1 :: rest).map qD) none (some ((2 : Nat) : Int)) = [qD q0, qD q1] := by rw [cut_take]; rfl
        rw [← this]; rfl
      show mIL _ _ = _
      unfold mIL
      rw [hs]
      rfl
    refine ⟨.fz (qD q1), for_nx hi ?_⟩
    rw [for_c (Γ1 := Y (.fz (qD q0))) rfl (one q0 (hqs q0 (by simp))), for_c (Γ1 := Y (.fz (qD q1))) rfl (one q1 (hqs q1 (by simp)))]
    rfl
  obtain ⟨s13', s27⟩ := s27
  refine ⟨_, run_rt (v := .fz (.bl true)) (Γ' := LE ns t5 n s4 u5 s6 (.ow false ((q0 :: q1 :: rest).map qD)) u8 u9 u10 u11 u12 s13' .no) rfl ?_ rfl⟩
  show bd_law Γ0 = _
  rw [bq_law]
  exact sq s1 (sq s2 (sq s3 (sq e4 (sq e8 (sq s12 (sq s13 (sq s25 (sq s27 rfl))))))))
end K29

set_option Elab.async false
set_option linter.all false
set_option maxRecDepth 100000
set_option maxHeartbeats 4000000
namespace K29
open PySem PySem.Spec PyProof.Rows L2 L2H XT GX RD SX
def fn : List He.DefD := [d_NotUsable_init, d_require, d_is_integer, d_is_number, d_is_between, d_is_lot, d_count_of_nodes, d_is_node, d_is_switch_of, d_rank_of, d_rank_of_strength, d_switch_rank, d_flood, d_are_numbers, d_flooded, d_ways_over, d_l_tape, d_l_pick, d_l_same, d_l_name, d_l_row, d_l_web, d_l_rank, d_l_widened, d_l_begins, d_l_bars, d_l_refused, d_l_no_rank, d_l_spoilt, d_l_refusals, d_law]
def fa : List He.Fa := [.glo "OhmError", .glo "UseError", .glo "NetError", .glo "TextError", .glo "LiveError", .glo "NotUsable", .free "ValueError", .free "abs", .free "all", .free "bool", .free "enumerate", .free "int", .free "isinstance", .free "len", .free "list", .free "max", .free "min", .free "range", .free "str", .free "tuple", .free "zip", .glo "require", .glo "is_integer", .glo "is_number", .glo "is_between", .glo "is_lot", .glo "count_of_nodes", .glo "is_node", .glo "is_switch_of", .glo "rank_of", .glo "rank_of_strength", .glo "switch_rank", .glo "flood", .glo "are_numbers", .glo "flooded", .glo "ways_over", .glo "_law_tape", .glo "_law_pick", .glo "_law_same", .glo "_law_name", .glo "_law_row", .glo "_law_web", .glo "_law_rank", .glo "_law_widened", .glo "_law_begins", .glo "_law_bars", .glo "_law_refused", .glo "_law_no_rank", .glo "_law_spoilt", .glo "_law_refusals", .glo "law", .int "RANK_OF_FEEDS" 11, .int "RANK_BELOW_SWITCHES" 4, .int "GREATEST_FLOOR" 12]
def tf : List He.Defn := [("is_lot", none), ("flood", none), ("are_numbers", none)]
def ex (K : PySem.W.Frag) : Bool := exfB K (He.ga K "NotUsable") (a_NotUsable_init K) && (decide (PySem.W.nsIn K cStatics "sys.int_max_str_digits" = some none) && (decide (PySem.W.findIn K (.ref (He.ga K "NotUsable")) "word" = some none) && (decide (PySem.W.findIn K (.ref (He.ga K "NotUsable")) "at" = some none) && (decide (PySem.W.kitOne K (.ref (He.ga K "NotUsable")) (.ref (He.ga K "NotUsable")) = some true) && (decide (PySem.W.exmOne K (.ref (He.ga K "NotUsable")) (.ref (He.ga K "OhmError")) = some true) && (decide (PySem.W.exmOne K (.ref (He.ga K "NotUsable")) (.ref (He.ga K "UseError")) = some true) && (decide (PySem.W.kitOne K (.ref (He.ga K "NotUsable")) (.type "ValueError") = some true) && (decide (PySem.W.kitOne K (.ref (He.ga K "NotUsable")) (.ref (He.ga K "OhmError")) = some true) && (decide (PySem.W.kitOne K (.ref (He.ga K "NotUsable")) (.ref (He.ga K "UseError")) = some true) && (decide (PySem.W.kitAny K (.ref (He.ga K "NotUsable")) [.ref (He.ga K "NetError"), .ref (He.ga K "TextError"), .ref (He.ga K "LiveError")] = some false) && (decide (PySem.W.exmOne K (.ref (He.ga K "NotUsable")) (.ref (He.ga K "NotUsable")) = some true))))))))))))
def names0 : List Str := ["__name__", "OhmError", "UseError", "NetError", "TextError", "LiveError", "NotUsable", "require", "is_integer", "is_number", "is_between", "is_lot", "count_of_nodes", "is_node", "is_switch_of", "rank_of", "rank_of_strength", "switch_rank", "flood", "are_numbers", "flooded", "ways_over", "_law_tape", "_law_pick", "_law_same", "_law_name", "_law_row", "_law_web", "_law_rank", "_law_widened"]
def names1 : List Str := ["_law_begins", "_law_bars", "_law_refused", "_law_no_rank", "_law_spoilt", "_law_refusals", "RANK_OF_FEEDS", "RANK_BELOW_SWITCHES", "GREATEST_FLOOR"]
def names : List Str := names0 ++ names1
abbrev R : PySem.W.OpenRow := PySem.W.OpenLaw.row PySem.Challenge.rw_everyohm_k29_whole_flood_by_widening
abbrev hk : PySem.W.Hook := hookS 4 fa fn [] tf ex
def ob (s : PySem.W.SharedT) : He.AlX := obsS 4 fa fn [] tf ex (HandSHeadRun.getT s)
theorem ob_eq (s : PySem.W.SharedT) : ob s = hk.obs s.abs := obsS_eq (HandSHeadRun.getT_eq s)
theorem run (w : World) : HandSHeadRun.RunEq R (PySem.W.view R.prog [45]) hk ob 20000 names w := by
  intro os
  kernel_rfl
end K29

set_option Elab.async false
set_option linter.all false
set_option maxRecDepth 100000
set_option maxHeartbeats 4000000
namespace K29
open PySem PySem.Spec PyProof.Rows L2 L2H XT GX RD SX
theorem txt_of {K : PySem.W.Frag} {h : Heap} {mg : Str → Option Value} {w : World} (X : K.In h) (G : h.Ns mainGlobals mg) (c : He.SaysX fa fn [] tf ex w h K) : ∃ T : Txt K mg, ∀ (s : Shared) (v : Value), BindsTo s T.fd_law ⟨[v], []⟩ [("_law_script", v)] := by
  have cd := says_d c.t
  have m0 := c.more
  unfold ex at m0
  obtain ⟨e0, m1⟩ := ba2 m0
  obtain ⟨e1, m2⟩ := ba2 m1
  obtain ⟨e2, m3⟩ := ba2 m2
  obtain ⟨e3, m4⟩ := ba2 m3
  obtain ⟨e4, m5⟩ := ba2 m4
  obtain ⟨e5, m6⟩ := ba2 m5
  obtain ⟨e6, m7⟩ := ba2 m6
  obtain ⟨e7, m8⟩ := ba2 m7
  obtain ⟨e8, m9⟩ := ba2 m8
  obtain ⟨e9, m10⟩ := ba2 m9
  obtain ⟨e10, m11⟩ := ba2 m10
  have e11 := m11
  obtain ⟨fd_NotUsable_init, F_NotUsable_init⟩ := cd.def_ 0 (d := d_NotUsable_init) rfl
  obtain ⟨fd_require, F_require⟩ := cd.def_ 1 (d := d_require) rfl
  obtain ⟨fd_is_integer, F_is_integer⟩ := cd.def_ 2 (d := d_is_integer) rfl
  obtain ⟨fd_is_number, F_is_number⟩ := cd.def_ 3 (d := d_is_number) rfl
  obtain ⟨fd_is_between, F_is_between⟩ := cd.def_ 4 (d := d_is_between) rfl
  obtain ⟨fd_is_lot, F_is_lot⟩ := cd.def_ 5 (d := d_is_lot) rfl
  obtain ⟨fd_count_of_nodes, F_count_of_nodes⟩ := cd.def_ 6 (d := d_count_of_nodes) rfl
  obtain ⟨fd_is_node, F_is_node⟩ := cd.def_ 7 (d := d_is_node) rfl
  obtain ⟨fd_is_switch_of, F_is_switch_of⟩ := cd.def_ 8 (d := d_is_switch_of) rfl
  obtain ⟨fd_rank_of, F_rank_of⟩ := cd.def_ 9 (d := d_rank_of) rfl
  obtain ⟨fd_rank_of_strength, F_rank_of_strength⟩ := cd.def_ 10 (d := d_rank_of_strength) rfl
  obtain ⟨fd_switch_rank, F_switch_rank⟩ := cd.def_ 11 (d := d_switch_rank) rfl
  obtain ⟨fd_flood, F_flood⟩ := cd.def_ 12 (d := d_flood) rfl
  obtain ⟨fd_are_numbers, F_are_numbers⟩ := cd.def_ 13 (d := d_are_numbers) rfl
  obtain ⟨fd_flooded, F_flooded⟩ := cd.def_ 14 (d := d_flooded) rfl
  obtain ⟨fd_ways_over, F_ways_over⟩ := cd.def_ 15 (d := d_ways_over) rfl
  obtain ⟨fd_l_tape, F_l_tape⟩ := cd.def_ 16 (d := d_l_tape) rfl
  obtain ⟨fd_l_pick, F_l_pick⟩ := cd.def_ 17 (d := d_l_pick) rfl
  obtain ⟨fd_l_same, F_l_same⟩ := cd.def_ 18 (d := d_l_same) rfl
  obtain ⟨fd_l_name, F_l_name⟩ := cd.def_ 19 (d := d_l_name) rfl
  obtain ⟨fd_l_row, F_l_row⟩ := cd.def_ 20 (d := d_l_row) rfl
  obtain ⟨fd_l_web, F_l_web⟩ := cd.def_ 21 (d := d_l_web) rfl
  obtain ⟨fd_l_rank, F_l_rank⟩ := cd.def_ 22 (d := d_l_rank) rfl
  obtain ⟨fd_l_widened, F_l_widened⟩ := cd.def_ 23 (d := d_l_widened) rfl
  obtain ⟨fd_l_begins, F_l_begins⟩ := cd.def_ 24 (d := d_l_begins) rfl
  obtain ⟨fd_l_bars, F_l_bars⟩ := cd.def_ 25 (d := d_l_bars) rfl
  obtain ⟨fd_l_refused, F_l_refused⟩ := cd.def_ 26 (d := d_l_refused) rfl
  obtain ⟨fd_l_no_rank, F_l_no_rank⟩ := cd.def_ 27 (d := d_l_no_rank) rfl
  obtain ⟨fd_l_spoilt, F_l_spoilt⟩ := cd.def_ 28 (d := d_l_spoilt) rfl
  obtain ⟨fd_l_refusals, F_l_refusals⟩ := cd.def_ 29 (d := d_l_refusals) rfl
  obtain ⟨fd_law, F_law⟩ := cd.def_ 30 (d := d_law) rfl
  obtain ⟨t_RANK_OF_FEEDS, v_RANK_OF_FEEDS⟩ := He.int_ok X G (cd.fact 51 (f := .int "RANK_OF_FEEDS" 11) rfl)
  obtain ⟨t_RANK_BELOW_SWITCHES, v_RANK_BELOW_SWITCHES⟩ := He.int_ok X G (cd.fact 52 (f := .int "RANK_BELOW_SWITCHES" 4) rfl)
  obtain ⟨t_GREATEST_FLOOR, v_GREATEST_FLOOR⟩ := He.int_ok X G (cd.fact 53 (f := .int "GREATEST_FLOOR" 12) rfl)
  refine ⟨{ c_OhmError := He.glo_ok X G (cd.fact 0 (f := .glo "OhmError") rfl), c_UseError := He.glo_ok X G (cd.fact 1 (f := .glo "UseError") rfl), c_NetError := He.glo_ok X G (cd.fact 2 (f := .glo "NetError") rfl), c_TextError := He.glo_ok X G (cd.fact 3 (f := .glo "TextError") rfl), c_LiveError := He.glo_ok X G (cd.fact 4 (f := .glo "LiveError") rfl), c_NotUsable := He.glo_ok X G (cd.fact 5 (f := .glo "NotUsable") rfl), m_ValueError := He.free_ok X G (cd.fact 6 (f := .free "ValueError") rfl), m_abs := He.free_ok X G (cd.fact 7 (f := .free "abs") rfl), m_all := He.free_ok X G (cd.fact 8 (f := .free "all") rfl), m_bool := He.free_ok X G (cd.fact 9 (f := .free "bool") rfl), m_enumerate := He.free_ok X G (cd.fact 10 (f := .free "enumerate") rfl), m_int := He.free_ok X G (cd.fact 11 (f := .free "int") rfl), m_isinstance := He.free_ok X G (cd.fact 12 (f := .free "isinstance") rfl), m_len := He.free_ok X G (cd.fact 13 (f := .free "len") rfl), m_list := He.free_ok X G (cd.fact 14 (f := .free "list") rfl), m_max := He.free_ok X G (cd.fact 15 (f := .free "max") rfl), m_min := He.free_ok X G (cd.fact 16 (f := .free "min") rfl), m_range := He.free_ok X G (cd.fact 17 (f := .free "range") rfl), m_str := He.free_ok X G (cd.fact 18 (f := .free "str") rfl), m_tuple := He.free_ok X G (cd.fact 19 (f := .free "tuple") rfl), m_zip := He.free_ok X G (cd.fact 20 (f := .free "zip") rfl), t_RANK_OF_FEEDS := t_RANK_OF_FEEDS, v_RANK_OF_FEEDS := v_RANK_OF_FEEDS, t_RANK_BELOW_SWITCHES := t_RANK_BELOW_SWITCHES, v_RANK_BELOW_SWITCHES := v_RANK_BELOW_SWITCHES, t_GREATEST_FLOOR := t_GREATEST_FLOOR, v_GREATEST_FLOOR := v_GREATEST_FLOOR, fd_NotUsable_init := fd_NotUsable_init, F_NotUsable_init := FT.of (d := d_NotUsable_init) rfl F_NotUsable_init, fd_require := fd_require, F_require := FT.of (d := d_require) rfl F_require, fd_is_integer := fd_is_integer, F_is_integer := FT.of (d := d_is_integer) rfl F_is_integer, fd_is_number := fd_is_number, F_is_number := FT.of (d := d_is_number) rfl F_is_number, fd_is_between := fd_is_between, F_is_between := FT.of (d := d_is_between) rfl F_is_between, fd_is_lot := fd_is_lot, F_is_lot := FT.of (d := d_is_lot) rfl F_is_lot, fd_count_of_nodes := fd_count_of_nodes, F_count_of_nodes := FT.of (d := d_count_of_nodes) rfl F_count_of_nodes, fd_is_node := fd_is_node, F_is_node := FT.of (d := d_is_node) rfl F_is_node, fd_is_switch_of := fd_is_switch_of, F_is_switch_of := FT.of (d := d_is_switch_of) rfl F_is_switch_of, fd_rank_of := fd_rank_of, F_rank_of := FT.of (d := d_rank_of) rfl F_rank_of, fd_rank_of_strength := fd_rank_of_strength, F_rank_of_strength := FT.of (d := d_rank_of_strength) rfl F_rank_of_strength, fd_switch_rank := fd_switch_rank, F_switch_rank := FT.of (d := d_switch_rank) rfl F_switch_rank, fd_flood := fd_flood, F_flood := FT.of (d := d_flood) rfl F_flood, fd_are_numbers := fd_are_numbers, F_are_numbers := FT.of (d := d_are_numbers) rfl F_are_numbers, fd_flooded := fd_flooded, F_flooded := FT.of (d := d_flooded) rfl F_flooded, fd_ways_over := fd_ways_over, F_ways_over := FT.of (d := d_ways_over) rfl F_ways_over, fd_l_tape := fd_l_tape, F_l_tape := FT.of (d := d_l_tape) rfl F_l_tape, fd_l_pick := fd_l_pick, F_l_pick := FT.of (d := d_l_pick) rfl F_l_pick, fd_l_same := fd_l_same, F_l_same := FT.of (d := d_l_same) rfl F_l_same, fd_l_name := fd_l_name, F_l_name := FT.of (d := d_l_name) rfl F_l_name, fd_l_row := fd_l_row, F_l_row := FT.of (d := d_l_row) rfl F_l_row, fd_l_web := fd_l_web, F_l_web := FT.of (d := d_l_web) rfl F_l_web, fd_l_rank := fd_l_rank, F_l_rank := FT.of (d := d_l_rank) rfl F_l_rank, fd_l_widened := fd_l_widened, F_l_widened := FT.of (d := d_l_widened) rfl F_l_widened, fd_l_begins := fd_l_begins, F_l_begins := FT.of (d := d_l_begins) rfl F_l_begins, fd_l_bars := fd_l_bars, F_l_bars := FT.of (d := d_l_bars) rfl F_l_bars, fd_l_refused := fd_l_refused, F_l_refused := FT.of (d := d_l_refused) rfl F_l_refused, fd_l_no_rank := fd_l_no_rank, F_l_no_rank := FT.of (d := d_l_no_rank) rfl F_l_no_rank, fd_l_spoilt := fd_l_spoilt, F_l_spoilt := FT.of (d := d_l_spoilt) rfl F_l_spoilt, fd_l_refusals := fd_l_refusals, F_l_refusals := FT.of (d := d_l_refusals) rfl F_l_refusals, fd_law := fd_law, F_law := FT.of (d := d_law) rfl F_law, g_require := He.glo_ok X G (cd.fact 21 (f := .glo "require") rfl), g_is_integer := He.glo_ok X G (cd.fact 22 (f := .glo "is_integer") rfl), g_is_number := He.glo_ok X G (cd.fact 23 (f := .glo "is_number") rfl), g_is_between := He.glo_ok X G (cd.fact 24 (f := .glo "is_between") rfl), g_is_lot := He.glo_ok X G (cd.fact 25 (f := .glo "is_lot") rfl), g_count_of_nodes := He.glo_ok X G (cd.fact 26 (f := .glo "count_of_nodes") rfl), g_is_node := He.glo_ok X G (cd.fact 27 (f := .glo "is_node") rfl), g_is_switch_of := He.glo_ok X G (cd.fact 28 (f := .glo "is_switch_of") rfl), g_rank_of := He.glo_ok X G (cd.fact 29 (f := .glo "rank_of") rfl), g_rank_of_strength := He.glo_ok X G (cd.fact 30 (f := .glo "rank_of_strength") rfl), g_switch_rank := He.glo_ok X G (cd.fact 31 (f := .glo "switch_rank") rfl), g_flood := He.glo_ok X G (cd.fact 32 (f := .glo "flood") rfl), g_are_numbers := He.glo_ok X G (cd.fact 33 (f := .glo "are_numbers") rfl), g_flooded := He.glo_ok X G (cd.fact 34 (f := .glo "flooded") rfl), g_ways_over := He.glo_ok X G (cd.fact 35 (f := .glo "ways_over") rfl), g_l_tape := He.glo_ok X G (cd.fact 36 (f := .glo "_law_tape") rfl), g_l_pick := He.glo_ok X G (cd.fact 37 (f := .glo "_law_pick") rfl), g_l_same := He.glo_ok X G (cd.fact 38 (f := .glo "_law_same") rfl), g_l_name := He.glo_ok X G (cd.fact 39 (f := .glo "_law_name") rfl), g_l_row := He.glo_ok X G (cd.fact 40 (f := .glo "_law_row") rfl), g_l_web := He.glo_ok X G (cd.fact 41 (f := .glo "_law_web") rfl), g_l_rank := He.glo_ok X G (cd.fact 42 (f := .glo "_law_rank") rfl), g_l_widened := He.glo_ok X G (cd.fact 43 (f := .glo "_law_widened") rfl), g_l_begins := He.glo_ok X G (cd.fact 44 (f := .glo "_law_begins") rfl), g_l_bars := He.glo_ok X G (cd.fact 45 (f := .glo "_law_bars") rfl), g_l_refused := He.glo_ok X G (cd.fact 46 (f := .glo "_law_refused") rfl), g_l_no_rank := He.glo_ok X G (cd.fact 47 (f := .glo "_law_no_rank") rfl), g_l_spoilt := He.glo_ok X G (cd.fact 48 (f := .glo "_law_spoilt") rfl), g_l_refusals := He.glo_ok X G (cd.fact 49 (f := .glo "_law_refusals") rfl), g_law := He.glo_ok X G (cd.fact 50 (f := .glo "law") rfl), x_NotUsable := exfB_ok e0, stN := of_decide_eq_true e1, f_NotUsable_word := of_decide_eq_true e2, f_NotUsable_at := of_decide_eq_true e3, k_NotUsable_NotUsable := of_decide_eq_true e4, e_NotUsable_OhmError := of_decide_eq_true e5, e_NotUsable_UseError := of_decide_eq_true e6, k_NotUsable_ValueError := of_decide_eq_true e7, k_NotUsable_OhmError := of_decide_eq_true e8, k_NotUsable_UseError := of_decide_eq_true e9, ka_NotUsable_NetError_TextError_LiveError := of_decide_eq_true e10, e_NotUsable_NotUsable := of_decide_eq_true e11 }, fun s v => ?_⟩
  exact FunD.bindsA (ps := ["_law_script"]) F_law (fun _ _ _ _ _ _ us hl => match us, hl with | [_], _ => rfl) s [v] rfl
theorem tabs_of {K : PySem.W.Frag} {mg : Str → Option Value} {base : Heap} (h : ∀ p ∈ tf.map (He.cT K), LamX.TabB base mg p.1 p.2) : Tabs K mg base :=
  ⟨tab_gx (h (He.cT K ("is_lot", none)) (List.mem_map.mpr ⟨_, by simp [tf], rfl⟩)), tab_gx (h (He.cT K ("flood", none)) (List.mem_map.mpr ⟨_, by simp [tf], rfl⟩)), tab_gx (h (He.cT K ("are_numbers", none)) (List.mem_map.mpr ⟨_, by simp [tf], rfl⟩))⟩
theorem law_at (pure : ∀ ns : List Int, ns.length ≤ 63 → (∀ z ∈ ns, Builtin.Int.intBits z ≤ 1048576) → ∃ outs, m_law [.scr ns] = .ok (.fz (.bl true)) outs)
    {w : World} {mg : Str → Option Value} {fa0 : Addr} {h : Heap} (Y : hk.says w h) (G : h.Ns mainGlobals mg) (hmg : mg ("law" : Str) = some (.ref fa0)) :
    ∃ K : PySem.W.Frag, K.In h ∧ LamX.LawAtS PySem.Challenge.rw_everyohm_k29_whole_flood_by_widening w K (L2.CX (PySem.Challenge.rw_everyohm_k29_whole_flood_by_widening).prog w) 15 63 "_law_script" mg fa0 h := by
  obtain ⟨K, X, c⟩ := Y
  obtain ⟨T, hb⟩ := txt_of X G c
  have e := hmg.symm.trans T.g_law
  cases e
  refine ⟨K, X, T.fd_law, tf.map (He.cT K), spF K (ts K) [false] m_law, fun p hp => ?_, fun p hp => ?_, fun p hp => ?_, hb, fun H a ns hl hz hT hS => law_sp (fun P hP => ?_) hS (pure ns hl hz), fun base _ _ hB => ok_law T (tabs_of hB)⟩
  · obtain ⟨d, hd, rfl⟩ := List.mem_map.mp hp
    exact c.empty d hd
  · obtain ⟨d, hd, rfl⟩ := List.mem_map.mp hp
    exact c.out d hd
  · obtain ⟨d, hd, rfl⟩ := List.mem_map.mp hp
    exact PySem.W.codeHd_of_K X (c.hd d hd)
  · have hP : P ∈ (tf.map (He.cT K)).map (·.2) := hP
    obtain ⟨p, hp, rfl⟩ := List.mem_map.mp hP
    exact hT p hp
theorem topName : (HandSHeadRun.topDef (PySem.W.OpenLaw.row PySem.Challenge.rw_everyohm_k29_whole_flood_by_widening).prog 45).name = ("law" : Str) := by kernel_rfl
end K29
open PySem PySem.W PySem.Calls PyProof.Rows
theorem PySem.Challenge.cw_everyohm_k29_whole_flood_by_widening_holds : PySem.Challenge.rw_everyohm_k29_whole_flood_by_widening.Holds := by
  w_on; o_law
  refine HandSHeadRun.head_any (r := OpenLaw.row PySem.Challenge.rw_everyohm_k29_whole_flood_by_widening) (q := view (OpenLaw.row PySem.Challenge.rw_everyohm_k29_whole_flood_by_widening).prog [45]) (H := K29.hk) (ob := K29.ob) (M := 20000) (loose := K29.names) (d := HandSHeadRun.topDef (OpenLaw.row PySem.Challenge.rw_everyohm_k29_whole_flood_by_widening).prog 45) (kwd := []) K29.ob_eq
    (by kernel_rfl) (fun s => by kernel_rfl) K29.run (by kernel_rfl) (by kernel_rfl) (by kernel_rfl) (by rfl) (by first | assumption | decide +kernel) (by decide +kernel) ⟨rfl, rfl, rfl, rfl, rfl, by decide +kernel⟩ ?hw ?hc
  case hw => w_witness2
  case hc =>
    refine LamX.walk_ofTsE (l := PySem.Challenge.rw_everyohm_k29_whole_flood_by_widening) (n := 63) (k := 15) (x := "_law_script") (CX := fun w => L2.CX (PySem.Challenge.rw_everyohm_k29_whole_flood_by_widening).prog w) rfl (by decide) (by kernel_rfl) ⟨rfl, by decide, by decide⟩ ?F (fun _ _ _ _ _ => SX.cx_none)
    intro w mg fa h Y G hmg0
    rw [K29.topName] at hmg0
    exact K29.law_at K29.law_pure Y G hmg0

