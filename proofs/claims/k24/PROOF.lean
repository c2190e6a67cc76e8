import PyProof.Rows.All
import Wide.All
import OpenK.AllK
import HandS.AnyAll
import HandS.GenOver
import HandS.Defaults
import HandS.Deep
import HandS.IsInst
import HandS.Flow
import HandS.CallSlots
import HandS.EndTab
import KE.DataEq
import KE.DataFind
import KE.DatumIndex
import HandS.TupAny
import HandS.TupMul
import HandS.Wide
import HandS.TupLe
import HandS.SetFor
import PyProof.ReprRoads
import PyProof.ReprBulk
import HandS.Style
import KE.KRevSl
import HandS.SortInts
import HandS.SortKw
import HandS.ExcValue
import PyProof.TupleOfSeq
import Wide.FinOn
import HandS.ForMost
import HandS.ForExc
import PyProof.StrBlock2
import HandS.Remove
import HandS.Zip
import HandS.ExcInit
import HandS.ExcOwn
import HandS.ExcIs
import HandS.Text
import PyProof.SumWalkG
import PyProof.SumAnyB
import PyProof.WalksMore
import HandS.Conv
import HandS.HeadHook4
import KE.KStar
import KE.GoesEnumKw
import KE.GoesMore
import HandS.ExcField
import HandS.TryOnly
import HandS.Head2
import HandS.HeadEnd
import PySem.Challenge.RW_keenlot_k24_whole_bounds_of_lots

section
set_option Elab.async false
set_option linter.all false
set_option maxRecDepth 100000
namespace KL
open PySem PySem.Spec PyProof.Rows

/-- none of the generators is lost -/
theorem any_gens {α : Type} {M : Model} {A : Around} {s : Shared} {t : Sem α} {Q : α → Shared → Prop} {E : Value → Shared → Prop} {n : Nat} (hn : n ≤ s.gens.size) (h : wpAny M A t (fun a s' => n ≤ s'.gens.size → Q a s') E s) : wpAny M A t Q E s :=
  GenW.wpAny_gsz hn (wpAny_mono h (fun _ _ z => z) fun _ _ z _ => z)
theorem bare_set {G : Array GenState} {g : Nat} {x : GenState} (h : AllBare G) (hx : x.bare = true) : AllBare (G.setIfInBounds g x) := fun y hy => by
  obtain ⟨i, hi, e⟩ := Array.mem_iff_getElem.mp hy
  have hi' : i < G.size := by simpa using hi
  rw [Array.getElem_setIfInBounds hi'] at e
  split at e
  · rw [← e]; exact hx
  · rw [← e]; exact h _ (Array.getElem_mem _)
/-! ### all(..) of a generator, by what its turns promise -/
section
variable {prog : Program} {w : World} {A : Around}
def Don (Fin : Bool → Shared → Prop) (b : Bool) (s : Shared) : Prop := ∀ (G : Array GenState) (h' : Heap), (∀ c o, s.heap.get? c = some o → h'.get? c = some o) → (AllBare s.gens → AllBare G) → Fin b { s with gens := G, heap := h' }
def GY (a : Addr) (g : Nat) (Fin : Bool → Shared → Prop) : Protocol := fun _ _ v s kap => ∃ b : Bool, v = .bool b ∧ s.heap.IsGen a g ∧ s.heap.NoLimit ∧ g < s.gens.size ∧ (b = false → Don Fin false s) ∧
  (b = true → ∀ G : Array GenState, G.size = s.gens.size → (AllBare s.gens → AllBare G) → kap (.send .none) { s with gens := G })
def GR (Fin : Bool → Shared → Prop) : GenEnd := fun _ _ r s => r = .ok .next ∧ Don Fin true s
theorem all_loop {a : Addr} {g : Nat} {Fin : Bool → Shared → Prop} {Rr : Result → Shared → Prop} (hh : A.handled = none) (hroom : A.depth < recursionLimit) (hR : ∀ b s', Fin b s' → Rr (.ok (.ret (.bool b))) s') :
    ∀ (N : Nat) (s : Shared) (gs : GenState), s.gens[g]? = some gs → s.heap.IsGen a g → s.heap.NoLimit → gs.Goes (model prog w) A.in1.in1 (GR Fin) (GY a g Fin) N (.send .none) (s.setGen g .running) →
      codeAny (model prog w) A (.builtin "all.loop" ⟨[.ref a], []⟩) Rr s := by
  intro N
  induction N with
  | zero =>
    intro s gs hgs hg hl hgo
    refine codeAny_builtin F.entry_all_loop ?_
    rw [Around.under_plainId F.plain_all_loop _]
    show wpAny _ A.in1 (pyNext (.ref a) >>= _) _ _ s
    refine wpAny_bind (wpAny_pyNext_genexpQ (A := A.in1) (P := fun _ _ s => Don Fin true s) hh hl hroom hg hgs hgo (fun v s₁ gs' hb hv => ?_) (fun s₁ hp h' hk => ?_))
    · obtain ⟨b, rfl, _, _, hlt, h0, h1⟩ := hv
      refine wpAny_bind (wpAny_holding (wpAny_truthy_bool ?_))
      refine wpAny_bind (wpAny_letGo ?_)
      cases b with
      | true => exact (h1 rfl s₁.gens rfl id).elim
      | false =>
        simp only [Bool.false_eq_true, if_false]
        exact wpAny_bind (wpAny_rule (wpAny_pure (hR _ _ (h0 rfl _ _ (fun _ _ e => e) fun z => bare_set z hb))))
    · exact wpAny_bind (wpAny_rule (wpAny_pure (hR _ _ (hp _ h' hk fun z => bare_set z rfl))))
  | succ N ih =>
    intro s gs hgs hg hl hgo
    refine codeAny_builtin F.entry_all_loop ?_
    rw [Around.under_plainId F.plain_all_loop _]
    show wpAny _ A.in1 (pyNext (.ref a) >>= _) _ _ s
    refine wpAny_bind (wpAny_pyNext_genexpQ (A := A.in1) (P := fun _ _ s => Don Fin true s) hh hl hroom hg hgs hgo (fun v s₁ gs' hb hv => ?_) (fun s₁ hp h' hk => ?_))
    · obtain ⟨b, rfl, hg1, hl1, hlt, h0, h1⟩ := hv
      refine wpAny_bind (wpAny_holding (wpAny_truthy_bool ?_))
      refine wpAny_bind (wpAny_letGo ?_)
      cases b with
      | true =>
        simp only [if_true]
        refine wpAny_pure ⟨plainId_quiet F.plain_all_loop _, ih _ gs' ?_ hg1 hl1 ?_⟩
        · show (s₁.gens.setIfInBounds g gs')[g]? = some gs'
          simp [hlt]
        · exact h1 rfl ((s₁.gens.setIfInBounds g gs').setIfInBounds g .running) (by simp) fun z => bare_set (bare_set z hb) rfl
      | false =>
        simp only [Bool.false_eq_true, if_false]
        exact wpAny_bind (wpAny_rule (wpAny_pure (hR _ _ (h0 rfl _ _ (fun _ _ e => e) fun z => bare_set z hb))))
    · exact wpAny_bind (wpAny_rule (wpAny_pure (hR _ _ (hp _ h' hk fun z => bare_set z rfl))))
theorem call_all_gen {a : Addr} {g N : Nat} {gs : GenState} {Fin : Bool → Shared → Prop} {Q : Value → Shared → Prop} {E : Value → Shared → Prop} {s : Shared} (hh : A.handled = none) (hroom : A.depth < recursionLimit) (hQ : ∀ b s', Fin b s' → Q (.bool b) s')
    (hgs : s.gens[g]? = some gs) (hg : s.heap.IsGen a g) (hl : s.heap.NoLimit) (hgo : gs.Goes (model prog w) A.in1.in1 (GR Fin) (GY a g Fin) N (.send .none) (s.setGen g .running)) :
    wpAny (model prog w) A (call (.builtin "all") [.ref a]) Q E s := by
  refine call_function_tree F.kind_all F.plain_all F.entry_all (F.args_all1 _) ?_
  unfold Builtin.«all»
  refine wpAny_bind (m := oneArg "all" _) (wpAny_pure ?_)
  refine wpAny_bind (wpAny_pyIter_gen hg ?_)
  exact wpAny_pure ⟨plainId_quiet F.plain_all_loop _, all_loop hh hroom (fun b s' h => hQ b s' h) N s gs hgs hg hl hgo⟩
end
end KL
end

section
set_option Elab.async false
set_option linter.all false
set_option maxRecDepth 100000
namespace KL
open PySem PySem.Spec PyProof.Rows L2

theorem inv_gens {X : Cx} {pins : List (Addr × Obj)} {σ : L2.St} {H : Hp} {s : Shared} {G : Array GenState} (I : Inv X pins σ H s) (h : AllBare G) : Inv X pins σ H { s with gens := G } :=
  ⟨I.ok, I.os, h, I.base, I.loc, I.cell, I.free, I.freeC, I.pin, I.hok, I.len⟩
/-- how the elements of a generator are taken, one by one, till one is false -/
def Turns (J : It) (gt : TG) (te : TE) (vs : List Nat) (σ0 : L2.St) (W : Nat → Nat → Hp → Prop) (Q : VK) : Prop := ∀ i m H, W i m H → (J.stop i H ∧ Q (.bl true) H) ∨
  (J.go i H ∧ ∃ Nx : Hp → Prop, (∀ H', Nx H' → ∃ m', m' < m ∧ W (i + 1) m' H') ∧ ∀ x H', J.yld i H x H' → gt x (wipe σ0 vs) H' fun σ2 H2 => wipe σ2 vs = wipe σ0 vs ∧ te σ2 H2 fun y H4 => ∃ b, y = .bl b ∧ if b = true then Nx H4 else Q (.bl false) H4)
theorem seg_all {X : Cx} {A : Around} {elt tg iter : Expr} {scope : Scope} {pos : Pos} {it a : Addr} {g : Nat} {ob : Obj} {fp : List Addr} {tn : Nat → Heap → Prop} {J : It} {Fin : Bool → Shared → Prop} {gt : TG} {te : TE} {vs : List Nat} {σ0 : L2.St} {W : Nat → Nat → Hp → Prop} {Q : VK}
    (T : Turn X.prog X.w X.K tg J fp it tn) (hc : X.calm = true) (hA : X.A = A.over (.compLoop (.GeneratorExp elt [⟨tg, iter, [], 0⟩] scope pos) 0 (.ref it) .none X.env) []) (hx : X.xe = fun _ _ => False) (hpn : X.pn = [(a, ob)]) (hgen : ∀ h : Heap, h.get? a = some ob → h.IsGen a g)
    (hco : X.env.scope.isCoroutine = false) (pg : PG X tg gt) (pe : PE X elt te) (turn : Turns J gt te vs σ0 W Q) (han : a ∉ fp) (hex : ∀ b ∈ fp, b ∈ X.ex)
    (fin : ∀ b σ' H' s', Inv X [] σ' H' s' → Q (.bl b) H' → Don Fin b s') :
    ∀ (N i m : Nat) (s s₀ : Shared) (H : Hp), m ≤ N → Inv X [] (wipe σ0 vs) H s → tn i s.heap → (∀ b ∈ fp, H b = none) → W i m H → g < s.gens.size →
      Seg (model X.prog X.w) A (GR Fin) (GY a g Fin) (N + 1) s₀ (.compLoop (.GeneratorExp elt [⟨tg, iter, [], 0⟩] scope pos) 0 (.ref it) .none X.env)
        ((model X.prog X.w).den (.compLoop (.GeneratorExp elt [⟨tg, iter, [], 0⟩] scope pos) 0 (.ref it) .none X.env)) [] s := by
  have ev : ∀ {α : Type} {t : Sem α} {Q : α → Shared → Prop} {E : Value → Shared → Prop} {s : Shared}, wpAny (model X.prog X.w) X.A t Q (fun _ _ => False) s → wpAny (model X.prog X.w) (A.over (.compLoop (.GeneratorExp elt [⟨tg, iter, [], 0⟩] scope pos) 0 (.ref it) .none X.env) []) t Q E s := fun h => by
    rw [← hA]; exact wpAny_mono h (fun _ _ z => z) fun _ _ z => z.elim
  have ex : ∀ {α : Type} {t : Sem α} {Q : α → Shared → Prop} {s : Shared}, wpAny (model X.prog X.w) X.A t Q X.xe s → wpAny (model X.prog X.w) X.A t Q (fun _ _ => False) s := fun h => by rw [hx] at h; exact h
  have pin : ∀ {pins : List (Addr × Obj)} {σ' : L2.St} {H' : Hp} {s' : Shared}, Inv X pins σ' H' s' → s'.heap.get? a = some ob := fun I' => (I'.pin (a, ob) (List.mem_append_left _ (by rw [hpn]; simp))).1
  have stat : ∀ {σ' : L2.St} {H' : Hp} {s' : Shared}, Inv X [] σ' H' s' → (∀ b ∈ fp, b ∈ X.ex) → (∀ b ∈ fp, H' b = none) → ∀ b ∈ fp, FpOk X [] H' b := fun I' hex hn b hb =>
    ⟨hn b hb, (I'.ok.exf b (hex b hb)).1, I'.ok.exfs b (hex b hb), .inl (hex b hb), fun x c e => (I'.ok.exf b (hex b hb)).2 x c e, fun p hp => by
      rw [hpn] at hp
      have : p = (a, ob) := by simpa using hp
      rw [this]
      exact fun z => han (by rw [show a = b from z]; exact hb)⟩
  have main : ∀ (N : Nat), (∀ M, N = M + 1 → ∀ (i m : Nat) (s s₀ : Shared) (H : Hp), m ≤ M → Inv X [] (wipe σ0 vs) H s → tn i s.heap → (∀ b ∈ fp, H b = none) → W i m H → g < s.gens.size →
      Seg (model X.prog X.w) A (GR Fin) (GY a g Fin) N s₀ (.compLoop (.GeneratorExp elt [⟨tg, iter, [], 0⟩] scope pos) 0 (.ref it) .none X.env)
        ((model X.prog X.w).den (.compLoop (.GeneratorExp elt [⟨tg, iter, [], 0⟩] scope pos) 0 (.ref it) .none X.env)) [] s) → ∀ (i m : Nat) (s s₀ : Shared) (H : Hp), m ≤ N → Inv X [] (wipe σ0 vs) H s → tn i s.heap → (∀ b ∈ fp, H b = none) → W i m H → g < s.gens.size →
      Seg (model X.prog X.w) A (GR Fin) (GY a g Fin) (N + 1) s₀ (.compLoop (.GeneratorExp elt [⟨tg, iter, [], 0⟩] scope pos) 0 (.ref it) .none X.env)
        ((model X.prog X.w).den (.compLoop (.GeneratorExp elt [⟨tg, iter, [], 0⟩] scope pos) 0 (.ref it) .none X.env)) [] s := by
    intro N ih i m s s₀ H hm I st hn w hg
    show Seg _ A _ _ _ s₀ _ ((compTurn (.GeneratorExp elt [⟨tg, iter, [], 0⟩] scope pos) 0 (.ref it) .none X.env).onRaise (leaving X.env)) [] s
    rw [compTurn_gen, Sem.onRaise_eq_wrap]
    refine seg_bind_wrap (wpAny_standAt ?_)
    rcases turn i m H w with ⟨stop, qq⟩ | ⟨go, Nx, hNx, step⟩
    · refine seg_bind_wrap (ev (wpAny_mono (T.done X rfl rfl rfl hc i [] s _ H (fun _ _ => False) I (stat I hex hn) st stop) (fun r s1 ⟨hr, I1⟩ => ?_) fun _ _ z => z))
      subst hr
      exact seg_end (.ok .next) ⟨rfl, fin true _ _ _ I1 qq⟩
    · refine seg_bind_wrap (ev (any_gens hg (wpAny_mono (T.item X rfl rfl rfl hc i [] s _ H (fun _ _ => False) I (stat I hex hn) st go) (fun r s1 ⟨u, hr, h1⟩ => ?_) fun _ _ z => z)))
      subst hr
      intro hg1
      refine seg_bind_wrap (ev (any_gens hg1 (wpAny_mono h1 (fun _ s2 ⟨x, H2, I2, r2, y2, st2, n2⟩ => ?_) fun _ _ z => z)))
      intro hg2
      have I2' := I2.pinned (stat I2 hex n2) (T.obj _ _ st2)
      refine seg_bind_wrap (ev (any_gens hg2 (wpAny_mono (ex (pg.run _ s2 _ H2 x u _ I2' r2 (step x H2 y2))) (fun _ s3 ⟨σ3, H3, I3, hw3, q3⟩ => ?_) fun _ _ z => z)))
      intro hg3
      simp only [List.forIn_nil]
      refine seg_bind_wrap (wpAny_pure ?_)
      simp only [if_true]
      have hy : ∀ v, yieldOut X.env v = yieldValue v := fun v => by simp only [yieldOut, hco, Bool.false_eq_true, if_false]
      simp only [hy]
      rw [Sem.bind_eq_wrap', Sem.bind_eq_wrap', Sem.wrap_wrap, Sem.wrap_wrap]
      refine seg_wrap (ev (any_gens hg3 (wpAny_mono (ex (pe.run _ s3 σ3 H3 _ I3 q3)) (fun v s4 ⟨y, H4, I4, r4, b, hb, q4⟩ => ?_) fun _ _ z => z)))
      intro hg4
      subst hb
      have hv : v = .bool b := r4
      subst hv
      refine seg_at (seg_yield rfl rfl rfl ⟨b, rfl, hgen _ (pin I4), I4.nolimit, hg4, fun hb => ?_, fun hb G hG hG2 => ?_⟩)
      · subst hb
        exact fin false σ3 H4 s4 (I4.unpinned (pins := [])) q4
      · subst hb
        rw [if_pos rfl] at q4
        obtain ⟨m', hm', w'⟩ := hNx _ q4
        obtain ⟨M, rfl⟩ : ∃ M, N = M + 1 := ⟨N - 1, by omega⟩
        have pin' : ∀ b ∈ fp, ∀ o, s2.heap.get? b = some o → s4.heap.get? b = some o ∧ H4 b = none := fun b hb o e =>
          let z := I4.pin (b, o) (List.mem_append_right _ (List.mem_append_right _ (mem_pinsAt hb e)))
          ⟨z.1, z.2.1⟩
        have hl : (wipe σ0 vs).length = σ3.length := by rw [← hw3, wipe_length]
        have I5 : Inv X [] (wipe σ0 vs) H4 s4 := (I4.unpinned (pins := [])).weak hl (fun j v e => by
          rw [← hw3] at e
          exact (wipe_some e).1)
        refine seg_again rfl (ih M rfl (i + 1) m' _ _ H4 (by omega) (inv_gens I5 (hG2 I5.bare)) (T.keep _ _ _ st2 fun b hb o e => (pin' b hb o e).1) (fun b hb => ?_) w' (by rw [show ({ s4 with gens := G } : Shared).gens = G from rfl, hG]; exact hg4))
        obtain ⟨o, e, _⟩ := T.obj _ _ st2 b hb
        exact (pin' b hb o e).2
  intro N
  induction N with
  | zero => exact main 0 fun M e => by cases e
  | succ N ih => exact main (N + 1) fun M e => by cases e; exact ih
end KL
end

section
set_option Elab.async false
set_option linter.all false
set_option maxRecDepth 100000
namespace KL
open PySem PySem.Spec PyProof.Rows L2

theorem over_gen {A : Around} {elt tg iter : Expr} {scope : Scope} {pos : Pos} {it acc : Value} {cenv : Env} {ifs : List Expr} : A.over (.compLoop (.GeneratorExp elt [⟨tg, iter, ifs, 0⟩] scope pos) 0 it acc cenv) [] = A.deeper cenv := by
  first | rfl | (unfold Around.over Around.deeper; simp)
theorem seg_start {A : Around} {elt tg iter : Expr} {scope : Scope} {pos : Pos} {it : Addr} {P : Program} {w : World} {K : PySem.W.Frag} {J : It} {fp : List Addr} {tn : Nat → Heap → Prop} {R : GenEnd} {Y : Protocol} {n i : Nat} {s₀ s : Shared} {cenv : Env}
    (T : Turn P w K tg J fp it tn) (st : tn i s.heap) (loop : Seg (model P w) A R Y n s₀ (.compLoop (.GeneratorExp elt [⟨tg, iter, [], 0⟩] scope pos) 0 (.ref it) .none cenv) ((model P w).den (.compLoop (.GeneratorExp elt [⟨tg, iter, [], 0⟩] scope pos) 0 (.ref it) .none cenv)) [] s) :
    Seg (model P w) A R Y n s₀ (.compStart (.GeneratorExp elt [⟨tg, iter, [], 0⟩] scope pos) 0 (.ref it) .none cenv) ((model P w).den (.compStart (.GeneratorExp elt [⟨tg, iter, [], 0⟩] scope pos) 0 (.ref it) .none cenv)) [] s := by
  show Seg _ A _ _ _ s₀ _ ((compStart (.GeneratorExp elt [⟨tg, iter, [], 0⟩] scope pos) 0 (.ref it) .none cenv).onRaise (leaving cenv)) [] s
  unfold compStart
  rw [Sem.onRaise_eq_wrap]
  show Seg _ A _ _ _ s₀ _ ((ask >>= _).wrap _ _ _ _) [] s
  refine seg_bind_wrap (wpAny_askSetting ?_)
  split
  · exact seg_again rfl loop
  · first
      | exact seg_bind_wrap (wpAny_rule (seg_bind_wrap (wpAny_standAt (seg_bind_wrap (T.self _ i s _ _ st (seg_again rfl loop))))))
      | (refine seg_bind_wrap (wpAny_rule ?_); show Seg _ A _ _ _ s₀ _ ((standAt iter.pos >>= _).wrap _ _ _ _) [] s; exact seg_bind_wrap (wpAny_standAt (seg_bind_wrap (T.self _ i s _ _ st (seg_again rfl loop)))))
/-- the context of a generator's elements -/
abbrev genX (X : Cx) (s : Shared) (H : Hp) (cenv : Env) (fp : List Addr) (a : Addr) (ob : Obj) : Cx := { X with A := X.A.in1.in1.deeper cenv, s_0 := s, H_0 := H, env := cenv, outer := X.stack, stack := cenv :: X.stack, ex := fp, fn := fun _ => false, pn := [(a, ob)], xe := fun _ _ => False }
section
variable {X : Cx} {pins : List (Addr × Obj)} {σ : L2.St} {H : Hp} {s : Shared}
theorem gen_start {scope : Scope} {own : List (Str × Nat)} {fp : List Addr} {h5 : Heap} {a : Addr} {ob : Obj} {tk : Nat} {G : Array GenState} {code : Value} {cenv : Env} (I : Inv X pins σ H s) (ok : BlkOk X.N X.env.scope scope own) (hcell : ∀ y ∈ scope.names, y.2 ≠ .cell) (hN : X.N.Nodup)
    (hfp : ∀ b ∈ fp, FpOk X pins H b ∧ b < s.heap.objs.size) (hcenv : cenv = genEnv scope (cloFrom X.env.cells scope.names []) s.heap.objs.size code builtinsNs X.env) (kp : ∀ b o, s.heap.get? b = some o → h5.get? b = some o) (hC : ∃ m, h5.Ns s.heap.objs.size m) (ha : h5.get? a = some ob)
    (hae : s.heap.objs.size < a) (hob : ∀ v, ob.data ≠ .cell v) (hG : AllBare G) :
    Inv (genX X s H cenv fp a ob) [] (wipe σ (own.map (·.2))) H { s with heap := h5, gens := G, toks := tk } := by
  have hfree : ∀ y ∈ scope.names, y.2 = .free → ∃ c, X.env.cells.lookup y.1 = some c := fun y hy e => by
    rcases ok.free y hy e with k | k
    · exact I.ok.has _ (.inl k)
    · exact I.ok.has _ (.inr k)
  have hL : cenv.locals = s.heap.objs.size := by rw [hcenv]; rfl
  have hcl : cenv.cells = cloFrom X.env.cells scope.names [] := by rw [hcenv]; rfl
  have hsc : cenv.scope = scope := by rw [hcenv]; rfl
  have cm : ∀ {y c}, (y, c) ∈ cloFrom X.env.cells scope.names [] → X.env.cells.lookup y = some c ∧ c < s.heap.objs.size := fun {y c} hm => by
    rcases cloFrom_mem hm with hm | ⟨h1, rfl⟩
    · cases hm
    · obtain ⟨c, hc⟩ := hfree _ h1 rfl
      rw [hc]
      obtain ⟨w, z⟩ := I.cell _ _ hc
      exact ⟨rfl, z.lt⟩
  have mem : ∀ {y c}, cenv.cells.lookup y = some c → X.env.cells.lookup y = some c ∧ c < s.heap.objs.size := fun {y c} e => by
    rw [hcl] at e
    exact cm (PySem.mem_of_lookup e)
  have look : ∀ {y}, scope.names.lookup y = some .free → ∃ c, cenv.cells.lookup y = some c ∧ X.env.cells.lookup y = some c := fun {y} hl => by
    have hy : (y, NameKind.free) ∈ scope.names := PySem.mem_of_lookup hl
    obtain ⟨c', e'⟩ := mem_lookup (cloFrom_has (cells := X.env.cells) (acc := []) hy)
    rw [← hcl] at e'
    exact ⟨c', e', (mem e').1⟩
  have okB : (genX X s H cenv fp a ob).Ok := by
    refine ⟨I.ok.mod, by show cenv.scope.kind = _; rw [hsc]; exact ok.kind, by show cenv.globals = _; rw [hcenv]; exact I.ok.glob, by show cenv.builtins = _; rw [hcenv]; rfl, by show s.heap.objs.size ≤ cenv.locals; rw [hL]; exact Nat.le_refl _,
      fun y z c e1 e2 => I.ok.inj y z c (mem e1).1 (mem e2).1, fun y hy => ?_, fun y c z e => Bool.noConfusion z, I.ok.hd, ?_, .inr ⟨rfl, by show cenv.frame = some cenv.locals; rw [hcenv]; rfl⟩, fun b hb => ⟨?_, fun y c e z => ?_⟩, I.bs, Nat.le_trans I.ok.bsz I.sz, fun b o e hb => ?_, fun b hb z => ?_, I.stack, I.stkFree⟩
    · show ∃ c, cenv.cells.lookup y = some c
      have hy : cenv.scope.names.lookup y = some .cell ∨ cenv.scope.names.lookup y = some .free := hy
      rw [hsc] at hy
      rcases hy with hy | hy
      · exact absurd rfl (hcell _ (PySem.mem_of_lookup hy))
      · obtain ⟨c, h1, _⟩ := look hy
        exact ⟨c, h1⟩
    · show (X.A.in1.in1.deeper cenv).frames = some (cenv :: X.stack)
      have e := I.ok.frames
      show X.A.frames.map (cenv :: ·) = _
      rw [e]; rfl
    · show b ≠ cenv.locals
      rw [hL]; exact Nat.ne_of_lt (hfp b hb).2
    · exact (hfp b hb).1.2.2.2.2.1 y c (mem (show cenv.cells.lookup y = some c from e)).1 z
    · rcases (hfp b hb).1.2.2.2.1 with z | z
      · exact I.ok.noex b o e z
      · exact absurd (Nat.lt_of_lt_of_le (Heap.lt_size e) (Nat.le_trans I.ok.bsz z)) (Nat.lt_irrefl _)
    · rcases List.mem_cons.mp (I.stkSub b z) with z | z
      · exact (hfp b hb).1.2.1 z
      · exact (hfp b hb).1.2.2.1 z
  refine ⟨okB, rfl, hG, Un.kept kp, ?_, fun y c e => ?_, ?_, fun y c e => ?_, fun p hp => ?_, I.hok.kept kp, by rw [wipe_length]; exact I.len⟩
  · obtain ⟨m0, hm0⟩ := hC
    refine ⟨m0, by show h5.Ns cenv.locals m0; rw [hL]; exact hm0, fun i y av e1 e2 e3 => ?_⟩
    obtain ⟨e2, hne⟩ := wipe_some e2
    have hfr : scope.names.lookup y = some .free := by
      have e3 : Vis cenv.scope y := e3
      rw [hsc] at e3
      have no : ∀ k, scope.names.lookup y = some k → ¬ (k = .local ∨ k = .cell) := fun k e hh => by
        rcases ok.own _ (PySem.mem_of_lookup e) hh with e' | e'
        · obtain ⟨p, hp, hpy⟩ := List.mem_map.mp e'
          have e3 := ok.ix p hp
          have : p.1 = y := hpy
          rw [this] at e3
          exact hne (List.mem_map.mpr ⟨p, hp, nodup_ix hN e3 e1⟩)
        · exact e' (List.mem_of_getElem? e1)
      rcases e3 with e3 | e3 | e3
      · exact absurd (.inl rfl) (no _ e3)
      · exact absurd (.inr rfl) (no _ e3)
      · exact e3
    obtain ⟨m, hn, hl⟩ := I.loc
    have hvis : Vis X.env.scope y := (ok.free _ (PySem.mem_of_lookup hfr) rfl).elim (fun k => .inr (.inl k)) (fun k => .inr (.inr k))
    obtain ⟨w, r, q⟩ := hl i y av e1 e2 hvis
    refine ⟨w, r, .inr ⟨.inr (by show cenv.scope.names.lookup y = _; rw [hsc]; exact hfr), ?_⟩⟩
    obtain ⟨c, h1, h2⟩ := look hfr
    rcases q with ⟨k, _⟩ | ⟨_, c', e', z⟩
    · have k : X.env.scope.names.lookup y = some .local := k
      rcases ok.free _ (PySem.mem_of_lookup hfr) rfl with k' | k' <;> rw [show X.env.scope.names.lookup y = _ from k'] at k <;> cases k
    · rw [h2] at e'; cases e'
      exact ⟨c, h1, z.keeps kp⟩
  · obtain ⟨w, z⟩ := I.cell y c (mem (show cenv.cells.lookup y = some c from e)).1
    exact ⟨w, z.keeps kp⟩
  · show H cenv.locals = none
    rw [hL]; exact I.hok.fresh (Nat.le_refl _)
  · exact I.freeC y c (mem (show cenv.cells.lookup y = some c from e)).1
  · have : p = (a, ob) := by simpa using hp
    subst this
    refine ⟨ha, I.hok.fresh (Nat.le_of_lt hae), by show a ≠ cenv.locals; rw [hL]; exact Nat.ne_of_gt hae, fun z => ?_, hob⟩
    rcases List.mem_cons.mp (I.stkSub a z) with z | z
    · exact absurd I.lt (by rw [← z]; exact Nat.not_lt_of_lt hae)
    · exact I.nofs (Nat.le_of_lt hae) z
end
end KL
end

section
set_option Elab.async false
set_option linter.all false
set_option maxRecDepth 100000
set_option maxHeartbeats 1000000
namespace KL
open PySem PySem.Spec PyProof.Rows L2

/-- all(elt for tg in iter): the def's table at P may have grown -/
def tAllG (P : Addr) (wi : TI) (gt : TG) (te : TE) (vs : List Nat) : TE := fun σ H Q => wi σ H fun J H1 => GxR.TabG H1 P ∧ ∀ H2, GxR.Tabbed P H1 H2 → ∃ W : Nat → Nat → Hp → Prop, (∃ m, W 0 m H2) ∧ Turns J gt te vs σ W Q
abbrev genE (X : Cx) (scope : Scope) (C : Addr) (code : Value) : Env := genEnv scope (cloFrom X.env.cells scope.names []) C code builtinsNs X.env
section
variable {X : Cx} {pins : List (Addr × Obj)} {σ : L2.St} {H : Hp} {s : Shared}
def GenReady (X : Cx) (pins : List (Addr × Obj)) (σ : L2.St) (Q : VK) (a : Addr) (s : Shared) : Prop := ∃ (g : Nat) (gs : GenState) (N : Nat), s.gens[g]? = some gs ∧ s.heap.IsGen a g ∧ s.heap.NoLimit ∧
  gs.Goes (model X.prog X.w) X.A.in1.in1 (GR fun b s' => EP X pins σ Q (.bool b) s') (GY a g fun b s' => EP X pins σ Q (.bool b) s') N (.send .none) (s.setGen g .running)
theorem gen_core {c P : Addr} {elt tg iter : Expr} {gpos : Pos} {scope : Scope} {own : List (Str × Nat)} {wi : TI} {gt : TG} {te : TE} {k : Nat} {Q : VK} {Q' : Value → Shared → Prop}
    (hc : X.calm = true) (hN : X.N.Nodup) (hr : Room k X.A) (TB : GxR.TabB X.base X.mg c P) (hcode : X.env.code = .ref c) (ok : BlkOk X.N X.env.scope scope own) (hcell : ∀ y ∈ scope.names, y.2 ≠ .cell) (hdot : scope.names.lookup (".0" : Str) = some NameKind.local) (hco : scope.isCoroutine = false)
    (hi : PI X tg iter wi) (hg : ∀ (s : Shared) (H : Hp) (C : Addr) (cd : Value) (fp : List Addr) (a : Addr) (ob : Obj), PG (genX X s H (genE X scope C cd) fp a ob) tg gt) (he : ∀ (s : Shared) (H : Hp) (C : Addr) (cd : Value) (fp : List Addr) (a : Addr) (ob : Obj), PE (genX X s H (genE X scope C cd) fp a ob) elt te)
    (hs : ∀ v, genFold iter X.env v = pure v) (I : Inv X pins σ H s) (h : tAllG P wi gt te (own.map (·.2)) σ H Q) (hQ : ∀ a s5, GenReady X pins σ Q a s5 → Q' (.ref a) s5) :
    wpAny (model X.prog X.w) X.A (eval (.GeneratorExp elt [⟨tg, iter, [], 0⟩] scope gpos) X.env) Q' X.xe s := by
  have hfree : ∀ y ∈ scope.names, y.2 = .free → ∃ c, X.env.cells.lookup y.1 = some c := fun y hy e => (ok.free y hy e).elim (fun z => I.ok.has _ (.inl z)) fun z => I.ok.has _ (.inr z)
  refine wpAny_GeneratorExp_make hco (closure_ok hfree) hcell hdot ok.kind (by have := hr.dp; omega) ?_ hs
  refine thn (hi.run pins s σ H _ I h) fun xv s1 h1 => thn h1 fun itv s2 h2 => ?_
  obtain ⟨it, fp, tn, J, H2, rfl, I2, T, st2, f2, ⟨ps, hP, ht⟩, cont⟩ := h2
  refine ⟨I2.nolimit, ?_⟩
  have hPs : s2.heap.get? P = some { cls := .none, data := .fields ps } := I2.hok P _ hP
  have cd : PySem.W.CodeHd s2.heap c P := TB.code.keeps fun b u e => I2.bk b u e
  have fplt : ∀ b ∈ fp, ∃ o, s2.heap.get? b = some o := fun b hb => (T.obj _ _ st2 b hb).imp fun _ z => z.1
  have fpP : ∀ b ∈ fp, b ≠ P := fun b hb z => by
    have := (f2 b hb).1
    rw [z, hP] at this; cases this
  have go : ∀ (code : Value) (h3 : Heap) (tk : Nat) (ps' : Array Value), Heap.ExtBut P s2.heap h3 → s2.heap.objs.size ≤ h3.objs.size → h3.get? P = some { cls := .none, data := .fields ps' } → (∃ more, ps' = ps ++ more) → TriplesOk ps'.toList →
      wpAny (model X.prog X.w) X.A (builtinsFor X.env.globals X.env.builtins) (fun bi s₄ => ∀ h', h'.Ns s₄.heap.objs.size (fun y => if y = ".0" then some (.ref it) else none) → Heap.SameBut s₄.heap.objs.size (s₄.heap.push { cls := .type "frame", data := .dict #[] }) h' →
          Q' (.ref h'.objs.size) { s₄ with
            gens := s₄.gens.push (.fresh (.compStart (.GeneratorExp elt [⟨tg, iter, [], 0⟩] scope gpos) 0 (.ref it) .none (genEnv scope (cloFrom X.env.cells scope.names []) s₄.heap.objs.size code bi X.env))),
            toks := s₄.toks + 1 + 1 + 1,
            heap := h'.push { cls := .type "generator", data := .fields #[.int s₄.gens.size 0, .str "<genexpr>" (s₄.toks + 1), .str (X.env.qual ++ "<genexpr>") (s₄.toks + 1 + 1)] } }) X.xe { s2 with heap := h3, toks := tk } := by
    intro code h3 tk ps' hx hsz hP3 hmore ht3
    obtain ⟨more, rfl⟩ := hmore
    obtain ⟨bm, ob0, e1, e2, e3, e4, e5, e6, e7, e8⟩ := TB.bm
    have keep3 : ∀ b u, b ≠ P → s2.heap.get? b = some u → h3.get? b = some u := fun b u hb e => hx b u hb e
    refine wpAny_builtinsFor (m := X.mg) (by rw [I2.ok.glob]; exact (I2.mod.glob.keeps I2.bk).extBut hx TB.gP) e1 e2 (keep3 _ _ e4 (I2.bk _ _ e5)) e6 e7 e8 ?_
    intro h' hn' hs'
    have sz' : h'.objs.size = h3.objs.size + 1 := by rw [hs'.1, Heap.size_push]
    have I4 : Inv X pins σ (upd H2 P (.tbl (ps ++ more))) { s2 with heap := h3, toks := tk } := GxR.inv_tab (g' := s2.gens) (d' := s2.drawn) I2 hP keep3 hP3 I2.bare
    have kp : ∀ b o, h3.get? b = some o → h'.get? b = some o := fun b o e => hs'.extBut b o (Nat.ne_of_lt (Heap.lt_size e)) (Heap.get?_push_of_some _ e)
    generalize hob : ({ cls := .type "generator", data := .fields #[.int s2.gens.size 0, .str "<genexpr>" (tk + 1), .str (X.env.qual ++ "<genexpr>") (tk + 1 + 1)] } : Obj) = ob
    have kp5 : ∀ b o, h3.get? b = some o → (h'.push ob).get? b = some o := fun b o e => Heap.get?_push_of_some _ (kp b o e)
    refine hQ _ _ ?_
    have f4 : ∀ b ∈ fp, FpOk X pins (upd H2 P (.tbl (ps ++ more))) b ∧ b < h3.objs.size := fun b hb => by
      obtain ⟨o, e⟩ := fplt b hb
      exact ⟨⟨by rw [upd_ne (fpP b hb)]; exact (f2 b hb).1, (f2 b hb).2⟩, Heap.lt_size (keep3 b o (fpP b hb) e)⟩
    have hae : h3.objs.size < h'.objs.size := by omega
    have hgx : ∀ hh : Heap, hh.get? h'.objs.size = some ob → hh.IsGen h'.objs.size s2.gens.size := fun hh e => by
      subst hob
      exact ⟨_, _, _, e, rfl, rfl, rfl⟩
    have hge : (h'.push ob).get? h'.objs.size = some ob := Heap.get?_push_size _ (by subst hob; rfl)
    have bare5 : AllBare ((s2.gens.push (.fresh (.compStart (.GeneratorExp elt [⟨tg, iter, [], 0⟩] scope gpos) 0 (.ref it) .none (genE X scope h3.objs.size code)))).setIfInBounds s2.gens.size .running) := bare_set (I2.bare.push rfl) rfl
    have I5 := gen_start (h5 := h'.push ob) (a := h'.objs.size) (ob := ob) (tk := tk + 1 + 1 + 1) (code := code) (cenv := genE X scope h3.objs.size code) I4 ok hcell hN f4 rfl kp5 ⟨_, hn'.push _⟩ hge hae (by subst hob; exact fun v z => by cases z) bare5
    obtain ⟨W, ⟨m, w0⟩, turn⟩ := cont (upd H2 P (.tbl (ps ++ more))) ⟨⟨_, upd_same, ht3⟩, fun b hb => upd_ne hb⟩
    refine ⟨s2.gens.size, _, m + 1, Array.getElem?_push_size .., hgx _ hge, I5.nolimit, rfl, ?_⟩
    have st5 : tn 0 (h'.push ob) := T.keep _ _ _ st2 fun b hb o e => kp5 b o (keep3 b o (fpP b hb) e)
    refine seg_start (T := T) (i := 0) st5 ?_
    refine seg_all (X := genX X { s2 with heap := h3, toks := tk } (upd H2 P (.tbl (ps ++ more))) (genE X scope h3.objs.size code) fp h'.objs.size ob) (A := X.A.in1.in1) (J := J) (fp := fp) (tn := tn) T hc over_gen.symm rfl rfl hgx hco (hg _ _ _ _ _ _ _) (he _ _ _ _ _ _ _) turn
      (fun z => absurd (f4 _ z).2 (Nat.not_lt_of_lt hae)) (fun b hb => hb) (fun b σ' H' s' Ib q G hh kk bb => ?_) m 0 m _ _ _ (Nat.le_refl _) I5 st5 (fun b hb => (f4 b hb).1.1) w0 (by show s2.gens.size < ((s2.gens.push _).setIfInBounds _ _).size; simp)
    refine ⟨.bl b, H', ?_, rfl, q⟩
    exact I4.call' (ch := fp) (s' := { s' with gens := G, heap := hh }) Ib.os (Ib.base.trans (Un.kept kk)) (Ib.hok.kept kk) (bb Ib.bare) fun b hb => ⟨(f4 b hb).1.2.2.2.1, (f4 b hb).1.2.1, (f4 b hb).1.2.2.2.2.1, (f4 b hb).1.2.2.2.2.2⟩
  cases hf : codeAmong gpos ps.toList with
  | none =>
    refine wpAny_genexprCodeX hcode (cd.code hPs ht) (cd.tab hPs) hf fun c' h' tk hx hge hlt hco' _ htab' _ => ?_
    obtain ⟨o1, vs, f1, tf, fl, tg, inF, tx, tt, op, _, _, _, _, _, _, _, _, _, htr, _⟩ := hco'
    exact go _ h' tk _ hx (Nat.le_trans hge (Nat.le_of_lt hlt)) htab'.2 ⟨_, rfl⟩ htr
  | some cv =>
    refine wpAny_genexprCode_hit hcode (cd.code hPs ht) hf ?_
    exact go cv s2.heap s2.toks ps (Heap.ExtBut.refl _ _) (Nat.le_refl _) hPs ⟨#[], by simp⟩ ht
theorem pe_allG {c P : Addr} {elt tg iter : Expr} {p pos gpos : Pos} {scope : Scope} {own : List (Str × Nat)} {wi : TI} {gt : TG} {te : TE} {k : Nat}
    (hc : X.calm = true) (hN : X.N.Nodup) (hr : Room k X.A) (hgl : Gl X "all") (hm : X.mg "all" = none) (TB : GxR.TabB X.base X.mg c P) (hcode : X.env.code = .ref c) (ok : BlkOk X.N X.env.scope scope own) (hcell : ∀ y ∈ scope.names, y.2 ≠ .cell) (hdot : scope.names.lookup (".0" : Str) = some NameKind.local) (hco : scope.isCoroutine = false)
    (hi : PI X tg iter wi) (hg : ∀ (s : Shared) (H : Hp) (C : Addr) (cd : Value) (fp : List Addr) (a : Addr) (ob : Obj), PG (genX X s H (genE X scope C cd) fp a ob) tg gt) (he : ∀ (s : Shared) (H : Hp) (C : Addr) (cd : Value) (fp : List Addr) (a : Addr) (ob : Obj), PE (genX X s H (genE X scope C cd) fp a ob) elt te)
    (hb : bootBuiltins "all" = some (.builtin "all") := by rfl) (hs : ∀ v, genFold iter X.env v = pure v := by intro _; rfl)
    (hst : starEach [.GeneratorExp elt [⟨tg, iter, [], 0⟩] scope gpos] X.env = (false, eval (.GeneratorExp elt [⟨tg, iter, [], 0⟩] scope gpos) X.env) :: starEach [] X.env := by rfl) :
    PE X (.Call (.Name "all" p) [.GeneratorExp elt [⟨tg, iter, [], 0⟩] scope gpos] [] pos) (tAllG P wi gt te (own.map (·.2))) := by
  refine ⟨fun pins s σ H Q I h => ?_⟩
  refine wpAny_Call_Name_kw (ld_blt I hgl hm hb ?_)
  refine PyProof.Rows.callWith_builtin1 ?_ hst (by rfl)
  rw [hst]
  show wpAny _ _ (spliced ((false, eval (.GeneratorExp elt [⟨tg, iter, [], 0⟩] scope gpos) X.env) :: backTo pos (starEach [] X.env))) _ _ s
  refine Calls.spliced_cons (gen_core (k := k) hc hN hr TB hcode ok hcell hdot hco hi hg he hs I h fun a s5 hG => ?_)
  obtain ⟨g, gs, N, h1, h2, h3, h4⟩ := hG
  refine Calls.spliced_nil ?_
  exact call_all_gen hr.hd (by have := hr.dp; omega) (fun b s' z => z) h1 h2 h3 h4
end
end KL
end

section
set_option Elab.async false
set_option linter.all false
set_option maxRecDepth 100000
/-! defs whose promise may count on it that no repr is under way -/
namespace KL
open PySem PySem.Spec PyProof.Rows L2
structure RoomG (k : Nat) (A : Around) : Prop where
  rm : Room k A
  gd : A.guards = some []
theorem RoomG.mono {j k : Nat} {A : Around} (r : RoomG k A) (h : j ≤ k) : RoomG j A := ⟨r.rm.mono h, r.gd⟩
theorem RoomG.deeper {k : Nat} {A : Around} (r : RoomG (k + 1) A) (env : PySem.Env) : RoomG k (A.deeper env) := ⟨r.rm.deeper env, r.gd⟩
theorem RoomG.in1 {k : Nat} {A : Around} (r : RoomG (k + 1) A) : RoomG k A.in1 := ⟨r.rm.in1, r.gd⟩
structure FnG (P : Program) (w : World) (K : PySem.W.Frag) (mg : Str → Option Value) (base : Heap) (CX : CXT) (k : Nat) (f : Addr) (fd : FuncData) (ps : List Str) (sp : Sp) : Prop where
  len : ∀ vs H Q E, sp vs H Q E → vs.length = ps.length
  run : ∀ (A : Around) (outer : List PySem.Env) (s : Shared) (H : Hp) (args : Args) (us : List Value) (vs : List V) (Q : VK) (E : XK), RoomG k A → Env0 P w K mg base A outer s H → BindsTo s fd args (ps.zip us) → Vals vs us → sp vs H Q E →
    codeAny (model P w) A (.call (.ref f) args) (CR CX outer P w H s Q E) s
section
variable {CX : CXT} {P : Program} {w : World} {K : PySem.W.Frag} {mg : Str → Option Value} {base : Heap} {k : Nat} {f : Addr}
theorem FnG.mono {j : Nat} {fd : FuncData} {ps : List Str} {sp : Sp} (F : FnG P w K mg base CX j f fd ps sp) (h : j ≤ k) : FnG P w K mg base CX k f fd ps sp := ⟨F.len, fun A outer s H args us vs Q E hr => F.run A outer s H args us vs Q E (hr.mono h)⟩
/-- by the def's body -/
theorem fnG_of {name qual : Str} {params : Arguments} {body : List Stmt} {scope : Scope} {dV kV doc pm cdv ct oc : Value} {an od : Option Addr} {osl : Array (Option Value)} {N ps : List Str} {sp : Sp}
    (lk : K.lookup f = some ⟨oc, od, .func (PySem.W.fnOf name qual params body scope dV kV doc pm an cdv ct), osl⟩) (hcd : PySem.W.codeIn K cdv qual = true) (S : FnScope N ps scope) (len : ∀ vs H Q E, sp vs H Q E → vs.length = ps.length)
    (hbody : ∀ (A : Around) (outer : List PySem.Env) (s : Shared) (H : Hp) (vs : List V) (Q : VK) (E : XK), RoomG k (A.deeper (envOfC qual scope s.heap.objs.size f cdv)) → sp vs H Q E →
      ∃ t, PSs (cxOf CX P w K mg base N qual scope f cdv A outer s H E) body t ∧ t { nx := fun _ H' => Q .non H', rt := Q } (start N vs) H) :
    FnG P w K mg base CX (k + 1) f (PySem.W.fnOf name qual params body scope dV kV doc pm an cdv ct) ps sp where
  len := len
  run := fun A outer s H args us vs Q E hr e0 hb r hsp => by
    have kp : ∀ b o, base.get? b = some o → s.heap.get? b = some o := fun b o e => (e0.bs b o e).1
    have hl := len vs H Q E hsp
    have KX := e0.mod.kin.keeps kp
    refine codeAny_call_function hr.rm.depth (KX _ _ lk) rfl S.co S.gen rfl (PySem.W.codeRec_of KX hcd) (hb _ _ _ _ (wpAny_newFunctionEnv_cells S.kind ?_ ?_))
    · rintro ⟨n, v⟩ hy
      exact (S.par n (List.of_mem_zip hy).1).imp id fun q => ⟨q, PySem.W.cellsFrom_some _ _ _ (.inl q)⟩
    · rintro env rfl s1 x
      obtain ⟨t, ht, hq⟩ := hbody A outer s H vs Q E (hr.deeper _) hsp
      have run := ht.run [] s1 (start N vs) H _ (inv_start S hr.rm.hd e0 hl r x) hq
      refine ⟨(e0.mod.nolimit.keeps kp).keeps x.toInCall.keep, codeAny_func (wpAny_mono run ?_ fun _ _ z => z)⟩
      intro fl s' hs
      cases fl with
      | ret u =>
        obtain ⟨v, _, H', J, rv, q⟩ := hs
        exact ⟨v, H', J.os, J.bare, J.base, J.hok, rv, q⟩
      | next =>
        obtain ⟨_, H', J, q⟩ := hs
        exact ⟨V.non, H', J.os, J.bare, J.base, J.hok, rfl, q⟩
      | brk => exact False.elim hs.choose_spec.choose_spec.2
      | cont => exact False.elim hs.choose_spec.choose_spec.2
end
end KL
end

section
set_option Elab.async false
set_option linter.all false
set_option maxRecDepth 100000
set_option maxHeartbeats 2000000
namespace KL
open PySem PySem.Spec PyProof.Rows L2
/-- the heap at a law's start: the script, the tables, nothing else is tracked -/
structure LawS (K : PySem.W.Frag) (a : Addr) (cs : List (Addr × Addr)) (so : HO) (H : Hp) : Prop where
  only : ∀ b u, H b = some u → (b = a ∧ u = so ∧ K.lookup a = none) ∨ ∃ p ∈ cs, b = p.2 ∧ u = .tbl #[]
  tabs : ∀ p ∈ cs, H p.2 = some (.tbl #[])
section
variable {P : Program} {w : World} {K : PySem.W.Frag} {mg mb : Str → Option Value} {CX : CXT} {k : Nat} {fa a : Addr} {cs : List (Addr × Addr)} {fd : FuncData} {x : Str} {sp : Sp} {s₁ : Shared} {vs : List Value} {ns : List Int} {H : Hp} {so : HO}
theorem law_env (L : LawS K a cs so H) (KX : K.In s₁.heap) (hns : s₁.heap.Ns mainGlobals mg) (hb : s₁.heap.Ns builtinsNs mb) (hbb : ∀ x : Str, x ≠ "__name__" → mb x = bootBuiltins x) (hlim : s₁.heap.NoLimit) (hg : s₁.gens = #[])
    (hT : ∀ p ∈ cs, s₁.heap.get? p.2 = some { cls := .none, data := .fields #[] }) (nT : ∀ p ∈ cs, K.lookup p.2 = none) (C : ∀ p ∈ cs, PySem.W.CodeHd s₁.heap p.1 p.2)
    (hbm : ∃ (bm : Addr) (ob : Obj), mg "__builtins__" = some (.ref bm) ∧ bm ≠ builtinsNs ∧ s₁.heap.get? bm = some ob ∧ ob.cls = .type "module" ∧ ob.dict = some builtinsNs ∧ ob.data = .plain)
    (ha : s₁.heap.get? a = some { cls := .type "list", data := .seq vs.toArray }) (hok : HOk P w H s₁.heap) :
    K.In (hidT s₁.heap H) ∧ (hidT s₁.heap H).Ns mainGlobals mg ∧ (∀ p ∈ cs, LamX.TabB (hidT s₁.heap H) mg p.1 p.2) ∧ Env0 P w K mg (hidT s₁.heap H) callerA [] s₁ H := by
  -- what is neither a sequence nor an empty table isn't tracked
  have free : ∀ {b : Addr} {o : Obj}, s₁.heap.get? b = some o → (∀ vs n, o.data ≠ .seq vs n) → o.data ≠ .fields #[] → (hidT s₁.heap H).get? b = some o := fun {b o} e h1 h2 => by
    refine hidT_get e ?_
    cases q : H b with
    | none => rfl
    | some u =>
      exfalso
      rcases L.only b u q with ⟨rfl, _⟩ | ⟨p, hp, rfl, _⟩
      · have z := e.symm.trans ha
        cases z; exact h1 _ _ rfl
      · have z := e.symm.trans (hT p hp)
        cases z; exact h2 rfl
  have ns' : ∀ {b : Addr} {m : Str → Option Value}, s₁.heap.Ns b m → (hidT s₁.heap H).Ns b m := fun {b m} z => by
    obtain ⟨o, es, ep, e, d, r⟩ := z
    exact ⟨o, es, ep, free e (fun vs n y => by rw [d] at y; cases y) (fun y => by rw [d] at y; cases y), d, r⟩
  have kin : K.In (hidT s₁.heap H) := fun b o e => by
    refine hidT_get (KX b o e) ?_
    cases q : H b with
    | none => rfl
    | some u =>
      exfalso
      rcases L.only b u q with ⟨rfl, _, z⟩ | ⟨p, hp, rfl, _⟩
      · rw [z] at e; cases e
      · rw [nT p hp] at e; cases e
  refine ⟨kin, ns' hns, fun p hp => ⟨?_, ?_, fun z => ?_⟩, rfl, ⟨kin, ns' hns, ⟨mb, ns' hb, hbb⟩, ?_⟩, fun b o e => of_hidT e, Nat.le_of_eq (hidT_size _ _), trivial, fun b hb => (List.not_mem_nil hb).elim, hok, .of_eq hg⟩
  · obtain ⟨o, us, file, tf, flags, tg, inF, text, tt, e1, r1, r2, r3, rest⟩ := C p hp
    exact ⟨o, us, file, tf, flags, tg, inF, text, tt, free e1 (fun vs n z => by rw [r2] at z; cases z) (fun z => by rw [r2] at z; cases z; simp at r3), r1, r2, r3, rest⟩
  · obtain ⟨bm, ob, b1, b2, b3, b4, b5, b6⟩ := hbm
    have n1 : bm ≠ mainGlobals := fun q => by
      obtain ⟨o, es, ep, e, hd, _⟩ := hns
      have z := (q ▸ b3).symm.trans e
      cases z; rw [hd] at b6; cases b6
    have n2 : bm ≠ p.2 := fun q => by
      have z := (q ▸ b3).symm.trans (hT p hp)
      cases z; cases b6
    exact ⟨bm, ob, b1, b2, n1, n2, free b3 (fun vs n z => by rw [b6] at z; cases z) (fun z => by rw [b6] at z; cases z), b4, b5, b6⟩
  · obtain ⟨o, es, ep, e, hd, _⟩ := hns
    have y := (z ▸ e).symm.trans (hT p hp)
    cases y; cases hd
  · obtain ⟨mc, h1, h2⟩ := hlim
    exact ⟨mc, ns' h1, h2⟩
theorem law_done {r : Result} {s' : Shared} {o : Obj} {xs : List V} (L : LawS K a cs (.frz o (.lst xs)) H) (hT : ∀ p ∈ cs, s₁.heap.get? p.2 = some { cls := .none, data := .fields #[] }) (C : ∀ p ∈ cs, PySem.W.CodeHd s₁.heap p.1 p.2) (hok : HOk P w H s₁.heap)
    (hCX : ∀ H e s', CX [] H s₁ (fun _ _ _ => False) e s' → False) (h : CR CX [] P w H s₁ (fun v _ => v = .bl true) (fun _ _ _ => False) r s') : r = .ok (.ret (.bool true)) ∧ OldK s₁.heap s'.heap ∧ s'.os = s₁.os ∧ AllBare s'.gens := by
  match r, h with
  | .error e, h => exact (hCX H e s' h).elim
  | .ok .next, h => exact False.elim h
  | .ok .brk, h => exact False.elim h
  | .ok .cont, h => exact False.elim h
  | .ok (.ret u), h =>
    obtain ⟨v, H', os, bare, un, hok', rv, q⟩ := h
    have q' : v = .bl true := q
    subst q'
    have eu : u = Value.bool true := rv
    subst eu
    have tab : ∀ p ∈ cs, ∃ more : Array Value, s'.heap.get? p.2 = some { cls := .none, data := .fields more } := fun p hp => by
      obtain ⟨more, z⟩ := un.tbls p.2 #[] (L.tabs p hp)
      exact ⟨_, hok' p.2 _ z⟩
    have same : ∀ b o, (∀ p ∈ cs, b ≠ p.2) → s₁.heap.get? b = some o → s'.heap.get? b = some o := fun b ob nb e => by
      cases q : H b with
      | none => exact un.keep b ob e q (fun z => (List.not_mem_nil z).elim) (by simp)
      | some u =>
        rcases L.only b u q with ⟨rfl, rfl, _⟩ | ⟨p, hp, e2, _⟩
        · have e1 := (hok b _ q).1
          have e2 := (hok' b _ (un.frzs b o _ q)).1
          rw [e] at e1; cases e1
          exact e2
        · exact absurd e2 (nb p hp)
    refine ⟨rfl, ⟨fun b ob e => ?_, fun b ob e => ?_⟩, os, bare⟩
    · by_cases hb : ∃ p ∈ cs, b = p.2
      · obtain ⟨p, hp, rfl⟩ := hb
        obtain ⟨more, hm⟩ := tab p hp
        have z := e.symm.trans (hT p hp)
        cases z
        exact .inr (.inl ⟨((C p hp).tab (hT p hp)).isCodeTable, rfl, #[], more, rfl, by rw [Array.empty_append]; exact hm⟩)
      · exact .inl (same b ob (fun p hp e2 => hb ⟨p, hp, e2⟩) e)
    · by_cases hb : ∃ p ∈ cs, b = p.2
      · obtain ⟨p, hp, rfl⟩ := hb
        exact (tab p hp).elim fun more hm => ⟨_, hm⟩
      · exact ⟨ob, same b ob (fun p hp e2 => hb ⟨p, hp, e2⟩) e⟩
theorem law_callG (KX : K.In s₁.heap) (hns : s₁.heap.Ns mainGlobals mg) (hb : s₁.heap.Ns builtinsNs mb) (hbb : ∀ x : Str, x ≠ "__name__" → mb x = bootBuiltins x) (hlim : s₁.heap.NoLimit) (hg : s₁.gens = #[])
    (hT : ∀ p ∈ cs, s₁.heap.get? p.2 = some { cls := .none, data := .fields #[] }) (nT : ∀ p ∈ cs, K.lookup p.2 = none) (C : ∀ p ∈ cs, PySem.W.CodeHd s₁.heap p.1 p.2)
    (hbm : ∃ (bm : Addr) (ob : Obj), mg "__builtins__" = some (.ref bm) ∧ bm ≠ builtinsNs ∧ s₁.heap.get? bm = some ob ∧ ob.cls = .type "module" ∧ ob.dict = some builtinsNs ∧ ob.data = .plain)
    (ha : s₁.heap.get? a = some { cls := .type "list", data := .seq vs.toArray }) (hi : IntsAre vs ns) (hl : ns.length ≤ sizeLine) (hr : RoomG k callerA)
    (F : ∀ base : Heap, K.In base → base.Ns mainGlobals mg → (∀ p ∈ cs, LamX.TabB base mg p.1 p.2) → FnG P w K mg base CX k fa fd [x] sp) (hbind : ∀ (s : Shared) (u : Value), BindsTo s fd ⟨[u], []⟩ [(x, u)])
    (hsp : ∀ H : Hp, (∀ p ∈ cs, H p.2 = some (.tbl #[])) → SqL K H a (ns.map V.int) → sp [.ref a] H (fun v _ => v = .bl true) fun _ _ _ => False)
    (hCX : ∀ H e s', CX [] H s₁ (fun _ _ _ => False) e s' → False) :
    codeAny (model P w) callerA (.call (.ref fa) ⟨[.ref a], []⟩) (fun r s' => r = .ok (.ret (.bool true)) ∧ OldK s₁.heap s'.heap ∧ s'.os = s₁.os ∧ AllBare s'.gens) s₁ := by
  have rv := vals_ints hi
  let so : HO := .frz { cls := .type "list", data := .seq vs.toArray } (.lst (ns.map V.int))
  have aT : ∀ p ∈ cs, a ≠ p.2 := fun p hp e => by
    have z := (e ▸ ha).symm.trans (hT p hp)
    have z' : Data.seq vs.toArray _ = Data.fields #[] := congrArg Obj.data (Option.some.inj z)
    cases z'
  have main : ∀ H : Hp, LawS K a cs so H → SqL K H a (ns.map V.int) → codeAny (model P w) callerA (.call (.ref fa) ⟨[.ref a], []⟩) (fun r s' => r = .ok (.ret (.bool true)) ∧ OldK s₁.heap s'.heap ∧ s'.os = s₁.os ∧ AllBare s'.gens) s₁ := fun H L hS => by
    have hok : HOk P w H s₁.heap := fun b u z => by
      rcases L.only b u z with ⟨rfl, rfl, _⟩ | ⟨p, hp, rfl, rfl⟩
      · exact ⟨ha, by rw [List.length_map]; exact hl, vs, _, rv, ha⟩
      · exact hT p hp
    obtain ⟨e1, e2, e3, e4⟩ := law_env (P := P) (w := w) L KX hns hb hbb hlim hg hT nT C hbm ha hok
    exact codeAny_mono ((F _ e1 e2 e3).run callerA [] s₁ H ⟨[.ref a], []⟩ [.ref a] [.ref a] _ _ hr e4 (hbind s₁ (.ref a)) (.cons rfl .nil) (hsp H L.tabs hS)) fun r s' h => law_done L hT C hok hCX h
  have inT : ∀ {b : Addr}, (∃ p ∈ cs, b = p.2) ∨ ¬ ∃ p ∈ cs, b = p.2 := fun {b} => Classical.em _
  cases hk : K.lookup a with
  | some o =>
    have e := (KX a o hk).symm.trans ha
    cases e
    classical
    refine main (fun b => if ∃ p ∈ cs, b = p.2 then some (.tbl #[]) else none) ⟨fun b u z => ?_, fun p hp => if_pos ⟨p, hp, rfl⟩⟩ (.inr ⟨_, vs.toArray, _, hk, rfl, rfl, rfl, by rw [List.size_toArray, hi.length]; exact hl, by simpa using rv⟩)
    by_cases hb : ∃ p ∈ cs, b = p.2
    · obtain ⟨p, hp, e⟩ := hb
      have z' := (if_pos ⟨p, hp, e⟩).symm.trans z
      cases z'
      exact .inr ⟨p, hp, e, rfl⟩
    · have z' := (if_neg hb).symm.trans z
      cases z'
  | none =>
    classical
    refine main (fun b => if ∃ p ∈ cs, b = p.2 then some (.tbl #[]) else if b = a then some so else none) ⟨fun b u z => ?_, fun p hp => if_pos ⟨p, hp, rfl⟩⟩ (.inl (.inr ⟨{ cls := .type "list", data := .seq vs.toArray }, (if_neg fun ⟨p, hp, e⟩ => aT p hp e).trans (if_pos rfl)⟩))
    by_cases hb : ∃ p ∈ cs, b = p.2
    · obtain ⟨p, hp, e⟩ := hb
      have z' := (if_pos ⟨p, hp, e⟩).symm.trans z
      cases z'
      exact .inr ⟨p, hp, e, rfl⟩
    · have z1 := (if_neg hb).symm.trans z
      by_cases hb2 : b = a
      · have z' := (if_pos hb2).symm.trans z1
        cases z'
        exact .inl ⟨hb2, rfl, hk⟩
      · have z' := (if_neg hb2).symm.trans z1
        cases z'
end
end KL
end

section
set_option Elab.async false
set_option linter.all false
set_option maxRecDepth 100000
set_option maxHeartbeats 2000000
/-! tuples whose object is known to have no dict -/
namespace KL
open PySem PySem.Spec PyProof.Rows L2
theorem tuple_mulZ (l : Addr) (items : Array Value) (n : Nat) (dd : Option Addr) (sl : Array (Option Value)) (x : Int) (u : Tok) (c0 : (decide (x < -(2 ^ 63)) || decide (x ≥ 2 ^ 63)) = false) (c1 : (items.isEmpty || x == 1) = false) (c2 : (decide (x ≤ 0) || items.isEmpty) = true) :
    Meets (Builtin.«tuple.__mul__» ⟨[.ref l, .int x u], []⟩) (fun _ R s => s.heap.get? l = some { cls := .type "tuple", dict := dd, data := .seq items n, slots := sl } ∧
      R (.ok (.ret (Value.ref s.heap.objs.size))) { s with heap := s.heap.push { cls := Value.type "tuple", data := Data.seq #[] }, toks := s.toks }) :=
  .of_wp fun prog w A R s h => by
    obtain ⟨hp, g, d, tk, os⟩ := s
    obtain ⟨hl, h⟩ := h
    have f1 := AutoSeq1.idx_int
    wp_walk using wpAny_loadPart' hl
    repeat (first
      | (refine wpAny_ite_false (decide_eq_false (by rw [c0]; exact Bool.false_ne_true)) ?_; wp_walk using wpAny_loadPart' hl)
      | (refine wpAny_ite_false (decide_eq_false (by rw [c1]; exact Bool.false_ne_true)) ?_; wp_walk using wpAny_loadPart' hl)
      | (refine wpAny_ite_true (decide_eq_true (by rw [c2])) ?_; wp_walk using wpAny_loadPart' hl))
    exact ⟨_, rfl, h⟩
theorem tuple_mulO (l : Addr) (items : Array Value) (n : Nat) (dd : Option Addr) (sl : Array (Option Value)) (x : Int) (u : Tok) (c0 : (decide (x < -(2 ^ 63)) || decide (x ≥ 2 ^ 63)) = false) (c1 : (items.isEmpty || x == 1) = true) :
    Meets (Builtin.«tuple.__mul__» ⟨[.ref l, .int x u], []⟩) (fun _ R s => s.heap.get? l = some { cls := .type "tuple", dict := dd, data := .seq items n, slots := sl } ∧
      R (.ok (.ret (Value.ref l))) s) :=
  .of_wp fun prog w A R s h => by
    obtain ⟨hp, g, d, tk, os⟩ := s
    obtain ⟨hl, h⟩ := h
    have f1 := AutoSeq1.idx_int
    wp_walk using wpAny_loadPart' hl
    repeat (first
      | (refine wpAny_ite_false (decide_eq_false (by rw [c0]; exact Bool.false_ne_true)) ?_; wp_walk using wpAny_loadPart' hl)
      | (refine wpAny_ite_true (decide_eq_true (by rw [c1])) ?_; wp_walk using wpAny_loadPart' hl))
    exact ⟨_, rfl, h⟩
/-- a tuple's object as the built-in operations make it -/
structure TupOb (o : Obj) : Prop where
  cls : o.cls = .type "tuple"
  dict : o.dict = none
/-- a new tuple -/
def NewT (H : Hp) (xs : List V) (Q : VK) : Prop := ∀ p o, H p = none → TupOb o → Q (.ref p) (upd H p (.frz o (.tup xs)))
section
variable {X : Cx} {pins : List (Addr × Obj)} {σ : L2.St} {H : Hp} {s : Shared} {Q : VK}
theorem new_tup {xs : List V} {its : List Value} (I : Inv X pins σ H s) (r : Vals xs its) (hz : xs.length ≤ sizeLine) (q : NewT H xs Q) :
    EP X pins σ Q (.ref s.heap.objs.size) { s with heap := s.heap.push { cls := .type "tuple", data := .seq its.toArray } } := by
  refine ⟨.ref s.heap.objs.size, upd H s.heap.objs.size (.frz { cls := .type "tuple", data := .seq its.toArray } (.tup xs)), I.laid (t' := s.toks) (fun b u e => Heap.get?_push_of_some _ e) (Nat.le_refl _) ?_, rfl, q _ _ (I.hok.fresh (Nat.le_refl _)) ⟨rfl, rfl⟩⟩
  exact ⟨Heap.get?_push_size _ rfl, hz, its, r, IsTup.new _ _⟩
end
section
variable {X : Cx} {es : List Expr} {t : TA} {pos : Pos}
def tTupF (t : TA) : TE := fun σ H Q => t σ H fun xs H1 => xs.length ≤ sizeLine ∧ NewT H1 xs Q
theorem pe_tupF {x1} (h : PA X es t) : PE X (.Tuple es x1 pos) (tTupF t) := by
  refine ⟨fun pins s σ H Q I hq => wpAny_Tuple_spliced (thn (h.run pos pins s σ H _ I hq) ?_)⟩
  rintro us s1 ⟨xs, H1, I1, r, z, q⟩
  exact ⟨r.length ▸ z, new_tup I1 r z q⟩
theorem call_tupleF : CallR X (.type "tuple") (fun xs H Q => ∃ p ys, xs = [.ref p] ∧ ((SqL X.K H p ys ∧ NewT H ys Q) ∨ (SqT X.K H p ys ∧ Q (.ref p) H))) := by
  intro pins s σ H xs us Q I r h
  obtain ⟨p, ys, rfl, h⟩ := h
  obtain ⟨u, rfl, rx⟩ := vals1 r
  cases rx
  rcases h with ⟨hq, q⟩ | ⟨hq, q⟩
  · obtain ⟨its, r', pl, hz⟩ := I.list hq
    refine call_tuple_list pl.isList (fun h' kp => ?_) (by rw [List.size_toArray, ← r'.length]; exact hz)
    have I1 : Inv X pins σ H { s with heap := h' } := I.kept (t' := s.toks) kp
    exact new_tup I1 r' hz q
  · obtain ⟨its, _, pl, _⟩ := I.tuple hq
    exact call_tuple_same pl ⟨.ref p, H, I, rfl, q⟩
def rCatF (K : PySem.W.Frag) : R2 := fun x y H Q => ∃ a b xs ys, x = .ref a ∧ y = .ref b ∧ SqT K H a xs ∧ SqT K H b ys ∧ xs.length + ys.length ≤ sizeLine ∧
  (xs = [] → Q (.ref b) H) ∧ (xs ≠ [] → ys = [] → Q (.ref a) H) ∧ (xs ≠ [] → ys ≠ [] → NewT H (xs ++ ys) Q)
theorem op_catF : OpR X (binaryOp .Add) (rCatF X.K) := by
  intro pins s σ H x y v u Q I rx ry h
  obtain ⟨a, b, xs, ys, rfl, rfl, ha, hb, hz, q0, q1, q2⟩ := h
  cases rx
  cases ry
  obtain ⟨its, r1, p1, _⟩ := I.tuple ha
  obtain ⟨its2, r2, p2, _⟩ := I.tuple hb
  by_cases hx : xs = []
  · subst hx
    cases r1
    exact cat_tup0 p1 p2 ⟨.ref b, H, I, rfl, q0 rfl⟩
  · refine HT.cat_tup p1 p2 (fun z => hx (r1.nil_iff.mp z)) (fun z => ⟨.ref a, H, I, rfl, q1 hx (r2.nil_iff.mp z)⟩) (fun z => ?_) (by rw [← r1.length, ← r2.length]; exact hz)
    exact new_tup I (r1.append r2) (by rw [List.length_append]; exact hz) (q2 hx fun w => z (r2.nil_iff.mpr w))
def rSlF (K : PySem.W.Frag) : V → Option Int → Option Int → Hp → VK → Prop := fun x lo hi H Q => ∃ a xs, x = .ref a ∧ SqT K H a xs ∧
  (HT.sIx xs.length 0 lo = 0 ∧ HT.sIx xs.length xs.length hi = xs.length → Q (.ref a) H) ∧ (¬ (HT.sIx xs.length 0 lo = 0 ∧ HT.sIx xs.length xs.length hi = xs.length) → NewT H (cutV xs lo hi) Q)
theorem sl_tupF : SlR X (rSlF X.K) := by
  intro pins s σ H x v vl vu lo hi sl Q I rx hs pl pu h
  obtain ⟨a, xs, rfl, hx, q1, q2⟩ := h
  cases rx
  obtain ⟨its, r, ht, hz⟩ := I.tuple hx
  have hlen : its.toArray.size = xs.length := by rw [List.size_toArray]; exact r.length.symm
  refine ⟨"tuple", _, PyProof.Rows.slot_tuple_getitem.lookup, ht.typeIs, ?_⟩
  by_cases hw : HT.sIx xs.length 0 lo = 0 ∧ HT.sIx xs.length xs.length hi = xs.length
  · exact getItem_tuple_whole ht hs pl pu (by rw [hlen]; exact hw) ⟨.ref a, H, I, rfl, q1 hw⟩
  · refine HT.getItem_tuple_cut ht hs pl pu (by rw [hlen]; exact hw) ?_ (by rw [hlen]; exact hz)
    rw [hlen]
    exact new_tup I ((r.drop _).take _) (Nat.le_trans (cutV_length xs lo hi) hz) (q2 hw)
def rRepF (K : PySem.W.Frag) : R2 := fun x y H Q => ∃ l k xs, x = .ref l ∧ y = .int k ∧ SqT K H l xs ∧ -1000000 < k ∧ k ≤ 1000 ∧ xs.length ≤ 1000 ∧ (xs = [] ∨ k = 1 → Q (.ref l) H) ∧ (¬ (xs = [] ∨ k = 1) → NewT H (List.replicate k.toNat xs).flatten Q)
theorem op_repF : OpR X (binaryOp .Mult) (rRepF X.K) := by
  intro pins s σ H x y v u Q I rx ry h
  obtain ⟨l, k, xs, rfl, rfl, hT, h0, h2, hz, q0, q1⟩ := h
  cases rx
  obtain ⟨t, rfl⟩ := ry
  obtain ⟨its, r, ⟨⟨cls, dd, data, sl⟩, ho, hc, n, hd⟩, hs⟩ := I.tuple hT
  simp only at hc hd
  subst hc hd
  have hle : its.length = xs.length := r.length.symm
  have hsz : its.toArray.size = xs.length := hle
  have c0 : (decide (k < -(2 ^ 63)) || decide (k ≥ 2 ^ 63)) = false := by
    rw [decide_eq_false (by omega), decide_eq_false (by omega)] <;> rfl
  by_cases c : xs = [] ∨ k = 1
  · have c1 : (its.toArray.isEmpty || k == 1) = true := by
      rcases c with c | c
      · have : its = [] := List.eq_nil_of_length_eq_zero (by rw [hle, c]; rfl)
        rw [this]; rfl
      · rw [c]; simp
    exact wpAny_binaryOp_repeat_ref (T := "tuple") (U := "int") (by decide) ⟨_, ho, rfl⟩ (fun s' => typeIs_int s' k t) noFill_tuple_mul F.fills_int_mul F.slot_int_rmul repeat_tuple F.slot_int_index.lookup
      (call_meets F.slot_int_rmul (typeIs_int s k t) F.entry_int_rmul (F.args_int_rmul_2 _ _) (int_rmul_tuple k t l its.toArray n dd sl) ⟨ho, rfl, ⟨_, ho, rfl⟩, call_meets F.slot_tuple_mul ⟨_, ho, rfl⟩ F.entry_tuple_mul (F.args_tuple_mul_2 _ _) (tuple_mulO l its.toArray n dd sl k t c0 c1) ⟨ho, ⟨.ref l, H, I, rfl, q0 c⟩⟩⟩)
  · have hne : xs ≠ [] := fun e => c (.inl e)
    have h1 : k ≠ 1 := fun e => c (.inr e)
    have hi : its.toArray.isEmpty = false := by
      cases its with
      | nil => exact absurd (List.eq_nil_of_length_eq_zero hle.symm) hne
      | cons a b => rfl
    have c1 : (its.toArray.isEmpty || k == 1) = false := by
      rw [hi, Bool.false_or]
      exact beq_eq_false_iff_ne.mpr h1
    have q := q1 c
    by_cases z : k ≤ 0
    · have c2 : (decide (k ≤ 0) || its.toArray.isEmpty) = true := by rw [decide_eq_true z]; rfl
      rw [show k.toNat = 0 by omega] at q
      have q' := new_tup I (r.rep 0) (by simp) q
      exact wpAny_binaryOp_repeat_ref (T := "tuple") (U := "int") (by decide) ⟨_, ho, rfl⟩ (fun s' => typeIs_int s' k t) noFill_tuple_mul F.fills_int_mul F.slot_int_rmul repeat_tuple F.slot_int_index.lookup
        (call_meets F.slot_int_rmul (typeIs_int s k t) F.entry_int_rmul (F.args_int_rmul_2 _ _) (int_rmul_tuple k t l its.toArray n dd sl) ⟨ho, rfl, ⟨_, ho, rfl⟩, call_meets F.slot_tuple_mul ⟨_, ho, rfl⟩ F.entry_tuple_mul (F.args_tuple_mul_2 _ _) (tuple_mulZ l its.toArray n dd sl k t c0 c1 c2) ⟨ho, q'⟩⟩)
    · have hm : ((its.toArray.size : Nat) : Int) * k ≤ 1000000 := by
        have := Int.mul_le_mul_of_nonneg_right (show ((xs.length : Nat) : Int) ≤ 1000 by omega) (show 0 ≤ k by omega)
        rw [hsz]; omega
      have flen : (List.replicate k.toNat its).flatten.length ≤ sizeLine := by
        have := Nat.mul_le_mul (show k.toNat ≤ 1000 by omega) (show its.length ≤ 1000 by omega)
        rw [PyProof.Rows.lm_len_rep_flat, sizeLine_eq]; omega
      have c2 : (decide (k ≤ 0) || its.toArray.isEmpty) = false := by
        rw [hi, Bool.or_false]
        exact decide_eq_false z
      have c4 : Builtin.Tuple.tupleTooMany (((its.toArray.size : Nat) : Int) * k) = false := by
        unfold Builtin.Tuple.tupleTooMany
        rw [sizeLine_eq, decide_eq_false_iff_not]; omega
      have q' := new_tup I (r.rep k.toNat) (by rw [PyProof.Rows.lm_len_rep_flat, ← hle, ← PyProof.Rows.lm_len_rep_flat]; exact flen) q
      have e := size_rep its k.toNat
      rw [← e] at q'
      exact wpAny_binaryOp_repeat_ref (T := "tuple") (U := "int") (by decide) ⟨_, ho, rfl⟩ (fun s' => typeIs_int s' k t) noFill_tuple_mul F.fills_int_mul F.slot_int_rmul repeat_tuple F.slot_int_index.lookup
        (call_meets F.slot_int_rmul (typeIs_int s k t) F.entry_int_rmul (F.args_int_rmul_2 _ _) (int_rmul_tuple k t l its.toArray n dd sl) ⟨ho, rfl, ⟨_, ho, rfl⟩, call_meets F.slot_tuple_mul ⟨_, ho, rfl⟩ F.entry_tuple_mul (F.args_tuple_mul_2 _ _) (tuple_mulW l its.toArray n dd sl k t c0 c1 c2 (by omega) c4 (by rw [e, List.size_toArray]; exact flen)) ⟨ho, q'⟩⟩)
end
end KL
end

section
set_option Elab.async false
set_option linter.all false
set_option maxRecDepth 100000
/-! ### t[::-1] of a list or a tuple -/
namespace HT
open PySem PySem.Spec PyProof.Rows PySem.W
section
variable {prog : Program} {w : World} {A : Around} {E : Value → Shared → Prop} {s : Shared}
theorem places_rev (n : Nat) : Builtin.Slice.slicePlaces ((n : Int) - 1) (-1) (-1) = n := by
  unfold Builtin.Slice.slicePlaces
  have h1 : ¬ ((-1 : Int) > 0) := by omega
  simp only [h1, if_false]
  have e : (- (-1) : Int) = 1 := rfl
  rw [e, Int.ediv_one]
  split <;> omega
theorem fm_congr {α β : Type} {f g : α → Option β} : ∀ {l : List α}, (∀ a ∈ l, f a = g a) → l.filterMap f = l.filterMap g
  | [], _ => rfl
  | a :: l, h => by
    rw [List.filterMap_cons, List.filterMap_cons, h a (List.mem_cons_self ..), fm_congr fun b hb => h b (List.mem_cons_of_mem _ hb)]
theorem pick_rev (xs : Array Value) : ((List.range xs.size).filterMap fun (m : Nat) => xs[((xs.size : Int) - 1 + (m : Int) * (-1)).toNat]?).toArray = xs.toList.reverse.toArray := by
  congr 1
  have e : ((List.range xs.size).filterMap fun (m : Nat) => xs[((xs.size : Int) - 1 + (m : Int) * (-1)).toNat]?) = (List.range xs.size).filterMap fun m => xs.toList.reverse.toArray[m]? := by
    apply fm_congr
    intro m hm
    have hm := List.mem_range.mp hm
    have e1 : ((xs.size : Int) - 1 + (m : Int) * (-1)).toNat = xs.size - 1 - m := by omega
    have e2 : xs.toList.reverse.toArray[m]? = xs.toList.reverse[m]? := by simp
    rw [e1, e2, List.getElem?_reverse (by rw [Array.length_toList]; exact hm), Array.length_toList, Array.getElem?_toList]
  rw [e]
  have := krv_all xs.toList.reverse.toArray
  rw [List.size_toArray, List.length_reverse, Array.length_toList] at this
  exact this
theorem adj_rev (n : Nat) : Builtin.Slice.sliceAdjust none none (-1) (n : Int) = ((n : Int) - 1, -1) := by
  unfold Builtin.Slice.sliceAdjust
  have h1 : ((-1 : Int) < 0) := by omega
  simp only [h1, if_true]
theorem sliceApplied_rev {sl : Addr} {vl vu vs : Value} {n : Nat} {Q : Int × Int × Nat → Shared → Prop} (hs : s.heap.IsSliceOf sl vl vu vs) (pl : IsPart vl none) (pu : IsPart vu none) (ps : IsPart vs (some (-1)))
    (h : Q ((n : Int) - 1, -1, n) s) : wpAny (model prog w) A (Builtin.Slice.sliceApplied (.ref sl) (pure (n : Int))) Q E s := by
  obtain ⟨os, hos, hcs, hds⟩ := id hs
  unfold Builtin.Slice.sliceApplied Builtin.Slice.sliceFields
  refine wpAny_bind (wpAny_bind (wpAny_field hos hds (x := vl) rfl (wpAny_bind (wpAny_field hos hds (x := vu) rfl (wpAny_bind (wpAny_field hos hds (x := vs) rfl (wpAny_pure ?_)))))))
  refine wpAny_bind (slicePart_ ps ?_)
  show wpAny _ _ (if ((-1 : Int) == 0) = true then _ else _) _ _ s
  rw [if_neg (by decide)]
  refine wpAny_bind (slicePart_ pl (wpAny_bind (slicePart_ pu (wpAny_bind (wpAny_pure ?_)))))
  show wpAny _ _ (match Builtin.Slice.sliceAdjust none none (-1) (n : Int) with | (lo, hi) => pure (lo, (-1 : Int), Builtin.Slice.slicePlaces lo hi (-1))) _ _ s
  rw [adj_rev n]
  show wpAny _ _ (pure ((n : Int) - 1, (-1 : Int), Builtin.Slice.slicePlaces ((n : Int) - 1) (-1) (-1))) _ _ s
  rw [places_rev]
  exact wpAny_pure h
theorem getItem_tuple_rev {t sl : Addr} {items : Array Value} {vl vu vs : Value} {Q : Value → Shared → Prop} (ht : IsTup s.heap t items) (hs : s.heap.IsSliceOf sl vl vu vs) (pl : IsPart vl none) (pu : IsPart vu none) (ps : IsPart vs (some (-1)))
    (h : Q (.ref s.heap.objs.size) { s with heap := s.heap.push { cls := .type "tuple", data := .seq items.toList.reverse.toArray } })
    (hsz : items.size ≤ sizeLine) : wpAny (model prog w) A (getItem (.ref t) (.ref sl)) Q E s := by
  have htake : sizeOk (.seq items.toList.reverse.toArray) := by
    show (items.toList.reverse.toArray).size ≤ sizeLine
    rw [List.size_toArray, List.length_reverse, Array.length_toList]
    exact hsz
  obtain ⟨os, hos, hcs, hds⟩ := id hs
  have hTs : s.TypeIs (.ref sl) "slice" := ⟨os, hos, hcs⟩
  unfold getItem
  try with_reducible refine wpAny_holding ?_
  first | refine wpAny_bind (wpAny_pure ?_) | skip
  refine wpAny_bind (wpAny_sequenceKey ht.typeIs (by decide) ?_)
  refine wpAny_bind (wpAny_callSpecial?_slot (name := Str.ofString "__getitem__") ht.typeIs PyProof.Rows.slot_tuple_getitem
    (wpAny_call_entry PyProof.Rows.slot_tuple_getitem ht.typeIs entry_tuple_getitem ?_ (args_tuple_getitem _ _)))
  show wpAny _ _ (Builtin.Tuple.tupleItemsOf (.ref t) >>= _) _ _ s
  refine wpAny_bind (tupleItemsOf_ ht ?_)
  refine wpAny_bind (wpAny_typeOf hTs ?_)
  rw [if_pos (by decide)]
  refine wpAny_bind (sliceApplied_rev hs pl pu ps ?_)
  have hno : ¬ ((((items.size : Int) - 1) == 0 && (-1 : Int) == 1 && items.size == items.size) = true) := by
    intro q
    rw [Bool.and_eq_true, Bool.and_eq_true] at q
    exact absurd q.1.2 (by decide)
  show wpAny _ _ (if (((items.size : Int) - 1) == 0 && (-1 : Int) == 1 && items.size == items.size) = true then _ else _) _ _ s
  rw [if_neg hno, pick_rev]
  first
    | exact wpAny_bind (m := Builtin.Tuple.tupleExact _) (wpAny_newObj_type (wpAny_pure ⟨_, rfl, wpAny_pure h⟩) htake)
    | exact wpAny_bind (m := Builtin.Tuple.tupleExact _) (wpAny_newObj_type (wpAny_bind (wpAny_pure (wpAny_pure ⟨_, rfl, wpAny_pure h⟩))) htake)
    | exact wpAny_bind (wpAny_bind (m := Builtin.Tuple.tupleExact _) (wpAny_newObj_type (wpAny_pure (wpAny_pure ⟨_, rfl, wpAny_pure h⟩)) htake))
    | exact wpAny_bind (wpAny_bind (m := Builtin.Tuple.tupleExact _) (wpAny_newObj_type (wpAny_pure ⟨_, rfl, wpAny_pure h⟩) htake))
end
end HT
namespace KL
open PySem PySem.Spec PyProof.Rows L2
def tRevA (K : PySem.W.Frag) (te : TE) : TE := fun σ H Q => te σ H fun x H1 => ∃ a xs, x = .ref a ∧ ((SqL K H1 a xs ∧ ∀ p, H1 p = none → Q (.ref p) (upd H1 p (.lst xs.reverse))) ∨ (SqT K H1 a xs ∧ NewT H1 xs.reverse Q))
theorem Vals_reverse {vs : List V} {its : List Value} (r : Vals vs its) : Vals vs.reverse its.reverse := r.reverse
theorem pe_revA {X : Cx} {e : Expr} {te : TE} {k : Nat} {p1 p2 p3 pos : Pos} (he : PE X e te) : PE X (.Subscript e (.Slice none none (some (.UnaryOp .USub (.Constant (.int 1) k p1) p2)) p3) pos) (tRevA X.K te) := by
  refine ⟨fun pins s σ H Q I h => ?_⟩
  refine Subscript_ (thn (he.run pins s σ H _ I h) fun v s1 ⟨x, H1, I1, r1, q1⟩ => ?_)
  obtain ⟨a, xs, ex, q⟩ := q1
  subst ex
  cases r1
  have hst : PO X (some (.UnaryOp .USub (.Constant (.int 1) k p1) p2)) (tPart (tUn (rU fun i => .int (-i)) (tC (.int 1)))) := po_some (pe_un un_neg pe_int)
  refine wpAny_Slice (thn (po_none.run pins s1 σ H1 (fun o H2 => o = none ∧ H2 = H1) I1 ⟨rfl, rfl⟩) fun vl s2 ⟨l, H2, I2, pl, el, e2⟩ => ?_)
  subst el e2
  refine thn (po_none.run pins s2 σ H2 (fun o H3 => o = none ∧ H3 = H2) I2 ⟨rfl, rfl⟩) fun vu s3 ⟨u, H3, I3, pu, eu, e3⟩ => ?_
  subst eu e3
  refine thn (hst.run pins s3 σ H3 (fun o H4 => o = some (-1) ∧ H4 = H3) I3 ⟨1, rfl, -1, rfl, rfl, rfl⟩) fun vs s4 ⟨o, H4, I4, ps, eo, e4⟩ => ?_
  subst eo e4
  have I5 : Inv X pins σ H4 { s4 with heap := s4.heap.push { cls := .type "slice", data := .fields #[vl, vu, vs] } } := I4.kept (t' := s4.toks) fun b ob q => Heap.get?_push_of_some _ q
  show wpAny (model X.prog X.w) X.A (subscriptTail e (.Slice none none (some (.UnaryOp .USub (.Constant (.int 1) k p1) p2)) p3) (.ref a) (.ref s4.heap.objs.size)) (EP X pins σ Q) X.xe { s4 with heap := s4.heap.push { cls := .type "slice", data := .fields #[vl, vu, vs] } }
  rcases q with ⟨hx, q⟩ | ⟨hx, q⟩
  · obtain ⟨its, r, ht, hz⟩ := I5.list hx
    have hlen := r.length
    refine tail_any (ops := [.ref a, .ref s4.heap.objs.size]) ht.isList.typeIs (PySem.slot_list_getitem.lookup) ?_ (by with_unfolding_all rfl)
    refine wpAny_getItem_list_slice ht.isList (Heap.IsSliceOf.new _ vl vu vs) pl pu ps (by decide) ?_ (by rw [List.size_toArray]; omega)
    rw [PySem.W.krv_pick]
    refine ⟨.ref _, _, I5.laid (t' := s4.toks) (o := .lst xs.reverse) (fun b ob q => Heap.get?_push_of_some _ q) (Nat.le_refl _) ?_, rfl, q _ (I5.hok.fresh (Nat.le_refl _))⟩
    exact ⟨by rw [List.length_reverse]; exact hz, _, 0, r.reverse, Heap.get?_push_size _ rfl⟩
  · obtain ⟨its, r, ht, hz⟩ := I5.tuple hx
    have hlen := r.length
    refine tail_any (ops := [.ref a, .ref s4.heap.objs.size]) ht.typeIs (PyProof.Rows.slot_tuple_getitem.lookup) ?_ (by with_unfolding_all rfl)
    refine HT.getItem_tuple_rev ht (Heap.IsSliceOf.new _ vl vu vs) pl pu ps ?_ (by rw [List.size_toArray]; omega)
    exact new_tup I5 (its := its.reverse) (r.reverse) (by rw [List.length_reverse]; exact hz) q
end KL

namespace KL
open PySem PySem.Spec PyProof.Rows L2
theorem sorted_tupI {prog : Program} {w : World} {A : Around} {E : Value → Shared → Prop} {s : Shared} {t : Addr} {vs : List Value} {ns : List Int} {Q : Value → Shared → Prop} (ht : s.heap.IsTuple t vs.toArray) (hi : IntsAre vs ns) (hz : vs.length ≤ sizeLine)
    (h : ∀ (h' : Heap) (l : Addr) (out : List Value) (ns' : List Int) (e : Nat), (∀ b o, s.heap.get? b = some o → h'.get? b = some o) → s.heap.get? l = none → h'.get? l = some (seqObj "list" out.toArray e) → IntsAre out ns' → ns'.Perm ns → ns'.Pairwise (· ≤ ·) → Q (.ref l) { s with heap := h' }) :
    wpAny (model prog w) A (call (.builtin "sorted") [.ref t] []) Q E s := by
  refine Calls.call_function_entry kind_sorted plain_sorted entry_sorted (args_sorted1 _) ?_
  unfold Builtin.«sorted»
  refine wpAny_bind (m := checkCount "sorted" 1 1 _) (wpAny_pure ?_)
  obtain ⟨o, ho, hc, n, hd⟩ := id ht
  refine wpAny_bind (wpAny_collect_seq t (.inr rfl) ho hc hd (fun h1 k1 => ?_) (by rw [List.size_toArray]; exact hz))
  refine wpAny_bind (wpAny_newList ?_ hz)
  have hl : (h1.push (seqObj "list" vs.toArray 0)).get? h1.objs.size = some (seqObj "list" vs.toArray 0) := Heap.get?_push_size _ rfl
  show wpAny _ _ _ _ _ { s with heap := h1.push (seqObj "list" vs.toArray 0) }
  refine wpAny_bind (wpAny_holding (wpAny_call_entry slot_list_sort ⟨_, hl, rfl⟩ entry_list_sort ?_ (args_list_sort _)))
  refine SrtO.list_sort_ord (ltv := SrtO.ltIv) SrtO.swo_int hl hz (fun h2 => SrtO.ints_sortable hi h2) fun out hs hb => ⟨_, rfl, ?_⟩
  obtain ⟨i1, i2, i3⟩ := SrtO.ints_out hi hs hb
  obtain ⟨e, he⟩ := sortedHeap_at (out := out.toArray) hl
  refine wpAny_pure ⟨_, rfl, h _ h1.objs.size _ _ e (fun b u q => ?_) ?_ he i1 i2 i3⟩
  · have q1 := k1 b u q
    have lt := Heap.lt_size q1
    exact (sortedHeap_old (Nat.ne_of_lt lt) (by rw [Heap.size_push]; exact Nat.lt_succ_of_lt lt)).trans (Heap.get?_push_of_some _ q1)
  · cases q : s.heap.get? h1.objs.size with
    | none => rfl
    | some u => exact absurd (Heap.lt_size (k1 _ _ q)) (Nat.lt_irrefl _)
def rSortA (K : PySem.W.Frag) : List V → Hp → VK → Prop := fun vs H Q => ∃ (a : Addr) (ns : List Int), vs = [V.ref a] ∧ (SqL K H a (ns.map V.int) ∨ SqT K H a (ns.map V.int)) ∧
  ∀ (ns' : List Int) (p : Addr), ns'.Perm ns → ns'.Pairwise (· ≤ ·) → H p = none → Q (.ref p) (upd H p (.lst (ns'.map V.int)))
theorem cr_sortA {X : Cx} : CallR X (.builtin "sorted") (rSortA X.K) := by
  intro pins s σ H vs us Q I r h
  obtain ⟨a, ns, rfl, hs, q⟩ := h
  rcases hs with hs | hs
  · exact cr_sortedI pins s σ H _ us Q I r ⟨a, ns, rfl, hs, fun ns' p h1 h2 h3 => q ns' p h1 h2 h3⟩
  · obtain rfl := Vals.ref1 r
    obtain ⟨its, rv, ht, hz⟩ := I.tuple hs
    have hi := intsAre_of rv
    refine sorted_tupI (show s.heap.IsTuple a its.toArray from ht) hi (by rw [← rv.length]; exact hz) fun h' l out ns' e k n0 he i1 i2 i3 => ?_
    have hn : H l = none := I.hok.gone n0
    have hlen : (ns'.map V.int).length ≤ sizeLine := by
      rw [List.length_map, i2.length_eq]
      rw [List.length_map] at hz
      exact hz
    exact ⟨.ref l, upd H l (.lst (ns'.map V.int)), I.laidN (t' := s.toks) k n0 hn ⟨hlen, out, e, vals_of_ints i1, he⟩, rfl, q ns' l i2 i3 hn⟩
end KL
end

section
set_option Elab.async false
set_option linter.all false
set_option maxRecDepth 100000
namespace KL
open PySem L2

/-- data without places -/
inductive D where
  | non | bl (b : Bool) | int (i : Int) | str (s : Str)
  | lst (xs : List D) | tup (xs : List D)
  /-- what enumerate, zip, items hand out: a tuple that is taken apart at once -/
  | pr (xs : List D)
  /-- the script -/
  | scr (ns : List Int)
  | err (c : Str) (fs : List (Str × D))

/-- a slot: nothing known, data that nobody changes, a list of one's own, a borrowed list -/
inductive Sl where
  | un | va (d : D) | ow (xs : List D) | io (xs : List D)
abbrev Env := List Sl
/-- a value: data that nobody changes, a new list -/
inductive Vl where
  | fz (d : D) | fr (xs : List D)
def Vl.d : Vl → D
  | .fz d => d
  | .fr xs => .lst xs
/-- what a run gives -/
inductive R (α : Type) where
  | ok (a : α) (ρ : Env) | ex (e : D) (ρ : Env) | bad
abbrev M (α : Type) := Env → R α
@[inline] def bnd {α β : Type} (r : R α) (f : α → Env → R β) : R β := match r with
  | .ok a ρ => f a ρ
  | .ex e ρ => .ex e ρ
  | .bad => .bad
/-- an operand: data, or the slot where it stands -/
inductive Od where
  | v (d : D) | s (i : Nat)
def Sl.d? : Sl → Option D
  | .un => none
  | .va d => some d
  | .ow xs => some (.lst xs)
  | .io xs => some (.lst xs)
def Od.get (ρ : Env) : Od → Option D
  | .v d => some d
  | .s i => match ρ[i]? with
    | some q => q.d?
    | none => none

/-! ### what stands for what -/
abbrev Ad := Addr → Prop
abbrev MgT := Str → Option Value
/-- an exception's object -/
def errO (C : Addr) (a : Addr) (d : Option Addr) : HO := .ext fun h => ∃ o vs, h.get? a = some o ∧ o.cls = .ref C ∧ o.dict = d ∧ o.data = .fields vs
section
variable (K : PySem.W.Frag) (mg : MgT)
mutual
inductive Rep (H : Hp) (B : Ad) : D → V → Prop
  | non : Rep H B .non .non
  | bl (b : Bool) : Rep H B (.bl b) (.bl b)
  | int (i : Int) : Rep H B (.int i) (.int i)
  | str (x : Str) : Rep H B (.str x) (.str x)
  | lst {a : Addr} {xs : List D} {vs : List V} : ¬ B a → H a = some (.lst vs) → RepL H B xs vs → Rep H B (.lst xs) (.ref a)
  | tup {a : Addr} {o : Obj} {xs : List D} {vs : List V} : ¬ B a → H a = some (.frz o (.tup vs)) → TupOb o → RepL H B xs vs → Rep H B (.tup xs) (.ref a)
  | pr {a : Addr} {xs : List D} {vs : List V} : ¬ B a → H a = some (.tup vs) → RepL H B xs vs → Rep H B (.pr xs) (.ref a)
  | scr {a : Addr} {ns : List Int} : ¬ B a → Rd H a (.lst (ns.map V.int)) → Rep H B (.scr ns) (.ref a)
  | scrK {a : Addr} {ns : List Int} : (∀ H' : Hp, SqL K H' a (ns.map V.int)) → Rep H B (.scr ns) (.ref a)
  | tupK {a : Addr} {o : Obj} {xs : List D} {vs : List V} : K.lookup a = some o → TupOb o → (∀ H' : Hp, SqT K H' a vs) → RepL H B xs vs → Rep H B (.tup xs) (.ref a)
  | err0 {a C : Addr} {c : Str} : ¬ B a → mg c = some (.ref C) → H a = some (errO C a none) → Rep H B (.err c []) (.ref a)
  | err {a C dx : Addr} {c : Str} {fs : List (Str × D)} {gs : List (Str × V)} : ¬ B a → ¬ B dx → mg c = some (.ref C) → H a = some (errO C a (some dx)) → H dx = some (.xd gs) → RepF H B fs gs → Rep H B (.err c fs) (.ref a)
inductive RepL (H : Hp) (B : Ad) : List D → List V → Prop
  | nil : RepL H B [] []
  | cons {d : D} {ds : List D} {v : V} {vs : List V} : Rep H B d v → RepL H B ds vs → RepL H B (d :: ds) (v :: vs)
inductive RepF (H : Hp) (B : Ad) : List (Str × D) → List (Str × V) → Prop
  | nil : RepF H B [] []
  | cons {x : Str} {d : D} {ds : List (Str × D)} {v : V} {vs : List (Str × V)} : Rep H B d v → RepF H B ds vs → RepF H B ((x, d) :: ds) ((x, v) :: vs)
end
end
/-- no table of code objects -/
def NT : HO → Prop
  | .tbl _ => False
  | _ => True
/-- the tables that grow -/
class Tabs where
  is : Addr → Prop
/-- what is not kept apart stays; what is kept apart was so, or is new -/
structure FE (B : Ad) (H : Hp) (B' : Ad) (H' : Hp) : Prop where
  keep : ∀ a o, H a = some o → ¬ B a → NT o → H' a = some o
  new : ∀ a, B' a → B a ∨ H a = none
  there : ∀ a, H a ≠ none → ¬ B a → H' a ≠ none
theorem FE.refl {B : Ad} {H : Hp} : FE B H B H := ⟨fun _ _ h _ _ => h, fun _ h => .inl h, fun _ h _ => h⟩
section
variable {K : PySem.W.Frag} {mg : MgT} {H H' : Hp} {B B' : Ad}
theorem rd_keep {a : Addr} {u : HO} (e : ∀ o, H a = some o → NT o → H' a = some o) (n : NT u) (h : Rd H a u) : Rd H' a u := by
  rcases h with h | ⟨o, h⟩
  · exact .inl (e _ h n)
  · exact .inr ⟨o, e _ h trivial⟩
theorem rd_there {a : Addr} {u : HO} (h : Rd H a u) : H a ≠ none := by
  rcases h with h | ⟨o, h⟩ <;> rw [h] <;> simp
theorem FE.not (f : FE B H B' H') {a : Addr} (hb : ¬ B a) (h : H a ≠ none) : ¬ B' a := fun z => (f.new a z).elim hb h
mutual
theorem Rep.mono (f : FE B H B' H') : ∀ {d : D} {v : V}, Rep K mg H B d v → Rep K mg H' B' d v
  | _, _, .non => .non
  | _, _, .bl b => .bl b
  | _, _, .int i => .int i
  | _, _, .str x => .str x
  | _, _, .lst hb h r => .lst (f.not hb (by rw [h]; simp)) (f.keep _ _ h hb trivial) (RepL.mono f r)
  | _, _, .tup hb h t r => .tup (f.not hb (by rw [h]; simp)) (f.keep _ _ h hb trivial) t (RepL.mono f r)
  | _, _, .pr hb h r => .pr (f.not hb (by rw [h]; simp)) (f.keep _ _ h hb trivial) (RepL.mono f r)
  | _, _, .scrK h => .scrK h
  | _, _, .scr hb h => .scr (f.not hb (rd_there h)) (rd_keep (fun o q => f.keep _ o q hb) trivial h)
  | _, _, .tupK k t h r => .tupK k t h (RepL.mono f r)
  | _, _, .err0 hb hc h => .err0 (f.not hb (by rw [h]; simp)) hc (f.keep _ _ h hb trivial)
  | _, _, .err hb hd hc h h2 r => .err (f.not hb (by rw [h]; simp)) (f.not hd (by rw [h2]; simp)) hc (f.keep _ _ h hb trivial) (f.keep _ _ h2 hd trivial) (RepF.mono f r)
theorem RepL.mono (f : FE B H B' H') : ∀ {ds : List D} {vs : List V}, RepL K mg H B ds vs → RepL K mg H' B' ds vs
  | _, _, .nil => .nil
  | _, _, .cons a b => .cons (Rep.mono f a) (RepL.mono f b)
theorem RepF.mono (f : FE B H B' H') : ∀ {ds : List (Str × D)} {vs : List (Str × V)}, RepF K mg H B ds vs → RepF K mg H' B' ds vs
  | _, _, .nil => .nil
  | _, _, .cons a b => .cons (Rep.mono f a) (RepF.mono f b)
end
theorem FE.trans {B1 B2 : Ad} {H1 H2 : Hp} (a : FE B H B1 H1) (b : FE B1 H1 B2 H2) : FE B H B2 H2 where
  keep := fun x o q hb n => b.keep x o (a.keep x o q hb n) (a.not hb (by rw [q]; simp)) n
  new := fun x z => by
    rcases b.new x z with z | z
    · exact a.new x z
    · by_cases hb : B x
      · exact .inl hb
      · refine .inr ?_
        cases q : H x with
        | none => rfl
        | some o => exact absurd z (a.there x (by rw [q]; simp) hb)
  there := fun x q hb => b.there x (a.there x q hb) (a.not hb q)
theorem FE.sub (h : ∀ a, B' a → B a) : FE B H B' H := ⟨fun _ _ q _ _ => q, fun a z => .inl (h a z), fun _ q _ => q⟩
theorem RepL.length : ∀ {ds : List D} {vs : List V}, RepL K mg H B ds vs → ds.length = vs.length
  | _, _, .nil => rfl
  | _, _, .cons _ b => by simp [RepL.length b]
theorem RepL.append : ∀ {ds es : List D} {vs ws : List V}, RepL K mg H B ds vs → RepL K mg H B es ws → RepL K mg H B (ds ++ es) (vs ++ ws)
  | _, _, _, _, .nil, s => s
  | _, _, _, _, .cons a b, s => .cons a (RepL.append b s)
theorem RepL.get : ∀ {ds : List D} {vs : List V} {i : Nat} {d : D}, RepL K mg H B ds vs → ds[i]? = some d → ∃ v, vs[i]? = some v ∧ Rep K mg H B d v
  | _, _, _, _, .nil, e => by simp at e
  | _, _, 0, _, .cons a _, e => by simp at e; subst e; exact ⟨_, rfl, a⟩
  | _, _, i + 1, d, .cons _ b, e => by
    obtain ⟨v, h1, h2⟩ := RepL.get (i := i) (d := d) b (by simpa using e)
    exact ⟨v, by simpa using h1, h2⟩
theorem RepL.get' : ∀ {ds : List D} {vs : List V} {i : Nat} {v : V}, RepL K mg H B ds vs → vs[i]? = some v → ∃ d, ds[i]? = some d ∧ Rep K mg H B d v
  | _, _, _, _, .nil, e => by simp at e
  | _, _, 0, _, .cons a _, e => by simp at e; subst e; exact ⟨_, rfl, a⟩
  | _, _, i + 1, v, .cons _ b, e => by
    obtain ⟨d, h1, h2⟩ := RepL.get' (i := i) (v := v) b (by simpa using e)
    exact ⟨d, by simpa using h1, h2⟩
theorem RepL.set {d : D} {v : V} (r : Rep K mg H B d v) : ∀ {ds : List D} {vs : List V} (i : Nat), RepL K mg H B ds vs → RepL K mg H B (ds.set i d) (vs.set i v)
  | _, _, _, .nil => .nil
  | _, _, 0, .cons _ t => .cons r t
  | _, _, i + 1, .cons q t => .cons q (RepL.set r i t)
theorem RepL.take : ∀ {ds : List D} {vs : List V} (n : Nat), RepL K mg H B ds vs → RepL K mg H B (ds.take n) (vs.take n)
  | _, _, 0, _ => by simp; exact .nil
  | _, _, _ + 1, .nil => by simp; exact .nil
  | _, _, n + 1, .cons r t => .cons r (RepL.take n t)
theorem RepL.drop : ∀ {ds : List D} {vs : List V} (n : Nat), RepL K mg H B ds vs → RepL K mg H B (ds.drop n) (vs.drop n)
  | _, _, 0, r => r
  | _, _, _ + 1, .nil => .nil
  | _, _, n + 1, .cons _ t => RepL.drop n t
theorem RepL.reverse : ∀ {ds : List D} {vs : List V}, RepL K mg H B ds vs → RepL K mg H B ds.reverse vs.reverse
  | _, _, .nil => .nil
  | _, _, .cons a b => by simp only [List.reverse_cons]; exact (RepL.reverse b).append (.cons a .nil)
theorem RepL.ints : ∀ {ns : List Int} {vs : List V}, RepL K mg H B (ns.map D.int) vs → vs = ns.map V.int
  | [], _, .nil => rfl
  | _ :: _, _, .cons (.int _) b => by simp [RepL.ints b]
theorem RepL.bls : ∀ {ns : List Bool} {vs : List V}, RepL K mg H B (ns.map D.bl) vs → vs = ns.map V.bl
  | [], _, .nil => rfl
  | _ :: _, _, .cons (.bl _) b => by simp [RepL.bls b]
theorem RepL.of_ints : ∀ (ns : List Int), RepL K mg H B (ns.map D.int) (ns.map V.int)
  | [] => .nil
  | i :: r => .cons (.int i) (RepL.of_ints r)
end

/-! ### slots -/
section
variable (K : PySem.W.Frag) (mg : MgT)
def SlR (H : Hp) (B : Ad) : Sl → Option V → Prop
  | .un, _ => True
  | .va d, o => ∃ v, o = some v ∧ Rep K mg H B d v
  | .ow xs, o => ∃ a vs, o = some (.ref a) ∧ B a ∧ H a = some (.lst vs) ∧ RepL K mg H B xs vs
  | .io xs, o => ∃ a vs, o = some (.ref a) ∧ B a ∧ H a = some (.lst vs) ∧ RepL K mg H B xs vs
end
def Sl.mine : Sl → Bool
  | .ow _ => true
  | .io _ => true
  | _ => false
def Sl.isIo : Sl → Bool
  | .io _ => true
  | _ => false
/-- a is the list of the slot i -/
def OwnAt (ρ : Env) (σ : L2.St) (i : Nat) (a : Addr) : Prop := (∃ q, ρ[i]? = some q ∧ q.mine = true) ∧ σ[i]? = some (some (.ref a))
def Own (ρ : Env) (σ : L2.St) : Ad := fun a => ∃ i, OwnAt ρ σ i a
variable [Tabs] in
structure Rel (K : PySem.W.Frag) (mg : MgT) (B : Ad) (ρ : Env) (σ : L2.St) (H : Hp) : Prop where
  len : ρ.length = σ.length
  sl : ∀ (i : Nat) (q : Sl), ρ[i]? = some q → SlR K mg H B q (σ[i]?.getD none)
  dist : ∀ (i j : Nat) (a : Addr), OwnAt ρ σ i a → OwnAt ρ σ j a → i = j
  alloc : ∀ a, B a → H a ≠ none
  tab : ∀ a, Tabs.is a → GxR.TabG H a ∧ ¬ B a
structure Tr (B W : Ad) (H : Hp) (B' W' : Ad) (H' : Hp) : Prop where
  keep : ∀ a o, H a = some o → ¬ W a → NT o → H' a = some o
  there : ∀ a, H a ≠ none → H' a ≠ none
  bnew : ∀ a, B' a → B a ∨ H a = none
  wnew : ∀ a, W' a → W a ∨ H a = none
  bkeep : ∀ a, B a → ¬ W a → B' a
  tabs : ∀ a, GxR.TabG H a → ¬ B a → GxR.TabG H' a
theorem tab_there {H : Hp} {a : Addr} (h : GxR.TabG H a) : H a ≠ none := fun e => by
  obtain ⟨ps, e2, _⟩ := h
  rw [e] at e2; cases e2
theorem Tr.refl {B W : Ad} {H : Hp} : Tr B W H B W H := ⟨fun _ _ h _ _ => h, fun _ h => h, fun _ h => .inl h, fun _ h => .inl h, fun _ h _ => h, fun _ h _ => h⟩
theorem Tr.trans {B W B1 W1 B2 W2 : Ad} {H H1 H2 : Hp} (hB : ∀ a, B a → H a ≠ none) (a : Tr B W H B1 W1 H1) (b : Tr B1 W1 H1 B2 W2 H2) : Tr B W H B2 W2 H2 := by
  have nn : ∀ x, H1 x = none → H x = none := fun x h => by
    cases q : H x with
    | none => rfl
    | some o => exact absurd h (a.there x (by rw [q]; simp))
  refine ⟨fun x o h hw n => b.keep x o (a.keep x o h hw n) (fun z => ?_) n, fun x h => b.there x (a.there x h), fun x z => ?_, fun x z => ?_, fun x h hw => b.bkeep x (a.bkeep x h hw) fun z => ?_, fun x h hb => b.tabs x (a.tabs x h hb) fun z => ?_⟩
  · exact (a.wnew x z).elim hw fun e => by rw [h] at e; cases e
  · exact (b.bnew x z).elim (a.bnew x) fun e => .inr (nn x e)
  · exact (b.wnew x z).elim (a.wnew x) fun e => .inr (nn x e)
  · exact (a.wnew x z).elim hw fun e => hB x h e
  · exact (a.bnew x z).elim hb fun e => tab_there h e
theorem Rel.wb [Tabs] {K : PySem.W.Frag} {mg : MgT} {B : Ad} {ρ : Env} {σ : L2.St} {H : Hp} (r : Rel K mg B ρ σ H) {a : Addr} (h : Own ρ σ a) : B a := by
  obtain ⟨i, ⟨q, e1, e2⟩, e3⟩ := h
  have z := r.sl i q e1
  rw [e3] at z
  cases q with
  | un => cases e2
  | va d => cases e2
  | ow xs => obtain ⟨b, vs, e, h1, _⟩ := z; cases e; exact h1
  | io xs => obtain ⟨b, vs, e, h1, _⟩ := z; cases e; exact h1
theorem Tr.fe {B W B' W' : Ad} {H H' : Hp} (t : Tr B W H B' W' H') (hw : ∀ a, W a → B a) : FE B H B' H' := ⟨fun a o q hb n => t.keep a o q (fun z => hb (hw a z)) n, t.bnew, fun a q _ => t.there a q⟩
end KL
end

section
set_option Elab.async false
set_option linter.all false
set_option maxRecDepth 100000
namespace KL
open PySem L2
variable [Tabs]

/-- a state: what is kept apart, the slots' data, the slots, the heap -/
structure Sx where
  B : Ad
  ρ : Env
  σ : L2.St
  H : Hp
section
variable (K : PySem.W.Frag) (mg : MgT)
abbrev Sx.rel (S : Sx) : Prop := Rel K mg S.B S.ρ S.σ S.H
/-- from S to S' -/
structure Go (S S' : Sx) : Prop where
  rel : Rel K mg S'.B S'.ρ S'.σ S'.H
  tr : Tr S.B (Own S.ρ S.σ) S.H S'.B (Own S'.ρ S'.σ) S'.H
  io : ∀ (i : Nat) (q : Sl), S.ρ[i]? = some q → q.isIo = true → S'.σ[i]? = S.σ[i]? ∧ ∃ q', S'.ρ[i]? = some q' ∧ q'.isIo = true
  len : S'.σ.length = S.σ.length
/-- a value, reached from S, at S' -/
def RepV (S S' : Sx) : Vl → V → Prop
  | .fz d, v => Rep K mg S'.H S'.B d v
  | .fr xs, v => ∃ a vs, v = .ref a ∧ (Own S.ρ S.σ a ∨ S.H a = none) ∧ S'.B a ∧ ¬ Own S'.ρ S'.σ a ∧ S'.H a = some (.lst vs) ∧ RepL K mg S'.H S'.B xs vs
def RepO (S : Sx) : Od → V → Prop
  | .v d, v => Rep K mg S.H S.B d v
  | .s i, v => S.σ[i]? = some (some v)
/-- an exception in the air -/
def RepX (S : Sx) (e : D) (cls : Value) (dd : Option Addr) : Prop := ∃ (c : Str) (fs : List (Str × D)) (C : Addr), e = .err c fs ∧ mg c = some (.ref C) ∧ cls = .ref C ∧
  ((fs = [] ∧ dd = none) ∨ ∃ dx gs, dd = some dx ∧ ¬ S.B dx ∧ S.H dx = some (.xd gs) ∧ RepF K mg S.H S.B fs gs)
def Opn (S : Sx) : D → V → Prop
  | .lst xs, v => ∃ a vs, v = .ref a ∧ S.H a = some (.lst vs) ∧ RepL K mg S.H S.B xs vs
  | d, v => Rep K mg S.H S.B d v
def Sat {α : Type} (Wi : WX) (S : Sx) (Φ : α → Sx → Prop) : R α → Prop
  | .ok a ρ' => ∀ S' : Sx, S'.ρ = ρ' → S'.σ = S.σ → Go K mg S S' → Φ a S'
  | .ex e ρ' => ∀ (S' : Sx) (cls : Value) (dd : Option Addr), S'.ρ = ρ' → S'.σ = S.σ → Go K mg S S' → RepX K mg S' e cls dd → Wi cls dd S'.σ S'.H
  | .bad => False
end
section
variable {K : PySem.W.Frag} {mg : MgT} {S S1 S2 : Sx}
theorem Go.refl (h : S.rel K mg) : Go K mg S S := ⟨h, Tr.refl, fun i q h1 h2 => ⟨rfl, q, h1, h2⟩, rfl⟩
theorem Go.trans (h : S.rel K mg) (a : Go K mg S S1) (b : Go K mg S1 S2) : Go K mg S S2 := by
  refine ⟨b.rel, Tr.trans h.alloc a.tr b.tr, fun i q h1 h2 => ?_, b.len.trans a.len⟩
  obtain ⟨e1, q1, e2, e3⟩ := a.io i q h1 h2
  obtain ⟨f1, q2, f2, f3⟩ := b.io i q1 e2 e3
  exact ⟨f1.trans e1, q2, f2, f3⟩
theorem Go.fe (h : S.rel K mg) (a : Go K mg S S1) : FE S.B S.H S1.B S1.H := a.tr.fe fun x z => h.wb z
theorem RepV.later {a : Vl} {v : V} (h1 : S1.rel K mg) (r : RepV K mg S S1 a v) (b : Go K mg S1 S2) : RepV K mg S S2 a v := by
  cases a with
  | fz d => exact Rep.mono (b.fe h1) r
  | fr xs =>
    obtain ⟨a, vs, e, z, hb, hw, hh, hr⟩ := r
    refine ⟨a, vs, e, z, b.tr.bkeep a hb hw, fun q => ?_, b.tr.keep a _ hh hw trivial, RepL.mono (b.fe h1) hr⟩
    exact (b.tr.wnew a q).elim hw fun e => by rw [hh] at e; cases e
theorem RepO.later {o : Od} {v : V} (h1 : S1.rel K mg) (hs : S2.σ = S1.σ) (r : RepO K mg S1 o v) (b : Go K mg S1 S2) : RepO K mg S2 o v := by
  cases o with
  | v d => exact Rep.mono (b.fe h1) r
  | s i =>
    show S2.σ[i]? = _
    rw [hs]; exact r
theorem RepX.later {e : D} {cls : Value} {dd : Option Addr} (h1 : S1.rel K mg) (r : RepX K mg S1 e cls dd) (b : Go K mg S1 S2) : RepX K mg S2 e cls dd := by
  obtain ⟨c, fs, C, e1, e2, e3, z⟩ := r
  refine ⟨c, fs, C, e1, e2, e3, ?_⟩
  rcases z with z | ⟨dx, gs, f1, f2, f3, f4⟩
  · exact .inl z
  · have fe := b.fe h1
    exact .inr ⟨dx, gs, f1, fe.not f2 (by rw [f3]; simp), fe.keep _ _ f3 f2 trivial, RepF.mono fe f4⟩
theorem Rep.opn {d : D} {v : V} (h : Rep K mg S.H S.B d v) : Opn K mg S d v := by
  cases h with
  | lst hb h r => exact ⟨_, _, rfl, h, r⟩
  | non => exact .non
  | bl b => exact .bl b
  | int b => exact .int b
  | str b => exact .str b
  | tup a b c d => exact .tup a b c d
  | pr a b c => exact .pr a b c
  | tupK a b c d => exact .tupK a b c d
  | scr a b => exact .scr a b
  | scrK a => exact .scrK a
  | err0 a b c => exact .err0 a b c
  | err a b c d e f => exact .err a b c d e f
theorem opn_of {o : Od} {d : D} {v : V} (h : S.rel K mg) (r : RepO K mg S o v) (g : o.get S.ρ = some d) : Opn K mg S d v := by
  cases o with
  | v x =>
    cases g
    exact Rep.opn r
  | s i =>
    have r' : S.σ[i]? = some (some v) := r
    have g' : (match S.ρ[i]? with
      | some q => q.d?
      | none => none) = some d := g
    cases e : S.ρ[i]? with
    | none => rw [e] at g'; cases g'
    | some q =>
      rw [e] at g'
      have z := h.sl i q e
      rw [r'] at z
      cases q with
      | un => cases g'
      | va x =>
        have g2 : x = d := Option.some.inj g'
        subst g2
        obtain ⟨w, e1, e2⟩ := z
        have e1' : v = w := Option.some.inj e1
        subst e1'
        exact Rep.opn e2
      | ow xs =>
        have g2 : D.lst xs = d := Option.some.inj g'
        subst g2
        obtain ⟨a, vs, e1, _, e2, e3⟩ := z
        have e1' : v = .ref a := Option.some.inj e1
        exact ⟨a, vs, e1', e2, e3⟩
      | io xs =>
        have g2 : D.lst xs = d := Option.some.inj g'
        subst g2
        obtain ⟨a, vs, e1, _, e2, e3⟩ := z
        have e1' : v = .ref a := Option.some.inj e1
        exact ⟨a, vs, e1', e2, e3⟩
theorem Sat.from {α : Type} {Wi : WX} {Ψ : α → Sx → Prop} {r : R α} (h : S.rel K mg) (hs : Sat K mg Wi S Ψ r) (e2 : S1.σ = S.σ) (g : Go K mg S S1) : Sat K mg Wi S1 Ψ r := by
  cases r with
  | bad => exact hs
  | ex e ρ2 => exact fun S' cls dd a1 a2 a3 a4 => hs S' cls dd a1 (a2.trans e2) (g.trans h a3) a4
  | ok b ρ2 => exact fun S' a1 a2 a3 => hs S' a1 (a2.trans e2) (g.trans h a3)
theorem RepV.from {a : Vl} {v : V} (g : Go K mg S S1) (r : RepV K mg S1 S2 a v) : RepV K mg S S2 a v := by
  cases a with
  | fz d => exact r
  | fr xs =>
    obtain ⟨a, vs, e, z, hb, hw, hh, hr⟩ := r
    refine ⟨a, vs, e, ?_, hb, hw, hh, hr⟩
    rcases z with z | z
    · exact g.tr.wnew a z
    · refine .inr ?_
      cases q : S.H a with
      | none => rfl
      | some o => exact absurd z (g.tr.there a (by rw [q]; simp))
/-- running on from a result -/
theorem Sat.bnd {α β : Type} {Wi : WX} {Φ : α → Sx → Prop} {Ψ : β → Sx → Prop} {r : R α} {f : α → Env → R β} (hs : Sat K mg Wi S Ψ (bnd r f))
    (k : ∀ a S1, S1.σ = S.σ → Go K mg S S1 → r = .ok a S1.ρ → Sat K mg Wi S Ψ (f a S1.ρ) → Φ a S1) : Sat K mg Wi S Φ r := by
  cases r with
  | bad => exact hs
  | ex e ρ' => exact hs
  | ok a ρ' =>
    intro S1 e1 e2 g
    subst e1
    exact k a S1 e2 g rfl hs
theorem Sat.imp {α : Type} {Wi : WX} {Φ Ψ : α → Sx → Prop} {r : R α} (hs : Sat K mg Wi S Φ r) (k : ∀ a S1, S1.σ = S.σ → Go K mg S S1 → r = .ok a S1.ρ → Φ a S1 → Ψ a S1) : Sat K mg Wi S Ψ r := by
  cases r with
  | bad => exact hs
  | ex e ρ' => exact hs
  | ok a ρ' =>
    intro S1 e1 e2 g
    subst e1
    exact k a S1 e2 g rfl (hs S1 rfl e2 g)
end

/-! ### the judgements -/
section
variable (K : PySem.W.Frag) (mg : MgT) (Wi : WX)
def TE_ (f : M Vl) : TE := fun σ H Q => ∃ S : Sx, S.rel K mg ∧ S.σ = σ ∧ S.H = H ∧ Sat K mg Wi S (fun a S' => ∀ v, RepV K mg S S' a v → Q v S'.H) (f S.ρ)
def TO_ (f : M Od) : TE := fun σ H Q => ∃ S : Sx, S.rel K mg ∧ S.σ = σ ∧ S.H = H ∧ Sat K mg Wi S (fun a S' => ∀ v, RepO K mg S' a v → Q v S'.H) (f S.ρ)
def TT_ (f : M Bool) : TT := fun σ H Q => ∃ S : Sx, S.rel K mg ∧ S.σ = σ ∧ S.H = H ∧ Sat K mg Wi S (fun a S' => Q a S'.H) (f S.ρ)
inductive RepOs (S : Sx) : List Od → List V → Prop
  | nil : RepOs S [] []
  | cons {o : Od} {os : List Od} {v : V} {vs : List V} : RepO K mg S o v → RepOs S os vs → RepOs S (o :: os) (v :: vs)
def TA_ (f : M (List Od)) : TA := fun σ H Q => ∃ S : Sx, S.rel K mg ∧ S.σ = σ ∧ S.H = H ∧ Sat K mg Wi S (fun a S' => ∀ vs, RepOs K mg S' a vs → Q vs S'.H) (f S.ρ)
end
theorem RepOs.later {K : PySem.W.Frag} {mg : MgT} {S1 S2 : Sx} (h1 : S1.rel K mg) (hs : S2.σ = S1.σ) (b : Go K mg S1 S2) : ∀ {os : List Od} {vs : List V}, RepOs K mg S1 os vs → RepOs K mg S2 os vs
  | _, _, .nil => .nil
  | _, _, .cons a r => .cons (a.later h1 hs b) (RepOs.later h1 hs b r)
structure RE (X : Cx) (e : Expr) (f : M Vl) : Prop where
  run : ∀ Wi, Takes X Wi → PE X e (TE_ X.K X.mg Wi f)
structure RO (X : Cx) (e : Expr) (f : M Od) : Prop where
  run : ∀ Wi, Takes X Wi → PE X e (TO_ X.K X.mg Wi f)
structure RT (X : Cx) (e : Expr) (f : M Bool) : Prop where
  run : ∀ Wi, Takes X Wi → PT X e (TT_ X.K X.mg Wi f)
structure RA (X : Cx) (es : List Expr) (f : M (List Od)) : Prop where
  run : ∀ Wi, Takes X Wi → PA X es (TA_ X.K X.mg Wi f)
theorem pe_imp {X : Cx} {e : Expr} {t t' : TE} (h : PE X e t) (k : ∀ σ H Q, t' σ H Q → t σ H Q) : PE X e t' := ⟨fun pins s σ H Q I q => h.run pins s σ H Q I (k σ H Q q)⟩
theorem pt_imp {X : Cx} {e : Expr} {t t' : TT} (h : PT X e t) (k : ∀ σ H Q, t' σ H Q → t σ H Q) : PT X e t' := ⟨fun pins s σ H Q I q => h.run pins s σ H Q I (k σ H Q q)⟩
theorem pa_imp {X : Cx} {es : List Expr} {t t' : TA} (h : PA X es t) (k : ∀ σ H Q, t' σ H Q → t σ H Q) : PA X es t' := ⟨fun pos pins s σ H Q I q => h.run pos pins s σ H Q I (k σ H Q q)⟩

/-! ### operands -/
def frz (f : M Vl) : M Od := fun ρ => bnd (f ρ) fun a ρ' => .ok (.v a.d) ρ'
section
variable {K : PySem.W.Frag} {mg : MgT}
/-- a value is given up: nobody changes it from now on -/
theorem freeze {S S1 : Sx} (h : S.rel K mg) (g : Go K mg S S1) {a : Vl} {v : V} (r : RepV K mg S S1 a v) : ∃ S2 : Sx, S2.ρ = S1.ρ ∧ S2.σ = S1.σ ∧ S2.H = S1.H ∧ Go K mg S S2 ∧ Rep K mg S2.H S2.B a.d v := by
  cases a with
  | fz d => exact ⟨S1, rfl, rfl, rfl, g, r⟩
  | fr xs =>
    obtain ⟨a, vs, e, z, hb, hw, hh, hr⟩ := r
    subst e
    have fe : FE S1.B S1.H (fun x => S1.B x ∧ x ≠ a) S1.H := FE.sub fun x q => q.1
    refine ⟨⟨fun x => S1.B x ∧ x ≠ a, S1.ρ, S1.σ, S1.H⟩, rfl, rfl, rfl, ⟨⟨g.rel.len, fun i q e => ?_, g.rel.dist, fun x q => g.rel.alloc x q.1, fun x q => ⟨(g.rel.tab x q).1, fun z => (g.rel.tab x q).2 z.1⟩⟩, ⟨g.tr.keep, g.tr.there, fun x q => g.tr.bnew x q.1, g.tr.wnew, fun x q1 q2 => ⟨g.tr.bkeep x q1 q2, fun e => ?_⟩, g.tr.tabs⟩, g.io, g.len⟩, ?_⟩
    · have y := g.rel.sl i q e
      have own : ∀ b, S1.σ[i]?.getD none = some (.ref b) → q.mine = true → b ≠ a := fun b eb em z2 => by
        refine hw ⟨i, ⟨q, e, em⟩, ?_⟩
        rw [← z2]
        cases w : S1.σ[i]? with
        | none => rw [w] at eb; cases eb
        | some o => rw [w] at eb; exact congrArg some eb
      cases q with
      | un => trivial
      | va d => obtain ⟨w, e1, e2⟩ := y; exact ⟨w, e1, Rep.mono fe e2⟩
      | ow ys => obtain ⟨b, ws, e1, e2, e3, e4⟩ := y; exact ⟨b, ws, e1, ⟨e2, own b e1 rfl⟩, e3, RepL.mono fe e4⟩
      | io ys => obtain ⟨b, ws, e1, e2, e3, e4⟩ := y; exact ⟨b, ws, e1, ⟨e2, own b e1 rfl⟩, e3, RepL.mono fe e4⟩
    · subst e
      rcases z with z | z
      · exact q2 z
      · exact h.alloc _ q1 z
    · exact .lst (fun q => q.2 rfl) hh (RepL.mono fe hr)
end
section
variable {X : Cx}
theorem ro_of {e : Expr} {f : M Vl} (h : RE X e f) : RO X e (frz f) := by
  refine ⟨fun Wi tk => pe_imp (h.run Wi tk) fun σ H Q q => ?_⟩
  obtain ⟨S, hS, e1, e2, q⟩ := q
  refine ⟨S, hS, e1, e2, q.bnd fun a S1 es g er q1 v rv => ?_⟩
  obtain ⟨S2, f1, f2, f3, g2, r2⟩ := freeze hS g rv
  have z := q1 S2 f1 (f2.trans es) g2 v r2
  rw [f3] at z
  exact z
/-- a name as an operand: it stays where it is -/
def nmO (i : Nat) : M Od := fun ρ => match ρ[i]? with
  | some (.va _) => .ok (.s i) ρ
  | some (.ow _) => .ok (.s i) ρ
  | some (.io _) => .ok (.s i) ρ
  | _ => .bad
theorem ro_name {x : Str} {pos : Pos} (i : Nat) (hN : X.N[i]? = some x := by rfl) (hv : Vis X.env.scope x := by first | exact Or.inl rfl | exact Or.inr (Or.inl rfl) | exact Or.inr (Or.inr rfl)) (hd : (x == ("__debug__" : Str)) = false := by decide)
    (hcd : (x == ("__classdict__" : Str)) = false := by decide) : RO X (.Name x pos) (nmO i) := by
  refine ⟨fun Wi tk => pe_imp (pe_var hN hv hd hcd) fun σ H Q q => ?_⟩
  obtain ⟨S, hS, e1, e2, q⟩ := q
  subst e1; subst e2
  unfold nmO at q
  have fin : ∀ v, S.σ[i]? = some (some v) → Sat X.K X.mg Wi S (fun a S' => ∀ v, RepO X.K X.mg S' a v → Q v S'.H) (.ok (.s i) S.ρ) → tVar i S.σ S.H Q := fun v e z => ⟨v, e, z S rfl rfl (Go.refl hS) v e⟩
  have up : ∀ v, S.σ[i]?.getD none = some v → S.σ[i]? = some (some v) := fun v e => by
    cases w : S.σ[i]? with
    | none => rw [w] at e; cases e
    | some o => rw [w] at e; exact congrArg some e
  cases e : S.ρ[i]? with
  | none => rw [e] at q; exact q.elim
  | some s =>
    rw [e] at q
    have y := hS.sl i s e
    cases s with
    | un => exact q.elim
    | va d => obtain ⟨w, e1, e2⟩ := y; exact fin w (up w e1) q
    | ow xs => obtain ⟨a, vs, e1, _⟩ := y; exact fin _ (up _ e1) q
    | io xs => obtain ⟨a, vs, e1, _⟩ := y; exact fin _ (up _ e1) q
end
end KL
end

section
set_option Elab.async false
set_option linter.all false
set_option maxRecDepth 100000
namespace KL
open PySem L2
variable [Tabs]

/-! ### operators by values -/
def ofO (o : Option Vl) : M Vl := fun ρ => match o with
  | some a => .ok a ρ
  | none => .bad
def getAll (ρ : Env) : List Od → Option (List D)
  | [] => some []
  | o :: os => match o.get ρ with
    | some d => match getAll ρ os with
      | some ds => some (d :: ds)
      | none => none
    | none => none
def app1 (p : D → Option Vl) (a : Od) : M Vl := fun ρ => match a.get ρ with
  | some x => ofO (p x) ρ
  | none => .bad
def app2 (p : D → D → Option Vl) (a b : Od) : M Vl := fun ρ => match a.get ρ with
  | some x => match b.get ρ with
    | some y => ofO (p x y) ρ
    | none => .bad
  | none => .bad
def appN (p : List D → Option Vl) (os : List Od) : M Vl := fun ρ => match getAll ρ os with
  | some ds => ofO (p ds) ρ
  | none => .bad
def un1 (p : D → Option Vl) (f : M Od) : M Vl := fun ρ => bnd (f ρ) fun a ρ1 => app1 p a ρ1
def bin (p : D → D → Option Vl) (f g : M Od) : M Vl := fun ρ => bnd (f ρ) fun a ρ1 => bnd (g ρ1) fun b ρ2 => app2 p a b ρ2

section
variable (K : PySem.W.Frag) (mg : MgT)
/-- what is promised of a result -/
def Fin (S : Sx) (a : Vl) (Q : VK) : Prop := ∀ v S', S'.ρ = S.ρ → S'.σ = S.σ → Go K mg S S' → RepV K mg S S' a v → Q v S'.H
def P1 (r : V → Hp → VK → Prop) (p : D → Option Vl) : Prop := ∀ (S : Sx) (d : D) (x : V) (a : Vl) (Q : VK), S.rel K mg → p d = some a → Opn K mg S d x → Fin K mg S a Q → r x S.H Q
def P2 (r : R2) (p : D → D → Option Vl) : Prop := ∀ (S : Sx) (d e : D) (x y : V) (a : Vl) (Q : VK), S.rel K mg → p d e = some a → Opn K mg S d x → Opn K mg S e y → Fin K mg S a Q → r x y S.H Q
inductive OpnL (S : Sx) : List D → List V → Prop
  | nil : OpnL S [] []
  | cons {d : D} {ds : List D} {v : V} {vs : List V} : Opn K mg S d v → OpnL S ds vs → OpnL S (d :: ds) (v :: vs)
def PN (r : List V → Hp → VK → Prop) (p : List D → Option Vl) : Prop := ∀ (S : Sx) (ds : List D) (vs : List V) (a : Vl) (Q : VK), S.rel K mg → p ds = some a → OpnL K mg S ds vs → Fin K mg S a Q → r vs S.H Q
end
section
variable {K : PySem.W.Frag} {mg : MgT} {S : Sx}
theorem opnL_of (h : S.rel K mg) : ∀ {os : List Od} {ds : List D} {vs : List V}, RepOs K mg S os vs → getAll S.ρ os = some ds → OpnL K mg S ds vs
  | _, _, _, .nil, e => by cases e; exact .nil
  | o :: os, ds, _, .cons a r, e => by
    unfold getAll at e
    cases h1 : o.get S.ρ with
    | none => rw [h1] at e; cases e
    | some d =>
      rw [h1] at e
      cases h2 : getAll S.ρ os with
      | none => rw [h2] at e; cases e
      | some es =>
        rw [h2] at e
        cases e
        exact .cons (opn_of h a h1) (opnL_of h r h2)
theorem fin_of {a : Vl} {Q : VK} {Wi : WX} (q : Sat K mg Wi S (fun a S' => ∀ v, RepV K mg S S' a v → Q v S'.H) (.ok a S.ρ)) : Fin K mg S a Q := fun v S' e1 e2 g r => q S' e1 e2 g v r
/-- nothing is made -/
theorem Fin.same {a : Vl} {Q : VK} (h : S.rel K mg) (f : Fin K mg S a Q) {v : V} (r : RepV K mg S S a v) : Q v S.H := f v S rfl rfl (Go.refl h) r
theorem Fin.d {d : D} {Q : VK} (h : S.rel K mg) (f : Fin K mg S (.fz d) Q) {v : V} (r : Rep K mg S.H S.B d v) : Q v S.H := f v S rfl rfl (Go.refl h) r
theorem go_ext {B' : Ad} {H' : Hp} (h : S.rel K mg) (he : ∀ a o, S.H a = some o → NT o → H' a = some o) (ht : ∀ a, GxR.TabG S.H a → ¬ S.B a → GxR.TabG H' a) (h1 : ∀ a, S.B a → B' a) (h2 : ∀ a, B' a → S.B a ∨ S.H a = none) (h3 : ∀ a, B' a → H' a ≠ none) (h4 : ∀ a, S.H a ≠ none → H' a ≠ none) : Go K mg S ⟨B', S.ρ, S.σ, H'⟩ := by
  have fe : FE S.B S.H B' H' := ⟨fun a o q _ n => he a o q n, h2, fun a q _ => h4 a q⟩
  refine ⟨⟨h.len, fun i q e => ?_, h.dist, h3, fun a z => ⟨ht a (h.tab a z).1 (h.tab a z).2, fun y => (h2 a y).elim (h.tab a z).2 (tab_there (h.tab a z).1)⟩⟩, ⟨fun a o q _ n => he a o q n, h4, h2, fun a z => .inl z, fun a z _ => h1 a z, ht⟩, fun i q e1 e2 => ⟨rfl, q, e1, e2⟩, rfl⟩
  have y := h.sl i q e
  cases q with
  | un => trivial
  | va d => obtain ⟨w, e1, e2⟩ := y; exact ⟨w, e1, Rep.mono fe e2⟩
  | ow ys => obtain ⟨b, ws, e1, e2, e3, e4⟩ := y; exact ⟨b, ws, e1, h1 b e2, he _ _ e3 trivial, RepL.mono fe e4⟩
  | io ys => obtain ⟨b, ws, e1, e2, e3, e4⟩ := y; exact ⟨b, ws, e1, h1 b e2, he _ _ e3 trivial, RepL.mono fe e4⟩
/-- all that was there is kept -/
theorem go_extA {B' : Ad} {H' : Hp} (h : S.rel K mg) (he : ∀ a o, S.H a = some o → H' a = some o) (h1 : ∀ a, S.B a → B' a) (h2 : ∀ a, B' a → S.B a ∨ S.H a = none) (h3 : ∀ a, B' a → H' a ≠ none) : Go K mg S ⟨B', S.ρ, S.σ, H'⟩ :=
  go_ext h (fun a o q _ => he a o q) (fun a ⟨ps, e, q⟩ _ => ⟨ps, he _ _ e, q⟩) h1 h2 h3 fun a z => by
    cases q : S.H a with
    | none => exact absurd q z
    | some o => rw [he a o q]; simp
theorem ext_upd {H : Hp} {p : Addr} {o : HO} (hp : H p = none) : ∀ a u, H a = some u → upd H p o a = some u := fun a u e => by
  rw [upd_ne (ne_of_none e hp)]; exact e
theorem fe_new {B : Ad} {H : Hp} {p : Addr} {o : HO} (hp : H p = none) : FE B H B (upd H p o) := ⟨fun b u q _ _ => ext_upd hp b u q, fun b q => .inl q, fun b q _ => by
  cases z : H b with
  | none => exact absurd z q
  | some u => rw [ext_upd hp b u z]; simp⟩
/-- a new list -/
theorem Fin.newL {xs : List D} {vs : List V} {Q : VK} (h : S.rel K mg) (f : Fin K mg S (.fr xs) Q) (r : RepL K mg S.H S.B xs vs) : ∀ p, S.H p = none → Q (.ref p) (upd S.H p (.lst vs)) := fun p hp => by
  have nb : ¬ S.B p := fun z => h.alloc p z hp
  have g : Go K mg S ⟨fun a => S.B a ∨ a = p, S.ρ, S.σ, upd S.H p (.lst vs)⟩ := go_extA h (ext_upd hp) (fun a z => .inl z) (fun a z => z.imp id fun e => by rw [e]; exact hp) (fun a z => by
    by_cases e : a = p
    · rw [e, upd_same]; simp
    · rw [upd_ne e]; exact h.alloc a (z.resolve_right e))
  refine f (.ref p) ⟨fun a => S.B a ∨ a = p, S.ρ, S.σ, upd S.H p (.lst vs)⟩ rfl rfl g ⟨p, vs, rfl, .inr hp, .inr rfl, fun z => nb (h.wb z), upd_same, RepL.mono (g.fe h) r⟩
/-- a new tuple -/
theorem Fin.newT {xs : List D} {vs : List V} {Q : VK} (h : S.rel K mg) (f : Fin K mg S (.fz (.tup xs)) Q) (r : RepL K mg S.H S.B xs vs) : NewT S.H vs Q := fun p o hp ho => by
  have nb : ¬ S.B p := fun z => h.alloc p z hp
  have g : Go K mg S ⟨S.B, S.ρ, S.σ, upd S.H p (.frz o (.tup vs))⟩ := go_extA h (ext_upd hp) (fun a z => z) (fun a z => .inl z) (fun a z => by
    rw [upd_ne (fun e => nb (by rw [← e]; exact z))]; exact h.alloc a z)
  exact f (.ref p) ⟨S.B, S.ρ, S.σ, upd S.H p (.frz o (.tup vs))⟩ rfl rfl g (.tup nb upd_same ho (RepL.mono (g.fe h) r))
/-- a tuple as an operand -/
theorem Opn.tup {xs : List D} {v : V} (o : Opn K mg S (.tup xs) v) : ∃ a vs, v = .ref a ∧ SqT K S.H a vs ∧ RepL K mg S.H S.B xs vs := by
  cases o with
  | tup hb h t r => exact ⟨_, _, rfl, .inl (.inr ⟨_, h⟩), r⟩
  | tupK _ _ h r => exact ⟨_, _, rfl, h _, r⟩
/-- .. whose object has no dict -/
def TyT (K : PySem.W.Frag) (H : Hp) (a : Addr) : Prop := (∃ o u, H a = some (.frz o u) ∧ TupOb o) ∨ ∃ o, K.lookup a = some o ∧ TupOb o
theorem Opn.tupT {xs : List D} {v : V} (o : Opn K mg S (.tup xs) v) : ∃ a vs, v = .ref a ∧ SqT K S.H a vs ∧ RepL K mg S.H S.B xs vs ∧ TyT K S.H a := by
  cases o with
  | tup hb h t r => exact ⟨_, _, rfl, .inl (.inr ⟨_, h⟩), r, .inl ⟨_, _, h, t⟩⟩
  | tupK k t h r => exact ⟨_, _, rfl, h _, r, .inr ⟨_, k, t⟩⟩
theorem Opn.pr {xs : List D} {v : V} (o : Opn K mg S (.pr xs) v) : ∃ a vs, v = .ref a ∧ SqT K S.H a vs ∧ RepL K mg S.H S.B xs vs := by
  cases o with
  | pr hb h r => exact ⟨_, _, rfl, .inl (.inl h), r⟩
theorem Opn.int {i : Int} {v : V} (o : Opn K mg S (.int i) v) : v = .int i := by cases o; rfl
theorem Opn.bl {i : Bool} {v : V} (o : Opn K mg S (.bl i) v) : v = .bl i := by cases o; rfl
theorem Opn.str {i : Str} {v : V} (o : Opn K mg S (.str i) v) : v = .str i := by cases o; rfl
theorem Opn.non {v : V} (o : Opn K mg S .non v) : v = .non := by cases o; rfl
end

section
variable {X : Cx} {pos : Pos}
theorem app_ok {α : Type} {S : Sx} {K : PySem.W.Frag} {mg : MgT} {Wi : WX} {Ψ : α → Sx → Prop} {r : R α} (h : Sat K mg Wi S Ψ r) : r ≠ .bad := fun e => by rw [e] at h; exact h
theorem sat2 {S1 : Sx} {K : PySem.W.Frag} {mg : MgT} {Wi : WX} {Q : VK} {p : D → D → Option Vl} {a b : Od} {x y : V} {r : R2} (hp : P2 K mg r p) (h1 : S1.rel K mg) (rx : RepO K mg S1 a x) (ry : RepO K mg S1 b y)
    (h : Sat K mg Wi S1 (fun a S' => ∀ v, RepV K mg S1 S' a v → Q v S'.H) (app2 p a b S1.ρ)) : r x y S1.H Q := by
  unfold app2 ofO at h
  cases e1 : a.get S1.ρ with
  | none => simp only [e1] at h; exact h.elim
  | some d =>
    cases e2 : b.get S1.ρ with
    | none => simp only [e1, e2] at h; exact h.elim
    | some e =>
      cases e3 : p d e with
      | none => simp only [e1, e2, e3] at h; exact h.elim
      | some z =>
        simp only [e1, e2, e3] at h
        exact hp S1 d e x y z Q h1 e3 (opn_of h1 rx e1) (opn_of h1 ry e2) (fin_of h)
theorem sat1 {S1 : Sx} {K : PySem.W.Frag} {mg : MgT} {Wi : WX} {Q : VK} {p : D → Option Vl} {a : Od} {x : V} {r : V → Hp → VK → Prop} (hp : P1 K mg r p) (h1 : S1.rel K mg) (rx : RepO K mg S1 a x)
    (h : Sat K mg Wi S1 (fun a S' => ∀ v, RepV K mg S1 S' a v → Q v S'.H) (app1 p a S1.ρ)) : r x S1.H Q := by
  unfold app1 ofO at h
  cases e1 : a.get S1.ρ with
  | none => simp only [e1] at h; exact h.elim
  | some d =>
    cases e3 : p d with
    | none => simp only [e1, e3] at h; exact h.elim
    | some z =>
      simp only [e1, e3] at h
      exact hp S1 d x z Q h1 e3 (opn_of h1 rx e1) (fin_of h)
theorem satN {S1 : Sx} {K : PySem.W.Frag} {mg : MgT} {Wi : WX} {Q : VK} {p : List D → Option Vl} {os : List Od} {vs : List V} {r : List V → Hp → VK → Prop} (hp : PN K mg r p) (h1 : S1.rel K mg) (rx : RepOs K mg S1 os vs)
    (h : Sat K mg Wi S1 (fun a S' => ∀ v, RepV K mg S1 S' a v → Q v S'.H) (appN p os S1.ρ)) : r vs S1.H Q := by
  unfold appN ofO at h
  cases e1 : getAll S1.ρ os with
  | none => simp only [e1] at h; exact h.elim
  | some d =>
    cases e3 : p d with
    | none => simp only [e1, e3] at h; exact h.elim
    | some z =>
      simp only [e1, e3] at h
      exact hp S1 d vs z Q h1 e3 (opnL_of h1 rx e1) (fin_of h)
/-- the value's place counted from an earlier state -/
theorem Sat.vfrom {S S1 : Sx} {K : PySem.W.Frag} {mg : MgT} {Wi : WX} {Q : VK} {r : R Vl} (h : S.rel K mg) (g : Go K mg S S1) (es : S1.σ = S.σ) (q : Sat K mg Wi S (fun a S' => ∀ v, RepV K mg S S' a v → Q v S'.H) r) :
    Sat K mg Wi S1 (fun a S' => ∀ v, RepV K mg S1 S' a v → Q v S'.H) r := (q.from h es g).imp fun a S' _ _ _ z v rv => z v (rv.from g)
theorem tbin {K : PySem.W.Frag} {mg : MgT} {Wi : WX} {f g : M Od} {p : D → D → Option Vl} {r : R2} (hp : P2 K mg r p) : ∀ σ H Q, TE_ K mg Wi (bin p f g) σ H Q → tOp r (TO_ K mg Wi f) (TO_ K mg Wi g) σ H Q := fun σ H Q q => by
  obtain ⟨S, hS, rfl, rfl, q⟩ := q
  refine ⟨S, hS, rfl, rfl, q.bnd fun a S1 es1 g1 _ q1 x rx => ?_⟩
  have hS1 := g1.rel
  refine ⟨S1, hS1, es1, rfl, (q1.vfrom hS g1 es1).bnd fun b S2 es2 g2 _ q2 y ry => ?_⟩
  exact sat2 hp g2.rel (rx.later hS1 es2 g2) ry (q2.vfrom hS1 g2 es2)
theorem re_op {a b : Expr} {op : Operator} {f g : M Od} {p : D → D → Option Vl} {r : R2} (ho : OpR X (binaryOp op) r) (hp : P2 X.K X.mg r p) (ha : RO X a f) (hb : RO X b g) : RE X (.BinOp a op b pos) (bin p f g) :=
  ⟨fun Wi tk => pe_imp (pe_op ho (ha.run Wi tk) (hb.run Wi tk)) (tbin hp)⟩
theorem re_cmp {a b : Expr} {op : CmpOp} {f g : M Od} {p : D → D → Option Vl} {r : R2} (ho : OpR X (compareOp op) r) (hp : P2 X.K X.mg r p) (ha : RO X a f) (hb : RO X b g) (hm : behindInMarks op b = false) : RE X (.Compare a [op] [b] pos) (bin p f g) :=
  ⟨fun Wi tk => pe_imp (pe_cmpR ho (ha.run Wi tk) (hb.run Wi tk) hm) (tbin hp)⟩
theorem re_un {a : Expr} {op : UnaryOp} {f : M Od} {p : D → Option Vl} {r : V → Hp → VK → Prop} (ho : UnR X (unaryOp op) r) (hp : P1 X.K X.mg r p) (ha : RO X a f) : RE X (.UnaryOp op a pos) (un1 p f) := by
  refine ⟨fun Wi tk => pe_imp (pe_un ho (ha.run Wi tk)) fun σ H Q q => ?_⟩
  obtain ⟨S, hS, rfl, rfl, q⟩ := q
  refine ⟨S, hS, rfl, rfl, q.bnd fun a S1 es1 g1 _ q1 x rx => ?_⟩
  exact sat1 hp g1.rel rx (q1.vfrom hS g1 es1)
end
end KL
end

section
set_option Elab.async false
set_option linter.all false
set_option maxRecDepth 100000
namespace KL
open PySem L2
variable [Tabs]

/-! ### equality of data -/
mutual
def D.eqD : D → D → Bool
  | .non, .non => true
  | .bl a, .bl b => a == b
  | .bl a, .int j => (if a then 1 else 0) == j
  | .int i, .bl b => i == (if b then 1 else 0)
  | .int i, .int j => i == j
  | .str x, .str y => x == y
  | .lst xs, .lst ys => D.eqL xs ys
  | .tup xs, .tup ys => D.eqL xs ys
  | _, _ => false
def D.eqL : List D → List D → Bool
  | [], [] => true
  | x :: xs, y :: ys => D.eqD x y && D.eqL xs ys
  | _, _ => false
end
mutual
def D.pln : D → Bool
  | .lst xs => D.plnL xs
  | .tup xs => D.plnL xs
  | .scr _ => false
  | .pr _ => false
  | .err _ _ => false
  | _ => true
def D.plnL : List D → Bool
  | [] => true
  | x :: xs => D.pln x && D.plnL xs
end
mutual
def D.dep : D → Nat
  | .lst xs => D.depL xs + 1
  | .tup xs => D.depL xs + 1
  | _ => 0
def D.depL : List D → Nat
  | [] => 0
  | x :: xs => max (D.dep x) (D.depL xs)
end
mutual
def D.py : D → PyData
  | .non => .none
  | .bl b => .bool b
  | .int i => .int i
  | .str s => .str s
  | .lst xs => .list (D.pyL xs)
  | .tup xs => .tuple (D.pyL xs)
  | .scr _ => .none
  | .pr _ => .none
  | .err _ _ => .none
def D.pyL : List D → List PyData
  | [] => []
  | x :: xs => D.py x :: D.pyL xs
end
mutual
theorem py_plain : ∀ d : D, d.py.plain = true
  | .non => rfl
  | .bl _ => rfl
  | .int _ => rfl
  | .str _ => rfl
  | .lst xs => by simp only [D.py, PyData.plain]; exact pyL_plain xs
  | .tup xs => by simp only [D.py, PyData.plain]; exact pyL_plain xs
  | .scr _ => rfl
  | .pr _ => rfl
  | .err _ _ => rfl
theorem pyL_plain : ∀ xs : List D, PyData.plainAll (D.pyL xs) = true
  | [] => rfl
  | x :: xs => by simp only [D.pyL, PyData.plainAll, py_plain x, pyL_plain xs, Bool.and_self]
end
mutual
theorem py_dep : ∀ d : D, d.py.depth = d.dep
  | .non => rfl
  | .bl _ => rfl
  | .int _ => rfl
  | .str _ => rfl
  | .lst xs => by simp only [D.py, PyData.depth, D.dep, pyL_dep xs]
  | .tup xs => by simp only [D.py, PyData.depth, D.dep, pyL_dep xs]
  | .scr _ => rfl
  | .pr _ => rfl
  | .err _ _ => rfl
theorem pyL_dep : ∀ xs : List D, PyData.depthAll (D.pyL xs) = D.depL xs
  | [] => rfl
  | x :: xs => by simp only [D.pyL, PyData.depthAll, D.depL, py_dep x, pyL_dep xs]
end
mutual
theorem py_eq : ∀ d e : D, d.pln = true → e.pln = true → PyData.eqv d.py e.py = d.eqD e
  | .non, e, _, h => by cases e <;> first | rfl | (simp [D.pln] at h)
  | .bl a, e, _, h => by cases e <;> first | rfl | (simp [D.pln] at h)
  | .int i, e, _, h => by cases e <;> first | rfl | (simp [D.pln] at h)
  | .str s, e, _, h => by cases e <;> first | rfl | (simp [D.pln] at h)
  | .lst xs, e, h1, h => by
    cases e with
    | lst ys => simp only [D.py, PyData.eqv, D.eqD]; exact pyL_eq xs ys (by simpa [D.pln] using h1) (by simpa [D.pln] using h)
    | scr _ => simp [D.pln] at h
    | pr _ => simp [D.pln] at h
    | err _ _ => simp [D.pln] at h
    | _ => simp [D.py, PyData.eqv, D.eqD]
  | .tup xs, e, h1, h => by
    cases e with
    | tup ys => simp only [D.py, PyData.eqv, D.eqD]; exact pyL_eq xs ys (by simpa [D.pln] using h1) (by simpa [D.pln] using h)
    | scr _ => simp [D.pln] at h
    | pr _ => simp [D.pln] at h
    | err _ _ => simp [D.pln] at h
    | _ => simp [D.py, PyData.eqv, D.eqD]
  | .scr _, _, h1, _ => by simp [D.pln] at h1
  | .pr _, _, h1, _ => by simp [D.pln] at h1
  | .err _ _, _, h1, _ => by simp [D.pln] at h1
theorem pyL_eq : ∀ xs ys : List D, D.plnL xs = true → D.plnL ys = true → PyData.eqvAll (D.pyL xs) (D.pyL ys) = D.eqL xs ys
  | [], [], _, _ => rfl
  | [], _ :: _, _, _ => rfl
  | _ :: _, [], _, _ => rfl
  | x :: xs, y :: ys, h1, h2 => by
    simp only [D.plnL, Bool.and_eq_true] at h1 h2
    simp only [D.pyL, PyData.eqvAll, D.eqL, py_eq x y h1.1 h2.1, pyL_eq xs ys h1.2 h2.2]
end
theorem pyL_any (d : D) (hd : d.pln = true) : ∀ xs : List D, D.plnL xs = true → ((D.pyL xs).any fun y => PyData.eqv y d.py) = xs.any fun y => y.eqD d
  | [], _ => rfl
  | x :: xs, h => by
    simp only [D.plnL, Bool.and_eq_true] at h
    simp only [D.pyL, List.any_cons, py_eq x d h.1 hd, pyL_any d hd xs h.2]
section
variable {K : PySem.W.Frag} {mg : MgT} {S : Sx} {H : Hp} {B : Ad}
mutual
theorem rep_dp : ∀ {d : D} {v : V}, Rep K mg H B d v → d.pln = true → Dp K H v d.py
  | _, _, .non, _ => .non
  | _, _, .bl b, _ => .bl b
  | _, _, .int b, _ => .int b
  | _, _, .str b, _ => .str b
  | _, _, .lst _ h r, p => .lst (.inl (.inl h)) (repL_dp r (by simpa [D.pln] using p))
  | _, _, .tup _ h _ r, p => .tup (.inl (.inr ⟨_, h⟩)) (repL_dp r (by simpa [D.pln] using p))
  | _, _, .tupK _ _ h r, p => .tup (h _) (repL_dp r (by simpa [D.pln] using p))
  | _, _, .scr _ _, p => by simp [D.pln] at p
  | _, _, .scrK _, p => by simp [D.pln] at p
  | _, _, .err0 _ _ _, p => by simp [D.pln] at p
  | _, _, .err _ _ _ _ _ _, p => by simp [D.pln] at p
theorem repL_dp : ∀ {d : List D} {v : List V}, RepL K mg H B d v → D.plnL d = true → DpAll K H v (D.pyL d)
  | _, _, .nil, _ => .nil
  | _, _, .cons a b, p => by
    simp only [D.plnL, Bool.and_eq_true] at p
    exact .cons (rep_dp a p.1) (repL_dp b p.2)
end
theorem opn_dp {d : D} {v : V} (o : Opn K mg S d v) (p : d.pln = true) : Dp K S.H v d.py := by
  cases d with
  | lst xs =>
    obtain ⟨a, vs, rfl, h, r⟩ := o
    exact .lst (.inl (.inl h)) (repL_dp r (by simpa [D.pln] using p))
  | _ => exact rep_dp o p
end
def rEqP (K : PySem.W.Frag) (neg : Bool) : R2 := fun x y H Q => ∃ d e, Dp K H x d ∧ Dp K H y e ∧ d.plain = true ∧ e.plain = true ∧ min d.depth e.depth ≤ 64 ∧ Q (.bl (if neg then !PyData.eqv d e else PyData.eqv d e)) H
section
variable {X : Cx} {k : Nat}
theorem op_eqP (hr : Room k X.A) : OpR X (compareOp .Eq) (rEqP X.K false) := by
  intro pins s σ H x y v u Q I rx ry h
  obtain ⟨d, e, hd, he, sd, se, hm, q⟩ := h
  obtain ⟨as, r1⟩ := Dp.reads I d x v hd rx
  obtain ⟨bs, r2⟩ := Dp.reads I e y u he ry
  exact SeqAt.eq_plain r1 r2 sd se (by have := hr.units; omega) ⟨.bl _, H, I, rfl, q⟩
theorem op_neP (hr : Room k X.A) : OpR X (compareOp .NotEq) (rEqP X.K true) := by
  intro pins s σ H x y v u Q I rx ry h
  obtain ⟨d, e, hd, he, sd, se, hm, q⟩ := h
  obtain ⟨as, r1⟩ := Dp.reads I d x v hd rx
  obtain ⟨bs, r2⟩ := Dp.reads I e y u he ry
  exact SeqAt.ne_plain r1 r2 sd se (by have := hr.units; omega) ⟨.bl _, H, I, rfl, q⟩
def rInP (K : PySem.W.Frag) (neg : Bool) : R2 := fun x y H Q => ∃ d es c, Dp K H x d ∧ Dp K H y c ∧ (c = .list es ∨ c = .tuple es) ∧ d.plain = true ∧ PyData.plainAll es = true ∧ min (PyData.depthAll es) d.depth ≤ 62 ∧
  Q (.bl (if neg then !(es.any fun z => PyData.eqv z d) else es.any fun z => PyData.eqv z d)) H
theorem op_inP (hr : Room k X.A) : OpR X (compareOp .In) (rInP X.K false) := by
  intro pins s σ H x y v u Q I rx ry h
  obtain ⟨d, es, c, hd, he, hc, sd, se, hm, q⟩ := h
  obtain ⟨as, r1⟩ := Dp.reads I d x v hd rx
  obtain ⟨bs, r2⟩ := Dp.reads I c y u he ry
  have hu := hr.units
  rcases hc with rfl | rfl
  · exact SeqAt.in_list_data r2 r1 se sd (by omega) ⟨.bl _, H, I, rfl, q⟩
  · exact SeqAt.in_tuple_data r2 r1 se sd (by omega) ⟨.bl _, H, I, rfl, q⟩
theorem op_notInP (hr : Room k X.A) : OpR X (compareOp .NotIn) (rInP X.K true) := by
  intro pins s σ H x y v u Q I rx ry h
  obtain ⟨d, es, c, hd, he, hc, sd, se, hm, q⟩ := h
  obtain ⟨as, r1⟩ := Dp.reads I d x v hd rx
  obtain ⟨bs, r2⟩ := Dp.reads I c y u he ry
  have hu := hr.units
  rcases hc with rfl | rfl
  · exact SeqAt.notIn_list_data r2 r1 se sd (by omega) ⟨.bl _, H, I, rfl, q⟩
  · exact SeqAt.notIn_tuple_data r2 r1 se sd (by omega) ⟨.bl _, H, I, rfl, q⟩
end
def blV (b : Bool) : Option Vl := some (.fz (.bl b))
def inV (b : Int) : Option Vl := some (.fz (.int b))
def eqP (d e : D) : Option Vl := if (d.pln && e.pln && decide (min d.dep e.dep ≤ 60)) = true then blV (d.eqD e) else none
def neP (d e : D) : Option Vl := if (d.pln && e.pln && decide (min d.dep e.dep ≤ 60)) = true then blV (!d.eqD e) else none
def items? : D → Option (List D)
  | .lst xs => some xs
  | .tup xs => some xs
  | _ => none
def inP (d e : D) : Option Vl := match items? e with
  | some xs => if (d.pln && D.plnL xs && decide (min (D.depL xs) d.dep ≤ 60)) = true then blV (xs.any fun y => y.eqD d) else none
  | none => none
def notInP (d e : D) : Option Vl := match items? e with
  | some xs => if (d.pln && D.plnL xs && decide (min (D.depL xs) d.dep ≤ 60)) = true then blV (!(xs.any fun y => y.eqD d)) else none
  | none => none
section
variable {K : PySem.W.Frag} {mg : MgT}
theorem p_eq : P2 K mg (rEqP K false) eqP := fun S d e x y a Q hS h ox oy f => by
  unfold eqP at h
  split at h
  · rename_i c
    simp only [Bool.and_eq_true, decide_eq_true_eq] at c
    cases h
    refine ⟨d.py, e.py, opn_dp ox c.1.1, opn_dp oy c.1.2, py_plain d, py_plain e, by rw [py_dep, py_dep]; omega, ?_⟩
    rw [if_neg (by decide), py_eq d e c.1.1 c.1.2]
    exact f.d hS (.bl _)
  · cases h
theorem p_ne : P2 K mg (rEqP K true) neP := fun S d e x y a Q hS h ox oy f => by
  unfold neP at h
  split at h
  · rename_i c
    simp only [Bool.and_eq_true, decide_eq_true_eq] at c
    cases h
    refine ⟨d.py, e.py, opn_dp ox c.1.1, opn_dp oy c.1.2, py_plain d, py_plain e, by rw [py_dep, py_dep]; omega, ?_⟩
    rw [if_pos rfl, py_eq d e c.1.1 c.1.2]
    exact f.d hS (.bl _)
  · cases h
theorem items_py {e : D} {xs : List D} (h : items? e = some xs) : (e.py = .list (D.pyL xs) ∨ e.py = .tuple (D.pyL xs)) ∧ e.pln = D.plnL xs := by
  cases e <;> simp only [items?] at h <;> first | cases h | skip
  · exact ⟨.inl rfl, rfl⟩
  · exact ⟨.inr rfl, rfl⟩
theorem p_in : P2 K mg (rInP K false) inP := fun S d e x y a Q hS h ox oy f => by
  unfold inP at h
  split at h
  · rename_i xs hx
    obtain ⟨h1, h2⟩ := items_py hx
    split at h
    · rename_i c
      simp only [Bool.and_eq_true, decide_eq_true_eq] at c
      cases h
      refine ⟨d.py, D.pyL xs, e.py, opn_dp ox c.1.1, opn_dp oy (h2.trans c.1.2), h1, py_plain d, pyL_plain xs, by rw [py_dep, pyL_dep]; omega, ?_⟩
      rw [if_neg (by decide), pyL_any d c.1.1 xs c.1.2]
      exact f.d hS (.bl _)
    · cases h
  · cases h
theorem p_notIn : P2 K mg (rInP K true) notInP := fun S d e x y a Q hS h ox oy f => by
  unfold notInP at h
  split at h
  · rename_i xs hx
    obtain ⟨h1, h2⟩ := items_py hx
    split at h
    · rename_i c
      simp only [Bool.and_eq_true, decide_eq_true_eq] at c
      cases h
      refine ⟨d.py, D.pyL xs, e.py, opn_dp ox c.1.1, opn_dp oy (h2.trans c.1.2), h1, py_plain d, pyL_plain xs, by rw [py_dep, pyL_dep]; omega, ?_⟩
      rw [if_pos rfl, pyL_any d c.1.1 xs c.1.2]
      exact f.d hS (.bl _)
    · cases h
  · cases h
end

/-! ### ints -/
def arI (g : Int → Int → Int) : D → D → Option Vl
  | .int i, .int j => inV (g i j)
  | _, _ => none
def arC (C : Int → Int → Bool) (g : Int → Int → Int) : D → D → Option Vl
  | .int i, .int j => if C i j = true then inV (g i j) else none
  | _, _ => none
def cmI (g : Int → Int → Bool) : D → D → Option Vl
  | .int i, .int j => blV (g i j)
  | _, _ => none
def orP (p q : D → D → Option Vl) : D → D → Option Vl := fun d e => match p d e with
  | some a => some a
  | none => q d e
section
variable {K : PySem.W.Frag} {mg : MgT}
theorem p_arI {g : Int → Int → Int} : P2 K mg (rI0 fun i j => .int (g i j)) (arI g) := fun S d e x y a Q hS h ox oy f => by
  unfold arI at h
  split at h
  · cases h
    rw [ox.int, oy.int]
    exact ⟨_, _, rfl, rfl, f.d hS (.int _)⟩
  · cases h
theorem p_arC {C : Int → Int → Prop} {Cb : Int → Int → Bool} {g : Int → Int → Int} (hc : ∀ i j, Cb i j = true → C i j) : P2 K mg (rI C fun i j => .int (g i j)) (arC Cb g) := fun S d e x y a Q hS h ox oy f => by
  unfold arC at h
  split at h
  · split at h
    · rename_i c
      cases h
      rw [ox.int, oy.int]
      exact ⟨_, _, rfl, rfl, hc _ _ c, f.d hS (.int _)⟩
    · cases h
  · cases h
theorem p_cmI {g : Int → Int → Bool} : P2 K mg (rI0 fun i j => .bl (g i j)) (cmI g) := fun S d e x y a Q hS h ox oy f => by
  unfold cmI at h
  split at h
  · cases h
    rw [ox.int, oy.int]
    exact ⟨_, _, rfl, rfl, f.d hS (.bl _)⟩
  · cases h
theorem p_or {r r' : R2} {p q : D → D → Option Vl} (hp : P2 K mg r p) (hq : P2 K mg r' q) : P2 K mg (fun x y H Q => r x y H Q ∨ r' x y H Q) (orP p q) := fun S d e x y a Q hS h ox oy f => by
  unfold orP at h
  split at h
  · rename_i b e1
    cases h
    exact .inl (hp S d e x y _ Q hS e1 ox oy f)
  · exact .inr (hq S d e x y a Q hS h ox oy f)
/-- list + list, tuple + tuple -/
def catL : D → D → Option Vl
  | .lst xs, .lst ys => if xs.length + ys.length ≤ 1000000 then some (.fr (xs ++ ys)) else none
  | _, _ => none
def catT : D → D → Option Vl
  | .tup xs, .tup ys => if xs.length + ys.length ≤ 1000000 then some (.fz (.tup (xs ++ ys))) else none
  | _, _ => none
theorem big_ok {n : Nat} (h : n ≤ 1000000) : n ≤ sizeLine := Nat.le_trans h (by decide)
theorem p_catL : P2 K mg rCat catL := fun S d e x y a Q hS h ox oy f => by
  unfold catL at h
  split at h
  · split at h
    · rename_i c
      cases h
      obtain ⟨l, vs, rfl, h1, r1⟩ := ox
      obtain ⟨m, ws, rfl, h2, r2⟩ := oy
      exact ⟨l, m, vs, ws, rfl, rfl, h1, h2, by rw [← r1.length, ← r2.length]; exact big_ok c, f.newL hS (r1.append r2)⟩
    · cases h
  · cases h
theorem RepL.nil_of {H : Hp} {B : Ad} {xs : List D} (r : RepL K mg H B xs []) : xs = [] := by cases r; rfl
theorem p_catT : P2 K mg (rCatF K) catT := fun S d e x y a Q hS h ox oy f => by
  unfold catT at h
  split at h
  · split at h
    · rename_i xs ys c
      cases h
      have ox' : Rep K mg S.H S.B (.tup xs) x := ox
      have oy' : Rep K mg S.H S.B (.tup ys) y := oy
      obtain ⟨l, vs, rfl, h1, r1⟩ := ox.tup
      obtain ⟨m, ws, rfl, h2, r2⟩ := oy.tup
      refine ⟨l, m, vs, ws, rfl, rfl, h1, h2, by rw [← r1.length, ← r2.length]; exact big_ok c, fun e => ?_, fun _ e => ?_, fun _ _ => f.newT hS (r1.append r2)⟩
      · subst e
        rw [r1.nil_of, List.nil_append] at f
        exact f.d hS oy'
      · subst e
        rw [r2.nil_of, List.append_nil] at f
        exact f.d hS ox'
    · cases h
  · cases h
/-- list * int, tuple * int -/
def repL : D → D → Option Vl
  | .lst xs, .int k => if k < 1000000 ∧ -1000000 < k ∧ xs.length * k.toNat ≤ 1000000 then some (.fr (List.replicate k.toNat xs).flatten) else none
  | _, _ => none
def repT : D → D → Option Vl
  | .tup xs, .int k => if -1000000 < k ∧ k ≤ 1000 ∧ xs.length ≤ 1000 then some (.fz (.tup (List.replicate k.toNat xs).flatten)) else none
  | _, _ => none
theorem RepL.rep {H : Hp} {B : Ad} {xs : List D} {vs : List V} (r : RepL K mg H B xs vs) : ∀ n, RepL K mg H B (List.replicate n xs).flatten (List.replicate n vs).flatten
  | 0 => .nil
  | n + 1 => by simp only [List.replicate_succ, List.flatten_cons]; exact r.append (r.rep n)
theorem p_repL : P2 K mg rRep repL := fun S d e x y a Q hS h ox oy f => by
  unfold repL at h
  split at h
  · split at h
    · rename_i c
      cases h
      obtain ⟨l, vs, rfl, h1, r1⟩ := ox
      rw [oy.int]
      exact ⟨l, _, vs, rfl, rfl, h1, by omega, by omega, by rw [← r1.length]; exact big_ok c.2.2, f.newL hS (r1.rep _)⟩
    · cases h
  · cases h
theorem p_repT : P2 K mg (rRepF K) repT := fun S d e x y a Q hS h ox oy f => by
  unfold repT at h
  split at h
  · split at h
    · rename_i xs k c
      cases h
      have ox' : Rep K mg S.H S.B (.tup xs) x := ox
      obtain ⟨l, vs, rfl, h1, r1⟩ := ox.tup
      rw [oy.int]
      refine ⟨l, _, vs, rfl, rfl, h1, c.1, c.2.1, by rw [← r1.length]; exact c.2.2, fun e => ?_, fun _ => f.newT hS (r1.rep _)⟩
      have he : (List.replicate k.toNat xs).flatten = xs := by
        rcases e with e | e
        · subst e
          rw [r1.nil_of]
          exact List.flatten_eq_nil_iff.mpr fun l hl => (List.eq_of_mem_replicate hl)
        · rw [e]; simp
      rw [he] at f
      exact f.d hS ox'
    · cases h
  · cases h
end
/-- text * int -/
def rRepS : R2 := fun x y H Q => ∃ s k, x = .str s ∧ y = .int k ∧ PySem.MulOk s k ∧ Q (.str (PySem.Txt.mul s k)) H
omit [Tabs] in
theorem op_repS {X : Cx} : OpR X (binaryOp .Mult) rRepS := by
  intro pins s σ H x y v u Q I rx ry h
  obtain ⟨a, k, rfl, rfl, hok, q⟩ := h
  obtain ⟨t, rfl⟩ := rx
  obtain ⟨w, rfl⟩ := ry
  exact PySem.SB.mul hok fun t' k' => ⟨.str _, H, I.tok _, ⟨_, rfl⟩, q⟩
omit [Tabs] in
theorem mulOk_of {s : Str} {k : Int} (h0 : 0 ≤ k) (h1 : k ≤ 1000) (h2 : s.length ≤ 1000) : PySem.MulOk s k := by
  have hm : (s.length : Int) * k ≤ 1000 * 1000 := Int.mul_le_mul (by omega) h1 h0 (by decide)
  refine ⟨by rw [decide_eq_false (by omega), decide_eq_false (by omega)]; rfl, fun hk _ => ?_, fun _ _ => ?_⟩
  · have : (s.length : Int) ≤ (2 ^ 63 - 1) / k := (Int.le_ediv_iff_mul_le (by omega)).mpr (by omega)
    omega
  · have hz : s.length * k.toNat ≤ 1000 * 1000 := Nat.mul_le_mul h2 (by omega)
    show decide (_ > sizeLine) = false
    have : sizeLine = 16777216 := by decide
    exact decide_eq_false (by omega)
def repS : D → D → Option Vl
  | .str s, .int k => if 0 ≤ k ∧ k ≤ 1000 ∧ s.length ≤ 1000 then some (.fz (.str (PySem.Txt.mul s k))) else none
  | _, _ => none
theorem p_repS {K : PySem.W.Frag} {mg : MgT} : P2 K mg rRepS repS := fun S d e x y a Q hS h ox oy f => by
  unfold repS at h
  split at h
  · split at h
    · rename_i c
      cases h
      rw [ox.str, oy.int]
      exact ⟨_, _, rfl, rfl, mulOk_of c.1 c.2.1 c.2.2, f.d hS (.str _)⟩
    · cases h
  · cases h
def addP : D → D → Option Vl := orP (arI fun i j => i + j) (orP catL catT)
def subP : D → D → Option Vl := arI fun i j => i - j
def mulC (i j : Int) : Bool := (decide (-(2 ^ 64) < i) && decide (i < 2 ^ 64)) || (decide (-(2 ^ 64) < j) && decide (j < 2 ^ 64)) || (decide (i.natAbs < 2 ^ 2000) && decide (j.natAbs < 2 ^ 2000))
def mulP : D → D → Option Vl := orP (arC mulC fun i j => i * j) (orP repL (orP repT repS))
def divP : D → D → Option Vl := arC (fun _ j => decide (0 < j) && decide (j < 1073741824)) fun i j => i / j
def modP : D → D → Option Vl := arC (fun _ j => decide (0 < j)) fun i j => i % j
def powP : D → D → Option Vl := arC (fun i j => decide (0 ≤ j) && decide (j ≤ 1000000) && decide (i.natAbs < 2 ^ 64)) fun i j => i ^ j.toNat
def ltP : D → D → Option Vl := cmI fun i j => decide (i < j)
def leP : D → D → Option Vl := cmI fun i j => decide (i ≤ j)
def gtP : D → D → Option Vl := cmI fun i j => decide (j < i)
def geP : D → D → Option Vl := cmI fun i j => decide (j ≤ i)
def isP : D → D → Option Vl
  | .non, .non => blV true
  | _, .non => blV false
  | .bl a, .bl b => blV (a == b)
  | _, _ => none
def isNotP : D → D → Option Vl
  | .non, .non => blV false
  | _, .non => blV true
  | .bl a, .bl b => blV (!(a == b))
  | _, _ => none
def negP : D → Option Vl
  | .int i => inV (-i)
  | _ => none
section
variable {X : Cx} {a b : Expr} {f g : M Od} {pos : Pos} {k : Nat}
theorem mulC_ok {i j : Int} (h : mulC i j = true) : CMul i j ∨ CMulW i j := by
  simp only [mulC, Bool.or_eq_true, Bool.and_eq_true, decide_eq_true_eq] at h
  rcases h with (h | h) | h
  · exact .inl (.inl h)
  · exact .inl (.inr h)
  · exact .inr (wide_mul h.1 h.2 (by decide) (by decide) (by decide))
theorem op_mulA : OpR X (binaryOp .Mult) (rI (fun i j => CMul i j ∨ CMulW i j) fun i j => .int (i * j)) := by
  intro pins s σ H x y v u Q I rx ry h
  obtain ⟨i, j, e1, e2, c, q⟩ := h
  rcases c with c | c
  · exact op_mul pins s σ H x y v u Q I rx ry ⟨i, j, e1, e2, c, q⟩
  · exact op_mulW pins s σ H x y v u Q I rx ry ⟨i, j, e1, e2, c, q⟩
theorem re_add (ha : RO X a f) (hb : RO X b g) : RE X (.BinOp a .Add b pos) (bin addP f g) := re_op (op_add.or (op_cat.or op_catF)) (p_or p_arI (p_or p_catL p_catT)) ha hb
theorem re_sub (ha : RO X a f) (hb : RO X b g) : RE X (.BinOp a .Sub b pos) (bin subP f g) := re_op op_sub p_arI ha hb
theorem re_mul (ha : RO X a f) (hb : RO X b g) : RE X (.BinOp a .Mult b pos) (bin mulP f g) := re_op (op_mulA.or (op_rep.or (op_repF.or op_repS))) (p_or (p_arC fun _ _ => mulC_ok) (p_or p_repL (p_or p_repT p_repS))) ha hb
theorem re_div (ha : RO X a f) (hb : RO X b g) : RE X (.BinOp a .FloorDiv b pos) (bin divP f g) := re_op op_fdiv (p_arC fun i j h => by simpa [CDiv] using h) ha hb
theorem re_mod (ha : RO X a f) (hb : RO X b g) : RE X (.BinOp a .Mod b pos) (bin modP f g) := re_op op_mod (p_arC fun i j h => by simpa using h) ha hb
theorem re_pow (ha : RO X a f) (hb : RO X b g) : RE X (.BinOp a .Pow b pos) (bin powP f g) := re_op op_pow (p_arC fun i j h => by simp only [Bool.and_eq_true, decide_eq_true_eq] at h; exact ⟨h.1.1, h.1.2, h.2⟩) ha hb
theorem re_lt (ha : RO X a f) (hb : RO X b g) : RE X (.Compare a [.Lt] [b] pos) (bin ltP f g) := re_cmp op_lt p_cmI ha hb (nomark _)
theorem re_le (ha : RO X a f) (hb : RO X b g) : RE X (.Compare a [.LtE] [b] pos) (bin leP f g) := re_cmp op_le p_cmI ha hb (nomark _)
theorem re_gt (ha : RO X a f) (hb : RO X b g) : RE X (.Compare a [.Gt] [b] pos) (bin gtP f g) := re_cmp op_gt p_cmI ha hb (nomark _)
theorem re_ge (ha : RO X a f) (hb : RO X b g) : RE X (.Compare a [.GtE] [b] pos) (bin geP f g) := re_cmp op_ge p_cmI ha hb (nomark _)
theorem re_eq (hr : Room k X.A) (ha : RO X a f) (hb : RO X b g) : RE X (.Compare a [.Eq] [b] pos) (bin eqP f g) := re_cmp (op_eqP hr) p_eq ha hb (nomark _)
theorem re_ne (hr : Room k X.A) (ha : RO X a f) (hb : RO X b g) : RE X (.Compare a [.NotEq] [b] pos) (bin neP f g) := re_cmp (op_neP hr) p_ne ha hb (nomark _)
theorem re_in (hr : Room k X.A) (ha : RO X a f) (hb : RO X b g) (hm : behindInMarks .In b = false := by rfl) : RE X (.Compare a [.In] [b] pos) (bin inP f g) := re_cmp (op_inP hr) p_in ha hb hm
theorem re_notIn (hr : Room k X.A) (ha : RO X a f) (hb : RO X b g) (hm : behindInMarks .NotIn b = false := by rfl) : RE X (.Compare a [.NotIn] [b] pos) (bin notInP f g) := re_cmp (op_notInP hr) p_notIn ha hb hm
theorem re_neg (ha : RO X a f) : RE X (.UnaryOp .USub a pos) (un1 negP f) := re_un un_neg (fun S d x a Q hS h ox fi => by
  unfold negP at h
  split at h
  · cases h
    rw [ox.int]
    exact ⟨_, rfl, fi.d hS (.int _)⟩
  · cases h) ha
def D.isN : D → Bool
  | .non => true
  | _ => false
theorem opn_non {K : PySem.W.Frag} {mg : MgT} {S : Sx} {d : D} {x : V} (o : Opn K mg S d x) : decide (x = .non) = d.isN := by
  cases d with
  | lst xs => obtain ⟨a, vs, rfl, _⟩ := o; rfl
  | _ => cases o <;> rfl
theorem op_isA : OpR X (compareOp .Is) (fun x y H Q => (y = .non ∧ Q (.bl (decide (x = .non))) H) ∨ ∃ a b : Bool, x = .bl a ∧ y = .bl b ∧ Q (.bl (decide (a = b))) H) := op_isN.or op_is_bl
theorem op_isNotA : OpR X (compareOp .IsNot) (fun x y H Q => (y = .non ∧ Q (.bl (!decide (x = .non))) H) ∨ ∃ a b : Bool, x = .bl a ∧ y = .bl b ∧ Q (.bl (!decide (a = b))) H) := op_notN.or op_isnot_bl
theorem p_is {K : PySem.W.Frag} {mg : MgT} : P2 K mg (fun x y H Q => (y = .non ∧ Q (.bl (decide (x = .non))) H) ∨ ∃ a b : Bool, x = .bl a ∧ y = .bl b ∧ Q (.bl (decide (a = b))) H) isP := fun S d e x y a Q hS h ox oy f => by
  have key := opn_non ox
  unfold isP at h
  split at h
  · cases h
    refine .inl ⟨oy.non, ?_⟩
    rw [key]
    exact f.d hS (.bl _)
  · rename_i hne
    cases h
    refine .inl ⟨oy.non, ?_⟩
    rw [key]
    have : d.isN = false := by
      cases d <;> first | rfl | exact (hne rfl).elim
    rw [this]
    exact f.d hS (.bl _)
  · rename_i p q
    cases h
    refine .inr ⟨p, q, ox.bl, oy.bl, ?_⟩
    have : decide (p = q) = (p == q) := by cases p <;> cases q <;> rfl
    rw [this]
    exact f.d hS (.bl _)
  · cases h
theorem p_isNot {K : PySem.W.Frag} {mg : MgT} : P2 K mg (fun x y H Q => (y = .non ∧ Q (.bl (!decide (x = .non))) H) ∨ ∃ a b : Bool, x = .bl a ∧ y = .bl b ∧ Q (.bl (!decide (a = b))) H) isNotP := fun S d e x y a Q hS h ox oy f => by
  have key := opn_non ox
  unfold isNotP at h
  split at h
  · cases h
    refine .inl ⟨oy.non, ?_⟩
    rw [key]
    exact f.d hS (.bl _)
  · rename_i hne
    cases h
    refine .inl ⟨oy.non, ?_⟩
    rw [key]
    have : d.isN = false := by
      cases d <;> first | rfl | exact (hne rfl).elim
    rw [this]
    exact f.d hS (.bl _)
  · rename_i p q
    cases h
    refine .inr ⟨p, q, ox.bl, oy.bl, ?_⟩
    have : decide (p = q) = (p == q) := by cases p <;> cases q <;> rfl
    rw [this]
    exact f.d hS (.bl _)
  · cases h
theorem re_is (ha : RO X a f) (hb : RO X b g) : RE X (.Compare a [.Is] [b] pos) (bin isP f g) := re_cmp op_isA p_is ha hb (nomark _)
theorem re_isNot (ha : RO X a f) (hb : RO X b g) : RE X (.Compare a [.IsNot] [b] pos) (bin isNotP f g) := re_cmp op_isNotA p_isNot ha hb (nomark _)
end
end KL
end

section
set_option Elab.async false
set_option linter.all false
set_option maxRecDepth 100000
namespace KL
open PySem L2
variable [Tabs]

/-! ### names that escape -/
def nmE (i : Nat) : M Vl := fun ρ => match ρ[i]? with
  | some (.va d) => .ok (.fz d) ρ
  | some (.ow xs) => .ok (.fz (.lst xs)) (ρ.set i (.va (.lst xs)))
  | _ => .bad
/-- .. for the last time -/
def nmM (i : Nat) : M Vl := fun ρ => match ρ[i]? with
  | some (.va d) => .ok (.fz d) ρ
  | some (.ow xs) => .ok (.fr xs) (ρ.set i .un)
  | _ => .bad
section
variable {K : PySem.W.Frag} {mg : MgT} {S : Sx}
theorem getD_some {σ : L2.St} {i : Nat} {v : V} (e : σ[i]?.getD none = some v) : σ[i]? = some (some v) := by
  cases w : σ[i]? with
  | none => rw [w] at e; cases e
  | some o => rw [w] at e; exact congrArg some e
theorem getD_of {σ : L2.St} {i : Nat} {v : V} (e : σ[i]? = some (some v)) : σ[i]?.getD none = some v := by rw [e]; rfl
theorem set_some {ρ : Env} {i j : Nat} {q r : Sl} (h : (ρ.set i q)[j]? = some r) : (j = i ∧ r = q) ∨ (j ≠ i ∧ ρ[j]? = some r) := by
  by_cases e : i = j
  · subst e
    by_cases hl : i < ρ.length
    · rw [List.getElem?_set_self hl] at h
      exact .inl ⟨rfl, (Option.some.inj h).symm⟩
    · rw [List.getElem?_eq_none (by simpa using hl)] at h; cases h
  · rw [List.getElem?_set_ne e] at h
    exact .inr ⟨fun z => e z.symm, h⟩
/-- a slot's list is no longer one's own: kept apart by a temporary's hand, or frozen -/
theorem go_drop {i : Nat} {xs : List D} {q : Sl} {B' : Ad} (h : S.rel K mg) (e : S.ρ[i]? = some (.ow xs)) (hq : q.mine = false) (a : Addr) (ha : S.σ[i]? = some (some (.ref a))) (hB : ∀ b, B' b ↔ S.B b ∧ (b ≠ a ∨ B' a))
    (hq2 : SlR K mg S.H B' q (S.σ[i]?.getD none)) : Go K mg S ⟨B', S.ρ.set i q, S.σ, S.H⟩ := by
  have hO : OwnAt S.ρ S.σ i a := ⟨⟨_, e, rfl⟩, ha⟩
  have sub : ∀ b, B' b → S.B b := fun b z => ((hB b).mp z).1
  have up : ∀ b, S.B b → b ≠ a → B' b := fun b z ne => (hB b).mpr ⟨z, .inl ne⟩
  have fe : FE S.B S.H B' S.H := FE.sub sub
  have own : ∀ j b, OwnAt (S.ρ.set i q) S.σ j b → j ≠ i ∧ OwnAt S.ρ S.σ j b := fun j b ⟨⟨r, e1, e2⟩, e3⟩ => by
    rcases set_some e1 with ⟨_, rfl⟩ | ⟨ne, e1⟩
    · rw [hq] at e2; cases e2
    · exact ⟨ne, ⟨r, e1, e2⟩, e3⟩
  refine ⟨⟨by show (S.ρ.set i q).length = _; rw [List.length_set]; exact h.len, fun j r e1 => ?_, fun j k b o1 o2 => h.dist j k b (own j b o1).2 (own k b o2).2, fun b z => h.alloc b (sub b z), fun b z => ⟨(h.tab b z).1, fun y => (h.tab b z).2 (sub b y)⟩⟩, ⟨fun b o z _ _ => z, fun b z => z, fun b z => .inl (sub b z), fun b ⟨j, z⟩ => .inl ⟨j, (own j b z).2⟩, fun b z nw => up b z fun e2 => nw ?_, fun b z _ => z⟩, fun j r e1 e2 => ?_, rfl⟩
  · have e1 : (S.ρ.set i q)[j]? = some r := e1
    rcases set_some e1 with ⟨rfl, rfl⟩ | ⟨ne, e1⟩
    · exact hq2
    · have y := h.sl j r e1
      have neq : ∀ b, S.σ[j]?.getD none = some (.ref b) → r.mine = true → b ≠ a := fun b eb em eq => by
        subst eq
        exact ne (h.dist j i b ⟨⟨r, e1, em⟩, getD_some eb⟩ hO)
      cases r with
      | un => trivial
      | va d => obtain ⟨w, e1, e2⟩ := y; exact ⟨w, e1, Rep.mono fe e2⟩
      | ow ys => obtain ⟨b, ws, e1, e2, e3, e4⟩ := y; exact ⟨b, ws, e1, up b e2 (neq b e1 rfl), e3, RepL.mono fe e4⟩
      | io ys => obtain ⟨b, ws, e1, e2, e3, e4⟩ := y; exact ⟨b, ws, e1, up b e2 (neq b e1 rfl), e3, RepL.mono fe e4⟩
  · subst e2; exact ⟨i, hO⟩
  · refine ⟨rfl, ?_⟩
    by_cases ji : j = i
    · subst ji
      rw [e] at e1
      cases e1; cases e2
    · exact ⟨r, by show (S.ρ.set i q)[j]? = _; rw [List.getElem?_set_ne (Ne.symm ji)]; exact e1, e2⟩
end
section
variable {X : Cx}
theorem re_name {x : Str} {pos : Pos} (i : Nat) (hN : X.N[i]? = some x := by rfl) (hv : Vis X.env.scope x := by first | exact Or.inl rfl | exact Or.inr (Or.inl rfl) | exact Or.inr (Or.inr rfl)) (hd : (x == ("__debug__" : Str)) = false := by decide)
    (hcd : (x == ("__classdict__" : Str)) = false := by decide) : RE X (.Name x pos) (nmE i) := by
  refine ⟨fun Wi tk => pe_imp (pe_var hN hv hd hcd) fun σ H Q q => ?_⟩
  obtain ⟨S, hS, rfl, rfl, q⟩ := q
  unfold nmE at q
  cases e : S.ρ[i]? with
  | none => simp only [e] at q; exact q.elim
  | some s =>
    have y := hS.sl i s e
    cases s with
    | un => simp only [e] at q; exact q.elim
    | io xs => simp only [e] at q; exact q.elim
    | va d =>
      simp only [e] at q
      obtain ⟨w, e1, e2⟩ := y
      exact ⟨w, getD_some e1, q S rfl rfl (Go.refl hS) w e2⟩
    | ow xs =>
      simp only [e] at q
      obtain ⟨a, vs, e1, e2, e3, e4⟩ := y
      have fe : FE S.B S.H (fun b => S.B b ∧ b ≠ a) S.H := FE.sub fun b z => z.1
      have rp : Rep X.K X.mg S.H (fun b => S.B b ∧ b ≠ a) (.lst xs) (.ref a) := .lst (fun z => z.2 rfl) e3 (RepL.mono fe e4)
      refine ⟨_, getD_some e1, q ⟨fun b => S.B b ∧ b ≠ a, S.ρ.set i (.va (.lst xs)), S.σ, S.H⟩ rfl rfl (go_drop hS e rfl a (getD_some e1) (fun b => ⟨fun z => ⟨z.1, .inl z.2⟩, fun z => ⟨z.1, z.2.elim id fun z2 => absurd rfl z2.2⟩⟩) ⟨_, e1, rp⟩) _ rp⟩
theorem re_move {x : Str} {pos : Pos} (i : Nat) (hN : X.N[i]? = some x := by rfl) (hv : Vis X.env.scope x := by first | exact Or.inl rfl | exact Or.inr (Or.inl rfl) | exact Or.inr (Or.inr rfl)) (hd : (x == ("__debug__" : Str)) = false := by decide)
    (hcd : (x == ("__classdict__" : Str)) = false := by decide) : RE X (.Name x pos) (nmM i) := by
  refine ⟨fun Wi tk => pe_imp (pe_var hN hv hd hcd) fun σ H Q q => ?_⟩
  obtain ⟨S, hS, rfl, rfl, q⟩ := q
  unfold nmM at q
  cases e : S.ρ[i]? with
  | none => simp only [e] at q; exact q.elim
  | some s =>
    have y := hS.sl i s e
    cases s with
    | un => simp only [e] at q; exact q.elim
    | io xs => simp only [e] at q; exact q.elim
    | va d =>
      simp only [e] at q
      obtain ⟨w, e1, e2⟩ := y
      exact ⟨w, getD_some e1, q S rfl rfl (Go.refl hS) w e2⟩
    | ow xs =>
      simp only [e] at q
      obtain ⟨a, vs, e1, e2, e3, e4⟩ := y
      have hO : OwnAt S.ρ S.σ i a := ⟨⟨_, e, rfl⟩, getD_some e1⟩
      refine ⟨_, getD_some e1, q ⟨S.B, S.ρ.set i .un, S.σ, S.H⟩ rfl rfl (go_drop hS e rfl a (getD_some e1) (fun b => ⟨fun z => ⟨z, .inr e2⟩, fun z => z.1⟩) trivial) _ ⟨a, vs, rfl, .inl ⟨i, hO⟩, e2, fun ⟨j, ⟨r, f1, f2⟩, f3⟩ => ?_, e3, e4⟩⟩
      have f1 : (S.ρ.set i .un)[j]? = some r := f1
      rcases set_some f1 with ⟨_, rfl⟩ | ⟨ne, f1⟩
      · cases f2
      · exact ne (hS.dist j i a ⟨⟨r, f1, f2⟩, f3⟩ hO)
/-! ### constants -/
def cE (d : D) : M Vl := fun ρ => .ok (.fz d) ρ
theorem re_c {e : Expr} {d : D} {v : V} (h : PE X e (tC v)) (r : ∀ H B, Rep X.K X.mg H B d v) : RE X e (cE d) := by
  refine ⟨fun Wi tk => pe_imp h fun σ H Q q => ?_⟩
  obtain ⟨S, hS, rfl, rfl, q⟩ := q
  exact q S rfl rfl (Go.refl hS) v (r _ _)
theorem re_int {i j pos} : RE X (.Constant (.int i) j pos) (cE (.int i)) := re_c pe_int fun _ _ => .int i
theorem re_bl {i j pos} : RE X (.Constant (.bool i) j pos) (cE (.bl i)) := re_c pe_bl fun _ _ => .bl i
theorem re_non {j pos} : RE X (.Constant .none j pos) (cE .non) := re_c pe_non fun _ _ => .non
theorem re_str {i j pos} : RE X (.Constant (.str i) j pos) (cE (.str i)) := re_c pe_str fun _ _ => .str i
theorem re_globI {x : Str} {i : Int} {pos : Pos} (hg : Gl X x) (hm : ∃ t, X.mg x = some (.int i t)) (hd : (x == ("__debug__" : Str)) = false := by decide) : RE X (.Name x pos) (cE (.int i)) := by
  obtain ⟨t, e⟩ := hm
  exact re_c (pe_glob (v := .int i) hg e ⟨t, rfl⟩ hd) fun _ _ => .int i
/-- a tuple of the module's -/
theorem re_globT {x : Str} {a : Addr} {xs : List D} {vs : List V} {pos : Pos} (hg : Gl X x) (hm : X.mg x = some (.ref a)) {o : Obj} (hk : X.K.lookup a = some o) (ho : TupOb o) (ht : ∀ H, SqT X.K H a vs) (hr : ∀ H B, RepL X.K X.mg H B xs vs) (hd : (x == ("__debug__" : Str)) = false := by decide) : RE X (.Name x pos) (cE (.tup xs)) :=
  re_c (pe_glob (v := .ref a) hg hm rfl hd) fun _ _ => .tupK hk ho ht (hr _ _)

/-! ### arguments -/
def aNil : M (List Od) := fun ρ => .ok [] ρ
def aCons (f : M Od) (g : M (List Od)) : M (List Od) := fun ρ => bnd (f ρ) fun o ρ1 => bnd (g ρ1) fun os ρ2 => .ok (o :: os) ρ2
theorem ra_nil : RA X [] aNil := by
  refine ⟨fun Wi tk => pa_imp pa_nil fun σ H Q q => ?_⟩
  obtain ⟨S, hS, rfl, rfl, q⟩ := q
  exact q S rfl rfl (Go.refl hS) [] .nil
theorem ra_cons {e : Expr} {es : List Expr} {f : M Od} {g : M (List Od)} (ha : RO X e f) (hr : RA X es g) (hs : starEach (e :: es) X.env = (false, eval e X.env) :: starEach es X.env := by rfl) : RA X (e :: es) (aCons f g) := by
  refine ⟨fun Wi tk => pa_imp (pa_cons (ha.run Wi tk) (hr.run Wi tk) hs) fun σ H Q q => ?_⟩
  obtain ⟨S, hS, rfl, rfl, q⟩ := q
  refine ⟨S, hS, rfl, rfl, q.bnd fun a S1 es1 g1 _ q1 x rx => ?_⟩
  refine ⟨S1, g1.rel, es1, rfl, (q1.from hS es1 g1).bnd fun b S2 es2 g2 _ q2 ys ry => ?_⟩
  exact q2 S2 rfl (es2) (g2) (x :: ys) (.cons (rx.later g1.rel es2 g2) ry)
end
end KL
end

section
set_option Elab.async false
set_option linter.all false
set_option maxRecDepth 100000
namespace KL
open PySem L2
variable [Tabs]

/-! ### truth -/
def D.tru : D → Option Bool
  | .non => some false
  | .bl b => some b
  | .int i => some (i != 0)
  | .str s => if s.length ≤ 1000000 then some ((s.length : Int) != 0) else none
  | .lst xs => some (!xs.isEmpty)
  | .tup xs => some (!xs.isEmpty)
  | _ => none
def tru (f : M Od) : M Bool := fun ρ => bnd (f ρ) fun a ρ1 => match a.get ρ1 with
  | some d => match d.tru with
    | some b => .ok b ρ1
    | none => .bad
  | none => .bad
/-- a value that is True or False -/
def tst (f : M Vl) : M Bool := fun ρ => bnd (f ρ) fun a ρ1 => match a with
  | .fz (.bl b) => .ok b ρ1
  | _ => .bad
def tNotB (f : M Bool) : M Bool := fun ρ => bnd (f ρ) fun b ρ1 => .ok (!b) ρ1
def tAndB (f g : M Bool) : M Bool := fun ρ => bnd (f ρ) fun b ρ1 => if b = true then g ρ1 else .ok false ρ1
def tOrB (f g : M Bool) : M Bool := fun ρ => bnd (f ρ) fun b ρ1 => if b = true then .ok true ρ1 else g ρ1
section
variable {K : PySem.W.Frag} {mg : MgT} {S : Sx}
theorem RepL.empty {H : Hp} {B : Ad} {xs : List D} {vs : List V} (r : RepL K mg H B xs vs) : xs.isEmpty = vs.isEmpty := by cases r <;> rfl
theorem tru_of {d : D} {v : V} {b : Bool} (o : Opn K mg S d v) (h : d.tru = some b) : TruV K v S.H b := by
  cases d with
  | non => cases h; cases o; rfl
  | bl c => cases h; cases o; rfl
  | int i => cases h; cases o; rfl
  | str s =>
    simp only [D.tru] at h
    split at h
    · rename_i c
      cases h; cases o
      exact ⟨big_ok c, rfl⟩
    · cases h
  | lst xs =>
    cases h
    obtain ⟨a, vs, rfl, h1, r⟩ := o
    exact .inl ⟨vs, .inl (.inl h1), by rw [r.empty]⟩
  | tup xs =>
    cases h
    obtain ⟨a, vs, rfl, h1, r⟩ := o.tup
    exact .inr (.inl ⟨vs, h1, by rw [r.empty]⟩)
  | scr ns => cases h
  | pr ns => cases h
  | err c fs => cases h
end
section
variable {X : Cx} {a b : Expr} {pos : Pos}
theorem rt_tru {f : M Od} (ha : RO X a f) (he : ∀ whole, isTrue a X.env whole = (do let v ← whole; standAt a.pos; holding [v] (truthy v)) := by intro _; rfl) : RT X a (tru f) := by
  refine ⟨fun Wi tk => pt_imp (pt_truth (ha.run Wi tk) he) fun σ H Q q => ?_⟩
  obtain ⟨S, hS, rfl, rfl, q⟩ := q
  refine ⟨S, hS, rfl, rfl, q.bnd fun a S1 es1 g1 _ q1 x rx => ?_⟩
  cases e1 : a.get S1.ρ with
  | none => simp only [e1] at q1; exact q1.elim
  | some d =>
    cases e2 : d.tru with
    | none => simp only [e1, e2] at q1; exact q1.elim
    | some b =>
      simp only [e1, e2] at q1
      exact ⟨b, tru_of (opn_of g1.rel rx e1) e2, q1 S1 rfl es1 g1⟩
theorem tst_imp {K : PySem.W.Frag} {mg : MgT} {Wi : WX} {f : M Vl} : ∀ σ H Q, TT_ K mg Wi (tst f) σ H Q → tTest (TE_ K mg Wi f) σ H Q := fun σ H Q q => by
  obtain ⟨S, hS, rfl, rfl, q⟩ := q
  refine ⟨S, hS, rfl, rfl, q.bnd fun a S1 es1 g1 _ q1 x rx => ?_⟩
  cases a with
  | fr xs => exact q1.elim
  | fz d =>
    cases d with
    | bl b => cases rx; exact ⟨b, rfl, q1 S1 rfl es1 g1⟩
    | _ => exact q1.elim
theorem rt_op {op : CmpOp} {f g : M Od} {p : D → D → Option Vl} {r : R2} (ho : OpR X (compareOp op) r) (hp : P2 X.K X.mg r p) (ha : RO X a f) (hb : RO X b g) (hm : behindInMarks op b = false) : RT X (.Compare a [op] [b] pos) (tst (bin p f g)) := by
  refine ⟨fun Wi tk => pt_imp (pt_cmpR ho (ha.run Wi tk) (hb.run Wi tk) hm) fun σ H Q q => ?_⟩
  have z := tst_imp σ H Q q
  exact tbin hp σ H _ z
/-- a comparison's operator -/
def RC (X : Cx) (op : CmpOp) (p : D → D → Option Vl) : Prop := ∃ r, OpR X (compareOp op) r ∧ P2 X.K X.mg r p
theorem rc_lt : RC X .Lt ltP := ⟨_, op_lt, p_cmI⟩
theorem rc_le : RC X .LtE leP := ⟨_, op_le, p_cmI⟩
theorem rc_gt : RC X .Gt gtP := ⟨_, op_gt, p_cmI⟩
theorem rc_ge : RC X .GtE geP := ⟨_, op_ge, p_cmI⟩
theorem rc_eq {k : Nat} (hr : Room k X.A) : RC X .Eq eqP := ⟨_, op_eqP hr, p_eq⟩
theorem rc_ne {k : Nat} (hr : Room k X.A) : RC X .NotEq neP := ⟨_, op_neP hr, p_ne⟩
theorem rc_in {k : Nat} (hr : Room k X.A) : RC X .In inP := ⟨_, op_inP hr, p_in⟩
theorem rc_notIn {k : Nat} (hr : Room k X.A) : RC X .NotIn notInP := ⟨_, op_notInP hr, p_notIn⟩
theorem rc_is : RC X .Is isP := ⟨_, op_isA, p_is⟩
theorem rc_isNot : RC X .IsNot isNotP := ⟨_, op_isNotA, p_isNot⟩
theorem re_c1 {op : CmpOp} {f g : M Od} {p : D → D → Option Vl} (h : RC X op p) (ha : RO X a f) (hb : RO X b g) (hm : behindInMarks op b = false := by rfl) : RE X (.Compare a [op] [b] pos) (bin p f g) := by
  obtain ⟨r, ho, hp⟩ := h
  exact re_cmp ho hp ha hb hm
theorem rt_c1 {op : CmpOp} {f g : M Od} {p : D → D → Option Vl} (h : RC X op p) (ha : RO X a f) (hb : RO X b g) (hm : behindInMarks op b = false := by rfl) : RT X (.Compare a [op] [b] pos) (tst (bin p f g)) := by
  obtain ⟨r, ho, hp⟩ := h
  exact rt_op ho hp ha hb hm
/-- a op b op' c -/
def chn (p q : D → D → Option Vl) (f g h : M Od) : M Vl := fun ρ => bnd (f ρ) fun a ρ1 => bnd (g ρ1) fun b ρ2 => bnd (tst (app2 p a b) ρ2) fun t ρ3 => if t = true then bnd (h ρ3) fun c ρ4 => app2 q b c ρ4 else .ok (.fz (.bl false)) ρ3
theorem tchn {K : PySem.W.Frag} {mg : MgT} {Wi : WX} {f g h : M Od} {p q : D → D → Option Vl} {r r' : R2} (hp : P2 K mg r p) (hq : P2 K mg r' q) : ∀ σ H Q, TE_ K mg Wi (chn p q f g h) σ H Q → tChain r r' (TO_ K mg Wi f) (TO_ K mg Wi g) (TO_ K mg Wi h) σ H Q := fun σ H Q z => by
  obtain ⟨S, hS, rfl, rfl, z⟩ := z
  refine ⟨S, hS, rfl, rfl, z.bnd fun a S1 es1 g1 _ z1 x rx => ?_⟩
  have hS1 := g1.rel
  refine ⟨S1, hS1, es1, rfl, (z1.vfrom hS g1 es1).bnd fun b S2 es2 g2 _ z2 y ry => ?_⟩
  have hS2 := g2.rel
  have z3 := (z2.vfrom hS1 g2 es2).bnd (Φ := fun t S3 => Sat K mg Wi S2 (fun a S' => ∀ v, RepV K mg S2 S' a v → Q v S'.H) (if t = true then bnd (h S3.ρ) fun c ρ4 => app2 q b c ρ4 else .ok (.fz (.bl false)) S3.ρ)) fun t S3 _ _ _ w => w
  have z4 := z3.bnd (Φ := fun (a : Vl) S3 => ∀ v, RepV K mg S2 S3 a v → ∃ k, v = V.bl k ∧ (if k = true then TO_ K mg Wi h S2.σ S3.H (fun w' H4 => r' y w' H4 Q) else Q (.bl false) S3.H)) fun v S3 es3 g3 _ w => by
    intro u ru
    cases v with
    | fr xs => exact w.elim
    | fz d =>
      cases d with
      | bl k =>
        cases ru
        refine ⟨k, rfl, ?_⟩
        have w2 := w S3 rfl es3 g3
        cases k with
        | true =>
          rw [if_pos rfl] at w2 ⊢
          exact ⟨S3, g3.rel, es3, rfl, (w2.vfrom hS2 g3 es3).bnd fun c S4 es4 g4 _ w4 u4 r4 =>
            sat2 hq g4.rel ((ry.later hS2 es3 g3).later g3.rel es4 g4) r4 (w4.vfrom g3.rel g4 es4)⟩
        | false =>
          rw [if_neg Bool.false_ne_true] at w2 ⊢
          exact w2 S3 rfl es3 g3 (.bl false) (.bl false)
      | _ => exact w.elim
  have e2 : S2.σ = S.σ := es2.trans es1
  rw [e2] at z4
  exact sat2 hp hS2 (rx.later hS1 es2 g2) ry z4
theorem re_chn {c : Expr} {op op' : CmpOp} {f g h : M Od} {p q : D → D → Option Vl} (ho : RC X op p) (ho' : RC X op' q) (ha : RO X a f) (hb : RO X b g) (hc : RO X c h) (hm : lastMarks [op, op'] [b, c] = false := by with_unfolding_all rfl) :
    RE X (.Compare a [op, op'] [b, c] pos) (chn p q f g h) := by
  obtain ⟨r, o1, p1⟩ := ho
  obtain ⟨r', o2, p2⟩ := ho'
  exact ⟨fun Wi tk => pe_imp (pe_chain o1 o2 (ha.run Wi tk) (hb.run Wi tk) (hc.run Wi tk) hm) (tchn p1 p2)⟩
theorem rt_chn {c : Expr} {op op' : CmpOp} {f g h : M Od} {p q : D → D → Option Vl} (ho : RC X op p) (ho' : RC X op' q) (ha : RO X a f) (hb : RO X b g) (hc : RO X c h) (hm : lastMarks [op, op'] [b, c] = false := by with_unfolding_all rfl) :
    RT X (.Compare a [op, op'] [b, c] pos) (tst (chn p q f g h)) := by
  obtain ⟨r, o1, p1⟩ := ho
  obtain ⟨r', o2, p2⟩ := ho'
  exact ⟨fun Wi tk => pt_imp (pt_chain o1 o2 (ha.run Wi tk) (hb.run Wi tk) (hc.run Wi tk) hm) fun σ H Q z => tchn p1 p2 σ H _ (tst_imp σ H Q z)⟩
/-! ### not, and, or, if .. else -/
theorem rt_not {f : M Bool} (ha : RT X a f) : RT X (.UnaryOp .Not a pos) (tNotB f) := by
  refine ⟨fun Wi tk => pt_imp (pt_not (ha.run Wi tk)) fun σ H Q q => ?_⟩
  obtain ⟨S, hS, rfl, rfl, q⟩ := q
  exact ⟨S, hS, rfl, rfl, q.bnd fun b S1 es1 g1 _ q1 => q1 S1 rfl es1 g1⟩
structure RW (X : Cx) (e : Expr) (f : M Bool) : Prop where
  run : ∀ Wi, Takes X Wi → PW X e (TT_ X.K X.mg Wi f)
theorem pw_imp {e : Expr} {t t' : TT} (h : PW X e t) (k : ∀ σ H Q, t' σ H Q → t σ H Q) : PW X e t' := ⟨fun wh pins s σ H Q I q => h.run wh pins s σ H Q I (k σ H Q q)⟩
theorem rw_and1 {f : M Bool} (ha : RT X a f) : RW X (.BoolOp .And [a] pos) f := ⟨fun Wi tk => pw_and1 (ha.run Wi tk)⟩
theorem rw_or1 {f : M Bool} (ha : RT X a f) : RW X (.BoolOp .Or [a] pos) f := ⟨fun Wi tk => pw_or1 (ha.run Wi tk)⟩
theorem rw_and {rest : List Expr} {f g : M Bool} (ha : RT X a f) (hb : RW X (.BoolOp .And (b :: rest) pos) g) : RW X (.BoolOp .And (a :: b :: rest) pos) (tAndB f g) := by
  refine ⟨fun Wi tk => pw_imp (pw_and (ha.run Wi tk) (hb.run Wi tk)) fun σ H Q q => ?_⟩
  obtain ⟨S, hS, rfl, rfl, q⟩ := q
  refine ⟨S, hS, rfl, rfl, q.bnd fun c S1 es1 g1 _ q1 => ?_⟩
  have q2 := q1.from hS es1 g1
  cases c with
  | true => dsimp only; rw [if_pos rfl] at q2 ⊢; exact ⟨S1, g1.rel, es1, rfl, q2⟩
  | false => dsimp only; rw [if_neg Bool.false_ne_true] at q2 ⊢; exact q2 S1 rfl rfl (Go.refl g1.rel)
theorem rw_or {rest : List Expr} {f g : M Bool} (ha : RT X a f) (hb : RW X (.BoolOp .Or (b :: rest) pos) g) : RW X (.BoolOp .Or (a :: b :: rest) pos) (tOrB f g) := by
  refine ⟨fun Wi tk => pw_imp (pw_or (ha.run Wi tk) (hb.run Wi tk)) fun σ H Q q => ?_⟩
  obtain ⟨S, hS, rfl, rfl, q⟩ := q
  refine ⟨S, hS, rfl, rfl, q.bnd fun c S1 es1 g1 _ q1 => ?_⟩
  have q2 := q1.from hS es1 g1
  cases c with
  | true => dsimp only; rw [if_pos rfl] at q2 ⊢; exact q2 S1 rfl rfl (Go.refl g1.rel)
  | false => dsimp only; rw [if_neg Bool.false_ne_true] at q2 ⊢; exact ⟨S1, g1.rel, es1, rfl, q2⟩
theorem rt_w {f : M Bool} (h : RW X a f) : RT X a f := ⟨fun Wi tk => (h.run Wi tk).pt⟩
/-- as values -/
def eNot (f : M Od) : M Vl := fun ρ => bnd (tru f ρ) fun b ρ1 => .ok (.fz (.bl (!b))) ρ1
def eAnd (f : M Vl) (g : M Vl) : M Vl := fun ρ => bnd (f ρ) fun a ρ1 => match a.d.tru with
  | some true => g ρ1
  | some false => .ok (.fz a.d) ρ1
  | none => .bad
def eOr (f : M Vl) (g : M Vl) : M Vl := fun ρ => bnd (f ρ) fun a ρ1 => match a.d.tru with
  | some true => .ok (.fz a.d) ρ1
  | some false => g ρ1
  | none => .bad
def eIf (c : M Bool) (f g : M Vl) : M Vl := fun ρ => bnd (c ρ) fun b ρ1 => if b = true then f ρ1 else g ρ1
theorem re_not {f : M Od} (ha : RO X a f) : RE X (.UnaryOp .Not a pos) (eNot f) := by
  refine ⟨fun Wi tk => pe_imp (pe_notT (ha.run Wi tk)) fun σ H Q q => ?_⟩
  obtain ⟨S, hS, rfl, rfl, q⟩ := q
  have q' := q.bnd (Φ := fun b S1 => Q (.bl (!b)) S1.H) fun b S1 es1 g1 _ q1 => q1 S1 rfl es1 g1 _ (.bl _)
  refine ⟨S, hS, rfl, rfl, q'.bnd fun a S1 es1 g1 _ q1 x rx => ?_⟩
  cases e1 : a.get S1.ρ with
  | none => simp only [e1] at q1; exact q1.elim
  | some d =>
    cases e2 : d.tru with
    | none => simp only [e1, e2] at q1; exact q1.elim
    | some b =>
      simp only [e1, e2] at q1
      exact ⟨b, tru_of (opn_of g1.rel rx e1) e2, q1 S1 rfl es1 g1⟩
theorem re_one {op : BoolOp} {f : M Vl} (ha : RE X a f) : RE X (.BoolOp op [a] pos) f := ⟨fun Wi tk => pe_one (ha.run Wi tk)⟩
theorem re_and {rest : List Expr} {f g : M Vl} (ha : RE X a f) (hb : RE X (.BoolOp .And (b :: rest) pos) g) : RE X (.BoolOp .And (a :: b :: rest) pos) (eAnd f g) := by
  refine ⟨fun Wi tk => pe_imp (pe_andT (ha.run Wi tk) (hb.run Wi tk)) fun σ H Q q => ?_⟩
  obtain ⟨S, hS, rfl, rfl, q⟩ := q
  refine ⟨S, hS, rfl, rfl, q.bnd fun c S1 es1 g1 _ q1 x rx => ?_⟩
  obtain ⟨S2, f1, f2, f3, g2, r2⟩ := freeze hS g1 rx
  have es2 : S2.σ = S.σ := f2.trans es1
  cases e2 : c.d.tru with
  | none => simp only [e2] at q1; exact q1.elim
  | some k =>
    have ht : TruV X.K x S1.H k := by rw [← f3]; exact tru_of (S := S2) (Rep.opn r2) e2
    refine ⟨k, ht, ?_⟩
    rw [← f1] at q1
    cases k with
    | true =>
      simp only [e2] at q1
      rw [if_pos rfl, ← f3]
      exact ⟨S2, g2.rel, es2, rfl, q1.vfrom hS g2 es2⟩
    | false =>
      simp only [e2] at q1
      rw [if_neg Bool.false_ne_true, ← f3]
      exact q1 S2 rfl es2 g2 x r2
theorem re_or {rest : List Expr} {f g : M Vl} (ha : RE X a f) (hb : RE X (.BoolOp .Or (b :: rest) pos) g) : RE X (.BoolOp .Or (a :: b :: rest) pos) (eOr f g) := by
  refine ⟨fun Wi tk => pe_imp (pe_orT (ha.run Wi tk) (hb.run Wi tk)) fun σ H Q q => ?_⟩
  obtain ⟨S, hS, rfl, rfl, q⟩ := q
  refine ⟨S, hS, rfl, rfl, q.bnd fun c S1 es1 g1 _ q1 x rx => ?_⟩
  obtain ⟨S2, f1, f2, f3, g2, r2⟩ := freeze hS g1 rx
  have es2 : S2.σ = S.σ := f2.trans es1
  cases e2 : c.d.tru with
  | none => simp only [e2] at q1; exact q1.elim
  | some k =>
    have ht : TruV X.K x S1.H k := by rw [← f3]; exact tru_of (S := S2) (Rep.opn r2) e2
    refine ⟨k, ht, ?_⟩
    rw [← f1] at q1
    cases k with
    | false =>
      simp only [e2] at q1
      rw [if_neg Bool.false_ne_true, ← f3]
      exact ⟨S2, g2.rel, es2, rfl, q1.vfrom hS g2 es2⟩
    | true =>
      simp only [e2] at q1
      rw [if_pos rfl, ← f3]
      exact q1 S2 rfl es2 g2 x r2
theorem re_if {t : Expr} {c : M Bool} {f g : M Vl} (hc : RT X t c) (ha : RE X a f) (hb : RE X b g) : RE X (.IfExp t a b pos) (eIf c f g) := by
  refine ⟨fun Wi tk => pe_imp (pe_ifExp (hc.run Wi tk) (ha.run Wi tk) (hb.run Wi tk)) fun σ H Q q => ?_⟩
  obtain ⟨S, hS, rfl, rfl, q⟩ := q
  refine ⟨S, hS, rfl, rfl, q.bnd fun c S1 es1 g1 _ q1 => ?_⟩
  have q2 := q1.vfrom hS g1 es1
  cases c with
  | true => dsimp only; rw [if_pos rfl] at q2 ⊢; exact ⟨S1, g1.rel, es1, rfl, q2⟩
  | false => dsimp only; rw [if_neg Bool.false_ne_true] at q2 ⊢; exact ⟨S1, g1.rel, es1, rfl, q2⟩
/-! ### displays -/
def vals? : List Od → Option (List D)
  | [] => some []
  | .v d :: os => match vals? os with
    | some ds => some (d :: ds)
    | none => none
  | .s _ :: _ => none
def mkT (f : M (List Od)) : M Vl := fun ρ => bnd (f ρ) fun os ρ1 => match vals? os with
  | some ds => if ds.length ≤ 1000000 then .ok (.fz (.tup ds)) ρ1 else .bad
  | none => .bad
def mkL (f : M (List Od)) : M Vl := fun ρ => bnd (f ρ) fun os ρ1 => match vals? os with
  | some ds => if ds.length ≤ 1000000 then .ok (.fr ds) ρ1 else .bad
  | none => .bad
theorem vals_rep {K : PySem.W.Frag} {mg : MgT} {S : Sx} : ∀ {os : List Od} {vs : List V} {ds : List D}, RepOs K mg S os vs → vals? os = some ds → RepL K mg S.H S.B ds vs
  | _, _, _, .nil, e => by cases e; exact .nil
  | .v d :: os, _, ds, .cons a r, e => by
    unfold vals? at e
    cases h2 : vals? os with
    | none => rw [h2] at e; cases e
    | some es =>
      rw [h2] at e
      cases e
      exact .cons a (vals_rep r h2)
  | .s _ :: _, _, _, .cons _ _, e => by cases e
theorem re_tup {es : List Expr} {x1 : Nat} {f : M (List Od)} (h : RA X es f) : RE X (.Tuple es x1 pos) (mkT f) := by
  refine ⟨fun Wi tk => pe_imp (pe_tupF (h.run Wi tk)) fun σ H Q q => ?_⟩
  obtain ⟨S, hS, rfl, rfl, q⟩ := q
  refine ⟨S, hS, rfl, rfl, q.bnd fun os S1 es1 g1 _ q1 vs rs => ?_⟩
  cases e1 : vals? os with
  | none => simp only [e1] at q1; exact q1.elim
  | some ds =>
    simp only [e1] at q1
    have r := vals_rep rs e1
    by_cases c : ds.length ≤ 1000000
    · rw [if_pos c] at q1
      exact ⟨by rw [← r.length]; exact big_ok c, Fin.newT g1.rel (fin_of (q1.vfrom hS g1 es1)) r⟩
    · rw [if_neg c] at q1; exact q1.elim
theorem re_lst {es : List Expr} {f : M (List Od)} (h : RA X es f) : RE X (.List es pos) (mkL f) := by
  refine ⟨fun Wi tk => pe_imp (pe_lst (h.run Wi tk)) fun σ H Q q => ?_⟩
  obtain ⟨S, hS, rfl, rfl, q⟩ := q
  refine ⟨S, hS, rfl, rfl, q.bnd fun os S1 es1 g1 _ q1 vs rs => ?_⟩
  cases e1 : vals? os with
  | none => simp only [e1] at q1; exact q1.elim
  | some ds =>
    simp only [e1] at q1
    have r := vals_rep rs e1
    by_cases c : ds.length ≤ 1000000
    · rw [if_pos c] at q1
      exact ⟨by rw [← r.length]; exact big_ok c, Fin.newL g1.rel (fin_of (q1.vfrom hS g1 es1)) r⟩
    · rw [if_neg c] at q1; exact q1.elim
/-! ### subscripts, slices -/
def ixA {α : Type} (xs : List α) (i : Int) : Option α := if 0 ≤ i then xs[i.toNat]? else if -(xs.length : Int) ≤ i then xs[(i + xs.length).toNat]? else none
def ixP : D → D → Option Vl
  | .lst xs, .int i => (ixA xs i).map .fz
  | .tup xs, .int i => (ixA xs i).map .fz
  | .scr ns, .int i => (ixA ns i).map fun n => .fz (.int n)
  | _, _ => none
theorem atI_ixA {xs : List V} {i : Int} {v : V} (h : ixA xs i = some v) : atI xs i = some v := by
  unfold ixA at h
  unfold atI ixN
  split at h
  · rename_i c
    have : i < xs.length := by
      have := (List.getElem?_eq_some_iff.mp h).1
      omega
    rw [if_pos c, if_pos this]
    exact h
  · rename_i c
    split at h
    · rename_i c2
      rw [if_neg c, if_pos c2]
      exact h
    · cases h
theorem ixA_rep {K : PySem.W.Frag} {mg : MgT} {H : Hp} {B : Ad} {xs : List D} {vs : List V} (r : RepL K mg H B xs vs) {i : Int} {d : D} (h : ixA xs i = some d) : ∃ v, ixA vs i = some v ∧ Rep K mg H B d v := by
  unfold ixA at h ⊢
  rw [← r.length]
  split at h
  · rename_i c; rw [if_pos c]; exact r.get h
  · rename_i c
    split at h
    · rename_i c2; rw [if_neg c, if_pos c2]; exact r.get h
    · cases h
theorem p_ix {K : PySem.W.Frag} {mg : MgT} : P2 K mg (fun x y H Q => rIxL K x y H Q ∨ rIxT K x y H Q) ixP := fun S d e x y a Q hS h ox oy f => by
  unfold ixP at h
  split at h
  · rename_i xs i
    cases e1 : ixA xs i with
    | none => rw [e1] at h; cases h
    | some z =>
      rw [e1] at h; cases h
      obtain ⟨l, vs, rfl, h1, r1⟩ := ox
      obtain ⟨v, h2, r2⟩ := ixA_rep r1 e1
      rw [oy.int]
      exact .inl ⟨l, vs, i, v, rfl, rfl, .inl (.inl h1), atI_ixA h2, f.d hS r2⟩
  · rename_i xs i
    cases e1 : ixA xs i with
    | none => rw [e1] at h; cases h
    | some z =>
      rw [e1] at h; cases h
      obtain ⟨l, vs, rfl, h1, r1⟩ := ox.tup
      obtain ⟨v, h2, r2⟩ := ixA_rep r1 e1
      rw [oy.int]
      exact .inr ⟨l, vs, i, v, rfl, rfl, h1, atI_ixA h2, f.d hS r2⟩
  · rename_i ns i
    cases e1 : ixA ns i with
    | none => rw [e1] at h; cases h
    | some z =>
      rw [e1] at h; cases h
      have h2 : ixA (ns.map V.int) i = some (.int z) := by
        unfold ixA at e1 ⊢
        rw [List.length_map]
        split at e1
        · rename_i c; rw [if_pos c, List.getElem?_map, e1]; rfl
        · rename_i c
          split at e1
          · rename_i c2; rw [if_neg c, if_pos c2, List.getElem?_map, e1]; rfl
          · cases e1
      rw [oy.int]
      cases ox with
      | scr hb h1 => exact .inl ⟨_, _, i, .int z, rfl, rfl, .inl h1, atI_ixA h2, f.d hS (.int z)⟩
      | scrK h1 => exact .inl ⟨_, _, i, .int z, rfl, rfl, h1 _, atI_ixA h2, f.d hS (.int z)⟩
  · cases h
theorem re_ix {f g : M Od} (ha : RO X a f) (hb : RO X b g) (hs : PlainIx b := by exact fun _ _ => rfl) : RE X (.Subscript a b pos) (bin ixP f g) :=
  ⟨fun Wi tk => pe_imp (pe_ix (ix_list.or ix_tup) (ha.run Wi tk) (hb.run Wi tk) hs) (tbin p_ix)⟩
end
end KL
end

section
set_option Elab.async false
set_option linter.all false
set_option maxRecDepth 100000
namespace KL
open PySem L2
variable [Tabs]

inductive Out where
  | nx (ρ : Env) | rt (a : Vl) (ρ : Env) | bk (ρ : Env) | ct (ρ : Env) | ex (e : D) (ρ : Env) | bad
abbrev SM := Env → Out
section
variable (K : PySem.W.Frag) (mg : MgT)
def SatS (Wi : WX) (S : Sx) (Dn : Ends) : Out → Prop
  | .nx ρ' => ∀ S' : Sx, S'.ρ = ρ' → Go K mg S S' → Dn.nx S'.σ S'.H
  | .bk ρ' => ∀ S' : Sx, S'.ρ = ρ' → Go K mg S S' → Dn.bk S'.σ S'.H
  | .ct ρ' => ∀ S' : Sx, S'.ρ = ρ' → Go K mg S S' → Dn.ct S'.σ S'.H
  | .rt a ρ' => ∀ (S' : Sx) (v : V), S'.ρ = ρ' → Go K mg S S' → RepV K mg S S' a v → Dn.rt v S'.H
  | .ex e ρ' => ∀ (S' : Sx) (cls : Value) (dd : Option Addr), S'.ρ = ρ' → Go K mg S S' → RepX K mg S' e cls dd → Wi cls dd S'.σ S'.H
  | .bad => False
def TS_ (Wi : WX) (f : SM) : TS := fun D σ H => ∃ S : Sx, S.rel K mg ∧ S.σ = σ ∧ S.H = H ∧ SatS K mg Wi S D (f S.ρ)
end
structure RS (X : Cx) (st : Stmt) (f : SM) : Prop where
  run : ∀ Wi, Takes X Wi → PS X st (TS_ X.K X.mg Wi f)
structure RSs (X : Cx) (st : List Stmt) (f : SM) : Prop where
  run : ∀ Wi, Takes X Wi → PSs X st (TS_ X.K X.mg Wi f)
theorem ps_imp {X : Cx} {e : Stmt} {t t' : TS} (h : PS X e t) (k : ∀ D σ H, t' D σ H → t D σ H) : PS X e t' := ⟨fun pins s σ H D I q => h.run pins s σ H D I (k D σ H q)⟩
theorem pss_imp {X : Cx} {e : List Stmt} {t t' : TS} (h : PSs X e t) (k : ∀ D σ H, t' D σ H → t D σ H) : PSs X e t' := ⟨fun pins s σ H D I q => h.run pins s σ H D I (k D σ H q)⟩
section
variable {K : PySem.W.Frag} {mg : MgT} {S S1 : Sx} {Wi : WX} {Dn Dn' : Ends} {o : Out}
theorem SatS.from (h : S.rel K mg) (hs : SatS K mg Wi S Dn o) (g : Go K mg S S1) : SatS K mg Wi S1 Dn o := by
  cases o with
  | bad => exact hs
  | nx ρ => exact fun S' a1 a3 => hs S' a1 (g.trans h a3)
  | bk ρ => exact fun S' a1 a3 => hs S' a1 (g.trans h a3)
  | ct ρ => exact fun S' a1 a3 => hs S' a1 (g.trans h a3)
  | rt a ρ => exact fun S' v a1 a3 r => hs S' v a1 (g.trans h a3) (r.from g)
  | ex e ρ => exact fun S' cls dd a1 a3 a4 => hs S' cls dd a1 (g.trans h a3) a4
def seqS (f g : SM) : SM := fun ρ => match f ρ with
  | .nx ρ1 => g ρ1
  | o => o
def nxS : SM := fun ρ => .nx ρ
/-- an expression's result, then a statement's -/
def bndS {α : Type} (r : R α) (f : α → Env → Out) : Out := match r with
  | .ok a ρ => f a ρ
  | .ex e ρ => .ex e ρ
  | .bad => .bad
theorem SatS.bnd {α : Type} {r : R α} {f : α → Env → Out} {Φ : α → Sx → Prop} (hs : SatS K mg Wi S Dn (bndS r f)) (k : ∀ a S1, S1.σ = S.σ → Go K mg S S1 → r = .ok a S1.ρ → SatS K mg Wi S Dn (f a S1.ρ) → Φ a S1) : Sat K mg Wi S Φ r := by
  cases r with
  | bad => exact hs
  | ex e ρ => exact fun S' cls dd a1 a2 a3 a4 => hs S' cls dd a1 a3 a4
  | ok a ρ =>
    intro S1 e1 e2 g
    subst e1
    exact k a S1 e2 g rfl hs
end
section
variable {X : Cx} {pos : Pos}
theorem rss_nil : RSs X [] nxS := by
  refine ⟨fun Wi tk => pss_imp pss_nil fun D σ H q => ?_⟩
  obtain ⟨S, hS, rfl, rfl, q⟩ := q
  exact q S rfl (Go.refl hS)
theorem rss_cons {st : Stmt} {rest : List Stmt} {f g : SM} (h1 : RS X st f) (h2 : RSs X rest g) : RSs X (st :: rest) (seqS f g) := by
  refine ⟨fun Wi tk => pss_imp (pss_cons (h1.run Wi tk) (h2.run Wi tk)) fun D σ H q => ?_⟩
  obtain ⟨S, hS, rfl, rfl, q⟩ := q
  refine ⟨S, hS, rfl, rfl, ?_⟩
  unfold seqS at q
  cases e : f S.ρ with
  | nx ρ1 =>
    rw [e] at q
    intro S1 e1 g1
    subst e1
    exact ⟨S1, g1.rel, rfl, rfl, SatS.from hS q g1⟩
  | bad => rw [e] at q; exact q
  | bk ρ => rw [e] at q; exact q
  | ct ρ => rw [e] at q; exact q
  | rt a ρ => rw [e] at q; exact q
  | ex a ρ => rw [e] at q; exact q
theorem rss_one {st : Stmt} {f : SM} (h1 : RS X st f) : RSs X [st] f := by
  refine ⟨fun Wi tk => pss_imp (pss_one (h1.run Wi tk)) fun D σ H q => q⟩
theorem rs_pass : RS X (.Pass pos) nxS := by
  refine ⟨fun Wi tk => ps_imp ps_pass fun D σ H q => ?_⟩
  obtain ⟨S, hS, rfl, rfl, q⟩ := q
  exact q S rfl (Go.refl hS)
theorem rs_break : RS X (.Break pos) (fun ρ => .bk ρ) := by
  refine ⟨fun Wi tk => ps_imp ps_break fun D σ H q => ?_⟩
  obtain ⟨S, hS, rfl, rfl, q⟩ := q
  exact q S rfl (Go.refl hS)
theorem rs_continue : RS X (.Continue pos) (fun ρ => .ct ρ) := by
  refine ⟨fun Wi tk => ps_imp ps_continue fun D σ H q => ?_⟩
  obtain ⟨S, hS, rfl, rfl, q⟩ := q
  exact q S rfl (Go.refl hS)
/-- a value that nobody keeps -/
def exS (f : M Vl) : SM := fun ρ => bndS (f ρ) fun _ ρ1 => .nx ρ1
theorem rs_expr {e : Expr} {f : M Vl} (he : RE X e f) (hs : swapsWith e none pos.line X.env = pure false := by rfl) : RS X (.Expr e pos) (exS f) := by
  refine ⟨fun Wi tk => ps_imp (ps_expr (he.run Wi tk) hs) fun D σ H q => ?_⟩
  obtain ⟨S, hS, rfl, rfl, q⟩ := q
  refine ⟨S, hS, rfl, rfl, q.bnd fun a S1 es g _ q1 v _ => ?_⟩
  rw [← es]
  exact q1 S1 rfl g
def retS (f : M Vl) : SM := fun ρ => bndS (f ρ) fun a ρ1 => .rt a ρ1
theorem rs_ret {e : Expr} {f : M Vl} (he : RE X e f) : RS X (.Return (some e) pos) (retS f) := by
  refine ⟨fun Wi tk => ps_imp (ps_ret (he.run Wi tk)) fun D σ H q => ?_⟩
  obtain ⟨S, hS, rfl, rfl, q⟩ := q
  exact ⟨S, hS, rfl, rfl, q.bnd fun a S1 es g _ q1 v rv => q1 S1 v rfl g rv⟩
theorem rs_retN : RS X (.Return none pos) (fun ρ => .rt (.fz .non) ρ) := by
  refine ⟨fun Wi tk => ps_imp ps_retN fun D σ H q => ?_⟩
  obtain ⟨S, hS, rfl, rfl, q⟩ := q
  exact q S .non rfl (Go.refl hS) .non
def ifS (c : M Bool) (f g : SM) : SM := fun ρ => bndS (c ρ) fun b ρ1 => if b = true then f ρ1 else g ρ1
theorem rs_if {c : Expr} {a b : List Stmt} {fc : M Bool} {f g : SM} (hc : RT X c fc) (ha : RSs X a f) (hb : RSs X b g) : RS X (.If c a b pos) (ifS fc f g) := by
  refine ⟨fun Wi tk => ps_imp (ps_if (hc.run Wi tk) (ha.run Wi tk) (hb.run Wi tk)) fun D σ H q => ?_⟩
  obtain ⟨S, hS, rfl, rfl, q⟩ := q
  refine ⟨S, hS, rfl, rfl, q.bnd fun c S1 es g1 _ q1 => ?_⟩
  have q2 := SatS.from hS q1 g1
  cases c with
  | true => dsimp only; rw [if_pos rfl] at q2 ⊢; exact ⟨S1, g1.rel, es, rfl, q2⟩
  | false => dsimp only; rw [if_neg Bool.false_ne_true] at q2 ⊢; exact ⟨S1, g1.rel, es, rfl, q2⟩

/-! ### stores -/
def Vl.sl : Vl → Sl
  | .fz d => .va d
  | .fr xs => .ow xs
def notIo (ρ : Env) (i : Nat) : Bool := match ρ[i]? with
  | some (.io _) => false
  | _ => true
def put (i : Nat) (a : Vl) (ρ : Env) : Out := if notIo ρ i = true then .nx (ρ.set i a.sl) else .bad
def setS (i : Nat) (f : M Vl) : SM := fun ρ => bndS (f ρ) fun a ρ1 => put i a ρ1
/-- a value is laid into a slot -/
theorem go_put {K : PySem.W.Frag} {mg : MgT} {S S1 : Sx} {i : Nat} {a : Vl} {v : V} (h : S.rel K mg) (g : Go K mg S S1) (rv : RepV K mg S S1 a v) (ni : notIo S1.ρ i = true) : Go K mg S ⟨S1.B, S1.ρ.set i a.sl, S1.σ.set i (some v), S1.H⟩ := by
  have h1 := g.rel
  have sg : ∀ j, j ≠ i → (S1.σ.set i (some v))[j]? = S1.σ[j]? := fun j ne => List.getElem?_set_ne (Ne.symm ne)
  have si : ∀ {r : Sl}, (S1.ρ.set i a.sl)[i]? = some r → (S1.σ.set i (some v))[i]? = some (some v) := fun {r} e => by
    have : i < S1.ρ.length := by
      have := (List.getElem?_eq_some_iff.mp e).1
      simpa using this
    exact List.getElem?_set_self (by rw [← h1.len]; exact this)
  have own : ∀ j b, OwnAt (S1.ρ.set i a.sl) (S1.σ.set i (some v)) j b → (j ≠ i ∧ OwnAt S1.ρ S1.σ j b) ∨ (j = i ∧ v = .ref b ∧ ∃ xs, a = .fr xs) := fun j b ⟨⟨r, e1, e2⟩, e3⟩ => by
    rcases set_some e1 with ⟨rfl, rfl⟩ | ⟨ne, f1⟩
    · rw [si e1] at e3
      refine .inr ⟨rfl, Option.some.inj (Option.some.inj e3), ?_⟩
      cases a with
      | fz d => cases e2
      | fr xs => exact ⟨xs, rfl⟩
    · rw [sg j ne] at e3
      exact .inl ⟨ne, ⟨r, f1, e2⟩, e3⟩
  have frOwn : ∀ {b xs}, a = .fr xs → v = .ref b → (Own S.ρ S.σ b ∨ S.H b = none) ∧ ¬ Own S1.ρ S1.σ b := fun {b xs} ea ev => by
    subst ea; subst ev
    obtain ⟨c, vs, e, z, _, hw, _⟩ := rv
    cases e
    exact ⟨z, hw⟩
  refine ⟨⟨?_, fun j r e => ?_, fun j k b o1 o2 => ?_, h1.alloc, h1.tab⟩, ⟨g.tr.keep, g.tr.there, g.tr.bnew, fun b ⟨j, z⟩ => ?_, g.tr.bkeep, g.tr.tabs⟩, fun j r e1 e2 => ?_, ?_⟩
  · show (S1.ρ.set i a.sl).length = (S1.σ.set i (some v)).length
    rw [List.length_set, List.length_set]; exact h1.len
  · have e : (S1.ρ.set i a.sl)[j]? = some r := e
    show SlR K mg S1.H S1.B r ((S1.σ.set i (some v))[j]?.getD none)
    rcases set_some e with ⟨rfl, rfl⟩ | ⟨ne, f1⟩
    · rw [getD_of (si e)]
      cases a with
      | fz d => exact ⟨v, rfl, rv⟩
      | fr xs =>
        obtain ⟨c, vs, e, _, hb, _, hh, hr⟩ := rv
        subst e
        exact ⟨c, vs, rfl, hb, hh, hr⟩
    · rw [sg j ne]; exact h1.sl j r f1
  · rcases own j b o1 with ⟨n1, z1⟩ | ⟨n1, z1, xs, z2⟩
    · rcases own k b o2 with ⟨m1, y1⟩ | ⟨m1, y1, xs, y2⟩
      · exact h1.dist j k b z1 y1
      · exact absurd ⟨j, z1⟩ (frOwn y2 y1).2
    · rcases own k b o2 with ⟨m1, y1⟩ | ⟨m1, y1, ys, y2⟩
      · exact absurd ⟨k, y1⟩ (frOwn z2 z1).2
      · rw [n1, m1]
  · rcases own j b z with ⟨n1, z1⟩ | ⟨n1, z1, xs, z2⟩
    · exact g.tr.wnew b ⟨j, z1⟩
    · exact (frOwn z2 z1).1
  · obtain ⟨f1, r', f2, f3⟩ := g.io j r e1 e2
    have ne : j ≠ i := fun ej => by
      subst ej
      unfold notIo at ni
      rw [f2] at ni
      cases r' with
      | io xs => exact Bool.noConfusion ni
      | _ => exact nomatch f3
    exact ⟨(sg j ne).trans f1, r', (List.getElem?_set_ne (Ne.symm ne)).trans f2, f3⟩
  · show (S1.σ.set i (some v)).length = _
    rw [List.length_set]; exact g.len
theorem put_sat {K : PySem.W.Frag} {mg : MgT} {Wi : WX} {Dn : Ends} {S S1 : Sx} {i : Nat} {a : Vl} {v : V} (h : S.rel K mg) (g : Go K mg S S1) (rv : RepV K mg S S1 a v) (q : SatS K mg Wi S Dn (put i a S1.ρ)) : Dn.nx (S1.σ.set i (some v)) S1.H := by
  unfold put at q
  by_cases c : notIo S1.ρ i = true
  · rw [if_pos c] at q
    exact q ⟨S1.B, S1.ρ.set i a.sl, S1.σ.set i (some v), S1.H⟩ rfl (go_put h g rv c)
  · rw [if_neg c] at q
    exact q.elim
theorem rs_set {i : Nat} {x : Str} {e : Expr} {f : M Vl} {pos' : Pos} (hN : X.N.Nodup) (hi : X.N[i]? = some x) (hx : Loc X.env.scope x) (he : RE X e f) (hs : swapsWith e (some (.Name x pos')) pos.line X.env = pure false := by rfl)
    (hf : X.fn x = true ∨ X.env.scope.names.lookup x = some .local := by first | exact .inl rfl | exact .inr rfl | assumption) : RS X (.Assign [.Name x pos'] e pos) (setS i f) := by
  refine ⟨fun Wi tk => ps_imp (L2.ps_set hN hi hx (he.run Wi tk) hs hf) fun D σ H q => ?_⟩
  obtain ⟨S, hS, rfl, rfl, q⟩ := q
  refine ⟨S, hS, rfl, rfl, q.bnd fun a S1 es g _ q1 v rv => ?_⟩
  rw [← es]
  exact put_sat hS g rv q1
/-- a, b, .. = a tuple -/
def puts : List Nat → List D → Env → Out
  | [], [], ρ => .nx ρ
  | i :: is, d :: ds, ρ => if notIo ρ i = true then puts is ds (ρ.set i (.va d)) else .bad
  | _, _, _ => .bad
def gNames : List Nat → TGs
  | [] => gNil
  | i :: is => gCons (gName i) (gNames is)
def unpS (is : List Nat) (f : M Od) : SM := fun ρ => bndS (f ρ) fun a ρ1 => match a.get ρ1 with
  | some (.tup ds) => if ds.length = is.length then puts is ds ρ1 else .bad
  | _ => .bad
theorem puts_sat {K : PySem.W.Frag} {mg : MgT} {Wi : WX} {Dn : Ends} : ∀ {is : List Nat} {ds : List D} {vs : List V} {S : Sx}, S.rel K mg → RepL K mg S.H S.B ds vs → SatS K mg Wi S Dn (puts is ds S.ρ) → gNames is vs S.σ S.H Dn.nx
  | [], [], _, S, h, .nil, q => ⟨rfl, q S rfl (Go.refl h)⟩
  | [], _ :: _, _, _, _, _, q => q.elim
  | i :: is, [], _, _, _, _, q => q.elim
  | i :: is, d :: ds, _, S, h, .cons (v := v) (vs := vs) r rs, q => by
    refine ⟨v, vs, rfl, ?_⟩
    unfold puts at q
    by_cases c : notIo S.ρ i = true
    · rw [if_pos c] at q
      have g : Go K mg S ⟨S.B, S.ρ.set i (.va d), S.σ.set i (some v), S.H⟩ := go_put (a := .fz d) h (Go.refl h) r c
      exact puts_sat (S := ⟨S.B, S.ρ.set i (.va d), S.σ.set i (some v), S.H⟩) g.rel rs (SatS.from h q g)
    · rw [if_neg c] at q; exact q.elim
theorem rs_unp {is : List Nat} {es : List Expr} {e : Expr} {k : Nat} {tpos : Pos} {f : M Od} {n : Nat} (hc : X.calm = true) (hg : PGs X es (gNames is)) (he : RO X e f) (hn : (assignEach es X.env).length = n := by rfl) (hst : (assignEach es X.env).findIdx? (·.1) = none := by rfl) (hl : is.length = n := by rfl)
    (hs : swapsWithSole [.Tuple es k tpos] e pos.line X.env = pure false := by rfl) (hw : swappedStores [.Tuple es k tpos] e X.env = pure none := by rfl)
    (h1 : (assignEach [.Tuple es k tpos] X.env).map (·.2) = [assign (.Tuple es k tpos) X.env] := by rfl) : RS X (.Assign [.Tuple es k tpos] e pos) (unpS is f) := by
  refine ⟨fun Wi tk => ps_imp (ps_asg (he.run Wi tk) (pg_tup hc hg hn hst) hs hw h1) fun D σ H q => ?_⟩
  obtain ⟨S, hS, rfl, rfl, q⟩ := q
  refine ⟨S, hS, rfl, rfl, q.bnd fun a S1 es1 g _ q1 v rv => ?_⟩
  cases e1 : a.get S1.ρ with
  | none => simp only [e1] at q1; exact q1.elim
  | some d =>
    cases d with
    | tup ds =>
      simp only [e1] at q1
      by_cases c : ds.length = is.length
      · rw [if_pos c] at q1
        obtain ⟨b, vs, rfl, h2, r⟩ := (opn_of g.rel rv e1).tup
        rw [← es1]
        exact ⟨b, vs, rfl, h2, by rw [← r.length, c, hl], puts_sat g.rel r (SatS.from hS q1 g)⟩
      · rw [if_neg c] at q1; exact q1.elim
    | _ => simp only [e1] at q1; exact q1.elim
end
end KL
end

section
set_option Elab.async false
set_option linter.all false
set_option maxRecDepth 100000
namespace KL
open PySem L2
variable [Tabs]

/-! ### a list of one's own is changed -/
def Sl.lst? : Sl → Option (List D)
  | .ow xs => some xs
  | .io xs => some xs
  | _ => none
def Sl.upd (ys : List D) : Sl → Sl
  | .ow _ => .ow ys
  | .io _ => .io ys
  | q => q
section
variable {K : PySem.W.Frag} {mg : MgT} {S S1 : Sx}
/-- the slot's list -/
theorem own_at (h : S.rel K mg) {i : Nat} {q : Sl} {xs : List D} (e : S.ρ[i]? = some q) (e2 : q.lst? = some xs) : ∃ l vs, S.σ[i]? = some (some (.ref l)) ∧ S.H l = some (.lst vs) ∧ RepL K mg S.H S.B xs vs ∧ OwnAt S.ρ S.σ i l ∧ S.B l := by
  have y := h.sl i q e
  cases q with
  | un => cases e2
  | va d => cases e2
  | ow ys =>
    cases e2
    obtain ⟨l, vs, e1, e3, e4, e5⟩ := y
    exact ⟨l, vs, getD_some e1, e4, e5, ⟨⟨_, e, rfl⟩, getD_some e1⟩, e3⟩
  | io ys =>
    cases e2
    obtain ⟨l, vs, e1, e3, e4, e5⟩ := y
    exact ⟨l, vs, getD_some e1, e4, e5, ⟨⟨_, e, rfl⟩, getD_some e1⟩, e3⟩
theorem go_mut (h : S.rel K mg) {i : Nat} {q : Sl} {l : Addr} {ys : List D} {ws : List V} (e : S.ρ[i]? = some q) (hO : OwnAt S.ρ S.σ i l) (hr : RepL K mg S.H S.B ys ws) : Go K mg S ⟨S.B, S.ρ.set i (q.upd ys), S.σ, upd S.H l (.lst ws)⟩ := by
  have hl : S.B l := h.wb ⟨i, hO⟩
  have hm : q.mine = true := by
    obtain ⟨⟨r, e1, e2⟩, _⟩ := hO
    rw [e] at e1; cases e1; exact e2
  have ne : ∀ a, ¬ S.B a → a ≠ l := fun a hb z => hb (by rw [z]; exact hl)
  have fe : FE S.B S.H S.B (upd S.H l (.lst ws)) := ⟨fun a o z hb _ => by rw [upd_ne (ne a hb)]; exact z, fun a z => .inl z, fun a z hb => by rw [upd_ne (ne a hb)]; exact z⟩
  have tb : ∀ a, GxR.TabG S.H a → ¬ S.B a → GxR.TabG (upd S.H l (.lst ws)) a := fun a ⟨ps, z, q⟩ hb => ⟨ps, by rw [upd_ne (ne a hb)]; exact z, q⟩
  have um : (q.upd ys).mine = true := by cases q <;> first | rfl | exact hm
  have ui : (q.upd ys).isIo = q.isIo := by cases q <;> rfl
  have own : ∀ j b, OwnAt (S.ρ.set i (q.upd ys)) S.σ j b → OwnAt S.ρ S.σ j b := fun j b ⟨⟨r, e1, e2⟩, e3⟩ => by
    rcases set_some e1 with ⟨rfl, rfl⟩ | ⟨_, f1⟩
    · exact ⟨⟨q, e, hm⟩, e3⟩
    · exact ⟨⟨r, f1, e2⟩, e3⟩
  have nn : ∀ a, S.H a ≠ none → upd S.H l (.lst ws) a ≠ none := fun a z => by
    by_cases c : a = l
    · rw [c, upd_same]; simp
    · rw [upd_ne c]; exact z
  refine ⟨⟨by show (S.ρ.set i _).length = _; rw [List.length_set]; exact h.len, fun j r e1 => ?_, fun j k b o1 o2 => h.dist j k b (own j b o1) (own k b o2), fun a z => nn a (h.alloc a z), fun a z => ⟨tb a (h.tab a z).1 (h.tab a z).2, (h.tab a z).2⟩⟩,
    ⟨fun a o z nw _ => ?_, nn, fun a z => .inl z, fun a ⟨j, z⟩ => .inl ⟨j, own j a z⟩, fun a z _ => z, tb⟩, fun j r e1 e2 => ⟨rfl, ?_⟩, rfl⟩
  · have e1 : (S.ρ.set i (q.upd ys))[j]? = some r := e1
    show SlR K mg (upd S.H l (.lst ws)) S.B r (S.σ[j]?.getD none)
    rcases set_some e1 with ⟨rfl, rfl⟩ | ⟨nj, f1⟩
    · rw [getD_of hO.2]
      cases q with
      | un => cases hm
      | va d => cases hm
      | ow zs => exact ⟨l, ws, rfl, hl, upd_same, RepL.mono fe hr⟩
      | io zs => exact ⟨l, ws, rfl, hl, upd_same, RepL.mono fe hr⟩
    · have y := h.sl j r f1
      have other : ∀ b, S.σ[j]?.getD none = some (.ref b) → r.mine = true → b ≠ l := fun b eb em z => by
        subst z
        exact nj (h.dist j i b ⟨⟨r, f1, em⟩, getD_some eb⟩ hO)
      cases r with
      | un => trivial
      | va d => obtain ⟨w, a1, a2⟩ := y; exact ⟨w, a1, Rep.mono fe a2⟩
      | ow zs => obtain ⟨b, us, a1, a2, a3, a4⟩ := y; exact ⟨b, us, a1, a2, by rw [upd_ne (other b a1 rfl)]; exact a3, RepL.mono fe a4⟩
      | io zs => obtain ⟨b, us, a1, a2, a3, a4⟩ := y; exact ⟨b, us, a1, a2, by rw [upd_ne (other b a1 rfl)]; exact a3, RepL.mono fe a4⟩
  · show upd S.H l (.lst ws) a = some o
    rw [upd_ne (fun c => nw (by rw [c]; exact ⟨i, hO⟩))]; exact z
  · show ∃ q', (S.ρ.set i (q.upd ys))[j]? = some q' ∧ _
    by_cases c : j = i
    · subst c
      rw [e] at e1; cases e1
      refine ⟨q.upd ys, List.getElem?_set_self (by
        have := (List.getElem?_eq_some_iff.mp e).1
        exact this), by rw [ui]; exact e2⟩
    · exact ⟨r, by rw [List.getElem?_set_ne (Ne.symm c)]; exact e1, e2⟩
end
/-- a method that changes the slot's list: what it gives, the list behind it -/
abbrev Upd := List D → List D → Option (D × List D)
def mtU (i : Nat) (g : Upd) (os : List Od) : M Vl := fun ρ => match vals? os with
  | some ds => match ρ[i]? with
    | some q => match q.lst? with
      | some xs => match g xs ds with
        | some (d, ys) => .ok (.fz d) (ρ.set i (q.upd ys))
        | none => .bad
      | none => .bad
    | none => .bad
  | none => .bad
def isOwn (ρ : Env) (i : Nat) : Bool := match ρ[i]? with
  | some q => q.mine
  | none => false
def mtd (i : Nat) (g : Upd) (f : M (List Od)) : M Vl := fun ρ => if isOwn ρ i = true then bnd (f ρ) fun os ρ1 => mtU i g os ρ1 else .bad
def Mut_ (K : PySem.W.Frag) (mg : MgT) (r : V → List V → Hp → VK → Prop) (g : Upd) : Prop := ∀ (H : Hp) (B : Ad) (l : Addr) (xs : List D) (vs : List V) (ds : List D) (us : List V) (d : D) (ys : List D) (Q : VK),
  H l = some (.lst vs) → RepL K mg H B xs vs → RepL K mg H B ds us → g xs ds = some (d, ys) → (∀ v ws, RepL K mg H B ys ws → Rep K mg (upd H l (.lst ws)) B d v → Q v (upd H l (.lst ws))) → B l → r (.ref l) us H Q
section
variable {K : PySem.W.Frag} {mg : MgT} {S S1 : Sx} {Wi : WX} {Q : VK}
theorem isOwn_at (h : S.rel K mg) {i : Nat} (e : isOwn S.ρ i = true) : ∃ l vs, S.σ[i]? = some (some (.ref l)) ∧ S.H l = some (.lst vs) := by
  unfold isOwn at e
  cases e1 : S.ρ[i]? with
  | none => rw [e1] at e; exact Bool.noConfusion e
  | some q =>
    rw [e1] at e
    have : ∃ xs, q.lst? = some xs := by cases q <;> first | exact ⟨_, rfl⟩ | exact nomatch e
    obtain ⟨xs, e2⟩ := this
    obtain ⟨l, vs, a1, a2, _⟩ := own_at h e1 e2
    exact ⟨l, vs, a1, a2⟩
theorem upd_fe {B : Ad} {H : Hp} {l : Addr} {ws : List V} (hb : B l) : FE B H B (upd H l (.lst ws)) := ⟨fun a o z nb _ => by rw [upd_ne (fun c => nb (by rw [c]; exact hb))]; exact z, fun a z => .inl z, fun a z nb => by rw [upd_ne (fun c => nb (by rw [c]; exact hb))]; exact z⟩
theorem mtU_sat {r : V → List V → Hp → VK → Prop} {g : Upd} {i : Nat} {os : List Od} {vs : List V} {l : Addr} (hm : Mut_ K mg r g) (h : S.rel K mg) (g1 : Go K mg S S1) (es : S1.σ = S.σ) (rs : RepOs K mg S1 os vs) (hl : S1.σ[i]? = some (some (.ref l)))
    (q : Sat K mg Wi S (fun a S' => ∀ v, RepV K mg S S' a v → Q v S'.H) (mtU i g os S1.ρ)) : r (.ref l) vs S1.H Q := by
  unfold mtU at q
  cases e1 : vals? os with
  | none => simp only [e1] at q; exact q.elim
  | some ds =>
    cases e2 : S1.ρ[i]? with
    | none => simp only [e1, e2] at q; exact q.elim
    | some sl =>
      cases e3 : sl.lst? with
      | none => simp only [e1, e2, e3] at q; exact q.elim
      | some xs =>
        cases e4 : g xs ds with
        | none => simp only [e1, e2, e3, e4] at q; exact q.elim
        | some p =>
          obtain ⟨d, ys⟩ := p
          simp only [e1, e2, e3, e4] at q
          obtain ⟨l', ws, a1, a2, a3, a4, a5⟩ := own_at g1.rel e2 e3
          rw [hl] at a1
          cases a1
          refine hm S1.H S1.B l xs ws ds vs d ys Q a2 a3 (vals_rep rs e1) e4 (fun v us r1 r2 => ?_) a5
          have g2 := go_mut g1.rel (ys := ys) (ws := us) e2 a4 r1
          exact q ⟨S1.B, S1.ρ.set i (sl.upd ys), S1.σ, upd S1.H l (.lst us)⟩ rfl es (g1.trans h g2) v r2
end
section
variable {X : Cx} {apos cpos : Pos}
theorem re_mtd {x name : Str} {pos : Pos} {e : Expr} {es : List Expr} {f : M (List Od)} {g : Upd} {r : V → List V → Hp → VK → Prop} {id : String} (i : Nat) (slot : Slot "list" name id) (hty : typeOf (.builtin id) = pure (.type "method_descriptor")) (hm : MtR X id r) (hu : Mut_ X.K X.mg r g)
    (ha : RA X (e :: es) f) (hN : X.N[i]? = some x := by rfl) (hv : Vis X.env.scope x := by first | exact Or.inl rfl | exact Or.inr (Or.inl rfl) | exact Or.inr (Or.inr rfl)) (hd : (x == ("__debug__" : Str)) = false := by decide) (hcd : (x == ("__classdict__" : Str)) = false := by decide)
    (hbase : attributeBase (.Name x pos) name X.env (eval (.Name x pos) X.env) = eval (.Name x pos) X.env := by rfl)
    (hfew : ((backTo cpos (starEach (e :: es) X.env)).all (fun x => !x.1) && (backToKw cpos (keywordEach [] X.env)).all (fun x => x.1.isSome)
      && decide ((e :: es).length + ([] : List Keyword).length + (if ([] : List Keyword).isEmpty then 0 else 1) < 30)) = true := by rfl)
    (hline : (apos.endLine == cpos.line) = true := by rfl) (hs : starEach (e :: es) X.env = (false, eval e X.env) :: starEach es X.env := by rfl) (hplain : (backTo cpos (starEach es X.env)).any (·.1) = false := by rfl) :
    RE X (.Call (.Attribute (.Name x pos) name apos) (e :: es) [] cpos) (mtd i g f) := by
  refine ⟨fun Wi tk => pe_imp (pe_bm PySem.F.plainAttrs_list slot hty hm (pe_var hN hv hd hcd) (ha.run Wi tk) hbase hfew hline hs hplain) fun σ H Q q => ?_⟩
  obtain ⟨S, hS, rfl, rfl, q⟩ := q
  unfold mtd at q
  by_cases c : isOwn S.ρ i = true
  · rw [if_pos c] at q
    obtain ⟨l, vs, h1, h2⟩ := isOwn_at hS c
    exact ⟨.ref l, h1, .inl ⟨rfl, vs, .inl (.inl h2)⟩, S, hS, rfl, rfl, q.bnd fun os S1 es1 g1 _ q1 us rs => mtU_sat hu hS g1 es1 rs (by rw [es1]; exact h1) q1⟩
  · rw [if_neg c] at q; exact q.elim
theorem re_mtd0 {x name : Str} {pos : Pos} {g : Upd} {r : V → List V → Hp → VK → Prop} {id : String} (i : Nat) (slot : Slot "list" name id) (hty : typeOf (.builtin id) = pure (.type "method_descriptor")) (hm : MtR X id r) (hu : Mut_ X.K X.mg r g)
    (hN : X.N[i]? = some x := by rfl) (hv : Vis X.env.scope x := by first | exact Or.inl rfl | exact Or.inr (Or.inl rfl) | exact Or.inr (Or.inr rfl)) (hd : (x == ("__debug__" : Str)) = false := by decide) (hcd : (x == ("__classdict__" : Str)) = false := by decide)
    (hbase : attributeBase (.Name x pos) name X.env (eval (.Name x pos) X.env) = eval (.Name x pos) X.env := by rfl) (hline : (apos.endLine == cpos.line) = true := by rfl) :
    RE X (.Call (.Attribute (.Name x pos) name apos) [] [] cpos) (mtd i g aNil) := by
  refine ⟨fun Wi tk => pe_imp (pe_bm0 PySem.F.plainAttrs_list slot hty hm (pe_var hN hv hd hcd) hbase hline) fun σ H Q q => ?_⟩
  obtain ⟨S, hS, rfl, rfl, q⟩ := q
  unfold mtd at q
  by_cases c : isOwn S.ρ i = true
  · rw [if_pos c] at q
    obtain ⟨l, vs, h1, h2⟩ := isOwn_at hS c
    refine ⟨.ref l, h1, .inl ⟨rfl, vs, .inl (.inl h2)⟩, ?_⟩
    exact mtU_sat (S1 := S) (os := []) (vs := []) hu hS (Go.refl hS) rfl .nil h1 q
  · rw [if_neg c] at q; exact q.elim
/-! ### the methods -/
def gAppend : Upd
  | xs, [d] => if xs.length < 1000000 then some (.non, xs ++ [d]) else none
  | _, _ => none
def gPop : Upd
  | xs, [] => match xs.getLast? with
    | some d => some (d, xs.dropLast)
    | none => none
  | _, _ => none
def gPopAt : Upd
  | xs, [.int i] => if 0 ≤ i ∧ i < 1000000 then (match xs[i.toNat]? with
    | some d => some (d, xs.eraseIdx i.toNat)
    | none => none) else none
  | _, _ => none
def gInsert : Upd
  | xs, [.int i, d] => if 0 ≤ i ∧ i < 1000000 ∧ xs.length < 1000000 then some (.non, xs.take i.toNat ++ [d] ++ xs.drop i.toNat) else none
  | _, _ => none
def D.int? : D → Option Int
  | .int i => some i
  | _ => none
def ints? : List D → Option (List Int)
  | [] => some []
  | .int i :: r => match ints? r with
    | some is => some (i :: is)
    | none => none
  | _ :: _ => none
def gRemove : Upd
  | xs, [.int k] => match ints? xs with
    | some ns => if k ∈ ns then some (.non, (ns.erase k).map .int) else none
    | none => none
  | _, _ => none
theorem ints_map : ∀ {xs : List D} {ns : List Int}, ints? xs = some ns → xs = ns.map .int
  | [], ns, h => by cases h; rfl
  | .int i :: r, ns, h => by
    unfold ints? at h
    cases e : ints? r with
    | none => rw [e] at h; cases h
    | some is => rw [e] at h; cases h; rw [ints_map e]; rfl
  | .non :: _, _, h => by cases h
  | .bl _ :: _, _, h => by cases h
  | .str _ :: _, _, h => by cases h
  | .lst _ :: _, _, h => by cases h
  | .tup _ :: _, _, h => by cases h
  | .scr _ :: _, _, h => by cases h
  | .err _ _ :: _, _, h => by cases h
section
variable {K : PySem.W.Frag} {mg : MgT}
theorem mu_append : Mut_ K mg rAppend gAppend := fun H B l xs vs ds us d ys Q h1 h2 h3 h4 f hb => by
  unfold gAppend at h4
  split at h4
  · split at h4
    · rename_i c
      cases h4
      cases h3 with
      | cons r rn =>
        cases rn
        exact ⟨l, vs, _, rfl, rfl, h1, by rw [← h2.length]; exact Nat.lt_of_lt_of_le c (big_ok (Nat.le_refl _)), f _ _ (h2.append (.cons r .nil)) .non⟩
    · cases h4
  · cases h4
theorem RepL.dropLast {H : Hp} {B : Ad} : ∀ {xs : List D} {vs : List V}, RepL K mg H B xs vs → RepL K mg H B xs.dropLast vs.dropLast
  | _, _, .nil => .nil
  | _, _, .cons a .nil => .nil
  | _, _, .cons a (.cons b r) => .cons a (RepL.dropLast (.cons b r))
theorem RepL.eraseIdx {H : Hp} {B : Ad} : ∀ {xs : List D} {vs : List V} (i : Nat), RepL K mg H B xs vs → RepL K mg H B (xs.eraseIdx i) (vs.eraseIdx i)
  | _, _, _, .nil => .nil
  | _, _, 0, .cons a r => r
  | _, _, i + 1, .cons a r => .cons a (RepL.eraseIdx i r)
theorem mu_pop : Mut_ K mg rPop gPop := fun H B l xs vs ds us d ys Q h1 h2 h3 h4 f hb => by
  unfold gPop at h4
  split at h4
  · split at h4
    · rename_i z e
      cases h4
      cases h3
      rw [List.getLast?_eq_getElem?] at e
      obtain ⟨v, e2, r2⟩ := h2.get e
      rw [h2.length] at e2
      exact ⟨l, vs, v, rfl, rfl, h1, e2, f v _ h2.dropLast (Rep.mono (upd_fe hb) r2)⟩
    · cases h4
  · cases h4
theorem mu_popAt : Mut_ K mg rPopAt gPopAt := fun H B l xs vs ds us d ys Q h1 h2 h3 h4 f hb => by
  unfold gPopAt at h4
  split at h4
  · rename_i xs i
    split at h4
    · rename_i c
      split at h4
      · rename_i z e
        cases h4
        cases h3 with
        | cons r rn =>
          cases rn
          cases r
          obtain ⟨v, e2, r2⟩ := h2.get e
          have hlt := (List.getElem?_eq_some_iff.mp e2).1
          refine ⟨l, vs, i, i.toNat, v, rfl, rfl, h1, by omega, by omega, ?_, e2, f v _ (h2.eraseIdx _) (Rep.mono (upd_fe hb) r2)⟩
          unfold seqIndex?
          have e3 : ¬ i < 0 := by omega
          have e5 : (decide (0 ≤ i) && decide (i < (vs.length : Int))) = true := by
            rw [Bool.and_eq_true, decide_eq_true_eq, decide_eq_true_eq]
            omega
          simp only [e3, if_false]
          rw [if_pos e5]
      · cases h4
    · cases h4
  · cases h4
theorem mu_insert : Mut_ K mg (fun x vs H Q => ∃ (l : Addr) (xs : List V) (i : Int) (y : V), x = .ref l ∧ vs = [.int i, y] ∧ H l = some (.lst xs) ∧ xs.length < sizeLine ∧ 0 ≤ i ∧ i < 2 ^ 63 ∧ Q .non (upd H l (.lst (xs.take i.toNat ++ [y] ++ xs.drop i.toNat)))) gInsert := fun H B l xs vs ds us d ys Q h1 h2 h3 h4 f hb => by
  unfold gInsert at h4
  split at h4
  · split at h4
    · rename_i c
      cases h4
      cases h3 with
      | cons r rn =>
        cases rn with
        | cons r2 rn =>
          cases rn
          cases r
          exact ⟨l, vs, _, _, rfl, rfl, h1, by rw [← h2.length]; exact Nat.lt_of_lt_of_le c.2.2 (big_ok (Nat.le_refl _)), c.1, by omega, f _ _ (((h2.take _).append (.cons r2 .nil)).append (h2.drop _)) .non⟩
    · cases h4
  · cases h4
theorem mu_remove : Mut_ K mg rRemI gRemove := fun H B l xs vs ds us d ys Q h1 h2 h3 h4 f hb => by
  unfold gRemove at h4
  split at h4
  · split at h4
    · rename_i ns e
      split at h4
      · rename_i c
        cases h4
        cases h3 with
        | cons r rn =>
          cases rn
          cases r
          have ex := ints_map e
          subst ex
          have ev := h2.ints
          subst ev
          obtain ⟨j, e1, e2, e3, e4⟩ := first_at c
          exact ⟨l, ns, _, j, rfl, rfl, h1, e2, e3, f _ _ (by rw [e4]; exact RepL.of_ints _) .non⟩
      · cases h4
    · cases h4
  · cases h4
end
end
end KL
end

section
set_option Elab.async false
set_option linter.all false
set_option maxRecDepth 100000
namespace KL
open PySem L2
variable [Tabs]

/-! ### x[i] = e, x a list of one's own -/
def sIx (i : Nat) (a : Vl) (k : Od) : Env → Out := fun ρ => match k.get ρ with
  | some (.int n) => match ρ[i]? with
    | some q => match q.lst? with
      | some xs => if 0 ≤ n ∧ n < xs.length then .nx (ρ.set i (q.upd (xs.set n.toNat a.d))) else .bad
      | none => .bad
    | none => .bad
  | _ => .bad
def setIx (i : Nat) (f : M Vl) (g : M Od) : SM := fun ρ => bndS (f ρ) fun a ρ1 => if isOwn ρ1 i = true then bndS (g ρ1) fun k ρ2 => sIx i a k ρ2 else .bad
section
variable {X : Cx} {pos tpos : Pos}
theorem rs_setIx {x : Str} {npos : Pos} {e ix : Expr} {f : M Vl} {g : M Od} (i : Nat) (he : RE X e f) (hi : RO X ix g) (hN : X.N[i]? = some x := by rfl) (hv : Vis X.env.scope x := by first | exact Or.inl rfl | exact Or.inr (Or.inl rfl) | exact Or.inr (Or.inr rfl)) (hd : (x == ("__debug__" : Str)) = false := by decide) (hcd : (x == ("__classdict__" : Str)) = false := by decide)
    (ha : ∀ v, assign (.Subscript (.Name x npos) ix tpos) X.env v = (do
      let ov ← holding [v] (eval (.Name x npos) X.env)
      let iv ← holding [v, ov] (eval ix X.env)
      standAt tpos
      holding [v, ov, iv] (setItem ov iv v)
      release [v, ov, iv] []) := by intro _; rfl)
    (hs : swapsWithSole [.Subscript (.Name x npos) ix tpos] e pos.line X.env = pure false := by rfl) (hw : swappedStores [.Subscript (.Name x npos) ix tpos] e X.env = pure none := by rfl)
    (h1 : (assignEach [.Subscript (.Name x npos) ix tpos] X.env).map (·.2) = [assign (.Subscript (.Name x npos) ix tpos) X.env] := by rfl) : RS X (.Assign [.Subscript (.Name x npos) ix tpos] e pos) (setIx i f g) := by
  refine ⟨fun Wi tk => ps_imp (ps_asg (he.run Wi tk) (pg_sub (pe_var hN hv hd hcd) (hi.run Wi tk) set_list ha) hs hw h1) fun D σ H q => ?_⟩
  obtain ⟨S, hS, rfl, rfl, q⟩ := q
  refine ⟨S, hS, rfl, rfl, q.bnd fun a S1 es g1 _ q1 v rv => ?_⟩
  obtain ⟨S2, f1, f2, f3, g2, r2⟩ := freeze hS g1 rv
  have es2 : S2.σ = S.σ := f2.trans es
  rw [← f1] at q1
  by_cases c : isOwn S2.ρ i = true
  · rw [if_pos c] at q1
    obtain ⟨l, vs, h1, h2⟩ := isOwn_at g2.rel c
    refine ⟨.ref l, by rw [← es2]; exact h1, S2, g2.rel, es2, f3, (SatS.from hS q1 g2).bnd fun k S3 es3 g3 _ q3 u ru => ?_⟩
    unfold sIx at q3
    cases e1 : k.get S3.ρ with
    | none => simp only [e1] at q3; exact q3.elim
    | some dk =>
      cases dk with
      | int n =>
        cases e2 : S3.ρ[i]? with
        | none => simp only [e1, e2] at q3; exact q3.elim
        | some sl =>
          cases e3 : sl.lst? with
          | none => simp only [e1, e2, e3] at q3; exact q3.elim
          | some xs =>
            simp only [e1, e2, e3] at q3
            by_cases c2 : 0 ≤ n ∧ n < xs.length
            · rw [if_pos c2] at q3
              obtain ⟨l', ws, a1, a2, a3, a4, a5⟩ := own_at g3.rel e2 e3
              rw [es3, h1] at a1
              cases a1
              have hu := (opn_of g3.rel ru e1).int
              have r3 : Rep X.K X.mg S3.H S3.B a.d v := Rep.mono (g3.fe g2.rel) r2
              have g4 := go_mut g3.rel e2 a4 (a3.set r3 n.toNat)
              have z := q3 ⟨S3.B, S3.ρ.set i (sl.upd (xs.set n.toNat a.d)), S3.σ, upd S3.H l (.lst (ws.set n.toNat v))⟩ rfl (g3.trans g2.rel g4)
              refine ⟨l, ws, n, n.toNat, rfl, hu, a2, ?_, ?_⟩
              · unfold ixN
                rw [if_pos c2.1, if_pos (by rw [← a3.length]; exact c2.2)]
              · rw [← es2, ← es3]; exact z
            · rw [if_neg c2] at q3; exact q3.elim
      | _ => simp only [e1] at q3; exact q3.elim
  · rw [if_neg c] at q1; exact q1.elim

/-! ### while -/
def whS (c : M Bool) (b : SM) : Nat → SM
  | 0, _ => .bad
  | n + 1, ρ => bndS (c ρ) fun t ρ1 => if t = true then (match b ρ1 with
    | .nx ρ2 => whS c b n ρ2
    | .ct ρ2 => whS c b n ρ2
    | .bk ρ2 => .nx ρ2
    | o => o) else .nx ρ1
theorem rs_while {c : Expr} {body : List Stmt} {fc : M Bool} {fb : SM} (n : Nat) (hp : PassesOwn (model X.prog X.w) X.A X.env X.xe) (hc : RT X c fc) (hb : RSs X body fb) : RS X (.While c body [] pos) (whS fc fb n) := by
  refine ⟨fun Wi tk => ps_imp (ps_while hp (hc.run Wi tk) (hb.run Wi tk)) fun D σ H q => ?_⟩
  obtain ⟨S, hS, rfl, rfl, q⟩ := q
  refine ⟨fun m σ H => ∃ S : Sx, S.rel X.K X.mg ∧ S.σ = σ ∧ S.H = H ∧ SatS X.K X.mg Wi S D (whS fc fb m S.ρ), ⟨n, S, hS, rfl, rfl, q⟩, ?_⟩
  rintro m σ H ⟨S, hS, rfl, rfl, q⟩
  cases m with
  | zero => exact q.elim
  | succ m =>
    unfold whS at q
    refine ⟨S, hS, rfl, rfl, q.bnd fun t S1 es g1 _ q1 => ?_⟩
    have q2 := SatS.from hS q1 g1
    cases t with
    | false =>
      dsimp only
      rw [if_neg Bool.false_ne_true] at q2 ⊢
      rw [← es]
      exact q2 S1 rfl (Go.refl g1.rel)
    | true =>
      dsimp only
      rw [if_pos rfl] at q2 ⊢
      refine ⟨fun σ' H' => ∃ S : Sx, S.rel X.K X.mg ∧ S.σ = σ' ∧ S.H = H' ∧ SatS X.K X.mg Wi S D (whS fc fb m S.ρ), fun σ' H' z => ⟨m, Nat.lt_succ_self m, z⟩, S1, g1.rel, es, rfl, ?_⟩
      cases e : fb S1.ρ with
      | bad => rw [e] at q2; exact q2
      | nx ρ2 => rw [e] at q2; exact fun S' a1 a3 => ⟨S', a3.rel, rfl, rfl, by rw [a1]; exact SatS.from g1.rel q2 a3⟩
      | ct ρ2 => rw [e] at q2; exact fun S' a1 a3 => ⟨S', a3.rel, rfl, rfl, by rw [a1]; exact SatS.from g1.rel q2 a3⟩
      | bk ρ2 => rw [e] at q2; exact q2
      | rt a ρ2 => rw [e] at q2; exact q2
      | ex a ρ2 => rw [e] at q2; exact q2
end

/-! ### for -/
/-- what an iterator hands out -/
def Yld (K : PySem.W.Frag) (mg : MgT) (J : It) (B : Ad) (H : Hp) (ds : List D) : Prop := ∀ B' H', FE B H B' H' → ∀ i, (∀ d, ds[i]? = some d → J.go i H' ∧ ∀ x H'', J.yld i H' x H'' → (∀ a o, H' a = some o → H'' a = some o) ∧ ((∀ a, B' a → H' a ≠ none) → Rep K mg H'' B' d x)) ∧ (i = ds.length → J.stop i H')
def TI_ (K : PySem.W.Frag) (mg : MgT) (Wi : WX) (f : M (List D)) : TI := fun σ H R => ∃ S : Sx, S.rel K mg ∧ S.σ = σ ∧ S.H = H ∧ Sat K mg Wi S (fun ds S' => ∀ J, Yld K mg J S'.B S'.H ds → R J S'.H) (f S.ρ)
structure RI (X : Cx) (tg iter : Expr) (f : M (List D)) : Prop where
  run : ∀ Wi, Takes X Wi → PI X tg iter (TI_ X.K X.mg Wi f)
/-- a target: what it does with a value -/
def GTg (K : PySem.W.Frag) (mg : MgT) (g : TG) (tg : D → Env → Out) : Prop := ∀ (Wi : WX) (S : Sx) (d : D) (v : V) (Dn : Ends), S.rel K mg → Rep K mg S.H S.B d v → SatS K mg Wi S Dn (tg d S.ρ) → (∃ ρ, tg d S.ρ = .nx ρ ∨ tg d S.ρ = .bad) → g v S.σ S.H Dn.nx
structure RG (X : Cx) (tg : Expr) (g : TG) (f : D → Env → Out) : Prop where
  pg : PG X tg g
  gt : GTg X.K X.mg g f
  only : ∀ d ρ, (∃ ρ', f d ρ = .nx ρ') ∨ f d ρ = .bad
def tgN (i : Nat) : D → Env → Out := fun d ρ => put i (.fz d) ρ
def tgT (is : List Nat) : D → Env → Out := fun d ρ => match d with
  | .tup ds => if ds.length = is.length then puts is ds ρ else .bad
  | .pr ds => if ds.length = is.length then puts is ds ρ else .bad
  | _ => .bad
theorem puts_only : ∀ (is : List Nat) (ds : List D) (ρ : Env), (∃ ρ', puts is ds ρ = .nx ρ') ∨ puts is ds ρ = .bad
  | [], [], ρ => .inl ⟨ρ, rfl⟩
  | [], _ :: _, _ => .inr rfl
  | _ :: _, [], _ => .inr rfl
  | i :: is, d :: ds, ρ => by
    unfold puts
    by_cases c : notIo ρ i = true
    · rw [if_pos c]; exact puts_only is ds _
    · rw [if_neg c]; exact .inr rfl
section
variable {X : Cx} {pos : Pos}
theorem rg_name {i : Nat} {x : Str} (hN : X.N.Nodup) (hi : X.N[i]? = some x) (hx : Loc X.env.scope x) (hf : X.fn x = true ∨ X.env.scope.names.lookup x = some .local := by first | exact .inl rfl | exact .inr rfl | assumption) : RG X (.Name x pos) (gName i) (tgN i) :=
  ⟨pg_name hN hi hx hf, fun Wi S d v Dn hS r q _ => put_sat (a := .fz d) hS (Go.refl hS) r q, fun d ρ => by
    unfold tgN put
    by_cases c : notIo ρ i = true
    · rw [if_pos c]; exact .inl ⟨_, rfl⟩
    · rw [if_neg c]; exact .inr rfl⟩
theorem rg_tup {is : List Nat} {es : List Expr} {k : Nat} {n : Nat} (hc : X.calm = true) (hg : PGs X es (gNames is)) (hn : (assignEach es X.env).length = n := by rfl) (hst : (assignEach es X.env).findIdx? (·.1) = none := by rfl) (hl : is.length = n := by rfl) : RG X (.Tuple es k pos) (gTup X.K n (gNames is)) (tgT is) :=
  ⟨pg_tup hc hg hn hst, fun Wi S d v Dn hS r q _ => by
    cases d with
    | tup ds =>
      unfold tgT at q
      by_cases c : ds.length = is.length
      · simp only [if_pos c] at q
        obtain ⟨b, vs, rfl, h2, r⟩ := (Rep.opn r).tup
        exact ⟨b, vs, rfl, h2, by rw [← r.length, c, hl], puts_sat hS r q⟩
      · simp only [if_neg c] at q; exact q.elim
    | pr ds =>
      unfold tgT at q
      by_cases c : ds.length = is.length
      · simp only [if_pos c] at q
        obtain ⟨b, vs, rfl, h2, r⟩ := (Rep.opn r).pr
        exact ⟨b, vs, rfl, h2, by rw [← r.length, c, hl], puts_sat hS r q⟩
      · simp only [if_neg c] at q; exact q.elim
    | _ => exact q.elim, fun d ρ => by
    cases d with
    | tup ds =>
      unfold tgT
      by_cases c : ds.length = is.length
      · dsimp only; rw [if_pos c]; exact puts_only _ _ _
      · dsimp only; rw [if_neg c]; exact .inr rfl
    | pr ds =>
      unfold tgT
      by_cases c : ds.length = is.length
      · dsimp only; rw [if_pos c]; exact puts_only _ _ _
      · dsimp only; rw [if_neg c]; exact .inr rfl
    | _ => exact .inr rfl⟩
def forL (tg : D → Env → Out) (b : SM) : List D → SM
  | [], ρ => .nx ρ
  | d :: ds, ρ => match tg d ρ with
    | .nx ρ1 => (match b ρ1 with
      | .nx ρ2 => forL tg b ds ρ2
      | .ct ρ2 => forL tg b ds ρ2
      | .bk ρ2 => .nx ρ2
      | o => o)
    | _ => .bad
def forS (it : M (List D)) (tg : D → Env → Out) (b : SM) : SM := fun ρ => bndS (it ρ) fun ds ρ1 => forL tg b ds ρ1
theorem rs_for {tg iter : Expr} {body : List Stmt} {fi : M (List D)} {ft : D → Env → Out} {fb : SM} (hp : PassesOwn (model X.prog X.w) X.A X.env X.xe) (hc : X.calm = true) (hi : RI X tg iter fi) {g : TG} (hg : RG X tg g ft) (hb : RSs X body fb)
    (hs : ∀ x, foldedSetIterable iter X.env x = pure x := by intro _; rfl) : RS X (.For tg iter body [] pos) (forS fi ft fb) := by
  obtain ⟨hg, hgt, honly⟩ := hg
  refine ⟨fun Wi tk => ps_imp (ps_for hp hc (hi.run Wi tk) hg (hb.run Wi tk) hs) fun Dn σ H q => ?_⟩
  obtain ⟨S, hS, rfl, rfl, q⟩ := q
  refine ⟨S, hS, rfl, rfl, q.bnd fun ds S1 es g1 _ q1 J hJ => ?_⟩
  have hS1 := g1.rel
  refine ⟨fun i m σ H => m = ds.length - i ∧ i ≤ ds.length ∧ ∃ S : Sx, S.rel X.K X.mg ∧ S.σ = σ ∧ S.H = H ∧ FE S1.B S1.H S.B S.H ∧ SatS X.K X.mg Wi S Dn (forL ft fb (ds.drop i) S.ρ), ⟨ds.length, by simp, Nat.zero_le _, S1, hS1, es, rfl, FE.refl, SatS.from hS q1 g1⟩, ?_⟩
  rintro i m σ H ⟨rfl, hi, S2, hS2, rfl, rfl, fe, q2⟩
  obtain ⟨y1, y2⟩ := hJ S2.B S2.H fe i
  by_cases hlt : i < ds.length
  · right
    have e1 : ds[i]? = some ds[i] := List.getElem?_eq_getElem hlt
    obtain ⟨go, yl⟩ := y1 _ e1
    refine ⟨go, fun σ' H' => ∃ S : Sx, S.rel X.K X.mg ∧ S.σ = σ' ∧ S.H = H' ∧ FE S1.B S1.H S.B S.H ∧ SatS X.K X.mg Wi S Dn (forL ft fb (ds.drop (i + 1)) S.ρ), fun σ' H' z => ⟨ds.length - (i + 1), by omega, rfl, hlt, z⟩, fun x H3 y => ?_⟩
    obtain ⟨ext, rx⟩ := yl x H3 y
    have rx := rx hS2.alloc
    have al : ∀ a, S2.B a → H3 a ≠ none := fun a z => by
      cases w : S2.H a with
      | none => exact absurd w (hS2.alloc a z)
      | some o => rw [ext a o w]; simp
    have g3 : Go X.K X.mg S2 ⟨S2.B, S2.ρ, S2.σ, H3⟩ := go_extA hS2 ext (fun a z => z) (fun a z => .inl z) al
    have q3 := SatS.from hS2 q2 g3
    have e2 : ds.drop i = ds[i] :: ds.drop (i + 1) := List.drop_eq_getElem_cons hlt
    rw [e2] at q3
    unfold forL at q3
    rcases honly ds[i] S2.ρ with ⟨ρ1, e3⟩ | e3
    · rw [e3] at q3
      have q3' := q3
      refine hgt Wi ⟨S2.B, S2.ρ, S2.σ, H3⟩ ds[i] x { Dn with nx := fun σ2 H2 => TS_ X.K X.mg Wi fb { Dn with nx := fun σ' H' => ∃ S : Sx, S.rel X.K X.mg ∧ S.σ = σ' ∧ S.H = H' ∧ FE S1.B S1.H S.B S.H ∧ SatS X.K X.mg Wi S Dn (forL ft fb (ds.drop (i + 1)) S.ρ), ct := fun σ' H' => ∃ S : Sx, S.rel X.K X.mg ∧ S.σ = σ' ∧ S.H = H' ∧ FE S1.B S1.H S.B S.H ∧ SatS X.K X.mg Wi S Dn (forL ft fb (ds.drop (i + 1)) S.ρ), bk := Dn.nx } σ2 H2 } g3.rel rx ?_ ⟨ρ1, .inl e3⟩
      show SatS X.K X.mg Wi ⟨S2.B, S2.ρ, S2.σ, H3⟩ _ (ft ds[i] S2.ρ)
      rw [e3]
      intro S4 e4 g4
      have q4 := SatS.from g3.rel q3' g4
      have hS4 := g4.rel
      have fe4 : FE S1.B S1.H S4.B S4.H := (fe.trans (g3.fe hS2)).trans (g4.fe g3.rel)
      refine ⟨S4, hS4, rfl, rfl, ?_⟩
      dsimp only at q4
      rw [← e4] at q4
      cases e5 : fb S4.ρ with
      | bad => rw [e5] at q4; exact q4
      | nx ρ2 => rw [e5] at q4; exact fun S' a1 a3 => ⟨S', a3.rel, rfl, rfl, fe4.trans (a3.fe hS4), by rw [a1]; exact SatS.from hS4 q4 a3⟩
      | ct ρ2 => rw [e5] at q4; exact fun S' a1 a3 => ⟨S', a3.rel, rfl, rfl, fe4.trans (a3.fe hS4), by rw [a1]; exact SatS.from hS4 q4 a3⟩
      | bk ρ2 => rw [e5] at q4; exact q4
      | rt a ρ2 => rw [e5] at q4; exact q4
      | ex a ρ2 => rw [e5] at q4; exact q4
    · rw [e3] at q3
      exact q3.elim
  · have e : i = ds.length := by omega
    left
    refine ⟨y2 e, ?_⟩
    rw [e, List.drop_of_length_le (Nat.le_refl _)] at q2
    exact q2 S2 rfl (Go.refl hS2)
end
end KL
end

section
set_option Elab.async false
set_option linter.all false
set_option maxRecDepth 100000
namespace KL
open PySem L2 RZ
variable [Tabs]

/-! ### what is walked -/
def itE (f : M Vl) : M (List D) := fun ρ => bnd (f ρ) fun a ρ1 => match items? a.d with
  | some xs => .ok xs ρ1
  | none => .bad
section
variable {K : PySem.W.Frag} {mg : MgT} {H : Hp} {B : Ad}
theorem yld_list {a : Addr} {xs : List D} {vs : List V} (hb : ¬ B a) (h : H a = some (.lst vs)) (r : RepL K mg H B xs vs) : Yld K mg (Itl K a) B H xs := fun B' H' fe i => by
  have h' : H' a = some (.lst vs) := fe.keep a _ h hb trivial
  have sq : SqL K H' a vs := .inl (.inl h')
  refine ⟨fun d e => ?_, fun e => ⟨vs, sq, by rw [← r.length, e]; exact Nat.le_refl _⟩⟩
  obtain ⟨v, e2, rv⟩ := r.get e
  refine ⟨⟨vs, v, sq, e2⟩, fun x H'' y => ?_⟩
  obtain ⟨rfl, y⟩ := y
  have ex := y vs sq
  rw [e2] at ex
  cases ex
  exact ⟨fun _ _ z => z, fun _ => Rep.mono fe rv⟩
theorem yld_tup {a : Addr} {xs : List D} {vs : List V} (h : ∀ B' H', FE B H B' H' → SqT K H' a vs) (r : RepL K mg H B xs vs) : Yld K mg (Itt K a) B H xs := fun B' H' fe i => by
  have sq := h B' H' fe
  refine ⟨fun d e => ?_, fun e => ⟨vs, sq, by rw [← r.length, e]; exact Nat.le_refl _⟩⟩
  obtain ⟨v, e2, rv⟩ := r.get e
  refine ⟨⟨vs, v, sq, e2⟩, fun x H'' y => ?_⟩
  obtain ⟨rfl, y⟩ := y
  have ex := y vs sq
  rw [e2] at ex
  cases ex
  exact ⟨fun _ _ z => z, fun _ => Rep.mono fe rv⟩
/-- a list or a tuple -/
theorem seq_of {d : D} {xs : List D} {v : V} (e : items? d = some xs) (r : Rep K mg H B d v) : ∃ a vs, v = .ref a ∧ RepL K mg H B xs vs ∧ ((¬ B a ∧ H a = some (.lst vs)) ∨ ∀ B' H', FE B H B' H' → SqT K H' a vs) := by
  cases d with
  | lst ys =>
    cases e
    cases r with
    | lst hb h r => exact ⟨_, _, rfl, r, .inl ⟨hb, h⟩⟩
  | tup ys =>
    cases e
    cases r with
    | tup hb h _ r => exact ⟨_, _, rfl, r, .inr fun B' H' fe => .inl (.inr ⟨_, fe.keep _ _ h hb trivial⟩)⟩
    | tupK _ _ h r => exact ⟨_, _, rfl, r, .inr fun B' H' fe => h H'⟩
  | _ => cases e
end
def iSeq (K : PySem.W.Frag) (tl : TE) : TI := fun σ H R => tl σ H fun x H1 => ∃ a, x = .ref a ∧ (((∃ xs, SqL K H1 a xs) ∧ R (Itl K a) H1) ∨ ((∃ xs, SqT K H1 a xs) ∧ R (Itt K a) H1))
theorem pi_imp {X : Cx} {tg e : Expr} {t t' : TI} (h : PI X tg e t) (k : ∀ σ H R, t' σ H R → t σ H R) : PI X tg e t' := ⟨fun pins s σ H R I q => h.run pins s σ H R I (k σ H R q)⟩
section
variable {X : Cx} {tg : Expr}
theorem pi_seq {l : Expr} {tl : TE} (hl : PE X l tl) : PI X tg l (iSeq X.K tl) := by
  refine ⟨fun pins s σ H R I h => ?_⟩
  refine thn (hl.run pins s σ H _ I h) fun v s1 ⟨x, H1, I1, r1, q1⟩ => ?_
  obtain ⟨a, e, q⟩ := q1
  subst e
  rcases q with ⟨hq, q⟩ | ⟨hq, q⟩
  · obtain ⟨xs, hq⟩ := hq
    cases r1
    obtain ⟨its, rv, p, hz⟩ := I1.list hq
    refine wpAny_pyIter_list p.isList ?_
    refine ⟨s1.heap.objs.size, [s1.heap.objs.size], _, _, H1, rfl, I1.kept (t' := s1.toks) fun b o e => Heap.get?_push_of_some _ e, turn_list a _, ⟨_, Heap.get?_push_size _ rfl, rfl, rfl⟩, fun b hb => ?_, q⟩
    have e : b = s1.heap.objs.size := by simpa using hb
    subst e
    exact I1.fpOk (Nat.le_refl _) (I1.hok.fresh (Nat.le_refl _))
  · obtain ⟨xs, hq⟩ := hq
    cases r1
    obtain ⟨its, rv, p, hz⟩ := I1.tuple hq
    refine wpAny_pyIter_tuple (show s1.heap.IsTuple a its.toArray from p) ?_
    refine ⟨s1.heap.objs.size, [s1.heap.objs.size], _, _, H1, rfl, I1.kept (t' := s1.toks) fun b o e => Heap.get?_push_of_some _ e, turn_tuple a _, ⟨_, Heap.get?_push_size _ rfl, rfl, rfl⟩, fun b hb => ?_, q⟩
    have e : b = s1.heap.objs.size := by simpa using hb
    subst e
    exact I1.fpOk (Nat.le_refl _) (I1.hok.fresh (Nat.le_refl _))
theorem ri_seq {l : Expr} {f : M Vl} (hl : RE X l f) : RI X tg l (itE f) := by
  refine ⟨fun Wi tk => pi_imp (pi_seq (hl.run Wi tk)) fun σ H R q => ?_⟩
  obtain ⟨S, hS, rfl, rfl, q⟩ := q
  refine ⟨S, hS, rfl, rfl, q.bnd fun a S1 es g _ q1 v rv => ?_⟩
  obtain ⟨S2, f1, f2, f3, g2, r2⟩ := freeze hS g rv
  cases e : items? a.d with
  | none => simp only [e] at q1; exact q1.elim
  | some xs =>
    simp only [e] at q1
    obtain ⟨l, vs, rfl, r, z⟩ := seq_of e r2
    have q2 := q1 S2 f1 (f2.trans es) g2
    rw [← f3]
    rcases z with ⟨hb, h⟩ | h
    · exact ⟨l, rfl, .inl ⟨⟨vs, .inl (.inl h)⟩, q2 _ (yld_list hb h r)⟩⟩
    · exact ⟨l, rfl, .inr ⟨⟨vs, h _ _ FE.refl⟩, q2 _ (yld_tup h r)⟩⟩
/-! range -/
def rangeL (lo : Int) (n : Nat) : List D := (List.range n).map fun k => .int (lo + (k : Nat))
theorem rangeL_at {lo : Int} {n i : Nat} {d : D} (h : (rangeL lo n)[i]? = some d) : i < n ∧ d = .int (lo + (i : Nat)) := by
  unfold rangeL at h
  rw [List.getElem?_map] at h
  cases e : (List.range n)[i]? with
  | none => rw [e] at h; cases h
  | some k =>
    rw [e] at h
    obtain ⟨h1, h2⟩ := List.getElem?_eq_some_iff.mp e
    rw [List.getElem_range] at h2
    subst h2
    rw [List.length_range] at h1
    exact ⟨h1, (Option.some.inj h).symm⟩
theorem yld_range {K : PySem.W.Frag} {mg : MgT} {H : Hp} {B : Ad} {lo : Int} {n : Nat} : Yld K mg (Itr lo n) B H (rangeL lo n) := fun B' H' fe i => by
  refine ⟨fun d e => ?_, fun e => ?_⟩
  · obtain ⟨h1, rfl⟩ := rangeL_at e
    refine ⟨h1, fun x H'' y => ?_⟩
    obtain ⟨rfl, rfl⟩ := y
    exact ⟨fun _ _ z => z, fun _ => .int _⟩
  · show n ≤ i
    rw [e]; simp [rangeL]
def okR (i : Int) : Bool := decide (-1000000000 < i) && decide (i < 1000000000)
def i1? : List D → Option Int
  | [.int i] => some i
  | _ => none
def i2? : List D → Option (Int × Int)
  | [.int i, .int j] => some (i, j)
  | _ => none
theorem i1_of {ds : List D} {p : Int} (h : i1? ds = some p) : ds = [.int p] := by
  unfold i1? at h
  split at h
  · cases h; rfl
  · cases h
theorem i2_of {ds : List D} {p : Int × Int} (h : i2? ds = some p) : ds = [.int p.1, .int p.2] := by
  unfold i2? at h
  split at h
  · cases h; rfl
  · cases h
/-- arguments, looked at -/
def argM {α β : Type} (f : M (List Od)) (p : List D → Option α) (k : α → M β) : M β := fun ρ => bnd (f ρ) fun os ρ1 => match (getAll ρ1 os).bind p with
  | some a => k a ρ1
  | none => .bad
theorem sat_arg {K : PySem.W.Frag} {mg : MgT} {S : Sx} {Wi : WX} {α β : Type} {f : M (List Od)} {p : List D → Option α} {k : α → M β} {Ψ : β → Sx → Prop} {Φ : List Od → Sx → Prop} (h : S.rel K mg) (q : Sat K mg Wi S Ψ (argM f p k S.ρ))
    (z : ∀ os S1 ds a, S1.σ = S.σ → Go K mg S S1 → getAll S1.ρ os = some ds → p ds = some a → Sat K mg Wi S Ψ (k a S1.ρ) → Φ os S1) : Sat K mg Wi S Φ (f S.ρ) := q.bnd fun os S1 es g _ q1 => by
  cases e : getAll S1.ρ os with
  | none => simp only [e, Option.bind_none] at q1; exact q1.elim
  | some ds =>
    cases e2 : p ds with
    | none => simp only [e, Option.bind_some, e2] at q1; exact q1.elim
    | some a =>
      simp only [e, Option.bind_some, e2] at q1
      exact z os S1 ds a es g e e2 q1
theorem opnL1 {K : PySem.W.Frag} {mg : MgT} {S : Sx} {d : D} {vs : List V} (o : OpnL K mg S [d] vs) : ∃ v, vs = [v] ∧ Opn K mg S d v := by
  cases o with
  | cons a r => cases r; exact ⟨_, rfl, a⟩
theorem opnL2 {K : PySem.W.Frag} {mg : MgT} {S : Sx} {d e : D} {vs : List V} (o : OpnL K mg S [d, e] vs) : ∃ v w, vs = [v, w] ∧ Opn K mg S d v ∧ Opn K mg S e w := by
  cases o with
  | cons a r =>
    obtain ⟨w, rfl, b⟩ := opnL1 r
    exact ⟨_, w, rfl, a, b⟩
theorem opnL3 {K : PySem.W.Frag} {mg : MgT} {S : Sx} {d e f : D} {vs : List V} (o : OpnL K mg S [d, e, f] vs) : ∃ v w u, vs = [v, w, u] ∧ Opn K mg S d v ∧ Opn K mg S e w ∧ Opn K mg S f u := by
  cases o with
  | cons a r =>
    obtain ⟨w, u, rfl, b, c⟩ := opnL2 r
    exact ⟨_, w, u, rfl, a, b, c⟩
def itR1 (f : M (List Od)) : M (List D) := argM f i1? fun j ρ1 => if okR j = true then .ok (rangeL 0 j.toNat) ρ1 else .bad
def itR2 (f : M (List Od)) : M (List D) := argM f i2? fun p ρ1 => if (okR p.1 && okR p.2) = true then .ok (rangeL p.1 (p.2 - p.1).toNat) ρ1 else .bad
theorem ri_range1 {a : Expr} {f : M (List Od)} {p pos : Pos} (hg : Gl X "range") (hm : X.mg "range" = none) (ha : RA X [a] f) (hs : starEach [a] X.env = [(false, eval a X.env)] := by rfl) : RI X tg (.Call (.Name "range" p) [a] [] pos) (itR1 f) := by
  refine ⟨fun Wi tk => pi_imp (pi_range1 hg hm (ha.run Wi tk) hs) fun σ H R q => ?_⟩
  obtain ⟨S, hS, rfl, rfl, q⟩ := q
  refine ⟨S, hS, rfl, rfl, sat_arg hS q fun os S1 ds j es g e e2 q1 vs rv => ?_⟩
  have op := opnL_of g.rel rv e
  rw [i1_of e2] at op
  obtain ⟨v, rfl, o1⟩ := opnL1 op
  by_cases c : okR j = true
  · rw [if_pos c] at q1
    simp only [okR, Bool.and_eq_true, decide_eq_true_eq] at c
    rw [o1.int]
    exact ⟨j, rfl, by omega, by omega, q1 S1 rfl es g _ yld_range⟩
  · rw [if_neg c] at q1; exact q1.elim
theorem ri_range2 {a b : Expr} {f : M (List Od)} {p pos : Pos} (hg : Gl X "range") (hm : X.mg "range" = none) (ha : RA X [a, b] f) (hs : starEach [a, b] X.env = [(false, eval a X.env), (false, eval b X.env)] := by rfl) (hs2 : starEach [b] X.env = [(false, eval b X.env)] := by rfl) :
    RI X tg (.Call (.Name "range" p) [a, b] [] pos) (itR2 f) := by
  refine ⟨fun Wi tk => pi_imp (pi_range2 hg hm (ha.run Wi tk) hs hs2) fun σ H R q => ?_⟩
  obtain ⟨S, hS, rfl, rfl, q⟩ := q
  refine ⟨S, hS, rfl, rfl, sat_arg hS q fun os S1 ds j es g e e2 q1 vs rv => ?_⟩
  have op := opnL_of g.rel rv e
  rw [i2_of e2] at op
  obtain ⟨v, w, rfl, o1, o2⟩ := opnL2 op
  by_cases c : (okR j.1 && okR j.2) = true
  · rw [if_pos c] at q1
    simp only [okR, Bool.and_eq_true, decide_eq_true_eq] at c
    rw [o1.int, o2.int]
    exact ⟨j.1, j.2, rfl, by omega, q1 S1 rfl es g _ yld_range⟩
  · rw [if_neg c] at q1; exact q1.elim
/-! enumerate, zip -/
def lst1? : List D → Option (List D)
  | [.lst xs] => some xs
  | _ => none
theorem lst1_of {ds : List D} {p : List D} (h : lst1? ds = some p) : ds = [.lst p] := by
  unfold lst1? at h
  split at h
  · cases h; rfl
  · cases h
def enumL (s : Nat) (xs : List D) : List D := xs.zipIdx.map fun p => .pr [.int ((p.2 + s : Nat) : Int), p.1]
def zipL (xs ys : List D) : List D := (xs.zip ys).map fun p => .pr [p.1, p.2]
theorem vals_v {os : List Od} : ∀ {ds : List D}, vals? os = some ds → os = ds.map .v := by
  induction os with
  | nil => intro ds h; cases h; rfl
  | cons o os ih =>
    intro ds h
    cases o with
    | s i => cases h
    | v d =>
      unfold vals? at h
      cases e : vals? os with
      | none => rw [e] at h; cases h
      | some es => rw [e] at h; cases h; rw [ih e]; rfl
def itEn (f : M (List Od)) : M (List D) := fun ρ => bnd (f ρ) fun os ρ1 => match (vals? os).bind lst1? with
  | some xs => .ok (enumL 0 xs) ρ1
  | none => .bad
theorem rep_list {K : PySem.W.Frag} {mg : MgT} {H : Hp} {B : Ad} {xs : List D} {v : V} (r : Rep K mg H B (.lst xs) v) : ∃ a vs, v = .ref a ∧ ¬ B a ∧ H a = some (.lst vs) ∧ RepL K mg H B xs vs := by
  cases r with
  | lst hb h r => exact ⟨_, _, rfl, hb, h, r⟩
theorem yld_enum {K : PySem.W.Frag} {mg : MgT} {H : Hp} {B : Ad} {a : Addr} {xs : List D} {vs : List V} (hb : ¬ B a) (h : H a = some (.lst vs)) (r : RepL K mg H B xs vs) : Yld K mg (Ite K a) B H (enumL 0 xs) := fun B' H' fe i => by
  have h' : H' a = some (.lst vs) := fe.keep a _ h hb trivial
  have sq : SqL K H' a vs := .inl (.inl h')
  refine ⟨fun d e => ?_, fun e => ⟨vs, sq, by rw [← r.length, e]; simp [enumL]⟩⟩
  unfold enumL at e
  rw [List.getElem?_map, List.getElem?_zipIdx] at e
  cases e1 : xs[i]? with
  | none => rw [e1] at e; cases e
  | some x =>
    rw [e1] at e
    have ed : d = .pr [.int (i : Nat), x] := by
      have := (Option.some.inj e).symm
      simpa using this
    subst ed
    obtain ⟨v, e2, rv⟩ := r.get e1
    refine ⟨⟨vs, v, sq, e2⟩, fun y H'' z => ?_⟩
    obtain ⟨T, w, rfl, hT, rfl, z⟩ := z
    have ex := z vs sq
    rw [e2] at ex
    cases ex
    refine ⟨ext_upd hT, fun al => ?_⟩
    have nT : ¬ B' T := fun q => al T q hT
    have fe2 : FE B' H' B' (upd H' T (.tup [.int (i : Nat), v])) := fe_new hT
    exact .pr nT upd_same (.cons (.int _) (.cons (Rep.mono (fe.trans fe2) rv) .nil))
theorem ri_enum {e : Expr} {f : M (List Od)} {p pos tpos : Pos} {elts : List Expr} {kk : Nat} (hg : Gl X "enumerate") (hm : X.mg "enumerate" = none) (ha : RA X [e] f) (hs : starEach [e] X.env = [(false, eval e X.env)] := by rfl) :
    RI X (.Tuple elts kk tpos) (.Call (.Name "enumerate" p) [e] [] pos) (itEn f) := by
  refine ⟨fun Wi tk => pi_imp (pi_enum hg hm (ha.run Wi tk) hs) fun σ H R q => ?_⟩
  obtain ⟨S, hS, rfl, rfl, q⟩ := q
  refine ⟨S, hS, rfl, rfl, q.bnd fun os S1 es g _ q1 vs rv => ?_⟩
  cases e1 : vals? os with
  | none => simp only [e1, Option.bind_none] at q1; exact q1.elim
  | some ds =>
    cases e2 : lst1? ds with
    | none => simp only [e1, Option.bind_some, e2] at q1; exact q1.elim
    | some xs =>
      simp only [e1, Option.bind_some, e2] at q1
      have r := vals_rep rv e1
      rw [lst1_of e2] at r
      cases r with
      | cons r rn =>
        cases rn
        obtain ⟨a, ws, rfl, hb, h, r⟩ := rep_list r
        exact ⟨a, ws, rfl, .inl (.inl h), q1 S1 rfl es g _ (yld_enum hb h r)⟩
def lst2? : List D → Option (List D × List D)
  | [.lst xs, .lst ys] => some (xs, ys)
  | _ => none
theorem lst2_of {ds : List D} {p : List D × List D} (h : lst2? ds = some p) : ds = [.lst p.1, .lst p.2] := by
  unfold lst2? at h
  split at h
  · cases h; rfl
  · cases h
def tup2? : List D → Option (List D × List D)
  | [.tup xs, .tup ys] => some (xs, ys)
  | _ => none
theorem tup2_of {ds : List D} {p : List D × List D} (h : tup2? ds = some p) : ds = [.tup p.1, .tup p.2] := by
  unfold tup2? at h
  split at h
  · cases h; rfl
  · cases h
def itZ (f : M (List Od)) : M (List D) := fun ρ => bnd (f ρ) fun os ρ1 => match (vals? os).bind lst2? with
  | some p => .ok (zipL p.1 p.2) ρ1
  | none => match (vals? os).bind tup2? with
    | some p => .ok (zipL p.1 p.2) ρ1
    | none => .bad
theorem zip_at {xs ys : List D} {i : Nat} {d : D} (h : (zipL xs ys)[i]? = some d) : ∃ x y, xs[i]? = some x ∧ ys[i]? = some y ∧ d = .pr [x, y] := by
  unfold zipL at h
  rw [List.getElem?_map] at h
  cases e : (xs.zip ys)[i]? with
  | none => rw [e] at h; cases h
  | some p =>
    rw [e] at h
    obtain ⟨h1, h2⟩ := List.getElem?_zip_eq_some.mp e
    exact ⟨p.1, p.2, h1, h2, (Option.some.inj h).symm⟩
theorem zip_end {xs ys : List D} {i : Nat} (h : i = (zipL xs ys).length) : xs.length ≤ i ∨ ys.length ≤ i := by
  rw [h]; simp only [zipL, List.length_map, List.length_zip]; omega
theorem yld_zip {K : PySem.W.Frag} {mg : MgT} {H : Hp} {B : Ad} {a b : Addr} {xs ys : List D} {vs ws : List V} (hb : ¬ B a) (h : H a = some (.lst vs)) (r : RepL K mg H B xs vs) (hb2 : ¬ B b) (h2 : H b = some (.lst ws)) (r2 : RepL K mg H B ys ws) : Yld K mg (Itz K a b) B H (zipL xs ys) := fun B' H' fe i => by
  have sq : SqL K H' a vs := .inl (.inl (fe.keep a _ h hb trivial))
  have sq2 : SqL K H' b ws := .inl (.inl (fe.keep b _ h2 hb2 trivial))
  refine ⟨fun d e => ?_, fun e => ⟨vs, ws, sq, sq2, by rw [← r.length, ← r2.length]; exact zip_end e⟩⟩
  obtain ⟨x, y, e1, e2, rfl⟩ := zip_at e
  obtain ⟨v, f1, rv⟩ := r.get e1
  obtain ⟨w, f2, rw'⟩ := r2.get e2
  refine ⟨⟨vs, ws, v, w, sq, sq2, f1, f2⟩, fun y H'' z => ?_⟩
  obtain ⟨T, v', w', rfl, hT, rfl, z1, z2⟩ := z
  have ex := z1 vs sq
  rw [f1] at ex; cases ex
  have ey := z2 ws sq2
  rw [f2] at ey; cases ey
  refine ⟨ext_upd hT, fun al => ?_⟩
  have nT : ¬ B' T := fun q => al T q hT
  have fe2 : FE B' H' B' (upd H' T (.tup [v, w])) := fe_new hT
  exact .pr nT upd_same (.cons (Rep.mono (fe.trans fe2) rv) (.cons (Rep.mono (fe.trans fe2) rw') .nil))
theorem rep_tup {K : PySem.W.Frag} {mg : MgT} {H : Hp} {B : Ad} {xs : List D} {v : V} (r : Rep K mg H B (.tup xs) v) : ∃ a vs, v = .ref a ∧ RepL K mg H B xs vs ∧ ∀ B' H', FE B H B' H' → SqT K H' a vs := by
  cases r with
  | tup hb h _ r => exact ⟨_, _, rfl, r, fun B' H' fe => .inl (.inr ⟨_, fe.keep _ _ h hb trivial⟩)⟩
  | tupK _ _ h r => exact ⟨_, _, rfl, r, fun B' H' fe => h H'⟩
theorem yld_zipT {K : PySem.W.Frag} {mg : MgT} {H : Hp} {B : Ad} {a b : Addr} {xs ys : List D} {vs ws : List V} (h : ∀ B' H', FE B H B' H' → SqT K H' a vs) (r : RepL K mg H B xs vs) (h2 : ∀ B' H', FE B H B' H' → SqT K H' b ws) (r2 : RepL K mg H B ys ws) : Yld K mg (ItzT K a b) B H (zipL xs ys) := fun B' H' fe i => by
  have sq := h B' H' fe
  have sq2 := h2 B' H' fe
  refine ⟨fun d e => ?_, fun e => ⟨vs, ws, sq, sq2, by rw [← r.length, ← r2.length]; exact zip_end e⟩⟩
  obtain ⟨x, y, e1, e2, rfl⟩ := zip_at e
  obtain ⟨v, f1, rv⟩ := r.get e1
  obtain ⟨w, f2, rw'⟩ := r2.get e2
  refine ⟨⟨vs, ws, v, w, sq, sq2, f1, f2⟩, fun y H'' z => ?_⟩
  obtain ⟨T, v', w', rfl, hT, rfl, z1, z2⟩ := z
  have ex := z1 vs sq
  rw [f1] at ex; cases ex
  have ey := z2 ws sq2
  rw [f2] at ey; cases ey
  refine ⟨ext_upd hT, fun al => ?_⟩
  have nT : ¬ B' T := fun q => al T q hT
  have fe2 : FE B' H' B' (upd H' T (.tup [v, w])) := fe_new hT
  exact .pr nT upd_same (.cons (Rep.mono (fe.trans fe2) rv) (.cons (Rep.mono (fe.trans fe2) rw') .nil))
theorem ri_zip {e e2 : Expr} {f : M (List Od)} {p pos tpos : Pos} {elts : List Expr} {kk : Nat} (hg : Gl X "zip") (hm : X.mg "zip" = none) (ha : RA X [e, e2] f) (hs : starEach [e, e2] X.env = (false, eval e X.env) :: starEach [e2] X.env := by rfl) (hpl : (backTo pos (starEach [e2] X.env)).any (·.1) = false := by rfl) :
    RI X (.Tuple elts kk tpos) (.Call (.Name "zip" p) [e, e2] [] pos) (itZ f) := by
  refine ⟨fun Wi tk => pi_imp (pi_zipA hg hm (ha.run Wi tk) hs hpl) fun σ H R q => ?_⟩
  obtain ⟨S, hS, rfl, rfl, q⟩ := q
  refine ⟨S, hS, rfl, rfl, q.bnd fun os S1 es g _ q1 vs rv => ?_⟩
  cases e1 : vals? os with
  | none => simp only [e1, Option.bind_none] at q1; exact q1.elim
  | some ds =>
    have r := vals_rep rv e1
    cases e3 : lst2? ds with
    | some p =>
      simp only [e1, Option.bind_some, e3] at q1
      rw [lst2_of e3] at r
      cases r with
      | cons r rn =>
        cases rn with
        | cons r' rn =>
          cases rn
          obtain ⟨a, ws, rfl, hb, h, r⟩ := rep_list r
          obtain ⟨b, us, rfl, hb', h', r'⟩ := rep_list r'
          exact ⟨a, b, ws, us, rfl, .inl ⟨.inl (.inl h), .inl (.inl h'), q1 S1 rfl es g _ (yld_zip hb h r hb' h' r')⟩⟩
    | none =>
      cases e4 : tup2? ds with
      | none => simp only [e1, Option.bind_some, e3, e4] at q1; exact q1.elim
      | some p =>
        simp only [e1, Option.bind_some, e3, e4] at q1
        rw [tup2_of e4] at r
        cases r with
        | cons r rn =>
          cases rn with
          | cons r' rn =>
            cases rn
            obtain ⟨a, ws, rfl, r, h⟩ := rep_tup r
            obtain ⟨b, us, rfl, r', h'⟩ := rep_tup r'
            exact ⟨a, b, ws, us, rfl, .inr ⟨h _ _ FE.refl, h' _ _ FE.refl, q1 S1 rfl es g _ (yld_zipT h r h' r')⟩⟩
end
end KL
end

section
set_option Elab.async false
set_option linter.all false
set_option maxRecDepth 100000
namespace KL
open PySem L2
variable [Tabs]

/-! ### list comprehensions -/
def wipeE (ρ : Env) : List Nat → Env
  | [] => ρ
  | v :: vs => (wipeE ρ vs).set v .un
/-- the block's own names are forgotten, what the def had under them is there again -/
def rstE (ρ₀ ρ : Env) : List Nat → Env
  | [] => ρ
  | v :: vs => (rstE ρ₀ ρ vs).set v ((ρ₀[v]?).getD .un)
def okW (ρ : Env) (vs : List Nat) : Bool := vs.all fun v => match ρ[v]? with
  | some q => !q.mine
  | none => true
theorem wipeE_at {ρ : Env} : ∀ {vs : List Nat} {j : Nat} {q : Sl}, (wipeE ρ vs)[j]? = some q → q = .un ∨ (j ∉ vs ∧ ρ[j]? = some q)
  | [], j, q, h => .inr ⟨by simp, h⟩
  | v :: vs, j, q, h => by
    unfold wipeE at h
    rcases set_some h with ⟨_, e⟩ | ⟨ne, h⟩
    · exact .inl e
    · rcases wipeE_at h with e | ⟨h1, h2⟩
      · exact .inl e
      · exact .inr ⟨by simp only [List.mem_cons, not_or]; exact ⟨ne, h1⟩, h2⟩
theorem wipeE_ne {ρ : Env} : ∀ {vs : List Nat} {j : Nat}, j ∉ vs → (wipeE ρ vs)[j]? = ρ[j]?
  | [], j, _ => rfl
  | v :: vs, j, h => by
    simp only [List.mem_cons, not_or] at h
    unfold wipeE
    rw [List.getElem?_set_ne (fun e => h.1 e.symm)]
    exact wipeE_ne h.2
theorem wipe_ne {σ : L2.St} : ∀ {vs : List Nat} {j : Nat}, j ∉ vs → (wipe σ vs)[j]? = σ[j]?
  | [], j, _ => rfl
  | v :: vs, j, h => by
    simp only [List.mem_cons, not_or] at h
    unfold wipe
    rw [List.getElem?_set_ne (fun e => h.1 e.symm)]
    exact wipe_ne h.2
theorem wipeE_len (ρ : Env) : ∀ vs : List Nat, (wipeE ρ vs).length = ρ.length
  | [] => rfl
  | v :: vs => by unfold wipeE; rw [List.length_set]; exact wipeE_len ρ vs
theorem rstE_len (ρ₀ ρ : Env) : ∀ vs : List Nat, (rstE ρ₀ ρ vs).length = ρ.length
  | [] => rfl
  | v :: vs => by unfold rstE; rw [List.length_set]; exact rstE_len ρ₀ ρ vs
theorem rstE_at {ρ₀ ρ : Env} : ∀ {vs : List Nat} {j : Nat} {q : Sl}, (rstE ρ₀ ρ vs)[j]? = some q → (j ∈ vs ∧ q = (ρ₀[j]?).getD .un) ∨ (j ∉ vs ∧ ρ[j]? = some q)
  | [], j, q, h => .inr ⟨by simp, h⟩
  | v :: vs, j, q, h => by
    unfold rstE at h
    rcases set_some h with ⟨e1, e⟩ | ⟨ne, h⟩
    · subst e1; exact .inl ⟨List.mem_cons_self, e⟩
    · rcases rstE_at h with ⟨h1, h2⟩ | ⟨h1, h2⟩
      · exact .inl ⟨List.mem_cons_of_mem _ h1, h2⟩
      · exact .inr ⟨by simp only [List.mem_cons, not_or]; exact ⟨ne, h1⟩, h2⟩
theorem rstE_ne {ρ₀ ρ : Env} : ∀ {vs : List Nat} {j : Nat}, j ∉ vs → (rstE ρ₀ ρ vs)[j]? = ρ[j]?
  | [], j, _ => rfl
  | v :: vs, j, h => by
    simp only [List.mem_cons, not_or] at h
    unfold rstE
    rw [List.getElem?_set_ne (fun e => h.1 e.symm)]
    exact rstE_ne h.2
theorem okW_not {ρ : Env} {vs : List Nat} {j : Nat} {q : Sl} (h : okW ρ vs = true) (hj : j ∈ vs) (e : ρ[j]? = some q) : q.mine = false := by
  unfold okW at h
  have := List.all_eq_true.mp h j hj
  rw [e] at this
  simpa using this
section
variable {K : PySem.W.Frag} {mg : MgT} {S : Sx}
/-- into the block's slots: σ' is σ but for the slots vs, of which nothing is known -/
theorem go_wipe {vs : List Nat} {σ' : L2.St} (h : S.rel K mg) (hw : okW S.ρ vs = true) (hl : σ'.length = S.σ.length) (he : ∀ j, j ∉ vs → σ'[j]? = S.σ[j]?) :
    Rel K mg S.B (wipeE S.ρ vs) σ' S.H ∧ ∀ a, Own (wipeE S.ρ vs) σ' a ↔ Own S.ρ S.σ a := by
  have own : ∀ j a, OwnAt (wipeE S.ρ vs) σ' j a → OwnAt S.ρ S.σ j a := fun j a ⟨⟨q, e1, e2⟩, e3⟩ => by
    rcases wipeE_at e1 with rfl | ⟨h1, h2⟩
    · cases e2
    · rw [he j h1] at e3
      exact ⟨⟨q, h2, e2⟩, e3⟩
  have own' : ∀ j a, OwnAt S.ρ S.σ j a → OwnAt (wipeE S.ρ vs) σ' j a := fun j a ⟨⟨q, e1, e2⟩, e3⟩ => by
    have hj : j ∉ vs := fun hj => by rw [okW_not hw hj e1] at e2; cases e2
    exact ⟨⟨q, by rw [wipeE_ne hj]; exact e1, e2⟩, by rw [he j hj]; exact e3⟩
  refine ⟨⟨by rw [wipeE_len, hl]; exact h.len, fun j q e => ?_, fun i j a o1 o2 => h.dist i j a (own i a o1) (own j a o2), h.alloc, h.tab⟩, fun a => ⟨fun ⟨j, z⟩ => ⟨j, own j a z⟩, fun ⟨j, z⟩ => ⟨j, own' j a z⟩⟩⟩
  rcases wipeE_at e with rfl | ⟨h1, h2⟩
  · trivial
  · rw [he j h1]; exact h.sl j q h2
/-- out of the block -/
theorem go_rest {S0 S1 : Sx} {vs : List Nat} (h0 : S0.rel K mg) (hw0 : okW S0.ρ vs = true) (h1 : S1.rel K mg) (hw1 : okW S1.ρ vs = true) (hl : S1.σ.length = S0.σ.length) (he : ∀ j, j ∉ vs → S1.σ[j]? = S0.σ[j]?) (fe : FE S0.B S0.H S1.B S1.H) :
    Rel K mg S1.B (rstE S0.ρ S1.ρ vs) S0.σ S1.H ∧ ∀ a, Own (rstE S0.ρ S1.ρ vs) S0.σ a ↔ Own S1.ρ S1.σ a := by
  have own : ∀ j a, OwnAt (rstE S0.ρ S1.ρ vs) S0.σ j a → OwnAt S1.ρ S1.σ j a := fun j a ⟨⟨q, e1, e2⟩, e3⟩ => by
    rcases rstE_at e1 with ⟨a1, a2⟩ | ⟨a1, a2⟩
    · subst a2
      cases w : S0.ρ[j]? with
      | none => rw [w] at e2; cases e2
      | some r =>
        rw [w] at e2
        have e2 : r.mine = true := e2
        rw [okW_not hw0 a1 w] at e2; cases e2
    · exact ⟨⟨q, a2, e2⟩, by rw [he j a1]; exact e3⟩
  have own' : ∀ j a, OwnAt S1.ρ S1.σ j a → OwnAt (rstE S0.ρ S1.ρ vs) S0.σ j a := fun j a ⟨⟨q, e1, e2⟩, e3⟩ => by
    have hj : j ∉ vs := fun hj => by rw [okW_not hw1 hj e1] at e2; cases e2
    exact ⟨⟨q, by rw [rstE_ne hj]; exact e1, e2⟩, by rw [← he j hj]; exact e3⟩
  refine ⟨⟨by rw [rstE_len, ← hl]; exact h1.len, fun j q e => ?_, fun i j a o1 o2 => h1.dist i j a (own i a o1) (own j a o2), h1.alloc, h1.tab⟩, fun a => ⟨fun ⟨j, z⟩ => ⟨j, own j a z⟩, fun ⟨j, z⟩ => ⟨j, own' j a z⟩⟩⟩
  rcases rstE_at e with ⟨a1, a2⟩ | ⟨a1, a2⟩
  · subst a2
    cases w : S0.ρ[j]? with
    | none => exact trivial
    | some r =>
      have y := h0.sl j r w
      have m := okW_not hw0 a1 w
      show SlR K mg S1.H S1.B r _
      cases r with
      | un => trivial
      | va d => obtain ⟨v, b1, b2⟩ := y; exact ⟨v, b1, Rep.mono fe b2⟩
      | ow xs => cases m
      | io xs => cases m
  · rw [← he j a1]; exact h1.sl j q a2
end
/-- the block's turns -/
def lcL (vs : List Nat) (tg : D → Env → Out) (c : M Bool) (e : M Vl) : List D → List D → Env → R (List D)
  | [], acc, ρ => .ok acc ρ
  | d :: ds, acc, ρ => match tg d ρ with
    | .nx ρ1 => match c ρ1 with
      | .ok true ρ2 => match e ρ2 with
        | .ok a ρ3 => if (okW ρ3 vs && decide (acc.length < 1000000)) = true then lcL vs tg c e ds (acc ++ [a.d]) (wipeE ρ3 vs) else .bad
        | _ => .bad
      | .ok false ρ2 => if okW ρ2 vs = true then lcL vs tg c e ds acc (wipeE ρ2 vs) else .bad
      | _ => .bad
    | _ => .bad
def lcE (vs : List Nat) (it : M (List D)) (tg : D → Env → Out) (c : M Bool) (e : M Vl) : M Vl := fun ρ => bnd (it ρ) fun ds ρ1 => if okW ρ1 vs = true then (match lcL vs tg c e ds [] (wipeE ρ1 vs) with
  | .ok acc ρ2 => if okW ρ2 vs = true then .ok (.fr acc) (rstE ρ1 ρ2 vs) else .bad
  | _ => .bad) else .bad
def yesB : M Bool := fun ρ => .ok true ρ
structure RTs (X : Cx) (ifs : List Expr) (f : M Bool) : Prop where
  run : ∀ Wi, Takes X Wi → PTs X ifs (TT_ X.K X.mg Wi f)
theorem rts_nil {X : Cx} : RTs X [] yesB := ⟨fun Wi tk => ⟨fun pins s σ H Q I q => by
  obtain ⟨S, hS, rfl, rfl, q⟩ := q
  exact pts_nil.run pins s S.σ S.H Q I (q S rfl rfl (Go.refl hS))⟩⟩
theorem rts_one {X : Cx} {e : Expr} {f : M Bool} (h : RT X e f) : RTs X [e] f := ⟨fun Wi tk => pts_one (h.run Wi tk)⟩
abbrev W0 : WX := fun _ _ _ _ => False
section
variable {X : Cx} {pos : Pos}
theorem lcL_ok {vs : List Nat} {tg : D → Env → Out} {c : M Bool} {e : M Vl} {d : D} {ds acc : List D} {ρ : Env} {r : R (List D)} (h : lcL vs tg c e (d :: ds) acc ρ = r) (hr : r ≠ .bad) :
    ∃ ρ1, tg d ρ = .nx ρ1 ∧ ((∃ ρ2 a ρ3, c ρ1 = .ok true ρ2 ∧ e ρ2 = .ok a ρ3 ∧ okW ρ3 vs = true ∧ acc.length < 1000000 ∧ lcL vs tg c e ds (acc ++ [a.d]) (wipeE ρ3 vs) = r) ∨ (∃ ρ2, c ρ1 = .ok false ρ2 ∧ okW ρ2 vs = true ∧ lcL vs tg c e ds acc (wipeE ρ2 vs) = r)) := by
  unfold lcL at h
  cases e1 : tg d ρ with
  | nx ρ1 =>
    simp only [e1] at h
    refine ⟨ρ1, rfl, ?_⟩
    cases e2 : c ρ1 with
    | bad => simp only [e2] at h; exact absurd h.symm hr
    | ex _ _ => simp only [e2] at h; exact absurd h.symm hr
    | ok b ρ2 =>
      cases b with
      | false =>
        simp only [e2] at h
        by_cases cw : okW ρ2 vs = true
        · rw [if_pos cw] at h; exact .inr ⟨ρ2, rfl, cw, h⟩
        · rw [if_neg cw] at h; exact absurd h.symm hr
      | true =>
        simp only [e2] at h
        cases e3 : e ρ2 with
        | bad => simp only [e3] at h; exact absurd h.symm hr
        | ex _ _ => simp only [e3] at h; exact absurd h.symm hr
        | ok a ρ3 =>
          simp only [e3] at h
          by_cases cw : (okW ρ3 vs && decide (acc.length < 1000000)) = true
          · rw [if_pos cw] at h
            simp only [Bool.and_eq_true, decide_eq_true_eq] at cw
            exact .inl ⟨ρ2, a, ρ3, rfl, e3, cw.1, cw.2, h⟩
          · rw [if_neg cw] at h; exact absurd h.symm hr
  | _ => simp only [e1] at h; exact absurd h.symm hr
theorem wipe_idem (σ : L2.St) : ∀ {vs : List Nat} {j : Nat}, j ∉ vs → (wipe σ vs)[j]? = σ[j]? := fun h => wipe_ne h
theorem wipe_ext {σ σ' : L2.St} (hl : σ'.length = σ.length) {vs : List Nat} (he : ∀ j, j ∉ vs → σ'[j]? = σ[j]?) : wipe σ' vs = wipe σ vs := by
  apply List.ext_getElem?
  intro j
  by_cases hj : j ∈ vs
  · have gone : ∀ (τ : L2.St) (vs : List Nat), j ∈ vs → τ.length = σ.length → (wipe τ vs)[j]? = if j < σ.length then some none else none := by
      intro τ vs
      induction vs with
      | nil => intro h; cases h
      | cons v vs ih =>
        intro h hlen
        unfold wipe
        by_cases e : v = j
        · subst e
          by_cases hlt : v < σ.length
          · rw [if_pos hlt]; exact List.getElem?_set_self (by rw [wipe_length, hlen]; exact hlt)
          · rw [if_neg hlt]; exact List.getElem?_eq_none (by rw [List.length_set, wipe_length, hlen]; omega)
        · rw [List.getElem?_set_ne e]
          exact ih ((List.mem_cons.mp h).resolve_left (fun q => e q.symm)) hlen
    rw [gone σ' vs hj hl, gone σ vs hj rfl]
  · rw [wipe_ne hj, wipe_ne hj]; exact he j hj
/-- a target stores into the slots vs alone -/
structure GOnly (g : TG) (vs : List Nat) : Prop where
  only : ∀ v σ H Q, g v σ H Q → g v σ H fun σ' H' => Q σ' H' ∧ σ'.length = σ.length ∧ ∀ j, j ∉ vs → σ'[j]? = σ[j]?
  mono : ∀ v σ H (Q Q' : L2.St → Hp → Prop), (∀ σ H, Q σ H → Q' σ H) → g v σ H Q → g v σ H Q'
theorem gonly_name {i : Nat} {vs : List Nat} (h : i ∈ vs) : GOnly (gName i) vs :=
  ⟨fun v σ H Q q => ⟨q, List.length_set .., fun j hj => List.getElem?_set_ne (fun e => hj (by rw [← e]; exact h))⟩, fun v σ H Q Q' k q => k _ _ q⟩
theorem gNames_mono : ∀ (is : List Nat) (ws : List V) (σ : L2.St) (H : Hp) (Q Q' : L2.St → Hp → Prop), (∀ σ H, Q σ H → Q' σ H) → gNames is ws σ H Q → gNames is ws σ H Q'
  | [], _, _, _, _, _, k, q => ⟨q.1, k _ _ q.2⟩
  | i :: is, _, _, _, _, _, k, q => by
    obtain ⟨v, r, e, q⟩ := q
    exact ⟨v, r, e, gNames_mono is _ _ _ _ _ k q⟩
theorem gonly_names : ∀ {is : List Nat} {vs : List Nat} (h : ∀ i ∈ is, i ∈ vs) (ws : List V) (σ : L2.St) (H : Hp) (Q : L2.St → Hp → Prop), gNames is ws σ H Q → gNames is ws σ H fun σ' H' => Q σ' H' ∧ σ'.length = σ.length ∧ ∀ j, j ∉ vs → σ'[j]? = σ[j]?
  | [], vs, h, ws, σ, H, Q, q => ⟨q.1, q.2, rfl, fun _ _ => rfl⟩
  | i :: is, vs, h, ws, σ, H, Q, q => by
    obtain ⟨v, r, e, q⟩ := q
    refine ⟨v, r, e, ?_⟩
    have z := gonly_names (vs := vs) (fun j hj => h j (List.mem_cons_of_mem _ hj)) r (σ.set i (some v)) H Q q
    exact gNames_mono is r _ H _ _ (fun σ' H' ⟨a, b, c⟩ => ⟨a, b.trans (List.length_set ..), fun j hj => (c j hj).trans (List.getElem?_set_ne (fun e => hj (by rw [← e]; exact h i List.mem_cons_self)))⟩) z
theorem gonly_tup {K : PySem.W.Frag} {n : Nat} {is : List Nat} {vs : List Nat} (h : ∀ i ∈ is, i ∈ vs) : GOnly (gTup K n (gNames is)) vs := ⟨fun v σ H Q q => by
  obtain ⟨a, xs, e, h1, h2, q⟩ := q
  exact ⟨a, xs, e, h1, h2, gonly_names h xs σ H Q q⟩, fun v σ H Q Q' k q => by
  obtain ⟨a, xs, e, h1, h2, q⟩ := q
  exact ⟨a, xs, e, h1, h2, gNames_mono _ _ _ _ _ _ k q⟩⟩
theorem Tr.congr {B W B' W' : Ad} {H H' : Hp} {V V' : Ad} (t : Tr B W H B' W' H') (h : ∀ a, V a ↔ W a) (h' : ∀ a, V' a ↔ W' a) : Tr B V H B' V' H' :=
  ⟨fun a o q n u => t.keep a o q (fun z => n ((h a).mpr z)) u, t.there, t.bnew, fun a z => (t.wnew a ((h' a).mp z)).imp (h a).mpr id, fun a z n => t.bkeep a z fun y => n ((h a).mpr y), t.tabs⟩
theorem okW_wipe {ρ : Env} {vs : List Nat} : okW (wipeE ρ vs) vs = true := by
  unfold okW
  refine List.all_eq_true.mpr fun v hv => ?_
  cases e : (wipeE ρ vs)[v]? with
  | none => rfl
  | some q =>
    rcases wipeE_at e with rfl | ⟨h, _⟩
    · rfl
    · exact absurd hv h
theorem lc_imp {tg : Expr} {scope : Scope} {own : List (Str × Nat)} {fi : M (List D)} {ft : D → Env → Out} {fc : M Bool} {fe : M Vl} {g : TG} (Wi : WX)
    (hg : ∀ (s : Shared) (H : Hp) (C : Addr) (cl : List (Str × Addr)) (fp : List Addr), RG (X.blk s H scope (compEnvC scope cl C X.env) fp) tg g ft) (hgo : GOnly g (own.map (·.2))) :
    ∀ σ H Q, TE_ X.K X.mg Wi (lcE (own.map (·.2)) fi ft fc fe) σ H Q → tLc (TI_ X.K X.mg Wi fi) g (TT_ X.K X.mg W0 fc) (TE_ X.K X.mg W0 fe) (own.map (·.2)) σ H Q := by
  intro σ H Q q
  have hgt : GTg X.K X.mg g ft ∧ ∀ d ρ, (∃ ρ', ft d ρ = .nx ρ') ∨ ft d ρ = .bad := by
    have z := hg X.s_0 X.H_0 0 [] []
    exact ⟨z.gt, z.only⟩
  obtain ⟨hgt, honly⟩ := hgt
  generalize own.map (·.2) = vs at *
  obtain ⟨S, hS, rfl, rfl, q⟩ := q
  refine ⟨S, hS, rfl, rfl, q.bnd fun ds S1 es g1 _ q1 J hJ D0 hD => ?_⟩
  have hS1 := g1.rel
  by_cases cw : okW S1.ρ vs = true
  · rw [if_pos cw] at q1
    cases er : lcL vs ft fc fe ds [] (wipeE S1.ρ vs) with
    | bad => simp only [er] at q1; exact q1.elim
    | ex _ _ => simp only [er] at q1; exact q1.elim
    | ok accF ρF =>
      simp only [er] at q1
      by_cases cf : okW ρF vs = true
      · rw [if_pos cf] at q1
        have hl1 : (wipe S.σ vs).length = S1.σ.length := by rw [wipe_length, es]
        have hn1 : ∀ j, j ∉ vs → (wipe S.σ vs)[j]? = S1.σ[j]? := fun j hj => by rw [wipe_ne hj, es]
        obtain ⟨ri0, oi0⟩ := go_wipe (σ' := wipe S.σ vs) hS1 cw hl1 hn1
        let S0 : Sx := ⟨S1.B, wipeE S1.ρ vs, wipe S.σ vs, S1.H⟩
        have hS0 : S0.rel X.K X.mg := ri0
        have nD : ¬ S1.B D0 := fun z => hS1.alloc D0 z hD
        -- the state ahead of a turn
        refine ⟨fun i m H => m = ds.length - i ∧ i ≤ ds.length ∧ ∃ (B : Ad) (ρ : Env) (acc : List D) (us : List V), Go X.K X.mg S0 ⟨B, ρ, wipe S.σ vs, H⟩ ∧ okW ρ vs = true ∧ B D0 ∧ ¬ Own ρ (wipe S.σ vs) D0 ∧ H D0 = some (.lst us) ∧ RepL X.K X.mg H B acc us ∧
          lcL vs ft fc fe (ds.drop i) acc ρ = .ok accF ρF, ⟨ds.length, by simp, Nat.zero_le _, fun a => S1.B a ∨ a = D0, wipeE S1.ρ vs, [], [], ?_, okW_wipe, .inr rfl, fun z => nD (hS0.wb z), upd_same, .nil, er⟩, ?_⟩
        · refine go_extA hS0 (ext_upd hD) (fun a z => .inl z) (fun a z => z.imp id fun e => by rw [e]; exact hD) fun a z => ?_
          by_cases e : a = D0
          · rw [e, upd_same]; simp
          · rw [upd_ne e]; exact hS1.alloc a (z.resolve_right e)
        rintro i m H ⟨rfl, hi', B, ρ, acc, us, gi, okρ, bD, oD, eD, rD, el⟩
        have hSi := gi.rel
        have feI : FE S1.B S1.H B H := gi.fe hS0
        obtain ⟨y1, y2⟩ := hJ B H feI i
        by_cases hlt : i < ds.length
        · right
          have e1 : ds[i]? = some ds[i] := List.getElem?_eq_getElem hlt
          obtain ⟨go, yl⟩ := y1 _ e1
          have e2 : ds.drop i = ds[i] :: ds.drop (i + 1) := List.drop_eq_getElem_cons hlt
          rw [e2] at el
          obtain ⟨ρ1, et, el⟩ := lcL_ok el (by simp)
          -- what the turn is to reach
          refine ⟨go, fun H' => ∃ (B : Ad) (ρ : Env) (acc : List D) (us : List V), Go X.K X.mg S0 ⟨B, ρ, wipe S.σ vs, H'⟩ ∧ okW ρ vs = true ∧ B D0 ∧ ¬ Own ρ (wipe S.σ vs) D0 ∧ H' D0 = some (.lst us) ∧ RepL X.K X.mg H' B acc us ∧
            lcL vs ft fc fe (ds.drop (i + 1)) acc ρ = .ok accF ρF, fun H' z => ⟨ds.length - (i + 1), by omega, rfl, hlt, z⟩, fun x H3 y => ?_⟩
          obtain ⟨ext, rx⟩ := yl x H3 y
          have rx := rx hSi.alloc
          have al : ∀ a, B a → H3 a ≠ none := fun a z => by
            cases w : H a with
            | none => exact absurd w (hSi.alloc a z)
            | some o => rw [ext a o w]; simp
          have g3 : Go X.K X.mg ⟨B, ρ, wipe S.σ vs, H⟩ ⟨B, ρ, wipe S.σ vs, H3⟩ := go_extA hSi ext (fun a z => z) (fun a z => .inl z) al
          have g03 := gi.trans hS0 g3
          -- the target
          have key : g x (wipe S.σ vs) H3 fun σ2 H2 => ∃ S4 : Sx, S4.σ = σ2 ∧ S4.H = H2 ∧ S4.ρ = ρ1 ∧ Go X.K X.mg ⟨B, ρ, wipe S.σ vs, H3⟩ S4 :=
            hgt W0 ⟨B, ρ, wipe S.σ vs, H3⟩ ds[i] x { nx := fun σ2 H2 => ∃ S4 : Sx, S4.σ = σ2 ∧ S4.H = H2 ∧ S4.ρ = ρ1 ∧ Go X.K X.mg ⟨B, ρ, wipe S.σ vs, H3⟩ S4, rt := fun _ _ => False } g3.rel rx
              (by
                show SatS X.K X.mg W0 _ _ (ft ds[i] ρ)
                rw [et]
                exact fun S4 a1 a2 => ⟨S4, rfl, rfl, a1, a2⟩) ⟨ρ1, .inl et⟩
          have key := hgo.only x _ _ _ key
          refine hgo.mono x _ _ _ _ (fun σ2 H2 z => ?_) key
          obtain ⟨⟨S4, rfl, rfl, rfl, g4⟩, hl4, hn4⟩ := z
          have hS4 := g4.rel
          have g04 := g03.trans hS0 g4
          have bD4 : S4.B D0 := g4.tr.bkeep D0 bD oD
          have oD4 : ¬ Own S4.ρ S4.σ D0 := fun z => (g4.tr.wnew D0 z).elim oD (al D0 bD)
          have eD3 : H3 D0 = some (.lst us) := ext D0 _ eD
          have eD4 : S4.H D0 = some (.lst us) := g4.tr.keep D0 _ eD3 oD trivial
          have rD4 : RepL X.K X.mg S4.H S4.B acc us := RepL.mono ((g3.fe hSi).trans (g4.fe g3.rel)) rD
          have hl4' : S4.σ.length = (wipe S.σ vs).length := hl4
          -- back to the next turn: what stands at a state behind the test or the element
          have back : ∀ (S5 : Sx) (acc' : List D) (us' : List V), S5.σ = S4.σ → Go X.K X.mg S0 S5 → okW S5.ρ vs = true → S5.B D0 → ¬ Own S5.ρ S5.σ D0 → S5.H D0 = some (.lst us') → RepL X.K X.mg S5.H S5.B acc' us' →
              lcL vs ft fc fe (ds.drop (i + 1)) acc' (wipeE S5.ρ vs) = .ok accF ρF →
              ∃ (B : Ad) (ρ : Env) (acc : List D) (us : List V), Go X.K X.mg S0 ⟨B, ρ, wipe S.σ vs, S5.H⟩ ∧ okW ρ vs = true ∧ B D0 ∧ ¬ Own ρ (wipe S.σ vs) D0 ∧ S5.H D0 = some (.lst us) ∧ RepL X.K X.mg S5.H B acc us ∧ lcL vs ft fc fe (ds.drop (i + 1)) acc ρ = .ok accF ρF := by
            intro S5 acc' us' e5 g5 w5 b5 o5 h5 r5 l5
            obtain ⟨rr, oo⟩ := go_wipe (σ' := wipe S.σ vs) g5.rel w5 (by rw [e5, hl4']) (fun j hj => by rw [e5, hn4 j hj])
            refine ⟨S5.B, wipeE S5.ρ vs, acc', us', ⟨rr, g5.tr.congr (fun _ => Iff.rfl) oo, fun j r e1 e2 => ⟨rfl, ?_⟩, rfl⟩, okW_wipe, b5, fun z => o5 ((oo D0).mp z), h5, r5, l5⟩
            obtain ⟨_, q', a1, a2⟩ := g5.io j r e1 e2
            have hj : j ∉ vs := fun hj => by
              have z5 := okW_not w5 hj a1
              cases q' with
              | io xs => exact Bool.noConfusion (show true = false from z5)
              | _ => exact Bool.noConfusion (show false = true from a2)
            exact ⟨q', by show (wipeE S5.ρ vs)[j]? = _; rw [wipeE_ne hj]; exact a1, a2⟩
          refine ⟨wipe_ext (hl4.trans (wipe_length _ _)) (fun j hj => (hn4 j hj).trans (wipe_ne hj)), S4, hS4, rfl, rfl, ?_⟩
          rcases el with ⟨ρ2, a, ρ3, ec, ee, w3, ha, el⟩ | ⟨ρ2, ec, w2, el⟩
          · rw [ec]
            intro S5 e5 s5 g5
            subst e5
            rw [if_pos rfl]
            have hS5 := g5.rel
            have g05 := g04.trans hS0 g5
            refine ⟨S5, hS5, s5, rfl, ?_⟩
            rw [ee]
            intro S6 e6 s6 g6 v rv
            subst e6
            obtain ⟨S7, f1, f2, f3, g7, r7⟩ := freeze hS5 g6 rv
            have bD5 : S5.B D0 := g5.tr.bkeep D0 bD4 oD4
            have oD5 : ¬ Own S5.ρ S5.σ D0 := fun z => (g5.tr.wnew D0 z).elim oD4 (hS4.alloc D0 bD4)
            have eD5 : S5.H D0 = some (.lst us) := g5.tr.keep D0 _ eD4 oD4 trivial
            have bD7 : S7.B D0 := g7.tr.bkeep D0 bD5 oD5
            have oD7 : ¬ Own S7.ρ S7.σ D0 := fun z => (g7.tr.wnew D0 z).elim oD5 (hS5.alloc D0 bD5)
            have eD7 : S7.H D0 = some (.lst us) := g7.tr.keep D0 _ eD5 oD5 trivial
            have rD7 : RepL X.K X.mg S7.H S7.B acc us := RepL.mono ((g5.fe hS4).trans (g7.fe hS5)) rD4
            have g07 := g05.trans hS0 g7
            have hS7 := g07.rel
            rw [← f3]
            refine ⟨us, eD7, by rw [← rD7.length]; exact Nat.lt_of_lt_of_le ha (big_ok (Nat.le_refl _)), ?_⟩
            -- the list has grown
            have fe8 : FE S7.B S7.H S7.B (upd S7.H D0 (.lst (us ++ [v]))) := upd_fe bD7
            have nn : ∀ a, S7.H a ≠ none → upd S7.H D0 (.lst (us ++ [v])) a ≠ none := fun a z => by
              by_cases c : a = D0
              · rw [c, upd_same]; simp
              · rw [upd_ne c]; exact z
            have ownD : ∀ j b, OwnAt S7.ρ S7.σ j b → b ≠ D0 := fun j b z c => oD7 ⟨j, by rw [← c]; exact z⟩
            have tD : ∀ a, GxR.TabG S7.H a → GxR.TabG (upd S7.H D0 (.lst (us ++ [v]))) a := fun a ⟨ps, e, q⟩ => ⟨ps, by
              rw [upd_ne (fun c => by rw [c] at e; rw [eD7] at e; cases e)]; exact e, q⟩
            have g08 : Go X.K X.mg S0 ⟨S7.B, S7.ρ, S7.σ, upd S7.H D0 (.lst (us ++ [v]))⟩ := by
              refine ⟨⟨hS7.len, fun j q e => ?_, hS7.dist, fun a z => nn a (hS7.alloc a z), fun a z => ⟨tD a (hS7.tab a z).1, (hS7.tab a z).2⟩⟩, ⟨fun a o z nw n => ?_, fun a z => nn a (g07.tr.there a z), g07.tr.bnew, g07.tr.wnew, g07.tr.bkeep, fun a z nb => tD a (g07.tr.tabs a z nb)⟩, g07.io, g07.len⟩
              · have y := hS7.sl j q e
                cases q with
                | un => trivial
                | va d => obtain ⟨w, b1, b2⟩ := y; exact ⟨w, b1, Rep.mono fe8 b2⟩
                | ow zs => obtain ⟨b, ws, b1, b2, b3, b4⟩ := y; exact ⟨b, ws, b1, b2, (upd_ne (ownD j b ⟨⟨_, e, rfl⟩, getD_some b1⟩)).trans b3, RepL.mono fe8 b4⟩
                | io zs => obtain ⟨b, ws, b1, b2, b3, b4⟩ := y; exact ⟨b, ws, b1, b2, (upd_ne (ownD j b ⟨⟨_, e, rfl⟩, getD_some b1⟩)).trans b3, RepL.mono fe8 b4⟩
              · have z1 := g07.tr.keep a o z nw n
                show upd S7.H D0 (.lst (us ++ [v])) a = some o
                rw [upd_ne (fun c => by rw [c] at z; rw [show S0.H D0 = none from hD] at z; cases z)]
                exact z1
            exact back ⟨S7.B, S7.ρ, S7.σ, upd S7.H D0 (.lst (us ++ [v]))⟩ (acc ++ [a.d]) (us ++ [v]) ((f2.trans s6).trans s5) g08 (by rw [f1]; exact w3) bD7 oD7 upd_same (RepL.append (RepL.mono fe8 rD7) (.cons (Rep.mono fe8 r7) .nil)) (by rw [f1]; exact el)
          · rw [ec]
            intro S5 e5 s5 g5
            subst e5
            rw [if_neg Bool.false_ne_true]
            have hS5 := g5.rel
            have g05 := g04.trans hS0 g5
            refine back S5 acc us s5 g05 w2 (g5.tr.bkeep D0 bD4 oD4) (fun z => (g5.tr.wnew D0 z).elim oD4 (hS4.alloc D0 bD4)) (g5.tr.keep D0 _ eD4 oD4 trivial) (RepL.mono (g5.fe hS4) rD4) el
        · have e : i = ds.length := by omega
          left
          refine ⟨y2 e, ?_⟩
          rw [e, List.drop_of_length_le (Nat.le_refl _)] at el
          cases el
          obtain ⟨rr, oo⟩ := go_rest (S1 := ⟨B, ρF, wipe S.σ vs, H⟩) hS1 cw hSi okρ hl1 hn1 feI
          have gF : Go X.K X.mg S1 ⟨B, rstE S1.ρ ρF vs, S1.σ, H⟩ := by
            refine ⟨rr, gi.tr.congr (fun a => (oi0 a).symm) oo, fun j r e1 e2 => ⟨rfl, ?_⟩, rfl⟩
            have hj : j ∉ vs := fun hj => by
              have z5 := okW_not cw hj e1
              cases r with
              | io xs => exact Bool.noConfusion (show true = false from z5)
              | _ => exact Bool.noConfusion (show false = true from e2)
            obtain ⟨_, q', a1, a2⟩ := gi.io j r (by show (wipeE S1.ρ vs)[j]? = _; rw [wipeE_ne hj]; exact e1) e2
            exact ⟨q', by show (rstE S1.ρ ρF vs)[j]? = _; rw [rstE_ne hj]; exact a1, a2⟩
          refine q1 ⟨B, rstE S1.ρ ρF vs, S1.σ, H⟩ rfl es (g1.trans hS gF) (.ref D0) ⟨D0, us, rfl, .inr ?_, bD, fun z => oD ((oo D0).mp z), eD, rD⟩
          cases w : S.H D0 with
          | none => rfl
          | some o => exact absurd hD (g1.tr.there D0 (by rw [w]; simp))
      · rw [if_neg cf] at q1; exact q1.elim
  · rw [if_neg cw] at q1; exact q1.elim
theorem re_lc {elt tg iter : Expr} {ifs : List Expr} {scope : Scope} {own : List (Str × Nat)} {fi : M (List D)} {ft : D → Env → Out} {fc : M Bool} {fe : M Vl} {g : TG} (hc : X.calm = true) (hN : X.N.Nodup) (hi : RI X tg iter fi) (ok : BlkOk X.N X.env.scope scope own)
    (hg : ∀ (s : Shared) (H : Hp) (C : Addr) (cl : List (Str × Addr)) (fp : List Addr), RG (X.blk s H scope (compEnvC scope cl C X.env) fp) tg g ft) (ht : ∀ (s : Shared) (H : Hp) (C : Addr) (cl : List (Str × Addr)) (fp : List Addr), RTs (X.blk s H scope (compEnvC scope cl C X.env) fp) ifs fc)
    (he : ∀ (s : Shared) (H : Hp) (C : Addr) (cl : List (Str × Addr)) (fp : List Addr), RE (X.blk s H scope (compEnvC scope cl C X.env) fp) elt fe) (hgo : GOnly g (own.map (·.2))) (hs : ∀ x, foldedSetIterable iter X.env x = pure x := by intro _; rfl) :
    RE X (.ListComp elt [⟨tg, iter, ifs, 0⟩] scope pos) (lcE (own.map (·.2)) fi ft fc fe) :=
  ⟨fun Wi tk => pe_imp (pe_lc (tt := TT_ X.K X.mg W0 fc) (te := TE_ X.K X.mg W0 fe) hc hN (hi.run Wi tk) ok (fun s H C cl fp => (hg s H C cl fp).pg) (fun s H C cl fp => (ht s H C cl fp).run W0 takes0) (fun s H C cl fp => (he s H C cl fp).run W0 takes0) hs) (lc_imp Wi hg hgo)⟩
/-- name = [..] on one line -/
theorem rs_setLc {i : Nat} {y : Str} {py spos : Pos} {elt tg iter : Expr} {ifs : List Expr} {scope : Scope} {own : List (Str × Nat)} {fi : M (List D)} {ft : D → Env → Out} {fc : M Bool} {fe : M Vl} {g : TG} (hc : X.calm = true) (hN : X.N.Nodup) (hy : X.N[i]? = some y) (hyl : X.env.scope.names.lookup y = some .local) (hi : RI X tg iter fi) (ok : BlkOk X.N X.env.scope scope own)
    (hg : ∀ (s : Shared) (H : Hp) (C : Addr) (cl : List (Str × Addr)) (fp : List Addr), RG (X.blk s H scope (compEnvC scope cl C X.env) fp) tg g ft) (ht : ∀ (s : Shared) (H : Hp) (C : Addr) (cl : List (Str × Addr)) (fp : List Addr), RTs (X.blk s H scope (compEnvC scope cl C X.env) fp) ifs fc)
    (he : ∀ (s : Shared) (H : Hp) (C : Addr) (cl : List (Str × Addr)) (fp : List Addr), RE (X.blk s H scope (compEnvC scope cl C X.env) fp) elt fe) (hgo : GOnly g (own.map (·.2))) (hsw : swapsWith (.ListComp elt [⟨tg, iter, ifs, 0⟩] scope pos) (some (.Name y py)) spos.line X.env = pure true := by rfl) (hs : ∀ x, foldedSetIterable iter X.env x = pure x := by intro _; rfl) :
    RS X (.Assign [.Name y py] (.ListComp elt [⟨tg, iter, ifs, 0⟩] scope pos) spos) (setS i (lcE (own.map (·.2)) fi ft fc fe)) := by
  refine ⟨fun Wi tk => ps_imp (ps_setLc (tt := TT_ X.K X.mg W0 fc) (te := TE_ X.K X.mg W0 fe) hc hN hy hyl hsw (hi.run Wi tk) ok (fun s H C cl fp => (hg s H C cl fp).pg) (fun s H C cl fp => (ht s H C cl fp).run W0 takes0) (fun s H C cl fp => (he s H C cl fp).run W0 takes0) hs) fun D σ H q => ?_⟩
  obtain ⟨S, hS, rfl, rfl, q⟩ := q
  refine lc_imp Wi hg hgo S.σ S.H (fun x H1 => gName i x S.σ H1 D.nx) ⟨S, hS, rfl, rfl, q.bnd fun a S1 es g1 _ q1 v rv => ?_⟩
  show D.nx (S.σ.set i (some v)) S1.H
  rw [← es]
  exact put_sat hS g1 rv q1
end
end KL
end

section
set_option Elab.async false
set_option linter.all false
set_option maxRecDepth 100000
namespace KL
open PySem L2
variable [Tabs]

/-! ### defs -/
def vaL (ds : List D) : Env := ds.map Sl.va
/-- how a def is entered: io: its first parameter is a borrowed list -/
def Entry (io : Bool) (ρ : Env) : Prop := if io = true then ∃ xs ds, ρ = .io xs :: vaL ds else ∃ ds, ρ = vaL ds
section
variable (K : PySem.W.Frag) (mg : MgT)
def spF (np : Nat) (io : Bool) (f : M Vl) : Sp := fun vs H Q E => vs.length = np ∧ ∃ S : Sx, S.rel K mg ∧ S.σ = vs.map some ∧ S.H = H ∧ Entry io S.ρ ∧ Sat K mg (fun c d _ H => E c d H) S (fun a S' => ∀ v, RepV K mg S S' a v → Q v S'.H) (f S.ρ)
end
/-- of the parameters' slots the borrowed lists alone are handed back -/
def cutE : Env → Env → Env
  | [], _ => []
  | q0 :: r0, [] => .un :: cutE r0 []
  | q0 :: r0, q :: r => (if (q0.isIo && q.isIo) = true then q else .un) :: cutE r0 r
/-- a def of m more names than parameters -/
def fnM (m : Nat) (b : SM) : M Vl := fun ρ => match b (ρ ++ List.replicate m .un) with
  | .nx ρ' => .ok (.fz .non) (cutE ρ ρ')
  | .rt a ρ' => .ok a (cutE ρ ρ')
  | .ex e ρ' => .ex e (cutE ρ ρ')
  | _ => .bad
section
variable {K : PySem.W.Frag} {mg : MgT}
theorem cutE_len : ∀ (r0 r : Env), (cutE r0 r).length = r0.length
  | [], _ => rfl
  | q0 :: r0, [] => by simp [cutE, cutE_len r0 []]
  | q0 :: r0, q :: r => by simp [cutE, cutE_len r0 r]
theorem cutE_at : ∀ {r0 r : Env} {i : Nat} {q : Sl}, (cutE r0 r)[i]? = some q → q = .un ∨ (∃ q0, r0[i]? = some q0 ∧ q0.isIo = true ∧ r[i]? = some q ∧ q.isIo = true)
  | [], _, i, q, h => by simp [cutE] at h
  | q0 :: r0, [], 0, q, h => by simp [cutE] at h; exact .inl h.symm
  | q0 :: r0, [], i + 1, q, h => by
    simp only [cutE, List.getElem?_cons_succ] at h
    rcases cutE_at h with h | ⟨_, _, _, h3, _⟩
    · exact .inl h
    · simp at h3
  | q0 :: r0, q1 :: r, 0, q, h => by
    simp only [cutE, List.getElem?_cons_zero, Option.some.injEq] at h
    by_cases c : (q0.isIo && q1.isIo) = true
    · rw [if_pos c] at h
      subst h
      simp only [Bool.and_eq_true] at c
      exact .inr ⟨q0, by simp, c.1, by simp, c.2⟩
    · rw [if_neg c] at h
      exact .inl h.symm
  | q0 :: r0, q1 :: r, i + 1, q, h => by
    simp only [cutE, List.getElem?_cons_succ] at h
    rcases cutE_at h with h | ⟨a, b, c, d, e⟩
    · exact .inl h
    · exact .inr ⟨a, by simpa using b, c, by simpa using d, e⟩
theorem cutE_io : ∀ {r0 r : Env} {i : Nat} {q0 q : Sl}, r0[i]? = some q0 → q0.isIo = true → r[i]? = some q → q.isIo = true → (cutE r0 r)[i]? = some q
  | [], _, i, q0, q, h, _, _, _ => by simp at h
  | p0 :: r0, [], i, q0, q, _, _, h, _ => by simp at h
  | p0 :: r0, p :: r, 0, q0, q, h1, h2, h3, h4 => by
    simp at h1 h3
    subst h1; subst h3
    simp [cutE, h2, h4]
  | p0 :: r0, p :: r, i + 1, q0, q, h1, h2, h3, h4 => by
    simp only [cutE, List.getElem?_cons_succ]
    exact cutE_io (by simpa using h1) h2 (by simpa using h3) h4
theorem io_mine {q : Sl} (h : q.isIo = true) : q.mine = true := by cases q <;> first | rfl | exact nomatch h
/-- back to the caller: the parameters' slots alone -/
theorem go_cut {S S1 : Sx} {Sb : Sx} {m : Nat} (hS : S.rel K mg) (hb1 : Sb.B = S.B) (hb2 : Sb.ρ = S.ρ ++ List.replicate m .un) (hb3 : Sb.σ = S.σ ++ List.replicate m none) (hb4 : Sb.H = S.H)
    (g : Go K mg Sb S1) : Go K mg S ⟨S1.B, cutE S.ρ S1.ρ, S.σ, S1.H⟩ ∧ ∀ a v, RepV K mg Sb S1 a v → RepV K mg S ⟨S1.B, cutE S.ρ S1.ρ, S.σ, S1.H⟩ a v := by
  have ownb : ∀ a, Own Sb.ρ Sb.σ a ↔ Own S.ρ S.σ a := fun a => by
    have hl := hS.len
    constructor
    · rintro ⟨i, ⟨q, e1, e2⟩, e3⟩
      rw [hb2] at e1
      rw [hb3] at e3
      by_cases hi : i < S.ρ.length
      · rw [List.getElem?_append_left hi] at e1
        rw [List.getElem?_append_left (by omega)] at e3
        exact ⟨i, ⟨q, e1, e2⟩, e3⟩
      · rw [List.getElem?_append_right (by omega), List.getElem?_replicate] at e1
        split at e1
        · cases e1; cases e2
        · cases e1
    · rintro ⟨i, ⟨q, e1, e2⟩, e3⟩
      have hi : i < S.ρ.length := (List.getElem?_eq_some_iff.mp e1).1
      refine ⟨i, ⟨q, ?_, e2⟩, ?_⟩
      · rw [hb2, List.getElem?_append_left hi]; exact e1
      · rw [hb3, List.getElem?_append_left (by omega)]; exact e3
  have low : ∀ {i : Nat} {q0 : Sl}, S.ρ[i]? = some q0 → Sb.ρ[i]? = some q0 ∧ Sb.σ[i]? = S.σ[i]? := fun {i q0} e => by
    have hi : i < S.ρ.length := (List.getElem?_eq_some_iff.mp e).1
    have hl := hS.len
    exact ⟨by rw [hb2, List.getElem?_append_left hi]; exact e, by rw [hb3, List.getElem?_append_left (by omega)]⟩
  have own : ∀ i a, OwnAt (cutE S.ρ S1.ρ) S.σ i a → OwnAt S1.ρ S1.σ i a := fun i a ⟨⟨q, e1, e2⟩, e3⟩ => by
    rcases cutE_at e1 with rfl | ⟨q0, h1, h2, h3, h4⟩
    · cases e2
    · obtain ⟨l1, l2⟩ := low h1
      obtain ⟨g1, _⟩ := g.io i q0 l1 h2
      exact ⟨⟨q, h3, e2⟩, by rw [g1, l2]; exact e3⟩
  have gg : Go K mg S ⟨S1.B, cutE S.ρ S1.ρ, S.σ, S1.H⟩ := by
    refine ⟨⟨by rw [cutE_len]; exact hS.len, fun i q e => ?_, fun i j a o1 o2 => g.rel.dist i j a (own i a o1) (own j a o2), g.rel.alloc, g.rel.tab⟩,
      ⟨fun a o z nw n => g.tr.keep a o (by rw [hb4]; exact z) (fun y => nw ((ownb a).mp y)) n, fun a z => g.tr.there a (by rw [hb4]; exact z), fun a z => (by have := g.tr.bnew a z; rw [hb1, hb4] at this; exact this), fun a ⟨i, z⟩ => (g.tr.wnew a ⟨i, own i a z⟩).imp (ownb a).mp (fun e => by rw [hb4] at e; exact e), fun a z nw => g.tr.bkeep a (by rw [hb1]; exact z) fun y => nw ((ownb a).mp y), fun a z nb => g.tr.tabs a (by rw [hb4]; exact z) (by rw [hb1]; exact nb)⟩, fun i q e1 e2 => ⟨rfl, ?_⟩, rfl⟩
    · have e : (cutE S.ρ S1.ρ)[i]? = some q := e
      rcases cutE_at e with rfl | ⟨q0, h1, h2, h3, h4⟩
      · trivial
      · obtain ⟨l1, l2⟩ := low h1
        obtain ⟨g1, _⟩ := g.io i q0 l1 h2
        have y := g.rel.sl i q h3
        rw [g1, l2] at y
        exact y
    · obtain ⟨l1, l2⟩ := low e1
      obtain ⟨_, q', g2, g3⟩ := g.io i q l1 e2
      exact ⟨q', cutE_io e1 e2 g2 g3, g3⟩
  refine ⟨gg, fun a v r => ?_⟩
  cases a with
  | fz d => exact r
  | fr xs =>
    obtain ⟨l, vs, e, z, hb, hw, hh, hr⟩ := r
    exact ⟨l, vs, e, z.imp (ownb l).mp (fun e => by rw [hb4] at e; exact e), hb, fun ⟨i, y⟩ => hw ⟨i, own i l y⟩, hh, hr⟩
end
/-- THE RULE: a def keeps the promise that its body's terms make -/
theorem fn_rule {P : Program} {w : World} {K : PySem.W.Frag} {mg : MgT} {base : Heap} {x qual : Str} {params : Arguments} {body : List Stmt} {scope : Scope} {dvs : List V} {kws : List (Str × V)} {f : Addr} {fd : FuncData} {N ps : List Str} {k : Nat} {io : Bool} {b : SM}
    (F : FunD K x qual params body scope dvs kws f fd) (Sc : FnScope N ps scope) (n : Nat) (hn : N.length = ps.length + n) (hb : ∀ (cdv : Value), fd.code = cdv → ∀ (A : Around) (outer : List PySem.Env) (s : Shared) (H : Hp) (E : XK), RoomG k (A.deeper (PyProof.Rows.envOfC qual scope s.heap.objs.size f cdv)) →
      RSs (cxOf (L2.CX P w) P w K mg base N qual scope f cdv A outer s H E) body b) : FnG P w K mg base (L2.CX P w) (k + 1) f fd ps (spF K mg ps.length io (fnM n b)) := by
  obtain ⟨oc, od, dV, kV, doc, pm, an, cdv, ct, osl, rfl, lk, hcd, _, _⟩ := F.ex
  refine fnG_of lk hcd Sc (fun vs H Q E h => h.1) fun A outer s H vs Q E hr hsp => ⟨_, (hb cdv rfl A outer s H E hr).run (fun c d _ H => E c d H) (takes_of rfl rfl rfl rfl), ?_⟩
  obtain ⟨hvl, S, hS, e1, e2, hE, q⟩ := hsp
  have hst : L2.start N vs = S.σ ++ List.replicate n none := by
    unfold L2.start
    rw [e1, hn, hvl, Nat.add_sub_cancel_left]
  have hl : S.ρ.length = S.σ.length := hS.len
  have hl2 : S.σ.length = vs.length := by rw [e1, List.length_map]
  let Sb : Sx := ⟨S.B, S.ρ ++ List.replicate n .un, S.σ ++ List.replicate n none, S.H⟩
  have hSb : Sb.rel K mg := by
    have low : ∀ {i : Nat} {q : Sl}, Sb.ρ[i]? = some q → q = .un ∨ (S.ρ[i]? = some q ∧ Sb.σ[i]? = S.σ[i]?) := fun {i q} e => by
      have e : (S.ρ ++ List.replicate n .un)[i]? = some q := e
      by_cases hi : i < S.ρ.length
      · rw [List.getElem?_append_left hi] at e
        exact .inr ⟨e, by show (S.σ ++ List.replicate n none)[i]? = _; rw [List.getElem?_append_left (by omega)]⟩
      · rw [List.getElem?_append_right (by omega), List.getElem?_replicate] at e
        split at e
        · exact .inl (Option.some.inj e).symm
        · cases e
    have own : ∀ i a, OwnAt Sb.ρ Sb.σ i a → OwnAt S.ρ S.σ i a := fun i a ⟨⟨q, e1, e2⟩, e3⟩ => by
      rcases low e1 with rfl | ⟨h1, h2⟩
      · cases e2
      · exact ⟨⟨q, h1, e2⟩, by rw [← h2]; exact e3⟩
    refine ⟨by simp [Sb, hl], fun i q e => ?_, fun i j a o1 o2 => hS.dist i j a (own i a o1) (own j a o2), hS.alloc, hS.tab⟩
    rcases low e with rfl | ⟨h1, h2⟩
    · trivial
    · rw [h2]; exact hS.sl i q h1
  refine ⟨Sb, hSb, hst.symm, e2, ?_⟩
  unfold fnM at q
  cases eb : b Sb.ρ with
  | bad => rw [show b (S.ρ ++ List.replicate n .un) = .bad from eb] at q; exact q
  | bk ρ' => rw [show b (S.ρ ++ List.replicate n .un) = .bk ρ' from eb] at q; exact q.elim
  | ct ρ' => rw [show b (S.ρ ++ List.replicate n .un) = .ct ρ' from eb] at q; exact q.elim
  | nx ρ' =>
    rw [show b (S.ρ ++ List.replicate n .un) = .nx ρ' from eb] at q
    intro S1 f1 g
    obtain ⟨gg, rr⟩ := go_cut (S := S) (Sb := Sb) hS rfl rfl rfl rfl g
    subst f1
    exact q ⟨S1.B, cutE S.ρ S1.ρ, S.σ, S1.H⟩ rfl rfl gg .non (rr (.fz .non) .non .non)
  | rt a ρ' =>
    rw [show b (S.ρ ++ List.replicate n .un) = .rt a ρ' from eb] at q
    intro S1 v f1 g rv
    obtain ⟨gg, rr⟩ := go_cut (S := S) (Sb := Sb) hS rfl rfl rfl rfl g
    subst f1
    exact q ⟨S1.B, cutE S.ρ S1.ρ, S.σ, S1.H⟩ rfl rfl gg v (rr a v rv)
  | ex e ρ' =>
    rw [show b (S.ρ ++ List.replicate n .un) = .ex e ρ' from eb] at q
    intro S1 cls dd f1 g rx
    obtain ⟨gg, rr⟩ := go_cut (S := S) (Sb := Sb) hS rfl rfl rfl rfl g
    subst f1
    exact q ⟨S1.B, cutE S.ρ S1.ρ, S.σ, S1.H⟩ cls dd rfl rfl gg rx
end KL
end

section
set_option Elab.async false
set_option linter.all false
set_option maxRecDepth 100000
namespace KL
open PySem L2
variable [Tabs]

/-! ### calls of defs -/
def back {α : Type} (r : R α) (ρ : Env) : R α := match r with
  | .ok a _ => .ok a ρ
  | .ex e _ => .ex e ρ
  | .bad => .bad
def callV (np : Nat) (f : M Vl) (dd : List D) (args : M (List Od)) : M Vl := fun ρ => bnd (args ρ) fun os ρ1 => match vals? os with
  | some ds => if (ds ++ dd).length = np then back (f (vaL (ds ++ dd))) ρ1 else .bad
  | none => .bad
/-- the first argument is a list of one's own, borrowed -/
def backI (i : Nat) (r : R Vl) (ρ : Env) : R Vl := match r with
  | .ok a (.io ys :: _) => (match ρ[i]? with
    | some q => .ok a (ρ.set i (q.upd ys))
    | none => .bad)
  | .ex e (.io ys :: _) => (match ρ[i]? with
    | some q => .ex e (ρ.set i (q.upd ys))
    | none => .bad)
  | _ => .bad
def callI (np : Nat) (f : M Vl) (dd : List D) (args : M (List Od)) : M Vl := fun ρ => bnd (args ρ) fun os ρ1 => match os with
  | .s i :: os' => match vals? os' with
    | some ds => match ρ1[i]? with
      | some q => match q.lst? with
        | some xs => if (ds ++ dd).length + 1 = np then backI i (f (.io xs :: vaL (ds ++ dd))) ρ1 else .bad
        | none => .bad
      | none => .bad
    | none => .bad
  | _ => .bad
section
variable {K : PySem.W.Frag} {mg : MgT} {S : Sx}
theorem vaL_at {ds : List D} {i : Nat} {q : Sl} (h : (vaL ds)[i]? = some q) : ∃ d, ds[i]? = some d ∧ q = .va d := by
  unfold vaL at h
  rw [List.getElem?_map] at h
  cases e : ds[i]? with
  | none => rw [e] at h; cases h
  | some d => rw [e] at h; exact ⟨d, rfl, (Option.some.inj h).symm⟩
/-- the callee's state at its entry -/
theorem entryV (h : S.rel K mg) {ds : List D} {vs : List V} (r : RepL K mg S.H S.B ds vs) : Sx.rel K mg ⟨S.B, vaL ds, vs.map some, S.H⟩ ∧ ∀ a, ¬ Own (vaL ds) (vs.map some) a := by
  have no : ∀ i a, ¬ OwnAt (vaL ds) (vs.map some) i a := fun i a ⟨⟨q, e1, e2⟩, _⟩ => by
    obtain ⟨d, _, rfl⟩ := vaL_at e1
    cases e2
  refine ⟨⟨by simp [vaL, r.length], fun i q e => ?_, fun i j a o _ => absurd o (no i a), h.alloc, h.tab⟩, fun a ⟨i, z⟩ => no i a z⟩
  obtain ⟨d, e1, rfl⟩ := vaL_at e
  obtain ⟨v, e2, rv⟩ := r.get e1
  exact ⟨v, by rw [List.getElem?_map, e2]; rfl, rv⟩
/-- behind a call that borrowed nothing -/
theorem go_back {S1 : Sx} {ds : List D} {vs : List V} (h : S.rel K mg) (no : ∀ a, ¬ Own (vaL ds) (vs.map some) a) (g : Go K mg ⟨S.B, vaL ds, vs.map some, S.H⟩ S1) : Go K mg S ⟨S1.B, S.ρ, S.σ, S1.H⟩ ∧ ∀ a v, RepV K mg ⟨S.B, vaL ds, vs.map some, S.H⟩ S1 a v → RepV K mg S ⟨S1.B, S.ρ, S.σ, S1.H⟩ a v := by
  have gg : Go K mg S ⟨S1.B, S.ρ, S.σ, S1.H⟩ := go_ext h (fun a o q n => g.tr.keep a o q (no a) n) g.tr.tabs (fun a z => g.tr.bkeep a z (no a)) g.tr.bnew g.rel.alloc g.tr.there
  refine ⟨gg, fun a v r => ?_⟩
  cases a with
  | fz d => exact r
  | fr xs =>
    obtain ⟨l, ws, e, z, hb, hw, hh, hr⟩ := r
    have z' : S.H l = none := z.resolve_left (no l)
    exact ⟨l, ws, e, .inr z', hb, fun o => h.alloc l (h.wb o) z', hh, hr⟩
/-- behind a call that borrowed the list of the slot i -/
theorem go_backI {S1 : Sx} {i : Nat} {q : Sl} {l : Addr} {xs ys : List D} {ds : List D} {vs : List V} {r : Env} (h : S.rel K mg) (e : S.ρ[i]? = some q) (e2 : q.lst? = some xs) (hl : S.σ[i]? = some (some (.ref l)))
    (g : Go K mg ⟨S.B, .io xs :: vaL ds, some (.ref l) :: vs.map some, S.H⟩ S1) (hσ : S1.σ = some (.ref l) :: vs.map some) (hρ : S1.ρ = .io ys :: r) :
    Go K mg S ⟨S1.B, S.ρ.set i (q.upd ys), S.σ, S1.H⟩ ∧ ∀ a v, RepV K mg ⟨S.B, .io xs :: vaL ds, some (.ref l) :: vs.map some, S.H⟩ S1 a v → RepV K mg S ⟨S1.B, S.ρ.set i (q.upd ys), S.σ, S1.H⟩ a v := by
  obtain ⟨l', ws, a1, a2, a3, hO, a5⟩ := own_at h e e2
  rw [hl] at a1
  cases a1
  have own0 : ∀ a, Own (.io xs :: vaL ds) (some (.ref l) :: vs.map some) a → a = l := fun a ⟨j, ⟨p, f1, f2⟩, f3⟩ => by
    cases j with
    | zero => exact (V.ref.inj (Option.some.inj (Option.some.inj f3))).symm
    | succ j =>
      obtain ⟨d, _, rfl⟩ := vaL_at (by simpa using f1)
      cases f2
  have hO1 : OwnAt S1.ρ S1.σ 0 l := ⟨⟨_, by rw [hρ]; rfl, rfl⟩, by rw [hσ]; rfl⟩
  have y := g.rel.sl 0 _ (show S1.ρ[0]? = some (.io ys) by rw [hρ]; rfl)
  rw [hσ] at y
  obtain ⟨l'', us', b1, b2, b3, b4⟩ := y
  have b1 : l = l'' := V.ref.inj (Option.some.inj b1)
  subst b1
  have hm : q.mine = true := by
    cases q <;> first | rfl | cases e2
  have um : (q.upd ys).mine = true := by cases q <;> first | rfl | exact hm
  have ui : (q.upd ys).isIo = q.isIo := by cases q <;> rfl
  have nb : ∀ a, ¬ S.B a → a ≠ l := fun a hb z => hb (by rw [z]; exact a5)
  have fe : FE S.B S.H S1.B S1.H := ⟨fun a o z hb n => g.tr.keep a o z (fun y => nb a hb (own0 a y)) n, g.tr.bnew, fun a z _ => g.tr.there a z⟩
  have own : ∀ j b, OwnAt (S.ρ.set i (q.upd ys)) S.σ j b → OwnAt S.ρ S.σ j b := fun j b ⟨⟨p, f1, f2⟩, f3⟩ => by
    rcases set_some f1 with ⟨rfl, rfl⟩ | ⟨_, f1⟩
    · exact ⟨⟨q, e, hm⟩, f3⟩
    · exact ⟨⟨p, f1, f2⟩, f3⟩
  have gg : Go K mg S ⟨S1.B, S.ρ.set i (q.upd ys), S.σ, S1.H⟩ := by
    refine ⟨⟨by show (S.ρ.set i _).length = _; rw [List.length_set]; exact h.len, fun j p f1 => ?_, fun j k b o1 o2 => h.dist j k b (own j b o1) (own k b o2), g.rel.alloc, g.rel.tab⟩,
      ⟨fun a o z nw n => g.tr.keep a o z (fun y => nw (by rw [own0 a y]; exact ⟨i, hO⟩)) n, g.tr.there, g.tr.bnew, fun a ⟨j, z⟩ => .inl ⟨j, own j a z⟩, fun a z nw => g.tr.bkeep a z fun y => nw (by rw [own0 a y]; exact ⟨i, hO⟩), g.tr.tabs⟩, fun j p f1 f2 => ⟨rfl, ?_⟩, rfl⟩
    · have f1 : (S.ρ.set i (q.upd ys))[j]? = some p := f1
      show SlR K mg S1.H S1.B p (S.σ[j]?.getD none)
      rcases set_some f1 with ⟨rfl, rfl⟩ | ⟨nj, f1⟩
      · rw [getD_of hl]
        cases q with
        | un => cases hm
        | va d => cases hm
        | ow zs => exact ⟨l, us', rfl, b2, b3, b4⟩
        | io zs => exact ⟨l, us', rfl, b2, b3, b4⟩
      · have y := h.sl j p f1
        have other : ∀ b, S.σ[j]?.getD none = some (.ref b) → p.mine = true → b ≠ l := fun b eb em z => by
          subst z
          exact nj (h.dist j i b ⟨⟨p, f1, em⟩, getD_some eb⟩ hO)
        cases p with
        | un => trivial
        | va d => obtain ⟨w, c1, c2⟩ := y; exact ⟨w, c1, Rep.mono fe c2⟩
        | ow zs => obtain ⟨b, vs', c1, c2, c3, c4⟩ := y; exact ⟨b, vs', c1, g.tr.bkeep b c2 (fun z => other b c1 rfl (own0 b z)), g.tr.keep b _ c3 (fun z => other b c1 rfl (own0 b z)) trivial, RepL.mono fe c4⟩
        | io zs => obtain ⟨b, vs', c1, c2, c3, c4⟩ := y; exact ⟨b, vs', c1, g.tr.bkeep b c2 (fun z => other b c1 rfl (own0 b z)), g.tr.keep b _ c3 (fun z => other b c1 rfl (own0 b z)) trivial, RepL.mono fe c4⟩
    · show ∃ q', (S.ρ.set i (q.upd ys))[j]? = some q' ∧ _
      by_cases c : j = i
      · subst c
        rw [e] at f1; cases f1
        exact ⟨q.upd ys, List.getElem?_set_self (List.getElem?_eq_some_iff.mp e).1, by rw [ui]; exact f2⟩
      · exact ⟨p, by rw [List.getElem?_set_ne (Ne.symm c)]; exact f1, f2⟩
  refine ⟨gg, fun a v rv => ?_⟩
  cases a with
  | fz d => exact rv
  | fr zs =>
    obtain ⟨m, ws', e', z, hb, hw, hh, hr⟩ := rv
    have ne : m ≠ l := fun c => hw (by rw [c]; exact ⟨0, hO1⟩)
    have z' : S.H m = none := z.resolve_left fun y => ne (own0 m y)
    exact ⟨m, ws', e', .inr z', hb, fun ⟨j, o⟩ => h.alloc m (h.wb ⟨j, own j m o⟩) z', hh, hr⟩
theorem entryI (h : S.rel K mg) {i : Nat} {q : Sl} {l : Addr} {xs : List D} {ds : List D} {vs : List V} (e : S.ρ[i]? = some q) (e2 : q.lst? = some xs) (hl : S.σ[i]? = some (some (.ref l))) (r : RepL K mg S.H S.B ds vs) :
    Sx.rel K mg ⟨S.B, .io xs :: vaL ds, some (.ref l) :: vs.map some, S.H⟩ := by
  obtain ⟨l', ws, a1, a2, a3, hO, a5⟩ := own_at h e e2
  rw [hl] at a1
  cases a1
  have z0 : ∀ j a, OwnAt (.io xs :: vaL ds) (some (.ref l) :: vs.map some) j a → j = 0 := fun j a ⟨⟨p, f1, f2⟩, f3⟩ => by
    cases j with
    | zero => rfl
    | succ j =>
      obtain ⟨d, _, rfl⟩ := vaL_at (by simpa using f1)
      cases f2
  refine ⟨by simp [vaL, r.length], fun j p f1 => ?_, fun j k a o1 o2 => by rw [z0 j a o1, z0 k a o2], h.alloc, h.tab⟩
  cases j with
  | zero =>
    have ep : p = .io xs := (Option.some.inj f1).symm
    subst ep
    exact ⟨l, ws, rfl, a5, a2, a3⟩
  | succ j =>
    obtain ⟨d, e1, rfl⟩ := vaL_at (by simpa using f1)
    obtain ⟨v, e3, rv⟩ := r.get e1
    exact ⟨v, by rw [List.getElem?_cons_succ, List.getElem?_map, e3]; rfl, rv⟩
end
/-- the defaults: data of one word -/
def Dfl (K : PySem.W.Frag) (mg : MgT) (dd : List D) (dvs : List V) : Prop := ∀ H B, RepL K mg H B dd dvs
section
variable {X : Cx} {k : Nat} {f : Addr} {fd : FuncData} {ps : List Str} {fm : M Vl} {np : Nat} {x : Str} {p pos : Pos} {e : Expr} {es : List Expr} {g : M (List Od)} {dd : List D} {dvs : List V} {ds : List Value}
/-- the call's result, as the caller sees it -/
theorem callV_sat {S : Sx} {Wi : WX} {Q : VK} {zs : List D} {vs : List V} (hS : S.rel X.K X.mg) (r : RepL X.K X.mg S.H S.B zs vs) (hn : vs.length = np)
    (q : Sat X.K X.mg Wi S (fun a S' => ∀ v, RepV X.K X.mg S S' a v → Q v S'.H) (back (fm (vaL zs)) S.ρ)) : spF X.K X.mg np false fm vs S.H Q (WE Wi S.σ) := by
  obtain ⟨hE, no⟩ := entryV hS r
  refine ⟨hn, _, hE, rfl, rfl, ⟨zs, rfl⟩, ?_⟩
  cases ef : fm (vaL zs) with
  | bad => rw [ef] at q; exact q
  | ok a ρ' =>
    rw [ef] at q
    intro S1 e1 e2 g1 v rv
    obtain ⟨gg, rr⟩ := go_back hS no g1
    exact q ⟨S1.B, S.ρ, S.σ, S1.H⟩ rfl rfl gg v (rr a v rv)
  | ex d ρ' =>
    rw [ef] at q
    intro S1 cls dd e1 e2 g1 rx
    obtain ⟨gg, rr⟩ := go_back hS no g1
    exact q ⟨S1.B, S.ρ, S.σ, S1.H⟩ cls dd rfl rfl gg rx
theorem run_fnG {CX : CXT} {sp : Sp} {E : L2.St → XK} {pins : List (Addr × Obj)} {σ : L2.St} {H : Hp} {s : Shared} {Q : VK} {us : List Value} {vs : List V} (F : FnG X.prog X.w X.K X.mg X.base CX k f fd ps sp) (hr : RoomG k X.A) (hb : Binds X.K fd ps ds) (hd : Vals dvs ds) (hx : PassesAt CX X σ (E σ))
    (I : Inv X pins σ H s) (r : Vals vs us) (h : sp (vs ++ dvs) H Q (E σ)) : wpAny (model X.prog X.w) X.A (call (.ref f) us) (EP X pins σ Q) X.xe s := by
  have ra := r.append hd
  refine wpAny_call (codeAny_mono (F.run X.A X.stack s H ⟨us, []⟩ (us ++ ds) (vs ++ dvs) Q (E σ) hr I.env0 (hb s us I.kIn (ra.length.symm.trans (F.len _ _ _ _ h))) ra h) fun r s' hq => ?_)
  match r, hq with
  | .error e, hq => exact hx pins H s e s' I hq
  | .ok (.ret u), hq => exact I.after hq
  | .ok .next, hq => exact False.elim hq
  | .ok .brk, hq => exact False.elim hq
  | .ok .cont, hq => exact False.elim hq
theorem pe_callG {CX : CXT} {sp : Sp} {E : L2.St → XK} {t : TA} (F : FnG X.prog X.w X.K X.mg X.base CX k f fd ps sp) (hr : RoomG k X.A) (hg : Gl X x) (hm : X.mg x = some (.ref f)) (hk : PySem.W.keepIn X.K (.ref f) = true) (hb : Binds X.K fd ps ds) (hd : Vals dvs ds)
    (hx : ∀ σ, PassesAt CX X σ (E σ)) (ha : PA X (e :: es) t) (hdb : (x == ("__debug__" : Str)) = false) (he : starEach (e :: es) X.env = (false, eval e X.env) :: starEach es X.env) (hpl : (backTo pos (starEach es X.env)).any (·.1) = false) :
    PE X (.Call (.Name x p) (e :: es) [] pos) (tCallSD sp dvs E t) := by
  refine ⟨fun pins s σ H Q I h => wpAny_Call_Name_kw (ld_glob I hg hm ?_ hdb)⟩
  refine PySem.W.callWith_K (h₀ := X.base) I.ok.mod.kin hk (thn (ha.run pos pins s σ H _ I h) ?_) he hpl
  rintro us s1 ⟨vs, H1, I1, r, q⟩
  exact ⟨I1.kIn, run_fnG F hr hb hd (hx σ) I1 r q⟩
theorem re_call (F : FnG X.prog X.w X.K X.mg X.base (L2.CX X.prog X.w) k f fd ps (spF X.K X.mg np false fm)) (hr : RoomG k X.A) (hg : Gl X x) (hm : X.mg x = some (.ref f)) (hk : PySem.W.keepIn X.K (.ref f) = true) (hb : Binds X.K fd ps ds) (hd : Vals dvs ds) (hD : Dfl X.K X.mg dd dvs)
    (ha : RA X (e :: es) g) (hdb : (x == ("__debug__" : Str)) = false := by decide) (he : starEach (e :: es) X.env = (false, eval e X.env) :: starEach es X.env := by rfl) (hpl : (backTo pos (starEach es X.env)).any (·.1) = false := by rfl) :
    RE X (.Call (.Name x p) (e :: es) [] pos) (callV np fm dd g) := by
  refine ⟨fun Wi tk => pe_imp (pe_callG (E := fun σ => WE Wi σ) F hr hg hm hk hb hd (fun σ => passAt tk σ) (ha.run Wi tk) hdb he hpl) fun σ H Q q => ?_⟩
  obtain ⟨S, hS, rfl, rfl, q⟩ := q
  refine ⟨S, hS, rfl, rfl, q.bnd fun os S1 es1 g1 _ q1 vs rs => ?_⟩
  cases e1 : vals? os with
  | none => simp only [e1] at q1; exact q1.elim
  | some zs =>
    simp only [e1] at q1
    by_cases c : (zs ++ dd).length = np
    · rw [if_pos c] at q1
      have r := (vals_rep rs e1).append (hD S1.H S1.B)
      have q2 := callV_sat (np := np) g1.rel r (by rw [← r.length]; exact c) (q1.vfrom hS g1 es1)
      rw [← es1]
      exact q2
    · rw [if_neg c] at q1; exact q1.elim
theorem re_callI (F : FnG X.prog X.w X.K X.mg X.base (L2.CX X.prog X.w) k f fd ps (spF X.K X.mg np true fm)) (hr : RoomG k X.A) (hg : Gl X x) (hm : X.mg x = some (.ref f)) (hk : PySem.W.keepIn X.K (.ref f) = true) (hb : Binds X.K fd ps ds) (hd : Vals dvs ds) (hD : Dfl X.K X.mg dd dvs)
    (ha : RA X (e :: es) g) (hdb : (x == ("__debug__" : Str)) = false := by decide) (he : starEach (e :: es) X.env = (false, eval e X.env) :: starEach es X.env := by rfl) (hpl : (backTo pos (starEach es X.env)).any (·.1) = false := by rfl) :
    RE X (.Call (.Name x p) (e :: es) [] pos) (callI np fm dd g) := by
  refine ⟨fun Wi tk => pe_imp (pe_callG (E := fun σ => WE Wi σ) F hr hg hm hk hb hd (fun σ => passAt tk σ) (ha.run Wi tk) hdb he hpl) fun σ H Q q => ?_⟩
  obtain ⟨S, hS, rfl, rfl, q⟩ := q
  refine ⟨S, hS, rfl, rfl, q.bnd fun os S1 es1 g1 _ q1 vs rs => ?_⟩
  cases rs with
  | nil => exact q1.elim
  | @cons o os' v vs' r0 rs =>
    cases o with
    | v d => exact q1.elim
    | s i =>
      cases e1 : vals? os' with
      | none => simp only [e1] at q1; exact q1.elim
      | some zs =>
        cases e2 : S1.ρ[i]? with
        | none => simp only [e1, e2] at q1; exact q1.elim
        | some sl =>
          cases e3 : sl.lst? with
          | none => simp only [e1, e2, e3] at q1; exact q1.elim
          | some xs =>
            simp only [e1, e2, e3] at q1
            by_cases c : (zs ++ dd).length + 1 = np
            · rw [if_pos c] at q1
              have r := (vals_rep rs e1).append (hD S1.H S1.B)
              obtain ⟨l, ws, a1, a2, a3, hO, a5⟩ := own_at g1.rel e2 e3
              have hv : v = .ref l := by
                have r0' : S1.σ[i]? = some (some v) := r0
                rw [a1] at r0'
                exact (Option.some.inj (Option.some.inj r0')).symm
              subst hv
              have q2 := q1.vfrom hS g1 es1
              have hE := entryI g1.rel e2 e3 a1 r
              rw [← es1]
              show spF X.K X.mg np true fm (.ref l :: vs' ++ dvs) S1.H Q (WE Wi S1.σ)
              refine ⟨by rw [List.cons_append, List.length_cons, ← r.length]; exact c, _, hE, rfl, rfl, ⟨xs, _, rfl⟩, ?_⟩
              cases ef : fm (.io xs :: vaL (zs ++ dd)) with
              | bad => rw [ef] at q2; exact q2
              | ok a ρ' =>
                rw [ef] at q2
                match ρ', q2 with
                | [], q2 => exact q2.elim
                | .un :: _, q2 => exact q2.elim
                | .va _ :: _, q2 => exact q2.elim
                | .ow _ :: _, q2 => exact q2.elim
                | .io ys :: rr, q2 =>
                  simp only [backI, e2] at q2
                  intro S2 f1 f2 g2 v rv
                  obtain ⟨gg, tr⟩ := go_backI g1.rel e2 e3 a1 g2 f2 f1
                  exact q2 ⟨S2.B, S1.ρ.set i (sl.upd ys), S1.σ, S2.H⟩ rfl rfl gg v (tr a v rv)
              | ex d ρ' =>
                rw [ef] at q2
                match ρ', q2 with
                | [], q2 => exact q2.elim
                | .un :: _, q2 => exact q2.elim
                | .va _ :: _, q2 => exact q2.elim
                | .ow _ :: _, q2 => exact q2.elim
                | .io ys :: rr, q2 =>
                  simp only [backI, e2] at q2
                  intro S2 cls dd f1 f2 g2 rx
                  obtain ⟨gg, tr⟩ := go_backI g1.rel e2 e3 a1 g2 f2 f1
                  exact q2 ⟨S2.B, S1.ρ.set i (sl.upd ys), S1.σ, S2.H⟩ cls dd rfl rfl gg rx
            · rw [if_neg c] at q1; exact q1.elim
/-! ### keywords -/
structure RK (X : Cx) (kws : List Keyword) (f : M (List Od)) : Prop where
  run : ∀ Wi, Takes X Wi → PK X kws (TA_ X.K X.mg Wi f)
theorem pk_imp {kws : List Keyword} {t t' : TA} (h : PK X kws t) (k : ∀ σ H Q, t' σ H Q → t σ H Q) : PK X kws t' := ⟨fun pos pins s σ H Q I q => h.run pos pins s σ H Q I (k σ H Q q)⟩
theorem rk_nil : RK X [] aNil := by
  refine ⟨fun Wi tk => pk_imp pk_nil fun σ H Q q => ?_⟩
  obtain ⟨S, hS, rfl, rfl, q⟩ := q
  exact q S rfl rfl (Go.refl hS) [] .nil
theorem rk_cons {nm : Option Str} {kpos : Pos} {kws : List Keyword} {f : M Od} {g : M (List Od)} (ha : RO X e f) (hr : RK X kws g) : RK X (⟨nm, e, kpos⟩ :: kws) (aCons f g) := by
  refine ⟨fun Wi tk => pk_imp (pk_cons (ha.run Wi tk) (hr.run Wi tk)) fun σ H Q q => ?_⟩
  obtain ⟨S, hS, rfl, rfl, q⟩ := q
  refine ⟨S, hS, rfl, rfl, q.bnd fun a S1 es1 g1 _ q1 x rx => ?_⟩
  refine ⟨S1, g1.rel, es1, rfl, (q1.from hS es1 g1).bnd fun b S2 es2 g2 _ q2 ys ry => ?_⟩
  exact q2 S2 rfl (es2) (g2) (x :: ys) (.cons (rx.later g1.rel es2 g2) ry)
def callK (np n m : Nat) (f : M Vl) (gD : List D → List D → List D) (args kws : M (List Od)) : M Vl := fun ρ => bnd (args ρ) fun os ρ1 => bnd (kws ρ1) fun ks ρ2 => match vals? os with
  | some ds => (match vals? ks with
    | some zs => if ds.length = n ∧ zs.length = m ∧ (gD ds zs).length = np then back (f (vaL (gD ds zs))) ρ2 else .bad
    | none => .bad)
  | none => .bad
def tCallNS (n m : Nat) (sp : Sp) (gV : List V → List V → List V) (E : L2.St → XK) (t tk : TA) : TE := fun σ H Q => t σ H fun vs H1 => tk σ H1 fun zs H2 => vs.length = n ∧ zs.length = m ∧ sp (gV vs zs) H2 Q (E σ)
section
variable {CX : CXT} {n : Nat} {ks : List Str} {sp : Sp} {E : L2.St → XK} {kws : List Keyword} {t tk : TA} {gg : List Value → List Value → List Value} {gV : List V → List V → List V}
theorem run_fnNS {pins : List (Addr × Obj)} {σ : L2.St} {H : Hp} {s : Shared} {Q : VK} {us ws : List Value} {vs zs : List V} (F : FnG X.prog X.w X.K X.mg X.base CX k f fd ps sp) (hr : RoomG k X.A) (hb : KBn X.K fd ps n ks gg gV) (hx : PassesAt CX X σ (E σ))
    (I : Inv X pins σ H s) (r : Vals vs us) (rz : Vals zs ws) (l1 : vs.length = n) (l2 : zs.length = ks.length) (h : sp (gV vs zs) H Q (E σ)) : wpAny (model X.prog X.w) X.A (call (.ref f) us (ks.zip ws)) (EP X pins σ Q) X.xe s := by
  have r2 := hb.rel r rz
  refine wpAny_call (codeAny_mono (F.run X.A X.stack s H ⟨us, ks.zip ws⟩ (gg us ws) (gV vs zs) Q (E σ) hr I.env0 (hb.to s us ws I.kIn (r.length.symm.trans l1) (rz.length.symm.trans l2)) r2 h) fun r s' hq => ?_)
  cases r with
  | error e => exact hx pins H s e s' I hq
  | ok fl =>
    cases fl with
    | ret u => exact I.after hq
    | next => exact False.elim hq
    | brk => exact False.elim hq
    | cont => exact False.elim hq
/-- f(e, .., k = v, ..), f(k = v, ..) -/
theorem pe_callNS {es : List Expr} (F : FnG X.prog X.w X.K X.mg X.base CX k f fd ps sp) (hr : RoomG k X.A) (hg : Gl X x) (hm : X.mg x = some (.ref f)) (hk : PySem.W.keepIn X.K (.ref f) = true) (hb : KBn X.K fd ps n ks gg gV) (hx : ∀ σ, PassesAt CX X σ (E σ))
    (ha : PA X (e :: es) t) (hkw : PK X kws tk) (hall : (backToKw pos (keywordEach kws X.env)).all (·.1.isSome) = true := by rfl) (hks : (backToKw pos (keywordEach kws X.env)).filterMap (·.1) = ks := by rfl)
    (hdb : (x == ("__debug__" : Str)) = false := by decide) (he : starEach (e :: es) X.env = (false, eval e X.env) :: starEach es X.env := by rfl)
    (hpl : ((backTo pos (starEach (e :: es) X.env)).any (·.1) || (backToKw pos (keywordEach kws X.env)).any (·.1.isNone)) = false := by rfl) :
    PE X (.Call (.Name x p) (e :: es) kws pos) (tCallNS n ks.length sp gV E t tk) := by
  refine ⟨fun pins s σ H Q I h => ?_⟩
  refine wpAny_Call_Name_kw (ld_glob I hg hm ?_ hdb)
  refine PySem.W.callWith_KW (h₀ := X.base) I.ok.mod.kin hk hall (thn (ha.run pos pins s σ H _ I h) fun us s1 ⟨vs, H1, I1, r, q⟩ => ?_) hpl he
  refine thn (hkw.run pos pins s1 σ H1 _ I1 q) fun ws s2 ⟨zs, H2, I2, rz, l1, l2, q2⟩ => ⟨I2.kIn, ?_⟩
  rw [hks]
  exact run_fnNS F hr hb (hx σ) I2 r rz l1 l2 q2
theorem re_callK {es : List Expr} {m : Nat} {gk : M (List Od)} {gD : List D → List D → List D} (F : FnG X.prog X.w X.K X.mg X.base (L2.CX X.prog X.w) k f fd ps (spF X.K X.mg np false fm)) (hr : RoomG k X.A) (hg : Gl X x) (hm : X.mg x = some (.ref f)) (hk : PySem.W.keepIn X.K (.ref f) = true) (hb : KBn X.K fd ps n ks gg gV)
    (hD : ∀ H B ds vs zs us, RepL X.K X.mg H B ds vs → RepL X.K X.mg H B zs us → ds.length = n → zs.length = ks.length → RepL X.K X.mg H B (gD ds zs) (gV vs us))
    (ha : RA X (e :: es) g) (hkw : RK X kws gk) (hml : m = ks.length := by rfl) (hall : (backToKw pos (keywordEach kws X.env)).all (·.1.isSome) = true := by rfl) (hks : (backToKw pos (keywordEach kws X.env)).filterMap (·.1) = ks := by rfl)
    (hdb : (x == ("__debug__" : Str)) = false := by decide) (he : starEach (e :: es) X.env = (false, eval e X.env) :: starEach es X.env := by rfl)
    (hpl : ((backTo pos (starEach (e :: es) X.env)).any (·.1) || (backToKw pos (keywordEach kws X.env)).any (·.1.isNone)) = false := by rfl) :
    RE X (.Call (.Name x p) (e :: es) kws pos) (callK np n m fm gD g gk) := by
  subst hml
  refine ⟨fun Wi tk => pe_imp (pe_callNS (E := fun σ => WE Wi σ) F hr hg hm hk hb (fun σ => passAt tk σ) (ha.run Wi tk) (hkw.run Wi tk) hall hks hdb he hpl) fun σ H Q q => ?_⟩
  obtain ⟨S, hS, rfl, rfl, q⟩ := q
  refine ⟨S, hS, rfl, rfl, q.bnd fun os S1 es1 g1 _ q1 vs rs => ?_⟩
  refine ⟨S1, g1.rel, es1, rfl, (q1.vfrom hS g1 es1).bnd fun kos S2 es2 g2 _ q2 us ru => ?_⟩
  have rs2 := rs.later g1.rel es2 g2
  cases e1 : vals? os with
  | none => simp only [e1] at q2; exact q2.elim
  | some ds =>
    cases e2 : vals? kos with
    | none => simp only [e1, e2] at q2; exact q2.elim
    | some zs =>
      simp only [e1, e2] at q2
      by_cases c : ds.length = n ∧ zs.length = ks.length ∧ (gD ds zs).length = np
      · rw [if_pos c] at q2
        have r1 := vals_rep rs2 e1
        have r2 := vals_rep ru e2
        have r := hD _ _ _ _ _ _ r1 r2 c.1 c.2.1
        have q3 := callV_sat (np := np) g2.rel r (by rw [← r.length]; exact c.2.2) (q2.vfrom g1.rel g2 es2)
        rw [← es1, ← es2]
        exact ⟨by rw [← r1.length]; exact c.1, by rw [← r2.length]; exact c.2.1, q3⟩
      · rw [if_neg c] at q2; exact q2.elim
end
end
end KL
end

section
set_option Elab.async false
set_option linter.all false
set_option maxRecDepth 100000
namespace KL
open PySem L2
variable [Tabs]

/-! ### raise -/
def raise0 (c : Str) : SM := fun ρ => .ex (.err c []) ρ
def raiseN (c : Str) (names : List Str) (dd : List D) (f : M (List Od)) : SM := fun ρ => bndS (f ρ) fun os ρ1 => match vals? os with
  | some ds => if (ds ++ dd).length = names.length ∧ names.length ≤ 900 then .ex (.err c (names.zip (ds ++ dd)).reverse) ρ1 else .bad
  | none => .bad
theorem RepF.append {K : PySem.W.Frag} {mg : MgT} {H : Hp} {B : Ad} : ∀ {fs gs : List (Str × D)} {us ws : List (Str × V)}, RepF K mg H B fs us → RepF K mg H B gs ws → RepF K mg H B (fs ++ gs) (us ++ ws)
  | _, _, _, _, .nil, s => s
  | _, _, _, _, .cons a b, s => .cons a (RepF.append b s)
theorem RepF.reverse {K : PySem.W.Frag} {mg : MgT} {H : Hp} {B : Ad} : ∀ {fs : List (Str × D)} {us : List (Str × V)}, RepF K mg H B fs us → RepF K mg H B fs.reverse us.reverse
  | _, _, .nil => .nil
  | _, _, .cons a b => by simp only [List.reverse_cons]; exact (RepF.reverse b).append (.cons a .nil)
theorem RepF.zip {K : PySem.W.Frag} {mg : MgT} {H : Hp} {B : Ad} : ∀ (names : List Str) {ds : List D} {vs : List V}, RepL K mg H B ds vs → RepF K mg H B (names.zip ds) (names.zip vs)
  | [], _, _, _ => .nil
  | _ :: _, _, _, .nil => .nil
  | n :: ns, _, _, .cons a b => .cons a (RepF.zip ns b)
/-- the promise of an exception's __init__ that stores its arguments -/
def spInit (C : Addr) (names : List Str) : Sp := fun vs H Q _ => vs.length = names.length + 1 ∧ ∃ a ws, vs = .ref a :: ws ∧ ws.length = names.length ∧ H a = some (exo a C none) ∧
  ∀ dx H', H dx = none → H' a = some (exo a C (some dx)) → H' dx = some (exd dx (names.zip ws).reverse) → (∀ b, b ≠ a → b ≠ dx → H' b = H b) → Q .non H'
section
variable {X : Cx} {pos pos' : Pos}
theorem rs_raise0 {c m : Str} {j : Nat} {p p2 : Pos} {C : Addr} {bmB : List Value} {B newId initId : String} (hc : X.calm = true) (F : ExcBaseFacts B newId initId bmB) (q : PySem.W.excIn X.K C bmB newId = true) (gC : X.mg c = some (.ref C)) (kC : PySem.W.keepIn X.K (.ref C) = true) (r : Raises X (.ref C)) (hg : Gl X c)
    (hdb : (c == ("__debug__" : Str)) = false := by decide) : RS X (.Raise (some (.Call (.Name c p) [.Constant (.str m) j p2] [] pos)) none pos') (raise0 c) := by
  refine ⟨fun Wi tk => ps_imp (ps_raise hc tk (pmk_own F q gC kC r hg hdb)) fun D σ H q => ?_⟩
  obtain ⟨S, hS, rfl, rfl, q⟩ := q
  exact q S (.ref C) none rfl (Go.refl hS) ⟨c, [], C, rfl, gC, rfl, .inl ⟨rfl, rfl⟩⟩
theorem rs_raiseN {c : Str} {p : Pos} {C fI : Addr} {k : Nat} {fd : FuncData} {ps names : List Str} {e : Expr} {es : List Expr} {ds : List Value} {dvs : List V} {dd : List D} {f : M (List Od)} (hc : X.calm = true) (T : OexC X.K C) (iC : PySem.W.findIn X.K (.ref C) "__init__" = some (some (.ref fI))) (tI : PySem.W.typeIn X.K (.ref fI) = some (.type "function"))
    (F1 : FnOk X.prog X.w X.K X.mg X.base CX0 k fI fd ps (spInit C names)) (hr : Room (k + 1) X.A) (hb : Binds X.K fd ps ds) (hd : Vals dvs ds) (hD : Dfl X.K X.mg dd dvs) (hg : Gl X c) (hm : X.mg c = some (.ref C)) (ha : RA X (e :: es) f)
    (hdb : (c == ("__debug__" : Str)) = false := by decide) (he : starEach (e :: es) X.env = (false, eval e X.env) :: starEach es X.env := by rfl) (hpl : (backTo pos (starEach es X.env)).any (·.1) = false := by rfl) :
    RS X (.Raise (some (.Call (.Name c p) (e :: es) [] pos)) none pos') (raiseN c names dd f) := by
  refine ⟨fun Wi tk => ps_imp (ps_raise hc tk (pmk_oex T iC tI F1 hr hb hd (fun _ _ _ _ _ _ _ h => h.elim) hg hm (ha.run Wi tk) hdb he hpl)) fun D σ H q => ?_⟩
  obtain ⟨S, hS, rfl, rfl, q⟩ := q
  refine ⟨S, hS, rfl, rfl, q.bnd fun os S1 es1 g1 _ q1 vs rs => ?_⟩
  cases e1 : vals? os with
  | none => simp only [e1] at q1; exact q1.elim
  | some zs =>
    simp only [e1] at q1
    by_cases cl : (zs ++ dd).length = names.length ∧ names.length ≤ 900
    · rw [if_pos cl] at q1
      have r0 := vals_rep rs e1
      have r := r0.append (hD S1.H S1.B)
      have hl : (vs ++ dvs).length = names.length := by rw [← r.length]; exact cl.1
      refine ⟨by rw [List.length_append] at hl; omega, fun a hna => ⟨by rw [List.length_cons, hl], a, vs ++ dvs, rfl, hl, upd_same, fun dx H' hdx h1 h2 h3 => ?_⟩⟩
      have ne : dx ≠ a := fun z => by rw [z, upd_same] at hdx; cases hdx
      have hdx1 : S1.H dx = none := by rw [upd_ne ne] at hdx; exact hdx
      refine ⟨rfl, dx, _, h1, h2, hdx1, ?_⟩
      -- the heap behind it
      have at_ : ∀ b, b ≠ dx → upd (del H' a) dx (.xd (names.zip (vs ++ dvs)).reverse) b = S1.H b := fun b hb => by
        rw [upd_ne hb]
        by_cases c : b = a
        · rw [c, del_same]; exact hna.symm
        · rw [del_ne c, h3 b c hb, upd_ne c]
      have nb : ¬ S1.B dx := fun z => g1.rel.alloc dx z hdx1
      have g2 : Go X.K X.mg S1 ⟨S1.B, S1.ρ, S1.σ, upd (del H' a) dx (.xd (names.zip (vs ++ dvs)).reverse)⟩ := go_extA g1.rel (fun b o q => by rw [at_ b (fun z => by rw [z, hdx1] at q; cases q)]; exact q) (fun b z => z) (fun b z => .inl z) (fun b z => by
        rw [at_ b (fun c => nb (by rw [← c]; exact z))]; exact g1.rel.alloc b z)
      have z := q1 ⟨S1.B, S1.ρ, S1.σ, upd (del H' a) dx (.xd (names.zip (vs ++ dvs)).reverse)⟩ (.ref C) (some dx) rfl (g1.trans hS g2)
        ⟨c, _, C, rfl, hm, rfl, .inr ⟨dx, _, rfl, nb, upd_same, RepF.reverse (RepF.zip names (RepL.mono (g2.fe g1.rel) r))⟩⟩
      rw [← es1]
      exact z
    · rw [if_neg cl] at q1; exact q1.elim
/-! an exception's __init__ of one field, of three -/
section
variable {P : Program} {w : World} {K : PySem.W.Frag} {mg : MgT} {base : Heap} {qual : Str} {params : Arguments} {scope : Scope} {dvs : List V} {kws : List (Str × V)} {f : Addr} {fd : FuncData} {C : Addr}
theorem init1 {f1 : Str} {p1 p2 p3 p4 : Pos} (F : FunD K "__init__" qual params [.Assign [.Attribute (.Name "self" p1) f1 p2] (.Name f1 p3) p4] scope dvs kws f fd) (Sc : FnScope ["self", f1] ["self", f1] scope) (T : OexC K C) (n1 : PySem.W.findIn K (.ref C) f1 = some none)
    (v0 : scope.names.lookup (("self" : Str)) = some .local) (v1 : scope.names.lookup f1 = some .local) (hd : (f1 == ("__debug__" : Str)) = false) (hcd : (f1 == ("__classdict__" : Str)) = false) (hs : ∀ env : PySem.Env, swapsWith (.Name f1 p3) (some (.Attribute (.Name "self" p1) f1 p2)) p4.line env = pure false) : FnOk P w K mg base CX0 1 f fd ["self", f1] (spInit C [f1]) := by
  refine F.ok Sc (fun vs H Q E h => h.1) fun cdv A outer s H vs Q E hr h => ?_
  obtain ⟨_, a, ws, rfl, hl, ea, q⟩ := h
  match ws, hl with
  | [v], _ =>
    refine ⟨_, PSs.nox (pss_one (ps_ost (pe_var (i := 0) rfl (.inl v0)) (pe_var (i := 1) rfl (.inl v1) hd hcd) (hs _))), ?_⟩
    refine ⟨v, rfl, .ref a, rfl, a, C, rfl, T, n1, .inl ⟨ea, fun dx hdx ne => ?_⟩⟩
    refine q dx _ hdx upd_same ?_ fun b h1 h2 => ?_
    · rw [upd_ne ne, upd_same]; rfl
    · rw [upd_ne h1, upd_ne h2]
theorem init3 {f1 f2 f3 : Str} {p1 p2 p3 p4 q1 q2 q3 q4 r1 r2 r3 r4 : Pos} (F : FunD K "__init__" qual params [.Assign [.Attribute (.Name "self" p1) f1 p2] (.Name f1 p3) p4, .Assign [.Attribute (.Name "self" q1) f2 q2] (.Name f2 q3) q4, .Assign [.Attribute (.Name "self" r1) f3 r2] (.Name f3 r3) r4] scope dvs kws f fd)
    (Sc : FnScope ["self", f1, f2, f3] ["self", f1, f2, f3] scope) (T : OexC K C) (n1 : PySem.W.findIn K (.ref C) f1 = some none) (n2 : PySem.W.findIn K (.ref C) f2 = some none) (n3 : PySem.W.findIn K (.ref C) f3 = some none)
    (v0 : scope.names.lookup (("self" : Str)) = some .local) (v1 : scope.names.lookup f1 = some .local) (v2 : scope.names.lookup f2 = some .local) (v3 : scope.names.lookup f3 = some .local) (hd : ∀ x ∈ [f1, f2, f3], (x == ("__debug__" : Str)) = false ∧ (x == ("__classdict__" : Str)) = false)
    (hs1 : ∀ env : PySem.Env, swapsWith (.Name f1 p3) (some (.Attribute (.Name "self" p1) f1 p2)) p4.line env = pure false) (hs2 : ∀ env : PySem.Env, swapsWith (.Name f2 q3) (some (.Attribute (.Name "self" q1) f2 q2)) q4.line env = pure false) (hs3 : ∀ env : PySem.Env, swapsWith (.Name f3 r3) (some (.Attribute (.Name "self" r1) f3 r2)) r4.line env = pure false) :
    FnOk P w K mg base CX0 1 f fd ["self", f1, f2, f3] (spInit C [f1, f2, f3]) := by
  refine F.ok Sc (fun vs H Q E h => h.1) fun cdv A outer s H vs Q E hr h => ?_
  obtain ⟨_, a, ws, rfl, hl, ea, q⟩ := h
  match ws, hl with
  | [u, v, y], _ =>
    refine ⟨_, PSs.nox (pss_cons (ps_ost (pe_var (i := 0) rfl (.inl v0)) (pe_var (i := 1) rfl (.inl v1) (hd f1 (by simp)).1 (hd f1 (by simp)).2) (hs1 _)) (pss_cons (ps_ost (pe_var (i := 0) rfl (.inl v0)) (pe_var (i := 2) rfl (.inl v2) (hd f2 (by simp)).1 (hd f2 (by simp)).2) (hs2 _))
      (pss_one (ps_ost (pe_var (i := 0) rfl (.inl v0)) (pe_var (i := 3) rfl (.inl v3) (hd f3 (by simp)).1 (hd f3 (by simp)).2) (hs3 _))))), ?_⟩
    refine ⟨u, rfl, .ref a, rfl, a, C, rfl, T, n1, .inl ⟨ea, fun dx hdx ne => ?_⟩⟩
    refine ⟨v, rfl, .ref a, rfl, a, C, rfl, T, n2, .inr ⟨dx, _, upd_same, (upd_ne ne).trans upd_same, by simp, ?_⟩⟩
    refine ⟨y, rfl, .ref a, rfl, a, C, rfl, T, n3, .inr ⟨dx, _, (upd_ne (Ne.symm ne)).trans upd_same, upd_same, by simp, ?_⟩⟩
    refine q dx _ hdx ?_ ?_ fun b h1 h2 => ?_
    · rw [upd_ne (Ne.symm ne), upd_ne (Ne.symm ne), upd_same]
    · rw [upd_same]; rfl
    · rw [upd_ne h2, upd_ne h2, upd_ne h1, upd_ne h2]
end
end
end KL
end

section
set_option Elab.async false
set_option linter.all false
set_option maxRecDepth 100000
namespace KL
open PySem L2
variable [Tabs]

/-! ### all(..) of a generator -/
def allL (vs : List Nat) (tg : D → Env → Out) (e : M Vl) : List D → Env → R Bool
  | [], ρ => .ok true ρ
  | d :: ds, ρ => match tg d ρ with
    | .nx ρ1 => match e ρ1 with
      | .ok (.fz (.bl b)) ρ2 => if b = true then (if okW ρ2 vs = true then allL vs tg e ds (wipeE ρ2 vs) else .bad) else .ok false ρ2
      | _ => .bad
    | _ => .bad
def allE (vs : List Nat) (it : M (List D)) (tg : D → Env → Out) (e : M Vl) : M Vl := fun ρ => bnd (it ρ) fun ds ρ1 => if okW ρ1 vs = true then (match allL vs tg e ds (wipeE ρ1 vs) with
  | .ok b ρ2 => if okW ρ2 vs = true then .ok (.fz (.bl b)) (rstE ρ1 ρ2 vs) else .bad
  | _ => .bad) else .bad
theorem allL_ok {vs : List Nat} {tg : D → Env → Out} {e : M Vl} {d : D} {ds : List D} {ρ : Env} {bF : Bool} {ρF : Env} (h : allL vs tg e (d :: ds) ρ = .ok bF ρF) :
    ∃ ρ1 ρ2 b, tg d ρ = .nx ρ1 ∧ e ρ1 = .ok (.fz (.bl b)) ρ2 ∧ ((b = true ∧ okW ρ2 vs = true ∧ allL vs tg e ds (wipeE ρ2 vs) = .ok bF ρF) ∨ (b = false ∧ bF = false ∧ ρF = ρ2)) := by
  unfold allL at h
  cases e1 : tg d ρ with
  | nx ρ1 =>
    simp only [e1] at h
    cases e2 : e ρ1 with
    | bad => simp only [e2] at h; cases h
    | ex _ _ => simp only [e2] at h; cases h
    | ok a ρ2 =>
      simp only [e2] at h
      cases a with
      | fr xs => cases h
      | fz d' =>
        cases d' with
        | bl b =>
          refine ⟨ρ1, ρ2, b, rfl, e2, ?_⟩
          cases b with
          | true =>
            by_cases cw : okW ρ2 vs = true
            · simp only [if_pos, cw] at h; exact .inl ⟨rfl, cw, h⟩
            · simp only [if_pos, if_neg cw] at h; cases h
          | false =>
            simp only [Bool.false_eq_true, if_false] at h
            cases h
            exact .inr ⟨rfl, rfl, rfl⟩
        | _ => cases h
  | _ => simp only [e1] at h; cases h
section
variable {X : Cx} {pos p gpos : Pos}
theorem re_all {c P : Addr} {elt tg iter : Expr} {scope : Scope} {own : List (Str × Nat)} {fi : M (List D)} {ft : D → Env → Out} {fe : M Vl} {g : TG} {k : Nat} (hP : Tabs.is P) (hc : X.calm = true) (hN : X.N.Nodup) (hr : Room k X.A) (hgl : Gl X "all") (hm : X.mg "all" = none) (TB : GxR.TabB X.base X.mg c P) (hcode : X.env.code = .ref c)
    (ok : BlkOk X.N X.env.scope scope own) (hcell : ∀ y ∈ scope.names, y.2 ≠ .cell) (hdot : scope.names.lookup (".0" : Str) = some NameKind.local) (hco : scope.isCoroutine = false) (hi : RI X tg iter fi)
    (hg : ∀ (s : Shared) (H : Hp) (C : Addr) (cd : Value) (fp : List Addr) (a : Addr) (ob : Obj), RG (genX X s H (genE X scope C cd) fp a ob) tg g ft) (he : ∀ (s : Shared) (H : Hp) (C : Addr) (cd : Value) (fp : List Addr) (a : Addr) (ob : Obj), RE (genX X s H (genE X scope C cd) fp a ob) elt fe) (hgo : GOnly g (own.map (·.2)))
    (hs : ∀ v, genFold iter X.env v = pure v := by intro _; rfl) (hst : starEach [.GeneratorExp elt [⟨tg, iter, [], 0⟩] scope gpos] X.env = (false, eval (.GeneratorExp elt [⟨tg, iter, [], 0⟩] scope gpos) X.env) :: starEach [] X.env := by rfl) :
    RE X (.Call (.Name "all" p) [.GeneratorExp elt [⟨tg, iter, [], 0⟩] scope gpos] [] pos) (allE (own.map (·.2)) fi ft fe) := by
  refine ⟨fun Wi tk => pe_imp (pe_allG (k := k) (te := TE_ X.K X.mg W0 fe) hc hN hr hgl hm TB hcode ok hcell hdot hco (hi.run Wi tk) (fun s H C cd fp a ob => (hg s H C cd fp a ob).pg) (fun s H C cd fp a ob => (he s H C cd fp a ob).run W0 takes0) (by rfl) hs hst) fun σ H Q q => ?_⟩
  have hgt : GTg X.K X.mg g ft ∧ ∀ d ρ, (∃ ρ', ft d ρ = .nx ρ') ∨ ft d ρ = .bad := by
    have z := hg X.s_0 X.H_0 0 .none [] 0 { cls := .none, data := .plain }
    exact ⟨z.gt, z.only⟩
  obtain ⟨hgt, honly⟩ := hgt
  generalize own.map (·.2) = vs at *
  obtain ⟨S, hS, rfl, rfl, q⟩ := q
  refine ⟨S, hS, rfl, rfl, q.bnd fun ds S1 es g1 _ q1 J hJ => ?_⟩
  have hS1 := g1.rel
  refine ⟨(hS1.tab P hP).1, fun H2 hT => ?_⟩
  by_cases cw : okW S1.ρ vs = true
  · rw [if_pos cw] at q1
    cases er : allL vs ft fe ds (wipeE S1.ρ vs) with
    | bad => simp only [er] at q1; exact q1.elim
    | ex _ _ => simp only [er] at q1; exact q1.elim
    | ok bF ρF =>
      simp only [er] at q1
      by_cases cf : okW ρF vs = true
      · rw [if_pos cf] at q1
        have hl1 : (wipe S.σ vs).length = S1.σ.length := by rw [wipe_length, es]
        have hn1 : ∀ j, j ∉ vs → (wipe S.σ vs)[j]? = S1.σ[j]? := fun j hj => by rw [wipe_ne hj, es]
        obtain ⟨ri0, oi0⟩ := go_wipe (σ' := wipe S.σ vs) hS1 cw hl1 hn1
        let S0 : Sx := ⟨S1.B, wipeE S1.ρ vs, wipe S.σ vs, S1.H⟩
        have hS0 : S0.rel X.K X.mg := ri0
        have nP : ¬ S1.B P := (hS1.tab P hP).2
        have gT : Go X.K X.mg S0 ⟨S1.B, wipeE S1.ρ vs, wipe S.σ vs, H2⟩ := by
          obtain ⟨t1, t2⟩ := hT
          have nn : ∀ a, S1.H a ≠ none → H2 a ≠ none := fun a z => by
            by_cases e : a = P
            · rw [e]; exact tab_there t1
            · rw [t2 a e]; exact z
          refine go_ext hS0 (fun a o z n => ?_) (fun a z _ => ?_) (fun a z => z) (fun a z => .inl z) (fun a z => nn a (hS1.alloc a z)) nn
          · by_cases e : a = P
            · obtain ⟨ps, z2, _⟩ := (hS1.tab P hP).1
              rw [e] at z
              rw [show S1.H P = some o from z] at z2
              cases z2; exact n.elim
            · rw [t2 a e]; exact z
          · by_cases e : a = P
            · rw [e]; exact t1
            · obtain ⟨ps, z1, z2⟩ := z
              exact ⟨ps, by rw [t2 a e]; exact z1, z2⟩
        -- the end, from a state in the block
        have fin : ∀ S5 : Sx, S5.ρ = ρF → S5.σ.length = S1.σ.length → (∀ j, j ∉ vs → S5.σ[j]? = S1.σ[j]?) → Go X.K X.mg S0 S5 → Q (.bl bF) S5.H := fun S5 e5 l5 n5 g5 => by
          subst e5
          have fe5 : FE S1.B S1.H S5.B S5.H := Go.fe (S := S0) hS0 g5
          obtain ⟨rr, oo⟩ := go_rest (S1 := S5) hS1 cw g5.rel cf l5 n5 fe5
          have gF : Go X.K X.mg S1 ⟨S5.B, rstE S1.ρ S5.ρ vs, S1.σ, S5.H⟩ := by
            refine ⟨rr, g5.tr.congr (fun a => (oi0 a).symm) oo, fun j r e1 e2 => ⟨rfl, ?_⟩, rfl⟩
            have hj : j ∉ vs := fun hj => by
              have z5 := okW_not cw hj e1
              cases r with
              | io xs => exact Bool.noConfusion (show true = false from z5)
              | _ => exact Bool.noConfusion (show false = true from e2)
            obtain ⟨_, q', a1, a2⟩ := g5.io j r (by show (wipeE S1.ρ vs)[j]? = _; rw [wipeE_ne hj]; exact e1) e2
            exact ⟨q', by show (rstE S1.ρ S5.ρ vs)[j]? = _; rw [rstE_ne hj]; exact a1, a2⟩
          exact q1 ⟨S5.B, rstE S1.ρ S5.ρ vs, S1.σ, S5.H⟩ rfl es (g1.trans hS gF) (.bl bF) (.bl bF)
        refine ⟨fun i m H => m = ds.length - i ∧ i ≤ ds.length ∧ ∃ (B : Ad) (ρ : Env), Go X.K X.mg S0 ⟨B, ρ, wipe S.σ vs, H⟩ ∧ okW ρ vs = true ∧ allL vs ft fe (ds.drop i) ρ = .ok bF ρF, ⟨ds.length, by simp, Nat.zero_le _, S1.B, wipeE S1.ρ vs, gT, okW_wipe, er⟩, ?_⟩
        rintro i m H ⟨rfl, hi', B, ρ, gi, okρ, el⟩
        have hSi := gi.rel
        obtain ⟨y1, y2⟩ := hJ B H (gi.fe hS0) i
        by_cases hlt : i < ds.length
        · right
          have e1 : ds[i]? = some ds[i] := List.getElem?_eq_getElem hlt
          obtain ⟨go, yl⟩ := y1 _ e1
          have e2 : ds.drop i = ds[i] :: ds.drop (i + 1) := List.drop_eq_getElem_cons hlt
          rw [e2] at el
          obtain ⟨ρ1, ρ2, b, et, ee, el⟩ := allL_ok el
          refine ⟨go, fun H' => ∃ (B : Ad) (ρ : Env), Go X.K X.mg S0 ⟨B, ρ, wipe S.σ vs, H'⟩ ∧ okW ρ vs = true ∧ allL vs ft fe (ds.drop (i + 1)) ρ = .ok bF ρF, fun H' z => ⟨ds.length - (i + 1), by omega, rfl, hlt, z⟩, fun x H3 y => ?_⟩
          obtain ⟨ext, rx⟩ := yl x H3 y
          have rx := rx hSi.alloc
          have al : ∀ a, B a → H3 a ≠ none := fun a z => by
            cases w : H a with
            | none => exact absurd w (hSi.alloc a z)
            | some o => rw [ext a o w]; simp
          have g3 : Go X.K X.mg ⟨B, ρ, wipe S.σ vs, H⟩ ⟨B, ρ, wipe S.σ vs, H3⟩ := go_extA hSi ext (fun a z => z) (fun a z => .inl z) al
          have g03 := gi.trans hS0 g3
          have key : g x (wipe S.σ vs) H3 fun σ2 H2 => ∃ S4 : Sx, S4.σ = σ2 ∧ S4.H = H2 ∧ S4.ρ = ρ1 ∧ Go X.K X.mg ⟨B, ρ, wipe S.σ vs, H3⟩ S4 :=
            hgt W0 ⟨B, ρ, wipe S.σ vs, H3⟩ ds[i] x { nx := fun σ2 H2 => ∃ S4 : Sx, S4.σ = σ2 ∧ S4.H = H2 ∧ S4.ρ = ρ1 ∧ Go X.K X.mg ⟨B, ρ, wipe S.σ vs, H3⟩ S4, rt := fun _ _ => False } g3.rel rx
              (by
                show SatS X.K X.mg W0 _ _ (ft ds[i] ρ)
                rw [et]
                exact fun S4 a1 a2 => ⟨S4, rfl, rfl, a1, a2⟩) ⟨ρ1, .inl et⟩
          have key := hgo.only x _ _ _ key
          refine hgo.mono x _ _ _ _ (fun σ2 H2 z => ?_) key
          obtain ⟨⟨S4, rfl, rfl, rfl, g4⟩, hl4, hn4⟩ := z
          have hl4' : S4.σ.length = (wipe S.σ vs).length := hl4
          have g04 := g03.trans hS0 g4
          refine ⟨wipe_ext (hl4.trans (wipe_length _ _)) (fun j hj => (hn4 j hj).trans (wipe_ne hj)), S4, g4.rel, rfl, rfl, ?_⟩
          rw [ee]
          intro S5 e5 s5 g5 v rv
          subst e5
          have hv : v = .bl b := by
            have rv : Rep X.K X.mg S5.H S5.B (.bl b) v := rv
            cases rv; rfl
          refine ⟨b, hv, ?_⟩
          have g05 := g04.trans hS0 g5
          rcases el with ⟨rfl, w2, el⟩ | ⟨rfl, rfl, e⟩
          · rw [if_pos rfl]
            obtain ⟨rr, oo⟩ := go_wipe (σ' := wipe S.σ vs) g05.rel w2 (by rw [s5, hl4']) (fun j hj => by rw [s5, hn4 j hj])
            refine ⟨S5.B, wipeE S5.ρ vs, ⟨rr, g05.tr.congr (fun _ => Iff.rfl) oo, fun j r e1 e2 => ⟨rfl, ?_⟩, rfl⟩, okW_wipe, el⟩
            obtain ⟨_, q', a1, a2⟩ := g05.io j r e1 e2
            have hj : j ∉ vs := fun hj => by
              have z5 := okW_not w2 hj a1
              cases q' with
              | io xs => exact Bool.noConfusion (show true = false from z5)
              | _ => exact Bool.noConfusion (show false = true from a2)
            exact ⟨q', by show (wipeE S5.ρ vs)[j]? = _; rw [wipeE_ne hj]; exact a1, a2⟩
          · rw [if_neg Bool.false_ne_true]
            exact fin S5 e.symm (by rw [s5, hl4', hl1]) (fun j hj => by rw [s5, hn4 j hj, hn1 j hj]) g05
        · have e : i = ds.length := by omega
          left
          refine ⟨y2 e, ?_⟩
          rw [e, List.drop_of_length_le (Nat.le_refl _)] at el
          unfold allL at el
          cases el
          exact fin ⟨B, ρF, wipe S.σ vs, H⟩ rfl hl1 hn1 gi
      · rw [if_neg cf] at q1; exact q1.elim
  · rw [if_neg cw] at q1; exact q1.elim
end
end KL
end

section
set_option Elab.async false
set_option linter.all false
set_option maxRecDepth 100000
namespace KL
open PySem PySem.Spec PyProof.Rows L2

/-! ### try: the exception's object is kept -/
section
variable {X : Cx} {pins : List (Addr × Obj)} {σ : L2.St} {H : Hp} {s : Shared}
/-- an object of after the entry, not tracked so far, is tracked from now on -/
theorem inv_track {a : Addr} {oe : Obj} {o : HO} (I : Inv X pins σ H s) (ha : s.heap.get? a = some oe) (na : H a = none) (n0 : X.s_0.heap.get? a = none) (nL : a ≠ X.env.locals) (nC : ∀ v, oe.data ≠ .cell v) (nP : ∀ p ∈ X.pn ++ pins, p.1 ≠ a)
    (new : ObjOk X.prog X.w (upd H a o) s.heap a o) : Inv X pins σ (upd H a o) s := by
  have old : ∀ {b u}, X.s_0.heap.get? b = some u → b ≠ a := fun {b u} e z => by rw [z, n0] at e; cases e
  have trk : ∀ {b u}, H b = some u → b ≠ a := fun {b u} e z => by rw [z, na] at e; cases e
  have up : ∀ {b : Addr}, b ≠ a → upd H a o b = H b := fun hb => upd_ne hb
  have cell : ∀ x c, X.env.cells.lookup x = some c → c ≠ a := fun x c e z => by
    obtain ⟨v, ob, e1, e2⟩ := I.cell x c e
    rw [z, ha] at e1; cases e1
    exact nC _ e2
  refine ⟨I.ok, I.os, I.bare, ⟨I.base.keep, I.base.slot, fun b u e n x => ?_, I.base.there, fun b xs e => ?_, fun b u xs e => ?_, fun b ps e => ?_⟩, I.loc, I.cell, ?_, fun x c e => ?_, fun p hp => ?_, fun b u e => ?_, I.len⟩
  · rw [up (old e)]; exact I.base.free b u e n x
  · have z := I.base.tups b xs e
    rw [up (trk z)]; exact z
  · have z := I.base.frzs b u xs e
    rw [up (trk z)]; exact z
  · obtain ⟨more, z⟩ := I.base.tbls b ps e
    exact ⟨more, by rw [up (trk z)]; exact z⟩
  · rw [up (Ne.symm nL)]; exact I.free
  · rw [up (cell x c e)]; exact I.freeC x c e
  · obtain ⟨e1, e2, e3⟩ := I.pin p hp
    exact ⟨e1, by rw [up (nP p hp)]; exact e2, e3⟩
  · by_cases hb : b = a
    · subst hb
      rw [upd_same] at e; cases e
      exact new
    · rw [up hb] at e
      exact (I.hok b u e).stay (fun c v _ q => q) (fun c q => by rw [up (trk q)]; exact q) fun c xs q => by rw [up (trk q)]; exact q
theorem errO_ok {P : Program} {w : World} {H' : Hp} {h : Heap} {a C : Addr} {d : Option Addr} {oe : Obj} (e : h.get? a = some oe) (z : Zc (.ref C) d oe) (hd : ∃ vs, oe.data = .fields vs) : ObjOk P w H' h a (errO C a d) := by
  obtain ⟨vs, hd⟩ := hd
  exact ⟨⟨oe, vs, e, z.1, z.2, hd⟩, ⟨oe, e⟩, fun h1 h2 ⟨o, v, q, r⟩ k => ⟨o, v, k o q, r⟩⟩
end
/-- behind the suite: the name is gone, the exception's object is known -/
def endT (a C : Addr) (d : Option Addr) (i : Nat) (D : Ends) : Ends where
  nx := fun σ' H' => D.nx (σ'.set i none) (upd H' a (errO C a d))
  rt := fun v H' => D.rt v (upd H' a (errO C a d))
  bk := fun σ' H' => D.bk (σ'.set i none) (upd H' a (errO C a d))
  ct := fun σ' H' => D.ct (σ'.set i none) (upd H' a (errO C a d))
def wTry (K : PySem.W.Frag) (c : Value) (i : Nat) (ts : TS) (Wout : WX) (D : Ends) : WX := fun cls d σ H =>
  ∃ b C, cls = .ref C ∧ PySem.W.exmOne K cls c = some b ∧ (b = true → ∀ a, H a = none → ts (endT a C d i D) (σ.set i (some (.ref a))) H) ∧ (b = false → Wout cls d σ H)
section
variable {X : Cx} {x n : Str} {c : Value} {i : Nat} {body suite : List Stmt} {b₀ : Stmt} {np pos pos' : Pos} {tb : WX → TS} {ts : TS} {Wout : WX}
theorem ps_tryK (hs : X.stack = X.env :: X.outer) (hf : X.env.frame = some X.env.locals) (hex : X.ex = []) (hN : X.N.Nodup) (hi : X.N[i]? = some n) (hln : X.env.kindOf n = some .local) (hc : Names X x c) (tk : Takes X Wout)
    (hb : ∀ (W : WX) (pn : List (Addr × Obj)) (xe : Value → Shared → Prop), Takes (X.tr pn xe) W → PassesOwn (model X.prog X.w) X.A X.env xe → PSs (X.tr pn xe) body (tb W))
    (hsu : ∀ (a : Addr) (pn : List (Addr × Obj)), PSs (X.suite a pn) (b₀ :: suite) ts) :
    PS X (.Try body [.ExceptHandler (some (.Name x np)) (some n) (b₀ :: suite) pos'] [] [] pos) (fun D σ H => tb (wTry X.K c i ts Wout D) D σ H) := by
  refine ⟨fun pins s σ H D I h => ?_⟩
  have ok := I.ok
  refine wpAny_Try_except (wpAny_mono ((hb (wTry X.K c i ts Wout D) (X.pn ++ pins) (fun e s₁ => wpAny (model X.prog X.w) X.A (noteFrame e X.env) (fun _ s₂ => wpAny (model X.prog X.w) X.A (setFlight e none) (fun _ s₃ =>
    wpAny (model X.prog X.w) X.A (handleBy e X.env [.ExceptHandler (some (.Name x np)) (some n) (b₀ :: suite) pos']) (SP X pins D) X.xe s₃) X.xe s₂) X.xe s₁) (fun u s' hx => ?_) PassesOwn.looking).run [] s σ H D (I.toTry _) h) (fun f s1 hsp => ?_) fun e s1 he => he)
  · -- an exception has come
    obtain ⟨a, B, sI, pins', σ', H', cls, d, rfl, J', nb, up, sky, na, os, ag, b, C, rfl, hb1, hyes, hno⟩ := hx
    have J : Inv X pins σ' H' sI := J'.ofTry ok
    rw [show (X.tr (X.pn ++ pins) _).stack = X.env :: X.outer from hs] at sky
    refine Sky.land (E₁ := X.xe) Zc.steady (show X.A.frames = some (X.env :: X.outer) by rw [ok.frames, hs]) hf sky fun h3 fl3 up3 => ?_
    have stay3 : Inv X pins σ' H' { s' with heap := h3 } := J.landed nb fl3.1 (up.trans up3) os ag
    obtain ⟨oe3, vs3, he3, hz3, hd3⟩ := fl3.there
    have nfr : a ∉ frs (X.env :: X.outer) := fun hm => by
      obtain ⟨_, o', e', hnf⟩ := fl3.2.2.1.mem hm
      rw [he3] at e'; cases e'
      exact hnf _ hd3
    have nL : a ≠ X.env.locals := fun z => nfr (List.mem_filterMap.mpr ⟨X.env, List.mem_cons_self, by rw [hf, z]⟩)
    have nF : a ∉ X.fs := fun hm => by
      obtain ⟨e, he, q⟩ := List.mem_filterMap.mp hm
      exact nfr (List.mem_filterMap.mpr ⟨e, List.mem_cons_of_mem _ he, q⟩)
    -- it is younger than the body's ground
    have nI : sI.heap.get? a = none := by
      cases e : sI.heap.get? a with
      | none => rfl
      | some o =>
        have z := nb a o e (by rw [show (X.tr (X.pn ++ pins) _).stack = X.env :: X.outer from hs]; exact nfr)
        rw [fl3.2.1] at z; cases z
    have n0 : X.s_0.heap.get? a = none := by
      cases e : X.s_0.heap.get? a with
      | none => rfl
      | some o =>
        obtain ⟨o', z⟩ := J.base.there a o e (by rw [hex]; simp)
        rw [nI] at z; cases z
    have nP : ∀ p ∈ X.pn ++ pins, p.1 ≠ a := fun p hp z => by
      have q := (J.pin p hp).1
      rw [z, nI] at q; cases q
    have S3 := stay3.suite he3 hd3 na nL nF
    refine wpAny_handleBy_cons (codeAny_handlers_test ?_) (by intro q; cases q)
    have LM := PySem.W.exm_one (M := model X.prog X.w) (stay3.kIn) (fun A Q E s k q => wpAny_typeOf_ref (k _ _ he3) (by rw [hz3.1]; exact q)) hb1
    have test : ∀ {Q : Value → Shared → Prop} {E : Value → Shared → Prop}, Q c { s' with heap := h3 } → wpAny (model X.prog X.w) (X.A.mark (some (.ref a))) (eval (.Name x np) X.env) Q E { s' with heap := h3 } := fun {Q E} q => by
      obtain ⟨hg, hdbg, hm | ⟨hm, hv, hnn⟩⟩ := hc
      · exact ld_glob (X := X.suite a ((a, oe3) :: (X.pn ++ pins))) S3 hg hm q hdbg
      · exact ld_blt (X := X.suite a ((a, oe3) :: (X.pn ++ pins))) S3 hg hm hv q hnn hdbg
    refine test (LM.here ?_)
    cases b with
    | true =>
      refine codeAny_handlers_suite_as (HandSPX.lands_againZ fl3 fun h4 fl4 up4 => ?_)
      obtain ⟨oe4, vs4, he4, hz4, hd4⟩ := fl4.there
      have S4 := (J.landed (s' := { s' with heap := h4 }) nb fl4.1 ((up.trans up3).trans up4) os ag : Inv X pins σ' H' { s' with heap := h4 }).suite he4 hd4 na nL nF
      refine store_ok (X := X.suite a ((a, oe4) :: (X.pn ++ pins))) (v := .ref a) S4 hN hi (.inl hln) rfl (fun s5 S5 => ?_) (.inr hln)
      refine wpAny_mono ((hsu a ((a, oe4) :: (X.pn ++ pins))).run [] s5 _ H' _ S5 (hyes rfl a na)) (fun f s6 hsp => ?_) fun _ _ z => z.elim
      have seen : ∀ {σ6 : L2.St} {H6 : Hp}, Inv (X.suite a ((a, oe4) :: (X.pn ++ pins))) [] σ6 H6 s6 → Inv X pins σ6 (upd H6 a (errO C a d)) s6 := fun {σ6 H6} S6 => by
        obtain ⟨e6, n6, _⟩ := S6.pin (a, oe4) (by simp)
        exact inv_track (S6.unsuite ok) e6 n6 n0 nL (fun v z => by rw [hd4] at z; cases z) nP (errO_ok e6 hz4 ⟨_, hd4⟩)
      cases f with
      | ret u =>
        obtain ⟨v6, σ6, H6, S6, r6, q6⟩ := hsp
        exact gone_ok (seen S6) hN hi hln fun s7 J7 => ⟨_, _, _, J7, r6, q6⟩
      | next =>
        obtain ⟨σ6, H6, S6, q6⟩ := hsp
        exact gone_ok (seen S6) hN hi hln fun s7 J7 => ⟨_, _, J7, q6⟩
      | brk =>
        obtain ⟨σ6, H6, S6, q6⟩ := hsp
        exact gone_ok (seen S6) hN hi hln fun s7 J7 => ⟨_, _, J7, q6⟩
      | cont =>
        obtain ⟨σ6, H6, S6, q6⟩ := hsp
        exact gone_ok (seen S6) hN hi hln fun s7 J7 => ⟨_, _, J7, q6⟩
    | false =>
      show wpAny _ X.A (handleBy (.ref a) X.env []) _ _ _
      refine wpAny_handleBy_nil ?_
      obtain ⟨_, _, _, oe, vs, T, oT, _, he, _, hd, h1, _⟩ := id fl3
      unfold PySem.passOn
      refine wpAny_bind (wpAny_field he hd h1 ?_)
      rw [if_neg (show ¬ ((Value.ref T == Value.none) = true) from by simp)]
      have out : wpAny (model X.prog X.w) X.A (setFlight (.ref a) X.env.frame) (fun _ s4 => wpAny (model X.prog X.w) X.A (throw (.ref a) : Sem Flow) (SP X pins D) X.xe s4) X.xe { s' with heap := h3 } := by
        rw [hf]
        exact HandSPX.setFlight_upZ fl3 fun h4 hh4 up4 => wpAny_throw (tk _ _ ⟨a, B, sI, pins, σ', H', .ref C, d, rfl, J, nb, (up.trans up3).trans up4, .inr (.inr (by rw [hs]; exact hh4)), na, os, ag, hno rfl⟩)
      first
        | exact wpAny_bind (wpAny_pure (wpAny_bind out))
        | exact wpAny_bind out
  · cases f with
    | ret u =>
      obtain ⟨v, σ', H', J', r, q⟩ := hsp
      exact ⟨v, σ', H', J'.ofTry ok, r, q⟩
    | next =>
      obtain ⟨σ', H', J', q⟩ := hsp
      exact wpAny_execs_nil ⟨σ', H', J'.ofTry ok, q⟩
    | brk =>
      obtain ⟨σ', H', J', q⟩ := hsp
      exact ⟨σ', H', J'.ofTry ok, q⟩
    | cont =>
      obtain ⟨σ', H', J', q⟩ := hsp
      exact ⟨σ', H', J'.ofTry ok, q⟩
end
end KL
end

section
set_option Elab.async false
set_option linter.all false
set_option maxRecDepth 100000
namespace KL
open PySem L2
variable [Tabs]

/-- try: body / except C as n: y = n; cat: does the clause take an exception of this class? -/
def tryS (cat : Str → Option Bool) (i j : Nat) (body : SM) : SM := fun ρ => match body ρ with
  | .ex (.err c fs) ρ1 => (match cat c with
    | some true => if (decide (i < ρ1.length) && (notIo ρ1 i && notIo (ρ1.set i .un) j)) = true then .nx ((ρ1.set i .un).set j (.va (.err c fs))) else .bad
    | some false => .ex (.err c fs) ρ1
    | none => .bad)
  | .ex _ _ => .bad
  | o => o
def CatOk (K : PySem.W.Frag) (mg : MgT) (c : Value) (cat : Str → Option Bool) : Prop := ∀ x C b, mg x = some (.ref C) → cat x = some b → PySem.W.exmOne K (.ref C) c = some b
section
variable {K : PySem.W.Frag} {mg : MgT} {S : Sx}
/-- a slot is forgotten -/
theorem go_un (h : S.rel K mg) {i : Nat} {o : Option V} (ni : notIo S.ρ i = true) : Go K mg S ⟨S.B, S.ρ.set i .un, S.σ.set i o, S.H⟩ := by
  have own : ∀ j b, OwnAt (S.ρ.set i .un) (S.σ.set i o) j b → OwnAt S.ρ S.σ j b := fun j b ⟨⟨r, e1, e2⟩, e3⟩ => by
    rcases set_some e1 with ⟨_, rfl⟩ | ⟨ne, f1⟩
    · cases e2
    · rw [List.getElem?_set_ne (Ne.symm ne)] at e3
      exact ⟨⟨r, f1, e2⟩, e3⟩
  refine ⟨⟨by show (S.ρ.set i .un).length = (S.σ.set i o).length; rw [List.length_set, List.length_set]; exact h.len, fun j r e => ?_, fun j k b o1 o2 => h.dist j k b (own j b o1) (own k b o2), h.alloc, h.tab⟩,
    ⟨fun _ _ z _ _ => z, fun _ z => z, fun _ z => .inl z, fun b ⟨j, z⟩ => .inl ⟨j, own j b z⟩, fun _ z _ => z, fun _ z _ => z⟩, fun j r e1 e2 => ?_, by show (S.σ.set i o).length = _; rw [List.length_set]⟩
  · have e : (S.ρ.set i .un)[j]? = some r := e
    rcases set_some e with ⟨_, rfl⟩ | ⟨ne, f1⟩
    · trivial
    · show SlR K mg S.H S.B r ((S.σ.set i o)[j]?.getD none)
      rw [List.getElem?_set_ne (Ne.symm ne)]
      exact h.sl j r f1
  · have ne : j ≠ i := fun z => by
      subst z
      unfold notIo at ni
      rw [e1] at ni
      cases r with
      | io xs => exact Bool.noConfusion ni
      | _ => exact nomatch e2
    exact ⟨List.getElem?_set_ne (Ne.symm ne), r, (List.getElem?_set_ne (Ne.symm ne)).trans e1, e2⟩
/-- an exception's object is known from now on -/
theorem go_exc (h : S.rel K mg) {a : Addr} {o : HO} (ha : S.H a = none) : Go K mg S ⟨S.B, S.ρ, S.σ, upd S.H a o⟩ :=
  go_extA h (ext_upd ha) (fun _ z => z) (fun _ z => .inl z) fun b z => by
    rw [upd_ne (fun e => h.alloc b z (by rw [e]; exact ha))]; exact h.alloc b z
theorem rep_exc (h : S.rel K mg) {c : Str} {fs : List (Str × D)} {C a : Addr} {dd : Option Addr} (rx : RepX K mg S (.err c fs) (.ref C) dd) (ha : S.H a = none) : Rep K mg (upd S.H a (errO C a dd)) S.B (.err c fs) (.ref a) := by
  have fe : FE S.B S.H S.B (upd S.H a (errO C a dd)) := fe_new ha
  obtain ⟨c', fs', C', e1, e2, e3, e4⟩ := rx
  cases e1
  cases e3
  have nb : ¬ S.B a := fun z => h.alloc a z ha
  rcases e4 with ⟨rfl, rfl⟩ | ⟨dx, gs, rfl, f2, f3, f4⟩
  · exact .err0 nb e2 upd_same
  · exact .err nb f2 e2 upd_same (ext_upd ha _ _ f3) (RepF.mono fe f4)
end
section
variable {X : Cx} {x n y : Str} {c : Value} {i j : Nat} {body : List Stmt} {np yp vp ap pos pos' : Pos} {fb : SM} {cat : Str → Option Bool}
theorem rs_try (hs : X.stack = X.env :: X.outer) (hf : X.env.frame = some X.env.locals) (hex : X.ex = []) (hN : X.N.Nodup) (hi : X.N[i]? = some n) (hj : X.N[j]? = some y) (hij : i ≠ j) (hln : X.env.kindOf n = some .local) (hly : Loc X.env.scope y) (hc : Names X x c) (hcat : CatOk X.K X.mg c cat)
    (hb : ∀ (pn : List (Addr × Obj)) (xe : Value → Shared → Prop), PassesOwn (model X.prog X.w) X.A X.env xe → RSs (X.tr pn xe) body fb) (hdn : (n == ("__debug__" : Str)) = false := by decide) (hcn : (n == ("__classdict__" : Str)) = false := by decide)
    (hfy : X.fn y = true ∨ X.env.scope.names.lookup y = some .local := by first | exact .inl rfl | exact .inr rfl | assumption) (hsw : swapsWith (.Name n vp) (some (.Name y yp)) ap.line X.env = pure false := by rfl) :
    RS X (.Try body [.ExceptHandler (some (.Name x np)) (some n) [.Assign [.Name y yp] (.Name n vp) ap] pos'] [] [] pos) (tryS cat i j fb) := by
  refine ⟨fun Wi tk => ps_imp (ps_tryK (tb := fun W => TS_ X.K X.mg W fb) (ts := fun D σ H => tVar i σ H fun v H' => D.nx (σ.set j (some v)) H') hs hf hex hN hi hln hc tk (fun W pn xe t p => (hb pn xe p).run W t) fun a pn => ?_) fun D σ H q => ?_⟩
  · exact pss_one (L2.ps_set (X := X.suite a pn) hN hj hly (pe_var hi (.inl hln) hdn hcn) hsw hfy)
  · obtain ⟨S, hS, rfl, rfl, q⟩ := q
    refine ⟨S, hS, rfl, rfl, ?_⟩
    unfold tryS at q
    cases e : fb S.ρ with
    | nx ρ => rw [e] at q; exact q
    | bad => rw [e] at q; exact q
    | bk ρ => rw [e] at q; exact q
    | ct ρ => rw [e] at q; exact q
    | rt a ρ => rw [e] at q; exact q
    | ex er ρ1 =>
      rw [e] at q
      cases er with
      | err cn fs =>
        intro S1 cls dd e1 g1 rx
        subst e1
        obtain ⟨c', fs', C, z1, z2, rfl, z4⟩ := id rx
        have z1 := KL.D.err.inj z1
        obtain ⟨rfl, rfl⟩ := z1
        cases ec : cat cn with
        | none => simp only [ec] at q; exact q.elim
        | some b =>
          refine ⟨b, C, rfl, hcat cn C b z2 ec, fun hb a ha => ?_, fun hb => ?_⟩
          · subst hb
            simp only [ec] at q
            by_cases cw : (decide (i < S1.ρ.length) && (notIo S1.ρ i && notIo (S1.ρ.set i .un) j)) = true
            · rw [if_pos cw] at q
              simp only [Bool.and_eq_true, decide_eq_true_eq] at cw
              obtain ⟨cl, cw⟩ := cw
              have il : i < S1.σ.length := by rw [← g1.rel.len]; exact cl
              refine ⟨.ref a, List.getElem?_set_self il, ?_⟩
              have g2 := g1.trans hS (go_exc (o := errO C a dd) g1.rel ha)
              have g3 := g2.trans hS (go_un (i := i) (o := none) g2.rel cw.1)
              have rv : RepV X.K X.mg S ⟨S1.B, S1.ρ.set i .un, S1.σ.set i none, upd S1.H a (errO C a dd)⟩ (.fz (.err cn fs)) (.ref a) := rep_exc g1.rel rx ha
              have g4 := go_put (a := .fz (.err cn fs)) hS g3 rv cw.2
              have key := q _ rfl g4
              show D.nx ((((S1.σ.set i (some (.ref a))).set j (some (.ref a)))).set i none) (upd S1.H a (errO C a dd))
              rw [show (((S1.σ.set i (some (.ref a))).set j (some (V.ref a)))).set i none = (S1.σ.set i none).set j (some (V.ref a)) by
                rw [List.set_comm _ _ (Ne.symm hij), List.set_set]]
              exact key
            · rw [if_neg cw] at q; exact q.elim
          · subst hb
            simp only [ec] at q
            exact q S1 (.ref C) dd rfl g1 rx
      | _ => exact q.elim
end
end KL
end

section
set_option Elab.async false
set_option linter.all false
set_option maxRecDepth 100000
namespace KL
open PySem L2
variable [Tabs]

/-! ### calls of built-in functions, by values -/
def callB (p : List D → Option Vl) (args : M (List Od)) : M Vl := fun ρ => bnd (args ρ) fun os ρ1 => appN p os ρ1
section
variable {X : Cx} {x : Str} {e : Expr} {es : List Expr} {q pos : Pos} {r : List V → Hp → VK → Prop} {p : List D → Option Vl} {f : M (List Od)}
theorem tcb {K : PySem.W.Frag} {mg : MgT} {Wi : WX} (hp : PN K mg r p) : ∀ σ H Q, TE_ K mg Wi (callB p f) σ H Q → tCB r (TA_ K mg Wi f) σ H Q := fun σ H Q z => by
  obtain ⟨S, hS, rfl, rfl, z⟩ := z
  refine ⟨S, hS, rfl, rfl, z.bnd fun os S1 es1 g1 _ q1 vs rs => ?_⟩
  exact satN hp g1.rel rs (q1.vfrom hS g1 es1)
theorem re_callB {id : String} (hc : CallR X (.builtin id) r) (hp : PN X.K X.mg r p) (hg : Gl X x) (hm : X.mg x = none) (ha : RA X (e :: es) f) (hv : bootBuiltins x = some (.builtin id) := by rfl) (hn : x ≠ "__name__" := by decide) (hdb : (x == ("__debug__" : Str)) = false := by decide)
    (he : starEach (e :: es) X.env = (false, eval e X.env) :: starEach es X.env := by rfl) (hpl : (backTo pos (starEach es X.env)).any (·.1) = false := by rfl) : RE X (.Call (.Name x q) (e :: es) [] pos) (callB p f) :=
  ⟨fun Wi tk => pe_imp (pe_callB hc hg hm hv (ha.run Wi tk) hn hdb he hpl) (tcb hp)⟩
theorem re_callTy {T : String} (hc : CallR X (.type T) r) (hp : PN X.K X.mg r p) (hg : Gl X x) (hm : X.mg x = none) (ha : RA X (e :: es) f) (hv : bootBuiltins x = some (.type T) := by rfl) (hn : x ≠ "__name__" := by decide) (hdb : (x == ("__debug__" : Str)) = false := by decide)
    (he : starEach (e :: es) X.env = (false, eval e X.env) :: starEach es X.env := by rfl) (hpl : (backTo pos (starEach es X.env)).any (·.1) = false := by rfl) : RE X (.Call (.Name x q) (e :: es) [] pos) (callB p f) :=
  ⟨fun Wi tk => pe_imp (pe_callTy hc hg hm hv (ha.run Wi tk) hn hdb he hpl) (tcb hp)⟩
end

/-! ### len, list, tuple -/
def lenP : List D → Option Vl
  | [.lst xs] => some (.fz (.int xs.length))
  | [.tup xs] => some (.fz (.int xs.length))
  | [.scr ns] => some (.fz (.int ns.length))
  | _ => none
/-- int(x) of an int or a bool -/
def intP : List D → Option Vl
  | [.int i] => some (.fz (.int i))
  | [.bl b] => some (.fz (.int (if b = true then 1 else 0)))
  | _ => none
def listP : List D → Option Vl
  | [.lst xs] => some (.fr xs)
  | [.tup xs] => some (.fr xs)
  | _ => none
def tupleP : List D → Option Vl
  | [.lst xs] => some (.fz (.tup xs))
  | [.tup xs] => some (.fz (.tup xs))
  | _ => none
def D.ints? : D → Option (List Int)
  | .lst xs => KL.ints? xs
  | .tup xs => KL.ints? xs
  | _ => none
def bools? : List D → Option (List Bool)
  | [] => some []
  | .bl b :: r => match bools? r with
    | some bs => some (b :: bs)
    | none => none
  | _ :: _ => none
def bsum (bs : List Bool) : Int := (bs.map fun b => if b = true then (1 : Int) else 0).sum
/-- a list of bools -/
def sumB : D → Option Vl
  | .lst xs => match bools? xs with
    | some bs => some (.fz (.int (bsum bs)))
    | none => none
  | _ => none
def sumP : List D → Option Vl
  | [d] => match d.ints? with
    | some ns => some (.fz (.int ns.sum))
    | none => sumB d
  | _ => none
/-- in order -/
def insI (i : Int) : List Int → List Int
  | [] => [i]
  | j :: r => if i ≤ j then i :: j :: r else j :: insI i r
def isortI : List Int → List Int
  | [] => []
  | i :: r => insI i (isortI r)
def sortP : List D → Option Vl
  | [d] => match d.ints? with
    | some ns => some (.fr ((isortI ns).map .int))
    | none => none
  | _ => none
def maxP2 : List D → Option Vl
  | [.int i, .int j] => some (.fz (.int (if j > i then j else i)))
  | _ => none
def minP2 : List D → Option Vl
  | [.int i, .int j] => some (.fz (.int (if j < i then j else i)))
  | _ => none
def maxI : Int → List Int → Int
  | m, [] => m
  | m, i :: r => maxI (if i > m then i else m) r
def minI : Int → List Int → Int
  | m, [] => m
  | m, i :: r => minI (if i < m then i else m) r
def maxP : List D → Option Vl
  | [.lst xs] => match ints? xs with
    | some (i :: r) => some (.fz (.int (maxI i r)))
    | _ => none
  | _ => none
def minP : List D → Option Vl
  | [.lst xs] => match ints? xs with
    | some (i :: r) => some (.fz (.int (minI i r)))
    | _ => none
  | _ => none
section
variable {K : PySem.W.Frag} {mg : MgT}
theorem p_int : PN K mg (fun xs H Q => (∃ i, xs = [.int i] ∧ Q (.int i) H) ∨ ∃ k, xs = [.bl k] ∧ Q (.int (if k then 1 else 0)) H) intP := fun S ds vs a Q hS h o f => by
  match ds, h, o with
  | [.int i], h, .cons (v := v) o .nil =>
    cases h
    rw [Opn.int o]
    exact .inl ⟨_, rfl, f.d hS (.int _)⟩
  | [.bl b], h, .cons (v := v) o .nil =>
    cases h
    rw [Opn.bl o]
    exact .inr ⟨_, rfl, f.d hS (.int _)⟩
theorem p_len : PN K mg (fun xs H Q => ∃ x n, xs = [x] ∧ LenV K x H n ∧ Q (.int n) H) lenP := fun S ds vs a Q hS h o f => by
  match ds, h, o with
  | [.lst xs], h, .cons (v := v) o .nil =>
    cases h
    obtain ⟨b, ws, rfl, h1, r⟩ := o
    exact ⟨_, ws.length, rfl, .inl ⟨ws, .inl (.inl h1), rfl⟩, by rw [← r.length]; exact f.d hS (.int _)⟩
  | [.tup xs], h, .cons (v := v) o .nil =>
    cases h
    obtain ⟨b, ws, rfl, h1, r⟩ := Opn.tup o
    exact ⟨_, ws.length, rfl, .inr ⟨ws, h1, rfl⟩, by rw [← r.length]; exact f.d hS (.int _)⟩
  | [.scr ns], h, .cons (v := v) o .nil =>
    cases h
    have o : Rep K mg S.H S.B (.scr ns) v := o
    cases o with
    | scr hb h1 => exact ⟨_, ns.length, rfl, .inl ⟨_, .inl h1, by simp⟩, f.d hS (.int _)⟩
    | scrK h1 => exact ⟨_, ns.length, rfl, .inl ⟨_, h1 _, by simp⟩, f.d hS (.int _)⟩
theorem p_list : PN K mg (fun xs H Q => ∃ p ys, xs = [.ref p] ∧ (SqL K H p ys ∨ SqT K H p ys) ∧ ∀ l, H l = none → Q (.ref l) (upd H l (.lst ys))) listP := fun S ds vs a Q hS h o f => by
  match ds, h, o with
  | [.lst xs], h, .cons (v := v) o .nil =>
    cases h
    obtain ⟨b, ws, rfl, h1, r⟩ := o
    exact ⟨b, ws, rfl, .inl (.inl (.inl h1)), f.newL hS r⟩
  | [.tup xs], h, .cons (v := v) o .nil =>
    cases h
    obtain ⟨b, ws, rfl, h1, r⟩ := Opn.tup o
    exact ⟨b, ws, rfl, .inr h1, f.newL hS r⟩
theorem p_tuple : PN K mg (fun xs H Q => ∃ p ys, xs = [.ref p] ∧ ((SqL K H p ys ∧ NewT H ys Q) ∨ (SqT K H p ys ∧ Q (.ref p) H))) tupleP := fun S ds vs a Q hS h o f => by
  match ds, h, o with
  | [.lst xs], h, .cons (v := v) o .nil =>
    cases h
    obtain ⟨b, ws, rfl, h1, r⟩ := o
    exact ⟨b, ws, rfl, .inl ⟨.inl (.inl h1), f.newT hS r⟩⟩
  | [.tup xs], h, .cons (v := v) o .nil =>
    cases h
    have o' : Rep K mg S.H S.B (.tup xs) v := o
    obtain ⟨b, ws, rfl, h1, r⟩ := Opn.tup o
    exact ⟨b, ws, rfl, .inr ⟨h1, f.d hS o'⟩⟩
theorem ints_of {S : Sx} {d : D} {ns : List Int} {v : V} (h : d.ints? = some ns) (o : Opn K mg S d v) : ∃ b, v = .ref b ∧ ((SqL K S.H b (ns.map V.int)) ∨ SqT K S.H b (ns.map V.int)) := by
  cases d with
  | lst xs =>
    have e := ints_map (show ints? xs = some ns from h)
    subst e
    obtain ⟨b, ws, rfl, h1, r⟩ := o
    rw [r.ints] at h1
    exact ⟨b, rfl, .inl (.inl (.inl h1))⟩
  | tup xs =>
    have e := ints_map (show ints? xs = some ns from h)
    subst e
    obtain ⟨b, ws, rfl, h1, r⟩ := Opn.tup o
    rw [r.ints] at h1
    exact ⟨b, rfl, .inr h1⟩
  | _ => cases h
/-- sum(xs) of ints, a list or a tuple, or of a list of bools -/
def rSumA (K : PySem.W.Frag) : List V → Hp → VK → Prop := fun vs H Q => (∃ (a : Addr) (ns : List Int), vs = [V.ref a] ∧ (SqL K H a (ns.map V.int) ∨ SqT K H a (ns.map V.int)) ∧ Q (.int ns.sum) H) ∨
  ∃ (a : Addr) (bs : List Bool), vs = [V.ref a] ∧ SqL K H a (bs.map V.bl) ∧ Q (.int (bsum bs)) H
theorem bools_map : ∀ {xs : List D} {bs : List Bool}, bools? xs = some bs → xs = bs.map D.bl
  | [], bs, h => by cases h; rfl
  | x :: r, bs, h => by
    cases x with
    | bl b =>
      unfold bools? at h
      cases e : bools? r with
      | none => simp only [e] at h; cases h
      | some cs =>
        simp only [e] at h
        cases h
        rw [bools_map e]; rfl
    | _ => cases h
theorem RepL.bools {H : Hp} {B : Ad} : ∀ {bs : List Bool} {vs : List V}, RepL K mg H B (bs.map D.bl) vs → vs = bs.map V.bl
  | [], vs, r => by cases r; rfl
  | b :: bs, vs, r => by
    cases r with
    | cons h r =>
      rw [RepL.bools r]
      cases h
      rfl
theorem p_sum : PN K mg (rSumA K) sumP := fun S ds vs a Q hS h o f => by
  match ds, h, o with
  | [d], h, .cons (v := v) o .nil =>
    unfold sumP at h
    cases e : d.ints? with
    | none =>
      simp only [e] at h
      unfold sumB at h
      split at h
      · split at h
        · rename_i bs eb
          cases h
          have e2 := bools_map eb
          subst e2
          obtain ⟨b, ws, rfl, h1, r⟩ := o
          rw [RepL.bools r] at h1
          exact .inr ⟨b, bs, rfl, .inl (.inl h1), f.d hS (.int _)⟩
        · cases h
      · cases h
    | some ns =>
      simp only [e] at h
      cases h
      obtain ⟨b, rfl, z⟩ := ints_of e o
      exact .inl ⟨b, ns, rfl, z, f.d hS (.int _)⟩
theorem isort_perm : ∀ ns : List Int, (isortI ns).Perm ns := by
  have ip : ∀ (i : Int) (r : List Int), (insI i r).Perm (i :: r) := fun i r => by
    induction r with
    | nil => exact List.Perm.refl _
    | cons j r ih =>
      unfold insI
      split
      · exact List.Perm.refl _
      · exact (List.Perm.cons j ih).trans (List.Perm.swap i j r)
  intro ns
  induction ns with
  | nil => exact List.Perm.refl _
  | cons i r ih => exact (ip i _).trans (List.Perm.cons i ih)
theorem isort_sorted : ∀ ns : List Int, (isortI ns).Pairwise (· ≤ ·) := by
  have ip : ∀ (i : Int) (r : List Int), r.Pairwise (· ≤ ·) → (insI i r).Pairwise (· ≤ ·) ∧ ∀ k ∈ insI i r, k = i ∨ k ∈ r := fun i r => by
    induction r with
    | nil => exact fun _ => ⟨by simp [insI], fun k hk => .inl (by simpa [insI] using hk)⟩
    | cons j r ih =>
      intro h
      unfold insI
      split
      · rename_i hij
        refine ⟨List.pairwise_cons.mpr ⟨fun k hk => ?_, h⟩, fun k hk => List.mem_cons.mp hk⟩
        rcases List.mem_cons.mp hk with rfl | hk
        · exact hij
        · exact Int.le_trans hij ((List.pairwise_cons.mp h).1 k hk)
      · rename_i hij
        obtain ⟨a1, a2⟩ := ih (List.pairwise_cons.mp h).2
        refine ⟨List.pairwise_cons.mpr ⟨fun k hk => ?_, a1⟩, fun k hk => ?_⟩
        · rcases a2 k hk with rfl | hk
          · omega
          · exact (List.pairwise_cons.mp h).1 k hk
        · rcases List.mem_cons.mp hk with rfl | hk
          · exact .inr (List.mem_cons_self ..)
          · exact (a2 k hk).imp id fun z => List.mem_cons_of_mem _ z
  intro ns
  induction ns with
  | nil => exact .nil
  | cons i r ih => exact (ip i _ ih).1
theorem sorted_unique : ∀ (a b : List Int), a.Perm b → a.Pairwise (· ≤ ·) → b.Pairwise (· ≤ ·) → a = b
  | [], b, p, _, _ => (List.nil_perm.mp p).symm
  | x :: a, [], p, _, _ => (List.perm_nil.mp p)
  | x :: a, y :: b, p, h1, h2 => by
    have hx : x ∈ y :: b := p.subset (List.mem_cons_self ..)
    have hy : y ∈ x :: a := p.symm.subset (List.mem_cons_self ..)
    have e : x = y := by
      rcases List.mem_cons.mp hx with e | hx
      · exact e
      · rcases List.mem_cons.mp hy with e | hy
        · exact e.symm
        · have z1 := (List.pairwise_cons.mp h1).1 y hy
          have z2 := (List.pairwise_cons.mp h2).1 x hx
          omega
    subst e
    rw [sorted_unique a b (List.Perm.cons_inv p) (List.pairwise_cons.mp h1).2 (List.pairwise_cons.mp h2).2]
theorem p_sort : PN K mg (rSortA K) sortP := fun S ds vs a Q hS h o f => by
  match ds, h, o with
  | [d], h, .cons (v := v) o .nil =>
    unfold sortP at h
    cases e : d.ints? with
    | none => simp only [e] at h; cases h
    | some ns =>
      simp only [e] at h
      cases h
      obtain ⟨b, rfl, z⟩ := ints_of e o
      refine ⟨b, ns, rfl, z, fun ns' p h1 h2 hp => ?_⟩
      rw [sorted_unique ns' (isortI ns) (h1.trans (isort_perm ns).symm) h2 (isort_sorted ns)]
      exact f.newL hS (RepL.of_ints _) p hp
theorem p_max2 : PN K mg (fun xs H Q => ∃ i j, xs = [.int i, .int j] ∧ Q (.int (if j > i then j else i)) H) maxP2 := fun S ds vs a Q hS h o f => by
  match ds, h, o with
  | [.int i, .int j], h, .cons o1 (.cons o2 .nil) =>
    cases h
    cases Opn.int o1; cases Opn.int o2
    exact ⟨i, j, rfl, f.d hS (.int _)⟩
theorem p_min2 : PN K mg (fun xs H Q => ∃ i j, xs = [.int i, .int j] ∧ Q (.int (if j < i then j else i)) H) minP2 := fun S ds vs a Q hS h o f => by
  match ds, h, o with
  | [.int i, .int j], h, .cons o1 (.cons o2 .nil) =>
    cases h
    cases Opn.int o1; cases Opn.int o2
    exact ⟨i, j, rfl, f.d hS (.int _)⟩
end
theorem preSum_of (ns : List Int) : ∀ j, j ≤ ns.length → preSum (fun i => ns.getD i 0) j = (ns.take j).sum
  | 0, _ => by simp [preSum]
  | j + 1, h => by
    have hl : j < ns.length := by omega
    have e : ns.getD j 0 = ns[j] := by rw [List.getD_eq_getElem?_getD, List.getElem?_eq_getElem hl]; rfl
    rw [preSum, preSum_of ns j (by omega), List.take_add_one, List.sum_append, List.getElem?_eq_getElem hl, e]
    show _ = _ + [ns[j]].sum
    rw [List.sum_cons, List.sum_nil, Int.add_zero]
/-- sum of a tuple's ints too -/
theorem cr_sumA {X : Cx} (hc : X.calm = true) : CallR X (.builtin "sum") (rSumA X.K) := by
  intro pins s σ H vs us Q I r h
  rcases h with ⟨a, ns, rfl, hs, q⟩ | ⟨a, bs, rfl, hs, q⟩
  case inr =>
    obtain ⟨its, rv, pl, _⟩ := I.list hs
    rw [Vals.ref1 r]
    have hlt : a < s.heap.objs.size := by obtain ⟨o, ho, _⟩ := pl.isList; exact Heap.lt_size ho
    refine call_sum_walkAnyB (wpAny_pyIter_list pl.isList ?_)
    have hv : ∀ (i : Nat) (v : Value), its.toArray[i]? = some v → NumOf ((bs.map fun b => if b = true then (1 : Int) else 0).getD i 0) v := fun i v e => by
      have e' : its[i]? = some v := by simpa using e
      cases en : bs[i]? with
      | none =>
        have : its[i]? = none := Vals.none_of rv (by rw [List.getElem?_map, en]; rfl)
        rw [e'] at this; cases this
      | some b =>
        obtain ⟨u, e1, r1⟩ := Vals.get rv (show (bs.map V.bl)[i]? = some (V.bl b) by rw [List.getElem?_map, en]; rfl)
        rw [e'] at e1; cases e1
        cases r1
        exact .inr ⟨b, rfl, by rw [List.getD_eq_getElem?_getD, List.getElem?_map, en]; rfl⟩
    refine ⟨_, _, _, _, _, _, _, (fun i => (bs.map fun b => if b = true then (1 : Int) else 0).getD i 0), rfl, (Walks.list (A := X.A.in1) (I.ok.hd hc) _ a (Nat.ne_of_lt hlt) its.toArray).toS, ⟨⟨_, Heap.get?_push_size _ rfl, rfl, rfl⟩, pl.isList.push _⟩, fun b hb => ?_, hv, fun s' t' hm => ?_⟩
    · show b < (s.heap.push _).objs.size
      rw [Heap.size_push]
      rcases List.mem_cons.mp hb with rfl | hb
      · exact Nat.lt_succ_self _
      · rcases List.mem_cons.mp hb with rfl | hb
        · exact Nat.lt_succ_of_lt hlt
        · cases hb
    · have el : its.toArray.size = bs.length := by rw [List.size_toArray, ← rv.length, List.length_map]
      have es : preSum (fun i => (bs.map fun b => if b = true then (1 : Int) else 0).getD i 0) its.toArray.size = bsum bs := by
        rw [el, preSum_of _ _ (by rw [List.length_map]; exact Nat.le_refl _), List.take_of_length_le (by rw [List.length_map]; exact Nat.le_refl _)]; rfl
      rw [es]
      rw [Moved.eq_with hm]
      refine ⟨.int _, H, I.kept fun b o eo => hm.heap b o (fun hmem => ?_) (Heap.get?_push_of_some _ eo), ⟨_, rfl⟩, q⟩
      rcases List.mem_cons.mp hmem with e1 | hmem
      · exact absurd (e1 ▸ Heap.lt_size eo) (Nat.lt_irrefl _)
      · cases hmem
  rcases hs with hs | hs
  · exact cr_sum hc pins s σ H [.ref a] us Q I r ⟨a, ns, rfl, hs, q⟩
  · obtain ⟨its, rv, ht, hz⟩ := I.tuple hs
    have hlt := ht.lt
    rw [Vals.ref1 r]
    refine call_sum_walkG (wpAny_pyIter_tuple (show s.heap.IsTuple a its.toArray from ht) ?_)
    have hi := intsAre_of rv
    have hv : ∀ (i : Nat) (v : Value), its.toArray[i]? = some v → ∃ t, v = Value.int (ns.getD i 0) t := fun i v e => by
      have e' : its[i]? = some v := by simpa using e
      cases en : ns[i]? with
      | none =>
        have : its[i]? = none := Vals.none_of rv (by rw [List.getElem?_map, en]; rfl)
        rw [e'] at this; cases this
      | some n =>
        obtain ⟨u, e1, r1⟩ := Vals.get rv (show (ns.map V.int)[i]? = some (V.int n) by rw [List.getElem?_map, en]; rfl)
        rw [e'] at e1; cases e1
        obtain ⟨t, rfl⟩ := r1
        exact ⟨t, by rw [List.getD_eq_getElem?_getD, en]; rfl⟩
    refine ⟨_, _, _, _, _, _, (fun i => ns.getD i 0), rfl, Walks.tuple (A := X.A.in1) (I.ok.hd hc) _ a (Nat.ne_of_lt hlt) its.toArray, ⟨⟨_, Heap.get?_push_size _ rfl, rfl, rfl⟩, ht.push _⟩, fun b hb => ?_, hv, fun h' tk t' hk => ?_⟩
    · show b < (s.heap.push _).objs.size
      rw [Heap.size_push]
      rcases List.mem_cons.mp hb with rfl | hb
      · exact Nat.lt_succ_self _
      · rcases List.mem_cons.mp hb with rfl | hb
        · exact Nat.lt_succ_of_lt hlt
        · cases hb
    · have el : its.toArray.size = ns.length := by rw [List.size_toArray, ← rv.length, List.length_map]
      have es : preSum (fun i => ns.getD i 0) its.toArray.size = ns.sum := by
        rw [el, preSum_of ns _ (Nat.le_refl _), List.take_of_length_le (Nat.le_refl _)]
      rw [es]
      refine ⟨.int _, H, I.kept fun b o eo => hk b o (fun hm => ?_) (Heap.get?_push_of_some _ eo), ⟨_, rfl⟩, q⟩
      rcases List.mem_cons.mp hm with e1 | hm
      · exact absurd (e1 ▸ Heap.lt_size eo) (Nat.lt_irrefl _)
      · cases hm
end KL
end

section
set_option Elab.async false
set_option linter.all false
set_option maxRecDepth 100000
namespace KL
open PySem L2
variable [Tabs]

/-! ### isinstance -/
def D.ty : D → String
  | .non => "NoneType" | .bl _ => "bool" | .int _ => "int" | .str _ => "str" | .lst _ => "list" | .tup _ => "tuple" | .scr _ => "list" | .pr _ => "tuple" | .err _ _ => ""
/-- kd: the answer by a built-in type's name; ke: by an own class's -/
def isiP (kd : String → Option Bool) (ke : Str → Option Bool) (d : D) : Option Vl := match d with
  | .err c _ => (ke c).map fun b => .fz (.bl b)
  | d => (kd d.ty).map fun b => .fz (.bl b)
/-- an exception's object, with a dict of its own or without one: its __class__ -/
theorem class_of_exc {prog : Program} {w : World} {A : Around} {E : Value → Shared → Prop} {s : Shared} {K : PySem.W.Frag} {x C : Addr} {ox : Obj} {od : Option Obj} {Q : Option Value → Shared → Prop} (c : ExcC K C) (Kin : K.In s.heap) (J : PySem.W.InstAt s.heap x ox C od)
    (q : Q (some (.ref C)) { s with toks := s.toks + 1 }) : wpAny (model prog w) A (getAttr? (.ref x) "__class__") Q E s := by
  obtain ⟨c1, c2, c3, c4, c5, c6, c7, c8⟩ := c
  have found : PySem.W.findObj K C od "__class__" = some (.bind (.builtin "getset_descriptor.__get__") (.builtin "object.__class__")) := by
    obtain ⟨cd, e, _⟩ := PySem.W.any_some c4
    unfold PySem.W.findObj
    rw [e, Option.bind_some, c5, Option.bind_some]
    simp [c6, c7]
  obtain ⟨hp, gn, dr, tk, os⟩ := s
  have T0 := J.type (M := model prog w)
  have T1 := PySem.W.looks_findIn (M := model prog w) Kin c1
  have T2 := PySem.W.looks_findIn (M := model prog w) Kin c2
  have T3 := PySem.W.looks_find (M := model prog w) Kin J found
  have isB : PySem.W.Looks (model prog w) hp (isInstance (.ref x) (.type "BaseException")) true := T0.andThen (PySem.W.looks_subIn Kin c3)
  have no : (Value.builtin "BaseException.__getattribute__" == Value.builtin "object.__getattribute__") = false := by decide +kernel
  have no2 : (onTheHeap (Value.ref C) && Value.builtin "BaseException.__getattribute__" == Value.builtin "object.__getattribute__") = false := by rw [no]; rfl
  unfold getAttr? getAttrBy? getAttrBy
  refine wpAny_bind (wpAny_mkText (wpAny_bind (wpAny_attempt (wpAny_holding (wpAny_bind (T0.at (wpAny_bind (T1.at ?_))))))))
  show wpAny _ _ (if (onTheHeap (Value.ref C) && Value.builtin "BaseException.__getattribute__" == Value.builtin "object.__getattribute__") = true then _ else _) _ _ _
  rw [no2, if_neg Bool.false_ne_true]
  unfold getAttrByItsOwn hookBefore
  refine wpAny_bind ?_
  rw [if_pos (show onTheHeap (Value.ref C) = true from rfl)]
  refine T2.at (wpAny_bind (wpAny_attempt (wpAny_holding ?_)))
  unfold callGetattribute
  rw [show (false && onTheHeap (Value.builtin "BaseException.__getattribute__")) = false from rfl, if_neg Bool.false_ne_true]
  unfold boundAndCalled
  rw [PySem.F.excAttr_ValueError.ga.bind (.ref x)]
  refine wpAny_bind (wpAny_pure ?_)
  show wpAny _ _ (call (.builtin "BaseException.__getattribute__") [.ref x, .str "__class__" tk]) _ _ _
  refine wpAny_call (codeAny_call_builtin PySem.F.excAttr_ValueError.ga.plain PySem.F.entry_bexc_ga ?_)
  refine @PySem.W.check_slot (model prog w) _ _ ⟨hp, gn, dr, tk + 1, os⟩ "BaseException.__getattribute__" "BaseException" "__getattribute__" (.ref x) [.str "__class__" tk] [] _ (by decide +kernel) (by decide +kernel) isB (PySem.F.args_bexc_ga (.ref x) (.str "__class__" tk)) ?_
  unfold Builtin.«object.__getattribute__»
  refine wpAny_bind (wpAny_of_eq (a := ((Value.ref x : Value), [Value.str "__class__" tk])) (by first | rfl | (simp only [slotArgs]; rfl)) ?_)
  refine wpAny_bind (wpAny_pure (wpAny_bind (T0.at (wpAny_bind (T3.at ?_)))))
  show wpAny _ _ (holding [Value.builtin "object.__class__"] (call (.builtin "getset_descriptor.__get__") [.builtin "object.__class__", .ref x, .ref C]) >>= ret) _ _ _
  refine wpAny_bind (wpAny_holding (wpAny_call (PySem.W.class_get (s := ⟨hp, gn, dr, tk + 1, os⟩) (ox := ox) (od := od) Kin J c8 (wpAny_pure ?_))))
  show wpAny _ _ (handedOut (.ref C)) _ _ _
  rw [PySem.W.handedOut_of (v := .ref C) rfl]
  first
    | exact wpAny_pure (wpAny_pure q)
    | exact wpAny_pure q
    | exact wpAny_pure (wpAny_bind (wpAny_pure (wpAny_pure q)))
theorem cls_obj {K : PySem.W.Frag} {C : Addr} (c : ExcC K C) : ∃ oc od cd sl, K.lookup C = some ⟨oc, od, .cls cd, sl⟩ := by
  obtain ⟨cd, e, _⟩ := PySem.W.any_some c.hd
  unfold PySem.W.clsIn at e
  split at e
  · rename_i a b c d h
    exact ⟨a, b, c, d, h⟩
  · cases e
theorem kitx_of_exc {K : PySem.W.Frag} {x C : Addr} {ox : Obj} {od : Option Obj} (c : ExcC K C) : PySem.W.KitX K (.ref x) (.ref C) (fun h => PySem.W.InstAt h x ox C od) where
  ty := fun _ _ _ J => J.type
  it := fun _ h Kin _ => by
    obtain ⟨oc, od', cd, sl, e⟩ := cls_obj c
    intro A' Q' E' s' k q
    unfold isType loadHead
    exact wpAny_bind (wpAny_loadPart (k _ _ (Kin _ _ e)) (wpAny_pure q))
  ne := fun h tp dd its n sl Kin htp => by
    obtain ⟨oc, od', cd, sl', e⟩ := cls_obj c
    refine Bool.eq_false_iff.mpr fun z => ?_
    have z := Value.ref.inj (beq_iff_eq.mp z)
    rw [← z] at htp
    have y := (Kin _ _ e).symm.trans htp
    cases y
  ca := fun Kin J q => class_of_exc c Kin J q
/-- a tracked exception -/
def rIsX (K : PySem.W.Frag) : List V → Hp → VK → Prop := fun xs H Q => ∃ (a C : Addr) (d : Option Addr) (c : V) (u : Value) (b : Bool), xs = [.ref a, c] ∧ ClsV c u ∧ H a = some (errO C a d) ∧ (∀ dx, d = some dx → ∃ gs, H dx = some (.xd gs)) ∧ ExcC K C ∧ PySem.W.kitOne K (.ref C) u = some b ∧ Q (.bl b) H
theorem call_isX {X : Cx} : CallR X (.builtin "isinstance") (rIsX X.K) := by
  intro pins s σ H xs us Q I r h
  obtain ⟨a, C, d, c, u, b, rfl, k, e, hd, cc, hk, q⟩ := h
  obtain ⟨u1, u2, rfl, r1, r2⟩ := vals2 r
  have e2 := k.eq r2
  subst e2
  cases (show u1 = Value.ref a from r1)
  obtain ⟨⟨oe, vs, g1, g2, g3, g4⟩, _, _⟩ := (show ObjOk X.prog X.w H s.heap a (errO C a d) from I.hok a _ e)
  have J : ∃ od, PySem.W.InstAt s.heap a oe C od := by
    have nc : PySem.W.notCls oe = true := by unfold PySem.W.notCls; rw [g4] <;> rfl
    cases d with
    | none => exact ⟨none, g1, g2, nc, by rw [g3]; trivial⟩
    | some dx =>
      obtain ⟨gs, eo⟩ := hd dx rfl
      obtain ⟨mA, ⟨ob, es, ep, z, _⟩, _⟩ := (show ObjOk X.prog X.w H s.heap dx (.xd gs) from I.hok dx _ eo)
      exact ⟨some ob, g1, g2, nc, by rw [g3]; exact z⟩
  obtain ⟨od, J⟩ := J
  exact PySem.W.kia_one (kitx_of_exc cc) I.kIn J hk (fun z => nomatch z) fun tk => ⟨.bl b, H, I.kept (t' := tk) fun _ _ z => z, rfl, q⟩
section
variable {K : PySem.W.Frag} {mg : MgT} {S : Sx}
/-- of what type a value of data is -/
theorem ty_of {d : D} {v : V} (o : Opn K mg S d v) (he : ∀ c fs, d ≠ .err c fs) : TyX K S.H v (.type d.ty) := by
  cases d with
  | non => cases Opn.non o; exact .base .non
  | bl b => cases Opn.bl o; exact .base (.bl b)
  | int i => cases Opn.int o; exact .base (.int i)
  | str x => cases Opn.str o; exact .base (.str x)
  | lst xs => obtain ⟨a, vs, rfl, h, _⟩ := o; exact .base (.lst h)
  | tup xs =>
    obtain ⟨a, vs, rfl, h, _⟩ := Opn.tup o
    rcases h with (h | ⟨o, h⟩) | ⟨o, its, n, h1, h2, _⟩
    · exact .base (.tup h)
    · exact .fTuple h
    · exact .kTuple h1 h2
  | pr xs =>
    obtain ⟨a, vs, rfl, h, _⟩ := Opn.pr o
    rcases h with (h | ⟨o, h⟩) | ⟨o, its, n, h1, h2, _⟩
    · exact .base (.tup h)
    · exact .fTuple h
    · exact .kTuple h1 h2
  | scr ns =>
    have o : Rep K mg S.H S.B (.scr ns) v := o
    cases o with
    | scr hb h =>
      rcases h with h | ⟨o, h⟩
      · exact .base (.lst h)
      · exact .base (.frz h)
    | scrK h =>
      rcases h S.H with (h | ⟨o, h⟩) | ⟨o, its, n, h1, h2, _⟩
      · exact .base (.lst h)
      · exact .base (.frz h)
      · exact .kList h1 h2
  | err c fs => exact absurd rfl (he c fs)
end
section
variable {X : Cx} {e c : Expr} {f : M Od} {q pos : Pos} {cv : V} {u : Value} {kd : String → Option Bool} {ke : Str → Option Bool}
theorem re_isi (ha : RO X e f) (hc : PE X c (tC cv)) (k : ClsV cv u) (hkd : ∀ t b, kd t = some b → PySem.W.kitOne X.K (.type t) u = some b) (hke : ∀ x C b, X.mg x = some (.ref C) → ke x = some b → PySem.W.kitOne X.K (.ref C) u = some b ∧ ExcC X.K C) (hg : Gl X "isinstance") (hm : X.mg "isinstance" = none)
    (hs : starEach [e, c] X.env = (false, eval e X.env) :: starEach [c] X.env := by rfl) (hs2 : starEach [c] X.env = (false, eval c X.env) :: starEach [] X.env := by rfl) (hpl : (backTo pos (starEach [c] X.env)).any (·.1) = false := by rfl) :
    RE X (.Call (.Name "isinstance" q) [e, c] [] pos) (un1 (isiP kd ke) f) := by
  refine ⟨fun Wi tk => pe_imp (pe_callB (call_isi.or call_isX) hg hm (by rfl) (pa_cons (ha.run Wi tk) (pa_cons hc pa_nil hs2) hs) (by decide) (by decide) hs hpl) fun σ H Q z => ?_⟩
  obtain ⟨S, hS, rfl, rfl, z⟩ := z
  refine ⟨S, hS, rfl, rfl, z.bnd fun a S1 es1 g1 _ q1 x rx => ?_⟩
  have q2 := q1.vfrom hS g1 es1
  show rIsi X.K [x, cv] S1.H Q ∨ rIsX X.K [x, cv] S1.H Q
  unfold app1 ofO at q2
  cases e1 : a.get S1.ρ with
  | none => simp only [e1] at q2; exact q2.elim
  | some d =>
    have o := opn_of g1.rel rx e1
    have plain : (∀ c fs, d ≠ .err c fs) → isiP kd ke d = (kd d.ty).map (fun b => Vl.fz (.bl b)) → rIsi X.K [x, cv] S1.H Q := fun he ei => by
      simp only [e1, ei] at q2
      cases e2 : kd d.ty with
      | none => simp only [e2] at q2; exact q2.elim
      | some b =>
        simp only [e2, Option.map_some] at q2
        exact ⟨x, cv, _, u, b, rfl, k, ty_of o he, hkd _ _ e2, (fin_of q2).d g1.rel (.bl b)⟩
    cases d with
    | err c fs =>
      simp only [e1, isiP] at q2
      cases e2 : ke c with
      | none => simp only [e2] at q2; exact q2.elim
      | some b =>
        simp only [e2, Option.map_some] at q2
        have o : Rep X.K X.mg S1.H S1.B (.err c fs) x := o
        cases o with
        | err0 hb hc h =>
          obtain ⟨h1, h2⟩ := hke _ _ _ hc e2
          exact .inr ⟨_, _, none, cv, u, b, rfl, k, h, (fun _ z => by cases z), h2, h1, (fin_of q2).d g1.rel (.bl b)⟩
        | err hb hb2 hc h h2 r =>
          obtain ⟨z1, z2⟩ := hke _ _ _ hc e2
          exact .inr ⟨_, _, some _, cv, u, b, rfl, k, h, (fun _ z => by cases z; exact ⟨_, h2⟩), z2, z1, (fin_of q2).d g1.rel (.bl b)⟩
    | _ => exact .inl (plain (fun _ _ z => by cases z) rfl)
end
end KL
end

section
set_option Elab.async false
set_option linter.all false
set_option maxRecDepth 100000
namespace KL
open PySem PySem.Spec PyProof.Rows L2
variable [Tabs]

/-! ### sorted(xs, reverse=True), a list or a tuple of ints -/
def rSortRev (K : PySem.W.Frag) : List V → List V → Hp → VK → Prop := fun vs zs H Q => ∃ (a : Addr) (ns : List Int), vs = [V.ref a] ∧ zs = [.bl true] ∧ (SqL K H a (ns.map V.int) ∨ SqT K H a (ns.map V.int)) ∧
  ∀ (ns' : List Int) (p : Addr), ns'.Perm ns → ns'.Pairwise (· ≥ ·) → H p = none → Q (.ref p) (upd H p (.lst (ns'.map V.int)))
omit [Tabs] in
theorem sorted_tup {prog : Program} {w : World} {A : Around} {E : Value → Shared → Prop} {s : Shared} {t : Addr} {vs : List Value} {ns : List Int} {Q : Value → Shared → Prop} (ht : s.heap.IsTuple t vs.toArray) (hi : IntsAre vs ns) (hz : vs.length ≤ sizeLine)
    (h : ∀ (h' : Heap) (l : Addr) (out : List Value) (ns' : List Int) (e : Nat), (∀ b o, s.heap.get? b = some o → h'.get? b = some o) → s.heap.get? l = none → h'.get? l = some (seqObj "list" out.toArray e) → IntsAre out ns' → ns'.Perm ns → ns'.Pairwise (· ≥ ·) → Q (.ref l) { s with heap := h' }) :
    wpAny (model prog w) A (call (.builtin "sorted") [.ref t] [(Str.ofString "reverse", .bool true)]) Q E s := by
  refine call_function_entry_kw kind_sorted plain_sorted entry_sorted (PyProof.Rows.args_sorted_rev _ _) ?_
  unfold Builtin.«sorted»
  refine wpAny_bind (m := checkCount "sorted" 1 1 _) (wpAny_pure ?_)
  obtain ⟨o, ho, hc, n, hd⟩ := id ht
  refine wpAny_bind (wpAny_collect_seq t (.inr rfl) ho hc hd (fun h1 k1 => ?_) (by rw [List.size_toArray]; exact hz))
  refine wpAny_bind (wpAny_newList ?_ hz)
  have hl : (h1.push (seqObj "list" vs.toArray 0)).get? h1.objs.size = some (seqObj "list" vs.toArray 0) := Heap.get?_push_size _ rfl
  show wpAny _ _ _ _ _ { s with heap := h1.push (seqObj "list" vs.toArray 0) }
  refine wpAny_bind (wpAny_holding (wpAny_call_entry_kw slot_list_sort ⟨_, hl, rfl⟩ entry_list_sort ?_ (PyProof.Rows.args_list_sort_rev _ _)))
  refine SrtR.list_sort_ordR (b := true) (ltv := SrtO.ltIv) SrtO.swo_int hl hz (fun h2 => SrtO.ints_sortable hi h2) fun out hs hb => ⟨_, rfl, ?_⟩
  obtain ⟨ns', i1, i2, i3⟩ := SrtR.ints_outR (b := true) hi hs hb
  obtain ⟨e, he⟩ := sortedHeap_at (out := out.toArray.reverse) hl
  refine wpAny_pure ⟨_, rfl, h _ h1.objs.size _ ns' e (fun b u q => ?_) ?_ ?_ i1 i2 i3⟩
  · have q1 := k1 b u q
    have lt := Heap.lt_size q1
    exact (sortedHeap_old (Nat.ne_of_lt lt) (by rw [Heap.size_push]; exact Nat.lt_succ_of_lt lt)).trans (Heap.get?_push_of_some _ q1)
  · cases q : s.heap.get? h1.objs.size with
    | none => rfl
    | some u => exact absurd (Heap.lt_size (k1 _ _ q)) (Nat.lt_irrefl _)
  · show (sortedHeap (h1.push (seqObj "list" vs.toArray 0)) h1.objs.size vs out.toArray.reverse).get? h1.objs.size = some (seqObj "list" ((if true = true then out.toArray.reverse else out.toArray).toList).toArray e)
    rw [he, if_pos rfl, Array.toArray_toList]
theorem cr_sortRev {X : Cx} : CallRK X (.builtin "sorted") [Str.ofString "reverse"] (rSortRev X.K) := by
  intro pins s σ H vs zs us ws Q I r rz h
  obtain ⟨a, ns, rfl, rfl, hs, q⟩ := h
  rcases hs with hs | hs
  · exact cr_sortedRev (b := true) pins s σ H _ _ us ws Q I r rz ⟨a, ns, rfl, rfl, hs, fun ns' p h1 h2 h3 => q ns' p h1 (show ns'.Pairwise (· ≥ ·) from h2) h3⟩
  · obtain rfl := Vals.ref1 r
    obtain ⟨w1, rfl, e1⟩ := vals1 rz
    obtain rfl : w1 = Value.bool true := e1
    obtain ⟨its, rv, ht, hz⟩ := I.tuple hs
    have hi := intsAre_of rv
    refine sorted_tup (show s.heap.IsTuple a its.toArray from ht) hi (by rw [← rv.length]; exact hz) fun h' l out ns' e k n0 he i1 i2 i3 => ?_
    have hn : H l = none := I.hok.gone n0
    have hlen : (ns'.map V.int).length ≤ sizeLine := by
      rw [List.length_map, i2.length_eq]
      rw [List.length_map] at hz
      exact hz
    exact ⟨.ref l, upd H l (.lst (ns'.map V.int)), I.laidN (t' := s.toks) k n0 hn ⟨hlen, out, e, vals_of_ints i1, he⟩, rfl, q ns' l i2 i3 hn⟩
def sortRevP (d : D) : Option Vl := match d.ints? with
  | some ns => some (.fr ((isortI ns).reverse.map .int))
  | none => none
theorem rev_unique {a b : List Int} (p : a.Perm b) (h1 : a.Pairwise (· ≥ ·)) (h2 : b.Pairwise (· ≤ ·)) : a = b.reverse := by
  have z := sorted_unique a.reverse b ((List.reverse_perm a).trans p) (List.pairwise_reverse.mpr h1) h2
  rw [← z, List.reverse_reverse]
section
variable {X : Cx} {e : Expr} {f : M Od} {q pos kp bp : Pos} {k : Nat}
theorem re_sortRev (ha : RO X e f) (hg : Gl X "sorted") (hm : X.mg "sorted" = none) (he : backTo pos (starEach [e] X.env) = (false, eval e X.env) :: backTo pos (starEach [] X.env) := by rfl) (hpl : (backTo pos (starEach [e] X.env)).any (·.1) = false := by rfl)
    (hs : starEach [e] X.env = (false, eval e X.env) :: starEach [] X.env := by rfl) (hall : (backToKw pos (keywordEach [⟨some (Str.ofString "reverse"), .Constant (.bool true) k bp, kp⟩] X.env)).all (·.1.isSome) = true := by rfl)
    (hnone : (backToKw pos (keywordEach [⟨some (Str.ofString "reverse"), .Constant (.bool true) k bp, kp⟩] X.env)).any (·.1.isNone) = false := by rfl) (hks : (backToKw pos (keywordEach [⟨some (Str.ofString "reverse"), .Constant (.bool true) k bp, kp⟩] X.env)).filterMap (·.1) = [Str.ofString "reverse"] := by rfl) :
    RE X (.Call (.Name "sorted" q) [e] [⟨some (Str.ofString "reverse"), .Constant (.bool true) k bp, kp⟩] pos) (un1 sortRevP f) := by
  refine ⟨fun Wi tk => pe_imp (pe_callBK cr_sortRev hg hm (by rfl) (pa_cons (ha.run Wi tk) pa_nil hs) (pk_cons pe_bl pk_nil) (by decide) (by decide) he hpl hall hnone hks) fun σ H Q z => ?_⟩
  obtain ⟨S, hS, rfl, rfl, z⟩ := z
  refine ⟨S, hS, rfl, rfl, z.bnd fun a S1 es1 g1 _ q1 x rx => ?_⟩
  have q2 := q1.vfrom hS g1 es1
  show rSortRev X.K [x] [.bl true] S1.H Q
  unfold app1 ofO sortRevP at q2
  cases e1 : a.get S1.ρ with
  | none => simp only [e1] at q2; exact q2.elim
  | some d =>
    cases e2 : d.ints? with
    | none => simp only [e1, e2] at q2; exact q2.elim
    | some ns =>
      simp only [e1, e2] at q2
      obtain ⟨b, rfl, z⟩ := ints_of e2 (opn_of g1.rel rx e1)
      refine ⟨b, ns, rfl, rfl, z, fun ns' p h1 h2 hp => ?_⟩
      rw [rev_unique (h1.trans (isort_perm ns).symm) h2 (isort_sorted ns)]
      exact (fin_of q2).newL g1.rel (RepL.of_ints _) p hp
end

/-! ### max, min, any of a list -/
theorem maxI_ok : ∀ (r : List Int) (m : Int), maxI m r ∈ m :: r ∧ ∀ y ∈ m :: r, y ≤ maxI m r
  | [], m => ⟨by simp [maxI], fun y hy => by simp at hy; subst hy; exact Int.le_refl _⟩
  | i :: r, m => by
    obtain ⟨h1, h2⟩ := maxI_ok r (if i > m then i else m)
    unfold maxI
    refine ⟨?_, fun y hy => ?_⟩
    · rcases List.mem_cons.mp h1 with e | h1
      · rw [e]
        split
        · simp
        · simp
      · exact List.mem_cons_of_mem _ (List.mem_cons_of_mem _ h1)
    · have h3 := h2 _ (List.mem_cons_self ..)
      rcases List.mem_cons.mp hy with rfl | hy
      · exact Int.le_trans (by split <;> omega) h3
      · rcases List.mem_cons.mp hy with rfl | hy
        · exact Int.le_trans (by split <;> omega) h3
        · exact h2 y (List.mem_cons_of_mem _ hy)
theorem minI_ok : ∀ (r : List Int) (m : Int), minI m r ∈ m :: r ∧ ∀ y ∈ m :: r, minI m r ≤ y
  | [], m => ⟨by simp [minI], fun y hy => by simp at hy; subst hy; exact Int.le_refl _⟩
  | i :: r, m => by
    obtain ⟨h1, h2⟩ := minI_ok r (if i < m then i else m)
    unfold minI
    refine ⟨?_, fun y hy => ?_⟩
    · rcases List.mem_cons.mp h1 with e | h1
      · rw [e]
        split
        · simp
        · simp
      · exact List.mem_cons_of_mem _ (List.mem_cons_of_mem _ h1)
    · have h3 := h2 _ (List.mem_cons_self ..)
      rcases List.mem_cons.mp hy with rfl | hy
      · exact Int.le_trans h3 (by split <;> omega)
      · rcases List.mem_cons.mp hy with rfl | hy
        · exact Int.le_trans h3 (by split <;> omega)
        · exact h2 y (List.mem_cons_of_mem _ hy)
/-- max, min of a list or a tuple of ints -/
def rMaxA (K : PySem.W.Frag) : List V → Hp → VK → Prop := fun vs H Q => ∃ (a : Addr) (ns : List Int), vs = [V.ref a] ∧ (SqL K H a (ns.map V.int) ∨ SqT K H a (ns.map V.int)) ∧ 0 < ns.length ∧ ∀ m, m ∈ ns → (∀ y, y ∈ ns → y ≤ m) → Q (.int m) H
def rMinA (K : PySem.W.Frag) : List V → Hp → VK → Prop := fun vs H Q => ∃ (a : Addr) (ns : List Int), vs = [V.ref a] ∧ (SqL K H a (ns.map V.int) ∨ SqT K H a (ns.map V.int)) ∧ 0 < ns.length ∧ ∀ m, m ∈ ns → (∀ y, y ∈ ns → m ≤ y) → Q (.int m) H
omit [Tabs] in
theorem items_int {ns : List Int} {its : List Value} (rv : Vals (ns.map V.int) its) (i : Nat) (v : Value) (e : its.toArray[i]? = some v) : ∃ t, v = Value.int (ns.getD i 0) t := by
  have e' : its[i]? = some v := by simpa using e
  cases en : ns[i]? with
  | none =>
    have : its[i]? = none := Vals.none_of rv (by rw [List.getElem?_map, en]; rfl)
    rw [e'] at this; cases this
  | some n =>
    obtain ⟨u, e1, r1⟩ := Vals.get rv (show (ns.map V.int)[i]? = some (V.int n) by rw [List.getElem?_map, en]; rfl)
    rw [e'] at e1; cases e1
    obtain ⟨t, rfl⟩ := r1
    exact ⟨t, by rw [List.getD_eq_getElem?_getD, en]; rfl⟩
omit [Tabs] in
theorem getD_in {ns : List Int} {j : Nat} (h : j < ns.length) : ns.getD j 0 ∈ ns := by
  rw [List.getD_eq_getElem?_getD, List.getElem?_eq_getElem h]
  exact List.getElem_mem h
theorem cr_maxA {X : Cx} (hc : X.calm = true) : CallR X (.builtin "max") (rMaxA X.K) := by
  intro pins s σ H vs us Q I r h
  obtain ⟨a, ns, rfl, hs, hne, q⟩ := h
  rcases hs with hs | hs
  · exact cr_max hc pins s σ H [.ref a] us Q I r ⟨a, ns, rfl, hs, hne, q⟩
  · obtain ⟨its, rv, ht, hz⟩ := I.tuple hs
    have hlt := ht.lt
    rw [Vals.ref1 r]
    have el : its.toArray.size = ns.length := by rw [List.size_toArray, ← rv.length, List.length_map]
    refine call_max_walk (wpAny_pyIter_tuple (show s.heap.IsTuple a its.toArray from ht) ?_)
    refine ⟨_, _, _, _, _, _, _, rfl, Walks.tuple (A := X.A.in1) (I.ok.hd hc) _ a (Nat.ne_of_lt hlt) its.toArray, ⟨⟨_, Heap.get?_push_size _ rfl, rfl, rfl⟩, ht.push _⟩, fun b hb => ?_, by rw [el]; exact hne, CmpOf.ints_gt (fun i => ns.getD i 0) (fun i v e => items_int rv i v e), fun v h' tk hP hk => ?_⟩
    · show b < (s.heap.push _).objs.size
      rw [Heap.size_push]
      rcases List.mem_cons.mp hb with rfl | hb
      · exact Nat.lt_succ_self _
      · rcases List.mem_cons.mp hb with rfl | hb
        · exact Nat.lt_succ_of_lt hlt
        · cases hb
    · obtain ⟨t, rfl⟩ := items_int rv _ _ hP
      obtain ⟨h1, h2⟩ := argBest_gt (fun i => ns.getD i 0) (its.toArray.size - 1)
      refine ⟨.int _, H, I.kept fun b o eo => hk b o (fun hm => ?_) (Heap.get?_push_of_some _ eo), ⟨_, rfl⟩, q _ (getD_in (by omega)) fun y hy => ?_⟩
      · rcases List.mem_cons.mp hm with e1 | hm
        · exact absurd (e1 ▸ Heap.lt_size eo) (Nat.lt_irrefl _)
        · cases hm
      · obtain ⟨j, hj, e⟩ := List.getElem_of_mem hy
        have h3 := h2 j (by omega)
        rw [show y = ns.getD j 0 by rw [List.getD_eq_getElem?_getD, List.getElem?_eq_getElem hj]; exact e.symm]
        exact h3
theorem cr_minA {X : Cx} (hc : X.calm = true) : CallR X (.builtin "min") (rMinA X.K) := by
  intro pins s σ H vs us Q I r h
  obtain ⟨a, ns, rfl, hs, hne, q⟩ := h
  rcases hs with hs | hs
  · exact cr_min hc pins s σ H [.ref a] us Q I r ⟨a, ns, rfl, hs, hne, q⟩
  · obtain ⟨its, rv, ht, hz⟩ := I.tuple hs
    have hlt := ht.lt
    rw [Vals.ref1 r]
    have el : its.toArray.size = ns.length := by rw [List.size_toArray, ← rv.length, List.length_map]
    refine call_min_walk (wpAny_pyIter_tuple (show s.heap.IsTuple a its.toArray from ht) ?_)
    refine ⟨_, _, _, _, _, _, _, rfl, Walks.tuple (A := X.A.in1) (I.ok.hd hc) _ a (Nat.ne_of_lt hlt) its.toArray, ⟨⟨_, Heap.get?_push_size _ rfl, rfl, rfl⟩, ht.push _⟩, fun b hb => ?_, by rw [el]; exact hne, CmpOf.ints_lt (fun i => ns.getD i 0) (fun i v e => items_int rv i v e), fun v h' tk hP hk => ?_⟩
    · show b < (s.heap.push _).objs.size
      rw [Heap.size_push]
      rcases List.mem_cons.mp hb with rfl | hb
      · exact Nat.lt_succ_self _
      · rcases List.mem_cons.mp hb with rfl | hb
        · exact Nat.lt_succ_of_lt hlt
        · cases hb
    · obtain ⟨t, rfl⟩ := items_int rv _ _ hP
      obtain ⟨h1, h2⟩ := argBest_lt (fun i => ns.getD i 0) (its.toArray.size - 1)
      refine ⟨.int _, H, I.kept fun b o eo => hk b o (fun hm => ?_) (Heap.get?_push_of_some _ eo), ⟨_, rfl⟩, q _ (getD_in (by omega)) fun y hy => ?_⟩
      · rcases List.mem_cons.mp hm with e1 | hm
        · exact absurd (e1 ▸ Heap.lt_size eo) (Nat.lt_irrefl _)
        · cases hm
      · obtain ⟨j, hj, e⟩ := List.getElem_of_mem hy
        have h3 := h2 j (by omega)
        rw [show y = ns.getD j 0 by rw [List.getD_eq_getElem?_getD, List.getElem?_eq_getElem hj]; exact e.symm]
        exact h3
def maxA : List D → Option Vl
  | [d] => match d.ints? with
    | some (i :: r) => some (.fz (.int (maxI i r)))
    | _ => none
  | _ => none
def minA : List D → Option Vl
  | [d] => match d.ints? with
    | some (i :: r) => some (.fz (.int (minI i r)))
    | _ => none
  | _ => none
section
variable {K : PySem.W.Frag} {mg : MgT}
theorem p_max : PN K mg (rMaxA K) maxA := fun S ds vs a Q hS h o f => by
  match ds, h, o with
  | [d], h, .cons (v := v) o .nil =>
    unfold maxA at h
    cases e : d.ints? with
    | none => simp only [e] at h; cases h
    | some ns =>
     cases ns with
     | nil => simp only [e] at h; cases h
     | cons i r =>
      simp only [e] at h
      cases h
      obtain ⟨b, rfl, z⟩ := ints_of e o
      refine ⟨b, i :: r, rfl, z, by simp, fun m h2 h3 => ?_⟩
      obtain ⟨k1, k2⟩ := maxI_ok r i
      rw [show m = maxI i r from Int.le_antisymm (k2 m h2) (h3 _ k1)]
      exact f.d hS (.int _)
theorem p_min : PN K mg (rMinA K) minA := fun S ds vs a Q hS h o f => by
  match ds, h, o with
  | [d], h, .cons (v := v) o .nil =>
    unfold minA at h
    cases e : d.ints? with
    | none => simp only [e] at h; cases h
    | some ns =>
     cases ns with
     | nil => simp only [e] at h; cases h
     | cons i r =>
      simp only [e] at h
      cases h
      obtain ⟨b, rfl, z⟩ := ints_of e o
      refine ⟨b, i :: r, rfl, z, by simp, fun m h2 h3 => ?_⟩
      obtain ⟨k1, k2⟩ := minI_ok r i
      rw [show m = minI i r from Int.le_antisymm (h3 _ k1) (k2 m h2)]
      exact f.d hS (.int _)
def bls? : List D → Option (List Bool)
  | [] => some []
  | .bl b :: r => match bls? r with
    | some bs => some (b :: bs)
    | none => none
  | _ :: _ => none
theorem bls_map : ∀ {xs : List D} {bs : List Bool}, bls? xs = some bs → xs = bs.map .bl
  | [], _, h => by cases h; rfl
  | .bl b :: r, bs, h => by
    unfold bls? at h
    cases e : bls? r with
    | none => simp only [e] at h; cases h
    | some cs => simp only [e] at h; cases h; rw [bls_map e]; rfl
  | .non :: _, _, h => by cases h
  | .int _ :: _, _, h => by cases h
  | .str _ :: _, _, h => by cases h
  | .lst _ :: _, _, h => by cases h
  | .tup _ :: _, _, h => by cases h
  | .scr _ :: _, _, h => by cases h
  | .err _ _ :: _, _, h => by cases h
def anyP : List D → Option Vl
  | [.lst xs] => match bls? xs with
    | some bs => some (.fz (.bl (bs.any id)))
    | none => none
  | _ => none
def allP : List D → Option Vl
  | [.lst xs] => match bls? xs with
    | some bs => some (.fz (.bl (bs.all id)))
    | none => none
  | _ => none
theorem p_any : PN K mg (rAny K) anyP := fun S ds vs a Q hS h o f => by
  match ds, h, o with
  | [.lst xs], h, .cons (v := v) o .nil =>
    unfold anyP at h
    cases e : bls? xs with
    | none => simp only [e] at h; cases h
    | some bs =>
      simp only [e] at h
      cases h
      rw [bls_map e] at o
      obtain ⟨b, ws, rfl, h1, rr⟩ := o
      rw [rr.bls] at h1
      exact ⟨b, bs, rfl, .inl (.inl h1), f.d hS (.bl _)⟩
theorem p_all : PN K mg (rAll K) allP := fun S ds vs a Q hS h o f => by
  match ds, h, o with
  | [.lst xs], h, .cons (v := v) o .nil =>
    unfold allP at h
    cases e : bls? xs with
    | none => simp only [e] at h; cases h
    | some bs =>
      simp only [e] at h
      cases h
      rw [bls_map e] at o
      obtain ⟨b, ws, rfl, h1, rr⟩ := o
      rw [rr.bls] at h1
      exact ⟨b, bs, rfl, .inl (.inl h1), f.d hS (.bl _)⟩
end
end KL
end

section
set_option Elab.async false
set_option linter.all false
set_option maxRecDepth 100000
namespace KL
open PySem L2
variable [Tabs]

/-! ### slices -/
def cutD {α : Type} (xs : List α) (lo hi : Option Int) : List α := (xs.drop (HT.sIx xs.length 0 lo)).take (HT.sIx xs.length xs.length hi - HT.sIx xs.length 0 lo)
def slP (d : D) (lo hi : Option Int) : Option Vl := match d with
  | .lst xs => some (.fr (cutD xs lo hi))
  | .tup xs => some (.fz (.tup (cutD xs lo hi)))
  | .str x => if x.length ≤ 1000000 then some (.fz (.str (cutS x lo hi))) else none
  | _ => none
def ptN : M (Option Int) := fun ρ => .ok none ρ
def ptS (f : M Od) : M (Option Int) := fun ρ => bnd (f ρ) fun a ρ1 => match a.get ρ1 with
  | some (.int i) => .ok (some i) ρ1
  | _ => .bad
def slE (f : M Od) (lo hi : M (Option Int)) : M Vl := fun ρ => bnd (f ρ) fun a ρ1 => bnd (lo ρ1) fun l ρ2 => bnd (hi ρ2) fun u ρ3 => match a.get ρ3 with
  | some d => ofO (slP d l u) ρ3
  | none => .bad
section
variable (K : PySem.W.Frag) (mg : MgT) (Wi : WX)
def TP_ (f : M (Option Int)) : St → Hp → (Option Int → Hp → Prop) → Prop := fun σ H Q => ∃ S : Sx, S.rel K mg ∧ S.σ = σ ∧ S.H = H ∧ Sat K mg Wi S (fun a S' => Q a S'.H) (f S.ρ)
end
structure RPo (X : Cx) (e : Option Expr) (f : M (Option Int)) : Prop where
  run : ∀ Wi, Takes X Wi → PO X e (TP_ X.K X.mg Wi f)
theorem po_imp {X : Cx} {e : Option Expr} {t t' : TO} (h : PO X e t) (k : ∀ σ H Q, t' σ H Q → t σ H Q) : PO X e t' := ⟨fun pins s σ H Q I q => h.run pins s σ H Q I (k σ H Q q)⟩
section
variable {X : Cx} {e : Expr} {lo hi : Option Expr} {f : M Od} {fl fh : M (Option Int)} {p2 pos : Pos}
theorem rpo_none : RPo X none ptN := ⟨fun Wi tk => po_imp po_none fun σ H Q q => by
  obtain ⟨S, hS, rfl, rfl, q⟩ := q
  exact q S rfl rfl (Go.refl hS)⟩
theorem rpo_some (h : RO X e f) : RPo X (some e) (ptS f) := ⟨fun Wi tk => po_imp (po_some (h.run Wi tk)) fun σ H Q q => by
  obtain ⟨S, hS, rfl, rfl, q⟩ := q
  refine ⟨S, hS, rfl, rfl, q.bnd fun a S1 es1 g1 _ q1 x rx => ?_⟩
  cases e1 : a.get S1.ρ with
  | none => simp only [e1] at q1; exact q1.elim
  | some d =>
    cases d with
    | int i =>
      simp only [e1] at q1
      cases Opn.int (opn_of g1.rel rx e1)
      exact ⟨i, rfl, q1 S1 rfl es1 g1⟩
    | _ => simp only [e1] at q1; exact q1.elim⟩
theorem cut_rep {K : PySem.W.Frag} {mg : MgT} {H : Hp} {B : Ad} {xs : List D} {vs : List V} (r : RepL K mg H B xs vs) (lo hi : Option Int) : RepL K mg H B (cutD xs lo hi) (cutV vs lo hi) := by
  unfold cutD cutV
  rw [r.length]
  exact (r.drop _).take _
theorem re_slice (he : RO X e f) (hl : RPo X lo fl) (hh : RPo X hi fh) : RE X (.Subscript e (.Slice lo hi none p2) pos) (slE f fl fh) := by
  refine ⟨fun Wi tk => pe_imp (pe_slice ((sl_list (X := X)).or ((sl_tupF (X := X)).or (sl_str (X := X)))) (he.run Wi tk) (hl.run Wi tk) (hh.run Wi tk)) fun σ H Q q => ?_⟩
  obtain ⟨S, hS, rfl, rfl, q⟩ := q
  refine ⟨S, hS, rfl, rfl, q.bnd fun a S1 es1 g1 _ q1 x rx => ?_⟩
  refine ⟨S1, g1.rel, es1, rfl, (q1.vfrom hS g1 es1).bnd fun l S2 es2 g2 _ q2 => ?_⟩
  have es2' : S2.σ = S.σ := es2.trans es1
  refine ⟨S2, g2.rel, es2', rfl, (q2.vfrom g1.rel g2 es2).bnd fun u S3 es3 g3 _ q3 => ?_⟩
  have q4 := q3.vfrom g2.rel g3 es3
  have rx3 := (rx.later g1.rel es2 g2).later g2.rel es3 g3
  have h3 := g3.rel
  cases e1 : a.get S3.ρ with
  | none => simp only [e1] at q4; exact q4.elim
  | some d =>
    simp only [e1] at q4
    unfold ofO at q4
    have o := opn_of h3 rx3 e1
    cases d with
    | lst xs =>
      simp only [slP] at q4
      obtain ⟨b, ws, rfl, h1, r⟩ := o
      exact .inl ⟨b, ws, rfl, .inl (.inl h1), (fin_of q4).newL h3 (cut_rep r l u)⟩
    | tup xs =>
      simp only [slP] at q4
      have o' : Rep X.K X.mg S3.H S3.B (.tup xs) x := o
      obtain ⟨b, ws, rfl, h1, r⟩ := Opn.tup o
      refine .inr (.inl ⟨b, ws, rfl, h1, fun hw => ?_, fun _ => (fin_of q4).newT h3 (cut_rep r l u)⟩)
      have e2 : cutD xs l u = xs := by
        unfold cutD
        rw [r.length, hw.1, hw.2, List.drop_zero, Nat.sub_zero, ← r.length]
        exact List.take_of_length_le (Nat.le_refl _)
      rw [e2] at q4
      exact (fin_of q4).d h3 o'
    | str z =>
      simp only [slP] at q4
      by_cases c : z.length ≤ 1000000
      · simp only [if_pos c] at q4
        cases Opn.str o
        exact .inr (.inr ⟨z, rfl, big_ok c, (fin_of q4).d h3 (.str _)⟩)
      · simp only [if_neg c] at q4; exact q4.elim
    | _ => simp only [slP] at q4; exact q4.elim
def revP : D → Option Vl
  | .lst xs => some (.fr xs.reverse)
  | .tup xs => some (.fz (.tup xs.reverse))
  | _ => none
theorem re_rev {k : Nat} {p1 p3 p4 : Pos} (he : RO X e f) : RE X (.Subscript e (.Slice none none (some (.UnaryOp .USub (.Constant (.int 1) k p1) p3)) p4) pos) (un1 revP f) := by
  refine ⟨fun Wi tk => pe_imp (pe_revA (he.run Wi tk)) fun σ H Q q => ?_⟩
  obtain ⟨S, hS, rfl, rfl, q⟩ := q
  refine ⟨S, hS, rfl, rfl, q.bnd fun a S1 es1 g1 _ q1 x rx => ?_⟩
  have q2 := q1.vfrom hS g1 es1
  unfold app1 ofO at q2
  cases e1 : a.get S1.ρ with
  | none => simp only [e1] at q2; exact q2.elim
  | some d =>
    simp only [e1] at q2
    have o := opn_of g1.rel rx e1
    cases d with
    | lst xs =>
      simp only [revP] at q2
      obtain ⟨b, ws, rfl, h1, r⟩ := o
      exact ⟨b, ws, rfl, .inl ⟨.inl (.inl h1), (fin_of q2).newL g1.rel r.reverse⟩⟩
    | tup xs =>
      simp only [revP] at q2
      obtain ⟨b, ws, rfl, h1, r⟩ := Opn.tup o
      exact ⟨b, ws, rfl, .inr ⟨h1, (fin_of q2).newT g1.rel r.reverse⟩⟩
    | _ => simp only [revP] at q2; exact q2.elim
end
end KL
end

section
set_option Elab.async false
set_option linter.all false
set_option maxRecDepth 100000
namespace KL
open PySem L2
variable [Tabs]

/-! ### list(range(..)) -/
def lrg1 (f : M Od) : M Vl := fun ρ => bnd (f ρ) fun a ρ1 => match a.get ρ1 with
  | some (.int j) => if (okR j && decide (j ≤ 1000000)) = true then .ok (.fr (rangeL 0 (j - 0).toNat)) ρ1 else .bad
  | _ => .bad
def lrg2 (f g : M Od) : M Vl := fun ρ => bnd (f ρ) fun a ρ1 => bnd (g ρ1) fun b ρ2 => match a.get ρ2 with
  | some (.int i) => (match b.get ρ2 with
    | some (.int j) => if (okR i && okR j && decide (j - i ≤ 1000000)) = true then .ok (.fr (rangeL i (j - i).toNat)) ρ2 else .bad
    | _ => .bad)
  | _ => .bad
section
variable {X : Cx} {a b : Expr} {f g : M Od} {p q pos pos' : Pos}
theorem rangeL_rep {K : PySem.W.Frag} {mg : MgT} {H : Hp} {B : Ad} (lo hi : Int) : RepL K mg H B (rangeL lo (hi - lo).toNat) (rgV lo hi) := by
  have e1 : rangeL lo (hi - lo).toNat = ((List.range (hi - lo).toNat).map fun k => lo + (k : Nat)).map D.int := by unfold rangeL; rw [List.map_map]; rfl
  have e2 : rgV lo hi = ((List.range (hi - lo).toNat).map fun k => lo + (k : Nat)).map V.int := by unfold rgV; rw [List.map_map]; rfl
  rw [e1, e2]
  exact RepL.of_ints _
theorem okR_le {i : Int} (h : okR i = true) : -1000000000 < i ∧ i < 1000000000 := by
  unfold okR at h
  simp only [Bool.and_eq_true, decide_eq_true_eq] at h
  exact h
theorem rg_ok {i j : Int} (h1 : okR i = true) (h2 : okR j = true) (h3 : j - i ≤ 1000000) : RgOk i j := by
  have a := okR_le h1
  have b := okR_le h2
  exact ⟨by omega, by omega, by omega, by omega, by omega⟩
theorem re_lrg1 (ha : RO X a f) (hc : X.calm = true) (hl : Gl X "list") (hml : X.mg "list" = none) (hg : Gl X "range") (hm : X.mg "range" = none) (he : starEach [.Call (.Name "range" q) [a] [] pos'] X.env = (false, eval (.Call (.Name "range" q) [a] [] pos') X.env) :: starEach [] X.env := by rfl)
    (he2 : starEach [a] X.env = (false, eval a X.env) :: starEach [] X.env := by rfl) : RE X (.Call (.Name "list" p) [.Call (.Name "range" q) [a] [] pos'] [] pos) (lrg1 f) := by
  refine ⟨fun Wi tk => pe_imp (pe_listRg hc hl hml (prg_1 hg hm (ha.run Wi tk) he2) he) fun σ H Q z => ?_⟩
  obtain ⟨S, hS, rfl, rfl, z⟩ := z
  refine ⟨S, hS, rfl, rfl, z.bnd fun o S1 es1 g1 _ q1 x rx => ?_⟩
  have q2 := q1.vfrom hS g1 es1
  cases e1 : o.get S1.ρ with
  | none => simp only [e1] at q2; exact q2.elim
  | some d =>
    cases d with
    | int j =>
      simp only [e1] at q2
      by_cases c : (okR j && decide (j ≤ 1000000)) = true
      · rw [if_pos c] at q2
        simp only [Bool.and_eq_true, decide_eq_true_eq] at c
        cases Opn.int (opn_of g1.rel rx e1)
        exact ⟨j, rfl, rg_ok (by decide) c.1 (by omega), (fin_of q2).newL g1.rel (rangeL_rep 0 j)⟩
      · rw [if_neg c] at q2; exact q2.elim
    | _ => simp only [e1] at q2; exact q2.elim
theorem re_lrg2 (ha : RO X a f) (hb : RO X b g) (hc : X.calm = true) (hl : Gl X "list") (hml : X.mg "list" = none) (hg : Gl X "range") (hm : X.mg "range" = none) (he : starEach [.Call (.Name "range" q) [a, b] [] pos'] X.env = (false, eval (.Call (.Name "range" q) [a, b] [] pos') X.env) :: starEach [] X.env := by rfl)
    (na : starEach [a, b] X.env = (false, eval a X.env) :: starEach [b] X.env := by rfl) (nb : starEach [b] X.env = (false, eval b X.env) :: starEach [] X.env := by rfl) (hp : (backTo pos' (starEach [b] X.env)).any (·.1) = false := by rfl) :
    RE X (.Call (.Name "list" p) [.Call (.Name "range" q) [a, b] [] pos'] [] pos) (lrg2 f g) := by
  refine ⟨fun Wi tk => pe_imp (pe_listRg hc hl hml (prg_2 hg hm (ha.run Wi tk) (hb.run Wi tk) na nb hp) he) fun σ H Q z => ?_⟩
  obtain ⟨S, hS, rfl, rfl, z⟩ := z
  refine ⟨S, hS, rfl, rfl, z.bnd fun o S1 es1 g1 _ q1 x rx => ?_⟩
  refine ⟨S1, g1.rel, es1, rfl, (q1.vfrom hS g1 es1).bnd fun o2 S2 es2 g2 _ q2 y ry => ?_⟩
  have q3 := q2.vfrom g1.rel g2 es2
  have rx2 := rx.later g1.rel es2 g2
  cases e1 : o.get S2.ρ with
  | none => simp only [e1] at q3; exact q3.elim
  | some d =>
    cases d with
    | int i =>
      simp only [e1] at q3
      cases e2 : o2.get S2.ρ with
      | none => simp only [e2] at q3; exact q3.elim
      | some d2 =>
        cases d2 with
        | int j =>
          simp only [e2] at q3
          by_cases c : (okR i && okR j && decide (j - i ≤ 1000000)) = true
          · rw [if_pos c] at q3
            simp only [Bool.and_eq_true, decide_eq_true_eq] at c
            cases Opn.int (opn_of g2.rel rx2 e1)
            cases Opn.int (opn_of g2.rel ry e2)
            exact ⟨i, j, rfl, rfl, rg_ok c.1.1 c.1.2 c.2, (fin_of q3).newL g2.rel (rangeL_rep i j)⟩
          · rw [if_neg c] at q3; exact q3.elim
        | _ => simp only [e2] at q3; exact q3.elim
    | _ => simp only [e1] at q3; exact q3.elim
end
end KL
end

section
set_option Elab.async false
set_option linter.all false
set_option maxRecDepth 100000
namespace KL
open PySem L2
variable [Tabs]

/-! ### f(k = v, ..) alone -/
section
variable {X : Cx} {k : Nat} {f : Addr} {fd : FuncData} {ps ks : List Str} {fm : M Vl} {np : Nat} {x : Str} {p pos : Pos} {kws : List Keyword} {gg : List Value → List Value → List Value} {gV : List V → List V → List V}
theorem re_callK0 {m : Nat} {gk : M (List Od)} {gD : List D → List D → List D} (F : FnG X.prog X.w X.K X.mg X.base (L2.CX X.prog X.w) k f fd ps (spF X.K X.mg np false fm)) (hr : RoomG k X.A) (hg : Gl X x) (hm : X.mg x = some (.ref f)) (hk : PySem.W.keepIn X.K (.ref f) = true) (hb : KBn X.K fd ps 0 ks gg gV)
    (hD : ∀ H B ds vs zs us, RepL X.K X.mg H B ds vs → RepL X.K X.mg H B zs us → ds.length = 0 → zs.length = ks.length → RepL X.K X.mg H B (gD ds zs) (gV vs us))
    (hkw : RK X kws gk) (hml : m = ks.length := by rfl) (hall : (backToKw pos (keywordEach kws X.env)).all (·.1.isSome) = true := by rfl) (hks : (backToKw pos (keywordEach kws X.env)).filterMap (·.1) = ks := by rfl)
    (hdb : (x == ("__debug__" : Str)) = false := by decide) (hpl : ((backTo pos (starEach [] X.env)).any (·.1) || (backToKw pos (keywordEach kws X.env)).any (·.1.isNone)) = false := by rfl) :
    RE X (.Call (.Name x p) [] kws pos) (callK np 0 m fm gD aNil gk) := by
  subst hml
  refine ⟨fun Wi tk => ⟨fun pins s σ H Q I q => ?_⟩⟩
  obtain ⟨S, hS, rfl, rfl, q⟩ := q
  refine wpAny_Call_Name_kw (ld_glob I hg hm ?_ hdb)
  have q0 : Sat X.K X.mg Wi S (fun a S' => ∀ v, RepV X.K X.mg S S' a v → Q v S'.H) (bnd (gk S.ρ) fun kos ρ2 => match vals? kos with
    | some zs => if ([] : List D).length = 0 ∧ zs.length = ks.length ∧ (gD [] zs).length = np then back (fm (vaL (gD [] zs))) ρ2 else .bad
    | none => .bad) := q
  have step := (hkw.run Wi tk).run pos pins s S.σ S.H (fun us H2 => us.length = ks.length ∧ spF X.K X.mg np false fm (gV [] us) H2 Q (WE Wi S.σ)) I ⟨S, hS, rfl, rfl, q0.bnd fun kos S2 es2 g2 _ q2 us ru => by
    cases e2 : vals? kos with
    | none => simp only [e2] at q2; exact q2.elim
    | some zs =>
      simp only [e2] at q2
      by_cases c : ([] : List D).length = 0 ∧ zs.length = ks.length ∧ (gD [] zs).length = np
      · rw [if_pos c] at q2
        have r2 := vals_rep ru e2
        have r := hD _ _ _ _ _ _ .nil r2 c.1 c.2.1
        have q3 := callV_sat (np := np) g2.rel r (by rw [← r.length]; exact c.2.2) (q2.vfrom hS g2 es2)
        rw [← es2]
        exact ⟨by rw [← r2.length]; exact c.2.1, q3⟩
      · rw [if_neg c] at q2; exact q2.elim⟩
  refine PySem.W.callWith_KW0 (h₀ := X.base) I.ok.mod.kin hk hall (thn step fun ws s2 ⟨zs, H2, I2, rz, l2, q2⟩ => ⟨I2.kIn, ?_⟩) hpl
  rw [hks]
  exact run_fnNS F hr hb (passAt tk S.σ) I2 .nil rz rfl l2 q2
end

/-! ### facts of a law's head -/
theorem room_gen {k : Nat} {A : Around} (h : Room (k + 3) A) (env : PySem.Env) : Room k (A.in1.in1.deeper env) := h.in1.in1.deeper env
theorem room_genG {k : Nat} {A : Around} (h : RoomG (k + 3) A) (env : PySem.Env) : RoomG k (A.in1.in1.deeper env) := h.in1.in1.deeper env
/-- an own class of error without __init__ -/
structure ErrK (K : PySem.W.Frag) (mg : MgT) (x : Str) : Prop where
  ex : ∃ C, mg x = some (.ref C) ∧ PySem.W.excIn K C He.veBase "ValueError.__new__" = true ∧ PySem.W.keepIn K (.ref C) = true ∧ PySem.W.subIn K (.ref C) (.type "BaseException") = some true ∧ PySem.W.typeIn K (.ref C) = some (.type "type")
theorem rs_raiseE {X : Cx} {c m : Str} {j : Nat} {p p2 pos pos' : Pos} (hc : X.calm = true) (e : ErrK X.K X.mg c) (hg : Gl X c) (hdb : (c == ("__debug__" : Str)) = false := by decide) : RS X (.Raise (some (.Call (.Name c p) [.Constant (.str m) j p2] [] pos)) none pos') (raise0 c) := by
  obtain ⟨C, h1, h2, h3, h4, h5⟩ := e.ex
  exact rs_raise0 hc PySem.F.excBase_ValueError h2 h1 h3 (raises_own h4 h5) hg hdb
omit [Tabs] in
/-- isinstance's answer for a value of data: n the class's name -/
def tyB (n : String) (t : String) : Option Bool := if t = "NoneType" ∨ t = "bool" ∨ t = "int" ∨ t = "str" ∨ t = "list" ∨ t = "tuple" then some (decide (t = n) || (decide (t = "bool") && decide (n = "int"))) else none
omit [Tabs] in
theorem tyB_ok {K : PySem.W.Frag} {n : String} (hn : n = "int" ∨ n = "bool" ∨ n = "tuple" ∨ n = "list" ∨ n = "str") : ∀ t b, tyB n t = some b → PySem.W.kitOne K (.type t) (.type n) = some b := fun t b h => by
  unfold tyB at h
  split at h
  · rename_i ht
    have h := Option.some.inj h
    rcases hn with rfl | rfl | rfl | rfl | rfl <;> rcases ht with rfl | rfl | rfl | rfl | rfl | rfl <;> (subst h; exact kit_ty (by decide +kernel))
  · cases h
def noK : Str → Option Bool := fun _ => none
theorem noK_ok {K : PySem.W.Frag} {mg : MgT} {u : Value} : ∀ (x : Str) (C : Addr) (b : Bool), mg x = some (.ref C) → noK x = some b → PySem.W.kitOne K (.ref C) u = some b ∧ ExcC K C := fun _ _ _ _ h => by cases h
/-- isinstance(e, T), T a built-in type, no exceptions -/
theorem re_isiT {X : Cx} {e : Expr} {f : M Od} {n : Str} {T : String} {q cp pos : Pos} (hn : T = "int" ∨ T = "bool" ∨ T = "tuple" ∨ T = "list" ∨ T = "str") (ha : RO X e f) (hg : Gl X "isinstance") (hm : X.mg "isinstance" = none) (hgn : Gl X n) (hmn : X.mg n = none) (hv : bootBuiltins n = some (.type T) := by rfl) (hnn : n ≠ "__name__" := by decide) (hd : (n == ("__debug__" : Str)) = false := by decide)
    (hs : starEach [e, .Name n cp] X.env = (false, eval e X.env) :: starEach [.Name n cp] X.env := by rfl) (hs2 : starEach [.Name n cp] X.env = (false, eval (.Name n cp) X.env) :: starEach [] X.env := by rfl) (hpl : (backTo pos (starEach [.Name n cp] X.env)).any (·.1) = false := by rfl) :
    RE X (.Call (.Name "isinstance" q) [e, .Name n cp] [] pos) (un1 (isiP (tyB T) noK) f) :=
  re_isi ha (pe_bltn (v := .ty T) hgn hmn hv rfl hnn hd) (.ty T) (tyB_ok hn) noK_ok hg hm hs hs2 hpl
end KL
end

section
set_option Elab.async false
set_option linter.all false
set_option maxRecDepth 100000
namespace KL
open PySem L2

/-! ### keywords in another order -/
def permL {α : Type} (is : List Nat) (us ws : List α) : List α := us ++ is.filterMap (ws[·]?)
theorem permL_vals {is : List Nat} {vs zs : List V} {us ws : List Value} (r : Vals vs us) (q : Vals zs ws) : Vals (permL is vs zs) (permL is us ws) := by
  refine r.append ?_
  induction is with
  | nil => exact .nil
  | cons i is ih =>
    cases e : zs[i]? with
    | none =>
      have e2 : ws[i]? = none := Vals.none_of q e
      simp only [List.filterMap_cons, e, e2]
      exact ih
    | some z =>
      obtain ⟨u, e2, h⟩ := Vals.get q e
      simp only [List.filterMap_cons, e, e2]
      exact .cons h ih
theorem permL_rep {K : PySem.W.Frag} {mg : MgT} {H : Hp} {B : Ad} {is : List Nat} {ds zs : List D} {vs us : List V} (r : RepL K mg H B ds vs) (q : RepL K mg H B zs us) : RepL K mg H B (permL is ds zs) (permL is vs us) := by
  refine r.append ?_
  induction is with
  | nil => exact .nil
  | cons i is ih =>
    cases e : zs[i]? with
    | none =>
      have e2 : us[i]? = none := by
        rw [List.getElem?_eq_none_iff] at e ⊢
        rw [← q.length]; exact e
      simp only [List.filterMap_cons, e, e2]
      exact ih
    | some z =>
      obtain ⟨u, e2, h⟩ := q.get e
      simp only [List.filterMap_cons, e, e2]
      exact .cons h ih
theorem kbn0 {K : PySem.W.Frag} {x qual : Str} {params : Arguments} {body : List Stmt} {scope : Scope} {kws : List (Str × V)} {f : Addr} {fd : FuncData} {ps ks : List Str} (F : FunD K x qual params body scope [] kws f fd) (n : Nat) (is : List Nat)
    (h : ∀ (kV doc pm : Value) (an : Option Addr) (cdv ct : Value) (us ws : List Value), us.length = n → ws.length = ks.length → bindArgs (PySem.W.fnOf x qual params body scope .none kV doc pm an cdv ct) ⟨us, ks.zip ws⟩ = pure (ps.zip (permL is us ws))) : KBn K fd ps n ks (permL is) (permL is) := by
  obtain ⟨oc, od, dV, kV, doc, pm, an, cdv, ct, osl, rfl, lk, hcd, hD, hK⟩ := F.ex
  rcases hD with ⟨_, rfl⟩ | ⟨e, _⟩
  · exact ⟨fun s us ws _ h1 h2 => .of_eq (h kV doc pm an cdv ct us ws h1 h2), fun r q => permL_vals r q⟩
  · exact absurd rfl e
/-! ### a generator's scope, by one look -/
def genC (N : List Str) (sc scope : Scope) (own : List (Str × Nat)) : Bool := blkC N sc scope own && (scope.names.all (fun y => !(y.2 == .cell)) && (scope.names.lookup (".0" : Str) == some NameKind.local && !scope.isCoroutine))
theorem genC_ok {N : List Str} {sc scope : Scope} {own : List (Str × Nat)} (h : genC N sc scope own = true) : BlkOk N sc scope own ∧ (∀ y ∈ scope.names, y.2 ≠ .cell) ∧ scope.names.lookup (".0" : Str) = some NameKind.local ∧ scope.isCoroutine = false := by
  unfold genC at h
  simp only [Bool.and_eq_true, List.all_eq_true, Bool.not_eq_true', beq_iff_eq] at h
  exact ⟨blkOk_by h.1, fun y hy e => by
    have := h.2.1 y hy
    rw [e] at this
    exact absurd this (by decide), h.2.2.1, h.2.2.2⟩
section
variable [Tabs] {X : Cx} {pos p gpos : Pos}
theorem re_allB {c P : Addr} {elt tg iter : Expr} {scope : Scope} {fi : M (List D)} {ft : D → Env → Out} {fe : M Vl} {g : TG} {k : Nat} (own : List (Str × Nat)) (hP : Tabs.is P) (hc : X.calm = true) (hN : X.N.Nodup) (hr : Room k X.A) (hgl : Gl X "all") (hm : X.mg "all" = none) (TB : GxR.TabB X.base X.mg c P) (hcode : X.env.code = .ref c)
    (ok : genC X.N X.env.scope scope own = true) (hi : RI X tg iter fi)
    (hg : ∀ (s : Shared) (H : Hp) (C : Addr) (cd : Value) (fp : List Addr) (a : Addr) (ob : Obj), RG (genX X s H (genE X scope C cd) fp a ob) tg g ft) (he : ∀ (s : Shared) (H : Hp) (C : Addr) (cd : Value) (fp : List Addr) (a : Addr) (ob : Obj), RE (genX X s H (genE X scope C cd) fp a ob) elt fe) (hgo : GOnly g (own.map (·.2)))
    (hs : ∀ v, genFold iter X.env v = pure v := by intro _; rfl) (hst : starEach [.GeneratorExp elt [⟨tg, iter, [], 0⟩] scope gpos] X.env = (false, eval (.GeneratorExp elt [⟨tg, iter, [], 0⟩] scope gpos) X.env) :: starEach [] X.env := by rfl) :
    RE X (.Call (.Name "all" p) [.GeneratorExp elt [⟨tg, iter, [], 0⟩] scope gpos] [] pos) (allE (own.map (·.2)) fi ft fe) := by
  obtain ⟨h1, h2, h3, h4⟩ := genC_ok ok
  exact re_all hP hc hN hr hgl hm TB hcode h1 h2 h3 h4 hi hg he hgo hs hst
theorem re_lcB {elt tg iter : Expr} {ifs : List Expr} {scope : Scope} {fi : M (List D)} {ft : D → Env → Out} {fc : M Bool} {fe : M Vl} {g : TG} (own : List (Str × Nat)) (hc : X.calm = true) (hN : X.N.Nodup) (ok : blkC X.N X.env.scope scope own = true) (hi : RI X tg iter fi)
    (hg : ∀ (s : Shared) (H : Hp) (C : Addr) (cl : List (Str × Addr)) (fp : List Addr), RG (X.blk s H scope (compEnvC scope cl C X.env) fp) tg g ft) (ht : ∀ (s : Shared) (H : Hp) (C : Addr) (cl : List (Str × Addr)) (fp : List Addr), RTs (X.blk s H scope (compEnvC scope cl C X.env) fp) ifs fc)
    (he : ∀ (s : Shared) (H : Hp) (C : Addr) (cl : List (Str × Addr)) (fp : List Addr), RE (X.blk s H scope (compEnvC scope cl C X.env) fp) elt fe) (hgo : GOnly g (own.map (·.2))) (hs : ∀ x, foldedSetIterable iter X.env x = pure x := by intro _; rfl) :
    RE X (.ListComp elt [⟨tg, iter, ifs, 0⟩] scope pos) (lcE (own.map (·.2)) fi ft fc fe) := re_lc hc hN hi (blkOk_by ok) hg ht he hgo hs
theorem rs_setLcB {i : Nat} {y : Str} {py spos : Pos} {elt tg iter : Expr} {ifs : List Expr} {scope : Scope} {fi : M (List D)} {ft : D → Env → Out} {fc : M Bool} {fe : M Vl} {g : TG} (own : List (Str × Nat)) (hc : X.calm = true) (hN : X.N.Nodup) (hy : X.N[i]? = some y) (hyl : X.env.scope.names.lookup y = some .local) (ok : blkC X.N X.env.scope scope own = true) (hi : RI X tg iter fi)
    (hg : ∀ (s : Shared) (H : Hp) (C : Addr) (cl : List (Str × Addr)) (fp : List Addr), RG (X.blk s H scope (compEnvC scope cl C X.env) fp) tg g ft) (ht : ∀ (s : Shared) (H : Hp) (C : Addr) (cl : List (Str × Addr)) (fp : List Addr), RTs (X.blk s H scope (compEnvC scope cl C X.env) fp) ifs fc)
    (he : ∀ (s : Shared) (H : Hp) (C : Addr) (cl : List (Str × Addr)) (fp : List Addr), RE (X.blk s H scope (compEnvC scope cl C X.env) fp) elt fe) (hgo : GOnly g (own.map (·.2))) (hsw : swapsWith (.ListComp elt [⟨tg, iter, ifs, 0⟩] scope pos) (some (.Name y py)) spos.line X.env = pure true := by rfl) (hs : ∀ x, foldedSetIterable iter X.env x = pure x := by intro _; rfl) :
    RS X (.Assign [.Name y py] (.ListComp elt [⟨tg, iter, ifs, 0⟩] scope pos) spos) (setS i (lcE (own.map (·.2)) fi ft fc fe)) := rs_setLc hc hN hy hyl hi (blkOk_by ok) hg ht he hgo hsw hs
end
end KL
end

section
set_option Elab.async false
set_option linter.all false
set_option maxRecDepth 100000
namespace KL
open PySem L2

/-! ### the law's own promise -/
/-- the tables of these code objects -/
abbrev tabsOf (cs : List (Addr × Addr)) : Tabs := ⟨fun a => a ∈ cs.map (·.2)⟩
theorem law_sp {K : PySem.W.Frag} {mg : MgT} {cs : List (Addr × Addr)} {f : M Vl} {H : Hp} {a : Addr} {ns : List Int} (hT : ∀ p ∈ cs, H p.2 = some (.tbl #[])) (hs : SqL K H a (ns.map V.int)) (h : ∃ ρ, f [.va (.scr ns)] = .ok (.fz (.bl true)) ρ) :
    @spF (tabsOf cs) K mg 1 false f [.ref a] H (fun v _ => v = .bl true) fun _ _ _ => False := by
  letI := tabsOf cs
  obtain ⟨ρ, h⟩ := h
  have no : ∀ i b, ¬ OwnAt [.va (.scr ns)] [some (.ref a)] i b := fun i b ⟨⟨q, e1, e2⟩, _⟩ => by
    cases i with
    | zero => cases e1; cases e2
    | succ i => simp at e1
  refine ⟨rfl, ⟨fun _ => False, [.va (.scr ns)], [some (.ref a)], H⟩, ⟨rfl, fun i q e => ?_, fun i j b o _ => absurd o (no i b), fun b z => z.elim, fun b hb => ?_⟩, rfl, rfl, ⟨[.scr ns], rfl⟩, ?_⟩
  · cases i with
    | zero =>
      cases e
      refine ⟨.ref a, rfl, ?_⟩
      rcases hs with hs | hs
      · exact .scr (fun z => z) hs
      · exact .scrK fun _ => .inr hs
    | succ i => simp at e
  · obtain ⟨p, hp, e⟩ := List.mem_map.mp hb
    exact ⟨⟨#[], by rw [← e]; exact hT p hp, by trivial⟩, fun z => z⟩
  · show Sat K mg _ _ _ (f [.va (.scr ns)])
    rw [h]
    intro S' e1 e2 g v rv
    have rv : Rep K mg S'.H S'.B (.bl true) v := rv
    cases rv; rfl
end KL
namespace KL
open PySem PySem.Spec PyProof.Rows L2
/-- what is known of the law at the head's heap h -/
def LawAtG (l : PySem.W.OpenLaw) (w : World) (K : PySem.W.Frag) (CX : CXT) (k n : Nat) (x : Str) (mg : Str → Option Value) (fa : Addr) (h : Heap) : Prop :=
  ∃ (fd : FuncData) (cs : List (Addr × Addr)) (sp : Sp), (∀ p ∈ cs, h.get? p.2 = some { cls := .none, data := .fields #[] }) ∧ (∀ p ∈ cs, K.lookup p.2 = none) ∧ (∀ p ∈ cs, PySem.W.CodeHd h p.1 p.2) ∧
    (∀ (s : Shared) (u : Value), BindsTo s fd ⟨[u], []⟩ [(x, u)]) ∧
    (∀ (H : Hp) (a : Addr) (ns : List Int), ns.length ≤ n → (∀ z ∈ ns, Builtin.Int.intBits z ≤ 1048576) → (∀ p ∈ cs, H p.2 = some (.tbl #[])) → SqL K H a (ns.map V.int) → sp [.ref a] H (fun v _ => v = .bl true) fun _ _ _ => False) ∧
    ∀ base : Heap, K.In base → base.Ns mainGlobals mg → (∀ p ∈ cs, LamX.TabB base mg p.1 p.2) → FnG l.prog w K mg base CX k fa fd [x] sp
/-- a law's end over a head by facts, with tables -/
theorem walk_ofX {l : PySem.W.OpenLaw} {n k : Nat} {q : Program} {loose : List Str} {XP : (Str → Option Value) → Heap → Prop} {YP : World → Heap → Prop} {d : DefRec} {x : Str}
    (hn : l.most = some n) (hn2 : n ≤ sizeLine) (hdf : d.params.defaults = []) (hr : RoomG k callerA)
    (F : ∀ (w : World) (mg : Str → Option Value) (fa : Addr) (h : Heap), YP w h → h.Ns mainGlobals mg → mg d.name = some (.ref fa) → ∃ K : PySem.W.Frag, K.In h ∧ LawAtG l w K (L2.CX l.prog w) k n x mg fa h) :
    PySem.W.WalkO q loose XP YP l.row.toRowW d [] (fun f vs => PySem.call f vs) := by
  refine Att.attach_callB hn hdf fun w s₀ s₁ mg mb fa o pm cd doc a vs ns G Y ho hd hcd hmg hobj hints hlen hbits hg => ?_
  obtain ⟨K, KX, fd, cs, sp, hT, nT, C, hb, hsp, hF⟩ := F w mg fa _ Y G.T.g hmg
  refine law_callG KX G.T.g G.T.b G.T.builtins G.T.nolimit hg hT nT C G.T.bmain hobj hints (Nat.le_trans hlen hn2) hr hF hb (fun H hH hS => hsp H a ns hlen hbits hH hS) fun H e s' z => ?_
  obtain ⟨_, _, _, _, _, _, _, _, _, _, _, _, z⟩ := z
  exact z
theorem tab_g {base : Heap} {mg : Str → Option Value} {c P : Addr} (h : LamX.TabB base mg c P) : GxR.TabB base mg c P := ⟨h.code, h.bm, h.gP⟩
theorem code_is {K : PySem.W.Frag} {x qual : Str} {params : Arguments} {body : List Stmt} {scope : Scope} {dvs : List V} {kws : List (Str × V)} {fd : FuncData} {p : He.Defn} (F : FunD K x qual params body scope dvs kws (He.fAd K p) fd) : ∀ cdv, fd.code = cdv → cdv = .ref (He.cT K p).1 := fun cdv e => by
  obtain ⟨oc, od, dV, kV, doc, pm, an, cdv', ct, osl, rfl, lk, hcd, _, _⟩ := F.ex
  obtain ⟨c, rfl⟩ := He.codeIn_ref hcd
  subst e
  rw [show (He.cT K p).1 = He.codeOf K p from rfl, He.codeOf_eq lk rfl]
theorem err_k {K : PySem.W.Frag} {mg : MgT} {h : Heap} {x : Str} (KX : K.In h) (G : h.Ns mainGlobals mg) (c1 : (He.Fa.glo x).ok K = true) (c2 : (He.Fa.exc x).ok K = true) : ErrK K mg x := by
  obtain ⟨h1, h2, h3, h4⟩ := He.exc_ok c2
  exact ⟨⟨_, He.glo_ok KX G c1, h1, h2, h3, h4⟩⟩
end KL
end

section
set_option Elab.async false
set_option linter.all false
set_option maxRecDepth 100000
set_option maxHeartbeats 2000000
/-! ### methods of tuples and lists that give a value -/
namespace KL
open PySem PySem.Spec PyProof.Rows L2
section
variable {X : Cx} {o e : Expr} {es : List Expr} {to : TE} {t : TA} {name : Str} {apos cpos : Pos} {T id : String} {r : V → List V → Hp → VK → Prop}
theorem tyT_is {pins : List (Addr × Obj)} {σ : L2.St} {H : Hp} {s : Shared} {a : Addr} (I : Inv X pins σ H s) (ty : TyT X.K H a) : s.TypeIs (.ref a) "tuple" ∧ ∃ ob, s.heap.get? a = some ob ∧ ob.dict = none := by
  rcases ty with ⟨ob, u, e, t⟩ | ⟨ob, e, t⟩
  · have z := (I.hok a _ e).1
    exact ⟨⟨ob, z, t.cls⟩, ob, z, t.dict⟩
  · exact ⟨⟨ob, I.kIn _ _ e, t.cls⟩, ob, I.kIn _ _ e, t.dict⟩
def tBMT (K : PySem.W.Frag) (r : V → List V → Hp → VK → Prop) (to : TE) (t : TA) : TE := fun σ H Q => to σ H fun x H1 => (∃ a, x = .ref a ∧ TyT K H1 a) ∧ t σ H1 fun xs H2 => r x xs H2 Q
theorem pe_bmT (slot : Slot "tuple" name id) (hty : typeOf (.builtin id) = pure (.type "method_descriptor")) (hm : MtR X id r) (ho : PE X o to) (ha : PA X (e :: es) t)
    (hbase : attributeBase o name X.env (eval o X.env) = eval o X.env)
    (hfew : ((backTo cpos (starEach (e :: es) X.env)).all (fun x => !x.1) && (backToKw cpos (keywordEach [] X.env)).all (fun x => x.1.isSome)
      && decide ((e :: es).length + ([] : List Keyword).length + (if ([] : List Keyword).isEmpty then 0 else 1) < 30)) = true)
    (hline : (apos.endLine == cpos.line) = true) (hs : starEach (e :: es) X.env = (false, eval e X.env) :: starEach es X.env) (hplain : (backTo cpos (starEach es X.env)).any (·.1) = false) :
    PE X (.Call (.Attribute o name apos) (e :: es) [] cpos) (tBMT X.K r to t) := by
  refine ⟨fun pins s σ H Q I h => wpAny_Call_method_late hbase hfew hline rfl (thn (ho.run pins s σ H _ I h) ?_)⟩
  rintro v s1 ⟨x, H1, I1, r1, ⟨a, rfl, ty⟩, q1⟩
  cases r1
  obtain ⟨h1, ob, h2⟩ := tyT_is I1 ty
  refine ⟨"tuple", id, PySem.F.plainAttrs_tuple, slot, hty, h1, fun b eb => by cases eb; exact ⟨ob, h2⟩, ?_⟩
  have hA := ha.run cpos pins s1 σ H1 _ I1 q1
  rw [hs] at hA ⊢
  refine Calls.callWith_builtin (by show (false || (backTo cpos (starEach es X.env)).any (·.1)) = false; rw [hplain]; rfl) (Calls.evalArgs_plain (thn hA ?_))
  rintro us s2 ⟨vs, H2, I2, r2, q2⟩
  exact hm pins s2 σ H2 (.ref a) vs _ us Q I2 rfl r2 q2
theorem pe_orE {e : Expr} {t t' : TE} (h : PE X e t) (h' : PE X e t') : PE X e (fun σ H Q => t σ H Q ∨ t' σ H Q) := ⟨fun pins s σ H Q I q => q.elim (h.run pins s σ H Q I) (h'.run pins s σ H Q I)⟩
/-! count -/
def rCntD (K : PySem.W.Frag) (tp : Bool) : V → List V → Hp → VK → Prop := fun x xs H Q => ∃ (a : Addr) (y : V) (d : PyData) (ds : List PyData), x = V.ref a ∧ xs = [y] ∧ Dp K H (V.ref a) (if tp then .tuple ds else .list ds) ∧ Dp K H y d ∧ d.plain = true ∧ PyData.plainAll ds = true ∧
  min (PyData.depthAll ds) d.depth ≤ 62 ∧ Q (.int ((ds.countP fun z => PyData.eqv z d : Nat) : Int)) H
variable {k : Nat}
theorem seq_reads {pins : List (Addr × Obj)} {σ : L2.St} {H : Hp} {s : Shared} {a : Addr} {y : V} {uy : Value} {d : PyData} {ds : List PyData} {tp : Bool} (I : Inv X pins σ H s) (hl : Dp X.K H (V.ref a) (if tp then .tuple ds else .list ds)) (hy : Dp X.K H y d) (ry : RelV y uy) :
    ∃ (its : List Value) (as bs : List Addr), (if tp = true then s.heap.IsTuple a its.toArray else s.heap.IsList a its.toArray) ∧ ReadsAll s.heap its ds as ∧ Reads s.heap uy d bs ∧ its.length ≤ sizeLine := by
  obtain ⟨bs, r1⟩ := Dp.reads I d y uy hy ry
  cases tp with
  | true =>
    rw [if_pos rfl] at hl
    cases hl with
    | tup hs ha =>
      obtain ⟨its, rv, pl, hlen⟩ := I.tuple hs
      obtain ⟨as, h4⟩ := Dp.readsAll I ds _ its ha rv
      exact ⟨its, as, bs, by rw [if_pos rfl]; exact pl, h4, r1, by rw [← rv.length]; exact hlen⟩
  | false =>
    rw [if_neg (by decide)] at hl
    cases hl with
    | lst hs ha =>
      obtain ⟨its, rv, pl, hlen⟩ := I.list hs
      obtain ⟨as, h4⟩ := Dp.readsAll I ds _ its ha rv
      exact ⟨its, as, bs, by rw [if_neg (by decide)]; exact pl.isList, h4, r1, by rw [← rv.length]; exact hlen⟩
theorem mt_cntL (hr : Room k X.A) : MtR X "list.count" (rCntD X.K false) := by
  intro pins s σ H x xs v us Q I rx rxs h
  obtain ⟨a, y, d, ds, rfl, rfl, hl, hy, h1, h2, h3, q⟩ := h
  cases rx
  obtain ⟨uy, rfl, ry⟩ := vals1 rxs
  obtain ⟨its, as, bs, hL, h4, r1, _⟩ := seq_reads I hl hy ry
  rw [if_neg (by decide)] at hL
  exact SeqAt.count_list_data hL (show ReadsAll s.heap its.toArray.toList ds as from h4) r1 h2 h1 (by have := hr.units; omega) ⟨.int _, H, I.tok _, ⟨_, rfl⟩, q⟩
theorem mt_cntT (hr : Room k X.A) : MtR X "tuple.count" (rCntD X.K true) := by
  intro pins s σ H x xs v us Q I rx rxs h
  obtain ⟨a, y, d, ds, rfl, rfl, hl, hy, h1, h2, h3, q⟩ := h
  cases rx
  obtain ⟨uy, rfl, ry⟩ := vals1 rxs
  obtain ⟨its, as, bs, hL, h4, r1, _⟩ := seq_reads I hl hy ry
  rw [if_pos rfl] at hL
  exact SeqAt.count_tuple_data hL (show ReadsAll s.heap its.toArray.toList ds as from h4) r1 h2 h1 (by have := hr.units; omega) ⟨.int _, H, I.tok _, ⟨_, rfl⟩, q⟩
/-! index -/
def rIdxD (K : PySem.W.Frag) (tp : Bool) : V → List V → Hp → VK → Prop := fun x xs H Q => ∃ (a : Addr) (y : V), x = V.ref a ∧ xs = [y] ∧
  ((∃ (i : Int) (ns : List Int), Dp K H (V.ref a) (if tp then .tuple (ns.map .int) else .list (ns.map .int)) ∧ y = .int i ∧ i ∈ ns ∧ Q (.int (ns.idxOf i : Nat)) H) ∨
   (∃ (i : Bool) (ns : List Bool), Dp K H (V.ref a) (if tp then .tuple (ns.map .bool) else .list (ns.map .bool)) ∧ y = .bl i ∧ i ∈ ns ∧ Q (.int (ns.idxOf i : Nat)) H))
theorem mt_idx (hr : Room k X.A) (tp : Bool) : MtR X (if tp then "tuple.index" else "list.index") (rIdxD X.K tp) := by
  intro pins s σ H x xs v us Q I rx rxs h
  obtain ⟨a, y, rfl, rfl, h⟩ := h
  cases rx
  obtain ⟨uy, rfl, ry⟩ := vals1 rxs
  have hu := hr.units
  rcases h with ⟨i, ns, hl, rfl, hm, q⟩ | ⟨i, ns, hl, rfl, hm, q⟩
  · obtain ⟨its, as, bs, hL, h4, r1, hz⟩ := seq_reads I hl (Dp.int i) ry
    have H1 : PySem.W.HoldAll s.heap its ns := ⟨as, h4⟩
    have H2 : PySem.W.Holds s.heap uy i := ⟨bs, r1⟩
    have hd : PySem.W.Datum.depth Int = 0 := rfl
    cases tp with
    | true => exact PySem.W.index_tuple_datum (by rw [if_pos rfl] at hL; exact hL) H1 H2 (by omega) hm ⟨.int _, H, I.tok _, ⟨_, rfl⟩, q⟩
    | false => exact PySem.W.index_list_datum (by rw [if_neg (by decide)] at hL; exact hL) H1 H2 (by omega) (by rw [← H1.length]; exact hz) hm ⟨.int _, H, I.tok _, ⟨_, rfl⟩, q⟩
  · obtain ⟨its, as, bs, hL, h4, r1, hz⟩ := seq_reads I hl (Dp.bl i) ry
    have H1 : PySem.W.HoldAll s.heap its ns := ⟨as, h4⟩
    have H2 : PySem.W.Holds s.heap uy i := ⟨bs, r1⟩
    have hd : PySem.W.Datum.depth Bool = 0 := rfl
    cases tp with
    | true => exact PySem.W.index_tuple_datum (by rw [if_pos rfl] at hL; exact hL) H1 H2 (by omega) hm ⟨.int _, H, I.tok _, ⟨_, rfl⟩, q⟩
    | false => exact PySem.W.index_list_datum (by rw [if_neg (by decide)] at hL; exact hL) H1 H2 (by omega) (by rw [← H1.length]; exact hz) hm ⟨.int _, H, I.tok _, ⟨_, rfl⟩, q⟩
/-! str(x) -/
def rStrD (K : PySem.W.Frag) : List V → Hp → VK → Prop := fun xs H Q => ∃ (x : V) (d : PyData), xs = [x] ∧ Dp K H x d ∧ d.showable = true ∧ d.hasDict = false ∧ d.depth ≤ 60 ∧ d.shown.length ≤ sizeLine ∧
  ((∃ a, x = .ref a) ∧ Q (.str d.shown) H ∨ (∃ i, x = .int i ∧ i.natAbs.log2 < 1920 ∧ Q (.str (toString i)) H))
theorem call_strD (hr : RoomG k X.A) : CallR X (.type "str") (rStrD X.K) := by
  intro pins s σ H xs us Q I r h
  obtain ⟨x, d, rfl, hd, h1, h2, h3, h4, h5⟩ := h
  rcases h5 with ⟨⟨a, rfl⟩, q⟩ | ⟨i, rfl, hi, q⟩
  · obtain ⟨u, rfl, ru⟩ := vals1 r
    cases ru
    obtain ⟨as, rd⟩ := Dp.reads I d _ _ hd rfl
    refine str_of_reads rd h1 (fun z => by rw [h2] at z; cases z) hr.gd (by have := hr.rm.units; omega) (fun _ _ z => z) (fun h' u tk hk => ?_) h4
    exact ⟨.str d.shown, H, I.kept (t' := tk) hk, ⟨_, rfl⟩, q⟩
  · exact call_str_int pins s σ H _ us Q I r ⟨i, rfl, hi, q⟩
end
end KL
end

section
set_option Elab.async false
set_option linter.all false
set_option maxRecDepth 100000
set_option maxHeartbeats 2000000
namespace KL
open PySem L2
variable [Tabs]
/-- a tuple, a list, neither -/
def D.tp? : D → Option Bool
  | .tup _ => some true
  | .lst _ => some false
  | _ => none
def appM (p : D → List D → Option Vl) (tp : Bool) (a : Od) (os : List Od) : M Vl := fun ρ => match a.get ρ with
  | some d => match getAll ρ os with
    | some ds => if d.tp? = some tp then ofO (p d ds) ρ else .bad
    | none => .bad
  | none => .bad
/-- o.m(..) of a tuple or a list, which gives a value and changes nothing -/
def mex (p : D → List D → Option Vl) (o : M Od) (args : M (List Od)) : M Vl := fun ρ => bnd (o ρ) fun a ρ1 => match a.get ρ1 with
  | some d => match d.tp? with
    | some tp => bnd (args ρ1) fun os ρ2 => appM p tp a os ρ2
    | none => .bad
  | none => .bad
def PM (K : PySem.W.Frag) (mg : MgT) (r : Bool → V → List V → Hp → VK → Prop) (p : D → List D → Option Vl) : Prop := ∀ (S : Sx) (d : D) (ds : List D) (x : V) (vs : List V) (a : Vl) (Q : VK) (tp : Bool), S.rel K mg → p d ds = some a → d.tp? = some tp → Opn K mg S d x → OpnL K mg S ds vs → Fin K mg S a Q → r tp x vs S.H Q
section
variable {X : Cx} {o e : Expr} {es : List Expr} {name : Str} {apos cpos : Pos} {idT idL : String} {fo : M Od} {fa : M (List Od)} {r : Bool → V → List V → Hp → VK → Prop} {p : D → List D → Option Vl}
theorem satM {S1 : Sx} {K : PySem.W.Frag} {mg : MgT} {Wi : WX} {Q : VK} {a : Od} {os : List Od} {x : V} {vs : List V} {tp : Bool} (hp : PM K mg r p) (h1 : S1.rel K mg) (rx : RepO K mg S1 a x) (rs : RepOs K mg S1 os vs)
    (h : Sat K mg Wi S1 (fun a S' => ∀ v, RepV K mg S1 S' a v → Q v S'.H) (appM p tp a os S1.ρ)) : r tp x vs S1.H Q := by
  unfold appM ofO at h
  cases e1 : a.get S1.ρ with
  | none => simp only [e1] at h; exact h.elim
  | some d =>
    cases e2 : getAll S1.ρ os with
    | none => simp only [e1, e2] at h; exact h.elim
    | some ds =>
      by_cases c : d.tp? = some tp
      · cases e3 : p d ds with
        | none => simp only [e1, e2, if_pos c, e3] at h; exact h.elim
        | some z =>
          simp only [e1, e2, if_pos c, e3] at h
          exact hp S1 d ds x vs z Q tp h1 e3 c (opn_of h1 rx e1) (opnL_of h1 rs e2) (fin_of h)
      · simp only [e1, e2, if_neg c] at h; exact h.elim
theorem re_mex (sT : Slot "tuple" name idT) (tT : typeOf (.builtin idT) = pure (.type "method_descriptor")) (mT : MtR X idT (r true)) (sL : Slot "list" name idL) (tL : typeOf (.builtin idL) = pure (.type "method_descriptor")) (mL : MtR X idL (r false)) (hp : PM X.K X.mg r p)
    (ho : RO X o fo) (ha : RA X (e :: es) fa)
    (hbase : attributeBase o name X.env (eval o X.env) = eval o X.env := by rfl)
    (hfew : ((backTo cpos (starEach (e :: es) X.env)).all (fun x => !x.1) && (backToKw cpos (keywordEach [] X.env)).all (fun x => x.1.isSome)
      && decide ((e :: es).length + ([] : List Keyword).length + (if ([] : List Keyword).isEmpty then 0 else 1) < 30)) = true := by rfl)
    (hline : (apos.endLine == cpos.line) = true := by rfl) (hs : starEach (e :: es) X.env = (false, eval e X.env) :: starEach es X.env := by rfl) (hplain : (backTo cpos (starEach es X.env)).any (·.1) = false := by rfl) :
    RE X (.Call (.Attribute o name apos) (e :: es) [] cpos) (mex p fo fa) := by
  refine ⟨fun Wi tk => pe_imp (pe_orE (pe_bmT sT tT mT (ho.run Wi tk) (ha.run Wi tk) hbase hfew hline hs hplain) (pe_bm PySem.F.plainAttrs_list sL tL mL (ho.run Wi tk) (ha.run Wi tk) hbase hfew hline hs hplain)) fun σ H Q q => ?_⟩
  obtain ⟨S, hS, rfl, rfl, q⟩ := q
  unfold mex at q
  cases ef : fo S.ρ with
  | bad => rw [ef] at q; exact q.elim
  | ex er ρ' =>
    rw [ef] at q
    refine .inl ⟨S, hS, rfl, rfl, ?_⟩
    rw [ef]; exact q
  | ok a ρ1 =>
    rw [ef] at q
    simp only [bnd] at q
    cases e1 : a.get ρ1 with
    | none => simp only [e1] at q; exact q.elim
    | some d =>
      simp only [e1] at q
      cases e2 : d.tp? with
      | none => simp only [e2] at q; exact q.elim
      | some tp =>
        simp only [e2] at q
        have qq : Sat X.K X.mg Wi S (fun a S' => ∀ v, RepV X.K X.mg S S' a v → Q v S'.H) (bnd (.ok a ρ1 : R Od) fun a ρ1 => bnd (fa ρ1) fun os ρ2 => appM p tp a os ρ2) := q
        have rest : ∀ (S1 : Sx), S1.ρ = ρ1 → S1.σ = S.σ → Go X.K X.mg S S1 → ∀ x, RepO X.K X.mg S1 a x → TA_ X.K X.mg Wi fa S.σ S1.H fun xs H2 => r tp x xs H2 Q := fun S1 h1 es1 g1 x rx => by
          subst h1
          have q1 := qq.from hS es1 g1
          refine ⟨S1, g1.rel, es1, rfl, Sat.bnd (f := fun os ρ2 => appM p tp a os ρ2) (Ψ := fun a S' => ∀ v, RepV X.K X.mg S S' a v → Q v S'.H) q1 fun os S2 es2 g2 _ q2 vs rs => ?_⟩
          exact satM hp g2.rel (rx.later g1.rel es2 g2) rs ((q2.from g1.rel es2 g2).imp fun a S' _ _ _ z v rv => z v ((rv.from g2).from g1))
        have start : ∀ Ψ : Od → Sx → Prop, (∀ (S1 : Sx), S1.ρ = ρ1 → S1.σ = S.σ → Go X.K X.mg S S1 → Ψ a S1) → Sat X.K X.mg Wi S Ψ (fo S.ρ) := fun Ψ h => by
          rw [ef]; exact fun S1 h1 es1 g1 => h S1 h1 es1 g1
        cases d with
        | tup xs =>
          cases e2
          refine .inl ⟨S, hS, rfl, rfl, start _ fun S1 h1 es1 g1 x rx => ⟨?_, rest S1 h1 es1 g1 x rx⟩⟩
          subst h1
          obtain ⟨b, vs, rfl, _, _, ty⟩ := Opn.tupT (opn_of g1.rel rx e1)
          exact ⟨b, rfl, ty⟩
        | lst xs =>
          cases e2
          refine .inr ⟨S, hS, rfl, rfl, start _ fun S1 h1 es1 g1 x rx => ⟨?_, rest S1 h1 es1 g1 x rx⟩⟩
          subst h1
          obtain ⟨b, vs, rfl, h2, _⟩ := opn_of g1.rel rx e1
          exact .inl ⟨rfl, vs, .inl (.inl h2)⟩
        | _ => cases e2
end
/-! ### count, index -/
def cntP : D → List D → Option Vl
  | .lst xs, [d] => if (D.plnL xs && (d.pln && decide (min (D.depL xs) d.dep ≤ 62))) = true then some (.fz (.int ((xs.countP fun y => y.eqD d : Nat) : Int))) else none
  | .tup xs, [d] => if (D.plnL xs && (d.pln && decide (min (D.depL xs) d.dep ≤ 62))) = true then some (.fz (.int ((xs.countP fun y => y.eqD d : Nat) : Int))) else none
  | _, _ => none
def idxL (xs : List D) : D → Option Vl
  | .int i => match ints? xs with
    | some ns => if i ∈ ns then some (.fz (.int (ns.idxOf i : Nat))) else none
    | none => none
  | .bl b => match bools? xs with
    | some ns => if b ∈ ns then some (.fz (.int (ns.idxOf b : Nat))) else none
    | none => none
  | _ => none
def idxP : D → List D → Option Vl
  | .lst xs, [d] => idxL xs d
  | .tup xs, [d] => idxL xs d
  | _, _ => none
section
variable {K : PySem.W.Frag} {mg : MgT}
theorem opnL_one {S : Sx} {d : D} {vs : List V} (o : OpnL K mg S [d] vs) : ∃ v, vs = [v] ∧ Opn K mg S d v := opnL1 o
theorem dp_seq {S : Sx} {d : D} {xs : List D} {x : V} {tp : Bool} (o : Opn K mg S d x) (e : d.tp? = some tp) (h : d = .lst xs ∨ d = .tup xs) (p : D.plnL xs = true) : ∃ a, x = .ref a ∧ Dp K S.H (V.ref a) (if tp then .tuple (D.pyL xs) else .list (D.pyL xs)) := by
  rcases h with rfl | rfl
  · cases e
    have z := opn_dp o (show D.pln (.lst xs) = true from p)
    obtain ⟨a, vs, rfl, _⟩ := o
    exact ⟨a, rfl, by rw [if_neg (by decide)]; exact z⟩
  · cases e
    have z := opn_dp o (show D.pln (.tup xs) = true from p)
    obtain ⟨a, vs, rfl, _⟩ := Opn.tup o
    exact ⟨a, rfl, by rw [if_pos rfl]; exact z⟩
theorem pyL_count (d : D) (h : d.pln = true) : ∀ xs : List D, D.plnL xs = true → (D.pyL xs).countP (fun z => PyData.eqv z d.py) = xs.countP fun y => y.eqD d
  | [], _ => rfl
  | x :: xs, p => by
    simp only [D.plnL, Bool.and_eq_true] at p
    simp only [D.pyL, List.countP_cons, pyL_count d h xs p.2, py_eq x d p.1 h]
theorem pm_cnt : PM K mg (rCntD K) cntP := fun S d ds x vs a Q tp hS h ht ox os f => by
  have main : ∀ (xs : List D) (e : D), (d = .lst xs ∨ d = .tup xs) → ds = [e] → (if (D.plnL xs && (e.pln && decide (min (D.depL xs) e.dep ≤ 62))) = true then some (Vl.fz (.int ((xs.countP fun y => y.eqD e : Nat) : Int))) else none) = some a → rCntD K tp x vs S.H Q := fun xs e hd he h0 => by
    subst he
    obtain ⟨v, rfl, ov⟩ := opnL_one os
    split at h0
    · rename_i c
      simp only [Bool.and_eq_true, decide_eq_true_eq] at c
      cases h0
      obtain ⟨b, rfl, hD⟩ := dp_seq ox ht hd c.1
      refine ⟨b, v, e.py, D.pyL xs, rfl, rfl, hD, opn_dp ov c.2.1, py_plain e, pyL_plain xs, by rw [py_dep, pyL_dep]; exact c.2.2, ?_⟩
      rw [pyL_count e c.2.1 xs c.1]
      exact f.d hS (.int _)
    · cases h0
  unfold cntP at h
  split at h
  · exact main _ _ (.inl rfl) rfl h
  · exact main _ _ (.inr rfl) rfl h
  · cases h
theorem pln_ints : ∀ ns : List Int, D.plnL (ns.map .int) = true ∧ D.pyL (ns.map .int) = ns.map .int
  | [] => ⟨rfl, rfl⟩
  | _ :: r => ⟨by simp [D.plnL, D.pln, (pln_ints r).1], by simp [D.pyL, D.py, (pln_ints r).2]⟩
theorem pln_bls : ∀ ns : List Bool, D.plnL (ns.map .bl) = true ∧ D.pyL (ns.map .bl) = ns.map .bool
  | [] => ⟨rfl, rfl⟩
  | _ :: r => ⟨by simp [D.plnL, D.pln, (pln_bls r).1], by simp [D.pyL, D.py, (pln_bls r).2]⟩
theorem pm_idx : PM K mg (rIdxD K) idxP := fun S d ds x vs a Q tp hS h ht ox os f => by
  have main : ∀ (xs : List D) (e : D), (d = .lst xs ∨ d = .tup xs) → ds = [e] → idxL xs e = some a → rIdxD K tp x vs S.H Q := fun xs e hd he h0 => by
    subst he
    obtain ⟨v, rfl, ov⟩ := opnL_one os
    cases e with
    | int i =>
      unfold idxL at h0
      cases e1 : ints? xs with
      | none => simp only [e1] at h0; cases h0
      | some ns =>
        simp only [e1] at h0
        split at h0
        · rename_i hm
          cases h0
          have ex := ints_map e1
          subst ex
          obtain ⟨b, rfl, hD⟩ := dp_seq ox ht hd (pln_ints ns).1
          rw [(pln_ints ns).2] at hD
          rw [ov.int]
          exact ⟨b, _, rfl, rfl, .inl ⟨i, ns, hD, rfl, hm, f.d hS (.int _)⟩⟩
        · cases h0
    | bl i =>
      unfold idxL at h0
      cases e1 : bools? xs with
      | none => simp only [e1] at h0; cases h0
      | some ns =>
        simp only [e1] at h0
        split at h0
        · rename_i hm
          cases h0
          have ex := bools_map e1
          subst ex
          obtain ⟨b, rfl, hD⟩ := dp_seq ox ht hd (pln_bls ns).1
          rw [(pln_bls ns).2] at hD
          rw [ov.bl]
          exact ⟨b, _, rfl, rfl, .inr ⟨i, ns, hD, rfl, hm, f.d hS (.int _)⟩⟩
        · cases h0
    | _ => cases h0
  unfold idxP at h
  split at h
  · exact main _ _ (.inl rfl) rfl h
  · exact main _ _ (.inr rfl) rfl h
  · cases h
end
section
variable {X : Cx} {o e : Expr} {apos cpos : Pos} {fo : M Od} {fa : M (List Od)} {k : Nat}
theorem re_count (hr : Room k X.A) (ho : RO X o fo) (ha : RA X [e] fa) (hbase : attributeBase o "count" X.env (eval o X.env) = eval o X.env := by rfl)
    (hfew : ((backTo cpos (starEach [e] X.env)).all (fun x => !x.1) && (backToKw cpos (keywordEach [] X.env)).all (fun x => x.1.isSome)
      && decide ([e].length + ([] : List Keyword).length + (if ([] : List Keyword).isEmpty then 0 else 1) < 30)) = true := by rfl)
    (hline : (apos.endLine == cpos.line) = true := by rfl) (hs : starEach [e] X.env = (false, eval e X.env) :: starEach [] X.env := by rfl) (hplain : (backTo cpos (starEach [] X.env)).any (·.1) = false := by rfl) :
    RE X (.Call (.Attribute o "count" apos) [e] [] cpos) (mex cntP fo fa) :=
  re_mex PySem.F.slot_tuple_count PySem.F.type_tuple_count (mt_cntT hr) PySem.F.slot_list_count PySem.F.type_list_count (mt_cntL hr) pm_cnt ho ha hbase hfew hline hs hplain
theorem re_index (hr : Room k X.A) (ho : RO X o fo) (ha : RA X [e] fa) (hbase : attributeBase o "index" X.env (eval o X.env) = eval o X.env := by rfl)
    (hfew : ((backTo cpos (starEach [e] X.env)).all (fun x => !x.1) && (backToKw cpos (keywordEach [] X.env)).all (fun x => x.1.isSome)
      && decide ([e].length + ([] : List Keyword).length + (if ([] : List Keyword).isEmpty then 0 else 1) < 30)) = true := by rfl)
    (hline : (apos.endLine == cpos.line) = true := by rfl) (hs : starEach [e] X.env = (false, eval e X.env) :: starEach [] X.env := by rfl) (hplain : (backTo cpos (starEach [] X.env)).any (·.1) = false := by rfl) :
    RE X (.Call (.Attribute o "index" apos) [e] [] cpos) (mex idxP fo fa) :=
  re_mex PySem.F.slot_tuple_index PySem.F.type_tuple_index (mt_idx hr true) PySem.F.slot_list_index PySem.F.type_list_index (mt_idx hr false) pm_idx ho ha hbase hfew hline hs hplain
end
end KL
end

section
set_option Elab.async false
set_option linter.all false
set_option maxRecDepth 100000
set_option maxHeartbeats 2000000
/-! ### str(x) -/
namespace KL
open PySem L2
mutual
/-- what str shows within the model's lines -/
def D.sh : D → Bool
  | .non => true
  | .bl _ => true
  | .int i => decide (i.natAbs < 10 ^ 70)
  | .str s => s.cps.toList.all fun c => decide (c < 16 ^ 8)
  | .lst xs => D.shL xs
  | .tup xs => D.shL xs
  | _ => false
def D.shL : List D → Bool
  | [] => true
  | x :: xs => D.sh x && D.shL xs
end
mutual
/-- how much stands in it -/
def D.blk : D → Nat
  | .str s => s.cps.size
  | .lst xs => D.blkL xs
  | .tup xs => D.blkL xs
  | _ => 0
def D.blkL : List D → Nat
  | [] => 0
  | x :: xs => D.blk x + 1 + D.blkL xs
end
theorem log_small {i : Int} (h : i.natAbs < 10 ^ 70) : i.natAbs.log2 < 1920 := by
  have h2 : i.natAbs < 2 ^ 1920 := Nat.lt_of_lt_of_le h (by decide +kernel)
  by_cases h0 : i.natAbs = 0
  · rw [h0]; decide
  · exact (Nat.log2_lt h0).mpr h2
mutual
theorem sh_ok : ∀ d : D, d.sh = true → d.pln = true ∧ d.py.showable = true ∧ d.py.hasDict = false ∧ d.py.leavesShort 72 = true ∧ d.py.bulk = d.blk
  | .non, _ => ⟨rfl, rfl, rfl, rfl, rfl⟩
  | .bl _, _ => ⟨rfl, rfl, rfl, rfl, rfl⟩
  | .int i, h => by
    have h' : i.natAbs < 10 ^ 70 := of_decide_eq_true h
    refine ⟨rfl, decide_eq_true (log_small h'), rfl, decide_eq_true ?_, rfl⟩
    have e : (toString i).length ≤ 71 := int_text_length_le10 (by decide) h'
    show (Str.ofString (toString i)).length ≤ 72
    rw [PySem.ofString_length]; omega
  | .str s, h => ⟨rfl, rfl, rfl, h, rfl⟩
  | .lst xs, h => by
    obtain ⟨h1, h2, h3, h4, h5⟩ := shL_ok xs h
    exact ⟨h1, h2, h3, h4, h5⟩
  | .tup xs, h => by
    obtain ⟨h1, h2, h3, h4, h5⟩ := shL_ok xs h
    exact ⟨h1, h2, h3, h4, h5⟩
  | .pr _, h => nomatch h
  | .scr _, h => nomatch h
  | .err _ _, h => nomatch h
theorem shL_ok : ∀ xs : List D, D.shL xs = true → D.plnL xs = true ∧ PyData.showableAll (D.pyL xs) = true ∧ PyData.hasDictAll (D.pyL xs) = false ∧ PyData.leavesShortAll 72 (D.pyL xs) = true ∧ PyData.bulkAll (D.pyL xs) = D.blkL xs
  | [], _ => ⟨rfl, rfl, rfl, rfl, rfl⟩
  | x :: xs, h => by
    simp only [D.shL, Bool.and_eq_true] at h
    obtain ⟨a1, a2, a3, a4, a5⟩ := sh_ok x h.1
    obtain ⟨b1, b2, b3, b4, b5⟩ := shL_ok xs h.2
    simp only [D.plnL, D.pyL, PyData.showableAll, PyData.hasDictAll, PyData.leavesShortAll, PyData.bulkAll, D.blkL, a1, a2, a3, a4, a5, b1, b2, b3, b4, b5, Bool.and_self, Bool.or_self, and_self]
end
def strD (d : D) : Option Vl := if (d.sh && (decide (d.dep ≤ 60) && decide (d.blk ≤ 200000))) = true then some (.fz (.str d.py.shown)) else none
def strP : List D → Option Vl
  | [.lst xs] => strD (.lst xs)
  | [.tup xs] => strD (.tup xs)
  | [.int i] => if i.natAbs.log2 < 1920 then some (.fz (.str (toString i))) else none
  | _ => none
variable [Tabs]
section
variable {K : PySem.W.Frag} {mg : MgT}
theorem p_strD {S : Sx} {d : D} {v : V} {a : Vl} {Q : VK} (hS : S.rel K mg) (h : strD d = some a) (o : Opn K mg S d v) (hv : ∃ b, v = .ref b) (f : Fin K mg S a Q) : rStrD K [v] S.H Q := by
  unfold strD at h
  split at h
  · rename_i c
    simp only [Bool.and_eq_true, decide_eq_true_eq] at c
    cases h
    obtain ⟨h1, h2, h3, h4, h5⟩ := sh_ok d c.1
    have hb := PyData.shown_le_bulk 72 (by decide) d.py h4
    refine ⟨v, d.py, rfl, opn_dp o h1, h2, h3, by rw [py_dep]; exact c.2.1, ?_, .inl ⟨hv, f.d hS (.str _)⟩⟩
    have e : sizeLine = 16777216 := by decide
    have := c.2.2
    omega
  · cases h
theorem p_str : PN K mg (rStrD K) strP := fun S ds vs a Q hS h o f => by
  match ds, h, o with
  | [.lst xs], h, .cons (v := v) o .nil =>
    have o2 := o
    obtain ⟨b, ws, rfl, _⟩ := o
    exact p_strD hS h o2 ⟨b, rfl⟩ f
  | [.tup xs], h, .cons (v := v) o .nil =>
    obtain ⟨b, ws, rfl, _⟩ := Opn.tup o
    exact p_strD hS h o ⟨b, rfl⟩ f
  | [.int i], h, .cons (v := v) o .nil =>
    simp only [strP] at h
    split at h
    · rename_i c
      cases h
      rw [o.int]
      have e : (toString i : String).length ≤ 1921 := int_text_length_le (by decide) c
      have e2 : (PyData.shown (.int i)).length = (toString i).length := by
        show (Str.ofString (toString i)).length = _
        exact PySem.ofString_length _
      refine ⟨_, .int i, rfl, .int i, decide_eq_true c, rfl, Nat.zero_le _, ?_, .inr ⟨i, rfl, c, f.d hS (.str _)⟩⟩
      have e3 : sizeLine = 16777216 := by decide
      omega
    · cases h
end
end KL
end

section
set_option Elab.async false
set_option linter.all false
set_option maxRecDepth 100000
set_option maxHeartbeats 2000000
/-! ### *e in a display -/
namespace KL
open PySem PySem.Spec PyProof.Rows L2
def tStarC (K : PySem.W.Frag) (te : TE) (t : TA) : TA := fun σ H Q => te σ H fun x H1 => ∃ a xs, x = .ref a ∧ (SqL K H1 a xs ∨ SqT K H1 a xs) ∧ t σ H1 fun ys H2 => Q (xs ++ ys) H2
section
variable {X : Cx} {e : Expr} {es : List Expr} {te : TE} {t : TA} {p : Pos}
theorem star_any {pins : List (Addr × Obj)} {σ : L2.St} {H : Hp} {s : Shared} {a : Addr} {xs : List V} {E : Value → Shared → Prop} {Q : List Value → Shared → Prop} (I : Inv X pins σ H s) (h : SqL X.K H a xs ∨ SqT X.K H a xs) (hQ : ∀ us s', Inv X pins σ H s' → Vals xs us → Q us s') :
    PySem.W.StarOf (model X.prog X.w) X.A E (.ref a) Q s := by
  rcases h with h | h
  · obtain ⟨its, r, ⟨o, n, ho, hc, _, hd⟩, hz⟩ := I.list h
    have z : wpAny (model X.prog X.w) X.A (collect (.ref a)) Q E s := by
      refine wpAny_collect_seq a (.inl rfl) ho hc hd (fun h' hk => ?_) (by rw [List.size_toArray, ← r.length]; exact hz)
      rw [List.toList_toArray]
      exact hQ its _ (I.kept (t' := s.toks) hk) r
    unfold PySem.W.StarOf notIterableAtAll
    exact wpAny_bind (wpAny_specialOf ⟨o, ho, hc⟩ PySem.F.slot_list_iter.lookup (wpAny_pure ⟨rfl, z⟩))
  · exact star_tup I h hQ
theorem pa_star (he : PE X e te) (hr : PA X es t) (hs : starEach (.Starred e p :: es) X.env = (true, eval e X.env) :: starEach es X.env) : PA X (.Starred e p :: es) (tStarC X.K te t) := by
  refine ⟨fun pos pins s σ H Q I h => ?_⟩
  refine PySem.W.items_star (thn (he.run pins s σ H _ I h) ?_) hs
  rintro v s1 ⟨x, H1, I1, rx, a, xs, rfl, hx, q⟩
  cases rx
  refine star_any I1 hx fun us s2 I2 ru => thn (hr.run pos pins s2 σ H1 _ I2 q) ?_
  rintro ws s3 ⟨ys, H3, I3, ry, q3⟩
  exact ⟨xs ++ ys, H3, I3, ru.append ry, q3⟩
end
end KL
namespace KL
open PySem L2
variable [Tabs]
def aStar (f : M Od) (g : M (List Od)) : M (List Od) := fun ρ => bnd (f ρ) fun o ρ1 => match o.get ρ1 with
  | some d => match items? d with
    | some ds => bnd (g ρ1) fun os ρ2 => .ok (ds.map .v ++ os) ρ2
    | none => .bad
  | none => .bad
section
variable {K : PySem.W.Frag} {mg : MgT} {S : Sx}
theorem repOs_of {ds : List D} {vs : List V} (r : RepL K mg S.H S.B ds vs) : RepOs K mg S (ds.map .v) vs := by
  induction vs generalizing ds with
  | nil => cases r; exact .nil
  | cons v vs ih => cases r with
    | cons a b => exact .cons a (ih b)
theorem RepOs.append {os ps : List Od} {vs ws : List V} (a : RepOs K mg S os vs) (b : RepOs K mg S ps ws) : RepOs K mg S (os ++ ps) (vs ++ ws) := by
  induction vs generalizing os with
  | nil => cases a; exact b
  | cons v vs ih => cases a with
    | cons x y => exact .cons x (ih y)
/-- a list or a tuple, open -/
theorem opn_seq {d : D} {xs : List D} {v : V} (e : items? d = some xs) (o : Opn K mg S d v) : ∃ a vs, v = .ref a ∧ (SqL K S.H a vs ∨ SqT K S.H a vs) ∧ RepL K mg S.H S.B xs vs := by
  cases d with
  | lst ys =>
    cases e
    obtain ⟨a, vs, rfl, h, r⟩ := o
    exact ⟨a, vs, rfl, .inl (.inl (.inl h)), r⟩
  | tup ys =>
    cases e
    obtain ⟨a, vs, rfl, h, r⟩ := Opn.tup o
    exact ⟨a, vs, rfl, .inr h, r⟩
  | _ => cases e
end
theorem ra_star {X : Cx} {e : Expr} {es : List Expr} {f : M Od} {g : M (List Od)} {p : Pos} (ha : RO X e f) (hr : RA X es g) (hs : starEach (.Starred e p :: es) X.env = (true, eval e X.env) :: starEach es X.env := by rfl) : RA X (.Starred e p :: es) (aStar f g) := by
  refine ⟨fun Wi tk => pa_imp (pa_star (ha.run Wi tk) (hr.run Wi tk) hs) fun σ H Q q => ?_⟩
  obtain ⟨S, hS, rfl, rfl, q⟩ := q
  refine ⟨S, hS, rfl, rfl, q.bnd fun a S1 es1 g1 _ q1 x rx => ?_⟩
  cases e1 : a.get S1.ρ with
  | none => simp only [e1] at q1; exact q1.elim
  | some d =>
    cases e2 : items? d with
    | none => simp only [e1, e2] at q1; exact q1.elim
    | some ds =>
      simp only [e1, e2] at q1
      obtain ⟨b, vs, rfl, hv, r⟩ := opn_seq e2 (opn_of g1.rel rx e1)
      refine ⟨b, vs, rfl, hv, S1, g1.rel, es1, rfl, (q1.from hS es1 g1).bnd fun os S2 es2 g2 _ q2 ys ry => ?_⟩
      exact q2 S2 rfl es2 g2 (vs ++ ys) ((repOs_of (RepL.mono (g2.fe g1.rel) r)).append ry)
end KL
end

section
set_option Elab.async false
set_option linter.all false
set_option maxRecDepth 100000
set_option maxHeartbeats 2000000
/-! ### enumerate(x, start=c) -/
namespace KL
open PySem PySem.Spec PyProof.Rows L2
theorem callWith_tyK {M : Model} {A : Around} {E : Value → Shared → Prop} {s : Shared} {env : PySem.Env} {pos : Pos} {T : String} {e : Expr} {rest : List Expr} {kws : List Keyword} {Q : Value → Shared → Prop}
    (he : backTo pos (starEach (e :: rest) env) = (false, eval e env) :: backTo pos (starEach rest env)) (hplain : (backTo pos (starEach (e :: rest) env)).any (·.1) = false) (hall : (backToKw pos (keywordEach kws env)).all (·.1.isSome) = true) (hkw : (backToKw pos (keywordEach kws env)).any (·.1.isNone) = false)
    (h : wpAny M A (spliced (backTo pos (starEach (e :: rest) env))) (fun vs s₁ => wpAny M A (evalAll ((backToKw pos (keywordEach kws env)).map (·.2)))
      (fun kvs s₂ => wpAny M A (call (.type T) vs (((backToKw pos (keywordEach kws env)).filterMap (·.1)).zip kvs)) Q E s₂) E s₁) E s) : wpAny M A (callWith pos (.type T) [] (backTo pos (starEach (e :: rest) env)) (backToKw pos (keywordEach kws env))) Q E s := by
  have ev : wpAny M A (evalArgs (.type T) true (backTo pos (starEach (e :: rest) env)) (backToKw pos (keywordEach kws env))) (fun a s₁ => wpAny M A (call (.type T) a.pos a.kw) Q E s₁) E s := by
    rw [he] at h ⊢
    exact evalArgs_kwB hall h
  unfold callWith
  refine wpAny_bind (wpAny_holding (wpAny_mono ev (fun a s₁ h₁ => wpAny_bind (wpAny_standAt ?_)) fun _ _ x => x))
  simp only [hplain, hkw, Bool.or_false]
  refine wpAny_bind (wpAny_pure (wpAny_bind (wpAny_mono h₁ ?_ fun _ _ x => x)))
  exact fun r s₂ hr => wpAny_bind (wpAny_holding (wpAny_point (wpAny_pure hr)))
/-- the sequence at a, its items in pairs counted from c -/
def IteS (K : PySem.W.Frag) (tp : Bool) (a : Addr) (c : Int) : It :=
  ⟨fun i H => ∃ (xs : List V) (x : V), (if tp = true then SqT K H a xs else SqL K H a xs) ∧ xs[i]? = some x,
   fun i H v H' => ∃ T x, v = .ref T ∧ H T = none ∧ H' = upd H T (.tup [.int (c + (i : Nat)), x]) ∧ ∀ xs, (if tp = true then SqT K H a xs else SqL K H a xs) → xs[i]? = some x,
   fun i H => ∃ xs : List V, (if tp = true then SqT K H a xs else SqL K H a xs) ∧ xs.length = i⟩
/-- the iterator inside stands at place i -/
def EnIt (tp : Bool) (h : Heap) (it a : Addr) (i : Nat) : Prop := if tp = true then h.IsTupleIter it a i else h.IsListIter it a i
theorem EnIt.at {tp : Bool} {h h' : Heap} {it a : Addr} {i : Nat} (x : EnIt tp h it a i) (k : ∀ o, h.get? it = some o → h'.get? it = some o) : EnIt tp h' it a i := by
  cases tp with
  | true => exact Heap.IsTupleIter.at (by simpa [EnIt] using x) k
  | false => exact Heap.IsListIter.at (by simpa [EnIt] using x) k
theorem EnIt.ob {tp : Bool} {h : Heap} {it a : Addr} {i : Nat} (x : EnIt tp h it a i) : ∃ o, h.get? it = some o ∧ ∀ v, o.data ≠ .cell v := by
  cases tp with
  | true =>
    obtain ⟨o, ho, _, hd⟩ := (show h.IsTupleIter it a i by simpa [EnIt] using x)
    exact ⟨o, ho, fun v q => by rw [hd] at q; cases q⟩
  | false =>
    obtain ⟨o, ho, _, hd⟩ := (show h.IsListIter it a i by simpa [EnIt] using x)
    exact ⟨o, ho, fun v q => by rw [hd] at q; cases q⟩
/-- the sequence there, its iterator -/
structure EnDr (tp : Bool) (prog : Program) (w : World) (A : Around) (it a : Addr) (its : Array Value) (St : Nat → Heap → Prop) : Prop where
  D : Draws prog w A it [it, a] its.size (fun i v => its[i]? = some v) St
  of : ∀ i h, EnIt tp h it a i → (if tp = true then h.IsTuple a its else h.IsList a its) → St i h
  to : ∀ i h, St i h → EnIt tp h it a i
theorem enDr {prog : Program} {w : World} {A : Around} (hh : A.handled = none) (tp : Bool) (it a : Addr) (hne : a ≠ it) (its : Array Value) : ∃ St, EnDr tp prog w A it a its St := by
  cases tp with
  | true => exact ⟨_, Draws.tuple hh it a hne its, fun i h x y => ⟨by simpa [EnIt] using x, by simpa using y⟩, fun i h x => by simpa [EnIt] using x.1⟩
  | false => exact ⟨_, Draws.list hh it a hne its, fun i h x y => ⟨by simpa [EnIt] using x, by simpa using y⟩, fun i h x => by simpa [EnIt] using x.1⟩
theorem seq_at {X : Cx} {pins : List (Addr × Obj)} {σ : L2.St} {H : Hp} {s : Shared} {tp : Bool} {a : Addr} {xs : List V} (I : Inv X pins σ H s) (h : if tp = true then SqT X.K H a xs else SqL X.K H a xs) :
    ∃ its : List Value, Vals xs its ∧ (if tp = true then s.heap.IsTuple a its.toArray else s.heap.IsList a its.toArray) ∧ xs.length ≤ sizeLine := by
  cases tp with
  | true =>
    obtain ⟨its, r, p, z⟩ := I.tuple (show SqT X.K H a xs by simpa using h)
    exact ⟨its, r, by rw [if_pos rfl]; exact p, z⟩
  | false =>
    obtain ⟨its, r, p, z⟩ := I.list (show SqL X.K H a xs by simpa using h)
    exact ⟨its, r, by simpa using p.isList, z⟩
theorem seq_inj {X : Cx} {pins : List (Addr × Obj)} {σ : L2.St} {H : Hp} {s : Shared} {tp : Bool} {a : Addr} {xs ys : List V} (I : Inv X pins σ H s) (h : if tp = true then SqT X.K H a xs else SqL X.K H a xs) (h' : if tp = true then SqT X.K H a ys else SqL X.K H a ys) : xs = ys := by
  cases tp with
  | true => exact I.tuple_inj (by simpa using h) (by simpa using h')
  | false => exact I.list_inj (by simpa using h) (by simpa using h')
theorem turn_enumS {P : Program} {w : World} {K : PySem.W.Frag} {elts : List Expr} {kk : Nat} {tpos : Pos} (tp : Bool) (a e it : Addr) (c : Int) :
    Turn P w K (.Tuple elts kk tpos) (IteS K tp a c) [e, it] e (fun i h => (∃ old, IsEnum h e it (c + ((i : Nat) : Int)) old) ∧ EnIt tp h it a i ∧ e ≠ it ∧ a ≠ it ∧ e ≠ a) where
  mem := by simp
  obj := fun i h st b hb => by
    obtain ⟨⟨old, he⟩, hi, _⟩ := st
    rcases (show b = e ∨ b = it by simpa using hb) with rfl | rfl
    · exact ⟨_, he, fun v q => nomatch q⟩
    · exact hi.ob
  keep := fun i h h' st k => by
    obtain ⟨⟨old, he⟩, hi, hne⟩ := st
    exact ⟨⟨old, k e (by simp) _ he⟩, hi.at fun o q => k it (by simp) o q, hne⟩
  item := by
    intro X hP hw hK hc i pins s σ H E I hf st hg
    subst hP hw hK
    obtain ⟨⟨old, he⟩, hit, hne, hai, hea⟩ := st
    obtain ⟨xs, x, hq, hx⟩ := hg
    obtain ⟨its, rv, p, hz⟩ := seq_at I hq
    obtain ⟨u, hu, ru⟩ := rv.get hx
    obtain ⟨St, D⟩ := enDr (prog := X.prog) (w := X.w) (A := X.A.in1) (I.ok.hd hc) tp it a hai its.toArray
    have hel : e < s.heap.objs.size := Heap.lt_size he
    have hil : it < s.heap.objs.size := by obtain ⟨_, q, _⟩ := hit.ob; exact Heap.lt_size q
    have hlt : i < its.toArray.size := by
      have := (List.getElem?_eq_some_iff.mp hu).1
      simpa using this
    refine wpAny_pyNext_enum_itemC D.D he (D.of i _ hit p) hlt hne (by simp [hne, hea]) fun y h' tk hy ho st' hT hsz hk => ?_
    have ey : y = u := by
      have z : its.toArray[i]? = some y := hy
      rw [show its.toArray[i]? = its[i]? by simp, hu] at z
      exact (Option.some.inj z).symm
    subst ey
    refine ⟨_, rfl, wpAny_letOwnedTupleGo_enum (s := { s with heap := h', toks := tk + 1 }) ho fun h'' he' sb => ?_⟩
    have hT2 : h''.get? s.heap.objs.size = some { cls := .type "tuple", data := .seq #[.int (c + (i : Nat)) tk, y] } := (sb.2 _ (Nat.ne_of_gt hel)).trans hT
    have new : ObjOk X.prog X.w (upd H s.heap.objs.size (.tup [.int (c + (i : Nat)), x])) h'' s.heap.objs.size (.tup [.int (c + (i : Nat)), x]) :=
      ⟨by show 2 ≤ sizeLine; decide, [.int (c + (i : Nat)) tk, y], .cons ⟨_, rfl⟩ (.cons ru .nil), ⟨_, hT2, rfl, _, rfl⟩⟩
    have I1 : Inv X pins σ (upd H s.heap.objs.size (.tup [.int (c + (i : Nat)), x])) { s with heap := h'', toks := tk + 1 } :=
      I.turnedNew (ch := [e, it]) (fun b ob hb q => (sb.2 b (fun z => hb (by simp [z]))).trans (hk b ob (fun z => hb (by simp [z])) (fun z => hb (by simp [z])) q)) hf (Nat.le_refl _) new
    refine ⟨.ref s.heap.objs.size, _, I1, rfl, ⟨_, x, rfl, I.hok.fresh (Nat.le_refl _), rfl, fun ys hy => by rw [seq_inj I hy hq]; exact hx⟩, ⟨⟨y, ?_⟩, (D.to _ _ st').at fun o q => (sb.2 it (Ne.symm hne)).trans q, hne, hai, hea⟩, fun b hb => ?_⟩
    · rw [show c + ((i + 1 : Nat) : Int) = c + (i : Int) + 1 by omega]; exact he'
    · have hb' : b < s.heap.objs.size := by
        rcases (show b = e ∨ b = it by simpa using hb) with rfl | rfl
        · exact hel
        · exact hil
      rw [upd_ne (Nat.ne_of_lt hb')]
      exact (hf b hb).1
  done := by
    intro X hP hw hK hc i pins s σ H E I hf st hg
    subst hP hw hK
    obtain ⟨⟨old, he⟩, hit, hne, hai, hea⟩ := st
    obtain ⟨xs, hq, hx⟩ := hg
    obtain ⟨its, rv, p, hz⟩ := seq_at I hq
    obtain ⟨f0, f1, f2, f3, f4, f5⟩ := hf it (by simp)
    obtain ⟨St, D⟩ := enDr (prog := X.prog) (w := X.w) (A := X.A.in1) (I.ok.hd hc) tp it a hai its.toArray
    have ei : its.toArray.size = i := by rw [List.size_toArray, ← rv.length]; exact hx
    refine wpAny_pyNext_enum_endD D.D he (by rw [ei]; exact D.of i _ hit p) fun h' eb => ⟨rfl, I.turned (t' := s.toks) (fun b o hb q => eb b o hb q) f0 f1 f3 f4 f5⟩
  self := fun A i s Q E st h => let ⟨⟨_, he⟩, _⟩ := st; wpAny_pyIter_enum he h
def iEnS (K : PySem.W.Frag) (c : Int) (ta : TA) : TI := fun σ H R => ta σ H fun vs H1 => ∃ (a : Addr) (tp : Bool) (xs : List V), vs = [.ref a] ∧ (if tp = true then SqT K H1 a xs else SqL K H1 a xs) ∧ R (IteS K tp a c) H1
section
variable {X : Cx} {e : Expr} {ta : TA} {p pos tpos kp bp : Pos} {elts : List Expr} {kk : Nat} {c : Int} {kt : Nat}
theorem pi_enS (hg : Gl X "enumerate") (hm : X.mg "enumerate" = none) (hc0 : 0 ≤ c) (hc1 : c < 1000) (ha : PA X [e] ta) (hs : starEach [e] X.env = (false, eval e X.env) :: starEach [] X.env := by rfl)
    (hall : (backToKw pos (keywordEach [⟨some (Str.ofString "start"), .Constant (.int c) kt bp, kp⟩] X.env)).all (·.1.isSome) = true := by rfl)
    (hnone : (backToKw pos (keywordEach [⟨some (Str.ofString "start"), .Constant (.int c) kt bp, kp⟩] X.env)).any (·.1.isNone) = false := by rfl)
    (hks : (backToKw pos (keywordEach [⟨some (Str.ofString "start"), .Constant (.int c) kt bp, kp⟩] X.env)).filterMap (·.1) = [Str.ofString "start"] := by rfl) :
    PI X (.Tuple elts kk tpos) (.Call (.Name "enumerate" p) [e] [⟨some (Str.ofString "start"), .Constant (.int c) kt bp, kp⟩] pos) (iEnS X.K c ta) := by
  refine ⟨fun pins s σ H R I h => ?_⟩
  refine wpAny_Call_Name_kw (ld_blt I hg hm boot_enumerate ?_ (by decide) (by decide))
  refine callWith_tyK (by rw [hs]; rfl) (by rw [hs]; rfl) hall hnone (thn (ha.run pos pins s σ H _ I h) fun us s1 hq1 => ?_)
  obtain ⟨vs, H1, I1, r1, a, tp, xs, ex, hq, q⟩ := hq1
  subst ex
  have hk : PK X [⟨some (Str.ofString "start"), .Constant (.int c) kt bp, kp⟩] (tCons (tC (.int c)) tNil) := pk_cons pe_int pk_nil
  refine thn (hk.run pos pins s1 σ H1 (fun ws H2 => ws = [.int c] ∧ H2 = H1) I1 ⟨rfl, rfl⟩) fun ks s2 hks2 => ?_
  obtain ⟨ws, H2, I2, r2, rfl, rfl⟩ := hks2
  rw [hks]
  obtain ⟨u, rfl, ru⟩ := vals1 r1
  cases ru
  obtain ⟨k, rfl, t, rfl⟩ := vals1 r2
  obtain ⟨its, rv, p', hz⟩ := seq_at I2 hq
  have fin : ∀ h', IsEnum h' (s2.heap.objs.size + 1) s2.heap.objs.size c .none → EnIt tp h' s2.heap.objs.size a 0 → (∀ b o, s2.heap.get? b = some o → h'.get? b = some o) → a < s2.heap.objs.size →
      wpAny (model X.prog X.w) X.A (pyIter (.ref (s2.heap.objs.size + 1))) (PIE X pins σ (.Tuple elts kk tpos) R) X.xe { s2 with heap := h' } := fun h' he hit hk' hal => by
    refine wpAny_pyIter_enum he ?_
    have I3 : Inv X pins σ H2 { s2 with heap := h' } := I2.kept (t' := s2.toks) hk'
    have he' : IsEnum h' (s2.heap.objs.size + 1) s2.heap.objs.size (c + ((0 : Nat) : Int)) .none := by
      rw [show c + ((0 : Nat) : Int) = c by omega]; exact he
    refine ⟨s2.heap.objs.size + 1, [s2.heap.objs.size + 1, s2.heap.objs.size], _, _, H2, rfl, I3, turn_enumS tp a (s2.heap.objs.size + 1) s2.heap.objs.size c, ⟨⟨.none, he'⟩, hit, Nat.succ_ne_self _, Nat.ne_of_lt hal, Ne.symm (Nat.ne_of_lt (Nat.lt_succ_of_lt hal))⟩, fun b hb => ?_, q⟩
    have hle : s2.heap.objs.size ≤ b := by
      rcases (show b = s2.heap.objs.size + 1 ∨ b = s2.heap.objs.size by simpa using hb) with rfl | rfl
      · exact Nat.le_add_right _ _
      · exact Nat.le_refl _
    exact I2.fpOk hle (I2.hok.fresh hle)
  cases tp with
  | true =>
    rw [if_pos rfl] at p'
    have hal : a < s2.heap.objs.size := by obtain ⟨o, ho, _⟩ := p'; exact Heap.lt_size ho
    refine enum_begins_start (begins_tuple a its.toArray) p' (by omega) (by omega) fun h' he hi hsz hk' => fin h' he ?_ hk' hal
    unfold EnIt
    rw [if_pos rfl]
    exact ⟨_, hi, rfl, rfl⟩
  | false =>
    rw [if_neg (by decide)] at p'
    have hal : a < s2.heap.objs.size := by obtain ⟨o, ho, _⟩ := p'; exact Heap.lt_size ho
    refine enum_begins_start (begins_list a its.toArray) p' (by omega) (by omega) fun h' he hi hsz hk' => fin h' he ?_ hk' hal
    unfold EnIt
    rw [if_neg (by decide)]
    exact ⟨_, hi, rfl, rfl⟩
end
end KL
namespace KL
open PySem L2
variable [Tabs]
def enL (c : Int) (xs : List D) : List D := xs.zipIdx.map fun p => .pr [.int (c + (p.2 : Nat)), p.1]
/-- a list or a tuple as the one argument -/
def seq1? : List D → Option (Bool × List D)
  | [.lst xs] => some (false, xs)
  | [.tup xs] => some (true, xs)
  | _ => none
def itEnS (c : Int) (f : M (List Od)) : M (List D) := fun ρ => bnd (f ρ) fun os ρ1 => match (vals? os).bind seq1? with
  | some p => .ok (enL c p.2) ρ1
  | none => .bad
theorem seq1_of {ds : List D} {p : Bool × List D} (h : seq1? ds = some p) : ds = [if p.1 = true then .tup p.2 else .lst p.2] := by
  unfold seq1? at h
  split at h <;> cases h <;> rfl
theorem yld_enS {K : PySem.W.Frag} {mg : MgT} {H : Hp} {B : Ad} {a : Addr} {xs : List D} {vs : List V} {tp : Bool} {c : Int} (hs : ∀ B' H', FE B H B' H' → if tp = true then SqT K H' a vs else SqL K H' a vs) (r : RepL K mg H B xs vs) : Yld K mg (IteS K tp a c) B H (enL c xs) := fun B' H' fe i => by
  have sq := hs B' H' fe
  refine ⟨fun d e => ?_, fun e => ⟨vs, sq, by rw [← r.length, e]; simp [enL]⟩⟩
  unfold enL at e
  rw [List.getElem?_map, List.getElem?_zipIdx] at e
  cases e1 : xs[i]? with
  | none => rw [e1] at e; cases e
  | some x =>
    rw [e1] at e
    have ed : d = .pr [.int (c + (i : Nat)), x] := by
      have := (Option.some.inj e).symm
      simpa using this
    subst ed
    obtain ⟨v, e2, rv⟩ := r.get e1
    refine ⟨⟨vs, v, sq, e2⟩, fun y H'' z => ?_⟩
    obtain ⟨T, w, rfl, hT, rfl, z⟩ := z
    have ex := z vs sq
    rw [e2] at ex
    cases ex
    refine ⟨ext_upd hT, fun al => ?_⟩
    have fe2 : FE B' H' B' (upd H' T (.tup [.int (c + (i : Nat)), v])) := fe_new hT
    exact .pr (fun q => al T q hT) upd_same (.cons (.int _) (.cons (Rep.mono (fe.trans fe2) rv) .nil))
theorem ri_enS {X : Cx} {e : Expr} {f : M (List Od)} {p pos tpos kp bp : Pos} {elts : List Expr} {kk : Nat} {c : Int} {kt : Nat} (hg : Gl X "enumerate") (hm : X.mg "enumerate" = none) (hc0 : 0 ≤ c) (hc1 : c < 1000) (ha : RA X [e] f) (hs : starEach [e] X.env = (false, eval e X.env) :: starEach [] X.env := by rfl)
    (hall : (backToKw pos (keywordEach [⟨some (Str.ofString "start"), .Constant (.int c) kt bp, kp⟩] X.env)).all (·.1.isSome) = true := by rfl)
    (hnone : (backToKw pos (keywordEach [⟨some (Str.ofString "start"), .Constant (.int c) kt bp, kp⟩] X.env)).any (·.1.isNone) = false := by rfl)
    (hks : (backToKw pos (keywordEach [⟨some (Str.ofString "start"), .Constant (.int c) kt bp, kp⟩] X.env)).filterMap (·.1) = [Str.ofString "start"] := by rfl) :
    RI X (.Tuple elts kk tpos) (.Call (.Name "enumerate" p) [e] [⟨some (Str.ofString "start"), .Constant (.int c) kt bp, kp⟩] pos) (itEnS c f) := by
  refine ⟨fun Wi tk => pi_imp (pi_enS hg hm hc0 hc1 (ha.run Wi tk) hs hall hnone hks) fun σ H R q => ?_⟩
  obtain ⟨S, hS, rfl, rfl, q⟩ := q
  refine ⟨S, hS, rfl, rfl, q.bnd fun os S1 es g _ q1 vs rv => ?_⟩
  cases e1 : vals? os with
  | none => simp only [e1, Option.bind_none] at q1; exact q1.elim
  | some ds =>
    cases e2 : seq1? ds with
    | none => simp only [e1, Option.bind_some, e2] at q1; exact q1.elim
    | some p =>
      simp only [e1, Option.bind_some, e2] at q1
      have r := vals_rep rv e1
      rw [seq1_of e2] at r
      obtain ⟨tp, xs⟩ := p
      cases r with
      | cons r rn =>
        cases rn
        cases tp with
        | true =>
          obtain ⟨a, ws, rfl, r, h⟩ := rep_tup (show Rep X.K X.mg S1.H S1.B (.tup xs) _ from r)
          exact ⟨a, true, ws, rfl, h _ _ FE.refl, q1 S1 rfl es g _ (yld_enS (tp := true) h r)⟩
        | false =>
          obtain ⟨a, ws, rfl, hb, h, r⟩ := rep_list (show Rep X.K X.mg S1.H S1.B (.lst xs) _ from r)
          exact ⟨a, false, ws, rfl, .inl (.inl h), q1 S1 rfl es g _ (yld_enS (tp := false) (fun B' H' fe => .inl (.inl (fe.keep _ _ h hb trivial))) r)⟩
end KL
end

section
set_option Elab.async false
set_option linter.all false
set_option maxRecDepth 100000
set_option maxHeartbeats 2000000
namespace KL
open PySem L2
variable [Tabs]
/-! ### range(a, b, -1) -/
def downL (hi : Int) (n : Nat) : List D := (List.range n).map fun k => .int (hi + (k : Nat) * (-1))
theorem yld_down {K : PySem.W.Frag} {mg : MgT} {H : Hp} {B : Ad} {hi : Int} {n : Nat} : Yld K mg (Itc hi (-1) n) B H (downL hi n) := fun B' H' fe i => by
  refine ⟨fun d e => ?_, fun e => by simp [downL] at e; exact Nat.le_of_eq e.symm⟩
  unfold downL at e
  rw [List.getElem?_map] at e
  by_cases c : i < n
  · rw [List.getElem?_range c] at e
    cases e
    refine ⟨c, fun x H'' z => ?_⟩
    obtain ⟨rfl, rfl⟩ := z
    exact ⟨fun _ _ q => q, fun _ => .int _⟩
  · rw [List.getElem?_eq_none (by simpa using c)] at e; cases e
def i3? : List D → Option (Int × Int)
  | [.int i, .int j, .int c] => if c = -1 then some (i, j) else none
  | _ => none
theorem i3_of {ds : List D} {p : Int × Int} (h : i3? ds = some p) : ds = [.int p.1, .int p.2, .int (-1)] := by
  unfold i3? at h
  split at h
  · split at h
    · rename_i c
      cases h; rw [c]
    · cases h
  · cases h
def itR3 (f : M (List Od)) : M (List D) := argM f i3? fun p ρ1 => if (okR p.1 && okR p.2) = true then .ok (downL p.1 (p.1 - p.2).toNat) ρ1 else .bad
theorem ri_range3 {X : Cx} {tg a b c : Expr} {f : M (List Od)} {p pos : Pos} (hg : Gl X "range") (hm : X.mg "range" = none) (ha : RA X [a, b, c] f) (hs : starEach [a, b, c] X.env = (false, eval a X.env) :: starEach [b, c] X.env := by rfl) (hpl : (backTo pos (starEach [b, c] X.env)).any (·.1) = false := by rfl) :
    RI X tg (.Call (.Name "range" p) [a, b, c] [] pos) (itR3 f) := by
  refine ⟨fun Wi tk => pi_imp (pi_range3 hg hm (ha.run Wi tk) hs hpl) fun σ H R q => ?_⟩
  obtain ⟨S, hS, rfl, rfl, q⟩ := q
  refine ⟨S, hS, rfl, rfl, sat_arg hS q fun os S1 ds j es g e e2 q1 vs rv => ?_⟩
  have op := opnL_of g.rel rv e
  rw [i3_of e2] at op
  obtain ⟨v, w, u, rfl, o1, o2, o3⟩ := opnL3 op
  by_cases c : (okR j.1 && okR j.2) = true
  · rw [if_pos c] at q1
    simp only [okR, Bool.and_eq_true, decide_eq_true_eq] at c
    rw [o1.int, o2.int, o3.int]
    exact ⟨j.1, j.2, -1, _, rfl, RgC.neg (by omega) (by omega) (by omega) (by omega), q1 S1 rfl es g _ yld_down⟩
  · rw [if_neg c] at q1; exact q1.elim
/-! ### a, b = x, y -/
def parS (i j : Nat) (f : M (List Od)) : SM := fun ρ => bndS (f ρ) fun os ρ1 => match vals? os with
  | some [d, e] => if (notIo ρ1 i && notIo (ρ1.set i (.va d)) j) = true then .nx ((ρ1.set i (.va d)).set j (.va e)) else .bad
  | _ => .bad
theorem rs_par {X : Cx} {i j : Nat} {x y : Str} {a b : Expr} {f : M (List Od)} {px py pt pos : Pos} {kt k2 : Nat} {pt2 : Pos} (hc : X.calm = true) (hN : X.N.Nodup) (hi : X.N[i]? = some x) (hj : X.N[j]? = some y) (hij : i ≠ j) (hx : X.env.scope.names.lookup x = some .local) (hy : X.env.scope.names.lookup y = some .local)
    (ha : RA X [a, b] f) (hw : swappedStores [.Tuple [.Name x px, .Name y py] kt pt] (.Tuple [a, b] k2 pt2) X.env = pure (some [x, y]) := by rfl) (hs : swapsWithSole [.Tuple [.Name x px, .Name y py] kt pt] (.Tuple [a, b] k2 pt2) pos.line X.env = pure false := by rfl) :
    RS X (.Assign [.Tuple [.Name x px, .Name y py] kt pt] (.Tuple [a, b] k2 pt2) pos) (parS i j f) := by
  refine ⟨fun Wi tk => ps_imp (ps_par hc hN hi hj hij hx hy (ha.run Wi tk) hw hs) fun D σ H q => ?_⟩
  obtain ⟨S, hS, rfl, rfl, q⟩ := q
  refine ⟨S, hS, rfl, rfl, q.bnd fun os S1 es g _ q1 vs rv => ?_⟩
  cases e1 : vals? os with
  | none => simp only [e1] at q1; exact q1.elim
  | some ds =>
    match ds, e1 with
    | [d, e], e1 =>
      simp only [e1] at q1
      split at q1
      · rename_i c
        simp only [Bool.and_eq_true] at c
        have r := vals_rep rv e1
        cases r with
        | @cons _ _ v _ r1 r =>
          cases r with
          | @cons _ _ w _ r2 r =>
            cases r
            refine ⟨v, w, rfl, ?_⟩
            have g1 := go_put (a := .fz d) hS g (show RepV X.K X.mg S S1 (.fz d) v from r1) c.1
            have fe := g1.tr.fe
            have g2 := go_put (a := .fz e) (S1 := ⟨S1.B, S1.ρ.set i (.va d), S1.σ.set i (some v), S1.H⟩) hS g1 (show RepV X.K X.mg S _ (.fz e) w from r2) c.2
            rw [← es]
            exact q1 _ rfl g2
      · exact q1.elim
    | [], e1 => simp only [e1] at q1; exact q1.elim
    | [_], e1 => simp only [e1] at q1; exact q1.elim
    | _ :: _ :: _ :: _, e1 => simp only [e1] at q1; exact q1.elim
/-! ### xs.extend(ys) -/
def gExtend : Upd
  | xs, [.lst ys] => if xs.length + ys.length ≤ 1000000 then some (.non, xs ++ ys) else none
  | _, _ => none
theorem mu_extend {K : PySem.W.Frag} {mg : MgT} : Mut_ K mg rExtend gExtend := fun H B l xs vs ds us d ys Q h1 h2 h3 h4 f hb => by
  unfold gExtend at h4
  split at h4
  · split at h4
    · rename_i zs c
      cases h4
      cases h3 with
      | cons r rn =>
        cases rn
        obtain ⟨a, ws, rfl, nb, ha, rz⟩ := rep_list r
        exact ⟨l, a, vs, ws, rfl, rfl, h1, ha, by rw [← h2.length, ← rz.length]; exact big_ok c, f _ _ (h2.append rz) .non⟩
    · cases h4
  · cases h4
/-! ### e.f of an exception -/
def tXfT (K : PySem.W.Frag) (f : Str) (te : TE) : TE := fun σ H Q => te σ H fun x H1 => ∃ (a C dd : Addr) (fs : List (Str × V)) (v : V), x = .ref a ∧ H1 a = some (errO C a (some dd)) ∧ XfC K C ∧ PySem.W.findIn K (.ref C) f = some none ∧ H1 dd = some (.xd fs) ∧ fs.lookup f = some v ∧ Q v H1
theorem pe_xfT {X : Cx} {e : Expr} {te : TE} {pos : Pos} {n : Str} (he : PE X e te) (hb : attributeBase e n X.env (eval e X.env) = eval e X.env := by rfl) : PE X (.Attribute e n pos) (tXfT X.K n te) := by
  refine ⟨fun pins s σ H Q I h => attr_of hb (thn (he.run pins s σ H _ I h) ?_)⟩
  rintro u s1 ⟨x, H1, I1, rx, a, C, dd, fs, v, rfl, ha, T, hno, ea, l, q⟩
  cases rx
  obtain ⟨oe, vs, g0, g1, g2, g3⟩ := (I1.hok a _ ha).1
  obtain ⟨mA, hns, hr⟩ := (show ObjOk X.prog X.w H1 s1.heap dd (.xd fs) from I1.hok dd _ ea)
  obtain ⟨od, ho, hl⟩ := lookIn_ns hns
  obtain ⟨u, hu, ru⟩ := RelO.some_of (v := v) (o := mA n) (by rw [← l]; exact hr n)
  have J : PySem.W.InstAt s1.heap a oe C (some od) := ⟨g0, g1, by unfold PySem.W.notCls; rw [g3] <;> rfl, by rw [g2]; exact ho⟩
  exact HandSPX.exc_get I1.kIn J T.ga T.gg T.exC (PySem.W.findObj_own T.hdC hno rfl (by rw [hl, hu])) (handed_of ru) ⟨v, H1, I1.tok _, ru, q⟩
def atP (ok : Str → Bool) (f : Str) : D → Option Vl
  | .err c fs => if ok c = true then (fs.lookup f).map .fz else none
  | _ => none
theorem RepF.lookup {K : PySem.W.Frag} {mg : MgT} {H : Hp} {B : Ad} {f : Str} {d : D} : ∀ {fs : List (Str × D)} {gs : List (Str × V)}, RepF K mg H B fs gs → fs.lookup f = some d → ∃ v, gs.lookup f = some v ∧ Rep K mg H B d v
  | _, _, .nil, h => by cases h
  | (x, d') :: _, (_, v) :: _, .cons a r, h => by
    simp only [List.lookup] at h ⊢
    cases c : f == x with
    | true => rw [c] at h; cases h; exact ⟨v, rfl, a⟩
    | false => rw [c] at h; exact r.lookup h
theorem re_att {X : Cx} {e : Expr} {fo : M Od} {pos : Pos} {n : Str} {ok : Str → Bool} (ho : RO X e fo) (hX : ∀ (c : Str) (C : Addr), ok c = true → X.mg c = some (.ref C) → XfC X.K C ∧ PySem.W.findIn X.K (.ref C) n = some none) (hb : attributeBase e n X.env (eval e X.env) = eval e X.env := by rfl) :
    RE X (.Attribute e n pos) (un1 (atP ok n) fo) := by
  refine ⟨fun Wi tk => pe_imp (pe_xfT (ho.run Wi tk) hb) fun σ H Q q => ?_⟩
  obtain ⟨S, hS, rfl, rfl, q⟩ := q
  refine ⟨S, hS, rfl, rfl, q.bnd fun a S1 es1 g1 _ q1 x rx => ?_⟩
  have q2 := q1.vfrom hS g1 es1
  unfold app1 ofO atP at q2
  cases e1 : a.get S1.ρ with
  | none => simp only [e1] at q2; exact q2.elim
  | some d =>
    have o := opn_of g1.rel rx e1
    cases d with
    | err c fs =>
      by_cases cok : ok c = true
      · cases e2 : fs.lookup n with
        | none => simp only [e1, if_pos cok, e2, Option.map_none] at q2; exact q2.elim
        | some d =>
          simp only [e1, if_pos cok, e2, Option.map_some] at q2
          have o : Rep X.K X.mg S1.H S1.B (.err c fs) x := o
          cases o with
          | err0 _ _ _ => cases e2
          | err h1 h2 h3 h4 h5 h6 =>
            obtain ⟨v, l, rv⟩ := h6.lookup e2
            obtain ⟨t1, t2⟩ := hX _ _ cok h3
            exact ⟨_, _, _, _, v, rfl, h4, t1, t2, h5, l, (fin_of q2).d g1.rel rv⟩
      · simp only [e1, if_neg cok] at q2; exact q2.elim
    | _ => simp only [e1] at q2; exact q2.elim
end KL
end

section
set_option Elab.async false
set_option linter.all false
set_option maxRecDepth 100000
set_option maxHeartbeats 2000000
/-! ### keyword-only parameters with defaults -/
namespace KL
open PySem L2
/-- the keyword-only parameters' values: (true, i) the i-th keyword's, (false, i) the i-th that lacks -/
def mixL {α : Type} (is : List (Bool × Nat)) (us mv ws : List α) : List α := us ++ is.filterMap fun p => if p.1 = true then ws[p.2]? else mv[p.2]?
def mixK (is : List (Bool × Nat)) (md : List D) : List D → List D → List D := fun ds zs => mixL is ds md zs
theorem mixL_vals {is : List (Bool × Nat)} {vs mz zs : List V} {us mv ws : List Value} (r : Vals vs us) (m : Vals mz mv) (q : Vals zs ws) : Vals (mixL is vs mz zs) (mixL is us mv ws) := by
  refine r.append ?_
  induction is with
  | nil => exact .nil
  | cons p is ih =>
    have step : ∀ {as : List V} {bs : List Value} (x : Vals as bs) (i : Nat), (∃ a b, as[i]? = some a ∧ bs[i]? = some b ∧ RelV a b) ∨ (as[i]? = none ∧ bs[i]? = none) := fun {as bs} x i => by
      cases e : as[i]? with
      | none =>
        refine .inr ⟨rfl, ?_⟩
        rw [List.getElem?_eq_none_iff] at e ⊢
        rw [← x.length]; exact e
      | some a =>
        obtain ⟨b, h1, h2⟩ := x.get e
        exact .inl ⟨a, b, rfl, h1, h2⟩
    simp only [List.filterMap_cons]
    cases hp : p.1 with
    | true =>
      rcases step q p.2 with ⟨a, b, h1, h2, h3⟩ | ⟨h1, h2⟩
      · simp only [if_true, h1, h2]; exact .cons h3 ih
      · simp only [if_true, h1, h2]; exact ih
    | false =>
      rcases step m p.2 with ⟨a, b, h1, h2, h3⟩ | ⟨h1, h2⟩
      · simp only [Bool.false_eq_true, if_false, h1, h2]; exact .cons h3 ih
      · simp only [Bool.false_eq_true, if_false, h1, h2]; exact ih
theorem mixL_rep [Tabs] {K : PySem.W.Frag} {mg : MgT} {H : Hp} {B : Ad} {is : List (Bool × Nat)} {ds md zs : List D} {vs mz us : List V} (r : RepL K mg H B ds vs) (m : RepL K mg H B md mz) (q : RepL K mg H B zs us) : RepL K mg H B (mixL is ds md zs) (mixL is vs mz us) := by
  refine r.append ?_
  induction is with
  | nil => exact .nil
  | cons p is ih =>
    have step : ∀ {as : List D} {bs : List V} (x : RepL K mg H B as bs) (i : Nat), (∃ a b, as[i]? = some a ∧ bs[i]? = some b ∧ Rep K mg H B a b) ∨ (as[i]? = none ∧ bs[i]? = none) := fun {as bs} x i => by
      cases e : as[i]? with
      | none =>
        refine .inr ⟨rfl, ?_⟩
        rw [List.getElem?_eq_none_iff] at e ⊢
        rw [← x.length]; exact e
      | some a =>
        obtain ⟨b, h1, h2⟩ := x.get e
        exact .inl ⟨a, b, rfl, h1, h2⟩
    simp only [List.filterMap_cons]
    cases hp : p.1 with
    | true =>
      rcases step q p.2 with ⟨a, b, h1, h2, h3⟩ | ⟨h1, h2⟩
      · simp only [if_true, h1, h2]; exact .cons h3 ih
      · simp only [if_true, h1, h2]; exact ih
    | false =>
      rcases step m p.2 with ⟨a, b, h1, h2, h3⟩ | ⟨h1, h2⟩
      · simp only [Bool.false_eq_true, if_false, h1, h2]; exact .cons h3 ih
      · simp only [Bool.false_eq_true, if_false, h1, h2]; exact ih
section
variable {K : PySem.W.Frag} {x qual : Str} {params : Arguments} {body : List Stmt} {scope : Scope} {kws : List (Str × V)} {f : Addr} {fd : FuncData} {ps : List Str}
/-- n positional values, keywords ks, of the keyword-only parameters ms lack -/
theorem kbnM (F : FunD K x qual params body scope [] kws f fd) (n : Nat) (ks : List Str) (ms : List (Str × V)) (is : List (Bool × Nat)) (hk : kws ≠ []) (hms : ∀ q ∈ ms, q ∈ kws)
    (h : ∀ (D : Addr) (doc pm : Value) (an : Option Addr) (cdv ct : Value) (us mv ws : List Value), us.length = n → mv.length = ms.length → ws.length = ks.length →
      KwChain D ((ms.map (·.1)).zip mv) (bindArgs (PySem.W.fnOf x qual params body scope .none (.ref D) doc pm an cdv ct) ⟨us, ks.zip ws⟩) (ps.zip (mixL is us mv ws))) :
    ∃ mv : List Value, Vals (ms.map (·.2)) mv ∧ KBn K fd ps n ks (fun us ws => mixL is us mv ws) (fun vs zs => mixL is vs (ms.map (·.2)) zs) := by
  obtain ⟨oc, od, dV, kV, doc, pm, an, cdv, ct, osl, rfl, lk, hcd, hD, hK⟩ := F.ex
  rcases hD with ⟨_, rfl⟩ | ⟨e, _⟩
  · rcases hK with e | ⟨D, rfl, hq⟩
    · exact absurd e hk
    · obtain ⟨mv, hl, rk, hks⟩ := kwd_vals (ms := ms) fun q hm => hq q (hms q hm)
      refine ⟨mv, rk, ⟨fun s us ws X l1 l2 => ?_, fun r1 r2 => mixL_vals r1 rk r2⟩⟩
      exact BindsTo.of_looks fun M => KwChain.looks X hks (h D doc pm an cdv ct us mv ws l1 hl l2)
  · exact absurd rfl e
end
end KL
end

section
set_option Elab.async false
set_option linter.all false
set_option maxRecDepth 100000
set_option maxHeartbeats 2000000
/-! ### facts of own classes of errors, read off the head -/
namespace KL
open PySem L2
/-- the errors' names -/
def errCs : List Str := ["KeenError", "InvalidLot", "InvalidRow", "InvalidNumber", "InvalidOption", "InvalidList", "InvalidDays", "InvalidEvents", "InvalidBook", "InvalidName", "TooLarge", "NothingToUndo", "InvalidPicks", "MissingTool", "CannotDo", "Impossible", "TooSharp", "UnknownName", "DuplicateName"]
/-- is x the class y or below it? -/
def subO (y : Str) : Str → Option Bool := fun x => if x ∈ errCs then some (decide (x = y) || decide (y = "KeenError")) else none
/-- .. below a built-in class -/
def subV : Str → Option Bool := fun x => if x ∈ errCs then some true else none
/-- no value of data but an error is an error -/
def tyF (t : String) : Option Bool := if t = "NoneType" ∨ t = "bool" ∨ t = "int" ∨ t = "str" ∨ t = "list" ∨ t = "tuple" then some false else none
def tyNs : List String := ["NoneType", "bool", "int", "str", "list", "tuple"]
def oexB (K : PySem.W.Frag) (C : Addr) : Bool := match K.lookup C with
  | some ⟨.type "type", _, .cls cd, sl⟩ => (match cd.mro, sl.toList with
    | .ref C' :: bm, [_, _, _, _, some (.builtin n), _] => C' == C && (n == "ValueError.__new__" && (!cd.hasDel && (cd.hasDict && PySem.HandSPX.refsVE bm)))
    | _, _ => false)
  | _ => false
theorem oexB_ok {K : PySem.W.Frag} {C : Addr} (q : oexB K C = true) : ∃ nm q N bs bm sn sub ab col dd k0 k1 k2 k3 k5, K.lookup C = some (PySem.excClassObj nm q C N bs bm true sn sub ab col dd k0 k1 k2 k3 k5 "ValueError.__new__") ∧ PySem.HandSPX.refsVE bm = true := by
  unfold oexB at q
  split at q
  · rename_i dd cd sl ho
    split at q
    · rename_i C' bm k0 k1 k2 k3 n k5 hm hs
      simp only [Bool.and_eq_true, beq_iff_eq, Bool.not_eq_true'] at q
      obtain ⟨rfl, rfl, hdel, hd1, hr⟩ := q
      obtain ⟨nm, bs, mro, ns, qn, hd, sn, sub, ab, col, del⟩ := cd
      dsimp only at hm hdel hd1
      subst hm hdel hd1
      have hsl : sl = #[k0, k1, k2, k3, some (.builtin "ValueError.__new__"), k5] := by
        obtain ⟨l⟩ := sl
        simp only at hs
        rw [hs]
      subst hsl
      exact ⟨nm, qn, ns, bs, bm, sn, sub, ab, col, dd, k0, k1, k2, k3, k5, ho, hr⟩
    · cases q
  · cases q
def eqS (a : Option (Option Value)) (b : Value) : Bool := decide (a = some (some b))
def excCB (K : PySem.W.Frag) (C : Addr) : Bool := eqS (PySem.W.findIn K (.ref C) "__getattribute__") (.builtin "BaseException.__getattribute__") && (decide (PySem.W.findIn K (.ref C) "__getattr__" = some none) && (decide (PySem.W.subIn K (.ref C) (.type "BaseException") = some true) && (PySem.W.hasDictIn K C &&
  (eqS (PySem.W.findIn K (.ref C) "__class__") (.builtin "object.__class__") && (eqS (PySem.W.specialIn K (.builtin "object.__class__") "__get__") (.builtin "getset_descriptor.__get__") && (decide (PySem.W.takesIn K (.builtin "object.__class__") = some true) && decide (PySem.W.mroIn K C (.type "object") = some true)))))))
theorem excCB_ok {K : PySem.W.Frag} {C : Addr} (q : excCB K C = true) : ExcC K C := by
  simp only [excCB, eqS, Bool.and_eq_true, decide_eq_true_eq] at q
  obtain ⟨h1, h2, h3, h4, h5, h6, h7, h8⟩ := q
  exact ⟨h1, h2, h3, h4, h5, h6, h7, h8⟩
/-- a class with a field-storing __init__ -/
def errNB (K : PySem.W.Frag) (x : Str) (fs : List Str) : Bool := oexB K (He.ga K x) && (eqS (PySem.W.findIn K (.ref (He.ga K x)) "__setattr__") (.builtin "object.__setattr__") && (decide (PySem.W.subIn K (.ref (He.ga K x)) (.type "BaseException") = some true) && (decide (PySem.W.typeIn K (.ref (He.ga K x)) = some (.type "type")) && (PySem.W.keepIn K (.ref (He.ga K x)) &&
  (eqS (PySem.W.findIn K (.ref (He.ga K x)) "__init__") (.ref (He.ma K (He.ga K x) "__init__")) && (decide (PySem.W.typeIn K (.ref (He.ma K (He.ga K x) "__init__")) = some (.type "function")) && fs.all fun f => decide (PySem.W.findIn K (.ref (He.ga K x)) f = some none)))))))
structure ErrN (K : PySem.W.Frag) (x : Str) (fs : List Str) : Prop where
  oex : OexC K (He.ga K x)
  ini : PySem.W.findIn K (.ref (He.ga K x)) "__init__" = some (some (.ref (He.ma K (He.ga K x) "__init__")))
  fn : PySem.W.typeIn K (.ref (He.ma K (He.ga K x) "__init__")) = some (.type "function")
  no : ∀ f ∈ fs, PySem.W.findIn K (.ref (He.ga K x)) f = some none
theorem errNB_ok {K : PySem.W.Frag} {x : Str} {fs : List Str} (q : errNB K x fs = true) : ErrN K x fs := by
  simp only [errNB, eqS, Bool.and_eq_true, decide_eq_true_eq, List.all_eq_true] at q
  obtain ⟨h1, h2, h3, h4, h5, h6, h7, h8⟩ := q
  exact ⟨⟨oexB_ok h1, h2, h3, h4, h5⟩, h6, h7, h8⟩
/-- isinstance(.., y), y an own class; ps: the own classes there are -/
def isiB (K : PySem.W.Frag) (ps : List Str) (y : Str) : Bool := (tyNs.all fun t => decide (PySem.W.kitOne K (.type t) (.ref (He.ga K y)) = some false)) && ps.all fun x => decide (PySem.W.kitOne K (.ref (He.ga K x)) (.ref (He.ga K y)) = some (decide (x = y) || decide (y = "KeenError"))) && excCB K (He.ga K x)
/-- isinstance(.., T), T a built-in class above all errors -/
def isiVB (K : PySem.W.Frag) (ps : List Str) (T : String) : Bool := (tyNs.all fun t => decide (PySem.W.kitOne K (.type t) (.type T) = some false)) && ps.all fun x => decide (PySem.W.kitOne K (.ref (He.ga K x)) (.type T) = some true) && excCB K (He.ga K x)
/-- except y -/
def catB (K : PySem.W.Frag) (ps : List Str) (y : Str) : Bool := ps.all fun x => decide (PySem.W.exmOne K (.ref (He.ga K x)) (.ref (He.ga K y)) = some (decide (x = y) || decide (y = "KeenError")))
/-- which own classes there are -/
structure Here (K : PySem.W.Frag) (mg : MgT) (ps : List Str) : Prop where
  is : ∀ x ∈ ps, mg x = some (.ref (He.ga K x))
  no : ∀ x ∈ errCs, x ∉ ps → mg x = none
theorem Here.ga {K : PySem.W.Frag} {mg : MgT} {ps : List Str} (h : Here K mg ps) {x : Str} {C : Addr} (e : mg x = some (.ref C)) (hx : x ∈ errCs) : x ∈ ps ∧ C = He.ga K x := by
  by_cases c : x ∈ ps
  · have z := h.is x c
    rw [e] at z
    exact ⟨c, by cases z; rfl⟩
  · rw [h.no x hx c] at e; cases e
theorem tyF_mem {t : String} {b : Bool} (h : tyF t = some b) : t ∈ tyNs ∧ b = false := by
  unfold tyF at h
  split at h
  · rename_i c
    cases h
    exact ⟨by simpa [tyNs] using c, rfl⟩
  · cases h
theorem isi_tab {K : PySem.W.Frag} {mg : MgT} {ps : List Str} {y : Str} (H : Here K mg ps) (q : isiB K ps y = true) : (∀ t b, tyF t = some b → PySem.W.kitOne K (.type t) (.ref (He.ga K y)) = some b) ∧ ∀ x C b, mg x = some (.ref C) → subO y x = some b → PySem.W.kitOne K (.ref C) (.ref (He.ga K y)) = some b ∧ ExcC K C := by
  simp only [isiB, Bool.and_eq_true, List.all_eq_true, decide_eq_true_eq] at q
  refine ⟨fun t b h => ?_, fun x C b e h => ?_⟩
  · obtain ⟨h1, rfl⟩ := tyF_mem h
    exact q.1 t h1
  · unfold subO at h
    split at h
    · rename_i c
      cases h
      obtain ⟨h1, rfl⟩ := H.ga e c
      exact ⟨(q.2 x h1).1, excCB_ok (q.2 x h1).2⟩
    · cases h
theorem isiV_tab {K : PySem.W.Frag} {mg : MgT} {ps : List Str} {T : String} (H : Here K mg ps) (q : isiVB K ps T = true) : (∀ t b, tyF t = some b → PySem.W.kitOne K (.type t) (.type T) = some b) ∧ ∀ x C b, mg x = some (.ref C) → subV x = some b → PySem.W.kitOne K (.ref C) (.type T) = some b ∧ ExcC K C := by
  simp only [isiVB, Bool.and_eq_true, List.all_eq_true, decide_eq_true_eq] at q
  refine ⟨fun t b h => ?_, fun x C b e h => ?_⟩
  · obtain ⟨h1, rfl⟩ := tyF_mem h
    exact q.1 t h1
  · unfold subV at h
    split at h
    · rename_i c
      cases h
      obtain ⟨h1, rfl⟩ := H.ga e c
      exact ⟨(q.2 x h1).1, excCB_ok (q.2 x h1).2⟩
    · cases h
theorem cat_tab {K : PySem.W.Frag} {mg : MgT} {ps : List Str} {y : Str} (H : Here K mg ps) (q : catB K ps y = true) : CatOk K mg (.ref (He.ga K y)) (subO y) := fun x C b e h => by
  simp only [catB, List.all_eq_true, decide_eq_true_eq] at q
  unfold subO at h
  split at h
  · rename_i c
    cases h
    obtain ⟨h1, rfl⟩ := H.ga e c
    exact q x h1
  · cases h
/-- which own classes have the field f, and in each of them nothing stands in its way -/
def attB (K : PySem.W.Frag) (cs : List Str) (f : Str) : Bool := cs.all fun x => xfB K (He.ga K x) && decide (PySem.W.findIn K (.ref (He.ga K x)) f = some none)
theorem att_tab {K : PySem.W.Frag} {mg : MgT} {ps cs : List Str} {f : Str} (H : Here K mg ps) (hs : ∀ x ∈ cs, x ∈ errCs) (q : attB K (cs.filter fun x => decide (x ∈ ps)) f = true) : ∀ (c : Str) (C : Addr), decide (c ∈ cs) = true → mg c = some (.ref C) → XfC K C ∧ PySem.W.findIn K (.ref C) f = some none := fun c C h e => by
  have hc := of_decide_eq_true h
  obtain ⟨h1, rfl⟩ := H.ga e (hs c hc)
  simp only [attB, List.all_eq_true, Bool.and_eq_true, decide_eq_true_eq] at q
  have z := q c (List.mem_filter.mpr ⟨hc, decide_eq_true h1⟩)
  exact ⟨xfB_ok z.1, z.2⟩
/-- a module's tuple of texts -/
def tupB (K : PySem.W.Frag) (x : Str) (ts : List Str) : Bool := match K.lookup (He.ga K x) with
  | some ⟨.type "tuple", none, .seq its _, _⟩ => decide (its.toList.length = ts.length) && (decide (its.size ≤ 1000) && (its.toList.zip ts).all fun p => match p.1 with
    | .str y _ => decide (y = p.2)
    | _ => false)
  | _ => false
structure GTup (K : PySem.W.Frag) (mg : MgT) (x : Str) (ts : List Str) : Prop where
  ex : ∃ a o, mg x = some (.ref a) ∧ K.lookup a = some o ∧ TupOb o ∧ ∀ H, SqT K H a (ts.map V.str)
theorem strs_vals : ∀ (its : List Value) (ts : List Str), its.length = ts.length → (∀ p ∈ its.zip ts, (match p.1 with
    | .str y _ => decide (y = p.2)
    | _ => false) = true) → Vals (ts.map V.str) its
  | [], [], _, _ => .nil
  | u :: its, t :: ts, hl, h => by
    have h1 := h (u, t) (by simp)
    refine .cons ?_ (strs_vals its ts (by simpa using hl) fun p hp => h p (by simp [hp]))
    cases u with
    | str y k =>
      simp only [decide_eq_true_eq] at h1
      subst h1
      exact ⟨k, rfl⟩
    | _ => cases h1
theorem tup_tab {K : PySem.W.Frag} {mg : MgT} {x : Str} {ts : List Str} (e : mg x = some (.ref (He.ga K x))) (q : tupB K x ts = true) : GTup K mg x ts := by
  unfold tupB at q
  split at q
  · rename_i its n sl ho
    simp only [Bool.and_eq_true, decide_eq_true_eq, List.all_eq_true] at q
    refine ⟨⟨_, _, e, ho, ⟨rfl, rfl⟩, fun H => .inr ⟨_, its, n, ho, rfl, rfl, Nat.le_trans q.2.1 (by decide), strs_vals _ _ q.1 q.2.2⟩⟩⟩
  · cases q
/-- a tuple of texts -/
def strT (ts : List Str) : D := .tup (ts.map .str)
variable [Tabs]
theorem strs_rep {K : PySem.W.Frag} {mg : MgT} {H : Hp} {B : Ad} : ∀ ts : List Str, RepL K mg H B (ts.map .str) (ts.map V.str)
  | [] => .nil
  | t :: ts => .cons (.str t) (strs_rep ts)
theorem re_globS {X : Cx} {x : Str} {ts : List Str} {pos : Pos} (hg : Gl X x) (t : GTup X.K X.mg x ts) (hd : (x == ("__debug__" : Str)) = false := by decide) : RE X (.Name x pos) (cE (strT ts)) := by
  obtain ⟨a, o, h1, h2, h3, h4⟩ := t.ex
  refine re_globT hg h1 h2 h3 h4 (fun H B => ?_) hd
  exact strs_rep ts
theorem re_isiC {X : Cx} {e : Expr} {f : M Od} {y : Str} {ps : List Str} {q cp pos : Pos} (ha : RO X e f) (hg : Gl X "isinstance") (hm : X.mg "isinstance" = none) (hgy : Gl X y) (H : Here X.K X.mg ps) (hy : y ∈ ps) (qq : isiB X.K ps y = true) (hdb : (y == ("__debug__" : Str)) = false := by decide)
    (hs : starEach [e, .Name y cp] X.env = (false, eval e X.env) :: starEach [.Name y cp] X.env := by rfl) (hs2 : starEach [.Name y cp] X.env = (false, eval (.Name y cp) X.env) :: starEach [] X.env := by rfl) (hpl : (backTo pos (starEach [.Name y cp] X.env)).any (·.1) = false := by rfl) :
    RE X (.Call (.Name "isinstance" q) [e, .Name y cp] [] pos) (un1 (isiP tyF (subO y)) f) := by
  obtain ⟨t1, t2⟩ := isi_tab H qq
  exact re_isi ha (pe_glob (v := .ref (He.ga X.K y)) hgy (H.is y hy) rfl hdb) (.own _) t1 t2 hg hm hs hs2 hpl
theorem re_isiV {X : Cx} {e : Expr} {f : M Od} {n : Str} {T : String} {ps : List Str} {q cp pos : Pos} (ha : RO X e f) (hg : Gl X "isinstance") (hm : X.mg "isinstance" = none) (hgn : Gl X n) (hmn : X.mg n = none) (H : Here X.K X.mg ps) (qq : isiVB X.K ps T = true) (hv : bootBuiltins n = some (.type T) := by rfl) (hnn : n ≠ "__name__" := by decide) (hd : (n == ("__debug__" : Str)) = false := by decide)
    (hs : starEach [e, .Name n cp] X.env = (false, eval e X.env) :: starEach [.Name n cp] X.env := by rfl) (hs2 : starEach [.Name n cp] X.env = (false, eval (.Name n cp) X.env) :: starEach [] X.env := by rfl) (hpl : (backTo pos (starEach [.Name n cp] X.env)).any (·.1) = false := by rfl) :
    RE X (.Call (.Name "isinstance" q) [e, .Name n cp] [] pos) (un1 (isiP tyF subV) f) := by
  obtain ⟨t1, t2⟩ := isiV_tab H qq
  exact re_isi ha (pe_bltn (v := .ty T) hgn hmn hv rfl hnn hd) (.ty T) t1 t2 hg hm hs hs2 hpl
end KL
end

section
set_option Elab.async false
set_option linter.all false
set_option maxRecDepth 100000
set_option maxHeartbeats 2000000
/-! ### raise C(e, ..), C a class whose __init__ stores its parameters -/
namespace KL
open PySem L2
theorem bindsFull {K : PySem.W.Frag} {x qual : Str} {params : Arguments} {body : List Stmt} {scope : Scope} {dvs : List V} {kws : List (Str × V)} {f : Addr} {fd : FuncData} {ps : List Str} (F : FunD K x qual params body scope dvs kws f fd)
    (h : ∀ (dV kV doc pm : Value) (an : Option Addr) (cdv ct : Value) (us : List Value), us.length = ps.length → bindArgs (PySem.W.fnOf x qual params body scope dV kV doc pm an cdv ct) ⟨us, []⟩ = pure (ps.zip us)) : Binds K fd ps [] := by
  obtain ⟨oc, od, dV, kV, doc, pm, an, cdv, ct, osl, rfl, lk, hcd, hD, hK⟩ := F.ex
  exact .all (h dV kV doc pm an cdv ct)
/-- class c's __init__ stores names; n arguments are given -/
def RaisN (P : Program) (w : World) (K : PySem.W.Frag) (mg : MgT) (base : Heap) (c : Str) (names : List Str) (n : Nat) : Prop :=
  ∃ (C fI : Addr) (fd : FuncData) (ds : List Value), mg c = some (.ref C) ∧ OexC K C ∧ PySem.W.findIn K (.ref C) "__init__" = some (some (.ref fI)) ∧ PySem.W.typeIn K (.ref fI) = some (.type "function") ∧
    FnOk P w K mg base CX0 1 fI fd ("self" :: names) (spInit C names) ∧ Vals (List.replicate (names.length - n) V.non) ds ∧ Binds K fd ("self" :: names) ds
theorem raisN_of {P : Program} {w : World} {K : PySem.W.Frag} {mg : MgT} {base : Heap} {c : Str} {names : List Str} {n : Nat} {fd : FuncData} (hm : mg c = some (.ref (He.ga K c))) (E : ErrN K c names)
    (F1 : FnOk P w K mg base CX0 1 (He.ma K (He.ga K c) "__init__") fd ("self" :: names) (spInit (He.ga K c) names)) (hb : ∃ ds, Vals (List.replicate (names.length - n) V.non) ds ∧ Binds K fd ("self" :: names) ds) : RaisN P w K mg base c names n := by
  obtain ⟨ds, h1, h2⟩ := hb
  exact ⟨_, _, fd, ds, hm, E.oex, E.ini, E.fn, F1, h1, h2⟩
theorem nons_rep [Tabs] {K : PySem.W.Frag} {mg : MgT} (n : Nat) : Dfl K mg (List.replicate n D.non) (List.replicate n V.non) := fun H B => by
  induction n with
  | zero => exact .nil
  | succ n ih => exact .cons .non ih
theorem rs_raiseF [Tabs] {X : Cx} {c : Str} {names : List Str} {n k : Nat} {e : Expr} {es : List Expr} {f : M (List Od)} {p pos pos' : Pos} (hc : X.calm = true) (h : RaisN X.prog X.w X.K X.mg X.base c names n) (hr : RoomG 2 X.A) (hg : Gl X c) (ha : RA X (e :: es) f)
    (hdb : (c == ("__debug__" : Str)) = false := by decide) (he : starEach (e :: es) X.env = (false, eval e X.env) :: starEach es X.env := by rfl) (hpl : (backTo pos (starEach es X.env)).any (·.1) = false := by rfl) (hk : names.length - n = k := by rfl) :
    RS X (.Raise (some (.Call (.Name c p) (e :: es) [] pos)) none pos') (raiseN c names (List.replicate k .non) f) := by
  subst hk
  obtain ⟨C, fI, fd, ds, h1, h2, h3, h4, h5, h6, h7⟩ := h
  exact rs_raiseN hc h2 h3 h4 h5 hr.rm h7 h6 (nons_rep _) hg h1 ha hdb he hpl
end KL
end

section
set_option Elab.async false
set_option linter.all false
set_option maxRecDepth 100000
set_option maxHeartbeats 2000000
/-! ### try: body / except C: suite, the exception not named, the suite raises nothing -/
namespace KL
open PySem L2
variable [Tabs]
def tryO (cat : Str → Option Bool) (body suite : SM) : SM := fun ρ => match body ρ with
  | .ex (.err c fs) ρ1 => (match cat c with
    | some true => (match suite ρ1 with
      | .ex _ _ => .bad
      | o => o)
    | some false => .ex (.err c fs) ρ1
    | none => .bad)
  | .ex _ _ => .bad
  | o => o
section
variable {X : Cx} {x : Str} {c : Value} {body suite : List Stmt} {b₀ : Stmt} {np pos pos' : Pos} {fb fs : SM} {cat : Str → Option Bool}
theorem rs_tryO (hs : X.stack = X.env :: X.outer) (hf : X.env.frame = some X.env.locals) (hc : Names X x c) (hcat : CatOk X.K X.mg c cat)
    (hb : ∀ (pn : List (Addr × Obj)) (xe : Value → Shared → Prop), PassesOwn (model X.prog X.w) X.A X.env xe → RSs (X.tr pn xe) body fb) (hsu : ∀ (a : Addr) (pn : List (Addr × Obj)), RSs (X.suite a pn) (b₀ :: suite) fs) :
    RS X (.Try body [.ExceptHandler (some (.Name x np)) none (b₀ :: suite) pos'] [] [] pos) (tryO cat fb fs) := by
  refine ⟨fun Wi tk => ps_imp (ps_try_only (tb := fun W => TS_ X.K X.mg W fb) (ts := fun _ _ _ => TS_ X.K X.mg W0 fs) hs hf hc tk (fun W pn xe t p => (hb pn xe p).run W t) fun a oe cls d pn _ _ => (hsu a _).run W0 takes0) fun D σ H q => ?_⟩
  obtain ⟨S, hS, rfl, rfl, q⟩ := q
  refine ⟨S, hS, rfl, rfl, ?_⟩
  unfold tryO at q
  cases e : fb S.ρ with
  | nx ρ => rw [e] at q; exact q
  | bad => rw [e] at q; exact q
  | bk ρ => rw [e] at q; exact q
  | ct ρ => rw [e] at q; exact q
  | rt a ρ => rw [e] at q; exact q
  | ex er ρ1 =>
    rw [e] at q
    cases er with
    | err cn fls =>
      intro S1 cls dd e1 g1 rx
      subst e1
      obtain ⟨c', fs', C, z1, z2, rfl, z4⟩ := id rx
      obtain ⟨rfl, rfl⟩ := KL.D.err.inj z1
      cases ec : cat cn with
      | none => simp only [ec] at q; exact q.elim
      | some b =>
        refine ⟨b, hcat cn C b z2 ec, fun hb a ha => ?_, fun hb => ?_⟩
        · subst hb
          simp only [ec] at q
          refine ⟨S1, g1.rel, rfl, rfl, ?_⟩
          cases es : fs S1.ρ with
          | bad => rw [es] at q; exact q
          | ex _ _ => rw [es] at q; exact q.elim
          | nx ρ => rw [es] at q; exact fun S2 e2 g2 => q S2 e2 (g1.trans hS g2)
          | bk ρ => rw [es] at q; exact fun S2 e2 g2 => q S2 e2 (g1.trans hS g2)
          | ct ρ => rw [es] at q; exact fun S2 e2 g2 => q S2 e2 (g1.trans hS g2)
          | rt a ρ => rw [es] at q; exact fun S2 v e2 g2 rv => q S2 v e2 (g1.trans hS g2) (rv.from g1)
        · subst hb
          simp only [ec] at q
          exact q S1 (.ref C) dd rfl g1 rx
    | _ => exact q.elim
end
end KL
end

section
set_option Elab.async false
set_option linter.all false
set_option maxRecDepth 100000
namespace KL
open PySem PySem.Spec PyProof.Rows L2
/-! ### xs[::step], step 1 or -1 -/
theorem pick_one1 (items : Array Value) : slicePick items none none (some 1) = items := by
  show slicePick items none none none = items
  exact slicePick_all items
def tStep (K : PySem.W.Frag) (te : TE) (ts : TO) : TE := fun σ H Q => te σ H fun x H1 => ts σ H1 fun o H2 => ∃ a xs, x = .ref a ∧ SqL K H2 a xs ∧
  ((o = some 1 ∧ ∀ p, H2 p = none → Q (.ref p) (upd H2 p (.lst xs))) ∨ (o = some (-1) ∧ ∀ p, H2 p = none → Q (.ref p) (upd H2 p (.lst xs.reverse))))
theorem pe_step {X : Cx} {e e2 : Expr} {te : TE} {ts : TO} {p3 pos : Pos} (he : PE X e te) (hst : PO X (some e2) ts) : PE X (.Subscript e (.Slice none none (some e2) p3) pos) (tStep X.K te ts) := by
  refine ⟨fun pins s σ H Q I h => ?_⟩
  refine Subscript_ (thn (he.run pins s σ H _ I h) fun v s1 ⟨x, H1, I1, r1, q1⟩ => ?_)
  refine wpAny_Slice (thn (po_none.run pins s1 σ H1 (fun o H2 => o = none ∧ H2 = H1) I1 ⟨rfl, rfl⟩) fun vl s2 ⟨l, H2, I2, pl, el, e2⟩ => ?_)
  subst el e2
  refine thn (po_none.run pins s2 σ H2 (fun o H3 => o = none ∧ H3 = H2) I2 ⟨rfl, rfl⟩) fun vu s3 ⟨u, H3, I3, pu, eu, e3⟩ => ?_
  subst eu e3
  refine thn (hst.run pins s3 σ H3 _ I3 q1) fun vs s4 ⟨o, H4, I4, ps, q⟩ => ?_
  obtain ⟨a, xs, ex, hx, q⟩ := q
  subst ex
  cases r1
  have I5 : Inv X pins σ H4 { s4 with heap := s4.heap.push { cls := .type "slice", data := .fields #[vl, vu, vs] } } := I4.kept (t' := s4.toks) fun b ob q => Heap.get?_push_of_some _ q
  show wpAny (model X.prog X.w) X.A (subscriptTail e (.Slice none none (some _) p3) (.ref a) (.ref s4.heap.objs.size)) (EP X pins σ Q) X.xe { s4 with heap := s4.heap.push { cls := .type "slice", data := .fields #[vl, vu, vs] } }
  obtain ⟨its, r, ht, hz⟩ := I5.list hx
  have hlen := r.length
  refine tail_any (ops := [.ref a, .ref s4.heap.objs.size]) ht.isList.typeIs (PySem.slot_list_getitem.lookup) ?_ (by with_unfolding_all rfl)
  rcases q with ⟨eo, q⟩ | ⟨eo, q⟩
  · subst eo
    refine wpAny_getItem_list_slice ht.isList (Heap.IsSliceOf.new _ vl vu vs) pl pu ps (by decide) ?_ (by rw [List.size_toArray]; omega)
    rw [pick_one1]
    refine ⟨.ref _, _, I5.laid (t' := s4.toks) (o := .lst xs) (fun b ob q => Heap.get?_push_of_some _ q) (Nat.le_refl _) ?_, rfl, q _ (I5.hok.fresh (Nat.le_refl _))⟩
    exact ⟨hz, _, 0, r, Heap.get?_push_size _ rfl⟩
  · subst eo
    refine wpAny_getItem_list_slice ht.isList (Heap.IsSliceOf.new _ vl vu vs) pl pu ps (by decide) ?_ (by rw [List.size_toArray]; omega)
    rw [PySem.W.krv_pick]
    refine ⟨.ref _, _, I5.laid (t' := s4.toks) (o := .lst xs.reverse) (fun b ob q => Heap.get?_push_of_some _ q) (Nat.le_refl _) ?_, rfl, q _ (I5.hok.fresh (Nat.le_refl _))⟩
    exact ⟨by rw [List.length_reverse]; exact hz, _, 0, r.reverse, Heap.get?_push_size _ rfl⟩
end KL
namespace KL
open PySem L2
variable [Tabs]
def stepP (d : D) (o : Option Int) : Option Vl := match d with
  | .lst xs => if o = some 1 then some (.fr xs) else if o = some (-1) then some (.fr xs.reverse) else none
  | _ => none
def stE (f : M Od) (g : M (Option Int)) : M Vl := fun ρ => bnd (f ρ) fun a ρ1 => bnd (g ρ1) fun o ρ2 => match a.get ρ2 with
  | some d => ofO (stepP d o) ρ2
  | none => .bad
theorem re_step {X : Cx} {e e2 : Expr} {f : M Od} {g : M (Option Int)} {p3 pos : Pos} (he : RO X e f) (hs : RPo X (some e2) g) : RE X (.Subscript e (.Slice none none (some e2) p3) pos) (stE f g) := by
  refine ⟨fun Wi tk => pe_imp (pe_step (he.run Wi tk) (hs.run Wi tk)) fun σ H Q q => ?_⟩
  obtain ⟨S, hS, rfl, rfl, q⟩ := q
  refine ⟨S, hS, rfl, rfl, q.bnd fun a S1 es1 g1 _ q1 x rx => ?_⟩
  refine ⟨S1, g1.rel, es1, rfl, (q1.vfrom hS g1 es1).bnd fun o S2 es2 g2 _ q2 => ?_⟩
  have q3 := q2.vfrom g1.rel g2 es2
  have rx2 := rx.later g1.rel es2 g2
  have h2 := g2.rel
  cases e1 : a.get S2.ρ with
  | none => simp only [e1] at q3; exact q3.elim
  | some d =>
    simp only [e1] at q3
    unfold ofO at q3
    have op := opn_of h2 rx2 e1
    cases d with
    | lst xs =>
      simp only [stepP] at q3
      obtain ⟨b, ws, rfl, h1, r⟩ := op
      by_cases c1 : o = some 1
      · simp only [if_pos c1] at q3
        exact ⟨b, ws, rfl, .inl (.inl h1), .inl ⟨c1, (fin_of q3).newL h2 r⟩⟩
      · simp only [if_neg c1] at q3
        by_cases c2 : o = some (-1)
        · simp only [if_pos c2] at q3
          exact ⟨b, ws, rfl, .inl (.inl h1), .inr ⟨c2, (fin_of q3).newL h2 r.reverse⟩⟩
        · simp only [if_neg c2] at q3; exact q3.elim
    | _ => simp only [stepP] at q3; exact q3.elim
end KL
end

section
set_option Elab.async false
set_option linter.all false
set_option maxRecDepth 100000
namespace KL
open PySem L2
variable [Tabs]
/-! ### calls that lend a new list -/
def backF (r : R Vl) (ρ : Env) : R Vl := match r with
  | .ok a (.io _ :: _) => .ok a ρ
  | .ex e (.io _ :: _) => .ex e ρ
  | _ => .bad
def callF (np : Nat) (f : M Vl) (dd : List D) (g0 : M Vl) (args : M (List Od)) : M Vl := fun ρ => bnd (g0 ρ) fun a ρ1 => match a with
  | .fr xs => bnd (args ρ1) fun os ρ2 => match vals? os with
    | some ds => if (ds ++ dd).length + 1 = np then backF (f (.io xs :: vaL (ds ++ dd))) ρ2 else .bad
    | none => .bad
  | .fz _ => .bad
section
variable {K : PySem.W.Frag} {mg : MgT} {S S1 S2 : Sx}
/-- running on from a later state, for a result that the first state judges -/
theorem sat_bndF {α β : Type} {Wi : WX} {Φ : α → Sx → Prop} {Ψ : β → Sx → Prop} {r : R α} {f : α → Env → R β} (h : S.rel K mg) (es : S1.σ = S.σ) (g : Go K mg S S1) (hs : Sat K mg Wi S Ψ (bnd r f))
    (k : ∀ a S2, S2.σ = S1.σ → Go K mg S1 S2 → Sat K mg Wi S Ψ (f a S2.ρ) → Φ a S2) : Sat K mg Wi S1 Φ r := by
  cases r with
  | bad => exact hs
  | ex e ρ' => exact fun S' cls dd a1 a2 a3 a4 => hs S' cls dd a1 (a2.trans es) (g.trans h a3) a4
  | ok a ρ' =>
    intro S2 e1 e2 g2
    subst e1
    exact k a S2 e2 g2 hs
theorem entryF (h : S.rel K mg) {l : Addr} {xs : List D} {ws : List V} {ds : List D} {vs : List V} (hb : S.B l) (hh : S.H l = some (.lst ws)) (hr : RepL K mg S.H S.B xs ws) (r : RepL K mg S.H S.B ds vs) :
    Sx.rel K mg ⟨S.B, .io xs :: vaL ds, some (.ref l) :: vs.map some, S.H⟩ := by
  have z0 : ∀ j a, OwnAt (.io xs :: vaL ds) (some (.ref l) :: vs.map some) j a → j = 0 := fun j a ⟨⟨p, f1, f2⟩, f3⟩ => by
    cases j with
    | zero => rfl
    | succ j =>
      obtain ⟨d, _, rfl⟩ := vaL_at (by simpa using f1)
      cases f2
  refine ⟨by simp [vaL, r.length], fun j p f1 => ?_, fun j k a o1 o2 => by rw [z0 j a o1, z0 k a o2], h.alloc, h.tab⟩
  cases j with
  | zero =>
    have ep : p = .io xs := (Option.some.inj f1).symm
    subst ep
    exact ⟨l, ws, rfl, hb, hh, hr⟩
  | succ j =>
    obtain ⟨d, e1, rfl⟩ := vaL_at (by simpa using f1)
    obtain ⟨v, e3, rv⟩ := r.get e1
    exact ⟨v, by rw [List.getElem?_cons_succ, List.getElem?_map, e3]; rfl, rv⟩
/-- behind a call that borrowed a new list -/
theorem go_backF {S3 : Sx} {l : Addr} {ws : List V} {xs ys : List D} {ds : List D} {vs : List V} {r : Env} (h0 : S.rel K mg) (z : Own S.ρ S.σ l ∨ S.H l = none) (es : S2.σ = S.σ) (g2 : Go K mg S S2) (hb : S2.B l) (hw : ¬ Own S2.ρ S2.σ l) (hh : S2.H l = some (.lst ws))
    (g : Go K mg ⟨S2.B, .io xs :: vaL ds, some (.ref l) :: vs.map some, S2.H⟩ S3) (hσ : S3.σ = some (.ref l) :: vs.map some) (hρ : S3.ρ = .io ys :: r) :
    Go K mg S ⟨S3.B, S2.ρ, S2.σ, S3.H⟩ ∧ ∀ a v, RepV K mg ⟨S2.B, .io xs :: vaL ds, some (.ref l) :: vs.map some, S2.H⟩ S3 a v → RepV K mg S ⟨S3.B, S2.ρ, S2.σ, S3.H⟩ a v := by
  have h := g2.rel
  have own0 : ∀ a, Own (.io xs :: vaL ds) (some (.ref l) :: vs.map some) a → a = l := fun a ⟨j, ⟨p, f1, f2⟩, f3⟩ => by
    cases j with
    | zero => exact (V.ref.inj (Option.some.inj (Option.some.inj f3))).symm
    | succ j =>
      obtain ⟨d, _, rfl⟩ := vaL_at (by simpa using f1)
      cases f2
  have hO1 : OwnAt S3.ρ S3.σ 0 l := ⟨⟨_, by rw [hρ]; rfl, rfl⟩, by rw [hσ]; rfl⟩
  have nb : ∀ a, ¬ S2.B a → a ≠ l := fun a hn z => hn (by rw [z]; exact hb)
  have fe : FE S2.B S2.H S3.B S3.H := ⟨fun a o z hb n => g.tr.keep a o z (fun y => nb a hb (own0 a y)) n, g.tr.bnew, fun a z _ => g.tr.there a z⟩
  have nl : ∀ a, Own S2.ρ S2.σ a → a ≠ l := fun a o e => hw (e ▸ o)
  have gg : Go K mg S ⟨S3.B, S2.ρ, S2.σ, S3.H⟩ := by
    refine ⟨⟨h.len, fun j p f1 => ?_, h.dist, g.rel.alloc, g.rel.tab⟩,
      ⟨fun a o e nw n => ?_, fun a e => g.tr.there a (g2.tr.there a e), fun a e => ?_, g2.tr.wnew, fun a e nw => ?_, fun a e nb' => ?_⟩, g2.io, g2.len⟩
    · have f1 : S2.ρ[j]? = some p := f1
      show SlR K mg S3.H S3.B p (S2.σ[j]?.getD none)
      have y := h.sl j p f1
      have other : ∀ b, S2.σ[j]?.getD none = some (.ref b) → p.mine = true → b ≠ l := fun b eb em => nl b ⟨j, ⟨p, f1, em⟩, getD_some eb⟩
      cases p with
      | un => trivial
      | va d => obtain ⟨w, c1, c2⟩ := y; exact ⟨w, c1, Rep.mono fe c2⟩
      | ow zs => obtain ⟨b, vs', c1, c2, c3, c4⟩ := y; exact ⟨b, vs', c1, g.tr.bkeep b c2 (fun z => other b c1 rfl (own0 b z)), g.tr.keep b _ c3 (fun z => other b c1 rfl (own0 b z)) trivial, RepL.mono fe c4⟩
      | io zs => obtain ⟨b, vs', c1, c2, c3, c4⟩ := y; exact ⟨b, vs', c1, g.tr.bkeep b c2 (fun z => other b c1 rfl (own0 b z)), g.tr.keep b _ c3 (fun z => other b c1 rfl (own0 b z)) trivial, RepL.mono fe c4⟩
    · have ne : a ≠ l := fun c => by
        subst c
        rcases z with z | z
        · exact nw z
        · rw [z] at e; cases e
      exact g.tr.keep a o (g2.tr.keep a o e nw n) (fun y => ne (own0 a y)) n
    · rcases g.tr.bnew a e with q | q
      · exact g2.tr.bnew a q
      · refine .inr ?_
        cases e2 : S.H a with
        | none => rfl
        | some o => exact absurd q (g2.tr.there a (by rw [e2]; simp))
    · have ne : a ≠ l := fun c => by
        subst c
        rcases z with z | z
        · exact nw z
        · exact h0.alloc a e z
      exact g.tr.bkeep a (g2.tr.bkeep a e nw) (fun y => ne (own0 a y))
    · have t2 := g2.tr.tabs a e nb'
      have nb2 : ¬ S2.B a := fun q => (g2.tr.bnew a q).elim nb' (tab_there e)
      exact g.tr.tabs a t2 nb2
  refine ⟨gg, fun a v rv => ?_⟩
  cases a with
  | fz d => exact rv
  | fr zs =>
    obtain ⟨m, ws', e', z', hb', hw', hh', hr'⟩ := rv
    have ne : m ≠ l := fun c => hw' (by rw [c]; exact ⟨0, hO1⟩)
    have z2 : S2.H m = none := z'.resolve_left fun y => ne (own0 m y)
    have z3 : S.H m = none := by
      cases e2 : S.H m with
      | none => rfl
      | some o => exact absurd z2 (g2.tr.there m (by rw [e2]; simp))
    exact ⟨m, ws', e', .inr z3, hb', fun o => h.alloc m (h.wb o) z2, hh', hr'⟩
end
section
variable {X : Cx} {k : Nat} {f : Addr} {fd : FuncData} {ps : List Str} {fm : M Vl} {np : Nat} {x : Str} {p pos : Pos} {e : Expr} {es : List Expr} {g0 : M Vl} {g : M (List Od)} {dd : List D} {dvs : List V} {ds : List Value}
theorem re_callF (F : FnG X.prog X.w X.K X.mg X.base (L2.CX X.prog X.w) k f fd ps (spF X.K X.mg np true fm)) (hr : RoomG k X.A) (hg : Gl X x) (hm : X.mg x = some (.ref f)) (hk : PySem.W.keepIn X.K (.ref f) = true) (hb : Binds X.K fd ps ds) (hd : Vals dvs ds) (hD : Dfl X.K X.mg dd dvs)
    (h0 : RE X e g0) (ha : RA X es g) (hdb : (x == ("__debug__" : Str)) = false := by decide) (he : starEach (e :: es) X.env = (false, eval e X.env) :: starEach es X.env := by rfl) (hpl : (backTo pos (starEach es X.env)).any (·.1) = false := by rfl) :
    RE X (.Call (.Name x p) (e :: es) [] pos) (callF np fm dd g0 g) := by
  refine ⟨fun Wi tk => pe_imp (pe_callG (E := fun σ => WE Wi σ) F hr hg hm hk hb hd (fun σ => passAt tk σ) (pa_cons (h0.run Wi tk) (ha.run Wi tk) he) hdb he hpl) fun σ H Q q => ?_⟩
  obtain ⟨S, hS, rfl, rfl, q⟩ := q
  refine ⟨S, hS, rfl, rfl, q.bnd fun a S1 es1 g1 _ q1 v rv => ?_⟩
  cases a with
  | fz d => exact q1.elim
  | fr xs =>
    refine ⟨S1, g1.rel, es1, rfl, sat_bndF hS es1 g1 q1 fun os S2 es2 g2 q2 vs rs => ?_⟩
    have rv2 := rv.later g1.rel g2
    have es3 : S2.σ = S.σ := es2.trans es1
    have g3 := g1.trans hS g2
    obtain ⟨l, ws, rfl, z, hbl, hw, hh, hrl⟩ := rv2
    cases e1 : vals? os with
    | none => simp only [e1] at q2; exact q2.elim
    | some zs =>
      simp only [e1] at q2
      by_cases c : (zs ++ dd).length + 1 = np
      · rw [if_pos c] at q2
        have r := (vals_rep rs e1).append (hD S2.H S2.B)
        have hE := entryF g2.rel hbl hh hrl r
        rw [← es3]
        show spF X.K X.mg np true fm (.ref l :: vs ++ dvs) S2.H Q (WE Wi S2.σ)
        refine ⟨by rw [List.cons_append, List.length_cons, ← r.length]; exact c, _, hE, rfl, rfl, ⟨xs, _, rfl⟩, ?_⟩
        cases ef : fm (.io xs :: vaL (zs ++ dd)) with
        | bad => rw [ef] at q2; exact q2
        | ok a ρ' =>
          rw [ef] at q2
          match ρ', q2 with
          | [], q2 => exact q2.elim
          | .un :: _, q2 => exact q2.elim
          | .va _ :: _, q2 => exact q2.elim
          | .ow _ :: _, q2 => exact q2.elim
          | .io ys :: rr, q2 =>
            simp only [backF] at q2
            intro S3 f1 f2 g4 v rv
            obtain ⟨gg, tr⟩ := go_backF hS z es3 g3 hbl hw hh g4 f2 f1
            exact q2 ⟨S3.B, S2.ρ, S2.σ, S3.H⟩ rfl es3 gg v (tr a v rv)
        | ex d ρ' =>
          rw [ef] at q2
          match ρ', q2 with
          | [], q2 => exact q2.elim
          | .un :: _, q2 => exact q2.elim
          | .va _ :: _, q2 => exact q2.elim
          | .ow _ :: _, q2 => exact q2.elim
          | .io ys :: rr, q2 =>
            simp only [backF] at q2
            intro S3 cls dd f1 f2 g4 rx
            obtain ⟨gg, tr⟩ := go_backF hS z es3 g3 hbl hw hh g4 f2 f1
            have q3 := q2 ⟨S3.B, S2.ρ, S2.σ, S3.H⟩ cls dd rfl es3 gg rx
            exact es3 ▸ q3
      · rw [if_neg c] at q2; exact q2.elim
end
end KL
end

section
set_option Elab.async false
set_option linter.all false
set_option maxRecDepth 100000
namespace KL
open PySem PySem.Spec PyProof.Rows L2
/-! ### xs[::step], step from 2 on -/
def pkI (n : Nat) (k : Int) : List Nat := sliceRange (sliceBounds none none (some k) n).1 (sliceBounds none none (some k) n).2.1 (sliceBounds none none (some k) n).2.2
def pkL {α : Type} (k : Int) (xs : List α) : List α := (pkI xs.length k).filterMap (xs[·]?)
theorem pkI_len (n : Nat) {k : Int} (h : 1 < k) : (pkI n k).length ≤ n := by
  refine sliceRange_length_le _ _ _ n (fun _ => ?_) (fun hc => ?_)
  · simp only [sliceBounds, Option.getD_some]
    rw [if_pos (by omega), if_pos (by omega)]
    omega
  · exfalso
    simp only [sliceBounds, Option.getD_some] at hc
    omega
theorem pkL_len {α : Type} (xs : List α) {k : Int} (h : 1 < k) : (pkL k xs).length ≤ xs.length := Nat.le_trans (List.length_filterMap_le ..) (pkI_len _ h)
theorem pkL_mem {α : Type} {xs : List α} {k : Int} {x : α} (h : x ∈ pkL k xs) : x ∈ xs := by
  obtain ⟨i, _, hi⟩ := List.mem_filterMap.mp h
  exact List.mem_of_getElem? hi
theorem vals_fm {vs : List V} {us : List Value} (r : Vals vs us) : ∀ is : List Nat, Vals (is.filterMap (vs[·]?)) (is.filterMap (us[·]?))
  | [] => .nil
  | i :: is => by
    have ih := vals_fm r is
    have hl := r.length
    cases e : vs[i]? with
    | none =>
      have e2 : us[i]? = none := by rw [List.getElem?_eq_none_iff] at e ⊢; omega
      rw [List.filterMap_cons_none e, List.filterMap_cons_none e2]; exact ih
    | some v =>
      obtain ⟨u, e2, rv⟩ := r.get e
      rw [List.filterMap_cons_some e, List.filterMap_cons_some e2]; exact .cons rv ih
theorem pick_k {us : List Value} {k : Int} : slicePick us.toArray none none (some k) = (pkL k us).toArray := by
  unfold slicePick pkL pkI
  simp
def tStepK (K : PySem.W.Frag) (te : TE) (ts : TO) : TE := fun σ H Q => te σ H fun x H1 => ts σ H1 fun o H2 => ∃ a xs k, x = .ref a ∧ SqL K H2 a xs ∧ o = some k ∧ 1 < k ∧ ∀ p, H2 p = none → Q (.ref p) (upd H2 p (.lst (pkL k xs)))
theorem pe_stepK {X : Cx} {e e2 : Expr} {te : TE} {ts : TO} {p3 pos : Pos} (he : PE X e te) (hst : PO X (some e2) ts) : PE X (.Subscript e (.Slice none none (some e2) p3) pos) (tStepK X.K te ts) := by
  refine ⟨fun pins s σ H Q I h => ?_⟩
  refine Subscript_ (thn (he.run pins s σ H _ I h) fun v s1 ⟨x, H1, I1, r1, q1⟩ => ?_)
  refine wpAny_Slice (thn (po_none.run pins s1 σ H1 (fun o H2 => o = none ∧ H2 = H1) I1 ⟨rfl, rfl⟩) fun vl s2 ⟨l, H2, I2, pl, el, e2⟩ => ?_)
  subst el e2
  refine thn (po_none.run pins s2 σ H2 (fun o H3 => o = none ∧ H3 = H2) I2 ⟨rfl, rfl⟩) fun vu s3 ⟨u, H3, I3, pu, eu, e3⟩ => ?_
  subst eu e3
  refine thn (hst.run pins s3 σ H3 _ I3 q1) fun vs s4 ⟨o, H4, I4, ps, q⟩ => ?_
  obtain ⟨a, xs, k, ex, hx, eo, hk, q⟩ := q
  subst ex
  subst eo
  cases r1
  have I5 : Inv X pins σ H4 { s4 with heap := s4.heap.push { cls := .type "slice", data := .fields #[vl, vu, vs] } } := I4.kept (t' := s4.toks) fun b ob q => Heap.get?_push_of_some _ q
  show wpAny (model X.prog X.w) X.A (subscriptTail e (.Slice none none (some _) p3) (.ref a) (.ref s4.heap.objs.size)) (EP X pins σ Q) X.xe { s4 with heap := s4.heap.push { cls := .type "slice", data := .fields #[vl, vu, vs] } }
  obtain ⟨its, r, ht, hz⟩ := I5.list hx
  have hlen := r.length
  refine tail_any (ops := [.ref a, .ref s4.heap.objs.size]) ht.isList.typeIs (PySem.slot_list_getitem.lookup) ?_ (by with_unfolding_all rfl)
  refine wpAny_getItem_list_slice ht.isList (Heap.IsSliceOf.new _ vl vu vs) pl pu ps (by simp; omega) ?_ (by rw [List.size_toArray]; omega)
  rw [pick_k]
  have r2 : Vals (pkL k xs) (pkL k its) := by
    unfold pkL
    rw [hlen]
    exact vals_fm r _
  refine ⟨.ref _, _, I5.laid (t' := s4.toks) (o := .lst (pkL k xs)) (fun b ob q => Heap.get?_push_of_some _ q) (Nat.le_refl _) ?_, rfl, q _ (I5.hok.fresh (Nat.le_refl _))⟩
  exact ⟨Nat.le_trans (pkL_len xs hk) hz, _, 0, r2, Heap.get?_push_size _ rfl⟩
end KL
namespace KL
open PySem L2
variable [Tabs]
theorem repL_fm {K : PySem.W.Frag} {mg : MgT} {H : Hp} {B : Ad} {ds : List D} {vs : List V} (r : RepL K mg H B ds vs) : ∀ is : List Nat, RepL K mg H B (is.filterMap (ds[·]?)) (is.filterMap (vs[·]?))
  | [] => .nil
  | i :: is => by
    have ih := repL_fm r is
    have hl := r.length
    cases e : ds[i]? with
    | none =>
      have e2 : vs[i]? = none := by rw [List.getElem?_eq_none_iff] at e ⊢; omega
      rw [List.filterMap_cons_none e, List.filterMap_cons_none e2]; exact ih
    | some d =>
      obtain ⟨v, e2, rv⟩ := r.get e
      rw [List.filterMap_cons_some e, List.filterMap_cons_some e2]; exact .cons rv ih
def stepKP (d : D) (o : Option Int) : Option Vl := match d, o with
  | .lst xs, some k => if 1 < k then some (.fr (pkL k xs)) else none
  | _, _ => none
def stkE (f : M Od) (g : M (Option Int)) : M Vl := fun ρ => bnd (f ρ) fun a ρ1 => bnd (g ρ1) fun o ρ2 => match a.get ρ2 with
  | some d => ofO (stepKP d o) ρ2
  | none => .bad
theorem re_stepK {X : Cx} {e e2 : Expr} {f : M Od} {g : M (Option Int)} {p3 pos : Pos} (he : RO X e f) (hs : RPo X (some e2) g) : RE X (.Subscript e (.Slice none none (some e2) p3) pos) (stkE f g) := by
  refine ⟨fun Wi tk => pe_imp (pe_stepK (he.run Wi tk) (hs.run Wi tk)) fun σ H Q q => ?_⟩
  obtain ⟨S, hS, rfl, rfl, q⟩ := q
  refine ⟨S, hS, rfl, rfl, q.bnd fun a S1 es1 g1 _ q1 x rx => ?_⟩
  refine ⟨S1, g1.rel, es1, rfl, (q1.vfrom hS g1 es1).bnd fun o S2 es2 g2 _ q2 => ?_⟩
  have q3 := q2.vfrom g1.rel g2 es2
  have rx2 := rx.later g1.rel es2 g2
  have h2 := g2.rel
  cases e1 : a.get S2.ρ with
  | none => simp only [e1] at q3; exact q3.elim
  | some d =>
    simp only [e1] at q3
    unfold ofO at q3
    have op := opn_of h2 rx2 e1
    cases d with
    | lst xs =>
      cases o with
      | none => simp only [stepKP] at q3; exact q3.elim
      | some k =>
        simp only [stepKP] at q3
        obtain ⟨b, ws, rfl, h1, r⟩ := op
        by_cases c1 : 1 < k
        · simp only [if_pos c1] at q3
          have r2 : RepL X.K X.mg S2.H S2.B (pkL k xs) (pkL k ws) := by
            unfold pkL
            rw [r.length]
            exact repL_fm r _
          exact ⟨b, ws, k, rfl, .inl (.inl h1), rfl, c1, (fin_of q3).newL h2 r2⟩
        · simp only [if_neg c1] at q3; exact q3.elim
    | _ => simp only [stepKP] at q3; exact q3.elim
/-! ### a def that calls itself -/
theorem rss_bad {X : Cx} {b : List Stmt} : RSs X b (fun _ => .bad) := by
  refine ⟨fun Wi tk => ⟨fun pins s σ H Q I q => ?_⟩⟩
  obtain ⟨S, _, _, _, q⟩ := q
  exact q.elim
end KL
end

section
set_option Elab.async false
set_option linter.all false
set_option maxRecDepth 100000
namespace KL
open PySem L2
variable [Tabs]
/-! ### a test that borrows the lists of one's own: they are given back behind it -/
def frS : Sl → Sl
  | .ow xs => .va (.lst xs)
  | q => q
def isI : D → Bool
  | .int _ => true
  | _ => false
def ioI1 : Sl → Bool
  | .io xs => xs.all isI
  | _ => true
def ioI (ρ : Env) : Bool := ρ.all ioI1
open Classical in
noncomputable def lendT (f : M Bool) : M Bool := fun ρ => match f (ρ.map frS) with
  | .ok b ρ1 => if ρ1 = ρ.map frS ∧ ioI ρ = true then .ok b ρ else .bad
  | .ex e ρ1 => .ex e ρ1
  | .bad => .bad
section
variable {K : PySem.W.Frag} {mg : MgT} {S S1 : Sx}
theorem repL_isI {H : Hp} {B B' : Ad} : ∀ {ds : List D} {vs : List V}, ds.all isI = true → RepL K mg H B ds vs → RepL K mg H B' ds vs
  | _, _, _, .nil => .nil
  | d :: ds, v :: vs, h, .cons a b => by
    rw [List.all_cons, Bool.and_eq_true] at h
    cases a with
    | int i => exact .cons (.int i) (repL_isI h.2 b)
    | _ => cases h.1
def OwA (S : Sx) (a : Addr) : Prop := ∃ (j : Nat) (zs : List D), S.ρ[j]? = some (.ow zs) ∧ S.σ[j]? = some (some (.ref a))
def lendS (S : Sx) : Sx := ⟨fun a => S.B a ∧ ¬ OwA S a, S.ρ.map frS, S.σ, S.H⟩
theorem lend_at {j : Nat} {q : Sl} (h : (S.ρ.map frS)[j]? = some q) : ∃ p, S.ρ[j]? = some p ∧ q = frS p := by
  rw [List.getElem?_map] at h
  cases e : S.ρ[j]? with
  | none => rw [e] at h; cases h
  | some p => rw [e] at h; exact ⟨p, rfl, (Option.some.inj h).symm⟩
theorem lend_own {i : Nat} {a : Addr} (h : OwnAt (S.ρ.map frS) S.σ i a) : OwnAt S.ρ S.σ i a ∧ ∃ zs, S.ρ[i]? = some (.io zs) := by
  obtain ⟨⟨q, e1, e2⟩, e3⟩ := h
  obtain ⟨p, e4, rfl⟩ := lend_at e1
  cases p with
  | un => cases e2
  | va d => cases e2
  | ow zs => cases e2
  | io zs => exact ⟨⟨⟨_, e4, rfl⟩, e3⟩, zs, e4⟩
theorem lend_rel (h : S.rel K mg) : (lendS S).rel K mg := by
  have fe : FE S.B S.H (lendS S).B S.H := ⟨fun _ _ z _ _ => z, fun a z => .inl z.1, fun _ z _ => z⟩
  refine ⟨by show (S.ρ.map frS).length = _; rw [List.length_map]; exact h.len, fun j q e => ?_, fun i j a o1 o2 => h.dist i j a (lend_own o1).1 (lend_own o2).1, fun a z => h.alloc a z.1, fun a z => ⟨(h.tab a z).1, fun y => (h.tab a z).2 y.1⟩⟩
  obtain ⟨p, e4, rfl⟩ := lend_at e
  have y := h.sl j p e4
  show SlR K mg S.H (lendS S).B (frS p) (S.σ[j]?.getD none)
  cases p with
  | un => trivial
  | va d => obtain ⟨w, c1, c2⟩ := y; exact ⟨w, c1, Rep.mono fe c2⟩
  | ow zs =>
    obtain ⟨b, vs, c1, c2, c3, c4⟩ := y
    exact ⟨.ref b, c1, .lst (fun z => z.2 ⟨j, zs, e4, getD_some c1⟩) c3 (RepL.mono fe c4)⟩
  | io zs =>
    obtain ⟨b, vs, c1, c2, c3, c4⟩ := y
    refine ⟨b, vs, c1, ⟨c2, fun ⟨k, ys, f1, f2⟩ => ?_⟩, c3, RepL.mono fe c4⟩
    have := h.dist j k b ⟨⟨_, e4, rfl⟩, getD_some c1⟩ ⟨⟨_, f1, rfl⟩, f2⟩
    subst this
    rw [e4] at f1; cases f1
theorem lend_go (h : S.rel K mg) : Go K mg S (lendS S) := by
  refine ⟨lend_rel h, ⟨fun _ _ z _ _ => z, fun _ z => z, fun a z => .inl z.1, fun a ⟨i, z⟩ => .inl ⟨i, (lend_own z).1⟩, fun a b nw => ⟨b, fun ⟨j, zs, e1, e2⟩ => nw ⟨j, ⟨_, e1, rfl⟩, e2⟩⟩, fun _ z _ => z⟩, fun i q e1 e2 => ⟨rfl, q, ?_, e2⟩, rfl⟩
  show (S.ρ.map frS)[i]? = some q
  rw [List.getElem?_map, e1]
  cases q with
  | io zs => rfl
  | _ => cases e2
theorem ow_b (h : S.rel K mg) {a : Addr} (z : OwA S a) : S.B a ∧ S.H a ≠ none := by
  obtain ⟨j, zs, e1, e2⟩ := z
  obtain ⟨l, vs, f1, f2, f3, f4, f5⟩ := own_at h e1 (by rfl)
  rw [e2] at f1
  cases f1
  exact ⟨f5, by rw [f2]; simp⟩
theorem lend_back (h : S.rel K mg) (g1 : Go K mg (lendS S) S1) (e1 : S1.ρ = S.ρ.map frS) (e2 : S1.σ = S.σ) (hi : ioI S.ρ = true) : Go K mg S ⟨fun a => S1.B a ∨ OwA S a, S.ρ, S.σ, S1.H⟩ := by
  have g := (lend_go h).trans h g1
  have fe0 := g.fe h
  have bn : ∀ a, (S1.B a ∨ OwA S a) → S.B a ∨ S.H a = none := fun a z => z.elim (g.tr.bnew a) fun z => .inl (ow_b h z).1
  have fe : FE S.B S.H (fun a => S1.B a ∨ OwA S a) S1.H := ⟨fe0.keep, bn, fe0.there⟩
  refine ⟨⟨h.len, fun j p f1 => ?_, h.dist, fun a z => z.elim (g1.rel.alloc a) fun z => g.tr.there a (ow_b h z).2, fun a z => ⟨(g1.rel.tab a z).1, fun y => y.elim (g1.rel.tab a z).2 fun y => (h.tab a z).2 (ow_b h y).1⟩⟩,
    ⟨g.tr.keep, g.tr.there, bn, fun a z => .inl z, fun a b nw => .inl (g.tr.bkeep a b nw), g.tr.tabs⟩, fun i q f1 f2 => ⟨rfl, q, f1, f2⟩, rfl⟩
  have f1 : S.ρ[j]? = some p := f1
  have y := h.sl j p f1
  show SlR K mg S1.H (fun a => S1.B a ∨ OwA S a) p (S.σ[j]?.getD none)
  cases p with
  | un => trivial
  | va d => obtain ⟨w, c1, c2⟩ := y; exact ⟨w, c1, Rep.mono fe c2⟩
  | ow zs =>
    obtain ⟨b, vs, c1, c2, c3, c4⟩ := y
    have nw : ¬ Own (lendS S).ρ (lendS S).σ b := fun ⟨i, z⟩ => by
      obtain ⟨z1, ys, z2⟩ := lend_own z
      have := h.dist i j b z1 ⟨⟨_, f1, rfl⟩, getD_some c1⟩
      subst this
      rw [f1] at z2; cases z2
    exact ⟨b, vs, c1, .inr ⟨j, zs, f1, getD_some c1⟩, g1.tr.keep b _ c3 nw trivial, RepL.mono fe c4⟩
  | io zs =>
    have f2 : S1.ρ[j]? = some (.io zs) := by rw [e1, List.getElem?_map, f1]; rfl
    have y := g1.rel.sl j _ f2
    rw [e2] at y
    obtain ⟨b, vs, c1, c2, c3, c4⟩ := y
    have hz : zs.all isI = true := by
      have := List.all_eq_true.mp hi _ (List.mem_of_getElem? f1)
      exact this
    exact ⟨b, vs, c1, .inl c2, c3, repL_isI hz c4⟩
end
theorem rt_lend {X : Cx} {e : Expr} {f : M Bool} (h : RT X e f) : RT X e (lendT f) := by
  refine ⟨fun Wi tk => pt_imp (h.run Wi tk) fun σ H Q q => ?_⟩
  obtain ⟨S, hS, rfl, rfl, q⟩ := q
  refine ⟨lendS S, lend_rel hS, rfl, rfl, ?_⟩
  unfold lendT at q
  show Sat X.K X.mg Wi (lendS S) _ (f (S.ρ.map frS))
  cases ef : f (S.ρ.map frS) with
  | bad => rw [ef] at q; exact q
  | ex d ρ1 => rw [ef] at q; exact Sat.from (r := .ex d ρ1) hS q rfl (lend_go hS)
  | ok b ρ1 =>
    rw [ef] at q
    simp only at q
    by_cases c : ρ1 = S.ρ.map frS ∧ ioI S.ρ = true
    · rw [if_pos c] at q
      intro S1 f1 f2 g1
      exact q ⟨fun a => S1.B a ∨ OwA S a, S.ρ, S.σ, S1.H⟩ rfl rfl (lend_back hS g1 (f1.trans c.1) f2 c.2)
    · rw [if_neg c] at q; exact q.elim
end KL
end

section

end

section
set_option Elab.async false
set_option linter.all false
set_option maxRecDepth 100000
namespace KL
open PySem L2
/-! ### which error is caught, of which kind -/
@[simp] theorem so_0_0 : subO "KeenError" "KeenError" = some true := by rfl
@[simp] theorem so_0_1 : subO "KeenError" "InvalidLot" = some true := by rfl
@[simp] theorem so_0_2 : subO "KeenError" "InvalidRow" = some true := by rfl
@[simp] theorem so_0_3 : subO "KeenError" "InvalidNumber" = some true := by rfl
@[simp] theorem so_0_4 : subO "KeenError" "InvalidOption" = some true := by rfl
@[simp] theorem so_0_5 : subO "KeenError" "InvalidList" = some true := by rfl
@[simp] theorem so_0_6 : subO "KeenError" "InvalidDays" = some true := by rfl
@[simp] theorem so_0_7 : subO "KeenError" "InvalidEvents" = some true := by rfl
@[simp] theorem so_0_8 : subO "KeenError" "InvalidBook" = some true := by rfl
@[simp] theorem so_0_9 : subO "KeenError" "InvalidName" = some true := by rfl
@[simp] theorem so_0_10 : subO "KeenError" "TooLarge" = some true := by rfl
@[simp] theorem so_0_11 : subO "KeenError" "NothingToUndo" = some true := by rfl
@[simp] theorem so_0_12 : subO "KeenError" "InvalidPicks" = some true := by rfl
@[simp] theorem so_0_13 : subO "KeenError" "MissingTool" = some true := by rfl
@[simp] theorem so_0_14 : subO "KeenError" "CannotDo" = some true := by rfl
@[simp] theorem so_0_15 : subO "KeenError" "Impossible" = some true := by rfl
@[simp] theorem so_0_16 : subO "KeenError" "TooSharp" = some true := by rfl
@[simp] theorem so_0_17 : subO "KeenError" "UnknownName" = some true := by rfl
@[simp] theorem so_0_18 : subO "KeenError" "DuplicateName" = some true := by rfl
@[simp] theorem so_1_0 : subO "InvalidLot" "KeenError" = some false := by rfl
@[simp] theorem so_1_1 : subO "InvalidLot" "InvalidLot" = some true := by rfl
@[simp] theorem so_1_2 : subO "InvalidLot" "InvalidRow" = some false := by rfl
@[simp] theorem so_1_3 : subO "InvalidLot" "InvalidNumber" = some false := by rfl
@[simp] theorem so_1_4 : subO "InvalidLot" "InvalidOption" = some false := by rfl
@[simp] theorem so_1_5 : subO "InvalidLot" "InvalidList" = some false := by rfl
@[simp] theorem so_1_6 : subO "InvalidLot" "InvalidDays" = some false := by rfl
@[simp] theorem so_1_7 : subO "InvalidLot" "InvalidEvents" = some false := by rfl
@[simp] theorem so_1_8 : subO "InvalidLot" "InvalidBook" = some false := by rfl
@[simp] theorem so_1_9 : subO "InvalidLot" "InvalidName" = some false := by rfl
@[simp] theorem so_1_10 : subO "InvalidLot" "TooLarge" = some false := by rfl
@[simp] theorem so_1_11 : subO "InvalidLot" "NothingToUndo" = some false := by rfl
@[simp] theorem so_1_12 : subO "InvalidLot" "InvalidPicks" = some false := by rfl
@[simp] theorem so_1_13 : subO "InvalidLot" "MissingTool" = some false := by rfl
@[simp] theorem so_1_14 : subO "InvalidLot" "CannotDo" = some false := by rfl
@[simp] theorem so_1_15 : subO "InvalidLot" "Impossible" = some false := by rfl
@[simp] theorem so_1_16 : subO "InvalidLot" "TooSharp" = some false := by rfl
@[simp] theorem so_1_17 : subO "InvalidLot" "UnknownName" = some false := by rfl
@[simp] theorem so_1_18 : subO "InvalidLot" "DuplicateName" = some false := by rfl
@[simp] theorem so_2_0 : subO "InvalidRow" "KeenError" = some false := by rfl
@[simp] theorem so_2_1 : subO "InvalidRow" "InvalidLot" = some false := by rfl
@[simp] theorem so_2_2 : subO "InvalidRow" "InvalidRow" = some true := by rfl
@[simp] theorem so_2_3 : subO "InvalidRow" "InvalidNumber" = some false := by rfl
@[simp] theorem so_2_4 : subO "InvalidRow" "InvalidOption" = some false := by rfl
@[simp] theorem so_2_5 : subO "InvalidRow" "InvalidList" = some false := by rfl
@[simp] theorem so_2_6 : subO "InvalidRow" "InvalidDays" = some false := by rfl
@[simp] theorem so_2_7 : subO "InvalidRow" "InvalidEvents" = some false := by rfl
@[simp] theorem so_2_8 : subO "InvalidRow" "InvalidBook" = some false := by rfl
@[simp] theorem so_2_9 : subO "InvalidRow" "InvalidName" = some false := by rfl
@[simp] theorem so_2_10 : subO "InvalidRow" "TooLarge" = some false := by rfl
@[simp] theorem so_2_11 : subO "InvalidRow" "NothingToUndo" = some false := by rfl
@[simp] theorem so_2_12 : subO "InvalidRow" "InvalidPicks" = some false := by rfl
@[simp] theorem so_2_13 : subO "InvalidRow" "MissingTool" = some false := by rfl
@[simp] theorem so_2_14 : subO "InvalidRow" "CannotDo" = some false := by rfl
@[simp] theorem so_2_15 : subO "InvalidRow" "Impossible" = some false := by rfl
@[simp] theorem so_2_16 : subO "InvalidRow" "TooSharp" = some false := by rfl
@[simp] theorem so_2_17 : subO "InvalidRow" "UnknownName" = some false := by rfl
@[simp] theorem so_2_18 : subO "InvalidRow" "DuplicateName" = some false := by rfl
@[simp] theorem so_3_0 : subO "InvalidNumber" "KeenError" = some false := by rfl
@[simp] theorem so_3_1 : subO "InvalidNumber" "InvalidLot" = some false := by rfl
@[simp] theorem so_3_2 : subO "InvalidNumber" "InvalidRow" = some false := by rfl
@[simp] theorem so_3_3 : subO "InvalidNumber" "InvalidNumber" = some true := by rfl
@[simp] theorem so_3_4 : subO "InvalidNumber" "InvalidOption" = some false := by rfl
@[simp] theorem so_3_5 : subO "InvalidNumber" "InvalidList" = some false := by rfl
@[simp] theorem so_3_6 : subO "InvalidNumber" "InvalidDays" = some false := by rfl
@[simp] theorem so_3_7 : subO "InvalidNumber" "InvalidEvents" = some false := by rfl
@[simp] theorem so_3_8 : subO "InvalidNumber" "InvalidBook" = some false := by rfl
@[simp] theorem so_3_9 : subO "InvalidNumber" "InvalidName" = some false := by rfl
@[simp] theorem so_3_10 : subO "InvalidNumber" "TooLarge" = some false := by rfl
@[simp] theorem so_3_11 : subO "InvalidNumber" "NothingToUndo" = some false := by rfl
@[simp] theorem so_3_12 : subO "InvalidNumber" "InvalidPicks" = some false := by rfl
@[simp] theorem so_3_13 : subO "InvalidNumber" "MissingTool" = some false := by rfl
@[simp] theorem so_3_14 : subO "InvalidNumber" "CannotDo" = some false := by rfl
@[simp] theorem so_3_15 : subO "InvalidNumber" "Impossible" = some false := by rfl
@[simp] theorem so_3_16 : subO "InvalidNumber" "TooSharp" = some false := by rfl
@[simp] theorem so_3_17 : subO "InvalidNumber" "UnknownName" = some false := by rfl
@[simp] theorem so_3_18 : subO "InvalidNumber" "DuplicateName" = some false := by rfl
@[simp] theorem so_4_0 : subO "InvalidOption" "KeenError" = some false := by rfl
@[simp] theorem so_4_1 : subO "InvalidOption" "InvalidLot" = some false := by rfl
@[simp] theorem so_4_2 : subO "InvalidOption" "InvalidRow" = some false := by rfl
@[simp] theorem so_4_3 : subO "InvalidOption" "InvalidNumber" = some false := by rfl
@[simp] theorem so_4_4 : subO "InvalidOption" "InvalidOption" = some true := by rfl
@[simp] theorem so_4_5 : subO "InvalidOption" "InvalidList" = some false := by rfl
@[simp] theorem so_4_6 : subO "InvalidOption" "InvalidDays" = some false := by rfl
@[simp] theorem so_4_7 : subO "InvalidOption" "InvalidEvents" = some false := by rfl
@[simp] theorem so_4_8 : subO "InvalidOption" "InvalidBook" = some false := by rfl
@[simp] theorem so_4_9 : subO "InvalidOption" "InvalidName" = some false := by rfl
@[simp] theorem so_4_10 : subO "InvalidOption" "TooLarge" = some false := by rfl
@[simp] theorem so_4_11 : subO "InvalidOption" "NothingToUndo" = some false := by rfl
@[simp] theorem so_4_12 : subO "InvalidOption" "InvalidPicks" = some false := by rfl
@[simp] theorem so_4_13 : subO "InvalidOption" "MissingTool" = some false := by rfl
@[simp] theorem so_4_14 : subO "InvalidOption" "CannotDo" = some false := by rfl
@[simp] theorem so_4_15 : subO "InvalidOption" "Impossible" = some false := by rfl
@[simp] theorem so_4_16 : subO "InvalidOption" "TooSharp" = some false := by rfl
@[simp] theorem so_4_17 : subO "InvalidOption" "UnknownName" = some false := by rfl
@[simp] theorem so_4_18 : subO "InvalidOption" "DuplicateName" = some false := by rfl
@[simp] theorem so_5_0 : subO "InvalidList" "KeenError" = some false := by rfl
@[simp] theorem so_5_1 : subO "InvalidList" "InvalidLot" = some false := by rfl
@[simp] theorem so_5_2 : subO "InvalidList" "InvalidRow" = some false := by rfl
@[simp] theorem so_5_3 : subO "InvalidList" "InvalidNumber" = some false := by rfl
@[simp] theorem so_5_4 : subO "InvalidList" "InvalidOption" = some false := by rfl
@[simp] theorem so_5_5 : subO "InvalidList" "InvalidList" = some true := by rfl
@[simp] theorem so_5_6 : subO "InvalidList" "InvalidDays" = some false := by rfl
@[simp] theorem so_5_7 : subO "InvalidList" "InvalidEvents" = some false := by rfl
@[simp] theorem so_5_8 : subO "InvalidList" "InvalidBook" = some false := by rfl
@[simp] theorem so_5_9 : subO "InvalidList" "InvalidName" = some false := by rfl
@[simp] theorem so_5_10 : subO "InvalidList" "TooLarge" = some false := by rfl
@[simp] theorem so_5_11 : subO "InvalidList" "NothingToUndo" = some false := by rfl
@[simp] theorem so_5_12 : subO "InvalidList" "InvalidPicks" = some false := by rfl
@[simp] theorem so_5_13 : subO "InvalidList" "MissingTool" = some false := by rfl
@[simp] theorem so_5_14 : subO "InvalidList" "CannotDo" = some false := by rfl
@[simp] theorem so_5_15 : subO "InvalidList" "Impossible" = some false := by rfl
@[simp] theorem so_5_16 : subO "InvalidList" "TooSharp" = some false := by rfl
@[simp] theorem so_5_17 : subO "InvalidList" "UnknownName" = some false := by rfl
@[simp] theorem so_5_18 : subO "InvalidList" "DuplicateName" = some false := by rfl
@[simp] theorem so_6_0 : subO "InvalidDays" "KeenError" = some false := by rfl
@[simp] theorem so_6_1 : subO "InvalidDays" "InvalidLot" = some false := by rfl
@[simp] theorem so_6_2 : subO "InvalidDays" "InvalidRow" = some false := by rfl
@[simp] theorem so_6_3 : subO "InvalidDays" "InvalidNumber" = some false := by rfl
@[simp] theorem so_6_4 : subO "InvalidDays" "InvalidOption" = some false := by rfl
@[simp] theorem so_6_5 : subO "InvalidDays" "InvalidList" = some false := by rfl
@[simp] theorem so_6_6 : subO "InvalidDays" "InvalidDays" = some true := by rfl
@[simp] theorem so_6_7 : subO "InvalidDays" "InvalidEvents" = some false := by rfl
@[simp] theorem so_6_8 : subO "InvalidDays" "InvalidBook" = some false := by rfl
@[simp] theorem so_6_9 : subO "InvalidDays" "InvalidName" = some false := by rfl
@[simp] theorem so_6_10 : subO "InvalidDays" "TooLarge" = some false := by rfl
@[simp] theorem so_6_11 : subO "InvalidDays" "NothingToUndo" = some false := by rfl
@[simp] theorem so_6_12 : subO "InvalidDays" "InvalidPicks" = some false := by rfl
@[simp] theorem so_6_13 : subO "InvalidDays" "MissingTool" = some false := by rfl
@[simp] theorem so_6_14 : subO "InvalidDays" "CannotDo" = some false := by rfl
@[simp] theorem so_6_15 : subO "InvalidDays" "Impossible" = some false := by rfl
@[simp] theorem so_6_16 : subO "InvalidDays" "TooSharp" = some false := by rfl
@[simp] theorem so_6_17 : subO "InvalidDays" "UnknownName" = some false := by rfl
@[simp] theorem so_6_18 : subO "InvalidDays" "DuplicateName" = some false := by rfl
@[simp] theorem so_7_0 : subO "InvalidEvents" "KeenError" = some false := by rfl
@[simp] theorem so_7_1 : subO "InvalidEvents" "InvalidLot" = some false := by rfl
@[simp] theorem so_7_2 : subO "InvalidEvents" "InvalidRow" = some false := by rfl
@[simp] theorem so_7_3 : subO "InvalidEvents" "InvalidNumber" = some false := by rfl
@[simp] theorem so_7_4 : subO "InvalidEvents" "InvalidOption" = some false := by rfl
@[simp] theorem so_7_5 : subO "InvalidEvents" "InvalidList" = some false := by rfl
@[simp] theorem so_7_6 : subO "InvalidEvents" "InvalidDays" = some false := by rfl
@[simp] theorem so_7_7 : subO "InvalidEvents" "InvalidEvents" = some true := by rfl
@[simp] theorem so_7_8 : subO "InvalidEvents" "InvalidBook" = some false := by rfl
@[simp] theorem so_7_9 : subO "InvalidEvents" "InvalidName" = some false := by rfl
@[simp] theorem so_7_10 : subO "InvalidEvents" "TooLarge" = some false := by rfl
@[simp] theorem so_7_11 : subO "InvalidEvents" "NothingToUndo" = some false := by rfl
@[simp] theorem so_7_12 : subO "InvalidEvents" "InvalidPicks" = some false := by rfl
@[simp] theorem so_7_13 : subO "InvalidEvents" "MissingTool" = some false := by rfl
@[simp] theorem so_7_14 : subO "InvalidEvents" "CannotDo" = some false := by rfl
@[simp] theorem so_7_15 : subO "InvalidEvents" "Impossible" = some false := by rfl
@[simp] theorem so_7_16 : subO "InvalidEvents" "TooSharp" = some false := by rfl
@[simp] theorem so_7_17 : subO "InvalidEvents" "UnknownName" = some false := by rfl
@[simp] theorem so_7_18 : subO "InvalidEvents" "DuplicateName" = some false := by rfl
@[simp] theorem so_8_0 : subO "InvalidBook" "KeenError" = some false := by rfl
@[simp] theorem so_8_1 : subO "InvalidBook" "InvalidLot" = some false := by rfl
@[simp] theorem so_8_2 : subO "InvalidBook" "InvalidRow" = some false := by rfl
@[simp] theorem so_8_3 : subO "InvalidBook" "InvalidNumber" = some false := by rfl
@[simp] theorem so_8_4 : subO "InvalidBook" "InvalidOption" = some false := by rfl
@[simp] theorem so_8_5 : subO "InvalidBook" "InvalidList" = some false := by rfl
@[simp] theorem so_8_6 : subO "InvalidBook" "InvalidDays" = some false := by rfl
@[simp] theorem so_8_7 : subO "InvalidBook" "InvalidEvents" = some false := by rfl
@[simp] theorem so_8_8 : subO "InvalidBook" "InvalidBook" = some true := by rfl
@[simp] theorem so_8_9 : subO "InvalidBook" "InvalidName" = some false := by rfl
@[simp] theorem so_8_10 : subO "InvalidBook" "TooLarge" = some false := by rfl
@[simp] theorem so_8_11 : subO "InvalidBook" "NothingToUndo" = some false := by rfl
@[simp] theorem so_8_12 : subO "InvalidBook" "InvalidPicks" = some false := by rfl
@[simp] theorem so_8_13 : subO "InvalidBook" "MissingTool" = some false := by rfl
@[simp] theorem so_8_14 : subO "InvalidBook" "CannotDo" = some false := by rfl
@[simp] theorem so_8_15 : subO "InvalidBook" "Impossible" = some false := by rfl
@[simp] theorem so_8_16 : subO "InvalidBook" "TooSharp" = some false := by rfl
@[simp] theorem so_8_17 : subO "InvalidBook" "UnknownName" = some false := by rfl
@[simp] theorem so_8_18 : subO "InvalidBook" "DuplicateName" = some false := by rfl
@[simp] theorem so_9_0 : subO "InvalidName" "KeenError" = some false := by rfl
@[simp] theorem so_9_1 : subO "InvalidName" "InvalidLot" = some false := by rfl
@[simp] theorem so_9_2 : subO "InvalidName" "InvalidRow" = some false := by rfl
@[simp] theorem so_9_3 : subO "InvalidName" "InvalidNumber" = some false := by rfl
@[simp] theorem so_9_4 : subO "InvalidName" "InvalidOption" = some false := by rfl
@[simp] theorem so_9_5 : subO "InvalidName" "InvalidList" = some false := by rfl
@[simp] theorem so_9_6 : subO "InvalidName" "InvalidDays" = some false := by rfl
@[simp] theorem so_9_7 : subO "InvalidName" "InvalidEvents" = some false := by rfl
@[simp] theorem so_9_8 : subO "InvalidName" "InvalidBook" = some false := by rfl
@[simp] theorem so_9_9 : subO "InvalidName" "InvalidName" = some true := by rfl
@[simp] theorem so_9_10 : subO "InvalidName" "TooLarge" = some false := by rfl
@[simp] theorem so_9_11 : subO "InvalidName" "NothingToUndo" = some false := by rfl
@[simp] theorem so_9_12 : subO "InvalidName" "InvalidPicks" = some false := by rfl
@[simp] theorem so_9_13 : subO "InvalidName" "MissingTool" = some false := by rfl
@[simp] theorem so_9_14 : subO "InvalidName" "CannotDo" = some false := by rfl
@[simp] theorem so_9_15 : subO "InvalidName" "Impossible" = some false := by rfl
@[simp] theorem so_9_16 : subO "InvalidName" "TooSharp" = some false := by rfl
@[simp] theorem so_9_17 : subO "InvalidName" "UnknownName" = some false := by rfl
@[simp] theorem so_9_18 : subO "InvalidName" "DuplicateName" = some false := by rfl
@[simp] theorem so_10_0 : subO "TooLarge" "KeenError" = some false := by rfl
@[simp] theorem so_10_1 : subO "TooLarge" "InvalidLot" = some false := by rfl
@[simp] theorem so_10_2 : subO "TooLarge" "InvalidRow" = some false := by rfl
@[simp] theorem so_10_3 : subO "TooLarge" "InvalidNumber" = some false := by rfl
@[simp] theorem so_10_4 : subO "TooLarge" "InvalidOption" = some false := by rfl
@[simp] theorem so_10_5 : subO "TooLarge" "InvalidList" = some false := by rfl
@[simp] theorem so_10_6 : subO "TooLarge" "InvalidDays" = some false := by rfl
@[simp] theorem so_10_7 : subO "TooLarge" "InvalidEvents" = some false := by rfl
@[simp] theorem so_10_8 : subO "TooLarge" "InvalidBook" = some false := by rfl
@[simp] theorem so_10_9 : subO "TooLarge" "InvalidName" = some false := by rfl
@[simp] theorem so_10_10 : subO "TooLarge" "TooLarge" = some true := by rfl
@[simp] theorem so_10_11 : subO "TooLarge" "NothingToUndo" = some false := by rfl
@[simp] theorem so_10_12 : subO "TooLarge" "InvalidPicks" = some false := by rfl
@[simp] theorem so_10_13 : subO "TooLarge" "MissingTool" = some false := by rfl
@[simp] theorem so_10_14 : subO "TooLarge" "CannotDo" = some false := by rfl
@[simp] theorem so_10_15 : subO "TooLarge" "Impossible" = some false := by rfl
@[simp] theorem so_10_16 : subO "TooLarge" "TooSharp" = some false := by rfl
@[simp] theorem so_10_17 : subO "TooLarge" "UnknownName" = some false := by rfl
@[simp] theorem so_10_18 : subO "TooLarge" "DuplicateName" = some false := by rfl
@[simp] theorem so_11_0 : subO "NothingToUndo" "KeenError" = some false := by rfl
@[simp] theorem so_11_1 : subO "NothingToUndo" "InvalidLot" = some false := by rfl
@[simp] theorem so_11_2 : subO "NothingToUndo" "InvalidRow" = some false := by rfl
@[simp] theorem so_11_3 : subO "NothingToUndo" "InvalidNumber" = some false := by rfl
@[simp] theorem so_11_4 : subO "NothingToUndo" "InvalidOption" = some false := by rfl
@[simp] theorem so_11_5 : subO "NothingToUndo" "InvalidList" = some false := by rfl
@[simp] theorem so_11_6 : subO "NothingToUndo" "InvalidDays" = some false := by rfl
@[simp] theorem so_11_7 : subO "NothingToUndo" "InvalidEvents" = some false := by rfl
@[simp] theorem so_11_8 : subO "NothingToUndo" "InvalidBook" = some false := by rfl
@[simp] theorem so_11_9 : subO "NothingToUndo" "InvalidName" = some false := by rfl
@[simp] theorem so_11_10 : subO "NothingToUndo" "TooLarge" = some false := by rfl
@[simp] theorem so_11_11 : subO "NothingToUndo" "NothingToUndo" = some true := by rfl
@[simp] theorem so_11_12 : subO "NothingToUndo" "InvalidPicks" = some false := by rfl
@[simp] theorem so_11_13 : subO "NothingToUndo" "MissingTool" = some false := by rfl
@[simp] theorem so_11_14 : subO "NothingToUndo" "CannotDo" = some false := by rfl
@[simp] theorem so_11_15 : subO "NothingToUndo" "Impossible" = some false := by rfl
@[simp] theorem so_11_16 : subO "NothingToUndo" "TooSharp" = some false := by rfl
@[simp] theorem so_11_17 : subO "NothingToUndo" "UnknownName" = some false := by rfl
@[simp] theorem so_11_18 : subO "NothingToUndo" "DuplicateName" = some false := by rfl
@[simp] theorem so_12_0 : subO "InvalidPicks" "KeenError" = some false := by rfl
@[simp] theorem so_12_1 : subO "InvalidPicks" "InvalidLot" = some false := by rfl
@[simp] theorem so_12_2 : subO "InvalidPicks" "InvalidRow" = some false := by rfl
@[simp] theorem so_12_3 : subO "InvalidPicks" "InvalidNumber" = some false := by rfl
@[simp] theorem so_12_4 : subO "InvalidPicks" "InvalidOption" = some false := by rfl
@[simp] theorem so_12_5 : subO "InvalidPicks" "InvalidList" = some false := by rfl
@[simp] theorem so_12_6 : subO "InvalidPicks" "InvalidDays" = some false := by rfl
@[simp] theorem so_12_7 : subO "InvalidPicks" "InvalidEvents" = some false := by rfl
@[simp] theorem so_12_8 : subO "InvalidPicks" "InvalidBook" = some false := by rfl
@[simp] theorem so_12_9 : subO "InvalidPicks" "InvalidName" = some false := by rfl
@[simp] theorem so_12_10 : subO "InvalidPicks" "TooLarge" = some false := by rfl
@[simp] theorem so_12_11 : subO "InvalidPicks" "NothingToUndo" = some false := by rfl
@[simp] theorem so_12_12 : subO "InvalidPicks" "InvalidPicks" = some true := by rfl
@[simp] theorem so_12_13 : subO "InvalidPicks" "MissingTool" = some false := by rfl
@[simp] theorem so_12_14 : subO "InvalidPicks" "CannotDo" = some false := by rfl
@[simp] theorem so_12_15 : subO "InvalidPicks" "Impossible" = some false := by rfl
@[simp] theorem so_12_16 : subO "InvalidPicks" "TooSharp" = some false := by rfl
@[simp] theorem so_12_17 : subO "InvalidPicks" "UnknownName" = some false := by rfl
@[simp] theorem so_12_18 : subO "InvalidPicks" "DuplicateName" = some false := by rfl
@[simp] theorem so_13_0 : subO "MissingTool" "KeenError" = some false := by rfl
@[simp] theorem so_13_1 : subO "MissingTool" "InvalidLot" = some false := by rfl
@[simp] theorem so_13_2 : subO "MissingTool" "InvalidRow" = some false := by rfl
@[simp] theorem so_13_3 : subO "MissingTool" "InvalidNumber" = some false := by rfl
@[simp] theorem so_13_4 : subO "MissingTool" "InvalidOption" = some false := by rfl
@[simp] theorem so_13_5 : subO "MissingTool" "InvalidList" = some false := by rfl
@[simp] theorem so_13_6 : subO "MissingTool" "InvalidDays" = some false := by rfl
@[simp] theorem so_13_7 : subO "MissingTool" "InvalidEvents" = some false := by rfl
@[simp] theorem so_13_8 : subO "MissingTool" "InvalidBook" = some false := by rfl
@[simp] theorem so_13_9 : subO "MissingTool" "InvalidName" = some false := by rfl
@[simp] theorem so_13_10 : subO "MissingTool" "TooLarge" = some false := by rfl
@[simp] theorem so_13_11 : subO "MissingTool" "NothingToUndo" = some false := by rfl
@[simp] theorem so_13_12 : subO "MissingTool" "InvalidPicks" = some false := by rfl
@[simp] theorem so_13_13 : subO "MissingTool" "MissingTool" = some true := by rfl
@[simp] theorem so_13_14 : subO "MissingTool" "CannotDo" = some false := by rfl
@[simp] theorem so_13_15 : subO "MissingTool" "Impossible" = some false := by rfl
@[simp] theorem so_13_16 : subO "MissingTool" "TooSharp" = some false := by rfl
@[simp] theorem so_13_17 : subO "MissingTool" "UnknownName" = some false := by rfl
@[simp] theorem so_13_18 : subO "MissingTool" "DuplicateName" = some false := by rfl
@[simp] theorem so_14_0 : subO "CannotDo" "KeenError" = some false := by rfl
@[simp] theorem so_14_1 : subO "CannotDo" "InvalidLot" = some false := by rfl
@[simp] theorem so_14_2 : subO "CannotDo" "InvalidRow" = some false := by rfl
@[simp] theorem so_14_3 : subO "CannotDo" "InvalidNumber" = some false := by rfl
@[simp] theorem so_14_4 : subO "CannotDo" "InvalidOption" = some false := by rfl
@[simp] theorem so_14_5 : subO "CannotDo" "InvalidList" = some false := by rfl
@[simp] theorem so_14_6 : subO "CannotDo" "InvalidDays" = some false := by rfl
@[simp] theorem so_14_7 : subO "CannotDo" "InvalidEvents" = some false := by rfl
@[simp] theorem so_14_8 : subO "CannotDo" "InvalidBook" = some false := by rfl
@[simp] theorem so_14_9 : subO "CannotDo" "InvalidName" = some false := by rfl
@[simp] theorem so_14_10 : subO "CannotDo" "TooLarge" = some false := by rfl
@[simp] theorem so_14_11 : subO "CannotDo" "NothingToUndo" = some false := by rfl
@[simp] theorem so_14_12 : subO "CannotDo" "InvalidPicks" = some false := by rfl
@[simp] theorem so_14_13 : subO "CannotDo" "MissingTool" = some false := by rfl
@[simp] theorem so_14_14 : subO "CannotDo" "CannotDo" = some true := by rfl
@[simp] theorem so_14_15 : subO "CannotDo" "Impossible" = some false := by rfl
@[simp] theorem so_14_16 : subO "CannotDo" "TooSharp" = some false := by rfl
@[simp] theorem so_14_17 : subO "CannotDo" "UnknownName" = some false := by rfl
@[simp] theorem so_14_18 : subO "CannotDo" "DuplicateName" = some false := by rfl
@[simp] theorem so_15_0 : subO "Impossible" "KeenError" = some false := by rfl
@[simp] theorem so_15_1 : subO "Impossible" "InvalidLot" = some false := by rfl
@[simp] theorem so_15_2 : subO "Impossible" "InvalidRow" = some false := by rfl
@[simp] theorem so_15_3 : subO "Impossible" "InvalidNumber" = some false := by rfl
@[simp] theorem so_15_4 : subO "Impossible" "InvalidOption" = some false := by rfl
@[simp] theorem so_15_5 : subO "Impossible" "InvalidList" = some false := by rfl
@[simp] theorem so_15_6 : subO "Impossible" "InvalidDays" = some false := by rfl
@[simp] theorem so_15_7 : subO "Impossible" "InvalidEvents" = some false := by rfl
@[simp] theorem so_15_8 : subO "Impossible" "InvalidBook" = some false := by rfl
@[simp] theorem so_15_9 : subO "Impossible" "InvalidName" = some false := by rfl
@[simp] theorem so_15_10 : subO "Impossible" "TooLarge" = some false := by rfl
@[simp] theorem so_15_11 : subO "Impossible" "NothingToUndo" = some false := by rfl
@[simp] theorem so_15_12 : subO "Impossible" "InvalidPicks" = some false := by rfl
@[simp] theorem so_15_13 : subO "Impossible" "MissingTool" = some false := by rfl
@[simp] theorem so_15_14 : subO "Impossible" "CannotDo" = some false := by rfl
@[simp] theorem so_15_15 : subO "Impossible" "Impossible" = some true := by rfl
@[simp] theorem so_15_16 : subO "Impossible" "TooSharp" = some false := by rfl
@[simp] theorem so_15_17 : subO "Impossible" "UnknownName" = some false := by rfl
@[simp] theorem so_15_18 : subO "Impossible" "DuplicateName" = some false := by rfl
@[simp] theorem so_16_0 : subO "TooSharp" "KeenError" = some false := by rfl
@[simp] theorem so_16_1 : subO "TooSharp" "InvalidLot" = some false := by rfl
@[simp] theorem so_16_2 : subO "TooSharp" "InvalidRow" = some false := by rfl
@[simp] theorem so_16_3 : subO "TooSharp" "InvalidNumber" = some false := by rfl
@[simp] theorem so_16_4 : subO "TooSharp" "InvalidOption" = some false := by rfl
@[simp] theorem so_16_5 : subO "TooSharp" "InvalidList" = some false := by rfl
@[simp] theorem so_16_6 : subO "TooSharp" "InvalidDays" = some false := by rfl
@[simp] theorem so_16_7 : subO "TooSharp" "InvalidEvents" = some false := by rfl
@[simp] theorem so_16_8 : subO "TooSharp" "InvalidBook" = some false := by rfl
@[simp] theorem so_16_9 : subO "TooSharp" "InvalidName" = some false := by rfl
@[simp] theorem so_16_10 : subO "TooSharp" "TooLarge" = some false := by rfl
@[simp] theorem so_16_11 : subO "TooSharp" "NothingToUndo" = some false := by rfl
@[simp] theorem so_16_12 : subO "TooSharp" "InvalidPicks" = some false := by rfl
@[simp] theorem so_16_13 : subO "TooSharp" "MissingTool" = some false := by rfl
@[simp] theorem so_16_14 : subO "TooSharp" "CannotDo" = some false := by rfl
@[simp] theorem so_16_15 : subO "TooSharp" "Impossible" = some false := by rfl
@[simp] theorem so_16_16 : subO "TooSharp" "TooSharp" = some true := by rfl
@[simp] theorem so_16_17 : subO "TooSharp" "UnknownName" = some false := by rfl
@[simp] theorem so_16_18 : subO "TooSharp" "DuplicateName" = some false := by rfl
@[simp] theorem so_17_0 : subO "UnknownName" "KeenError" = some false := by rfl
@[simp] theorem so_17_1 : subO "UnknownName" "InvalidLot" = some false := by rfl
@[simp] theorem so_17_2 : subO "UnknownName" "InvalidRow" = some false := by rfl
@[simp] theorem so_17_3 : subO "UnknownName" "InvalidNumber" = some false := by rfl
@[simp] theorem so_17_4 : subO "UnknownName" "InvalidOption" = some false := by rfl
@[simp] theorem so_17_5 : subO "UnknownName" "InvalidList" = some false := by rfl
@[simp] theorem so_17_6 : subO "UnknownName" "InvalidDays" = some false := by rfl
@[simp] theorem so_17_7 : subO "UnknownName" "InvalidEvents" = some false := by rfl
@[simp] theorem so_17_8 : subO "UnknownName" "InvalidBook" = some false := by rfl
@[simp] theorem so_17_9 : subO "UnknownName" "InvalidName" = some false := by rfl
@[simp] theorem so_17_10 : subO "UnknownName" "TooLarge" = some false := by rfl
@[simp] theorem so_17_11 : subO "UnknownName" "NothingToUndo" = some false := by rfl
@[simp] theorem so_17_12 : subO "UnknownName" "InvalidPicks" = some false := by rfl
@[simp] theorem so_17_13 : subO "UnknownName" "MissingTool" = some false := by rfl
@[simp] theorem so_17_14 : subO "UnknownName" "CannotDo" = some false := by rfl
@[simp] theorem so_17_15 : subO "UnknownName" "Impossible" = some false := by rfl
@[simp] theorem so_17_16 : subO "UnknownName" "TooSharp" = some false := by rfl
@[simp] theorem so_17_17 : subO "UnknownName" "UnknownName" = some true := by rfl
@[simp] theorem so_17_18 : subO "UnknownName" "DuplicateName" = some false := by rfl
@[simp] theorem so_18_0 : subO "DuplicateName" "KeenError" = some false := by rfl
@[simp] theorem so_18_1 : subO "DuplicateName" "InvalidLot" = some false := by rfl
@[simp] theorem so_18_2 : subO "DuplicateName" "InvalidRow" = some false := by rfl
@[simp] theorem so_18_3 : subO "DuplicateName" "InvalidNumber" = some false := by rfl
@[simp] theorem so_18_4 : subO "DuplicateName" "InvalidOption" = some false := by rfl
@[simp] theorem so_18_5 : subO "DuplicateName" "InvalidList" = some false := by rfl
@[simp] theorem so_18_6 : subO "DuplicateName" "InvalidDays" = some false := by rfl
@[simp] theorem so_18_7 : subO "DuplicateName" "InvalidEvents" = some false := by rfl
@[simp] theorem so_18_8 : subO "DuplicateName" "InvalidBook" = some false := by rfl
@[simp] theorem so_18_9 : subO "DuplicateName" "InvalidName" = some false := by rfl
@[simp] theorem so_18_10 : subO "DuplicateName" "TooLarge" = some false := by rfl
@[simp] theorem so_18_11 : subO "DuplicateName" "NothingToUndo" = some false := by rfl
@[simp] theorem so_18_12 : subO "DuplicateName" "InvalidPicks" = some false := by rfl
@[simp] theorem so_18_13 : subO "DuplicateName" "MissingTool" = some false := by rfl
@[simp] theorem so_18_14 : subO "DuplicateName" "CannotDo" = some false := by rfl
@[simp] theorem so_18_15 : subO "DuplicateName" "Impossible" = some false := by rfl
@[simp] theorem so_18_16 : subO "DuplicateName" "TooSharp" = some false := by rfl
@[simp] theorem so_18_17 : subO "DuplicateName" "UnknownName" = some false := by rfl
@[simp] theorem so_18_18 : subO "DuplicateName" "DuplicateName" = some true := by rfl
@[simp] theorem sv_0 : subV "KeenError" = some true := by rfl
@[simp] theorem sv_1 : subV "InvalidLot" = some true := by rfl
@[simp] theorem sv_2 : subV "InvalidRow" = some true := by rfl
@[simp] theorem sv_3 : subV "InvalidNumber" = some true := by rfl
@[simp] theorem sv_4 : subV "InvalidOption" = some true := by rfl
@[simp] theorem sv_5 : subV "InvalidList" = some true := by rfl
@[simp] theorem sv_6 : subV "InvalidDays" = some true := by rfl
@[simp] theorem sv_7 : subV "InvalidEvents" = some true := by rfl
@[simp] theorem sv_8 : subV "InvalidBook" = some true := by rfl
@[simp] theorem sv_9 : subV "InvalidName" = some true := by rfl
@[simp] theorem sv_10 : subV "TooLarge" = some true := by rfl
@[simp] theorem sv_11 : subV "NothingToUndo" = some true := by rfl
@[simp] theorem sv_12 : subV "InvalidPicks" = some true := by rfl
@[simp] theorem sv_13 : subV "MissingTool" = some true := by rfl
@[simp] theorem sv_14 : subV "CannotDo" = some true := by rfl
@[simp] theorem sv_15 : subV "Impossible" = some true := by rfl
@[simp] theorem sv_16 : subV "TooSharp" = some true := by rfl
@[simp] theorem sv_17 : subV "UnknownName" = some true := by rfl
@[simp] theorem sv_18 : subV "DuplicateName" = some true := by rfl
@[simp] theorem tf_NoneType : tyF "NoneType" = some false := by rfl
@[simp] theorem tf_bool : tyF "bool" = some false := by rfl
@[simp] theorem tf_int : tyF "int" = some false := by rfl
@[simp] theorem tf_str : tyF "str" = some false := by rfl
@[simp] theorem tf_list : tyF "list" = some false := by rfl
@[simp] theorem tf_tuple : tyF "tuple" = some false := by rfl
end KL
end

section
set_option Elab.async false
set_option linter.all false
set_option maxRecDepth 100000
/-! ### the layer's functions are worked out by simp: what is run first is worked out first -/
namespace KL
open PySem L2
/-- an equation by steps -/
theorem nr {α : Sort _} {a b : α} (h : a = b) : a = b := h
@[simp] theorem bnd_ok {α β : Type} (a : α) (ρ : Env) (f : α → Env → R β) : bnd (.ok a ρ) f = f a ρ := nr rfl
@[simp] theorem bnd_ex {α β : Type} (e : D) (ρ : Env) (f : α → Env → R β) : bnd (.ex e ρ) f = .ex e ρ := nr rfl
@[simp] theorem bnd_bad {α β : Type} (f : α → Env → R β) : bnd .bad f = .bad := nr rfl
@[simp] theorem bndS_ok {α : Type} (a : α) (ρ : Env) (f : α → Env → Out) : bndS (.ok a ρ) f = f a ρ := nr rfl
@[simp] theorem bndS_ex {α : Type} (e : D) (ρ : Env) (f : α → Env → Out) : bndS (.ex e ρ) f = .ex e ρ := nr rfl
def seqK (o : Out) (g : SM) : Out := match o with
  | .nx ρ => g ρ
  | o => o
@[simp] theorem seqS_ap (f g : SM) (ρ : Env) : seqS f g ρ = seqK (f ρ) g := by unfold seqS seqK; rfl
@[simp] theorem seqK_nx (ρ : Env) (g : SM) : seqK (.nx ρ) g = g ρ := nr rfl
@[simp] theorem seqK_bk (ρ : Env) (g : SM) : seqK (.bk ρ) g = .bk ρ := nr rfl
@[simp] theorem seqK_ct (ρ : Env) (g : SM) : seqK (.ct ρ) g = .ct ρ := nr rfl
@[simp] theorem seqK_rt (a : Vl) (ρ : Env) (g : SM) : seqK (.rt a ρ) g = .rt a ρ := nr rfl
@[simp] theorem seqK_ex (e : D) (ρ : Env) (g : SM) : seqK (.ex e ρ) g = .ex e ρ := nr rfl
theorem seqK_ite {c : Prop} [Decidable c] (a b : Out) (g : SM) : seqK (if c then a else b) g = if c then seqK a g else seqK b g := by split <;> rfl
@[simp] theorem nxS_ap (ρ : Env) : nxS ρ = .nx ρ := nr rfl
def exK (_ : Vl) (ρ1 : Env) : Out := .nx ρ1
@[simp] theorem exS_ap (f : M Vl) (ρ : Env) : exS f ρ = bndS (f ρ) exK := nr rfl
@[simp] theorem exK_ap (a : Vl) (ρ : Env) : exK a ρ = .nx ρ := nr rfl
def retK (a : Vl) (ρ1 : Env) : Out := .rt a ρ1
@[simp] theorem retK_ap (a : Vl) (ρ : Env) : retK a ρ = .rt a ρ := nr rfl
@[simp] theorem retS_ap (f : M Vl) (ρ : Env) : retS f ρ = bndS (f ρ) retK := nr rfl
@[simp] theorem setS_ap (i : Nat) (f : M Vl) (ρ : Env) : setS i f ρ = bndS (f ρ) (put i) := nr rfl
@[simp] theorem put_ap (i : Nat) (a : Vl) (ρ : Env) : put i a ρ = if notIo ρ i = true then .nx (ρ.set i a.sl) else .bad := nr rfl
def ifK (f g : SM) (b : Bool) (ρ1 : Env) : Out := if b = true then f ρ1 else g ρ1
@[simp] theorem ifS_ap (c : M Bool) (f g : SM) (ρ : Env) : ifS c f g ρ = bndS (c ρ) (ifK f g) := nr rfl
@[simp] theorem ifK_ap (f g : SM) (b : Bool) (ρ1 : Env) : ifK f g b ρ1 = if b = true then f ρ1 else g ρ1 := nr rfl
@[simp] theorem raise0_ap (c : Str) (ρ : Env) : raise0 c ρ = .ex (.err c []) ρ := nr rfl
def raiseK2 (c : Str) (names : List Str) (dd : List D) (o : Option (List D)) (ρ1 : Env) : Out := match o with
  | some ds => if (ds ++ dd).length = names.length ∧ names.length ≤ 900 then .ex (.err c (names.zip (ds ++ dd)).reverse) ρ1 else .bad
  | none => .bad
def raiseK (c : Str) (names : List Str) (dd : List D) (os : List Od) (ρ1 : Env) : Out := raiseK2 c names dd (vals? os) ρ1
@[simp] theorem raiseK_ap (c : Str) (names : List Str) (dd : List D) (os : List Od) (ρ1 : Env) : raiseK c names dd os ρ1 = raiseK2 c names dd (vals? os) ρ1 := nr rfl
@[simp] theorem raiseK2_s (c : Str) (names : List Str) (dd ds : List D) (ρ1 : Env) : raiseK2 c names dd (some ds) ρ1 = if (ds ++ dd).length = names.length ∧ names.length ≤ 900 then .ex (.err c (names.zip (ds ++ dd)).reverse) ρ1 else .bad := nr rfl
@[simp] theorem raiseN_ap (c : Str) (names : List Str) (dd : List D) (f : M (List Od)) (ρ : Env) : raiseN c names dd f ρ = bndS (f ρ) (raiseK c names dd) := nr rfl
def sIxK (i : Nat) (a : Vl) (o : Option D) (q : Option Sl) (ρ : Env) : Out := match o with
  | some (.int n) => match q with
    | some q => match q.lst? with
      | some xs => if 0 ≤ n ∧ n < xs.length then .nx (ρ.set i (q.upd (xs.set n.toNat a.d))) else .bad
      | none => .bad
    | none => .bad
  | _ => .bad
def setIxK2 (i : Nat) (a : Vl) (k : Od) (ρ : Env) : Out := sIx i a k ρ
def setIxK (i : Nat) (g : M Od) (a : Vl) (ρ1 : Env) : Out := if isOwn ρ1 i = true then bndS (g ρ1) (setIxK2 i a) else .bad
@[simp] theorem setIx_ap (i : Nat) (f : M Vl) (g : M Od) (ρ : Env) : setIx i f g ρ = bndS (f ρ) (setIxK i g) := nr rfl
@[simp] theorem setIxK_ap (i : Nat) (g : M Od) (a : Vl) (ρ1 : Env) : setIxK i g a ρ1 = if isOwn ρ1 i = true then bndS (g ρ1) (setIxK2 i a) else .bad := nr rfl
@[simp] theorem setIxK2_ap (i : Nat) (a : Vl) (k : Od) (ρ : Env) : setIxK2 i a k ρ = sIxK i a (k.get ρ) ρ[i]? ρ := nr rfl
@[simp] theorem sIxK_ow (i : Nat) (a : Vl) (n : Int) (xs : List D) (ρ : Env) : sIxK i a (some (.int n)) (some (.ow xs)) ρ = if 0 ≤ n ∧ n < xs.length then .nx (ρ.set i (.ow (xs.set n.toNat a.d))) else .bad := nr rfl
@[simp] theorem sIxK_io (i : Nat) (a : Vl) (n : Int) (xs : List D) (ρ : Env) : sIxK i a (some (.int n)) (some (.io xs)) ρ = if 0 ≤ n ∧ n < xs.length then .nx (ρ.set i (.io (xs.set n.toNat a.d))) else .bad := nr rfl
@[simp] theorem forS_ap (it : M (List D)) (tg : D → Env → Out) (b : SM) (ρ : Env) : forS it tg b ρ = bndS (it ρ) (forL tg b) := nr rfl
def unpK2 (is : List Nat) (o : Option D) (ρ1 : Env) : Out := match o with
  | some (.tup ds) => if ds.length = is.length then puts is ds ρ1 else .bad
  | _ => .bad
def unpK (is : List Nat) (a : Od) (ρ1 : Env) : Out := unpK2 is (a.get ρ1) ρ1
@[simp] theorem unpK_ap (is : List Nat) (a : Od) (ρ1 : Env) : unpK is a ρ1 = unpK2 is (a.get ρ1) ρ1 := nr rfl
@[simp] theorem unpK2_t (is : List Nat) (ds : List D) (ρ1 : Env) : unpK2 is (some (.tup ds)) ρ1 = if ds.length = is.length then puts is ds ρ1 else .bad := nr rfl
@[simp] theorem unpS_ap (is : List Nat) (f : M Od) (ρ : Env) : unpS is f ρ = bndS (f ρ) (unpK is) := nr rfl
@[simp] theorem puts_nil (ρ : Env) : puts [] [] ρ = .nx ρ := nr rfl
@[simp] theorem puts_cons (i : Nat) (is : List Nat) (d : D) (ds : List D) (ρ : Env) : puts (i :: is) (d :: ds) ρ = if notIo ρ i = true then puts is ds (ρ.set i (.va d)) else .bad := nr rfl
def parK2 (i j : Nat) (o : Option (List D)) (ρ1 : Env) : Out := match o with
  | some [d, e] => if (notIo ρ1 i && notIo (ρ1.set i (.va d)) j) = true then .nx ((ρ1.set i (.va d)).set j (.va e)) else .bad
  | _ => .bad
def parK (i j : Nat) (os : List Od) (ρ1 : Env) : Out := parK2 i j (vals? os) ρ1
@[simp] theorem parK_ap (i j : Nat) (os : List Od) (ρ1 : Env) : parK i j os ρ1 = parK2 i j (vals? os) ρ1 := nr rfl
@[simp] theorem parK2_s (i j : Nat) (d e : D) (ρ1 : Env) : parK2 i j (some [d, e]) ρ1 = if (notIo ρ1 i && notIo (ρ1.set i (.va d)) j) = true then .nx ((ρ1.set i (.va d)).set j (.va e)) else .bad := nr rfl
@[simp] theorem parS_ap (i j : Nat) (f : M (List Od)) (ρ : Env) : parS i j f ρ = bndS (f ρ) (parK i j) := nr rfl
@[simp] theorem vsl_fz (d : D) : Vl.sl (.fz d) = .va d := nr rfl
@[simp] theorem vsl_fr (xs : List D) : Vl.sl (.fr xs) = .ow xs := nr rfl
@[simp] theorem vd_fz (d : D) : Vl.d (.fz d) = d := nr rfl
@[simp] theorem vd_fr (xs : List D) : Vl.d (.fr xs) = .lst xs := nr rfl
def notIoQ : Option Sl → Bool
  | some q => !q.isIo
  | none => true
@[simp] theorem notIo_ap (ρ : Env) (i : Nat) : notIo ρ i = notIoQ ρ[i]? := by
  unfold notIo notIoQ
  cases ρ[i]? with
  | none => rfl
  | some q => cases q <;> rfl
@[simp] theorem notIoQ_s (q : Sl) : notIoQ (some q) = !q.isIo := nr rfl
@[simp] theorem isIo_un : Sl.isIo .un = false := nr rfl
@[simp] theorem isIo_va (d : D) : Sl.isIo (.va d) = false := nr rfl
@[simp] theorem isIo_ow (xs : List D) : Sl.isIo (.ow xs) = false := nr rfl
@[simp] theorem isIo_io (xs : List D) : Sl.isIo (.io xs) = true := nr rfl
@[simp] theorem mine_un : Sl.mine .un = false := nr rfl
@[simp] theorem mine_va (d : D) : Sl.mine (.va d) = false := nr rfl
@[simp] theorem mine_ow (xs : List D) : Sl.mine (.ow xs) = true := nr rfl
@[simp] theorem mine_io (xs : List D) : Sl.mine (.io xs) = true := nr rfl
def isOwnQ : Option Sl → Bool
  | some q => q.mine
  | none => false
@[simp] theorem isOwn_ap (ρ : Env) (i : Nat) : isOwn ρ i = isOwnQ ρ[i]? := by unfold isOwn isOwnQ; rfl
@[simp] theorem isOwnQ_s (q : Sl) : isOwnQ (some q) = q.mine := nr rfl
@[simp] theorem lst_ow (xs : List D) : Sl.lst? (.ow xs) = some xs := nr rfl
@[simp] theorem lst_io (xs : List D) : Sl.lst? (.io xs) = some xs := nr rfl
@[simp] theorem upd_ow (xs ys : List D) : Sl.upd ys (.ow xs) = .ow ys := nr rfl
@[simp] theorem upd_io (xs ys : List D) : Sl.upd ys (.io xs) = .io ys := nr rfl
@[simp] theorem sd_un : Sl.d? .un = none := nr rfl
@[simp] theorem sd_va (d : D) : Sl.d? (.va d) = some d := nr rfl
@[simp] theorem sd_ow (xs : List D) : Sl.d? (.ow xs) = some (.lst xs) := nr rfl
@[simp] theorem sd_io (xs : List D) : Sl.d? (.io xs) = some (.lst xs) := nr rfl
@[simp] theorem get_v (ρ : Env) (d : D) : Od.get ρ (.v d) = some d := nr rfl
def getQ : Option Sl → Option D
  | some q => q.d?
  | none => none
@[simp] theorem get_s (ρ : Env) (i : Nat) : Od.get ρ (.s i) = getQ ρ[i]? := nr rfl
@[simp] theorem getQ_s (q : Sl) : getQ (some q) = q.d? := nr rfl
def frzK (a : Vl) (ρ' : Env) : R Od := .ok (.v a.d) ρ'
@[simp] theorem frzK_ap (a : Vl) (ρ : Env) : frzK a ρ = .ok (.v a.d) ρ := nr rfl
@[simp] theorem frz_ap (f : M Vl) (ρ : Env) : frz f ρ = bnd (f ρ) frzK := nr rfl
@[simp] theorem cE_ap (d : D) (ρ : Env) : cE d ρ = .ok (.fz d) ρ := nr rfl
def nmOK (i : Nat) (q : Option Sl) (ρ : Env) : R Od := match q with
  | some (.va _) => .ok (.s i) ρ
  | some (.ow _) => .ok (.s i) ρ
  | some (.io _) => .ok (.s i) ρ
  | _ => .bad
@[simp] theorem nmO_ap (i : Nat) (ρ : Env) : nmO i ρ = nmOK i ρ[i]? ρ := nr rfl
@[simp] theorem nmOK_va (i : Nat) (d : D) (ρ : Env) : nmOK i (some (.va d)) ρ = .ok (.s i) ρ := nr rfl
@[simp] theorem nmOK_ow (i : Nat) (d : List D) (ρ : Env) : nmOK i (some (.ow d)) ρ = .ok (.s i) ρ := nr rfl
@[simp] theorem nmOK_io (i : Nat) (d : List D) (ρ : Env) : nmOK i (some (.io d)) ρ = .ok (.s i) ρ := nr rfl
def nmEK (i : Nat) (q : Option Sl) (ρ : Env) : R Vl := match q with
  | some (.va d) => .ok (.fz d) ρ
  | some (.ow xs) => .ok (.fz (.lst xs)) (ρ.set i (.va (.lst xs)))
  | _ => .bad
@[simp] theorem nmE_ap (i : Nat) (ρ : Env) : nmE i ρ = nmEK i ρ[i]? ρ := nr rfl
@[simp] theorem nmEK_va (i : Nat) (d : D) (ρ : Env) : nmEK i (some (.va d)) ρ = .ok (.fz d) ρ := nr rfl
@[simp] theorem nmEK_ow (i : Nat) (xs : List D) (ρ : Env) : nmEK i (some (.ow xs)) ρ = .ok (.fz (.lst xs)) (ρ.set i (.va (.lst xs))) := nr rfl
def nmMK (i : Nat) (q : Option Sl) (ρ : Env) : R Vl := match q with
  | some (.va d) => .ok (.fz d) ρ
  | some (.ow xs) => .ok (.fr xs) (ρ.set i .un)
  | _ => .bad
@[simp] theorem nmM_ap (i : Nat) (ρ : Env) : nmM i ρ = nmMK i ρ[i]? ρ := nr rfl
@[simp] theorem nmMK_va (i : Nat) (d : D) (ρ : Env) : nmMK i (some (.va d)) ρ = .ok (.fz d) ρ := nr rfl
@[simp] theorem nmMK_ow (i : Nat) (xs : List D) (ρ : Env) : nmMK i (some (.ow xs)) ρ = .ok (.fr xs) (ρ.set i .un) := nr rfl
@[simp] theorem aNil_ap (ρ : Env) : aNil ρ = .ok [] ρ := nr rfl
def aConsK2 (o : Od) (os : List Od) (ρ2 : Env) : R (List Od) := .ok (o :: os) ρ2
def aConsK (g : M (List Od)) (o : Od) (ρ1 : Env) : R (List Od) := bnd (g ρ1) (aConsK2 o)
@[simp] theorem aConsK2_ap (o : Od) (os : List Od) (ρ2 : Env) : aConsK2 o os ρ2 = .ok (o :: os) ρ2 := nr rfl
@[simp] theorem aConsK_ap (g : M (List Od)) (o : Od) (ρ1 : Env) : aConsK g o ρ1 = bnd (g ρ1) (aConsK2 o) := nr rfl
@[simp] theorem aCons_ap (f : M Od) (g : M (List Od)) (ρ : Env) : aCons f g ρ = bnd (f ρ) (aConsK g) := nr rfl
def aStarK3 (ds : List D) (os : List Od) (ρ2 : Env) : R (List Od) := .ok (ds.map .v ++ os) ρ2
def aStarK2 (g : M (List Od)) (o : Option D) (ρ1 : Env) : R (List Od) := match o with
  | some d => match items? d with
    | some ds => bnd (g ρ1) (aStarK3 ds)
    | none => .bad
  | none => .bad
def aStarK (g : M (List Od)) (o : Od) (ρ1 : Env) : R (List Od) := aStarK2 g (o.get ρ1) ρ1
@[simp] theorem aStarK_ap (g : M (List Od)) (o : Od) (ρ1 : Env) : aStarK g o ρ1 = aStarK2 g (o.get ρ1) ρ1 := nr rfl
@[simp] theorem aStarK2_l (g : M (List Od)) (xs : List D) (ρ1 : Env) : aStarK2 g (some (.lst xs)) ρ1 = bnd (g ρ1) (aStarK3 xs) := nr rfl
@[simp] theorem aStarK2_t (g : M (List Od)) (xs : List D) (ρ1 : Env) : aStarK2 g (some (.tup xs)) ρ1 = bnd (g ρ1) (aStarK3 xs) := nr rfl
@[simp] theorem aStarK3_ap (ds : List D) (os : List Od) (ρ2 : Env) : aStarK3 ds os ρ2 = .ok (ds.map .v ++ os) ρ2 := nr rfl
@[simp] theorem aStar_ap (f : M Od) (g : M (List Od)) (ρ : Env) : aStar f g ρ = bnd (f ρ) (aStarK g) := nr rfl
@[simp] theorem ofO_s (a : Vl) (ρ : Env) : ofO (some a) ρ = .ok a ρ := nr rfl
@[simp] theorem ofO_n (ρ : Env) : ofO none ρ = .bad := nr rfl
@[simp] theorem getAll_nil (ρ : Env) : getAll ρ [] = some [] := nr rfl
def getAllK (o : Option D) (r : Option (List D)) : Option (List D) := match o with
  | some d => match r with
    | some ds => some (d :: ds)
    | none => none
  | none => none
@[simp] theorem getAll_cons (ρ : Env) (o : Od) (os : List Od) : getAll ρ (o :: os) = getAllK (o.get ρ) (getAll ρ os) := nr rfl
@[simp] theorem getAllK_s (d : D) (ds : List D) : getAllK (some d) (some ds) = some (d :: ds) := nr rfl
@[simp] theorem un1_ap (p : D → Option Vl) (f : M Od) (ρ : Env) : un1 p f ρ = bnd (f ρ) (app1 p) := nr rfl
def app1K (p : D → Option Vl) (o : Option D) (ρ : Env) : R Vl := match o with
  | some x => ofO (p x) ρ
  | none => .bad
@[simp] theorem app1_ap (p : D → Option Vl) (a : Od) (ρ : Env) : app1 p a ρ = app1K p (a.get ρ) ρ := nr rfl
@[simp] theorem app1K_s (p : D → Option Vl) (d : D) (ρ : Env) : app1K p (some d) ρ = ofO (p d) ρ := nr rfl
def binK (p : D → D → Option Vl) (g : M Od) (a : Od) (ρ1 : Env) : R Vl := bnd (g ρ1) (app2 p a)
@[simp] theorem binK_ap (p : D → D → Option Vl) (g : M Od) (a : Od) (ρ1 : Env) : binK p g a ρ1 = bnd (g ρ1) (app2 p a) := nr rfl
@[simp] theorem bin_ap (p : D → D → Option Vl) (f g : M Od) (ρ : Env) : bin p f g ρ = bnd (f ρ) (binK p g) := nr rfl
def app2K (p : D → D → Option Vl) (o q : Option D) (ρ : Env) : R Vl := match o with
  | some x => match q with
    | some y => ofO (p x y) ρ
    | none => .bad
  | none => .bad
@[simp] theorem app2_ap (p : D → D → Option Vl) (a b : Od) (ρ : Env) : app2 p a b ρ = app2K p (a.get ρ) (b.get ρ) ρ := nr rfl
@[simp] theorem app2K_s (p : D → D → Option Vl) (d e : D) (ρ : Env) : app2K p (some d) (some e) ρ = ofO (p d e) ρ := nr rfl
@[simp] theorem callB_ap (p : List D → Option Vl) (f : M (List Od)) (ρ : Env) : callB p f ρ = bnd (f ρ) (appN p) := nr rfl
def appNK (p : List D → Option Vl) (o : Option (List D)) (ρ : Env) : R Vl := match o with
  | some x => ofO (p x) ρ
  | none => .bad
@[simp] theorem appN_ap (p : List D → Option Vl) (os : List Od) (ρ : Env) : appN p os ρ = appNK p (getAll ρ os) ρ := nr rfl
@[simp] theorem appNK_s (p : List D → Option Vl) (ds : List D) (ρ : Env) : appNK p (some ds) ρ = ofO (p ds) ρ := nr rfl
@[simp] theorem vals_nil : vals? [] = some [] := nr rfl
def valsK (d : D) (r : Option (List D)) : Option (List D) := match r with
  | some ds => some (d :: ds)
  | none => none
@[simp] theorem vals_cons (d : D) (os : List Od) : vals? (.v d :: os) = valsK d (vals? os) := nr rfl
@[simp] theorem valsK_s (d : D) (ds : List D) : valsK d (some ds) = some (d :: ds) := nr rfl
@[simp] theorem vals_map_v : ∀ ds : List D, vals? (ds.map .v) = some ds
  | [] => rfl
  | d :: r => by simp [vals_map_v r]
@[simp] theorem vals_app_v : ∀ (ds : List D) (os : List Od), vals? (ds.map .v ++ os) = (vals? os).map (ds ++ ·)
  | [], os => by cases h : vals? os <;> simp [h]
  | d :: r, os => by
    simp only [List.map_cons, List.cons_append, vals_cons, vals_app_v r os]
    cases vals? os <;> rfl
def mkTK2 (o : Option (List D)) (ρ1 : Env) : R Vl := match o with
  | some ds => if ds.length ≤ 1000000 then .ok (.fz (.tup ds)) ρ1 else .bad
  | none => .bad
def mkTK (os : List Od) (ρ1 : Env) : R Vl := mkTK2 (vals? os) ρ1
@[simp] theorem mkTK_ap (os : List Od) (ρ1 : Env) : mkTK os ρ1 = mkTK2 (vals? os) ρ1 := nr rfl
@[simp] theorem mkTK2_s (ds : List D) (ρ1 : Env) : mkTK2 (some ds) ρ1 = if ds.length ≤ 1000000 then .ok (.fz (.tup ds)) ρ1 else .bad := nr rfl
@[simp] theorem mkT_ap (f : M (List Od)) (ρ : Env) : mkT f ρ = bnd (f ρ) mkTK := nr rfl
def mkLK2 (o : Option (List D)) (ρ1 : Env) : R Vl := match o with
  | some ds => if ds.length ≤ 1000000 then .ok (.fr ds) ρ1 else .bad
  | none => .bad
def mkLK (os : List Od) (ρ1 : Env) : R Vl := mkLK2 (vals? os) ρ1
@[simp] theorem mkLK_ap (os : List Od) (ρ1 : Env) : mkLK os ρ1 = mkLK2 (vals? os) ρ1 := nr rfl
@[simp] theorem mkLK2_s (ds : List D) (ρ1 : Env) : mkLK2 (some ds) ρ1 = if ds.length ≤ 1000000 then .ok (.fr ds) ρ1 else .bad := nr rfl
@[simp] theorem mkL_ap (f : M (List Od)) (ρ : Env) : mkL f ρ = bnd (f ρ) mkLK := nr rfl
@[simp] theorem vaL_nil : vaL [] = [] := nr rfl
@[simp] theorem vaL_cons (d : D) (ds : List D) : vaL (d :: ds) = .va d :: vaL ds := nr rfl
@[simp] theorem back_ok {α : Type} (a : α) (ρ ρ' : Env) : back (.ok a ρ') ρ = .ok a ρ := nr rfl
@[simp] theorem back_ex {α : Type} (e : D) (ρ ρ' : Env) : back (.ex e ρ' : R α) ρ = .ex e ρ := nr rfl
def callVK (np : Nat) (f : M Vl) (dd : List D) (o : Option (List D)) (ρ : Env) : R Vl := match o with
  | some ds => if (ds ++ dd).length = np then back (f (vaL (ds ++ dd))) ρ else .bad
  | none => .bad
def callV1 (np : Nat) (f : M Vl) (dd : List D) (os : List Od) (ρ1 : Env) : R Vl := callVK np f dd (vals? os) ρ1
@[simp] theorem callV_ap (np : Nat) (f : M Vl) (dd : List D) (args : M (List Od)) (ρ : Env) : callV np f dd args ρ = bnd (args ρ) (callV1 np f dd) := nr rfl
@[simp] theorem callV1_ap (np : Nat) (f : M Vl) (dd : List D) (os : List Od) (ρ1 : Env) : callV1 np f dd os ρ1 = callVK np f dd (vals? os) ρ1 := nr rfl
@[simp] theorem callVK_s (np : Nat) (f : M Vl) (dd ds : List D) (ρ : Env) : callVK np f dd (some ds) ρ = if (ds ++ dd).length = np then back (f (vaL (ds ++ dd))) ρ else .bad := nr rfl
def callKK (np n m : Nat) (f : M Vl) (gD : List D → List D → List D) (o q : Option (List D)) (ρ : Env) : R Vl := match o with
  | some ds => (match q with
    | some zs => if ds.length = n ∧ zs.length = m ∧ (gD ds zs).length = np then back (f (vaL (gD ds zs))) ρ else .bad
    | none => .bad)
  | none => .bad
def callK2 (np n m : Nat) (f : M Vl) (gD : List D → List D → List D) (os ks : List Od) (ρ2 : Env) : R Vl := callKK np n m f gD (vals? os) (vals? ks) ρ2
def callK1 (np n m : Nat) (f : M Vl) (gD : List D → List D → List D) (kws : M (List Od)) (os : List Od) (ρ1 : Env) : R Vl := bnd (kws ρ1) (callK2 np n m f gD os)
@[simp] theorem callK_ap (np n m : Nat) (f : M Vl) (gD : List D → List D → List D) (args kws : M (List Od)) (ρ : Env) : callK np n m f gD args kws ρ = bnd (args ρ) (callK1 np n m f gD kws) := nr rfl
@[simp] theorem callK1_ap (np n m : Nat) (f : M Vl) (gD : List D → List D → List D) (kws : M (List Od)) (os : List Od) (ρ1 : Env) : callK1 np n m f gD kws os ρ1 = bnd (kws ρ1) (callK2 np n m f gD os) := nr rfl
@[simp] theorem callK2_ap (np n m : Nat) (f : M Vl) (gD : List D → List D → List D) (os ks : List Od) (ρ2 : Env) : callK2 np n m f gD os ks ρ2 = callKK np n m f gD (vals? os) (vals? ks) ρ2 := nr rfl
@[simp] theorem callKK_s (np n m : Nat) (f : M Vl) (gD : List D → List D → List D) (ds zs : List D) (ρ : Env) : callKK np n m f gD (some ds) (some zs) ρ = if ds.length = n ∧ zs.length = m ∧ (gD ds zs).length = np then back (f (vaL (gD ds zs))) ρ else .bad := nr rfl
@[simp] theorem permL_ap {α : Type} (is : List Nat) (us ws : List α) : permL is us ws = us ++ is.filterMap (ws[·]?) := nr rfl
@[simp] theorem mixL_ap {α : Type} (is : List (Bool × Nat)) (us mv ws : List α) : mixL is us mv ws = us ++ is.filterMap fun p => if p.1 = true then ws[p.2]? else mv[p.2]? := nr rfl
@[simp] theorem mixK_ap (is : List (Bool × Nat)) (md ds zs : List D) : mixK is md ds zs = mixL is ds md zs := nr rfl
def backIK (i : Nat) (a : Vl) (ys : List D) (q : Option Sl) (ρ : Env) : R Vl := match q with
  | some q => .ok a (ρ.set i (q.upd ys))
  | none => .bad
@[simp] theorem backI_ok (i : Nat) (a : Vl) (ys : List D) (r ρ : Env) : backI i (.ok a (.io ys :: r)) ρ = backIK i a ys ρ[i]? ρ := nr rfl
@[simp] theorem backIK_s (i : Nat) (a : Vl) (ys : List D) (q : Sl) (ρ : Env) : backIK i a ys (some q) ρ = .ok a (ρ.set i (q.upd ys)) := nr rfl
def callIK (np : Nat) (f : M Vl) (dd : List D) (i : Nat) (o : Option (List D)) (q : Option Sl) (ρ : Env) : R Vl := match o with
  | some ds => match q with
    | some q => match q.lst? with
      | some xs => if (ds ++ dd).length + 1 = np then backI i (f (.io xs :: vaL (ds ++ dd))) ρ else .bad
      | none => .bad
    | none => .bad
  | none => .bad
def callI1 (np : Nat) (f : M Vl) (dd : List D) (os : List Od) (ρ1 : Env) : R Vl := match os with
  | .s i :: os' => callIK np f dd i (vals? os') ρ1[i]? ρ1
  | _ => .bad
@[simp] theorem callI1_ap (np : Nat) (f : M Vl) (dd : List D) (i : Nat) (os : List Od) (ρ1 : Env) : callI1 np f dd (.s i :: os) ρ1 = callIK np f dd i (vals? os) ρ1[i]? ρ1 := nr rfl
@[simp] theorem callI_ap (np : Nat) (f : M Vl) (dd : List D) (args : M (List Od)) (ρ : Env) : callI np f dd args ρ = bnd (args ρ) (callI1 np f dd) := by
  unfold callI callI1 callIK; rfl
@[simp] theorem callIK_ow (np : Nat) (f : M Vl) (dd ds : List D) (i : Nat) (xs : List D) (ρ : Env) : callIK np f dd i (some ds) (some (.ow xs)) ρ = if (ds ++ dd).length + 1 = np then backI i (f (.io xs :: vaL (ds ++ dd))) ρ else .bad := nr rfl
@[simp] theorem callIK_io (np : Nat) (f : M Vl) (dd ds : List D) (i : Nat) (xs : List D) (ρ : Env) : callIK np f dd i (some ds) (some (.io xs)) ρ = if (ds ++ dd).length + 1 = np then backI i (f (.io xs :: vaL (ds ++ dd))) ρ else .bad := nr rfl
/-! a new list lent -/
def callF3 (np : Nat) (f : M Vl) (dd xs : List D) (ρ2 : Env) (o : Option (List D)) : R Vl := match o with
  | some ds => if (ds ++ dd).length + 1 = np then backF (f (.io xs :: vaL (ds ++ dd))) ρ2 else .bad
  | none => .bad
def callF2 (np : Nat) (f : M Vl) (dd xs : List D) (os : List Od) (ρ2 : Env) : R Vl := callF3 np f dd xs ρ2 (vals? os)
def callF1 (np : Nat) (f : M Vl) (dd : List D) (args : M (List Od)) (a : Vl) (ρ1 : Env) : R Vl := match a with
  | .fr xs => bnd (args ρ1) (callF2 np f dd xs)
  | .fz _ => .bad
theorem callF_ap' (np : Nat) (f : M Vl) (dd : List D) (g0 : M Vl) (args : M (List Od)) (ρ : Env) : callF np f dd g0 args ρ = bnd (g0 ρ) (callF1 np f dd args) := by
  unfold callF callF1 callF2 callF3
  congr 1
@[simp] theorem callF_ap (np : Nat) (f : M Vl) (dd : List D) (g0 : M Vl) (args : M (List Od)) (ρ : Env) : callF np f dd g0 args ρ = bnd (g0 ρ) (callF1 np f dd args) := nr (callF_ap' np f dd g0 args ρ)
@[simp] theorem callF1_fr (np : Nat) (f : M Vl) (dd : List D) (args : M (List Od)) (xs : List D) (ρ1 : Env) : callF1 np f dd args (.fr xs) ρ1 = bnd (args ρ1) (callF2 np f dd xs) := nr rfl
@[simp] theorem callF2_ap (np : Nat) (f : M Vl) (dd xs : List D) (os : List Od) (ρ2 : Env) : callF2 np f dd xs os ρ2 = callF3 np f dd xs ρ2 (vals? os) := nr rfl
@[simp] theorem callF3_s (np : Nat) (f : M Vl) (dd xs : List D) (ρ2 : Env) (ds : List D) : callF3 np f dd xs ρ2 (some ds) = if (ds ++ dd).length + 1 = np then backF (f (.io xs :: vaL (ds ++ dd))) ρ2 else .bad := nr rfl
@[simp] theorem backF_ok (a : Vl) (ys : List D) (r ρ : Env) : backF (.ok a (.io ys :: r)) ρ = .ok a ρ := nr rfl
@[simp] theorem backF_ex (e : D) (ys : List D) (r ρ : Env) : backF (.ex e (.io ys :: r)) ρ = .ex e ρ := nr rfl
/-! lists lent to a test -/
theorem lend_ok {f : M Bool} {ρ : Env} {b : Bool} (h : f (ρ.map frS) = .ok b (ρ.map frS)) (hi : ioI ρ = true) : lendT f ρ = .ok b ρ := by
  unfold lendT
  rw [h]
  simp [hi]
/-! truth -/
@[simp] theorem tru_non : D.tru .non = some false := nr rfl
@[simp] theorem tru_bl (b : Bool) : D.tru (.bl b) = some b := nr rfl
@[simp] theorem tru_int (i : Int) : D.tru (.int i) = some (i != 0) := nr rfl
@[simp] theorem tru_lst (xs : List D) : D.tru (.lst xs) = some (!xs.isEmpty) := nr rfl
@[simp] theorem tru_tup (xs : List D) : D.tru (.tup xs) = some (!xs.isEmpty) := nr rfl
def truK (o : Option D) (ρ : Env) : R Bool := match o with
  | some d => match d.tru with
    | some b => .ok b ρ
    | none => .bad
  | none => .bad
def truB (o : Option Bool) (ρ : Env) : R Bool := match o with
  | some b => .ok b ρ
  | none => .bad
def truC (a : Od) (ρ1 : Env) : R Bool := truK (a.get ρ1) ρ1
@[simp] theorem tru_ap (f : M Od) (ρ : Env) : tru f ρ = bnd (f ρ) truC := nr rfl
@[simp] theorem truC_ap (a : Od) (ρ1 : Env) : truC a ρ1 = truK (a.get ρ1) ρ1 := nr rfl
@[simp] theorem truK_s (d : D) (ρ : Env) : truK (some d) ρ = truB d.tru ρ := nr rfl
@[simp] theorem truB_s (b : Bool) (ρ : Env) : truB (some b) ρ = .ok b ρ := nr rfl
def tstK (a : Vl) (ρ : Env) : R Bool := match a with
  | .fz (.bl b) => .ok b ρ
  | _ => .bad
@[simp] theorem tst_ap (f : M Vl) (ρ : Env) : tst f ρ = bnd (f ρ) tstK := nr rfl
@[simp] theorem tstK_bl (b : Bool) (ρ : Env) : tstK (.fz (.bl b)) ρ = .ok b ρ := nr rfl
def notK (b : Bool) (ρ1 : Env) : R Bool := .ok (!b) ρ1
@[simp] theorem notK_ap (b : Bool) (ρ1 : Env) : notK b ρ1 = .ok (!b) ρ1 := nr rfl
@[simp] theorem tNotB_ap (f : M Bool) (ρ : Env) : tNotB f ρ = bnd (f ρ) notK := nr rfl
def andBK (g : M Bool) (b : Bool) (ρ1 : Env) : R Bool := if b = true then g ρ1 else .ok false ρ1
@[simp] theorem andBK_ap (g : M Bool) (b : Bool) (ρ1 : Env) : andBK g b ρ1 = if b = true then g ρ1 else .ok false ρ1 := nr rfl
@[simp] theorem tAndB_ap (f g : M Bool) (ρ : Env) : tAndB f g ρ = bnd (f ρ) (andBK g) := nr rfl
def orBK (g : M Bool) (b : Bool) (ρ1 : Env) : R Bool := if b = true then .ok true ρ1 else g ρ1
@[simp] theorem orBK_ap (g : M Bool) (b : Bool) (ρ1 : Env) : orBK g b ρ1 = if b = true then .ok true ρ1 else g ρ1 := nr rfl
@[simp] theorem tOrB_ap (f g : M Bool) (ρ : Env) : tOrB f g ρ = bnd (f ρ) (orBK g) := nr rfl
def eNotK (b : Bool) (ρ1 : Env) : R Vl := .ok (.fz (.bl (!b))) ρ1
@[simp] theorem eNotK_ap (b : Bool) (ρ1 : Env) : eNotK b ρ1 = .ok (.fz (.bl (!b))) ρ1 := nr rfl
@[simp] theorem eNot_ap (f : M Od) (ρ : Env) : eNot f ρ = bnd (tru f ρ) eNotK := nr rfl
def andK (g : M Vl) (a : Vl) (ρ1 : Env) : R Vl := match a.d.tru with
  | some true => g ρ1
  | some false => .ok (.fz a.d) ρ1
  | none => .bad
def orK (g : M Vl) (a : Vl) (ρ1 : Env) : R Vl := match a.d.tru with
  | some true => .ok (.fz a.d) ρ1
  | some false => g ρ1
  | none => .bad
@[simp] theorem eAnd_ap (f g : M Vl) (ρ : Env) : eAnd f g ρ = bnd (f ρ) (andK g) := nr rfl
@[simp] theorem eOr_ap (f g : M Vl) (ρ : Env) : eOr f g ρ = bnd (f ρ) (orK g) := nr rfl
@[simp] theorem andK_bl (g : M Vl) (b : Bool) (ρ : Env) : andK g (.fz (.bl b)) ρ = if b = true then g ρ else .ok (.fz (.bl false)) ρ := by cases b <;> rfl
@[simp] theorem orK_bl (g : M Vl) (b : Bool) (ρ : Env) : orK g (.fz (.bl b)) ρ = if b = true then .ok (.fz (.bl true)) ρ else g ρ := by cases b <;> rfl
def eIfK (f g : M Vl) (b : Bool) (ρ1 : Env) : R Vl := if b = true then f ρ1 else g ρ1
@[simp] theorem eIfK_ap (f g : M Vl) (b : Bool) (ρ1 : Env) : eIfK f g b ρ1 = if b = true then f ρ1 else g ρ1 := nr rfl
@[simp] theorem eIf_ap (c : M Bool) (f g : M Vl) (ρ : Env) : eIf c f g ρ = bnd (c ρ) (eIfK f g) := nr rfl
def chnK4 (q : D → D → Option Vl) (b c : Od) (ρ4 : Env) : R Vl := app2 q b c ρ4
def chnK3 (q : D → D → Option Vl) (h : M Od) (b : Od) (t : Bool) (ρ3 : Env) : R Vl := if t = true then bnd (h ρ3) (chnK4 q b) else .ok (.fz (.bl false)) ρ3
def chnK2 (p q : D → D → Option Vl) (h : M Od) (a b : Od) (ρ2 : Env) : R Vl := bnd (tst (app2 p a b) ρ2) (chnK3 q h b)
def chnK (p q : D → D → Option Vl) (g h : M Od) (a : Od) (ρ1 : Env) : R Vl := bnd (g ρ1) (chnK2 p q h a)
@[simp] theorem chnK4_ap (q : D → D → Option Vl) (b c : Od) (ρ4 : Env) : chnK4 q b c ρ4 = app2 q b c ρ4 := nr rfl
@[simp] theorem chnK3_ap (q : D → D → Option Vl) (h : M Od) (b : Od) (t : Bool) (ρ3 : Env) : chnK3 q h b t ρ3 = if t = true then bnd (h ρ3) (chnK4 q b) else .ok (.fz (.bl false)) ρ3 := nr rfl
@[simp] theorem chnK2_ap (p q : D → D → Option Vl) (h : M Od) (a b : Od) (ρ2 : Env) : chnK2 p q h a b ρ2 = bnd (tst (app2 p a b) ρ2) (chnK3 q h b) := nr rfl
@[simp] theorem chnK_ap (p q : D → D → Option Vl) (g h : M Od) (a : Od) (ρ1 : Env) : chnK p q g h a ρ1 = bnd (g ρ1) (chnK2 p q h a) := nr rfl
@[simp] theorem chn_ap (p q : D → D → Option Vl) (f g h : M Od) (ρ : Env) : chn p q f g h ρ = bnd (f ρ) (chnK p q g h) := nr rfl
/-! subscripts, slices -/
@[simp] theorem ixP_l (xs : List D) (i : Int) : ixP (.lst xs) (.int i) = (ixA xs i).map .fz := nr rfl
@[simp] theorem ixP_t (xs : List D) (i : Int) : ixP (.tup xs) (.int i) = (ixA xs i).map .fz := nr rfl
@[simp] theorem ixP_s (xs : List Int) (i : Int) : ixP (.scr xs) (.int i) = (ixA xs i).map fun n => .fz (.int n) := nr rfl
@[simp] theorem ixA_ap {α : Type} (xs : List α) (i : Int) : ixA xs i = if 0 ≤ i then xs[i.toNat]? else if -(xs.length : Int) ≤ i then xs[(i + xs.length).toNat]? else none := nr rfl
@[simp] theorem ptN_ap (ρ : Env) : ptN ρ = .ok none ρ := nr rfl
def ptSK (o : Option D) (ρ : Env) : R (Option Int) := match o with
  | some (.int i) => .ok (some i) ρ
  | _ => .bad
def ptSC (a : Od) (ρ1 : Env) : R (Option Int) := ptSK (a.get ρ1) ρ1
@[simp] theorem ptS_ap (f : M Od) (ρ : Env) : ptS f ρ = bnd (f ρ) ptSC := nr rfl
@[simp] theorem ptSC_ap (a : Od) (ρ1 : Env) : ptSC a ρ1 = ptSK (a.get ρ1) ρ1 := nr rfl
@[simp] theorem ptSK_i (i : Int) (ρ : Env) : ptSK (some (.int i)) ρ = .ok (some i) ρ := nr rfl
def slQ (o : Option D) (l u : Option Int) (ρ3 : Env) : R Vl := match o with
  | some d => ofO (slP d l u) ρ3
  | none => .bad
def stQ (o : Option Int) (ρ2 : Env) : Option D → R Vl
  | some d => ofO (stepP d o) ρ2
  | none => .bad
def stK2 (a : Od) (o : Option Int) (ρ2 : Env) : R Vl := stQ o ρ2 (a.get ρ2)
def stK (g : M (Option Int)) (a : Od) (ρ1 : Env) : R Vl := bnd (g ρ1) (stK2 a)
@[simp] theorem stQ_s (o : Option Int) (ρ2 : Env) (d : D) : stQ o ρ2 (some d) = ofO (stepP d o) ρ2 := nr rfl
@[simp] theorem stK2_ap (a : Od) (o : Option Int) (ρ2 : Env) : stK2 a o ρ2 = stQ o ρ2 (a.get ρ2) := nr rfl
@[simp] theorem stK_ap (g : M (Option Int)) (a : Od) (ρ1 : Env) : stK g a ρ1 = bnd (g ρ1) (stK2 a) := nr rfl
theorem stE_ap' (f : M Od) (g : M (Option Int)) (ρ : Env) : stE f g ρ = bnd (f ρ) (stK g) := by
  unfold stE stK stK2 stQ
  congr 1
@[simp] theorem stE_ap (f : M Od) (g : M (Option Int)) (ρ : Env) : stE f g ρ = bnd (f ρ) (stK g) := nr (stE_ap' f g ρ)
def stkQ (o : Option Int) (ρ2 : Env) : Option D → R Vl
  | some d => ofO (stepKP d o) ρ2
  | none => .bad
def stkK2 (a : Od) (o : Option Int) (ρ2 : Env) : R Vl := stkQ o ρ2 (a.get ρ2)
def stkK (g : M (Option Int)) (a : Od) (ρ1 : Env) : R Vl := bnd (g ρ1) (stkK2 a)
@[simp] theorem stkQ_s (o : Option Int) (ρ2 : Env) (d : D) : stkQ o ρ2 (some d) = ofO (stepKP d o) ρ2 := nr rfl
@[simp] theorem stkK2_ap (a : Od) (o : Option Int) (ρ2 : Env) : stkK2 a o ρ2 = stkQ o ρ2 (a.get ρ2) := nr rfl
@[simp] theorem stkK_ap (g : M (Option Int)) (a : Od) (ρ1 : Env) : stkK g a ρ1 = bnd (g ρ1) (stkK2 a) := nr rfl
theorem stkE_ap' (f : M Od) (g : M (Option Int)) (ρ : Env) : stkE f g ρ = bnd (f ρ) (stkK g) := by
  unfold stkE stkK stkK2 stkQ
  congr 1
@[simp] theorem stkE_ap (f : M Od) (g : M (Option Int)) (ρ : Env) : stkE f g ρ = bnd (f ρ) (stkK g) := nr (stkE_ap' f g ρ)
@[simp] theorem stepKP_s (xs : List D) (k : Int) : stepKP (.lst xs) (some k) = if 1 < k then some (.fr (pkL k xs)) else none := nr rfl
@[simp] theorem stepP_1 (xs : List D) : stepP (.lst xs) (some 1) = some (.fr xs) := nr rfl
@[simp] theorem stepP_m (xs : List D) : stepP (.lst xs) (some (-1)) = some (.fr xs.reverse) := nr rfl
def slK3 (a : Od) (l u : Option Int) (ρ3 : Env) : R Vl := slQ (a.get ρ3) l u ρ3
def slK2 (hi : M (Option Int)) (a : Od) (l : Option Int) (ρ2 : Env) : R Vl := bnd (hi ρ2) (slK3 a l)
def slK (lo hi : M (Option Int)) (a : Od) (ρ1 : Env) : R Vl := bnd (lo ρ1) (slK2 hi a)
@[simp] theorem slQ_s (d : D) (l u : Option Int) (ρ3 : Env) : slQ (some d) l u ρ3 = ofO (slP d l u) ρ3 := nr rfl
@[simp] theorem slK3_ap (a : Od) (l u : Option Int) (ρ3 : Env) : slK3 a l u ρ3 = slQ (a.get ρ3) l u ρ3 := nr rfl
@[simp] theorem slK2_ap (hi : M (Option Int)) (a : Od) (l : Option Int) (ρ2 : Env) : slK2 hi a l ρ2 = bnd (hi ρ2) (slK3 a l) := nr rfl
@[simp] theorem slK_ap (lo hi : M (Option Int)) (a : Od) (ρ1 : Env) : slK lo hi a ρ1 = bnd (lo ρ1) (slK2 hi a) := nr rfl
@[simp] theorem slE_ap (f : M Od) (lo hi : M (Option Int)) (ρ : Env) : slE f lo hi ρ = bnd (f ρ) (slK lo hi) := nr rfl
@[simp] theorem slP_l (xs : List D) (lo hi : Option Int) : slP (.lst xs) lo hi = some (.fr (cutD xs lo hi)) := nr rfl
@[simp] theorem slP_t (xs : List D) (lo hi : Option Int) : slP (.tup xs) lo hi = some (.fz (.tup (cutD xs lo hi))) := nr rfl
@[simp] theorem revP_l (xs : List D) : revP (.lst xs) = some (.fr xs.reverse) := nr rfl
@[simp] theorem revP_t (xs : List D) : revP (.tup xs) = some (.fz (.tup xs.reverse)) := nr rfl
/-! methods -/
@[simp] theorem mtd_ap (i : Nat) (g : Upd) (f : M (List Od)) (ρ : Env) : mtd i g f ρ = if isOwn ρ i = true then bnd (f ρ) (mtU i g) else .bad := nr rfl
def mtUR (i : Nat) (q : Sl) (o : Option (D × List D)) (ρ : Env) : R Vl := match o with
  | some (d, ys) => .ok (.fz d) (ρ.set i (q.upd ys))
  | none => .bad
def mtUK (i : Nat) (g : Upd) (o : Option (List D)) (q : Option Sl) (ρ : Env) : R Vl := match o with
  | some ds => match q with
    | some q => match q.lst? with
      | some xs => mtUR i q (g xs ds) ρ
      | none => .bad
    | none => .bad
  | none => .bad
@[simp] theorem mtU_ap (i : Nat) (g : Upd) (os : List Od) (ρ : Env) : mtU i g os ρ = mtUK i g (vals? os) ρ[i]? ρ := nr rfl
@[simp] theorem mtUK_ow (i : Nat) (g : Upd) (ds xs : List D) (ρ : Env) : mtUK i g (some ds) (some (.ow xs)) ρ = mtUR i (.ow xs) (g xs ds) ρ := nr rfl
@[simp] theorem mtUK_io (i : Nat) (g : Upd) (ds xs : List D) (ρ : Env) : mtUK i g (some ds) (some (.io xs)) ρ = mtUR i (.io xs) (g xs ds) ρ := nr rfl
@[simp] theorem mtUR_s (i : Nat) (q : Sl) (d : D) (ys : List D) (ρ : Env) : mtUR i q (some (d, ys)) ρ = .ok (.fz d) (ρ.set i (q.upd ys)) := nr rfl
@[simp] theorem gAppend_ap (xs : List D) (d : D) : gAppend xs [d] = if xs.length < 1000000 then some (.non, xs ++ [d]) else none := nr rfl
def popK (i : Nat) (xs : List D) (o : Option D) : Option (D × List D) := match o with
  | some d => some (d, xs.eraseIdx i)
  | none => none
@[simp] theorem popK_s (i : Nat) (xs : List D) (d : D) : popK i xs (some d) = some (d, xs.eraseIdx i) := nr rfl
@[simp] theorem gPopAt_ap (xs : List D) (i : Int) : gPopAt xs [.int i] = if 0 ≤ i ∧ i < 1000000 then popK i.toNat xs xs[i.toNat]? else none := nr rfl
def lpopK (xs : List D) (o : Option D) : Option (D × List D) := match o with
  | some d => some (d, xs.dropLast)
  | none => none
@[simp] theorem lpopK_s (xs : List D) (d : D) : lpopK xs (some d) = some (d, xs.dropLast) := nr rfl
@[simp] theorem gPop_ap (xs : List D) : gPop xs [] = lpopK xs xs.getLast? := nr rfl
@[simp] theorem gInsert_ap (xs : List D) (i : Int) (d : D) : gInsert xs [.int i, d] = if 0 ≤ i ∧ i < 1000000 ∧ xs.length < 1000000 then some (.non, xs.take i.toNat ++ [d] ++ xs.drop i.toNat) else none := nr rfl
def mexK (p : D → List D → Option Vl) (a : Od) (args : M (List Od)) (o : Option D) (ρ1 : Env) : R Vl := match o with
  | some d => match d.tp? with
    | some tp => bnd (args ρ1) fun os ρ2 => appM p tp a os ρ2
    | none => .bad
  | none => .bad
def mexC (p : D → List D → Option Vl) (args : M (List Od)) (a : Od) (ρ1 : Env) : R Vl := mexK p a args (a.get ρ1) ρ1
@[simp] theorem mex_ap (p : D → List D → Option Vl) (o : M Od) (args : M (List Od)) (ρ : Env) : mex p o args ρ = bnd (o ρ) (mexC p args) := nr rfl
@[simp] theorem mexC_ap (p : D → List D → Option Vl) (args : M (List Od)) (a : Od) (ρ1 : Env) : mexC p args a ρ1 = mexK p a args (a.get ρ1) ρ1 := nr rfl
@[simp] theorem mexK_l (p : D → List D → Option Vl) (a : Od) (args : M (List Od)) (xs : List D) (ρ : Env) : mexK p a args (some (.lst xs)) ρ = bnd (args ρ) (appM p false a) := nr rfl
@[simp] theorem mexK_t (p : D → List D → Option Vl) (a : Od) (args : M (List Od)) (xs : List D) (ρ : Env) : mexK p a args (some (.tup xs)) ρ = bnd (args ρ) (appM p true a) := nr rfl
def appMK (p : D → List D → Option Vl) (tp : Bool) (o : Option D) (q : Option (List D)) (ρ : Env) : R Vl := match o with
  | some d => match q with
    | some ds => if d.tp? = some tp then ofO (p d ds) ρ else .bad
    | none => .bad
  | none => .bad
@[simp] theorem appM_ap (p : D → List D → Option Vl) (tp : Bool) (a : Od) (os : List Od) (ρ : Env) : appM p tp a os ρ = appMK p tp (a.get ρ) (getAll ρ os) ρ := nr rfl
@[simp] theorem appMK_l (p : D → List D → Option Vl) (xs ds : List D) (ρ : Env) : appMK p false (some (.lst xs)) (some ds) ρ = ofO (p (.lst xs) ds) ρ := nr rfl
@[simp] theorem appMK_t (p : D → List D → Option Vl) (xs ds : List D) (ρ : Env) : appMK p true (some (.tup xs)) (some ds) ρ = ofO (p (.tup xs) ds) ρ := nr rfl
/-! what is walked -/
@[simp] theorem items_l (xs : List D) : items? (.lst xs) = some xs := nr rfl
@[simp] theorem items_t (xs : List D) : items? (.tup xs) = some xs := nr rfl
def itEK (o : Option (List D)) (ρ : Env) : R (List D) := match o with
  | some xs => .ok xs ρ
  | none => .bad
def itEC (a : Vl) (ρ1 : Env) : R (List D) := itEK (items? a.d) ρ1
@[simp] theorem itE_ap (f : M Vl) (ρ : Env) : itE f ρ = bnd (f ρ) itEC := nr rfl
@[simp] theorem itEC_ap (a : Vl) (ρ1 : Env) : itEC a ρ1 = itEK (items? a.d) ρ1 := nr rfl
@[simp] theorem itEK_s (xs : List D) (ρ : Env) : itEK (some xs) ρ = .ok xs ρ := nr rfl
def argMK {α β : Type} (k : α → M β) (o : Option α) (ρ : Env) : R β := match o with
  | some a => k a ρ
  | none => .bad
def argMC {α β : Type} (p : List D → Option α) (k : α → M β) (os : List Od) (ρ1 : Env) : R β := argMK k ((getAll ρ1 os).bind p) ρ1
@[simp] theorem argMC_ap {α β : Type} (p : List D → Option α) (k : α → M β) (os : List Od) (ρ1 : Env) : argMC p k os ρ1 = argMK k ((getAll ρ1 os).bind p) ρ1 := nr rfl
@[simp] theorem argM_ap {α β : Type} (f : M (List Od)) (p : List D → Option α) (k : α → M β) (ρ : Env) : argM f p k ρ = bnd (f ρ) (argMC p k) := nr rfl
@[simp] theorem argMK_s {α β : Type} (k : α → M β) (a : α) (ρ : Env) : argMK k (some a) ρ = k a ρ := nr rfl
@[simp] theorem i1_ap (i : Int) : i1? [.int i] = some i := nr rfl
@[simp] theorem i2_ap (i j : Int) : i2? [.int i, .int j] = some (i, j) := nr rfl
def r1K (j : Int) (ρ1 : Env) : R (List D) := if okR j = true then .ok (rangeL 0 j.toNat) ρ1 else .bad
def r2K (p : Int × Int) (ρ1 : Env) : R (List D) := if (okR p.1 && okR p.2) = true then .ok (rangeL p.1 (p.2 - p.1).toNat) ρ1 else .bad
def r3K (p : Int × Int) (ρ1 : Env) : R (List D) := if (okR p.1 && okR p.2) = true then .ok (downL p.1 (p.1 - p.2).toNat) ρ1 else .bad
@[simp] theorem r1K_ap (j : Int) (ρ1 : Env) : r1K j ρ1 = if okR j = true then .ok (rangeL 0 j.toNat) ρ1 else .bad := nr rfl
@[simp] theorem r2K_ap (i j : Int) (ρ1 : Env) : r2K (i, j) ρ1 = if (okR i && okR j) = true then .ok (rangeL i (j - i).toNat) ρ1 else .bad := nr rfl
@[simp] theorem r3K_ap (i j : Int) (ρ1 : Env) : r3K (i, j) ρ1 = if (okR i && okR j) = true then .ok (downL i (i - j).toNat) ρ1 else .bad := nr rfl
@[simp] theorem itR1_ap (f : M (List Od)) (ρ : Env) : itR1 f ρ = argM f i1? r1K ρ := nr rfl
@[simp] theorem itR2_ap (f : M (List Od)) (ρ : Env) : itR2 f ρ = argM f i2? r2K ρ := nr rfl
@[simp] theorem itR3_ap (f : M (List Od)) (ρ : Env) : itR3 f ρ = argM f i3? r3K ρ := nr rfl
def itEnQ (o : Option (List D)) (ρ1 : Env) : R (List D) := match o with
  | some xs => .ok (enumL 0 xs) ρ1
  | none => .bad
def itEnC (os : List Od) (ρ1 : Env) : R (List D) := itEnQ ((vals? os).bind lst1?) ρ1
@[simp] theorem itEnQ_s (xs : List D) (ρ1 : Env) : itEnQ (some xs) ρ1 = .ok (enumL 0 xs) ρ1 := nr rfl
@[simp] theorem itEnC_ap (os : List Od) (ρ1 : Env) : itEnC os ρ1 = itEnQ ((vals? os).bind lst1?) ρ1 := nr rfl
@[simp] theorem itEn_ap (f : M (List Od)) (ρ : Env) : itEn f ρ = bnd (f ρ) itEnC := nr rfl
def itSQ (c : Int) (o : Option (Bool × List D)) (ρ1 : Env) : R (List D) := match o with
  | some p => .ok (enL c p.2) ρ1
  | none => .bad
def itSC (c : Int) (os : List Od) (ρ1 : Env) : R (List D) := itSQ c ((vals? os).bind seq1?) ρ1
@[simp] theorem itSQ_s (c : Int) (b : Bool) (xs : List D) (ρ1 : Env) : itSQ c (some (b, xs)) ρ1 = .ok (enL c xs) ρ1 := nr rfl
@[simp] theorem itSC_ap (c : Int) (os : List Od) (ρ1 : Env) : itSC c os ρ1 = itSQ c ((vals? os).bind seq1?) ρ1 := nr rfl
@[simp] theorem itEnS_ap (c : Int) (f : M (List Od)) (ρ : Env) : itEnS c f ρ = bnd (f ρ) (itSC c) := nr rfl
@[simp] theorem lst1_ap (xs : List D) : lst1? [.lst xs] = some xs := nr rfl
@[simp] theorem seq1_l (xs : List D) : seq1? [.lst xs] = some (false, xs) := nr rfl
@[simp] theorem seq1_t (xs : List D) : seq1? [.tup xs] = some (true, xs) := nr rfl
def itZQ (o : Option (List D)) (ρ1 : Env) : R (List D) := match o.bind lst2? with
  | some p => .ok (zipL p.1 p.2) ρ1
  | none => match o.bind tup2? with
    | some p => .ok (zipL p.1 p.2) ρ1
    | none => .bad
def itZC (os : List Od) (ρ1 : Env) : R (List D) := itZQ (vals? os) ρ1
@[simp] theorem itZQ_l (xs ys : List D) (ρ1 : Env) : itZQ (some [.lst xs, .lst ys]) ρ1 = .ok (zipL xs ys) ρ1 := nr rfl
@[simp] theorem itZQ_t (xs ys : List D) (ρ1 : Env) : itZQ (some [.tup xs, .tup ys]) ρ1 = .ok (zipL xs ys) ρ1 := nr rfl
@[simp] theorem itZC_ap (os : List Od) (ρ1 : Env) : itZC os ρ1 = itZQ (vals? os) ρ1 := nr rfl
@[simp] theorem itZ_ap (f : M (List Od)) (ρ : Env) : itZ f ρ = bnd (f ρ) itZC := nr rfl
@[simp] theorem lst2_l (xs ys : List D) : lst2? [.lst xs, .lst ys] = some (xs, ys) := nr rfl
@[simp] theorem lst2_t (xs ys : List D) : lst2? [.tup xs, .tup ys] = none := nr rfl
@[simp] theorem tup2_t (xs ys : List D) : tup2? [.tup xs, .tup ys] = some (xs, ys) := nr rfl
def lrg1Q (o : Option D) (ρ1 : Env) : R Vl := match o with
  | some (.int j) => if (okR j && decide (j ≤ 1000000)) = true then .ok (.fr (rangeL 0 (j - 0).toNat)) ρ1 else .bad
  | _ => .bad
def lrg1C (a : Od) (ρ1 : Env) : R Vl := lrg1Q (a.get ρ1) ρ1
@[simp] theorem lrg1Q_i (j : Int) (ρ1 : Env) : lrg1Q (some (.int j)) ρ1 = if (okR j && decide (j ≤ 1000000)) = true then .ok (.fr (rangeL 0 (j - 0).toNat)) ρ1 else .bad := nr rfl
@[simp] theorem lrg1C_ap (a : Od) (ρ1 : Env) : lrg1C a ρ1 = lrg1Q (a.get ρ1) ρ1 := nr rfl
@[simp] theorem lrg1_ap (f : M Od) (ρ : Env) : lrg1 f ρ = bnd (f ρ) lrg1C := nr rfl
def lrg2Q (o q : Option D) (ρ2 : Env) : R Vl := match o with
  | some (.int i) => (match q with
    | some (.int j) => if (okR i && okR j && decide (j - i ≤ 1000000)) = true then .ok (.fr (rangeL i (j - i).toNat)) ρ2 else .bad
    | _ => .bad)
  | _ => .bad
def lrg2C (a b : Od) (ρ2 : Env) : R Vl := lrg2Q (a.get ρ2) (b.get ρ2) ρ2
def lrg2K (g : M Od) (a : Od) (ρ1 : Env) : R Vl := bnd (g ρ1) (lrg2C a)
@[simp] theorem lrg2Q_i (i j : Int) (ρ2 : Env) : lrg2Q (some (.int i)) (some (.int j)) ρ2 = if (okR i && okR j && decide (j - i ≤ 1000000)) = true then .ok (.fr (rangeL i (j - i).toNat)) ρ2 else .bad := nr rfl
@[simp] theorem lrg2C_ap (a b : Od) (ρ2 : Env) : lrg2C a b ρ2 = lrg2Q (a.get ρ2) (b.get ρ2) ρ2 := nr rfl
@[simp] theorem lrg2K_ap (g : M Od) (a : Od) (ρ1 : Env) : lrg2K g a ρ1 = bnd (g ρ1) (lrg2C a) := nr rfl
@[simp] theorem lrg2_ap (f g : M Od) (ρ : Env) : lrg2 f g ρ = bnd (f ρ) (lrg2K g) := nr rfl
@[simp] theorem okR_lit (i : Int) : okR i = (decide (-1000000000 < i) && decide (i < 1000000000)) := nr rfl
@[simp] theorem tgN_ap (i : Nat) (d : D) (ρ : Env) : tgN i d ρ = put i (.fz d) ρ := nr rfl
@[simp] theorem tgT_pr (is : List Nat) (ds : List D) (ρ : Env) : tgT is (.pr ds) ρ = if ds.length = is.length then puts is ds ρ else .bad := nr rfl
@[simp] theorem tgT_tup (is : List Nat) (ds : List D) (ρ : Env) : tgT is (.tup ds) ρ = if ds.length = is.length then puts is ds ρ else .bad := nr rfl
@[simp] theorem yesB_ap (ρ : Env) : yesB ρ = .ok true ρ := nr rfl
/-! defs -/
def fnK (ρ : Env) (o : Out) : R Vl := match o with
  | .nx ρ' => .ok (.fz .non) (cutE ρ ρ')
  | .rt a ρ' => .ok a (cutE ρ ρ')
  | .ex e ρ' => .ex e (cutE ρ ρ')
  | _ => .bad
theorem fnM_ap (m : Nat) (b : SM) (ρ : Env) : fnM m b ρ = fnK ρ (b (ρ ++ List.replicate m .un)) := rfl
@[simp] theorem fnK_nx (ρ ρ' : Env) : fnK ρ (.nx ρ') = .ok (.fz .non) (cutE ρ ρ') := nr rfl
@[simp] theorem fnK_rt (ρ ρ' : Env) (a : Vl) : fnK ρ (.rt a ρ') = .ok a (cutE ρ ρ') := nr rfl
@[simp] theorem fnK_ex (ρ ρ' : Env) (e : D) : fnK ρ (.ex e ρ') = .ex e (cutE ρ ρ') := nr rfl
theorem fnK_ite {c : Prop} [Decidable c] (ρ : Env) (a b : Out) : fnK ρ (if c then a else b) = if c then fnK ρ a else fnK ρ b := by split <;> rfl
@[simp] theorem cutE_nil (r : Env) : cutE [] r = [] := nr rfl
@[simp] theorem cutE_cons (q0 q : Sl) (r0 r : Env) : cutE (q0 :: r0) (q :: r) = (if (q0.isIo && q.isIo) = true then q else .un) :: cutE r0 r := nr rfl
/-! try -/
def tryK (cat : Str → Option Bool) (i j : Nat) (o : Out) : Out := match o with
  | .ex (.err c fs) ρ1 => (match cat c with
    | some true => if (decide (i < ρ1.length) && (notIo ρ1 i && notIo (ρ1.set i .un) j)) = true then .nx ((ρ1.set i .un).set j (.va (.err c fs))) else .bad
    | some false => .ex (.err c fs) ρ1
    | none => .bad)
  | .ex _ _ => .bad
  | o => o
@[simp] theorem tryS_ap (cat : Str → Option Bool) (i j : Nat) (b : SM) (ρ : Env) : tryS cat i j b ρ = tryK cat i j (b ρ) := by unfold tryS tryK; rfl
@[simp] theorem tryK_nx (cat : Str → Option Bool) (i j : Nat) (ρ : Env) : tryK cat i j (.nx ρ) = .nx ρ := nr rfl
@[simp] theorem tryK_rt (cat : Str → Option Bool) (i j : Nat) (a : Vl) (ρ : Env) : tryK cat i j (.rt a ρ) = .rt a ρ := nr rfl
def tryKQ (i j : Nat) (c : Str) (fs : List (Str × D)) (b : Option Bool) (ρ1 : Env) : Out := match b with
    | some true => if (decide (i < ρ1.length) && (notIo ρ1 i && notIo (ρ1.set i .un) j)) = true then .nx ((ρ1.set i .un).set j (.va (.err c fs))) else .bad
    | some false => .ex (.err c fs) ρ1
    | none => .bad
@[simp] theorem tryKQ_t (i j : Nat) (c : Str) (fs : List (Str × D)) (ρ1 : Env) : tryKQ i j c fs (some true) ρ1 = if (decide (i < ρ1.length) && (notIo ρ1 i && notIo (ρ1.set i .un) j)) = true then .nx ((ρ1.set i .un).set j (.va (.err c fs))) else .bad := nr rfl
@[simp] theorem tryKQ_f (i j : Nat) (c : Str) (fs : List (Str × D)) (ρ1 : Env) : tryKQ i j c fs (some false) ρ1 = .ex (.err c fs) ρ1 := nr rfl
@[simp] theorem tryK_ex (cat : Str → Option Bool) (i j : Nat) (c : Str) (fs : List (Str × D)) (ρ : Env) : tryK cat i j (.ex (.err c fs) ρ) = tryKQ i j c fs (cat c) ρ := nr rfl
def tryOK (cat : Str → Option Bool) (suite : SM) (o : Out) : Out := match o with
  | .ex (.err c fs) ρ1 => (match cat c with
    | some true => (match suite ρ1 with
      | .ex _ _ => .bad
      | o => o)
    | some false => .ex (.err c fs) ρ1
    | none => .bad)
  | .ex _ _ => .bad
  | o => o
@[simp] theorem tryO_ap (cat : Str → Option Bool) (b s : SM) (ρ : Env) : tryO cat b s ρ = tryOK cat s (b ρ) := by unfold tryO tryOK; rfl
@[simp] theorem tryOK_nx (cat : Str → Option Bool) (s : SM) (ρ : Env) : tryOK cat s (.nx ρ) = .nx ρ := nr rfl
@[simp] theorem tryOK_rt (cat : Str → Option Bool) (s : SM) (a : Vl) (ρ : Env) : tryOK cat s (.rt a ρ) = .rt a ρ := nr rfl
def tryOR (o : Out) : Out := match o with
  | .ex _ _ => .bad
  | o => o
@[simp] theorem tryOR_nx (ρ : Env) : tryOR (.nx ρ) = .nx ρ := nr rfl
@[simp] theorem tryOR_rt (a : Vl) (ρ : Env) : tryOR (.rt a ρ) = .rt a ρ := nr rfl
def tryOQ (suite : SM) (c : Str) (fs : List (Str × D)) (b : Option Bool) (ρ1 : Env) : Out := match b with
    | some true => tryOR (suite ρ1)
    | some false => .ex (.err c fs) ρ1
    | none => .bad
@[simp] theorem tryOQ_t (suite : SM) (c : Str) (fs : List (Str × D)) (ρ1 : Env) : tryOQ suite c fs (some true) ρ1 = tryOR (suite ρ1) := nr rfl
@[simp] theorem tryOQ_f (suite : SM) (c : Str) (fs : List (Str × D)) (ρ1 : Env) : tryOQ suite c fs (some false) ρ1 = .ex (.err c fs) ρ1 := nr rfl
@[simp] theorem tryOK_ex (cat : Str → Option Bool) (s : SM) (c : Str) (fs : List (Str × D)) (ρ : Env) : tryOK cat s (.ex (.err c fs) ρ) = tryOQ s c fs (cat c) ρ := nr rfl
/-! numbers -/
@[simp] theorem leP_i (i j : Int) : leP (.int i) (.int j) = some (.fz (.bl (decide (i ≤ j)))) := nr rfl
@[simp] theorem ltP_i (i j : Int) : ltP (.int i) (.int j) = some (.fz (.bl (decide (i < j)))) := nr rfl
@[simp] theorem geP_i (i j : Int) : geP (.int i) (.int j) = some (.fz (.bl (decide (j ≤ i)))) := nr rfl
@[simp] theorem gtP_i (i j : Int) : gtP (.int i) (.int j) = some (.fz (.bl (decide (j < i)))) := nr rfl
@[simp] theorem addP_i (i j : Int) : addP (.int i) (.int j) = some (.fz (.int (i + j))) := nr rfl
@[simp] theorem subP_i (i j : Int) : subP (.int i) (.int j) = some (.fz (.int (i - j))) := nr rfl
@[simp] theorem negP_i (i : Int) : negP (.int i) = some (.fz (.int (-i))) := nr rfl
@[simp] theorem addP_l (xs ys : List D) : addP (.lst xs) (.lst ys) = if xs.length + ys.length ≤ 1000000 then some (.fr (xs ++ ys)) else none := by
  unfold addP orP arI catL catT
  by_cases h : xs.length + ys.length ≤ 1000000
  · simp [h]
  · simp [h]
@[simp] theorem addP_t (xs ys : List D) : addP (.tup xs) (.tup ys) = if xs.length + ys.length ≤ 1000000 then some (.fz (.tup (xs ++ ys))) else none := by
  unfold addP orP arI catL catT
  by_cases h : xs.length + ys.length ≤ 1000000
  · simp [h]
  · simp [h]
theorem mulP_i {i j : Int} (h : mulC i j = true) : mulP (.int i) (.int j) = some (.fz (.int (i * j))) := by
  unfold mulP orP arC; simp only [h, if_true]; rfl
@[simp] theorem mulP_l (xs : List D) (k : Int) : mulP (.lst xs) (.int k) = if k < 1000000 ∧ -1000000 < k ∧ xs.length * k.toNat ≤ 1000000 then some (.fr (List.replicate k.toNat xs).flatten) else none := by
  unfold mulP orP arC repL repT repS
  by_cases h : k < 1000000 ∧ -1000000 < k ∧ xs.length * k.toNat ≤ 1000000
  · simp [h]
  · simp [h]
@[simp] theorem mulP_t (xs : List D) (k : Int) : mulP (.tup xs) (.int k) = if -1000000 < k ∧ k ≤ 1000 ∧ xs.length ≤ 1000 then some (.fz (.tup (List.replicate k.toNat xs).flatten)) else none := by
  unfold mulP orP arC repL repT repS
  by_cases h : -1000000 < k ∧ k ≤ 1000 ∧ xs.length ≤ 1000
  · simp [h]
  · simp [h]
theorem mulP_s {s : Str} {k : Int} (h : 0 ≤ k ∧ k ≤ 1000 ∧ s.length ≤ 1000) : mulP (.str s) (.int k) = some (.fz (.str (PySem.Txt.mul s k))) := by
  unfold mulP orP arC repL repT repS
  simp [h]
theorem modP_i {i j : Int} (h : 0 < j) : modP (.int i) (.int j) = some (.fz (.int (i % j))) := by
  unfold modP arC; simp only [h, decide_true, if_true]; rfl
theorem divP_i {i j : Int} (h : 0 < j) (h2 : j < 1073741824) : divP (.int i) (.int j) = some (.fz (.int (i / j))) := by
  unfold divP arC; simp only [h, h2, decide_true, Bool.and_self, if_true]; rfl
@[simp] theorem eqP_i (i j : Int) : eqP (.int i) (.int j) = some (.fz (.bl (i == j))) := nr rfl
@[simp] theorem neP_i (i j : Int) : neP (.int i) (.int j) = some (.fz (.bl (!(i == j)))) := nr rfl
@[simp] theorem eqP_b (i j : Bool) : eqP (.bl i) (.bl j) = some (.fz (.bl (i == j))) := nr rfl
@[simp] theorem neP_b (i j : Bool) : neP (.bl i) (.bl j) = some (.fz (.bl (!(i == j)))) := nr rfl
@[simp] theorem isP_nn : isP .non .non = some (.fz (.bl true)) := nr rfl
@[simp] theorem isP_bb (a b : Bool) : isP (.bl a) (.bl b) = some (.fz (.bl (a == b))) := nr rfl
@[simp] theorem isP_int (i : Int) : isP (.int i) .non = some (.fz (.bl false)) := nr rfl
@[simp] theorem isP_tup (i : List D) : isP (.tup i) .non = some (.fz (.bl false)) := nr rfl
@[simp] theorem isP_lst (i : List D) : isP (.lst i) .non = some (.fz (.bl false)) := nr rfl
@[simp] theorem isP_err (c : Str) (i : List (Str × D)) : isP (.err c i) .non = some (.fz (.bl false)) := nr rfl
@[simp] theorem isP_str (c : Str) : isP (.str c) .non = some (.fz (.bl false)) := nr rfl
@[simp] theorem isP_bl (c : Bool) : isP (.bl c) .non = some (.fz (.bl false)) := nr rfl
@[simp] theorem isNotP_nn : isNotP .non .non = some (.fz (.bl false)) := nr rfl
@[simp] theorem isNotP_bb (a b : Bool) : isNotP (.bl a) (.bl b) = some (.fz (.bl (!(a == b)))) := nr rfl
@[simp] theorem isNotP_int (i : Int) : isNotP (.int i) .non = some (.fz (.bl true)) := nr rfl
@[simp] theorem isNotP_tup (i : List D) : isNotP (.tup i) .non = some (.fz (.bl true)) := nr rfl
@[simp] theorem isNotP_lst (i : List D) : isNotP (.lst i) .non = some (.fz (.bl true)) := nr rfl
@[simp] theorem isNotP_err (c : Str) (i : List (Str × D)) : isNotP (.err c i) .non = some (.fz (.bl true)) := nr rfl
@[simp] theorem isNotP_str (c : Str) : isNotP (.str c) .non = some (.fz (.bl true)) := nr rfl
@[simp] theorem isNotP_bl (c : Bool) : isNotP (.bl c) .non = some (.fz (.bl true)) := nr rfl
/-! built-ins -/
@[simp] theorem lenP_l (xs : List D) : lenP [.lst xs] = some (.fz (.int xs.length)) := nr rfl
@[simp] theorem lenP_t (xs : List D) : lenP [.tup xs] = some (.fz (.int xs.length)) := nr rfl
@[simp] theorem lenP_s (xs : List Int) : lenP [.scr xs] = some (.fz (.int xs.length)) := nr rfl
@[simp] theorem intP_i (i : Int) : intP [.int i] = some (.fz (.int i)) := nr rfl
@[simp] theorem intP_b (b : Bool) : intP [.bl b] = some (.fz (.int (if b = true then 1 else 0))) := nr rfl
@[simp] theorem listP_l (xs : List D) : listP [.lst xs] = some (.fr xs) := nr rfl
@[simp] theorem listP_t (xs : List D) : listP [.tup xs] = some (.fr xs) := nr rfl
@[simp] theorem tupleP_l (xs : List D) : tupleP [.lst xs] = some (.fz (.tup xs)) := nr rfl
@[simp] theorem tupleP_t (xs : List D) : tupleP [.tup xs] = some (.fz (.tup xs)) := nr rfl
/-- ints as data -/
def iL (ts : List Int) : List D := ts.map .int
theorem iL_def (ts : List Int) : ts.map D.int = iL ts := rfl
@[simp] theorem iL_nil : iL [] = [] := nr rfl
theorem iL_cons (i : Int) (r : List Int) : iL (i :: r) = .int i :: iL r := rfl
@[simp] theorem iL_len (ts : List Int) : (iL ts).length = ts.length := List.length_map ..
@[simp] theorem iL_take (ts : List Int) (n : Nat) : (iL ts).take n = iL (ts.take n) := List.map_take.symm
@[simp] theorem iL_drop (ts : List Int) (n : Nat) : (iL ts).drop n = iL (ts.drop n) := List.map_drop.symm
@[simp] theorem iL_tail (ts : List Int) : (iL ts).tail = iL ts.tail := List.map_tail.symm
@[simp] theorem iL_rev (ts : List Int) : (iL ts).reverse = iL ts.reverse := List.map_reverse.symm
@[simp] theorem iL_app (a b : List Int) : iL a ++ iL b = iL (a ++ b) := List.map_append.symm
@[simp] theorem iL_snoc (a : List Int) (i : Int) : iL a ++ [.int i] = iL (a ++ [i]) := (iL_app a [i])
@[simp] theorem iL_mid (a b : List Int) (i : Int) : iL a ++ .int i :: iL b = iL (a ++ i :: b) := iL_app a (i :: b)
@[simp] theorem iL_get (ts : List Int) (n : Nat) : (iL ts)[n]? = ts[n]?.map .int := List.getElem?_map ..
@[simp] theorem iL_emp (ts : List Int) : (iL ts).isEmpty = ts.isEmpty := by cases ts <;> rfl
@[simp] theorem iL_set (ts : List Int) (n : Nat) (i : Int) : (iL ts).set n (.int i) = iL (ts.set n i) := List.map_set.symm
@[simp] theorem iL_erase (ts : List Int) (n : Nat) : (iL ts).eraseIdx n = iL (ts.eraseIdx n) := by
  unfold iL
  induction ts generalizing n with
  | nil => rfl
  | cons t r ih => cases n with
    | zero => rfl
    | succ n => simp only [List.map_cons, List.eraseIdx_cons_succ, ih]
@[simp] theorem iL_eqnil (ts : List Int) : (iL ts = []) = (ts = []) := by cases ts <;> simp [iL]
theorem iL_inj {a b : List Int} (h : iL a = iL b) : a = b := (List.map_inj_right fun _ _ h => by cases h; rfl).mp h
theorem iL_mem {ts : List Int} {d : D} : d ∈ iL ts ↔ ∃ i ∈ ts, .int i = d := List.mem_map
@[simp] theorem iL_rep (ts : List Int) (n : Nat) : (List.replicate n (iL ts)).flatten = iL (List.replicate n ts).flatten := by
  unfold iL; rw [List.map_flatten, List.map_replicate]
@[simp] theorem iL_repI (n : Nat) (i : Int) : List.replicate n (D.int i) = iL (List.replicate n i) := by
  unfold iL; rw [List.map_replicate]
theorem iL_one (n : Nat) (i : Int) : (List.replicate n [D.int i]).flatten = iL (List.replicate n i) := by
  unfold iL
  induction n with
  | zero => rfl
  | succ n ih => simp only [List.replicate_succ, List.flatten_cons, List.map_cons, ih]; rfl
@[simp] theorem ints_some : ∀ ts : List Int, ints? (iL ts) = some ts
  | [] => rfl
  | t :: r => by rw [iL_cons]; show (match ints? (iL r) with | some is => some (t :: is) | none => none) = _; rw [ints_some r]
@[simp] theorem ints_cons (i : Int) (r : List D) : ints? (.int i :: r) = (ints? r).map (i :: ·) := by
  show (match ints? r with | some is => some (i :: is) | none => none) = _
  cases ints? r <;> rfl
@[simp] theorem ints_nil : ints? [] = some [] := nr rfl
@[simp] theorem ints_app : ∀ (a b : List D), ints? (a ++ b) = (ints? a).bind fun x => (ints? b).map (x ++ ·)
  | [], b => by cases h : ints? b <;> simp [h]
  | .int i :: a, b => by
    simp only [List.cons_append, ints_cons, ints_app a b]
    cases ints? a <;> cases ints? b <;> rfl
  | .non :: _, _ => rfl
  | .bl _ :: _, _ => rfl
  | .str _ :: _, _ => rfl
  | .lst _ :: _, _ => rfl
  | .tup _ :: _, _ => rfl
  | .pr _ :: _, _ => rfl
  | .scr _ :: _, _ => rfl
  | .err _ _ :: _, _ => rfl
@[simp] theorem dints_t (xs : List D) : D.ints? (.tup xs) = ints? xs := nr rfl
@[simp] theorem dints_l (xs : List D) : D.ints? (.lst xs) = ints? xs := nr rfl
def sumK (d : D) : Option (List Int) → Option Vl
  | some ns => some (.fz (.int ns.sum))
  | none => sumB d
@[simp] theorem sumP_ap (d : D) : sumP [d] = sumK d d.ints? := nr rfl
@[simp] theorem sumK_s (d : D) (ns : List Int) : sumK d (some ns) = some (.fz (.int ns.sum)) := nr rfl
theorem bools_bl : ∀ bs : List Bool, bools? (bs.map D.bl) = some bs
  | [] => rfl
  | b :: r => by
    show (match bools? (r.map D.bl) with
      | some cs => some (b :: cs)
      | none => none) = _
    rw [bools_bl r]
theorem sumP_bl (bs : List Bool) : sumP [.lst (bs.map D.bl)] = some (.fz (.int (bsum bs))) := by
  cases bs with
  | nil => rfl
  | cons b r =>
    show sumB (.lst ((b :: r).map D.bl)) = _
    unfold sumB
    simp only [bools_bl]
/-- in descending order -/
def dsort (ts : List Int) : List Int := (isortI ts).reverse
@[simp] theorem dsort_def (ts : List Int) : (isortI ts).reverse = dsort ts := nr rfl
def sortK : Option (List Int) → Option Vl
  | some ns => some (.fr (iL (isortI ns)))
  | none => none
@[simp] theorem sortP_ap (d : D) : sortP [d] = sortK d.ints? := nr rfl
@[simp] theorem sortK_s (ns : List Int) : sortK (some ns) = some (.fr (iL (isortI ns))) := nr rfl
def sortRK : Option (List Int) → Option Vl
  | some ns => some (.fr (iL (isortI ns).reverse))
  | none => none
@[simp] theorem sortRevP_ap (d : D) : sortRevP d = sortRK d.ints? := nr rfl
@[simp] theorem sortRK_s (ns : List Int) : sortRK (some ns) = some (.fr (iL (dsort ns))) := nr rfl
@[simp] theorem maxP2_ap (i j : Int) : maxP2 [.int i, .int j] = some (.fz (.int (if j > i then j else i))) := nr rfl
@[simp] theorem minP2_ap (i j : Int) : minP2 [.int i, .int j] = some (.fz (.int (if j < i then j else i))) := nr rfl
@[simp] theorem bls_nil : bls? [] = some [] := nr rfl
@[simp] theorem bls_cons (b : Bool) (r : List D) : bls? (.bl b :: r) = (bls? r).map (b :: ·) := by
  show (match bls? r with | some bs => some (b :: bs) | none => none) = _
  cases bls? r <;> rfl
@[simp] theorem bls_some : ∀ ts : List Bool, bls? (ts.map .bl) = some ts
  | [] => rfl
  | t :: r => by simp [bls_some r]
def anyK : Option (List Bool) → Option Vl
  | some bs => some (.fz (.bl (bs.any id)))
  | none => none
def allK : Option (List Bool) → Option Vl
  | some bs => some (.fz (.bl (bs.all id)))
  | none => none
@[simp] theorem anyP_ap (xs : List D) : anyP [.lst xs] = anyK (bls? xs) := nr rfl
@[simp] theorem allP_ap (xs : List D) : allP [.lst xs] = allK (bls? xs) := nr rfl
@[simp] theorem anyK_s (ns : List Bool) : anyK (some ns) = some (.fz (.bl (ns.any id))) := nr rfl
@[simp] theorem allK_s (ns : List Bool) : allK (some ns) = some (.fz (.bl (ns.all id))) := nr rfl
/-! isinstance -/
@[simp] theorem isiP_err (kd : String → Option Bool) (ke : Str → Option Bool) (c : Str) (fs : List (Str × D)) : isiP kd ke (.err c fs) = (ke c).map fun b => .fz (.bl b) := nr rfl
@[simp] theorem isiP_int (kd : String → Option Bool) (ke : Str → Option Bool) (i : Int) : isiP kd ke (.int i) = (kd "int").map fun b => .fz (.bl b) := nr rfl
@[simp] theorem isiP_bl (kd : String → Option Bool) (ke : Str → Option Bool) (i : Bool) : isiP kd ke (.bl i) = (kd "bool").map fun b => .fz (.bl b) := nr rfl
@[simp] theorem isiP_non (kd : String → Option Bool) (ke : Str → Option Bool) : isiP kd ke .non = (kd "NoneType").map fun b => .fz (.bl b) := nr rfl
@[simp] theorem isiP_str (kd : String → Option Bool) (ke : Str → Option Bool) (i : Str) : isiP kd ke (.str i) = (kd "str").map fun b => .fz (.bl b) := nr rfl
@[simp] theorem isiP_lst (kd : String → Option Bool) (ke : Str → Option Bool) (i : List D) : isiP kd ke (.lst i) = (kd "list").map fun b => .fz (.bl b) := nr rfl
@[simp] theorem isiP_tup (kd : String → Option Bool) (ke : Str → Option Bool) (i : List D) : isiP kd ke (.tup i) = (kd "tuple").map fun b => .fz (.bl b) := nr rfl
@[simp] theorem isiP_scr (kd : String → Option Bool) (ke : Str → Option Bool) (i : List Int) : isiP kd ke (.scr i) = (kd "list").map fun b => .fz (.bl b) := nr rfl
/-! fields -/
@[simp] theorem atP_err (ok : Str → Bool) (f c : Str) (fs : List (Str × D)) : atP ok f (.err c fs) = if ok c = true then (fs.lookup f).map .fz else none := nr rfl
end KL
end

section
set_option Elab.async false
set_option linter.all false
set_option maxRecDepth 100000
namespace KL
open PySem L2
/-! ### data of ints -/
abbrev tp (ts : List Int) : D := .tup (iL ts)
abbrev li (ts : List Int) : D := .lst (iL ts)
theorem depL_ints : ∀ ts : List Int, D.depL (iL ts) = 0
  | [] => by simp [D.depL]
  | t :: r => by
    have := depL_ints r
    rw [iL_cons]; simp [D.depL, D.dep, this]
theorem plnL_ints : ∀ ts : List Int, D.plnL (iL ts) = true
  | [] => by simp [D.plnL]
  | t :: r => by rw [iL_cons]; simp [D.plnL, D.pln, plnL_ints r]
theorem eqL_ints : ∀ a b : List Int, D.eqL (iL a) (iL b) = decide (a = b)
  | [], [] => by simp [D.eqL]
  | [], _ :: _ => by rw [iL_cons]; simp [D.eqL]
  | _ :: _, [] => by rw [iL_cons]; simp [D.eqL]
  | x :: a, y :: b => by
    simp only [iL_cons, D.eqL, D.eqD, eqL_ints a b]
    by_cases h : x = y <;> simp [h]
theorem eqP_of {d e : D} {b : Bool} (h : (d.pln && e.pln && decide (min d.dep e.dep ≤ 60)) = true) (h2 : d.eqD e = b) : eqP d e = some (.fz (.bl b)) := by
  unfold eqP; rw [if_pos h, h2]; rfl
theorem neP_of {d e : D} {b : Bool} (h : (d.pln && e.pln && decide (min d.dep e.dep ≤ 60)) = true) (h2 : d.eqD e = b) : neP d e = some (.fz (.bl (!b))) := by
  unfold neP; rw [if_pos h, h2]; rfl
@[simp] theorem eqP_lints (a b : List Int) : eqP (.lst (iL a)) (.lst (iL b)) = some (.fz (.bl (decide (a = b)))) :=
  eqP_of (by simp [D.pln, plnL_ints, D.dep, depL_ints]) (by simp [D.eqD, eqL_ints])
@[simp] theorem neP_lints (a b : List Int) : neP (.lst (iL a)) (.lst (iL b)) = some (.fz (.bl (!decide (a = b)))) :=
  neP_of (by simp [D.pln, plnL_ints, D.dep, depL_ints]) (by simp [D.eqD, eqL_ints])
@[simp] theorem eqP_tints (a b : List Int) : eqP (.tup (iL a)) (.tup (iL b)) = some (.fz (.bl (decide (a = b)))) :=
  eqP_of (by simp [D.pln, plnL_ints, D.dep, depL_ints]) (by simp [D.eqD, eqL_ints])
@[simp] theorem neP_tints (a b : List Int) : neP (.tup (iL a)) (.tup (iL b)) = some (.fz (.bl (!decide (a = b)))) :=
  neP_of (by simp [D.pln, plnL_ints, D.dep, depL_ints]) (by simp [D.eqD, eqL_ints])
@[simp] theorem neP_lnil (a : List Int) : neP (.lst (iL a)) (.lst []) = some (.fz (.bl (!decide (a = [])))) := neP_lints a []
@[simp] theorem eqP_lnil (a : List Int) : eqP (.lst (iL a)) (.lst []) = some (.fz (.bl (decide (a = [])))) := eqP_lints a []
theorem any_ints (ts : List Int) (i : Int) : (iL ts).any (fun y => y.eqD (.int i)) = decide (i ∈ ts) := by
  induction ts with
  | nil => simp
  | cons t r ih =>
    simp only [iL_cons, List.any_cons, D.eqD, ih, List.mem_cons]
    by_cases h : t = i
    · simp [h]
    · have : ¬ i = t := fun z => h z.symm
      simp [h, this]
theorem cnt_ints (ts : List Int) (i : Int) : (iL ts).countP (fun y => y.eqD (.int i)) = ts.count i := by
  induction ts with
  | nil => simp
  | cons t r ih =>
    rw [iL_cons, List.countP_cons, List.count_cons, ih]
    rfl
@[simp] theorem cntP_t (ts : List Int) (i : Int) : cntP (.tup (iL ts)) [.int i] = some (.fz (.int (ts.count i))) := by
  unfold cntP
  dsimp only
  rw [if_pos (by simp [plnL_ints, D.pln, depL_ints, D.dep]), cnt_ints]
@[simp] theorem cntP_l (ts : List Int) (i : Int) : cntP (.lst (iL ts)) [.int i] = some (.fz (.int (ts.count i))) := by
  unfold cntP
  dsimp only
  rw [if_pos (by simp [plnL_ints, D.pln, depL_ints, D.dep]), cnt_ints]
@[simp] theorem inP_t (ts : List Int) (i : Int) : inP (.int i) (.tup (iL ts)) = some (.fz (.bl (decide (i ∈ ts)))) := by
  unfold inP items?
  dsimp only
  rw [if_pos (by simp [plnL_ints, D.pln, depL_ints, D.dep]), any_ints]; rfl
@[simp] theorem inP_l (ts : List Int) (i : Int) : inP (.int i) (.lst (iL ts)) = some (.fz (.bl (decide (i ∈ ts)))) := by
  unfold inP items?
  dsimp only
  rw [if_pos (by simp [plnL_ints, D.pln, depL_ints, D.dep]), any_ints]; rfl
@[simp] theorem notInP_t (ts : List Int) (i : Int) : notInP (.int i) (.tup (iL ts)) = some (.fz (.bl (!decide (i ∈ ts)))) := by
  unfold notInP items?
  dsimp only
  rw [if_pos (by simp [plnL_ints, D.pln, depL_ints, D.dep]), any_ints]; rfl
@[simp] theorem notInP_l (ts : List Int) (i : Int) : notInP (.int i) (.lst (iL ts)) = some (.fz (.bl (!decide (i ∈ ts)))) := by
  unfold notInP items?
  dsimp only
  rw [if_pos (by simp [plnL_ints, D.pln, depL_ints, D.dep]), any_ints]; rfl
@[simp] theorem idxP_t (ts : List Int) (i : Int) : idxP (.tup (iL ts)) [.int i] = if i ∈ ts then some (.fz (.int (ts.idxOf i : Nat))) else none := by
  show idxL (iL ts) (.int i) = _
  unfold idxL
  simp
@[simp] theorem idxP_l (ts : List Int) (i : Int) : idxP (.lst (iL ts)) [.int i] = if i ∈ ts then some (.fz (.int (ts.idxOf i : Nat))) else none := by
  show idxL (iL ts) (.int i) = _
  unfold idxL
  simp
@[simp] theorem gRemove_ap (ts : List Int) (i : Int) : gRemove (iL ts) [.int i] = if i ∈ ts then some (.non, iL (ts.erase i)) else none := by
  unfold gRemove
  simp [iL_def]
/-! ### comprehensions -/
theorem lcL_gen {α : Type} {vs : List Nat} {tg : D → Env → Out} {c : M Bool} {e : M Vl} {enc : α → D} {p : α → Bool} {g : α → D} {w : Env} {ρa : α → Env} (hok : okW w vs = true) : ∀ (xs : List α) (acc : List D), acc.length + xs.length ≤ 1000000 →
    (∀ a ∈ xs, tg (enc a) w = .nx (ρa a)) → (∀ a ∈ xs, wipeE (ρa a) vs = w ∧ okW (ρa a) vs = true) → (∀ a ∈ xs, c (ρa a) = .ok (p a) (ρa a)) → (∀ a ∈ xs, p a = true → ∃ v, v.d = g a ∧ e (ρa a) = .ok v (ρa a)) →
    lcL vs tg c e (xs.map enc) acc w = .ok (acc ++ (xs.filter p).map g) w
  | [], acc, _, _, _, _, _ => by simp [lcL]
  | a :: r, acc, hl, ht, hw, hc, he => by
    have m := List.mem_cons_self (a := a) (l := r)
    simp only [List.length_cons] at hl
    have z := lcL_gen hok (p := p) (g := g) (c := c) (e := e) (enc := enc) (ρa := ρa) (tg := tg) r
    simp only [List.map_cons, lcL, ht a m, hc a m]
    cases h : p a with
    | false =>
      simp only [(hw a m).2, if_true, (hw a m).1]
      rw [z acc (by omega) (fun b hb => ht b (List.mem_cons_of_mem _ hb)) (fun b hb => hw b (List.mem_cons_of_mem _ hb)) (fun b hb => hc b (List.mem_cons_of_mem _ hb)) (fun b hb => he b (List.mem_cons_of_mem _ hb))]
      simp [h]
    | true =>
      obtain ⟨v, e1, e2⟩ := he a m h
      have hl' : acc.length < 1000000 := by omega
      simp only [e2, (hw a m).2, hl', decide_true, Bool.and_self, if_true, (hw a m).1, e1]
      rw [z (acc ++ [g a]) (by simp; omega) (fun b hb => ht b (List.mem_cons_of_mem _ hb)) (fun b hb => hw b (List.mem_cons_of_mem _ hb)) (fun b hb => hc b (List.mem_cons_of_mem _ hb)) (fun b hb => he b (List.mem_cons_of_mem _ hb))]
      simp [h]
theorem lcE_gen {α : Type} {vs : List Nat} {it : M (List D)} {tg : D → Env → Out} {c : M Bool} {e : M Vl} {enc : α → D} {ρ ρ1 : Env} (w : Env) (p : α → Bool) (g : α → D) (ρa : α → Env) (xs : List α) (hi : it ρ = .ok (xs.map enc) ρ1) (h0 : okW ρ1 vs = true) (h1 : wipeE ρ1 vs = w) (h2 : rstE ρ1 w vs = ρ1) (hok : okW w vs = true) (hl : xs.length ≤ 1000000)
    (ht : ∀ a ∈ xs, tg (enc a) w = .nx (ρa a)) (hw : ∀ a ∈ xs, wipeE (ρa a) vs = w ∧ okW (ρa a) vs = true) (hc : ∀ a ∈ xs, c (ρa a) = .ok (p a) (ρa a)) (he : ∀ a ∈ xs, p a = true → ∃ v, v.d = g a ∧ e (ρa a) = .ok v (ρa a)) :
    lcE vs it tg c e ρ = .ok (.fr ((xs.filter p).map g)) ρ1 := by
  unfold lcE
  rw [hi, bnd_ok, if_pos h0, h1, lcL_gen hok xs [] (by simpa using hl) ht hw hc he]
  simp [hok, h2]
/-! one name -/
theorem set_back {ρ : Env} {v : Nat} {q : Sl} (h : ρ[v]? = some .un) : (ρ.set v q).set v .un = ρ := by
  rw [List.set_set]
  apply List.ext_getElem?
  intro j
  by_cases c : v = j
  · subst c
    rw [List.getElem?_set_self (List.getElem?_eq_some_iff.mp h).1, h]
  · rw [List.getElem?_set_ne c]
theorem set_set_get {ρ : Env} {v : Nat} {q r : Sl} (h : ρ[v]? = some q) : (ρ.set v r).set v q = ρ := by
  rw [List.set_set]
  apply List.ext_getElem?
  intro j
  by_cases c : v = j
  · subst c
    rw [List.getElem?_set_self (List.getElem?_eq_some_iff.mp h).1, h]
  · rw [List.getElem?_set_ne c]
/-- a comprehension whose test and element change nothing -/
theorem lcE_mapQ {α : Type} {v : Nat} {it : M (List D)} {c : M Bool} {e : M Vl} {enc : α → D} {ρ ρ1 : Env} (q : Sl) (p : α → Bool) (g : α → D) (xs : List α) (hi : it ρ = .ok (xs.map enc) ρ1) (hv : ρ1[v]? = some q) (hm : q.mine = false) (hl : xs.length ≤ 1000000)
    (hc : ∀ a ∈ xs, c (ρ1.set v (.va (enc a))) = .ok (p a) (ρ1.set v (.va (enc a)))) (he : ∀ a ∈ xs, p a = true → ∃ q, q.d = g a ∧ e (ρ1.set v (.va (enc a))) = .ok q (ρ1.set v (.va (enc a)))) :
    lcE [v] it (tgN v) c e ρ = .ok (.fr ((xs.filter p).map g)) ρ1 := by
  have lv := (List.getElem?_eq_some_iff.mp hv).1
  have w1 : (ρ1.set v .un)[v]? = some .un := List.getElem?_set_self lv
  refine lcE_gen (ρ1.set v .un) p g (fun a => ρ1.set v (.va (enc a))) xs hi (by simp [okW, hv, hm]) rfl ?_ (by simp [okW, w1]) hl (fun a _ => ?_) (fun a _ => ⟨?_, ?_⟩) hc he
  · show ((ρ1.set v .un).set v ((ρ1[v]?).getD .un)) = ρ1
    rw [hv]; exact set_set_get hv
  · simp [w1]
  · show (ρ1.set v (.va (enc a))).set v .un = _
    rw [List.set_set]
  · simp [okW, List.getElem?_set_self lv]
/-- .. its name stands for nothing outside -/
theorem lcE_map {α : Type} {v : Nat} {it : M (List D)} {c : M Bool} {e : M Vl} {enc : α → D} {ρ ρ1 : Env} (p : α → Bool) (g : α → D) (xs : List α) (hi : it ρ = .ok (xs.map enc) ρ1) (hv : ρ1[v]? = some .un) (hl : xs.length ≤ 1000000)
    (hc : ∀ a ∈ xs, c (ρ1.set v (.va (enc a))) = .ok (p a) (ρ1.set v (.va (enc a)))) (he : ∀ a ∈ xs, p a = true → ∃ q, q.d = g a ∧ e (ρ1.set v (.va (enc a))) = .ok q (ρ1.set v (.va (enc a)))) :
    lcE [v] it (tgN v) c e ρ = .ok (.fr ((xs.filter p).map g)) ρ1 := lcE_mapQ .un p g xs hi hv rfl hl hc he
/-- .. without a test -/
theorem lcE_all {α : Type} {v : Nat} {it : M (List D)} {e : M Vl} {enc : α → D} {ρ ρ1 : Env} (g : α → D) (xs : List α) (hi : it ρ = .ok (xs.map enc) ρ1) (hv : ρ1[v]? = some .un) (hl : xs.length ≤ 1000000)
    (he : ∀ a ∈ xs, ∃ q, q.d = g a ∧ e (ρ1.set v (.va (enc a))) = .ok q (ρ1.set v (.va (enc a)))) :
    lcE [v] it (tgN v) yesB e ρ = .ok (.fr (xs.map g)) ρ1 := by
  have := lcE_map (c := yesB) (fun _ => true) g xs hi hv hl (fun a _ => rfl) fun a ha _ => he a ha
  rw [this]; congr 2
  rw [List.filter_eq_self.mpr fun _ _ => rfl]
theorem lcE_allQ {α : Type} {v : Nat} {it : M (List D)} {e : M Vl} {enc : α → D} {ρ ρ1 : Env} (q : Sl) (g : α → D) (xs : List α) (hi : it ρ = .ok (xs.map enc) ρ1) (hv : ρ1[v]? = some q) (hm : q.mine = false) (hl : xs.length ≤ 1000000)
    (he : ∀ a ∈ xs, ∃ q, q.d = g a ∧ e (ρ1.set v (.va (enc a))) = .ok q (ρ1.set v (.va (enc a)))) :
    lcE [v] it (tgN v) yesB e ρ = .ok (.fr (xs.map g)) ρ1 := by
  have := lcE_mapQ (c := yesB) q (fun _ => true) g xs hi hv hm hl (fun a _ => rfl) fun a ha _ => he a ha
  rw [this]; congr 2
  rw [List.filter_eq_self.mpr fun _ _ => rfl]
/-- a comprehension whose elements are drawn: s is what changes -/
theorem lcL_draw {σ : Type} {vs : List Nat} {tg : D → Env → Out} {e : M Vl} {w : σ → Env} {I : σ → Prop} {P : D → Prop} (hok : ∀ s, I s → okW (w s) vs = true) : ∀ (ds acc : List D) (s : σ), acc.length + ds.length ≤ 1000000 → I s →
    (∀ d ∈ ds, ∀ s, I s → ∃ ρ1 s' ρ2 v, tg d (w s) = .nx ρ1 ∧ e ρ1 = .ok v ρ2 ∧ P v.d ∧ I s' ∧ okW ρ2 vs = true ∧ wipeE ρ2 vs = w s') →
    ∃ (xs : List D) (s' : σ), xs.length = ds.length ∧ (∀ x ∈ xs, P x) ∧ I s' ∧ lcL vs tg yesB e ds acc (w s) = .ok (acc ++ xs) (w s')
  | [], acc, s, _, hs, _ => ⟨[], s, rfl, (by simp), hs, by simp [lcL]⟩
  | d :: r, acc, s, hl, hs, h => by
    simp only [List.length_cons] at hl
    obtain ⟨ρ1, s', ρ2, v, h1, h2, h3, h4, h5, h6⟩ := h d (List.mem_cons_self ..) s hs
    obtain ⟨xs, s2, a1, a2, a3, a4⟩ := lcL_draw hok (tg := tg) (e := e) (P := P) r (acc ++ [v.d]) s' (by simp; omega) h4 fun d hd => h d (List.mem_cons_of_mem _ hd)
    have hl' : acc.length < 1000000 := by omega
    refine ⟨v.d :: xs, s2, by simp [a1], ?_, a3, ?_⟩
    · intro x hx
      rcases List.mem_cons.mp hx with rfl | hx
      · exact h3
      · exact a2 x hx
    · simp only [lcL, h1, yesB_ap, h2, h5, hl', decide_true, Bool.and_self, if_true, h6, a4]
      simp
theorem lcE_draw {σ : Type} {vs : List Nat} {it : M (List D)} {tg : D → Env → Out} {e : M Vl} {ρ ρ1 : Env} (w wo : σ → Env) (I : σ → Prop) (P : D → Prop) (ds : List D) (s : σ) (hi : it ρ = .ok ds ρ1) (h0 : okW ρ1 vs = true) (h1 : wipeE ρ1 vs = w s) (hs : I s) (h2 : ∀ s', rstE ρ1 (w s') vs = wo s') (hok : ∀ s, I s → okW (w s) vs = true) (hl : ds.length ≤ 1000000)
    (h : ∀ d ∈ ds, ∀ s, I s → ∃ ρ1 s' ρ2 v, tg d (w s) = .nx ρ1 ∧ e ρ1 = .ok v ρ2 ∧ P v.d ∧ I s' ∧ okW ρ2 vs = true ∧ wipeE ρ2 vs = w s') :
    ∃ (xs : List D) (s' : σ), xs.length = ds.length ∧ (∀ x ∈ xs, P x) ∧ I s' ∧ lcE vs it tg yesB e ρ = .ok (.fr xs) (wo s') := by
  obtain ⟨xs, s', a1, a2, a3, a4⟩ := lcL_draw hok (tg := tg) (e := e) (P := P) ds [] s (by simpa using hl) hs h
  refine ⟨xs, s', a1, a2, a3, ?_⟩
  unfold lcE
  rw [hi, bnd_ok, if_pos h0, h1, a4]
  simp [hok s' a3, h2]
/-- .. over ints -/
theorem lcE_int {v : Nat} {it : M (List D)} {c : M Bool} {e : M Vl} {ρ ρ1 : Env} (p : Int → Bool) (h : Int → Int) (xs : List Int) (hi : it ρ = .ok (iL xs) ρ1) (hv : ρ1[v]? = some .un) (hl : xs.length ≤ 1000000)
    (hc : ∀ a ∈ xs, c (ρ1.set v (.va (.int a))) = .ok (p a) (ρ1.set v (.va (.int a)))) (he : ∀ a ∈ xs, p a = true → ∃ q, q.d = .int (h a) ∧ e (ρ1.set v (.va (.int a))) = .ok q (ρ1.set v (.va (.int a)))) :
    lcE [v] it (tgN v) c e ρ = .ok (.fr (iL ((xs.filter p).map h))) ρ1 := by
  have := lcE_map (enc := D.int) p (fun a => D.int (h a)) xs hi hv hl hc he
  rw [this]; unfold iL; rw [List.map_map]; rfl
theorem lcE_intA {v : Nat} {it : M (List D)} {e : M Vl} {ρ ρ1 : Env} (h : Int → Int) (xs : List Int) (hi : it ρ = .ok (iL xs) ρ1) (hv : ρ1[v]? = some .un) (hl : xs.length ≤ 1000000)
    (he : ∀ a ∈ xs, ∃ q, q.d = .int (h a) ∧ e (ρ1.set v (.va (.int a))) = .ok q (ρ1.set v (.va (.int a)))) :
    lcE [v] it (tgN v) yesB e ρ = .ok (.fr (iL (xs.map h))) ρ1 := by
  have := lcE_all (enc := D.int) (fun a => D.int (h a)) xs hi hv hl he
  rw [this]; unfold iL; rw [List.map_map]; rfl
theorem lcE_filter {v : Nat} {it : M (List D)} {c : M Bool} {ρ ρ1 : Env} (p : Int → Bool) (xs : List Int) (hi : it ρ = .ok (iL xs) ρ1) (hv : ρ1[v]? = some .un) (hl : xs.length ≤ 1000000)
    (hc : ∀ a ∈ xs, c (ρ1.set v (.va (.int a))) = .ok (p a) (ρ1.set v (.va (.int a)))) : lcE [v] it (tgN v) c (nmE v) ρ = .ok (.fr (iL (xs.filter p))) ρ1 := by
  have lv := (List.getElem?_eq_some_iff.mp hv).1
  have := lcE_int (e := nmE v) p id xs hi hv hl hc fun a _ _ => ⟨.fz (.int a), rfl, by simp [List.getElem?_set_self lv]⟩
  rw [this, List.map_id]
/-! ### all(..) -/
theorem allE_map {α : Type} {v : Nat} {it : M (List D)} {e : M Vl} {enc : α → D} {ρ ρ1 : Env} (p : α → Bool) (xs : List α) (hi : it ρ = .ok (xs.map enc) ρ1) (hv : ρ1[v]? = some .un)
    (he : ∀ a ∈ xs, e (ρ1.set v (.va (enc a))) = .ok (.fz (.bl (p a))) (ρ1.set v (.va (enc a)))) :
    allE [v] it (tgN v) e ρ = .ok (.fz (.bl (xs.all p))) ρ1 := by
  have lv := (List.getElem?_eq_some_iff.mp hv).1
  have w0 : ρ1.set v .un = ρ1 := by
    have := set_back (q := .un) hv
    rw [List.set_set] at this; exact this
  have ok1 : okW ρ1 [v] = true := by simp [okW, hv]
  have main : ∀ (ys : List α), (∀ a ∈ ys, a ∈ xs) → ∃ ρ2, allL [v] (tgN v) e (ys.map enc) ρ1 = .ok (ys.all p) ρ2 ∧ okW ρ2 [v] = true ∧ ρ2.set v .un = ρ1 := by
    intro ys
    induction ys with
    | nil => exact fun _ => ⟨ρ1, rfl, ok1, w0⟩
    | cons a r ih =>
      intro hm
      have hs : tgN v (enc a) ρ1 = .nx (ρ1.set v (.va (enc a))) := by simp [hv]
      have h1 := he a (hm a (List.mem_cons_self ..))
      have ok2 : okW (ρ1.set v (.va (enc a))) [v] = true := by simp [okW, List.getElem?_set_self lv]
      simp only [List.map_cons, allL, hs, h1]
      cases h : p a with
      | false => exact ⟨_, by simp [h], ok2, set_back hv⟩
      | true =>
        have wb : wipeE (ρ1.set v (.va (enc a))) [v] = ρ1 := set_back hv
        obtain ⟨ρ2, b1, b2, b3⟩ := ih fun b hb => hm b (List.mem_cons_of_mem _ hb)
        refine ⟨ρ2, ?_, b2, b3⟩
        simp [ok2, wb, b1, h]
  obtain ⟨ρ2, b1, b2, b3⟩ := main xs fun _ h => h
  unfold allE
  rw [hi, bnd_ok, if_pos ok1]
  have e1 : wipeE ρ1 [v] = ρ1 := w0
  have e2 : rstE ρ1 ρ2 [v] = ρ1 := by
    show ρ2.set v ((ρ1[v]?).getD .un) = ρ1
    rw [hv]; exact b3
  rw [e1, b1]
  simp [b2, e2]
/-! ### for -/
theorem forL_inv_ {α : Type} {enc : α → D} {tg : D → Env → Out} {b : SM} (P : List α → Env → Prop) (xs : List α) : ∀ (ys : List α) (ρ : Env), (∀ a ∈ ys, a ∈ xs) → P ys ρ →
    (∀ a r ρ, a ∈ xs → P (a :: r) ρ → ∃ ρ1 ρ2, tg (enc a) ρ = .nx ρ1 ∧ (b ρ1 = .nx ρ2 ∨ b ρ1 = .ct ρ2) ∧ P r ρ2) → ∃ ρ', forL tg b (ys.map enc) ρ = .nx ρ' ∧ P [] ρ'
  | [], ρ, _, h, _ => ⟨ρ, rfl, h⟩
  | a :: r, ρ, hm, h, hs => by
    obtain ⟨ρ1, ρ2, h1, h2, h3⟩ := hs a r ρ (hm a (List.mem_cons_self ..)) h
    obtain ⟨ρ', h4, h5⟩ := forL_inv_ P xs r ρ2 (fun b hb => hm b (List.mem_cons_of_mem _ hb)) h3 hs
    refine ⟨ρ', ?_, h5⟩
    rw [← h4]
    simp only [List.map_cons, forL, h1]
    rcases h2 with h2 | h2 <;> simp only [h2]
/-- P: what holds while these are still to be walked -/
theorem forL_inv {α : Type} {enc : α → D} {tg : D → Env → Out} {b : SM} (P : List α → Env → Prop) (xs : List α) (ρ : Env) (h : P xs ρ)
    (hs : ∀ a r ρ, a ∈ xs → P (a :: r) ρ → ∃ ρ1 ρ2, tg (enc a) ρ = .nx ρ1 ∧ (b ρ1 = .nx ρ2 ∨ b ρ1 = .ct ρ2) ∧ P r ρ2) : ∃ ρ', forL tg b (xs.map enc) ρ = .nx ρ' ∧ P [] ρ' :=
  forL_inv_ P xs xs ρ (fun _ h => h) h hs
theorem forL_out_ {α : Type} {enc : α → D} {tg : D → Env → Out} {b : SM} (P : List α → Env → Prop) (Q : Out → Prop) (xs : List α) : ∀ (ys : List α) (ρ : Env), (∀ a ∈ ys, a ∈ xs) → P ys ρ → (∀ ρ, P [] ρ → Q (.nx ρ)) →
    (∀ a r ρ, a ∈ xs → P (a :: r) ρ → ∃ ρ1, tg (enc a) ρ = .nx ρ1 ∧ ((∃ ρ2, (b ρ1 = .nx ρ2 ∨ b ρ1 = .ct ρ2) ∧ P r ρ2) ∨ (∃ ρ2, b ρ1 = .bk ρ2 ∧ Q (.nx ρ2)) ∨ (∃ v ρ2, b ρ1 = .rt v ρ2 ∧ Q (.rt v ρ2)) ∨ (∃ e ρ2, b ρ1 = .ex e ρ2 ∧ Q (.ex e ρ2)))) → Q (forL tg b (ys.map enc) ρ)
  | [], ρ, _, h, h0, _ => h0 ρ h
  | a :: r, ρ, hm, h, h0, hs => by
    obtain ⟨ρ1, h1, h2⟩ := hs a r ρ (hm a (List.mem_cons_self ..)) h
    simp only [List.map_cons, forL, h1]
    rcases h2 with ⟨ρ2, h2, h3⟩ | ⟨ρ2, h2, h3⟩ | ⟨v, ρ2, h2, h3⟩ | ⟨e, ρ2, h2, h3⟩
    · have z := forL_out_ P Q xs r ρ2 (fun b hb => hm b (List.mem_cons_of_mem _ hb)) h3 h0 hs
      rcases h2 with h2 | h2 <;> simp only [h2] <;> exact z
    · simp only [h2]; exact h3
    · simp only [h2]; exact h3
    · simp only [h2]; exact h3
/-- .. also with break and return: Q: what holds of the end -/
theorem forL_out {α : Type} {enc : α → D} {tg : D → Env → Out} {b : SM} (P : List α → Env → Prop) (Q : Out → Prop) (xs : List α) (ρ : Env) (h : P xs ρ) (h0 : ∀ ρ, P [] ρ → Q (.nx ρ))
    (hs : ∀ a r ρ, a ∈ xs → P (a :: r) ρ → ∃ ρ1, tg (enc a) ρ = .nx ρ1 ∧ ((∃ ρ2, (b ρ1 = .nx ρ2 ∨ b ρ1 = .ct ρ2) ∧ P r ρ2) ∨ (∃ ρ2, b ρ1 = .bk ρ2 ∧ Q (.nx ρ2)) ∨ (∃ v ρ2, b ρ1 = .rt v ρ2 ∧ Q (.rt v ρ2)) ∨ (∃ e ρ2, b ρ1 = .ex e ρ2 ∧ Q (.ex e ρ2)))) : Q (forL tg b (xs.map enc) ρ) :=
  forL_out_ P Q xs xs ρ (fun _ h => h) h h0 hs
/-- .. drawing: s is what changes besides; all turns end in .nx -/
theorem forL_wp {α : Type} {enc : α → D} {tg : D → Env → Out} {b : SM} (P : Env → Prop) (xs : List α) (ρ : Env) (h : P ρ)
    (hs : ∀ a ρ, a ∈ xs → P ρ → ∃ ρ1 ρ2, tg (enc a) ρ = .nx ρ1 ∧ (b ρ1 = .nx ρ2 ∨ b ρ1 = .ct ρ2) ∧ P ρ2) : ∃ ρ', forL tg b (xs.map enc) ρ = .nx ρ' ∧ P ρ' :=
  forL_inv (fun _ => P) xs ρ h fun a _ ρ ha hp => hs a ρ ha hp
/-! .. over ints -/
theorem forI_inv {tg : D → Env → Out} {b : SM} (P : List Int → Env → Prop) (xs : List Int) (ρ : Env) (h : P xs ρ)
    (hs : ∀ a r ρ, a ∈ xs → P (a :: r) ρ → ∃ ρ1 ρ2, tg (.int a) ρ = .nx ρ1 ∧ (b ρ1 = .nx ρ2 ∨ b ρ1 = .ct ρ2) ∧ P r ρ2) : ∃ ρ', forL tg b (iL xs) ρ = .nx ρ' ∧ P [] ρ' :=
  forL_inv (enc := D.int) P xs ρ h hs
theorem forI_wp {tg : D → Env → Out} {b : SM} (P : Env → Prop) (xs : List Int) (ρ : Env) (h : P ρ)
    (hs : ∀ a ρ, a ∈ xs → P ρ → ∃ ρ1 ρ2, tg (.int a) ρ = .nx ρ1 ∧ (b ρ1 = .nx ρ2 ∨ b ρ1 = .ct ρ2) ∧ P ρ2) : ∃ ρ', forL tg b (iL xs) ρ = .nx ρ' ∧ P ρ' :=
  forL_wp (enc := D.int) P xs ρ h hs
theorem forI_out {tg : D → Env → Out} {b : SM} (P : List Int → Env → Prop) (Q : Out → Prop) (xs : List Int) (ρ : Env) (h : P xs ρ) (h0 : ∀ ρ, P [] ρ → Q (.nx ρ))
    (hs : ∀ a r ρ, a ∈ xs → P (a :: r) ρ → ∃ ρ1, tg (.int a) ρ = .nx ρ1 ∧ ((∃ ρ2, (b ρ1 = .nx ρ2 ∨ b ρ1 = .ct ρ2) ∧ P r ρ2) ∨ (∃ ρ2, b ρ1 = .bk ρ2 ∧ Q (.nx ρ2)) ∨ (∃ v ρ2, b ρ1 = .rt v ρ2 ∧ Q (.rt v ρ2)) ∨ (∃ e ρ2, b ρ1 = .ex e ρ2 ∧ Q (.ex e ρ2)))) : Q (forL tg b (iL xs) ρ) :=
  forL_out (enc := D.int) P Q xs ρ h h0 hs
/-! ### while -/
theorem whS_inv {c : M Bool} {b : SM} (P : Nat → Env → Prop) : ∀ (n k : Nat) (ρ : Env), k < n → P k ρ →
    (∀ k ρ, P k ρ → (∃ ρ1, c ρ = .ok false ρ1 ∧ P 0 ρ1) ∨ (∃ ρ1 ρ2 j, c ρ = .ok true ρ1 ∧ (b ρ1 = .nx ρ2 ∨ b ρ1 = .ct ρ2) ∧ j < k ∧ P j ρ2)) → ∃ ρ', whS c b n ρ = .nx ρ' ∧ P 0 ρ'
  | 0, k, ρ, h, _, _ => absurd h (Nat.not_lt_zero _)
  | n + 1, k, ρ, h, hp, hs => by
    rcases hs k ρ hp with ⟨ρ1, h1, h2⟩ | ⟨ρ1, ρ2, j, h1, h2, h3, h4⟩
    · exact ⟨ρ1, by simp [whS, h1], h2⟩
    · obtain ⟨ρ', a1, a2⟩ := whS_inv P n j ρ2 (by omega) h4 hs
      refine ⟨ρ', ?_, a2⟩
      rcases h2 with h2 | h2 <;> simp [whS, h1, h2, a1]
theorem rangeL_map (lo : Int) (n : Nat) : rangeL lo n = iL ((List.range n).map fun (k : Nat) => lo + (k : Int)) := by
  unfold rangeL iL; rw [List.map_map]; rfl
@[simp] theorem rangeL_len (lo : Int) (n : Nat) : (rangeL lo n).length = n := by simp [rangeL]
/-- ints from lo on -/
def rg (lo : Int) (n : Nat) : List Int := (List.range n).map fun (k : Nat) => lo + (k : Int)
@[simp] theorem rangeL_rg (lo : Int) (n : Nat) : rangeL lo n = iL (rg lo n) := rangeL_map lo n
theorem rg_mem {lo : Int} {n : Nat} {x : Int} : x ∈ rg lo n ↔ lo ≤ x ∧ x < lo + n := by
  unfold rg
  rw [List.mem_map]
  constructor
  · rintro ⟨k, hk, rfl⟩
    have := List.mem_range.mp hk
    omega
  · rintro ⟨h1, h2⟩
    exact ⟨(x - lo).toNat, List.mem_range.mpr (by omega), by omega⟩
@[simp] theorem rg_len (lo : Int) (n : Nat) : (rg lo n).length = n := by simp [rg]
theorem rg_get {n k : Nat} (h : k < n) (lo : Int) : (rg lo n)[k]? = some (lo + (k : Int)) := by simp [rg, h]
theorem rg_succ (lo : Int) (n : Nat) : rg lo (n + 1) = lo :: rg (lo + 1) n := by
  unfold rg
  rw [List.range_succ_eq_map, List.map_cons, List.map_map]
  congr 1
  · simp
  · apply List.map_congr_left
    intro k _
    simp only [Function.comp]
    omega
@[simp] theorem ints_iL (ts : List Int) : D.ints? (.lst (iL ts)) = some ts := ints_some ts
@[simp] theorem ints_iT (ts : List Int) : D.ints? (.tup (iL ts)) = some ts := ints_some ts
theorem ints_eq {xs : List D} {ns : List Int} (h : ints? xs = some ns) : xs = iL ns := @ints_map ⟨fun _ => False⟩ _ _ h
/-! ### statements one behind another -/
theorem seq_nx {a b : SM} {ρ ρ1 : Env} (h : a ρ = .nx ρ1) : seqS a b ρ = b ρ1 := by rw [seqS_ap, h]; rfl
/-- a slot that may be written, that holds no list of its own -/
structure Fre (q : Sl) : Prop where
  mine : q.mine = false
@[simp] theorem Fre.io {q : Sl} (h : Fre q) : q.isIo = false := by
  have := h.mine
  cases q <;> first | rfl | cases this
/-- a slot that may be written -/
structure Wr (q : Sl) : Prop where
  io : q.isIo = false
theorem Fre.wr {q : Sl} (h : Fre q) : Wr q := ⟨h.io⟩
theorem wr_un : Wr .un := ⟨rfl⟩
theorem wr_va (d : D) : Wr (.va d) := ⟨rfl⟩
theorem wr_ow (xs : List D) : Wr (.ow xs) := ⟨rfl⟩
theorem fre_un : Fre .un := ⟨rfl⟩
theorem fre_va (d : D) : Fre (.va d) := ⟨rfl⟩
end KL
end

section
set_option Elab.async false
set_option linter.all false
set_option maxRecDepth 100000
namespace S
open PySem L2 KL
noncomputable section
def bd_is_integer : SM := retS (eAnd (un1 (isiP (tyB "int") noK) (nmO 0)) (eNot (frz (un1 (isiP (tyB "bool") noK) (nmO 0)))))
theorem d_is_integer (ρ : KL.Env) : bd_is_integer ρ = (retS (eAnd (un1 (isiP (tyB "int") noK) (nmO 0)) (eNot (frz (un1 (isiP (tyB "bool") noK) (nmO 0)))))) ρ := nr rfl
def f_is_integer : M Vl := fnM 0 bd_is_integer
theorem e_is_integer (s0 : Sl) : f_is_integer [s0] = fnK [s0] (bd_is_integer [s0]) := nr (fnM_ap 0 bd_is_integer [s0])
def bd_is_between : SM := retS (eAnd (callV 1 f_is_integer [] (aCons (frz (nmE 0)) (aNil))) (chn leP leP (nmO 1) (nmO 0) (nmO 2)))
theorem d_is_between (ρ : KL.Env) : bd_is_between ρ = (retS (eAnd (callV 1 f_is_integer [] (aCons (frz (nmE 0)) (aNil))) (chn leP leP (nmO 1) (nmO 0) (nmO 2)))) ρ := nr rfl
def f_is_between : M Vl := fnM 0 bd_is_between
theorem e_is_between (s0 s1 s2 : Sl) : f_is_between [s0, s1, s2] = fnK [s0, s1, s2] (bd_is_between [s0, s1, s2]) := nr (fnM_ap 0 bd_is_between [s0, s1, s2])
def bd_is_list_between : SM := retS (eAnd (un1 (isiP (tyB "list") noK) (nmO 0)) (allE [3] (itE (nmE 0)) (tgN 3) (callV 3 f_is_between [] (aCons (frz (nmE 3)) (aCons (frz (nmE 1)) (aCons (frz (nmE 2)) (aNil)))))))
theorem d_is_list_between (ρ : KL.Env) : bd_is_list_between ρ = (retS (eAnd (un1 (isiP (tyB "list") noK) (nmO 0)) (allE [3] (itE (nmE 0)) (tgN 3) (callV 3 f_is_between [] (aCons (frz (nmE 3)) (aCons (frz (nmE 1)) (aCons (frz (nmE 2)) (aNil)))))))) ρ := nr rfl
def f_is_list_between : M Vl := fnM 1 bd_is_list_between
theorem e_is_list_between (s0 s1 s2 : Sl) : f_is_list_between [s0, s1, s2] = fnK [s0, s1, s2] (bd_is_list_between [s0, s1, s2, .un]) := nr (fnM_ap 1 bd_is_list_between [s0, s1, s2])
def bd_is_within_limits : SM := retS (eAnd (bin leP (frz (callB lenP (aCons (nmO 0) (aNil)))) (frz (cE (.int 60)))) (bin leP (frz (callB sumP (aCons (nmO 0) (aNil)))) (frz (cE (.int 200)))))
theorem d_is_within_limits (ρ : KL.Env) : bd_is_within_limits ρ = (retS (eAnd (bin leP (frz (callB lenP (aCons (nmO 0) (aNil)))) (frz (cE (.int 60)))) (bin leP (frz (callB sumP (aCons (nmO 0) (aNil)))) (frz (cE (.int 200)))))) ρ := nr rfl
def f_is_within_limits : M Vl := fnM 0 bd_is_within_limits
theorem e_is_within_limits (s0 : Sl) : f_is_within_limits [s0] = fnK [s0] (bd_is_within_limits [s0]) := nr (fnM_ap 0 bd_is_within_limits [s0])
def bx_is_valid_lot_0 : SM := ifS (tNotB (tru (frz (un1 (isiP (tyB "tuple") noK) (nmO 0))))) (retS (cE (.bl false))) (nxS)
theorem x_is_valid_lot_0 (ρ : KL.Env) : bx_is_valid_lot_0 ρ = (ifS (tNotB (tru (frz (un1 (isiP (tyB "tuple") noK) (nmO 0))))) (retS (cE (.bl false))) (nxS)) ρ := nr rfl
def bx_is_valid_lot_1 : SM := ifS (tNotB (tru (frz (allE [1] (itE (nmE 0)) (tgN 1) (callV 3 f_is_between [] (aCons (frz (nmE 1)) (aCons (frz (cE (.int 1))) (aCons (frz (cE (.int 200))) (aNil))))))))) (retS (cE (.bl false))) (nxS)
theorem x_is_valid_lot_1 (ρ : KL.Env) : bx_is_valid_lot_1 ρ = (ifS (tNotB (tru (frz (allE [1] (itE (nmE 0)) (tgN 1) (callV 3 f_is_between [] (aCons (frz (nmE 1)) (aCons (frz (cE (.int 1))) (aCons (frz (cE (.int 200))) (aNil))))))))) (retS (cE (.bl false))) (nxS)) ρ := nr rfl
def bx_is_valid_lot_2 : SM := retS (eAnd (bin eqP (frz (callB listP (aCons (nmO 0) (aNil)))) (frz (un1 sortRevP (nmO 0)))) (callV 1 f_is_within_limits [] (aCons (frz (nmE 0)) (aNil))))
theorem x_is_valid_lot_2 (ρ : KL.Env) : bx_is_valid_lot_2 ρ = (retS (eAnd (bin eqP (frz (callB listP (aCons (nmO 0) (aNil)))) (frz (un1 sortRevP (nmO 0)))) (callV 1 f_is_within_limits [] (aCons (frz (nmE 0)) (aNil))))) ρ := nr rfl
def bd_is_valid_lot : SM := seqS (bx_is_valid_lot_0) (seqS (bx_is_valid_lot_1) (bx_is_valid_lot_2))
theorem d_is_valid_lot (ρ : KL.Env) : bd_is_valid_lot ρ = (seqS (bx_is_valid_lot_0) (seqS (bx_is_valid_lot_1) (bx_is_valid_lot_2))) ρ := nr rfl
def f_is_valid_lot : M Vl := fnM 1 bd_is_valid_lot
theorem e_is_valid_lot (s0 : Sl) : f_is_valid_lot [s0] = fnK [s0] (bd_is_valid_lot [s0, .un]) := nr (fnM_ap 1 bd_is_valid_lot [s0])
def bd_check_limits : SM := ifS (tNotB (tru (frz (callV 1 f_is_within_limits [] (aCons (frz (nmE 0)) (aNil)))))) (raise0 "TooLarge") (nxS)
theorem d_check_limits (ρ : KL.Env) : bd_check_limits ρ = (ifS (tNotB (tru (frz (callV 1 f_is_within_limits [] (aCons (frz (nmE 0)) (aNil)))))) (raise0 "TooLarge") (nxS)) ρ := nr rfl
def f_check_limits : M Vl := fnM 0 bd_check_limits
theorem e_check_limits (s0 : Sl) : f_check_limits [s0] = fnK [s0] (bd_check_limits [s0]) := nr (fnM_ap 0 bd_check_limits [s0])
def bd_is_lot : SM := retS (callV 1 f_is_valid_lot [] (aCons (frz (nmE 0)) (aNil)))
theorem d_is_lot (ρ : KL.Env) : bd_is_lot ρ = (retS (callV 1 f_is_valid_lot [] (aCons (frz (nmE 0)) (aNil)))) ρ := nr rfl
def f_is_lot : M Vl := fnM 0 bd_is_lot
theorem e_is_lot (s0 : Sl) : f_is_lot [s0] = fnK [s0] (bd_is_lot [s0]) := nr (fnM_ap 0 bd_is_lot [s0])
def bx_u_lot_of_tools_0 : SM := setS 1 (callB tupleP (aCons (frz (un1 sortRevP (nmO 0))) (aNil)))
theorem x_u_lot_of_tools_0 (ρ : KL.Env) : bx_u_lot_of_tools_0 ρ = (setS 1 (callB tupleP (aCons (frz (un1 sortRevP (nmO 0))) (aNil)))) ρ := nr rfl
def bx_u_lot_of_tools_1 : SM := exS (callV 1 f_check_limits [] (aCons (frz (nmE 1)) (aNil)))
theorem x_u_lot_of_tools_1 (ρ : KL.Env) : bx_u_lot_of_tools_1 ρ = (exS (callV 1 f_check_limits [] (aCons (frz (nmE 1)) (aNil)))) ρ := nr rfl
def bx_u_lot_of_tools_2 : SM := retS (nmM 1)
theorem x_u_lot_of_tools_2 (ρ : KL.Env) : bx_u_lot_of_tools_2 ρ = (retS (nmM 1)) ρ := nr rfl
def bd_u_lot_of_tools : SM := seqS (bx_u_lot_of_tools_0) (seqS (bx_u_lot_of_tools_1) (bx_u_lot_of_tools_2))
theorem d_u_lot_of_tools (ρ : KL.Env) : bd_u_lot_of_tools ρ = (seqS (bx_u_lot_of_tools_0) (seqS (bx_u_lot_of_tools_1) (bx_u_lot_of_tools_2))) ρ := nr rfl
def f_u_lot_of_tools : M Vl := fnM 1 bd_u_lot_of_tools
theorem e_u_lot_of_tools (s0 : Sl) : f_u_lot_of_tools [s0] = fnK [s0] (bd_u_lot_of_tools [s0, .un]) := nr (fnM_ap 1 bd_u_lot_of_tools [s0])
def bx_make_lot_0 : SM := ifS (tNotB (tru (frz (callV 3 f_is_list_between [] (aCons (frz (nmE 0)) (aCons (frz (cE (.int 0))) (aCons (frz (cE (.int 200))) (aNil)))))))) (raise0 "InvalidList") (nxS)
theorem x_make_lot_0 (ρ : KL.Env) : bx_make_lot_0 ρ = (ifS (tNotB (tru (frz (callV 3 f_is_list_between [] (aCons (frz (nmE 0)) (aCons (frz (cE (.int 0))) (aCons (frz (cE (.int 200))) (aNil)))))))) (raise0 "InvalidList") (nxS)) ρ := nr rfl
def bx_make_lot_1 : SM := retS (callV 1 f_u_lot_of_tools [] (aCons (frz (lcE [1] (itE (nmE 0)) (tgN 1) (tst (bin gtP (nmO 1) (frz (cE (.int 0))))) (nmE 1))) (aNil)))
theorem x_make_lot_1 (ρ : KL.Env) : bx_make_lot_1 ρ = (retS (callV 1 f_u_lot_of_tools [] (aCons (frz (lcE [1] (itE (nmE 0)) (tgN 1) (tst (bin gtP (nmO 1) (frz (cE (.int 0))))) (nmE 1))) (aNil)))) ρ := nr rfl
def bd_make_lot : SM := seqS (bx_make_lot_0) (bx_make_lot_1)
theorem d_make_lot (ρ : KL.Env) : bd_make_lot ρ = (seqS (bx_make_lot_0) (bx_make_lot_1)) ρ := nr rfl
def f_make_lot : M Vl := fnM 1 bd_make_lot
theorem e_make_lot (s0 : Sl) : f_make_lot [s0] = fnK [s0] (bd_make_lot [s0, .un]) := nr (fnM_ap 1 bd_make_lot [s0])
def bx_u_law_mixed_0 : SM := setS 2 (bin modP (frz (bin addP (frz (bin addP (frz (bin mulP (frz (bin modP (nmO 0) (frz (cE (.int 2147483647))))) (frz (cE (.int 48271))))) (frz (bin mulP (nmO 1) (frz (cE (.int 69621))))))) (frz (cE (.int 1048583))))) (frz (cE (.int 2147483629))))
theorem x_u_law_mixed_0 (ρ : KL.Env) : bx_u_law_mixed_0 ρ = (setS 2 (bin modP (frz (bin addP (frz (bin addP (frz (bin mulP (frz (bin modP (nmO 0) (frz (cE (.int 2147483647))))) (frz (cE (.int 48271))))) (frz (bin mulP (nmO 1) (frz (cE (.int 69621))))))) (frz (cE (.int 1048583))))) (frz (cE (.int 2147483629))))) ρ := nr rfl
def bx_u_law_mixed_1 : SM := setS 2 (bin modP (frz (bin mulP (nmO 2) (nmO 2))) (frz (cE (.int 2147483587))))
theorem x_u_law_mixed_1 (ρ : KL.Env) : bx_u_law_mixed_1 ρ = (setS 2 (bin modP (frz (bin mulP (nmO 2) (nmO 2))) (frz (cE (.int 2147483587))))) ρ := nr rfl
def bx_u_law_mixed_2 : SM := retS (bin modP (frz (bin mulP (nmO 2) (frz (bin addP (nmO 2) (frz (cE (.int 2))))))) (frz (cE (.int 2147483579))))
theorem x_u_law_mixed_2 (ρ : KL.Env) : bx_u_law_mixed_2 ρ = (retS (bin modP (frz (bin mulP (nmO 2) (frz (bin addP (nmO 2) (frz (cE (.int 2))))))) (frz (cE (.int 2147483579))))) ρ := nr rfl
def bd_u_law_mixed : SM := seqS (bx_u_law_mixed_0) (seqS (bx_u_law_mixed_1) (bx_u_law_mixed_2))
theorem d_u_law_mixed (ρ : KL.Env) : bd_u_law_mixed ρ = (seqS (bx_u_law_mixed_0) (seqS (bx_u_law_mixed_1) (bx_u_law_mixed_2))) ρ := nr rfl
def f_u_law_mixed : M Vl := fnM 1 bd_u_law_mixed
theorem e_u_law_mixed (s0 s1 : Sl) : f_u_law_mixed [s0, s1] = fnK [s0, s1] (bd_u_law_mixed [s0, s1, .un]) := nr (fnM_ap 1 bd_u_law_mixed [s0, s1])
def bx_u_law_cell_0 : SM := setS 2 (cE (.int 0))
theorem x_u_law_cell_0 (ρ : KL.Env) : bx_u_law_cell_0 ρ = (setS 2 (cE (.int 0))) ρ := nr rfl
def bx_u_law_cell_1 : SM := ifS (tst (bin ltP (nmO 1) (frz (callB lenP (aCons (nmO 0) (aNil)))))) (setS 2 (bin ixP (nmO 0) (nmO 1))) (nxS)
theorem x_u_law_cell_1 (ρ : KL.Env) : bx_u_law_cell_1 ρ = (ifS (tst (bin ltP (nmO 1) (frz (callB lenP (aCons (nmO 0) (aNil)))))) (setS 2 (bin ixP (nmO 0) (nmO 1))) (nxS)) ρ := nr rfl
def bx_u_law_cell_2 : SM := ifS (tst (bin geP (nmO 2) (frz (bin powP (frz (cE (.int 10))) (frz (cE (.int 18))))))) (retS (bin modP (frz (bin subP (nmO 2) (frz (bin powP (frz (cE (.int 10))) (frz (cE (.int 18))))))) (frz (bin mulP (frz (bin mulP (frz (bin mulP (frz (bin powP (frz (cE (.int 10))) (frz (cE (.int 60))))) (frz (bin powP (frz (cE (.int 10))) (frz (cE (.int 60))))))) (frz (bin powP (frz (cE (.int 10))) (frz (cE (.int 60))))))) (frz (bin powP (frz (cE (.int 10))) (frz (cE (.int 60))))))))) (nxS)
theorem x_u_law_cell_2 (ρ : KL.Env) : bx_u_law_cell_2 ρ = (ifS (tst (bin geP (nmO 2) (frz (bin powP (frz (cE (.int 10))) (frz (cE (.int 18))))))) (retS (bin modP (frz (bin subP (nmO 2) (frz (bin powP (frz (cE (.int 10))) (frz (cE (.int 18))))))) (frz (bin mulP (frz (bin mulP (frz (bin mulP (frz (bin powP (frz (cE (.int 10))) (frz (cE (.int 60))))) (frz (bin powP (frz (cE (.int 10))) (frz (cE (.int 60))))))) (frz (bin powP (frz (cE (.int 10))) (frz (cE (.int 60))))))) (frz (bin powP (frz (cE (.int 10))) (frz (cE (.int 60))))))))) (nxS)) ρ := nr rfl
def bx_u_law_cell_3 : SM := setS 3 (cE (.int 0))
theorem x_u_law_cell_3 (ρ : KL.Env) : bx_u_law_cell_3 ρ = (setS 3 (cE (.int 0))) ρ := nr rfl
def bx_u_law_cell_5 : SM := setS 3 (bin addP (frz (bin mulP (nmO 3) (frz (cE (.int 2147483579))))) (frz (callV 2 f_u_law_mixed [] (aCons (frz (nmE 2)) (aCons (frz (bin addP (frz (bin addP (frz (bin mulP (frz (cE (.int 7))) (nmO 1))) (frz (bin mulP (frz (cE (.int 100))) (nmO 4))))) (frz (bin mulP (nmO 4) (nmO 4))))) (aNil))))))
theorem x_u_law_cell_5 (ρ : KL.Env) : bx_u_law_cell_5 ρ = (setS 3 (bin addP (frz (bin mulP (nmO 3) (frz (cE (.int 2147483579))))) (frz (callV 2 f_u_law_mixed [] (aCons (frz (nmE 2)) (aCons (frz (bin addP (frz (bin addP (frz (bin mulP (frz (cE (.int 7))) (nmO 1))) (frz (bin mulP (frz (cE (.int 100))) (nmO 4))))) (frz (bin mulP (nmO 4) (nmO 4))))) (aNil))))))) ρ := nr rfl
def bx_u_law_cell_4 : SM := forS (itR1 (aCons (frz (cE (.int 24))) (aNil))) (tgN 4) (bx_u_law_cell_5)
theorem x_u_law_cell_4 (ρ : KL.Env) : bx_u_law_cell_4 ρ = (forS (itR1 (aCons (frz (cE (.int 24))) (aNil))) (tgN 4) (bx_u_law_cell_5)) ρ := nr rfl
def bx_u_law_cell_6 : SM := retS (nmM 3)
theorem x_u_law_cell_6 (ρ : KL.Env) : bx_u_law_cell_6 ρ = (retS (nmM 3)) ρ := nr rfl
def bd_u_law_cell : SM := seqS (bx_u_law_cell_0) (seqS (bx_u_law_cell_1) (seqS (bx_u_law_cell_2) (seqS (bx_u_law_cell_3) (seqS (bx_u_law_cell_4) (bx_u_law_cell_6)))))
theorem d_u_law_cell (ρ : KL.Env) : bd_u_law_cell ρ = (seqS (bx_u_law_cell_0) (seqS (bx_u_law_cell_1) (seqS (bx_u_law_cell_2) (seqS (bx_u_law_cell_3) (seqS (bx_u_law_cell_4) (bx_u_law_cell_6)))))) ρ := nr rfl
def f_u_law_cell : M Vl := fnM 3 bd_u_law_cell
theorem e_u_law_cell (s0 s1 : Sl) : f_u_law_cell [s0, s1] = fnK [s0, s1] (bd_u_law_cell [s0, s1, .un, .un, .un]) := nr (fnM_ap 3 bd_u_law_cell [s0, s1])
def bx_u_law_take_0 : SM := setS 2 (bin modP (frz (bin ixP (nmO 0) (frz (cE (.int 0))))) (nmO 1))
theorem x_u_law_take_0 (ρ : KL.Env) : bx_u_law_take_0 ρ = (setS 2 (bin modP (frz (bin ixP (nmO 0) (frz (cE (.int 0))))) (nmO 1))) ρ := nr rfl
def bx_u_law_take_1 : SM := setIx 0 (bin divP (frz (bin ixP (nmO 0) (frz (cE (.int 0))))) (nmO 1)) (frz (cE (.int 0)))
theorem x_u_law_take_1 (ρ : KL.Env) : bx_u_law_take_1 ρ = (setIx 0 (bin divP (frz (bin ixP (nmO 0) (frz (cE (.int 0))))) (nmO 1)) (frz (cE (.int 0)))) ρ := nr rfl
def bx_u_law_take_2 : SM := retS (nmM 2)
theorem x_u_law_take_2 (ρ : KL.Env) : bx_u_law_take_2 ρ = (retS (nmM 2)) ρ := nr rfl
def bd_u_law_take : SM := seqS (bx_u_law_take_0) (seqS (bx_u_law_take_1) (bx_u_law_take_2))
theorem d_u_law_take (ρ : KL.Env) : bd_u_law_take ρ = (seqS (bx_u_law_take_0) (seqS (bx_u_law_take_1) (bx_u_law_take_2))) ρ := nr rfl
def f_u_law_take : M Vl := fnM 1 bd_u_law_take
theorem e_u_law_take (s0 s1 : Sl) : f_u_law_take [s0, s1] = fnK [s0, s1] (bd_u_law_take [s0, s1, .un]) := nr (fnM_ap 1 bd_u_law_take [s0, s1])
def bx_u_law_lot_0 : SM := setS 3 (un1 revP (frz (callB sortP (aCons (frz (lcE [4] (itR1 (aCons (frz (callI 2 f_u_law_take [] (aCons (nmO 0) (aCons (frz (bin addP (nmO 1) (frz (cE (.int 1))))) (aNil))))) (aNil))) (tgN 4) (yesB) (bin addP (frz (cE (.int 1))) (frz (callI 2 f_u_law_take [] (aCons (nmO 0) (aCons (frz (nmE 2)) (aNil)))))))) (aNil)))))
theorem x_u_law_lot_0 (ρ : KL.Env) : bx_u_law_lot_0 ρ = (setS 3 (un1 revP (frz (callB sortP (aCons (frz (lcE [4] (itR1 (aCons (frz (callI 2 f_u_law_take [] (aCons (nmO 0) (aCons (frz (bin addP (nmO 1) (frz (cE (.int 1))))) (aNil))))) (aNil))) (tgN 4) (yesB) (bin addP (frz (cE (.int 1))) (frz (callI 2 f_u_law_take [] (aCons (nmO 0) (aCons (frz (nmE 2)) (aNil)))))))) (aNil)))))) ρ := nr rfl
def bx_u_law_lot_2 : SM := exS (mtd 3 gPopAt (aCons (frz (cE (.int 0))) (aNil)))
theorem x_u_law_lot_2 (ρ : KL.Env) : bx_u_law_lot_2 ρ = (exS (mtd 3 gPopAt (aCons (frz (cE (.int 0))) (aNil)))) ρ := nr rfl
def bx_u_law_lot_1 : SM := whS (tst (bin gtP (frz (callB sumP (aCons (nmO 3) (aNil)))) (frz (cE (.int 200))))) (bx_u_law_lot_2) 1000
theorem x_u_law_lot_1 (ρ : KL.Env) : bx_u_law_lot_1 ρ = (whS (tst (bin gtP (frz (callB sumP (aCons (nmO 3) (aNil)))) (frz (cE (.int 200))))) (bx_u_law_lot_2) 1000) ρ := nr rfl
def bx_u_law_lot_3 : SM := retS (callB tupleP (aCons (nmO 3) (aNil)))
theorem x_u_law_lot_3 (ρ : KL.Env) : bx_u_law_lot_3 ρ = (retS (callB tupleP (aCons (nmO 3) (aNil)))) ρ := nr rfl
def bd_u_law_lot : SM := seqS (bx_u_law_lot_0) (seqS (bx_u_law_lot_1) (bx_u_law_lot_3))
theorem d_u_law_lot (ρ : KL.Env) : bd_u_law_lot ρ = (seqS (bx_u_law_lot_0) (seqS (bx_u_law_lot_1) (bx_u_law_lot_3))) ρ := nr rfl
def f_u_law_lot : M Vl := fnM 2 bd_u_law_lot
theorem e_u_law_lot (s0 s1 s2 : Sl) : f_u_law_lot [s0, s1, s2] = fnK [s0, s1, s2] (bd_u_law_lot [s0, s1, s2, .un, .un]) := nr (fnM_ap 2 bd_u_law_lot [s0, s1, s2])
def bd_check_lot : SM := ifS (tNotB (tru (frz (callV 1 f_is_valid_lot [] (aCons (frz (nmE 0)) (aNil)))))) (raise0 "InvalidLot") (nxS)
theorem d_check_lot (ρ : KL.Env) : bd_check_lot ρ = (ifS (tNotB (tru (frz (callV 1 f_is_valid_lot [] (aCons (frz (nmE 0)) (aNil)))))) (raise0 "InvalidLot") (nxS)) ρ := nr rfl
def f_check_lot : M Vl := fnM 0 bd_check_lot
theorem e_check_lot (s0 : Sl) : f_check_lot [s0] = fnK [s0] (bd_check_lot [s0]) := nr (fnM_ap 0 bd_check_lot [s0])
def bd_check_positive : SM := ifS (tNotB (tru (frz (callV 3 f_is_between [] (aCons (frz (nmE 0)) (aCons (frz (cE (.int 1))) (aCons (frz (cE (.int 200))) (aNil)))))))) (raise0 "InvalidNumber") (nxS)
theorem d_check_positive (ρ : KL.Env) : bd_check_positive ρ = (ifS (tNotB (tru (frz (callV 3 f_is_between [] (aCons (frz (nmE 0)) (aCons (frz (cE (.int 1))) (aCons (frz (cE (.int 200))) (aNil)))))))) (raise0 "InvalidNumber") (nxS)) ρ := nr rfl
def f_check_positive : M Vl := fnM 0 bd_check_positive
theorem e_check_positive (s0 : Sl) : f_check_positive [s0] = fnK [s0] (bd_check_positive [s0]) := nr (fnM_ap 0 bd_check_positive [s0])
def bd_check_count : SM := ifS (tNotB (tru (frz (callV 3 f_is_between [] (aCons (frz (nmE 0)) (aCons (frz (cE (.int 0))) (aCons (frz (cE (.int 200))) (aNil)))))))) (raise0 "InvalidNumber") (nxS)
theorem d_check_count (ρ : KL.Env) : bd_check_count ρ = (ifS (tNotB (tru (frz (callV 3 f_is_between [] (aCons (frz (nmE 0)) (aCons (frz (cE (.int 0))) (aCons (frz (cE (.int 200))) (aNil)))))))) (raise0 "InvalidNumber") (nxS)) ρ := nr rfl
def f_check_count : M Vl := fnM 0 bd_check_count
theorem e_check_count (s0 : Sl) : f_check_count [s0] = fnK [s0] (bd_check_count [s0]) := nr (fnM_ap 0 bd_check_count [s0])
def bd_capacity_of : SM := retS (callB sumP (aCons (frz (lcE [2] (itE (nmE 0)) (tgN 2) (tst (bin geP (nmO 2) (nmO 1))) (bin addP (frz (bin subP (nmO 2) (nmO 1))) (frz (cE (.int 1)))))) (aNil)))
theorem d_capacity_of (ρ : KL.Env) : bd_capacity_of ρ = (retS (callB sumP (aCons (frz (lcE [2] (itE (nmE 0)) (tgN 2) (tst (bin geP (nmO 2) (nmO 1))) (bin addP (frz (bin subP (nmO 2) (nmO 1))) (frz (cE (.int 1)))))) (aNil)))) ρ := nr rfl
def f_capacity_of : M Vl := fnM 1 bd_capacity_of
theorem e_capacity_of (s0 s1 : Sl) : f_capacity_of [s0, s1] = fnK [s0, s1] (bd_capacity_of [s0, s1, .un]) := nr (fnM_ap 1 bd_capacity_of [s0, s1])
def bx_u_law_kinds_0 : SM := setS 1 (mkL (aCons (frz (un1 (isiP tyF (subO "InvalidLot")) (nmO 0))) (aCons (frz (un1 (isiP tyF (subO "InvalidRow")) (nmO 0))) (aCons (frz (un1 (isiP tyF (subO "InvalidNumber")) (nmO 0))) (aNil)))))
theorem x_u_law_kinds_0 (ρ : KL.Env) : bx_u_law_kinds_0 ρ = (setS 1 (mkL (aCons (frz (un1 (isiP tyF (subO "InvalidLot")) (nmO 0))) (aCons (frz (un1 (isiP tyF (subO "InvalidRow")) (nmO 0))) (aCons (frz (un1 (isiP tyF (subO "InvalidNumber")) (nmO 0))) (aNil)))))) ρ := nr rfl
def bx_u_law_kinds_1 : SM := setS 1 (bin addP (nmO 1) (frz (mkL (aCons (frz (un1 (isiP tyF (subO "InvalidOption")) (nmO 0))) (aCons (frz (un1 (isiP tyF (subO "InvalidList")) (nmO 0))) (aNil))))))
theorem x_u_law_kinds_1 (ρ : KL.Env) : bx_u_law_kinds_1 ρ = (setS 1 (bin addP (nmO 1) (frz (mkL (aCons (frz (un1 (isiP tyF (subO "InvalidOption")) (nmO 0))) (aCons (frz (un1 (isiP tyF (subO "InvalidList")) (nmO 0))) (aNil))))))) ρ := nr rfl
def bx_u_law_kinds_2 : SM := exS (mtd 1 gAppend (aCons (frz (un1 (isiP tyF (subO "InvalidPicks")) (nmO 0))) (aNil)))
theorem x_u_law_kinds_2 (ρ : KL.Env) : bx_u_law_kinds_2 ρ = (exS (mtd 1 gAppend (aCons (frz (un1 (isiP tyF (subO "InvalidPicks")) (nmO 0))) (aNil)))) ρ := nr rfl
def bx_u_law_kinds_3 : SM := setS 1 (bin addP (nmO 1) (frz (mkL (aCons (frz (un1 (isiP tyF (subO "MissingTool")) (nmO 0))) (aCons (frz (un1 (isiP tyF (subO "CannotDo")) (nmO 0))) (aCons (frz (un1 (isiP tyF (subO "Impossible")) (nmO 0))) (aNil)))))))
theorem x_u_law_kinds_3 (ρ : KL.Env) : bx_u_law_kinds_3 ρ = (setS 1 (bin addP (nmO 1) (frz (mkL (aCons (frz (un1 (isiP tyF (subO "MissingTool")) (nmO 0))) (aCons (frz (un1 (isiP tyF (subO "CannotDo")) (nmO 0))) (aCons (frz (un1 (isiP tyF (subO "Impossible")) (nmO 0))) (aNil)))))))) ρ := nr rfl
def bx_u_law_kinds_4 : SM := retS (bin addP (nmO 1) (frz (mkL (aCons (frz (un1 (isiP tyF (subO "TooSharp")) (nmO 0))) (aCons (frz (un1 (isiP tyF (subO "TooLarge")) (nmO 0))) (aNil))))))
theorem x_u_law_kinds_4 (ρ : KL.Env) : bx_u_law_kinds_4 ρ = (retS (bin addP (nmO 1) (frz (mkL (aCons (frz (un1 (isiP tyF (subO "TooSharp")) (nmO 0))) (aCons (frz (un1 (isiP tyF (subO "TooLarge")) (nmO 0))) (aNil))))))) ρ := nr rfl
def bd_u_law_kinds : SM := seqS (bx_u_law_kinds_0) (seqS (bx_u_law_kinds_1) (seqS (bx_u_law_kinds_2) (seqS (bx_u_law_kinds_3) (bx_u_law_kinds_4))))
theorem d_u_law_kinds (ρ : KL.Env) : bd_u_law_kinds ρ = (seqS (bx_u_law_kinds_0) (seqS (bx_u_law_kinds_1) (seqS (bx_u_law_kinds_2) (seqS (bx_u_law_kinds_3) (bx_u_law_kinds_4))))) ρ := nr rfl
def f_u_law_kinds : M Vl := fnM 1 bd_u_law_kinds
theorem e_u_law_kinds (s0 : Sl) : f_u_law_kinds [s0] = fnK [s0] (bd_u_law_kinds [s0, .un]) := nr (fnM_ap 1 bd_u_law_kinds [s0])
def bx_u_law_only_0 : SM := setS 2 (mkL (aCons (frz (cE (.str "lot"))) (aCons (frz (cE (.str "row"))) (aCons (frz (cE (.str "number"))) (aCons (frz (cE (.str "option"))) (aCons (frz (cE (.str "list"))) (aCons (frz (cE (.str "picks"))) (aCons (frz (cE (.str "missing"))) (aCons (frz (cE (.str "cannot"))) (aCons (frz (cE (.str "impossible"))) (aCons (frz (cE (.str "sharp"))) (aCons (frz (cE (.str "large"))) (aNil)))))))))))))
theorem x_u_law_only_0 (ρ : KL.Env) : bx_u_law_only_0 ρ = (setS 2 (mkL (aCons (frz (cE (.str "lot"))) (aCons (frz (cE (.str "row"))) (aCons (frz (cE (.str "number"))) (aCons (frz (cE (.str "option"))) (aCons (frz (cE (.str "list"))) (aCons (frz (cE (.str "picks"))) (aCons (frz (cE (.str "missing"))) (aCons (frz (cE (.str "cannot"))) (aCons (frz (cE (.str "impossible"))) (aCons (frz (cE (.str "sharp"))) (aCons (frz (cE (.str "large"))) (aNil)))))))))))))) ρ := nr rfl
def bx_u_law_only_1 : SM := ifS (tOrB (tNotB (tru (frz (un1 (isiP tyF (subO "KeenError")) (nmO 0))))) (tNotB (tru (frz (un1 (isiP tyF subV) (nmO 0)))))) (retS (cE (.bl false))) (nxS)
theorem x_u_law_only_1 (ρ : KL.Env) : bx_u_law_only_1 ρ = (ifS (tOrB (tNotB (tru (frz (un1 (isiP tyF (subO "KeenError")) (nmO 0))))) (tNotB (tru (frz (un1 (isiP tyF subV) (nmO 0)))))) (retS (cE (.bl false))) (nxS)) ρ := nr rfl
def bx_u_law_only_2 : SM := retS (bin eqP (frz (callV 1 f_u_law_kinds [] (aCons (frz (nmE 0)) (aNil)))) (frz (lcE [3] (itE (nmE 2)) (tgN 3) (yesB) (bin eqP (nmO 3) (nmO 1)))))
theorem x_u_law_only_2 (ρ : KL.Env) : bx_u_law_only_2 ρ = (retS (bin eqP (frz (callV 1 f_u_law_kinds [] (aCons (frz (nmE 0)) (aNil)))) (frz (lcE [3] (itE (nmE 2)) (tgN 3) (yesB) (bin eqP (nmO 3) (nmO 1)))))) ρ := nr rfl
def bd_u_law_only : SM := seqS (bx_u_law_only_0) (seqS (bx_u_law_only_1) (bx_u_law_only_2))
theorem d_u_law_only (ρ : KL.Env) : bd_u_law_only ρ = (seqS (bx_u_law_only_0) (seqS (bx_u_law_only_1) (bx_u_law_only_2))) ρ := nr rfl
def f_u_law_only : M Vl := fnM 2 bd_u_law_only
theorem e_u_law_only (s0 s1 : Sl) : f_u_law_only [s0, s1] = fnK [s0, s1] (bd_u_law_only [s0, s1, .un, .un]) := nr (fnM_ap 2 bd_u_law_only [s0, s1])
def bx_u_suitable_0 : SM := setS 2 (mkL (aNil))
theorem x_u_suitable_0 (ρ : KL.Env) : bx_u_suitable_0 ρ = (setS 2 (mkL (aNil))) ρ := nr rfl
def bx_u_suitable_2 : SM := ifS (tAndB (tst (bin geP (nmO 3) (nmO 1))) (tst (bin notInP (nmO 3) (nmO 2)))) (exS (mtd 2 gAppend (aCons (frz (nmE 3)) (aNil)))) (nxS)
theorem x_u_suitable_2 (ρ : KL.Env) : bx_u_suitable_2 ρ = (ifS (tAndB (tst (bin geP (nmO 3) (nmO 1))) (tst (bin notInP (nmO 3) (nmO 2)))) (exS (mtd 2 gAppend (aCons (frz (nmE 3)) (aNil)))) (nxS)) ρ := nr rfl
def bx_u_suitable_1 : SM := forS (itE (nmE 0)) (tgN 3) (bx_u_suitable_2)
theorem x_u_suitable_1 (ρ : KL.Env) : bx_u_suitable_1 ρ = (forS (itE (nmE 0)) (tgN 3) (bx_u_suitable_2)) ρ := nr rfl
def bx_u_suitable_3 : SM := retS (nmM 2)
theorem x_u_suitable_3 (ρ : KL.Env) : bx_u_suitable_3 ρ = (retS (nmM 2)) ρ := nr rfl
def bd_u_suitable : SM := seqS (bx_u_suitable_0) (seqS (bx_u_suitable_1) (bx_u_suitable_3))
theorem d_u_suitable (ρ : KL.Env) : bd_u_suitable ρ = (seqS (bx_u_suitable_0) (seqS (bx_u_suitable_1) (bx_u_suitable_3))) ρ := nr rfl
def f_u_suitable : M Vl := fnM 2 bd_u_suitable
theorem e_u_suitable (s0 s1 : Sl) : f_u_suitable [s0, s1] = fnK [s0, s1] (bd_u_suitable [s0, s1, .un, .un]) := nr (fnM_ap 2 bd_u_suitable [s0, s1])
def bx_choices_0 : SM := exS (callV 1 f_check_lot [] (aCons (frz (nmE 0)) (aNil)))
theorem x_choices_0 (ρ : KL.Env) : bx_choices_0 ρ = (exS (callV 1 f_check_lot [] (aCons (frz (nmE 0)) (aNil)))) ρ := nr rfl
def bx_choices_1 : SM := exS (callV 1 f_check_positive [] (aCons (frz (nmE 1)) (aNil)))
theorem x_choices_1 (ρ : KL.Env) : bx_choices_1 ρ = (exS (callV 1 f_check_positive [] (aCons (frz (nmE 1)) (aNil)))) ρ := nr rfl
def bx_choices_2 : SM := retS (callV 2 f_u_suitable [] (aCons (frz (nmE 0)) (aCons (frz (nmE 1)) (aNil))))
theorem x_choices_2 (ρ : KL.Env) : bx_choices_2 ρ = (retS (callV 2 f_u_suitable [] (aCons (frz (nmE 0)) (aCons (frz (nmE 1)) (aNil))))) ρ := nr rfl
def bd_choices : SM := seqS (bx_choices_0) (seqS (bx_choices_1) (bx_choices_2))
theorem d_choices (ρ : KL.Env) : bd_choices ρ = (seqS (bx_choices_0) (seqS (bx_choices_1) (bx_choices_2))) ρ := nr rfl
def f_choices : M Vl := fnM 0 bd_choices
theorem e_choices (s0 s1 : Sl) : f_choices [s0, s1] = fnK [s0, s1] (bd_choices [s0, s1]) := nr (fnM_ap 0 bd_choices [s0, s1])
def bx_u_check_can_use_0 : SM := ifS (tst (bin notInP (nmO 1) (nmO 0))) (raiseN "MissingTool" ["tool"] (List.replicate 0 .non) (aCons (frz (nmE 1)) (aNil))) (nxS)
theorem x_u_check_can_use_0 (ρ : KL.Env) : bx_u_check_can_use_0 ρ = (ifS (tst (bin notInP (nmO 1) (nmO 0))) (raiseN "MissingTool" ["tool"] (List.replicate 0 .non) (aCons (frz (nmE 1)) (aNil))) (nxS)) ρ := nr rfl
def bx_u_check_can_use_1 : SM := ifS (tst (bin ltP (nmO 1) (nmO 2))) (raiseN "CannotDo" ["index", "lot", "day"] (List.replicate 1 .non) (aCons (frz (cE (.int 0))) (aCons (frz (nmE 0)) (aNil)))) (nxS)
theorem x_u_check_can_use_1 (ρ : KL.Env) : bx_u_check_can_use_1 ρ = (ifS (tst (bin ltP (nmO 1) (nmO 2))) (raiseN "CannotDo" ["index", "lot", "day"] (List.replicate 1 .non) (aCons (frz (cE (.int 0))) (aCons (frz (nmE 0)) (aNil)))) (nxS)) ρ := nr rfl
def bd_u_check_can_use : SM := seqS (bx_u_check_can_use_0) (bx_u_check_can_use_1)
theorem d_u_check_can_use (ρ : KL.Env) : bd_u_check_can_use ρ = (seqS (bx_u_check_can_use_0) (bx_u_check_can_use_1)) ρ := nr rfl
def f_u_check_can_use : M Vl := fnM 0 bd_u_check_can_use
theorem e_u_check_can_use (s0 s1 s2 : Sl) : f_u_check_can_use [s0, s1, s2] = fnK [s0, s1, s2] (bd_u_check_can_use [s0, s1, s2]) := nr (fnM_ap 0 bd_u_check_can_use [s0, s1, s2])
def bx_u_worn_0 : SM := setS 2 (bin subP (frz (bin addP (frz (mex idxP (nmO 0) (aCons (nmO 1) (aNil)))) (frz (mex cntP (nmO 0) (aCons (nmO 1) (aNil)))))) (frz (cE (.int 1))))
theorem x_u_worn_0 (ρ : KL.Env) : bx_u_worn_0 ρ = (setS 2 (bin subP (frz (bin addP (frz (mex idxP (nmO 0) (aCons (nmO 1) (aNil)))) (frz (mex cntP (nmO 0) (aCons (nmO 1) (aNil)))))) (frz (cE (.int 1))))) ρ := nr rfl
def bx_u_worn_1 : SM := setS 3 (eIf (tst (bin gtP (nmO 1) (frz (cE (.int 1))))) (mkT (aCons (frz (bin subP (nmO 1) (frz (cE (.int 1))))) (aNil))) (mkT (aNil)))
theorem x_u_worn_1 (ρ : KL.Env) : bx_u_worn_1 ρ = (setS 3 (eIf (tst (bin gtP (nmO 1) (frz (cE (.int 1))))) (mkT (aCons (frz (bin subP (nmO 1) (frz (cE (.int 1))))) (aNil))) (mkT (aNil)))) ρ := nr rfl
def bx_u_worn_2 : SM := retS (bin addP (frz (bin addP (frz (slE (nmO 0) (ptN) (ptS (nmO 2)))) (nmO 3))) (frz (slE (nmO 0) (ptS (frz (bin addP (nmO 2) (frz (cE (.int 1)))))) (ptN))))
theorem x_u_worn_2 (ρ : KL.Env) : bx_u_worn_2 ρ = (retS (bin addP (frz (bin addP (frz (slE (nmO 0) (ptN) (ptS (nmO 2)))) (nmO 3))) (frz (slE (nmO 0) (ptS (frz (bin addP (nmO 2) (frz (cE (.int 1)))))) (ptN))))) ρ := nr rfl
def bd_u_worn : SM := seqS (bx_u_worn_0) (seqS (bx_u_worn_1) (bx_u_worn_2))
theorem d_u_worn (ρ : KL.Env) : bd_u_worn ρ = (seqS (bx_u_worn_0) (seqS (bx_u_worn_1) (bx_u_worn_2))) ρ := nr rfl
def f_u_worn : M Vl := fnM 2 bd_u_worn
theorem e_u_worn (s0 s1 : Sl) : f_u_worn [s0, s1] = fnK [s0, s1] (bd_u_worn [s0, s1, .un, .un]) := nr (fnM_ap 2 bd_u_worn [s0, s1])
def bx_use_0 : SM := exS (callV 1 f_check_lot [] (aCons (frz (nmE 0)) (aNil)))
theorem x_use_0 (ρ : KL.Env) : bx_use_0 ρ = (exS (callV 1 f_check_lot [] (aCons (frz (nmE 0)) (aNil)))) ρ := nr rfl
def bx_use_1 : SM := exS (callV 1 f_check_positive [] (aCons (frz (nmE 1)) (aNil)))
theorem x_use_1 (ρ : KL.Env) : bx_use_1 ρ = (exS (callV 1 f_check_positive [] (aCons (frz (nmE 1)) (aNil)))) ρ := nr rfl
def bx_use_2 : SM := exS (callV 1 f_check_positive [] (aCons (frz (nmE 2)) (aNil)))
theorem x_use_2 (ρ : KL.Env) : bx_use_2 ρ = (exS (callV 1 f_check_positive [] (aCons (frz (nmE 2)) (aNil)))) ρ := nr rfl
def bx_use_3 : SM := exS (callV 3 f_u_check_can_use [] (aCons (frz (nmE 0)) (aCons (frz (nmE 1)) (aCons (frz (nmE 2)) (aNil)))))
theorem x_use_3 (ρ : KL.Env) : bx_use_3 ρ = (exS (callV 3 f_u_check_can_use [] (aCons (frz (nmE 0)) (aCons (frz (nmE 1)) (aCons (frz (nmE 2)) (aNil)))))) ρ := nr rfl
def bx_use_4 : SM := retS (callV 2 f_u_worn [] (aCons (frz (nmE 0)) (aCons (frz (nmE 1)) (aNil))))
theorem x_use_4 (ρ : KL.Env) : bx_use_4 ρ = (retS (callV 2 f_u_worn [] (aCons (frz (nmE 0)) (aCons (frz (nmE 1)) (aNil))))) ρ := nr rfl
def bd_use : SM := seqS (bx_use_0) (seqS (bx_use_1) (seqS (bx_use_2) (seqS (bx_use_3) (bx_use_4))))
theorem d_use (ρ : KL.Env) : bd_use ρ = (seqS (bx_use_0) (seqS (bx_use_1) (seqS (bx_use_2) (seqS (bx_use_3) (bx_use_4))))) ρ := nr rfl
def f_use : M Vl := fnM 0 bd_use
theorem e_use (s0 s1 s2 : Sl) : f_use [s0, s1, s2] = fnK [s0, s1, s2] (bd_use [s0, s1, s2]) := nr (fnM_ap 0 bd_use [s0, s1, s2])
def bx_u_law_after_0 : SM := setS 2 (callB listP (aCons (nmO 0) (aNil)))
theorem x_u_law_after_0 (ρ : KL.Env) : bx_u_law_after_0 ρ = (setS 2 (callB listP (aCons (nmO 0) (aNil)))) ρ := nr rfl
def bx_u_law_after_1 : SM := exS (mtd 2 gRemove (aCons (frz (nmE 1)) (aNil)))
theorem x_u_law_after_1 (ρ : KL.Env) : bx_u_law_after_1 ρ = (exS (mtd 2 gRemove (aCons (frz (nmE 1)) (aNil)))) ρ := nr rfl
def bx_u_law_after_2 : SM := retS (callB tupleP (aCons (frz (un1 revP (frz (callB sortP (aCons (frz (lcE [3] (itE (bin addP (nmO 2) (frz (mkL (aCons (frz (bin subP (nmO 1) (frz (cE (.int 1))))) (aNil)))))) (tgN 3) (tst (bin gtP (nmO 3) (frz (cE (.int 0))))) (nmE 3))) (aNil)))))) (aNil)))
theorem x_u_law_after_2 (ρ : KL.Env) : bx_u_law_after_2 ρ = (retS (callB tupleP (aCons (frz (un1 revP (frz (callB sortP (aCons (frz (lcE [3] (itE (bin addP (nmO 2) (frz (mkL (aCons (frz (bin subP (nmO 1) (frz (cE (.int 1))))) (aNil)))))) (tgN 3) (tst (bin gtP (nmO 3) (frz (cE (.int 0))))) (nmE 3))) (aNil)))))) (aNil)))) ρ := nr rfl
def bd_u_law_after : SM := seqS (bx_u_law_after_0) (seqS (bx_u_law_after_1) (bx_u_law_after_2))
theorem d_u_law_after (ρ : KL.Env) : bd_u_law_after ρ = (seqS (bx_u_law_after_0) (seqS (bx_u_law_after_1) (bx_u_law_after_2))) ρ := nr rfl
def f_u_law_after : M Vl := fnM 2 bd_u_law_after
theorem e_u_law_after (s0 s1 : Sl) : f_u_law_after [s0, s1] = fnK [s0, s1] (bd_u_law_after [s0, s1, .un, .un]) := nr (fnM_ap 2 bd_u_law_after [s0, s1])
def bd_is_valid_row : SM := retS (eAnd (callV 3 f_is_list_between [] (aCons (frz (nmE 0)) (aCons (frz (cE (.int 1))) (aCons (frz (cE (.int 200))) (aNil))))) (bin leP (frz (callB lenP (aCons (nmO 0) (aNil)))) (frz (cE (.int 200)))))
theorem d_is_valid_row (ρ : KL.Env) : bd_is_valid_row ρ = (retS (eAnd (callV 3 f_is_list_between [] (aCons (frz (nmE 0)) (aCons (frz (cE (.int 1))) (aCons (frz (cE (.int 200))) (aNil))))) (bin leP (frz (callB lenP (aCons (nmO 0) (aNil)))) (frz (cE (.int 200)))))) ρ := nr rfl
def f_is_valid_row : M Vl := fnM 0 bd_is_valid_row
theorem e_is_valid_row (s0 : Sl) : f_is_valid_row [s0] = fnK [s0] (bd_is_valid_row [s0]) := nr (fnM_ap 0 bd_is_valid_row [s0])
def bd_check_row : SM := ifS (tNotB (tru (frz (callV 1 f_is_valid_row [] (aCons (frz (nmE 0)) (aNil)))))) (raise0 "InvalidRow") (nxS)
theorem d_check_row (ρ : KL.Env) : bd_check_row ρ = (ifS (tNotB (tru (frz (callV 1 f_is_valid_row [] (aCons (frz (nmE 0)) (aNil)))))) (raise0 "InvalidRow") (nxS)) ρ := nr rfl
def f_check_row : M Vl := fnM 0 bd_check_row
theorem e_check_row (s0 : Sl) : f_check_row [s0] = fnK [s0] (bd_check_row [s0]) := nr (fnM_ap 0 bd_check_row [s0])
def bd_u_law_row : SM := retS (lcE [3] (itR1 (aCons (frz (callI 2 f_u_law_take [] (aCons (nmO 0) (aCons (frz (bin addP (nmO 1) (frz (cE (.int 1))))) (aNil))))) (aNil))) (tgN 3) (yesB) (bin addP (frz (cE (.int 1))) (frz (callI 2 f_u_law_take [] (aCons (nmO 0) (aCons (frz (nmE 2)) (aNil)))))))
theorem d_u_law_row (ρ : KL.Env) : bd_u_law_row ρ = (retS (lcE [3] (itR1 (aCons (frz (callI 2 f_u_law_take [] (aCons (nmO 0) (aCons (frz (bin addP (nmO 1) (frz (cE (.int 1))))) (aNil))))) (aNil))) (tgN 3) (yesB) (bin addP (frz (cE (.int 1))) (frz (callI 2 f_u_law_take [] (aCons (nmO 0) (aCons (frz (nmE 2)) (aNil)))))))) ρ := nr rfl
def f_u_law_row : M Vl := fnM 1 bd_u_law_row
theorem e_u_law_row (s0 s1 s2 : Sl) : f_u_law_row [s0, s1, s2] = fnK [s0, s1, s2] (bd_u_law_row [s0, s1, s2, .un]) := nr (fnM_ap 1 bd_u_law_row [s0, s1, s2])
def bd_u_check_rule : SM := ifS (tst (bin notInP (nmO 0) (frz (cE (strT ["dullest", "sharpest"]))))) (raise0 "InvalidOption") (nxS)
theorem d_u_check_rule (ρ : KL.Env) : bd_u_check_rule ρ = (ifS (tst (bin notInP (nmO 0) (frz (cE (strT ["dullest", "sharpest"]))))) (raise0 "InvalidOption") (nxS)) ρ := nr rfl
def f_u_check_rule : M Vl := fnM 0 bd_u_check_rule
theorem e_u_check_rule (s0 : Sl) : f_u_check_rule [s0] = fnK [s0] (bd_u_check_rule [s0]) := nr (fnM_ap 0 bd_u_check_rule [s0])
def bx_perform_0 : SM := setS 4 (mkL (aNil))
theorem x_perform_0 (ρ : KL.Env) : bx_perform_0 ρ = (setS 4 (mkL (aNil))) ρ := nr rfl
def bx_perform_1 : SM := setS 5 (nmE 0)
theorem x_perform_1 (ρ : KL.Env) : bx_perform_1 ρ = (setS 5 (nmE 0)) ρ := nr rfl
def bx_perform_3 : SM := setS 8 (callV 2 f_u_suitable [] (aCons (frz (nmE 5)) (aCons (frz (nmE 7)) (aNil))))
theorem x_perform_3 (ρ : KL.Env) : bx_perform_3 ρ = (setS 8 (callV 2 f_u_suitable [] (aCons (frz (nmE 5)) (aCons (frz (nmE 7)) (aNil))))) ρ := nr rfl
def bx_perform_5 : SM := setS 9 (eIf (tst (bin eqP (nmO 2) (frz (cE (.str "sharpest"))))) (bin ixP (nmO 8) (frz (cE (.int 0)))) (bin ixP (nmO 8) (frz (un1 negP (frz (cE (.int 1)))))))
theorem x_perform_5 (ρ : KL.Env) : bx_perform_5 ρ = (setS 9 (eIf (tst (bin eqP (nmO 2) (frz (cE (.str "sharpest"))))) (bin ixP (nmO 8) (frz (cE (.int 0)))) (bin ixP (nmO 8) (frz (un1 negP (frz (cE (.int 1)))))))) ρ := nr rfl
def bx_perform_6 : SM := exS (mtd 4 gAppend (aCons (frz (nmE 9)) (aNil)))
theorem x_perform_6 (ρ : KL.Env) : bx_perform_6 ρ = (exS (mtd 4 gAppend (aCons (frz (nmE 9)) (aNil)))) ρ := nr rfl
def bx_perform_7 : SM := setS 5 (callV 2 f_u_worn [] (aCons (frz (nmE 5)) (aCons (frz (nmE 9)) (aNil))))
theorem x_perform_7 (ρ : KL.Env) : bx_perform_7 ρ = (setS 5 (callV 2 f_u_worn [] (aCons (frz (nmE 5)) (aCons (frz (nmE 9)) (aNil))))) ρ := nr rfl
def bx_perform_4 : SM := ifS (tru (nmO 8)) (seqS (bx_perform_5) (seqS (bx_perform_6) (bx_perform_7))) (ifS (tru (nmO 3)) (exS (mtd 4 gAppend (aCons (frz (cE (.int 0))) (aNil)))) (raiseN "CannotDo" ["index", "lot", "day"] (List.replicate 1 .non) (aCons (frz (nmE 6)) (aCons (frz (nmE 5)) (aNil)))))
theorem x_perform_4 (ρ : KL.Env) : bx_perform_4 ρ = (ifS (tru (nmO 8)) (seqS (bx_perform_5) (seqS (bx_perform_6) (bx_perform_7))) (ifS (tru (nmO 3)) (exS (mtd 4 gAppend (aCons (frz (cE (.int 0))) (aNil)))) (raiseN "CannotDo" ["index", "lot", "day"] (List.replicate 1 .non) (aCons (frz (nmE 6)) (aCons (frz (nmE 5)) (aNil)))))) ρ := nr rfl
def bx_perform_2 : SM := forS (itEn (aCons (frz (nmE 1)) (aNil))) (tgT [6, 7]) (seqS (bx_perform_3) (bx_perform_4))
theorem x_perform_2 (ρ : KL.Env) : bx_perform_2 ρ = (forS (itEn (aCons (frz (nmE 1)) (aNil))) (tgT [6, 7]) (seqS (bx_perform_3) (bx_perform_4))) ρ := nr rfl
def bx_perform_8 : SM := retS (mkT (aCons (frz (nmE 4)) (aCons (frz (nmE 5)) (aNil))))
theorem x_perform_8 (ρ : KL.Env) : bx_perform_8 ρ = (retS (mkT (aCons (frz (nmE 4)) (aCons (frz (nmE 5)) (aNil))))) ρ := nr rfl
def bd_perform : SM := seqS (bx_perform_0) (seqS (bx_perform_1) (seqS (bx_perform_2) (bx_perform_8)))
theorem d_perform (ρ : KL.Env) : bd_perform ρ = (seqS (bx_perform_0) (seqS (bx_perform_1) (seqS (bx_perform_2) (bx_perform_8)))) ρ := nr rfl
def f_perform : M Vl := fnM 6 bd_perform
theorem e_perform (s0 s1 s2 s3 : Sl) : f_perform [s0, s1, s2, s3] = fnK [s0, s1, s2, s3] (bd_perform [s0, s1, s2, s3, .un, .un, .un, .un, .un, .un]) := nr (fnM_ap 6 bd_perform [s0, s1, s2, s3])
def bx_work_0 : SM := exS (callV 1 f_check_lot [] (aCons (frz (nmE 0)) (aNil)))
theorem x_work_0 (ρ : KL.Env) : bx_work_0 ρ = (exS (callV 1 f_check_lot [] (aCons (frz (nmE 0)) (aNil)))) ρ := nr rfl
def bx_work_1 : SM := exS (callV 1 f_check_row [] (aCons (frz (nmE 1)) (aNil)))
theorem x_work_1 (ρ : KL.Env) : bx_work_1 ρ = (exS (callV 1 f_check_row [] (aCons (frz (nmE 1)) (aNil)))) ρ := nr rfl
def bx_work_2 : SM := exS (callV 1 f_u_check_rule [] (aCons (frz (nmE 2)) (aNil)))
theorem x_work_2 (ρ : KL.Env) : bx_work_2 ρ = (exS (callV 1 f_u_check_rule [] (aCons (frz (nmE 2)) (aNil)))) ρ := nr rfl
def bx_work_3 : SM := retS (callV 4 f_perform [] (aCons (frz (nmE 0)) (aCons (frz (nmE 1)) (aCons (frz (nmE 2)) (aCons (frz (cE (.bl false))) (aNil))))))
theorem x_work_3 (ρ : KL.Env) : bx_work_3 ρ = (retS (callV 4 f_perform [] (aCons (frz (nmE 0)) (aCons (frz (nmE 1)) (aCons (frz (nmE 2)) (aCons (frz (cE (.bl false))) (aNil))))))) ρ := nr rfl
def bd_work : SM := seqS (bx_work_0) (seqS (bx_work_1) (seqS (bx_work_2) (bx_work_3)))
theorem d_work (ρ : KL.Env) : bd_work ρ = (seqS (bx_work_0) (seqS (bx_work_1) (seqS (bx_work_2) (bx_work_3)))) ρ := nr rfl
def f_work : M Vl := fnM 0 bd_work
theorem e_work (s0 s1 s2 : Sl) : f_work [s0, s1, s2] = fnK [s0, s1, s2] (bd_work [s0, s1, s2]) := nr (fnM_ap 0 bd_work [s0, s1, s2])
def bx_serve_0 : SM := exS (callV 1 f_check_lot [] (aCons (frz (nmE 0)) (aNil)))
theorem x_serve_0 (ρ : KL.Env) : bx_serve_0 ρ = (exS (callV 1 f_check_lot [] (aCons (frz (nmE 0)) (aNil)))) ρ := nr rfl
def bx_serve_1 : SM := exS (callV 1 f_check_row [] (aCons (frz (nmE 1)) (aNil)))
theorem x_serve_1 (ρ : KL.Env) : bx_serve_1 ρ = (exS (callV 1 f_check_row [] (aCons (frz (nmE 1)) (aNil)))) ρ := nr rfl
def bx_serve_2 : SM := exS (callV 1 f_u_check_rule [] (aCons (frz (nmE 2)) (aNil)))
theorem x_serve_2 (ρ : KL.Env) : bx_serve_2 ρ = (exS (callV 1 f_u_check_rule [] (aCons (frz (nmE 2)) (aNil)))) ρ := nr rfl
def bx_serve_3 : SM := retS (callV 4 f_perform [] (aCons (frz (nmE 0)) (aCons (frz (nmE 1)) (aCons (frz (nmE 2)) (aCons (frz (cE (.bl true))) (aNil))))))
theorem x_serve_3 (ρ : KL.Env) : bx_serve_3 ρ = (retS (callV 4 f_perform [] (aCons (frz (nmE 0)) (aCons (frz (nmE 1)) (aCons (frz (nmE 2)) (aCons (frz (cE (.bl true))) (aNil))))))) ρ := nr rfl
def bd_serve : SM := seqS (bx_serve_0) (seqS (bx_serve_1) (seqS (bx_serve_2) (bx_serve_3)))
theorem d_serve (ρ : KL.Env) : bd_serve ρ = (seqS (bx_serve_0) (seqS (bx_serve_1) (seqS (bx_serve_2) (bx_serve_3)))) ρ := nr rfl
def f_serve : M Vl := fnM 0 bd_serve
theorem e_serve (s0 s1 s2 : Sl) : f_serve [s0, s1, s2] = fnK [s0, s1, s2] (bd_serve [s0, s1, s2]) := nr (fnM_ap 0 bd_serve [s0, s1, s2])
def bx_u_law_serve_0 : SM := setS 3 (mkL (aNil))
theorem x_u_law_serve_0 (ρ : KL.Env) : bx_u_law_serve_0 ρ = (setS 3 (mkL (aNil))) ρ := nr rfl
def bx_u_law_serve_2 : SM := setS 5 (lcE [7] (itE (nmE 0)) (tgN 7) (tst (bin geP (nmO 7) (nmO 4))) (nmE 7))
theorem x_u_law_serve_2 (ρ : KL.Env) : bx_u_law_serve_2 ρ = (setS 5 (lcE [7] (itE (nmE 0)) (tgN 7) (tst (bin geP (nmO 7) (nmO 4))) (nmE 7))) ρ := nr rfl
def bx_u_law_serve_3 : SM := setS 6 (eIf (tst (bin eqP (nmO 5) (frz (mkL (aNil))))) (cE (.int 0)) (eIf (tru (nmO 2)) (callB maxA (aCons (nmO 5) (aNil))) (callB minA (aCons (nmO 5) (aNil)))))
theorem x_u_law_serve_3 (ρ : KL.Env) : bx_u_law_serve_3 ρ = (setS 6 (eIf (tst (bin eqP (nmO 5) (frz (mkL (aNil))))) (cE (.int 0)) (eIf (tru (nmO 2)) (callB maxA (aCons (nmO 5) (aNil))) (callB minA (aCons (nmO 5) (aNil)))))) ρ := nr rfl
def bx_u_law_serve_4 : SM := exS (mtd 3 gAppend (aCons (frz (nmE 6)) (aNil)))
theorem x_u_law_serve_4 (ρ : KL.Env) : bx_u_law_serve_4 ρ = (exS (mtd 3 gAppend (aCons (frz (nmE 6)) (aNil)))) ρ := nr rfl
def bx_u_law_serve_5 : SM := ifS (tst (bin gtP (nmO 6) (frz (cE (.int 0))))) (setS 0 (callV 2 f_u_law_after [] (aCons (frz (nmE 0)) (aCons (frz (nmE 6)) (aNil))))) (nxS)
theorem x_u_law_serve_5 (ρ : KL.Env) : bx_u_law_serve_5 ρ = (ifS (tst (bin gtP (nmO 6) (frz (cE (.int 0))))) (setS 0 (callV 2 f_u_law_after [] (aCons (frz (nmE 0)) (aCons (frz (nmE 6)) (aNil))))) (nxS)) ρ := nr rfl
def bx_u_law_serve_1 : SM := forS (itE (nmE 1)) (tgN 4) (seqS (bx_u_law_serve_2) (seqS (bx_u_law_serve_3) (seqS (bx_u_law_serve_4) (bx_u_law_serve_5))))
theorem x_u_law_serve_1 (ρ : KL.Env) : bx_u_law_serve_1 ρ = (forS (itE (nmE 1)) (tgN 4) (seqS (bx_u_law_serve_2) (seqS (bx_u_law_serve_3) (seqS (bx_u_law_serve_4) (bx_u_law_serve_5))))) ρ := nr rfl
def bx_u_law_serve_6 : SM := retS (mkT (aCons (frz (nmE 3)) (aCons (frz (nmE 0)) (aNil))))
theorem x_u_law_serve_6 (ρ : KL.Env) : bx_u_law_serve_6 ρ = (retS (mkT (aCons (frz (nmE 3)) (aCons (frz (nmE 0)) (aNil))))) ρ := nr rfl
def bd_u_law_serve : SM := seqS (bx_u_law_serve_0) (seqS (bx_u_law_serve_1) (bx_u_law_serve_6))
theorem d_u_law_serve (ρ : KL.Env) : bd_u_law_serve ρ = (seqS (bx_u_law_serve_0) (seqS (bx_u_law_serve_1) (bx_u_law_serve_6))) ρ := nr rfl
def f_u_law_serve : M Vl := fnM 5 bd_u_law_serve
theorem e_u_law_serve (s0 s1 s2 : Sl) : f_u_law_serve [s0, s1, s2] = fnK [s0, s1, s2] (bd_u_law_serve [s0, s1, s2, .un, .un, .un, .un, .un]) := nr (fnM_ap 5 bd_u_law_serve [s0, s1, s2])
def bx_u_law_covers_1 : SM := ifS (tst (bin ltP (frz (callV 2 f_capacity_of [] (aCons (frz (nmE 0)) (aCons (frz (nmE 2)) (aNil))))) (frz (callV 2 f_capacity_of [] (aCons (frz (nmE 1)) (aCons (frz (nmE 2)) (aNil))))))) (retS (cE (.bl false))) (nxS)
theorem x_u_law_covers_1 (ρ : KL.Env) : bx_u_law_covers_1 ρ = (ifS (tst (bin ltP (frz (callV 2 f_capacity_of [] (aCons (frz (nmE 0)) (aCons (frz (nmE 2)) (aNil))))) (frz (callV 2 f_capacity_of [] (aCons (frz (nmE 1)) (aCons (frz (nmE 2)) (aNil))))))) (retS (cE (.bl false))) (nxS)) ρ := nr rfl
def bx_u_law_covers_0 : SM := forS (itR2 (aCons (frz (cE (.int 1))) (aCons (frz (bin addP (frz (callB maxA (aCons (frz (bin addP (nmO 1) (frz (mkT (aCons (frz (cE (.int 0))) (aNil)))))) (aNil)))) (frz (cE (.int 1))))) (aNil)))) (tgN 2) (bx_u_law_covers_1)
theorem x_u_law_covers_0 (ρ : KL.Env) : bx_u_law_covers_0 ρ = (forS (itR2 (aCons (frz (cE (.int 1))) (aCons (frz (bin addP (frz (callB maxA (aCons (frz (bin addP (nmO 1) (frz (mkT (aCons (frz (cE (.int 0))) (aNil)))))) (aNil)))) (frz (cE (.int 1))))) (aNil)))) (tgN 2) (bx_u_law_covers_1)) ρ := nr rfl
def bx_u_law_covers_2 : SM := retS (cE (.bl true))
theorem x_u_law_covers_2 (ρ : KL.Env) : bx_u_law_covers_2 ρ = (retS (cE (.bl true))) ρ := nr rfl
def bd_u_law_covers : SM := seqS (bx_u_law_covers_0) (bx_u_law_covers_2)
theorem d_u_law_covers (ρ : KL.Env) : bd_u_law_covers ρ = (seqS (bx_u_law_covers_0) (bx_u_law_covers_2)) ρ := nr rfl
def f_u_law_covers : M Vl := fnM 1 bd_u_law_covers
theorem e_u_law_covers (s0 s1 : Sl) : f_u_law_covers [s0, s1] = fnK [s0, s1] (bd_u_law_covers [s0, s1, .un]) := nr (fnM_ap 1 bd_u_law_covers [s0, s1])
def bx_u_least_gap_1 : SM := ifS (tst (bin ltP (frz (callV 2 f_capacity_of [] (aCons (frz (nmE 0)) (aCons (frz (nmE 2)) (aNil))))) (frz (callV 2 f_capacity_of [] (aCons (frz (nmE 1)) (aCons (frz (nmE 2)) (aNil))))))) (retS (nmM 2)) (nxS)
theorem x_u_least_gap_1 (ρ : KL.Env) : bx_u_least_gap_1 ρ = (ifS (tst (bin ltP (frz (callV 2 f_capacity_of [] (aCons (frz (nmE 0)) (aCons (frz (nmE 2)) (aNil))))) (frz (callV 2 f_capacity_of [] (aCons (frz (nmE 1)) (aCons (frz (nmE 2)) (aNil))))))) (retS (nmM 2)) (nxS)) ρ := nr rfl
def bx_u_least_gap_0 : SM := forS (itR2 (aCons (frz (cE (.int 1))) (aCons (frz (bin addP (frz (callB maxA (aCons (frz (mkT (aCons (frz (cE (.int 0))) (aStar (nmO 1) (aNil))))) (aNil)))) (frz (cE (.int 1))))) (aNil)))) (tgN 2) (bx_u_least_gap_1)
theorem x_u_least_gap_0 (ρ : KL.Env) : bx_u_least_gap_0 ρ = (forS (itR2 (aCons (frz (cE (.int 1))) (aCons (frz (bin addP (frz (callB maxA (aCons (frz (mkT (aCons (frz (cE (.int 0))) (aStar (nmO 1) (aNil))))) (aNil)))) (frz (cE (.int 1))))) (aNil)))) (tgN 2) (bx_u_least_gap_1)) ρ := nr rfl
def bx_u_least_gap_2 : SM := retS (cE .non)
theorem x_u_least_gap_2 (ρ : KL.Env) : bx_u_least_gap_2 ρ = (retS (cE .non)) ρ := nr rfl
def bd_u_least_gap : SM := seqS (bx_u_least_gap_0) (bx_u_least_gap_2)
theorem d_u_least_gap (ρ : KL.Env) : bd_u_least_gap ρ = (seqS (bx_u_least_gap_0) (bx_u_least_gap_2)) ρ := nr rfl
def f_u_least_gap : M Vl := fnM 1 bd_u_least_gap
theorem e_u_least_gap (s0 s1 : Sl) : f_u_least_gap [s0, s1] = fnK [s0, s1] (bd_u_least_gap [s0, s1, .un]) := nr (fnM_ap 1 bd_u_least_gap [s0, s1])
def bx_covers_0 : SM := exS (callV 1 f_check_lot [] (aCons (frz (nmE 0)) (aNil)))
theorem x_covers_0 (ρ : KL.Env) : bx_covers_0 ρ = (exS (callV 1 f_check_lot [] (aCons (frz (nmE 0)) (aNil)))) ρ := nr rfl
def bx_covers_1 : SM := exS (callV 1 f_check_lot [] (aCons (frz (nmE 1)) (aNil)))
theorem x_covers_1 (ρ : KL.Env) : bx_covers_1 ρ = (exS (callV 1 f_check_lot [] (aCons (frz (nmE 1)) (aNil)))) ρ := nr rfl
def bx_covers_2 : SM := retS (bin isP (frz (callV 2 f_u_least_gap [] (aCons (frz (nmE 0)) (aCons (frz (nmE 1)) (aNil))))) (frz (cE .non)))
theorem x_covers_2 (ρ : KL.Env) : bx_covers_2 ρ = (retS (bin isP (frz (callV 2 f_u_least_gap [] (aCons (frz (nmE 0)) (aCons (frz (nmE 1)) (aNil))))) (frz (cE .non)))) ρ := nr rfl
def bd_covers : SM := seqS (bx_covers_0) (seqS (bx_covers_1) (bx_covers_2))
theorem d_covers (ρ : KL.Env) : bd_covers ρ = (seqS (bx_covers_0) (seqS (bx_covers_1) (bx_covers_2))) ρ := nr rfl
def f_covers : M Vl := fnM 0 bd_covers
theorem e_covers (s0 s1 : Sl) : f_covers [s0, s1] = fnK [s0, s1] (bd_covers [s0, s1]) := nr (fnM_ap 0 bd_covers [s0, s1])
def bx_gap_0 : SM := exS (callV 1 f_check_lot [] (aCons (frz (nmE 0)) (aNil)))
theorem x_gap_0 (ρ : KL.Env) : bx_gap_0 ρ = (exS (callV 1 f_check_lot [] (aCons (frz (nmE 0)) (aNil)))) ρ := nr rfl
def bx_gap_1 : SM := exS (callV 1 f_check_lot [] (aCons (frz (nmE 1)) (aNil)))
theorem x_gap_1 (ρ : KL.Env) : bx_gap_1 ρ = (exS (callV 1 f_check_lot [] (aCons (frz (nmE 1)) (aNil)))) ρ := nr rfl
def bx_gap_2 : SM := retS (callV 2 f_u_least_gap [] (aCons (frz (nmE 0)) (aCons (frz (nmE 1)) (aNil))))
theorem x_gap_2 (ρ : KL.Env) : bx_gap_2 ρ = (retS (callV 2 f_u_least_gap [] (aCons (frz (nmE 0)) (aCons (frz (nmE 1)) (aNil))))) ρ := nr rfl
def bd_gap : SM := seqS (bx_gap_0) (seqS (bx_gap_1) (bx_gap_2))
theorem d_gap (ρ : KL.Env) : bd_gap ρ = (seqS (bx_gap_0) (seqS (bx_gap_1) (bx_gap_2))) ρ := nr rfl
def f_gap : M Vl := fnM 0 bd_gap
theorem e_gap (s0 s1 : Sl) : f_gap [s0, s1] = fnK [s0, s1] (bd_gap [s0, s1]) := nr (fnM_ap 0 bd_gap [s0, s1])
def bx_parting_row_0 : SM := exS (callV 1 f_check_lot [] (aCons (frz (nmE 0)) (aNil)))
theorem x_parting_row_0 (ρ : KL.Env) : bx_parting_row_0 ρ = (exS (callV 1 f_check_lot [] (aCons (frz (nmE 0)) (aNil)))) ρ := nr rfl
def bx_parting_row_1 : SM := exS (callV 1 f_check_lot [] (aCons (frz (nmE 1)) (aNil)))
theorem x_parting_row_1 (ρ : KL.Env) : bx_parting_row_1 ρ = (exS (callV 1 f_check_lot [] (aCons (frz (nmE 1)) (aNil)))) ρ := nr rfl
def bx_parting_row_2 : SM := setS 2 (callV 2 f_u_least_gap [] (aCons (frz (nmE 0)) (aCons (frz (nmE 1)) (aNil))))
theorem x_parting_row_2 (ρ : KL.Env) : bx_parting_row_2 ρ = (setS 2 (callV 2 f_u_least_gap [] (aCons (frz (nmE 0)) (aCons (frz (nmE 1)) (aNil))))) ρ := nr rfl
def bx_parting_row_3 : SM := ifS (tst (bin isP (nmO 2) (frz (cE .non)))) (retS (cE .non)) (nxS)
theorem x_parting_row_3 (ρ : KL.Env) : bx_parting_row_3 ρ = (ifS (tst (bin isP (nmO 2) (frz (cE .non)))) (retS (cE .non)) (nxS)) ρ := nr rfl
def bx_parting_row_4 : SM := retS (bin mulP (frz (mkL (aCons (frz (nmE 2)) (aNil)))) (frz (bin addP (frz (callV 2 f_capacity_of [] (aCons (frz (nmE 0)) (aCons (frz (nmE 2)) (aNil))))) (frz (cE (.int 1))))))
theorem x_parting_row_4 (ρ : KL.Env) : bx_parting_row_4 ρ = (retS (bin mulP (frz (mkL (aCons (frz (nmE 2)) (aNil)))) (frz (bin addP (frz (callV 2 f_capacity_of [] (aCons (frz (nmE 0)) (aCons (frz (nmE 2)) (aNil))))) (frz (cE (.int 1))))))) ρ := nr rfl
def bd_parting_row : SM := seqS (bx_parting_row_0) (seqS (bx_parting_row_1) (seqS (bx_parting_row_2) (seqS (bx_parting_row_3) (bx_parting_row_4))))
theorem d_parting_row (ρ : KL.Env) : bd_parting_row ρ = (seqS (bx_parting_row_0) (seqS (bx_parting_row_1) (seqS (bx_parting_row_2) (seqS (bx_parting_row_3) (bx_parting_row_4))))) ρ := nr rfl
def f_parting_row : M Vl := fnM 1 bd_parting_row
theorem e_parting_row (s0 s1 : Sl) : f_parting_row [s0, s1] = fnK [s0, s1] (bd_parting_row [s0, s1, .un]) := nr (fnM_ap 1 bd_parting_row [s0, s1])
def bx_u_check_lots_0 : SM := ifS (tOrB (tNotB (tru (frz (un1 (isiP (tyB "list") noK) (nmO 0))))) (tNotB (tst (chn leP leP (frz (cE (.int 1))) (frz (callB lenP (aCons (nmO 0) (aNil)))) (frz (cE (.int 20))))))) (raise0 "InvalidList") (nxS)
theorem x_u_check_lots_0 (ρ : KL.Env) : bx_u_check_lots_0 ρ = (ifS (tOrB (tNotB (tru (frz (un1 (isiP (tyB "list") noK) (nmO 0))))) (tNotB (tst (chn leP leP (frz (cE (.int 1))) (frz (callB lenP (aCons (nmO 0) (aNil)))) (frz (cE (.int 20))))))) (raise0 "InvalidList") (nxS)) ρ := nr rfl
def bx_u_check_lots_1 : SM := ifS (tNotB (tru (frz (allE [1] (itE (nmE 0)) (tgN 1) (callV 1 f_is_valid_lot [] (aCons (frz (nmE 1)) (aNil))))))) (raise0 "InvalidList") (nxS)
theorem x_u_check_lots_1 (ρ : KL.Env) : bx_u_check_lots_1 ρ = (ifS (tNotB (tru (frz (allE [1] (itE (nmE 0)) (tgN 1) (callV 1 f_is_valid_lot [] (aCons (frz (nmE 1)) (aNil))))))) (raise0 "InvalidList") (nxS)) ρ := nr rfl
def bd_u_check_lots : SM := seqS (bx_u_check_lots_0) (bx_u_check_lots_1)
theorem d_u_check_lots (ρ : KL.Env) : bd_u_check_lots ρ = (seqS (bx_u_check_lots_0) (bx_u_check_lots_1)) ρ := nr rfl
def f_u_check_lots : M Vl := fnM 1 bd_u_check_lots
theorem e_u_check_lots (s0 : Sl) : f_u_check_lots [s0] = fnK [s0] (bd_u_check_lots [s0, .un]) := nr (fnM_ap 1 bd_u_check_lots [s0])
def bx_u_lot_with_capacities_0 : SM := setS 1 (mkL (aNil))
theorem x_u_lot_with_capacities_0 (ρ : KL.Env) : bx_u_lot_with_capacities_0 ρ = (setS 1 (mkL (aNil))) ρ := nr rfl
def bx_u_lot_with_capacities_2 : SM := setS 3 (bin addP (frz (bin subP (frz (bin ixP (nmO 0) (frz (bin subP (nmO 2) (frz (cE (.int 1))))))) (frz (bin mulP (frz (cE (.int 2))) (frz (bin ixP (nmO 0) (nmO 2))))))) (frz (bin ixP (nmO 0) (frz (bin addP (nmO 2) (frz (cE (.int 1))))))))
theorem x_u_lot_with_capacities_2 (ρ : KL.Env) : bx_u_lot_with_capacities_2 ρ = (setS 3 (bin addP (frz (bin subP (frz (bin ixP (nmO 0) (frz (bin subP (nmO 2) (frz (cE (.int 1))))))) (frz (bin mulP (frz (cE (.int 2))) (frz (bin ixP (nmO 0) (nmO 2))))))) (frz (bin ixP (nmO 0) (frz (bin addP (nmO 2) (frz (cE (.int 1))))))))) ρ := nr rfl
def bx_u_lot_with_capacities_3 : SM := setS 1 (bin addP (nmO 1) (frz (bin mulP (frz (mkL (aCons (frz (nmE 2)) (aNil)))) (nmO 3))))
theorem x_u_lot_with_capacities_3 (ρ : KL.Env) : bx_u_lot_with_capacities_3 ρ = (setS 1 (bin addP (nmO 1) (frz (bin mulP (frz (mkL (aCons (frz (nmE 2)) (aNil)))) (nmO 3))))) ρ := nr rfl
def bx_u_lot_with_capacities_1 : SM := forS (itR3 (aCons (frz (cE (.int 200))) (aCons (frz (cE (.int 0))) (aCons (frz (un1 negP (frz (cE (.int 1))))) (aNil))))) (tgN 2) (seqS (bx_u_lot_with_capacities_2) (bx_u_lot_with_capacities_3))
theorem x_u_lot_with_capacities_1 (ρ : KL.Env) : bx_u_lot_with_capacities_1 ρ = (forS (itR3 (aCons (frz (cE (.int 200))) (aCons (frz (cE (.int 0))) (aCons (frz (un1 negP (frz (cE (.int 1))))) (aNil))))) (tgN 2) (seqS (bx_u_lot_with_capacities_2) (bx_u_lot_with_capacities_3))) ρ := nr rfl
def bx_u_lot_with_capacities_4 : SM := retS (callB tupleP (aCons (nmO 1) (aNil)))
theorem x_u_lot_with_capacities_4 (ρ : KL.Env) : bx_u_lot_with_capacities_4 ρ = (retS (callB tupleP (aCons (nmO 1) (aNil)))) ρ := nr rfl
def bd_u_lot_with_capacities : SM := seqS (bx_u_lot_with_capacities_0) (seqS (bx_u_lot_with_capacities_1) (bx_u_lot_with_capacities_4))
theorem d_u_lot_with_capacities (ρ : KL.Env) : bd_u_lot_with_capacities ρ = (seqS (bx_u_lot_with_capacities_0) (seqS (bx_u_lot_with_capacities_1) (bx_u_lot_with_capacities_4))) ρ := nr rfl
def f_u_lot_with_capacities : M Vl := fnM 3 bd_u_lot_with_capacities
theorem e_u_lot_with_capacities (s0 : Sl) : f_u_lot_with_capacities [s0] = fnK [s0] (bd_u_lot_with_capacities [s0, .un, .un, .un]) := nr (fnM_ap 3 bd_u_lot_with_capacities [s0])
def bd_u_greatest_capacity : SM := retS (callB maxA (aCons (frz (lcE [2] (itE (nmE 0)) (tgN 2) (yesB) (callV 2 f_capacity_of [] (aCons (frz (nmE 2)) (aCons (frz (nmE 1)) (aNil)))))) (aNil)))
theorem d_u_greatest_capacity (ρ : KL.Env) : bd_u_greatest_capacity ρ = (retS (callB maxA (aCons (frz (lcE [2] (itE (nmE 0)) (tgN 2) (yesB) (callV 2 f_capacity_of [] (aCons (frz (nmE 2)) (aCons (frz (nmE 1)) (aNil)))))) (aNil)))) ρ := nr rfl
def f_u_greatest_capacity : M Vl := fnM 1 bd_u_greatest_capacity
theorem e_u_greatest_capacity (s0 s1 : Sl) : f_u_greatest_capacity [s0, s1] = fnK [s0, s1] (bd_u_greatest_capacity [s0, s1, .un]) := nr (fnM_ap 1 bd_u_greatest_capacity [s0, s1])
def bx_least_cover_0 : SM := exS (callV 1 f_u_check_lots [] (aCons (frz (nmE 0)) (aNil)))
theorem x_least_cover_0 (ρ : KL.Env) : bx_least_cover_0 ρ = (exS (callV 1 f_u_check_lots [] (aCons (frz (nmE 0)) (aNil)))) ρ := nr rfl
def bx_least_cover_1 : SM := retS (callV 1 f_u_lot_with_capacities [] (aCons (frz (lcE [1] (itR2 (aCons (frz (cE (.int 1))) (aCons (frz (bin addP (frz (cE (.int 200))) (frz (cE (.int 3))))) (aNil)))) (tgN 1) (yesB) (callV 2 f_u_greatest_capacity [] (aCons (frz (nmE 0)) (aCons (frz (nmE 1)) (aNil)))))) (aNil)))
theorem x_least_cover_1 (ρ : KL.Env) : bx_least_cover_1 ρ = (retS (callV 1 f_u_lot_with_capacities [] (aCons (frz (lcE [1] (itR2 (aCons (frz (cE (.int 1))) (aCons (frz (bin addP (frz (cE (.int 200))) (frz (cE (.int 3))))) (aNil)))) (tgN 1) (yesB) (callV 2 f_u_greatest_capacity [] (aCons (frz (nmE 0)) (aCons (frz (nmE 1)) (aNil)))))) (aNil)))) ρ := nr rfl
def bd_least_cover : SM := seqS (bx_least_cover_0) (bx_least_cover_1)
theorem d_least_cover (ρ : KL.Env) : bd_least_cover ρ = (seqS (bx_least_cover_0) (bx_least_cover_1)) ρ := nr rfl
def f_least_cover : M Vl := fnM 1 bd_least_cover
theorem e_least_cover (s0 : Sl) : f_least_cover [s0] = fnK [s0] (bd_least_cover [s0, .un]) := nr (fnM_ap 1 bd_least_cover [s0])
def bx_greatest_covered_0 : SM := exS (callV 1 f_u_check_lots [] (aCons (frz (nmE 0)) (aNil)))
theorem x_greatest_covered_0 (ρ : KL.Env) : bx_greatest_covered_0 ρ = (exS (callV 1 f_u_check_lots [] (aCons (frz (nmE 0)) (aNil)))) ρ := nr rfl
def bx_greatest_covered_1 : SM := setS 1 (lcE [3] (itR1 (aCons (frz (bin addP (frz (cE (.int 60))) (frz (cE (.int 1))))) (aNil))) (tgN 3) (yesB) (callB minA (aCons (frz (lcE [7] (itE (nmE 0)) (tgN 7) (yesB) (callB sumP (aCons (frz (slE (nmO 7) (ptN) (ptS (nmO 3)))) (aNil))))) (aNil))))
theorem x_greatest_covered_1 (ρ : KL.Env) : bx_greatest_covered_1 ρ = (setS 1 (lcE [3] (itR1 (aCons (frz (bin addP (frz (cE (.int 60))) (frz (cE (.int 1))))) (aNil))) (tgN 3) (yesB) (callB minA (aCons (frz (lcE [7] (itE (nmE 0)) (tgN 7) (yesB) (callB sumP (aCons (frz (slE (nmO 7) (ptN) (ptS (nmO 3)))) (aNil))))) (aNil))))) ρ := nr rfl
def bx_greatest_covered_2 : SM := setS 2 (lcE [4, 5] (itZ (aCons (frz (nmE 1)) (aCons (frz (slE (nmO 1) (ptS (frz (cE (.int 1)))) (ptN))) (aNil)))) (tgT [4, 5]) (yesB) (bin subP (nmO 5) (nmO 4)))
theorem x_greatest_covered_2 (ρ : KL.Env) : bx_greatest_covered_2 ρ = (setS 2 (lcE [4, 5] (itZ (aCons (frz (nmE 1)) (aCons (frz (slE (nmO 1) (ptS (frz (cE (.int 1)))) (ptN))) (aNil)))) (tgT [4, 5]) (yesB) (bin subP (nmO 5) (nmO 4)))) ρ := nr rfl
def bx_greatest_covered_3 : SM := retS (callB tupleP (aCons (frz (lcE [6] (itE (nmE 2)) (tgN 6) (tst (bin gtP (nmO 6) (frz (cE (.int 0))))) (nmE 6))) (aNil)))
theorem x_greatest_covered_3 (ρ : KL.Env) : bx_greatest_covered_3 ρ = (retS (callB tupleP (aCons (frz (lcE [6] (itE (nmE 2)) (tgN 6) (tst (bin gtP (nmO 6) (frz (cE (.int 0))))) (nmE 6))) (aNil)))) ρ := nr rfl
def bd_greatest_covered : SM := seqS (bx_greatest_covered_0) (seqS (bx_greatest_covered_1) (seqS (bx_greatest_covered_2) (bx_greatest_covered_3)))
theorem d_greatest_covered (ρ : KL.Env) : bd_greatest_covered ρ = (seqS (bx_greatest_covered_0) (seqS (bx_greatest_covered_1) (seqS (bx_greatest_covered_2) (bx_greatest_covered_3)))) ρ := nr rfl
def f_greatest_covered : M Vl := fnM 7 bd_greatest_covered
theorem e_greatest_covered (s0 : Sl) : f_greatest_covered [s0] = fnK [s0] (bd_greatest_covered [s0, .un, .un, .un, .un, .un, .un, .un]) := nr (fnM_ap 7 bd_greatest_covered [s0])
def bd_u_law_done_k23 : SM := retS (callB lenP (aCons (frz (lcE [2] (itE (bin ixP (frz (callV 3 f_serve [.str "dullest"] (aCons (frz (nmE 0)) (aCons (frz (nmE 1)) (aNil))))) (frz (cE (.int 0))))) (tgN 2) (tst (bin gtP (nmO 2) (frz (cE (.int 0))))) (nmE 2))) (aNil)))
theorem d_u_law_done_k23 (ρ : KL.Env) : bd_u_law_done_k23 ρ = (retS (callB lenP (aCons (frz (lcE [2] (itE (bin ixP (frz (callV 3 f_serve [.str "dullest"] (aCons (frz (nmE 0)) (aCons (frz (nmE 1)) (aNil))))) (frz (cE (.int 0))))) (tgN 2) (tst (bin gtP (nmO 2) (frz (cE (.int 0))))) (nmE 2))) (aNil)))) ρ := nr rfl
def f_u_law_done_k23 : M Vl := fnM 1 bd_u_law_done_k23
theorem e_u_law_done_k23 (s0 s1 : Sl) : f_u_law_done_k23 [s0, s1] = fnK [s0, s1] (bd_u_law_done_k23 [s0, s1, .un]) := nr (fnM_ap 1 bd_u_law_done_k23 [s0, s1])
def bx_u_fill_blocks_0 : SM := setS 2 (mkL (aNil))
theorem x_u_fill_blocks_0 (ρ : KL.Env) : bx_u_fill_blocks_0 ρ = (setS 2 (mkL (aNil))) ρ := nr rfl
def bx_u_fill_blocks_1 : SM := setS 3 (un1 sortRevP (nmO 1))
theorem x_u_fill_blocks_1 (ρ : KL.Env) : bx_u_fill_blocks_1 ρ = (setS 3 (un1 sortRevP (nmO 1))) ρ := nr rfl
def bx_u_fill_blocks_3 : SM := ifS (tAndB (tru (nmO 3)) (tst (bin gtP (frz (bin ixP (nmO 3) (frz (cE (.int 0))))) (nmO 4)))) (retS (mkT (aCons (frz (nmE 2)) (aCons (frz (bin ixP (nmO 3) (frz (cE (.int 0))))) (aNil))))) (nxS)
theorem x_u_fill_blocks_3 (ρ : KL.Env) : bx_u_fill_blocks_3 ρ = (ifS (tAndB (tru (nmO 3)) (tst (bin gtP (frz (bin ixP (nmO 3) (frz (cE (.int 0))))) (nmO 4)))) (retS (mkT (aCons (frz (nmE 2)) (aCons (frz (bin ixP (nmO 3) (frz (cE (.int 0))))) (aNil))))) (nxS)) ρ := nr rfl
def bx_u_fill_blocks_4 : SM := setS 5 (eIf (tru (nmO 3)) (bin addP (frz (bin subP (nmO 4) (frz (bin ixP (nmO 3) (frz (cE (.int 0))))))) (frz (cE (.int 1)))) (cE (.int 0)))
theorem x_u_fill_blocks_4 (ρ : KL.Env) : bx_u_fill_blocks_4 ρ = (setS 5 (eIf (tru (nmO 3)) (bin addP (frz (bin subP (nmO 4) (frz (bin ixP (nmO 3) (frz (cE (.int 0))))))) (frz (cE (.int 1)))) (cE (.int 0)))) ρ := nr rfl
def bx_u_fill_blocks_5 : SM := exS (mtd 2 gAppend (aCons (frz (slE (nmO 3) (ptN) (ptS (nmO 5)))) (aNil)))
theorem x_u_fill_blocks_5 (ρ : KL.Env) : bx_u_fill_blocks_5 ρ = (exS (mtd 2 gAppend (aCons (frz (slE (nmO 3) (ptN) (ptS (nmO 5)))) (aNil)))) ρ := nr rfl
def bx_u_fill_blocks_6 : SM := setS 3 (slE (nmO 3) (ptS (nmO 5)) (ptN))
theorem x_u_fill_blocks_6 (ρ : KL.Env) : bx_u_fill_blocks_6 ρ = (setS 3 (slE (nmO 3) (ptS (nmO 5)) (ptN))) ρ := nr rfl
def bx_u_fill_blocks_2 : SM := forS (itE (nmE 0)) (tgN 4) (seqS (bx_u_fill_blocks_3) (seqS (bx_u_fill_blocks_4) (seqS (bx_u_fill_blocks_5) (bx_u_fill_blocks_6))))
theorem x_u_fill_blocks_2 (ρ : KL.Env) : bx_u_fill_blocks_2 ρ = (forS (itE (nmE 0)) (tgN 4) (seqS (bx_u_fill_blocks_3) (seqS (bx_u_fill_blocks_4) (seqS (bx_u_fill_blocks_5) (bx_u_fill_blocks_6))))) ρ := nr rfl
def bx_u_fill_blocks_7 : SM := retS (mkT (aCons (frz (nmE 2)) (aCons (frz (eIf (tru (nmO 3)) (bin ixP (nmO 3) (frz (cE (.int 0)))) (cE .non))) (aNil))))
theorem x_u_fill_blocks_7 (ρ : KL.Env) : bx_u_fill_blocks_7 ρ = (retS (mkT (aCons (frz (nmE 2)) (aCons (frz (eIf (tru (nmO 3)) (bin ixP (nmO 3) (frz (cE (.int 0)))) (cE .non))) (aNil))))) ρ := nr rfl
def bd_u_fill_blocks : SM := seqS (bx_u_fill_blocks_0) (seqS (bx_u_fill_blocks_1) (seqS (bx_u_fill_blocks_2) (bx_u_fill_blocks_7)))
theorem d_u_fill_blocks (ρ : KL.Env) : bd_u_fill_blocks ρ = (seqS (bx_u_fill_blocks_0) (seqS (bx_u_fill_blocks_1) (seqS (bx_u_fill_blocks_2) (bx_u_fill_blocks_7)))) ρ := nr rfl
def f_u_fill_blocks : M Vl := fnM 4 bd_u_fill_blocks
theorem e_u_fill_blocks (s0 s1 : Sl) : f_u_fill_blocks [s0, s1] = fnK [s0, s1] (bd_u_fill_blocks [s0, s1, .un, .un, .un, .un]) := nr (fnM_ap 4 bd_u_fill_blocks [s0, s1])
def bx_u_need_beyond_capacity_1 : SM := ifS (tst (bin gtP (nmO 2) (frz (callV 2 f_capacity_of [] (aCons (frz (nmE 0)) (aCons (frz (nmE 3)) (aNil))))))) (retS (nmM 3)) (nxS)
theorem x_u_need_beyond_capacity_1 (ρ : KL.Env) : bx_u_need_beyond_capacity_1 ρ = (ifS (tst (bin gtP (nmO 2) (frz (callV 2 f_capacity_of [] (aCons (frz (nmE 0)) (aCons (frz (nmE 3)) (aNil))))))) (retS (nmM 3)) (nxS)) ρ := nr rfl
def bx_u_need_beyond_capacity_0 : SM := forS (itEnS 1 (aCons (frz (un1 sortRevP (nmO 1))) (aNil))) (tgT [2, 3]) (bx_u_need_beyond_capacity_1)
theorem x_u_need_beyond_capacity_0 (ρ : KL.Env) : bx_u_need_beyond_capacity_0 ρ = (forS (itEnS 1 (aCons (frz (un1 sortRevP (nmO 1))) (aNil))) (tgT [2, 3]) (bx_u_need_beyond_capacity_1)) ρ := nr rfl
def bx_u_need_beyond_capacity_2 : SM := retS (cE .non)
theorem x_u_need_beyond_capacity_2 (ρ : KL.Env) : bx_u_need_beyond_capacity_2 ρ = (retS (cE .non)) ρ := nr rfl
def bd_u_need_beyond_capacity : SM := seqS (bx_u_need_beyond_capacity_0) (bx_u_need_beyond_capacity_2)
theorem d_u_need_beyond_capacity (ρ : KL.Env) : bd_u_need_beyond_capacity ρ = (seqS (bx_u_need_beyond_capacity_0) (bx_u_need_beyond_capacity_2)) ρ := nr rfl
def f_u_need_beyond_capacity : M Vl := fnM 2 bd_u_need_beyond_capacity
theorem e_u_need_beyond_capacity (s0 s1 : Sl) : f_u_need_beyond_capacity [s0, s1] = fnK [s0, s1] (bd_u_need_beyond_capacity [s0, s1, .un, .un]) := nr (fnM_ap 2 bd_u_need_beyond_capacity [s0, s1])
def bx_u_lacking_need_0 : SM := ifS (tst (bin eqP (nmO 2) (frz (cE (.str "some"))))) (retS (callV 2 f_u_need_beyond_capacity [] (aCons (frz (nmE 0)) (aCons (frz (nmE 1)) (aNil))))) (nxS)
theorem x_u_lacking_need_0 (ρ : KL.Env) : bx_u_lacking_need_0 ρ = (ifS (tst (bin eqP (nmO 2) (frz (cE (.str "some"))))) (retS (callV 2 f_u_need_beyond_capacity [] (aCons (frz (nmE 0)) (aCons (frz (nmE 1)) (aNil))))) (nxS)) ρ := nr rfl
def bx_u_lacking_need_1 : SM := unpS [3, 4] (frz (callV 2 f_u_fill_blocks [] (aCons (frz (nmE 0)) (aCons (frz (nmE 1)) (aNil)))))
theorem x_u_lacking_need_1 (ρ : KL.Env) : bx_u_lacking_need_1 ρ = (unpS [3, 4] (frz (callV 2 f_u_fill_blocks [] (aCons (frz (nmE 0)) (aCons (frz (nmE 1)) (aNil)))))) ρ := nr rfl
def bx_u_lacking_need_2 : SM := retS (nmM 4)
theorem x_u_lacking_need_2 (ρ : KL.Env) : bx_u_lacking_need_2 ρ = (retS (nmM 4)) ρ := nr rfl
def bd_u_lacking_need : SM := seqS (bx_u_lacking_need_0) (seqS (bx_u_lacking_need_1) (bx_u_lacking_need_2))
theorem d_u_lacking_need (ρ : KL.Env) : bd_u_lacking_need ρ = (seqS (bx_u_lacking_need_0) (seqS (bx_u_lacking_need_1) (bx_u_lacking_need_2))) ρ := nr rfl
def f_u_lacking_need : M Vl := fnM 2 bd_u_lacking_need
theorem e_u_lacking_need (s0 s1 s2 : Sl) : f_u_lacking_need [s0, s1, s2] = fnK [s0, s1, s2] (bd_u_lacking_need [s0, s1, s2, .un, .un]) := nr (fnM_ap 2 bd_u_lacking_need [s0, s1, s2])
def bd_is_enough : SM := retS (bin isP (frz (callV 3 f_u_lacking_need [] (aCons (frz (nmE 0)) (aCons (frz (nmE 1)) (aCons (frz (nmE 2)) (aNil)))))) (frz (cE .non)))
theorem d_is_enough (ρ : KL.Env) : bd_is_enough ρ = (retS (bin isP (frz (callV 3 f_u_lacking_need [] (aCons (frz (nmE 0)) (aCons (frz (nmE 1)) (aCons (frz (nmE 2)) (aNil)))))) (frz (cE .non)))) ρ := nr rfl
def f_is_enough : M Vl := fnM 0 bd_is_enough
theorem e_is_enough (s0 s1 s2 : Sl) : f_is_enough [s0, s1, s2] = fnK [s0, s1, s2] (bd_is_enough [s0, s1, s2]) := nr (fnM_ap 0 bd_is_enough [s0, s1, s2])
def bx_can_some_0 : SM := exS (callV 1 f_check_lot [] (aCons (frz (nmE 0)) (aNil)))
theorem x_can_some_0 (ρ : KL.Env) : bx_can_some_0 ρ = (exS (callV 1 f_check_lot [] (aCons (frz (nmE 0)) (aNil)))) ρ := nr rfl
def bx_can_some_1 : SM := exS (callV 1 f_check_row [] (aCons (frz (nmE 1)) (aNil)))
theorem x_can_some_1 (ρ : KL.Env) : bx_can_some_1 ρ = (exS (callV 1 f_check_row [] (aCons (frz (nmE 1)) (aNil)))) ρ := nr rfl
def bx_can_some_2 : SM := retS (callV 3 f_is_enough [] (aCons (frz (nmE 0)) (aCons (frz (nmE 1)) (aCons (frz (cE (.str "some"))) (aNil)))))
theorem x_can_some_2 (ρ : KL.Env) : bx_can_some_2 ρ = (retS (callV 3 f_is_enough [] (aCons (frz (nmE 0)) (aCons (frz (nmE 1)) (aCons (frz (cE (.str "some"))) (aNil)))))) ρ := nr rfl
def bd_can_some : SM := seqS (bx_can_some_0) (seqS (bx_can_some_1) (bx_can_some_2))
theorem d_can_some (ρ : KL.Env) : bd_can_some ρ = (seqS (bx_can_some_0) (seqS (bx_can_some_1) (bx_can_some_2))) ρ := nr rfl
def f_can_some : M Vl := fnM 0 bd_can_some
theorem e_can_some (s0 s1 : Sl) : f_can_some [s0, s1] = fnK [s0, s1] (bd_can_some [s0, s1]) := nr (fnM_ap 0 bd_can_some [s0, s1])
def bx_can_every_0 : SM := exS (callV 1 f_check_lot [] (aCons (frz (nmE 0)) (aNil)))
theorem x_can_every_0 (ρ : KL.Env) : bx_can_every_0 ρ = (exS (callV 1 f_check_lot [] (aCons (frz (nmE 0)) (aNil)))) ρ := nr rfl
def bx_can_every_1 : SM := exS (callV 1 f_check_row [] (aCons (frz (nmE 1)) (aNil)))
theorem x_can_every_1 (ρ : KL.Env) : bx_can_every_1 ρ = (exS (callV 1 f_check_row [] (aCons (frz (nmE 1)) (aNil)))) ρ := nr rfl
def bx_can_every_2 : SM := retS (callV 3 f_is_enough [] (aCons (frz (nmE 0)) (aCons (frz (nmE 1)) (aCons (frz (cE (.str "every"))) (aNil)))))
theorem x_can_every_2 (ρ : KL.Env) : bx_can_every_2 ρ = (retS (callV 3 f_is_enough [] (aCons (frz (nmE 0)) (aCons (frz (nmE 1)) (aCons (frz (cE (.str "every"))) (aNil)))))) ρ := nr rfl
def bd_can_every : SM := seqS (bx_can_every_0) (seqS (bx_can_every_1) (bx_can_every_2))
theorem d_can_every (ρ : KL.Env) : bd_can_every ρ = (seqS (bx_can_every_0) (seqS (bx_can_every_1) (bx_can_every_2))) ρ := nr rfl
def f_can_every : M Vl := fnM 0 bd_can_every
theorem e_can_every (s0 s1 : Sl) : f_can_every [s0, s1] = fnK [s0, s1] (bd_can_every [s0, s1]) := nr (fnM_ap 0 bd_can_every [s0, s1])
def bx_u_law_heap_0 : SM := setS 2 (callB minP2 (aCons (frz (cE (.int 200))) (aCons (frz (bin addP (frz (callB maxA (aCons (frz (bin addP (nmO 1) (frz (mkT (aCons (frz (cE (.int 1))) (aNil)))))) (aNil)))) (frz (callI 2 f_u_law_take [] (aCons (nmO 0) (aCons (frz (cE (.int 2))) (aNil))))))) (aNil))))
theorem x_u_law_heap_0 (ρ : KL.Env) : bx_u_law_heap_0 ρ = (setS 2 (callB minP2 (aCons (frz (cE (.int 200))) (aCons (frz (bin addP (frz (callB maxA (aCons (frz (bin addP (nmO 1) (frz (mkT (aCons (frz (cE (.int 1))) (aNil)))))) (aNil)))) (frz (callI 2 f_u_law_take [] (aCons (nmO 0) (aCons (frz (cE (.int 2))) (aNil))))))) (aNil))))) ρ := nr rfl
def bx_u_law_heap_1 : SM := setS 3 (callI 2 f_u_law_take [] (aCons (nmO 0) (aCons (frz (bin ixP (frz (mkL (aCons (frz (bin addP (frz (bin divP (frz (callB sumP (aCons (nmO 1) (aNil)))) (frz (cE (.int 2))))) (frz (cE (.int 2))))) (aCons (frz (bin addP (frz (callB sumP (aCons (nmO 1) (aNil)))) (frz (cE (.int 1))))) (aCons (frz (cE (.int 7))) (aNil)))))) (frz (callI 2 f_u_law_take [] (aCons (nmO 0) (aCons (frz (cE (.int 3))) (aNil))))))) (aNil))))
theorem x_u_law_heap_1 (ρ : KL.Env) : bx_u_law_heap_1 ρ = (setS 3 (callI 2 f_u_law_take [] (aCons (nmO 0) (aCons (frz (bin ixP (frz (mkL (aCons (frz (bin addP (frz (bin divP (frz (callB sumP (aCons (nmO 1) (aNil)))) (frz (cE (.int 2))))) (frz (cE (.int 2))))) (aCons (frz (bin addP (frz (callB sumP (aCons (nmO 1) (aNil)))) (frz (cE (.int 1))))) (aCons (frz (cE (.int 7))) (aNil)))))) (frz (callI 2 f_u_law_take [] (aCons (nmO 0) (aCons (frz (cE (.int 3))) (aNil))))))) (aNil))))) ρ := nr rfl
def bx_u_law_heap_2 : SM := retS (lcE [4] (itR1 (aCons (nmO 3) (aNil))) (tgN 4) (yesB) (bin addP (frz (cE (.int 1))) (frz (callI 2 f_u_law_take [] (aCons (nmO 0) (aCons (frz (bin ixP (frz (mkL (aCons (frz (nmE 2)) (aCons (frz (bin addP (frz (cE (.int 1))) (frz (bin divP (nmO 2) (frz (cE (.int 2))))))) (aCons (frz (cE (.int 2))) (aNil)))))) (frz (callI 2 f_u_law_take [] (aCons (nmO 0) (aCons (frz (cE (.int 3))) (aNil))))))) (aNil)))))))
theorem x_u_law_heap_2 (ρ : KL.Env) : bx_u_law_heap_2 ρ = (retS (lcE [4] (itR1 (aCons (nmO 3) (aNil))) (tgN 4) (yesB) (bin addP (frz (cE (.int 1))) (frz (callI 2 f_u_law_take [] (aCons (nmO 0) (aCons (frz (bin ixP (frz (mkL (aCons (frz (nmE 2)) (aCons (frz (bin addP (frz (cE (.int 1))) (frz (bin divP (nmO 2) (frz (cE (.int 2))))))) (aCons (frz (cE (.int 2))) (aNil)))))) (frz (callI 2 f_u_law_take [] (aCons (nmO 0) (aCons (frz (cE (.int 3))) (aNil))))))) (aNil)))))))) ρ := nr rfl
def bd_u_law_heap : SM := seqS (bx_u_law_heap_0) (seqS (bx_u_law_heap_1) (bx_u_law_heap_2))
theorem d_u_law_heap (ρ : KL.Env) : bd_u_law_heap ρ = (seqS (bx_u_law_heap_0) (seqS (bx_u_law_heap_1) (bx_u_law_heap_2))) ρ := nr rfl
def f_u_law_heap : M Vl := fnM 3 bd_u_law_heap
theorem e_u_law_heap (s0 s1 : Sl) : f_u_law_heap [s0, s1] = fnK [s0, s1] (bd_u_law_heap [s0, s1, .un, .un, .un]) := nr (fnM_ap 3 bd_u_law_heap [s0, s1])
def bx_u_law_fitting_0 : SM := setS 2 (mkL (aNil))
theorem x_u_law_fitting_0 (ρ : KL.Env) : bx_u_law_fitting_0 ρ = (setS 2 (mkL (aNil))) ρ := nr rfl
def bx_u_law_fitting_3 : SM := setS 4 (bin addP (frz (cE (.int 1))) (frz (callI 2 f_u_law_take [] (aCons (nmO 0) (aCons (frz (nmE 3)) (aNil))))))
theorem x_u_law_fitting_3 (ρ : KL.Env) : bx_u_law_fitting_3 ρ = (setS 4 (bin addP (frz (cE (.int 1))) (frz (callI 2 f_u_law_take [] (aCons (nmO 0) (aCons (frz (nmE 3)) (aNil))))))) ρ := nr rfl
def bx_u_law_fitting_4 : SM := exS (mtd 2 gAppend (aCons (frz (nmE 4)) (aNil)))
theorem x_u_law_fitting_4 (ρ : KL.Env) : bx_u_law_fitting_4 ρ = (exS (mtd 2 gAppend (aCons (frz (nmE 4)) (aNil)))) ρ := nr rfl
def bx_u_law_fitting_6 : SM := exS (mtd 2 gAppend (aCons (frz (bin addP (frz (cE (.int 1))) (frz (callI 2 f_u_law_take [] (aCons (nmO 0) (aCons (frz (nmE 4)) (aNil))))))) (aNil)))
theorem x_u_law_fitting_6 (ρ : KL.Env) : bx_u_law_fitting_6 ρ = (exS (mtd 2 gAppend (aCons (frz (bin addP (frz (cE (.int 1))) (frz (callI 2 f_u_law_take [] (aCons (nmO 0) (aCons (frz (nmE 4)) (aNil))))))) (aNil)))) ρ := nr rfl
def bx_u_law_fitting_5 : SM := forS (itR1 (aCons (frz (callI 2 f_u_law_take [] (aCons (nmO 0) (aCons (frz (bin addP (frz (bin subP (nmO 3) (nmO 4))) (frz (cE (.int 1))))) (aNil))))) (aNil))) (tgN 5) (bx_u_law_fitting_6)
theorem x_u_law_fitting_5 (ρ : KL.Env) : bx_u_law_fitting_5 ρ = (forS (itR1 (aCons (frz (callI 2 f_u_law_take [] (aCons (nmO 0) (aCons (frz (bin addP (frz (bin subP (nmO 3) (nmO 4))) (frz (cE (.int 1))))) (aNil))))) (aNil))) (tgN 5) (bx_u_law_fitting_6)) ρ := nr rfl
def bx_u_law_fitting_2 : SM := ifS (tst (bin gtP (frz (callI 2 f_u_law_take [] (aCons (nmO 0) (aCons (frz (cE (.int 5))) (aNil))))) (frz (cE (.int 0))))) (seqS (bx_u_law_fitting_3) (seqS (bx_u_law_fitting_4) (bx_u_law_fitting_5))) (nxS)
theorem x_u_law_fitting_2 (ρ : KL.Env) : bx_u_law_fitting_2 ρ = (ifS (tst (bin gtP (frz (callI 2 f_u_law_take [] (aCons (nmO 0) (aCons (frz (cE (.int 5))) (aNil))))) (frz (cE (.int 0))))) (seqS (bx_u_law_fitting_3) (seqS (bx_u_law_fitting_4) (bx_u_law_fitting_5))) (nxS)) ρ := nr rfl
def bx_u_law_fitting_1 : SM := forS (itE (nmE 1)) (tgN 3) (bx_u_law_fitting_2)
theorem x_u_law_fitting_1 (ρ : KL.Env) : bx_u_law_fitting_1 ρ = (forS (itE (nmE 1)) (tgN 3) (bx_u_law_fitting_2)) ρ := nr rfl
def bx_u_law_fitting_7 : SM := retS (nmM 2)
theorem x_u_law_fitting_7 (ρ : KL.Env) : bx_u_law_fitting_7 ρ = (retS (nmM 2)) ρ := nr rfl
def bd_u_law_fitting : SM := seqS (bx_u_law_fitting_0) (seqS (bx_u_law_fitting_1) (bx_u_law_fitting_7))
theorem d_u_law_fitting (ρ : KL.Env) : bd_u_law_fitting ρ = (seqS (bx_u_law_fitting_0) (seqS (bx_u_law_fitting_1) (bx_u_law_fitting_7))) ρ := nr rfl
def f_u_law_fitting : M Vl := fnM 4 bd_u_law_fitting
theorem e_u_law_fitting (s0 s1 : Sl) : f_u_law_fitting [s0, s1] = fnK [s0, s1] (bd_u_law_fitting [s0, s1, .un, .un, .un, .un]) := nr (fnM_ap 4 bd_u_law_fitting [s0, s1])
def bx_u_law_lots_0 (rec : M Vl) : SM := ifS (tst (bin eqP (nmO 0) (frz (cE (.int 0))))) (retS (mkL (aCons (frz (mkT (aNil))) (aNil)))) (nxS)
theorem x_u_law_lots_0 (rec : M Vl) (ρ : KL.Env) : bx_u_law_lots_0 rec ρ = (ifS (tst (bin eqP (nmO 0) (frz (cE (.int 0))))) (retS (mkL (aCons (frz (mkT (aNil))) (aNil)))) (nxS)) ρ := nr rfl
def bx_u_law_lots_1 (rec : M Vl) : SM := setS 2 (mkL (aNil))
theorem x_u_law_lots_1 (rec : M Vl) (ρ : KL.Env) : bx_u_law_lots_1 rec ρ = (setS 2 (mkL (aNil))) ρ := nr rfl
def bx_u_law_lots_4 (rec : M Vl) : SM := exS (mtd 2 gAppend (aCons (frz (bin addP (frz (mkT (aCons (frz (nmE 3)) (aNil)))) (nmO 4))) (aNil)))
theorem x_u_law_lots_4 (rec : M Vl) (ρ : KL.Env) : bx_u_law_lots_4 rec ρ = (exS (mtd 2 gAppend (aCons (frz (bin addP (frz (mkT (aCons (frz (nmE 3)) (aNil)))) (nmO 4))) (aNil)))) ρ := nr rfl
def bx_u_law_lots_3 (rec : M Vl) : SM := forS (itE (callV 2 rec [] (aCons (frz (bin subP (nmO 0) (nmO 3))) (aCons (frz (nmE 3)) (aNil))))) (tgN 4) (bx_u_law_lots_4 rec)
theorem x_u_law_lots_3 (rec : M Vl) (ρ : KL.Env) : bx_u_law_lots_3 rec ρ = (forS (itE (callV 2 rec [] (aCons (frz (bin subP (nmO 0) (nmO 3))) (aCons (frz (nmE 3)) (aNil))))) (tgN 4) (bx_u_law_lots_4 rec)) ρ := nr rfl
def bx_u_law_lots_2 (rec : M Vl) : SM := forS (itR2 (aCons (frz (cE (.int 1))) (aCons (frz (bin addP (frz (callB minP2 (aCons (nmO 0) (aCons (nmO 1) (aNil))))) (frz (cE (.int 1))))) (aNil)))) (tgN 3) (bx_u_law_lots_3 rec)
theorem x_u_law_lots_2 (rec : M Vl) (ρ : KL.Env) : bx_u_law_lots_2 rec ρ = (forS (itR2 (aCons (frz (cE (.int 1))) (aCons (frz (bin addP (frz (callB minP2 (aCons (nmO 0) (aCons (nmO 1) (aNil))))) (frz (cE (.int 1))))) (aNil)))) (tgN 3) (bx_u_law_lots_3 rec)) ρ := nr rfl
def bx_u_law_lots_5 (rec : M Vl) : SM := retS (nmM 2)
theorem x_u_law_lots_5 (rec : M Vl) (ρ : KL.Env) : bx_u_law_lots_5 rec ρ = (retS (nmM 2)) ρ := nr rfl
def bd_u_law_lots (rec : M Vl) : SM := seqS (bx_u_law_lots_0 rec) (seqS (bx_u_law_lots_1 rec) (seqS (bx_u_law_lots_2 rec) (bx_u_law_lots_5 rec)))
theorem d_u_law_lots (rec : M Vl) (ρ : KL.Env) : bd_u_law_lots rec ρ = (seqS (bx_u_law_lots_0 rec) (seqS (bx_u_law_lots_1 rec) (seqS (bx_u_law_lots_2 rec) (bx_u_law_lots_5 rec)))) ρ := nr rfl
def r_u_law_lots : Nat → M Vl
  | 0 => fnM 3 fun _ => .bad
  | k + 1 => fnM 3 (bd_u_law_lots (r_u_law_lots k))
def f_u_law_lots : M Vl := r_u_law_lots 14
theorem e_u_law_lots (k : Nat) (s0 s1 : Sl) : r_u_law_lots (k + 1) [s0, s1] = fnK [s0, s1] (bd_u_law_lots (r_u_law_lots k) [s0, s1, .un, .un, .un]) := nr (fnM_ap 3 (bd_u_law_lots (r_u_law_lots k)) [s0, s1])
def bx_u_law_good_k24_0 : SM := parS 3 4 (aCons (frz (callV 1 f_least_cover [] (aCons (frz (nmE 0)) (aNil)))) (aCons (frz (callV 1 f_greatest_covered [] (aCons (frz (nmE 0)) (aNil)))) (aNil)))
theorem x_u_law_good_k24_0 (ρ : KL.Env) : bx_u_law_good_k24_0 ρ = (parS 3 4 (aCons (frz (callV 1 f_least_cover [] (aCons (frz (nmE 0)) (aNil)))) (aCons (frz (callV 1 f_greatest_covered [] (aCons (frz (nmE 0)) (aNil)))) (aNil)))) ρ := nr rfl
def bx_u_law_good_k24_2 : SM := setS 5 (callB allP (aCons (frz (lcE [9] (itE (nmE 0)) (tgN 9) (yesB) (callV 2 f_u_law_covers [] (aCons (frz (nmE 2)) (aCons (frz (nmE 9)) (aNil)))))) (aNil)))
theorem x_u_law_good_k24_2 (ρ : KL.Env) : bx_u_law_good_k24_2 ρ = (setS 5 (callB allP (aCons (frz (lcE [9] (itE (nmE 0)) (tgN 9) (yesB) (callV 2 f_u_law_covers [] (aCons (frz (nmE 2)) (aCons (frz (nmE 9)) (aNil)))))) (aNil)))) ρ := nr rfl
def bx_u_law_good_k24_3 : SM := setS 6 (callB allP (aCons (frz (lcE [9] (itE (nmE 0)) (tgN 9) (yesB) (callV 2 f_u_law_covers [] (aCons (frz (nmE 9)) (aCons (frz (nmE 2)) (aNil)))))) (aNil)))
theorem x_u_law_good_k24_3 (ρ : KL.Env) : bx_u_law_good_k24_3 ρ = (setS 6 (callB allP (aCons (frz (lcE [9] (itE (nmE 0)) (tgN 9) (yesB) (callV 2 f_u_law_covers [] (aCons (frz (nmE 9)) (aCons (frz (nmE 2)) (aNil)))))) (aNil)))) ρ := nr rfl
def bx_u_law_good_k24_4 : SM := ifS (tOrB (tst (bin neP (nmO 5) (frz (callV 2 f_u_law_covers [] (aCons (frz (nmE 2)) (aCons (frz (nmE 3)) (aNil))))))) (tst (bin neP (nmO 6) (frz (callV 2 f_u_law_covers [] (aCons (frz (nmE 4)) (aCons (frz (nmE 2)) (aNil)))))))) (retS (cE (.bl false))) (nxS)
theorem x_u_law_good_k24_4 (ρ : KL.Env) : bx_u_law_good_k24_4 ρ = (ifS (tOrB (tst (bin neP (nmO 5) (frz (callV 2 f_u_law_covers [] (aCons (frz (nmE 2)) (aCons (frz (nmE 3)) (aNil))))))) (tst (bin neP (nmO 6) (frz (callV 2 f_u_law_covers [] (aCons (frz (nmE 4)) (aCons (frz (nmE 2)) (aNil)))))))) (retS (cE (.bl false))) (nxS)) ρ := nr rfl
def bx_u_law_good_k24_1 : SM := forS (itE (nmE 1)) (tgN 2) (seqS (bx_u_law_good_k24_2) (seqS (bx_u_law_good_k24_3) (bx_u_law_good_k24_4)))
theorem x_u_law_good_k24_1 (ρ : KL.Env) : bx_u_law_good_k24_1 ρ = (forS (itE (nmE 1)) (tgN 2) (seqS (bx_u_law_good_k24_2) (seqS (bx_u_law_good_k24_3) (bx_u_law_good_k24_4)))) ρ := nr rfl
def bx_u_law_good_k24_6 : SM := ifS (tst (bin neP (frz (callV 2 f_covers [] (aCons (frz (nmE 2)) (aCons (frz (nmE 3)) (aNil))))) (frz (callV 2 f_u_law_covers [] (aCons (frz (nmE 2)) (aCons (frz (nmE 3)) (aNil))))))) (retS (cE (.bl false))) (nxS)
theorem x_u_law_good_k24_6 (ρ : KL.Env) : bx_u_law_good_k24_6 ρ = (ifS (tst (bin neP (frz (callV 2 f_covers [] (aCons (frz (nmE 2)) (aCons (frz (nmE 3)) (aNil))))) (frz (callV 2 f_u_law_covers [] (aCons (frz (nmE 2)) (aCons (frz (nmE 3)) (aNil))))))) (retS (cE (.bl false))) (nxS)) ρ := nr rfl
def bx_u_law_good_k24_7 : SM := ifS (tst (bin neP (frz (callV 2 f_covers [] (aCons (frz (nmE 4)) (aCons (frz (nmE 2)) (aNil))))) (frz (callV 2 f_u_law_covers [] (aCons (frz (nmE 4)) (aCons (frz (nmE 2)) (aNil))))))) (retS (cE (.bl false))) (nxS)
theorem x_u_law_good_k24_7 (ρ : KL.Env) : bx_u_law_good_k24_7 ρ = (ifS (tst (bin neP (frz (callV 2 f_covers [] (aCons (frz (nmE 4)) (aCons (frz (nmE 2)) (aNil))))) (frz (callV 2 f_u_law_covers [] (aCons (frz (nmE 4)) (aCons (frz (nmE 2)) (aNil))))))) (retS (cE (.bl false))) (nxS)) ρ := nr rfl
def bx_u_law_good_k24_5 : SM := forS (itE (stkE (nmO 1) (ptS (frz (cE (.int 7)))))) (tgN 2) (seqS (bx_u_law_good_k24_6) (bx_u_law_good_k24_7))
theorem x_u_law_good_k24_5 (ρ : KL.Env) : bx_u_law_good_k24_5 ρ = (forS (itE (stkE (nmO 1) (ptS (frz (cE (.int 7)))))) (tgN 2) (seqS (bx_u_law_good_k24_6) (bx_u_law_good_k24_7))) ρ := nr rfl
def bx_u_law_good_k24_8 : SM := parS 7 8 (aCons (frz (bin ixP (nmO 0) (frz (cE (.int 0))))) (aCons (frz (bin ixP (nmO 0) (frz (cE (.int 0))))) (aNil)))
theorem x_u_law_good_k24_8 (ρ : KL.Env) : bx_u_law_good_k24_8 ρ = (parS 7 8 (aCons (frz (bin ixP (nmO 0) (frz (cE (.int 0))))) (aCons (frz (bin ixP (nmO 0) (frz (cE (.int 0))))) (aNil)))) ρ := nr rfl
def bx_u_law_good_k24_10 : SM := parS 7 8 (aCons (frz (callV 1 f_least_cover [] (aCons (frz (mkL (aCons (frz (nmE 7)) (aCons (frz (nmE 2)) (aNil))))) (aNil)))) (aCons (frz (callV 1 f_greatest_covered [] (aCons (frz (mkL (aCons (frz (nmE 8)) (aCons (frz (nmE 2)) (aNil))))) (aNil)))) (aNil)))
theorem x_u_law_good_k24_10 (ρ : KL.Env) : bx_u_law_good_k24_10 ρ = (parS 7 8 (aCons (frz (callV 1 f_least_cover [] (aCons (frz (mkL (aCons (frz (nmE 7)) (aCons (frz (nmE 2)) (aNil))))) (aNil)))) (aCons (frz (callV 1 f_greatest_covered [] (aCons (frz (mkL (aCons (frz (nmE 8)) (aCons (frz (nmE 2)) (aNil))))) (aNil)))) (aNil)))) ρ := nr rfl
def bx_u_law_good_k24_9 : SM := forS (itE (slE (nmO 0) (ptS (frz (cE (.int 1)))) (ptN))) (tgN 2) (bx_u_law_good_k24_10)
theorem x_u_law_good_k24_9 (ρ : KL.Env) : bx_u_law_good_k24_9 ρ = (forS (itE (slE (nmO 0) (ptS (frz (cE (.int 1)))) (ptN))) (tgN 2) (bx_u_law_good_k24_10)) ρ := nr rfl
def bx_u_law_good_k24_11 : SM := retS (eAnd (bin eqP (nmO 7) (nmO 3)) (bin eqP (nmO 8) (nmO 4)))
theorem x_u_law_good_k24_11 (ρ : KL.Env) : bx_u_law_good_k24_11 ρ = (retS (eAnd (bin eqP (nmO 7) (nmO 3)) (bin eqP (nmO 8) (nmO 4)))) ρ := nr rfl
def bd_u_law_good_k24 : SM := seqS (bx_u_law_good_k24_0) (seqS (bx_u_law_good_k24_1) (seqS (bx_u_law_good_k24_5) (seqS (bx_u_law_good_k24_8) (seqS (bx_u_law_good_k24_9) (bx_u_law_good_k24_11)))))
theorem d_u_law_good_k24 (ρ : KL.Env) : bd_u_law_good_k24 ρ = (seqS (bx_u_law_good_k24_0) (seqS (bx_u_law_good_k24_1) (seqS (bx_u_law_good_k24_5) (seqS (bx_u_law_good_k24_8) (seqS (bx_u_law_good_k24_9) (bx_u_law_good_k24_11)))))) ρ := nr rfl
def f_u_law_good_k24 : M Vl := fnM 8 bd_u_law_good_k24
theorem e_u_law_good_k24 (s0 s1 : Sl) : f_u_law_good_k24 [s0, s1] = fnK [s0, s1] (bd_u_law_good_k24 [s0, s1, .un, .un, .un, .un, .un, .un, .un, .un]) := nr (fnM_ap 8 bd_u_law_good_k24 [s0, s1])
def bx_law_k24_0 : SM := setS 1 (mkL (aNil))
theorem x_law_k24_0 (ρ : KL.Env) : bx_law_k24_0 ρ = (setS 1 (mkL (aNil))) ρ := nr rfl
def bx_law_k24_2 : SM := setS 1 (bin addP (nmO 1) (frz (callV 2 f_u_law_lots [] (aCons (frz (nmE 2)) (aCons (frz (nmE 2)) (aNil))))))
theorem x_law_k24_2 (ρ : KL.Env) : bx_law_k24_2 ρ = (setS 1 (bin addP (nmO 1) (frz (callV 2 f_u_law_lots [] (aCons (frz (nmE 2)) (aCons (frz (nmE 2)) (aNil))))))) ρ := nr rfl
def bx_law_k24_1 : SM := forS (itR1 (aCons (frz (cE (.int 11))) (aNil))) (tgN 2) (bx_law_k24_2)
theorem x_law_k24_1 (ρ : KL.Env) : bx_law_k24_1 ρ = (forS (itR1 (aCons (frz (cE (.int 11))) (aNil))) (tgN 2) (bx_law_k24_2)) ρ := nr rfl
def bx_law_k24_4 : SM := setS 4 (mkL (aCons (frz (callV 2 f_u_law_cell [] (aCons (frz (nmE 0)) (aCons (frz (nmE 3)) (aNil))))) (aNil)))
theorem x_law_k24_4 (ρ : KL.Env) : bx_law_k24_4 ρ = (setS 4 (mkL (aCons (frz (callV 2 f_u_law_cell [] (aCons (frz (nmE 0)) (aCons (frz (nmE 3)) (aNil))))) (aNil)))) ρ := nr rfl
def bx_law_k24_5 : SM := setS 5 (mkL (aNil))
theorem x_law_k24_5 (ρ : KL.Env) : bx_law_k24_5 ρ = (setS 5 (mkL (aNil))) ρ := nr rfl
def bx_law_k24_7 : SM := setS 7 (callI 3 f_u_law_lot [] (aCons (nmO 4) (aCons (frz (cE (.int 4))) (aCons (frz (bin ixP (frz (mkL (aCons (frz (cE (.int 2))) (aCons (frz (cE (.int 3))) (aCons (frz (cE (.int 6))) (aNil)))))) (frz (callI 2 f_u_law_take [] (aCons (nmO 4) (aCons (frz (cE (.int 3))) (aNil))))))) (aNil)))))
theorem x_law_k24_7 (ρ : KL.Env) : bx_law_k24_7 ρ = (setS 7 (callI 3 f_u_law_lot [] (aCons (nmO 4) (aCons (frz (cE (.int 4))) (aCons (frz (bin ixP (frz (mkL (aCons (frz (cE (.int 2))) (aCons (frz (cE (.int 3))) (aCons (frz (cE (.int 6))) (aNil)))))) (frz (callI 2 f_u_law_take [] (aCons (nmO 4) (aCons (frz (cE (.int 3))) (aNil))))))) (aNil)))))) ρ := nr rfl
def bx_law_k24_9 : SM := setS 7 (slE (nmO 7) (ptS (frz (cE (.int 1)))) (ptN))
theorem x_law_k24_9 (ρ : KL.Env) : bx_law_k24_9 ρ = (setS 7 (slE (nmO 7) (ptS (frz (cE (.int 1)))) (ptN))) ρ := nr rfl
def bx_law_k24_8 : SM := whS (tst (bin gtP (frz (callB sumP (aCons (nmO 7) (aNil)))) (frz (cE (.int 8))))) (bx_law_k24_9) 1000
theorem x_law_k24_8 (ρ : KL.Env) : bx_law_k24_8 ρ = (whS (tst (bin gtP (frz (callB sumP (aCons (nmO 7) (aNil)))) (frz (cE (.int 8))))) (bx_law_k24_9) 1000) ρ := nr rfl
def bx_law_k24_10 : SM := exS (mtd 5 gAppend (aCons (frz (nmE 7)) (aNil)))
theorem x_law_k24_10 (ρ : KL.Env) : bx_law_k24_10 ρ = (exS (mtd 5 gAppend (aCons (frz (nmE 7)) (aNil)))) ρ := nr rfl
def bx_law_k24_6 : SM := forS (itR1 (aCons (frz (bin addP (frz (cE (.int 2))) (frz (callI 2 f_u_law_take [] (aCons (nmO 4) (aCons (frz (cE (.int 2))) (aNil))))))) (aNil))) (tgN 6) (seqS (bx_law_k24_7) (seqS (bx_law_k24_8) (bx_law_k24_10)))
theorem x_law_k24_6 (ρ : KL.Env) : bx_law_k24_6 ρ = (forS (itR1 (aCons (frz (bin addP (frz (cE (.int 2))) (frz (callI 2 f_u_law_take [] (aCons (nmO 4) (aCons (frz (cE (.int 2))) (aNil))))))) (aNil))) (tgN 6) (seqS (bx_law_k24_7) (seqS (bx_law_k24_8) (bx_law_k24_10)))) ρ := nr rfl
def bx_law_k24_11 : SM := ifS (tNotB (tru (frz (callV 2 f_u_law_good_k24 [] (aCons (frz (nmE 5)) (aCons (frz (nmE 1)) (aNil))))))) (retS (cE (.bl false))) (nxS)
theorem x_law_k24_11 (ρ : KL.Env) : bx_law_k24_11 ρ = (ifS (tNotB (tru (frz (callV 2 f_u_law_good_k24 [] (aCons (frz (nmE 5)) (aCons (frz (nmE 1)) (aNil))))))) (retS (cE (.bl false))) (nxS)) ρ := nr rfl
def bx_law_k24_3 : SM := forS (itR1 (aCons (frz (callB maxP2 (aCons (frz (callB minP2 (aCons (frz (callB lenP (aCons (nmO 0) (aNil)))) (aCons (frz (cE (.int 4))) (aNil))))) (aCons (frz (cE (.int 1))) (aNil))))) (aNil))) (tgN 3) (seqS (bx_law_k24_4) (seqS (bx_law_k24_5) (seqS (bx_law_k24_6) (bx_law_k24_11))))
theorem x_law_k24_3 (ρ : KL.Env) : bx_law_k24_3 ρ = (forS (itR1 (aCons (frz (callB maxP2 (aCons (frz (callB minP2 (aCons (frz (callB lenP (aCons (nmO 0) (aNil)))) (aCons (frz (cE (.int 4))) (aNil))))) (aCons (frz (cE (.int 1))) (aNil))))) (aNil))) (tgN 3) (seqS (bx_law_k24_4) (seqS (bx_law_k24_5) (seqS (bx_law_k24_6) (bx_law_k24_11))))) ρ := nr rfl
def bx_law_k24_12 : SM := retS (cE (.bl true))
theorem x_law_k24_12 (ρ : KL.Env) : bx_law_k24_12 ρ = (retS (cE (.bl true))) ρ := nr rfl
def bd_law_k24 : SM := seqS (bx_law_k24_0) (seqS (bx_law_k24_1) (seqS (bx_law_k24_3) (bx_law_k24_12)))
theorem d_law_k24 (ρ : KL.Env) : bd_law_k24 ρ = (seqS (bx_law_k24_0) (seqS (bx_law_k24_1) (seqS (bx_law_k24_3) (bx_law_k24_12)))) ρ := nr rfl
def f_law_k24 : M Vl := fnM 7 bd_law_k24
theorem e_law_k24 (s0 : Sl) : f_law_k24 [s0] = fnK [s0] (bd_law_k24 [s0, .un, .un, .un, .un, .un, .un, .un]) := nr (fnM_ap 7 bd_law_k24 [s0])
end
end S
end

section
set_option Elab.async false
set_option linter.all false
set_option maxRecDepth 100000
set_option maxHeartbeats 4000000
namespace K24
open PySem L2 KL S
def top (i : Nat) : Stmt := PySem.Challenge.pw_keenlot_k24_whole_bounds_of_lots.main.body.getD i (.Pass ⟨0, 0, 0, 0⟩)
abbrev FnP (K : PySem.W.Frag) (x : Str) (st : Stmt) (kws : List (Str × V)) (f : Addr) (fd : FuncData) : Prop := FunD K x x (defArgs st) (defBody st) (defScope st) [] kws f fd
section
variable [Tabs]
def psL : List Str := ["KeenError", "InvalidLot", "InvalidList"]
/-! ### is_integer -/
abbrev s_is_integer : Stmt := top 8
theorem S_is_integer : FnScope ["value"] ["value"] (defScope s_is_integer) := ⟨rfl, rfl, rfl, by decide +kernel, rfl, by decide +kernel, by decide +kernel⟩
theorem ok_is_integer {P : Program} {w : World} {K : PySem.W.Frag} {mg : MgT} {base : Heap} {a_is_integer : Addr} {d_is_integer : FuncData} (F_is_integer : FnP K "is_integer" s_is_integer [] a_is_integer d_is_integer) (n_bool : mg "bool" = none) (n_int : mg "int" = none) (n_isinstance : mg "isinstance" = none) : FnG P w K mg base (L2.CX P w) 1 a_is_integer d_is_integer ["value"] (spF K mg 1 false f_is_integer) := by
  refine fn_rule (b := bd_is_integer) F_is_integer S_is_integer 0 rfl fun cdv hcd A outer s H E hr => ?_
  exact rss_one (rs_ret (re_and (re_isiT (by simp) (ro_name 0) rfl n_isinstance rfl n_int) (re_one (re_not (ro_of (re_isiT (by simp) (ro_name 0) rfl n_isinstance rfl n_bool))))))
/-! ### is_between -/
abbrev s_is_between : Stmt := top 9
theorem S_is_between : FnScope ["value", "low", "high"] ["value", "low", "high"] (defScope s_is_between) := ⟨rfl, rfl, rfl, by decide +kernel, rfl, by decide +kernel, by decide +kernel⟩
theorem ok_is_between {P : Program} {w : World} {K : PySem.W.Frag} {mg : MgT} {base : Heap} {a_is_between : Addr} {d_is_between : FuncData} {a_is_integer : Addr} {d_is_integer : FuncData} (F_is_between : FnP K "is_between" s_is_between [] a_is_between d_is_between) (F_is_integer : FnP K "is_integer" s_is_integer [] a_is_integer d_is_integer) (g_is_integer : mg "is_integer" = some (.ref a_is_integer)) (G_is_integer : FnG P w K mg base (L2.CX P w) 1 a_is_integer d_is_integer ["value"] (spF K mg 1 false f_is_integer)) : FnG P w K mg base (L2.CX P w) 2 a_is_between d_is_between ["value", "low", "high"] (spF K mg 3 false f_is_between) := by
  have b_is_integer : Binds K d_is_integer ["value"] [] := F_is_integer.bindsN fun _ _ _ _ _ _ us hl => match us, hl with | [_], _ => rfl
  refine fn_rule (b := bd_is_between) F_is_between S_is_between 0 rfl fun cdv hcd A outer s H E hr => ?_
  exact rss_one (rs_ret (re_and (re_call G_is_integer (hr.mono (by decide)) rfl g_is_integer F_is_integer.kp b_is_integer .nil (fun _ _ => .nil) (ra_cons (ro_of (re_name 0)) (ra_nil))) (re_one (re_chn rc_le rc_le (ro_name 1) (ro_name 0) (ro_name 2)))))
/-! ### is_within_limits -/
abbrev s_is_within_limits : Stmt := top 10
theorem S_is_within_limits : FnScope ["lot"] ["lot"] (defScope s_is_within_limits) := ⟨rfl, rfl, rfl, by decide +kernel, rfl, by decide +kernel, by decide +kernel⟩
theorem ok_is_within_limits {P : Program} {w : World} {K : PySem.W.Frag} {mg : MgT} {base : Heap} {a_is_within_limits : Addr} {d_is_within_limits : FuncData} (F_is_within_limits : FnP K "is_within_limits" s_is_within_limits [] a_is_within_limits d_is_within_limits) (n_len : mg "len" = none) (n_sum : mg "sum" = none) (i_MOST_STEEL : ∃ t, mg "MOST_STEEL" = some (.int 200 t)) (i_MOST_TOOLS : ∃ t, mg "MOST_TOOLS" = some (.int 60 t)) : FnG P w K mg base (L2.CX P w) 1 a_is_within_limits d_is_within_limits ["lot"] (spF K mg 1 false f_is_within_limits) := by
  refine fn_rule (b := bd_is_within_limits) F_is_within_limits S_is_within_limits 0 rfl fun cdv hcd A outer s H E hr => ?_
  exact rss_one (rs_ret (re_and (re_c1 rc_le (ro_of (re_callB call_len p_len rfl n_len (ra_cons (ro_name 0) (ra_nil)))) (ro_of (re_globI rfl i_MOST_TOOLS))) (re_one (re_c1 rc_le (ro_of (re_callB (cr_sumA rfl) p_sum rfl n_sum (ra_cons (ro_name 0) (ra_nil)))) (ro_of (re_globI rfl i_MOST_STEEL))))))
/-! ### is_valid_lot -/
abbrev s_is_valid_lot : Stmt := top 11
theorem S_is_valid_lot : FnScope ["value", "tool"] ["value"] (defScope s_is_valid_lot) := ⟨rfl, rfl, rfl, by decide +kernel, rfl, by decide +kernel, by decide +kernel⟩
theorem ok_is_valid_lot {P : Program} {w : World} {K : PySem.W.Frag} {mg : MgT} {base : Heap} {a_is_between : Addr} {d_is_between : FuncData} {a_is_valid_lot : Addr} {d_is_valid_lot : FuncData} {a_is_within_limits : Addr} {d_is_within_limits : FuncData} {c_is_valid_lot P_is_valid_lot : Addr} (F_is_valid_lot : FnP K "is_valid_lot" s_is_valid_lot [] a_is_valid_lot d_is_valid_lot) (F_is_between : FnP K "is_between" s_is_between [] a_is_between d_is_between) (g_is_between : mg "is_between" = some (.ref a_is_between)) (G_is_between : FnG P w K mg base (L2.CX P w) 2 a_is_between d_is_between ["value", "low", "high"] (spF K mg 3 false f_is_between)) (F_is_within_limits : FnP K "is_within_limits" s_is_within_limits [] a_is_within_limits d_is_within_limits) (g_is_within_limits : mg "is_within_limits" = some (.ref a_is_within_limits)) (G_is_within_limits : FnG P w K mg base (L2.CX P w) 1 a_is_within_limits d_is_within_limits ["lot"] (spF K mg 1 false f_is_within_limits)) (n_all : mg "all" = none) (n_isinstance : mg "isinstance" = none) (n_list : mg "list" = none) (n_sorted : mg "sorted" = none) (n_tuple : mg "tuple" = none) (i_MOST_STEEL : ∃ t, mg "MOST_STEEL" = some (.int 200 t)) (hP_is_valid_lot : Tabs.is P_is_valid_lot) (TB_is_valid_lot : GxR.TabB base mg c_is_valid_lot P_is_valid_lot) (hc_is_valid_lot : ∀ cdv, d_is_valid_lot.code = cdv → cdv = .ref c_is_valid_lot) : FnG P w K mg base (L2.CX P w) 6 a_is_valid_lot d_is_valid_lot ["value"] (spF K mg 1 false f_is_valid_lot) := by
  have b_is_between : Binds K d_is_between ["value", "low", "high"] [] := F_is_between.bindsN fun _ _ _ _ _ _ us hl => match us, hl with | [_, _, _], _ => rfl
  have b_is_within_limits : Binds K d_is_within_limits ["lot"] [] := F_is_within_limits.bindsN fun _ _ _ _ _ _ us hl => match us, hl with | [_], _ => rfl
  refine fn_rule (b := bd_is_valid_lot) F_is_valid_lot S_is_valid_lot 1 rfl fun cdv hcd A outer s H E hr => ?_
  exact rss_cons (rs_if (rt_not (rt_tru (ro_of (re_isiT (by simp) (ro_name 0) rfl n_isinstance rfl n_tuple)))) (rss_one (rs_ret (re_bl))) (rss_nil)) (rss_cons (rs_if (rt_not (rt_tru (ro_of (re_allB (k := 0) [("tool", 1)] hP_is_valid_lot rfl S_is_valid_lot.nd (hr.rm.mono (by decide)) rfl n_all TB_is_valid_lot (hc_is_valid_lot _ hcd) (by kernel_rfl) (ri_seq (re_name 0)) (fun _ _ _ _ _ _ _ => rg_name S_is_valid_lot.nd rfl (by first | exact Or.inl rfl | exact Or.inr rfl)) (fun _ _ _ _ _ _ _ => re_call G_is_between ((room_genG (k := 2) (hr.mono (by decide)) _).mono (by decide)) rfl g_is_between F_is_between.kp b_is_between .nil (fun _ _ => .nil) (ra_cons (ro_of (re_name 1)) (ra_cons (ro_of (re_int)) (ra_cons (ro_of (re_globI rfl i_MOST_STEEL)) (ra_nil))))) (gonly_name (by decide)))))) (rss_one (rs_ret (re_bl))) (rss_nil)) (rss_one (rs_ret (re_and (re_c1 (rc_eq hr.rm) (ro_of (re_callTy call_list_of p_list rfl n_list (ra_cons (ro_name 0) (ra_nil)))) (ro_of (re_sortRev (ro_name 0) rfl n_sorted))) (re_one (re_call G_is_within_limits (hr.mono (by decide)) rfl g_is_within_limits F_is_within_limits.kp b_is_within_limits .nil (fun _ _ => .nil) (ra_cons (ro_of (re_name 0)) (ra_nil))))))))
/-! ### check_lot -/
abbrev s_check_lot : Stmt := top 12
theorem S_check_lot : FnScope ["value"] ["value"] (defScope s_check_lot) := ⟨rfl, rfl, rfl, by decide +kernel, rfl, by decide +kernel, by decide +kernel⟩
theorem ok_check_lot {P : Program} {w : World} {K : PySem.W.Frag} {mg : MgT} {base : Heap} {a_check_lot : Addr} {d_check_lot : FuncData} {a_is_valid_lot : Addr} {d_is_valid_lot : FuncData} (F_check_lot : FnP K "check_lot" s_check_lot [] a_check_lot d_check_lot) (F_is_valid_lot : FnP K "is_valid_lot" s_is_valid_lot [] a_is_valid_lot d_is_valid_lot) (g_is_valid_lot : mg "is_valid_lot" = some (.ref a_is_valid_lot)) (G_is_valid_lot : FnG P w K mg base (L2.CX P w) 6 a_is_valid_lot d_is_valid_lot ["value"] (spF K mg 1 false f_is_valid_lot)) (e_InvalidLot : ErrK K mg "InvalidLot") : FnG P w K mg base (L2.CX P w) 7 a_check_lot d_check_lot ["value"] (spF K mg 1 false f_check_lot) := by
  have b_is_valid_lot : Binds K d_is_valid_lot ["value"] [] := F_is_valid_lot.bindsN fun _ _ _ _ _ _ us hl => match us, hl with | [_], _ => rfl
  refine fn_rule (b := bd_check_lot) F_check_lot S_check_lot 0 rfl fun cdv hcd A outer s H E hr => ?_
  exact rss_one (rs_if (rt_not (rt_tru (ro_of (re_call G_is_valid_lot (hr.mono (by decide)) rfl g_is_valid_lot F_is_valid_lot.kp b_is_valid_lot .nil (fun _ _ => .nil) (ra_cons (ro_of (re_name 0)) (ra_nil)))))) (rss_one (rs_raiseE rfl e_InvalidLot rfl)) (rss_nil))
/-! ### capacity_of -/
abbrev s_capacity_of : Stmt := top 14
theorem S_capacity_of : FnScope ["tools", "need", "tool"] ["tools", "need"] (defScope s_capacity_of) := ⟨rfl, rfl, rfl, by decide +kernel, rfl, by decide +kernel, by decide +kernel⟩
theorem ok_capacity_of {P : Program} {w : World} {K : PySem.W.Frag} {mg : MgT} {base : Heap} {a_capacity_of : Addr} {d_capacity_of : FuncData} (F_capacity_of : FnP K "capacity_of" s_capacity_of [] a_capacity_of d_capacity_of) (n_sum : mg "sum" = none) : FnG P w K mg base (L2.CX P w) 1 a_capacity_of d_capacity_of ["tools", "need"] (spF K mg 2 false f_capacity_of) := by
  refine fn_rule (b := bd_capacity_of) F_capacity_of S_capacity_of 1 rfl fun cdv hcd A outer s H E hr => ?_
  exact rss_one (rs_ret (re_callB (cr_sumA rfl) p_sum rfl n_sum (ra_cons (ro_of (re_lcB [("tool", 2)] rfl S_capacity_of.nd (by kernel_rfl) (ri_seq (re_name 0)) (fun _ _ _ _ _ => rg_name S_capacity_of.nd rfl (by first | exact Or.inl rfl | exact Or.inr rfl)) (fun _ _ _ _ _ => rts_one (rt_c1 rc_ge (ro_name 2) (ro_name 1))) (fun _ _ _ _ _ => re_add (ro_of (re_sub (ro_name 2) (ro_name 1))) (ro_of (re_int))) (gonly_name (by decide)))) (ra_nil))))
/-! ### _least_gap -/
abbrev s_u_least_gap : Stmt := top 20
theorem S_u_least_gap : FnScope ["first", "second", "need"] ["first", "second"] (defScope s_u_least_gap) := ⟨rfl, rfl, rfl, by decide +kernel, rfl, by decide +kernel, by decide +kernel⟩
theorem ok_u_least_gap {P : Program} {w : World} {K : PySem.W.Frag} {mg : MgT} {base : Heap} {a_capacity_of : Addr} {d_capacity_of : FuncData} {a_u_least_gap : Addr} {d_u_least_gap : FuncData} (F_u_least_gap : FnP K "_least_gap" s_u_least_gap [] a_u_least_gap d_u_least_gap) (F_capacity_of : FnP K "capacity_of" s_capacity_of [] a_capacity_of d_capacity_of) (g_capacity_of : mg "capacity_of" = some (.ref a_capacity_of)) (G_capacity_of : FnG P w K mg base (L2.CX P w) 1 a_capacity_of d_capacity_of ["tools", "need"] (spF K mg 2 false f_capacity_of)) (n_max : mg "max" = none) (n_range : mg "range" = none) : FnG P w K mg base (L2.CX P w) 2 a_u_least_gap d_u_least_gap ["first", "second"] (spF K mg 2 false f_u_least_gap) := by
  have b_capacity_of : Binds K d_capacity_of ["tools", "need"] [] := F_capacity_of.bindsN fun _ _ _ _ _ _ us hl => match us, hl with | [_, _], _ => rfl
  refine fn_rule (b := bd_u_least_gap) F_u_least_gap S_u_least_gap 1 rfl fun cdv hcd A outer s H E hr => ?_
  exact rss_cons (rs_for (passes_of rfl) rfl (ri_range2 rfl n_range (ra_cons (ro_of (re_int)) (ra_cons (ro_of (re_add (ro_of (re_callB (cr_maxA rfl) p_max rfl n_max (ra_cons (ro_of (re_tup (ra_cons (ro_of (re_int)) (ra_star (ro_name 1) (ra_nil))))) (ra_nil)))) (ro_of (re_int)))) (ra_nil)))) (rg_name S_u_least_gap.nd rfl (by first | exact Or.inl rfl | exact Or.inr rfl)) (rss_one (rs_if (rt_c1 rc_lt (ro_of (re_call G_capacity_of (hr.mono (by decide)) rfl g_capacity_of F_capacity_of.kp b_capacity_of .nil (fun _ _ => .nil) (ra_cons (ro_of (re_name 0)) (ra_cons (ro_of (re_name 2)) (ra_nil))))) (ro_of (re_call G_capacity_of (hr.mono (by decide)) rfl g_capacity_of F_capacity_of.kp b_capacity_of .nil (fun _ _ => .nil) (ra_cons (ro_of (re_name 1)) (ra_cons (ro_of (re_name 2)) (ra_nil)))))) (rss_one (rs_ret (re_move 2))) (rss_nil)))) (rss_one (rs_ret (re_non)))
/-! ### covers -/
abbrev s_covers : Stmt := top 17
theorem S_covers : FnScope ["first", "second"] ["first", "second"] (defScope s_covers) := ⟨rfl, rfl, rfl, by decide +kernel, rfl, by decide +kernel, by decide +kernel⟩
theorem ok_covers {P : Program} {w : World} {K : PySem.W.Frag} {mg : MgT} {base : Heap} {a_check_lot : Addr} {d_check_lot : FuncData} {a_covers : Addr} {d_covers : FuncData} {a_u_least_gap : Addr} {d_u_least_gap : FuncData} (F_covers : FnP K "covers" s_covers [] a_covers d_covers) (F_u_least_gap : FnP K "_least_gap" s_u_least_gap [] a_u_least_gap d_u_least_gap) (g_u_least_gap : mg "_least_gap" = some (.ref a_u_least_gap)) (G_u_least_gap : FnG P w K mg base (L2.CX P w) 2 a_u_least_gap d_u_least_gap ["first", "second"] (spF K mg 2 false f_u_least_gap)) (F_check_lot : FnP K "check_lot" s_check_lot [] a_check_lot d_check_lot) (g_check_lot : mg "check_lot" = some (.ref a_check_lot)) (G_check_lot : FnG P w K mg base (L2.CX P w) 7 a_check_lot d_check_lot ["value"] (spF K mg 1 false f_check_lot)) : FnG P w K mg base (L2.CX P w) 8 a_covers d_covers ["first", "second"] (spF K mg 2 false f_covers) := by
  have b_u_least_gap : Binds K d_u_least_gap ["first", "second"] [] := F_u_least_gap.bindsN fun _ _ _ _ _ _ us hl => match us, hl with | [_, _], _ => rfl
  have b_check_lot : Binds K d_check_lot ["value"] [] := F_check_lot.bindsN fun _ _ _ _ _ _ us hl => match us, hl with | [_], _ => rfl
  refine fn_rule (b := bd_covers) F_covers S_covers 0 rfl fun cdv hcd A outer s H E hr => ?_
  exact rss_cons (rs_expr (re_call G_check_lot (hr.mono (by decide)) rfl g_check_lot F_check_lot.kp b_check_lot .nil (fun _ _ => .nil) (ra_cons (ro_of (re_name 0)) (ra_nil)))) (rss_cons (rs_expr (re_call G_check_lot (hr.mono (by decide)) rfl g_check_lot F_check_lot.kp b_check_lot .nil (fun _ _ => .nil) (ra_cons (ro_of (re_name 1)) (ra_nil)))) (rss_one (rs_ret (re_c1 rc_is (ro_of (re_call G_u_least_gap (hr.mono (by decide)) rfl g_u_least_gap F_u_least_gap.kp b_u_least_gap .nil (fun _ _ => .nil) (ra_cons (ro_of (re_name 0)) (ra_cons (ro_of (re_name 1)) (ra_nil))))) (ro_of (re_non))))))
/-! ### _check_lots -/
abbrev s_u_check_lots : Stmt := top 23
theorem S_u_check_lots : FnScope ["value", "item"] ["value"] (defScope s_u_check_lots) := ⟨rfl, rfl, rfl, by decide +kernel, rfl, by decide +kernel, by decide +kernel⟩
theorem ok_u_check_lots {P : Program} {w : World} {K : PySem.W.Frag} {mg : MgT} {base : Heap} {a_is_valid_lot : Addr} {d_is_valid_lot : FuncData} {a_u_check_lots : Addr} {d_u_check_lots : FuncData} {c_u_check_lots P_u_check_lots : Addr} (F_u_check_lots : FnP K "_check_lots" s_u_check_lots [] a_u_check_lots d_u_check_lots) (F_is_valid_lot : FnP K "is_valid_lot" s_is_valid_lot [] a_is_valid_lot d_is_valid_lot) (g_is_valid_lot : mg "is_valid_lot" = some (.ref a_is_valid_lot)) (G_is_valid_lot : FnG P w K mg base (L2.CX P w) 6 a_is_valid_lot d_is_valid_lot ["value"] (spF K mg 1 false f_is_valid_lot)) (n_all : mg "all" = none) (n_isinstance : mg "isinstance" = none) (n_len : mg "len" = none) (n_list : mg "list" = none) (i_MOST_LOTS : ∃ t, mg "MOST_LOTS" = some (.int 20 t)) (e_InvalidList : ErrK K mg "InvalidList") (hP_u_check_lots : Tabs.is P_u_check_lots) (TB_u_check_lots : GxR.TabB base mg c_u_check_lots P_u_check_lots) (hc_u_check_lots : ∀ cdv, d_u_check_lots.code = cdv → cdv = .ref c_u_check_lots) : FnG P w K mg base (L2.CX P w) 10 a_u_check_lots d_u_check_lots ["value"] (spF K mg 1 false f_u_check_lots) := by
  have b_is_valid_lot : Binds K d_is_valid_lot ["value"] [] := F_is_valid_lot.bindsN fun _ _ _ _ _ _ us hl => match us, hl with | [_], _ => rfl
  refine fn_rule (b := bd_u_check_lots) F_u_check_lots S_u_check_lots 1 rfl fun cdv hcd A outer s H E hr => ?_
  exact rss_cons (rs_if (rt_w (rw_or (rt_not (rt_tru (ro_of (re_isiT (by simp) (ro_name 0) rfl n_isinstance rfl n_list)))) (rw_or1 (rt_not (rt_chn rc_le rc_le (ro_of (re_int)) (ro_of (re_callB call_len p_len rfl n_len (ra_cons (ro_name 0) (ra_nil)))) (ro_of (re_globI rfl i_MOST_LOTS))))))) (rss_one (rs_raiseE rfl e_InvalidList rfl)) (rss_nil)) (rss_one (rs_if (rt_not (rt_tru (ro_of (re_allB (k := 0) [("item", 1)] hP_u_check_lots rfl S_u_check_lots.nd (hr.rm.mono (by decide)) rfl n_all TB_u_check_lots (hc_u_check_lots _ hcd) (by kernel_rfl) (ri_seq (re_name 0)) (fun _ _ _ _ _ _ _ => rg_name S_u_check_lots.nd rfl (by first | exact Or.inl rfl | exact Or.inr rfl)) (fun _ _ _ _ _ _ _ => re_call G_is_valid_lot ((room_genG (k := 6) (hr.mono (by decide)) _).mono (by decide)) rfl g_is_valid_lot F_is_valid_lot.kp b_is_valid_lot .nil (fun _ _ => .nil) (ra_cons (ro_of (re_name 1)) (ra_nil))) (gonly_name (by decide)))))) (rss_one (rs_raiseE rfl e_InvalidList rfl)) (rss_nil)))
/-! ### _lot_with_capacities -/
abbrev s_u_lot_with_capacities : Stmt := top 22
theorem S_u_lot_with_capacities : FnScope ["capacities", "tools", "tool", "many"] ["capacities"] (defScope s_u_lot_with_capacities) := ⟨rfl, rfl, rfl, by decide +kernel, rfl, by decide +kernel, by decide +kernel⟩
theorem ok_u_lot_with_capacities {P : Program} {w : World} {K : PySem.W.Frag} {mg : MgT} {base : Heap} {a_u_lot_with_capacities : Addr} {d_u_lot_with_capacities : FuncData} (F_u_lot_with_capacities : FnP K "_lot_with_capacities" s_u_lot_with_capacities [] a_u_lot_with_capacities d_u_lot_with_capacities) (n_range : mg "range" = none) (n_tuple : mg "tuple" = none) (i_MOST_NUMBER : ∃ t, mg "MOST_NUMBER" = some (.int 200 t)) : FnG P w K mg base (L2.CX P w) 1 a_u_lot_with_capacities d_u_lot_with_capacities ["capacities"] (spF K mg 1 false f_u_lot_with_capacities) := by
  refine fn_rule (b := bd_u_lot_with_capacities) F_u_lot_with_capacities S_u_lot_with_capacities 3 rfl fun cdv hcd A outer s H E hr => ?_
  exact rss_cons (rs_set S_u_lot_with_capacities.nd (i := 1) rfl (by first | exact Or.inl rfl | exact Or.inr rfl) (re_lst (ra_nil))) (rss_cons (rs_for (passes_of rfl) rfl (ri_range3 rfl n_range (ra_cons (ro_of (re_globI rfl i_MOST_NUMBER)) (ra_cons (ro_of (re_int)) (ra_cons (ro_of (re_neg (ro_of (re_int)))) (ra_nil))))) (rg_name S_u_lot_with_capacities.nd rfl (by first | exact Or.inl rfl | exact Or.inr rfl)) (rss_cons (rs_set S_u_lot_with_capacities.nd (i := 3) rfl (by first | exact Or.inl rfl | exact Or.inr rfl) (re_add (ro_of (re_sub (ro_of (re_ix (ro_name 0) (ro_of (re_sub (ro_name 2) (ro_of (re_int)))))) (ro_of (re_mul (ro_of (re_int)) (ro_of (re_ix (ro_name 0) (ro_name 2))))))) (ro_of (re_ix (ro_name 0) (ro_of (re_add (ro_name 2) (ro_of (re_int)))))))) (rss_one (rs_set S_u_lot_with_capacities.nd (i := 1) rfl (by first | exact Or.inl rfl | exact Or.inr rfl) (re_add (ro_name 1) (ro_of (re_mul (ro_of (re_lst (ra_cons (ro_of (re_name 2)) (ra_nil)))) (ro_name 3)))))))) (rss_one (rs_ret (re_callTy call_tupleF p_tuple rfl n_tuple (ra_cons (ro_name 1) (ra_nil))))))
/-! ### _greatest_capacity -/
abbrev s_u_greatest_capacity : Stmt := top 21
theorem S_u_greatest_capacity : FnScope ["lots", "need", "lot"] ["lots", "need"] (defScope s_u_greatest_capacity) := ⟨rfl, rfl, rfl, by decide +kernel, rfl, by decide +kernel, by decide +kernel⟩
theorem ok_u_greatest_capacity {P : Program} {w : World} {K : PySem.W.Frag} {mg : MgT} {base : Heap} {a_capacity_of : Addr} {d_capacity_of : FuncData} {a_u_greatest_capacity : Addr} {d_u_greatest_capacity : FuncData} (F_u_greatest_capacity : FnP K "_greatest_capacity" s_u_greatest_capacity [] a_u_greatest_capacity d_u_greatest_capacity) (F_capacity_of : FnP K "capacity_of" s_capacity_of [] a_capacity_of d_capacity_of) (g_capacity_of : mg "capacity_of" = some (.ref a_capacity_of)) (G_capacity_of : FnG P w K mg base (L2.CX P w) 1 a_capacity_of d_capacity_of ["tools", "need"] (spF K mg 2 false f_capacity_of)) (n_max : mg "max" = none) : FnG P w K mg base (L2.CX P w) 2 a_u_greatest_capacity d_u_greatest_capacity ["lots", "need"] (spF K mg 2 false f_u_greatest_capacity) := by
  have b_capacity_of : Binds K d_capacity_of ["tools", "need"] [] := F_capacity_of.bindsN fun _ _ _ _ _ _ us hl => match us, hl with | [_, _], _ => rfl
  refine fn_rule (b := bd_u_greatest_capacity) F_u_greatest_capacity S_u_greatest_capacity 1 rfl fun cdv hcd A outer s H E hr => ?_
  exact rss_one (rs_ret (re_callB (cr_maxA rfl) p_max rfl n_max (ra_cons (ro_of (re_lcB [("lot", 2)] rfl S_u_greatest_capacity.nd (by kernel_rfl) (ri_seq (re_name 0)) (fun _ _ _ _ _ => rg_name S_u_greatest_capacity.nd rfl (by first | exact Or.inl rfl | exact Or.inr rfl)) (fun _ _ _ _ _ => rts_nil) (fun _ _ _ _ _ => re_call G_capacity_of (hr.mono (by decide)) rfl g_capacity_of F_capacity_of.kp b_capacity_of .nil (fun _ _ => .nil) (ra_cons (ro_of (re_name 2)) (ra_cons (ro_of (re_name 1)) (ra_nil)))) (gonly_name (by decide)))) (ra_nil))))
/-! ### least_cover -/
abbrev s_least_cover : Stmt := top 18
theorem S_least_cover : FnScope ["lots", "need"] ["lots"] (defScope s_least_cover) := ⟨rfl, rfl, rfl, by decide +kernel, rfl, by decide +kernel, by decide +kernel⟩
theorem ok_least_cover {P : Program} {w : World} {K : PySem.W.Frag} {mg : MgT} {base : Heap} {a_least_cover : Addr} {d_least_cover : FuncData} {a_u_check_lots : Addr} {d_u_check_lots : FuncData} {a_u_greatest_capacity : Addr} {d_u_greatest_capacity : FuncData} {a_u_lot_with_capacities : Addr} {d_u_lot_with_capacities : FuncData} (F_least_cover : FnP K "least_cover" s_least_cover [] a_least_cover d_least_cover) (F_u_check_lots : FnP K "_check_lots" s_u_check_lots [] a_u_check_lots d_u_check_lots) (g_u_check_lots : mg "_check_lots" = some (.ref a_u_check_lots)) (G_u_check_lots : FnG P w K mg base (L2.CX P w) 10 a_u_check_lots d_u_check_lots ["value"] (spF K mg 1 false f_u_check_lots)) (F_u_greatest_capacity : FnP K "_greatest_capacity" s_u_greatest_capacity [] a_u_greatest_capacity d_u_greatest_capacity) (g_u_greatest_capacity : mg "_greatest_capacity" = some (.ref a_u_greatest_capacity)) (G_u_greatest_capacity : FnG P w K mg base (L2.CX P w) 2 a_u_greatest_capacity d_u_greatest_capacity ["lots", "need"] (spF K mg 2 false f_u_greatest_capacity)) (F_u_lot_with_capacities : FnP K "_lot_with_capacities" s_u_lot_with_capacities [] a_u_lot_with_capacities d_u_lot_with_capacities) (g_u_lot_with_capacities : mg "_lot_with_capacities" = some (.ref a_u_lot_with_capacities)) (G_u_lot_with_capacities : FnG P w K mg base (L2.CX P w) 1 a_u_lot_with_capacities d_u_lot_with_capacities ["capacities"] (spF K mg 1 false f_u_lot_with_capacities)) (n_range : mg "range" = none) (i_MOST_NUMBER : ∃ t, mg "MOST_NUMBER" = some (.int 200 t)) : FnG P w K mg base (L2.CX P w) 11 a_least_cover d_least_cover ["lots"] (spF K mg 1 false f_least_cover) := by
  have b_u_check_lots : Binds K d_u_check_lots ["value"] [] := F_u_check_lots.bindsN fun _ _ _ _ _ _ us hl => match us, hl with | [_], _ => rfl
  have b_u_greatest_capacity : Binds K d_u_greatest_capacity ["lots", "need"] [] := F_u_greatest_capacity.bindsN fun _ _ _ _ _ _ us hl => match us, hl with | [_, _], _ => rfl
  have b_u_lot_with_capacities : Binds K d_u_lot_with_capacities ["capacities"] [] := F_u_lot_with_capacities.bindsN fun _ _ _ _ _ _ us hl => match us, hl with | [_], _ => rfl
  refine fn_rule (b := bd_least_cover) F_least_cover S_least_cover 1 rfl fun cdv hcd A outer s H E hr => ?_
  exact rss_cons (rs_expr (re_call G_u_check_lots (hr.mono (by decide)) rfl g_u_check_lots F_u_check_lots.kp b_u_check_lots .nil (fun _ _ => .nil) (ra_cons (ro_of (re_name 0)) (ra_nil)))) (rss_one (rs_ret (re_call G_u_lot_with_capacities (hr.mono (by decide)) rfl g_u_lot_with_capacities F_u_lot_with_capacities.kp b_u_lot_with_capacities .nil (fun _ _ => .nil) (ra_cons (ro_of (re_lcB [("need", 1)] rfl S_least_cover.nd (by kernel_rfl) (ri_range2 rfl n_range (ra_cons (ro_of (re_int)) (ra_cons (ro_of (re_add (ro_of (re_globI rfl i_MOST_NUMBER)) (ro_of (re_int)))) (ra_nil)))) (fun _ _ _ _ _ => rg_name S_least_cover.nd rfl (by first | exact Or.inl rfl | exact Or.inr rfl)) (fun _ _ _ _ _ => rts_nil) (fun _ _ _ _ _ => re_call G_u_greatest_capacity (hr.mono (by decide)) rfl g_u_greatest_capacity F_u_greatest_capacity.kp b_u_greatest_capacity .nil (fun _ _ => .nil) (ra_cons (ro_of (re_name 0)) (ra_cons (ro_of (re_name 1)) (ra_nil)))) (gonly_name (by decide)))) (ra_nil)))))
/-! ### greatest_covered -/
abbrev s_greatest_covered : Stmt := top 19
theorem S_greatest_covered : FnScope ["lots", "sums", "tools", "count", "less", "more", "tool", "lot"] ["lots"] (defScope s_greatest_covered) := ⟨rfl, rfl, rfl, by decide +kernel, rfl, by decide +kernel, by decide +kernel⟩
theorem ok_greatest_covered {P : Program} {w : World} {K : PySem.W.Frag} {mg : MgT} {base : Heap} {a_greatest_covered : Addr} {d_greatest_covered : FuncData} {a_u_check_lots : Addr} {d_u_check_lots : FuncData} (F_greatest_covered : FnP K "greatest_covered" s_greatest_covered [] a_greatest_covered d_greatest_covered) (F_u_check_lots : FnP K "_check_lots" s_u_check_lots [] a_u_check_lots d_u_check_lots) (g_u_check_lots : mg "_check_lots" = some (.ref a_u_check_lots)) (G_u_check_lots : FnG P w K mg base (L2.CX P w) 10 a_u_check_lots d_u_check_lots ["value"] (spF K mg 1 false f_u_check_lots)) (n_min : mg "min" = none) (n_range : mg "range" = none) (n_sum : mg "sum" = none) (n_tuple : mg "tuple" = none) (n_zip : mg "zip" = none) (i_MOST_TOOLS : ∃ t, mg "MOST_TOOLS" = some (.int 60 t)) : FnG P w K mg base (L2.CX P w) 11 a_greatest_covered d_greatest_covered ["lots"] (spF K mg 1 false f_greatest_covered) := by
  have b_u_check_lots : Binds K d_u_check_lots ["value"] [] := F_u_check_lots.bindsN fun _ _ _ _ _ _ us hl => match us, hl with | [_], _ => rfl
  refine fn_rule (b := bd_greatest_covered) F_greatest_covered S_greatest_covered 7 rfl fun cdv hcd A outer s H E hr => ?_
  exact rss_cons (rs_expr (re_call G_u_check_lots (hr.mono (by decide)) rfl g_u_check_lots F_u_check_lots.kp b_u_check_lots .nil (fun _ _ => .nil) (ra_cons (ro_of (re_name 0)) (ra_nil)))) (rss_cons (by first | exact rs_set S_greatest_covered.nd (i := 1) rfl (by first | exact Or.inl rfl | exact Or.inr rfl) (re_lcB [("count", 3)] rfl S_greatest_covered.nd (by kernel_rfl) (ri_range1 rfl n_range (ra_cons (ro_of (re_add (ro_of (re_globI rfl i_MOST_TOOLS)) (ro_of (re_int)))) (ra_nil))) (fun _ _ _ _ _ => rg_name S_greatest_covered.nd rfl (by first | exact Or.inl rfl | exact Or.inr rfl)) (fun _ _ _ _ _ => rts_nil) (fun _ _ _ _ _ => re_callB (cr_minA rfl) p_min rfl n_min (ra_cons (ro_of (re_lcB [("lot", 7)] rfl S_greatest_covered.nd (by kernel_rfl) (ri_seq (re_name 0)) (fun _ _ _ _ _ => rg_name S_greatest_covered.nd rfl (by first | exact Or.inl rfl | exact Or.inr rfl)) (fun _ _ _ _ _ => rts_nil) (fun _ _ _ _ _ => re_callB (cr_sumA rfl) p_sum rfl n_sum (ra_cons (ro_of (re_slice (ro_name 7) (rpo_none) (rpo_some (ro_name 3)))) (ra_nil))) (gonly_name (by decide)))) (ra_nil))) (gonly_name (by decide))) | exact rs_setLcB [("count", 3)] rfl S_greatest_covered.nd (i := 1) rfl rfl (by kernel_rfl) (ri_range1 rfl n_range (ra_cons (ro_of (re_add (ro_of (re_globI rfl i_MOST_TOOLS)) (ro_of (re_int)))) (ra_nil))) (fun _ _ _ _ _ => rg_name S_greatest_covered.nd rfl (by first | exact Or.inl rfl | exact Or.inr rfl)) (fun _ _ _ _ _ => rts_nil) (fun _ _ _ _ _ => re_callB (cr_minA rfl) p_min rfl n_min (ra_cons (ro_of (re_lcB [("lot", 7)] rfl S_greatest_covered.nd (by kernel_rfl) (ri_seq (re_name 0)) (fun _ _ _ _ _ => rg_name S_greatest_covered.nd rfl (by first | exact Or.inl rfl | exact Or.inr rfl)) (fun _ _ _ _ _ => rts_nil) (fun _ _ _ _ _ => re_callB (cr_sumA rfl) p_sum rfl n_sum (ra_cons (ro_of (re_slice (ro_name 7) (rpo_none) (rpo_some (ro_name 3)))) (ra_nil))) (gonly_name (by decide)))) (ra_nil))) (gonly_name (by decide))) (rss_cons (by first | exact rs_set S_greatest_covered.nd (i := 2) rfl (by first | exact Or.inl rfl | exact Or.inr rfl) (re_lcB [("less", 4), ("more", 5)] rfl S_greatest_covered.nd (by kernel_rfl) (ri_zip rfl n_zip (ra_cons (ro_of (re_name 1)) (ra_cons (ro_of (re_slice (ro_name 1) (rpo_some (ro_of (re_int))) (rpo_none))) (ra_nil)))) (fun _ _ _ _ _ => rg_tup (n := 2) rfl (pgs_cons (pg_name (i := 4) S_greatest_covered.nd rfl (by first | exact Or.inl rfl | exact Or.inr rfl)) (pgs_cons (pg_name (i := 5) S_greatest_covered.nd rfl (by first | exact Or.inl rfl | exact Or.inr rfl)) (pgs_nil)))) (fun _ _ _ _ _ => rts_nil) (fun _ _ _ _ _ => re_sub (ro_name 5) (ro_name 4)) (gonly_tup (by decide))) | exact rs_setLcB [("less", 4), ("more", 5)] rfl S_greatest_covered.nd (i := 2) rfl rfl (by kernel_rfl) (ri_zip rfl n_zip (ra_cons (ro_of (re_name 1)) (ra_cons (ro_of (re_slice (ro_name 1) (rpo_some (ro_of (re_int))) (rpo_none))) (ra_nil)))) (fun _ _ _ _ _ => rg_tup (n := 2) rfl (pgs_cons (pg_name (i := 4) S_greatest_covered.nd rfl (by first | exact Or.inl rfl | exact Or.inr rfl)) (pgs_cons (pg_name (i := 5) S_greatest_covered.nd rfl (by first | exact Or.inl rfl | exact Or.inr rfl)) (pgs_nil)))) (fun _ _ _ _ _ => rts_nil) (fun _ _ _ _ _ => re_sub (ro_name 5) (ro_name 4)) (gonly_tup (by decide))) (rss_one (rs_ret (re_callTy call_tupleF p_tuple rfl n_tuple (ra_cons (ro_of (re_lcB [("tool", 6)] rfl S_greatest_covered.nd (by kernel_rfl) (ri_seq (re_name 2)) (fun _ _ _ _ _ => rg_name S_greatest_covered.nd rfl (by first | exact Or.inl rfl | exact Or.inr rfl)) (fun _ _ _ _ _ => rts_one (rt_c1 rc_gt (ro_name 6) (ro_of (re_int)))) (fun _ _ _ _ _ => re_name 6) (gonly_name (by decide)))) (ra_nil)))))))
/-! ### _law_mixed -/
abbrev s_u_law_mixed : Stmt := top 25
theorem S_u_law_mixed : FnScope ["cell", "k", "mix"] ["cell", "k"] (defScope s_u_law_mixed) := ⟨rfl, rfl, rfl, by decide +kernel, rfl, by decide +kernel, by decide +kernel⟩
theorem ok_u_law_mixed {P : Program} {w : World} {K : PySem.W.Frag} {mg : MgT} {base : Heap} {a_u_law_mixed : Addr} {d_u_law_mixed : FuncData} (F_u_law_mixed : FnP K "_law_mixed" s_u_law_mixed [] a_u_law_mixed d_u_law_mixed) : FnG P w K mg base (L2.CX P w) 1 a_u_law_mixed d_u_law_mixed ["cell", "k"] (spF K mg 2 false f_u_law_mixed) := by
  refine fn_rule (b := bd_u_law_mixed) F_u_law_mixed S_u_law_mixed 1 rfl fun cdv hcd A outer s H E hr => ?_
  exact rss_cons (rs_set S_u_law_mixed.nd (i := 2) rfl (by first | exact Or.inl rfl | exact Or.inr rfl) (re_mod (ro_of (re_add (ro_of (re_add (ro_of (re_mul (ro_of (re_mod (ro_name 0) (ro_of (re_int)))) (ro_of (re_int)))) (ro_of (re_mul (ro_name 1) (ro_of (re_int)))))) (ro_of (re_int)))) (ro_of (re_int)))) (rss_cons (rs_set S_u_law_mixed.nd (i := 2) rfl (by first | exact Or.inl rfl | exact Or.inr rfl) (re_mod (ro_of (re_mul (ro_name 2) (ro_name 2))) (ro_of (re_int)))) (rss_one (rs_ret (re_mod (ro_of (re_mul (ro_name 2) (ro_of (re_add (ro_name 2) (ro_of (re_int)))))) (ro_of (re_int))))))
/-! ### _law_cell -/
abbrev s_u_law_cell : Stmt := top 26
theorem S_u_law_cell : FnScope ["script", "k", "cell", "found", "j"] ["script", "k"] (defScope s_u_law_cell) := ⟨rfl, rfl, rfl, by decide +kernel, rfl, by decide +kernel, by decide +kernel⟩
theorem ok_u_law_cell {P : Program} {w : World} {K : PySem.W.Frag} {mg : MgT} {base : Heap} {a_u_law_cell : Addr} {d_u_law_cell : FuncData} {a_u_law_mixed : Addr} {d_u_law_mixed : FuncData} (F_u_law_cell : FnP K "_law_cell" s_u_law_cell [] a_u_law_cell d_u_law_cell) (F_u_law_mixed : FnP K "_law_mixed" s_u_law_mixed [] a_u_law_mixed d_u_law_mixed) (g_u_law_mixed : mg "_law_mixed" = some (.ref a_u_law_mixed)) (G_u_law_mixed : FnG P w K mg base (L2.CX P w) 1 a_u_law_mixed d_u_law_mixed ["cell", "k"] (spF K mg 2 false f_u_law_mixed)) (n_len : mg "len" = none) (n_range : mg "range" = none) : FnG P w K mg base (L2.CX P w) 2 a_u_law_cell d_u_law_cell ["script", "k"] (spF K mg 2 false f_u_law_cell) := by
  have b_u_law_mixed : Binds K d_u_law_mixed ["cell", "k"] [] := F_u_law_mixed.bindsN fun _ _ _ _ _ _ us hl => match us, hl with | [_, _], _ => rfl
  refine fn_rule (b := bd_u_law_cell) F_u_law_cell S_u_law_cell 3 rfl fun cdv hcd A outer s H E hr => ?_
  exact rss_cons (rs_set S_u_law_cell.nd (i := 2) rfl (by first | exact Or.inl rfl | exact Or.inr rfl) (re_int)) (rss_cons (rs_if (rt_c1 rc_lt (ro_name 1) (ro_of (re_callB call_len p_len rfl n_len (ra_cons (ro_name 0) (ra_nil))))) (rss_one (rs_set S_u_law_cell.nd (i := 2) rfl (by first | exact Or.inl rfl | exact Or.inr rfl) (re_ix (ro_name 0) (ro_name 1)))) (rss_nil)) (rss_cons (rs_if (rt_c1 rc_ge (ro_name 2) (ro_of (re_pow (ro_of (re_int)) (ro_of (re_int))))) (rss_one (rs_ret (re_mod (ro_of (re_sub (ro_name 2) (ro_of (re_pow (ro_of (re_int)) (ro_of (re_int)))))) (ro_of (re_mul (ro_of (re_mul (ro_of (re_mul (ro_of (re_pow (ro_of (re_int)) (ro_of (re_int)))) (ro_of (re_pow (ro_of (re_int)) (ro_of (re_int)))))) (ro_of (re_pow (ro_of (re_int)) (ro_of (re_int)))))) (ro_of (re_pow (ro_of (re_int)) (ro_of (re_int))))))))) (rss_nil)) (rss_cons (rs_set S_u_law_cell.nd (i := 3) rfl (by first | exact Or.inl rfl | exact Or.inr rfl) (re_int)) (rss_cons (rs_for (passes_of rfl) rfl (ri_range1 rfl n_range (ra_cons (ro_of (re_int)) (ra_nil))) (rg_name S_u_law_cell.nd rfl (by first | exact Or.inl rfl | exact Or.inr rfl)) (rss_one (rs_set S_u_law_cell.nd (i := 3) rfl (by first | exact Or.inl rfl | exact Or.inr rfl) (re_add (ro_of (re_mul (ro_name 3) (ro_of (re_int)))) (ro_of (re_call G_u_law_mixed (hr.mono (by decide)) rfl g_u_law_mixed F_u_law_mixed.kp b_u_law_mixed .nil (fun _ _ => .nil) (ra_cons (ro_of (re_name 2)) (ra_cons (ro_of (re_add (ro_of (re_add (ro_of (re_mul (ro_of (re_int)) (ro_name 1))) (ro_of (re_mul (ro_of (re_int)) (ro_name 4))))) (ro_of (re_mul (ro_name 4) (ro_name 4))))) (ra_nil))))))))) (rss_one (rs_ret (re_move 3)))))))
/-! ### _law_take -/
abbrev s_u_law_take : Stmt := top 27
theorem S_u_law_take : FnScope ["own", "size", "digit"] ["own", "size"] (defScope s_u_law_take) := ⟨rfl, rfl, rfl, by decide +kernel, rfl, by decide +kernel, by decide +kernel⟩
theorem ok_u_law_take {P : Program} {w : World} {K : PySem.W.Frag} {mg : MgT} {base : Heap} {a_u_law_take : Addr} {d_u_law_take : FuncData} (F_u_law_take : FnP K "_law_take" s_u_law_take [] a_u_law_take d_u_law_take) : FnG P w K mg base (L2.CX P w) 1 a_u_law_take d_u_law_take ["own", "size"] (spF K mg 2 true f_u_law_take) := by
  refine fn_rule (b := bd_u_law_take) F_u_law_take S_u_law_take 1 rfl fun cdv hcd A outer s H E hr => ?_
  exact rss_cons (rs_set S_u_law_take.nd (i := 2) rfl (by first | exact Or.inl rfl | exact Or.inr rfl) (re_mod (ro_of (re_ix (ro_name 0) (ro_of (re_int)))) (ro_name 1))) (rss_cons (rs_setIx 0 (re_div (ro_of (re_ix (ro_name 0) (ro_of (re_int)))) (ro_name 1)) (ro_of (re_int))) (rss_one (rs_ret (re_move 2))))
/-! ### _law_lot -/
abbrev s_u_law_lot : Stmt := top 28
theorem S_u_law_lot : FnScope ["own", "most", "top", "values", "k"] ["own", "most", "top"] (defScope s_u_law_lot) := ⟨rfl, rfl, rfl, by decide +kernel, rfl, by decide +kernel, by decide +kernel⟩
theorem ok_u_law_lot {P : Program} {w : World} {K : PySem.W.Frag} {mg : MgT} {base : Heap} {a_u_law_lot : Addr} {d_u_law_lot : FuncData} {a_u_law_take : Addr} {d_u_law_take : FuncData} (F_u_law_lot : FnP K "_law_lot" s_u_law_lot [] a_u_law_lot d_u_law_lot) (F_u_law_take : FnP K "_law_take" s_u_law_take [] a_u_law_take d_u_law_take) (g_u_law_take : mg "_law_take" = some (.ref a_u_law_take)) (G_u_law_take : FnG P w K mg base (L2.CX P w) 1 a_u_law_take d_u_law_take ["own", "size"] (spF K mg 2 true f_u_law_take)) (n_range : mg "range" = none) (n_sorted : mg "sorted" = none) (n_sum : mg "sum" = none) (n_tuple : mg "tuple" = none) : FnG P w K mg base (L2.CX P w) 2 a_u_law_lot d_u_law_lot ["own", "most", "top"] (spF K mg 3 true f_u_law_lot) := by
  have b_u_law_take : Binds K d_u_law_take ["own", "size"] [] := F_u_law_take.bindsN fun _ _ _ _ _ _ us hl => match us, hl with | [_, _], _ => rfl
  refine fn_rule (b := bd_u_law_lot) F_u_law_lot S_u_law_lot 2 rfl fun cdv hcd A outer s H E hr => ?_
  exact rss_cons (rs_set S_u_law_lot.nd (i := 3) rfl (by first | exact Or.inl rfl | exact Or.inr rfl) (re_rev (ro_of (re_callB cr_sortA p_sort rfl n_sorted (ra_cons (ro_of (re_lcB [("k", 4)] rfl S_u_law_lot.nd (by kernel_rfl) (ri_range1 rfl n_range (ra_cons (ro_of (re_callI G_u_law_take (hr.mono (by decide)) rfl g_u_law_take F_u_law_take.kp b_u_law_take .nil (fun _ _ => .nil) (ra_cons (ro_name 0) (ra_cons (ro_of (re_add (ro_name 1) (ro_of (re_int)))) (ra_nil))))) (ra_nil))) (fun _ _ _ _ _ => rg_name S_u_law_lot.nd rfl (by first | exact Or.inl rfl | exact Or.inr rfl)) (fun _ _ _ _ _ => rts_nil) (fun _ _ _ _ _ => re_add (ro_of (re_int)) (ro_of (re_callI G_u_law_take (hr.mono (by decide)) rfl g_u_law_take F_u_law_take.kp b_u_law_take .nil (fun _ _ => .nil) (ra_cons (ro_name 0) (ra_cons (ro_of (re_name 2)) (ra_nil)))))) (gonly_name (by decide)))) (ra_nil)))))) (rss_cons (rs_while 1000 (passes_of rfl) (rt_c1 rc_gt (ro_of (re_callB (cr_sumA rfl) p_sum rfl n_sum (ra_cons (ro_name 3) (ra_nil)))) (ro_of (re_int))) (rss_one (rs_expr (re_mtd 3 PySem.F.slot_list_pop PySem.F.type_list_pop mt_popAt mu_popAt (ra_cons (ro_of (re_int)) (ra_nil)))))) (rss_one (rs_ret (re_callTy call_tupleF p_tuple rfl n_tuple (ra_cons (ro_name 3) (ra_nil))))))
/-! ### _law_capacity -/
abbrev s_u_law_capacity : Stmt := top 29
theorem S_u_law_capacity : FnScope ["batch", "level", "value"] ["batch", "level"] (defScope s_u_law_capacity) := ⟨rfl, rfl, rfl, by decide +kernel, rfl, by decide +kernel, by decide +kernel⟩
theorem ok_u_law_capacity {P : Program} {w : World} {K : PySem.W.Frag} {mg : MgT} {base : Heap} {a_u_law_capacity : Addr} {d_u_law_capacity : FuncData} (F_u_law_capacity : FnP K "_law_capacity" s_u_law_capacity [] a_u_law_capacity d_u_law_capacity) (n_sum : mg "sum" = none) : FnG P w K mg base (L2.CX P w) 1 a_u_law_capacity d_u_law_capacity ["batch", "level"] (spF K mg 2 false f_capacity_of) := by
  refine fn_rule (b := bd_capacity_of) F_u_law_capacity S_u_law_capacity 1 rfl fun cdv hcd A outer s H E hr => ?_
  exact rss_one (rs_ret (re_callB (cr_sumA rfl) p_sum rfl n_sum (ra_cons (ro_of (re_lcB [("value", 2)] rfl S_u_law_capacity.nd (by kernel_rfl) (ri_seq (re_name 0)) (fun _ _ _ _ _ => rg_name S_u_law_capacity.nd rfl (by first | exact Or.inl rfl | exact Or.inr rfl)) (fun _ _ _ _ _ => rts_one (rt_c1 rc_ge (ro_name 2) (ro_name 1))) (fun _ _ _ _ _ => re_add (ro_of (re_sub (ro_name 2) (ro_name 1))) (ro_of (re_int))) (gonly_name (by decide)))) (ra_nil))))
/-! ### _law_covers -/
abbrev s_u_law_covers : Stmt := top 30
theorem S_u_law_covers : FnScope ["one", "other", "level"] ["one", "other"] (defScope s_u_law_covers) := ⟨rfl, rfl, rfl, by decide +kernel, rfl, by decide +kernel, by decide +kernel⟩
theorem ok_u_law_covers {P : Program} {w : World} {K : PySem.W.Frag} {mg : MgT} {base : Heap} {a_u_law_capacity : Addr} {d_u_law_capacity : FuncData} {a_u_law_covers : Addr} {d_u_law_covers : FuncData} (F_u_law_covers : FnP K "_law_covers" s_u_law_covers [] a_u_law_covers d_u_law_covers) (F_u_law_capacity : FnP K "_law_capacity" s_u_law_capacity [] a_u_law_capacity d_u_law_capacity) (g_u_law_capacity : mg "_law_capacity" = some (.ref a_u_law_capacity)) (G_u_law_capacity : FnG P w K mg base (L2.CX P w) 1 a_u_law_capacity d_u_law_capacity ["batch", "level"] (spF K mg 2 false f_capacity_of)) (n_max : mg "max" = none) (n_range : mg "range" = none) : FnG P w K mg base (L2.CX P w) 2 a_u_law_covers d_u_law_covers ["one", "other"] (spF K mg 2 false f_u_law_covers) := by
  have b_u_law_capacity : Binds K d_u_law_capacity ["batch", "level"] [] := F_u_law_capacity.bindsN fun _ _ _ _ _ _ us hl => match us, hl with | [_, _], _ => rfl
  refine fn_rule (b := bd_u_law_covers) F_u_law_covers S_u_law_covers 1 rfl fun cdv hcd A outer s H E hr => ?_
  exact rss_cons (rs_for (passes_of rfl) rfl (ri_range2 rfl n_range (ra_cons (ro_of (re_int)) (ra_cons (ro_of (re_add (ro_of (re_callB (cr_maxA rfl) p_max rfl n_max (ra_cons (ro_of (re_add (ro_name 1) (ro_of (re_tup (ra_cons (ro_of (re_int)) (ra_nil)))))) (ra_nil)))) (ro_of (re_int)))) (ra_nil)))) (rg_name S_u_law_covers.nd rfl (by first | exact Or.inl rfl | exact Or.inr rfl)) (rss_one (rs_if (rt_c1 rc_lt (ro_of (re_call G_u_law_capacity (hr.mono (by decide)) rfl g_u_law_capacity F_u_law_capacity.kp b_u_law_capacity .nil (fun _ _ => .nil) (ra_cons (ro_of (re_name 0)) (ra_cons (ro_of (re_name 2)) (ra_nil))))) (ro_of (re_call G_u_law_capacity (hr.mono (by decide)) rfl g_u_law_capacity F_u_law_capacity.kp b_u_law_capacity .nil (fun _ _ => .nil) (ra_cons (ro_of (re_name 1)) (ra_cons (ro_of (re_name 2)) (ra_nil)))))) (rss_one (rs_ret (re_bl))) (rss_nil)))) (rss_one (rs_ret (re_bl)))
/-! ### _law_lots -/
abbrev s_u_law_lots : Stmt := top 31
theorem S_u_law_lots : FnScope ["total", "top", "found", "value", "rest"] ["total", "top"] (defScope s_u_law_lots) := ⟨rfl, rfl, rfl, by decide +kernel, rfl, by decide +kernel, by decide +kernel⟩
theorem ok_u_law_lots {P : Program} {w : World} {K : PySem.W.Frag} {mg : MgT} {base : Heap} {a_u_law_lots : Addr} {d_u_law_lots : FuncData} (F_u_law_lots : FnP K "_law_lots" s_u_law_lots [] a_u_law_lots d_u_law_lots) (n_min : mg "min" = none) (n_range : mg "range" = none) (g_u_law_lots : mg "_law_lots" = some (.ref a_u_law_lots)) (k : Nat) : FnG P w K mg base (L2.CX P w) (1 + k) a_u_law_lots d_u_law_lots ["total", "top"] (spF K mg 2 false (r_u_law_lots k)) := by
  have b_u_law_lots : Binds K d_u_law_lots ["total", "top"] [] := F_u_law_lots.bindsN fun _ _ _ _ _ _ us hl => match us, hl with | [_, _], _ => rfl
  induction k with
  | zero => exact fn_rule (k := 0) (b := fun _ => .bad) F_u_law_lots S_u_law_lots 3 rfl fun cdv hcd A outer s H E hr => rss_bad
  | succ k ih =>
  refine fn_rule (k := 1 + k) (b := bd_u_law_lots (r_u_law_lots k)) F_u_law_lots S_u_law_lots 3 rfl fun cdv hcd A outer s H E hr => ?_
  exact rss_cons (rs_if (rt_c1 (rc_eq hr.rm) (ro_name 0) (ro_of (re_int))) (rss_one (rs_ret (re_lst (ra_cons (ro_of (re_tup (ra_nil))) (ra_nil))))) (rss_nil)) (rss_cons (rs_set S_u_law_lots.nd (i := 2) rfl (by first | exact Or.inl rfl | exact Or.inr rfl) (re_lst (ra_nil))) (rss_cons (rs_for (passes_of rfl) rfl (ri_range2 rfl n_range (ra_cons (ro_of (re_int)) (ra_cons (ro_of (re_add (ro_of (re_callB (call_min2 rfl) p_min2 rfl n_min (ra_cons (ro_name 0) (ra_cons (ro_name 1) (ra_nil))))) (ro_of (re_int)))) (ra_nil)))) (rg_name S_u_law_lots.nd rfl (by first | exact Or.inl rfl | exact Or.inr rfl)) (rss_one (rs_for (passes_of rfl) rfl (ri_seq (re_call ih (hr.mono (by omega)) rfl g_u_law_lots F_u_law_lots.kp b_u_law_lots .nil (fun _ _ => .nil) (ra_cons (ro_of (re_sub (ro_name 0) (ro_name 3))) (ra_cons (ro_of (re_name 3)) (ra_nil))))) (rg_name S_u_law_lots.nd rfl (by first | exact Or.inl rfl | exact Or.inr rfl)) (rss_one (rs_expr (re_mtd 2 PySem.F.slot_list_append PySem.F.type_list_append mt_append mu_append (ra_cons (ro_of (re_add (ro_of (re_tup (ra_cons (ro_of (re_name 3)) (ra_nil)))) (ro_name 4))) (ra_nil)))))))) (rss_one (rs_ret (re_move 2)))))
/-! ### _law_good -/
abbrev s_u_law_good : Stmt := top 32
theorem S_u_law_good : FnScope ["batches", "every", "batch", "least", "greatest", "above", "below", "joined", "met", "one"] ["batches", "every"] (defScope s_u_law_good) := ⟨rfl, rfl, rfl, by decide +kernel, rfl, by decide +kernel, by decide +kernel⟩
theorem ok_u_law_good {P : Program} {w : World} {K : PySem.W.Frag} {mg : MgT} {base : Heap} {a_covers : Addr} {d_covers : FuncData} {a_greatest_covered : Addr} {d_greatest_covered : FuncData} {a_least_cover : Addr} {d_least_cover : FuncData} {a_u_law_covers : Addr} {d_u_law_covers : FuncData} {a_u_law_good : Addr} {d_u_law_good : FuncData} (F_u_law_good : FnP K "_law_good" s_u_law_good [] a_u_law_good d_u_law_good) (F_u_law_covers : FnP K "_law_covers" s_u_law_covers [] a_u_law_covers d_u_law_covers) (g_u_law_covers : mg "_law_covers" = some (.ref a_u_law_covers)) (G_u_law_covers : FnG P w K mg base (L2.CX P w) 2 a_u_law_covers d_u_law_covers ["one", "other"] (spF K mg 2 false f_u_law_covers)) (F_covers : FnP K "covers" s_covers [] a_covers d_covers) (g_covers : mg "covers" = some (.ref a_covers)) (G_covers : FnG P w K mg base (L2.CX P w) 8 a_covers d_covers ["first", "second"] (spF K mg 2 false f_covers)) (F_greatest_covered : FnP K "greatest_covered" s_greatest_covered [] a_greatest_covered d_greatest_covered) (g_greatest_covered : mg "greatest_covered" = some (.ref a_greatest_covered)) (G_greatest_covered : FnG P w K mg base (L2.CX P w) 11 a_greatest_covered d_greatest_covered ["lots"] (spF K mg 1 false f_greatest_covered)) (F_least_cover : FnP K "least_cover" s_least_cover [] a_least_cover d_least_cover) (g_least_cover : mg "least_cover" = some (.ref a_least_cover)) (G_least_cover : FnG P w K mg base (L2.CX P w) 11 a_least_cover d_least_cover ["lots"] (spF K mg 1 false f_least_cover)) (n_all : mg "all" = none) : FnG P w K mg base (L2.CX P w) 12 a_u_law_good d_u_law_good ["batches", "every"] (spF K mg 2 false f_u_law_good_k24) := by
  have b_u_law_covers : Binds K d_u_law_covers ["one", "other"] [] := F_u_law_covers.bindsN fun _ _ _ _ _ _ us hl => match us, hl with | [_, _], _ => rfl
  have b_covers : Binds K d_covers ["first", "second"] [] := F_covers.bindsN fun _ _ _ _ _ _ us hl => match us, hl with | [_, _], _ => rfl
  have b_greatest_covered : Binds K d_greatest_covered ["lots"] [] := F_greatest_covered.bindsN fun _ _ _ _ _ _ us hl => match us, hl with | [_], _ => rfl
  have b_least_cover : Binds K d_least_cover ["lots"] [] := F_least_cover.bindsN fun _ _ _ _ _ _ us hl => match us, hl with | [_], _ => rfl
  refine fn_rule (b := bd_u_law_good_k24) F_u_law_good S_u_law_good 8 rfl fun cdv hcd A outer s H E hr => ?_
  exact rss_cons (rs_par (i := 3) (j := 4) rfl S_u_law_good.nd rfl rfl (by decide) rfl rfl (ra_cons (ro_of (re_call G_least_cover (hr.mono (by decide)) rfl g_least_cover F_least_cover.kp b_least_cover .nil (fun _ _ => .nil) (ra_cons (ro_of (re_name 0)) (ra_nil)))) (ra_cons (ro_of (re_call G_greatest_covered (hr.mono (by decide)) rfl g_greatest_covered F_greatest_covered.kp b_greatest_covered .nil (fun _ _ => .nil) (ra_cons (ro_of (re_name 0)) (ra_nil)))) (ra_nil)))) (rss_cons (rs_for (passes_of rfl) rfl (ri_seq (re_name 1)) (rg_name S_u_law_good.nd rfl (by first | exact Or.inl rfl | exact Or.inr rfl)) (rss_cons (rs_set S_u_law_good.nd (i := 5) rfl (by first | exact Or.inl rfl | exact Or.inr rfl) (re_callB (cr_all rfl) p_all rfl n_all (ra_cons (ro_of (re_lcB [("one", 9)] rfl S_u_law_good.nd (by kernel_rfl) (ri_seq (re_name 0)) (fun _ _ _ _ _ => rg_name S_u_law_good.nd rfl (by first | exact Or.inl rfl | exact Or.inr rfl)) (fun _ _ _ _ _ => rts_nil) (fun _ _ _ _ _ => re_call G_u_law_covers (hr.mono (by decide)) rfl g_u_law_covers F_u_law_covers.kp b_u_law_covers .nil (fun _ _ => .nil) (ra_cons (ro_of (re_name 2)) (ra_cons (ro_of (re_name 9)) (ra_nil)))) (gonly_name (by decide)))) (ra_nil)))) (rss_cons (rs_set S_u_law_good.nd (i := 6) rfl (by first | exact Or.inl rfl | exact Or.inr rfl) (re_callB (cr_all rfl) p_all rfl n_all (ra_cons (ro_of (re_lcB [("one", 9)] rfl S_u_law_good.nd (by kernel_rfl) (ri_seq (re_name 0)) (fun _ _ _ _ _ => rg_name S_u_law_good.nd rfl (by first | exact Or.inl rfl | exact Or.inr rfl)) (fun _ _ _ _ _ => rts_nil) (fun _ _ _ _ _ => re_call G_u_law_covers (hr.mono (by decide)) rfl g_u_law_covers F_u_law_covers.kp b_u_law_covers .nil (fun _ _ => .nil) (ra_cons (ro_of (re_name 9)) (ra_cons (ro_of (re_name 2)) (ra_nil)))) (gonly_name (by decide)))) (ra_nil)))) (rss_one (rs_if (rt_w (rw_or (rt_c1 (rc_ne hr.rm) (ro_name 5) (ro_of (re_call G_u_law_covers (hr.mono (by decide)) rfl g_u_law_covers F_u_law_covers.kp b_u_law_covers .nil (fun _ _ => .nil) (ra_cons (ro_of (re_name 2)) (ra_cons (ro_of (re_name 3)) (ra_nil)))))) (rw_or1 (rt_c1 (rc_ne hr.rm) (ro_name 6) (ro_of (re_call G_u_law_covers (hr.mono (by decide)) rfl g_u_law_covers F_u_law_covers.kp b_u_law_covers .nil (fun _ _ => .nil) (ra_cons (ro_of (re_name 4)) (ra_cons (ro_of (re_name 2)) (ra_nil))))))))) (rss_one (rs_ret (re_bl))) (rss_nil)))))) (rss_cons (rs_for (passes_of rfl) rfl (ri_seq (re_stepK (ro_name 1) (rpo_some (ro_of (re_int))))) (rg_name S_u_law_good.nd rfl (by first | exact Or.inl rfl | exact Or.inr rfl)) (rss_cons (rs_if (rt_c1 (rc_ne hr.rm) (ro_of (re_call G_covers (hr.mono (by decide)) rfl g_covers F_covers.kp b_covers .nil (fun _ _ => .nil) (ra_cons (ro_of (re_name 2)) (ra_cons (ro_of (re_name 3)) (ra_nil))))) (ro_of (re_call G_u_law_covers (hr.mono (by decide)) rfl g_u_law_covers F_u_law_covers.kp b_u_law_covers .nil (fun _ _ => .nil) (ra_cons (ro_of (re_name 2)) (ra_cons (ro_of (re_name 3)) (ra_nil)))))) (rss_one (rs_ret (re_bl))) (rss_nil)) (rss_one (rs_if (rt_c1 (rc_ne hr.rm) (ro_of (re_call G_covers (hr.mono (by decide)) rfl g_covers F_covers.kp b_covers .nil (fun _ _ => .nil) (ra_cons (ro_of (re_name 4)) (ra_cons (ro_of (re_name 2)) (ra_nil))))) (ro_of (re_call G_u_law_covers (hr.mono (by decide)) rfl g_u_law_covers F_u_law_covers.kp b_u_law_covers .nil (fun _ _ => .nil) (ra_cons (ro_of (re_name 4)) (ra_cons (ro_of (re_name 2)) (ra_nil)))))) (rss_one (rs_ret (re_bl))) (rss_nil))))) (rss_cons (rs_par (i := 7) (j := 8) rfl S_u_law_good.nd rfl rfl (by decide) rfl rfl (ra_cons (ro_of (re_ix (ro_name 0) (ro_of (re_int)))) (ra_cons (ro_of (re_ix (ro_name 0) (ro_of (re_int)))) (ra_nil)))) (rss_cons (rs_for (passes_of rfl) rfl (ri_seq (re_slice (ro_name 0) (rpo_some (ro_of (re_int))) (rpo_none))) (rg_name S_u_law_good.nd rfl (by first | exact Or.inl rfl | exact Or.inr rfl)) (rss_one (rs_par (i := 7) (j := 8) rfl S_u_law_good.nd rfl rfl (by decide) rfl rfl (ra_cons (ro_of (re_call G_least_cover (hr.mono (by decide)) rfl g_least_cover F_least_cover.kp b_least_cover .nil (fun _ _ => .nil) (ra_cons (ro_of (re_lst (ra_cons (ro_of (re_name 7)) (ra_cons (ro_of (re_name 2)) (ra_nil))))) (ra_nil)))) (ra_cons (ro_of (re_call G_greatest_covered (hr.mono (by decide)) rfl g_greatest_covered F_greatest_covered.kp b_greatest_covered .nil (fun _ _ => .nil) (ra_cons (ro_of (re_lst (ra_cons (ro_of (re_name 8)) (ra_cons (ro_of (re_name 2)) (ra_nil))))) (ra_nil)))) (ra_nil)))))) (rss_one (rs_ret (re_and (re_c1 (rc_eq hr.rm) (ro_name 7) (ro_name 3)) (re_one (re_c1 (rc_eq hr.rm) (ro_name 8) (ro_name 4))))))))))
/-! ### law -/
abbrev s_law : Stmt := top 33
theorem S_law : FnScope ["script", "every", "total", "turn", "own", "batches", "j", "batch"] ["script"] (defScope s_law) := ⟨rfl, rfl, rfl, by decide +kernel, rfl, by decide +kernel, by decide +kernel⟩
theorem ok_law {P : Program} {w : World} {K : PySem.W.Frag} {mg : MgT} {base : Heap} {a_law : Addr} {d_law : FuncData} {a_u_law_cell : Addr} {d_u_law_cell : FuncData} {a_u_law_good : Addr} {d_u_law_good : FuncData} {a_u_law_lot : Addr} {d_u_law_lot : FuncData} {a_u_law_lots : Addr} {d_u_law_lots : FuncData} {a_u_law_take : Addr} {d_u_law_take : FuncData} (F_law : FnP K "law" s_law [] a_law d_law) (F_u_law_cell : FnP K "_law_cell" s_u_law_cell [] a_u_law_cell d_u_law_cell) (g_u_law_cell : mg "_law_cell" = some (.ref a_u_law_cell)) (G_u_law_cell : FnG P w K mg base (L2.CX P w) 2 a_u_law_cell d_u_law_cell ["script", "k"] (spF K mg 2 false f_u_law_cell)) (F_u_law_good : FnP K "_law_good" s_u_law_good [] a_u_law_good d_u_law_good) (g_u_law_good : mg "_law_good" = some (.ref a_u_law_good)) (G_u_law_good : FnG P w K mg base (L2.CX P w) 12 a_u_law_good d_u_law_good ["batches", "every"] (spF K mg 2 false f_u_law_good_k24)) (F_u_law_lot : FnP K "_law_lot" s_u_law_lot [] a_u_law_lot d_u_law_lot) (g_u_law_lot : mg "_law_lot" = some (.ref a_u_law_lot)) (G_u_law_lot : FnG P w K mg base (L2.CX P w) 2 a_u_law_lot d_u_law_lot ["own", "most", "top"] (spF K mg 3 true f_u_law_lot)) (F_u_law_lots : FnP K "_law_lots" s_u_law_lots [] a_u_law_lots d_u_law_lots) (g_u_law_lots : mg "_law_lots" = some (.ref a_u_law_lots)) (G_u_law_lots : FnG P w K mg base (L2.CX P w) 15 a_u_law_lots d_u_law_lots ["total", "top"] (spF K mg 2 false f_u_law_lots)) (F_u_law_take : FnP K "_law_take" s_u_law_take [] a_u_law_take d_u_law_take) (g_u_law_take : mg "_law_take" = some (.ref a_u_law_take)) (G_u_law_take : FnG P w K mg base (L2.CX P w) 1 a_u_law_take d_u_law_take ["own", "size"] (spF K mg 2 true f_u_law_take)) (n_len : mg "len" = none) (n_max : mg "max" = none) (n_min : mg "min" = none) (n_range : mg "range" = none) (n_sum : mg "sum" = none) : FnG P w K mg base (L2.CX P w) 16 a_law d_law ["script"] (spF K mg 1 false f_law_k24) := by
  have b_u_law_cell : Binds K d_u_law_cell ["script", "k"] [] := F_u_law_cell.bindsN fun _ _ _ _ _ _ us hl => match us, hl with | [_, _], _ => rfl
  have b_u_law_good : Binds K d_u_law_good ["batches", "every"] [] := F_u_law_good.bindsN fun _ _ _ _ _ _ us hl => match us, hl with | [_, _], _ => rfl
  have b_u_law_lot : Binds K d_u_law_lot ["own", "most", "top"] [] := F_u_law_lot.bindsN fun _ _ _ _ _ _ us hl => match us, hl with | [_, _, _], _ => rfl
  have b_u_law_lots : Binds K d_u_law_lots ["total", "top"] [] := F_u_law_lots.bindsN fun _ _ _ _ _ _ us hl => match us, hl with | [_, _], _ => rfl
  have b_u_law_take : Binds K d_u_law_take ["own", "size"] [] := F_u_law_take.bindsN fun _ _ _ _ _ _ us hl => match us, hl with | [_, _], _ => rfl
  refine fn_rule (b := bd_law_k24) F_law S_law 7 rfl fun cdv hcd A outer s H E hr => ?_
  exact rss_cons (rs_set S_law.nd (i := 1) rfl (by first | exact Or.inl rfl | exact Or.inr rfl) (re_lst (ra_nil))) (rss_cons (rs_for (passes_of rfl) rfl (ri_range1 rfl n_range (ra_cons (ro_of (re_int)) (ra_nil))) (rg_name S_law.nd rfl (by first | exact Or.inl rfl | exact Or.inr rfl)) (rss_one (rs_set S_law.nd (i := 1) rfl (by first | exact Or.inl rfl | exact Or.inr rfl) (re_add (ro_name 1) (ro_of (re_call G_u_law_lots (hr.mono (by decide)) rfl g_u_law_lots F_u_law_lots.kp b_u_law_lots .nil (fun _ _ => .nil) (ra_cons (ro_of (re_name 2)) (ra_cons (ro_of (re_name 2)) (ra_nil))))))))) (rss_cons (rs_for (passes_of rfl) rfl (ri_range1 rfl n_range (ra_cons (ro_of (re_callB (call_max2 rfl) p_max2 rfl n_max (ra_cons (ro_of (re_callB (call_min2 rfl) p_min2 rfl n_min (ra_cons (ro_of (re_callB call_len p_len rfl n_len (ra_cons (ro_name 0) (ra_nil)))) (ra_cons (ro_of (re_int)) (ra_nil))))) (ra_cons (ro_of (re_int)) (ra_nil))))) (ra_nil))) (rg_name S_law.nd rfl (by first | exact Or.inl rfl | exact Or.inr rfl)) (rss_cons (rs_set S_law.nd (i := 4) rfl (by first | exact Or.inl rfl | exact Or.inr rfl) (re_lst (ra_cons (ro_of (re_call G_u_law_cell (hr.mono (by decide)) rfl g_u_law_cell F_u_law_cell.kp b_u_law_cell .nil (fun _ _ => .nil) (ra_cons (ro_of (re_name 0)) (ra_cons (ro_of (re_name 3)) (ra_nil))))) (ra_nil)))) (rss_cons (rs_set S_law.nd (i := 5) rfl (by first | exact Or.inl rfl | exact Or.inr rfl) (re_lst (ra_nil))) (rss_cons (rs_for (passes_of rfl) rfl (ri_range1 rfl n_range (ra_cons (ro_of (re_add (ro_of (re_int)) (ro_of (re_callI G_u_law_take (hr.mono (by decide)) rfl g_u_law_take F_u_law_take.kp b_u_law_take .nil (fun _ _ => .nil) (ra_cons (ro_name 4) (ra_cons (ro_of (re_int)) (ra_nil))))))) (ra_nil))) (rg_name S_law.nd rfl (by first | exact Or.inl rfl | exact Or.inr rfl)) (rss_cons (rs_set S_law.nd (i := 7) rfl (by first | exact Or.inl rfl | exact Or.inr rfl) (re_callI G_u_law_lot (hr.mono (by decide)) rfl g_u_law_lot F_u_law_lot.kp b_u_law_lot .nil (fun _ _ => .nil) (ra_cons (ro_name 4) (ra_cons (ro_of (re_int)) (ra_cons (ro_of (re_ix (ro_of (re_lst (ra_cons (ro_of (re_int)) (ra_cons (ro_of (re_int)) (ra_cons (ro_of (re_int)) (ra_nil)))))) (ro_of (re_callI G_u_law_take (hr.mono (by decide)) rfl g_u_law_take F_u_law_take.kp b_u_law_take .nil (fun _ _ => .nil) (ra_cons (ro_name 4) (ra_cons (ro_of (re_int)) (ra_nil))))))) (ra_nil)))))) (rss_cons (rs_while 1000 (passes_of rfl) (rt_c1 rc_gt (ro_of (re_callB (cr_sumA rfl) p_sum rfl n_sum (ra_cons (ro_name 7) (ra_nil)))) (ro_of (re_int))) (rss_one (rs_set S_law.nd (i := 7) rfl (by first | exact Or.inl rfl | exact Or.inr rfl) (re_slice (ro_name 7) (rpo_some (ro_of (re_int))) (rpo_none))))) (rss_one (rs_expr (re_mtd 5 PySem.F.slot_list_append PySem.F.type_list_append mt_append mu_append (ra_cons (ro_of (re_name 7)) (ra_nil)))))))) (rss_one (rs_if (rt_not (rt_tru (ro_of (re_call G_u_law_good (hr.mono (by decide)) rfl g_u_law_good F_u_law_good.kp b_u_law_good .nil (fun _ _ => .nil) (ra_cons (ro_of (re_name 5)) (ra_cons (ro_of (re_name 1)) (ra_nil))))))) (rss_one (rs_ret (re_bl))) (rss_nil))))))) (rss_one (rs_ret (re_bl)))))
/-! ### the head -/
end
def dd_is_integer : He.DefD := ⟨("is_integer", none), "is_integer", "is_integer", defArgs s_is_integer, defBody s_is_integer, defScope s_is_integer, [], []⟩
def dd_is_between : He.DefD := ⟨("is_between", none), "is_between", "is_between", defArgs s_is_between, defBody s_is_between, defScope s_is_between, [], []⟩
def dd_is_within_limits : He.DefD := ⟨("is_within_limits", none), "is_within_limits", "is_within_limits", defArgs s_is_within_limits, defBody s_is_within_limits, defScope s_is_within_limits, [], []⟩
def dd_is_valid_lot : He.DefD := ⟨("is_valid_lot", none), "is_valid_lot", "is_valid_lot", defArgs s_is_valid_lot, defBody s_is_valid_lot, defScope s_is_valid_lot, [], []⟩
def dd_check_lot : He.DefD := ⟨("check_lot", none), "check_lot", "check_lot", defArgs s_check_lot, defBody s_check_lot, defScope s_check_lot, [], []⟩
def dd_capacity_of : He.DefD := ⟨("capacity_of", none), "capacity_of", "capacity_of", defArgs s_capacity_of, defBody s_capacity_of, defScope s_capacity_of, [], []⟩
def dd_u_least_gap : He.DefD := ⟨("_least_gap", none), "_least_gap", "_least_gap", defArgs s_u_least_gap, defBody s_u_least_gap, defScope s_u_least_gap, [], []⟩
def dd_covers : He.DefD := ⟨("covers", none), "covers", "covers", defArgs s_covers, defBody s_covers, defScope s_covers, [], []⟩
def dd_u_check_lots : He.DefD := ⟨("_check_lots", none), "_check_lots", "_check_lots", defArgs s_u_check_lots, defBody s_u_check_lots, defScope s_u_check_lots, [], []⟩
def dd_u_lot_with_capacities : He.DefD := ⟨("_lot_with_capacities", none), "_lot_with_capacities", "_lot_with_capacities", defArgs s_u_lot_with_capacities, defBody s_u_lot_with_capacities, defScope s_u_lot_with_capacities, [], []⟩
def dd_u_greatest_capacity : He.DefD := ⟨("_greatest_capacity", none), "_greatest_capacity", "_greatest_capacity", defArgs s_u_greatest_capacity, defBody s_u_greatest_capacity, defScope s_u_greatest_capacity, [], []⟩
def dd_least_cover : He.DefD := ⟨("least_cover", none), "least_cover", "least_cover", defArgs s_least_cover, defBody s_least_cover, defScope s_least_cover, [], []⟩
def dd_greatest_covered : He.DefD := ⟨("greatest_covered", none), "greatest_covered", "greatest_covered", defArgs s_greatest_covered, defBody s_greatest_covered, defScope s_greatest_covered, [], []⟩
def dd_u_law_mixed : He.DefD := ⟨("_law_mixed", none), "_law_mixed", "_law_mixed", defArgs s_u_law_mixed, defBody s_u_law_mixed, defScope s_u_law_mixed, [], []⟩
def dd_u_law_cell : He.DefD := ⟨("_law_cell", none), "_law_cell", "_law_cell", defArgs s_u_law_cell, defBody s_u_law_cell, defScope s_u_law_cell, [], []⟩
def dd_u_law_take : He.DefD := ⟨("_law_take", none), "_law_take", "_law_take", defArgs s_u_law_take, defBody s_u_law_take, defScope s_u_law_take, [], []⟩
def dd_u_law_lot : He.DefD := ⟨("_law_lot", none), "_law_lot", "_law_lot", defArgs s_u_law_lot, defBody s_u_law_lot, defScope s_u_law_lot, [], []⟩
def dd_u_law_capacity : He.DefD := ⟨("_law_capacity", none), "_law_capacity", "_law_capacity", defArgs s_u_law_capacity, defBody s_u_law_capacity, defScope s_u_law_capacity, [], []⟩
def dd_u_law_covers : He.DefD := ⟨("_law_covers", none), "_law_covers", "_law_covers", defArgs s_u_law_covers, defBody s_u_law_covers, defScope s_u_law_covers, [], []⟩
def dd_u_law_lots : He.DefD := ⟨("_law_lots", none), "_law_lots", "_law_lots", defArgs s_u_law_lots, defBody s_u_law_lots, defScope s_u_law_lots, [], []⟩
def dd_u_law_good : He.DefD := ⟨("_law_good", none), "_law_good", "_law_good", defArgs s_u_law_good, defBody s_u_law_good, defScope s_u_law_good, [], []⟩
def dd_law : He.DefD := ⟨("law", none), "law", "law", defArgs s_law, defBody s_law, defScope s_law, [], []⟩
def fnL_0 : List He.DefD := [dd_is_integer, dd_is_between, dd_is_within_limits, dd_is_valid_lot, dd_check_lot, dd_capacity_of, dd_u_least_gap, dd_covers, dd_u_check_lots, dd_u_lot_with_capacities, dd_u_greatest_capacity, dd_least_cover, dd_greatest_covered, dd_u_law_mixed, dd_u_law_cell, dd_u_law_take, dd_u_law_lot, dd_u_law_capacity, dd_u_law_covers, dd_u_law_lots, dd_u_law_good, dd_law]
def fnL : List He.DefD := fnL_0
def faL_0 : List He.Fa := [.glo "is_integer", .glo "is_between", .glo "is_within_limits", .glo "is_valid_lot", .glo "check_lot", .glo "capacity_of", .glo "_least_gap", .glo "covers", .glo "_check_lots", .glo "_lot_with_capacities", .glo "_greatest_capacity", .glo "least_cover", .glo "greatest_covered", .glo "_law_mixed", .glo "_law_cell", .glo "_law_take", .glo "_law_lot", .glo "_law_capacity", .glo "_law_covers", .glo "_law_lots", .glo "_law_good", .glo "law", .free "all", .free "bool", .free "int", .free "isinstance", .free "len", .free "list", .free "max", .free "min"]
def faL_1 : List He.Fa := [.free "range", .free "sorted", .free "sum", .free "tuple", .free "zip", .int "MOST_LOTS" 20, .int "MOST_NUMBER" 200, .int "MOST_STEEL" 200, .int "MOST_TOOLS" 60, .glo "InvalidList", .glo "InvalidLot", .exc "InvalidList", .exc "InvalidLot"]
def faL : List He.Fa := faL_0 ++ faL_1
def tfL : List He.Defn := [("is_valid_lot", none), ("_check_lots", none)]
def exs : List (PySem.W.Frag → Bool) := []
def exL : PySem.W.Frag → Bool := fun K => exs.all fun f => f K
abbrev R : PySem.W.OpenRow := PySem.W.OpenLaw.row PySem.Challenge.rw_keenlot_k24_whole_bounds_of_lots
abbrev hk : PySem.W.Hook := He.hookX 4 faL fnL [] tfL exL
def ob (s : PySem.W.SharedT) : He.AlX := He.obsX 4 faL fnL [] tfL exL (HandSHeadRun.getT s)
theorem ob_eq (s : PySem.W.SharedT) : ob s = hk.obs s.abs := He.obsX_eq (HandSHeadRun.getT_eq s)
def looseL_0 : List PySem.Str := ["KeenError", "InvalidLot", "InvalidList", "MOST_TOOLS", "MOST_STEEL", "MOST_NUMBER", "is_integer", "is_between", "is_within_limits", "is_valid_lot", "check_lot", "capacity_of", "MOST_LOTS", "covers", "least_cover", "greatest_covered", "_least_gap", "_greatest_capacity", "_lot_with_capacities", "_check_lots", "_law_mixed", "_law_cell", "_law_take", "_law_lot", "_law_capacity", "_law_covers", "_law_lots", "_law_good"]
def looseL : List PySem.Str := looseL_0
theorem run (w : World) : HandSHeadRun.RunEq R (PySem.W.view R.prog [33]) hk ob 6000 looseL w := by
  intro os
  kernel_rfl
theorem facts {P : Program} {w : World} {K : PySem.W.Frag} {h : Heap} {mg : Str → Option Value} (KX : K.In h) (G : h.Ns PySem.mainGlobals mg) (c : He.SaysX faL fnL [] tfL exL w h K) {d_law : FuncData} (F_law : FnP K "law" s_law [] (He.fAd K ("law", none)) d_law) (base : Heap) (KB : K.In base) (GB : base.Ns PySem.mainGlobals mg) (hTB : ∀ p ∈ tfL.map (He.cT K), LamX.TabB base mg p.1 p.2) :
    @FnG P w K mg base (L2.CX P w) 16 (He.fAd K ("law", none)) d_law ["script"] (@spF (tabsOf (tfL.map (He.cT K))) K mg 1 false f_law_k24) := by
  letI := tabsOf (tfL.map (He.cT K))
  have cd := c.t.d
  obtain ⟨d_is_integer, F_is_integer⟩ := cd.def_ 0 (d := dd_is_integer) rfl
  have g_is_integer : mg "is_integer" = some (.ref (He.fAd K ("is_integer", none))) := He.glo_ok KX G (cd.fact 0 (f := .glo "is_integer") rfl)
  obtain ⟨d_is_between, F_is_between⟩ := cd.def_ 1 (d := dd_is_between) rfl
  have g_is_between : mg "is_between" = some (.ref (He.fAd K ("is_between", none))) := He.glo_ok KX G (cd.fact 1 (f := .glo "is_between") rfl)
  obtain ⟨d_is_within_limits, F_is_within_limits⟩ := cd.def_ 2 (d := dd_is_within_limits) rfl
  have g_is_within_limits : mg "is_within_limits" = some (.ref (He.fAd K ("is_within_limits", none))) := He.glo_ok KX G (cd.fact 2 (f := .glo "is_within_limits") rfl)
  obtain ⟨d_is_valid_lot, F_is_valid_lot⟩ := cd.def_ 3 (d := dd_is_valid_lot) rfl
  have g_is_valid_lot : mg "is_valid_lot" = some (.ref (He.fAd K ("is_valid_lot", none))) := He.glo_ok KX G (cd.fact 3 (f := .glo "is_valid_lot") rfl)
  obtain ⟨d_check_lot, F_check_lot⟩ := cd.def_ 4 (d := dd_check_lot) rfl
  have g_check_lot : mg "check_lot" = some (.ref (He.fAd K ("check_lot", none))) := He.glo_ok KX G (cd.fact 4 (f := .glo "check_lot") rfl)
  obtain ⟨d_capacity_of, F_capacity_of⟩ := cd.def_ 5 (d := dd_capacity_of) rfl
  have g_capacity_of : mg "capacity_of" = some (.ref (He.fAd K ("capacity_of", none))) := He.glo_ok KX G (cd.fact 5 (f := .glo "capacity_of") rfl)
  obtain ⟨d_u_least_gap, F_u_least_gap⟩ := cd.def_ 6 (d := dd_u_least_gap) rfl
  have g_u_least_gap : mg "_least_gap" = some (.ref (He.fAd K ("_least_gap", none))) := He.glo_ok KX G (cd.fact 6 (f := .glo "_least_gap") rfl)
  obtain ⟨d_covers, F_covers⟩ := cd.def_ 7 (d := dd_covers) rfl
  have g_covers : mg "covers" = some (.ref (He.fAd K ("covers", none))) := He.glo_ok KX G (cd.fact 7 (f := .glo "covers") rfl)
  obtain ⟨d_u_check_lots, F_u_check_lots⟩ := cd.def_ 8 (d := dd_u_check_lots) rfl
  have g_u_check_lots : mg "_check_lots" = some (.ref (He.fAd K ("_check_lots", none))) := He.glo_ok KX G (cd.fact 8 (f := .glo "_check_lots") rfl)
  obtain ⟨d_u_lot_with_capacities, F_u_lot_with_capacities⟩ := cd.def_ 9 (d := dd_u_lot_with_capacities) rfl
  have g_u_lot_with_capacities : mg "_lot_with_capacities" = some (.ref (He.fAd K ("_lot_with_capacities", none))) := He.glo_ok KX G (cd.fact 9 (f := .glo "_lot_with_capacities") rfl)
  obtain ⟨d_u_greatest_capacity, F_u_greatest_capacity⟩ := cd.def_ 10 (d := dd_u_greatest_capacity) rfl
  have g_u_greatest_capacity : mg "_greatest_capacity" = some (.ref (He.fAd K ("_greatest_capacity", none))) := He.glo_ok KX G (cd.fact 10 (f := .glo "_greatest_capacity") rfl)
  obtain ⟨d_least_cover, F_least_cover⟩ := cd.def_ 11 (d := dd_least_cover) rfl
  have g_least_cover : mg "least_cover" = some (.ref (He.fAd K ("least_cover", none))) := He.glo_ok KX G (cd.fact 11 (f := .glo "least_cover") rfl)
  obtain ⟨d_greatest_covered, F_greatest_covered⟩ := cd.def_ 12 (d := dd_greatest_covered) rfl
  have g_greatest_covered : mg "greatest_covered" = some (.ref (He.fAd K ("greatest_covered", none))) := He.glo_ok KX G (cd.fact 12 (f := .glo "greatest_covered") rfl)
  obtain ⟨d_u_law_mixed, F_u_law_mixed⟩ := cd.def_ 13 (d := dd_u_law_mixed) rfl
  have g_u_law_mixed : mg "_law_mixed" = some (.ref (He.fAd K ("_law_mixed", none))) := He.glo_ok KX G (cd.fact 13 (f := .glo "_law_mixed") rfl)
  obtain ⟨d_u_law_cell, F_u_law_cell⟩ := cd.def_ 14 (d := dd_u_law_cell) rfl
  have g_u_law_cell : mg "_law_cell" = some (.ref (He.fAd K ("_law_cell", none))) := He.glo_ok KX G (cd.fact 14 (f := .glo "_law_cell") rfl)
  obtain ⟨d_u_law_take, F_u_law_take⟩ := cd.def_ 15 (d := dd_u_law_take) rfl
  have g_u_law_take : mg "_law_take" = some (.ref (He.fAd K ("_law_take", none))) := He.glo_ok KX G (cd.fact 15 (f := .glo "_law_take") rfl)
  obtain ⟨d_u_law_lot, F_u_law_lot⟩ := cd.def_ 16 (d := dd_u_law_lot) rfl
  have g_u_law_lot : mg "_law_lot" = some (.ref (He.fAd K ("_law_lot", none))) := He.glo_ok KX G (cd.fact 16 (f := .glo "_law_lot") rfl)
  obtain ⟨d_u_law_capacity, F_u_law_capacity⟩ := cd.def_ 17 (d := dd_u_law_capacity) rfl
  have g_u_law_capacity : mg "_law_capacity" = some (.ref (He.fAd K ("_law_capacity", none))) := He.glo_ok KX G (cd.fact 17 (f := .glo "_law_capacity") rfl)
  obtain ⟨d_u_law_covers, F_u_law_covers⟩ := cd.def_ 18 (d := dd_u_law_covers) rfl
  have g_u_law_covers : mg "_law_covers" = some (.ref (He.fAd K ("_law_covers", none))) := He.glo_ok KX G (cd.fact 18 (f := .glo "_law_covers") rfl)
  obtain ⟨d_u_law_lots, F_u_law_lots⟩ := cd.def_ 19 (d := dd_u_law_lots) rfl
  have g_u_law_lots : mg "_law_lots" = some (.ref (He.fAd K ("_law_lots", none))) := He.glo_ok KX G (cd.fact 19 (f := .glo "_law_lots") rfl)
  obtain ⟨d_u_law_good, F_u_law_good⟩ := cd.def_ 20 (d := dd_u_law_good) rfl
  have g_u_law_good : mg "_law_good" = some (.ref (He.fAd K ("_law_good", none))) := He.glo_ok KX G (cd.fact 20 (f := .glo "_law_good") rfl)
  have g_law : mg "law" = some (.ref (He.fAd K ("law", none))) := He.glo_ok KX G (cd.fact 21 (f := .glo "law") rfl)
  have n_all : mg "all" = none := He.free_ok KX G (cd.fact 22 (f := .free "all") rfl)
  have n_bool : mg "bool" = none := He.free_ok KX G (cd.fact 23 (f := .free "bool") rfl)
  have n_int : mg "int" = none := He.free_ok KX G (cd.fact 24 (f := .free "int") rfl)
  have n_isinstance : mg "isinstance" = none := He.free_ok KX G (cd.fact 25 (f := .free "isinstance") rfl)
  have n_len : mg "len" = none := He.free_ok KX G (cd.fact 26 (f := .free "len") rfl)
  have n_list : mg "list" = none := He.free_ok KX G (cd.fact 27 (f := .free "list") rfl)
  have n_max : mg "max" = none := He.free_ok KX G (cd.fact 28 (f := .free "max") rfl)
  have n_min : mg "min" = none := He.free_ok KX G (cd.fact 29 (f := .free "min") rfl)
  have n_range : mg "range" = none := He.free_ok KX G (cd.fact 30 (f := .free "range") rfl)
  have n_sorted : mg "sorted" = none := He.free_ok KX G (cd.fact 31 (f := .free "sorted") rfl)
  have n_sum : mg "sum" = none := He.free_ok KX G (cd.fact 32 (f := .free "sum") rfl)
  have n_tuple : mg "tuple" = none := He.free_ok KX G (cd.fact 33 (f := .free "tuple") rfl)
  have n_zip : mg "zip" = none := He.free_ok KX G (cd.fact 34 (f := .free "zip") rfl)
  have i_MOST_LOTS : ∃ t, mg "MOST_LOTS" = some (.int 20 t) := He.int_ok KX G (cd.fact 35 (f := .int "MOST_LOTS" 20) rfl)
  have i_MOST_NUMBER : ∃ t, mg "MOST_NUMBER" = some (.int 200 t) := He.int_ok KX G (cd.fact 36 (f := .int "MOST_NUMBER" 200) rfl)
  have i_MOST_STEEL : ∃ t, mg "MOST_STEEL" = some (.int 200 t) := He.int_ok KX G (cd.fact 37 (f := .int "MOST_STEEL" 200) rfl)
  have i_MOST_TOOLS : ∃ t, mg "MOST_TOOLS" = some (.int 60 t) := He.int_ok KX G (cd.fact 38 (f := .int "MOST_TOOLS" 60) rfl)
  have e_InvalidList : ErrK K mg "InvalidList" := err_k KX G (cd.fact 39 (f := .glo "InvalidList") rfl) (cd.fact 41 (f := .exc "InvalidList") rfl)
  have e_InvalidLot : ErrK K mg "InvalidLot" := err_k KX G (cd.fact 40 (f := .glo "InvalidLot") rfl) (cd.fact 42 (f := .exc "InvalidLot") rfl)
  have m_is_valid_lot : He.cT K ("is_valid_lot", none) ∈ tfL.map (He.cT K) := List.mem_map.mpr ⟨_, by simp [tfL], rfl⟩
  have TB_is_valid_lot := tab_g (hTB _ m_is_valid_lot)
  have hP_is_valid_lot : Tabs.is (He.cT K ("is_valid_lot", none)).2 := List.mem_map.mpr ⟨_, m_is_valid_lot, rfl⟩
  have hc_is_valid_lot := code_is (p := ("is_valid_lot", none)) F_is_valid_lot
  have m_u_check_lots : He.cT K ("_check_lots", none) ∈ tfL.map (He.cT K) := List.mem_map.mpr ⟨_, by simp [tfL], rfl⟩
  have TB_u_check_lots := tab_g (hTB _ m_u_check_lots)
  have hP_u_check_lots : Tabs.is (He.cT K ("_check_lots", none)).2 := List.mem_map.mpr ⟨_, m_u_check_lots, rfl⟩
  have hc_u_check_lots := code_is (p := ("_check_lots", none)) F_u_check_lots
  have G_is_integer := ok_is_integer (P := P) (w := w) (mg := mg) (base := base) F_is_integer n_bool n_int n_isinstance
  have G_is_between := ok_is_between (P := P) (w := w) (mg := mg) (base := base) F_is_between F_is_integer g_is_integer G_is_integer
  have G_is_within_limits := ok_is_within_limits (P := P) (w := w) (mg := mg) (base := base) F_is_within_limits n_len n_sum i_MOST_STEEL i_MOST_TOOLS
  have G_is_valid_lot := ok_is_valid_lot (P := P) (w := w) (mg := mg) (base := base) F_is_valid_lot F_is_between g_is_between G_is_between F_is_within_limits g_is_within_limits G_is_within_limits n_all n_isinstance n_list n_sorted n_tuple i_MOST_STEEL hP_is_valid_lot TB_is_valid_lot hc_is_valid_lot
  have G_check_lot := ok_check_lot (P := P) (w := w) (mg := mg) (base := base) F_check_lot F_is_valid_lot g_is_valid_lot G_is_valid_lot e_InvalidLot
  have G_capacity_of := ok_capacity_of (P := P) (w := w) (mg := mg) (base := base) F_capacity_of n_sum
  have G_u_least_gap := ok_u_least_gap (P := P) (w := w) (mg := mg) (base := base) F_u_least_gap F_capacity_of g_capacity_of G_capacity_of n_max n_range
  have G_covers := ok_covers (P := P) (w := w) (mg := mg) (base := base) F_covers F_u_least_gap g_u_least_gap G_u_least_gap F_check_lot g_check_lot G_check_lot
  have G_u_check_lots := ok_u_check_lots (P := P) (w := w) (mg := mg) (base := base) F_u_check_lots F_is_valid_lot g_is_valid_lot G_is_valid_lot n_all n_isinstance n_len n_list i_MOST_LOTS e_InvalidList hP_u_check_lots TB_u_check_lots hc_u_check_lots
  have G_u_lot_with_capacities := ok_u_lot_with_capacities (P := P) (w := w) (mg := mg) (base := base) F_u_lot_with_capacities n_range n_tuple i_MOST_NUMBER
  have G_u_greatest_capacity := ok_u_greatest_capacity (P := P) (w := w) (mg := mg) (base := base) F_u_greatest_capacity F_capacity_of g_capacity_of G_capacity_of n_max
  have G_least_cover := ok_least_cover (P := P) (w := w) (mg := mg) (base := base) F_least_cover F_u_check_lots g_u_check_lots G_u_check_lots F_u_greatest_capacity g_u_greatest_capacity G_u_greatest_capacity F_u_lot_with_capacities g_u_lot_with_capacities G_u_lot_with_capacities n_range i_MOST_NUMBER
  have G_greatest_covered := ok_greatest_covered (P := P) (w := w) (mg := mg) (base := base) F_greatest_covered F_u_check_lots g_u_check_lots G_u_check_lots n_min n_range n_sum n_tuple n_zip i_MOST_TOOLS
  have G_u_law_mixed := ok_u_law_mixed (P := P) (w := w) (mg := mg) (base := base) F_u_law_mixed
  have G_u_law_cell := ok_u_law_cell (P := P) (w := w) (mg := mg) (base := base) F_u_law_cell F_u_law_mixed g_u_law_mixed G_u_law_mixed n_len n_range
  have G_u_law_take := ok_u_law_take (P := P) (w := w) (mg := mg) (base := base) F_u_law_take
  have G_u_law_lot := ok_u_law_lot (P := P) (w := w) (mg := mg) (base := base) F_u_law_lot F_u_law_take g_u_law_take G_u_law_take n_range n_sorted n_sum n_tuple
  have G_u_law_capacity := ok_u_law_capacity (P := P) (w := w) (mg := mg) (base := base) F_u_law_capacity n_sum
  have G_u_law_covers := ok_u_law_covers (P := P) (w := w) (mg := mg) (base := base) F_u_law_covers F_u_law_capacity g_u_law_capacity G_u_law_capacity n_max n_range
  have G_u_law_lots : FnG P w K mg base (L2.CX P w) 15 (He.fAd K ("_law_lots", none)) d_u_law_lots ["total", "top"] (spF K mg 2 false f_u_law_lots) := ok_u_law_lots (P := P) (w := w) (mg := mg) (base := base) F_u_law_lots n_min n_range g_u_law_lots 14
  have G_u_law_good := ok_u_law_good (P := P) (w := w) (mg := mg) (base := base) F_u_law_good F_u_law_covers g_u_law_covers G_u_law_covers F_covers g_covers G_covers F_greatest_covered g_greatest_covered G_greatest_covered F_least_cover g_least_cover G_least_cover n_all
  have G_law := ok_law (P := P) (w := w) (mg := mg) (base := base) F_law F_u_law_cell g_u_law_cell G_u_law_cell F_u_law_good g_u_law_good G_u_law_good F_u_law_lot g_u_law_lot G_u_law_lot F_u_law_lots g_u_law_lots G_u_law_lots F_u_law_take g_u_law_take G_u_law_take n_len n_max n_min n_range n_sum
  exact G_law
theorem at_ {w : World} {mg : Str → Option Value} {fa : Addr} {h : Heap} (pure : ∀ ns : List Int, ns.length ≤ 63 → (∀ z ∈ ns, Builtin.Int.intBits z ≤ 1048576) → ∃ ρ, f_law_k24 [.va (.scr ns)] = .ok (.fz (.bl true)) ρ) (hG : h.Ns PySem.mainGlobals mg) (hfa : mg ("law" : Str) = some (.ref fa)) (Y : hk.says w h) : ∃ K : PySem.W.Frag, K.In h ∧ LawAtG PySem.Challenge.rw_keenlot_k24_whole_bounds_of_lots w K (L2.CX PySem.Challenge.rw_keenlot_k24_whole_bounds_of_lots.prog w) 16 63 "script" mg fa h := by
  obtain ⟨K, KX, c⟩ := Y
  refine ⟨K, KX, ?_⟩
  obtain ⟨fd, F0⟩ := c.t.d.def_ 21 (d := dd_law) rfl
  have e := hfa.symm.trans (He.glo_ok KX hG (c.t.d.fact 21 (f := .glo "law") rfl))
  cases e
  have b := FunD.bindsA (ps := ["script"]) F0 fun _ _ _ _ _ _ us hl => match us, hl with | [_], _ => rfl
  refine ⟨fd, tfL.map (He.cT K), @spF (tabsOf (tfL.map (He.cT K))) K mg 1 false f_law_k24, fun p hp => ?_, fun p hp => ?_, fun p hp => ?_, fun s v => b s [v] rfl, fun H a ns hl hb hH hs => law_sp hH hs (pure ns hl hb), fun base KB GB hTB => ?_⟩
  · obtain ⟨q, hq, rfl⟩ := List.mem_map.mp hp
    exact c.empty q hq
  · obtain ⟨q, hq, rfl⟩ := List.mem_map.mp hp
    exact c.out q hq
  · obtain ⟨q, hq, rfl⟩ := List.mem_map.mp hp
    exact PySem.W.codeHd_of_K KX (c.hd q hq)
  · exact facts (P := PySem.Challenge.rw_keenlot_k24_whole_bounds_of_lots.prog) (w := w) KX hG c F0 base KB GB hTB
end K24
open PySem PySem.W PySem.Calls PyProof.Rows
set_option maxHeartbeats 0 in
theorem k24_of (pure : ∀ ns : List Int, ns.length ≤ 63 → (∀ z ∈ ns, Builtin.Int.intBits z ≤ 1048576) → ∃ ρ, S.f_law_k24 [.va (.scr ns)] = .ok (.fz (.bl true)) ρ) : PySem.Challenge.rw_keenlot_k24_whole_bounds_of_lots.Holds := by
  w_on; o_law
  refine HandSHeadRun.head_any (r := OpenLaw.row PySem.Challenge.rw_keenlot_k24_whole_bounds_of_lots) (q := view (OpenLaw.row PySem.Challenge.rw_keenlot_k24_whole_bounds_of_lots).prog [33]) (H := K24.hk) (ob := K24.ob) (M := 6000) (loose := K24.looseL) (d := HandSHeadRun.topDef (OpenLaw.row PySem.Challenge.rw_keenlot_k24_whole_bounds_of_lots).prog 33) (kwd := []) K24.ob_eq
    (by kernel_rfl) (fun s => by kernel_rfl) K24.run (by kernel_rfl) (by kernel_rfl) (by kernel_rfl) (by rfl) (by first | assumption | decide +kernel) (by decide +kernel) ⟨rfl, rfl, rfl, rfl, rfl, by decide +kernel⟩ ?hw ?hc
  case hw => w_witness2
  case hc =>
    refine KL.walk_ofX (l := PySem.Challenge.rw_keenlot_k24_whole_bounds_of_lots) (n := 63) (k := 16) (x := "script") rfl (by decide) (by kernel_rfl) ⟨⟨rfl, by decide, by decide⟩, rfl⟩ ?F
    intro w mg fa h Y G hmg0
    have hmg : mg ("law" : PySem.Str) = some (.ref fa) := by
      have e : (HandSHeadRun.topDef (OpenLaw.row PySem.Challenge.rw_keenlot_k24_whole_bounds_of_lots).prog 33).name = ("law" : PySem.Str) := by kernel_rfl
      rw [← e]
      exact hmg0
    exact K24.at_ pure G hmg Y
end

section
set_option Elab.async false
set_option linter.all false
set_option maxRecDepth 100000
namespace S
open PySem L2 KL
/-! ### the checks, of any value -/
/-- no kept error -/
def ne : D → Bool
  | .err _ _ => false
  | .pr _ => false
  | .scr _ => false
  | _ => true
/-- neither itself nor one of its parts -/
def ne1 : D → Bool
  | .err _ _ => false
  | .pr _ => false
  | .scr _ => false
  | .lst ds => ds.all ne
  | .tup ds => ds.all ne
  | _ => true
def isI : D → Bool
  | .int _ => true
  | _ => false
def btw : D → Int → Int → Bool
  | .int i, lo, hi => decide (lo ≤ i) && decide (i ≤ hi)
  | _, _, _ => false
@[simp] theorem tyB_ii : tyB "int" "int" = some true := rfl
@[simp] theorem tyB_ib : tyB "int" "bool" = some true := rfl
@[simp] theorem tyB_bb : tyB "bool" "bool" = some true := rfl
@[simp] theorem tyB_bi : tyB "bool" "int" = some false := rfl
@[simp] theorem tyB_in : tyB "int" "NoneType" = some false := rfl
@[simp] theorem tyB_is : tyB "int" "str" = some false := rfl
@[simp] theorem tyB_il : tyB "int" "list" = some false := rfl
@[simp] theorem tyB_it : tyB "int" "tuple" = some false := rfl
@[simp] theorem tyB_tn : tyB "tuple" "NoneType" = some false := rfl
@[simp] theorem tyB_ts : tyB "tuple" "str" = some false := rfl
@[simp] theorem tyB_tl : tyB "tuple" "list" = some false := rfl
@[simp] theorem tyB_tt : tyB "tuple" "tuple" = some true := rfl
@[simp] theorem tyB_ti : tyB "tuple" "int" = some false := rfl
@[simp] theorem tyB_tb : tyB "tuple" "bool" = some false := rfl
@[simp] theorem tyB_ln : tyB "list" "NoneType" = some false := rfl
@[simp] theorem tyB_ls : tyB "list" "str" = some false := rfl
@[simp] theorem tyB_ll : tyB "list" "list" = some true := rfl
@[simp] theorem tyB_lt : tyB "list" "tuple" = some false := rfl
@[simp] theorem tyB_li : tyB "list" "int" = some false := rfl
@[simp] theorem tyB_lb : tyB "list" "bool" = some false := rfl
@[simp] theorem tyB_bt : tyB "bool" "tuple" = some false := rfl
@[simp] theorem tyB_bl : tyB "bool" "list" = some false := rfl
@[simp] theorem tyB_bn : tyB "bool" "NoneType" = some false := rfl
@[simp] theorem tyB_bs : tyB "bool" "str" = some false := rfl
theorem is_integer_d {d : D} (h : ne d = true) : f_is_integer [.va d] = .ok (.fz (.bl (isI d))) [.un] := by
  cases d <;> first | rfl | cases h
@[simp] theorem is_integer_i (i : Int) : f_is_integer [.va (.int i)] = .ok (.fz (.bl true)) [.un] := rfl
theorem is_between_d {d : D} (h : ne d = true) (lo hi : Int) : f_is_between [.va d, .va (.int lo), .va (.int hi)] = .ok (.fz (.bl (btw d lo hi))) [.un, .un, .un] := by
  cases d with
  | int i => by_cases h : lo ≤ i <;> simp [h, e_is_between, d_is_between, btw]
  | err c fs => cases h
  | pr c => cases h
  | scr c => cases h
  | _ => simp [e_is_between, d_is_between, is_integer_d h, isI, btw]
@[simp] theorem is_between_i (i lo hi : Int) : f_is_between [.va (.int i), .va (.int lo), .va (.int hi)] = .ok (.fz (.bl (decide (lo ≤ i) && decide (i ≤ hi)))) [.un, .un, .un] := is_between_d rfl lo hi
theorem all_btw (ds : List D) (h : ds.all ne = true) {ρ ρ1 : KL.Env} {v : Nat} {it : M (List D)} {lo hi : M Od} (l u : Int) (hi0 : it ρ = .ok ds ρ1) (hv : ρ1[v]? = some .un)
    (hl : ∀ d : D, lo (ρ1.set v (.va d)) = .ok (.v (.int l)) (ρ1.set v (.va d))) (hu : ∀ d : D, hi (ρ1.set v (.va d)) = .ok (.v (.int u)) (ρ1.set v (.va d))) :
    allE [v] it (tgN v) (callV 3 f_is_between [] (aCons (frz (nmE v)) (aCons lo (aCons hi aNil)))) ρ = .ok (.fz (.bl (ds.all fun d => btw d l u))) ρ1 := by
  have lv := (List.getElem?_eq_some_iff.mp hv).1
  refine allE_map (enc := id) (fun d => btw d l u) ds (by simpa using hi0) hv fun d hd => ?_
  have hn := List.all_eq_true.mp h d hd
  simp [List.getElem?_set_self lv, hl, hu, is_between_d hn]
@[simp] theorem is_within (ts : List Int) : f_is_within_limits [.va (.tup (iL ts))] = .ok (.fz (.bl (decide (ts.length ≤ 60) && decide (ts.sum ≤ 200)))) [.un] := by
  by_cases h : (ts.length : Int) ≤ 60
  · have : ts.length ≤ 60 := by omega
    simp [this, h, e_is_within_limits, d_is_within_limits]
  · have : ¬ ts.length ≤ 60 := by omega
    simp [this, h, e_is_within_limits, d_is_within_limits]
structure Good (ts : List Int) : Prop where
  rng : ∀ t ∈ ts, 1 ≤ t ∧ t ≤ 200
  desc : ts.Pairwise (· ≥ ·)
  len : ts.length ≤ 60
  sum : ts.sum ≤ 200
theorem good_iff {ts : List Int} : Good ts ↔ (∀ t ∈ ts, 1 ≤ t ∧ t ≤ 200) ∧ ts.Pairwise (· ≥ ·) ∧ ts.length ≤ 60 ∧ ts.sum ≤ 200 := ⟨fun g => ⟨g.1, g.2, g.3, g.4⟩, fun g => ⟨g.1, g.2.1, g.2.2.1, g.2.2.2⟩⟩
instance (ts : List Int) : Decidable (Good ts) := decidable_of_iff _ good_iff.symm
theorem isortP (ts : List Int) : (isortI ts).Perm ts := @isort_perm ⟨fun _ => False⟩ ts
theorem isortS (ts : List Int) : (isortI ts).Pairwise (· ≤ ·) := @isort_sorted ⟨fun _ => False⟩ ts
theorem dsort_perm (ts : List Int) : (dsort ts).Perm ts := (List.reverse_perm _).trans (isortP ts)
theorem dsort_desc (ts : List Int) : (dsort ts).Pairwise (· ≥ ·) := List.pairwise_reverse.mpr (isortS ts)
theorem desc_unique {a b : List Int} (p : a.Perm b) (h1 : a.Pairwise (· ≥ ·)) (h2 : b.Pairwise (· ≥ ·)) : a = b := by
  letI : Tabs := ⟨fun _ => False⟩
  have z := rev_unique (a := a) (b := b.reverse) (p.trans (List.reverse_perm b).symm) h1 (List.pairwise_reverse.mpr (by exact h2))
  rwa [List.reverse_reverse] at z
theorem dsort_of {ts : List Int} (h : ts.Pairwise (· ≥ ·)) : dsort ts = ts := desc_unique (dsort_perm ts) (dsort_desc ts) h
theorem dsort_iff {ts : List Int} : ts = dsort ts ↔ ts.Pairwise (· ≥ ·) := ⟨fun h => h ▸ dsort_desc ts, fun h => (dsort_of h).symm⟩
@[simp] theorem dsort_len (ts : List Int) : (dsort ts).length = ts.length := (dsort_perm ts).length_eq
theorem sum_perm {a b : List Int} (p : a.Perm b) : a.sum = b.sum := by
  induction p with
  | nil => rfl
  | cons x _ ih => simp [ih]
  | swap x y l => simp only [List.sum_cons]; omega
  | trans _ _ h1 h2 => exact h1.trans h2
@[simp] theorem dsort_sum (ts : List Int) : (dsort ts).sum = ts.sum := sum_perm (dsort_perm ts)
theorem dsort_congr {a b : List Int} (p : a.Perm b) : dsort a = dsort b := desc_unique ((dsort_perm a).trans (p.trans (dsort_perm b).symm)) (dsort_desc a) (dsort_desc b)
/-- is this value a lot? -/
def lotD : D → Bool
  | .tup ds => match ints? ds with
    | some ts => decide (Good ts)
    | none => false
  | _ => false
@[simp] theorem lotD_t (ts : List Int) : lotD (.tup (iL ts)) = decide (Good ts) := by simp [lotD]
theorem ints_of_all : ∀ {ds : List D} {lo hi : Int}, (ds.all fun d => btw d lo hi) = true → ∃ ts : List Int, ds = iL ts ∧ ∀ t ∈ ts, lo ≤ t ∧ t ≤ hi
  | [], _, _, _ => ⟨[], rfl, by simp⟩
  | d :: r, lo, hi, h => by
    simp only [List.all_cons, Bool.and_eq_true] at h
    obtain ⟨ts, rfl, e⟩ := ints_of_all h.2
    cases d with
    | int i =>
      have h1 := h.1
      simp only [btw, Bool.and_eq_true, decide_eq_true_eq] at h1
      exact ⟨i :: ts, rfl, fun t ht => (List.mem_cons.mp ht).elim (fun z => by rw [z]; exact h1) (e t)⟩
    | _ => cases h.1
theorem all_of_ints {ts : List Int} {lo hi : Int} : ((iL ts).all fun d => btw d lo hi) = ts.all fun t => decide (lo ≤ t) && decide (t ≤ hi) := by
  unfold iL; rw [List.all_map]; rfl
theorem valid_d {d : D} (h : ne1 d = true) : f_is_valid_lot [.va d] = .ok (.fz (.bl (lotD d))) [.un] := by
  cases d with
  | tup ds =>
    have ha := all_btw ds h (ρ := [.va (.tup ds), .un]) (ρ1 := [.va (.tup ds), .un]) (v := 1) (it := itE (nmE 0)) (lo := frz (cE (.int 1))) (hi := frz (cE (.int 200))) 1 200 (by simp) (by simp) (by simp) (by simp)
    cases c : ds.all fun d => btw d 1 200 with
    | false =>
      rw [c] at ha
      have hl : lotD (.tup ds) = false := by
        show (match ints? ds with | some ts => decide (Good ts) | none => false) = false
        cases e : ints? ds with
        | none => rfl
        | some ts =>
          have := ints_eq e
          subst this
          rw [all_of_ints] at c
          refine decide_eq_false fun g => ?_
          have : (ts.all fun t => decide (1 ≤ t) && decide (t ≤ 200)) = true := List.all_eq_true.mpr fun t ht => by have := g.rng t ht; simp [this]
          rw [c] at this; cases this
      simp [e_is_valid_lot, d_is_valid_lot, x_is_valid_lot_0, x_is_valid_lot_1, ha, hl]
    | true =>
      rw [c] at ha
      obtain ⟨ts, hts, hr⟩ := ints_of_all c
      subst hts
      have e : lotD (.tup (iL ts)) = (decide (ts = dsort ts) && (decide (ts.length ≤ 60) && decide (ts.sum ≤ 200))) := by
        rw [lotD_t]
        by_cases g : Good ts
        · rw [decide_eq_true g, decide_eq_true (dsort_iff.mpr g.desc), decide_eq_true g.len, decide_eq_true g.sum]; rfl
        · rw [decide_eq_false g]
          symm
          rw [Bool.and_eq_false_iff, Bool.and_eq_false_iff]
          by_cases a : ts = dsort ts
          · by_cases b : ts.length ≤ 60
            · by_cases b2 : ts.sum ≤ 200
              · exact absurd ⟨hr, dsort_iff.mp a, b, b2⟩ g
              · exact .inr (.inr (decide_eq_false b2))
            · exact .inr (.inl (decide_eq_false b))
          · exact .inl (decide_eq_false a)
      have e2 : sortRevP (.tup (iL ts)) = some (.fr (iL (dsort ts))) := by simp
      rw [e]
      by_cases a : ts = dsort ts
      · simp [e_is_valid_lot, d_is_valid_lot, x_is_valid_lot_0, x_is_valid_lot_1, x_is_valid_lot_2, ha, -sortRevP_ap, e2, ← a]
      · simp [e_is_valid_lot, d_is_valid_lot, x_is_valid_lot_0, x_is_valid_lot_1, x_is_valid_lot_2, ha, -sortRevP_ap, e2, a]
  | err c fs => cases h
  | pr c => cases h
  | scr c => cases h
  | _ => simp [e_is_valid_lot, d_is_valid_lot, x_is_valid_lot_0, lotD, isiP, D.ty]
theorem is_lot_d {d : D} (h : ne1 d = true) : f_is_lot [.va d] = .ok (.fz (.bl (lotD d))) [.un] := by
  simp [e_is_lot, d_is_lot, valid_d h]
theorem ne1_t (ts : List Int) : ne1 (.tup (iL ts)) = true := by
  show (iL ts).all ne = true
  unfold iL; rw [List.all_map]; exact List.all_eq_true.mpr fun _ _ => rfl
theorem ne1_l (ts : List Int) : ne1 (.lst (iL ts)) = true := ne1_t ts
@[simp] theorem is_lot_t (ts : List Int) : f_is_lot [.va (.tup (iL ts))] = .ok (.fz (.bl (decide (Good ts)))) [.un] := by
  rw [is_lot_d (ne1_t ts), lotD_t]
def exR (c : Str) (ρ : KL.Env) : R Vl := .ex (.err c []) ρ
theorem check_lot_d {d : D} (h : ne1 d = true) : f_check_lot [.va d] = if lotD d = true then .ok (.fz .non) [.un] else .ex (.err "InvalidLot" []) [.un] := by
  cases c : lotD d <;> simp [e_check_lot, d_check_lot, valid_d h, c]
theorem check_good {ts : List Int} (g : Good ts) : f_check_lot [.va (.tup (iL ts))] = .ok (.fz .non) [.un] := by
  rw [check_lot_d (ne1_t ts), lotD_t, decide_eq_true g]; rfl
theorem check_positive_d {d : D} (h : ne d = true) : f_check_positive [.va d] = if btw d 1 200 = true then .ok (.fz .non) [.un] else .ex (.err "InvalidNumber" []) [.un] := by
  cases c : btw d 1 200 <;> simp [e_check_positive, d_check_positive, is_between_d h, c]
theorem check_count_d {d : D} (h : ne d = true) : f_check_count [.va d] = if btw d 0 200 = true then .ok (.fz .non) [.un] else .ex (.err "InvalidNumber" []) [.un] := by
  cases c : btw d 0 200 <;> simp [e_check_count, d_check_count, is_between_d h, c]
theorem pos_ok {c : Int} (h1 : 1 ≤ c) (h2 : c ≤ 200) : f_check_positive [.va (.int c)] = .ok (.fz .non) [.un] := by
  rw [check_positive_d rfl, if_pos (by simp [btw, h1, h2])]
theorem count_ok {c : Int} (h1 : 0 ≤ c) (h2 : c ≤ 200) : f_check_count [.va (.int c)] = .ok (.fz .non) [.un] := by
  rw [check_count_d rfl, if_pos (by simp [btw, h1, h2])]
/-- is this value a list of ints from lo to hi? -/
def lbtw (lo hi : Int) : D → Bool
  | .lst ds => ds.all fun d => btw d lo hi
  | _ => false
theorem is_list_between_d {d : D} (h : ne1 d = true) (lo hi : Int) : f_is_list_between [.va d, .va (.int lo), .va (.int hi)] = .ok (.fz (.bl (lbtw lo hi d))) [.un, .un, .un] := by
  cases d with
  | lst ds =>
    have ha := all_btw ds h (ρ := [.va (.lst ds), .va (.int lo), .va (.int hi), .un]) (ρ1 := [.va (.lst ds), .va (.int lo), .va (.int hi), .un]) (v := 3) (it := itE (nmE 0)) (lo := frz (nmE 1)) (hi := frz (nmE 2)) lo hi (by simp) (by simp) (by simp) (by simp)
    simp [e_is_list_between, d_is_list_between, ha, lbtw]
  | err c fs => cases h
  | pr c => cases h
  | scr c => cases h
  | _ => simp [e_is_list_between, d_is_list_between, lbtw, isiP, D.ty]
theorem lbtw_l {lo hi : Int} (ts : List Int) : lbtw lo hi (.lst (iL ts)) = ts.all fun t => decide (lo ≤ t) && decide (t ≤ hi) := all_of_ints
theorem is_list_between_l (ts : List Int) (lo hi : Int) : f_is_list_between [.va (.lst (iL ts)), .va (.int lo), .va (.int hi)] = .ok (.fz (.bl (ts.all fun t => decide (lo ≤ t) && decide (t ≤ hi)))) [.un, .un, .un] := by
  rw [is_list_between_d (ne1_l ts), lbtw_l]
/-! ### lots made -/
def InLim (ts : List Int) : Prop := ts.length ≤ 60 ∧ ts.sum ≤ 200
instance (ts : List Int) : Decidable (InLim ts) := inferInstanceAs (Decidable (_ ∧ _))
theorem check_limits_t (ts : List Int) : f_check_limits [.va (.tup (iL ts))] = if InLim ts then .ok (.fz .non) [.un] else .ex (.err "TooLarge" []) [.un] := by
  by_cases c : InLim ts
  · rw [if_pos c]; simp [e_check_limits, d_check_limits, c.1, c.2]
  · rw [if_neg c]
    have : (decide (ts.length ≤ 60) && decide (ts.sum ≤ 200)) = false := by
      rw [Bool.and_eq_false_iff]
      by_cases a : ts.length ≤ 60
      · exact .inr (decide_eq_false fun b => c ⟨a, b⟩)
      · exact .inl (decide_eq_false a)
    simp [e_check_limits, d_check_limits, this]
/-- the lot of these tools, or TooLarge -/
theorem lot_of_tools (ts : List Int) : f_u_lot_of_tools [.va (.lst (iL ts))] = if InLim ts then .ok (.fz (.tup (iL (dsort ts)))) [.un] else .ex (.err "TooLarge" []) [.un] := by
  have e2 : sortRevP (.lst (iL ts)) = some (.fr (iL (dsort ts))) := by simp
  have e3 := check_limits_t (dsort ts)
  have e4 : InLim (dsort ts) ↔ InLim ts := by unfold InLim; rw [dsort_len, dsort_sum]
  by_cases c : InLim ts
  · rw [if_pos (e4.mpr c)] at e3
    simp [e_u_lot_of_tools, d_u_lot_of_tools, x_u_lot_of_tools_0, x_u_lot_of_tools_1, x_u_lot_of_tools_2, -sortRevP_ap, e2, e3, c]
  · rw [if_neg (fun z => c (e4.mp z))] at e3
    simp [e_u_lot_of_tools, d_u_lot_of_tools, x_u_lot_of_tools_0, x_u_lot_of_tools_1, x_u_lot_of_tools_2, -sortRevP_ap, e2, e3, c]
/-- the tools that are there -/
def posL (ns : List Int) : List Int := ns.filter fun n => decide (0 < n)
theorem make_lot_l (ns : List Int) (hl : ns.length ≤ 1000000) (h : ∀ n ∈ ns, 0 ≤ n ∧ n ≤ 200) : f_make_lot [.va (.lst (iL ns))] = if InLim (posL ns) then .ok (.fz (.tup (iL (dsort (posL ns))))) [.un] else .ex (.err "TooLarge" []) [.un] := by
  have e1 : (ns.all fun t => decide (0 ≤ t) && decide (t ≤ 200)) = true := List.all_eq_true.mpr fun t ht => by have := h t ht; simp [this]
  have e2 := lcE_filter (v := 1) (it := itE (nmE 0)) (c := tst (bin gtP (nmO 1) (frz (cE (.int 0))))) (ρ := [.va (.lst (iL ns)), .un]) (ρ1 := [.va (.lst (iL ns)), .un]) (fun n => decide (0 < n)) ns (by simp) (by simp) hl (by simp)
  have e3 := lot_of_tools (posL ns)
  have e4 := is_list_between_l ns 0 200
  rw [e1] at e4
  rw [show (ns.filter fun n => decide (0 < n)) = posL ns from rfl] at e2
  by_cases c : InLim (posL ns)
  · rw [if_pos c] at e3
    simp [e_make_lot, d_make_lot, x_make_lot_0, x_make_lot_1, e4, e2, e3, c]
  · rw [if_neg c] at e3
    simp [e_make_lot, d_make_lot, x_make_lot_0, x_make_lot_1, e4, e2, e3, c]
end S
end

section
set_option Elab.async false
set_option linter.all false
set_option maxRecDepth 100000
namespace S
open PySem L2 KL
/-! ### numbers drawn from a cell -/
theorem small_mul {i j : Int} (h1 : -(2 ^ 64) < i) (h2 : i < 2 ^ 64) : mulC i j = true := by
  unfold mulC; rw [decide_eq_true h1, decide_eq_true h2]; rfl
theorem small_mulR {i j : Int} (h1 : -(2 ^ 64) < j) (h2 : j < 2 ^ 64) : mulC i j = true := by
  unfold mulC; rw [decide_eq_true h1, decide_eq_true h2, Bool.true_and, Bool.or_true]; rfl
def mixed (c k : Int) : Int :=
  let m := (c % 2147483647 * 48271 + k * 69621 + 1048583) % 2147483629
  let m := m * m % 2147483587
  m * (m + 2) % 2147483579
theorem mixed_ok (c k : Int) : f_u_law_mixed [.va (.int c), .va (.int k)] = .ok (.fz (.int (mixed c k))) [.un, .un] := by
  have h1 : mulC (c % 2147483647) 48271 = true := small_mulR (by decide) (by decide)
  have h2 : mulC k 69621 = true := small_mulR (by decide) (by decide)
  have b1 := Int.emod_lt_of_pos (c % 2147483647 * 48271 + k * 69621 + 1048583) (show (0 : Int) < 2147483629 by decide)
  have b2 := Int.emod_nonneg (c % 2147483647 * 48271 + k * 69621 + 1048583) (show (2147483629 : Int) ≠ 0 by decide)
  generalize hm : (c % 2147483647 * 48271 + k * 69621 + 1048583) % 2147483629 = m at b1 b2
  have h3 : mulC m m = true := small_mul (by omega) (by omega)
  have b3 := Int.emod_lt_of_pos (m * m) (show (0 : Int) < 2147483587 by decide)
  have b4 := Int.emod_nonneg (m * m) (show (2147483587 : Int) ≠ 0 by decide)
  have h4 : mulC (m * m % 2147483587) (m * m % 2147483587 + 2) = true := small_mul (by omega) (by omega)
  simp [e_u_law_mixed, d_u_law_mixed, x_u_law_mixed_0, x_u_law_mixed_1, x_u_law_mixed_2, modP_i, mulP_i h1, mulP_i h2, hm, mulP_i h3, mulP_i h4, mixed]
theorem mixed_nn (c k : Int) : 0 ≤ mixed c k := Int.emod_nonneg _ (by decide)
theorem loopC (A : D) (k c : Int) : ∃ f' q', 0 ≤ f' ∧ bx_u_law_cell_4 [.va A, .va (.int k), .va (.int c), .va (.int 0), .un] = .nx [.va A, .va (.int k), .va (.int c), .va (.int f'), q'] := by
  obtain ⟨ρ', h1, f', q', hf, rfl, _⟩ := forI_inv (tg := tgN 4) (b := bx_u_law_cell_5) (fun r ρ => ∃ f q, 0 ≤ f ∧ ρ = [.va A, .va (.int k), .va (.int c), .va (.int f), q] ∧ Fre q) (rg 0 24) [.va A, .va (.int k), .va (.int c), .va (.int 0), .un] ⟨0, .un, Int.le_refl _, rfl, fre_un⟩ fun j r ρ hj ⟨f, q, hf, e, hq⟩ => by
    subst e
    have h1 : mulC f 2147483579 = true := small_mulR (by decide) (by decide)
    have h2 : mulC 7 k = true := small_mul (by decide) (by decide)
    have h3 : mulC 100 j = true := small_mul (by decide) (by decide)
    have hj := rg_mem.mp hj
    have h4 : mulC j j = true := small_mul (by omega) (by omega)
    have hn := mixed_nn c (7 * k + 100 * j + j * j)
    refine ⟨[.va A, .va (.int k), .va (.int c), .va (.int f), .va (.int j)], [.va A, .va (.int k), .va (.int c), .va (.int (f * 2147483579 + mixed c (7 * k + 100 * j + j * j))), .va (.int j)], by simp [hq.io], .inl ?_, _, _, by omega, rfl, fre_va _⟩
    simp [x_u_law_cell_5, mulP_i h1, mulP_i h2, mulP_i h3, mulP_i h4, mixed_ok]
  refine ⟨f', q', hf, ?_⟩
  rw [← h1]
  simp [x_u_law_cell_4]
theorem cell_2 (A : D) (k c0 : Int) : (∃ c, 0 ≤ c ∧ bx_u_law_cell_2 [.va A, .va (.int k), .va (.int c0), .un, .un] = .rt (.fz (.int c)) [.va A, .va (.int k), .va (.int c0), .un, .un]) ∨ bx_u_law_cell_2 [.va A, .va (.int k), .va (.int c0), .un, .un] = .nx [.va A, .va (.int k), .va (.int c0), .un, .un] := by
  have p18 : powP (.int 10) (.int 18) = some (.fz (.int 1000000000000000000)) := by rfl
  have p60 : powP (.int 10) (.int 60) = some (.fz (.int (10 ^ 60))) := by rfl
  have m1 : mulP (.int (10 ^ 60)) (.int (10 ^ 60)) = some (.fz (.int (10 ^ 60 * 10 ^ 60))) := mulP_i (by decide +kernel)
  have m2 : mulP (.int (10 ^ 60 * 10 ^ 60)) (.int (10 ^ 60)) = some (.fz (.int (10 ^ 60 * 10 ^ 60 * 10 ^ 60))) := mulP_i (by decide +kernel)
  have m3 : mulP (.int (10 ^ 60 * 10 ^ 60 * 10 ^ 60)) (.int (10 ^ 60)) = some (.fz (.int (10 ^ 60 * 10 ^ 60 * 10 ^ 60 * 10 ^ 60))) := mulP_i (by decide +kernel)
  have md : ∀ i : Int, modP (.int i) (.int (10 ^ 60 * 10 ^ 60 * 10 ^ 60 * 10 ^ 60)) = some (.fz (.int (i % (10 ^ 60 * 10 ^ 60 * 10 ^ 60 * 10 ^ 60)))) := fun i => modP_i (by decide +kernel)
  by_cases hc : 1000000000000000000 ≤ c0
  · refine .inl ⟨(c0 - 1000000000000000000) % (10 ^ 60 * 10 ^ 60 * 10 ^ 60 * 10 ^ 60), Int.emod_nonneg _ (by decide +kernel : ((10 : Int) ^ 60 * 10 ^ 60 * 10 ^ 60 * 10 ^ 60) ≠ 0), ?_⟩
    generalize hb : (10 : Int) ^ 60 = b at p60 m1 m2 m3 md
    simp [x_u_law_cell_2, p18, p60, m1, m2, m3, md, hc]
  · refine .inr ?_
    simp [x_u_law_cell_2, p18, hc]
theorem cell_ok (ns : List Int) (k : Int) (hk : 0 ≤ k) : ∃ c : Int, 0 ≤ c ∧ f_u_law_cell [.va (.scr ns), .va (.int k)] = .ok (.fz (.int c)) [.un, .un] := by
  have main : ∀ c0 : Int, ∃ c : Int, 0 ≤ c ∧ fnK [.va (.scr ns), .va (.int k)] (seqS bx_u_law_cell_2 (seqS bx_u_law_cell_3 (seqS bx_u_law_cell_4 bx_u_law_cell_6)) [.va (.scr ns), .va (.int k), .va (.int c0), .un, .un]) = .ok (.fz (.int c)) [.un, .un] := fun c0 => by
    rcases cell_2 (.scr ns) k c0 with ⟨c, h1, h2⟩ | h2
    · exact ⟨c, h1, by simp [h2]⟩
    · obtain ⟨f', q', h3, h4⟩ := loopC (.scr ns) k c0
      exact ⟨f', h3, by simp [h2, x_u_law_cell_3, h4, x_u_law_cell_6]⟩
  by_cases h : k < (ns.length : Int)
  · obtain ⟨m, rfl⟩ := Int.eq_ofNat_of_zero_le hk
    have hm : m < ns.length := by omega
    obtain ⟨c, h1, h2⟩ := main ns[m]
    refine ⟨c, h1, ?_⟩
    rw [← h2]
    simp [e_u_law_cell, d_u_law_cell, x_u_law_cell_0, x_u_law_cell_1, hm]
  · obtain ⟨c, h1, h2⟩ := main 0
    refine ⟨c, h1, ?_⟩
    rw [← h2]
    simp [e_u_law_cell, d_u_law_cell, x_u_law_cell_0, x_u_law_cell_1, h]
theorem take_ok {c m : Int} (h1 : 0 < m) (h2 : m < 1073741824) : f_u_law_take [.io [.int c], .va (.int m)] = .ok (.fz (.int (c % m))) [.io [.int (c / m)], .un] := by
  simp [e_u_law_take, d_u_law_take, x_u_law_take_0, x_u_law_take_1, x_u_law_take_2, modP_i h1, divP_i h1 h2]
/-- a list of numbers from 1 to p, drawn -/
abbrev elL : M Vl := KL.bin addP (frz (cE (.int 1))) (frz (callI 2 f_u_law_take [] (aCons (nmO 0) (aCons (frz (nmE 2)) aNil))))
theorem take1 {c m : Int} (h1 : 0 ≤ c) (h2 : 0 < m) : 0 ≤ c / m ∧ 0 ≤ c % m ∧ c % m < m := ⟨Int.ediv_nonneg h1 (by omega), Int.emod_nonneg _ (by omega), Int.emod_lt_of_pos _ h2⟩
theorem ints_of_P {P : Int → Prop} : ∀ {xs : List D}, (∀ x ∈ xs, ∃ i, x = .int i ∧ P i) → ∃ vs : List Int, xs = iL vs ∧ ∀ v ∈ vs, P v
  | [], _ => ⟨[], rfl, by simp⟩
  | x :: r, h => by
    obtain ⟨i, rfl, hi⟩ := h x (List.mem_cons_self ..)
    obtain ⟨vs, rfl, hv⟩ := ints_of_P fun y hy => h y (List.mem_cons_of_mem _ hy)
    exact ⟨i :: vs, rfl, fun v hv' => (List.mem_cons.mp hv').elim (fun z => by rw [z]; exact hi) (hv v)⟩
theorem lot_wh (q0 q1 q2 q4 : Sl) : ∀ (k : Nat) (ys : List Int), ys.length < k → ∃ zs : List Int, zs.Sublist ys ∧ zs.sum ≤ 200 ∧ whS (tst (KL.bin gtP (frz (callB sumP (aCons (nmO 3) aNil))) (frz (cE (.int 200))))) bx_u_law_lot_2 k [q0, q1, q2, .ow (iL ys), q4] = .nx [q0, q1, q2, .ow (iL zs), q4]
  | 0, ys, h => by omega
  | k + 1, ys, h => by
    by_cases c : 200 < ys.sum
    · cases ys with
      | nil => simp at c
      | cons t r =>
        simp only [List.length_cons] at h
        obtain ⟨zs, a1, a2, a3⟩ := lot_wh q0 q1 q2 q4 k r (by omega)
        refine ⟨zs, a1.cons t, a2, ?_⟩
        rw [← a3]
        have c' : 200 < t + r.sum := by simpa using c
        simp [whS, c', x_u_law_lot_2]
    · exact ⟨ys, List.Sublist.refl _, by omega, by simp [whS, c]⟩
/-- tools, at most n, of sharpness up to p -/
theorem lot_ok {p n c : Int} (h1 : 0 < p) (h2 : p ≤ 200) (n1 : 0 ≤ n) (n2 : n ≤ 60) (hc : 0 ≤ c) : ∃ (ts : List Int) (c' : Int), Good ts ∧ ts.length ≤ n.toNat ∧ (∀ t ∈ ts, t ≤ p) ∧ 0 ≤ c' ∧
    f_u_law_lot [.io [.int c], .va (.int n), .va (.int p)] = .ok (.fz (tp ts)) [.io [.int c'], .un, .un] := by
  obtain ⟨b0, b1, b2⟩ := take1 (m := n + 1) hc (by omega)
  have tk := @take_ok c (n + 1) (by omega) (by omega)
  obtain ⟨xs, c', a1, a2, a3, a4⟩ := lcE_draw (vs := [4]) (it := itR1 (aCons (frz (callI 2 f_u_law_take [] (aCons (nmO 0) (aCons (frz (KL.bin addP (nmO 1) (frz (cE (.int 1))))) aNil)))) aNil)) (tg := tgN 4) (e := elL) (ρ := [.io [.int c], .va (.int n), .va (.int p), .un, .un]) (ρ1 := [.io [.int (c / (n + 1))], .va (.int n), .va (.int p), .un, .un])
    (fun c => [.io [.int c], .va (.int n), .va (.int p), .un, .un]) (fun c => [.io [.int c], .va (.int n), .va (.int p), .un, .un]) (fun c => 0 ≤ c) (fun d => ∃ i, d = .int i ∧ 1 ≤ i ∧ i ≤ p) (rangeL 0 (c % (n + 1)).toNat) (c / (n + 1))
    (by simp [tk]; omega) (by simp [okW]) rfl b0 (fun s => rfl) (fun s _ => by simp [okW]) (by simp; omega) fun d hd s hs => by
      obtain ⟨e0, e1, e2⟩ := take1 (m := p) hs h1
      exact ⟨[.io [.int s], .va (.int n), .va (.int p), .un, .va d], s / p, [.io [.int (s / p)], .va (.int n), .va (.int p), .un, .va d], .fz (.int (1 + s % p)), by simp, by simp [take_ok h1 (show p < 1073741824 by omega)], ⟨_, rfl, by omega, by omega⟩, e0, by simp [okW], by simp [wipeE]⟩
  obtain ⟨vs, rfl, hv⟩ := ints_of_P a2
  have lv : vs.length = (c % (n + 1)).toNat := by simpa using a1
  have pm := dsort_perm vs
  obtain ⟨ys, g1, g2, g3⟩ := lot_wh (.io [.int c']) (.va (.int n)) (.va (.int p)) .un 1000 (dsort vs) (by rw [dsort_len]; omega)
  have e3 := dsort_desc vs
  refine ⟨ys, c', ⟨fun t ht => ?_, e3.sublist g1, ?_, g2⟩, ?_, fun t ht => ?_, a3, ?_⟩
  · have := hv t (pm.mem_iff.mp (g1.subset ht)); exact ⟨this.1, by omega⟩
  · have := g1.length_le; rw [dsort_len] at this; omega
  · have := g1.length_le; rw [dsort_len] at this; omega
  · exact (hv t (pm.mem_iff.mp (g1.subset ht))).2
  · simp [e_u_law_lot, d_u_law_lot, x_u_law_lot_0, x_u_law_lot_1, x_u_law_lot_3, a4, g3]
/-- numbers from 1 to p, at most n -/
theorem row_ok {p n c : Int} (h1 : 0 < p) (h2 : p < 1000000) (n1 : 0 ≤ n) (n2 : n ≤ 100000) (hc : 0 ≤ c) : ∃ (ts : List Int) (c' : Int), ts.length ≤ n.toNat ∧ (∀ t ∈ ts, 1 ≤ t ∧ t ≤ p) ∧ 0 ≤ c' ∧
    f_u_law_row [.io [.int c], .va (.int n), .va (.int p)] = .ok (.fr (iL ts)) [.io [.int c'], .un, .un] := by
  obtain ⟨b0, b1, b2⟩ := take1 (m := n + 1) hc (by omega)
  have tk := @take_ok c (n + 1) (by omega) (by omega)
  obtain ⟨xs, c', a1, a2, a3, a4⟩ := lcE_draw (vs := [3]) (it := itR1 (aCons (frz (callI 2 f_u_law_take [] (aCons (nmO 0) (aCons (frz (KL.bin addP (nmO 1) (frz (cE (.int 1))))) aNil)))) aNil)) (tg := tgN 3) (e := elL) (ρ := [.io [.int c], .va (.int n), .va (.int p), .un]) (ρ1 := [.io [.int (c / (n + 1))], .va (.int n), .va (.int p), .un])
    (fun c => [.io [.int c], .va (.int n), .va (.int p), .un]) (fun c => [.io [.int c], .va (.int n), .va (.int p), .un]) (fun c => 0 ≤ c) (fun d => ∃ i, d = .int i ∧ 1 ≤ i ∧ i ≤ p) (rangeL 0 (c % (n + 1)).toNat) (c / (n + 1))
    (by simp [tk]; omega) (by simp [okW]) rfl b0 (fun s => rfl) (fun s _ => by simp [okW]) (by simp; omega) fun d hd s hs => by
      obtain ⟨e0, e1, e2⟩ := take1 (m := p) hs h1
      exact ⟨[.io [.int s], .va (.int n), .va (.int p), .va d], s / p, [.io [.int (s / p)], .va (.int n), .va (.int p), .va d], .fz (.int (1 + s % p)), by simp, by simp [take_ok h1 (show p < 1073741824 by omega)], ⟨_, rfl, by omega, by omega⟩, e0, by simp [okW], by simp [wipeE]⟩
  obtain ⟨vs, rfl, hv⟩ := ints_of_P a2
  have lv : vs.length = (c % (n + 1)).toNat := by simpa using a1
  exact ⟨vs, c', by omega, hv, a3, by simp [e_u_law_row, d_u_law_row, a4]⟩
end S
end

section
set_option Elab.async false
set_option linter.all false
set_option maxRecDepth 100000
namespace KL
open PySem L2
/-! ### slices -/
theorem sIx_pos {n d : Nat} {i : Int} (h : 0 ≤ i) : HT.sIx n d (some i) = min i.toNat n := by
  show (if i < 0 then _ else _) = _
  rw [if_neg (by omega)]
theorem cutD_from {α : Type} (xs : List α) {i : Int} (h : 0 ≤ i) : cutD xs (some i) none = xs.drop i.toNat := by
  unfold cutD
  rw [sIx_pos h, HT.sIx_none]
  by_cases c : i.toNat ≤ xs.length
  · rw [Nat.min_eq_left c, List.take_of_length_le (by simp)]
  · rw [Nat.min_eq_right (by omega), List.drop_of_length_le (by omega : xs.length ≤ i.toNat), List.drop_of_length_le (Nat.le_refl _)]; simp
theorem cutD_to {α : Type} (xs : List α) {i : Int} (h : 0 ≤ i) : cutD xs none (some i) = xs.take i.toNat := by
  unfold cutD
  rw [sIx_pos h, HT.sIx_none, List.drop_zero, Nat.sub_zero]
  by_cases c : i.toNat ≤ xs.length
  · rw [Nat.min_eq_left c]
  · rw [Nat.min_eq_right (by omega), List.take_of_length_le (Nat.le_refl _), List.take_of_length_le (by omega)]
theorem cutD_mid {α : Type} (xs : List α) {i j : Int} (h : 0 ≤ i) (h2 : 0 ≤ j) : cutD xs (some i) (some j) = (xs.take j.toNat).drop i.toNat := by
  unfold cutD
  rw [sIx_pos h, sIx_pos h2, List.drop_take]
  by_cases c : i.toNat ≤ xs.length
  · rw [Nat.min_eq_left c]
    by_cases c2 : j.toNat ≤ xs.length
    · rw [Nat.min_eq_left c2]
    · rw [Nat.min_eq_right (by omega), List.take_of_length_le (by simp), List.take_of_length_le (by simp; omega)]
  · rw [Nat.min_eq_right (show xs.length ≤ i.toNat by omega), List.drop_of_length_le (show xs.length ≤ i.toNat by omega), List.drop_of_length_le (Nat.le_refl _)]; simp
theorem cutD_sub {α : Type} (xs : List α) (lo hi : Option Int) : (cutD xs lo hi).Sublist xs := (List.take_sublist _ _).trans (List.drop_sublist _ _)
theorem cutD_map {α β : Type} (f : α → β) (xs : List α) (lo hi : Option Int) : cutD (xs.map f) lo hi = (cutD xs lo hi).map f := by
  unfold cutD; rw [List.length_map, List.map_take, List.map_drop]
/-! ### one of a list -/
theorem ix_pick {xs : List D} {i : Int} (h0 : 0 ≤ i) (h1 : i < xs.length) : ∃ d ∈ xs, ixP (.lst xs) (.int i) = some (.fz d) := by
  have h2 : i.toNat < xs.length := by omega
  refine ⟨xs[i.toNat], List.getElem_mem h2, ?_⟩
  rw [ixP_l, ixA_ap, if_pos h0, List.getElem?_eq_getElem h2]; rfl
theorem ix_pickT {xs : List D} {i : Int} (h0 : 0 ≤ i) (h1 : i < xs.length) : ∃ d ∈ xs, ixP (.tup xs) (.int i) = some (.fz d) := ix_pick h0 h1
theorem ix3' (a b d : Int) {k : Int} (h0 : 0 ≤ k) (h1 : k < 3) : ∃ x, (x = a ∨ x = b ∨ x = d) ∧ ixP (.lst [.int a, .int b, .int d]) (.int k) = some (.fz (.int x)) := by
  obtain ⟨e, he, h⟩ := ix_pick (xs := [.int a, .int b, .int d]) h0 (by simpa using h1)
  simp only [List.mem_cons, List.not_mem_nil, or_false] at he
  rcases he with rfl | rfl | rfl
  · exact ⟨a, .inl rfl, h⟩
  · exact ⟨b, .inr (.inl rfl), h⟩
  · exact ⟨d, .inr (.inr rfl), h⟩
/-! ### strings -/
theorem shL_ints : ∀ {ts : List Int}, (∀ t ∈ ts, t.natAbs < 2 ^ 60) → D.shL (iL ts) = true
  | [], _ => by simp [D.shL]
  | t :: r, h => by
    have h1 := h t (List.mem_cons_self ..)
    have h2 : t.natAbs < 10 ^ 70 := Nat.lt_trans h1 (by decide)
    simp only [iL_cons, D.shL, D.sh, shL_ints fun u hu => h u (List.mem_cons_of_mem _ hu), Bool.and_true]
    exact decide_eq_true h2
theorem blkL_ints : ∀ ts : List Int, D.blkL (iL ts) = ts.length
  | [] => rfl
  | t :: r => by
    simp only [iL_cons, D.blkL, D.blk, blkL_ints r, List.length_cons]; omega
theorem strP_l {ts : List Int} (h : ∀ t ∈ ts, t.natAbs < 2 ^ 60) (hl : ts.length ≤ 200000) : ∃ s, strP [.lst (iL ts)] = some (.fz (.str s)) := by
  refine ⟨(D.lst (iL ts)).py.shown, ?_⟩
  show strD (.lst (iL ts)) = _
  unfold strD
  rw [if_pos]
  simp [D.sh, shL_ints h, D.dep, depL_ints, D.blk, blkL_ints, hl]
theorem strP_t {ts : List Int} (h : ∀ t ∈ ts, t.natAbs < 2 ^ 60) (hl : ts.length ≤ 200000) : ∃ s, strP [.tup (iL ts)] = some (.fz (.str s)) := by
  refine ⟨(D.tup (iL ts)).py.shown, ?_⟩
  show strD (.tup (iL ts)) = _
  unfold strD
  rw [if_pos]
  simp [D.sh, shL_ints h, D.dep, depL_ints, D.blk, blkL_ints, hl]
@[simp] theorem neP_same (x : Str) : neP (.str x) (.str x) = some (.fz (.bl false)) := neP_of (d := .str x) (e := .str x) (b := true) (by simp [D.pln, D.dep]) (by simp [D.eqD])
/-! ### what equals itself -/
mutual
theorem eqD_refl : ∀ d : D, d.pln = true → d.eqD d = true
  | .non, _ => rfl
  | .bl b, _ => by simp [D.eqD]
  | .int i, _ => by simp [D.eqD]
  | .str s, _ => by simp [D.eqD]
  | .lst xs, h => by simp only [D.eqD]; exact eqL_refl xs h
  | .tup xs, h => by simp only [D.eqD]; exact eqL_refl xs h
  | .pr _, h => by cases h
  | .scr _, h => by cases h
  | .err _ _, h => by cases h
theorem eqL_refl : ∀ ds : List D, D.plnL ds = true → D.eqL ds ds = true
  | [], _ => rfl
  | d :: r, h => by
    simp only [D.plnL, Bool.and_eq_true] at h
    simp only [D.eqL, eqD_refl d h.1, eqL_refl r h.2, Bool.and_self]
end
theorem eqP_same {d : D} (h : d.pln = true) (h2 : d.dep ≤ 60) : eqP d d = some (.fz (.bl true)) := eqP_of (by simp [h, h2]) (eqD_refl d h)
theorem neP_same' {d : D} (h : d.pln = true) (h2 : d.dep ≤ 60) : neP d d = some (.fz (.bl false)) := neP_of (b := true) (by simp [h, h2]) (eqD_refl d h)
theorem plnL_bls : ∀ bs : List Bool, D.plnL (bs.map .bl) = true
  | [] => rfl
  | _ :: r => by simp only [List.map_cons, D.plnL, D.pln, plnL_bls r, Bool.and_self]
theorem depL_bls : ∀ bs : List Bool, D.depL (bs.map .bl) = 0
  | [] => rfl
  | _ :: r => by simp only [List.map_cons, D.depL, D.dep, depL_bls r, Nat.max_self]
theorem eqP_bls (bs : List Bool) : eqP (.lst (bs.map .bl)) (.lst (bs.map .bl)) = some (.fz (.bl true)) := eqP_same (plnL_bls bs) (by simp [D.dep, depL_bls])
theorem okR_ok {i : Int} (h1 : -1000000 ≤ i) (h2 : i ≤ 1000000) : okR i = true := by
  unfold okR; rw [decide_eq_true (by omega), decide_eq_true (by omega)]; rfl
/-! ### the law's turns -/
theorem turns_ok (ns : List Int) (K : Int) (h1 : 1 ≤ K) (h2 : K ≤ 1000) {ρ : KL.Env} (h : ρ[0]? = some (.va (.scr ns))) : ∃ m : Nat, (m : Int) ≤ K ∧ 1 ≤ m ∧
    itR1 (aCons (frz (callB maxP2 (aCons (frz (callB minP2 (aCons (frz (callB lenP (aCons (nmO 0) aNil))) (aCons (frz (cE (.int K))) aNil)))) (aCons (frz (cE (.int 1))) aNil)))) aNil) ρ = .ok (iL (rg 0 m)) ρ := by
  obtain ⟨L, hL, hL0⟩ : ∃ L : Int, lenP [.scr ns] = some (.fz (.int L)) ∧ 0 ≤ L := ⟨ns.length, rfl, by omega⟩
  by_cases a : K < L
  · have b : ¬ K < 1 := by omega
    have o := okR_ok (show -1000000 ≤ K by omega) (by omega)
    exact ⟨K.toNat, by omega, by omega, by simp [h, a, b, o, -okR_lit, hL, -lenP_s]⟩
  · by_cases b : L < 1
    · have o : okR 1 = true := by decide
      exact ⟨1, by omega, by omega, by simp [h, a, b, o, -okR_lit, hL, -lenP_s]⟩
    · have o := okR_ok (show -1000000 ≤ L by omega) (by omega)
      exact ⟨L.toNat, by omega, by omega, by simp [h, a, b, o, -okR_lit, hL, -lenP_s]⟩
end KL
end

section
set_option Elab.async false
set_option linter.all false
set_option maxRecDepth 100000
namespace S
open PySem L2 KL
/-! ### which error: what the laws on errors share -/
theorem words_ok (k : Str) (q0 q1 : Sl) (ws : List Str) (hl : ws.length ≤ 1000) : lcE [3] (itE (nmE 2)) (tgN 3) yesB (KL.bin eqP (nmO 3) (nmO 1)) [q0, .va (.str k), .ow (ws.map .str), .un] = .ok (.fr ((ws.map fun w => w == k).map .bl)) [q0, .va (.str k), .va (.lst (ws.map .str)), .un] := by
  have := lcE_all (v := 3) (it := itE (nmE 2)) (e := KL.bin eqP (nmO 3) (nmO 1)) (enc := D.str) (ρ := [q0, .va (.str k), .ow (ws.map .str), .un]) (ρ1 := [q0, .va (.str k), .va (.lst (ws.map .str)), .un]) (fun w => .bl (w == k)) ws (by simp) rfl (by omega) fun w hw => ⟨.fz (.bl (w == k)), rfl, by
    have : eqP (.str w) (.str k) = some (.fz (.bl (w == k))) := eqP_of (by simp [D.pln, D.dep]) (by simp [D.eqD])
    simp [this]⟩
  rw [this, List.map_map]; rfl
def wordsL : List Str := ["lot", "row", "number", "option", "list", "picks", "missing", "cannot", "impossible", "sharp", "large"]
theorem eqP_bls2 (a b : List Bool) : eqP (.lst (a.map .bl)) (.lst (b.map .bl)) = some (.fz (.bl (decide (a = b)))) := by
  refine eqP_of (by simp [D.pln, plnL_bls, D.dep, depL_bls]) ?_
  show D.eqL (a.map .bl) (b.map .bl) = _
  induction a generalizing b with
  | nil => cases b <;> simp [D.eqL]
  | cons x a ih => cases b with
    | nil => simp [D.eqL]
    | cons y b =>
      simp only [List.map_cons, D.eqL, D.eqD, ih b]
      by_cases h : x = y <;> simp [h]
theorem only_of {c k : Str} {bs : List Bool} (h1 : subO "KeenError" c = some true) (h2 : subV c = some true) (h3 : f_u_law_kinds [.va (.err c [])] = .ok (.fr (bs.map .bl)) [.un]) (h4 : bs = wordsL.map fun w => w == k) : f_u_law_only [.va (.err c []), .va (.str k)] = .ok (.fz (.bl true)) [.un, .un] := by
  have w := words_ok k (.va (.err c [])) .un wordsL (by decide)
  rw [← h4] at w
  have e := eqP_bls bs
  have z0 : bx_u_law_only_0 [.va (.err c []), .va (.str k), .un, .un] = .nx [.va (.err c []), .va (.str k), .ow (wordsL.map .str), .un] := by
    simp [x_u_law_only_0, wordsL]
  generalize wordsL.map D.str = W at w z0
  simp [e_u_law_only, d_u_law_only, z0, x_u_law_only_1, h1, h2, x_u_law_only_2, h3, w, e]
theorem only_lot : f_u_law_only [.va (.err "InvalidLot" []), .va (.str "lot")] = .ok (.fz (.bl true)) [.un, .un] :=
  only_of (bs := [true, false, false, false, false, false, false, false, false, false, false]) (by simp) (by simp) (by simp [e_u_law_kinds, d_u_law_kinds, x_u_law_kinds_0, x_u_law_kinds_1, x_u_law_kinds_2, x_u_law_kinds_3, x_u_law_kinds_4]) (by decide)
theorem only_number : f_u_law_only [.va (.err "InvalidNumber" []), .va (.str "number")] = .ok (.fz (.bl true)) [.un, .un] :=
  only_of (bs := [false, false, true, false, false, false, false, false, false, false, false]) (by simp) (by simp) (by simp [e_u_law_kinds, d_u_law_kinds, x_u_law_kinds_0, x_u_law_kinds_1, x_u_law_kinds_2, x_u_law_kinds_3, x_u_law_kinds_4]) (by decide)
theorem only_list : f_u_law_only [.va (.err "InvalidList" []), .va (.str "list")] = .ok (.fz (.bl true)) [.un, .un] :=
  only_of (bs := [false, false, false, false, true, false, false, false, false, false, false]) (by simp) (by simp) (by simp [e_u_law_kinds, d_u_law_kinds, x_u_law_kinds_0, x_u_law_kinds_1, x_u_law_kinds_2, x_u_law_kinds_3, x_u_law_kinds_4]) (by decide)
/-- no lot -/
structure BadL (v : D) : Prop where
  ne : ne1 v = true
  bad : lotD v = false
theorem badL_ints {ts : List Int} (h : ¬ Good ts) : BadL (.tup (iL ts)) := ⟨ne1_t ts, by rw [lotD_t]; exact decide_eq_false h⟩
theorem badL_tup {ds : List D} (h : ds.all ne = true) (h2 : ints? ds = none) : BadL (.tup ds) := ⟨h, by show (match ints? ds with | some ts => decide (Good ts) | none => false) = false; rw [h2]⟩
theorem chk_bad {d : D} (h : BadL d) : f_check_lot [.va d] = .ex (.err "InvalidLot" []) [.un] := by
  rw [check_lot_d h.ne, h.bad]; rfl

theorem mulT_rep (x k : Int) (h1 : 2 ≤ k) (h2 : k ≤ 1000) : mulP (.tup [.int x]) (.int k) = some (.fz (tp (List.replicate k.toNat x))) := by
  rw [mulP_t, if_pos ⟨by omega, h2, by simp⟩, iL_one]
theorem mulT_repA (x k : Int) (h1 : -1000000 < k) (h2 : k ≤ 1000) : mulP (.tup [.int x]) (.int k) = some (.fz (tp (List.replicate k.toNat x))) := by
  rw [mulP_t, if_pos ⟨h1, h2, by simp⟩, iL_one]
theorem mulL_rep (x k : Int) (h1 : 0 ≤ k) (h2 : k ≤ 1000) : mulP (.lst [.int x]) (.int k) = some (.fr (iL (List.replicate k.toNat x))) := by
  rw [mulP_l, if_pos ⟨by omega, by omega, by simp; omega⟩, iL_one]
theorem rep_good1 {n : Nat} (h : n ≤ 60) : Good (List.replicate n 1) :=
  ⟨fun t ht => by rw [List.eq_of_mem_replicate ht]; decide, List.pairwise_replicate.mpr (.inr (by decide)), by simpa using h, by simp; omega⟩
theorem one_good {t : Int} (h1 : 1 ≤ t) (h2 : t ≤ 200) : Good [t] := by
  rw [good_iff]; simp; omega
theorem good_nil : Good [] := by decide
theorem forD_wp {tg : D → KL.Env → Out} {b : SM} (P : KL.Env → Prop) (xs : List D) (ρ : KL.Env) (h : P ρ)
    (hs : ∀ d ρ, d ∈ xs → P ρ → ∃ ρ1 ρ2, tg d ρ = .nx ρ1 ∧ (b ρ1 = .nx ρ2 ∨ b ρ1 = .ct ρ2) ∧ P ρ2) : ∃ ρ', forL tg b xs ρ = .nx ρ' ∧ P ρ' := by
  have := forL_wp (enc := id) P xs ρ h hs
  rwa [List.map_id] at this
theorem forD_inv {tg : D → KL.Env → Out} {b : SM} (P : List D → KL.Env → Prop) (xs : List D) (ρ : KL.Env) (h : P xs ρ)
    (hs : ∀ d r ρ, d ∈ xs → P (d :: r) ρ → ∃ ρ1 ρ2, tg d ρ = .nx ρ1 ∧ (b ρ1 = .nx ρ2 ∨ b ρ1 = .ct ρ2) ∧ P r ρ2) : ∃ ρ', forL tg b xs ρ = .nx ρ' ∧ P [] ρ' := by
  have := forL_inv (enc := id) P xs ρ h hs
  rwa [List.map_id] at this
/-- the capacity -/
def capOf (ts : List Int) (n : Int) : Int := ((ts.filter fun t => decide (n ≤ t)).map fun t => t - n + 1).sum
theorem capacity_of_ok (ts : List Int) (n : Int) (hl : ts.length ≤ 1000000) : f_capacity_of [.va (tp ts), .va (.int n)] = .ok (.fz (.int (capOf ts n))) [.un, .un] := by
  have e := lcE_int (v := 2) (it := itE (nmE 0)) (c := tst (KL.bin geP (nmO 2) (nmO 1))) (e := KL.bin addP (frz (KL.bin subP (nmO 2) (nmO 1))) (frz (cE (.int 1)))) (ρ := [.va (tp ts), .va (.int n), .un]) (ρ1 := [.va (tp ts), .va (.int n), .un]) (fun t => decide (n ≤ t)) (fun t => t - n + 1) ts (by simp) (by simp) hl (by simp) (fun a _ _ => ⟨.fz (.int (a - n + 1)), rfl, by simp⟩)
  rw [e_capacity_of, d_capacity_of]
  simp [e]
  rfl
/-! what str shows -/
def Shw (v : D) : Prop := ∃ s, strP [v] = some (.fz (.str s))
theorem shL_app : ∀ (a b : List D), D.shL (a ++ b) = (D.shL a && D.shL b)
  | [], b => by simp [D.shL]
  | d :: r, b => by simp only [List.cons_append, D.shL, shL_app r b, Bool.and_assoc]
theorem depL_app : ∀ (a b : List D), D.depL (a ++ b) = max (D.depL a) (D.depL b)
  | [], b => by simp [D.depL]
  | d :: r, b => by simp only [List.cons_append, D.depL, depL_app r b]; omega
theorem blkL_app : ∀ (a b : List D), D.blkL (a ++ b) = D.blkL a + D.blkL b
  | [], b => by simp [D.blkL]
  | d :: r, b => by simp only [List.cons_append, D.blkL, blkL_app r b]; omega
theorem shw_l {ds : List D} (h1 : D.shL ds = true) (h2 : D.depL ds ≤ 50) (h3 : D.blkL ds ≤ 200000) : Shw (.lst ds) := by
  refine ⟨(D.lst ds).py.shown, ?_⟩
  show strD (.lst ds) = _
  unfold strD
  rw [if_pos]
  have : (D.lst ds).dep ≤ 60 := by simp only [D.dep]; omega
  simp [D.sh, h1, this, D.blk, h3]

@[simp] theorem neP_lnn : neP (.lst []) (.lst []) = some (.fz (.bl false)) := neP_lints [] []
@[simp] theorem eqP_lnn : eqP (.lst []) (.lst []) = some (.fz (.bl true)) := eqP_lints [] []
@[simp] theorem neP_tnn : neP (.tup []) (.tup []) = some (.fz (.bl false)) := neP_tints [] []
@[simp] theorem eqP_tnn : eqP (.tup []) (.tup []) = some (.fz (.bl true)) := eqP_tints [] []
@[simp] theorem eqP_tnil (a : List Int) : eqP (.tup (iL a)) (.tup []) = some (.fz (.bl (decide (a = [])))) := eqP_tints a []
@[simp] theorem neP_tnil (a : List Int) : neP (.tup (iL a)) (.tup []) = some (.fz (.bl (!decide (a = [])))) := neP_tints a []

@[simp] theorem iL_getE (ts : List Int) (n : Nat) (h : n < (iL ts).length) : (iL ts)[n]'h = .int (ts[n]'(by simpa using h)) := List.getElem_map ..

def optI5 : Option Int → D
  | some n => .int n
  | none => .non
end S
end

section
set_option Elab.async false
set_option linter.all false
set_option maxRecDepth 100000
namespace S
open PySem L2 KL
/-! ### comparing lots -/
theorem maxA_l (m : Int) (r : List Int) : maxA [.lst (iL (m :: r))] = some (.fz (.int (maxI m r))) := by
  unfold maxA; simp only [ints_iL]
theorem maxA_t (m : Int) (r : List Int) : maxA [.tup (.int m :: iL r)] = some (.fz (.int (maxI m r))) := by
  have : maxA [.tup (iL (m :: r))] = some (.fz (.int (maxI m r))) := by unfold maxA; simp only [ints_iT]
  exact this
theorem minA_l (m : Int) (r : List Int) : minA [.lst (iL (m :: r))] = some (.fz (.int (minI m r))) := by
  unfold minA; simp only [ints_iL]
theorem maxI_sp (m : Int) (r : List Int) : maxI m r ∈ m :: r ∧ ∀ y ∈ m :: r, y ≤ maxI m r := by
  letI : Tabs := ⟨fun _ => False⟩
  exact maxI_ok r m
theorem minI_sp (m : Int) (r : List Int) : minI m r ∈ m :: r ∧ ∀ y ∈ m :: r, minI m r ≤ y := by
  letI : Tabs := ⟨fun _ => False⟩
  exact minI_ok r m
theorem maxI_is' {m t : Int} {r : List Int} (h : t ∈ m :: r) (h2 : ∀ x ∈ m :: r, x ≤ t) : maxI m r = t :=
  Int.le_antisymm (h2 _ (maxI_sp m r).1) ((maxI_sp m r).2 _ h)
theorem minI_is' {m t : Int} {r : List Int} (h : t ∈ m :: r) (h2 : ∀ x ∈ m :: r, t ≤ x) : minI m r = t :=
  Int.le_antisymm ((minI_sp m r).2 _ h) (h2 _ (minI_sp m r).1)
/-- the sharpest tool, or 0 -/
def hiOf (b : List Int) : Int := maxI 0 b
theorem hi_nn (b : List Int) : 0 ≤ hiOf b := (maxI_sp 0 b).2 0 (by simp)
theorem hi_ge {b : List Int} {t : Int} (h : t ∈ b) : t ≤ hiOf b := (maxI_sp 0 b).2 t (by simp [h])
theorem hi_le {b : List Int} {m : Int} (h0 : 0 ≤ m) (h : ∀ t ∈ b, t ≤ m) : hiOf b ≤ m := by
  rcases List.mem_cons.mp (maxI_sp 0 b).1 with e | e
  · unfold hiOf; rw [e]; exact h0
  · exact h _ e
theorem capOf_cons (t : Int) (r : List Int) (n : Int) : capOf (t :: r) n = (if n ≤ t then t - n + 1 else 0) + capOf r n := by
  unfold capOf
  by_cases h : n ≤ t
  · simp [h]
  · simp [h]
theorem capOf_nil (n : Int) : capOf [] n = 0 := rfl
theorem capOf_nn : ∀ (ts : List Int) (n : Int), 0 ≤ capOf ts n
  | [], n => Int.le_refl _
  | t :: r, n => by
    rw [capOf_cons]
    have := capOf_nn r n
    split <;> omega
theorem capOf_le : ∀ {ts : List Int} {n : Int}, 1 ≤ n → (∀ t ∈ ts, 0 ≤ t) → capOf ts n ≤ ts.sum
  | [], n, _, _ => Int.le_refl _
  | t :: r, n, h, ht => by
    rw [capOf_cons, List.sum_cons]
    have h1 := ht t (List.mem_cons_self ..)
    have := capOf_le (ts := r) h fun u hu => ht u (List.mem_cons_of_mem _ hu)
    split <;> omega
theorem cap_good {ts : List Int} (g : Good ts) {n : Int} (h : 1 ≤ n) : capOf ts n ≤ 200 :=
  Int.le_trans (capOf_le h fun t ht => by have := g.rng t ht; omega) g.sum
def gapOf (a b : List Int) : Option Int := (rg 1 (hiOf b).toNat).find? fun n => decide (capOf a n < capOf b n)
def optI : Option Int → D
  | some n => .int n
  | none => .non
theorem gap_loop {a b : List Int} (la : a.length ≤ 1000) (lb : b.length ≤ 1000) : ∀ (xs : List Int) (q : Sl), Fre q → ∃ q', forL (tgN 2) bx_u_least_gap_1 (iL xs) [.va (tp a), .va (tp b), q] = match xs.find? fun n => decide (capOf a n < capOf b n) with
    | none => .nx [.va (tp a), .va (tp b), q']
    | some n => .rt (.fz (.int n)) [.va (tp a), .va (tp b), q']
  | [], q, hq => ⟨q, rfl⟩
  | n :: r, q, hq => by
    have c1 := capacity_of_ok a n (by omega)
    have c2 := capacity_of_ok b n (by omega)
    by_cases h : capOf a n < capOf b n
    · refine ⟨.va (.int n), ?_⟩
      rw [iL_cons, List.find?_cons_of_pos (by simpa using h)]
      simp [forL, hq.io, x_u_least_gap_1, c1, c2, h]
    · obtain ⟨q', e⟩ := gap_loop la lb r (.va (.int n)) (fre_va _)
      refine ⟨q', ?_⟩
      rw [iL_cons, List.find?_cons_of_neg (by simpa using h), ← e]
      simp [forL, hq.io, x_u_least_gap_1, c1, c2, h]
theorem least_gap_ok {a b : List Int} (ga : Good a) (gb : Good b) : f_u_least_gap [.va (tp a), .va (tp b)] = .ok (.fz (optI (gapOf a b))) [.un, .un] := by
  obtain ⟨q', e⟩ := gap_loop (a := a) (b := b) (by have := ga.len; omega) (by have := gb.len; omega) (rg 1 (hiOf b).toNat) .un fre_un
  have m := maxA_t 0 b
  have h0 := hi_nn b
  have h1 : hiOf b ≤ 200 := hi_le (by decide) fun t ht => (gb.rng t ht).2
  have l1 : b.length + 1 ≤ 1000000 := by have := gb.len; omega
  rw [show maxI 0 b = hiOf b from rfl] at m
  unfold gapOf
  generalize hiOf b = M at *
  have o1 : M + 1 < 1000000000 := by omega
  have o2 : -1000000000 < M + 1 := by omega
  cases h : (rg 1 M.toNat).find? fun n => decide (capOf a n < capOf b n) with
  | none =>
    rw [h] at e
    simp [e_u_least_gap, d_u_least_gap, x_u_least_gap_0, l1, m, o1, o2, e, x_u_least_gap_2, optI]
  | some n =>
    rw [h] at e
    simp [e_u_least_gap, d_u_least_gap, x_u_least_gap_0, l1, m, o1, o2, e, x_u_least_gap_2, optI]
theorem gap_some {a b : List Int} {n : Int} (h : gapOf a b = some n) : 1 ≤ n ∧ n ≤ hiOf b ∧ capOf a n < capOf b n := by
  have h1 := rg_mem.mp (List.mem_of_find?_eq_some h)
  have h2 := List.find?_some h
  have := hi_nn b
  exact ⟨h1.1, by omega, of_decide_eq_true h2⟩
theorem covers_ok {a b : List Int} (ga : Good a) (gb : Good b) : f_covers [.va (tp a), .va (tp b)] = .ok (.fz (.bl (gapOf a b).isNone)) [.un, .un] := by
  have e := least_gap_ok ga gb
  cases h : gapOf a b <;> rw [h] at e <;> simp [e_covers, d_covers, x_covers_0, x_covers_1, x_covers_2, check_good ga, check_good gb, e, optI]
theorem gap_ok {a b : List Int} (ga : Good a) (gb : Good b) : f_gap [.va (tp a), .va (tp b)] = .ok (.fz (optI (gapOf a b))) [.un, .un] := by
  have e := least_gap_ok ga gb
  simp [e_gap, d_gap, x_gap_0, x_gap_1, x_gap_2, check_good ga, check_good gb, e]
theorem parting_ok {a b : List Int} (ga : Good a) (gb : Good b) : f_parting_row [.va (tp a), .va (tp b)] = .ok (match gapOf a b with
    | none => .fz .non
    | some n => .fr (iL (List.replicate (capOf a n + 1).toNat n))) [.un, .un] := by
  have e := least_gap_ok ga gb
  cases h : gapOf a b with
  | none =>
    rw [h] at e
    simp [e_parting_row, d_parting_row, x_parting_row_0, x_parting_row_1, x_parting_row_2, x_parting_row_3, check_good ga, check_good gb, e, optI]
  | some n =>
    rw [h] at e
    obtain ⟨h1, h2, h3⟩ := gap_some h
    have c := capacity_of_ok a n (by have := ga.len; omega)
    have c1 := capOf_nn a n
    have c2 := cap_good ga h1
    have m := mulL_rep n (capOf a n + 1) (by omega) (by omega)
    simp [e_parting_row, d_parting_row, x_parting_row_0, x_parting_row_1, x_parting_row_2, x_parting_row_3, check_good ga, check_good gb, e, optI, x_parting_row_4, c, -mulP_l, m]
/-! lists of lots -/
def ne2 : D → Bool
  | .err _ _ => false
  | .pr _ => false
  | .scr _ => false
  | .lst ds => ds.all ne1
  | _ => true
def listD : D → Bool
  | .lst ds => decide (1 ≤ ds.length ∧ ds.length ≤ 20) && ds.all lotD
  | _ => false
theorem check_lots_d {d : D} (h : ne2 d = true) : f_u_check_lots [.va d] = if listD d = true then .ok (.fz .non) [.un] else .ex (.err "InvalidList" []) [.un] := by
  cases d with
  | lst ds =>
    have ha := allE_map (enc := id) (v := 1) (it := itE (nmE 0)) (e := callV 1 f_is_valid_lot [] (aCons (frz (nmE 1)) (aNil))) (ρ := [.va (.lst ds), .un]) (ρ1 := [.va (.lst ds), .un]) lotD ds (by simp) rfl fun d hd => by
      have := valid_d (List.all_eq_true.mp h d hd)
      simp [this]
    rw [show listD (.lst ds) = (decide (1 ≤ ds.length ∧ ds.length ≤ 20) && ds.all lotD) from rfl]
    by_cases c1 : (1 : Int) ≤ ds.length
    · by_cases c2 : (ds.length : Int) ≤ 20
      · have c : 1 ≤ ds.length ∧ ds.length ≤ 20 := by omega
        cases c3 : ds.all lotD <;> rw [c3] at ha <;> simp [e_u_check_lots, d_u_check_lots, x_u_check_lots_0, x_u_check_lots_1, c1, c2, ha, c.1, c.2]
      · have c : ¬ ds.length ≤ 20 := by omega
        simp [e_u_check_lots, d_u_check_lots, x_u_check_lots_0, c1, c2, c]
    · have c : ¬ 1 ≤ ds.length := by omega
      simp [e_u_check_lots, d_u_check_lots, x_u_check_lots_0, c1, c]
  | err c fs => cases h
  | pr c => cases h
  | scr c => cases h
  | _ => simp [e_u_check_lots, d_u_check_lots, x_u_check_lots_0, listD]

/-- the greatest of the capacities -/
def capM (Ls : List (List Int)) (n : Int) : Int := match Ls with
  | [] => 0
  | a :: r => maxI (capOf a n) (r.map fun l => capOf l n)
theorem greatest_capacity_ok (Ls : List (List Int)) (h : Ls ≠ []) (hl : Ls.length ≤ 1000) (hg : ∀ l ∈ Ls, l.length ≤ 1000) (n : Int) : f_u_greatest_capacity [.va (.lst (Ls.map tp)), .va (.int n)] = .ok (.fz (.int (capM Ls n))) [.un, .un] := by
  have e := lcE_all (v := 2) (it := itE (nmE 0)) (e := callV 2 f_capacity_of [] (aCons (frz (nmE 2)) (aCons (frz (nmE 1)) (aNil)))) (enc := tp) (ρ := [.va (.lst (Ls.map tp)), .va (.int n), .un]) (ρ1 := [.va (.lst (Ls.map tp)), .va (.int n), .un]) (fun l => .int (capOf l n)) Ls (by simp) rfl (by omega) fun l hl => ⟨.fz (.int (capOf l n)), rfl, by
    have := capacity_of_ok l n (by have := hg l hl; omega)
    simp [this]⟩
  cases Ls with
  | nil => exact absurd rfl h
  | cons a r =>
    have e2 : ((a :: r).map fun l => D.int (capOf l n)) = iL (capOf a n :: r.map fun l => capOf l n) := by
      unfold iL; rw [List.map_cons, List.map_cons, List.map_map]; rfl
    rw [e2] at e
    have m := maxA_l (capOf a n) (r.map fun l => capOf l n)
    generalize iL (capOf a n :: r.map fun l => capOf l n) = E at e m
    rw [e_u_greatest_capacity, d_u_greatest_capacity]
    simp only [capM]
    generalize (a :: r).map tp = A at e ⊢
    simp [e, m]
def dn (n : Nat) : List Int := (List.range n).map fun k => (n : Int) - (k : Nat)
theorem downL_dn (n : Nat) : downL n n = iL (dn n) := by
  unfold downL iL dn
  rw [List.map_map]
  apply List.map_congr_left
  intro k _
  simp only [Function.comp]
  congr 1
  omega
theorem dn_mem {n : Nat} {t : Int} : t ∈ dn n ↔ 1 ≤ t ∧ t ≤ n := by
  unfold dn
  rw [List.mem_map]
  constructor
  · rintro ⟨k, hk, rfl⟩
    have := List.mem_range.mp hk
    omega
  · rintro ⟨h1, h2⟩
    exact ⟨n - t.toNat, List.mem_range.mpr (by omega), by omega⟩
/-- as many tools of this sharpness as the growth changes -/
def manyOf (f : Int → Int) (t : Int) : Int := f t - 2 * f (t + 1) + f (t + 2)
def lotW (f : Int → Int) (ts : List Int) : List Int := ts.flatMap fun t => List.replicate (manyOf f t).toNat t
theorem caps_get (f : Int → Int) {t : Int} (h1 : 0 ≤ t) (h2 : t ≤ 201) : ixP (.lst (iL ((rg 1 202).map f))) (.int t) = some (.fz (.int (f (t + 1)))) := by
  rw [ixP_l, ixA_ap, if_pos h1, iL_get, List.getElem?_map, rg_get (by omega), Int.toNat_of_nonneg h1, Int.add_comm]
  rfl
theorem mulL_repZ (x k : Int) (h1 : -1000000 < k) (h2 : k ≤ 1000) : mulP (.lst [.int x]) (.int k) = some (.fr (iL (List.replicate k.toNat x))) := by
  rw [mulP_l, if_pos ⟨by omega, h1, by simp; omega⟩, iL_one]
theorem lw_loop (f : Int → Int) : ∀ (ts : List Int) (acc : List Int) (q2 q3 : Sl), Fre q2 → Fre q3 → (∀ t ∈ ts, 1 ≤ t ∧ t ≤ 200 ∧ -1000 ≤ manyOf f t ∧ manyOf f t ≤ 1000) → acc.length + 1000 * ts.length ≤ 1000000 →
    ∃ q2' q3', forL (tgN 2) (seqS bx_u_lot_with_capacities_2 bx_u_lot_with_capacities_3) (iL ts) [.va (.lst (iL ((rg 1 202).map f))), .ow (iL acc), q2, q3] = .nx [.va (.lst (iL ((rg 1 202).map f))), .ow (iL (acc ++ lotW f ts)), q2', q3']
  | [], acc, q2, q3, _, _, _, _ => ⟨q2, q3, by simp [lotW, forL]⟩
  | t :: r, acc, q2, q3, f2, f3, h, hl => by
    obtain ⟨t1, t2, m1, m2⟩ := h t (List.mem_cons_self ..)
    simp only [List.length_cons] at hl
    obtain ⟨q2', q3', e⟩ := lw_loop f r (acc ++ List.replicate (manyOf f t).toNat t) (.va (.int t)) (.va (.int (manyOf f t))) (fre_va _) (fre_va _) (fun u hu => h u (List.mem_cons_of_mem _ hu)) (by rw [List.length_append, List.length_replicate]; omega)
    refine ⟨q2', q3', ?_⟩
    have x1 := caps_get f (t := t - 1) (by omega) (by omega)
    have x2 := caps_get f (t := t) (by omega) (by omega)
    have x3 := caps_get f (t := t + 1) (by omega) (by omega)
    rw [show t - 1 + 1 = t by omega] at x1
    rw [show t + 1 + 1 = t + 2 by omega] at x3
    have mu : mulP (.int 2) (.int (f (t + 1))) = some (.fz (.int (2 * f (t + 1)))) := mulP_i (small_mul (by decide) (by decide))
    have ml := mulL_repZ t (manyOf f t) (by omega) (by omega)
    have al : acc.length + (manyOf f t).toNat ≤ 1000000 := by omega
    have e1 : lotW f (t :: r) = List.replicate (manyOf f t).toNat t ++ lotW f r := by unfold lotW; rw [List.flatMap_cons]
    rw [e1, ← List.append_assoc, ← e, iL_cons]
    have e2 : f t - 2 * f (t + 1) + f (t + 2) = manyOf f t := rfl
    generalize D.lst (iL ((rg 1 202).map f)) = C at *
    generalize manyOf f t = m at *
    have z2 : bx_u_lot_with_capacities_2 [.va C, .ow (iL acc), .va (.int t), q3] = .nx [.va C, .ow (iL acc), .va (.int t), .va (.int m)] := by
      simp [x_u_lot_with_capacities_2, x1, x2, x3, mu, e2, f3.io]
    have z3 : bx_u_lot_with_capacities_3 [.va C, .ow (iL acc), .va (.int t), .va (.int m)] = .nx [.va C, .ow (iL (acc ++ List.replicate m.toNat t)), .va (.int t), .va (.int m)] := by
      simp [x_u_lot_with_capacities_3, -mulP_l, ml, al]
    simp [forL, f2.io, z2, z3]
@[simp] theorem i3_ap (i j : Int) : i3? [.int i, .int j, .int (-1)] = some (i, j) := nr rfl
theorem lot_with_ok (f : Int → Int) (h : ∀ t, 1 ≤ t → t ≤ 200 → -1000 ≤ manyOf f t ∧ manyOf f t ≤ 1000) : f_u_lot_with_capacities [.va (.lst (iL ((rg 1 202).map f)))] = .ok (.fz (tp (lotW f (dn 200)))) [.un] := by
  obtain ⟨q2, q3, e⟩ := lw_loop f (dn 200) [] .un .un fre_un fre_un (fun t ht => by have := dn_mem.mp ht; have h2 := h t (by omega) (by omega); omega) (by simp [dn])
  rw [List.nil_append] at e
  have d := downL_dn 200
  have e1 : downL 200 (Int.toNat 200) = iL (dn 200) := d
  generalize D.lst (iL ((rg 1 202).map f)) = C at *
  generalize lotW f (dn 200) = W at *
  have z1 : bx_u_lot_with_capacities_1 [.va C, .ow (iL []), .un, .un] = .nx [.va C, .ow (iL W), q2, q3] := by
    rw [← e, ← d]
    simp [x_u_lot_with_capacities_1]
  have z0 : bx_u_lot_with_capacities_0 [.va C, .un, .un, .un] = .nx [.va C, .ow (iL []), .un, .un] := by simp [x_u_lot_with_capacities_0]
  rw [e_u_lot_with_capacities, d_u_lot_with_capacities, seq_nx z0, seq_nx z1]
  simp [x_u_lot_with_capacities_4]
theorem capM_bd {Ls : List (List Int)} (hg : ∀ l ∈ Ls, Good l) {n : Int} (h : 1 ≤ n) : 0 ≤ capM Ls n ∧ capM Ls n ≤ 200 := by
  cases Ls with
  | nil => exact ⟨Int.le_refl _, (by decide : (0 : Int) ≤ 200)⟩
  | cons a r =>
    have m := (maxI_sp (capOf a n) (r.map fun l => capOf l n)).1
    show 0 ≤ maxI _ _ ∧ maxI _ _ ≤ 200
    rcases List.mem_cons.mp m with e | e
    · rw [e]; exact ⟨capOf_nn a n, cap_good (hg a (List.mem_cons_self ..)) h⟩
    · obtain ⟨l, hl, e⟩ := List.mem_map.mp e
      rw [← e]; exact ⟨capOf_nn l n, cap_good (hg l (List.mem_cons_of_mem _ hl)) h⟩
def lcOf (Ls : List (List Int)) : List Int := lotW (capM Ls) (dn 200)
theorem listD_good {Ls : List (List Int)} (h : Ls ≠ []) (hl : Ls.length ≤ 20) (hg : ∀ l ∈ Ls, Good l) : f_u_check_lots [.va (.lst (Ls.map tp))] = .ok (.fz .non) [.un] := by
  have h1 : 1 ≤ Ls.length := List.length_pos_iff.mpr h
  rw [check_lots_d (by
    show (Ls.map tp).all ne1 = true
    rw [List.all_map]; exact List.all_eq_true.mpr fun l _ => ne1_t l), if_pos]
  show (decide (1 ≤ (Ls.map tp).length ∧ (Ls.map tp).length ≤ 20) && (Ls.map tp).all lotD) = true
  rw [List.all_map, Bool.and_eq_true]
  refine ⟨decide_eq_true (by simp; omega), List.all_eq_true.mpr fun l hl => ?_⟩
  show lotD (tp l) = true
  rw [lotD_t]; exact decide_eq_true (hg l hl)
theorem least_cover_ok {Ls : List (List Int)} (h : Ls ≠ []) (hl : Ls.length ≤ 20) (hg : ∀ l ∈ Ls, Good l) : f_least_cover [.va (.lst (Ls.map tp))] = .ok (.fz (tp (lcOf Ls))) [.un] := by
  have c := listD_good h hl hg
  have w := lot_with_ok (capM Ls) fun t h1 h2 => by
    have b1 := capM_bd hg (n := t) h1
    have b2 := capM_bd hg (n := t + 1) (by omega)
    have b3 := capM_bd hg (n := t + 2) (by omega)
    unfold manyOf; omega
  have gc := greatest_capacity_ok Ls h (by omega) fun l hl => by have := (hg l hl).len; omega
  rw [show lotW (capM Ls) (dn 200) = lcOf Ls from rfl] at w
  generalize Ls.map tp = A at *
  have e := lcE_intA (v := 1) (it := itR2 (aCons (frz (cE (.int 1))) (aCons (frz (KL.bin addP (frz (cE (.int 200))) (frz (cE (.int 3))))) (aNil)))) (e := callV 2 f_u_greatest_capacity [] (aCons (frz (nmE 0)) (aCons (frz (nmE 1)) (aNil)))) (ρ := [.va (.lst A), .un]) (ρ1 := [.va (.lst A), .un]) (capM Ls) (rg 1 202) (by simp) rfl (by rw [rg_len]; decide) fun n _ => ⟨.fz (.int (capM Ls n)), rfl, by simp [gc n]⟩
  generalize (rg 1 202).map (capM Ls) = B at e w
  generalize lcOf Ls = W at *
  simp [e_least_cover, d_least_cover, x_least_cover_0, c, x_least_cover_1, e, w]

/-- the least of the top sums -/
def topOf (l : List Int) (c : Int) : Int := (l.take c.toNat).sum
def topM (Ls : List (List Int)) (c : Int) : Int := match Ls with
  | [] => 0
  | a :: r => minI (topOf a c) (r.map fun l => topOf l c)
def gcOf (Ls : List (List Int)) : List Int := posL ((rg 0 60).map fun c => topM Ls (c + 1) - topM Ls c)
theorem zip_tl (ts : List Int) : zipL (iL ts) (iL (ts.drop 1)) = (ts.zip (ts.drop 1)).map fun p => .pr [.int p.1, .int p.2] := by
  unfold zipL iL
  rw [List.zip_map, List.map_map]; rfl
theorem rg_zip (f : Int → Int) (n : Nat) : ((((rg 0 (n + 1)).map f).zip (((rg 0 (n + 1)).map f).drop 1)).map fun p => p.2 - p.1) = (rg 0 n).map fun c => f (c + 1) - f c := by
  apply List.ext_getElem?
  intro k
  simp only [List.getElem?_map, List.getElem?_zip_eq_some, List.zip_eq_zipWith, List.getElem?_zipWith, List.getElem?_drop]
  by_cases h : k < n
  · rw [rg_get (by omega : k < n + 1), rg_get (by omega : 1 + k < n + 1), rg_get h]
    simp only [Option.map_some]
    congr 3
    omega
  · rw [show (rg 0 (n + 1))[1 + k]? = none from List.getElem?_eq_none (by rw [rg_len]; omega), show (rg 0 n)[k]? = none from List.getElem?_eq_none (by rw [rg_len]; omega)]
    cases (rg 0 (n + 1))[k]? <;> rfl
theorem gc_1 (Ls : List (List Int)) (h : Ls ≠ []) (hl : Ls.length ≤ 1000) : bx_greatest_covered_1 [.va (.lst (Ls.map tp)), .un, .un, .un, .un, .un, .un, .un] = .nx [.va (.lst (Ls.map tp)), .ow (iL ((rg 0 61).map (topM Ls))), .un, .un, .un, .un, .un, .un] := by
  have e := fun (c : Int) (hc : 0 ≤ c) => lcE_all (v := 7) (it := itE (nmE 0)) (e := callB sumP (aCons (frz (slE (nmO 7) ptN (ptS (nmO 3)))) aNil)) (enc := tp) (ρ := [.va (.lst (Ls.map tp)), .un, .un, .va (.int c), .un, .un, .un, .un]) (ρ1 := [.va (.lst (Ls.map tp)), .un, .un, .va (.int c), .un, .un, .un, .un]) (fun l => .int (topOf l c)) Ls (by simp) rfl (by omega) fun l hl => ⟨.fz (.int (topOf l c)), rfl, by simp [cutD_to _ hc, topOf]⟩
  have e2 : ∀ c : Int, minA [.lst (Ls.map fun l => D.int (topOf l c))] = some (.fz (.int (topM Ls c))) := fun c => by
    cases Ls with
    | nil => exact absurd rfl h
    | cons a r =>
      have : ((a :: r).map fun l => D.int (topOf l c)) = iL (topOf a c :: r.map fun l => topOf l c) := by
        unfold iL; rw [List.map_cons, List.map_cons, List.map_map]; rfl
      rw [this]; exact minA_l _ _
  generalize Ls.map tp = A at e ⊢
  have e3 := lcE_intA (v := 3) (it := itR1 (aCons (frz (KL.bin addP (frz (cE (.int 60))) (frz (cE (.int 1))))) (aNil))) (e := callB minA (aCons (frz (lcE [7] (itE (nmE 0)) (tgN 7) (yesB) (callB sumP (aCons (frz (slE (nmO 7) (ptN) (ptS (nmO 3)))) (aNil))))) (aNil))) (ρ := [.va (.lst A), .un, .un, .un, .un, .un, .un, .un]) (ρ1 := [.va (.lst A), .un, .un, .un, .un, .un, .un, .un]) (topM Ls) (rg 0 61) (by simp) rfl (by rw [rg_len]; decide) fun c hc => ⟨.fz (.int (topM Ls c)), rfl, by
    have := e c (rg_mem.mp hc).1
    simp [this, e2]⟩
  generalize (rg 0 61).map (topM Ls) = B at e3 ⊢
  simp [x_greatest_covered_1, e3]
theorem gc_2 (A : D) (S : List Int) (hl : S.length ≤ 1000) : bx_greatest_covered_2 [.va A, .ow (iL S), .un, .un, .un, .un, .un, .un] = .nx [.va A, .va (li S), .ow (iL ((S.zip (S.drop 1)).map fun p => p.2 - p.1)), .un, .un, .un, .un, .un] := by
  have c : cutD (iL S) (some 1) none = iL (S.drop 1) := by rw [cutD_from _ (by decide), iL_drop]; rfl
  have e := lcE_gen (vs := [4, 5]) (it := itZ (aCons (frz (nmE 1)) (aCons (frz (slE (nmO 1) (ptS (frz (cE (.int 1)))) (ptN))) (aNil)))) (tg := tgT [4, 5]) (c := yesB) (e := KL.bin subP (nmO 5) (nmO 4)) (enc := fun p : Int × Int => D.pr [.int p.1, .int p.2]) (ρ := [.va A, .ow (iL S), .un, .un, .un, .un, .un, .un]) (ρ1 := [.va A, .va (li S), .un, .un, .un, .un, .un, .un]) [.va A, .va (li S), .un, .un, .un, .un, .un, .un] (fun _ => true) (fun p => .int (p.2 - p.1)) (fun p => [.va A, .va (li S), .un, .un, .va (.int p.1), .va (.int p.2), .un, .un]) (S.zip (S.drop 1)) (by rw [← zip_tl]; simp [-List.drop_one, c]) (by simp [okW]) (by simp [wipeE]) (by simp [rstE]) (by simp [okW]) (by rw [List.length_zip]; omega) (fun p _ => by simp) (fun p _ => by simp [okW, wipeE]) (fun p _ => rfl) fun p _ _ => ⟨.fz (.int (p.2 - p.1)), rfl, by simp⟩
  rw [List.filter_eq_self.mpr fun _ _ => rfl] at e
  have e2 : ((S.zip (S.drop 1)).map fun p => D.int (p.2 - p.1)) = iL ((S.zip (S.drop 1)).map fun p => p.2 - p.1) := by
    unfold iL; rw [List.map_map]; rfl
  rw [e2] at e
  generalize (S.zip (S.drop 1)).map (fun p => p.2 - p.1) = W at e ⊢
  simp [x_greatest_covered_2, e]
theorem greatest_covered_ok {Ls : List (List Int)} (h : Ls ≠ []) (hl : Ls.length ≤ 20) (hg : ∀ l ∈ Ls, Good l) : f_greatest_covered [.va (.lst (Ls.map tp))] = .ok (.fz (tp (gcOf Ls))) [.un] := by
  have c := listD_good h hl hg
  have z1 := gc_1 Ls h (by omega)
  have z2 := gc_2 (.lst (Ls.map tp)) ((rg 0 61).map (topM Ls)) (by rw [List.length_map, rg_len]; decide)
  rw [rg_zip (topM Ls) 60] at z2
  have l60 : ((rg 0 60).map fun c => topM Ls (c + 1) - topM Ls c).length ≤ 1000000 := by rw [List.length_map, rg_len]; decide
  have w : posL ((rg 0 60).map fun c => topM Ls (c + 1) - topM Ls c) = gcOf Ls := rfl
  generalize Ls.map tp = A at *
  generalize (rg 0 61).map (topM Ls) = S at *
  generalize ((rg 0 60).map fun c => topM Ls (c + 1) - topM Ls c) = T at *
  have e := lcE_filter (v := 6) (it := itE (nmE 2)) (c := tst (KL.bin gtP (nmO 6) (frz (cE (.int 0))))) (ρ := [.va (.lst A), .va (li S), .ow (iL T), .un, .un, .un, .un, .un]) (ρ1 := [.va (.lst A), .va (li S), .va (li T), .un, .un, .un, .un, .un]) (fun n => decide (0 < n)) T (by simp) (by simp) l60 (by simp)
  rw [show (T.filter fun n => decide (0 < n)) = gcOf Ls from w] at e
  have z0 : bx_greatest_covered_0 [.va (.lst A), .un, .un, .un, .un, .un, .un, .un] = .nx [.va (.lst A), .un, .un, .un, .un, .un, .un, .un] := by simp [x_greatest_covered_0, c]
  rw [e_greatest_covered, d_greatest_covered, seq_nx z0, seq_nx z1, seq_nx z2]
  simp [x_greatest_covered_3, e]
end S
end

section
set_option Elab.async false
set_option linter.all false
set_option maxRecDepth 100000
namespace S
open PySem L2 KL
/-! ### performing tasks -/
def suitL (n : Int) : List Int → List Int → List Int
  | [], f => f
  | t :: r, f => suitL n r (if n ≤ t ∧ t ∉ f then f ++ [t] else f)
/-- the distinct sharpness values of at least n -/
def suitOf (ts : List Int) (n : Int) : List Int := suitL n ts []
theorem suitL_len (n : Int) : ∀ (ts f : List Int), (suitL n ts f).length ≤ f.length + ts.length
  | [], f => by simp [suitL]
  | t :: r, f => by
    have := suitL_len n r (if n ≤ t ∧ t ∉ f then f ++ [t] else f)
    unfold suitL
    split at this
    · rename_i c; rw [if_pos c]; simp at this ⊢; omega
    · rename_i c; rw [if_neg c]; simp at this ⊢; omega
theorem suit_len (ts : List Int) (n : Int) : (suitOf ts n).length ≤ ts.length := by
  have := suitL_len n ts []
  unfold suitOf
  simpa using this
theorem suitL_mem (n x : Int) : ∀ (ts f : List Int), x ∈ suitL n ts f ↔ x ∈ f ∨ (x ∈ ts ∧ n ≤ x)
  | [], f => by simp [suitL]
  | t :: r, f => by
    unfold suitL
    rw [suitL_mem n x r]
    by_cases c : n ≤ t ∧ t ∉ f
    · rw [if_pos c, List.mem_append, List.mem_singleton, List.mem_cons]
      constructor
      · rintro ((h | h) | h)
        · exact .inl h
        · exact .inr ⟨.inl h, h ▸ c.1⟩
        · exact .inr ⟨.inr h.1, h.2⟩
      · rintro (h | ⟨h | h, h2⟩)
        · exact .inl (.inl h)
        · exact .inl (.inr h)
        · exact .inr ⟨h, h2⟩
    · rw [if_neg c, List.mem_cons]
      constructor
      · rintro (h | h)
        · exact .inl h
        · exact .inr ⟨.inr h.1, h.2⟩
      · rintro (h | ⟨h | h, h2⟩)
        · exact .inl h
        · subst h
          exact .inl (by
            by_cases z : x ∈ f
            · exact z
            · exact absurd ⟨h2, z⟩ c)
        · exact .inr ⟨h, h2⟩
theorem suit_mem {ts : List Int} {n x : Int} : x ∈ suitOf ts n ↔ x ∈ ts ∧ n ≤ x := by
  unfold suitOf; rw [suitL_mem]; simp
theorem suitL_desc (n : Int) : ∀ (ts f : List Int), ts.Pairwise (· ≥ ·) → f.Pairwise (· > ·) → (∀ x ∈ f, ∀ t ∈ ts, x ≥ t) → (suitL n ts f).Pairwise (· > ·)
  | [], f, _, h, _ => h
  | t :: r, f, hd, hf, hx => by
    obtain ⟨d1, d2⟩ := List.pairwise_cons.mp hd
    unfold suitL
    by_cases c : n ≤ t ∧ t ∉ f
    · rw [if_pos c]
      refine suitL_desc n r _ d2 (List.pairwise_append.mpr ⟨hf, List.pairwise_singleton .., fun x hx' y hy => ?_⟩) fun x hx' u hu => ?_
      · rw [List.mem_singleton.mp hy]
        have := hx x hx' t (List.mem_cons_self ..)
        have : x ≠ t := fun z => c.2 (z ▸ hx')
        omega
      · rcases List.mem_append.mp hx' with h | h
        · exact hx x h u (List.mem_cons_of_mem _ hu)
        · rw [List.mem_singleton.mp h]; exact d1 u hu
    · rw [if_neg c]
      exact suitL_desc n r _ d2 hf fun x hx' u hu => hx x hx' u (List.mem_cons_of_mem _ hu)
theorem suit_desc {ts : List Int} (h : ts.Pairwise (· ≥ ·)) (n : Int) : (suitOf ts n).Pairwise (· > ·) :=
  suitL_desc n ts [] h .nil (by simp)
theorem suit_loop (A : Sl) (n : Int) : ∀ (ts f : List Int) (q : Sl), Fre q → f.length + ts.length ≤ 1000 → ∃ q', Fre q' ∧ forL (tgN 3) bx_u_suitable_2 (iL ts) [A, .va (.int n), .ow (iL f), q] = .nx [A, .va (.int n), .ow (iL (suitL n ts f)), q']
  | [], f, q, hq, _ => ⟨q, hq, rfl⟩
  | t :: r, f, q, hq, hl => by
    simp only [List.length_cons] at hl
    obtain ⟨q', h1, h2⟩ := suit_loop A n r (if n ≤ t ∧ t ∉ f then f ++ [t] else f) (.va (.int t)) (fre_va _) (by
      split
      · rw [List.length_append, List.length_singleton]; omega
      · omega)
    refine ⟨q', h1, ?_⟩
    rw [suitL, ← h2, iL_cons]
    have l1 : f.length < 1000000 := by omega
    by_cases c1 : n ≤ t
    · by_cases c2 : t ∈ f
      · simp [forL, hq.io, x_u_suitable_2, c1, c2]
      · simp [forL, hq.io, x_u_suitable_2, c1, c2, l1]
    · simp [forL, hq.io, x_u_suitable_2, c1]
theorem suitable_ok (ts : List Int) (n : Int) (hl : ts.length ≤ 1000) : f_u_suitable [.va (tp ts), .va (.int n)] = .ok (.fr (iL (suitOf ts n))) [.un, .un] := by
  obtain ⟨q', h1, h2⟩ := suit_loop (.va (tp ts)) n ts [] .un fre_un (by simpa using hl)
  rw [iL_nil, show suitL n ts [] = suitOf ts n from rfl] at h2
  simp [e_u_suitable, d_u_suitable, x_u_suitable_0, x_u_suitable_1, x_u_suitable_3, h2]
theorem choices_ok {ts : List Int} (g : Good ts) {n : Int} (h1 : 1 ≤ n) (h2 : n ≤ 200) : f_choices [.va (tp ts), .va (.int n)] = .ok (.fr (iL (suitOf ts n))) [.un, .un] := by
  simp [e_choices, d_choices, x_choices_0, x_choices_1, x_choices_2, check_good g, pos_ok h1 h2, suitable_ok ts n (by have := g.len; omega)]
/-! a tool wears -/
def lessT (t : Int) : List Int := if 1 < t then [t - 1] else []
def wornOf (ts : List Int) (t : Int) : List Int := ts.take (ts.idxOf t + ts.count t - 1) ++ lessT t ++ ts.drop (ts.idxOf t + ts.count t - 1 + 1)
theorem worn_cons {u t : Int} {r : List Int} (hd : (u :: r).Pairwise (· ≥ ·)) (h : t ∈ r) : wornOf (u :: r) t = u :: wornOf r t := by
  obtain ⟨d1, d2⟩ := List.pairwise_cons.mp hd
  have hc : 1 ≤ r.count t := List.one_le_count_iff.mpr h
  have key : (u :: r).idxOf t + (u :: r).count t - 1 = (r.idxOf t + r.count t - 1) + 1 := by
    by_cases e : u = t
    · subst e
      have : r.idxOf u = 0 := by
        cases r with
        | nil => cases h
        | cons v r' =>
          have h1 := d1 v (List.mem_cons_self ..)
          have h2 : u ≤ v := by
            rcases List.mem_cons.mp h with e | e
            · omega
            · exact (List.pairwise_cons.mp d2).1 u e
          have : v = u := by omega
          rw [this, List.idxOf_cons_self]
      rw [List.idxOf_cons_self, List.count_cons_self, this]; omega
    · rw [List.idxOf_cons, List.count_cons_of_ne e, show (u == t) = false from by simpa using e]
      simp; omega
  unfold wornOf
  rw [key, List.take_succ_cons, List.drop_succ_cons]
  rfl
theorem worn_last {t : Int} {r : List Int} (h : t ∉ r) : wornOf (t :: r) t = lessT t ++ r := by
  unfold wornOf
  rw [List.idxOf_cons_self, List.count_cons_self, List.count_eq_zero_of_not_mem h]
  simp
theorem worn_perm : ∀ {ts : List Int} {t : Int}, ts.Pairwise (· ≥ ·) → t ∈ ts → (wornOf ts t).Perm (lessT t ++ ts.erase t)
  | u :: r, t, hd, h => by
    by_cases c : t ∈ r
    · rw [worn_cons hd c]
      have ih := worn_perm (List.pairwise_cons.mp hd).2 c
      by_cases e : u = t
      · subst e
        rw [List.erase_cons_head]
        refine (ih.cons u).trans ?_
        refine List.perm_middle.symm.trans ?_
        exact (List.perm_cons_erase c).symm.append_left _
      · rw [List.erase_cons_tail (by simpa using e)]
        exact (ih.cons u).trans List.perm_middle.symm
    · have e : t = u := (List.mem_cons.mp h).resolve_right c
      subst e
      rw [worn_last c, List.erase_cons_head]
theorem worn_mem {ts : List Int} {t x : Int} (hd : ts.Pairwise (· ≥ ·)) (h : t ∈ ts) (hx : x ∈ wornOf ts t) : x ∈ ts ∨ (x = t - 1 ∧ 1 < t) := by
  have := (worn_perm hd h).mem_iff.mp hx
  rcases List.mem_append.mp this with h1 | h1
  · unfold lessT at h1
    split at h1
    · rename_i c; exact .inr ⟨List.mem_singleton.mp h1, c⟩
    · cases h1
  · exact .inl (List.mem_of_mem_erase h1)
theorem worn_desc : ∀ {ts : List Int} {t : Int}, ts.Pairwise (· ≥ ·) → t ∈ ts → (wornOf ts t).Pairwise (· ≥ ·)
  | u :: r, t, hd, h => by
    obtain ⟨d1, d2⟩ := List.pairwise_cons.mp hd
    by_cases c : t ∈ r
    · rw [worn_cons hd c]
      refine List.pairwise_cons.mpr ⟨fun x hx => ?_, worn_desc d2 c⟩
      rcases worn_mem d2 c hx with h1 | ⟨h1, _⟩
      · exact d1 x h1
      · have := d1 t c; omega
    · have e : t = u := (List.mem_cons.mp h).resolve_right c
      subst e
      rw [worn_last c]
      refine List.pairwise_append.mpr ⟨by unfold lessT; split <;> simp, d2, fun x hx y hy => ?_⟩
      have h1 := d1 y hy
      have h2 : y ≠ t := fun z => c (z ▸ hy)
      unfold lessT at hx
      split at hx
      · rw [List.mem_singleton.mp hx]; omega
      · cases hx
theorem lessT_sum {t : Int} (h : 1 ≤ t) : (lessT t).sum = t - 1 := by
  unfold lessT
  split
  · simp
  · simp; omega
theorem erase_sum : ∀ {ts : List Int} {t : Int}, t ∈ ts → (ts.erase t).sum = ts.sum - t := by
  intro ts t h
  have := sum_perm (List.perm_cons_erase h)
  rw [List.sum_cons] at this
  omega
theorem worn_sum {ts : List Int} {t : Int} (hd : ts.Pairwise (· ≥ ·)) (h : t ∈ ts) (h1 : 1 ≤ t) : (wornOf ts t).sum = ts.sum - 1 := by
  rw [sum_perm (worn_perm hd h), List.sum_append, lessT_sum h1, erase_sum h]; omega
theorem worn_len {ts : List Int} {t : Int} (hd : ts.Pairwise (· ≥ ·)) (h : t ∈ ts) : (wornOf ts t).length ≤ ts.length := by
  rw [(worn_perm hd h).length_eq, List.length_append, List.length_erase_of_mem h]
  have := List.length_pos_of_mem h
  unfold lessT
  split <;> simp <;> omega
theorem worn_good {ts : List Int} (g : Good ts) {t : Int} (h : t ∈ ts) : Good (wornOf ts t) := by
  refine ⟨fun x hx => ?_, worn_desc g.desc h, ?_, ?_⟩
  · have := g.rng t h
    rcases worn_mem g.desc h hx with h1 | ⟨h1, h2⟩
    · exact g.rng x h1
    · omega
  · have := worn_len g.desc h; have := g.len; omega
  · have := worn_sum g.desc h (g.rng t h).1; have := g.sum; omega
theorem worn_ok {ts : List Int} {t : Int} (h : t ∈ ts) (hl : ts.length ≤ 1000) : f_u_worn [.va (tp ts), .va (.int t)] = .ok (.fz (tp (wornOf ts t))) [.un, .un] := by
  have hc : 1 ≤ ts.count t := List.one_le_count_iff.mpr h
  obtain ⟨a, ha⟩ : ∃ a : Nat, a = ts.idxOf t + ts.count t - 1 := ⟨_, rfl⟩
  have e0 : ((ts.idxOf t : Nat) : Int) + ((ts.count t : Nat) : Int) - 1 = (a : Int) := by omega
  have z0 : bx_u_worn_0 [.va (tp ts), .va (.int t), .un, .un] = .nx [.va (tp ts), .va (.int t), .va (.int a), .un] := by
    simp [x_u_worn_0, h, e0]
  have z1 : bx_u_worn_1 [.va (tp ts), .va (.int t), .va (.int a), .un] = .nx [.va (tp ts), .va (.int t), .va (.int a), .va (tp (lessT t))] := by
    by_cases c : 1 < t
    · have : tp (lessT t) = .tup [.int (t - 1)] := by unfold lessT; rw [if_pos c]; rfl
      rw [this]; simp [x_u_worn_1, c]
    · have : tp (lessT t) = .tup [] := by unfold lessT; rw [if_neg c]; rfl
      rw [this]; simp [x_u_worn_1, c]
  have c1 : cutD (iL ts) none (some (a : Int)) = iL (ts.take a) := by rw [cutD_to _ (by omega), iL_take, Int.toNat_natCast]
  have c2 : cutD (iL ts) (some ((a : Int) + 1)) none = iL (ts.drop (a + 1)) := by rw [cutD_from _ (by omega), iL_drop, show ((a : Int) + 1).toNat = a + 1 by omega]
  have l0 : (lessT t).length ≤ 1 := by unfold lessT; split <;> simp
  have l1 : (ts.take a).length + (lessT t).length ≤ 1000000 := by rw [List.length_take]; omega
  have l2 : (ts.take a).length + (lessT t).length + (ts.drop (a + 1)).length ≤ 1000000 := by rw [List.length_take, List.length_drop]; omega
  have ew : wornOf ts t = ts.take a ++ lessT t ++ ts.drop (a + 1) := by unfold wornOf; rw [← ha]
  rw [e_u_worn, d_u_worn, seq_nx z0, seq_nx z1, ew]
  generalize ts.take a = P at c1 l1 l2 ⊢
  generalize ts.drop (a + 1) = R at c2 l2 ⊢
  generalize lessT t = L at l1 l2 ⊢
  simp [x_u_worn_2, c1, c2, l1, l2]
theorem after_ok {ts : List Int} {t : Int} (h : t ∈ ts) (hl : ts.length ≤ 1000) : f_u_law_after [.va (tp ts), .va (.int t)] = .ok (.fz (tp (dsort (posL (ts.erase t ++ [t - 1]))))) [.un, .un] := by
  have l1 : (ts.erase t).length + 1 ≤ 1000000 := by rw [List.length_erase_of_mem h]; omega
  have e := lcE_filter (v := 3) (it := itE (KL.bin addP (nmO 2) (frz (mkL (aCons (frz (KL.bin subP (nmO 1) (frz (cE (.int 1))))) (aNil)))))) (c := tst (KL.bin gtP (nmO 3) (frz (cE (.int 0))))) (ρ := [.va (tp ts), .va (.int t), .ow (iL (ts.erase t)), .un]) (ρ1 := [.va (tp ts), .va (.int t), .ow (iL (ts.erase t)), .un]) (fun n => decide (0 < n)) (ts.erase t ++ [t - 1]) (by simp [l1]) (by simp) (by simpa using l1) (by simp)
  rw [show ((ts.erase t ++ [t - 1]).filter fun n => decide (0 < n)) = posL (ts.erase t ++ [t - 1]) from rfl] at e
  simp [e_u_law_after, d_u_law_after, x_u_law_after_0, x_u_law_after_1, x_u_law_after_2, h, e]
theorem after_worn {ts : List Int} (g : Good ts) {t : Int} (h : t ∈ ts) : dsort (posL (ts.erase t ++ [t - 1])) = wornOf ts t := by
  have hp : posL (ts.erase t ++ [t - 1]) = ts.erase t ++ lessT t := by
    unfold posL
    rw [List.filter_append]
    congr 1
    · exact List.filter_eq_self.mpr fun x hx => by have := g.rng x (List.mem_of_mem_erase hx); simp; omega
    · unfold lessT
      by_cases c : 1 < t
      · rw [if_pos c]; simp; omega
      · rw [if_neg c]; simp; omega
  rw [hp]
  exact desc_unique ((dsort_perm _).trans (List.perm_append_comm.trans (worn_perm g.desc h).symm)) (dsort_desc _) (worn_desc g.desc h)
theorem after_good {ts : List Int} (g : Good ts) {t : Int} (h : t ∈ ts) : f_u_law_after [.va (tp ts), .va (.int t)] = .ok (.fz (tp (wornOf ts t))) [.un, .un] := by
  rw [after_ok h (by have := g.len; omega), after_worn g h]

theorem lk_index (a b c : D) : List.lookup ("index" : Str) [(("day" : Str), a), ("lot", b), ("index", c)] = some c := by rfl
theorem lk_lot (a b c : D) : List.lookup ("lot" : Str) [(("day" : Str), a), ("lot", b), ("index", c)] = some b := by rfl
theorem lk_day (a b c : D) : List.lookup ("day" : Str) [(("day" : Str), a), ("lot", b), ("index", c)] = some a := by rfl
end S
end

section
set_option Elab.async false
set_option linter.all false
set_option maxRecDepth 100000
namespace S
open PySem L2 KL
/-! ### work and serve -/
theorem enumL_cons (s : Nat) (x : D) (xs : List D) : enumL s (x :: xs) = .pr [.int s, x] :: enumL (s + 1) xs := by
  unfold enumL
  rw [List.zipIdx_cons, List.map_cons]
  congr 1
  · simp
  · apply List.ext_getElem?
    intro k
    simp only [List.getElem?_map, List.getElem?_zipIdx]
    cases xs[k]? with
    | none => rfl
    | some y =>
      simp only [Option.map_some]
      congr 4
      omega
theorem enumL_nil (s : Nat) : enumL s [] = [] := rfl
theorem capOf_perm {a b : List Int} (p : a.Perm b) (n : Int) : capOf a n = capOf b n := by
  unfold capOf
  exact sum_perm ((p.filter _).map _)
theorem capOf_app : ∀ (a b : List Int) (n : Int), capOf (a ++ b) n = capOf a n + capOf b n
  | [], b, n => by rw [List.nil_append, capOf_nil]; omega
  | t :: r, b, n => by rw [List.cons_append, capOf_cons, capOf_cons, capOf_app r b n]; omega
theorem capOf_lessT {t n : Int} (h1 : 1 ≤ t) (hn : 1 ≤ n) : capOf (lessT t) n = if n < t then t - n else 0 := by
  unfold lessT
  by_cases c : 1 < t
  · rw [if_pos c, capOf_cons, capOf_nil]
    by_cases c2 : n < t
    · rw [if_pos c2, if_pos (by omega)]; omega
    · rw [if_neg c2, if_neg (by omega)]; omega
  · rw [if_neg c, capOf_nil, if_neg (by omega)]
theorem capOf_worn {ts : List Int} {t n : Int} (hd : ts.Pairwise (· ≥ ·)) (h : t ∈ ts) (h1 : 1 ≤ t) (hn : 1 ≤ n) : capOf (wornOf ts t) n = capOf ts n - if n ≤ t then 1 else 0 := by
  rw [capOf_perm (worn_perm hd h), capOf_app, capOf_lessT h1 hn, capOf_perm (List.perm_cons_erase h) n, capOf_cons]
  by_cases c : n ≤ t
  · by_cases c2 : n < t
    · rw [if_pos c, if_pos c2]; simp only [if_pos c]; omega
    · rw [if_pos c, if_neg c2]; simp only [if_pos c]; omega
  · rw [if_neg c, if_neg (by omega)]; simp only [if_neg c]; omega
theorem cap_pos_iff {ts : List Int} {n : Int} : 1 ≤ capOf ts n ↔ ∃ t ∈ ts, n ≤ t := by
  induction ts with
  | nil => simp [capOf_nil]
  | cons t r ih =>
    rw [capOf_cons]
    have := capOf_nn r n
    by_cases c : n ≤ t
    · rw [if_pos c]
      exact ⟨fun _ => ⟨t, by simp, c⟩, fun _ => by omega⟩
    · rw [if_neg c, Int.zero_add, ih]
      constructor
      · rintro ⟨u, hu, h⟩; exact ⟨u, by simp [hu], h⟩
      · rintro ⟨u, hu, h⟩
        rcases List.mem_cons.mp hu with rfl | hu
        · exact absurd h c
        · exact ⟨u, hu, h⟩
/-- the tool that the rule takes -/
def pick (sh : Bool) (l : List Int) (n : Int) : Option Int := if sh = true then (suitOf l n).head? else (suitOf l n).getLast?
theorem pick_some {sh : Bool} {l : List Int} {n p : Int} (h : pick sh l n = some p) : p ∈ l ∧ n ≤ p := by
  unfold pick at h
  split at h
  · exact suit_mem.mp (List.mem_of_mem_head? h)
  · exact suit_mem.mp (List.mem_of_getLast? h)
theorem pick_none {sh : Bool} {l : List Int} {n : Int} : pick sh l n = none ↔ suitOf l n = [] := by
  unfold pick
  split
  · exact List.head?_eq_none_iff
  · exact List.getLast?_eq_none_iff
theorem pick_none_cap {sh : Bool} {l : List Int} {n : Int} : pick sh l n = none ↔ capOf l n = 0 := by
  rw [pick_none, List.eq_nil_iff_forall_not_mem]
  have h0 := capOf_nn l n
  have := @cap_pos_iff l n
  constructor
  · intro h
    by_cases c : 1 ≤ capOf l n
    · obtain ⟨t, h1, h2⟩ := this.mp c
      exact absurd (suit_mem.mpr ⟨h1, h2⟩) (h t)
    · omega
  · intro h t ht
    have := this.mpr ⟨t, suit_mem.mp ht⟩
    omega
def serveP (sh : Bool) : List Int → List Int → List Int × List Int
  | l, [] => ([], l)
  | l, n :: r => match pick sh l n with
    | some p => (p :: (serveP sh (wornOf l p) r).1, (serveP sh (wornOf l p) r).2)
    | none => (0 :: (serveP sh l r).1, (serveP sh l r).2)
def runP (sh sk : Bool) : Nat → List Int → List Int → List Int → Except (Nat × List Int) (List Int × List Int)
  | _, [], acc, l => .ok (acc, l)
  | i, n :: r, acc, l => match pick sh l n with
    | some p => runP sh sk (i + 1) r (acc ++ [p]) (wornOf l p)
    | none => if sk = true then runP sh sk (i + 1) r (acc ++ [0]) l else .error (i, l)
theorem run_serve (sh : Bool) : ∀ (row : List Int) (i : Nat) (acc l : List Int), runP sh true i row acc l = .ok (acc ++ (serveP sh l row).1, (serveP sh l row).2)
  | [], i, acc, l => by simp [runP, serveP]
  | n :: r, i, acc, l => by
    unfold runP serveP
    cases pick sh l n with
    | some p => simp only [run_serve sh r, List.append_assoc, List.singleton_append]
    | none => simp only [if_true, run_serve sh r, List.append_assoc, List.singleton_append]
theorem run_work (sh : Bool) : ∀ (row : List Int) (i : Nat) (acc l : List Int), 0 ∉ (serveP sh l row).1 → runP sh false i row acc l = .ok (acc ++ (serveP sh l row).1, (serveP sh l row).2)
  | [], i, acc, l, _ => by simp [runP, serveP]
  | n :: r, i, acc, l, h => by
    unfold serveP at h ⊢
    unfold runP
    cases e : pick sh l n with
    | some p =>
      simp only [e, List.mem_cons, not_or] at h ⊢
      simp only [run_work sh r _ _ _ h.2, List.append_assoc, List.singleton_append]
    | none => simp only [e, List.mem_cons, true_or, not_true_eq_false] at h
def ruleS (sh : Bool) : Str := if sh = true then "sharpest" else "dullest"
theorem last_ix {us : List Int} {p : Int} (h : us.getLast? = some p) : ixP (.lst (iL us)) (.int (-1)) = some (.fz (.int p)) := by
  rw [List.getLast?_eq_getElem?] at h
  have hl : us.length - 1 < us.length := (List.getElem?_eq_some_iff.mp h).1
  rw [ixP_l, ixA_ap, if_neg (by decide), if_pos (by rw [iL_len]; omega), iL_get, iL_len, show ((-1 : Int) + (us.length : Nat)).toNat = us.length - 1 by omega, h]
  rfl
theorem head_ix {us : List Int} {p : Int} (h : us.head? = some p) : ixP (.lst (iL us)) (.int 0) = some (.fz (.int p)) := by
  rw [List.head?_eq_getElem?] at h
  rw [ixP_l, ixA_ap, if_pos (by decide), iL_get, show Int.toNat 0 = 0 from rfl, h]
  rfl
theorem rule_eq (sh : Bool) : eqP (.str (ruleS sh)) (.str "sharpest") = some (.fz (.bl sh)) := by
  cases sh
  · exact eqP_of (by simp [D.pln, D.dep]) (by simp only [D.eqD]; decide)
  · exact eqP_of (by simp [D.pln, D.dep]) (by simp only [D.eqD]; decide)
/-- one task -/
theorem perf_step (A B : Sl) (sh sk : Bool) (i : Nat) (n : Int) (acc l : List Int) (hl : l.length ≤ 1000) (ha : acc.length < 1000) (q8 q9 : Sl) (h8 : Wr q8) (h9 : Fre q9) :
    (∀ p, pick sh l n = some p → ∃ t8 t9, Wr t8 ∧ Fre t9 ∧ seqS bx_perform_3 bx_perform_4 [A, B, .va (.str (ruleS sh)), .va (.bl sk), .ow (iL acc), .va (tp l), .va (.int i), .va (.int n), q8, q9] = .nx [A, B, .va (.str (ruleS sh)), .va (.bl sk), .ow (iL (acc ++ [p])), .va (tp (wornOf l p)), .va (.int i), .va (.int n), t8, t9]) ∧
    (pick sh l n = none → ∃ t8, Wr t8 ∧ seqS bx_perform_3 bx_perform_4 [A, B, .va (.str (ruleS sh)), .va (.bl sk), .ow (iL acc), .va (tp l), .va (.int i), .va (.int n), q8, q9] = if sk = true then .nx [A, B, .va (.str (ruleS sh)), .va (.bl sk), .ow (iL (acc ++ [0])), .va (tp l), .va (.int i), .va (.int n), t8, q9] else .ex (.err "CannotDo" [("day", .non), ("lot", tp l), ("index", .int i)]) [A, B, .va (.str (ruleS sh)), .va (.bl sk), .ow (iL acc), .va (tp l), .va (.int i), .va (.int n), t8, q9]) := by
  have s := suitable_ok l n hl
  have z3 : bx_perform_3 [A, B, .va (.str (ruleS sh)), .va (.bl sk), .ow (iL acc), .va (tp l), .va (.int i), .va (.int n), q8, q9] = .nx [A, B, .va (.str (ruleS sh)), .va (.bl sk), .ow (iL acc), .va (tp l), .va (.int i), .va (.int n), .ow (iL (suitOf l n)), q9] := by
    simp [x_perform_3, s, h8.io]
  have l1 : acc.length < 1000000 := by omega
  refine ⟨fun p hp => ?_, fun hp => ?_⟩
  · have hne : suitOf l n ≠ [] := fun z => by rw [pick_none.mpr z] at hp; cases hp
    have w := worn_ok (pick_some hp).1 hl
    have he : (suitOf l n).isEmpty = false := by
      cases e : suitOf l n with
      | nil => exact absurd e hne
      | cons _ _ => rfl
    refine ⟨.ow (iL (suitOf l n)), .va (.int p), wr_ow _, fre_va _, ?_⟩
    rw [seq_nx z3]
    have r := rule_eq sh
    cases sh
    · have x := last_ix (show (suitOf l n).getLast? = some p from hp)
      generalize suitOf l n = U at *
      generalize ruleS false = R at *
      simp [x_perform_4, he, x_perform_5, r, -ixP_l, x, h9.io, x_perform_6, l1, x_perform_7, w]
    · have x := head_ix (show (suitOf l n).head? = some p from hp)
      generalize suitOf l n = U at *
      generalize ruleS true = R at *
      simp [x_perform_4, he, x_perform_5, r, -ixP_l, x, h9.io, x_perform_6, l1, x_perform_7, w]
  · have e := pick_none.mp hp
    refine ⟨.ow [], wr_ow _, ?_⟩
    rw [seq_nx z3, e]
    cases sk
    · simp [x_perform_4]
    · simp [x_perform_4, l1]
theorem perf_loop (A B : Sl) (sh sk : Bool) : ∀ (row : List Int) (i : Nat) (acc l : List Int) (q6 q7 q8 q9 : Sl), Fre q6 → Fre q7 → Wr q8 → Fre q9 → l.Pairwise (· ≥ ·) → l.length ≤ 1000 → acc.length + row.length ≤ 1000 →
    (∀ ps l', runP sh sk i row acc l = .ok (ps, l') → ∃ t6 t7 t8 t9, forL (tgT [6, 7]) (seqS bx_perform_3 bx_perform_4) (enumL i (iL row)) [A, B, .va (.str (ruleS sh)), .va (.bl sk), .ow (iL acc), .va (tp l), q6, q7, q8, q9] = .nx [A, B, .va (.str (ruleS sh)), .va (.bl sk), .ow (iL ps), .va (tp l'), t6, t7, t8, t9]) ∧
    (∀ j l', runP sh sk i row acc l = .error (j, l') → ∃ ps t6 t7 t8 t9, forL (tgT [6, 7]) (seqS bx_perform_3 bx_perform_4) (enumL i (iL row)) [A, B, .va (.str (ruleS sh)), .va (.bl sk), .ow (iL acc), .va (tp l), q6, q7, q8, q9] = .ex (.err "CannotDo" [("day", .non), ("lot", tp l'), ("index", .int j)]) [A, B, .va (.str (ruleS sh)), .va (.bl sk), .ow (iL ps), .va (tp l'), t6, t7, t8, t9])
  | [], i, acc, l, q6, q7, q8, q9, _, _, _, _, _, _, _ => ⟨fun ps l' h => by cases h; exact ⟨q6, q7, q8, q9, rfl⟩, fun j l' h => by cases h⟩
  | n :: r, i, acc, l, q6, q7, q8, q9, h6, h7, h8, h9, hd, hl, ha => by
    simp only [List.length_cons] at ha
    obtain ⟨s1, s2⟩ := perf_step A B sh sk i n acc l hl (by omega) q8 q9 h8 h9
    rw [iL_cons, enumL_cons]
    unfold runP
    have tg : tgT [6, 7] (.pr [.int i, .int n]) [A, B, .va (.str (ruleS sh)), .va (.bl sk), .ow (iL acc), .va (tp l), q6, q7, q8, q9] = .nx [A, B, .va (.str (ruleS sh)), .va (.bl sk), .ow (iL acc), .va (tp l), .va (.int i), .va (.int n), q8, q9] := by simp [h6.io, h7.io]
    cases hp : pick sh l n with
    | some p =>
      obtain ⟨t8, t9, f8, f9, e⟩ := s1 p hp
      have hm := (pick_some hp).1
      have ih := perf_loop A B sh sk r (i + 1) (acc ++ [p]) (wornOf l p) (.va (.int i)) (.va (.int n)) t8 t9 (fre_va _) (fre_va _) f8 f9 (worn_desc hd hm) (by have := worn_len hd hm; omega) (by simp; omega)
      simp only [forL, tg, e]
      exact ih
    | none =>
      obtain ⟨t8, f8, e⟩ := s2 hp
      cases sk
      · simp only [Bool.false_eq_true, if_false] at e ⊢
        simp only [forL, tg, e]
        exact ⟨fun ps l' h => by (cases h), fun j l' h => by (cases h; exact ⟨acc, _, _, _, _, rfl⟩)⟩
      · simp only [if_true] at e ⊢
        have ih := perf_loop A B sh true r (i + 1) (acc ++ [0]) l (.va (.int i)) (.va (.int n)) t8 q9 (fre_va _) (fre_va _) f8 h9 hd hl (by simp; omega)
        simp only [forL, tg, e]
        exact ih
theorem perform_ok {l row : List Int} {sh sk : Bool} (hd : l.Pairwise (· ≥ ·)) (hl : l.length ≤ 1000) (hr : row.length ≤ 1000) {ps l' : List Int} (h : runP sh sk 0 row [] l = .ok (ps, l')) : f_perform [.va (tp l), .va (li row), .va (.str (ruleS sh)), .va (.bl sk)] = .ok (.fz (.tup [li ps, tp l'])) [.un, .un, .un, .un] := by
  obtain ⟨t6, t7, t8, t9, e⟩ := (perf_loop (.va (tp l)) (.va (li row)) sh sk row 0 [] l .un .un .un .un fre_un fre_un wr_un fre_un hd hl (by simpa using hr)).1 ps l' h
  rw [iL_nil] at e
  generalize ruleS sh = R at *
  simp [e_perform, d_perform, x_perform_0, x_perform_1, x_perform_2, e, x_perform_8]
theorem perform_ex {l row : List Int} {sh sk : Bool} (hd : l.Pairwise (· ≥ ·)) (hl : l.length ≤ 1000) (hr : row.length ≤ 1000) {j : Nat} {l' : List Int} (h : runP sh sk 0 row [] l = .error (j, l')) : f_perform [.va (tp l), .va (li row), .va (.str (ruleS sh)), .va (.bl sk)] = .ex (.err "CannotDo" [("day", .non), ("lot", tp l'), ("index", .int j)]) [.un, .un, .un, .un] := by
  obtain ⟨ps, t6, t7, t8, t9, e⟩ := (perf_loop (.va (tp l)) (.va (li row)) sh sk row 0 [] l .un .un .un .un fre_un fre_un wr_un fre_un hd hl (by simpa using hr)).2 j l' h
  rw [iL_nil] at e
  generalize ruleS sh = R at *
  simp [e_perform, d_perform, x_perform_0, x_perform_1, x_perform_2, e]
/-- a row -/
structure Row (ns : List Int) : Prop where
  len : ns.length ≤ 200
  rng : ∀ n ∈ ns, 1 ≤ n ∧ n ≤ 200
theorem valid_row {ns : List Int} (h : Row ns) : f_is_valid_row [.va (li ns)] = .ok (.fz (.bl true)) [.un] := by
  have e := is_list_between_l ns 1 200
  rw [show (ns.all fun t => decide (1 ≤ t) && decide (t ≤ 200)) = true from List.all_eq_true.mpr fun n hn => by have := h.rng n hn; simp [this]] at e
  have l1 : (ns.length : Int) ≤ 200 := by have := h.len; omega
  have l2 := h.len
  rw [e_is_valid_row, d_is_valid_row]
  simp [e, l1]
theorem check_row_ok {ns : List Int} (h : Row ns) : f_check_row [.va (li ns)] = .ok (.fz .non) [.un] := by
  rw [e_check_row, d_check_row]
  simp [valid_row h]
theorem check_rule_ok (sh : Bool) : f_u_check_rule [.va (.str (ruleS sh))] = .ok (.fz .non) [.un] := by
  have : notInP (.str (ruleS sh)) (strT ["dullest", "sharpest"]) = some (.fz (.bl false)) := by cases sh <;> rfl
  rw [e_u_check_rule, d_u_check_rule]
  generalize ruleS sh = R at *
  simp [this]
theorem serve_ok {l row : List Int} (g : Good l) (hr : Row row) (sh : Bool) : f_serve [.va (tp l), .va (li row), .va (.str (ruleS sh))] = .ok (.fz (.tup [li (serveP sh l row).1, tp (serveP sh l row).2])) [.un, .un, .un] := by
  have p := perform_ok (sh := sh) (sk := true) g.desc (by have := g.len; omega) (by have := hr.len; omega) (run_serve sh row 0 [] l)
  rw [List.nil_append] at p
  have c := check_rule_ok sh
  generalize ruleS sh = R at *
  simp [e_serve, d_serve, x_serve_0, x_serve_1, x_serve_2, x_serve_3, check_good g, check_row_ok hr, c, p]
theorem work_ok {l row : List Int} (g : Good l) (hr : Row row) (sh : Bool) (h : 0 ∉ (serveP sh l row).1) : f_work [.va (tp l), .va (li row), .va (.str (ruleS sh))] = .ok (.fz (.tup [li (serveP sh l row).1, tp (serveP sh l row).2])) [.un, .un, .un] := by
  have p := perform_ok (sh := sh) (sk := false) g.desc (by have := g.len; omega) (by have := hr.len; omega) (run_work sh row 0 [] l h)
  rw [List.nil_append] at p
  have c := check_rule_ok sh
  generalize ruleS sh = R at *
  simp [e_work, d_work, x_work_0, x_work_1, x_work_2, x_work_3, check_good g, check_row_ok hr, c, p]
/-- tasks of one need: as many as the capacity -/
theorem serve_same (sh : Bool) {n : Int} (hn : 1 ≤ n) : ∀ (m : Nat) (l : List Int), Good l → (0 ∉ (serveP sh l (List.replicate m n)).1 ↔ (m : Int) ≤ capOf l n)
  | 0, l, _ => by simp [serveP, capOf_nn]
  | m + 1, l, g => by
    rw [List.replicate_succ]
    unfold serveP
    cases hp : pick sh l n with
    | some p =>
      obtain ⟨h1, h2⟩ := pick_some hp
      have ih := serve_same sh hn m (wornOf l p) (worn_good g h1)
      rw [capOf_worn g.desc h1 (g.rng p h1).1 hn, if_pos h2] at ih
      simp only [List.mem_cons, not_or]
      rw [ih]
      omega
    | none =>
      have := pick_none_cap.mp hp
      simp only [List.mem_cons, true_or, not_true_eq_false, false_iff]
      omega
end S
end

section
set_option Elab.async false
set_option linter.all false
set_option maxRecDepth 100000
namespace S
open PySem L2 KL
/-! ### one tool is used -/
theorem can_use2 (ts : List Int) (t n : Int) : f_u_check_can_use [.va (tp ts), .va (.int t), .va (.int n)] = if t ∈ ts then (if t < n then .ex (.err "CannotDo" [("day", .non), ("lot", tp ts), ("index", .int 0)]) [.un, .un, .un] else .ok (.fz .non) [.un, .un, .un]) else .ex (.err "MissingTool" [("tool", .int t)]) [.un, .un, .un] := by
  by_cases c : t ∈ ts
  · by_cases c2 : t < n
    · simp [e_u_check_can_use, d_u_check_can_use, x_u_check_can_use_0, x_u_check_can_use_1, c, c2]
    · simp [e_u_check_can_use, d_u_check_can_use, x_u_check_can_use_0, x_u_check_can_use_1, c, c2]
  · simp [e_u_check_can_use, d_u_check_can_use, x_u_check_can_use_0, x_u_check_can_use_1, c]
theorem use2_ok {ts : List Int} (g : Good ts) {t n : Int} (t1 : 1 ≤ t) (t2 : t ≤ 200) (n1 : 1 ≤ n) (n2 : n ≤ 200) : f_use [.va (tp ts), .va (.int t), .va (.int n)] = if t ∈ ts then (if t < n then .ex (.err "CannotDo" [("day", .non), ("lot", tp ts), ("index", .int 0)]) [.un, .un, .un] else .ok (.fz (tp (wornOf ts t))) [.un, .un, .un]) else .ex (.err "MissingTool" [("tool", .int t)]) [.un, .un, .un] := by
  have c0 := can_use2 ts t n
  by_cases c : t ∈ ts
  · have w := worn_ok c (by have := g.len; omega)
    by_cases c2 : t < n
    · rw [if_pos c, if_pos c2] at c0 ⊢
      simp [e_use, d_use, x_use_0, x_use_1, x_use_2, x_use_3, check_good g, pos_ok t1 t2, pos_ok n1 n2, c0]
    · rw [if_pos c, if_neg c2] at c0 ⊢
      simp [e_use, d_use, x_use_0, x_use_1, x_use_2, x_use_3, x_use_4, check_good g, pos_ok t1 t2, pos_ok n1 n2, c0, w]
  · rw [if_neg c] at c0 ⊢
    simp [e_use, d_use, x_use_0, x_use_1, x_use_2, x_use_3, check_good g, pos_ok t1 t2, pos_ok n1 n2, c0]

theorem pick_last {l : List Int} (hd : l.Pairwise (· ≥ ·)) {n d : Int} (h1 : d ∈ l) (h2 : n ≤ d) (h3 : ∀ t ∈ l, n ≤ t → d ≤ t) : pick false l n = some d := by
  cases e : pick false l n with
  | none =>
    have := pick_none.mp e
    have hm := suit_mem.mpr ⟨h1, h2⟩
    rw [this] at hm; cases hm
  | some p =>
    obtain ⟨p1, p2⟩ := pick_some e
    have e' : (suitOf l n).getLast? = some p := e
    have hp := h3 p p1 p2
    have hd' := suit_desc hd n
    have hm := suit_mem.mpr ⟨h1, h2⟩
    have : p ≤ d := by
      obtain ⟨ys, hy⟩ := List.getLast?_eq_some_iff.mp e'
      rw [hy] at hm hd'
      rcases List.mem_append.mp hm with h | h
      · have := (List.pairwise_append.mp hd').2.2 d h p (by simp); omega
      · rw [List.mem_singleton.mp h]; exact Int.le_refl _
    rw [show p = d by omega]
/-! ### covering -/
def Cov (a b : List Int) : Prop := ∀ n, 1 ≤ n → capOf b n ≤ capOf a n
theorem cap_hi {b : List Int} {n : Int} (h : ∀ t ∈ b, t < n) : capOf b n = 0 := by
  have h0 := capOf_nn b n
  by_cases c : 1 ≤ capOf b n
  · obtain ⟨t, h1, h2⟩ := cap_pos_iff.mp c
    have := h t h1; omega
  · omega
theorem gap_none {a b : List Int} : gapOf a b = none ↔ Cov a b := by
  unfold gapOf
  rw [List.find?_eq_none]
  constructor
  · intro h n hn
    by_cases c : n ≤ hiOf b
    · have := h n (rg_mem.mpr ⟨hn, by have := hi_nn b; omega⟩)
      have : ¬ capOf a n < capOf b n := fun z => this (decide_eq_true z)
      omega
    · rw [cap_hi fun t ht => by have := hi_ge ht; omega]
      exact capOf_nn a n
  · intro h n hn z
    have := h n (rg_mem.mp hn).1
    have := of_decide_eq_true z
    omega
theorem covers_cov {a b : List Int} (ga : Good a) (gb : Good b) (h : Cov a b) : f_covers [.va (tp a), .va (tp b)] = .ok (.fz (.bl true)) [.un, .un] := by
  rw [covers_ok ga gb, gap_none.mpr h]; rfl
theorem cov_perm {a b a' b' : List Int} (p : a.Perm a') (q : b.Perm b') (h : Cov a b) : Cov a' b' := fun n hn => by
  rw [← capOf_perm p, ← capOf_perm q]; exact h n hn
theorem cov_app {a b c : List Int} (h : Cov a b) : Cov (a ++ c) (b ++ c) := fun n hn => by
  rw [capOf_app, capOf_app]; have := h n hn; omega
/-- how many tools of at least m -/
def cntF (a : List Int) (m : Int) : Int := match a with
  | [] => 0
  | t :: r => (if m ≤ t then 1 else 0) + cntF r m
theorem cap_lo : ∀ (a : List Int) (x m : Int), x ≤ m → capOf a m + cntF a m * (m - x) ≤ capOf a x
  | [], x, m, h => by simp [capOf_nil, cntF]
  | t :: r, x, m, h => by
    have ih := cap_lo r x m h
    rw [capOf_cons, capOf_cons, cntF, Int.add_mul]
    by_cases c : m ≤ t
    · rw [if_pos c, if_pos c, if_pos (by omega), Int.one_mul]; omega
    · rw [if_neg c, if_neg c]; split <;> omega
theorem cap_lo1 : ∀ (a : List Int) (x m v : Int), v ∈ a → x ≤ v → v < m → capOf a m + cntF a m * (m - x) + 1 ≤ capOf a x
  | t :: r, x, m, v, hv, h1, h2 => by
    rw [capOf_cons, capOf_cons, cntF, Int.add_mul]
    rcases List.mem_cons.mp hv with e | hv
    · have ih := cap_lo r x m (by omega)
      subst e
      rw [if_neg (by omega), if_neg (by omega), if_pos h1]; omega
    · have ih := cap_lo1 r x m v hv h1 h2
      by_cases c : m ≤ t
      · rw [if_pos c, if_pos c, if_pos (by omega), Int.one_mul]; omega
      · rw [if_neg c, if_neg c]; split <;> omega
theorem cap_hi2 : ∀ (a : List Int) (m y : Int), m ≤ y → capOf a m ≤ capOf a y + cntF a m * (y - m)
  | [], m, y, h => by simp [capOf_nil, cntF]
  | t :: r, m, y, h => by
    have ih := cap_hi2 r m y h
    rw [capOf_cons, capOf_cons, cntF, Int.add_mul]
    by_cases c : m ≤ t
    · rw [if_pos c, if_pos c, Int.one_mul]; split <;> omega
    · rw [if_neg c, if_neg c, if_neg (by omega)]; omega
theorem cap_eq_lo : ∀ (a : List Int) (x m : Int), x ≤ m → (∀ t ∈ a, x ≤ t → m ≤ t) → capOf a x = capOf a m + cntF a m * (m - x)
  | [], x, m, h, _ => by simp [capOf_nil, cntF]
  | t :: r, x, m, h, ht => by
    have ih := cap_eq_lo r x m h fun u hu => ht u (List.mem_cons_of_mem _ hu)
    have h1 := ht t (List.mem_cons_self ..)
    rw [capOf_cons, capOf_cons, cntF, Int.add_mul]
    by_cases c : m ≤ t
    · rw [if_pos c, if_pos c, if_pos (by omega), Int.one_mul]; omega
    · rw [if_neg c, if_neg c, if_neg (fun z => c (h1 z))]; omega
theorem cap_eq_hi : ∀ (a : List Int) (m y : Int), m ≤ y → (∀ t ∈ a, m ≤ t → y ≤ t + 1) → capOf a m = capOf a y + cntF a m * (y - m)
  | [], m, y, h, _ => by simp [capOf_nil, cntF]
  | t :: r, m, y, h, ht => by
    have ih := cap_eq_hi r m y h fun u hu => ht u (List.mem_cons_of_mem _ hu)
    have h1 := ht t (List.mem_cons_self ..)
    rw [capOf_cons, capOf_cons, cntF, Int.add_mul]
    by_cases c : m ≤ t
    · have := h1 c
      rw [if_pos c, if_pos c, Int.one_mul]; split <;> omega
    · rw [if_neg c, if_neg c, if_neg (by omega)]; omega
/-- covering survives a task: the dullest suitable tool against any tool -/
theorem cov_step {a b : List Int} (ga : Good a) (gb : Good b) (h : Cov a b) {n d v : Int} (hn : 1 ≤ n) (hd : d ∈ a) (nd : n ≤ d) (hmin : ∀ t ∈ a, n ≤ t → d ≤ t) (hv : v ∈ b) (nv : n ≤ v) : Cov (wornOf a d) (wornOf b v) := fun m hm => by
  rw [capOf_worn ga.desc hd (ga.rng d hd).1 hm, capOf_worn gb.desc hv (gb.rng v hv).1 hm]
  have hc := h m hm
  by_cases c1 : m ≤ d
  · by_cases c2 : m ≤ v
    · rw [if_pos c1, if_pos c2]; omega
    · rw [if_pos c1, if_neg c2]
      by_cases e : capOf b m = capOf a m
      · exfalso
        have f1 := cap_eq_lo a n m (by omega) fun t ht h => by have := hmin t ht h; omega
        have f2 := cap_eq_hi a m (d + 1) (by omega) fun t ht h => by have := hmin t ht (by omega); omega
        have g1 := cap_lo1 b n m v hv nv (by omega)
        have g2 := cap_hi2 b m (d + 1) (by omega)
        have k1 := h n hn
        have k2 := h (d + 1) (by omega)
        by_cases j : cntF a m ≤ cntF b m
        · have := Int.mul_le_mul_of_nonneg_right j (show 0 ≤ m - n by omega)
          omega
        · have := Int.mul_le_mul_of_nonneg_right (show cntF b m + 1 ≤ cntF a m by omega) (show 0 ≤ d + 1 - m by omega)
          rw [Int.add_mul, Int.one_mul] at this
          omega
      · omega
  · by_cases c2 : m ≤ v
    · rw [if_neg c1, if_pos c2]; omega
    · rw [if_neg c1, if_neg c2]; omega
/-- .. any tool against the sharpest -/
theorem cov_sharp {a b : List Int} (ga : Good a) (gb : Good b) (h : Cov a b) {t s : Int} (ht : t ∈ a) (hs : s ∈ b) (hmax : ∀ u ∈ b, u ≤ s) : Cov (wornOf a t) (wornOf b s) := fun m hm => by
  rw [capOf_worn ga.desc ht (ga.rng t ht).1 hm, capOf_worn gb.desc hs (gb.rng s hs).1 hm]
  have hc := h m hm
  by_cases c1 : m ≤ t
  · by_cases c2 : m ≤ s
    · rw [if_pos c1, if_pos c2]; omega
    · rw [if_pos c1, if_neg c2, cap_hi fun u hu => by have := hmax u hu; omega]
      have := cap_pos_iff.mpr ⟨t, ht, c1⟩
      omega
  · by_cases c2 : m ≤ s
    · rw [if_neg c1, if_pos c2]; omega
    · rw [if_neg c1, if_neg c2]; omega
end S
end

section
set_option Elab.async false
set_option linter.all false
set_option maxRecDepth 100000
namespace S
open PySem L2 KL
/-! ### heaps -/
theorem enL_cons (c : Int) (x : D) (xs : List D) : enL c (x :: xs) = .pr [.int c, x] :: enL (c + 1) xs := by
  unfold enL
  rw [List.zipIdx_cons, List.map_cons]
  congr 1
  · simp
  · apply List.ext_getElem?
    intro k
    simp only [List.getElem?_map, List.getElem?_zipIdx]
    cases xs[k]? with
    | none => rfl
    | some y =>
      simp only [Option.map_some]
      congr 4
      omega
/-! in some order -/
def nbc (a : List Int) : Int → List Int → Option Int
  | _, [] => none
  | k, x :: r => if capOf a x < k then some x else nbc a (k + 1) r
theorem nbc_loop (a : List Int) (la : a.length ≤ 1000) (B : Sl) : ∀ (xs : List Int) (k : Int) (q2 q3 : Sl), Fre q2 → Fre q3 → ∃ t2 t3, forL (tgT [2, 3]) bx_u_need_beyond_capacity_1 (enL k (iL xs)) [.va (tp a), B, q2, q3] = match nbc a k xs with
    | none => .nx [.va (tp a), B, t2, t3]
    | some n => .rt (.fz (.int n)) [.va (tp a), B, t2, t3]
  | [], k, q2, q3, _, _ => ⟨q2, q3, rfl⟩
  | x :: r, k, q2, q3, h2, h3 => by
    have c := capacity_of_ok a x (by omega)
    have tg : tgT [2, 3] (.pr [.int k, .int x]) [.va (tp a), B, q2, q3] = .nx [.va (tp a), B, .va (.int k), .va (.int x)] := by simp [h2.io, h3.io]
    rw [iL_cons, enL_cons]
    unfold nbc
    by_cases z : capOf a x < k
    · refine ⟨.va (.int k), .va (.int x), ?_⟩
      rw [if_pos z]
      have e : bx_u_need_beyond_capacity_1 [.va (tp a), B, .va (.int k), .va (.int x)] = .rt (.fz (.int x)) [.va (tp a), B, .va (.int k), .va (.int x)] := by simp [x_u_need_beyond_capacity_1, c, z]
      simp only [forL, tg, e]
    · obtain ⟨t2, t3, e⟩ := nbc_loop a la B r (k + 1) (.va (.int k)) (.va (.int x)) (fre_va _) (fre_va _)
      refine ⟨t2, t3, ?_⟩
      rw [if_neg z]
      have e1 : bx_u_need_beyond_capacity_1 [.va (tp a), B, .va (.int k), .va (.int x)] = .nx [.va (tp a), B, .va (.int k), .va (.int x)] := by simp [x_u_need_beyond_capacity_1, c, z]
      simp only [forL, tg, e1]
      exact e
def optI' : Option Int → D
  | some n => .int n
  | none => .non
theorem beyond_ok (a ns : List Int) (la : a.length ≤ 1000) : f_u_need_beyond_capacity [.va (tp a), .va (li ns)] = .ok (.fz (optI' (nbc a 1 (dsort ns)))) [.un, .un] := by
  obtain ⟨t2, t3, e⟩ := nbc_loop a la (.va (li ns)) (dsort ns) 1 .un .un fre_un fre_un
  have sr : sortRevP (li ns) = some (.fr (iL (dsort ns))) := by simp
  generalize hX : li ns = X at *
  generalize dsort ns = Z at *
  cases h : nbc a 1 Z with
  | none => rw [h] at e; simp [e_u_need_beyond_capacity, d_u_need_beyond_capacity, x_u_need_beyond_capacity_0, -sortRevP_ap, sr, e, x_u_need_beyond_capacity_2, optI']
  | some n => rw [h] at e; simp [e_u_need_beyond_capacity, d_u_need_beyond_capacity, x_u_need_beyond_capacity_0, -sortRevP_ap, sr, e, optI']
theorem can_some_ok {a ns : List Int} (g : Good a) (hr : Row ns) : f_can_some [.va (tp a), .va (li ns)] = .ok (.fz (.bl (nbc a 1 (dsort ns)).isNone)) [.un, .un] := by
  have b := beyond_ok a ns (by have := g.len; omega)
  have cr : f_check_row [.va (li ns)] = .ok (.fz .non) [.un] := check_row_ok hr
  have cg : f_check_lot [.va (tp a)] = .ok (.fz .non) [.un] := check_good g
  generalize tp a = T at *
  generalize li ns = X at *
  have se : eqP (.str "some") (.str "some") = some (.fz (.bl true)) := eqP_of (by simp [D.pln, D.dep]) (by simp only [D.eqD]; decide)
  have ln : f_u_lacking_need [.va T, .va X, .va (.str "some")] = .ok (.fz (optI' (nbc a 1 (dsort ns)))) [.un, .un, .un] := by
    simp [e_u_lacking_need, d_u_lacking_need, x_u_lacking_need_0, se, b]
  cases h : nbc a 1 (dsort ns) with
  | none =>
    rw [h] at ln
    have ie : f_is_enough [.va T, .va X, .va (.str "some")] = .ok (.fz (.bl true)) [.un, .un, .un] := by
      rw [e_is_enough, d_is_enough]; simp [ln, optI']
    simp [e_can_some, d_can_some, x_can_some_0, x_can_some_1, x_can_some_2, cg, cr, ie]
  | some n =>
    rw [h] at ln
    have ie : f_is_enough [.va T, .va X, .va (.str "some")] = .ok (.fz (.bl false)) [.un, .un, .un] := by
      rw [e_is_enough, d_is_enough]; simp [ln, optI']
    simp [e_can_some, d_can_some, x_can_some_0, x_can_some_1, x_can_some_2, cg, cr, ie]
/-- serving in descending order with the sharpest tool -/
theorem serve_desc : ∀ (xs : List Int) (a : List Int) (k : Int), Good a → xs.Pairwise (· ≥ ·) → (∀ x ∈ xs, 1 ≤ x) → (∀ (b : List Int), (∀ x ∈ xs, capOf b x = capOf a x + k) → ((nbc b (k + 1) xs).isNone = true ↔ 0 ∉ (serveP true a xs).1))
  | [], a, k, _, _, _, b, _ => by simp [nbc, serveP]
  | x :: r, a, k, g, hd, h1, b, hb => by
    obtain ⟨d1, d2⟩ := List.pairwise_cons.mp hd
    have hx := hb x (List.mem_cons_self ..)
    have c0 := capOf_nn a x
    unfold nbc serveP
    cases hp : pick true a x with
    | none =>
      have hz := pick_none_cap.mp hp
      rw [if_pos (by omega)]
      simp
    | some t =>
      obtain ⟨t1, t2⟩ := pick_some hp
      have cp := cap_pos_iff.mpr ⟨t, t1, t2⟩
      rw [if_neg (by omega)]
      have rt := g.rng t t1
      have ih := serve_desc r (wornOf a t) (k + 1) (worn_good g t1) d2 (fun y hy => h1 y (List.mem_cons_of_mem _ hy)) b fun y hy => by
        have hy1 := h1 y (List.mem_cons_of_mem _ hy)
        have hy2 := d1 y hy
        rw [hb y (List.mem_cons_of_mem _ hy), capOf_worn g.desc t1 rt.1 hy1, if_pos (by omega)]; omega
      rw [ih]
      simp only [List.mem_cons, not_or]
      constructor
      · intro h; exact ⟨by omega, h⟩
      · intro h; exact h.2
/-! in every order -/
def fillN : List Int → List Int → Option Int
  | [], l => l.head?
  | t :: ts, l => match l with
    | [] => fillN ts []
    | x :: r => if t < x then some x else fillN ts ((x :: r).drop (t - x + 1).toNat)
theorem fillN_nil : ∀ ts : List Int, fillN ts [] = none
  | [] => rfl
  | _ :: ts => fillN_nil ts
theorem fillN_loop (A B : Sl) : ∀ (ts l : List Int) (pl : List D) (q4 q5 : Sl), Fre q4 → Fre q5 → pl.length + ts.length ≤ 1000 → ∃ pl', 
    ((∃ l' t4 t5, fillN ts l = l'.head? ∧ forL (tgN 4) (seqS bx_u_fill_blocks_3 (seqS bx_u_fill_blocks_4 (seqS bx_u_fill_blocks_5 bx_u_fill_blocks_6))) (iL ts) [A, B, .ow pl, .ow (iL l), q4, q5] = .nx [A, B, .ow pl', .ow (iL l'), t4, t5]) ∨
     (∃ x b2 b3 t4 t5, fillN ts l = some x ∧ forL (tgN 4) (seqS bx_u_fill_blocks_3 (seqS bx_u_fill_blocks_4 (seqS bx_u_fill_blocks_5 bx_u_fill_blocks_6))) (iL ts) [A, B, .ow pl, .ow (iL l), q4, q5] = .rt (.fz (.tup [.lst pl', .int x])) [A, B, b2, b3, t4, t5]))
  | [], l, pl, q4, q5, _, _, _ => ⟨pl, .inl ⟨l, q4, q5, rfl, rfl⟩⟩
  | t :: ts, [], pl, q4, q5, h4, h5, hl => by
    simp only [List.length_cons] at hl
    obtain ⟨pl', ih⟩ := fillN_loop A B ts [] (pl ++ [.lst []]) (.va (.int t)) (.va (.int 0)) (fre_va _) (fre_va _) (by simp; omega)
    refine ⟨pl', ?_⟩
    have l1 : pl.length < 1000000 := by omega
    have c1 : cutD ([] : List D) none (some 0) = [] := rfl
    have c2 : cutD ([] : List D) (some 0) none = [] := rfl
    have e : forL (tgN 4) (seqS bx_u_fill_blocks_3 (seqS bx_u_fill_blocks_4 (seqS bx_u_fill_blocks_5 bx_u_fill_blocks_6))) (iL (t :: ts)) [A, B, .ow pl, .ow (iL []), q4, q5] = forL (tgN 4) (seqS bx_u_fill_blocks_3 (seqS bx_u_fill_blocks_4 (seqS bx_u_fill_blocks_5 bx_u_fill_blocks_6))) (iL ts) [A, B, .ow (pl ++ [.lst []]), .ow (iL []), .va (.int t), .va (.int 0)] := by
      rw [iL_cons]
      simp [forL, h4.io, x_u_fill_blocks_3, x_u_fill_blocks_4, h5.io, x_u_fill_blocks_5, c1, c2, l1, x_u_fill_blocks_6]
    rw [e]
    exact ih
  | t :: ts, x :: r, pl, q4, q5, h4, h5, hl => by
    simp only [List.length_cons] at hl
    have hx : ixP (.lst (iL (x :: r))) (.int 0) = some (.fz (.int x)) := head_ix rfl
    have he : (iL (x :: r)).isEmpty = false := rfl
    unfold fillN
    simp only
    by_cases z : t < x
    · rw [if_pos z]
      refine ⟨pl, .inr ⟨x, .va (.lst pl), .ow (iL (x :: r)), .va (.int t), q5, rfl, ?_⟩⟩
      · rw [iL_cons t]
        generalize hL : x :: r = l at *
        simp [forL, h4.io, -iL_emp, he, x_u_fill_blocks_3, -ixP_l, hx, z]
    · rw [if_neg z]
      obtain ⟨pl', ih⟩ := fillN_loop A B ts ((x :: r).drop (t - x + 1).toNat) (pl ++ [li ((x :: r).take (t - x + 1).toNat)]) (.va (.int t)) (.va (.int (t - x + 1))) (fre_va _) (fre_va _) (by simp; omega)
      refine ⟨pl', ?_⟩
      have l1 : pl.length < 1000000 := by omega
      have c := cutD_from (iL (x :: r)) (i := t - x + 1) (by omega)
      have c2 := cutD_to (iL (x :: r)) (i := t - x + 1) (by omega)
      rw [iL_drop] at c
      rw [iL_take] at c2
      have e : forL (tgN 4) (seqS bx_u_fill_blocks_3 (seqS bx_u_fill_blocks_4 (seqS bx_u_fill_blocks_5 bx_u_fill_blocks_6))) (iL (t :: ts)) [A, B, .ow pl, .ow (iL (x :: r)), q4, q5] = forL (tgN 4) (seqS bx_u_fill_blocks_3 (seqS bx_u_fill_blocks_4 (seqS bx_u_fill_blocks_5 bx_u_fill_blocks_6))) (iL ts) [A, B, .ow (pl ++ [li ((x :: r).take (t - x + 1).toNat)]), .ow (iL ((x :: r).drop (t - x + 1).toNat)), .va (.int t), .va (.int (t - x + 1))] := by
        rw [iL_cons t]
        generalize hP : (x :: r).take (t - x + 1).toNat = P at *
        generalize hQ : (x :: r).drop (t - x + 1).toNat = Q at *
        generalize hL : x :: r = l at *
        simp [forL, h4.io, -iL_emp, he, x_u_fill_blocks_3, -ixP_l, hx, z, x_u_fill_blocks_4, h5.io, x_u_fill_blocks_5, c2, l1, x_u_fill_blocks_6, c]
      rw [e]
      exact ih
theorem fill_ok (a ns : List Int) (la : a.length ≤ 900) : ∃ pl, f_u_fill_blocks [.va (tp a), .va (li ns)] = .ok (.fz (.tup [.lst pl, optI' (fillN a (dsort ns))])) [.un, .un] := by
  obtain ⟨pl, h⟩ := fillN_loop (.va (tp a)) (.va (li ns)) a (dsort ns) [] .un .un fre_un fre_un (by simp; omega)
  have sr : sortRevP (li ns) = some (.fr (iL (dsort ns))) := by simp
  generalize hX : li ns = X at *
  generalize dsort ns = Z at *
  refine ⟨pl, ?_⟩
  rcases h with ⟨l', t4, t5, e1, e2⟩ | ⟨x, b2, b3, t4, t5, e1, e2⟩
  · rw [e1]
    cases l' with
    | nil =>
      rw [iL_nil] at e2
      simp [e_u_fill_blocks, d_u_fill_blocks, x_u_fill_blocks_0, x_u_fill_blocks_1, -sortRevP_ap, sr, x_u_fill_blocks_2, e2, x_u_fill_blocks_7, optI']
    | cons y r =>
      have hx : ixP (.lst (iL (y :: r))) (.int 0) = some (.fz (.int y)) := head_ix rfl
      have he : (iL (y :: r)).isEmpty = false := rfl
      rw [show (y :: r).head? = some y from rfl]
      generalize hL : y :: r = l at *
      simp [e_u_fill_blocks, d_u_fill_blocks, x_u_fill_blocks_0, x_u_fill_blocks_1, -sortRevP_ap, sr, x_u_fill_blocks_2, e2, x_u_fill_blocks_7, optI', -iL_emp, he, -ixP_l, hx]
  · rw [e1]
    simp [e_u_fill_blocks, d_u_fill_blocks, x_u_fill_blocks_0, x_u_fill_blocks_1, -sortRevP_ap, sr, x_u_fill_blocks_2, e2, optI']
theorem can_every_gen {a ns : List Int} (g : Good a) (hr : Row ns) : f_can_every [.va (tp a), .va (li ns)] = .ok (.fz (.bl (fillN a (dsort ns)).isNone)) [.un, .un] := by
  obtain ⟨pl, fb⟩ := fill_ok a ns (by have := g.len; omega)
  have cr : f_check_row [.va (li ns)] = .ok (.fz .non) [.un] := check_row_ok hr
  have cg : f_check_lot [.va (tp a)] = .ok (.fz .non) [.un] := check_good g
  generalize tp a = T at *
  generalize li ns = X at *
  have se : eqP (.str "every") (.str "some") = some (.fz (.bl false)) := eqP_of (by simp [D.pln, D.dep]) (by simp only [D.eqD]; decide)
  have ln : f_u_lacking_need [.va T, .va X, .va (.str "every")] = .ok (.fz (optI' (fillN a (dsort ns)))) [.un, .un, .un] := by
    cases h : fillN a (dsort ns) with
    | none => rw [h] at fb; simp [e_u_lacking_need, d_u_lacking_need, x_u_lacking_need_0, se, x_u_lacking_need_1, fb, x_u_lacking_need_2, optI']
    | some n => rw [h] at fb; simp [e_u_lacking_need, d_u_lacking_need, x_u_lacking_need_0, se, x_u_lacking_need_1, fb, x_u_lacking_need_2, optI']
  cases h : fillN a (dsort ns) with
  | none =>
    rw [h] at ln
    have ie : f_is_enough [.va T, .va X, .va (.str "every")] = .ok (.fz (.bl true)) [.un, .un, .un] := by
      rw [e_is_enough, d_is_enough]; simp [ln, optI']
    simp [e_can_every, d_can_every, x_can_every_0, x_can_every_1, x_can_every_2, cg, cr, ie]
  | some n =>
    rw [h] at ln
    have ie : f_is_enough [.va T, .va X, .va (.str "every")] = .ok (.fz (.bl false)) [.un, .un, .un] := by
      rw [e_is_enough, d_is_enough]; simp [ln, optI']
    simp [e_can_every, d_can_every, x_can_every_0, x_can_every_1, x_can_every_2, cg, cr, ie]
/-- so many of these ascending needs does a tool perform -/
def pfx : Int → List Int → Nat
  | _, [] => 0
  | u, n :: r => if n ≤ u then pfx (u - 1) r + 1 else 0
def gA : List Int → List Int → Bool
  | [], A => A.isEmpty
  | u :: us, A => gA us (A.drop (pfx u A))
theorem gA_nil : ∀ us : List Int, gA us [] = true
  | [] => rfl
  | u :: us => by
    unfold gA
    rw [List.drop_nil]
    exact gA_nil us
theorem pfx_le : ∀ (u : Int) (A : List Int), pfx u A ≤ A.length
  | u, [] => Nat.le_refl _
  | u, n :: r => by
    unfold pfx
    split
    · have := pfx_le (u - 1) r
      simp; omega
    · simp
theorem pfx_lo : ∀ (u : Int) (A : List Int) (k : Nat), k < pfx u A → ∃ x, A[k]? = some x ∧ x + (k : Int) ≤ u
  | u, [], k, h => by simp [pfx] at h
  | u, n :: r, k, h => by
    unfold pfx at h
    split at h
    · rename_i c
      cases k with
      | zero => exact ⟨n, rfl, by simpa using c⟩
      | succ k =>
        obtain ⟨x, h1, h2⟩ := pfx_lo (u - 1) r k (by omega)
        exact ⟨x, by simpa using h1, by simp only [Int.natCast_add]; omega⟩
    · omega
theorem pfx_hi : ∀ (u : Int) (A : List Int), pfx u A < A.length → ∃ x, A[pfx u A]? = some x ∧ u < x + (pfx u A : Nat)
  | u, [], h => by simp [pfx] at h
  | u, n :: r, h => by
    unfold pfx at h ⊢
    by_cases c : n ≤ u
    · rw [if_pos c] at h ⊢
      simp only [List.length_cons] at h
      obtain ⟨x, h1, h2⟩ := pfx_hi (u - 1) r (by omega)
      exact ⟨x, by simpa using h1, by simp only [Int.natCast_add]; omega⟩
    · rw [if_neg c]
      exact ⟨n, rfl, by simp; omega⟩

/-- duller tools than every need do nothing -/
theorem worn_app : ∀ {l : List Int} {p u : Int}, (l ++ [u]).Pairwise (· ≥ ·) → p ∈ l → u ≠ p → wornOf (l ++ [u]) p = wornOf l p ++ [u]
  | x :: r, p, u, hd, h, hu => by
    have hd' : (x :: r).Pairwise (· ≥ ·) := hd.sublist (List.sublist_append_left ..)
    have hd2 : (r ++ [u]).Pairwise (· ≥ ·) := (List.pairwise_cons.mp hd).2
    by_cases c : p ∈ r
    · rw [worn_cons hd' c, List.cons_append, worn_cons (u := x) (r := r ++ [u]) (t := p) hd (by simp [c]), worn_app hd2 c hu, List.cons_append]
    · have e : p = x := (List.mem_cons.mp h).resolve_right c
      subst e
      have c2 : p ∉ r ++ [u] := fun z => by
        rcases List.mem_append.mp z with z | z
        · exact c z
        · exact hu (List.mem_singleton.mp z).symm
      rw [worn_last c, List.cons_append, worn_last c2, List.append_assoc]
theorem pick_app {l : List Int} {n u : Int} (hd : (l ++ [u]).Pairwise (· ≥ ·)) (hu : u < n) : pick false (l ++ [u]) n = pick false l n := by
  have hd' : l.Pairwise (· ≥ ·) := hd.sublist (List.sublist_append_left ..)
  cases e : pick false l n with
  | none =>
    have h0 := pick_none_cap.mp e
    rw [pick_none_cap, capOf_app, capOf_cons, capOf_nil, if_neg (by omega), h0]; rfl
  | some d =>
    obtain ⟨d1, d2⟩ := pick_some e
    refine pick_last hd (by simp [d1]) d2 fun t ht hn => ?_
    rcases List.mem_append.mp ht with ht | ht
    · -- the last one of those that suit
      have e' : (suitOf l n).getLast? = some d := e
      have hm := suit_mem.mpr ⟨ht, hn⟩
      have hs := suit_desc hd' n
      obtain ⟨ys, hy⟩ := List.getLast?_eq_some_iff.mp e'
      rw [hy] at hm hs
      rcases List.mem_append.mp hm with h | h
      · have := (List.pairwise_append.mp hs).2.2 t h d (by simp); omega
      · rw [List.mem_singleton.mp h]; exact Int.le_refl _
    · have := List.mem_singleton.mp ht; omega
theorem serve_junk : ∀ (A l : List Int) (u : Int), (l ++ [u]).Pairwise (· ≥ ·) → (∀ n ∈ A, u < n) → (serveP false (l ++ [u]) A).1 = (serveP false l A).1
  | [], l, u, _, _ => rfl
  | n :: r, l, u, hd, hA => by
    have hn := hA n (List.mem_cons_self ..)
    have hd' : l.Pairwise (· ≥ ·) := hd.sublist (List.sublist_append_left ..)
    unfold serveP
    rw [pick_app hd hn]
    cases hp : pick false l n with
    | none =>
      simp only
      rw [serve_junk r l u hd fun m hm => hA m (List.mem_cons_of_mem _ hm)]
    | some p =>
      obtain ⟨p1, p2⟩ := pick_some hp
      simp only
      rw [worn_app hd p1 (by omega)]
      rw [serve_junk r (wornOf l p) u ?_ fun m hm => hA m (List.mem_cons_of_mem _ hm)]
      rw [← worn_app hd p1 (by omega)]
      exact worn_desc hd (by simp [p1])
theorem gA_zero (us A : List Int) (h : ∀ n ∈ A, 1 ≤ n) : gA (0 :: us) A = gA us A := by
  show gA us (A.drop (pfx 0 A)) = _
  cases A with
  | nil => rfl
  | cons n r =>
    have := h n (List.mem_cons_self ..)
    rw [pfx, if_neg (by omega)]; rfl
/-- serving in ascending order with the dullest tool: tool by tool -/
theorem serve_asc : ∀ (m : Nat) (l A : List Int), A.length + l.length ≤ m → l.Pairwise (· ≥ ·) → (∀ t ∈ l, 1 ≤ t) → A.Pairwise (· ≤ ·) → (∀ n ∈ A, 1 ≤ n) → (0 ∉ (serveP false l A).1 ↔ gA l.reverse A = true)
  | m, l, [], _, _, _, _, _ => by simp [serveP, gA_nil]
  | m, [], n :: r, _, _, _, _, _ => by
    have : pick false [] n = none := rfl
    simp [serveP, this, gA]
  | 0, x :: xs, n :: r, hm, _, _, _, _ => by simp at hm
  | m + 1, x :: xs, n :: r, hm, hd, ht, hA, h1 => by
    obtain ⟨ini, u, e⟩ : ∃ ini u, x :: xs = ini ++ [u] := ⟨(x :: xs).dropLast, (x :: xs).getLast (by simp), (List.dropLast_concat_getLast (by simp)).symm⟩
    have hl : ini.length + 1 = (x :: xs).length := by rw [e]; simp
    rw [e] at hd ht ⊢
    obtain ⟨d1, d2, d3⟩ := List.pairwise_append.mp hd
    obtain ⟨a1, a2⟩ := List.pairwise_cons.mp hA
    simp only [List.length_cons] at hm hl
    have hu := ht u (by simp)
    have hi1 : ∀ t ∈ ini, 1 ≤ t := fun t h => ht t (by simp [h])
    have hr1 : ∀ k ∈ r, 1 ≤ k := fun k hk => h1 k (List.mem_cons_of_mem _ hk)
    rw [List.reverse_append, List.reverse_singleton, List.singleton_append]
    by_cases c : n ≤ u
    · have hp : pick false (ini ++ [u]) n = some u := pick_last hd (by simp) c fun t h hn => by
        rcases List.mem_append.mp h with h | h
        · exact d3 t h u (by simp)
        · rw [List.mem_singleton.mp h]; exact Int.le_refl _
      have w : wornOf (ini ++ [u]) u = ini ++ lessT u := by
        have p := worn_perm hd (t := u) (by simp)
        refine desc_unique (p.trans ?_) (worn_desc hd (by simp)) ?_
        · have e1 : ((ini ++ [u]).erase u).Perm ini := by
            have q := (List.perm_cons_erase (a := u) (l := ini ++ [u]) (by simp))
            have q2 : (ini ++ [u]).Perm (u :: ini) := List.perm_append_comm
            exact (List.Perm.cons_inv (q.symm.trans q2))
          exact (e1.append_left _).trans List.perm_append_comm
        · refine List.pairwise_append.mpr ⟨d1, by unfold lessT; split <;> simp, fun y hy z hz => ?_⟩
          have := d3 y hy u (by simp)
          unfold lessT at hz
          split at hz
          · rw [List.mem_singleton.mp hz]; omega
          · cases hz
      have eg : gA (u :: ini.reverse) (n :: r) = gA ((u - 1) :: ini.reverse) r := by
        show gA ini.reverse ((n :: r).drop (pfx u (n :: r))) = gA ini.reverse (r.drop (pfx (u - 1) r))
        rw [pfx, if_pos c]; rfl
      unfold serveP
      rw [hp, eg]
      simp only [w, List.mem_cons, not_or]
      have hz : ¬ (0 : Int) = u := by omega
      by_cases c2 : 1 < u
      · have lt : lessT u = [u - 1] := if_pos c2
        have ih := serve_asc m (ini ++ [u - 1]) r (by simp; omega) (List.pairwise_append.mpr ⟨d1, by simp, fun y hy z hz => by rw [List.mem_singleton.mp hz]; have := d3 y hy u (by simp); omega⟩) (fun t h => by
          rcases List.mem_append.mp h with h | h
          · exact hi1 t h
          · rw [List.mem_singleton.mp h]; omega) a2 hr1
        rw [List.reverse_append, List.reverse_singleton, List.singleton_append] at ih
        rw [lt, ← ih]
        exact ⟨fun h => h.2, fun h => ⟨hz, h⟩⟩
      · have lt : lessT u = [] := if_neg c2
        have u1 : u - 1 = 0 := by omega
        have ih := serve_asc m ini r (by omega) d1 hi1 a2 hr1
        rw [lt, List.append_nil, u1, gA_zero _ _ hr1, ← ih]
        exact ⟨fun h => h.2, fun h => ⟨hz, h⟩⟩
    · have ih := serve_asc m ini (n :: r) (by simp; omega) d1 hi1 hA h1
      have eg : gA (u :: ini.reverse) (n :: r) = gA ini.reverse (n :: r) := by
        show gA ini.reverse ((n :: r).drop (pfx u (n :: r))) = _
        rw [pfx, if_neg c]; rfl
      rw [eg, ← ih, serve_junk (n :: r) ini u hd fun k hk => by
        rcases List.mem_cons.mp hk with rfl | hk
        · omega
        · have := a1 k hk; omega]
/-- filling blocks from above and tool by tool from below -/
theorem fill_step (u : Int) : ∀ (ts L : List Int) (s : Nat), (∀ t ∈ ts, u ≤ t) → L.Pairwise (· ≥ ·) → (∀ k, k < s → ∀ x, L.reverse[k]? = some x → x + (k : Int) ≤ u) → (s < L.length → ∃ x, L.reverse[s]? = some x ∧ u < x + (s : Int)) → (fillN (ts ++ [u]) L).isNone = (fillN ts (L.take (L.length - s))).isNone
  | [], [], s, _, _, _, _ => by simp [fillN]
  | [], x :: r, s, _, hd, h1, h2 => by
    have hlast : (x :: r).reverse[r.length]? = some x := by simp
    show (fillN [u] (x :: r)).isNone = ((x :: r).take ((x :: r).length - s)).head?.isNone
    unfold fillN
    simp only [List.length_cons] at h2 ⊢
    by_cases c : s < r.length + 1
    · obtain ⟨y, y1, y2⟩ := h2 c
      have e1 : ((x :: r).take (r.length + 1 - s)).head? = some x := by
        rw [show r.length + 1 - s = (r.length - s) + 1 by omega]; rfl
      rw [e1]
      -- y is below x
      have hy : y ≤ x := by
        have hm : y ∈ x :: r := List.mem_reverse.mp (List.mem_of_getElem? y1)
        rcases List.mem_cons.mp hm with rfl | hm
        · exact Int.le_refl _
        · exact (List.pairwise_cons.mp hd).1 y hm
      by_cases z : u < x
      · rw [if_pos z]
      · rw [if_neg z]
        show ((x :: r).drop (u - x + 1).toNat).head?.isNone = false
        have hl : (u - x + 1).toNat < (x :: r).length := by simp only [List.length_cons]; omega
        rw [List.head?_drop, List.getElem?_eq_getElem hl]; rfl
    · have e1 : (x :: r).take (r.length + 1 - s) = [] := by rw [show r.length + 1 - s = 0 by omega]; rfl
      rw [e1]
      have hx := h1 r.length (by omega) x hlast
      rw [if_neg (by omega)]
      show ((x :: r).drop (u - x + 1).toNat).head?.isNone = true
      rw [List.drop_of_length_le (by simp only [List.length_cons]; omega)]; rfl
  | t :: ts, [], s, ht, hd, h1, h2 => by
    rw [List.take_nil, fillN_nil, fillN_nil]
  | t :: ts, x :: r, s, ht, hd, h1, h2 => by
    have hu := ht t (List.mem_cons_self ..)
    have hlast : (x :: r).reverse[r.length]? = some x := by simp
    have rev : ∀ d, ((x :: r).drop d).reverse = (x :: r).reverse.take ((x :: r).length - d) := fun d => List.reverse_drop
    have ih := fun (d : Nat) => fill_step u ts ((x :: r).drop d) s (fun t h => ht t (List.mem_cons_of_mem _ h)) (hd.sublist (List.drop_sublist ..)) (fun k hk y hy => by
      rw [rev, List.getElem?_take] at hy
      split at hy
      · exact h1 k hk y hy
      · cases hy) (fun hs => by
      rw [List.length_drop] at hs
      obtain ⟨y, y1, y2⟩ := h2 (by omega)
      refine ⟨y, ?_, y2⟩
      rw [rev, List.getElem?_take, if_pos (by omega)]; exact y1)
    show (fillN (t :: (ts ++ [u])) (x :: r)).isNone = _
    by_cases c : s < (x :: r).length
    · obtain ⟨q, hq⟩ : ∃ q, (x :: r).length - s = q + 1 := ⟨(x :: r).length - s - 1, by omega⟩
      rw [hq, List.take_succ_cons]
      unfold fillN
      simp only
      by_cases z : t < x
      · rw [if_pos z, if_pos z]
      · rw [if_neg z, if_neg z, ih]
        congr 2
        rw [← List.take_succ_cons, ← hq, List.drop_take, List.length_drop]
        congr 1
        omega
    · rw [show (x :: r).length - s = 0 by omega, List.take_zero, fillN_nil]
      simp only [List.length_cons] at c
      have hx := h1 r.length (by omega) x hlast
      unfold fillN
      simp only
      rw [if_neg (by omega), ih, List.length_drop, show (x :: r).length - (t - x + 1).toNat - s = 0 by simp only [List.length_cons]; omega, List.take_zero, fillN_nil]
theorem fill_gA : ∀ (m : Nat) (a L : List Int), a.length ≤ m → a.Pairwise (· ≥ ·) → L.Pairwise (· ≥ ·) → (fillN a L).isNone = gA a.reverse L.reverse
  | _, [], L, _, _, _ => by
    show L.head?.isNone = L.reverse.isEmpty
    cases L with
    | nil => rfl
    | cons x r =>
      show false = (x :: r).reverse.isEmpty
      cases h : (x :: r).reverse with
      | nil => have := congrArg List.length h; simp at this
      | cons _ _ => rfl
  | 0, x :: xs, L, hm, _, _ => by simp at hm
  | m + 1, x :: xs, L, hm, hd, hL => by
    obtain ⟨ini, u, e⟩ : ∃ ini u, x :: xs = ini ++ [u] := ⟨(x :: xs).dropLast, (x :: xs).getLast (by simp), (List.dropLast_concat_getLast (by simp)).symm⟩
    have hl : ini.length + 1 = (x :: xs).length := by rw [e]; simp
    rw [e] at hd ⊢
    obtain ⟨d1, d2, d3⟩ := List.pairwise_append.mp hd
    rw [List.reverse_append, List.reverse_singleton, List.singleton_append]
    have hp := pfx_le u L.reverse
    rw [List.length_reverse] at hp
    rw [fill_step u ini L (pfx u L.reverse) (fun t h => d3 t h u (by simp)) hL (fun k hk x hx => by
      obtain ⟨y, y1, y2⟩ := pfx_lo u L.reverse k hk
      rw [y1] at hx
      cases hx
      exact y2) (fun hs => pfx_hi u L.reverse (by rw [List.length_reverse]; exact hs))]
    rw [fill_gA m ini _ (by omega) d1 (hL.sublist (List.take_sublist ..)), List.reverse_take]
    show _ = gA ini.reverse (L.reverse.drop (pfx u L.reverse))
    congr 2
    omega
theorem every_iff {a ns : List Int} (g : Good a) (h1 : ∀ n ∈ ns, 1 ≤ n) : (fillN a (dsort ns)).isNone = true ↔ 0 ∉ (serveP false a (dsort ns).reverse).1 := by
  rw [fill_gA a.length a (dsort ns) (Nat.le_refl _) g.desc (dsort_desc ns)]
  exact (serve_asc _ a (dsort ns).reverse (Nat.le_refl _) g.desc (fun t ht => (g.rng t ht).1) (List.pairwise_reverse.mpr (dsort_desc ns)) fun n hn => h1 n ((dsort_perm ns).mem_iff.mp (List.mem_reverse.mp hn))).symm
end S
end

section
set_option Elab.async false
set_option linter.all false
set_option maxRecDepth 100000
namespace S
open PySem L2 KL
/-! ### the laws' own serving, and heaps drawn -/
theorem max_of' {l : List Int} (h : l ≠ []) : ∃ m ∈ l, (∀ t ∈ l, t ≤ m) ∧ maxA [.lst (iL l)] = some (.fz (.int m)) ∧ maxA [.tup (iL l)] = some (.fz (.int m)) := by
  cases l with
  | nil => exact absurd rfl h
  | cons a r => exact ⟨maxI a r, (maxI_sp a r).1, (maxI_sp a r).2, maxA_l a r, maxA_t a r⟩
theorem min_of' {l : List Int} (h : l ≠ []) : ∃ m ∈ l, (∀ t ∈ l, m ≤ t) ∧ minA [.lst (iL l)] = some (.fz (.int m)) := by
  cases l with
  | nil => exact absurd rfl h
  | cons a r => exact ⟨minI a r, (minI_sp a r).1, (minI_sp a r).2, minA_l a r⟩
theorem pick_first {l : List Int} (hd : l.Pairwise (· ≥ ·)) {n d : Int} (h1 : d ∈ l) (h2 : n ≤ d) (h3 : ∀ t ∈ l, n ≤ t → t ≤ d) : pick true l n = some d := by
  cases e : pick true l n with
  | none =>
    have := pick_none.mp e
    have hm := suit_mem.mpr ⟨h1, h2⟩
    rw [this] at hm; cases hm
  | some p =>
    obtain ⟨p1, p2⟩ := pick_some e
    have e' : (suitOf l n).head? = some p := e
    have hp := h3 p p1 p2
    have hd' := suit_desc hd n
    have hm := suit_mem.mpr ⟨h1, h2⟩
    have : d ≤ p := by
      cases hU : suitOf l n with
      | nil => rw [hU] at hm; cases hm
      | cons a r =>
        rw [hU] at e' hm hd'
        cases e'
        rcases List.mem_cons.mp hm with h | h
        · omega
        · have := (List.pairwise_cons.mp hd').1 d h; omega
    rw [show p = d by omega]
theorem lserve_step (B : Sl) (sh : Bool) {l : List Int} (g : Good l) (n : Int) (ms : List Int) (hl : ms.length < 1000) (q5 q6 : Sl) (h5 : Wr q5) (h6 : Fre q6) : ∃ t5 t6, Wr t5 ∧ Fre t6 ∧ seqS bx_u_law_serve_2 (seqS bx_u_law_serve_3 (seqS bx_u_law_serve_4 bx_u_law_serve_5)) [.va (tp l), B, .va (.bl sh), .ow (iL ms), .va (.int n), q5, q6, .un] = .nx (match pick sh l n with
    | some p => [.va (tp (wornOf l p)), B, .va (.bl sh), .ow (iL (ms ++ [p])), .va (.int n), t5, t6, .un]
    | none => [.va (tp l), B, .va (.bl sh), .ow (iL (ms ++ [0])), .va (.int n), t5, t6, .un]) := by
  have gl := g.len
  have e := lcE_filter (v := 7) (it := itE (nmE 0)) (c := tst (KL.bin geP (nmO 7) (nmO 4))) (ρ := [.va (tp l), B, .va (.bl sh), .ow (iL ms), .va (.int n), q5, q6, .un]) (ρ1 := [.va (tp l), B, .va (.bl sh), .ow (iL ms), .va (.int n), q5, q6, .un]) (fun t => decide (n ≤ t)) l (by simp) rfl (by omega) (by simp)
  have hF : ∀ t, t ∈ (l.filter fun t => decide (n ≤ t)) ↔ t ∈ l ∧ n ≤ t := fun t => by rw [List.mem_filter, decide_eq_true_eq]
  generalize l.filter (fun t => decide (n ≤ t)) = F at *
  have z2 : bx_u_law_serve_2 [.va (tp l), B, .va (.bl sh), .ow (iL ms), .va (.int n), q5, q6, .un] = .nx [.va (tp l), B, .va (.bl sh), .ow (iL ms), .va (.int n), .ow (iL F), q6, .un] := by
    simp [x_u_law_serve_2, e, h5.io]
  have l1 : ms.length < 1000000 := by omega
  by_cases he : F = []
  · have hp : pick sh l n = none := by
      rw [pick_none, List.eq_nil_iff_forall_not_mem]
      intro t ht
      have := (hF t).mpr (suit_mem.mp ht)
      rw [he] at this; cases this
    refine ⟨.ow (iL F), .va (.int 0), wr_ow _, fre_va _, ?_⟩
    rw [seq_nx z2, hp]
    subst he
    simp [x_u_law_serve_3, h6.io, x_u_law_serve_4, l1, x_u_law_serve_5]
  · obtain ⟨p, hp, p1, hq⟩ : ∃ p, pick sh l n = some p ∧ p ∈ l ∧ (if sh = true then maxA [.lst (iL F)] else minA [.lst (iL F)]) = some (.fz (.int p)) := by
      cases sh
      · obtain ⟨m, m1, m2, m3⟩ := min_of' he
        obtain ⟨k1, k2⟩ := (hF m).mp m1
        exact ⟨m, pick_last g.desc k1 k2 fun t ht hn => m2 t ((hF t).mpr ⟨ht, hn⟩), k1, m3⟩
      · obtain ⟨m, m1, m2, m3, _⟩ := max_of' he
        obtain ⟨k1, k2⟩ := (hF m).mp m1
        exact ⟨m, pick_first g.desc k1 k2 fun t ht hn => m2 t ((hF t).mpr ⟨ht, hn⟩), k1, m3⟩
    have a := after_good g p1
    have pp := (g.rng p p1).1
    have p0 : 0 < p := by omega
    refine ⟨.ow (iL F), .va (.int p), wr_ow _, fre_va _, ?_⟩
    rw [seq_nx z2, hp]
    have nn : eqP (.lst (iL F)) (.lst []) = some (.fz (.bl false)) := by simp [he]
    generalize iL F = E at *
    cases sh
    · simp only [Bool.false_eq_true, if_false] at hq
      simp [x_u_law_serve_3, nn, hq, h6.io, x_u_law_serve_4, l1, x_u_law_serve_5, p0, a]
    · simp only [if_true] at hq
      simp [x_u_law_serve_3, nn, hq, h6.io, x_u_law_serve_4, l1, x_u_law_serve_5, p0, a]
theorem lserve_loop (B : Sl) (sh : Bool) : ∀ (row l ms : List Int) (q4 q5 q6 : Sl), Good l → Fre q4 → Wr q5 → Fre q6 → ms.length + row.length ≤ 1000 → ∃ t4 t5 t6, forL (tgN 4) (seqS bx_u_law_serve_2 (seqS bx_u_law_serve_3 (seqS bx_u_law_serve_4 bx_u_law_serve_5))) (iL row) [.va (tp l), B, .va (.bl sh), .ow (iL ms), q4, q5, q6, .un] = .nx [.va (tp (serveP sh l row).2), B, .va (.bl sh), .ow (iL (ms ++ (serveP sh l row).1)), t4, t5, t6, .un]
  | [], l, ms, q4, q5, q6, _, _, _, _, _ => ⟨q4, q5, q6, by simp [serveP, forL]⟩
  | n :: r, l, ms, q4, q5, q6, g, h4, h5, h6, hl => by
    simp only [List.length_cons] at hl
    obtain ⟨t5, t6, f5, f6, e⟩ := lserve_step B sh g n ms (by omega) q5 q6 h5 h6
    have tg : tgN 4 (.int n) [.va (tp l), B, .va (.bl sh), .ow (iL ms), q4, q5, q6, .un] = .nx [.va (tp l), B, .va (.bl sh), .ow (iL ms), .va (.int n), q5, q6, .un] := by simp [h4.io]
    rw [iL_cons]
    unfold serveP
    cases hp : pick sh l n with
    | some p =>
      rw [hp] at e
      obtain ⟨u4, u5, u6, ih⟩ := lserve_loop B sh r (wornOf l p) (ms ++ [p]) (.va (.int n)) t5 t6 (worn_good g (pick_some hp).1) (fre_va _) f5 f6 (by simp; omega)
      refine ⟨u4, u5, u6, ?_⟩
      simp only [forL, tg, e]
      rw [ih, List.append_assoc, List.singleton_append]
    | none =>
      rw [hp] at e
      obtain ⟨u4, u5, u6, ih⟩ := lserve_loop B sh r l (ms ++ [0]) (.va (.int n)) t5 t6 g (fre_va _) f5 f6 (by simp; omega)
      refine ⟨u4, u5, u6, ?_⟩
      simp only [forL, tg, e]
      rw [ih, List.append_assoc, List.singleton_append]
theorem lserve_ok {l row : List Int} (g : Good l) (hl : row.length ≤ 1000) (sh : Bool) : f_u_law_serve [.va (tp l), .va (li row), .va (.bl sh)] = .ok (.fz (.tup [li (serveP sh l row).1, tp (serveP sh l row).2])) [.un, .un, .un] := by
  obtain ⟨t4, t5, t6, e⟩ := lserve_loop (.va (li row)) sh row l [] .un .un .un g fre_un wr_un fre_un (by simpa using hl)
  rw [iL_nil, List.nil_append] at e
  have z1 : bx_u_law_serve_1 [.va (tp l), .va (li row), .va (.bl sh), .ow [], .un, .un, .un, .un] = .nx [.va (tp (serveP sh l row).2), .va (li row), .va (.bl sh), .ow (iL (serveP sh l row).1), t4, t5, t6, .un] := by
    rw [← e]; simp [x_u_law_serve_1]
  have z0 : bx_u_law_serve_0 [.va (tp l), .va (li row), .va (.bl sh), .un, .un, .un, .un, .un] = .nx [.va (tp l), .va (li row), .va (.bl sh), .ow [], .un, .un, .un, .un] := by simp [x_u_law_serve_0]
  rw [e_u_law_serve, d_u_law_serve, seq_nx z0, seq_nx z1]
  simp [x_u_law_serve_6]
/-! drawn -/
structure Nds (ns : List Int) : Prop where
  rng : ∀ n ∈ ns, 1 ≤ n ∧ n ≤ 200
theorem fit_inner (B q3 : Sl) {t : Int} (t1 : 1 ≤ t) (t2 : t ≤ 200) : ∀ (xs : List Int) {c : Int} (ns : List Int) (q5 : Sl), 0 ≤ c → Nds ns → Fre q5 → ns.length + xs.length ≤ 100000 → ∃ c' ns' t5, 0 ≤ c' ∧ Nds ns' ∧ Fre t5 ∧ ns'.length = ns.length + xs.length ∧ forL (tgN 5) bx_u_law_fitting_6 (iL xs) [.io [.int c], B, .ow (iL ns), q3, .va (.int t), q5] = .nx [.io [.int c'], B, .ow (iL ns'), q3, .va (.int t), t5]
  | [], c, ns, q5, hc, hn, h5, _ => ⟨c, ns, q5, hc, hn, h5, rfl, rfl⟩
  | x :: r, c, ns, q5, hc, hn, h5, hl => by
    simp only [List.length_cons] at hl
    obtain ⟨b0, b1, b2⟩ := take1 (m := t) hc (by omega)
    have tk := @take_ok c t (by omega) (by omega)
    generalize c / t = c1 at b0 tk
    generalize c % t = k at b1 b2 tk
    obtain ⟨c', ns', t5, a1, a2, a3, a4, a5⟩ := fit_inner B q3 t1 t2 r (ns ++ [1 + k]) (.va (.int x)) b0 ⟨fun n h => by
      rcases List.mem_append.mp h with h | h
      · exact hn.rng n h
      · rw [List.mem_singleton.mp h]; omega⟩ (fre_va _) (by simp; omega)
    refine ⟨c', ns', t5, a1, a2, a3, by simp at a4 ⊢; omega, ?_⟩
    have l1 : ns.length < 1000000 := by omega
    rw [← a5, iL_cons]
    simp [forL, h5.io, x_u_law_fitting_6, tk, l1]
theorem fit_loop (B : Sl) : ∀ (xs : List Int) {c : Int} (ns : List Int) (q3 q4 q5 : Sl), 0 ≤ c → Nds ns → Fre q3 → Fre q4 → Fre q5 → (∀ x ∈ xs, 1 ≤ x ∧ x ≤ 200) → ns.length + 300 * xs.length ≤ 100000 → ∃ c' ns' t3 t4 t5, 0 ≤ c' ∧ Nds ns' ∧ ns'.length ≤ ns.length + 300 * xs.length ∧ forL (tgN 3) bx_u_law_fitting_2 (iL xs) [.io [.int c], B, .ow (iL ns), q3, q4, q5] = .nx [.io [.int c'], B, .ow (iL ns'), t3, t4, t5]
  | [], c, ns, q3, q4, q5, hc, hn, h3, h4, h5, _, _ => ⟨c, ns, q3, q4, q5, hc, hn, by simp, rfl⟩
  | x :: r, c, ns, q3, q4, q5, hc, hn, h3, h4, h5, hx, hl => by
    simp only [List.length_cons] at hl
    have x1 := hx x (List.mem_cons_self ..)
    have hr : ∀ y ∈ r, 1 ≤ y ∧ y ≤ 200 := fun y hy => hx y (List.mem_cons_of_mem _ hy)
    obtain ⟨b0, b1, b2⟩ := take1 (m := 5) hc (by decide)
    have tk := @take_ok c 5 (by decide) (by decide)
    by_cases z : 0 < c % 5
    · obtain ⟨d0, d1, d2⟩ := take1 (m := x) b0 (by omega)
      have tk2 := @take_ok (c / 5) x (by omega) (by omega)
      generalize c / 5 / x = c2 at d0 tk2
      generalize c / 5 % x = k at d1 d2 tk2
      obtain ⟨f0, f1, f2⟩ := take1 (m := x - (1 + k) + 1) d0 (by omega)
      have tk3 := @take_ok c2 (x - (1 + k) + 1) (by omega) (by omega)
      generalize c2 / (x - (1 + k) + 1) = c3 at f0 tk3
      generalize c2 % (x - (1 + k) + 1) = j at f1 f2 tk3
      have hn2 : Nds (ns ++ [1 + k]) := ⟨fun n h => by
        rcases List.mem_append.mp h with h | h
        · exact hn.rng n h
        · rw [List.mem_singleton.mp h]; omega⟩
      obtain ⟨c4, ns4, t5, n4, hn4, f5, l4, e4⟩ := fit_inner B (.va (.int x)) (t := 1 + k) (by omega) (by omega) (rg 0 j.toNat) (ns ++ [1 + k]) q5 f0 hn2 h5 (by simp; omega)
      have l4' : ns4.length ≤ ns.length + 250 := by simp at l4; omega
      obtain ⟨c', ns', t3, t4, t5', a1, a2, a3, a4⟩ := fit_loop B r ns4 (.va (.int x)) (.va (.int (1 + k))) t5 n4 hn4 (fre_va _) (fre_va _) f5 hr (by omega)
      refine ⟨c', ns', t3, t4, t5', a1, a2, by simp only [List.length_cons]; omega, ?_⟩
      have l1 : ns.length < 1000000 := by omega
      have o1 : j < 1000000000 := by omega
      have o2 : -1000000000 < j := by omega
      have z5 : bx_u_law_fitting_5 [.io [.int c2], B, .ow (iL (ns ++ [1 + k])), .va (.int x), .va (.int (1 + k)), q5] = .nx [.io [.int c4], B, .ow (iL ns4), .va (.int x), .va (.int (1 + k)), t5] := by
        rw [← e4]; simp [x_u_law_fitting_5, tk3, o1, o2]
      rw [← a4, iL_cons]
      simp [forL, h3.io, x_u_law_fitting_2, tk, z, x_u_law_fitting_3, tk2, h4.io, x_u_law_fitting_4, l1, z5]
    · obtain ⟨c', ns', t3, t4, t5', a1, a2, a3, a4⟩ := fit_loop B r ns (.va (.int x)) q4 q5 b0 hn (fre_va _) h4 h5 hr (by omega)
      refine ⟨c', ns', t3, t4, t5', a1, a2, by simp only [List.length_cons]; omega, ?_⟩
      rw [← a4, iL_cons]
      simp [forL, h3.io, x_u_law_fitting_2, tk, z]
theorem fitting_ok {c : Int} (hc : 0 ≤ c) {l : List Int} (g : Good l) : ∃ c' ns, 0 ≤ c' ∧ Nds ns ∧ ns.length ≤ 20000 ∧ f_u_law_fitting [.io [.int c], .va (tp l)] = .ok (.fr (iL ns)) [.io [.int c'], .un] := by
  have gl := g.len
  obtain ⟨c', ns, t3, t4, t5, a1, a2, a3, a4⟩ := fit_loop (.va (tp l)) l [] .un .un .un hc ⟨by simp⟩ fre_un fre_un fre_un g.rng (by simp; omega)
  rw [iL_nil] at a4
  refine ⟨c', ns, a1, a2, by simp at a3; omega, ?_⟩
  have z0 : bx_u_law_fitting_0 [.io [.int c], .va (tp l), .un, .un, .un, .un] = .nx [.io [.int c], .va (tp l), .ow [], .un, .un, .un] := by simp [x_u_law_fitting_0]
  have z1 : bx_u_law_fitting_1 [.io [.int c], .va (tp l), .ow [], .un, .un, .un] = .nx [.io [.int c'], .va (tp l), .ow (iL ns), t3, t4, t5] := by
    rw [← a4]; simp [x_u_law_fitting_1]
  rw [e_u_law_fitting, d_u_law_fitting, seq_nx z0, seq_nx z1]
  simp [x_u_law_fitting_7]
theorem max_one13 (ts : List Int) : ∃ m, maxA [.tup (iL (ts ++ [1]))] = some (.fz (.int m)) ∧ 1 ≤ m ∧ ∀ p, 1 ≤ p → (∀ t ∈ ts, t ≤ p) → m ≤ p := by
  obtain ⟨m, m1, m2, _, m4⟩ := max_of' (l := ts ++ [1]) (by simp)
  refine ⟨m, m4, m2 1 (by simp), fun p hp h => ?_⟩
  rcases List.mem_append.mp m1 with h1 | h1
  · exact h _ h1
  · rw [List.mem_singleton.mp h1]; exact hp
theorem heap_ok {c : Int} (hc : 0 ≤ c) {l : List Int} (g : Good l) : ∃ c' ns, 0 ≤ c' ∧ Nds ns ∧ ns.length ≤ 1000 ∧ f_u_law_heap [.io [.int c], .va (tp l)] = .ok (.fr (iL ns)) [.io [.int c'], .un] := by
  have gl := g.len
  have gs := g.sum
  have s0 : 0 ≤ l.sum := by
    have : ∀ (ts : List Int), (∀ t ∈ ts, 1 ≤ t ∧ t ≤ 200) → 0 ≤ ts.sum := fun ts => by
      induction ts with
      | nil => simp
      | cons t r ih =>
        intro h
        have h1 := h t (List.mem_cons_self ..)
        have h2 := ih fun u hu => h u (List.mem_cons_of_mem _ hu)
        rw [List.sum_cons]; omega
    exact this l g.rng
  obtain ⟨b0, b1, b2⟩ := take1 (m := 2) hc (by decide)
  have tk := @take_ok c 2 (by decide) (by decide)
  generalize c / 2 = c1 at b0 tk
  generalize c % 2 = k at b1 b2 tk
  obtain ⟨m, hm, m1, m2⟩ := max_one13 l
  have m3 : m ≤ 200 := m2 200 (by decide) fun t ht => (g.rng t ht).2
  have l1 : l.length + 1 ≤ 1000000 := by omega
  obtain ⟨h, hh⟩ : ∃ h, h = if m + k < 200 then m + k else 200 := ⟨_, rfl⟩
  have h1 : 1 ≤ h := by rw [hh]; split <;> omega
  have h2 : h ≤ 200 := by rw [hh]; split <;> omega
  have z0 : bx_u_law_heap_0 [.io [.int c], .va (tp l), .un, .un, .un] = .nx [.io [.int c1], .va (tp l), .va (.int h), .un, .un] := by
    rw [hh]; simp [x_u_law_heap_0, l1, hm, tk]
  obtain ⟨d0, d1, d2⟩ := take1 (m := 3) b0 (by decide)
  have tk2 := @take_ok c1 3 (by decide) (by decide)
  generalize c1 / 3 = c2 at d0 tk2
  generalize c1 % 3 = i at d1 d2 tk2
  have dv := @divP_i l.sum 2 (by decide) (by decide)
  have q0 : 0 ≤ l.sum / 2 := Int.ediv_nonneg s0 (by decide)
  have q1 : l.sum / 2 ≤ l.sum := Int.ediv_le_self _ s0
  obtain ⟨sz, hsz, hx⟩ := ix3' (l.sum / 2 + 2) (l.sum + 1) 7 d1 d2
  have hx' : (ixA _ i).map Vl.fz = _ := hx
  obtain ⟨f0, f1, f2⟩ := take1 (m := sz) d0 (by omega)
  have tk3 := @take_ok c2 sz (by omega) (by omega)
  generalize c2 / sz = c3 at f0 tk3
  generalize c2 % sz = n at f1 f2 tk3
  have z1 : bx_u_law_heap_1 [.io [.int c1], .va (tp l), .va (.int h), .un, .un] = .nx [.io [.int c3], .va (tp l), .va (.int h), .va (.int n), .un] := by
    simp [x_u_law_heap_1, dv, tk2, -ixA_ap, hx', tk3]
  have o1 : n < 1000000000 := by omega
  have o2 : -1000000000 < n := by omega
  have dv2 := @divP_i h 2 (by decide) (by decide)
  have r0 : 0 ≤ h / 2 := Int.ediv_nonneg (by omega) (by decide)
  have r1 : h / 2 ≤ h := Int.ediv_le_self _ (by omega)
  have r2 : 2 * (h / 2) ≤ h := by have := Int.mul_ediv_add_emod h 2; have := Int.emod_nonneg h (show (2 : Int) ≠ 0 by decide); omega
  obtain ⟨xs, c', a1, a2, a3, a4⟩ := lcE_draw (vs := [4]) (it := itR1 (aCons (nmO 3) (aNil))) (tg := tgN 4) (e := KL.bin addP (frz (cE (.int 1))) (frz (callI 2 f_u_law_take [] (aCons (nmO 0) (aCons (frz (KL.bin ixP (frz (mkL (aCons (frz (nmE 2)) (aCons (frz (KL.bin addP (frz (cE (.int 1))) (frz (KL.bin divP (nmO 2) (frz (cE (.int 2))))))) (aCons (frz (cE (.int 2))) (aNil)))))) (frz (callI 2 f_u_law_take [] (aCons (nmO 0) (aCons (frz (cE (.int 3))) (aNil))))))) (aNil)))))) (ρ := [.io [.int c3], .va (tp l), .va (.int h), .va (.int n), .un]) (ρ1 := [.io [.int c3], .va (tp l), .va (.int h), .va (.int n), .un])
    (fun c => [.io [.int c], .va (tp l), .va (.int h), .va (.int n), .un]) (fun c => [.io [.int c], .va (tp l), .va (.int h), .va (.int n), .un]) (fun c => 0 ≤ c) (fun d => ∃ i, d = .int i ∧ (1 ≤ i ∧ i ≤ 200)) (rangeL 0 n.toNat) c3
    (by simp [o1, o2]) (by simp [okW]) rfl f0 (fun s => rfl) (fun s _ => by simp [okW]) (by simp; omega) fun d hd s hs => by
      obtain ⟨e0, e1, e2⟩ := take1 (m := 3) hs (by decide)
      have tk4 := @take_ok s 3 (by decide) (by decide)
      obtain ⟨w, hw, hy⟩ := ix3' h (1 + h / 2) 2 e1 e2
      have hy' : (ixA _ (s % 3)).map Vl.fz = _ := hy
      obtain ⟨g0, g1, g2⟩ := take1 (m := w) e0 (by omega)
      have tk5 := @take_ok (s / 3) w (by omega) (by omega)
      exact ⟨[.io [.int s], .va (tp l), .va (.int h), .va (.int n), .va d], s / 3 / w, [.io [.int (s / 3 / w)], .va (tp l), .va (.int h), .va (.int n), .va d], .fz (.int (1 + s / 3 % w)), by simp, by simp [dv2, tk4, -ixA_ap, hy', tk5], ⟨_, rfl, by omega, by omega⟩, g0, by simp [okW], by simp [wipeE]⟩
  obtain ⟨vs, rfl, hv⟩ := ints_of_P a2
  have lv : vs.length = n.toNat := by simpa using a1
  refine ⟨c', vs, a3, ⟨hv⟩, by omega, ?_⟩
  rw [e_u_law_heap, d_u_law_heap, seq_nx z0, seq_nx z1]
  simp [x_u_law_heap_2, a4]
end S
end

section
set_option Elab.async false
set_option linter.all false
set_option maxRecDepth 100000
namespace S
open PySem L2 KL
/-! ### how many tasks are performed -/
theorem pick_min {l : List Int} (hd : l.Pairwise (· ≥ ·)) {n p : Int} (h : pick false l n = some p) : ∀ t ∈ l, n ≤ t → p ≤ t := fun t h1 h2 => by
  have e' : (suitOf l n).getLast? = some p := h
  have hd' := suit_desc hd n
  have hm := suit_mem.mpr ⟨h1, h2⟩
  obtain ⟨ys, hy⟩ := List.getLast?_eq_some_iff.mp e'
  rw [hy] at hm hd'
  rcases List.mem_append.mp hm with h | h
  · have := (List.pairwise_append.mp hd').2.2 t h p (by simp); omega
  · rw [List.mem_singleton.mp h]; exact Int.le_refl _
theorem cap_mem : ∀ {a : List Int} {t n : Int}, t ∈ a → n ≤ t → t - n + 1 ≤ capOf a n
  | u :: r, t, n, h, hn => by
    rw [capOf_cons]
    have h0 := capOf_nn r n
    rcases List.mem_cons.mp h with e | h
    · subst e; rw [if_pos hn]; omega
    · have := cap_mem h hn
      split <;> omega
theorem worn_in {l : List Int} (hd : l.Pairwise (· ≥ ·)) {p u : Int} (h : p ∈ l) (hu : u ∈ l) (ne : u ≠ p) : u ∈ wornOf l p :=
  (worn_perm hd h).mem_iff.mpr (List.mem_append.mpr (.inr ((List.mem_erase_of_ne ne).mpr hu)))
theorem worn_low {l : List Int} (hd : l.Pairwise (· ≥ ·)) {p : Int} (h : p ∈ l) (hp : 1 < p) : p - 1 ∈ wornOf l p :=
  (worn_perm hd h).mem_iff.mpr (List.mem_append.mpr (.inl (by unfold lessT; rw [if_pos hp]; simp)))
def doneOf (a o : List Int) : Nat := ((serveP false a o).1.filter fun m => decide (0 < m)).length
theorem done_nil (a : List Int) : doneOf a [] = 0 := rfl
theorem done_some {a : List Int} {n p : Int} (r : List Int) (h : pick false a n = some p) (hp : 0 < p) : doneOf a (n :: r) = doneOf (wornOf a p) r + 1 := by
  unfold doneOf
  rw [serveP, h]
  simp only
  rw [List.filter_cons_of_pos (by simpa using hp)]
  rfl
theorem done_none {a : List Int} {n : Int} (r : List Int) (h : pick false a n = none) : doneOf a (n :: r) = doneOf a r := by
  unfold doneOf
  rw [serveP, h]
  rfl
theorem done_le_len : ∀ (o a : List Int), doneOf a o ≤ o.length := fun o a => by
  have h : ∀ (o a : List Int), (serveP false a o).1.length = o.length := fun o => by
    induction o with
    | nil => intro a; rfl
    | cons n r ih =>
      intro a
      unfold serveP
      cases pick false a n with
      | some p => simp [ih]
      | none => simp [ih]
  unfold doneOf
  rw [← h o a]
  exact List.length_filter_le ..
def CovD (a b : List Int) (D : Int) : Prop := ∀ n, 1 ≤ n → capOf b n ≤ capOf a n + D
theorem covD_step {a b : List Int} {D : Int} (ga : Good a) (gb : Good b) (h : CovD a b D) {n d v : Int} (hn : 1 ≤ n) (hd : d ∈ a) (nd : n ≤ d) (hmin : ∀ t ∈ a, n ≤ t → d ≤ t) (hv : v ∈ b) (nv : n ≤ v) : CovD (wornOf a d) (wornOf b v) D := fun m hm => by
  rw [capOf_worn ga.desc hd (ga.rng d hd).1 hm, capOf_worn gb.desc hv (gb.rng v hv).1 hm]
  have hc := h m hm
  by_cases c1 : m ≤ d
  · by_cases c2 : m ≤ v
    · rw [if_pos c1, if_pos c2]; omega
    · rw [if_pos c1, if_neg c2]
      by_cases e : capOf b m = capOf a m + D
      · exfalso
        have f1 := cap_eq_lo a n m (by omega) fun t ht h => by have := hmin t ht h; omega
        have f2 := cap_eq_hi a m (d + 1) (by omega) fun t ht h => by have := hmin t ht (by omega); omega
        have g1 := cap_lo1 b n m v hv nv (by omega)
        have g2 := cap_hi2 b m (d + 1) (by omega)
        have k1 := h n hn
        have k2 := h (d + 1) (by omega)
        by_cases j : cntF a m ≤ cntF b m
        · have := Int.mul_le_mul_of_nonneg_right j (show 0 ≤ m - n by omega)
          omega
        · have := Int.mul_le_mul_of_nonneg_right (show cntF b m + 1 ≤ cntF a m by omega) (show 0 ≤ d + 1 - m by omega)
          rw [Int.add_mul, Int.one_mul] at this
          omega
      · omega
  · by_cases c2 : m ≤ v
    · rw [if_neg c1, if_pos c2]; omega
    · rw [if_neg c1, if_neg c2]; omega
theorem covD_done : ∀ (o a b : List Int) (D : Int), Good a → Good b → (∀ n ∈ o, 1 ≤ n) → CovD a b D → (doneOf b o : Int) ≤ doneOf a o + D
  | [], a, b, D, ga, gb, _, h => by
    have := h 201 (by decide)
    rw [cap_hi fun t ht => by have := (gb.rng t ht).2; omega, cap_hi fun t ht => by have := (ga.rng t ht).2; omega] at this
    rw [done_nil, done_nil]; omega
  | n :: r, a, b, D, ga, gb, ho, h => by
    have hn := ho n (List.mem_cons_self ..)
    have hr : ∀ m ∈ r, 1 ≤ m := fun m hm => ho m (List.mem_cons_of_mem _ hm)
    cases ea : pick false a n with
    | some p =>
      obtain ⟨p1, p2⟩ := pick_some ea
      rw [done_some r ea (by omega)]
      cases eb : pick false b n with
      | some q =>
        obtain ⟨q1, q2⟩ := pick_some eb
        rw [done_some r eb (by omega)]
        have := covD_done r _ _ D (worn_good ga p1) (worn_good gb q1) hr (covD_step ga gb h hn p1 p2 (pick_min ga.desc ea) q1 q2)
        omega
      | none =>
        rw [done_none r eb]
        have := covD_done r (wornOf a p) b (D + 1) (worn_good ga p1) gb hr fun m hm => by
          have := h m hm
          rw [capOf_worn ga.desc p1 (ga.rng p p1).1 hm]
          split <;> omega
        omega
    | none =>
      rw [done_none r ea]
      cases eb : pick false b n with
      | some q =>
        obtain ⟨q1, q2⟩ := pick_some eb
        rw [done_some r eb (by omega)]
        have := covD_done r a (wornOf b q) (D - 1) ga (worn_good gb q1) hr fun m hm => by
          have h1 := h m hm
          have h2 := h n hn
          rw [pick_none_cap.mp ea] at h2
          have h3 := capOf_nn a m
          rw [capOf_worn gb.desc q1 (gb.rng q q1).1 hm]
          by_cases c : m ≤ q
          · rw [if_pos c]; omega
          · rw [if_neg c]
            have := cap_lo1 b n m q q1 q2 (by omega)
            have := Int.mul_nonneg (show 0 ≤ cntF b m from by
              have : ∀ (ts : List Int), 0 ≤ cntF ts m := fun ts => by
                induction ts with
                | nil => exact Int.le_refl _
                | cons t r ih => unfold cntF; split <;> omega
              exact this b) (show 0 ≤ m - n by omega)
            omega
        omega
      | none =>
        rw [done_none r eb]
        exact covD_done r a b D ga gb hr h
/-- a greater need first does not lower the number -/
theorem done_swap {a : List Int} (g : Good a) {x y : Int} (hx : 1 ≤ x) (hxy : x < y) (r : List Int) (hr : ∀ n ∈ r, 1 ≤ n) : doneOf a (x :: y :: r) ≤ doneOf a (y :: x :: r) := by
  cases ey : pick false a y with
  | none =>
    have cy := pick_none_cap.mp ey
    rw [done_none (x :: r) ey]
    cases ex : pick false a x with
    | none => rw [done_none (y :: r) ex, done_none r ey, done_none r ex]; exact Nat.le_refl _
    | some p =>
      obtain ⟨p1, p2⟩ := pick_some ex
      have : pick false (wornOf a p) y = none := pick_none_cap.mpr (by
        have h0 := capOf_nn (wornOf a p) y
        rw [capOf_worn g.desc p1 (g.rng p p1).1 (by omega)] at h0 ⊢
        split at h0 <;> omega)
      rw [done_some (y :: r) ex (by omega), done_some r ex (by omega), done_none r this]; exact Nat.le_refl _
  | some q =>
    obtain ⟨q1, q2⟩ := pick_some ey
    have mq := pick_min g.desc ey
    have rq := g.rng q q1
    have gq := worn_good g q1
    have lq := worn_low g.desc q1 (by omega)
    have cx := cap_mem q1 (show x ≤ q by omega)
    cases ex : pick false a x with
    | none => have := pick_none_cap.mp ex; omega
    | some p =>
      obtain ⟨p1, p2⟩ := pick_some ex
      have mp := pick_min g.desc ex
      have rp := g.rng p p1
      have gp := worn_good g p1
      have pq := mp q q1 (by omega)
      rw [done_some (x :: r) ey (by omega), done_some (y :: r) ex (by omega)]
      cases ex2 : pick false (wornOf a q) x with
      | none =>
        have := pick_none_cap.mp ex2
        have := cap_mem lq (show x ≤ q - 1 by omega)
        omega
      | some p' =>
        obtain ⟨s1, s2⟩ := pick_some ex2
        have ms := pick_min gq.desc ex2
        have rs := gq.rng p' s1
        rw [done_some r ex2 (by omega)]
        have s3 := ms (q - 1) lq (by omega)
        cases ey2 : pick false (wornOf a p) y with
        | none =>
          rw [done_none r ey2]
          have c2 := pick_none_cap.mp ey2
          have e : p = q := by
            by_cases z : p = q
            · exact z
            · have := cap_mem (worn_in g.desc p1 q1 (Ne.symm z)) q2; omega
          subst e
          have := covD_done r (wornOf (wornOf a p) p') (wornOf a p) 1 (worn_good gq s1) gp hr fun m hm => by
            rw [capOf_worn gq.desc s1 rs.1 hm]
            split <;> omega
          omega
        | some q' =>
          obtain ⟨t1, t2⟩ := pick_some ey2
          have rt := gp.rng q' t1
          rw [done_some r ey2 (by omega)]
          have key : ∀ m, 1 ≤ m → (if m ≤ q then (1 : Int) else 0) + (if m ≤ p' then 1 else 0) ≤ (if m ≤ p then 1 else 0) + (if m ≤ q' then 1 else 0) := fun m hm => by
            by_cases z : p = q
            · have : p' ≤ q' := by
                rcases worn_mem g.desc p1 t1 with h | ⟨h, _⟩
                · have := mq q' h t2; omega
                · omega
              subst z
              by_cases c1 : m ≤ p' <;> by_cases c2 : m ≤ q' <;> simp only [c1, c2, if_true, if_false] <;> omega
            · have py : p < y := by
                by_cases c : y ≤ p
                · have := mq p p1 c; omega
                · omega
              have h1 := ms p (worn_in g.desc q1 p1 z) p2
              have h2 : q ≤ q' := by
                rcases worn_mem g.desc p1 t1 with h | ⟨h, _⟩
                · exact mq q' h t2
                · omega
              by_cases c1 : m ≤ p' <;> by_cases c2 : m ≤ q <;> by_cases c3 : m ≤ p <;> by_cases c4 : m ≤ q' <;> simp only [c1, c2, c3, c4, if_true, if_false] <;> omega
          have := covD_done r (wornOf (wornOf a q) p') (wornOf (wornOf a p) q') 0 (worn_good gq s1) (worn_good gp t1) hr fun m hm => by
            rw [capOf_worn gq.desc s1 rs.1 hm, capOf_worn g.desc q1 rq.1 hm, capOf_worn gp.desc t1 rt.1 hm, capOf_worn g.desc p1 rp.1 hm]
            have := key m hm
            omega
          omega
theorem done_head {a : List Int} (g : Good a) {n : Int} {r s : List Int} (hn : 1 ≤ n) (h : ∀ b, Good b → doneOf b r ≤ doneOf b s) : doneOf a (n :: r) ≤ doneOf a (n :: s) := by
  cases e : pick false a n with
  | none => rw [done_none r e, done_none s e]; exact h a g
  | some p =>
    obtain ⟨p1, p2⟩ := pick_some e
    rw [done_some r e (by omega), done_some s e (by omega)]
    have := h _ (worn_good g p1); omega
theorem done_ins : ∀ (s a : List Int) (x : Int), Good a → 1 ≤ x → (∀ n ∈ s, 1 ≤ n) → doneOf a (insI x s) ≤ doneOf a (x :: s)
  | [], a, x, g, hx, _ => Nat.le_refl _
  | y :: s, a, x, g, hx, hs => by
    have hy := hs y (List.mem_cons_self ..)
    have hs' : ∀ n ∈ s, 1 ≤ n := fun n hn => hs n (List.mem_cons_of_mem _ hn)
    unfold insI
    by_cases c : x ≤ y
    · rw [if_pos c]; exact Nat.le_refl _
    · rw [if_neg c]
      exact Nat.le_trans (done_head g hy fun b gb => done_ins s b x gb hx hs') (done_swap g hy (by omega) s hs')
/-- the ascending order performs the fewest -/
theorem done_asc : ∀ (o a : List Int), Good a → (∀ n ∈ o, 1 ≤ n) → doneOf a (isortI o) ≤ doneOf a o
  | [], a, g, _ => Nat.le_refl _
  | x :: r, a, g, h => by
    have hx := h x (List.mem_cons_self ..)
    have hr : ∀ n ∈ r, 1 ≤ n := fun n hn => h n (List.mem_cons_of_mem _ hn)
    unfold isortI
    exact Nat.le_trans (done_ins (isortI r) a x g hx fun n hn => hr n ((isortP r).mem_iff.mp hn)) (done_head g hx fun b gb => done_asc r b gb hr)
def lessN (o : List Int) (x : Int) : Nat := (o.filter fun y => decide (y < x)).length
/-- a bound of every order -/
theorem done_cap : ∀ (o a : List Int) (x : Int), Good a → 1 ≤ x → (∀ n ∈ o, 1 ≤ n) → (doneOf a o : Int) ≤ capOf a x + lessN o x
  | [], a, x, g, hx, _ => by
    have := capOf_nn a x
    rw [done_nil]; simp [lessN]; omega
  | y :: r, a, x, g, hx, ho => by
    have hy := ho y (List.mem_cons_self ..)
    have hr : ∀ n ∈ r, 1 ≤ n := fun n hn => ho n (List.mem_cons_of_mem _ hn)
    have e : lessN (y :: r) x = lessN r x + if y < x then 1 else 0 := by
      unfold lessN
      by_cases c : y < x
      · rw [List.filter_cons_of_pos (by simpa using c), if_pos c]; rfl
      · rw [List.filter_cons_of_neg (by simpa using c), if_neg c]; rfl
    cases ea : pick false a y with
    | none =>
      rw [done_none r ea, e]
      have := done_cap r a x g hx hr
      omega
    | some p =>
      obtain ⟨p1, p2⟩ := pick_some ea
      rw [done_some r ea (by omega), e]
      have := done_cap r (wornOf a p) x (worn_good g p1) hx hr
      rw [capOf_worn g.desc p1 (g.rng p p1).1 hx] at this
      by_cases c : y < x
      · rw [if_pos c]; split at this <;> omega
      · rw [if_pos (by omega)] at this; rw [if_neg c]; omega
/-- the descending order reaches it -/
theorem done_desc : ∀ (o a : List Int), Good a → o.Pairwise (· ≥ ·) → (∀ n ∈ o, 1 ≤ n) → doneOf a o = o.length ∨ ∃ (i : Nat) (x : Int), o.reverse[i]? = some x ∧ capOf a x + (i : Int) ≤ doneOf a o
  | [], a, g, _, _ => .inl rfl
  | y :: r, a, g, hd, ho => by
    obtain ⟨d1, d2⟩ := List.pairwise_cons.mp hd
    have hy := ho y (List.mem_cons_self ..)
    have hr : ∀ n ∈ r, 1 ≤ n := fun n hn => ho n (List.mem_cons_of_mem _ hn)
    cases ea : pick false a y with
    | none =>
      rw [done_none r ea]
      have cy := pick_none_cap.mp ea
      rcases done_desc r a g d2 hr with h | ⟨i, x, h1, h2⟩
      · exact .inr ⟨r.length, y, by simp, by omega⟩
      · have hi : i < r.reverse.length := (List.getElem?_eq_some_iff.mp h1).1
        exact .inr ⟨i, x, by rw [List.reverse_cons, List.getElem?_append_left hi]; exact h1, h2⟩
    | some p =>
      obtain ⟨p1, p2⟩ := pick_some ea
      rw [done_some r ea (by omega)]
      rcases done_desc r (wornOf a p) (worn_good g p1) d2 hr with h | ⟨i, x, h1, h2⟩
      · left; rw [h]; rfl
      · have hi : i < r.reverse.length := (List.getElem?_eq_some_iff.mp h1).1
        have hx : x ∈ r := List.mem_reverse.mp (List.mem_of_getElem? h1)
        have := d1 x hx
        rw [capOf_worn g.desc p1 (g.rng p p1).1 (hr x hx), if_pos (by omega)] at h2
        exact .inr ⟨i, x, by rw [List.reverse_cons, List.getElem?_append_left hi]; exact h1, by omega⟩
theorem less_at {s : List Int} (hs : s.Pairwise (· ≤ ·)) {i : Nat} {x : Int} (h : s[i]? = some x) : lessN s x ≤ i := by
  obtain ⟨hi, hx⟩ := List.getElem?_eq_some_iff.mp h
  unfold lessN
  rw [← List.take_append_drop i s, List.filter_append, List.length_append]
  have e : (s.drop i).filter (fun y => decide (y < x)) = [] := by
    rw [List.filter_eq_nil_iff]
    intro t ht
    obtain ⟨j, hj, hje⟩ := List.getElem_of_mem ht
    rw [List.getElem_drop] at hje
    rw [List.length_drop] at hj
    by_cases z : j = 0
    · subst z; simp only [Nat.add_zero] at hje; simp; omega
    · have := List.pairwise_iff_getElem.mp hs i (i + j) hi (by omega) (by omega)
      simp; omega
  rw [e]
  have := List.length_filter_le (fun y => decide (y < x)) (s.take i)
  rw [List.length_take] at this
  simp; omega
theorem less_perm {s t : List Int} (p : s.Perm t) (x : Int) : lessN s x = lessN t x := (p.filter _).length_eq
/-- the most, by indices and by lesser needs -/
def mostOf (a o : List Int) : Nat := doneOf a (dsort o)
theorem most_len (a o : List Int) : mostOf a o ≤ o.length := by
  have := done_le_len (dsort o) a
  rw [dsort_len] at this; exact this
theorem most_cap {a o : List Int} (g : Good a) (h : ∀ n ∈ o, 1 ≤ n) {x : Int} (hx : 1 ≤ x) : (mostOf a o : Int) ≤ capOf a x + lessN o x := by
  have := done_cap (dsort o) a x g hx fun n hn => h n ((dsort_perm o).mem_iff.mp hn)
  rw [less_perm (dsort_perm o)] at this; exact this
theorem most_at {a o : List Int} (g : Good a) (h : ∀ n ∈ o, 1 ≤ n) : mostOf a o = o.length ∨ ∃ (i : Nat) (x : Int), (isortI o)[i]? = some x ∧ capOf a x + (i : Int) ≤ mostOf a o := by
  have := done_desc (dsort o) a g (dsort_desc o) fun n hn => h n ((dsort_perm o).mem_iff.mp hn)
  rw [dsort_len, show (dsort o).reverse = isortI o by unfold dsort; rw [List.reverse_reverse]] at this
  exact this
theorem most_idx {a o : List Int} (g : Good a) (h : ∀ n ∈ o, 1 ≤ n) {i : Nat} {x : Int} (hi : (isortI o)[i]? = some x) : (mostOf a o : Int) ≤ capOf a x + i := by
  have hx : x ∈ o := (isortP o).mem_iff.mp (List.mem_of_getElem? hi)
  have h1 := most_cap g h (h x hx)
  have h2 := less_at (isortS o) hi
  rw [less_perm (isortP o)] at h2
  omega
theorem done_most {a o : List Int} (g : Good a) (h : ∀ n ∈ o, 1 ≤ n) : doneOf a o ≤ mostOf a o := by
  rcases most_at g h with e | ⟨i, x, h1, h2⟩
  · rw [e]; exact done_le_len o a
  · have hx : x ∈ o := (isortP o).mem_iff.mp (List.mem_of_getElem? h1)
    have h3 := done_cap o a x g (h x hx) h
    have h4 := less_at (isortS o) h1
    rw [less_perm (isortP o)] at h4
    omega
/-- the ascending order stops at the first task that is not performed -/
theorem done_stuck : ∀ (s a : List Int) (x : Int), pick false a x = none → (∀ n ∈ s, x ≤ n) → doneOf a s = 0
  | [], a, x, _, _ => rfl
  | n :: r, a, x, h, hs => by
    have h1 : pick false a n = none := by
      have e := pick_none.mp h
      rw [pick_none, List.eq_nil_iff_forall_not_mem]
      intro t ht
      have := suit_mem.mp ht
      have hm := suit_mem.mpr ⟨this.1, Int.le_trans (hs n (List.mem_cons_self ..)) this.2⟩
      rw [e] at hm; cases hm
    rw [done_none r h1]
    exact done_stuck r a x h fun m hm => hs m (List.mem_cons_of_mem _ hm)
theorem asc_done : ∀ (s a : List Int) (k : Nat), Good a → s.Pairwise (· ≤ ·) → (∀ n ∈ s, 1 ≤ n) → k ≤ s.length → 0 ∉ (serveP false a (s.take k)).1 → (k = s.length ∨ 0 ∈ (serveP false a (s.take (k + 1))).1) → doneOf a s = k
  | [], a, k, _, _, _, hk, _, _ => by simp at hk; subst hk; rfl
  | n :: r, a, k, g, hs, h1, hk, hz, hy => by
    obtain ⟨s1, s2⟩ := List.pairwise_cons.mp hs
    have hn := h1 n (List.mem_cons_self ..)
    have hr : ∀ m ∈ r, 1 ≤ m := fun m hm => h1 m (List.mem_cons_of_mem _ hm)
    cases e : pick false a n with
    | none =>
      cases k with
      | zero => rw [done_none r e]; exact done_stuck r a n e s1
      | succ k =>
        rw [List.take_succ_cons, serveP, e] at hz
        simp at hz
    | some p =>
      obtain ⟨p1, p2⟩ := pick_some e
      rw [done_some r e (by omega)]
      cases k with
      | zero =>
        rcases hy with h | h
        · simp at h
        · rw [List.take_succ_cons, serveP, e] at h
          simp [serveP] at h
          omega
      | succ k =>
        rw [List.take_succ_cons, serveP, e] at hz
        simp only [List.mem_cons, not_or] at hz
        rw [asc_done r (wornOf a p) k (worn_good g p1) s2 hr (by simpa using hk) hz.2 (by
          rcases hy with h | h
          · left; simpa using h
          · right
            rw [List.take_succ_cons, serveP, e] at h
            simp only [List.mem_cons] at h
            exact h.resolve_left (by omega))]
theorem asc_out : ∀ (s a : List Int) (k : Nat), 0 ∉ (serveP false a s).1 → 0 ∉ (serveP false a (s.take k)).1
  | [], a, k, h => by simpa using h
  | n :: r, a, 0, h => by simp [serveP]
  | n :: r, a, k + 1, h => by
    rw [List.take_succ_cons]
    unfold serveP at h ⊢
    cases e : pick false a n with
    | none => rw [e] at h; simp at h
    | some p =>
      rw [e] at h
      simp only [List.mem_cons, not_or] at h ⊢
      exact ⟨h.1, asc_out r (wornOf a p) k h.2⟩
/-! the functions -/
theorem done_ok {a o : List Int} (g : Good a) (hr : Row o) : f_u_law_done_k23 [.va (tp a), .va (li o)] = .ok (.fz (.int (doneOf a o))) [.un, .un] := by
  have sv := serve_ok g hr false
  have sl : (serveP false a o).1.length ≤ 1000000 := by
    have h : ∀ (o a : List Int), (serveP false a o).1.length = o.length := fun o => by
      induction o with
      | nil => intro a; rfl
      | cons n r ih =>
        intro a
        unfold serveP
        cases pick false a n with
        | some p => simp [ih]
        | none => simp [ih]
    rw [h]; have := hr.len; omega
  have rs : ruleS false = "dullest" := rfl
  rw [rs] at sv
  generalize hT : tp a = T at *
  generalize hO : li o = O at *
  rw [show doneOf a o = ((serveP false a o).1.filter fun m => decide (0 < m)).length from rfl]
  generalize serveP false a o = S at *
  have e := lcE_filter (v := 2) (it := itE (KL.bin ixP (frz (callV 3 f_serve [.str "dullest"] (aCons (frz (nmE 0)) (aCons (frz (nmE 1)) (aNil))))) (frz (cE (.int 0))))) (c := tst (KL.bin gtP (nmO 2) (frz (cE (.int 0))))) (ρ := [.va T, .va O, .un]) (ρ1 := [.va T, .va O, .un]) (fun m => decide (0 < m)) S.1 (by simp [sv]) rfl sl (by simp)
  generalize S.1.filter (fun m => decide (0 < m)) = F at *
  rw [e_u_law_done_k23, d_u_law_done_k23]
  simp [e]
/-! drawing, with what has been drawn -/
theorem lcL_drawA {σ : Type} {vs : List Nat} {tg : D → KL.Env → Out} {e : M Vl} {w : σ → KL.Env} {I : List D → σ → Prop} {N : Nat} (hN : N ≤ 1000000) (hok : ∀ acc s, I acc s → okW (w s) vs = true) : ∀ (ds acc : List D) (s : σ), acc.length + ds.length = N → I acc s →
    (∀ d ∈ ds, ∀ acc s, I acc s → acc.length < N → ∃ ρ1 s' ρ2 v, tg d (w s) = .nx ρ1 ∧ e ρ1 = .ok v ρ2 ∧ I (acc ++ [v.d]) s' ∧ okW ρ2 vs = true ∧ wipeE ρ2 vs = w s') →
    ∃ (xs : List D) (s' : σ), xs.length = N ∧ I xs s' ∧ lcL vs tg yesB e ds acc (w s) = .ok xs (w s')
  | [], acc, s, hl, hs, _ => ⟨acc, s, by simpa using hl, hs, by simp [lcL]⟩
  | d :: r, acc, s, hl, hs, h => by
    simp only [List.length_cons] at hl
    obtain ⟨ρ1, s', ρ2, v, h1, h2, h4, h5, h6⟩ := h d (List.mem_cons_self ..) acc s hs (by omega)
    obtain ⟨xs, s2, a1, a3, a4⟩ := lcL_drawA hN hok (tg := tg) (e := e) r (acc ++ [v.d]) s' (by simp; omega) h4 fun d hd => h d (List.mem_cons_of_mem _ hd)
    have hl' : acc.length < 1000000 := by omega
    refine ⟨xs, s2, a1, a3, ?_⟩
    simp only [lcL, h1, yesB_ap, h2, h5, hl', decide_true, Bool.and_self, if_true, h6, a4]
theorem lcE_drawA {σ : Type} {vs : List Nat} {it : M (List D)} {tg : D → KL.Env → Out} {e : M Vl} {ρ ρ1 : KL.Env} (w wo : σ → KL.Env) (I : List D → σ → Prop) (ds : List D) (s : σ) (hi : it ρ = .ok ds ρ1) (h0 : okW ρ1 vs = true) (h1 : wipeE ρ1 vs = w s) (hs : I [] s) (h2 : ∀ s', rstE ρ1 (w s') vs = wo s') (hok : ∀ acc s, I acc s → okW (w s) vs = true) (hl : ds.length ≤ 1000000)
    (h : ∀ d ∈ ds, ∀ acc s, I acc s → acc.length < ds.length → ∃ ρ1 s' ρ2 v, tg d (w s) = .nx ρ1 ∧ e ρ1 = .ok v ρ2 ∧ I (acc ++ [v.d]) s' ∧ okW ρ2 vs = true ∧ wipeE ρ2 vs = w s') :
    ∃ (xs : List D) (s' : σ), xs.length = ds.length ∧ I xs s' ∧ lcE vs it tg yesB e ρ = .ok (.fr xs) (wo s') := by
  obtain ⟨xs, s', a1, a3, a4⟩ := lcL_drawA hl hok (tg := tg) (e := e) ds [] s (by simp) hs h
  refine ⟨xs, s', a1, a3, ?_⟩
  unfold lcE
  rw [hi, bnd_ok, if_pos h0, h1, a4]
  simp [hok _ s' a3, h2]
theorem erase_idx_perm : ∀ {l : List Int} {i : Nat} (h : i < l.length), (l[i] :: l.eraseIdx i).Perm l
  | x :: r, 0, _ => List.Perm.refl _
  | x :: r, i + 1, h => by
    simp only [List.getElem_cons_succ, List.eraseIdx_cons_succ]
    exact (List.Perm.swap _ _ _).trans ((erase_idx_perm (by simpa using h)).cons x)
/-- an order, drawn -/
theorem pop_perm {w left o : List Int} {i : Nat} (hi : i < left.length) (h : (w ++ left).Perm o) : ((w ++ [left[i]]) ++ left.eraseIdx i).Perm o := by
  refine List.Perm.trans ?_ h
  rw [List.append_assoc]
  exact List.Perm.append_left w (erase_idx_perm hi)
theorem iL_eraseIdx (l : List Int) (i : Nat) : (iL l).eraseIdx i = iL (l.eraseIdx i) := by
  unfold iL
  induction l generalizing i with
  | nil => rfl
  | cons x r ih =>
    cases i with
    | zero => rfl
    | succ i => simp [ih]
end S
end

section
set_option Elab.async false
set_option linter.all false
set_option maxRecDepth 100000
namespace S
open PySem L2 KL
/-! ### the bounds of lots -/
theorem capM_ge {Ls : List (List Int)} {l : List Int} (h : l ∈ Ls) (n : Int) : capOf l n ≤ capM Ls n := by
  cases Ls with
  | nil => cases h
  | cons a r =>
    exact (maxI_sp (capOf a n) (r.map fun l => capOf l n)).2 _ (by
      rcases List.mem_cons.mp h with rfl | h
      · exact List.mem_cons_self ..
      · exact List.mem_cons_of_mem _ (List.mem_map.mpr ⟨l, h, rfl⟩))
theorem capM_at {Ls : List (List Int)} (h : Ls ≠ []) (n : Int) : ∃ l ∈ Ls, capM Ls n = capOf l n := by
  cases Ls with
  | nil => exact absurd rfl h
  | cons a r =>
    rcases List.mem_cons.mp (maxI_sp (capOf a n) (r.map fun l => capOf l n)).1 with e | e
    · exact ⟨a, List.mem_cons_self .., e⟩
    · obtain ⟨l, hl, e⟩ := List.mem_map.mp e
      exact ⟨l, List.mem_cons_of_mem _ hl, e.symm⟩
theorem cap_conv : ∀ (l : List Int) (n : Int), 2 * capOf l (n + 1) ≤ capOf l n + capOf l (n + 2)
  | [], n => by simp [capOf_nil]
  | t :: r, n => by
    have ih := cap_conv r n
    rw [capOf_cons, capOf_cons, capOf_cons]
    by_cases c : n ≤ t
    · by_cases c1 : n + 1 ≤ t
      · by_cases c2 : n + 2 ≤ t
        · rw [if_pos c, if_pos c1, if_pos c2]; omega
        · rw [if_pos c, if_pos c1, if_neg c2]; omega
      · rw [if_pos c, if_neg c1, if_neg (by omega)]; omega
    · rw [if_neg c, if_neg (by omega), if_neg (by omega)]; omega
theorem capM_conv {Ls : List (List Int)} (h : Ls ≠ []) (t : Int) : 0 ≤ manyOf (capM Ls) t := by
  obtain ⟨l, hl, e⟩ := capM_at h (t + 1)
  have h1 := capM_ge hl t
  have h2 := capM_ge hl (t + 2)
  have h3 := cap_conv l t
  unfold manyOf; omega
theorem dn_succ (m : Nat) : dn (m + 1) = ((m : Int) + 1) :: dn m := by
  unfold dn
  rw [List.range_succ_eq_map, List.map_cons, List.map_map]
  have h2 : List.map ((fun k : Nat => ((m + 1 : Nat) : Int) - (k : Nat)) ∘ Nat.succ) (List.range m) = List.map (fun k : Nat => (m : Int) - (k : Nat)) (List.range m) := List.map_congr_left fun k _ => by
    show ((m + 1 : Nat) : Int) - ((k + 1 : Nat) : Int) = _
    omega
  rw [h2]
  simp
theorem cap_repl (k : Nat) (t n : Int) (h : n ≤ t) : capOf (List.replicate k t) n = k * (t - n + 1) := by
  induction k with
  | zero => simp [capOf_nil]
  | succ k ih =>
    rw [List.replicate_succ, capOf_cons, ih, if_pos h]
    rw [show ((k + 1 : Nat) : Int) = k + 1 from rfl, Int.add_mul, Int.one_mul]; omega
theorem lotW_mem {f : Int → Int} {ts : List Int} {x : Int} (h : x ∈ lotW f ts) : x ∈ ts := by
  unfold lotW at h
  obtain ⟨t, ht, hx⟩ := List.mem_flatMap.mp h
  rw [List.eq_of_mem_replicate hx]; exact ht
theorem lotW_desc {f : Int → Int} : ∀ {ts : List Int}, ts.Pairwise (· ≥ ·) → (lotW f ts).Pairwise (· ≥ ·)
  | [], _ => List.Pairwise.nil
  | t :: r, h => by
    obtain ⟨h1, h2⟩ := List.pairwise_cons.mp h
    unfold lotW
    rw [List.flatMap_cons]
    refine List.pairwise_append.mpr ⟨List.pairwise_replicate.mpr (.inr (Int.le_refl _)), lotW_desc h2, fun x hx y hy => ?_⟩
    rw [List.eq_of_mem_replicate hx]
    exact h1 y (lotW_mem hy)
theorem dn_desc (m : Nat) : (dn m).Pairwise (· ≥ ·) := by
  induction m with
  | zero => exact List.Pairwise.nil
  | succ m ih =>
    rw [dn_succ]
    exact List.pairwise_cons.mpr ⟨fun t ht => by have := (dn_mem.mp ht).2; omega, ih⟩
theorem cap_lotW {f : Int → Int} (hf : ∀ t, 1 ≤ t → 0 ≤ manyOf f t) {n : Int} (hn : 1 ≤ n) : ∀ m : Nat, n ≤ (m : Int) + 1 → capOf (lotW f (dn m)) n = f n - f ((m : Int) + 1) - ((m : Int) + 1 - n) * (f ((m : Int) + 1) - f ((m : Int) + 2)) := fun m => by
  have base : ∀ m : Nat, n = (m : Int) + 1 → capOf (lotW f (dn m)) n = f n - f ((m : Int) + 1) - ((m : Int) + 1 - n) * (f ((m : Int) + 1) - f ((m : Int) + 2)) := fun m e => by
    rw [cap_hi fun t ht => by have := (dn_mem.mp (lotW_mem ht)).2; omega, ← e, Int.sub_self, Int.sub_self, Int.zero_mul]; rfl
  induction m with
  | zero => intro h; exact base 0 (by simp at h ⊢; omega)
  | succ m ih =>
    intro h
    by_cases c : n = ((m + 1 : Nat) : Int) + 1
    · exact base (m + 1) c
    · have ih := ih (by omega)
      have e : lotW f (dn (m + 1)) = List.replicate (manyOf f ((m : Int) + 1)).toNat ((m : Int) + 1) ++ lotW f (dn m) := by
        rw [dn_succ]; unfold lotW; rw [List.flatMap_cons]
      have h0 := hf ((m : Int) + 1) (by omega)
      rw [e, capOf_app, ih, cap_repl _ _ _ (by omega), Int.toNat_of_nonneg h0]
      unfold manyOf
      rw [show ((m + 1 : Nat) : Int) + 1 = (m : Int) + 2 by omega, show ((m + 1 : Nat) : Int) + 2 = (m : Int) + 3 by omega, show (m : Int) + 1 + 1 = (m : Int) + 2 by omega, show (m : Int) + 1 + 2 = (m : Int) + 3 by omega]
      generalize f ((m : Int) + 1) = a
      generalize f ((m : Int) + 2) = b
      generalize f ((m : Int) + 3) = g
      obtain ⟨k, hk⟩ : ∃ k, k = (m : Int) + 1 - n := ⟨_, rfl⟩
      rw [show (m : Int) + 2 - n = k + 1 by omega, ← hk]
      have e1 : (a - 2 * b + g) * (k + 1) = a * k - 2 * (b * k) + g * k + (a - 2 * b + g) := by rw [Int.mul_add, Int.mul_one, Int.add_mul, Int.sub_mul, Int.mul_assoc]
      have e2 : k * (a - b) = a * k - b * k := by rw [Int.mul_sub, Int.mul_comm k a, Int.mul_comm k b]
      have e3 : (k + 1) * (b - g) = b * k - g * k + (b - g) := by rw [Int.add_mul, Int.one_mul, Int.mul_sub, Int.mul_comm k b, Int.mul_comm k g]
      rw [e1, e2, e3]; omega
theorem sum_cap : ∀ {l : List Int}, (∀ t ∈ l, 1 ≤ t) → capOf l 1 = l.sum ∧ capOf l 1 - capOf l 2 = l.length
  | [], _ => ⟨rfl, rfl⟩
  | t :: r, h => by
    obtain ⟨h1, h2⟩ := sum_cap (l := r) fun u hu => h u (List.mem_cons_of_mem _ hu)
    have ht := h t (List.mem_cons_self ..)
    rw [capOf_cons, capOf_cons, if_pos ht, List.sum_cons, List.length_cons]
    by_cases c : 2 ≤ t
    · rw [if_pos c]; exact ⟨by omega, by omega⟩
    · rw [if_neg c]; exact ⟨by omega, by omega⟩
theorem capM_zero {Ls : List (List Int)} (h : Ls ≠ []) (hg : ∀ l ∈ Ls, Good l) {n : Int} (hn : 201 ≤ n) : capM Ls n = 0 := by
  obtain ⟨l, hl, e⟩ := capM_at h n
  rw [e, cap_hi fun t ht => by have := ((hg l hl).rng t ht).2; omega]
theorem cap_lc {Ls : List (List Int)} (h : Ls ≠ []) (hg : ∀ l ∈ Ls, Good l) {n : Int} (hn : 1 ≤ n) : capOf (lcOf Ls) n = capM Ls n := by
  unfold lcOf
  by_cases c : n ≤ 201
  · rw [cap_lotW (fun t _ => capM_conv h t) hn 200 (by omega)]
    rw [capM_zero h hg (n := ((200 : Nat) : Int) + 1) (by decide), capM_zero h hg (n := ((200 : Nat) : Int) + 2) (by decide), Int.sub_self, Int.mul_zero]; omega
  · rw [cap_hi fun t ht => by have := (dn_mem.mp (lotW_mem ht)).2; omega, capM_zero h hg (by omega)]
theorem lc_good {Ls : List (List Int)} (h : Ls ≠ []) (hg : ∀ l ∈ Ls, Good l) : Good (lcOf Ls) := by
  have hr : ∀ t ∈ lcOf Ls, 1 ≤ t ∧ t ≤ 200 := fun t ht => dn_mem.mp (lotW_mem ht)
  obtain ⟨s1, s2⟩ := sum_cap (l := lcOf Ls) fun t ht => (hr t ht).1
  rw [cap_lc h hg (by decide)] at s1 s2
  rw [cap_lc h hg (by decide)] at s2
  have b1 := capM_bd hg (n := 1) (by decide)
  obtain ⟨l, hl, e⟩ := capM_at h 1
  have h2 := capM_ge hl 2
  obtain ⟨u1, u2⟩ := sum_cap (l := l) fun t ht => ((hg l hl).rng t ht).1
  have := (hg l hl).len
  exact ⟨hr, lotW_desc (dn_desc 200), by omega, by omega⟩
theorem lc_cov {Ls : List (List Int)} (hg : ∀ l ∈ Ls, Good l) {l : List Int} (hl : l ∈ Ls) : Cov (lcOf Ls) l := fun n hn => by
  rw [cap_lc (fun e => by rw [e] at hl; cases hl) hg hn]
  exact capM_ge hl n
/-! top sums -/
theorem topM_le {Ls : List (List Int)} {l : List Int} (h : l ∈ Ls) (c : Int) : topM Ls c ≤ topOf l c := by
  cases Ls with
  | nil => cases h
  | cons a r =>
    exact (minI_sp (topOf a c) (r.map fun l => topOf l c)).2 _ (by
      rcases List.mem_cons.mp h with rfl | h
      · exact List.mem_cons_self ..
      · exact List.mem_cons_of_mem _ (List.mem_map.mpr ⟨l, h, rfl⟩))
theorem topM_at {Ls : List (List Int)} (h : Ls ≠ []) (c : Int) : ∃ l ∈ Ls, topM Ls c = topOf l c := by
  cases Ls with
  | nil => exact absurd rfl h
  | cons a r =>
    rcases List.mem_cons.mp (minI_sp (topOf a c) (r.map fun l => topOf l c)).1 with e | e
    · exact ⟨a, List.mem_cons_self .., e⟩
    · obtain ⟨l, hl, e⟩ := List.mem_map.mp e
      exact ⟨l, List.mem_cons_of_mem _ hl, e.symm⟩
theorem top_succ (l : List Int) (c : Nat) : topOf l ((c : Int) + 1) = topOf l c + l.getD c 0 := by
  unfold topOf
  rw [show ((c : Int) + 1).toNat = c + 1 by omega, Int.toNat_natCast, List.take_add_one, List.sum_append, List.getD_eq_getElem?_getD]
  cases l[c]? <;> simp
theorem getD_nn {l : List Int} (h : ∀ t ∈ l, 1 ≤ t) (c : Nat) : 0 ≤ l.getD c 0 := by
  rw [List.getD_eq_getElem?_getD]
  cases e : l[c]? with
  | none => exact Int.le_refl _
  | some t => have := h t (List.mem_of_getElem? e); simp; omega
theorem getD_dec {l : List Int} (h : ∀ t ∈ l, 1 ≤ t) (hd : l.Pairwise (· ≥ ·)) (c : Nat) : l.getD (c + 1) 0 ≤ l.getD c 0 := by
  have h0 := getD_nn h c
  rw [List.getD_eq_getElem?_getD] at h0 ⊢
  rw [List.getD_eq_getElem?_getD]
  by_cases z : c + 1 < l.length
  · rw [List.getElem?_eq_getElem z, List.getElem?_eq_getElem (by omega)]
    have := List.pairwise_iff_getElem.mp hd c (c + 1) (by omega) z (by omega)
    simpa using this
  · rw [List.getElem?_eq_none (by omega : l.length ≤ c + 1)]
    simpa using h0
theorem topM_mono {Ls : List (List Int)} (h : Ls ≠ []) (hg : ∀ l ∈ Ls, Good l) (c : Nat) : topM Ls c ≤ topM Ls ((c : Int) + 1) := by
  obtain ⟨l, hl, e⟩ := topM_at h ((c : Int) + 1)
  have h1 := topM_le hl (c : Int)
  have h2 := getD_nn (fun t ht => ((hg l hl).rng t ht).1) c
  rw [top_succ] at e; omega
theorem topM_conc {Ls : List (List Int)} (h : Ls ≠ []) (hg : ∀ l ∈ Ls, Good l) (c : Nat) : topM Ls ((c : Int) + 1 + 1) - topM Ls ((c : Int) + 1) ≤ topM Ls ((c : Int) + 1) - topM Ls c := by
  obtain ⟨l, hl, e⟩ := topM_at h ((c : Int) + 1)
  have h1 := topM_le hl (c : Int)
  have h2 := topM_le hl ((c : Int) + 1 + 1)
  have h3 := getD_dec (fun t ht => ((hg l hl).rng t ht).1) (hg l hl).desc c
  have e2 := top_succ l (c + 1)
  rw [show ((c + 1 : Nat) : Int) = (c : Int) + 1 from rfl] at e2
  rw [top_succ] at e
  rw [top_succ] at e2
  rw [e2] at h2
  omega
theorem top_all {l : List Int} (h : l.length ≤ 60) {c : Nat} (hc : 60 ≤ c) : topOf l c = topOf l 60 := by
  unfold topOf
  rw [Int.toNat_natCast, List.take_of_length_le (by omega), List.take_of_length_le (show l.length ≤ Int.toNat 60 from h)]
theorem topM_all {Ls : List (List Int)} (h : Ls ≠ []) (hg : ∀ l ∈ Ls, Good l) {c : Nat} (hc : 60 ≤ c) : topM Ls c = topM Ls 60 := by
  obtain ⟨l, hl, e⟩ := topM_at h c
  obtain ⟨l2, hl2, e2⟩ := topM_at h 60
  have h1 := topM_le hl 60
  have h2 := topM_le hl2 (c : Int)
  have a1 := top_all (hg l hl).len hc
  have a2 := top_all (hg l2 hl2).len hc
  omega
theorem topM_0 {Ls : List (List Int)} (h : Ls ≠ []) : topM Ls 0 = 0 := by
  obtain ⟨l, hl, e⟩ := topM_at h 0
  rw [e]; rfl
theorem pos_take : ∀ {D : List Int}, (∀ t ∈ D, 0 ≤ t) → D.Pairwise (· ≥ ·) → ∀ k, ((posL D).take k).sum = (D.take k).sum
  | [], _, _, k => rfl
  | x :: r, h0, hd, k => by
    obtain ⟨d1, d2⟩ := List.pairwise_cons.mp hd
    have hx := h0 x (List.mem_cons_self ..)
    have ih := pos_take (D := r) (fun t ht => h0 t (List.mem_cons_of_mem _ ht)) d2
    by_cases c : 0 < x
    · rw [show posL (x :: r) = x :: posL r from List.filter_cons_of_pos (by simpa using c)]
      cases k with
      | zero => rfl
      | succ k => rw [List.take_succ_cons, List.take_succ_cons, List.sum_cons, List.sum_cons, ih]
    · have hz : ∀ t ∈ x :: r, t = 0 := fun t ht => by
        have := h0 t ht
        rcases List.mem_cons.mp ht with rfl | ht
        · omega
        · have := d1 t ht; omega
      have e : posL (x :: r) = [] := List.filter_eq_nil_iff.mpr fun t ht => by rw [hz t ht]; decide
      have s0 : ∀ (l : List Int), (∀ t ∈ l, t = 0) → l.sum = 0 := fun l => by
        induction l with
        | nil => intro _; rfl
        | cons t r ih =>
          intro h
          rw [List.sum_cons, h t (List.mem_cons_self ..), ih fun u hu => h u (List.mem_cons_of_mem _ hu)]; rfl
      rw [e, s0 _ fun t ht => hz t (List.mem_of_mem_take ht)]; simp
theorem rg_app (n : Nat) : rg 0 (n + 1) = rg 0 n ++ [(n : Int)] := by
  unfold rg
  rw [List.range_succ, List.map_append]; simp
theorem rg_take (n k : Nat) : (rg 0 n).take k = rg 0 (min k n) := by
  unfold rg
  rw [← List.map_take, List.take_range]
theorem tele (f : Int → Int) (n : Nat) : ((rg 0 n).map fun c => f (c + 1) - f c).sum = f n - f 0 := by
  induction n with
  | zero => simp [rg]
  | succ n ih => rw [rg_app, List.map_append, List.sum_append, ih]; simp; omega
theorem diffs_ok {Ls : List (List Int)} (h : Ls ≠ []) (hg : ∀ l ∈ Ls, Good l) (n : Nat) : (∀ t ∈ (rg 0 n).map fun c => topM Ls (c + 1) - topM Ls c, 0 ≤ t) ∧ ((rg 0 n).map fun c => topM Ls (c + 1) - topM Ls c).Pairwise (· ≥ ·) := by
  constructor
  · intro t ht
    obtain ⟨c, hc, rfl⟩ := List.mem_map.mp ht
    have := rg_mem.mp hc
    have := topM_mono h hg c.toNat
    rw [Int.toNat_of_nonneg (by omega)] at this
    omega
  · have step : ∀ (j i : Nat), topM Ls (((i + j : Nat) : Int) + 1) - topM Ls ((i + j : Nat) : Int) ≤ topM Ls ((i : Int) + 1) - topM Ls i := fun j i => by
      induction j with
      | zero => exact Int.le_refl _
      | succ j ih =>
        have := topM_conc h hg (i + j)
        rw [show ((i + (j + 1) : Nat) : Int) = ((i + j : Nat) : Int) + 1 by omega]
        omega
    rw [List.pairwise_iff_getElem]
    intro i j hi hj hij
    rw [List.length_map, rg_len] at hi hj
    have gi : (rg 0 n)[i]'(by rw [rg_len]; exact hi) = (i : Int) := by
      have := rg_get hi 0
      rw [List.getElem?_eq_getElem (by rw [rg_len]; exact hi)] at this
      have := Option.some.inj this; omega
    have gj : (rg 0 n)[j]'(by rw [rg_len]; exact hj) = (j : Int) := by
      have := rg_get hj 0
      rw [List.getElem?_eq_getElem (by rw [rg_len]; exact hj)] at this
      have := Option.some.inj this; omega
    rw [List.getElem_map, List.getElem_map, gi, gj]
    have := step (j - i) i
    rw [show i + (j - i) = j by omega] at this
    exact this
theorem top_gc {Ls : List (List Int)} (h : Ls ≠ []) (hg : ∀ l ∈ Ls, Good l) (c : Nat) : topOf (gcOf Ls) c = topM Ls c := by
  obtain ⟨d1, d2⟩ := diffs_ok h hg 60
  unfold topOf gcOf
  rw [Int.toNat_natCast, pos_take d1 d2, ← List.map_take, rg_take, tele, topM_0 h]
  by_cases z : c ≤ 60
  · rw [Nat.min_eq_left z]; omega
  · rw [Nat.min_eq_right (by omega), topM_all h hg (show 60 ≤ c by omega), Int.sub_zero]; rfl
theorem sum_nn : ∀ {l : List Int}, (∀ t ∈ l, 0 ≤ t) → 0 ≤ l.sum ∧ ∀ t ∈ l, t ≤ l.sum
  | [], _ => ⟨Int.le_refl _, by simp⟩
  | x :: r, h => by
    obtain ⟨a, b⟩ := sum_nn (l := r) fun t ht => h t (List.mem_cons_of_mem _ ht)
    have hx := h x (List.mem_cons_self ..)
    rw [List.sum_cons]
    refine ⟨by omega, fun t ht => ?_⟩
    rcases List.mem_cons.mp ht with rfl | ht
    · omega
    · have := b t ht; omega
theorem gc_good {Ls : List (List Int)} (h : Ls ≠ []) (hg : ∀ l ∈ Ls, Good l) : Good (gcOf Ls) := by
  obtain ⟨d1, d2⟩ := diffs_ok h hg 60
  have hp : ∀ t ∈ gcOf Ls, 0 < t := fun t ht => of_decide_eq_true (List.mem_filter.mp ht).2
  have hl : (gcOf Ls).length ≤ 60 := by
    refine Nat.le_trans (List.length_filter_le ..) ?_
    rw [List.length_map, rg_len]; exact Nat.le_refl _
  have hs : (gcOf Ls).sum = topM Ls 60 := by
    rw [← show topOf (gcOf Ls) ((60 : Nat) : Int) = (gcOf Ls).sum by unfold topOf; rw [Int.toNat_natCast, List.take_of_length_le hl], top_gc h hg]; rfl
  obtain ⟨l, hl2, e⟩ := topM_at h 60
  have g := hg l hl2
  have e2 : topOf l 60 = l.sum := by unfold topOf; rw [List.take_of_length_le (show l.length ≤ Int.toNat 60 from g.len)]
  have := g.sum
  obtain ⟨s1, s2⟩ := sum_nn (l := gcOf Ls) fun t ht => Int.le_of_lt (hp t ht)
  exact ⟨fun t ht => ⟨by have := hp t ht; omega, by have := s2 t ht; omega⟩, d2.sublist List.filter_sublist, hl, by omega⟩
theorem flt_take : ∀ (xs : List Int) (n : Int), xs.Pairwise (· ≥ ·) → capOf xs n = topOf xs ((xs.filter fun t => decide (n ≤ t)).length : Nat) - ((xs.filter fun t => decide (n ≤ t)).length : Int) * (n - 1)
  | [], n, _ => by simp [capOf_nil, topOf]
  | x :: r, n, h => by
    obtain ⟨d1, d2⟩ := List.pairwise_cons.mp h
    by_cases c : n ≤ x
    · have ih := flt_take r n d2
      rw [capOf_cons, if_pos c, List.filter_cons_of_pos (by simpa using c), List.length_cons, ih]
      generalize (r.filter fun t => decide (n ≤ t)).length = k
      rw [show topOf (x :: r) ((k + 1 : Nat) : Int) = x + topOf r (k : Nat) by unfold topOf; rw [Int.toNat_natCast, Int.toNat_natCast, List.take_succ_cons, List.sum_cons], show ((k + 1 : Nat) : Int) = (k : Int) + 1 from rfl, Int.add_mul, Int.one_mul]
      omega
    · have e : (x :: r).filter (fun t => decide (n ≤ t)) = [] := by
        rw [List.filter_eq_nil_iff]
        intro t ht
        rcases List.mem_cons.mp ht with rfl | ht
        · simpa using c
        · have := d1 t ht; simp; omega
      rw [e, cap_hi fun t ht => by
        rcases List.mem_cons.mp ht with rfl | ht
        · omega
        · have := d1 t ht; omega]
      simp [topOf]
theorem cap_top : ∀ (a : List Int) (k : Nat) (n : Int), 1 ≤ n → topOf a (k : Nat) - (k : Int) * (n - 1) ≤ capOf a n
  | [], k, n, hn => by
    have := Int.mul_nonneg (show 0 ≤ (k : Int) by omega) (show 0 ≤ n - 1 by omega)
    simp [topOf, capOf_nil]; omega
  | x :: r, 0, n, hn => by
    have := capOf_nn (x :: r) n
    simp [topOf]; omega
  | x :: r, k + 1, n, hn => by
    have ih := cap_top r k n hn
    rw [capOf_cons, show topOf (x :: r) ((k + 1 : Nat) : Int) = x + topOf r (k : Nat) by unfold topOf; rw [Int.toNat_natCast, Int.toNat_natCast, List.take_succ_cons, List.sum_cons], show ((k + 1 : Nat) : Int) = (k : Int) + 1 from rfl, Int.add_mul, Int.one_mul]
    split <;> omega
theorem gc_cov {Ls : List (List Int)} (hg : ∀ l ∈ Ls, Good l) {l : List Int} (hl : l ∈ Ls) : Cov l (gcOf Ls) := fun n hn => by
  have h : Ls ≠ [] := fun e => by rw [e] at hl; cases hl
  rw [flt_take _ n (gc_good h hg).desc, top_gc h hg]
  have h1 := topM_le hl (((gcOf Ls).filter fun t => decide (n ≤ t)).length : Nat)
  have h2 := cap_top l ((gcOf Ls).filter fun t => decide (n ≤ t)).length n hn
  omega
end S
end

section
set_option Elab.async false
set_option linter.all false
set_option maxRecDepth 100000
namespace S
open PySem L2 KL
/-! ### the law's own covers; bounds of lots, told by covering -/
theorem cap_count20 : ∀ (l : List Int) (n : Int), manyOf (capOf l) n = l.count n
  | [], n => rfl
  | t :: r, n => by
    have ih := cap_count20 r n
    unfold manyOf at ih ⊢
    rw [capOf_cons, capOf_cons, capOf_cons, List.count_cons]
    by_cases e : t = n
    · subst e
      rw [if_pos (Int.le_refl _), if_neg (by omega), if_neg (by omega)]
      simp; omega
    · have eb : (t == n) = false := by simpa using e
      rw [eb]
      by_cases c : n ≤ t
      · by_cases c2 : n + 2 ≤ t
        · rw [if_pos c, if_pos (by omega : n + 1 ≤ t), if_pos c2]; simp; omega
        · rw [if_pos c, if_pos (by omega : n + 1 ≤ t), if_neg c2]; simp; omega
      · rw [if_neg c, if_neg (by omega), if_neg (by omega)]; simp; omega
/-- a lot is told by its capacities -/
theorem cap_inj20 {a b : List Int} (ga : Good a) (gb : Good b) (h : ∀ n, 1 ≤ n → capOf a n = capOf b n) : a = b := by
  refine desc_unique (List.perm_iff_count.mpr fun n => ?_) ga.desc gb.desc
  by_cases c : 1 ≤ n
  · have h1 := cap_count20 a n
    have h2 := cap_count20 b n
    unfold manyOf at h1 h2
    rw [h n c, h (n + 1) (by omega), h (n + 2) (by omega), h2] at h1
    omega
  · rw [List.count_eq_zero.mpr fun z => by have := (ga.rng n z).1; omega, List.count_eq_zero.mpr fun z => by have := (gb.rng n z).1; omega]
theorem cov_anti20 {a b : List Int} (ga : Good a) (gb : Good b) (h1 : Cov a b) (h2 : Cov b a) : a = b :=
  cap_inj20 ga gb fun n hn => Int.le_antisymm (h2 n hn) (h1 n hn)
theorem max20 (l : List Int) : ∃ m, maxA [.tup (iL (l ++ [0]))] = some (.fz (.int m)) ∧ 0 ≤ m ∧ (∀ t ∈ l, t ≤ m) ∧ ∀ p, 0 ≤ p → (∀ t ∈ l, t ≤ p) → m ≤ p := by
  obtain ⟨m, m1, m2, _, m4⟩ := max_of' (l := l ++ [0]) (by simp)
  refine ⟨m, m4, m2 0 (by simp), fun t ht => m2 t (by simp [ht]), fun p hp h => ?_⟩
  rcases List.mem_append.mp m1 with h1 | h1
  · exact h _ h1
  · rw [List.mem_singleton.mp h1]; exact hp
theorem lcov_loop {a b : List Int} (la : a.length ≤ 1000) (lb : b.length ≤ 1000) : ∀ (xs : List Int) (q : Sl), Fre q → ∃ q', Fre q' ∧ forL (tgN 2) bx_u_law_covers_1 (iL xs) [.va (tp a), .va (tp b), q] = if (xs.any fun n => decide (capOf a n < capOf b n)) = true then .rt (.fz (.bl false)) [.va (tp a), .va (tp b), q'] else .nx [.va (tp a), .va (tp b), q']
  | [], q, hq => ⟨q, hq, rfl⟩
  | n :: r, q, hq => by
    have c1 := capacity_of_ok a n (by omega)
    have c2 := capacity_of_ok b n (by omega)
    by_cases h : capOf a n < capOf b n
    · refine ⟨.va (.int n), fre_va _, ?_⟩
      rw [iL_cons, List.any_cons, decide_eq_true h, Bool.true_or, if_pos rfl]
      simp [forL, hq.io, x_u_law_covers_1, c1, c2, h]
    · obtain ⟨q', f, e⟩ := lcov_loop la lb r (.va (.int n)) (fre_va _)
      refine ⟨q', f, ?_⟩
      rw [iL_cons, List.any_cons, decide_eq_false h, Bool.false_or, ← e]
      simp [forL, hq.io, x_u_law_covers_1, c1, c2, h]
def covB (a b : List Int) : Bool := (gapOf a b).isNone
theorem covB_iff {a b : List Int} : covB a b = true ↔ Cov a b := by
  unfold covB; rw [Option.isNone_iff_eq_none, gap_none]
theorem lcov_ok {a b : List Int} (ga : Good a) (gb : Good b) : f_u_law_covers [.va (tp a), .va (tp b)] = .ok (.fz (.bl (covB a b))) [.un, .un] := by
  obtain ⟨m, hm, m0, m1, m2⟩ := max20 b
  have m3 := m2 200 (by decide) fun t ht => (gb.rng t ht).2
  have la := ga.len
  have lb := gb.len
  obtain ⟨q', f, e⟩ := lcov_loop (a := a) (b := b) (by omega) (by omega) (rg 1 m.toNat) .un fre_un
  have o1 : m + 1 < 1000000000 := by omega
  have o2 : -1000000000 < m + 1 := by omega
  have o3 : (m + 1 - 1).toNat = m.toNat := by omega
  have l1 : b.length + 1 ≤ 1000000 := by omega
  have hb : ((rg 1 m.toNat).any fun n => decide (capOf a n < capOf b n)) = !covB a b := by
    rw [Bool.eq_iff_iff, List.any_eq_true, Bool.not_eq_true']
    constructor
    · rintro ⟨n, hn, h⟩
      have hn := rg_mem.mp hn
      have h := of_decide_eq_true h
      cases z : covB a b with
      | false => rfl
      | true => have := covB_iff.mp z n hn.1; omega
    · intro h
      cases g : gapOf a b with
      | none => unfold covB at h; rw [g] at h; cases h
      | some n =>
        obtain ⟨n1, _, n3⟩ := gap_some g
        refine ⟨n, rg_mem.mpr ⟨n1, ?_⟩, decide_eq_true n3⟩
        by_cases c : n ≤ m
        · omega
        · have h0 := cap_hi (b := b) (n := n) fun t ht => by have := m1 t ht; omega
          have := capOf_nn a n
          omega
  rw [hb] at e
  cases hz : covB a b <;> rw [hz] at e
  · have z0 : bx_u_law_covers_0 [.va (tp a), .va (tp b), .un] = .rt (.fz (.bl false)) [.va (tp a), .va (tp b), q'] := by
      rw [Bool.not_false, if_pos rfl] at e
      rw [← e]; simp [x_u_law_covers_0, l1, hm, o1, o2]
    rw [e_u_law_covers, d_u_law_covers]
    simp [z0]
  · have z0 : bx_u_law_covers_0 [.va (tp a), .va (tp b), .un] = .nx [.va (tp a), .va (tp b), q'] := by
      rw [Bool.not_true, if_neg (by decide)] at e
      rw [← e]; simp [x_u_law_covers_0, l1, hm, o1, o2]
    rw [e_u_law_covers, d_u_law_covers, seq_nx z0]
    simp [x_u_law_covers_2]
theorem lc_iff {Ls : List (List Int)} (h : Ls ≠ []) (hg : ∀ l ∈ Ls, Good l) (x : List Int) : Cov x (lcOf Ls) ↔ ∀ l ∈ Ls, Cov x l := by
  constructor
  · intro c l hl n hn
    exact Int.le_trans (lc_cov hg hl n hn) (c n hn)
  · intro c n hn
    rw [cap_lc h hg hn]
    obtain ⟨l, hl, e⟩ := capM_at h n
    rw [e]; exact c l hl n hn
/-- the sum of the sharpest k, by a capacity -/
theorem top_cap : ∀ (a : List Int) (k : Nat), a.Pairwise (· ≥ ·) → (∀ t ∈ a, 1 ≤ t) → ∃ m : Int, 0 ≤ m ∧ topOf a (k : Nat) = capOf a (m + 1) + (k : Int) * m
  | [], k, _, _ => ⟨0, Int.le_refl _, by simp [topOf, capOf_nil]⟩
  | x :: r, 0, hd, h1 => by
    have hx := h1 x (List.mem_cons_self ..)
    refine ⟨x, by omega, ?_⟩
    rw [cap_hi fun t ht => by
      rcases List.mem_cons.mp ht with rfl | ht
      · omega
      · have := (List.pairwise_cons.mp hd).1 t ht; omega]
    simp [topOf]
  | x :: r, k + 1, hd, h1 => by
    obtain ⟨d1, d2⟩ := List.pairwise_cons.mp hd
    have hx := h1 x (List.mem_cons_self ..)
    have t1 : topOf (x :: r) ((k + 1 : Nat) : Int) = x + topOf r (k : Nat) := by unfold topOf; rw [Int.toNat_natCast, Int.toNat_natCast, List.take_succ_cons, List.sum_cons]
    have k1 : ((k + 1 : Nat) : Int) = (k : Int) + 1 := rfl
    obtain ⟨m, m0, e⟩ := top_cap r k d2 fun t ht => h1 t (List.mem_cons_of_mem _ ht)
    by_cases c : m ≤ x
    · refine ⟨m, m0, ?_⟩
      rw [t1, e, capOf_cons, k1, Int.add_mul, Int.one_mul]
      split <;> omega
    · -- then the capacity beyond m is empty; x does it as well
      refine ⟨x, by omega, ?_⟩
      have z1 := cap_hi (b := r) (n := m + 1) fun t ht => by have := d1 t ht; omega
      have z2 := cap_hi (b := x :: r) (n := x + 1) fun t ht => by
        rcases List.mem_cons.mp ht with rfl | ht
        · omega
        · have := d1 t ht; omega
      have z3 := cap_top r k (x + 1) (by omega)
      have z4 := cap_hi (b := r) (n := x + 1) fun t ht => by have := d1 t ht; omega
      rw [t1, e, z1, z2, k1, Int.add_mul, Int.one_mul]
      rw [e, z1, z4, show x + 1 - 1 = x by omega] at z3
      have : (k : Int) * x ≤ (k : Int) * m := Int.mul_le_mul_of_nonneg_left (by omega) (by omega)
      omega
theorem cov_top {a b : List Int} (ga : Good a) (h : Cov a b) (k : Nat) : topOf b (k : Nat) ≤ topOf a (k : Nat) := by
  obtain ⟨m, m0, e⟩ := top_cap a k ga.desc fun t ht => (ga.rng t ht).1
  have h1 := cap_top b k (m + 1) (by omega)
  have h2 := h (m + 1) (by omega)
  rw [show m + 1 - 1 = m by omega] at h1
  omega
theorem gc_iff {Ls : List (List Int)} (h : Ls ≠ []) (hg : ∀ l ∈ Ls, Good l) {x : List Int} (gx : Good x) : Cov (gcOf Ls) x ↔ ∀ l ∈ Ls, Cov l x := by
  constructor
  · intro c l hl n hn
    exact Int.le_trans (c n hn) (gc_cov hg hl n hn)
  · intro c n hn
    rw [flt_take x n gx.desc]
    generalize (x.filter fun t => decide (n ≤ t)).length = k
    have h1 : topOf x (k : Nat) ≤ topM Ls (k : Nat) := by
      obtain ⟨l, hl, e⟩ := topM_at h (k : Nat)
      rw [e]; exact cov_top (hg l hl) (c l hl) k
    have h2 := cap_top (gcOf Ls) k n hn
    rw [top_gc h hg] at h2
    omega
theorem cov_refl20 (a : List Int) : Cov a a := fun _ _ => Int.le_refl _
theorem lc_join {A : List (List Int)} (hA : A ≠ []) (gA : ∀ l ∈ A, Good l) {x : List Int} (gx : Good x) : lcOf [lcOf A, x] = lcOf (A ++ [x]) := by
  have g1 : ∀ l ∈ [lcOf A, x], Good l := fun l hl => by
    simp only [List.mem_cons, List.not_mem_nil, or_false] at hl
    rcases hl with rfl | rfl
    · exact lc_good hA gA
    · exact gx
  have g2 : ∀ l ∈ A ++ [x], Good l := fun l hl => by
    rcases List.mem_append.mp hl with hl | hl
    · exact gA l hl
    · rw [List.mem_singleton.mp hl]; exact gx
  have n2 : A ++ [x] ≠ [] := by simp
  have key : ∀ y, Cov y (lcOf [lcOf A, x]) ↔ Cov y (lcOf (A ++ [x])) := fun y => by
    rw [lc_iff (by simp) g1, lc_iff n2 g2]
    constructor
    · intro h l hl
      rcases List.mem_append.mp hl with hl | hl
      · exact (lc_iff hA gA y).mp (h _ (by simp)) l hl
      · rw [List.mem_singleton.mp hl]; exact h x (by simp)
    · intro h l hl
      simp only [List.mem_cons, List.not_mem_nil, or_false] at hl
      rcases hl with rfl | rfl
      · exact (lc_iff hA gA y).mpr fun l hl => h l (by simp [hl])
      · exact h _ (by simp)
  exact cov_anti20 (lc_good (by simp) g1) (lc_good n2 g2) ((key _).mp (cov_refl20 _)) ((key _).mpr (cov_refl20 _))
theorem gc_join {A : List (List Int)} (hA : A ≠ []) (gA : ∀ l ∈ A, Good l) {x : List Int} (gx : Good x) : gcOf [gcOf A, x] = gcOf (A ++ [x]) := by
  have g1 : ∀ l ∈ [gcOf A, x], Good l := fun l hl => by
    simp only [List.mem_cons, List.not_mem_nil, or_false] at hl
    rcases hl with rfl | rfl
    · exact gc_good hA gA
    · exact gx
  have g2 : ∀ l ∈ A ++ [x], Good l := fun l hl => by
    rcases List.mem_append.mp hl with hl | hl
    · exact gA l hl
    · rw [List.mem_singleton.mp hl]; exact gx
  have n2 : A ++ [x] ≠ [] := by simp
  have key : ∀ y, Good y → (Cov (gcOf [gcOf A, x]) y ↔ Cov (gcOf (A ++ [x])) y) := fun y gy => by
    rw [gc_iff (by simp) g1 gy, gc_iff n2 g2 gy]
    constructor
    · intro h l hl
      rcases List.mem_append.mp hl with hl | hl
      · exact (gc_iff hA gA gy).mp (h _ (by simp)) l hl
      · rw [List.mem_singleton.mp hl]; exact h x (by simp)
    · intro h l hl
      simp only [List.mem_cons, List.not_mem_nil, or_false] at hl
      rcases hl with rfl | rfl
      · exact (gc_iff hA gA gy).mpr fun l hl => h l (by simp [hl])
      · exact h _ (by simp)
  have q1 := gc_good (by simp) g1
  have q2 := gc_good n2 g2
  exact cov_anti20 q1 q2 ((key _ q2).mpr (cov_refl20 _)) ((key _ q1).mp (cov_refl20 _))
theorem lc_one20 {a : List Int} (g : Good a) : lcOf [a] = a := by
  have g1 : ∀ l ∈ [a], Good l := fun l hl => by rw [List.mem_singleton.mp hl]; exact g
  exact cov_anti20 (lc_good (by simp) g1) g (lc_cov g1 (by simp)) ((lc_iff (by simp) g1 a).mpr fun l hl => by rw [List.mem_singleton.mp hl]; exact cov_refl20 a)
theorem gc_one20 {a : List Int} (g : Good a) : gcOf [a] = a := by
  have g1 : ∀ l ∈ [a], Good l := fun l hl => by rw [List.mem_singleton.mp hl]; exact g
  exact cov_anti20 (gc_good (by simp) g1) g ((gc_iff (by simp) g1 g).mpr fun l hl => by rw [List.mem_singleton.mp hl]; exact cov_refl20 a) (gc_cov g1 (by simp))
end S
end

section
set_option Elab.async false
set_option linter.all false
set_option maxRecDepth 100000
namespace S
open PySem L2 KL
/-! ### law_k24 -/
/-! all lots of so much steel -/
def lotsN : Nat → Int → Int → List (List Int)
  | 0, _, _ => []
  | k + 1, t, h => if t = 0 then [[]] else (rg 1 (if h < t then h else t).toNat).flatMap fun v => (lotsN k (t - v) v).map fun r => v :: r
theorem lotsN_len : ∀ (k : Nat) (t h : Int), ∀ l ∈ lotsN k t h, l.length ≤ k
  | 0, t, h, l, hl => by cases hl
  | k + 1, t, h, l, hl => by
    unfold lotsN at hl
    split at hl
    · rw [List.mem_singleton.mp hl]; exact Nat.zero_le _
    · obtain ⟨v, _, hv⟩ := List.mem_flatMap.mp hl
      obtain ⟨r, hr, rfl⟩ := List.mem_map.mp hv
      have := lotsN_len k (t - v) v r hr
      simp; omega
theorem lotsN_cnt : ∀ k : Fin 15, ∀ t : Fin 11, ∀ h : Fin 11, (lotsN k.val (t.val : Int) (h.val : Int)).length ≤ 1000 := by decide +kernel
theorem cntN {k : Nat} {t h : Int} (hk : k < 15) (t0 : 0 ≤ t) (t1 : t ≤ 10) (h0 : 0 ≤ h) (h1 : h ≤ 10) : (lotsN k t h).length ≤ 1000 := by
  have := lotsN_cnt ⟨k, hk⟩ ⟨t.toNat, by omega⟩ ⟨h.toNat, by omega⟩
  simp only at this
  rw [Int.toNat_of_nonneg t0, Int.toNat_of_nonneg h0] at this
  exact this
theorem lots_in (R : M Vl) (A B : Sl) (v : Int) : ∀ (Ls acc : List (List Int)) (q4 : Sl), Fre q4 → acc.length + Ls.length ≤ 1000000 → (∀ l ∈ Ls, l.length ≤ 1000) → ∃ t4, Fre t4 ∧ forL (tgN 4) (bx_u_law_lots_4 R) (Ls.map tp) [A, B, .ow (acc.map tp), .va (.int v), q4] = .nx [A, B, .ow ((acc ++ Ls.map fun r => v :: r).map tp), .va (.int v), t4]
  | [], acc, q4, h4, _, _ => ⟨q4, h4, by simp [forL]⟩
  | l :: Ls, acc, q4, h4, hl, hg => by
    rw [List.length_cons] at hl
    have l1 := hg l (List.mem_cons_self ..)
    obtain ⟨t4, f4, e⟩ := lots_in R A B v Ls (acc ++ [v :: l]) (.va (tp l)) (fre_va (tp l)) (by simp; omega) fun m hm => hg m (List.mem_cons_of_mem _ hm)
    refine ⟨t4, f4, ?_⟩
    have tg : tgN 4 (tp l) [A, B, .ow (acc.map tp), .va (.int v), q4] = .nx [A, B, .ow (acc.map tp), .va (.int v), .va (tp l)] := by simp [h4.io]
    have ad : addP (.tup [.int v]) (tp l) = some (.fz (tp (v :: l))) := by
      have : 1 + l.length ≤ 1000000 := by omega
      simp [this]
      rfl
    have ln : (acc.map tp).length < 1000000 := by rw [List.length_map]; omega
    have ap : acc.map tp ++ [tp (v :: l)] = (acc ++ [v :: l]).map tp := by simp
    have z : bx_u_law_lots_4 R [A, B, .ow (acc.map tp), .va (.int v), .va (tp l)] = .nx [A, B, .ow ((acc ++ [v :: l]).map tp), .va (.int v), .va (tp l)] := by
      rw [← ap]
      generalize acc.map tp = Y at *
      generalize tp (v :: l) = W at *
      generalize tp l = V at *
      simp [x_u_law_lots_4, ad, ln]
    rw [List.map_cons]
    simp only [forL, tg, z, e]
    simp
theorem lots_out (R : M Vl) (h t : Int) (F : Int → List (List Int)) : ∀ (xs : List Int) (acc : List (List Int)) (q3 q4 : Sl), Fre q3 → Fre q4 → (∀ v ∈ xs, R [.va (.int (t - v)), .va (.int v)] = .ok (.fr ((F v).map tp)) [.un, .un] ∧ (F v).length ≤ 1000 ∧ ∀ l ∈ F v, l.length ≤ 1000) → acc.length + 1000 * xs.length ≤ 1000000 → ∃ t3 t4, forL (tgN 3) (bx_u_law_lots_3 R) (iL xs) [.va (.int t), .va (.int h), .ow (acc.map tp), q3, q4] = .nx [.va (.int t), .va (.int h), .ow ((acc ++ xs.flatMap fun v => (F v).map fun r => v :: r).map tp), t3, t4]
  | [], acc, q3, q4, _, _, _, _ => ⟨q3, q4, by simp [forL]⟩
  | v :: xs, acc, q3, q4, h3, h4, hF, hl => by
    rw [List.length_cons] at hl
    obtain ⟨f1, f2, f3⟩ := hF v (List.mem_cons_self ..)
    obtain ⟨u4, g4, e⟩ := lots_in R (.va (.int t)) (.va (.int h)) v (F v) acc q4 h4 (by omega) f3
    obtain ⟨t3, t4, e2⟩ := lots_out R h t F xs (acc ++ (F v).map fun r => v :: r) (.va (.int v)) u4 (fre_va _) g4 (fun w hw => hF w (List.mem_cons_of_mem _ hw)) (by simp; omega)
    refine ⟨t3, t4, ?_⟩
    have tg : tgN 3 (.int v) [.va (.int t), .va (.int h), .ow (acc.map tp), q3, q4] = .nx [.va (.int t), .va (.int h), .ow (acc.map tp), .va (.int v), q4] := by simp [h3.io]
    have z : bx_u_law_lots_3 R [.va (.int t), .va (.int h), .ow (acc.map tp), .va (.int v), q4] = .nx [.va (.int t), .va (.int h), .ow ((acc ++ (F v).map fun r => v :: r).map tp), .va (.int v), u4] := by
      rw [← e, x_u_law_lots_3, forS_ap]
      generalize bx_u_law_lots_4 R = bd at *
      generalize (F v).map tp = Y at *
      simp [f1]
    rw [iL_cons]
    simp only [forL, tg, z, e2]
    simp
theorem lots_ok : ∀ (k : Nat) (t h : Int), k < 15 → 0 ≤ t → t < k → t ≤ 10 → 0 ≤ h → h ≤ 10 → r_u_law_lots k [.va (.int t), .va (.int h)] = .ok (.fr ((lotsN k t h).map tp)) [.un, .un]
  | 0, t, h, _, _, hk, _, _, _ => by omega
  | k + 1, t, h, k1, t0, hk, t1, h0, h1 => by
    rw [e_u_law_lots]
    by_cases c : t = 0
    · subst c
      simp [d_u_law_lots, x_u_law_lots_0, lotsN]
    · have mh : (if h < t then h else t) ≤ t ∧ (if h < t then h else t) ≤ h ∧ 0 ≤ (if h < t then h else t) := by split <;> omega
      have mp := minP2_ap t h
      unfold lotsN
      rw [if_neg c]
      generalize (if h < t then h else t) = m at *
      obtain ⟨t3, t4, e⟩ := lots_out (r_u_law_lots k) h t (fun v => lotsN k (t - v) v) (rg 1 m.toNat) [] .un .un fre_un fre_un (fun v hv => by
        have hv := rg_mem.mp hv
        exact ⟨lots_ok k (t - v) v (by omega) (by omega) (by omega) (by omega) (by omega) (by omega), cntN (by omega) (by omega) (by omega) (by omega) (by omega), fun l hl => by have := lotsN_len k _ _ l hl; omega⟩) (by rw [rg_len]; simp; omega)
      rw [List.nil_append] at e
      have z0 : bx_u_law_lots_0 (r_u_law_lots k) [.va (.int t), .va (.int h), .un, .un, .un] = .nx [.va (.int t), .va (.int h), .un, .un, .un] := by
        simp [x_u_law_lots_0, c]
      have z1 : bx_u_law_lots_1 (r_u_law_lots k) [.va (.int t), .va (.int h), .un, .un, .un] = .nx [.va (.int t), .va (.int h), .ow [], .un, .un] := by
        simp [x_u_law_lots_1]
      have o1 : m + 1 < 1000000000 := by omega
      have o2 : -1000000000 < m + 1 := by omega
      have o3 : (m + 1 - 1).toNat = m.toNat := by omega
      have z2 : bx_u_law_lots_2 (r_u_law_lots k) [.va (.int t), .va (.int h), .ow [], .un, .un] = .nx [.va (.int t), .va (.int h), .ow (((rg 1 m.toNat).flatMap fun v => (lotsN k (t - v) v).map fun r => v :: r).map tp), t3, t4] := by
        rw [← e, x_u_law_lots_2, forS_ap]
        generalize bx_u_law_lots_3 (r_u_law_lots k) = bd at *
        simp [-minP2_ap, mp, o1, o2]
      rw [d_u_law_lots, seq_nx z0, seq_nx z1, seq_nx z2]
      simp [x_u_law_lots_5]
def every24 : List (List Int) := (rg 0 11).flatMap fun t => lotsN 14 t t
theorem every_good : ∀ l ∈ every24, Good l := by decide +kernel
theorem every_len : every24.length ≤ 1000 := by decide +kernel
theorem allP_bl {α : Type} (f : α → Bool) (xs : List α) : allP [.lst (xs.map fun l => .bl (f l))] = some (.fz (.bl (xs.all f))) := by
  have : (xs.map fun l => D.bl (f l)) = (xs.map f).map D.bl := by rw [List.map_map]; rfl
  rw [this, allP_ap, bls_some]
  show some (Vl.fz (.bl ((xs.map f).all id))) = _
  rw [List.all_map]; rfl
theorem pkL_map {α β : Type} (f : α → β) (k : Int) (xs : List α) : pkL k (xs.map f) = (pkL k xs).map f := by
  unfold pkL
  rw [List.length_map, List.map_filterMap]
  congr 1
  funext i
  rw [List.getElem?_map]
abbrev k24b1 : SM := seqS bx_u_law_good_k24_2 (seqS bx_u_law_good_k24_3 bx_u_law_good_k24_4)
theorem k24_one {Ls : List (List Int)} (h : Ls ≠ []) (hl : Ls.length ≤ 20) (hg : ∀ l ∈ Ls, Good l) {x : List Int} (gx : Good x) (E : D) (s5 s6 : Sl) (h5 : Fre s5) (h6 : Fre s6) : ∃ t5 t6, Fre t5 ∧ Fre t6 ∧ k24b1 [.va (.lst (Ls.map tp)), .va E, .va (tp x), .va (tp (lcOf Ls)), .va (tp (gcOf Ls)), s5, s6, .un, .un, .un] = .nx [.va (.lst (Ls.map tp)), .va E, .va (tp x), .va (tp (lcOf Ls)), .va (tp (gcOf Ls)), t5, t6, .un, .un, .un] := by
  have c1 := fun l (m : l ∈ Ls) => lcov_ok gx (hg l m)
  have c2 := fun l (m : l ∈ Ls) => lcov_ok (hg l m) gx
  have d1 := lcov_ok gx (lc_good h hg)
  have d2 := lcov_ok (gc_good h hg) gx
  have e1 : (Ls.all fun l => covB x l) = covB x (lcOf Ls) := by
    rw [Bool.eq_iff_iff, List.all_eq_true, covB_iff, lc_iff h hg]
    exact ⟨fun a l hl => covB_iff.mp (a l hl), fun a l hl => covB_iff.mpr (a l hl)⟩
  have e2 : (Ls.all fun l => covB l x) = covB (gcOf Ls) x := by
    rw [Bool.eq_iff_iff, List.all_eq_true, covB_iff, gc_iff h hg gx]
    exact ⟨fun a l hl => covB_iff.mp (a l hl), fun a l hl => covB_iff.mpr (a l hl)⟩
  have a1 := allP_bl (fun l => covB x l) Ls
  have a2 := allP_bl (fun l => covB l x) Ls
  rw [e1] at a1
  rw [e2] at a2
  have le1 := fun (S5 S6 : Sl) => lcE_all (v := 9) (it := itE (nmE 0)) (e := callV 2 f_u_law_covers [] (aCons (frz (nmE 2)) (aCons (frz (nmE 9)) (aNil)))) (ρ := [.va (.lst (Ls.map tp)), .va E, .va (tp x), .va (tp (lcOf Ls)), .va (tp (gcOf Ls)), S5, S6, .un, .un, .un]) (ρ1 := [.va (.lst (Ls.map tp)), .va E, .va (tp x), .va (tp (lcOf Ls)), .va (tp (gcOf Ls)), S5, S6, .un, .un, .un]) (enc := tp) (fun l => .bl (covB x l)) Ls (by simp) rfl (by omega) fun l hl => ⟨.fz (.bl (covB x l)), rfl, by
    have := c1 l hl
    generalize tp l = W at *
    generalize tp x = V at *
    simp [this]⟩
  have le2 := fun (S5 S6 : Sl) => lcE_all (v := 9) (it := itE (nmE 0)) (e := callV 2 f_u_law_covers [] (aCons (frz (nmE 9)) (aCons (frz (nmE 2)) (aNil)))) (ρ := [.va (.lst (Ls.map tp)), .va E, .va (tp x), .va (tp (lcOf Ls)), .va (tp (gcOf Ls)), S5, S6, .un, .un, .un]) (ρ1 := [.va (.lst (Ls.map tp)), .va E, .va (tp x), .va (tp (lcOf Ls)), .va (tp (gcOf Ls)), S5, S6, .un, .un, .un]) (enc := tp) (fun l => .bl (covB l x)) Ls (by simp) rfl (by omega) fun l hl => ⟨.fz (.bl (covB l x)), rfl, by
    have := c2 l hl
    generalize tp l = W at *
    generalize tp x = V at *
    simp [this]⟩
  clear c1 c2
  generalize covB x (lcOf Ls) = B1 at *
  generalize covB (gcOf Ls) x = B2 at *
  generalize (Ls.map fun l => D.bl (covB x l)) = Y1 at *
  generalize (Ls.map fun l => D.bl (covB l x)) = Y2 at *
  generalize tp (lcOf Ls) = L at *
  generalize tp (gcOf Ls) = G at *
  generalize tp x = V at *
  generalize Ls.map tp = A at *
  refine ⟨.va (.bl B1), .va (.bl B2), fre_va _, fre_va _, ?_⟩
  have z2 : bx_u_law_good_k24_2 [.va (.lst A), .va E, .va V, .va L, .va G, s5, s6, .un, .un, .un] = .nx [.va (.lst A), .va E, .va V, .va L, .va G, .va (.bl B1), s6, .un, .un, .un] := by
    have := le1 s5 s6
    simp [x_u_law_good_k24_2, this, -allP_ap, a1, h5.io]
  have z3 : bx_u_law_good_k24_3 [.va (.lst A), .va E, .va V, .va L, .va G, .va (.bl B1), s6, .un, .un, .un] = .nx [.va (.lst A), .va E, .va V, .va L, .va G, .va (.bl B1), .va (.bl B2), .un, .un, .un] := by
    have := le2 (.va (.bl B1)) s6
    simp [x_u_law_good_k24_3, this, -allP_ap, a2, h6.io]
  have z4 : bx_u_law_good_k24_4 [.va (.lst A), .va E, .va V, .va L, .va G, .va (.bl B1), .va (.bl B2), .un, .un, .un] = .nx [.va (.lst A), .va E, .va V, .va L, .va G, .va (.bl B1), .va (.bl B2), .un, .un, .un] := by
    simp [x_u_law_good_k24_4, d1, d2]
  rw [k24b1, seq_nx z2, seq_nx z3, z4]
abbrev k24b2 : SM := seqS bx_u_law_good_k24_6 bx_u_law_good_k24_7
theorem k24_two {l g x : List Int} (gl : Good l) (gg : Good g) (gx : Good x) (A E : D) (s5 s6 : Sl) : k24b2 [.va A, .va E, .va (tp x), .va (tp l), .va (tp g), s5, s6, .un, .un, .un] = .nx [.va A, .va E, .va (tp x), .va (tp l), .va (tp g), s5, s6, .un, .un, .un] := by
  have d1 := lcov_ok gx gl
  have d2 := lcov_ok gg gx
  have c1 : f_covers [.va (tp x), .va (tp l)] = .ok (.fz (.bl (covB x l))) [.un, .un] := covers_ok gx gl
  have c2 : f_covers [.va (tp g), .va (tp x)] = .ok (.fz (.bl (covB g x))) [.un, .un] := covers_ok gg gx
  generalize covB x l = B1 at *
  generalize covB g x = B2 at *
  generalize tp l = L at *
  generalize tp g = G at *
  generalize tp x = V at *
  have z6 : bx_u_law_good_k24_6 [.va A, .va E, .va V, .va L, .va G, s5, s6, .un, .un, .un] = .nx [.va A, .va E, .va V, .va L, .va G, s5, s6, .un, .un, .un] := by simp [x_u_law_good_k24_6, c1, d1]
  have z7 : bx_u_law_good_k24_7 [.va A, .va E, .va V, .va L, .va G, s5, s6, .un, .un, .un] = .nx [.va A, .va E, .va V, .va L, .va G, s5, s6, .un, .un, .un] := by simp [x_u_law_good_k24_7, c2, d2]
  rw [k24b2, seq_nx z6, z7]
theorem k24_join (S0 S1 S3 S4 S5 S6 S9 : Sl) : ∀ (r A : List (List Int)) (q2 : Sl), Fre q2 → A ≠ [] → (∀ l ∈ A, Good l) → (∀ l ∈ r, Good l) → ∃ t2, forL (tgN 2) bx_u_law_good_k24_10 (r.map tp) [S0, S1, q2, S3, S4, S5, S6, .va (tp (lcOf A)), .va (tp (gcOf A)), S9] = .nx [S0, S1, t2, S3, S4, S5, S6, .va (tp (lcOf (A ++ r))), .va (tp (gcOf (A ++ r))), S9]
  | [], A, q2, _, _, _, _ => ⟨q2, by simp [forL]⟩
  | x :: r, A, q2, h2, hA, gA, gr => by
    have gx := gr x (List.mem_cons_self ..)
    have gA2 : ∀ l ∈ A ++ [x], Good l := fun l hl => by
      rcases List.mem_append.mp hl with hl | hl
      · exact gA l hl
      · rw [List.mem_singleton.mp hl]; exact gx
    obtain ⟨t2, e⟩ := k24_join S0 S1 S3 S4 S5 S6 S9 r (A ++ [x]) (.va (tp x)) (fre_va (tp x)) (by simp) gA2 fun l hl => gr l (List.mem_cons_of_mem _ hl)
    refine ⟨t2, ?_⟩
    have tg : tgN 2 (tp x) [S0, S1, q2, S3, S4, S5, S6, .va (tp (lcOf A)), .va (tp (gcOf A)), S9] = .nx [S0, S1, .va (tp x), S3, S4, S5, S6, .va (tp (lcOf A)), .va (tp (gcOf A)), S9] := by simp [h2.io]
    have g1 : ∀ l ∈ [lcOf A, x], Good l := fun l hl => by
      simp only [List.mem_cons, List.not_mem_nil, or_false] at hl
      rcases hl with rfl | rfl
      · exact lc_good hA gA
      · exact gx
    have g2 : ∀ l ∈ [gcOf A, x], Good l := fun l hl => by
      simp only [List.mem_cons, List.not_mem_nil, or_false] at hl
      rcases hl with rfl | rfl
      · exact gc_good hA gA
      · exact gx
    have f1 : f_least_cover [.va (.lst [tp (lcOf A), tp x])] = .ok (.fz (tp (lcOf (A ++ [x])))) [.un] := by
      rw [← lc_join hA gA gx]
      exact least_cover_ok (Ls := [lcOf A, x]) (by simp) (by simp) g1
    have f2 : f_greatest_covered [.va (.lst [tp (gcOf A), tp x])] = .ok (.fz (tp (gcOf (A ++ [x])))) [.un] := by
      rw [← gc_join hA gA gx]
      exact greatest_covered_ok (Ls := [gcOf A, x]) (by simp) (by simp) g2
    have z : bx_u_law_good_k24_10 [S0, S1, .va (tp x), S3, S4, S5, S6, .va (tp (lcOf A)), .va (tp (gcOf A)), S9] = .nx [S0, S1, .va (tp x), S3, S4, S5, S6, .va (tp (lcOf (A ++ [x]))), .va (tp (gcOf (A ++ [x]))), S9] := by
      generalize tp (lcOf (A ++ [x])) = W1 at *
      generalize tp (gcOf (A ++ [x])) = W2 at *
      generalize tp (lcOf A) = U1 at *
      generalize tp (gcOf A) = U2 at *
      generalize tp x = V at *
      simp [x_u_law_good_k24_10, f1, f2]
    rw [List.map_cons]
    simp only [forL, tg, z, e]
    rw [List.append_assoc, List.singleton_append]
theorem k24_good {Ls every : List (List Int)} (h : Ls ≠ []) (hl : Ls.length ≤ 20) (hg : ∀ l ∈ Ls, Good l) (he : ∀ l ∈ every, Good l) (hel : every.length ≤ 1000) : f_u_law_good_k24 [.va (.lst (Ls.map tp)), .va (.lst (every.map tp))] = .ok (.fz (.bl true)) [.un, .un] := by
  have f1 := least_cover_ok h hl hg
  have f2 := greatest_covered_ok h hl hg
  have gl := lc_good h hg
  have gg := gc_good h hg
  have z0 : bx_u_law_good_k24_0 [.va (.lst (Ls.map tp)), .va (.lst (every.map tp)), .un, .un, .un, .un, .un, .un, .un, .un] = .nx [.va (.lst (Ls.map tp)), .va (.lst (every.map tp)), .un, .va (tp (lcOf Ls)), .va (tp (gcOf Ls)), .un, .un, .un, .un, .un] := by
    generalize tp (lcOf Ls) = L at *
    generalize tp (gcOf Ls) = G at *
    generalize Ls.map tp = A at *
    generalize every.map tp = E at *
    simp [x_u_law_good_k24_0, f1, f2]
  obtain ⟨ρ1, e1, t2, t5, t6, g2, g5, g6, rfl⟩ := forL_wp (enc := tp) (tg := tgN 2) (b := k24b1) (fun ρ => ∃ t2 t5 t6, Fre t2 ∧ Fre t5 ∧ Fre t6 ∧ ρ = [.va (.lst (Ls.map tp)), .va (.lst (every.map tp)), t2, .va (tp (lcOf Ls)), .va (tp (gcOf Ls)), t5, t6, .un, .un, .un]) every [.va (.lst (Ls.map tp)), .va (.lst (every.map tp)), .un, .va (tp (lcOf Ls)), .va (tp (gcOf Ls)), .un, .un, .un, .un, .un] ⟨.un, .un, .un, fre_un, fre_un, fre_un, rfl⟩ fun x ρ hx ⟨t2, t5, t6, g2, g5, g6, e⟩ => by
    subst e
    obtain ⟨u5, u6, k5, k6, e⟩ := k24_one h hl hg (he x hx) (.lst (every.map tp)) t5 t6 g5 g6
    exact ⟨_, _, by simp [g2.io], .inl e, _, u5, u6, fre_va (tp x), k5, k6, rfl⟩
  have z1 : bx_u_law_good_k24_1 [.va (.lst (Ls.map tp)), .va (.lst (every.map tp)), .un, .va (tp (lcOf Ls)), .va (tp (gcOf Ls)), .un, .un, .un, .un, .un] = .nx [.va (.lst (Ls.map tp)), .va (.lst (every.map tp)), t2, .va (tp (lcOf Ls)), .va (tp (gcOf Ls)), t5, t6, .un, .un, .un] := by
    rw [← e1, x_u_law_good_k24_1, forS_ap]
    simp
  obtain ⟨ρ2, e2, u2, k2, rfl⟩ := forL_wp (enc := tp) (tg := tgN 2) (b := k24b2) (fun ρ => ∃ t2, Fre t2 ∧ ρ = [.va (.lst (Ls.map tp)), .va (.lst (every.map tp)), t2, .va (tp (lcOf Ls)), .va (tp (gcOf Ls)), t5, t6, .un, .un, .un]) (pkL 7 every) [.va (.lst (Ls.map tp)), .va (.lst (every.map tp)), t2, .va (tp (lcOf Ls)), .va (tp (gcOf Ls)), t5, t6, .un, .un, .un] ⟨t2, g2, rfl⟩ fun x ρ hx ⟨t2, g2, e⟩ => by
    subst e
    exact ⟨_, _, by simp [g2.io], .inl (k24_two gl gg (he x (pkL_mem hx)) _ _ t5 t6), _, fre_va (tp x), rfl⟩
  have z5 : bx_u_law_good_k24_5 [.va (.lst (Ls.map tp)), .va (.lst (every.map tp)), t2, .va (tp (lcOf Ls)), .va (tp (gcOf Ls)), t5, t6, .un, .un, .un] = .nx [.va (.lst (Ls.map tp)), .va (.lst (every.map tp)), u2, .va (tp (lcOf Ls)), .va (tp (gcOf Ls)), t5, t6, .un, .un, .un] := by
    rw [← e2, ← pkL_map, x_u_law_good_k24_5, forS_ap]
    simp
  obtain ⟨a, r, rfl⟩ : ∃ a r, Ls = a :: r := by
    cases Ls with
    | nil => exact absurd rfl h
    | cons a r => exact ⟨a, r, rfl⟩
  have ga := hg a (List.mem_cons_self ..)
  obtain ⟨v2, e9⟩ := k24_join (.va (.lst ((a :: r).map tp))) (.va (.lst (every.map tp))) (.va (tp (lcOf (a :: r)))) (.va (tp (gcOf (a :: r)))) t5 t6 .un r [a] u2 k2 (by simp) (fun l hl => by rw [List.mem_singleton.mp hl]; exact ga) fun l hl => hg l (List.mem_cons_of_mem _ hl)
  rw [lc_one20 ga, gc_one20 ga] at e9
  have z8 : bx_u_law_good_k24_8 [.va (.lst ((a :: r).map tp)), .va (.lst (every.map tp)), u2, .va (tp (lcOf (a :: r))), .va (tp (gcOf (a :: r))), t5, t6, .un, .un, .un] = .nx [.va (.lst ((a :: r).map tp)), .va (.lst (every.map tp)), u2, .va (tp (lcOf (a :: r))), .va (tp (gcOf (a :: r))), t5, t6, .va (tp a), .va (tp a), .un] := by
    rw [List.map_cons]
    generalize tp a = V at *
    simp [x_u_law_good_k24_8]
  have z9 : bx_u_law_good_k24_9 [.va (.lst ((a :: r).map tp)), .va (.lst (every.map tp)), u2, .va (tp (lcOf (a :: r))), .va (tp (gcOf (a :: r))), t5, t6, .va (tp a), .va (tp a), .un] = .nx [.va (.lst ((a :: r).map tp)), .va (.lst (every.map tp)), v2, .va (tp (lcOf (a :: r))), .va (tp (gcOf (a :: r))), t5, t6, .va (tp (lcOf (a :: r))), .va (tp (gcOf (a :: r))), .un] := by
    rw [List.singleton_append] at e9
    rw [← e9]
    have cd : cutD ((a :: r).map tp) (some 1) none = r.map tp := by rw [cutD_from _ (by decide)]; rfl
    generalize (a :: r).map tp = A at *
    generalize r.map tp = R at *
    generalize tp a = V at *
    generalize tp (lcOf (a :: r)) = L at *
    generalize tp (gcOf (a :: r)) = G at *
    rw [x_u_law_good_k24_9, forS_ap]
    generalize bx_u_law_good_k24_10 = bd at *
    simp [cd]
  rw [e_u_law_good_k24, d_u_law_good_k24, seq_nx z0, seq_nx z1, seq_nx z5, seq_nx z8, seq_nx z9]
  simp [x_u_law_good_k24_11]
/-! the law -/
theorem k24_every (S0 S3 S4 S5 S6 S7 : Sl) : ∀ (xs : List Int) (acc : List (List Int)) (q2 : Sl), Fre q2 → (∀ t ∈ xs, 0 ≤ t ∧ t ≤ 10) → acc.length + 1000 * xs.length ≤ 1000000 → ∃ t2, Fre t2 ∧ forL (tgN 2) bx_law_k24_2 (iL xs) [S0, .ow (acc.map tp), q2, S3, S4, S5, S6, S7] = .nx [S0, .ow ((acc ++ xs.flatMap fun t => lotsN 14 t t).map tp), t2, S3, S4, S5, S6, S7]
  | [], acc, q2, h2, _, _ => ⟨q2, h2, by simp [forL]⟩
  | t :: xs, acc, q2, h2, ht, hl => by
    obtain ⟨t0, t1⟩ := ht t (List.mem_cons_self ..)
    rw [List.length_cons] at hl
    have lt : f_u_law_lots [.va (.int t), .va (.int t)] = .ok (.fr ((lotsN 14 t t).map tp)) [.un, .un] := lots_ok 14 t t (by omega) t0 (by omega) t1 t0 t1
    have ln := cntN (k := 14) (t := t) (h := t) (by omega) t0 t1 t0 t1
    obtain ⟨t2, f2, e⟩ := k24_every S0 S3 S4 S5 S6 S7 xs (acc ++ lotsN 14 t t) (.va (.int t)) (fre_va _) (fun u hu => ht u (List.mem_cons_of_mem _ hu)) (by simp; omega)
    refine ⟨t2, f2, ?_⟩
    have tg : tgN 2 (.int t) [S0, .ow (acc.map tp), q2, S3, S4, S5, S6, S7] = .nx [S0, .ow (acc.map tp), .va (.int t), S3, S4, S5, S6, S7] := by simp [h2.io]
    have lm : (acc.map tp).length + ((lotsN 14 t t).map tp).length ≤ 1000000 := by rw [List.length_map, List.length_map]; omega
    have z : bx_law_k24_2 [S0, .ow (acc.map tp), .va (.int t), S3, S4, S5, S6, S7] = .nx [S0, .ow ((acc ++ lotsN 14 t t).map tp), .va (.int t), S3, S4, S5, S6, S7] := by
      rw [List.map_append]
      generalize (lotsN 14 t t).map tp = Y at *
      generalize acc.map tp = W at *
      simp [x_law_k24_2, lt, lm]
    rw [iL_cons]
    simp only [forL, tg, z, e]
    rw [List.flatMap_cons, List.append_assoc]
theorem k24_wh {l : List Int} (g : Good l) (s0 s1 s2 s3 s4 s5 s6 : Sl) : ∃ l', Good l' ∧ bx_law_k24_8 [s0, s1, s2, s3, s4, s5, s6, .va (tp l)] = .nx [s0, s1, s2, s3, s4, s5, s6, .va (tp l')] := by
  have gl := g.len
  obtain ⟨ρ', e, l', g', rfl, _⟩ := whS_inv (c := tst (KL.bin gtP (frz (callB sumP (aCons (nmO 7) (aNil)))) (frz (cE (.int 8))))) (b := bx_law_k24_9) (fun k ρ => ∃ l, Good l ∧ ρ = [s0, s1, s2, s3, s4, s5, s6, .va (tp l)] ∧ (if k = 0 then l.sum ≤ 8 else k = l.length + 1)) 1000 (l.length + 1) [s0, s1, s2, s3, s4, s5, s6, .va (tp l)] (by omega) ⟨l, g, rfl, by rw [if_neg (by omega)]⟩ fun k ρ ⟨l, g, e, hk⟩ => by
    subst e
    have hl := g.len
    by_cases c : l.sum ≤ 8
    · have c' : ¬ 8 < l.sum := by omega
      exact .inl ⟨[s0, s1, s2, s3, s4, s5, s6, .va (tp l)], by simp [c'], l, g, rfl, by rw [if_pos rfl]; exact c⟩
    · have c' : 8 < l.sum := by omega
      have k0 : k ≠ 0 := fun z => by rw [if_pos z] at hk; exact c hk
      rw [if_neg k0] at hk
      cases l with
      | nil => simp at c
      | cons x r =>
        have g2 : Good r := ⟨fun t ht => g.rng t (List.mem_cons_of_mem _ ht), (List.pairwise_cons.mp g.desc).2, by have := g.len; simp at this; omega, by
          have := g.sum
          have hx := (g.rng x (List.mem_cons_self ..)).1
          rw [List.sum_cons] at this; omega⟩
        have c2 : 8 < x + r.sum := by rw [List.sum_cons] at c'; exact c'
        refine .inr ⟨[s0, s1, s2, s3, s4, s5, s6, .va (tp (x :: r))], [s0, s1, s2, s3, s4, s5, s6, .va (tp r)], r.length + 1, by simp [c2], .inl ?_, by rw [hk]; simp, r, g2, rfl, by rw [if_neg (by omega)]⟩
        have cd : cutD (iL (x :: r)) (some 1) none = iL r := by rw [cutD_from _ (by decide)]; rfl
        show bx_law_k24_9 [s0, s1, s2, s3, s4, s5, s6, .va (.tup (iL (x :: r)))] = _
        generalize iL (x :: r) = Y at *
        simp [x_law_k24_9, cd]
  exact ⟨l', g', by rw [x_law_k24_8]; exact e⟩
abbrev k24b3 : SM := seqS bx_law_k24_7 (seqS bx_law_k24_8 bx_law_k24_10)
theorem k24b3_ok {c : Int} (hc : 0 ≤ c) (Ls : List (List Int)) (hl : Ls.length ≤ 10) (hg : ∀ l ∈ Ls, Good l) (s0 s1 s2 s3 s6 s7 : Sl) (h7 : Fre s7) : ∃ c' l t7, 0 ≤ c' ∧ Good l ∧ Fre t7 ∧ k24b3 [s0, s1, s2, s3, .ow [.int c], .ow (Ls.map tp), s6, s7] = .nx [s0, s1, s2, s3, .ow [.int c'], .ow ((Ls ++ [l]).map tp), s6, t7] := by
  obtain ⟨b0, b1, b2⟩ := take1 (m := 3) hc (by decide)
  have tk := @take_ok c 3 (by decide) (by decide)
  obtain ⟨p, hp, hx⟩ := ix3' 2 3 6 b1 b2
  have hx' : (ixA _ (c % 3)).map Vl.fz = _ := hx
  obtain ⟨a, c1, g, l1, l2, n1, e1⟩ := lot_ok (p := p) (n := 4) (c := c / 3) (by omega) (by omega) (by decide) (by decide) b0
  have z7 : bx_law_k24_7 [s0, s1, s2, s3, .ow [.int c], .ow (Ls.map tp), s6, s7] = .nx [s0, s1, s2, s3, .ow [.int c1], .ow (Ls.map tp), s6, .va (tp a)] := by
    simp [x_law_k24_7, tk, -ixA_ap, hx', e1, h7.io]
  obtain ⟨l, gl, z8⟩ := k24_wh g s0 s1 s2 s3 (.ow [.int c1]) (.ow (Ls.map tp)) s6
  have ln : (Ls.map tp).length < 1000000 := by rw [List.length_map]; omega
  have ap : Ls.map tp ++ [tp l] = (Ls ++ [l]).map tp := by simp
  have z10 : bx_law_k24_10 [s0, s1, s2, s3, .ow [.int c1], .ow (Ls.map tp), s6, .va (tp l)] = .nx [s0, s1, s2, s3, .ow [.int c1], .ow ((Ls ++ [l]).map tp), s6, .va (tp l)] := by
    rw [← ap]
    generalize Ls.map tp = Y at *
    generalize tp l = W at *
    simp [x_law_k24_10, ln]
  exact ⟨c1, l, _, n1, gl, fre_va (tp l), by rw [k24b3, seq_nx z7, seq_nx z8, z10]⟩
def EvS (q : Sl) : Prop := q = .ow (every24.map tp) ∨ q = .va (.lst (every24.map tp))
abbrev k24b4 : SM := seqS bx_law_k24_4 (seqS bx_law_k24_5 (seqS bx_law_k24_6 bx_law_k24_11))
theorem k24b4_ok (ns : List Int) (j : Int) (hj : 0 ≤ j) (s1 s2 s4 s5 s6 s7 : Sl) (h1 : EvS s1) (h4 : Wr s4) (h5 : Wr s5) (h6 : Fre s6) (h7 : Fre s7) : ∃ t1 t4 t5 t6 t7, EvS t1 ∧ Wr t4 ∧ Wr t5 ∧ Fre t6 ∧ Fre t7 ∧ k24b4 [.va (.scr ns), s1, s2, .va (.int j), s4, s5, s6, s7] = .nx [.va (.scr ns), t1, s2, .va (.int j), t4, t5, t6, t7] := by
  obtain ⟨c, hc, e1⟩ := cell_ok ns j hj
  have z4 : bx_law_k24_4 [.va (.scr ns), s1, s2, .va (.int j), s4, s5, s6, s7] = .nx [.va (.scr ns), s1, s2, .va (.int j), .ow [.int c], s5, s6, s7] := by
    simp [x_law_k24_4, e1, h4.io]
  have z5 : bx_law_k24_5 [.va (.scr ns), s1, s2, .va (.int j), .ow [.int c], s5, s6, s7] = .nx [.va (.scr ns), s1, s2, .va (.int j), .ow [.int c], .ow [], s6, s7] := by
    simp [x_law_k24_5, h5.io]
  obtain ⟨b0, b1, b2⟩ := take1 (m := 2) hc (by decide)
  have tk := @take_ok c 2 (by decide) (by decide)
  generalize c / 2 = c1 at *
  generalize c % 2 = d at *
  have key : ∀ (xs : List Int) (c : Int) (Ls : List (List Int)) (q6 q7 : Sl), 0 ≤ c → Ls.length + xs.length ≤ 10 → (∀ l ∈ Ls, Good l) → Fre q6 → Fre q7 → ∃ c' Ls' t6 t7, 0 ≤ c' ∧ (Ls' : List (List Int)).length = Ls.length + xs.length ∧ (∀ l ∈ Ls', Good l) ∧ Fre t6 ∧ Fre t7 ∧ forL (tgN 6) k24b3 (iL xs) [.va (.scr ns), s1, s2, .va (.int j), .ow [.int c], .ow (Ls.map tp), q6, q7] = .nx [.va (.scr ns), s1, s2, .va (.int j), .ow [.int c'], .ow (Ls'.map tp), t6, t7] := fun xs => by
    induction xs with
    | nil => intro c Ls q6 q7 hc hl hg h6 h7; exact ⟨c, Ls, q6, q7, hc, rfl, hg, h6, h7, rfl⟩
    | cons x r ih =>
      intro c Ls q6 q7 hc hl hg h6 h7
      rw [List.length_cons] at hl
      obtain ⟨c1, l, t7, n1, gl, f7, e⟩ := k24b3_ok hc Ls (by omega) hg (.va (.scr ns)) s1 s2 (.va (.int j)) (.va (.int x)) q7 h7
      obtain ⟨c2, Ls', u6, u7, n2, a1, a2, k6, k7, e2⟩ := ih c1 (Ls ++ [l]) (.va (.int x)) t7 n1 (by simp; omega) (fun m hm => by
        rcases List.mem_append.mp hm with hm | hm
        · exact hg m hm
        · rw [List.mem_singleton.mp hm]; exact gl) (fre_va _) f7
      refine ⟨c2, Ls', u6, u7, n2, by rw [a1]; simp; omega, a2, k6, k7, ?_⟩
      have tg : tgN 6 (.int x) [.va (.scr ns), s1, s2, .va (.int j), .ow [.int c], .ow (Ls.map tp), q6, q7] = .nx [.va (.scr ns), s1, s2, .va (.int j), .ow [.int c], .ow (Ls.map tp), .va (.int x), q7] := by simp [h6.io]
      rw [iL_cons]
      simp only [forL, tg, e, e2]
  obtain ⟨c2, Ls, t6, t7, n2, a1, a2, f6, f7, e6⟩ := key (rg 0 (2 + d).toNat) c1 [] s6 s7 b0 (by rw [rg_len]; simp; omega) (fun l hl => by cases hl) h6 h7
  rw [rg_len] at a1
  have o1 : 2 + d < 1000000000 := by omega
  have o2 : -1000000000 < 2 + d := by omega
  have z6 : bx_law_k24_6 [.va (.scr ns), s1, s2, .va (.int j), .ow [.int c], .ow [], s6, s7] = .nx [.va (.scr ns), s1, s2, .va (.int j), .ow [.int c2], .ow (Ls.map tp), t6, t7] := by
    have e6' : forL (tgN 6) (seqS bx_law_k24_7 (seqS bx_law_k24_8 bx_law_k24_10)) (iL (rg 0 (2 + d).toNat)) [.va (.scr ns), s1, s2, .va (.int j), .ow [.int c1], .ow [], s6, s7] = .nx [.va (.scr ns), s1, s2, .va (.int j), .ow [.int c2], .ow (Ls.map tp), t6, t7] := e6
    rw [← e6', x_law_k24_6, forS_ap]
    generalize seqS bx_law_k24_7 (seqS bx_law_k24_8 bx_law_k24_10) = bd at *
    simp [tk, o1, o2]
  have hne : Ls ≠ [] := fun z => by rw [z] at a1; simp at a1; omega
  have gd := k24_good (Ls := Ls) (every := every24) hne (by rw [a1]; simp; omega) a2 every_good every_len
  refine ⟨.va (.lst (every24.map tp)), .ow [.int c2], .va (.lst (Ls.map tp)), t6, t7, .inr rfl, wr_ow _, wr_va _, f6, f7, ?_⟩
  have z11 : bx_law_k24_11 [.va (.scr ns), s1, s2, .va (.int j), .ow [.int c2], .ow (Ls.map tp), t6, t7] = .nx [.va (.scr ns), .va (.lst (every24.map tp)), s2, .va (.int j), .ow [.int c2], .va (.lst (Ls.map tp)), t6, t7] := by
    generalize Ls.map tp = Y at *
    rcases h1 with rfl | rfl
    · generalize every24.map tp = W at *
      simp [x_law_k24_11, gd]
    · generalize every24.map tp = W at *
      simp [x_law_k24_11, gd]
  rw [k24b4, seq_nx z4, seq_nx z5, seq_nx z6, z11]
theorem law_k24_ok (ns : List Int) : ∃ ρ, f_law_k24 [.va (.scr ns)] = .ok (.fz (.bl true)) ρ := by
  obtain ⟨t2, f2, ev⟩ := k24_every (.va (.scr ns)) .un .un .un .un .un (rg 0 11) [] .un fre_un (fun t ht => by have := rg_mem.mp ht; omega) (by rw [rg_len]; simp)
  have z0 : bx_law_k24_0 [.va (.scr ns), .un, .un, .un, .un, .un, .un, .un] = .nx [.va (.scr ns), .ow [], .un, .un, .un, .un, .un, .un] := by simp [x_law_k24_0]
  have z1 : bx_law_k24_1 [.va (.scr ns), .ow [], .un, .un, .un, .un, .un, .un] = .nx [.va (.scr ns), .ow (every24.map tp), t2, .un, .un, .un, .un, .un] := by
    rw [List.nil_append] at ev
    show _ = Out.nx [.va (.scr ns), .ow (((rg 0 11).flatMap fun t => lotsN 14 t t).map tp), t2, .un, .un, .un, .un, .un]
    rw [← ev, x_law_k24_1, forS_ap]
    generalize bx_law_k24_2 = bd at *
    simp
  obtain ⟨m, m1, m2, e0⟩ := turns_ok ns 4 (by decide) (by decide) (ρ := [.va (.scr ns), .ow (every24.map tp), t2, .un, .un, .un, .un, .un]) rfl
  obtain ⟨ρ', e1, q1, q3, q4, q5, q6, q7, g1, g3, g4, g5, g6, g7, rfl⟩ := forI_wp (tg := tgN 3) (b := k24b4) (fun ρ => ∃ q1 q3 q4 q5 q6 q7, EvS q1 ∧ Fre q3 ∧ Wr q4 ∧ Wr q5 ∧ Fre q6 ∧ Fre q7 ∧ ρ = [.va (.scr ns), q1, t2, q3, q4, q5, q6, q7]) (rg 0 m) [.va (.scr ns), .ow (every24.map tp), t2, .un, .un, .un, .un, .un] ⟨.ow (every24.map tp), .un, .un, .un, .un, .un, .inl rfl, fre_un, wr_un, wr_un, fre_un, fre_un, rfl⟩ fun j ρ hj ⟨q1, q3, q4, q5, q6, q7, g1, g3, g4, g5, g6, g7, e⟩ => by
    subst e
    have hj := rg_mem.mp hj
    obtain ⟨u1, u4, u5, u6, u7, k1, k4, k5, k6, k7, e⟩ := k24b4_ok ns j hj.1 q1 t2 q4 q5 q6 q7 g1 g4 g5 g6 g7
    exact ⟨_, _, by simp [g3.io], .inl e, u1, _, u4, u5, u6, u7, k1, fre_va (.int j), k4, k5, k6, k7, rfl⟩
  have z3 : bx_law_k24_3 [.va (.scr ns), .ow (every24.map tp), t2, .un, .un, .un, .un, .un] = .nx [.va (.scr ns), q1, t2, q3, q4, q5, q6, q7] := by
    rw [x_law_k24_3, forS_ap, e0]; exact e1
  exact ⟨_, by rw [e_law_k24, d_law_k24, seq_nx z0, seq_nx z1, seq_nx z3, show bx_law_k24_12 [.va (.scr ns), q1, t2, q3, q4, q5, q6, q7] = .rt (.fz (.bl true)) [.va (.scr ns), q1, t2, q3, q4, q5, q6, q7] by simp [x_law_k24_12], fnK_rt]⟩
end S
end

theorem PySem.Challenge.cw_keenlot_k24_whole_bounds_of_lots_holds : PySem.Challenge.rw_keenlot_k24_whole_bounds_of_lots.Holds :=
  k24_of fun ns _ _ => S.law_k24_ok ns
