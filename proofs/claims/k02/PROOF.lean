import PyProof.Rows.All
import Wide.All
import OpenK.AllK
import HandS.AnyAll
import HandS.GenOver
import HandS.Defaults
import Wide.FinOn
import HandS.ForMost
import HandS.ForExc
import HandS.Deep
import HandS.IsInst
import HandS.Flow
import KE.DataEq
import HandS.TupAny
import HandS.TupMul
import HandS.Wide
import HandS.TupLe
import HandS.Style
import HandS.SetFor
import HandS.Remove
import HandS.Zip
import HandS.CallSlots
import HandS.ExcInit
import HandS.ExcOwn
import HandS.ExcIs
import HandS.SortInts
import HandS.Text
import PyProof.SumWalkG
import PyProof.WalksMore
import HandS.SortKw
import PyProof.TupleOfSeq
import HandS.ExcValue
import HandS.Conv
import HandS.HeadHook4
import HandS.EndTab
import HandS.Head2
import HandS.HeadEnd
import PySem.Challenge.RW_keenlot_k02_sums_and_capacities

section
set_option Elab.async false
set_option linter.all false
set_option maxRecDepth 100000
namespace KL
open PySem PySem.Spec PyProof.Rows

/-- none of the generators is lost -/
theorem any_gens {α : Type} {M : Model} {A : Around} {s : Shared} {t : Sem α} {Q : α → Shared → Prop} {E : Value → Shared → Prop} {n : Nat} (hn : n ≤ s.gens.size) (h : wpAny M A t (fun a s' => n ≤ s'.gens.size → Q a s') E s) : wpAny M A t Q E s :=
  GenW.wpAny_gsz hn (wpAny_mono h (fun _ _ z => z) fun _ _ z _ => z)
theorem bare_set {G : Array GenState} {g : Nat} {x : GenState} (h : AllBare G) (hx : x.bare = true) : AllBare (G.setIfInBounds g x) := fun y hy => by
  obtain ⟨i, hi, e⟩ := Array.mem_iff_getElem.mp hy
  have hi' : i < G.size := by simpa using hi
  rw [Array.getElem_setIfInBounds hi'] at e
  split at e
  · rw [← e]; exact hx
  · rw [← e]; exact h _ (Array.getElem_mem _)
/-! ### all(..) of a generator, by what its turns promise -/
section
variable {prog : Program} {w : World} {A : Around}
def Don (Fin : Bool → Shared → Prop) (b : Bool) (s : Shared) : Prop := ∀ (G : Array GenState) (h' : Heap), (∀ c o, s.heap.get? c = some o → h'.get? c = some o) → (AllBare s.gens → AllBare G) → Fin b { s with gens := G, heap := h' }
def GY (a : Addr) (g : Nat) (Fin : Bool → Shared → Prop) : Protocol := fun _ _ v s kap => ∃ b : Bool, v = .bool b ∧ s.heap.IsGen a g ∧ s.heap.NoLimit ∧ g < s.gens.size ∧ (b = false → Don Fin false s) ∧
  (b = true → ∀ G : Array GenState, G.size = s.gens.size → (AllBare s.gens → AllBare G) → kap (.send .none) { s with gens := G })
def GR (Fin : Bool → Shared → Prop) : GenEnd := fun _ _ r s => r = .ok .next ∧ Don Fin true s
theorem all_loop {a : Addr} {g : Nat} {Fin : Bool → Shared → Prop} {Rr : Result → Shared → Prop} (hh : A.handled = none) (hroom : A.depth < recursionLimit) (hR : ∀ b s', Fin b s' → Rr (.ok (.ret (.bool b))) s') :
    ∀ (N : Nat) (s : Shared) (gs : GenState), s.gens[g]? = some gs → s.heap.IsGen a g → s.heap.NoLimit → gs.Goes (model prog w) A.in1.in1 (GR Fin) (GY a g Fin) N (.send .none) (s.setGen g .running) →
      codeAny (model prog w) A (.builtin "all.loop" ⟨[.ref a], []⟩) Rr s := by
  intro N
  induction N with
  | zero =>
    intro s gs hgs hg hl hgo
    refine codeAny_builtin F.entry_all_loop ?_
    rw [Around.under_plainId F.plain_all_loop _]
    show wpAny _ A.in1 (pyNext (.ref a) >>= _) _ _ s
    refine wpAny_bind (wpAny_pyNext_genexpQ (A := A.in1) (P := fun _ _ s => Don Fin true s) hh hl hroom hg hgs hgo (fun v s₁ gs' hb hv => ?_) (fun s₁ hp h' hk => ?_))
    · obtain ⟨b, rfl, _, _, hlt, h0, h1⟩ := hv
      refine wpAny_bind (wpAny_holding (wpAny_truthy_bool ?_))
      refine wpAny_bind (wpAny_letGo ?_)
      cases b with
      | true => exact (h1 rfl s₁.gens rfl id).elim
      | false =>
        simp only [Bool.false_eq_true, if_false]
        exact wpAny_bind (wpAny_rule (wpAny_pure (hR _ _ (h0 rfl _ _ (fun _ _ e => e) fun z => bare_set z hb))))
    · exact wpAny_bind (wpAny_rule (wpAny_pure (hR _ _ (hp _ h' hk fun z => bare_set z rfl))))
  | succ N ih =>
    intro s gs hgs hg hl hgo
    refine codeAny_builtin F.entry_all_loop ?_
    rw [Around.under_plainId F.plain_all_loop _]
    show wpAny _ A.in1 (pyNext (.ref a) >>= _) _ _ s
    refine wpAny_bind (wpAny_pyNext_genexpQ (A := A.in1) (P := fun _ _ s => Don Fin true s) hh hl hroom hg hgs hgo (fun v s₁ gs' hb hv => ?_) (fun s₁ hp h' hk => ?_))
    · obtain ⟨b, rfl, hg1, hl1, hlt, h0, h1⟩ := hv
      refine wpAny_bind (wpAny_holding (wpAny_truthy_bool ?_))
      refine wpAny_bind (wpAny_letGo ?_)
      cases b with
      | true =>
        simp only [if_true]
        refine wpAny_pure ⟨plainId_quiet F.plain_all_loop _, ih _ gs' ?_ hg1 hl1 ?_⟩
        · show (s₁.gens.setIfInBounds g gs')[g]? = some gs'
          simp [hlt]
        · exact h1 rfl ((s₁.gens.setIfInBounds g gs').setIfInBounds g .running) (by simp) fun z => bare_set (bare_set z hb) rfl
      | false =>
        simp only [Bool.false_eq_true, if_false]
        exact wpAny_bind (wpAny_rule (wpAny_pure (hR _ _ (h0 rfl _ _ (fun _ _ e => e) fun z => bare_set z hb))))
    · exact wpAny_bind (wpAny_rule (wpAny_pure (hR _ _ (hp _ h' hk fun z => bare_set z rfl))))
theorem call_all_gen {a : Addr} {g N : Nat} {gs : GenState} {Fin : Bool → Shared → Prop} {Q : Value → Shared → Prop} {E : Value → Shared → Prop} {s : Shared} (hh : A.handled = none) (hroom : A.depth < recursionLimit) (hQ : ∀ b s', Fin b s' → Q (.bool b) s')
    (hgs : s.gens[g]? = some gs) (hg : s.heap.IsGen a g) (hl : s.heap.NoLimit) (hgo : gs.Goes (model prog w) A.in1.in1 (GR Fin) (GY a g Fin) N (.send .none) (s.setGen g .running)) :
    wpAny (model prog w) A (call (.builtin "all") [.ref a]) Q E s := by
  refine call_function_tree F.kind_all F.plain_all F.entry_all (F.args_all1 _) ?_
  unfold Builtin.«all»
  refine wpAny_bind (m := oneArg "all" _) (wpAny_pure ?_)
  refine wpAny_bind (wpAny_pyIter_gen hg ?_)
  exact wpAny_pure ⟨plainId_quiet F.plain_all_loop _, all_loop hh hroom (fun b s' h => hQ b s' h) N s gs hgs hg hl hgo⟩
end
end KL
end

section
set_option Elab.async false
set_option linter.all false
set_option maxRecDepth 100000
namespace KL
open PySem PySem.Spec PyProof.Rows L2

theorem inv_gens {X : Cx} {pins : List (Addr × Obj)} {σ : L2.St} {H : Hp} {s : Shared} {G : Array GenState} (I : Inv X pins σ H s) (h : AllBare G) : Inv X pins σ H { s with gens := G } :=
  ⟨I.ok, I.os, h, I.base, I.loc, I.cell, I.free, I.freeC, I.pin, I.hok, I.len⟩
/-- how the elements of a generator are taken, one by one, till one is false -/
def Turns (J : It) (gt : TG) (te : TE) (vs : List Nat) (σ0 : L2.St) (W : Nat → Nat → Hp → Prop) (Q : VK) : Prop := ∀ i m H, W i m H → (J.stop i H ∧ Q (.bl true) H) ∨
  (J.go i H ∧ ∃ Nx : Hp → Prop, (∀ H', Nx H' → ∃ m', m' < m ∧ W (i + 1) m' H') ∧ ∀ x H', J.yld i H x H' → gt x (wipe σ0 vs) H' fun σ2 H2 => wipe σ2 vs = wipe σ0 vs ∧ te σ2 H2 fun y H4 => ∃ b, y = .bl b ∧ if b = true then Nx H4 else Q (.bl false) H4)
theorem seg_all {X : Cx} {A : Around} {elt tg iter : Expr} {scope : Scope} {pos : Pos} {it a : Addr} {g : Nat} {ob : Obj} {fp : List Addr} {tn : Nat → Heap → Prop} {J : It} {Fin : Bool → Shared → Prop} {gt : TG} {te : TE} {vs : List Nat} {σ0 : L2.St} {W : Nat → Nat → Hp → Prop} {Q : VK}
    (T : Turn X.prog X.w X.K tg J fp it tn) (hc : X.calm = true) (hA : X.A = A.over (.compLoop (.GeneratorExp elt [⟨tg, iter, [], 0⟩] scope pos) 0 (.ref it) .none X.env) []) (hx : X.xe = fun _ _ => False) (hpn : X.pn = [(a, ob)]) (hgen : ∀ h : Heap, h.get? a = some ob → h.IsGen a g)
    (hco : X.env.scope.isCoroutine = false) (pg : PG X tg gt) (pe : PE X elt te) (turn : Turns J gt te vs σ0 W Q) (han : a ∉ fp) (hex : ∀ b ∈ fp, b ∈ X.ex)
    (fin : ∀ b σ' H' s', Inv X [] σ' H' s' → Q (.bl b) H' → Don Fin b s') :
    ∀ (N i m : Nat) (s s₀ : Shared) (H : Hp), m ≤ N → Inv X [] (wipe σ0 vs) H s → tn i s.heap → (∀ b ∈ fp, H b = none) → W i m H → g < s.gens.size →
      Seg (model X.prog X.w) A (GR Fin) (GY a g Fin) (N + 1) s₀ (.compLoop (.GeneratorExp elt [⟨tg, iter, [], 0⟩] scope pos) 0 (.ref it) .none X.env)
        ((model X.prog X.w).den (.compLoop (.GeneratorExp elt [⟨tg, iter, [], 0⟩] scope pos) 0 (.ref it) .none X.env)) [] s := by
  have ev : ∀ {α : Type} {t : Sem α} {Q : α → Shared → Prop} {E : Value → Shared → Prop} {s : Shared}, wpAny (model X.prog X.w) X.A t Q (fun _ _ => False) s → wpAny (model X.prog X.w) (A.over (.compLoop (.GeneratorExp elt [⟨tg, iter, [], 0⟩] scope pos) 0 (.ref it) .none X.env) []) t Q E s := fun h => by
    rw [← hA]; exact wpAny_mono h (fun _ _ z => z) fun _ _ z => z.elim
  have ex : ∀ {α : Type} {t : Sem α} {Q : α → Shared → Prop} {s : Shared}, wpAny (model X.prog X.w) X.A t Q X.xe s → wpAny (model X.prog X.w) X.A t Q (fun _ _ => False) s := fun h => by rw [hx] at h; exact h
  have pin : ∀ {pins : List (Addr × Obj)} {σ' : L2.St} {H' : Hp} {s' : Shared}, Inv X pins σ' H' s' → s'.heap.get? a = some ob := fun I' => (I'.pin (a, ob) (List.mem_append_left _ (by rw [hpn]; simp))).1
  have stat : ∀ {σ' : L2.St} {H' : Hp} {s' : Shared}, Inv X [] σ' H' s' → (∀ b ∈ fp, b ∈ X.ex) → (∀ b ∈ fp, H' b = none) → ∀ b ∈ fp, FpOk X [] H' b := fun I' hex hn b hb =>
    ⟨hn b hb, (I'.ok.exf b (hex b hb)).1, I'.ok.exfs b (hex b hb), .inl (hex b hb), fun x c e => (I'.ok.exf b (hex b hb)).2 x c e, fun p hp => by
      rw [hpn] at hp
      have : p = (a, ob) := by simpa using hp
      rw [this]
      exact fun z => han (by rw [show a = b from z]; exact hb)⟩
  have main : ∀ (N : Nat), (∀ M, N = M + 1 → ∀ (i m : Nat) (s s₀ : Shared) (H : Hp), m ≤ M → Inv X [] (wipe σ0 vs) H s → tn i s.heap → (∀ b ∈ fp, H b = none) → W i m H → g < s.gens.size →
      Seg (model X.prog X.w) A (GR Fin) (GY a g Fin) N s₀ (.compLoop (.GeneratorExp elt [⟨tg, iter, [], 0⟩] scope pos) 0 (.ref it) .none X.env)
        ((model X.prog X.w).den (.compLoop (.GeneratorExp elt [⟨tg, iter, [], 0⟩] scope pos) 0 (.ref it) .none X.env)) [] s) → ∀ (i m : Nat) (s s₀ : Shared) (H : Hp), m ≤ N → Inv X [] (wipe σ0 vs) H s → tn i s.heap → (∀ b ∈ fp, H b = none) → W i m H → g < s.gens.size →
      Seg (model X.prog X.w) A (GR Fin) (GY a g Fin) (N + 1) s₀ (.compLoop (.GeneratorExp elt [⟨tg, iter, [], 0⟩] scope pos) 0 (.ref it) .none X.env)
        ((model X.prog X.w).den (.compLoop (.GeneratorExp elt [⟨tg, iter, [], 0⟩] scope pos) 0 (.ref it) .none X.env)) [] s := by
    intro N ih i m s s₀ H hm I st hn w hg
    show Seg _ A _ _ _ s₀ _ ((compTurn (.GeneratorExp elt [⟨tg, iter, [], 0⟩] scope pos) 0 (.ref it) .none X.env).onRaise (leaving X.env)) [] s
    rw [compTurn_gen, Sem.onRaise_eq_wrap]
    refine seg_bind_wrap (wpAny_standAt ?_)
    rcases turn i m H w with ⟨stop, qq⟩ | ⟨go, Nx, hNx, step⟩
    · refine seg_bind_wrap (ev (wpAny_mono (T.done X rfl rfl rfl hc i [] s _ H (fun _ _ => False) I (stat I hex hn) st stop) (fun r s1 ⟨hr, I1⟩ => ?_) fun _ _ z => z))
      subst hr
      exact seg_end (.ok .next) ⟨rfl, fin true _ _ _ I1 qq⟩
    · refine seg_bind_wrap (ev (any_gens hg (wpAny_mono (T.item X rfl rfl rfl hc i [] s _ H (fun _ _ => False) I (stat I hex hn) st go) (fun r s1 ⟨u, hr, h1⟩ => ?_) fun _ _ z => z)))
      subst hr
      intro hg1
      refine seg_bind_wrap (ev (any_gens hg1 (wpAny_mono h1 (fun _ s2 ⟨x, H2, I2, r2, y2, st2, n2⟩ => ?_) fun _ _ z => z)))
      intro hg2
      have I2' := I2.pinned (stat I2 hex n2) (T.obj _ _ st2)
      refine seg_bind_wrap (ev (any_gens hg2 (wpAny_mono (ex (pg.run _ s2 _ H2 x u _ I2' r2 (step x H2 y2))) (fun _ s3 ⟨σ3, H3, I3, hw3, q3⟩ => ?_) fun _ _ z => z)))
      intro hg3
      simp only [List.forIn_nil]
      refine seg_bind_wrap (wpAny_pure ?_)
      simp only [if_true]
      have hy : ∀ v, yieldOut X.env v = yieldValue v := fun v => by simp only [yieldOut, hco, Bool.false_eq_true, if_false]
      simp only [hy]
      rw [Sem.bind_eq_wrap', Sem.bind_eq_wrap', Sem.wrap_wrap, Sem.wrap_wrap]
      refine seg_wrap (ev (any_gens hg3 (wpAny_mono (ex (pe.run _ s3 σ3 H3 _ I3 q3)) (fun v s4 ⟨y, H4, I4, r4, b, hb, q4⟩ => ?_) fun _ _ z => z)))
      intro hg4
      subst hb
      have hv : v = .bool b := r4
      subst hv
      refine seg_at (seg_yield rfl rfl rfl ⟨b, rfl, hgen _ (pin I4), I4.nolimit, hg4, fun hb => ?_, fun hb G hG hG2 => ?_⟩)
      · subst hb
        exact fin false σ3 H4 s4 (I4.unpinned (pins := [])) q4
      · subst hb
        rw [if_pos rfl] at q4
        obtain ⟨m', hm', w'⟩ := hNx _ q4
        obtain ⟨M, rfl⟩ : ∃ M, N = M + 1 := ⟨N - 1, by omega⟩
        have pin' : ∀ b ∈ fp, ∀ o, s2.heap.get? b = some o → s4.heap.get? b = some o ∧ H4 b = none := fun b hb o e =>
          let z := I4.pin (b, o) (List.mem_append_right _ (List.mem_append_right _ (mem_pinsAt hb e)))
          ⟨z.1, z.2.1⟩
        have hl : (wipe σ0 vs).length = σ3.length := by rw [← hw3, wipe_length]
        have I5 : Inv X [] (wipe σ0 vs) H4 s4 := (I4.unpinned (pins := [])).weak hl (fun j v e => by
          rw [← hw3] at e
          exact (wipe_some e).1)
        refine seg_again rfl (ih M rfl (i + 1) m' _ _ H4 (by omega) (inv_gens I5 (hG2 I5.bare)) (T.keep _ _ _ st2 fun b hb o e => (pin' b hb o e).1) (fun b hb => ?_) w' (by rw [show ({ s4 with gens := G } : Shared).gens = G from rfl, hG]; exact hg4))
        obtain ⟨o, e, _⟩ := T.obj _ _ st2 b hb
        exact (pin' b hb o e).2
  intro N
  induction N with
  | zero => exact main 0 fun M e => by cases e
  | succ N ih => exact main (N + 1) fun M e => by cases e; exact ih
end KL
end

section
set_option Elab.async false
set_option linter.all false
set_option maxRecDepth 100000
namespace KL
open PySem PySem.Spec PyProof.Rows L2

theorem over_gen {A : Around} {elt tg iter : Expr} {scope : Scope} {pos : Pos} {it acc : Value} {cenv : Env} {ifs : List Expr} : A.over (.compLoop (.GeneratorExp elt [⟨tg, iter, ifs, 0⟩] scope pos) 0 it acc cenv) [] = A.deeper cenv := by
  first | rfl | (unfold Around.over Around.deeper; simp)
theorem seg_start {A : Around} {elt tg iter : Expr} {scope : Scope} {pos : Pos} {it : Addr} {P : Program} {w : World} {K : PySem.W.Frag} {J : It} {fp : List Addr} {tn : Nat → Heap → Prop} {R : GenEnd} {Y : Protocol} {n i : Nat} {s₀ s : Shared} {cenv : Env}
    (T : Turn P w K tg J fp it tn) (st : tn i s.heap) (loop : Seg (model P w) A R Y n s₀ (.compLoop (.GeneratorExp elt [⟨tg, iter, [], 0⟩] scope pos) 0 (.ref it) .none cenv) ((model P w).den (.compLoop (.GeneratorExp elt [⟨tg, iter, [], 0⟩] scope pos) 0 (.ref it) .none cenv)) [] s) :
    Seg (model P w) A R Y n s₀ (.compStart (.GeneratorExp elt [⟨tg, iter, [], 0⟩] scope pos) 0 (.ref it) .none cenv) ((model P w).den (.compStart (.GeneratorExp elt [⟨tg, iter, [], 0⟩] scope pos) 0 (.ref it) .none cenv)) [] s := by
  show Seg _ A _ _ _ s₀ _ ((compStart (.GeneratorExp elt [⟨tg, iter, [], 0⟩] scope pos) 0 (.ref it) .none cenv).onRaise (leaving cenv)) [] s
  unfold compStart
  rw [Sem.onRaise_eq_wrap]
  show Seg _ A _ _ _ s₀ _ ((ask >>= _).wrap _ _ _ _) [] s
  refine seg_bind_wrap (wpAny_askSetting ?_)
  split
  · exact seg_again rfl loop
  · first
      | exact seg_bind_wrap (wpAny_rule (seg_bind_wrap (wpAny_standAt (seg_bind_wrap (T.self _ i s _ _ st (seg_again rfl loop))))))
      | (refine seg_bind_wrap (wpAny_rule ?_); show Seg _ A _ _ _ s₀ _ ((standAt iter.pos >>= _).wrap _ _ _ _) [] s; exact seg_bind_wrap (wpAny_standAt (seg_bind_wrap (T.self _ i s _ _ st (seg_again rfl loop)))))
/-- the context of a generator's elements -/
abbrev genX (X : Cx) (s : Shared) (H : Hp) (cenv : Env) (fp : List Addr) (a : Addr) (ob : Obj) : Cx := { X with A := X.A.in1.in1.deeper cenv, s_0 := s, H_0 := H, env := cenv, outer := X.stack, stack := cenv :: X.stack, ex := fp, fn := fun _ => false, pn := [(a, ob)], xe := fun _ _ => False }
section
variable {X : Cx} {pins : List (Addr × Obj)} {σ : L2.St} {H : Hp} {s : Shared}
theorem gen_start {scope : Scope} {own : List (Str × Nat)} {fp : List Addr} {h5 : Heap} {a : Addr} {ob : Obj} {tk : Nat} {G : Array GenState} {code : Value} {cenv : Env} (I : Inv X pins σ H s) (ok : BlkOk X.N X.env.scope scope own) (hcell : ∀ y ∈ scope.names, y.2 ≠ .cell) (hN : X.N.Nodup)
    (hfp : ∀ b ∈ fp, FpOk X pins H b ∧ b < s.heap.objs.size) (hcenv : cenv = genEnv scope (cloFrom X.env.cells scope.names []) s.heap.objs.size code builtinsNs X.env) (kp : ∀ b o, s.heap.get? b = some o → h5.get? b = some o) (hC : ∃ m, h5.Ns s.heap.objs.size m) (ha : h5.get? a = some ob)
    (hae : s.heap.objs.size < a) (hob : ∀ v, ob.data ≠ .cell v) (hG : AllBare G) :
    Inv (genX X s H cenv fp a ob) [] (wipe σ (own.map (·.2))) H { s with heap := h5, gens := G, toks := tk } := by
  have hfree : ∀ y ∈ scope.names, y.2 = .free → ∃ c, X.env.cells.lookup y.1 = some c := fun y hy e => by
    rcases ok.free y hy e with k | k
    · exact I.ok.has _ (.inl k)
    · exact I.ok.has _ (.inr k)
  have hL : cenv.locals = s.heap.objs.size := by rw [hcenv]; rfl
  have hcl : cenv.cells = cloFrom X.env.cells scope.names [] := by rw [hcenv]; rfl
  have hsc : cenv.scope = scope := by rw [hcenv]; rfl
  have cm : ∀ {y c}, (y, c) ∈ cloFrom X.env.cells scope.names [] → X.env.cells.lookup y = some c ∧ c < s.heap.objs.size := fun {y c} hm => by
    rcases cloFrom_mem hm with hm | ⟨h1, rfl⟩
    · cases hm
    · obtain ⟨c, hc⟩ := hfree _ h1 rfl
      rw [hc]
      obtain ⟨w, z⟩ := I.cell _ _ hc
      exact ⟨rfl, z.lt⟩
  have mem : ∀ {y c}, cenv.cells.lookup y = some c → X.env.cells.lookup y = some c ∧ c < s.heap.objs.size := fun {y c} e => by
    rw [hcl] at e
    exact cm (PySem.mem_of_lookup e)
  have look : ∀ {y}, scope.names.lookup y = some .free → ∃ c, cenv.cells.lookup y = some c ∧ X.env.cells.lookup y = some c := fun {y} hl => by
    have hy : (y, NameKind.free) ∈ scope.names := PySem.mem_of_lookup hl
    obtain ⟨c', e'⟩ := mem_lookup (cloFrom_has (cells := X.env.cells) (acc := []) hy)
    rw [← hcl] at e'
    exact ⟨c', e', (mem e').1⟩
  have okB : (genX X s H cenv fp a ob).Ok := by
    refine ⟨I.ok.mod, by show cenv.scope.kind = _; rw [hsc]; exact ok.kind, by show cenv.globals = _; rw [hcenv]; exact I.ok.glob, by show cenv.builtins = _; rw [hcenv]; rfl, by show s.heap.objs.size ≤ cenv.locals; rw [hL]; exact Nat.le_refl _,
      fun y z c e1 e2 => I.ok.inj y z c (mem e1).1 (mem e2).1, fun y hy => ?_, fun y c z e => Bool.noConfusion z, I.ok.hd, ?_, .inr ⟨rfl, by show cenv.frame = some cenv.locals; rw [hcenv]; rfl⟩, fun b hb => ⟨?_, fun y c e z => ?_⟩, I.bs, Nat.le_trans I.ok.bsz I.sz, fun b o e hb => ?_, fun b hb z => ?_, I.stack, I.stkFree⟩
    · show ∃ c, cenv.cells.lookup y = some c
      have hy : cenv.scope.names.lookup y = some .cell ∨ cenv.scope.names.lookup y = some .free := hy
      rw [hsc] at hy
      rcases hy with hy | hy
      · exact absurd rfl (hcell _ (PySem.mem_of_lookup hy))
      · obtain ⟨c, h1, _⟩ := look hy
        exact ⟨c, h1⟩
    · show (X.A.in1.in1.deeper cenv).frames = some (cenv :: X.stack)
      have e := I.ok.frames
      show X.A.frames.map (cenv :: ·) = _
      rw [e]; rfl
    · show b ≠ cenv.locals
      rw [hL]; exact Nat.ne_of_lt (hfp b hb).2
    · exact (hfp b hb).1.2.2.2.2.1 y c (mem (show cenv.cells.lookup y = some c from e)).1 z
    · rcases (hfp b hb).1.2.2.2.1 with z | z
      · exact I.ok.noex b o e z
      · exact absurd (Nat.lt_of_lt_of_le (Heap.lt_size e) (Nat.le_trans I.ok.bsz z)) (Nat.lt_irrefl _)
    · rcases List.mem_cons.mp (I.stkSub b z) with z | z
      · exact (hfp b hb).1.2.1 z
      · exact (hfp b hb).1.2.2.1 z
  refine ⟨okB, rfl, hG, Un.kept kp, ?_, fun y c e => ?_, ?_, fun y c e => ?_, fun p hp => ?_, I.hok.kept kp, by rw [wipe_length]; exact I.len⟩
  · obtain ⟨m0, hm0⟩ := hC
    refine ⟨m0, by show h5.Ns cenv.locals m0; rw [hL]; exact hm0, fun i y av e1 e2 e3 => ?_⟩
    obtain ⟨e2, hne⟩ := wipe_some e2
    have hfr : scope.names.lookup y = some .free := by
      have e3 : Vis cenv.scope y := e3
      rw [hsc] at e3
      have no : ∀ k, scope.names.lookup y = some k → ¬ (k = .local ∨ k = .cell) := fun k e hh => by
        rcases ok.own _ (PySem.mem_of_lookup e) hh with e' | e'
        · obtain ⟨p, hp, hpy⟩ := List.mem_map.mp e'
          have e3 := ok.ix p hp
          have : p.1 = y := hpy
          rw [this] at e3
          exact hne (List.mem_map.mpr ⟨p, hp, nodup_ix hN e3 e1⟩)
        · exact e' (List.mem_of_getElem? e1)
      rcases e3 with e3 | e3 | e3
      · exact absurd (.inl rfl) (no _ e3)
      · exact absurd (.inr rfl) (no _ e3)
      · exact e3
    obtain ⟨m, hn, hl⟩ := I.loc
    have hvis : Vis X.env.scope y := (ok.free _ (PySem.mem_of_lookup hfr) rfl).elim (fun k => .inr (.inl k)) (fun k => .inr (.inr k))
    obtain ⟨w, r, q⟩ := hl i y av e1 e2 hvis
    refine ⟨w, r, .inr ⟨.inr (by show cenv.scope.names.lookup y = _; rw [hsc]; exact hfr), ?_⟩⟩
    obtain ⟨c, h1, h2⟩ := look hfr
    rcases q with ⟨k, _⟩ | ⟨_, c', e', z⟩
    · have k : X.env.scope.names.lookup y = some .local := k
      rcases ok.free _ (PySem.mem_of_lookup hfr) rfl with k' | k' <;> rw [show X.env.scope.names.lookup y = _ from k'] at k <;> cases k
    · rw [h2] at e'; cases e'
      exact ⟨c, h1, z.keeps kp⟩
  · obtain ⟨w, z⟩ := I.cell y c (mem (show cenv.cells.lookup y = some c from e)).1
    exact ⟨w, z.keeps kp⟩
  · show H cenv.locals = none
    rw [hL]; exact I.hok.fresh (Nat.le_refl _)
  · exact I.freeC y c (mem (show cenv.cells.lookup y = some c from e)).1
  · have : p = (a, ob) := by simpa using hp
    subst this
    refine ⟨ha, I.hok.fresh (Nat.le_of_lt hae), by show a ≠ cenv.locals; rw [hL]; exact Nat.ne_of_gt hae, fun z => ?_, hob⟩
    rcases List.mem_cons.mp (I.stkSub a z) with z | z
    · exact absurd I.lt (by rw [← z]; exact Nat.not_lt_of_lt hae)
    · exact I.nofs (Nat.le_of_lt hae) z
end
end KL
end

section
set_option Elab.async false
set_option linter.all false
set_option maxRecDepth 100000
set_option maxHeartbeats 1000000
namespace KL
open PySem PySem.Spec PyProof.Rows L2

/-- all(elt for tg in iter): the def's table at P may have grown -/
def tAllG (P : Addr) (wi : TI) (gt : TG) (te : TE) (vs : List Nat) : TE := fun σ H Q => wi σ H fun J H1 => GxR.TabG H1 P ∧ ∀ H2, GxR.Tabbed P H1 H2 → ∃ W : Nat → Nat → Hp → Prop, (∃ m, W 0 m H2) ∧ Turns J gt te vs σ W Q
abbrev genE (X : Cx) (scope : Scope) (C : Addr) (code : Value) : Env := genEnv scope (cloFrom X.env.cells scope.names []) C code builtinsNs X.env
section
variable {X : Cx} {pins : List (Addr × Obj)} {σ : L2.St} {H : Hp} {s : Shared}
def GenReady (X : Cx) (pins : List (Addr × Obj)) (σ : L2.St) (Q : VK) (a : Addr) (s : Shared) : Prop := ∃ (g : Nat) (gs : GenState) (N : Nat), s.gens[g]? = some gs ∧ s.heap.IsGen a g ∧ s.heap.NoLimit ∧
  gs.Goes (model X.prog X.w) X.A.in1.in1 (GR fun b s' => EP X pins σ Q (.bool b) s') (GY a g fun b s' => EP X pins σ Q (.bool b) s') N (.send .none) (s.setGen g .running)
theorem gen_core {c P : Addr} {elt tg iter : Expr} {gpos : Pos} {scope : Scope} {own : List (Str × Nat)} {wi : TI} {gt : TG} {te : TE} {k : Nat} {Q : VK} {Q' : Value → Shared → Prop}
    (hc : X.calm = true) (hN : X.N.Nodup) (hr : Room k X.A) (TB : GxR.TabB X.base X.mg c P) (hcode : X.env.code = .ref c) (ok : BlkOk X.N X.env.scope scope own) (hcell : ∀ y ∈ scope.names, y.2 ≠ .cell) (hdot : scope.names.lookup (".0" : Str) = some NameKind.local) (hco : scope.isCoroutine = false)
    (hi : PI X tg iter wi) (hg : ∀ (s : Shared) (H : Hp) (C : Addr) (cd : Value) (fp : List Addr) (a : Addr) (ob : Obj), PG (genX X s H (genE X scope C cd) fp a ob) tg gt) (he : ∀ (s : Shared) (H : Hp) (C : Addr) (cd : Value) (fp : List Addr) (a : Addr) (ob : Obj), PE (genX X s H (genE X scope C cd) fp a ob) elt te)
    (hs : ∀ v, genFold iter X.env v = pure v) (I : Inv X pins σ H s) (h : tAllG P wi gt te (own.map (·.2)) σ H Q) (hQ : ∀ a s5, GenReady X pins σ Q a s5 → Q' (.ref a) s5) :
    wpAny (model X.prog X.w) X.A (eval (.GeneratorExp elt [⟨tg, iter, [], 0⟩] scope gpos) X.env) Q' X.xe s := by
  have hfree : ∀ y ∈ scope.names, y.2 = .free → ∃ c, X.env.cells.lookup y.1 = some c := fun y hy e => (ok.free y hy e).elim (fun z => I.ok.has _ (.inl z)) fun z => I.ok.has _ (.inr z)
  refine wpAny_GeneratorExp_make hco (closure_ok hfree) hcell hdot ok.kind (by have := hr.dp; omega) ?_ hs
  refine thn (hi.run pins s σ H _ I h) fun xv s1 h1 => thn h1 fun itv s2 h2 => ?_
  obtain ⟨it, fp, tn, J, H2, rfl, I2, T, st2, f2, ⟨ps, hP, ht⟩, cont⟩ := h2
  refine ⟨I2.nolimit, ?_⟩
  have hPs : s2.heap.get? P = some { cls := .none, data := .fields ps } := I2.hok P _ hP
  have cd : PySem.W.CodeHd s2.heap c P := TB.code.keeps fun b u e => I2.bk b u e
  have fplt : ∀ b ∈ fp, ∃ o, s2.heap.get? b = some o := fun b hb => (T.obj _ _ st2 b hb).imp fun _ z => z.1
  have fpP : ∀ b ∈ fp, b ≠ P := fun b hb z => by
    have := (f2 b hb).1
    rw [z, hP] at this; cases this
  have go : ∀ (code : Value) (h3 : Heap) (tk : Nat) (ps' : Array Value), Heap.ExtBut P s2.heap h3 → s2.heap.objs.size ≤ h3.objs.size → h3.get? P = some { cls := .none, data := .fields ps' } → (∃ more, ps' = ps ++ more) → TriplesOk ps'.toList →
      wpAny (model X.prog X.w) X.A (builtinsFor X.env.globals X.env.builtins) (fun bi s₄ => ∀ h', h'.Ns s₄.heap.objs.size (fun y => if y = ".0" then some (.ref it) else none) → Heap.SameBut s₄.heap.objs.size (s₄.heap.push { cls := .type "frame", data := .dict #[] }) h' →
          Q' (.ref h'.objs.size) { s₄ with
            gens := s₄.gens.push (.fresh (.compStart (.GeneratorExp elt [⟨tg, iter, [], 0⟩] scope gpos) 0 (.ref it) .none (genEnv scope (cloFrom X.env.cells scope.names []) s₄.heap.objs.size code bi X.env))),
            toks := s₄.toks + 1 + 1 + 1,
            heap := h'.push { cls := .type "generator", data := .fields #[.int s₄.gens.size 0, .str "<genexpr>" (s₄.toks + 1), .str (X.env.qual ++ "<genexpr>") (s₄.toks + 1 + 1)] } }) X.xe { s2 with heap := h3, toks := tk } := by
    intro code h3 tk ps' hx hsz hP3 hmore ht3
    obtain ⟨more, rfl⟩ := hmore
    obtain ⟨bm, ob0, e1, e2, e3, e4, e5, e6, e7, e8⟩ := TB.bm
    have keep3 : ∀ b u, b ≠ P → s2.heap.get? b = some u → h3.get? b = some u := fun b u hb e => hx b u hb e
    refine wpAny_builtinsFor (m := X.mg) (by rw [I2.ok.glob]; exact (I2.mod.glob.keeps I2.bk).extBut hx TB.gP) e1 e2 (keep3 _ _ e4 (I2.bk _ _ e5)) e6 e7 e8 ?_
    intro h' hn' hs'
    have sz' : h'.objs.size = h3.objs.size + 1 := by rw [hs'.1, Heap.size_push]
    have I4 : Inv X pins σ (upd H2 P (.tbl (ps ++ more))) { s2 with heap := h3, toks := tk } := GxR.inv_tab (g' := s2.gens) (d' := s2.drawn) I2 hP keep3 hP3 I2.bare
    have kp : ∀ b o, h3.get? b = some o → h'.get? b = some o := fun b o e => hs'.extBut b o (Nat.ne_of_lt (Heap.lt_size e)) (Heap.get?_push_of_some _ e)
    generalize hob : ({ cls := .type "generator", data := .fields #[.int s2.gens.size 0, .str "<genexpr>" (tk + 1), .str (X.env.qual ++ "<genexpr>") (tk + 1 + 1)] } : Obj) = ob
    have kp5 : ∀ b o, h3.get? b = some o → (h'.push ob).get? b = some o := fun b o e => Heap.get?_push_of_some _ (kp b o e)
    refine hQ _ _ ?_
    have f4 : ∀ b ∈ fp, FpOk X pins (upd H2 P (.tbl (ps ++ more))) b ∧ b < h3.objs.size := fun b hb => by
      obtain ⟨o, e⟩ := fplt b hb
      exact ⟨⟨by rw [upd_ne (fpP b hb)]; exact (f2 b hb).1, (f2 b hb).2⟩, Heap.lt_size (keep3 b o (fpP b hb) e)⟩
    have hae : h3.objs.size < h'.objs.size := by omega
    have hgx : ∀ hh : Heap, hh.get? h'.objs.size = some ob → hh.IsGen h'.objs.size s2.gens.size := fun hh e => by
      subst hob
      exact ⟨_, _, _, e, rfl, rfl, rfl⟩
    have hge : (h'.push ob).get? h'.objs.size = some ob := Heap.get?_push_size _ (by subst hob; rfl)
    have bare5 : AllBare ((s2.gens.push (.fresh (.compStart (.GeneratorExp elt [⟨tg, iter, [], 0⟩] scope gpos) 0 (.ref it) .none (genE X scope h3.objs.size code)))).setIfInBounds s2.gens.size .running) := bare_set (I2.bare.push rfl) rfl
    have I5 := gen_start (h5 := h'.push ob) (a := h'.objs.size) (ob := ob) (tk := tk + 1 + 1 + 1) (code := code) (cenv := genE X scope h3.objs.size code) I4 ok hcell hN f4 rfl kp5 ⟨_, hn'.push _⟩ hge hae (by subst hob; exact fun v z => by cases z) bare5
    obtain ⟨W, ⟨m, w0⟩, turn⟩ := cont (upd H2 P (.tbl (ps ++ more))) ⟨⟨_, upd_same, ht3⟩, fun b hb => upd_ne hb⟩
    refine ⟨s2.gens.size, _, m + 1, Array.getElem?_push_size .., hgx _ hge, I5.nolimit, rfl, ?_⟩
    have st5 : tn 0 (h'.push ob) := T.keep _ _ _ st2 fun b hb o e => kp5 b o (keep3 b o (fpP b hb) e)
    refine seg_start (T := T) (i := 0) st5 ?_
    refine seg_all (X := genX X { s2 with heap := h3, toks := tk } (upd H2 P (.tbl (ps ++ more))) (genE X scope h3.objs.size code) fp h'.objs.size ob) (A := X.A.in1.in1) (J := J) (fp := fp) (tn := tn) T hc over_gen.symm rfl rfl hgx hco (hg _ _ _ _ _ _ _) (he _ _ _ _ _ _ _) turn
      (fun z => absurd (f4 _ z).2 (Nat.not_lt_of_lt hae)) (fun b hb => hb) (fun b σ' H' s' Ib q G hh kk bb => ?_) m 0 m _ _ _ (Nat.le_refl _) I5 st5 (fun b hb => (f4 b hb).1.1) w0 (by show s2.gens.size < ((s2.gens.push _).setIfInBounds _ _).size; simp)
    refine ⟨.bl b, H', ?_, rfl, q⟩
    exact I4.call' (ch := fp) (s' := { s' with gens := G, heap := hh }) Ib.os (Ib.base.trans (Un.kept kk)) (Ib.hok.kept kk) (bb Ib.bare) fun b hb => ⟨(f4 b hb).1.2.2.2.1, (f4 b hb).1.2.1, (f4 b hb).1.2.2.2.2.1, (f4 b hb).1.2.2.2.2.2⟩
  cases hf : codeAmong gpos ps.toList with
  | none =>
    refine wpAny_genexprCodeX hcode (cd.code hPs ht) (cd.tab hPs) hf fun c' h' tk hx hge hlt hco' _ htab' _ => ?_
    obtain ⟨o1, vs, f1, tf, fl, tg, inF, tx, tt, op, _, _, _, _, _, _, _, _, _, htr, _⟩ := hco'
    exact go _ h' tk _ hx (Nat.le_trans hge (Nat.le_of_lt hlt)) htab'.2 ⟨_, rfl⟩ htr
  | some cv =>
    refine wpAny_genexprCode_hit hcode (cd.code hPs ht) hf ?_
    exact go cv s2.heap s2.toks ps (Heap.ExtBut.refl _ _) (Nat.le_refl _) hPs ⟨#[], by simp⟩ ht
theorem pe_allG {c P : Addr} {elt tg iter : Expr} {p pos gpos : Pos} {scope : Scope} {own : List (Str × Nat)} {wi : TI} {gt : TG} {te : TE} {k : Nat}
    (hc : X.calm = true) (hN : X.N.Nodup) (hr : Room k X.A) (hgl : Gl X "all") (hm : X.mg "all" = none) (TB : GxR.TabB X.base X.mg c P) (hcode : X.env.code = .ref c) (ok : BlkOk X.N X.env.scope scope own) (hcell : ∀ y ∈ scope.names, y.2 ≠ .cell) (hdot : scope.names.lookup (".0" : Str) = some NameKind.local) (hco : scope.isCoroutine = false)
    (hi : PI X tg iter wi) (hg : ∀ (s : Shared) (H : Hp) (C : Addr) (cd : Value) (fp : List Addr) (a : Addr) (ob : Obj), PG (genX X s H (genE X scope C cd) fp a ob) tg gt) (he : ∀ (s : Shared) (H : Hp) (C : Addr) (cd : Value) (fp : List Addr) (a : Addr) (ob : Obj), PE (genX X s H (genE X scope C cd) fp a ob) elt te)
    (hb : bootBuiltins "all" = some (.builtin "all") := by rfl) (hs : ∀ v, genFold iter X.env v = pure v := by intro _; rfl)
    (hst : starEach [.GeneratorExp elt [⟨tg, iter, [], 0⟩] scope gpos] X.env = (false, eval (.GeneratorExp elt [⟨tg, iter, [], 0⟩] scope gpos) X.env) :: starEach [] X.env := by rfl) :
    PE X (.Call (.Name "all" p) [.GeneratorExp elt [⟨tg, iter, [], 0⟩] scope gpos] [] pos) (tAllG P wi gt te (own.map (·.2))) := by
  refine ⟨fun pins s σ H Q I h => ?_⟩
  refine wpAny_Call_Name_kw (ld_blt I hgl hm hb ?_)
  refine PyProof.Rows.callWith_builtin1 ?_ hst (by rfl)
  rw [hst]
  show wpAny _ _ (spliced ((false, eval (.GeneratorExp elt [⟨tg, iter, [], 0⟩] scope gpos) X.env) :: backTo pos (starEach [] X.env))) _ _ s
  refine Calls.spliced_cons (gen_core (k := k) hc hN hr TB hcode ok hcell hdot hco hi hg he hs I h fun a s5 hG => ?_)
  obtain ⟨g, gs, N, h1, h2, h3, h4⟩ := hG
  refine Calls.spliced_nil ?_
  exact call_all_gen hr.hd (by have := hr.dp; omega) (fun b s' z => z) h1 h2 h3 h4
end
end KL
end

section
set_option Elab.async false
set_option linter.all false
set_option maxRecDepth 100000
namespace KL
open PySem L2

/-- data without places -/
inductive D where
  | non | bl (b : Bool) | int (i : Int) | str (s : Str)
  | lst (xs : List D) | tup (xs : List D)
  /-- the script -/
  | scr (ns : List Int)
  | err (c : Str) (fs : List (Str × D))

/-- a slot: nothing known, data that nobody changes, a list of one's own, a borrowed list -/
inductive Sl where
  | un | va (d : D) | ow (xs : List D) | io (xs : List D)
abbrev Env := List Sl
/-- a value: data that nobody changes, a new list -/
inductive Vl where
  | fz (d : D) | fr (xs : List D)
def Vl.d : Vl → D
  | .fz d => d
  | .fr xs => .lst xs
/-- what a run gives -/
inductive R (α : Type) where
  | ok (a : α) (ρ : Env) | ex (e : D) (ρ : Env) | bad
abbrev M (α : Type) := Env → R α
@[inline] def bnd {α β : Type} (r : R α) (f : α → Env → R β) : R β := match r with
  | .ok a ρ => f a ρ
  | .ex e ρ => .ex e ρ
  | .bad => .bad
/-- an operand: data, or the slot where it stands -/
inductive Od where
  | v (d : D) | s (i : Nat)
def Sl.d? : Sl → Option D
  | .un => none
  | .va d => some d
  | .ow xs => some (.lst xs)
  | .io xs => some (.lst xs)
def Od.get (ρ : Env) : Od → Option D
  | .v d => some d
  | .s i => match ρ[i]? with
    | some q => q.d?
    | none => none

/-! ### what stands for what -/
abbrev Ad := Addr → Prop
abbrev MgT := Str → Option Value
/-- an exception's object -/
def errO (C : Addr) (a : Addr) (d : Option Addr) : HO := .ext fun h => ∃ o vs, h.get? a = some o ∧ o.cls = .ref C ∧ o.dict = d ∧ o.data = .fields vs
section
variable (K : PySem.W.Frag) (mg : MgT)
mutual
inductive Rep (H : Hp) (B : Ad) : D → V → Prop
  | non : Rep H B .non .non
  | bl (b : Bool) : Rep H B (.bl b) (.bl b)
  | int (i : Int) : Rep H B (.int i) (.int i)
  | str (x : Str) : Rep H B (.str x) (.str x)
  | lst {a : Addr} {xs : List D} {vs : List V} : ¬ B a → H a = some (.lst vs) → RepL H B xs vs → Rep H B (.lst xs) (.ref a)
  | tup {a : Addr} {xs : List D} {vs : List V} : ¬ B a → H a = some (.tup vs) → RepL H B xs vs → Rep H B (.tup xs) (.ref a)
  | scr {a : Addr} {ns : List Int} : ¬ B a → Rd H a (.lst (ns.map V.int)) → Rep H B (.scr ns) (.ref a)
  | scrK {a : Addr} {ns : List Int} : (∀ H' : Hp, SqL K H' a (ns.map V.int)) → Rep H B (.scr ns) (.ref a)
  | tupK {a : Addr} {xs : List D} {vs : List V} : (∀ H' : Hp, SqT K H' a vs) → RepL H B xs vs → Rep H B (.tup xs) (.ref a)
  | err0 {a C : Addr} {c : Str} : ¬ B a → mg c = some (.ref C) → H a = some (errO C a none) → Rep H B (.err c []) (.ref a)
  | err {a C dx : Addr} {c : Str} {fs : List (Str × D)} {gs : List (Str × V)} : ¬ B a → ¬ B dx → mg c = some (.ref C) → H a = some (errO C a (some dx)) → H dx = some (.xd gs) → RepF H B fs gs → Rep H B (.err c fs) (.ref a)
inductive RepL (H : Hp) (B : Ad) : List D → List V → Prop
  | nil : RepL H B [] []
  | cons {d : D} {ds : List D} {v : V} {vs : List V} : Rep H B d v → RepL H B ds vs → RepL H B (d :: ds) (v :: vs)
inductive RepF (H : Hp) (B : Ad) : List (Str × D) → List (Str × V) → Prop
  | nil : RepF H B [] []
  | cons {x : Str} {d : D} {ds : List (Str × D)} {v : V} {vs : List (Str × V)} : Rep H B d v → RepF H B ds vs → RepF H B ((x, d) :: ds) ((x, v) :: vs)
end
end
/-- no table of code objects -/
def NT : HO → Prop
  | .tbl _ => False
  | _ => True
/-- the tables that grow -/
class Tabs where
  is : Addr → Prop
/-- what is not kept apart stays; what is kept apart was so, or is new -/
structure FE (B : Ad) (H : Hp) (B' : Ad) (H' : Hp) : Prop where
  keep : ∀ a o, H a = some o → ¬ B a → NT o → H' a = some o
  new : ∀ a, B' a → B a ∨ H a = none
  there : ∀ a, H a ≠ none → ¬ B a → H' a ≠ none
theorem FE.refl {B : Ad} {H : Hp} : FE B H B H := ⟨fun _ _ h _ _ => h, fun _ h => .inl h, fun _ h _ => h⟩
section
variable {K : PySem.W.Frag} {mg : MgT} {H H' : Hp} {B B' : Ad}
theorem rd_keep {a : Addr} {u : HO} (e : ∀ o, H a = some o → NT o → H' a = some o) (n : NT u) (h : Rd H a u) : Rd H' a u := by
  rcases h with h | ⟨o, h⟩
  · exact .inl (e _ h n)
  · exact .inr ⟨o, e _ h trivial⟩
theorem rd_there {a : Addr} {u : HO} (h : Rd H a u) : H a ≠ none := by
  rcases h with h | ⟨o, h⟩ <;> rw [h] <;> simp
theorem FE.not (f : FE B H B' H') {a : Addr} (hb : ¬ B a) (h : H a ≠ none) : ¬ B' a := fun z => (f.new a z).elim hb h
mutual
theorem Rep.mono (f : FE B H B' H') : ∀ {d : D} {v : V}, Rep K mg H B d v → Rep K mg H' B' d v
  | _, _, .non => .non
  | _, _, .bl b => .bl b
  | _, _, .int i => .int i
  | _, _, .str x => .str x
  | _, _, .lst hb h r => .lst (f.not hb (by rw [h]; simp)) (f.keep _ _ h hb trivial) (RepL.mono f r)
  | _, _, .tup hb h r => .tup (f.not hb (by rw [h]; simp)) (f.keep _ _ h hb trivial) (RepL.mono f r)
  | _, _, .scrK h => .scrK h
  | _, _, .scr hb h => .scr (f.not hb (rd_there h)) (rd_keep (fun o q => f.keep _ o q hb) trivial h)
  | _, _, .tupK h r => .tupK h (RepL.mono f r)
  | _, _, .err0 hb hc h => .err0 (f.not hb (by rw [h]; simp)) hc (f.keep _ _ h hb trivial)
  | _, _, .err hb hd hc h h2 r => .err (f.not hb (by rw [h]; simp)) (f.not hd (by rw [h2]; simp)) hc (f.keep _ _ h hb trivial) (f.keep _ _ h2 hd trivial) (RepF.mono f r)
theorem RepL.mono (f : FE B H B' H') : ∀ {ds : List D} {vs : List V}, RepL K mg H B ds vs → RepL K mg H' B' ds vs
  | _, _, .nil => .nil
  | _, _, .cons a b => .cons (Rep.mono f a) (RepL.mono f b)
theorem RepF.mono (f : FE B H B' H') : ∀ {ds : List (Str × D)} {vs : List (Str × V)}, RepF K mg H B ds vs → RepF K mg H' B' ds vs
  | _, _, .nil => .nil
  | _, _, .cons a b => .cons (Rep.mono f a) (RepF.mono f b)
end
theorem FE.trans {B1 B2 : Ad} {H1 H2 : Hp} (a : FE B H B1 H1) (b : FE B1 H1 B2 H2) : FE B H B2 H2 where
  keep := fun x o q hb n => b.keep x o (a.keep x o q hb n) (a.not hb (by rw [q]; simp)) n
  new := fun x z => by
    rcases b.new x z with z | z
    · exact a.new x z
    · by_cases hb : B x
      · exact .inl hb
      · refine .inr ?_
        cases q : H x with
        | none => rfl
        | some o => exact absurd z (a.there x (by rw [q]; simp) hb)
  there := fun x q hb => b.there x (a.there x q hb) (a.not hb q)
theorem FE.sub (h : ∀ a, B' a → B a) : FE B H B' H := ⟨fun _ _ q _ _ => q, fun a z => .inl (h a z), fun _ q _ => q⟩
theorem RepL.length : ∀ {ds : List D} {vs : List V}, RepL K mg H B ds vs → ds.length = vs.length
  | _, _, .nil => rfl
  | _, _, .cons _ b => by simp [RepL.length b]
theorem RepL.append : ∀ {ds es : List D} {vs ws : List V}, RepL K mg H B ds vs → RepL K mg H B es ws → RepL K mg H B (ds ++ es) (vs ++ ws)
  | _, _, _, _, .nil, s => s
  | _, _, _, _, .cons a b, s => .cons a (RepL.append b s)
theorem RepL.get : ∀ {ds : List D} {vs : List V} {i : Nat} {d : D}, RepL K mg H B ds vs → ds[i]? = some d → ∃ v, vs[i]? = some v ∧ Rep K mg H B d v
  | _, _, _, _, .nil, e => by simp at e
  | _, _, 0, _, .cons a _, e => by simp at e; subst e; exact ⟨_, rfl, a⟩
  | _, _, i + 1, d, .cons _ b, e => by
    obtain ⟨v, h1, h2⟩ := RepL.get (i := i) (d := d) b (by simpa using e)
    exact ⟨v, by simpa using h1, h2⟩
theorem RepL.get' : ∀ {ds : List D} {vs : List V} {i : Nat} {v : V}, RepL K mg H B ds vs → vs[i]? = some v → ∃ d, ds[i]? = some d ∧ Rep K mg H B d v
  | _, _, _, _, .nil, e => by simp at e
  | _, _, 0, _, .cons a _, e => by simp at e; subst e; exact ⟨_, rfl, a⟩
  | _, _, i + 1, v, .cons _ b, e => by
    obtain ⟨d, h1, h2⟩ := RepL.get' (i := i) (v := v) b (by simpa using e)
    exact ⟨d, by simpa using h1, h2⟩
theorem RepL.set {d : D} {v : V} (r : Rep K mg H B d v) : ∀ {ds : List D} {vs : List V} (i : Nat), RepL K mg H B ds vs → RepL K mg H B (ds.set i d) (vs.set i v)
  | _, _, _, .nil => .nil
  | _, _, 0, .cons _ t => .cons r t
  | _, _, i + 1, .cons q t => .cons q (RepL.set r i t)
theorem RepL.take : ∀ {ds : List D} {vs : List V} (n : Nat), RepL K mg H B ds vs → RepL K mg H B (ds.take n) (vs.take n)
  | _, _, 0, _ => by simp; exact .nil
  | _, _, _ + 1, .nil => by simp; exact .nil
  | _, _, n + 1, .cons r t => .cons r (RepL.take n t)
theorem RepL.drop : ∀ {ds : List D} {vs : List V} (n : Nat), RepL K mg H B ds vs → RepL K mg H B (ds.drop n) (vs.drop n)
  | _, _, 0, r => r
  | _, _, _ + 1, .nil => .nil
  | _, _, n + 1, .cons _ t => RepL.drop n t
theorem RepL.reverse : ∀ {ds : List D} {vs : List V}, RepL K mg H B ds vs → RepL K mg H B ds.reverse vs.reverse
  | _, _, .nil => .nil
  | _, _, .cons a b => by simp only [List.reverse_cons]; exact (RepL.reverse b).append (.cons a .nil)
theorem RepL.ints : ∀ {ns : List Int} {vs : List V}, RepL K mg H B (ns.map D.int) vs → vs = ns.map V.int
  | [], _, .nil => rfl
  | _ :: _, _, .cons (.int _) b => by simp [RepL.ints b]
theorem RepL.bls : ∀ {ns : List Bool} {vs : List V}, RepL K mg H B (ns.map D.bl) vs → vs = ns.map V.bl
  | [], _, .nil => rfl
  | _ :: _, _, .cons (.bl _) b => by simp [RepL.bls b]
theorem RepL.of_ints : ∀ (ns : List Int), RepL K mg H B (ns.map D.int) (ns.map V.int)
  | [] => .nil
  | i :: r => .cons (.int i) (RepL.of_ints r)
end

/-! ### slots -/
section
variable (K : PySem.W.Frag) (mg : MgT)
def SlR (H : Hp) (B : Ad) : Sl → Option V → Prop
  | .un, _ => True
  | .va d, o => ∃ v, o = some v ∧ Rep K mg H B d v
  | .ow xs, o => ∃ a vs, o = some (.ref a) ∧ B a ∧ H a = some (.lst vs) ∧ RepL K mg H B xs vs
  | .io xs, o => ∃ a vs, o = some (.ref a) ∧ B a ∧ H a = some (.lst vs) ∧ RepL K mg H B xs vs
end
def Sl.mine : Sl → Bool
  | .ow _ => true
  | .io _ => true
  | _ => false
def Sl.isIo : Sl → Bool
  | .io _ => true
  | _ => false
/-- a is the list of the slot i -/
def OwnAt (ρ : Env) (σ : L2.St) (i : Nat) (a : Addr) : Prop := (∃ q, ρ[i]? = some q ∧ q.mine = true) ∧ σ[i]? = some (some (.ref a))
def Own (ρ : Env) (σ : L2.St) : Ad := fun a => ∃ i, OwnAt ρ σ i a
variable [Tabs] in
structure Rel (K : PySem.W.Frag) (mg : MgT) (B : Ad) (ρ : Env) (σ : L2.St) (H : Hp) : Prop where
  len : ρ.length = σ.length
  sl : ∀ (i : Nat) (q : Sl), ρ[i]? = some q → SlR K mg H B q (σ[i]?.getD none)
  dist : ∀ (i j : Nat) (a : Addr), OwnAt ρ σ i a → OwnAt ρ σ j a → i = j
  alloc : ∀ a, B a → H a ≠ none
  tab : ∀ a, Tabs.is a → GxR.TabG H a ∧ ¬ B a
structure Tr (B W : Ad) (H : Hp) (B' W' : Ad) (H' : Hp) : Prop where
  keep : ∀ a o, H a = some o → ¬ W a → NT o → H' a = some o
  there : ∀ a, H a ≠ none → H' a ≠ none
  bnew : ∀ a, B' a → B a ∨ H a = none
  wnew : ∀ a, W' a → W a ∨ H a = none
  bkeep : ∀ a, B a → ¬ W a → B' a
  tabs : ∀ a, GxR.TabG H a → ¬ B a → GxR.TabG H' a
theorem tab_there {H : Hp} {a : Addr} (h : GxR.TabG H a) : H a ≠ none := fun e => by
  obtain ⟨ps, e2, _⟩ := h
  rw [e] at e2; cases e2
theorem Tr.refl {B W : Ad} {H : Hp} : Tr B W H B W H := ⟨fun _ _ h _ _ => h, fun _ h => h, fun _ h => .inl h, fun _ h => .inl h, fun _ h _ => h, fun _ h _ => h⟩
theorem Tr.trans {B W B1 W1 B2 W2 : Ad} {H H1 H2 : Hp} (hB : ∀ a, B a → H a ≠ none) (a : Tr B W H B1 W1 H1) (b : Tr B1 W1 H1 B2 W2 H2) : Tr B W H B2 W2 H2 := by
  have nn : ∀ x, H1 x = none → H x = none := fun x h => by
    cases q : H x with
    | none => rfl
    | some o => exact absurd h (a.there x (by rw [q]; simp))
  refine ⟨fun x o h hw n => b.keep x o (a.keep x o h hw n) (fun z => ?_) n, fun x h => b.there x (a.there x h), fun x z => ?_, fun x z => ?_, fun x h hw => b.bkeep x (a.bkeep x h hw) fun z => ?_, fun x h hb => b.tabs x (a.tabs x h hb) fun z => ?_⟩
  · exact (a.wnew x z).elim hw fun e => by rw [h] at e; cases e
  · exact (b.bnew x z).elim (a.bnew x) fun e => .inr (nn x e)
  · exact (b.wnew x z).elim (a.wnew x) fun e => .inr (nn x e)
  · exact (a.wnew x z).elim hw fun e => hB x h e
  · exact (a.bnew x z).elim hb fun e => tab_there h e
theorem Rel.wb [Tabs] {K : PySem.W.Frag} {mg : MgT} {B : Ad} {ρ : Env} {σ : L2.St} {H : Hp} (r : Rel K mg B ρ σ H) {a : Addr} (h : Own ρ σ a) : B a := by
  obtain ⟨i, ⟨q, e1, e2⟩, e3⟩ := h
  have z := r.sl i q e1
  rw [e3] at z
  cases q with
  | un => cases e2
  | va d => cases e2
  | ow xs => obtain ⟨b, vs, e, h1, _⟩ := z; cases e; exact h1
  | io xs => obtain ⟨b, vs, e, h1, _⟩ := z; cases e; exact h1
theorem Tr.fe {B W B' W' : Ad} {H H' : Hp} (t : Tr B W H B' W' H') (hw : ∀ a, W a → B a) : FE B H B' H' := ⟨fun a o q hb n => t.keep a o q (fun z => hb (hw a z)) n, t.bnew, fun a q _ => t.there a q⟩
end KL
end

section
set_option Elab.async false
set_option linter.all false
set_option maxRecDepth 100000
namespace KL
open PySem L2
variable [Tabs]

/-- a state: what is kept apart, the slots' data, the slots, the heap -/
structure Sx where
  B : Ad
  ρ : Env
  σ : L2.St
  H : Hp
section
variable (K : PySem.W.Frag) (mg : MgT)
abbrev Sx.rel (S : Sx) : Prop := Rel K mg S.B S.ρ S.σ S.H
/-- from S to S' -/
structure Go (S S' : Sx) : Prop where
  rel : Rel K mg S'.B S'.ρ S'.σ S'.H
  tr : Tr S.B (Own S.ρ S.σ) S.H S'.B (Own S'.ρ S'.σ) S'.H
  io : ∀ (i : Nat) (q : Sl), S.ρ[i]? = some q → q.isIo = true → S'.σ[i]? = S.σ[i]? ∧ ∃ q', S'.ρ[i]? = some q' ∧ q'.isIo = true
  len : S'.σ.length = S.σ.length
/-- a value, reached from S, at S' -/
def RepV (S S' : Sx) : Vl → V → Prop
  | .fz d, v => Rep K mg S'.H S'.B d v
  | .fr xs, v => ∃ a vs, v = .ref a ∧ (Own S.ρ S.σ a ∨ S.H a = none) ∧ S'.B a ∧ ¬ Own S'.ρ S'.σ a ∧ S'.H a = some (.lst vs) ∧ RepL K mg S'.H S'.B xs vs
def RepO (S : Sx) : Od → V → Prop
  | .v d, v => Rep K mg S.H S.B d v
  | .s i, v => S.σ[i]? = some (some v)
/-- an exception in the air -/
def RepX (S : Sx) (e : D) (cls : Value) (dd : Option Addr) : Prop := ∃ (c : Str) (fs : List (Str × D)) (C : Addr), e = .err c fs ∧ mg c = some (.ref C) ∧ cls = .ref C ∧
  ((fs = [] ∧ dd = none) ∨ ∃ dx gs, dd = some dx ∧ ¬ S.B dx ∧ S.H dx = some (.xd gs) ∧ RepF K mg S.H S.B fs gs)
def Opn (S : Sx) : D → V → Prop
  | .lst xs, v => ∃ a vs, v = .ref a ∧ S.H a = some (.lst vs) ∧ RepL K mg S.H S.B xs vs
  | d, v => Rep K mg S.H S.B d v
def Sat {α : Type} (Wi : WX) (S : Sx) (Φ : α → Sx → Prop) : R α → Prop
  | .ok a ρ' => ∀ S' : Sx, S'.ρ = ρ' → S'.σ = S.σ → Go K mg S S' → Φ a S'
  | .ex e ρ' => ∀ (S' : Sx) (cls : Value) (dd : Option Addr), S'.ρ = ρ' → S'.σ = S.σ → Go K mg S S' → RepX K mg S' e cls dd → Wi cls dd S'.σ S'.H
  | .bad => False
end
section
variable {K : PySem.W.Frag} {mg : MgT} {S S1 S2 : Sx}
theorem Go.refl (h : S.rel K mg) : Go K mg S S := ⟨h, Tr.refl, fun i q h1 h2 => ⟨rfl, q, h1, h2⟩, rfl⟩
theorem Go.trans (h : S.rel K mg) (a : Go K mg S S1) (b : Go K mg S1 S2) : Go K mg S S2 := by
  refine ⟨b.rel, Tr.trans h.alloc a.tr b.tr, fun i q h1 h2 => ?_, b.len.trans a.len⟩
  obtain ⟨e1, q1, e2, e3⟩ := a.io i q h1 h2
  obtain ⟨f1, q2, f2, f3⟩ := b.io i q1 e2 e3
  exact ⟨f1.trans e1, q2, f2, f3⟩
theorem Go.fe (h : S.rel K mg) (a : Go K mg S S1) : FE S.B S.H S1.B S1.H := a.tr.fe fun x z => h.wb z
theorem RepV.later {a : Vl} {v : V} (h1 : S1.rel K mg) (r : RepV K mg S S1 a v) (b : Go K mg S1 S2) : RepV K mg S S2 a v := by
  cases a with
  | fz d => exact Rep.mono (b.fe h1) r
  | fr xs =>
    obtain ⟨a, vs, e, z, hb, hw, hh, hr⟩ := r
    refine ⟨a, vs, e, z, b.tr.bkeep a hb hw, fun q => ?_, b.tr.keep a _ hh hw trivial, RepL.mono (b.fe h1) hr⟩
    exact (b.tr.wnew a q).elim hw fun e => by rw [hh] at e; cases e
theorem RepO.later {o : Od} {v : V} (h1 : S1.rel K mg) (hs : S2.σ = S1.σ) (r : RepO K mg S1 o v) (b : Go K mg S1 S2) : RepO K mg S2 o v := by
  cases o with
  | v d => exact Rep.mono (b.fe h1) r
  | s i =>
    show S2.σ[i]? = _
    rw [hs]; exact r
theorem RepX.later {e : D} {cls : Value} {dd : Option Addr} (h1 : S1.rel K mg) (r : RepX K mg S1 e cls dd) (b : Go K mg S1 S2) : RepX K mg S2 e cls dd := by
  obtain ⟨c, fs, C, e1, e2, e3, z⟩ := r
  refine ⟨c, fs, C, e1, e2, e3, ?_⟩
  rcases z with z | ⟨dx, gs, f1, f2, f3, f4⟩
  · exact .inl z
  · have fe := b.fe h1
    exact .inr ⟨dx, gs, f1, fe.not f2 (by rw [f3]; simp), fe.keep _ _ f3 f2 trivial, RepF.mono fe f4⟩
theorem Rep.opn {d : D} {v : V} (h : Rep K mg S.H S.B d v) : Opn K mg S d v := by
  cases h with
  | lst hb h r => exact ⟨_, _, rfl, h, r⟩
  | non => exact .non
  | bl b => exact .bl b
  | int b => exact .int b
  | str b => exact .str b
  | tup a b c => exact .tup a b c
  | tupK a b => exact .tupK a b
  | scr a b => exact .scr a b
  | scrK a => exact .scrK a
  | err0 a b c => exact .err0 a b c
  | err a b c d e f => exact .err a b c d e f
theorem opn_of {o : Od} {d : D} {v : V} (h : S.rel K mg) (r : RepO K mg S o v) (g : o.get S.ρ = some d) : Opn K mg S d v := by
  cases o with
  | v x =>
    cases g
    exact Rep.opn r
  | s i =>
    have r' : S.σ[i]? = some (some v) := r
    have g' : (match S.ρ[i]? with
      | some q => q.d?
      | none => none) = some d := g
    cases e : S.ρ[i]? with
    | none => rw [e] at g'; cases g'
    | some q =>
      rw [e] at g'
      have z := h.sl i q e
      rw [r'] at z
      cases q with
      | un => cases g'
      | va x =>
        have g2 : x = d := Option.some.inj g'
        subst g2
        obtain ⟨w, e1, e2⟩ := z
        have e1' : v = w := Option.some.inj e1
        subst e1'
        exact Rep.opn e2
      | ow xs =>
        have g2 : D.lst xs = d := Option.some.inj g'
        subst g2
        obtain ⟨a, vs, e1, _, e2, e3⟩ := z
        have e1' : v = .ref a := Option.some.inj e1
        exact ⟨a, vs, e1', e2, e3⟩
      | io xs =>
        have g2 : D.lst xs = d := Option.some.inj g'
        subst g2
        obtain ⟨a, vs, e1, _, e2, e3⟩ := z
        have e1' : v = .ref a := Option.some.inj e1
        exact ⟨a, vs, e1', e2, e3⟩
theorem Sat.from {α : Type} {Wi : WX} {Ψ : α → Sx → Prop} {r : R α} (h : S.rel K mg) (hs : Sat K mg Wi S Ψ r) (e2 : S1.σ = S.σ) (g : Go K mg S S1) : Sat K mg Wi S1 Ψ r := by
  cases r with
  | bad => exact hs
  | ex e ρ2 => exact fun S' cls dd a1 a2 a3 a4 => hs S' cls dd a1 (a2.trans e2) (g.trans h a3) a4
  | ok b ρ2 => exact fun S' a1 a2 a3 => hs S' a1 (a2.trans e2) (g.trans h a3)
theorem RepV.from {a : Vl} {v : V} (g : Go K mg S S1) (r : RepV K mg S1 S2 a v) : RepV K mg S S2 a v := by
  cases a with
  | fz d => exact r
  | fr xs =>
    obtain ⟨a, vs, e, z, hb, hw, hh, hr⟩ := r
    refine ⟨a, vs, e, ?_, hb, hw, hh, hr⟩
    rcases z with z | z
    · exact g.tr.wnew a z
    · refine .inr ?_
      cases q : S.H a with
      | none => rfl
      | some o => exact absurd z (g.tr.there a (by rw [q]; simp))
/-- running on from a result -/
theorem Sat.bnd {α β : Type} {Wi : WX} {Φ : α → Sx → Prop} {Ψ : β → Sx → Prop} {r : R α} {f : α → Env → R β} (hs : Sat K mg Wi S Ψ (bnd r f))
    (k : ∀ a S1, S1.σ = S.σ → Go K mg S S1 → r = .ok a S1.ρ → Sat K mg Wi S Ψ (f a S1.ρ) → Φ a S1) : Sat K mg Wi S Φ r := by
  cases r with
  | bad => exact hs
  | ex e ρ' => exact hs
  | ok a ρ' =>
    intro S1 e1 e2 g
    subst e1
    exact k a S1 e2 g rfl hs
theorem Sat.imp {α : Type} {Wi : WX} {Φ Ψ : α → Sx → Prop} {r : R α} (hs : Sat K mg Wi S Φ r) (k : ∀ a S1, S1.σ = S.σ → Go K mg S S1 → r = .ok a S1.ρ → Φ a S1 → Ψ a S1) : Sat K mg Wi S Ψ r := by
  cases r with
  | bad => exact hs
  | ex e ρ' => exact hs
  | ok a ρ' =>
    intro S1 e1 e2 g
    subst e1
    exact k a S1 e2 g rfl (hs S1 rfl e2 g)
end

/-! ### the judgements -/
section
variable (K : PySem.W.Frag) (mg : MgT) (Wi : WX)
def TE_ (f : M Vl) : TE := fun σ H Q => ∃ S : Sx, S.rel K mg ∧ S.σ = σ ∧ S.H = H ∧ Sat K mg Wi S (fun a S' => ∀ v, RepV K mg S S' a v → Q v S'.H) (f S.ρ)
def TO_ (f : M Od) : TE := fun σ H Q => ∃ S : Sx, S.rel K mg ∧ S.σ = σ ∧ S.H = H ∧ Sat K mg Wi S (fun a S' => ∀ v, RepO K mg S' a v → Q v S'.H) (f S.ρ)
def TT_ (f : M Bool) : TT := fun σ H Q => ∃ S : Sx, S.rel K mg ∧ S.σ = σ ∧ S.H = H ∧ Sat K mg Wi S (fun a S' => Q a S'.H) (f S.ρ)
inductive RepOs (S : Sx) : List Od → List V → Prop
  | nil : RepOs S [] []
  | cons {o : Od} {os : List Od} {v : V} {vs : List V} : RepO K mg S o v → RepOs S os vs → RepOs S (o :: os) (v :: vs)
def TA_ (f : M (List Od)) : TA := fun σ H Q => ∃ S : Sx, S.rel K mg ∧ S.σ = σ ∧ S.H = H ∧ Sat K mg Wi S (fun a S' => ∀ vs, RepOs K mg S' a vs → Q vs S'.H) (f S.ρ)
end
theorem RepOs.later {K : PySem.W.Frag} {mg : MgT} {S1 S2 : Sx} (h1 : S1.rel K mg) (hs : S2.σ = S1.σ) (b : Go K mg S1 S2) : ∀ {os : List Od} {vs : List V}, RepOs K mg S1 os vs → RepOs K mg S2 os vs
  | _, _, .nil => .nil
  | _, _, .cons a r => .cons (a.later h1 hs b) (RepOs.later h1 hs b r)
structure RE (X : Cx) (e : Expr) (f : M Vl) : Prop where
  run : ∀ Wi, Takes X Wi → PE X e (TE_ X.K X.mg Wi f)
structure RO (X : Cx) (e : Expr) (f : M Od) : Prop where
  run : ∀ Wi, Takes X Wi → PE X e (TO_ X.K X.mg Wi f)
structure RT (X : Cx) (e : Expr) (f : M Bool) : Prop where
  run : ∀ Wi, Takes X Wi → PT X e (TT_ X.K X.mg Wi f)
structure RA (X : Cx) (es : List Expr) (f : M (List Od)) : Prop where
  run : ∀ Wi, Takes X Wi → PA X es (TA_ X.K X.mg Wi f)
theorem pe_imp {X : Cx} {e : Expr} {t t' : TE} (h : PE X e t) (k : ∀ σ H Q, t' σ H Q → t σ H Q) : PE X e t' := ⟨fun pins s σ H Q I q => h.run pins s σ H Q I (k σ H Q q)⟩
theorem pt_imp {X : Cx} {e : Expr} {t t' : TT} (h : PT X e t) (k : ∀ σ H Q, t' σ H Q → t σ H Q) : PT X e t' := ⟨fun pins s σ H Q I q => h.run pins s σ H Q I (k σ H Q q)⟩
theorem pa_imp {X : Cx} {es : List Expr} {t t' : TA} (h : PA X es t) (k : ∀ σ H Q, t' σ H Q → t σ H Q) : PA X es t' := ⟨fun pos pins s σ H Q I q => h.run pos pins s σ H Q I (k σ H Q q)⟩

/-! ### operands -/
def frz (f : M Vl) : M Od := fun ρ => bnd (f ρ) fun a ρ' => .ok (.v a.d) ρ'
section
variable {K : PySem.W.Frag} {mg : MgT}
/-- a value is given up: nobody changes it from now on -/
theorem freeze {S S1 : Sx} (h : S.rel K mg) (g : Go K mg S S1) {a : Vl} {v : V} (r : RepV K mg S S1 a v) : ∃ S2 : Sx, S2.ρ = S1.ρ ∧ S2.σ = S1.σ ∧ S2.H = S1.H ∧ Go K mg S S2 ∧ Rep K mg S2.H S2.B a.d v := by
  cases a with
  | fz d => exact ⟨S1, rfl, rfl, rfl, g, r⟩
  | fr xs =>
    obtain ⟨a, vs, e, z, hb, hw, hh, hr⟩ := r
    subst e
    have fe : FE S1.B S1.H (fun x => S1.B x ∧ x ≠ a) S1.H := FE.sub fun x q => q.1
    refine ⟨⟨fun x => S1.B x ∧ x ≠ a, S1.ρ, S1.σ, S1.H⟩, rfl, rfl, rfl, ⟨⟨g.rel.len, fun i q e => ?_, g.rel.dist, fun x q => g.rel.alloc x q.1, fun x q => ⟨(g.rel.tab x q).1, fun z => (g.rel.tab x q).2 z.1⟩⟩, ⟨g.tr.keep, g.tr.there, fun x q => g.tr.bnew x q.1, g.tr.wnew, fun x q1 q2 => ⟨g.tr.bkeep x q1 q2, fun e => ?_⟩, g.tr.tabs⟩, g.io, g.len⟩, ?_⟩
    · have y := g.rel.sl i q e
      have own : ∀ b, S1.σ[i]?.getD none = some (.ref b) → q.mine = true → b ≠ a := fun b eb em z2 => by
        refine hw ⟨i, ⟨q, e, em⟩, ?_⟩
        rw [← z2]
        cases w : S1.σ[i]? with
        | none => rw [w] at eb; cases eb
        | some o => rw [w] at eb; exact congrArg some eb
      cases q with
      | un => trivial
      | va d => obtain ⟨w, e1, e2⟩ := y; exact ⟨w, e1, Rep.mono fe e2⟩
      | ow ys => obtain ⟨b, ws, e1, e2, e3, e4⟩ := y; exact ⟨b, ws, e1, ⟨e2, own b e1 rfl⟩, e3, RepL.mono fe e4⟩
      | io ys => obtain ⟨b, ws, e1, e2, e3, e4⟩ := y; exact ⟨b, ws, e1, ⟨e2, own b e1 rfl⟩, e3, RepL.mono fe e4⟩
    · subst e
      rcases z with z | z
      · exact q2 z
      · exact h.alloc _ q1 z
    · exact .lst (fun q => q.2 rfl) hh (RepL.mono fe hr)
end
section
variable {X : Cx}
theorem ro_of {e : Expr} {f : M Vl} (h : RE X e f) : RO X e (frz f) := by
  refine ⟨fun Wi tk => pe_imp (h.run Wi tk) fun σ H Q q => ?_⟩
  obtain ⟨S, hS, e1, e2, q⟩ := q
  refine ⟨S, hS, e1, e2, q.bnd fun a S1 es g er q1 v rv => ?_⟩
  obtain ⟨S2, f1, f2, f3, g2, r2⟩ := freeze hS g rv
  have z := q1 S2 f1 (f2.trans es) g2 v r2
  rw [f3] at z
  exact z
/-- a name as an operand: it stays where it is -/
def nmO (i : Nat) : M Od := fun ρ => match ρ[i]? with
  | some (.va _) => .ok (.s i) ρ
  | some (.ow _) => .ok (.s i) ρ
  | some (.io _) => .ok (.s i) ρ
  | _ => .bad
theorem ro_name {x : Str} {pos : Pos} (i : Nat) (hN : X.N[i]? = some x := by rfl) (hv : Vis X.env.scope x := by first | exact Or.inl rfl | exact Or.inr (Or.inl rfl) | exact Or.inr (Or.inr rfl)) (hd : (x == ("__debug__" : Str)) = false := by decide)
    (hcd : (x == ("__classdict__" : Str)) = false := by decide) : RO X (.Name x pos) (nmO i) := by
  refine ⟨fun Wi tk => pe_imp (pe_var hN hv hd hcd) fun σ H Q q => ?_⟩
  obtain ⟨S, hS, e1, e2, q⟩ := q
  subst e1; subst e2
  unfold nmO at q
  have fin : ∀ v, S.σ[i]? = some (some v) → Sat X.K X.mg Wi S (fun a S' => ∀ v, RepO X.K X.mg S' a v → Q v S'.H) (.ok (.s i) S.ρ) → tVar i S.σ S.H Q := fun v e z => ⟨v, e, z S rfl rfl (Go.refl hS) v e⟩
  have up : ∀ v, S.σ[i]?.getD none = some v → S.σ[i]? = some (some v) := fun v e => by
    cases w : S.σ[i]? with
    | none => rw [w] at e; cases e
    | some o => rw [w] at e; exact congrArg some e
  cases e : S.ρ[i]? with
  | none => rw [e] at q; exact q.elim
  | some s =>
    rw [e] at q
    have y := hS.sl i s e
    cases s with
    | un => exact q.elim
    | va d => obtain ⟨w, e1, e2⟩ := y; exact fin w (up w e1) q
    | ow xs => obtain ⟨a, vs, e1, _⟩ := y; exact fin _ (up _ e1) q
    | io xs => obtain ⟨a, vs, e1, _⟩ := y; exact fin _ (up _ e1) q
end
end KL
end

section
set_option Elab.async false
set_option linter.all false
set_option maxRecDepth 100000
namespace KL
open PySem L2
variable [Tabs]

/-! ### operators by values -/
def ofO (o : Option Vl) : M Vl := fun ρ => match o with
  | some a => .ok a ρ
  | none => .bad
def getAll (ρ : Env) : List Od → Option (List D)
  | [] => some []
  | o :: os => match o.get ρ with
    | some d => match getAll ρ os with
      | some ds => some (d :: ds)
      | none => none
    | none => none
def app1 (p : D → Option Vl) (a : Od) : M Vl := fun ρ => match a.get ρ with
  | some x => ofO (p x) ρ
  | none => .bad
def app2 (p : D → D → Option Vl) (a b : Od) : M Vl := fun ρ => match a.get ρ with
  | some x => match b.get ρ with
    | some y => ofO (p x y) ρ
    | none => .bad
  | none => .bad
def appN (p : List D → Option Vl) (os : List Od) : M Vl := fun ρ => match getAll ρ os with
  | some ds => ofO (p ds) ρ
  | none => .bad
def un1 (p : D → Option Vl) (f : M Od) : M Vl := fun ρ => bnd (f ρ) fun a ρ1 => app1 p a ρ1
def bin (p : D → D → Option Vl) (f g : M Od) : M Vl := fun ρ => bnd (f ρ) fun a ρ1 => bnd (g ρ1) fun b ρ2 => app2 p a b ρ2

section
variable (K : PySem.W.Frag) (mg : MgT)
/-- what is promised of a result -/
def Fin (S : Sx) (a : Vl) (Q : VK) : Prop := ∀ v S', S'.ρ = S.ρ → S'.σ = S.σ → Go K mg S S' → RepV K mg S S' a v → Q v S'.H
def P1 (r : V → Hp → VK → Prop) (p : D → Option Vl) : Prop := ∀ (S : Sx) (d : D) (x : V) (a : Vl) (Q : VK), S.rel K mg → p d = some a → Opn K mg S d x → Fin K mg S a Q → r x S.H Q
def P2 (r : R2) (p : D → D → Option Vl) : Prop := ∀ (S : Sx) (d e : D) (x y : V) (a : Vl) (Q : VK), S.rel K mg → p d e = some a → Opn K mg S d x → Opn K mg S e y → Fin K mg S a Q → r x y S.H Q
inductive OpnL (S : Sx) : List D → List V → Prop
  | nil : OpnL S [] []
  | cons {d : D} {ds : List D} {v : V} {vs : List V} : Opn K mg S d v → OpnL S ds vs → OpnL S (d :: ds) (v :: vs)
def PN (r : List V → Hp → VK → Prop) (p : List D → Option Vl) : Prop := ∀ (S : Sx) (ds : List D) (vs : List V) (a : Vl) (Q : VK), S.rel K mg → p ds = some a → OpnL K mg S ds vs → Fin K mg S a Q → r vs S.H Q
end
section
variable {K : PySem.W.Frag} {mg : MgT} {S : Sx}
theorem opnL_of (h : S.rel K mg) : ∀ {os : List Od} {ds : List D} {vs : List V}, RepOs K mg S os vs → getAll S.ρ os = some ds → OpnL K mg S ds vs
  | _, _, _, .nil, e => by cases e; exact .nil
  | o :: os, ds, _, .cons a r, e => by
    unfold getAll at e
    cases h1 : o.get S.ρ with
    | none => rw [h1] at e; cases e
    | some d =>
      rw [h1] at e
      cases h2 : getAll S.ρ os with
      | none => rw [h2] at e; cases e
      | some es =>
        rw [h2] at e
        cases e
        exact .cons (opn_of h a h1) (opnL_of h r h2)
theorem fin_of {a : Vl} {Q : VK} {Wi : WX} (q : Sat K mg Wi S (fun a S' => ∀ v, RepV K mg S S' a v → Q v S'.H) (.ok a S.ρ)) : Fin K mg S a Q := fun v S' e1 e2 g r => q S' e1 e2 g v r
/-- nothing is made -/
theorem Fin.same {a : Vl} {Q : VK} (h : S.rel K mg) (f : Fin K mg S a Q) {v : V} (r : RepV K mg S S a v) : Q v S.H := f v S rfl rfl (Go.refl h) r
theorem Fin.d {d : D} {Q : VK} (h : S.rel K mg) (f : Fin K mg S (.fz d) Q) {v : V} (r : Rep K mg S.H S.B d v) : Q v S.H := f v S rfl rfl (Go.refl h) r
theorem go_ext {B' : Ad} {H' : Hp} (h : S.rel K mg) (he : ∀ a o, S.H a = some o → NT o → H' a = some o) (ht : ∀ a, GxR.TabG S.H a → ¬ S.B a → GxR.TabG H' a) (h1 : ∀ a, S.B a → B' a) (h2 : ∀ a, B' a → S.B a ∨ S.H a = none) (h3 : ∀ a, B' a → H' a ≠ none) (h4 : ∀ a, S.H a ≠ none → H' a ≠ none) : Go K mg S ⟨B', S.ρ, S.σ, H'⟩ := by
  have fe : FE S.B S.H B' H' := ⟨fun a o q _ n => he a o q n, h2, fun a q _ => h4 a q⟩
  refine ⟨⟨h.len, fun i q e => ?_, h.dist, h3, fun a z => ⟨ht a (h.tab a z).1 (h.tab a z).2, fun y => (h2 a y).elim (h.tab a z).2 (tab_there (h.tab a z).1)⟩⟩, ⟨fun a o q _ n => he a o q n, h4, h2, fun a z => .inl z, fun a z _ => h1 a z, ht⟩, fun i q e1 e2 => ⟨rfl, q, e1, e2⟩, rfl⟩
  have y := h.sl i q e
  cases q with
  | un => trivial
  | va d => obtain ⟨w, e1, e2⟩ := y; exact ⟨w, e1, Rep.mono fe e2⟩
  | ow ys => obtain ⟨b, ws, e1, e2, e3, e4⟩ := y; exact ⟨b, ws, e1, h1 b e2, he _ _ e3 trivial, RepL.mono fe e4⟩
  | io ys => obtain ⟨b, ws, e1, e2, e3, e4⟩ := y; exact ⟨b, ws, e1, h1 b e2, he _ _ e3 trivial, RepL.mono fe e4⟩
/-- all that was there is kept -/
theorem go_extA {B' : Ad} {H' : Hp} (h : S.rel K mg) (he : ∀ a o, S.H a = some o → H' a = some o) (h1 : ∀ a, S.B a → B' a) (h2 : ∀ a, B' a → S.B a ∨ S.H a = none) (h3 : ∀ a, B' a → H' a ≠ none) : Go K mg S ⟨B', S.ρ, S.σ, H'⟩ :=
  go_ext h (fun a o q _ => he a o q) (fun a ⟨ps, e, q⟩ _ => ⟨ps, he _ _ e, q⟩) h1 h2 h3 fun a z => by
    cases q : S.H a with
    | none => exact absurd q z
    | some o => rw [he a o q]; simp
theorem ext_upd {H : Hp} {p : Addr} {o : HO} (hp : H p = none) : ∀ a u, H a = some u → upd H p o a = some u := fun a u e => by
  rw [upd_ne (ne_of_none e hp)]; exact e
theorem fe_new {B : Ad} {H : Hp} {p : Addr} {o : HO} (hp : H p = none) : FE B H B (upd H p o) := ⟨fun b u q _ _ => ext_upd hp b u q, fun b q => .inl q, fun b q _ => by
  cases z : H b with
  | none => exact absurd z q
  | some u => rw [ext_upd hp b u z]; simp⟩
/-- a new list -/
theorem Fin.newL {xs : List D} {vs : List V} {Q : VK} (h : S.rel K mg) (f : Fin K mg S (.fr xs) Q) (r : RepL K mg S.H S.B xs vs) : ∀ p, S.H p = none → Q (.ref p) (upd S.H p (.lst vs)) := fun p hp => by
  have nb : ¬ S.B p := fun z => h.alloc p z hp
  have g : Go K mg S ⟨fun a => S.B a ∨ a = p, S.ρ, S.σ, upd S.H p (.lst vs)⟩ := go_extA h (ext_upd hp) (fun a z => .inl z) (fun a z => z.imp id fun e => by rw [e]; exact hp) (fun a z => by
    by_cases e : a = p
    · rw [e, upd_same]; simp
    · rw [upd_ne e]; exact h.alloc a (z.resolve_right e))
  refine f (.ref p) ⟨fun a => S.B a ∨ a = p, S.ρ, S.σ, upd S.H p (.lst vs)⟩ rfl rfl g ⟨p, vs, rfl, .inr hp, .inr rfl, fun z => nb (h.wb z), upd_same, RepL.mono (g.fe h) r⟩
/-- a new tuple -/
theorem Fin.newT {xs : List D} {vs : List V} {Q : VK} (h : S.rel K mg) (f : Fin K mg S (.fz (.tup xs)) Q) (r : RepL K mg S.H S.B xs vs) : ∀ p, S.H p = none → Q (.ref p) (upd S.H p (.tup vs)) := fun p hp => by
  have nb : ¬ S.B p := fun z => h.alloc p z hp
  have g : Go K mg S ⟨S.B, S.ρ, S.σ, upd S.H p (.tup vs)⟩ := go_extA h (ext_upd hp) (fun a z => z) (fun a z => .inl z) (fun a z => by
    rw [upd_ne (fun e => nb (by rw [← e]; exact z))]; exact h.alloc a z)
  exact f (.ref p) ⟨S.B, S.ρ, S.σ, upd S.H p (.tup vs)⟩ rfl rfl g (.tup nb upd_same (RepL.mono (g.fe h) r))
/-- a tuple as an operand -/
theorem Opn.tup {xs : List D} {v : V} (o : Opn K mg S (.tup xs) v) : ∃ a vs, v = .ref a ∧ SqT K S.H a vs ∧ RepL K mg S.H S.B xs vs := by
  cases o with
  | tup hb h r => exact ⟨_, _, rfl, .inl (.inl h), r⟩
  | tupK h r => exact ⟨_, _, rfl, h _, r⟩
theorem Opn.int {i : Int} {v : V} (o : Opn K mg S (.int i) v) : v = .int i := by cases o; rfl
theorem Opn.bl {i : Bool} {v : V} (o : Opn K mg S (.bl i) v) : v = .bl i := by cases o; rfl
theorem Opn.str {i : Str} {v : V} (o : Opn K mg S (.str i) v) : v = .str i := by cases o; rfl
theorem Opn.non {v : V} (o : Opn K mg S .non v) : v = .non := by cases o; rfl
end

section
variable {X : Cx} {pos : Pos}
theorem app_ok {α : Type} {S : Sx} {K : PySem.W.Frag} {mg : MgT} {Wi : WX} {Ψ : α → Sx → Prop} {r : R α} (h : Sat K mg Wi S Ψ r) : r ≠ .bad := fun e => by rw [e] at h; exact h
theorem sat2 {S1 : Sx} {K : PySem.W.Frag} {mg : MgT} {Wi : WX} {Q : VK} {p : D → D → Option Vl} {a b : Od} {x y : V} {r : R2} (hp : P2 K mg r p) (h1 : S1.rel K mg) (rx : RepO K mg S1 a x) (ry : RepO K mg S1 b y)
    (h : Sat K mg Wi S1 (fun a S' => ∀ v, RepV K mg S1 S' a v → Q v S'.H) (app2 p a b S1.ρ)) : r x y S1.H Q := by
  unfold app2 ofO at h
  cases e1 : a.get S1.ρ with
  | none => simp only [e1] at h; exact h.elim
  | some d =>
    cases e2 : b.get S1.ρ with
    | none => simp only [e1, e2] at h; exact h.elim
    | some e =>
      cases e3 : p d e with
      | none => simp only [e1, e2, e3] at h; exact h.elim
      | some z =>
        simp only [e1, e2, e3] at h
        exact hp S1 d e x y z Q h1 e3 (opn_of h1 rx e1) (opn_of h1 ry e2) (fin_of h)
theorem sat1 {S1 : Sx} {K : PySem.W.Frag} {mg : MgT} {Wi : WX} {Q : VK} {p : D → Option Vl} {a : Od} {x : V} {r : V → Hp → VK → Prop} (hp : P1 K mg r p) (h1 : S1.rel K mg) (rx : RepO K mg S1 a x)
    (h : Sat K mg Wi S1 (fun a S' => ∀ v, RepV K mg S1 S' a v → Q v S'.H) (app1 p a S1.ρ)) : r x S1.H Q := by
  unfold app1 ofO at h
  cases e1 : a.get S1.ρ with
  | none => simp only [e1] at h; exact h.elim
  | some d =>
    cases e3 : p d with
    | none => simp only [e1, e3] at h; exact h.elim
    | some z =>
      simp only [e1, e3] at h
      exact hp S1 d x z Q h1 e3 (opn_of h1 rx e1) (fin_of h)
theorem satN {S1 : Sx} {K : PySem.W.Frag} {mg : MgT} {Wi : WX} {Q : VK} {p : List D → Option Vl} {os : List Od} {vs : List V} {r : List V → Hp → VK → Prop} (hp : PN K mg r p) (h1 : S1.rel K mg) (rx : RepOs K mg S1 os vs)
    (h : Sat K mg Wi S1 (fun a S' => ∀ v, RepV K mg S1 S' a v → Q v S'.H) (appN p os S1.ρ)) : r vs S1.H Q := by
  unfold appN ofO at h
  cases e1 : getAll S1.ρ os with
  | none => simp only [e1] at h; exact h.elim
  | some d =>
    cases e3 : p d with
    | none => simp only [e1, e3] at h; exact h.elim
    | some z =>
      simp only [e1, e3] at h
      exact hp S1 d vs z Q h1 e3 (opnL_of h1 rx e1) (fin_of h)
/-- the value's place counted from an earlier state -/
theorem Sat.vfrom {S S1 : Sx} {K : PySem.W.Frag} {mg : MgT} {Wi : WX} {Q : VK} {r : R Vl} (h : S.rel K mg) (g : Go K mg S S1) (es : S1.σ = S.σ) (q : Sat K mg Wi S (fun a S' => ∀ v, RepV K mg S S' a v → Q v S'.H) r) :
    Sat K mg Wi S1 (fun a S' => ∀ v, RepV K mg S1 S' a v → Q v S'.H) r := (q.from h es g).imp fun a S' _ _ _ z v rv => z v (rv.from g)
theorem tbin {K : PySem.W.Frag} {mg : MgT} {Wi : WX} {f g : M Od} {p : D → D → Option Vl} {r : R2} (hp : P2 K mg r p) : ∀ σ H Q, TE_ K mg Wi (bin p f g) σ H Q → tOp r (TO_ K mg Wi f) (TO_ K mg Wi g) σ H Q := fun σ H Q q => by
  obtain ⟨S, hS, rfl, rfl, q⟩ := q
  refine ⟨S, hS, rfl, rfl, q.bnd fun a S1 es1 g1 _ q1 x rx => ?_⟩
  have hS1 := g1.rel
  refine ⟨S1, hS1, es1, rfl, (q1.vfrom hS g1 es1).bnd fun b S2 es2 g2 _ q2 y ry => ?_⟩
  exact sat2 hp g2.rel (rx.later hS1 es2 g2) ry (q2.vfrom hS1 g2 es2)
theorem re_op {a b : Expr} {op : Operator} {f g : M Od} {p : D → D → Option Vl} {r : R2} (ho : OpR X (binaryOp op) r) (hp : P2 X.K X.mg r p) (ha : RO X a f) (hb : RO X b g) : RE X (.BinOp a op b pos) (bin p f g) :=
  ⟨fun Wi tk => pe_imp (pe_op ho (ha.run Wi tk) (hb.run Wi tk)) (tbin hp)⟩
theorem re_cmp {a b : Expr} {op : CmpOp} {f g : M Od} {p : D → D → Option Vl} {r : R2} (ho : OpR X (compareOp op) r) (hp : P2 X.K X.mg r p) (ha : RO X a f) (hb : RO X b g) (hm : behindInMarks op b = false) : RE X (.Compare a [op] [b] pos) (bin p f g) :=
  ⟨fun Wi tk => pe_imp (pe_cmpR ho (ha.run Wi tk) (hb.run Wi tk) hm) (tbin hp)⟩
theorem re_un {a : Expr} {op : UnaryOp} {f : M Od} {p : D → Option Vl} {r : V → Hp → VK → Prop} (ho : UnR X (unaryOp op) r) (hp : P1 X.K X.mg r p) (ha : RO X a f) : RE X (.UnaryOp op a pos) (un1 p f) := by
  refine ⟨fun Wi tk => pe_imp (pe_un ho (ha.run Wi tk)) fun σ H Q q => ?_⟩
  obtain ⟨S, hS, rfl, rfl, q⟩ := q
  refine ⟨S, hS, rfl, rfl, q.bnd fun a S1 es1 g1 _ q1 x rx => ?_⟩
  exact sat1 hp g1.rel rx (q1.vfrom hS g1 es1)
end
end KL
end

section
set_option Elab.async false
set_option linter.all false
set_option maxRecDepth 100000
namespace KL
open PySem L2
variable [Tabs]

/-! ### equality of data -/
mutual
def D.eqD : D → D → Bool
  | .non, .non => true
  | .bl a, .bl b => a == b
  | .bl a, .int j => (if a then 1 else 0) == j
  | .int i, .bl b => i == (if b then 1 else 0)
  | .int i, .int j => i == j
  | .str x, .str y => x == y
  | .lst xs, .lst ys => D.eqL xs ys
  | .tup xs, .tup ys => D.eqL xs ys
  | _, _ => false
def D.eqL : List D → List D → Bool
  | [], [] => true
  | x :: xs, y :: ys => D.eqD x y && D.eqL xs ys
  | _, _ => false
end
mutual
def D.pln : D → Bool
  | .lst xs => D.plnL xs
  | .tup xs => D.plnL xs
  | .scr _ => false
  | .err _ _ => false
  | _ => true
def D.plnL : List D → Bool
  | [] => true
  | x :: xs => D.pln x && D.plnL xs
end
mutual
def D.dep : D → Nat
  | .lst xs => D.depL xs + 1
  | .tup xs => D.depL xs + 1
  | _ => 0
def D.depL : List D → Nat
  | [] => 0
  | x :: xs => max (D.dep x) (D.depL xs)
end
mutual
def D.py : D → PyData
  | .non => .none
  | .bl b => .bool b
  | .int i => .int i
  | .str s => .str s
  | .lst xs => .list (D.pyL xs)
  | .tup xs => .tuple (D.pyL xs)
  | .scr _ => .none
  | .err _ _ => .none
def D.pyL : List D → List PyData
  | [] => []
  | x :: xs => D.py x :: D.pyL xs
end
mutual
theorem py_plain : ∀ d : D, d.py.plain = true
  | .non => rfl
  | .bl _ => rfl
  | .int _ => rfl
  | .str _ => rfl
  | .lst xs => by simp only [D.py, PyData.plain]; exact pyL_plain xs
  | .tup xs => by simp only [D.py, PyData.plain]; exact pyL_plain xs
  | .scr _ => rfl
  | .err _ _ => rfl
theorem pyL_plain : ∀ xs : List D, PyData.plainAll (D.pyL xs) = true
  | [] => rfl
  | x :: xs => by simp only [D.pyL, PyData.plainAll, py_plain x, pyL_plain xs, Bool.and_self]
end
mutual
theorem py_dep : ∀ d : D, d.py.depth = d.dep
  | .non => rfl
  | .bl _ => rfl
  | .int _ => rfl
  | .str _ => rfl
  | .lst xs => by simp only [D.py, PyData.depth, D.dep, pyL_dep xs]
  | .tup xs => by simp only [D.py, PyData.depth, D.dep, pyL_dep xs]
  | .scr _ => rfl
  | .err _ _ => rfl
theorem pyL_dep : ∀ xs : List D, PyData.depthAll (D.pyL xs) = D.depL xs
  | [] => rfl
  | x :: xs => by simp only [D.pyL, PyData.depthAll, D.depL, py_dep x, pyL_dep xs]
end
mutual
theorem py_eq : ∀ d e : D, d.pln = true → e.pln = true → PyData.eqv d.py e.py = d.eqD e
  | .non, e, _, h => by cases e <;> first | rfl | (simp [D.pln] at h)
  | .bl a, e, _, h => by cases e <;> first | rfl | (simp [D.pln] at h)
  | .int i, e, _, h => by cases e <;> first | rfl | (simp [D.pln] at h)
  | .str s, e, _, h => by cases e <;> first | rfl | (simp [D.pln] at h)
  | .lst xs, e, h1, h => by
    cases e with
    | lst ys => simp only [D.py, PyData.eqv, D.eqD]; exact pyL_eq xs ys (by simpa [D.pln] using h1) (by simpa [D.pln] using h)
    | scr _ => simp [D.pln] at h
    | err _ _ => simp [D.pln] at h
    | _ => simp [D.py, PyData.eqv, D.eqD]
  | .tup xs, e, h1, h => by
    cases e with
    | tup ys => simp only [D.py, PyData.eqv, D.eqD]; exact pyL_eq xs ys (by simpa [D.pln] using h1) (by simpa [D.pln] using h)
    | scr _ => simp [D.pln] at h
    | err _ _ => simp [D.pln] at h
    | _ => simp [D.py, PyData.eqv, D.eqD]
  | .scr _, _, h1, _ => by simp [D.pln] at h1
  | .err _ _, _, h1, _ => by simp [D.pln] at h1
theorem pyL_eq : ∀ xs ys : List D, D.plnL xs = true → D.plnL ys = true → PyData.eqvAll (D.pyL xs) (D.pyL ys) = D.eqL xs ys
  | [], [], _, _ => rfl
  | [], _ :: _, _, _ => rfl
  | _ :: _, [], _, _ => rfl
  | x :: xs, y :: ys, h1, h2 => by
    simp only [D.plnL, Bool.and_eq_true] at h1 h2
    simp only [D.pyL, PyData.eqvAll, D.eqL, py_eq x y h1.1 h2.1, pyL_eq xs ys h1.2 h2.2]
end
theorem pyL_any (d : D) (hd : d.pln = true) : ∀ xs : List D, D.plnL xs = true → ((D.pyL xs).any fun y => PyData.eqv y d.py) = xs.any fun y => y.eqD d
  | [], _ => rfl
  | x :: xs, h => by
    simp only [D.plnL, Bool.and_eq_true] at h
    simp only [D.pyL, List.any_cons, py_eq x d h.1 hd, pyL_any d hd xs h.2]
section
variable {K : PySem.W.Frag} {mg : MgT} {S : Sx} {H : Hp} {B : Ad}
mutual
theorem rep_dp : ∀ {d : D} {v : V}, Rep K mg H B d v → d.pln = true → Dp K H v d.py
  | _, _, .non, _ => .non
  | _, _, .bl b, _ => .bl b
  | _, _, .int b, _ => .int b
  | _, _, .str b, _ => .str b
  | _, _, .lst _ h r, p => .lst (.inl (.inl h)) (repL_dp r (by simpa [D.pln] using p))
  | _, _, .tup _ h r, p => .tup (.inl (.inl h)) (repL_dp r (by simpa [D.pln] using p))
  | _, _, .tupK h r, p => .tup (h _) (repL_dp r (by simpa [D.pln] using p))
  | _, _, .scr _ _, p => by simp [D.pln] at p
  | _, _, .scrK _, p => by simp [D.pln] at p
  | _, _, .err0 _ _ _, p => by simp [D.pln] at p
  | _, _, .err _ _ _ _ _ _, p => by simp [D.pln] at p
theorem repL_dp : ∀ {d : List D} {v : List V}, RepL K mg H B d v → D.plnL d = true → DpAll K H v (D.pyL d)
  | _, _, .nil, _ => .nil
  | _, _, .cons a b, p => by
    simp only [D.plnL, Bool.and_eq_true] at p
    exact .cons (rep_dp a p.1) (repL_dp b p.2)
end
theorem opn_dp {d : D} {v : V} (o : Opn K mg S d v) (p : d.pln = true) : Dp K S.H v d.py := by
  cases d with
  | lst xs =>
    obtain ⟨a, vs, rfl, h, r⟩ := o
    exact .lst (.inl (.inl h)) (repL_dp r (by simpa [D.pln] using p))
  | _ => exact rep_dp o p
end
def rEqP (K : PySem.W.Frag) (neg : Bool) : R2 := fun x y H Q => ∃ d e, Dp K H x d ∧ Dp K H y e ∧ d.plain = true ∧ e.plain = true ∧ min d.depth e.depth ≤ 64 ∧ Q (.bl (if neg then !PyData.eqv d e else PyData.eqv d e)) H
section
variable {X : Cx} {k : Nat}
theorem op_eqP (hr : Room k X.A) : OpR X (compareOp .Eq) (rEqP X.K false) := by
  intro pins s σ H x y v u Q I rx ry h
  obtain ⟨d, e, hd, he, sd, se, hm, q⟩ := h
  obtain ⟨as, r1⟩ := Dp.reads I d x v hd rx
  obtain ⟨bs, r2⟩ := Dp.reads I e y u he ry
  exact SeqAt.eq_plain r1 r2 sd se (by have := hr.units; omega) ⟨.bl _, H, I, rfl, q⟩
theorem op_neP (hr : Room k X.A) : OpR X (compareOp .NotEq) (rEqP X.K true) := by
  intro pins s σ H x y v u Q I rx ry h
  obtain ⟨d, e, hd, he, sd, se, hm, q⟩ := h
  obtain ⟨as, r1⟩ := Dp.reads I d x v hd rx
  obtain ⟨bs, r2⟩ := Dp.reads I e y u he ry
  exact SeqAt.ne_plain r1 r2 sd se (by have := hr.units; omega) ⟨.bl _, H, I, rfl, q⟩
def rInP (K : PySem.W.Frag) (neg : Bool) : R2 := fun x y H Q => ∃ d es c, Dp K H x d ∧ Dp K H y c ∧ (c = .list es ∨ c = .tuple es) ∧ d.plain = true ∧ PyData.plainAll es = true ∧ min (PyData.depthAll es) d.depth ≤ 62 ∧
  Q (.bl (if neg then !(es.any fun z => PyData.eqv z d) else es.any fun z => PyData.eqv z d)) H
theorem op_inP (hr : Room k X.A) : OpR X (compareOp .In) (rInP X.K false) := by
  intro pins s σ H x y v u Q I rx ry h
  obtain ⟨d, es, c, hd, he, hc, sd, se, hm, q⟩ := h
  obtain ⟨as, r1⟩ := Dp.reads I d x v hd rx
  obtain ⟨bs, r2⟩ := Dp.reads I c y u he ry
  have hu := hr.units
  rcases hc with rfl | rfl
  · exact SeqAt.in_list_data r2 r1 se sd (by omega) ⟨.bl _, H, I, rfl, q⟩
  · exact SeqAt.in_tuple_data r2 r1 se sd (by omega) ⟨.bl _, H, I, rfl, q⟩
theorem op_notInP (hr : Room k X.A) : OpR X (compareOp .NotIn) (rInP X.K true) := by
  intro pins s σ H x y v u Q I rx ry h
  obtain ⟨d, es, c, hd, he, hc, sd, se, hm, q⟩ := h
  obtain ⟨as, r1⟩ := Dp.reads I d x v hd rx
  obtain ⟨bs, r2⟩ := Dp.reads I c y u he ry
  have hu := hr.units
  rcases hc with rfl | rfl
  · exact SeqAt.notIn_list_data r2 r1 se sd (by omega) ⟨.bl _, H, I, rfl, q⟩
  · exact SeqAt.notIn_tuple_data r2 r1 se sd (by omega) ⟨.bl _, H, I, rfl, q⟩
end
def blV (b : Bool) : Option Vl := some (.fz (.bl b))
def inV (b : Int) : Option Vl := some (.fz (.int b))
def eqP (d e : D) : Option Vl := if (d.pln && e.pln && decide (min d.dep e.dep ≤ 60)) = true then blV (d.eqD e) else none
def neP (d e : D) : Option Vl := if (d.pln && e.pln && decide (min d.dep e.dep ≤ 60)) = true then blV (!d.eqD e) else none
def items? : D → Option (List D)
  | .lst xs => some xs
  | .tup xs => some xs
  | _ => none
def inP (d e : D) : Option Vl := match items? e with
  | some xs => if (d.pln && D.plnL xs && decide (min (D.depL xs) d.dep ≤ 60)) = true then blV (xs.any fun y => y.eqD d) else none
  | none => none
def notInP (d e : D) : Option Vl := match items? e with
  | some xs => if (d.pln && D.plnL xs && decide (min (D.depL xs) d.dep ≤ 60)) = true then blV (!(xs.any fun y => y.eqD d)) else none
  | none => none
section
variable {K : PySem.W.Frag} {mg : MgT}
theorem p_eq : P2 K mg (rEqP K false) eqP := fun S d e x y a Q hS h ox oy f => by
  unfold eqP at h
  split at h
  · rename_i c
    simp only [Bool.and_eq_true, decide_eq_true_eq] at c
    cases h
    refine ⟨d.py, e.py, opn_dp ox c.1.1, opn_dp oy c.1.2, py_plain d, py_plain e, by rw [py_dep, py_dep]; omega, ?_⟩
    rw [if_neg (by decide), py_eq d e c.1.1 c.1.2]
    exact f.d hS (.bl _)
  · cases h
theorem p_ne : P2 K mg (rEqP K true) neP := fun S d e x y a Q hS h ox oy f => by
  unfold neP at h
  split at h
  · rename_i c
    simp only [Bool.and_eq_true, decide_eq_true_eq] at c
    cases h
    refine ⟨d.py, e.py, opn_dp ox c.1.1, opn_dp oy c.1.2, py_plain d, py_plain e, by rw [py_dep, py_dep]; omega, ?_⟩
    rw [if_pos rfl, py_eq d e c.1.1 c.1.2]
    exact f.d hS (.bl _)
  · cases h
theorem items_py {e : D} {xs : List D} (h : items? e = some xs) : (e.py = .list (D.pyL xs) ∨ e.py = .tuple (D.pyL xs)) ∧ e.pln = D.plnL xs := by
  cases e <;> simp only [items?] at h <;> first | cases h | skip
  · exact ⟨.inl rfl, rfl⟩
  · exact ⟨.inr rfl, rfl⟩
theorem p_in : P2 K mg (rInP K false) inP := fun S d e x y a Q hS h ox oy f => by
  unfold inP at h
  split at h
  · rename_i xs hx
    obtain ⟨h1, h2⟩ := items_py hx
    split at h
    · rename_i c
      simp only [Bool.and_eq_true, decide_eq_true_eq] at c
      cases h
      refine ⟨d.py, D.pyL xs, e.py, opn_dp ox c.1.1, opn_dp oy (h2.trans c.1.2), h1, py_plain d, pyL_plain xs, by rw [py_dep, pyL_dep]; omega, ?_⟩
      rw [if_neg (by decide), pyL_any d c.1.1 xs c.1.2]
      exact f.d hS (.bl _)
    · cases h
  · cases h
theorem p_notIn : P2 K mg (rInP K true) notInP := fun S d e x y a Q hS h ox oy f => by
  unfold notInP at h
  split at h
  · rename_i xs hx
    obtain ⟨h1, h2⟩ := items_py hx
    split at h
    · rename_i c
      simp only [Bool.and_eq_true, decide_eq_true_eq] at c
      cases h
      refine ⟨d.py, D.pyL xs, e.py, opn_dp ox c.1.1, opn_dp oy (h2.trans c.1.2), h1, py_plain d, pyL_plain xs, by rw [py_dep, pyL_dep]; omega, ?_⟩
      rw [if_pos rfl, pyL_any d c.1.1 xs c.1.2]
      exact f.d hS (.bl _)
    · cases h
  · cases h
end

/-! ### ints -/
def arI (g : Int → Int → Int) : D → D → Option Vl
  | .int i, .int j => inV (g i j)
  | _, _ => none
def arC (C : Int → Int → Bool) (g : Int → Int → Int) : D → D → Option Vl
  | .int i, .int j => if C i j = true then inV (g i j) else none
  | _, _ => none
def cmI (g : Int → Int → Bool) : D → D → Option Vl
  | .int i, .int j => blV (g i j)
  | _, _ => none
def orP (p q : D → D → Option Vl) : D → D → Option Vl := fun d e => match p d e with
  | some a => some a
  | none => q d e
section
variable {K : PySem.W.Frag} {mg : MgT}
theorem p_arI {g : Int → Int → Int} : P2 K mg (rI0 fun i j => .int (g i j)) (arI g) := fun S d e x y a Q hS h ox oy f => by
  unfold arI at h
  split at h
  · cases h
    rw [ox.int, oy.int]
    exact ⟨_, _, rfl, rfl, f.d hS (.int _)⟩
  · cases h
theorem p_arC {C : Int → Int → Prop} {Cb : Int → Int → Bool} {g : Int → Int → Int} (hc : ∀ i j, Cb i j = true → C i j) : P2 K mg (rI C fun i j => .int (g i j)) (arC Cb g) := fun S d e x y a Q hS h ox oy f => by
  unfold arC at h
  split at h
  · split at h
    · rename_i c
      cases h
      rw [ox.int, oy.int]
      exact ⟨_, _, rfl, rfl, hc _ _ c, f.d hS (.int _)⟩
    · cases h
  · cases h
theorem p_cmI {g : Int → Int → Bool} : P2 K mg (rI0 fun i j => .bl (g i j)) (cmI g) := fun S d e x y a Q hS h ox oy f => by
  unfold cmI at h
  split at h
  · cases h
    rw [ox.int, oy.int]
    exact ⟨_, _, rfl, rfl, f.d hS (.bl _)⟩
  · cases h
theorem p_or {r r' : R2} {p q : D → D → Option Vl} (hp : P2 K mg r p) (hq : P2 K mg r' q) : P2 K mg (fun x y H Q => r x y H Q ∨ r' x y H Q) (orP p q) := fun S d e x y a Q hS h ox oy f => by
  unfold orP at h
  split at h
  · rename_i b e1
    cases h
    exact .inl (hp S d e x y _ Q hS e1 ox oy f)
  · exact .inr (hq S d e x y a Q hS h ox oy f)
/-- list + list, tuple + tuple -/
def catL : D → D → Option Vl
  | .lst xs, .lst ys => if xs.length + ys.length ≤ 1000000 then some (.fr (xs ++ ys)) else none
  | _, _ => none
def catT : D → D → Option Vl
  | .tup xs, .tup ys => if xs.length + ys.length ≤ 1000000 then some (.fz (.tup (xs ++ ys))) else none
  | _, _ => none
theorem big_ok {n : Nat} (h : n ≤ 1000000) : n ≤ sizeLine := Nat.le_trans h (by decide)
theorem p_catL : P2 K mg rCat catL := fun S d e x y a Q hS h ox oy f => by
  unfold catL at h
  split at h
  · split at h
    · rename_i c
      cases h
      obtain ⟨l, vs, rfl, h1, r1⟩ := ox
      obtain ⟨m, ws, rfl, h2, r2⟩ := oy
      exact ⟨l, m, vs, ws, rfl, rfl, h1, h2, by rw [← r1.length, ← r2.length]; exact big_ok c, f.newL hS (r1.append r2)⟩
    · cases h
  · cases h
theorem RepL.nil_of {H : Hp} {B : Ad} {xs : List D} (r : RepL K mg H B xs []) : xs = [] := by cases r; rfl
theorem p_catT : P2 K mg (rCatA K) catT := fun S d e x y a Q hS h ox oy f => by
  unfold catT at h
  split at h
  · split at h
    · rename_i xs ys c
      cases h
      have ox' : Rep K mg S.H S.B (.tup xs) x := ox
      have oy' : Rep K mg S.H S.B (.tup ys) y := oy
      obtain ⟨l, vs, rfl, h1, r1⟩ := ox.tup
      obtain ⟨m, ws, rfl, h2, r2⟩ := oy.tup
      refine ⟨l, m, vs, ws, rfl, rfl, h1, h2, by rw [← r1.length, ← r2.length]; exact big_ok c, fun e => ?_, fun _ e => ?_, fun _ _ => f.newT hS (r1.append r2)⟩
      · subst e
        rw [r1.nil_of, List.nil_append] at f
        exact f.d hS oy'
      · subst e
        rw [r2.nil_of, List.append_nil] at f
        exact f.d hS ox'
    · cases h
  · cases h
/-- list * int, tuple * int -/
def repL : D → D → Option Vl
  | .lst xs, .int k => if k < 1000000 ∧ -1000000 < k ∧ xs.length * k.toNat ≤ 1000000 then some (.fr (List.replicate k.toNat xs).flatten) else none
  | _, _ => none
def repT : D → D → Option Vl
  | .tup xs, .int k => if xs ≠ [] ∧ 2 ≤ k ∧ k ≤ 1000 ∧ xs.length ≤ 1000 then some (.fz (.tup (List.replicate k.toNat xs).flatten)) else none
  | _, _ => none
theorem RepL.rep {H : Hp} {B : Ad} {xs : List D} {vs : List V} (r : RepL K mg H B xs vs) : ∀ n, RepL K mg H B (List.replicate n xs).flatten (List.replicate n vs).flatten
  | 0 => .nil
  | n + 1 => by simp only [List.replicate_succ, List.flatten_cons]; exact r.append (r.rep n)
theorem p_repL : P2 K mg rRep repL := fun S d e x y a Q hS h ox oy f => by
  unfold repL at h
  split at h
  · split at h
    · rename_i c
      cases h
      obtain ⟨l, vs, rfl, h1, r1⟩ := ox
      rw [oy.int]
      exact ⟨l, _, vs, rfl, rfl, h1, by omega, by omega, by rw [← r1.length]; exact big_ok c.2.2, f.newL hS (r1.rep _)⟩
    · cases h
  · cases h
theorem p_repT : P2 K mg (rRepT K) repT := fun S d e x y a Q hS h ox oy f => by
  unfold repT at h
  split at h
  · split at h
    · rename_i xs k c
      cases h
      obtain ⟨l, vs, rfl, h1, r1⟩ := ox.tup
      rw [oy.int]
      refine ⟨l, _, vs, rfl, rfl, h1, fun e => c.1 ?_, c.2.1, c.2.2.1, by rw [← r1.length]; exact c.2.2.2, f.newT hS (r1.rep _)⟩
      subst e
      exact r1.nil_of
    · cases h
  · cases h
end
def addP : D → D → Option Vl := orP (arI fun i j => i + j) (orP catL catT)
def subP : D → D → Option Vl := arI fun i j => i - j
def mulC (i j : Int) : Bool := (decide (-(2 ^ 64) < i) && decide (i < 2 ^ 64)) || (decide (-(2 ^ 64) < j) && decide (j < 2 ^ 64)) || (decide (i.natAbs < 2 ^ 2000) && decide (j.natAbs < 2 ^ 2000))
def mulP : D → D → Option Vl := orP (arC mulC fun i j => i * j) (orP repL repT)
def divP : D → D → Option Vl := arC (fun _ j => decide (0 < j) && decide (j < 1073741824)) fun i j => i / j
def modP : D → D → Option Vl := arC (fun _ j => decide (0 < j)) fun i j => i % j
def powP : D → D → Option Vl := arC (fun i j => decide (0 ≤ j) && decide (j ≤ 1000000) && decide (i.natAbs < 2 ^ 64)) fun i j => i ^ j.toNat
def ltP : D → D → Option Vl := cmI fun i j => decide (i < j)
def leP : D → D → Option Vl := cmI fun i j => decide (i ≤ j)
def gtP : D → D → Option Vl := cmI fun i j => decide (j < i)
def geP : D → D → Option Vl := cmI fun i j => decide (j ≤ i)
def isP : D → D → Option Vl
  | .non, .non => blV true
  | _, .non => blV false
  | .bl a, .bl b => blV (a == b)
  | _, _ => none
def isNotP : D → D → Option Vl
  | .non, .non => blV false
  | _, .non => blV true
  | .bl a, .bl b => blV (!(a == b))
  | _, _ => none
def negP : D → Option Vl
  | .int i => inV (-i)
  | _ => none
section
variable {X : Cx} {a b : Expr} {f g : M Od} {pos : Pos} {k : Nat}
theorem mulC_ok {i j : Int} (h : mulC i j = true) : CMul i j ∨ CMulW i j := by
  simp only [mulC, Bool.or_eq_true, Bool.and_eq_true, decide_eq_true_eq] at h
  rcases h with (h | h) | h
  · exact .inl (.inl h)
  · exact .inl (.inr h)
  · exact .inr (wide_mul h.1 h.2 (by decide) (by decide) (by decide))
theorem op_mulA : OpR X (binaryOp .Mult) (rI (fun i j => CMul i j ∨ CMulW i j) fun i j => .int (i * j)) := by
  intro pins s σ H x y v u Q I rx ry h
  obtain ⟨i, j, e1, e2, c, q⟩ := h
  rcases c with c | c
  · exact op_mul pins s σ H x y v u Q I rx ry ⟨i, j, e1, e2, c, q⟩
  · exact op_mulW pins s σ H x y v u Q I rx ry ⟨i, j, e1, e2, c, q⟩
theorem re_add (ha : RO X a f) (hb : RO X b g) : RE X (.BinOp a .Add b pos) (bin addP f g) := re_op (op_add.or (op_cat.or op_catA)) (p_or p_arI (p_or p_catL p_catT)) ha hb
theorem re_sub (ha : RO X a f) (hb : RO X b g) : RE X (.BinOp a .Sub b pos) (bin subP f g) := re_op op_sub p_arI ha hb
theorem re_mul (ha : RO X a f) (hb : RO X b g) : RE X (.BinOp a .Mult b pos) (bin mulP f g) := re_op (op_mulA.or (op_rep.or op_repT)) (p_or (p_arC fun _ _ => mulC_ok) (p_or p_repL p_repT)) ha hb
theorem re_div (ha : RO X a f) (hb : RO X b g) : RE X (.BinOp a .FloorDiv b pos) (bin divP f g) := re_op op_fdiv (p_arC fun i j h => by simpa [CDiv] using h) ha hb
theorem re_mod (ha : RO X a f) (hb : RO X b g) : RE X (.BinOp a .Mod b pos) (bin modP f g) := re_op op_mod (p_arC fun i j h => by simpa using h) ha hb
theorem re_pow (ha : RO X a f) (hb : RO X b g) : RE X (.BinOp a .Pow b pos) (bin powP f g) := re_op op_pow (p_arC fun i j h => by simp only [Bool.and_eq_true, decide_eq_true_eq] at h; exact ⟨h.1.1, h.1.2, h.2⟩) ha hb
theorem re_lt (ha : RO X a f) (hb : RO X b g) : RE X (.Compare a [.Lt] [b] pos) (bin ltP f g) := re_cmp op_lt p_cmI ha hb (nomark _)
theorem re_le (ha : RO X a f) (hb : RO X b g) : RE X (.Compare a [.LtE] [b] pos) (bin leP f g) := re_cmp op_le p_cmI ha hb (nomark _)
theorem re_gt (ha : RO X a f) (hb : RO X b g) : RE X (.Compare a [.Gt] [b] pos) (bin gtP f g) := re_cmp op_gt p_cmI ha hb (nomark _)
theorem re_ge (ha : RO X a f) (hb : RO X b g) : RE X (.Compare a [.GtE] [b] pos) (bin geP f g) := re_cmp op_ge p_cmI ha hb (nomark _)
theorem re_eq (hr : Room k X.A) (ha : RO X a f) (hb : RO X b g) : RE X (.Compare a [.Eq] [b] pos) (bin eqP f g) := re_cmp (op_eqP hr) p_eq ha hb (nomark _)
theorem re_ne (hr : Room k X.A) (ha : RO X a f) (hb : RO X b g) : RE X (.Compare a [.NotEq] [b] pos) (bin neP f g) := re_cmp (op_neP hr) p_ne ha hb (nomark _)
theorem re_in (hr : Room k X.A) (ha : RO X a f) (hb : RO X b g) (hm : behindInMarks .In b = false := by rfl) : RE X (.Compare a [.In] [b] pos) (bin inP f g) := re_cmp (op_inP hr) p_in ha hb hm
theorem re_notIn (hr : Room k X.A) (ha : RO X a f) (hb : RO X b g) (hm : behindInMarks .NotIn b = false := by rfl) : RE X (.Compare a [.NotIn] [b] pos) (bin notInP f g) := re_cmp (op_notInP hr) p_notIn ha hb hm
theorem re_neg (ha : RO X a f) : RE X (.UnaryOp .USub a pos) (un1 negP f) := re_un un_neg (fun S d x a Q hS h ox fi => by
  unfold negP at h
  split at h
  · cases h
    rw [ox.int]
    exact ⟨_, rfl, fi.d hS (.int _)⟩
  · cases h) ha
def D.isN : D → Bool
  | .non => true
  | _ => false
theorem opn_non {K : PySem.W.Frag} {mg : MgT} {S : Sx} {d : D} {x : V} (o : Opn K mg S d x) : decide (x = .non) = d.isN := by
  cases d with
  | lst xs => obtain ⟨a, vs, rfl, _⟩ := o; rfl
  | _ => cases o <;> rfl
theorem op_isA : OpR X (compareOp .Is) (fun x y H Q => (y = .non ∧ Q (.bl (decide (x = .non))) H) ∨ ∃ a b : Bool, x = .bl a ∧ y = .bl b ∧ Q (.bl (decide (a = b))) H) := op_isN.or op_is_bl
theorem op_isNotA : OpR X (compareOp .IsNot) (fun x y H Q => (y = .non ∧ Q (.bl (!decide (x = .non))) H) ∨ ∃ a b : Bool, x = .bl a ∧ y = .bl b ∧ Q (.bl (!decide (a = b))) H) := op_notN.or op_isnot_bl
theorem p_is {K : PySem.W.Frag} {mg : MgT} : P2 K mg (fun x y H Q => (y = .non ∧ Q (.bl (decide (x = .non))) H) ∨ ∃ a b : Bool, x = .bl a ∧ y = .bl b ∧ Q (.bl (decide (a = b))) H) isP := fun S d e x y a Q hS h ox oy f => by
  have key := opn_non ox
  unfold isP at h
  split at h
  · cases h
    refine .inl ⟨oy.non, ?_⟩
    rw [key]
    exact f.d hS (.bl _)
  · rename_i hne
    cases h
    refine .inl ⟨oy.non, ?_⟩
    rw [key]
    have : d.isN = false := by
      cases d <;> first | rfl | exact (hne rfl).elim
    rw [this]
    exact f.d hS (.bl _)
  · rename_i p q
    cases h
    refine .inr ⟨p, q, ox.bl, oy.bl, ?_⟩
    have : decide (p = q) = (p == q) := by cases p <;> cases q <;> rfl
    rw [this]
    exact f.d hS (.bl _)
  · cases h
theorem p_isNot {K : PySem.W.Frag} {mg : MgT} : P2 K mg (fun x y H Q => (y = .non ∧ Q (.bl (!decide (x = .non))) H) ∨ ∃ a b : Bool, x = .bl a ∧ y = .bl b ∧ Q (.bl (!decide (a = b))) H) isNotP := fun S d e x y a Q hS h ox oy f => by
  have key := opn_non ox
  unfold isNotP at h
  split at h
  · cases h
    refine .inl ⟨oy.non, ?_⟩
    rw [key]
    exact f.d hS (.bl _)
  · rename_i hne
    cases h
    refine .inl ⟨oy.non, ?_⟩
    rw [key]
    have : d.isN = false := by
      cases d <;> first | rfl | exact (hne rfl).elim
    rw [this]
    exact f.d hS (.bl _)
  · rename_i p q
    cases h
    refine .inr ⟨p, q, ox.bl, oy.bl, ?_⟩
    have : decide (p = q) = (p == q) := by cases p <;> cases q <;> rfl
    rw [this]
    exact f.d hS (.bl _)
  · cases h
theorem re_is (ha : RO X a f) (hb : RO X b g) : RE X (.Compare a [.Is] [b] pos) (bin isP f g) := re_cmp op_isA p_is ha hb (nomark _)
theorem re_isNot (ha : RO X a f) (hb : RO X b g) : RE X (.Compare a [.IsNot] [b] pos) (bin isNotP f g) := re_cmp op_isNotA p_isNot ha hb (nomark _)
end
end KL
end

section
set_option Elab.async false
set_option linter.all false
set_option maxRecDepth 100000
namespace KL
open PySem L2
variable [Tabs]

/-! ### names that escape -/
def nmE (i : Nat) : M Vl := fun ρ => match ρ[i]? with
  | some (.va d) => .ok (.fz d) ρ
  | some (.ow xs) => .ok (.fz (.lst xs)) (ρ.set i (.va (.lst xs)))
  | _ => .bad
/-- .. for the last time -/
def nmM (i : Nat) : M Vl := fun ρ => match ρ[i]? with
  | some (.va d) => .ok (.fz d) ρ
  | some (.ow xs) => .ok (.fr xs) (ρ.set i .un)
  | _ => .bad
section
variable {K : PySem.W.Frag} {mg : MgT} {S : Sx}
theorem getD_some {σ : L2.St} {i : Nat} {v : V} (e : σ[i]?.getD none = some v) : σ[i]? = some (some v) := by
  cases w : σ[i]? with
  | none => rw [w] at e; cases e
  | some o => rw [w] at e; exact congrArg some e
theorem getD_of {σ : L2.St} {i : Nat} {v : V} (e : σ[i]? = some (some v)) : σ[i]?.getD none = some v := by rw [e]; rfl
theorem set_some {ρ : Env} {i j : Nat} {q r : Sl} (h : (ρ.set i q)[j]? = some r) : (j = i ∧ r = q) ∨ (j ≠ i ∧ ρ[j]? = some r) := by
  by_cases e : i = j
  · subst e
    by_cases hl : i < ρ.length
    · rw [List.getElem?_set_self hl] at h
      exact .inl ⟨rfl, (Option.some.inj h).symm⟩
    · rw [List.getElem?_eq_none (by simpa using hl)] at h; cases h
  · rw [List.getElem?_set_ne e] at h
    exact .inr ⟨fun z => e z.symm, h⟩
/-- a slot's list is no longer one's own: kept apart by a temporary's hand, or frozen -/
theorem go_drop {i : Nat} {xs : List D} {q : Sl} {B' : Ad} (h : S.rel K mg) (e : S.ρ[i]? = some (.ow xs)) (hq : q.mine = false) (a : Addr) (ha : S.σ[i]? = some (some (.ref a))) (hB : ∀ b, B' b ↔ S.B b ∧ (b ≠ a ∨ B' a))
    (hq2 : SlR K mg S.H B' q (S.σ[i]?.getD none)) : Go K mg S ⟨B', S.ρ.set i q, S.σ, S.H⟩ := by
  have hO : OwnAt S.ρ S.σ i a := ⟨⟨_, e, rfl⟩, ha⟩
  have sub : ∀ b, B' b → S.B b := fun b z => ((hB b).mp z).1
  have up : ∀ b, S.B b → b ≠ a → B' b := fun b z ne => (hB b).mpr ⟨z, .inl ne⟩
  have fe : FE S.B S.H B' S.H := FE.sub sub
  have own : ∀ j b, OwnAt (S.ρ.set i q) S.σ j b → j ≠ i ∧ OwnAt S.ρ S.σ j b := fun j b ⟨⟨r, e1, e2⟩, e3⟩ => by
    rcases set_some e1 with ⟨_, rfl⟩ | ⟨ne, e1⟩
    · rw [hq] at e2; cases e2
    · exact ⟨ne, ⟨r, e1, e2⟩, e3⟩
  refine ⟨⟨by show (S.ρ.set i q).length = _; rw [List.length_set]; exact h.len, fun j r e1 => ?_, fun j k b o1 o2 => h.dist j k b (own j b o1).2 (own k b o2).2, fun b z => h.alloc b (sub b z), fun b z => ⟨(h.tab b z).1, fun y => (h.tab b z).2 (sub b y)⟩⟩, ⟨fun b o z _ _ => z, fun b z => z, fun b z => .inl (sub b z), fun b ⟨j, z⟩ => .inl ⟨j, (own j b z).2⟩, fun b z nw => up b z fun e2 => nw ?_, fun b z _ => z⟩, fun j r e1 e2 => ?_, rfl⟩
  · have e1 : (S.ρ.set i q)[j]? = some r := e1
    rcases set_some e1 with ⟨rfl, rfl⟩ | ⟨ne, e1⟩
    · exact hq2
    · have y := h.sl j r e1
      have neq : ∀ b, S.σ[j]?.getD none = some (.ref b) → r.mine = true → b ≠ a := fun b eb em eq => by
        subst eq
        exact ne (h.dist j i b ⟨⟨r, e1, em⟩, getD_some eb⟩ hO)
      cases r with
      | un => trivial
      | va d => obtain ⟨w, e1, e2⟩ := y; exact ⟨w, e1, Rep.mono fe e2⟩
      | ow ys => obtain ⟨b, ws, e1, e2, e3, e4⟩ := y; exact ⟨b, ws, e1, up b e2 (neq b e1 rfl), e3, RepL.mono fe e4⟩
      | io ys => obtain ⟨b, ws, e1, e2, e3, e4⟩ := y; exact ⟨b, ws, e1, up b e2 (neq b e1 rfl), e3, RepL.mono fe e4⟩
  · subst e2; exact ⟨i, hO⟩
  · refine ⟨rfl, ?_⟩
    by_cases ji : j = i
    · subst ji
      rw [e] at e1
      cases e1; cases e2
    · exact ⟨r, by show (S.ρ.set i q)[j]? = _; rw [List.getElem?_set_ne (Ne.symm ji)]; exact e1, e2⟩
end
section
variable {X : Cx}
theorem re_name {x : Str} {pos : Pos} (i : Nat) (hN : X.N[i]? = some x := by rfl) (hv : Vis X.env.scope x := by first | exact Or.inl rfl | exact Or.inr (Or.inl rfl) | exact Or.inr (Or.inr rfl)) (hd : (x == ("__debug__" : Str)) = false := by decide)
    (hcd : (x == ("__classdict__" : Str)) = false := by decide) : RE X (.Name x pos) (nmE i) := by
  refine ⟨fun Wi tk => pe_imp (pe_var hN hv hd hcd) fun σ H Q q => ?_⟩
  obtain ⟨S, hS, rfl, rfl, q⟩ := q
  unfold nmE at q
  cases e : S.ρ[i]? with
  | none => simp only [e] at q; exact q.elim
  | some s =>
    have y := hS.sl i s e
    cases s with
    | un => simp only [e] at q; exact q.elim
    | io xs => simp only [e] at q; exact q.elim
    | va d =>
      simp only [e] at q
      obtain ⟨w, e1, e2⟩ := y
      exact ⟨w, getD_some e1, q S rfl rfl (Go.refl hS) w e2⟩
    | ow xs =>
      simp only [e] at q
      obtain ⟨a, vs, e1, e2, e3, e4⟩ := y
      have fe : FE S.B S.H (fun b => S.B b ∧ b ≠ a) S.H := FE.sub fun b z => z.1
      have rp : Rep X.K X.mg S.H (fun b => S.B b ∧ b ≠ a) (.lst xs) (.ref a) := .lst (fun z => z.2 rfl) e3 (RepL.mono fe e4)
      refine ⟨_, getD_some e1, q ⟨fun b => S.B b ∧ b ≠ a, S.ρ.set i (.va (.lst xs)), S.σ, S.H⟩ rfl rfl (go_drop hS e rfl a (getD_some e1) (fun b => ⟨fun z => ⟨z.1, .inl z.2⟩, fun z => ⟨z.1, z.2.elim id fun z2 => absurd rfl z2.2⟩⟩) ⟨_, e1, rp⟩) _ rp⟩
theorem re_move {x : Str} {pos : Pos} (i : Nat) (hN : X.N[i]? = some x := by rfl) (hv : Vis X.env.scope x := by first | exact Or.inl rfl | exact Or.inr (Or.inl rfl) | exact Or.inr (Or.inr rfl)) (hd : (x == ("__debug__" : Str)) = false := by decide)
    (hcd : (x == ("__classdict__" : Str)) = false := by decide) : RE X (.Name x pos) (nmM i) := by
  refine ⟨fun Wi tk => pe_imp (pe_var hN hv hd hcd) fun σ H Q q => ?_⟩
  obtain ⟨S, hS, rfl, rfl, q⟩ := q
  unfold nmM at q
  cases e : S.ρ[i]? with
  | none => simp only [e] at q; exact q.elim
  | some s =>
    have y := hS.sl i s e
    cases s with
    | un => simp only [e] at q; exact q.elim
    | io xs => simp only [e] at q; exact q.elim
    | va d =>
      simp only [e] at q
      obtain ⟨w, e1, e2⟩ := y
      exact ⟨w, getD_some e1, q S rfl rfl (Go.refl hS) w e2⟩
    | ow xs =>
      simp only [e] at q
      obtain ⟨a, vs, e1, e2, e3, e4⟩ := y
      have hO : OwnAt S.ρ S.σ i a := ⟨⟨_, e, rfl⟩, getD_some e1⟩
      refine ⟨_, getD_some e1, q ⟨S.B, S.ρ.set i .un, S.σ, S.H⟩ rfl rfl (go_drop hS e rfl a (getD_some e1) (fun b => ⟨fun z => ⟨z, .inr e2⟩, fun z => z.1⟩) trivial) _ ⟨a, vs, rfl, .inl ⟨i, hO⟩, e2, fun ⟨j, ⟨r, f1, f2⟩, f3⟩ => ?_, e3, e4⟩⟩
      have f1 : (S.ρ.set i .un)[j]? = some r := f1
      rcases set_some f1 with ⟨_, rfl⟩ | ⟨ne, f1⟩
      · cases f2
      · exact ne (hS.dist j i a ⟨⟨r, f1, f2⟩, f3⟩ hO)
/-! ### constants -/
def cE (d : D) : M Vl := fun ρ => .ok (.fz d) ρ
theorem re_c {e : Expr} {d : D} {v : V} (h : PE X e (tC v)) (r : ∀ H B, Rep X.K X.mg H B d v) : RE X e (cE d) := by
  refine ⟨fun Wi tk => pe_imp h fun σ H Q q => ?_⟩
  obtain ⟨S, hS, rfl, rfl, q⟩ := q
  exact q S rfl rfl (Go.refl hS) v (r _ _)
theorem re_int {i j pos} : RE X (.Constant (.int i) j pos) (cE (.int i)) := re_c pe_int fun _ _ => .int i
theorem re_bl {i j pos} : RE X (.Constant (.bool i) j pos) (cE (.bl i)) := re_c pe_bl fun _ _ => .bl i
theorem re_non {j pos} : RE X (.Constant .none j pos) (cE .non) := re_c pe_non fun _ _ => .non
theorem re_str {i j pos} : RE X (.Constant (.str i) j pos) (cE (.str i)) := re_c pe_str fun _ _ => .str i
theorem re_globI {x : Str} {i : Int} {pos : Pos} (hg : Gl X x) (hm : ∃ t, X.mg x = some (.int i t)) (hd : (x == ("__debug__" : Str)) = false := by decide) : RE X (.Name x pos) (cE (.int i)) := by
  obtain ⟨t, e⟩ := hm
  exact re_c (pe_glob (v := .int i) hg e ⟨t, rfl⟩ hd) fun _ _ => .int i
/-- a tuple of the module's -/
theorem re_globT {x : Str} {a : Addr} {xs : List D} {vs : List V} {pos : Pos} (hg : Gl X x) (hm : X.mg x = some (.ref a)) (ht : ∀ H, SqT X.K H a vs) (hr : ∀ H B, RepL X.K X.mg H B xs vs) (hd : (x == ("__debug__" : Str)) = false := by decide) : RE X (.Name x pos) (cE (.tup xs)) :=
  re_c (pe_glob (v := .ref a) hg hm rfl hd) fun _ _ => .tupK ht (hr _ _)

/-! ### arguments -/
def aNil : M (List Od) := fun ρ => .ok [] ρ
def aCons (f : M Od) (g : M (List Od)) : M (List Od) := fun ρ => bnd (f ρ) fun o ρ1 => bnd (g ρ1) fun os ρ2 => .ok (o :: os) ρ2
theorem ra_nil : RA X [] aNil := by
  refine ⟨fun Wi tk => pa_imp pa_nil fun σ H Q q => ?_⟩
  obtain ⟨S, hS, rfl, rfl, q⟩ := q
  exact q S rfl rfl (Go.refl hS) [] .nil
theorem ra_cons {e : Expr} {es : List Expr} {f : M Od} {g : M (List Od)} (ha : RO X e f) (hr : RA X es g) (hs : starEach (e :: es) X.env = (false, eval e X.env) :: starEach es X.env := by rfl) : RA X (e :: es) (aCons f g) := by
  refine ⟨fun Wi tk => pa_imp (pa_cons (ha.run Wi tk) (hr.run Wi tk) hs) fun σ H Q q => ?_⟩
  obtain ⟨S, hS, rfl, rfl, q⟩ := q
  refine ⟨S, hS, rfl, rfl, q.bnd fun a S1 es1 g1 _ q1 x rx => ?_⟩
  refine ⟨S1, g1.rel, es1, rfl, (q1.from hS es1 g1).bnd fun b S2 es2 g2 _ q2 ys ry => ?_⟩
  exact q2 S2 rfl (es2) (g2) (x :: ys) (.cons (rx.later g1.rel es2 g2) ry)
end
end KL
end

section
set_option Elab.async false
set_option linter.all false
set_option maxRecDepth 100000
namespace KL
open PySem L2
variable [Tabs]

/-! ### truth -/
def D.tru : D → Option Bool
  | .non => some false
  | .bl b => some b
  | .int i => some (i != 0)
  | .str s => if s.length ≤ 1000000 then some ((s.length : Int) != 0) else none
  | .lst xs => some (!xs.isEmpty)
  | .tup xs => some (!xs.isEmpty)
  | _ => none
def tru (f : M Od) : M Bool := fun ρ => bnd (f ρ) fun a ρ1 => match a.get ρ1 with
  | some d => match d.tru with
    | some b => .ok b ρ1
    | none => .bad
  | none => .bad
/-- a value that is True or False -/
def tst (f : M Vl) : M Bool := fun ρ => bnd (f ρ) fun a ρ1 => match a with
  | .fz (.bl b) => .ok b ρ1
  | _ => .bad
def tNotB (f : M Bool) : M Bool := fun ρ => bnd (f ρ) fun b ρ1 => .ok (!b) ρ1
def tAndB (f g : M Bool) : M Bool := fun ρ => bnd (f ρ) fun b ρ1 => if b = true then g ρ1 else .ok false ρ1
def tOrB (f g : M Bool) : M Bool := fun ρ => bnd (f ρ) fun b ρ1 => if b = true then .ok true ρ1 else g ρ1
section
variable {K : PySem.W.Frag} {mg : MgT} {S : Sx}
theorem RepL.empty {H : Hp} {B : Ad} {xs : List D} {vs : List V} (r : RepL K mg H B xs vs) : xs.isEmpty = vs.isEmpty := by cases r <;> rfl
theorem tru_of {d : D} {v : V} {b : Bool} (o : Opn K mg S d v) (h : d.tru = some b) : TruV K v S.H b := by
  cases d with
  | non => cases h; cases o; rfl
  | bl c => cases h; cases o; rfl
  | int i => cases h; cases o; rfl
  | str s =>
    simp only [D.tru] at h
    split at h
    · rename_i c
      cases h; cases o
      exact ⟨big_ok c, rfl⟩
    · cases h
  | lst xs =>
    cases h
    obtain ⟨a, vs, rfl, h1, r⟩ := o
    exact .inl ⟨vs, .inl (.inl h1), by rw [r.empty]⟩
  | tup xs =>
    cases h
    obtain ⟨a, vs, rfl, h1, r⟩ := o.tup
    exact .inr (.inl ⟨vs, h1, by rw [r.empty]⟩)
  | scr ns => cases h
  | err c fs => cases h
end
section
variable {X : Cx} {a b : Expr} {pos : Pos}
theorem rt_tru {f : M Od} (ha : RO X a f) (he : ∀ whole, isTrue a X.env whole = (do let v ← whole; standAt a.pos; holding [v] (truthy v)) := by intro _; rfl) : RT X a (tru f) := by
  refine ⟨fun Wi tk => pt_imp (pt_truth (ha.run Wi tk) he) fun σ H Q q => ?_⟩
  obtain ⟨S, hS, rfl, rfl, q⟩ := q
  refine ⟨S, hS, rfl, rfl, q.bnd fun a S1 es1 g1 _ q1 x rx => ?_⟩
  cases e1 : a.get S1.ρ with
  | none => simp only [e1] at q1; exact q1.elim
  | some d =>
    cases e2 : d.tru with
    | none => simp only [e1, e2] at q1; exact q1.elim
    | some b =>
      simp only [e1, e2] at q1
      exact ⟨b, tru_of (opn_of g1.rel rx e1) e2, q1 S1 rfl es1 g1⟩
theorem tst_imp {K : PySem.W.Frag} {mg : MgT} {Wi : WX} {f : M Vl} : ∀ σ H Q, TT_ K mg Wi (tst f) σ H Q → tTest (TE_ K mg Wi f) σ H Q := fun σ H Q q => by
  obtain ⟨S, hS, rfl, rfl, q⟩ := q
  refine ⟨S, hS, rfl, rfl, q.bnd fun a S1 es1 g1 _ q1 x rx => ?_⟩
  cases a with
  | fr xs => exact q1.elim
  | fz d =>
    cases d with
    | bl b => cases rx; exact ⟨b, rfl, q1 S1 rfl es1 g1⟩
    | _ => exact q1.elim
theorem rt_op {op : CmpOp} {f g : M Od} {p : D → D → Option Vl} {r : R2} (ho : OpR X (compareOp op) r) (hp : P2 X.K X.mg r p) (ha : RO X a f) (hb : RO X b g) (hm : behindInMarks op b = false) : RT X (.Compare a [op] [b] pos) (tst (bin p f g)) := by
  refine ⟨fun Wi tk => pt_imp (pt_cmpR ho (ha.run Wi tk) (hb.run Wi tk) hm) fun σ H Q q => ?_⟩
  have z := tst_imp σ H Q q
  exact tbin hp σ H _ z
/-- a comparison's operator -/
def RC (X : Cx) (op : CmpOp) (p : D → D → Option Vl) : Prop := ∃ r, OpR X (compareOp op) r ∧ P2 X.K X.mg r p
theorem rc_lt : RC X .Lt ltP := ⟨_, op_lt, p_cmI⟩
theorem rc_le : RC X .LtE leP := ⟨_, op_le, p_cmI⟩
theorem rc_gt : RC X .Gt gtP := ⟨_, op_gt, p_cmI⟩
theorem rc_ge : RC X .GtE geP := ⟨_, op_ge, p_cmI⟩
theorem rc_eq {k : Nat} (hr : Room k X.A) : RC X .Eq eqP := ⟨_, op_eqP hr, p_eq⟩
theorem rc_ne {k : Nat} (hr : Room k X.A) : RC X .NotEq neP := ⟨_, op_neP hr, p_ne⟩
theorem rc_in {k : Nat} (hr : Room k X.A) : RC X .In inP := ⟨_, op_inP hr, p_in⟩
theorem rc_notIn {k : Nat} (hr : Room k X.A) : RC X .NotIn notInP := ⟨_, op_notInP hr, p_notIn⟩
theorem rc_is : RC X .Is isP := ⟨_, op_isA, p_is⟩
theorem rc_isNot : RC X .IsNot isNotP := ⟨_, op_isNotA, p_isNot⟩
theorem re_c1 {op : CmpOp} {f g : M Od} {p : D → D → Option Vl} (h : RC X op p) (ha : RO X a f) (hb : RO X b g) (hm : behindInMarks op b = false := by rfl) : RE X (.Compare a [op] [b] pos) (bin p f g) := by
  obtain ⟨r, ho, hp⟩ := h
  exact re_cmp ho hp ha hb hm
theorem rt_c1 {op : CmpOp} {f g : M Od} {p : D → D → Option Vl} (h : RC X op p) (ha : RO X a f) (hb : RO X b g) (hm : behindInMarks op b = false := by rfl) : RT X (.Compare a [op] [b] pos) (tst (bin p f g)) := by
  obtain ⟨r, ho, hp⟩ := h
  exact rt_op ho hp ha hb hm
/-- a op b op' c -/
def chn (p q : D → D → Option Vl) (f g h : M Od) : M Vl := fun ρ => bnd (f ρ) fun a ρ1 => bnd (g ρ1) fun b ρ2 => bnd (tst (app2 p a b) ρ2) fun t ρ3 => if t = true then bnd (h ρ3) fun c ρ4 => app2 q b c ρ4 else .ok (.fz (.bl false)) ρ3
theorem tchn {K : PySem.W.Frag} {mg : MgT} {Wi : WX} {f g h : M Od} {p q : D → D → Option Vl} {r r' : R2} (hp : P2 K mg r p) (hq : P2 K mg r' q) : ∀ σ H Q, TE_ K mg Wi (chn p q f g h) σ H Q → tChain r r' (TO_ K mg Wi f) (TO_ K mg Wi g) (TO_ K mg Wi h) σ H Q := fun σ H Q z => by
  obtain ⟨S, hS, rfl, rfl, z⟩ := z
  refine ⟨S, hS, rfl, rfl, z.bnd fun a S1 es1 g1 _ z1 x rx => ?_⟩
  have hS1 := g1.rel
  refine ⟨S1, hS1, es1, rfl, (z1.vfrom hS g1 es1).bnd fun b S2 es2 g2 _ z2 y ry => ?_⟩
  have hS2 := g2.rel
  have z3 := (z2.vfrom hS1 g2 es2).bnd (Φ := fun t S3 => Sat K mg Wi S2 (fun a S' => ∀ v, RepV K mg S2 S' a v → Q v S'.H) (if t = true then bnd (h S3.ρ) fun c ρ4 => app2 q b c ρ4 else .ok (.fz (.bl false)) S3.ρ)) fun t S3 _ _ _ w => w
  have z4 := z3.bnd (Φ := fun (a : Vl) S3 => ∀ v, RepV K mg S2 S3 a v → ∃ k, v = V.bl k ∧ (if k = true then TO_ K mg Wi h S2.σ S3.H (fun w' H4 => r' y w' H4 Q) else Q (.bl false) S3.H)) fun v S3 es3 g3 _ w => by
    intro u ru
    cases v with
    | fr xs => exact w.elim
    | fz d =>
      cases d with
      | bl k =>
        cases ru
        refine ⟨k, rfl, ?_⟩
        have w2 := w S3 rfl es3 g3
        cases k with
        | true =>
          rw [if_pos rfl] at w2 ⊢
          exact ⟨S3, g3.rel, es3, rfl, (w2.vfrom hS2 g3 es3).bnd fun c S4 es4 g4 _ w4 u4 r4 =>
            sat2 hq g4.rel ((ry.later hS2 es3 g3).later g3.rel es4 g4) r4 (w4.vfrom g3.rel g4 es4)⟩
        | false =>
          rw [if_neg Bool.false_ne_true] at w2 ⊢
          exact w2 S3 rfl es3 g3 (.bl false) (.bl false)
      | _ => exact w.elim
  have e2 : S2.σ = S.σ := es2.trans es1
  rw [e2] at z4
  exact sat2 hp hS2 (rx.later hS1 es2 g2) ry z4
theorem re_chn {c : Expr} {op op' : CmpOp} {f g h : M Od} {p q : D → D → Option Vl} (ho : RC X op p) (ho' : RC X op' q) (ha : RO X a f) (hb : RO X b g) (hc : RO X c h) (hm : lastMarks [op, op'] [b, c] = false := by with_unfolding_all rfl) :
    RE X (.Compare a [op, op'] [b, c] pos) (chn p q f g h) := by
  obtain ⟨r, o1, p1⟩ := ho
  obtain ⟨r', o2, p2⟩ := ho'
  exact ⟨fun Wi tk => pe_imp (pe_chain o1 o2 (ha.run Wi tk) (hb.run Wi tk) (hc.run Wi tk) hm) (tchn p1 p2)⟩
theorem rt_chn {c : Expr} {op op' : CmpOp} {f g h : M Od} {p q : D → D → Option Vl} (ho : RC X op p) (ho' : RC X op' q) (ha : RO X a f) (hb : RO X b g) (hc : RO X c h) (hm : lastMarks [op, op'] [b, c] = false := by with_unfolding_all rfl) :
    RT X (.Compare a [op, op'] [b, c] pos) (tst (chn p q f g h)) := by
  obtain ⟨r, o1, p1⟩ := ho
  obtain ⟨r', o2, p2⟩ := ho'
  exact ⟨fun Wi tk => pt_imp (pt_chain o1 o2 (ha.run Wi tk) (hb.run Wi tk) (hc.run Wi tk) hm) fun σ H Q z => tchn p1 p2 σ H _ (tst_imp σ H Q z)⟩
/-! ### not, and, or, if .. else -/
theorem rt_not {f : M Bool} (ha : RT X a f) : RT X (.UnaryOp .Not a pos) (tNotB f) := by
  refine ⟨fun Wi tk => pt_imp (pt_not (ha.run Wi tk)) fun σ H Q q => ?_⟩
  obtain ⟨S, hS, rfl, rfl, q⟩ := q
  exact ⟨S, hS, rfl, rfl, q.bnd fun b S1 es1 g1 _ q1 => q1 S1 rfl es1 g1⟩
structure RW (X : Cx) (e : Expr) (f : M Bool) : Prop where
  run : ∀ Wi, Takes X Wi → PW X e (TT_ X.K X.mg Wi f)
theorem pw_imp {e : Expr} {t t' : TT} (h : PW X e t) (k : ∀ σ H Q, t' σ H Q → t σ H Q) : PW X e t' := ⟨fun wh pins s σ H Q I q => h.run wh pins s σ H Q I (k σ H Q q)⟩
theorem rw_and1 {f : M Bool} (ha : RT X a f) : RW X (.BoolOp .And [a] pos) f := ⟨fun Wi tk => pw_and1 (ha.run Wi tk)⟩
theorem rw_or1 {f : M Bool} (ha : RT X a f) : RW X (.BoolOp .Or [a] pos) f := ⟨fun Wi tk => pw_or1 (ha.run Wi tk)⟩
theorem rw_and {rest : List Expr} {f g : M Bool} (ha : RT X a f) (hb : RW X (.BoolOp .And (b :: rest) pos) g) : RW X (.BoolOp .And (a :: b :: rest) pos) (tAndB f g) := by
  refine ⟨fun Wi tk => pw_imp (pw_and (ha.run Wi tk) (hb.run Wi tk)) fun σ H Q q => ?_⟩
  obtain ⟨S, hS, rfl, rfl, q⟩ := q
  refine ⟨S, hS, rfl, rfl, q.bnd fun c S1 es1 g1 _ q1 => ?_⟩
  have q2 := q1.from hS es1 g1
  cases c with
  | true => dsimp only; rw [if_pos rfl] at q2 ⊢; exact ⟨S1, g1.rel, es1, rfl, q2⟩
  | false => dsimp only; rw [if_neg Bool.false_ne_true] at q2 ⊢; exact q2 S1 rfl rfl (Go.refl g1.rel)
theorem rw_or {rest : List Expr} {f g : M Bool} (ha : RT X a f) (hb : RW X (.BoolOp .Or (b :: rest) pos) g) : RW X (.BoolOp .Or (a :: b :: rest) pos) (tOrB f g) := by
  refine ⟨fun Wi tk => pw_imp (pw_or (ha.run Wi tk) (hb.run Wi tk)) fun σ H Q q => ?_⟩
  obtain ⟨S, hS, rfl, rfl, q⟩ := q
  refine ⟨S, hS, rfl, rfl, q.bnd fun c S1 es1 g1 _ q1 => ?_⟩
  have q2 := q1.from hS es1 g1
  cases c with
  | true => dsimp only; rw [if_pos rfl] at q2 ⊢; exact q2 S1 rfl rfl (Go.refl g1.rel)
  | false => dsimp only; rw [if_neg Bool.false_ne_true] at q2 ⊢; exact ⟨S1, g1.rel, es1, rfl, q2⟩
theorem rt_w {f : M Bool} (h : RW X a f) : RT X a f := ⟨fun Wi tk => (h.run Wi tk).pt⟩
/-- as values -/
def eNot (f : M Od) : M Vl := fun ρ => bnd (tru f ρ) fun b ρ1 => .ok (.fz (.bl (!b))) ρ1
def eAnd (f : M Vl) (g : M Vl) : M Vl := fun ρ => bnd (f ρ) fun a ρ1 => match a.d.tru with
  | some true => g ρ1
  | some false => .ok (.fz a.d) ρ1
  | none => .bad
def eOr (f : M Vl) (g : M Vl) : M Vl := fun ρ => bnd (f ρ) fun a ρ1 => match a.d.tru with
  | some true => .ok (.fz a.d) ρ1
  | some false => g ρ1
  | none => .bad
def eIf (c : M Bool) (f g : M Vl) : M Vl := fun ρ => bnd (c ρ) fun b ρ1 => if b = true then f ρ1 else g ρ1
theorem re_not {f : M Od} (ha : RO X a f) : RE X (.UnaryOp .Not a pos) (eNot f) := by
  refine ⟨fun Wi tk => pe_imp (pe_notT (ha.run Wi tk)) fun σ H Q q => ?_⟩
  obtain ⟨S, hS, rfl, rfl, q⟩ := q
  have q' := q.bnd (Φ := fun b S1 => Q (.bl (!b)) S1.H) fun b S1 es1 g1 _ q1 => q1 S1 rfl es1 g1 _ (.bl _)
  refine ⟨S, hS, rfl, rfl, q'.bnd fun a S1 es1 g1 _ q1 x rx => ?_⟩
  cases e1 : a.get S1.ρ with
  | none => simp only [e1] at q1; exact q1.elim
  | some d =>
    cases e2 : d.tru with
    | none => simp only [e1, e2] at q1; exact q1.elim
    | some b =>
      simp only [e1, e2] at q1
      exact ⟨b, tru_of (opn_of g1.rel rx e1) e2, q1 S1 rfl es1 g1⟩
theorem re_one {op : BoolOp} {f : M Vl} (ha : RE X a f) : RE X (.BoolOp op [a] pos) f := ⟨fun Wi tk => pe_one (ha.run Wi tk)⟩
theorem re_and {rest : List Expr} {f g : M Vl} (ha : RE X a f) (hb : RE X (.BoolOp .And (b :: rest) pos) g) : RE X (.BoolOp .And (a :: b :: rest) pos) (eAnd f g) := by
  refine ⟨fun Wi tk => pe_imp (pe_andT (ha.run Wi tk) (hb.run Wi tk)) fun σ H Q q => ?_⟩
  obtain ⟨S, hS, rfl, rfl, q⟩ := q
  refine ⟨S, hS, rfl, rfl, q.bnd fun c S1 es1 g1 _ q1 x rx => ?_⟩
  obtain ⟨S2, f1, f2, f3, g2, r2⟩ := freeze hS g1 rx
  have es2 : S2.σ = S.σ := f2.trans es1
  cases e2 : c.d.tru with
  | none => simp only [e2] at q1; exact q1.elim
  | some k =>
    have ht : TruV X.K x S1.H k := by rw [← f3]; exact tru_of (S := S2) (Rep.opn r2) e2
    refine ⟨k, ht, ?_⟩
    rw [← f1] at q1
    cases k with
    | true =>
      simp only [e2] at q1
      rw [if_pos rfl, ← f3]
      exact ⟨S2, g2.rel, es2, rfl, q1.vfrom hS g2 es2⟩
    | false =>
      simp only [e2] at q1
      rw [if_neg Bool.false_ne_true, ← f3]
      exact q1 S2 rfl es2 g2 x r2
theorem re_or {rest : List Expr} {f g : M Vl} (ha : RE X a f) (hb : RE X (.BoolOp .Or (b :: rest) pos) g) : RE X (.BoolOp .Or (a :: b :: rest) pos) (eOr f g) := by
  refine ⟨fun Wi tk => pe_imp (pe_orT (ha.run Wi tk) (hb.run Wi tk)) fun σ H Q q => ?_⟩
  obtain ⟨S, hS, rfl, rfl, q⟩ := q
  refine ⟨S, hS, rfl, rfl, q.bnd fun c S1 es1 g1 _ q1 x rx => ?_⟩
  obtain ⟨S2, f1, f2, f3, g2, r2⟩ := freeze hS g1 rx
  have es2 : S2.σ = S.σ := f2.trans es1
  cases e2 : c.d.tru with
  | none => simp only [e2] at q1; exact q1.elim
  | some k =>
    have ht : TruV X.K x S1.H k := by rw [← f3]; exact tru_of (S := S2) (Rep.opn r2) e2
    refine ⟨k, ht, ?_⟩
    rw [← f1] at q1
    cases k with
    | false =>
      simp only [e2] at q1
      rw [if_neg Bool.false_ne_true, ← f3]
      exact ⟨S2, g2.rel, es2, rfl, q1.vfrom hS g2 es2⟩
    | true =>
      simp only [e2] at q1
      rw [if_pos rfl, ← f3]
      exact q1 S2 rfl es2 g2 x r2
theorem re_if {t : Expr} {c : M Bool} {f g : M Vl} (hc : RT X t c) (ha : RE X a f) (hb : RE X b g) : RE X (.IfExp t a b pos) (eIf c f g) := by
  refine ⟨fun Wi tk => pe_imp (pe_ifExp (hc.run Wi tk) (ha.run Wi tk) (hb.run Wi tk)) fun σ H Q q => ?_⟩
  obtain ⟨S, hS, rfl, rfl, q⟩ := q
  refine ⟨S, hS, rfl, rfl, q.bnd fun c S1 es1 g1 _ q1 => ?_⟩
  have q2 := q1.vfrom hS g1 es1
  cases c with
  | true => dsimp only; rw [if_pos rfl] at q2 ⊢; exact ⟨S1, g1.rel, es1, rfl, q2⟩
  | false => dsimp only; rw [if_neg Bool.false_ne_true] at q2 ⊢; exact ⟨S1, g1.rel, es1, rfl, q2⟩
/-! ### displays -/
def vals? : List Od → Option (List D)
  | [] => some []
  | .v d :: os => match vals? os with
    | some ds => some (d :: ds)
    | none => none
  | .s _ :: _ => none
def mkT (f : M (List Od)) : M Vl := fun ρ => bnd (f ρ) fun os ρ1 => match vals? os with
  | some ds => if ds.length ≤ 1000000 then .ok (.fz (.tup ds)) ρ1 else .bad
  | none => .bad
def mkL (f : M (List Od)) : M Vl := fun ρ => bnd (f ρ) fun os ρ1 => match vals? os with
  | some ds => if ds.length ≤ 1000000 then .ok (.fr ds) ρ1 else .bad
  | none => .bad
theorem vals_rep {K : PySem.W.Frag} {mg : MgT} {S : Sx} : ∀ {os : List Od} {vs : List V} {ds : List D}, RepOs K mg S os vs → vals? os = some ds → RepL K mg S.H S.B ds vs
  | _, _, _, .nil, e => by cases e; exact .nil
  | .v d :: os, _, ds, .cons a r, e => by
    unfold vals? at e
    cases h2 : vals? os with
    | none => rw [h2] at e; cases e
    | some es =>
      rw [h2] at e
      cases e
      exact .cons a (vals_rep r h2)
  | .s _ :: _, _, _, .cons _ _, e => by cases e
theorem re_tup {es : List Expr} {x1 : Nat} {f : M (List Od)} (h : RA X es f) : RE X (.Tuple es x1 pos) (mkT f) := by
  refine ⟨fun Wi tk => pe_imp (pe_tup (h.run Wi tk)) fun σ H Q q => ?_⟩
  obtain ⟨S, hS, rfl, rfl, q⟩ := q
  refine ⟨S, hS, rfl, rfl, q.bnd fun os S1 es1 g1 _ q1 vs rs => ?_⟩
  cases e1 : vals? os with
  | none => simp only [e1] at q1; exact q1.elim
  | some ds =>
    simp only [e1] at q1
    have r := vals_rep rs e1
    by_cases c : ds.length ≤ 1000000
    · rw [if_pos c] at q1
      exact ⟨by rw [← r.length]; exact big_ok c, Fin.newT g1.rel (fin_of (q1.vfrom hS g1 es1)) r⟩
    · rw [if_neg c] at q1; exact q1.elim
theorem re_lst {es : List Expr} {f : M (List Od)} (h : RA X es f) : RE X (.List es pos) (mkL f) := by
  refine ⟨fun Wi tk => pe_imp (pe_lst (h.run Wi tk)) fun σ H Q q => ?_⟩
  obtain ⟨S, hS, rfl, rfl, q⟩ := q
  refine ⟨S, hS, rfl, rfl, q.bnd fun os S1 es1 g1 _ q1 vs rs => ?_⟩
  cases e1 : vals? os with
  | none => simp only [e1] at q1; exact q1.elim
  | some ds =>
    simp only [e1] at q1
    have r := vals_rep rs e1
    by_cases c : ds.length ≤ 1000000
    · rw [if_pos c] at q1
      exact ⟨by rw [← r.length]; exact big_ok c, Fin.newL g1.rel (fin_of (q1.vfrom hS g1 es1)) r⟩
    · rw [if_neg c] at q1; exact q1.elim
/-! ### subscripts, slices -/
def ixA {α : Type} (xs : List α) (i : Int) : Option α := if 0 ≤ i then xs[i.toNat]? else if -(xs.length : Int) ≤ i then xs[(i + xs.length).toNat]? else none
def ixP : D → D → Option Vl
  | .lst xs, .int i => (ixA xs i).map .fz
  | .tup xs, .int i => (ixA xs i).map .fz
  | .scr ns, .int i => (ixA ns i).map fun n => .fz (.int n)
  | _, _ => none
theorem atI_ixA {xs : List V} {i : Int} {v : V} (h : ixA xs i = some v) : atI xs i = some v := by
  unfold ixA at h
  unfold atI ixN
  split at h
  · rename_i c
    have : i < xs.length := by
      have := (List.getElem?_eq_some_iff.mp h).1
      omega
    rw [if_pos c, if_pos this]
    exact h
  · rename_i c
    split at h
    · rename_i c2
      rw [if_neg c, if_pos c2]
      exact h
    · cases h
theorem ixA_rep {K : PySem.W.Frag} {mg : MgT} {H : Hp} {B : Ad} {xs : List D} {vs : List V} (r : RepL K mg H B xs vs) {i : Int} {d : D} (h : ixA xs i = some d) : ∃ v, ixA vs i = some v ∧ Rep K mg H B d v := by
  unfold ixA at h ⊢
  rw [← r.length]
  split at h
  · rename_i c; rw [if_pos c]; exact r.get h
  · rename_i c
    split at h
    · rename_i c2; rw [if_neg c, if_pos c2]; exact r.get h
    · cases h
theorem p_ix {K : PySem.W.Frag} {mg : MgT} : P2 K mg (fun x y H Q => rIxL K x y H Q ∨ rIxT K x y H Q) ixP := fun S d e x y a Q hS h ox oy f => by
  unfold ixP at h
  split at h
  · rename_i xs i
    cases e1 : ixA xs i with
    | none => rw [e1] at h; cases h
    | some z =>
      rw [e1] at h; cases h
      obtain ⟨l, vs, rfl, h1, r1⟩ := ox
      obtain ⟨v, h2, r2⟩ := ixA_rep r1 e1
      rw [oy.int]
      exact .inl ⟨l, vs, i, v, rfl, rfl, .inl (.inl h1), atI_ixA h2, f.d hS r2⟩
  · rename_i xs i
    cases e1 : ixA xs i with
    | none => rw [e1] at h; cases h
    | some z =>
      rw [e1] at h; cases h
      obtain ⟨l, vs, rfl, h1, r1⟩ := ox.tup
      obtain ⟨v, h2, r2⟩ := ixA_rep r1 e1
      rw [oy.int]
      exact .inr ⟨l, vs, i, v, rfl, rfl, h1, atI_ixA h2, f.d hS r2⟩
  · rename_i ns i
    cases e1 : ixA ns i with
    | none => rw [e1] at h; cases h
    | some z =>
      rw [e1] at h; cases h
      have h2 : ixA (ns.map V.int) i = some (.int z) := by
        unfold ixA at e1 ⊢
        rw [List.length_map]
        split at e1
        · rename_i c; rw [if_pos c, List.getElem?_map, e1]; rfl
        · rename_i c
          split at e1
          · rename_i c2; rw [if_neg c, if_pos c2, List.getElem?_map, e1]; rfl
          · cases e1
      rw [oy.int]
      cases ox with
      | scr hb h1 => exact .inl ⟨_, _, i, .int z, rfl, rfl, .inl h1, atI_ixA h2, f.d hS (.int z)⟩
      | scrK h1 => exact .inl ⟨_, _, i, .int z, rfl, rfl, h1 _, atI_ixA h2, f.d hS (.int z)⟩
  · cases h
theorem re_ix {f g : M Od} (ha : RO X a f) (hb : RO X b g) (hs : PlainIx b := by exact fun _ _ => rfl) : RE X (.Subscript a b pos) (bin ixP f g) :=
  ⟨fun Wi tk => pe_imp (pe_ix (ix_list.or ix_tup) (ha.run Wi tk) (hb.run Wi tk) hs) (tbin p_ix)⟩
end
end KL
end

section
set_option Elab.async false
set_option linter.all false
set_option maxRecDepth 100000
namespace KL
open PySem L2
variable [Tabs]

inductive Out where
  | nx (ρ : Env) | rt (a : Vl) (ρ : Env) | bk (ρ : Env) | ct (ρ : Env) | ex (e : D) (ρ : Env) | bad
abbrev SM := Env → Out
section
variable (K : PySem.W.Frag) (mg : MgT)
def SatS (Wi : WX) (S : Sx) (Dn : Ends) : Out → Prop
  | .nx ρ' => ∀ S' : Sx, S'.ρ = ρ' → Go K mg S S' → Dn.nx S'.σ S'.H
  | .bk ρ' => ∀ S' : Sx, S'.ρ = ρ' → Go K mg S S' → Dn.bk S'.σ S'.H
  | .ct ρ' => ∀ S' : Sx, S'.ρ = ρ' → Go K mg S S' → Dn.ct S'.σ S'.H
  | .rt a ρ' => ∀ (S' : Sx) (v : V), S'.ρ = ρ' → Go K mg S S' → RepV K mg S S' a v → Dn.rt v S'.H
  | .ex e ρ' => ∀ (S' : Sx) (cls : Value) (dd : Option Addr), S'.ρ = ρ' → Go K mg S S' → RepX K mg S' e cls dd → Wi cls dd S'.σ S'.H
  | .bad => False
def TS_ (Wi : WX) (f : SM) : TS := fun D σ H => ∃ S : Sx, S.rel K mg ∧ S.σ = σ ∧ S.H = H ∧ SatS K mg Wi S D (f S.ρ)
end
structure RS (X : Cx) (st : Stmt) (f : SM) : Prop where
  run : ∀ Wi, Takes X Wi → PS X st (TS_ X.K X.mg Wi f)
structure RSs (X : Cx) (st : List Stmt) (f : SM) : Prop where
  run : ∀ Wi, Takes X Wi → PSs X st (TS_ X.K X.mg Wi f)
theorem ps_imp {X : Cx} {e : Stmt} {t t' : TS} (h : PS X e t) (k : ∀ D σ H, t' D σ H → t D σ H) : PS X e t' := ⟨fun pins s σ H D I q => h.run pins s σ H D I (k D σ H q)⟩
theorem pss_imp {X : Cx} {e : List Stmt} {t t' : TS} (h : PSs X e t) (k : ∀ D σ H, t' D σ H → t D σ H) : PSs X e t' := ⟨fun pins s σ H D I q => h.run pins s σ H D I (k D σ H q)⟩
section
variable {K : PySem.W.Frag} {mg : MgT} {S S1 : Sx} {Wi : WX} {Dn Dn' : Ends} {o : Out}
theorem SatS.from (h : S.rel K mg) (hs : SatS K mg Wi S Dn o) (g : Go K mg S S1) : SatS K mg Wi S1 Dn o := by
  cases o with
  | bad => exact hs
  | nx ρ => exact fun S' a1 a3 => hs S' a1 (g.trans h a3)
  | bk ρ => exact fun S' a1 a3 => hs S' a1 (g.trans h a3)
  | ct ρ => exact fun S' a1 a3 => hs S' a1 (g.trans h a3)
  | rt a ρ => exact fun S' v a1 a3 r => hs S' v a1 (g.trans h a3) (r.from g)
  | ex e ρ => exact fun S' cls dd a1 a3 a4 => hs S' cls dd a1 (g.trans h a3) a4
def seqS (f g : SM) : SM := fun ρ => match f ρ with
  | .nx ρ1 => g ρ1
  | o => o
def nxS : SM := fun ρ => .nx ρ
/-- an expression's result, then a statement's -/
def bndS {α : Type} (r : R α) (f : α → Env → Out) : Out := match r with
  | .ok a ρ => f a ρ
  | .ex e ρ => .ex e ρ
  | .bad => .bad
theorem SatS.bnd {α : Type} {r : R α} {f : α → Env → Out} {Φ : α → Sx → Prop} (hs : SatS K mg Wi S Dn (bndS r f)) (k : ∀ a S1, S1.σ = S.σ → Go K mg S S1 → r = .ok a S1.ρ → SatS K mg Wi S Dn (f a S1.ρ) → Φ a S1) : Sat K mg Wi S Φ r := by
  cases r with
  | bad => exact hs
  | ex e ρ => exact fun S' cls dd a1 a2 a3 a4 => hs S' cls dd a1 a3 a4
  | ok a ρ =>
    intro S1 e1 e2 g
    subst e1
    exact k a S1 e2 g rfl hs
end
section
variable {X : Cx} {pos : Pos}
theorem rss_nil : RSs X [] nxS := by
  refine ⟨fun Wi tk => pss_imp pss_nil fun D σ H q => ?_⟩
  obtain ⟨S, hS, rfl, rfl, q⟩ := q
  exact q S rfl (Go.refl hS)
theorem rss_cons {st : Stmt} {rest : List Stmt} {f g : SM} (h1 : RS X st f) (h2 : RSs X rest g) : RSs X (st :: rest) (seqS f g) := by
  refine ⟨fun Wi tk => pss_imp (pss_cons (h1.run Wi tk) (h2.run Wi tk)) fun D σ H q => ?_⟩
  obtain ⟨S, hS, rfl, rfl, q⟩ := q
  refine ⟨S, hS, rfl, rfl, ?_⟩
  unfold seqS at q
  cases e : f S.ρ with
  | nx ρ1 =>
    rw [e] at q
    intro S1 e1 g1
    subst e1
    exact ⟨S1, g1.rel, rfl, rfl, SatS.from hS q g1⟩
  | bad => rw [e] at q; exact q
  | bk ρ => rw [e] at q; exact q
  | ct ρ => rw [e] at q; exact q
  | rt a ρ => rw [e] at q; exact q
  | ex a ρ => rw [e] at q; exact q
theorem rss_one {st : Stmt} {f : SM} (h1 : RS X st f) : RSs X [st] f := by
  refine ⟨fun Wi tk => pss_imp (pss_one (h1.run Wi tk)) fun D σ H q => q⟩
theorem rs_pass : RS X (.Pass pos) nxS := by
  refine ⟨fun Wi tk => ps_imp ps_pass fun D σ H q => ?_⟩
  obtain ⟨S, hS, rfl, rfl, q⟩ := q
  exact q S rfl (Go.refl hS)
theorem rs_break : RS X (.Break pos) (fun ρ => .bk ρ) := by
  refine ⟨fun Wi tk => ps_imp ps_break fun D σ H q => ?_⟩
  obtain ⟨S, hS, rfl, rfl, q⟩ := q
  exact q S rfl (Go.refl hS)
theorem rs_continue : RS X (.Continue pos) (fun ρ => .ct ρ) := by
  refine ⟨fun Wi tk => ps_imp ps_continue fun D σ H q => ?_⟩
  obtain ⟨S, hS, rfl, rfl, q⟩ := q
  exact q S rfl (Go.refl hS)
/-- a value that nobody keeps -/
def exS (f : M Vl) : SM := fun ρ => bndS (f ρ) fun _ ρ1 => .nx ρ1
theorem rs_expr {e : Expr} {f : M Vl} (he : RE X e f) (hs : swapsWith e none pos.line X.env = pure false := by rfl) : RS X (.Expr e pos) (exS f) := by
  refine ⟨fun Wi tk => ps_imp (ps_expr (he.run Wi tk) hs) fun D σ H q => ?_⟩
  obtain ⟨S, hS, rfl, rfl, q⟩ := q
  refine ⟨S, hS, rfl, rfl, q.bnd fun a S1 es g _ q1 v _ => ?_⟩
  rw [← es]
  exact q1 S1 rfl g
def retS (f : M Vl) : SM := fun ρ => bndS (f ρ) fun a ρ1 => .rt a ρ1
theorem rs_ret {e : Expr} {f : M Vl} (he : RE X e f) : RS X (.Return (some e) pos) (retS f) := by
  refine ⟨fun Wi tk => ps_imp (ps_ret (he.run Wi tk)) fun D σ H q => ?_⟩
  obtain ⟨S, hS, rfl, rfl, q⟩ := q
  exact ⟨S, hS, rfl, rfl, q.bnd fun a S1 es g _ q1 v rv => q1 S1 v rfl g rv⟩
theorem rs_retN : RS X (.Return none pos) (fun ρ => .rt (.fz .non) ρ) := by
  refine ⟨fun Wi tk => ps_imp ps_retN fun D σ H q => ?_⟩
  obtain ⟨S, hS, rfl, rfl, q⟩ := q
  exact q S .non rfl (Go.refl hS) .non
def ifS (c : M Bool) (f g : SM) : SM := fun ρ => bndS (c ρ) fun b ρ1 => if b = true then f ρ1 else g ρ1
theorem rs_if {c : Expr} {a b : List Stmt} {fc : M Bool} {f g : SM} (hc : RT X c fc) (ha : RSs X a f) (hb : RSs X b g) : RS X (.If c a b pos) (ifS fc f g) := by
  refine ⟨fun Wi tk => ps_imp (ps_if (hc.run Wi tk) (ha.run Wi tk) (hb.run Wi tk)) fun D σ H q => ?_⟩
  obtain ⟨S, hS, rfl, rfl, q⟩ := q
  refine ⟨S, hS, rfl, rfl, q.bnd fun c S1 es g1 _ q1 => ?_⟩
  have q2 := SatS.from hS q1 g1
  cases c with
  | true => dsimp only; rw [if_pos rfl] at q2 ⊢; exact ⟨S1, g1.rel, es, rfl, q2⟩
  | false => dsimp only; rw [if_neg Bool.false_ne_true] at q2 ⊢; exact ⟨S1, g1.rel, es, rfl, q2⟩

/-! ### stores -/
def Vl.sl : Vl → Sl
  | .fz d => .va d
  | .fr xs => .ow xs
def notIo (ρ : Env) (i : Nat) : Bool := match ρ[i]? with
  | some (.io _) => false
  | _ => true
def put (i : Nat) (a : Vl) (ρ : Env) : Out := if notIo ρ i = true then .nx (ρ.set i a.sl) else .bad
def setS (i : Nat) (f : M Vl) : SM := fun ρ => bndS (f ρ) fun a ρ1 => put i a ρ1
/-- a value is laid into a slot -/
theorem go_put {K : PySem.W.Frag} {mg : MgT} {S S1 : Sx} {i : Nat} {a : Vl} {v : V} (h : S.rel K mg) (g : Go K mg S S1) (rv : RepV K mg S S1 a v) (ni : notIo S1.ρ i = true) : Go K mg S ⟨S1.B, S1.ρ.set i a.sl, S1.σ.set i (some v), S1.H⟩ := by
  have h1 := g.rel
  have sg : ∀ j, j ≠ i → (S1.σ.set i (some v))[j]? = S1.σ[j]? := fun j ne => List.getElem?_set_ne (Ne.symm ne)
  have si : ∀ {r : Sl}, (S1.ρ.set i a.sl)[i]? = some r → (S1.σ.set i (some v))[i]? = some (some v) := fun {r} e => by
    have : i < S1.ρ.length := by
      have := (List.getElem?_eq_some_iff.mp e).1
      simpa using this
    exact List.getElem?_set_self (by rw [← h1.len]; exact this)
  have own : ∀ j b, OwnAt (S1.ρ.set i a.sl) (S1.σ.set i (some v)) j b → (j ≠ i ∧ OwnAt S1.ρ S1.σ j b) ∨ (j = i ∧ v = .ref b ∧ ∃ xs, a = .fr xs) := fun j b ⟨⟨r, e1, e2⟩, e3⟩ => by
    rcases set_some e1 with ⟨rfl, rfl⟩ | ⟨ne, f1⟩
    · rw [si e1] at e3
      refine .inr ⟨rfl, Option.some.inj (Option.some.inj e3), ?_⟩
      cases a with
      | fz d => cases e2
      | fr xs => exact ⟨xs, rfl⟩
    · rw [sg j ne] at e3
      exact .inl ⟨ne, ⟨r, f1, e2⟩, e3⟩
  have frOwn : ∀ {b xs}, a = .fr xs → v = .ref b → (Own S.ρ S.σ b ∨ S.H b = none) ∧ ¬ Own S1.ρ S1.σ b := fun {b xs} ea ev => by
    subst ea; subst ev
    obtain ⟨c, vs, e, z, _, hw, _⟩ := rv
    cases e
    exact ⟨z, hw⟩
  refine ⟨⟨?_, fun j r e => ?_, fun j k b o1 o2 => ?_, h1.alloc, h1.tab⟩, ⟨g.tr.keep, g.tr.there, g.tr.bnew, fun b ⟨j, z⟩ => ?_, g.tr.bkeep, g.tr.tabs⟩, fun j r e1 e2 => ?_, ?_⟩
  · show (S1.ρ.set i a.sl).length = (S1.σ.set i (some v)).length
    rw [List.length_set, List.length_set]; exact h1.len
  · have e : (S1.ρ.set i a.sl)[j]? = some r := e
    show SlR K mg S1.H S1.B r ((S1.σ.set i (some v))[j]?.getD none)
    rcases set_some e with ⟨rfl, rfl⟩ | ⟨ne, f1⟩
    · rw [getD_of (si e)]
      cases a with
      | fz d => exact ⟨v, rfl, rv⟩
      | fr xs =>
        obtain ⟨c, vs, e, _, hb, _, hh, hr⟩ := rv
        subst e
        exact ⟨c, vs, rfl, hb, hh, hr⟩
    · rw [sg j ne]; exact h1.sl j r f1
  · rcases own j b o1 with ⟨n1, z1⟩ | ⟨n1, z1, xs, z2⟩
    · rcases own k b o2 with ⟨m1, y1⟩ | ⟨m1, y1, xs, y2⟩
      · exact h1.dist j k b z1 y1
      · exact absurd ⟨j, z1⟩ (frOwn y2 y1).2
    · rcases own k b o2 with ⟨m1, y1⟩ | ⟨m1, y1, ys, y2⟩
      · exact absurd ⟨k, y1⟩ (frOwn z2 z1).2
      · rw [n1, m1]
  · rcases own j b z with ⟨n1, z1⟩ | ⟨n1, z1, xs, z2⟩
    · exact g.tr.wnew b ⟨j, z1⟩
    · exact (frOwn z2 z1).1
  · obtain ⟨f1, r', f2, f3⟩ := g.io j r e1 e2
    have ne : j ≠ i := fun ej => by
      subst ej
      unfold notIo at ni
      rw [f2] at ni
      cases r' with
      | io xs => exact Bool.noConfusion ni
      | _ => exact nomatch f3
    exact ⟨(sg j ne).trans f1, r', (List.getElem?_set_ne (Ne.symm ne)).trans f2, f3⟩
  · show (S1.σ.set i (some v)).length = _
    rw [List.length_set]; exact g.len
theorem put_sat {K : PySem.W.Frag} {mg : MgT} {Wi : WX} {Dn : Ends} {S S1 : Sx} {i : Nat} {a : Vl} {v : V} (h : S.rel K mg) (g : Go K mg S S1) (rv : RepV K mg S S1 a v) (q : SatS K mg Wi S Dn (put i a S1.ρ)) : Dn.nx (S1.σ.set i (some v)) S1.H := by
  unfold put at q
  by_cases c : notIo S1.ρ i = true
  · rw [if_pos c] at q
    exact q ⟨S1.B, S1.ρ.set i a.sl, S1.σ.set i (some v), S1.H⟩ rfl (go_put h g rv c)
  · rw [if_neg c] at q
    exact q.elim
theorem rs_set {i : Nat} {x : Str} {e : Expr} {f : M Vl} {pos' : Pos} (hN : X.N.Nodup) (hi : X.N[i]? = some x) (hx : Loc X.env.scope x) (he : RE X e f) (hs : swapsWith e (some (.Name x pos')) pos.line X.env = pure false := by rfl)
    (hf : X.fn x = true ∨ X.env.scope.names.lookup x = some .local := by first | exact .inl rfl | exact .inr rfl | assumption) : RS X (.Assign [.Name x pos'] e pos) (setS i f) := by
  refine ⟨fun Wi tk => ps_imp (L2.ps_set hN hi hx (he.run Wi tk) hs hf) fun D σ H q => ?_⟩
  obtain ⟨S, hS, rfl, rfl, q⟩ := q
  refine ⟨S, hS, rfl, rfl, q.bnd fun a S1 es g _ q1 v rv => ?_⟩
  rw [← es]
  exact put_sat hS g rv q1
/-- a, b, .. = a tuple -/
def puts : List Nat → List D → Env → Out
  | [], [], ρ => .nx ρ
  | i :: is, d :: ds, ρ => if notIo ρ i = true then puts is ds (ρ.set i (.va d)) else .bad
  | _, _, _ => .bad
def gNames : List Nat → TGs
  | [] => gNil
  | i :: is => gCons (gName i) (gNames is)
def unpS (is : List Nat) (f : M Od) : SM := fun ρ => bndS (f ρ) fun a ρ1 => match a.get ρ1 with
  | some (.tup ds) => if ds.length = is.length then puts is ds ρ1 else .bad
  | _ => .bad
theorem puts_sat {K : PySem.W.Frag} {mg : MgT} {Wi : WX} {Dn : Ends} : ∀ {is : List Nat} {ds : List D} {vs : List V} {S : Sx}, S.rel K mg → RepL K mg S.H S.B ds vs → SatS K mg Wi S Dn (puts is ds S.ρ) → gNames is vs S.σ S.H Dn.nx
  | [], [], _, S, h, .nil, q => ⟨rfl, q S rfl (Go.refl h)⟩
  | [], _ :: _, _, _, _, _, q => q.elim
  | i :: is, [], _, _, _, _, q => q.elim
  | i :: is, d :: ds, _, S, h, .cons (v := v) (vs := vs) r rs, q => by
    refine ⟨v, vs, rfl, ?_⟩
    unfold puts at q
    by_cases c : notIo S.ρ i = true
    · rw [if_pos c] at q
      have g : Go K mg S ⟨S.B, S.ρ.set i (.va d), S.σ.set i (some v), S.H⟩ := go_put (a := .fz d) h (Go.refl h) r c
      exact puts_sat (S := ⟨S.B, S.ρ.set i (.va d), S.σ.set i (some v), S.H⟩) g.rel rs (SatS.from h q g)
    · rw [if_neg c] at q; exact q.elim
theorem rs_unp {is : List Nat} {es : List Expr} {e : Expr} {k : Nat} {tpos : Pos} {f : M Od} {n : Nat} (hc : X.calm = true) (hg : PGs X es (gNames is)) (he : RO X e f) (hn : (assignEach es X.env).length = n := by rfl) (hst : (assignEach es X.env).findIdx? (·.1) = none := by rfl) (hl : is.length = n := by rfl)
    (hs : swapsWithSole [.Tuple es k tpos] e pos.line X.env = pure false := by rfl) (hw : swappedStores [.Tuple es k tpos] e X.env = pure none := by rfl)
    (h1 : (assignEach [.Tuple es k tpos] X.env).map (·.2) = [assign (.Tuple es k tpos) X.env] := by rfl) : RS X (.Assign [.Tuple es k tpos] e pos) (unpS is f) := by
  refine ⟨fun Wi tk => ps_imp (ps_asg (he.run Wi tk) (pg_tup hc hg hn hst) hs hw h1) fun D σ H q => ?_⟩
  obtain ⟨S, hS, rfl, rfl, q⟩ := q
  refine ⟨S, hS, rfl, rfl, q.bnd fun a S1 es1 g _ q1 v rv => ?_⟩
  cases e1 : a.get S1.ρ with
  | none => simp only [e1] at q1; exact q1.elim
  | some d =>
    cases d with
    | tup ds =>
      simp only [e1] at q1
      by_cases c : ds.length = is.length
      · rw [if_pos c] at q1
        obtain ⟨b, vs, rfl, h2, r⟩ := (opn_of g.rel rv e1).tup
        rw [← es1]
        exact ⟨b, vs, rfl, h2, by rw [← r.length, c, hl], puts_sat g.rel r (SatS.from hS q1 g)⟩
      · rw [if_neg c] at q1; exact q1.elim
    | _ => simp only [e1] at q1; exact q1.elim
end
end KL
end

section
set_option Elab.async false
set_option linter.all false
set_option maxRecDepth 100000
namespace KL
open PySem L2
variable [Tabs]

/-! ### a list of one's own is changed -/
def Sl.lst? : Sl → Option (List D)
  | .ow xs => some xs
  | .io xs => some xs
  | _ => none
def Sl.upd (ys : List D) : Sl → Sl
  | .ow _ => .ow ys
  | .io _ => .io ys
  | q => q
section
variable {K : PySem.W.Frag} {mg : MgT} {S S1 : Sx}
/-- the slot's list -/
theorem own_at (h : S.rel K mg) {i : Nat} {q : Sl} {xs : List D} (e : S.ρ[i]? = some q) (e2 : q.lst? = some xs) : ∃ l vs, S.σ[i]? = some (some (.ref l)) ∧ S.H l = some (.lst vs) ∧ RepL K mg S.H S.B xs vs ∧ OwnAt S.ρ S.σ i l ∧ S.B l := by
  have y := h.sl i q e
  cases q with
  | un => cases e2
  | va d => cases e2
  | ow ys =>
    cases e2
    obtain ⟨l, vs, e1, e3, e4, e5⟩ := y
    exact ⟨l, vs, getD_some e1, e4, e5, ⟨⟨_, e, rfl⟩, getD_some e1⟩, e3⟩
  | io ys =>
    cases e2
    obtain ⟨l, vs, e1, e3, e4, e5⟩ := y
    exact ⟨l, vs, getD_some e1, e4, e5, ⟨⟨_, e, rfl⟩, getD_some e1⟩, e3⟩
theorem go_mut (h : S.rel K mg) {i : Nat} {q : Sl} {l : Addr} {ys : List D} {ws : List V} (e : S.ρ[i]? = some q) (hO : OwnAt S.ρ S.σ i l) (hr : RepL K mg S.H S.B ys ws) : Go K mg S ⟨S.B, S.ρ.set i (q.upd ys), S.σ, upd S.H l (.lst ws)⟩ := by
  have hl : S.B l := h.wb ⟨i, hO⟩
  have hm : q.mine = true := by
    obtain ⟨⟨r, e1, e2⟩, _⟩ := hO
    rw [e] at e1; cases e1; exact e2
  have ne : ∀ a, ¬ S.B a → a ≠ l := fun a hb z => hb (by rw [z]; exact hl)
  have fe : FE S.B S.H S.B (upd S.H l (.lst ws)) := ⟨fun a o z hb _ => by rw [upd_ne (ne a hb)]; exact z, fun a z => .inl z, fun a z hb => by rw [upd_ne (ne a hb)]; exact z⟩
  have tb : ∀ a, GxR.TabG S.H a → ¬ S.B a → GxR.TabG (upd S.H l (.lst ws)) a := fun a ⟨ps, z, q⟩ hb => ⟨ps, by rw [upd_ne (ne a hb)]; exact z, q⟩
  have um : (q.upd ys).mine = true := by cases q <;> first | rfl | exact hm
  have ui : (q.upd ys).isIo = q.isIo := by cases q <;> rfl
  have own : ∀ j b, OwnAt (S.ρ.set i (q.upd ys)) S.σ j b → OwnAt S.ρ S.σ j b := fun j b ⟨⟨r, e1, e2⟩, e3⟩ => by
    rcases set_some e1 with ⟨rfl, rfl⟩ | ⟨_, f1⟩
    · exact ⟨⟨q, e, hm⟩, e3⟩
    · exact ⟨⟨r, f1, e2⟩, e3⟩
  have nn : ∀ a, S.H a ≠ none → upd S.H l (.lst ws) a ≠ none := fun a z => by
    by_cases c : a = l
    · rw [c, upd_same]; simp
    · rw [upd_ne c]; exact z
  refine ⟨⟨by show (S.ρ.set i _).length = _; rw [List.length_set]; exact h.len, fun j r e1 => ?_, fun j k b o1 o2 => h.dist j k b (own j b o1) (own k b o2), fun a z => nn a (h.alloc a z), fun a z => ⟨tb a (h.tab a z).1 (h.tab a z).2, (h.tab a z).2⟩⟩,
    ⟨fun a o z nw _ => ?_, nn, fun a z => .inl z, fun a ⟨j, z⟩ => .inl ⟨j, own j a z⟩, fun a z _ => z, tb⟩, fun j r e1 e2 => ⟨rfl, ?_⟩, rfl⟩
  · have e1 : (S.ρ.set i (q.upd ys))[j]? = some r := e1
    show SlR K mg (upd S.H l (.lst ws)) S.B r (S.σ[j]?.getD none)
    rcases set_some e1 with ⟨rfl, rfl⟩ | ⟨nj, f1⟩
    · rw [getD_of hO.2]
      cases q with
      | un => cases hm
      | va d => cases hm
      | ow zs => exact ⟨l, ws, rfl, hl, upd_same, RepL.mono fe hr⟩
      | io zs => exact ⟨l, ws, rfl, hl, upd_same, RepL.mono fe hr⟩
    · have y := h.sl j r f1
      have other : ∀ b, S.σ[j]?.getD none = some (.ref b) → r.mine = true → b ≠ l := fun b eb em z => by
        subst z
        exact nj (h.dist j i b ⟨⟨r, f1, em⟩, getD_some eb⟩ hO)
      cases r with
      | un => trivial
      | va d => obtain ⟨w, a1, a2⟩ := y; exact ⟨w, a1, Rep.mono fe a2⟩
      | ow zs => obtain ⟨b, us, a1, a2, a3, a4⟩ := y; exact ⟨b, us, a1, a2, by rw [upd_ne (other b a1 rfl)]; exact a3, RepL.mono fe a4⟩
      | io zs => obtain ⟨b, us, a1, a2, a3, a4⟩ := y; exact ⟨b, us, a1, a2, by rw [upd_ne (other b a1 rfl)]; exact a3, RepL.mono fe a4⟩
  · show upd S.H l (.lst ws) a = some o
    rw [upd_ne (fun c => nw (by rw [c]; exact ⟨i, hO⟩))]; exact z
  · show ∃ q', (S.ρ.set i (q.upd ys))[j]? = some q' ∧ _
    by_cases c : j = i
    · subst c
      rw [e] at e1; cases e1
      refine ⟨q.upd ys, List.getElem?_set_self (by
        have := (List.getElem?_eq_some_iff.mp e).1
        exact this), by rw [ui]; exact e2⟩
    · exact ⟨r, by rw [List.getElem?_set_ne (Ne.symm c)]; exact e1, e2⟩
end
/-- a method that changes the slot's list: what it gives, the list behind it -/
abbrev Upd := List D → List D → Option (D × List D)
def mtU (i : Nat) (g : Upd) (os : List Od) : M Vl := fun ρ => match vals? os with
  | some ds => match ρ[i]? with
    | some q => match q.lst? with
      | some xs => match g xs ds with
        | some (d, ys) => .ok (.fz d) (ρ.set i (q.upd ys))
        | none => .bad
      | none => .bad
    | none => .bad
  | none => .bad
def isOwn (ρ : Env) (i : Nat) : Bool := match ρ[i]? with
  | some q => q.mine
  | none => false
def mtd (i : Nat) (g : Upd) (f : M (List Od)) : M Vl := fun ρ => if isOwn ρ i = true then bnd (f ρ) fun os ρ1 => mtU i g os ρ1 else .bad
def Mut_ (K : PySem.W.Frag) (mg : MgT) (r : V → List V → Hp → VK → Prop) (g : Upd) : Prop := ∀ (H : Hp) (B : Ad) (l : Addr) (xs : List D) (vs : List V) (ds : List D) (us : List V) (d : D) (ys : List D) (Q : VK),
  H l = some (.lst vs) → RepL K mg H B xs vs → RepL K mg H B ds us → g xs ds = some (d, ys) → (∀ v ws, RepL K mg H B ys ws → Rep K mg (upd H l (.lst ws)) B d v → Q v (upd H l (.lst ws))) → B l → r (.ref l) us H Q
section
variable {K : PySem.W.Frag} {mg : MgT} {S S1 : Sx} {Wi : WX} {Q : VK}
theorem isOwn_at (h : S.rel K mg) {i : Nat} (e : isOwn S.ρ i = true) : ∃ l vs, S.σ[i]? = some (some (.ref l)) ∧ S.H l = some (.lst vs) := by
  unfold isOwn at e
  cases e1 : S.ρ[i]? with
  | none => rw [e1] at e; exact Bool.noConfusion e
  | some q =>
    rw [e1] at e
    have : ∃ xs, q.lst? = some xs := by cases q <;> first | exact ⟨_, rfl⟩ | exact nomatch e
    obtain ⟨xs, e2⟩ := this
    obtain ⟨l, vs, a1, a2, _⟩ := own_at h e1 e2
    exact ⟨l, vs, a1, a2⟩
theorem upd_fe {B : Ad} {H : Hp} {l : Addr} {ws : List V} (hb : B l) : FE B H B (upd H l (.lst ws)) := ⟨fun a o z nb _ => by rw [upd_ne (fun c => nb (by rw [c]; exact hb))]; exact z, fun a z => .inl z, fun a z nb => by rw [upd_ne (fun c => nb (by rw [c]; exact hb))]; exact z⟩
theorem mtU_sat {r : V → List V → Hp → VK → Prop} {g : Upd} {i : Nat} {os : List Od} {vs : List V} {l : Addr} (hm : Mut_ K mg r g) (h : S.rel K mg) (g1 : Go K mg S S1) (es : S1.σ = S.σ) (rs : RepOs K mg S1 os vs) (hl : S1.σ[i]? = some (some (.ref l)))
    (q : Sat K mg Wi S (fun a S' => ∀ v, RepV K mg S S' a v → Q v S'.H) (mtU i g os S1.ρ)) : r (.ref l) vs S1.H Q := by
  unfold mtU at q
  cases e1 : vals? os with
  | none => simp only [e1] at q; exact q.elim
  | some ds =>
    cases e2 : S1.ρ[i]? with
    | none => simp only [e1, e2] at q; exact q.elim
    | some sl =>
      cases e3 : sl.lst? with
      | none => simp only [e1, e2, e3] at q; exact q.elim
      | some xs =>
        cases e4 : g xs ds with
        | none => simp only [e1, e2, e3, e4] at q; exact q.elim
        | some p =>
          obtain ⟨d, ys⟩ := p
          simp only [e1, e2, e3, e4] at q
          obtain ⟨l', ws, a1, a2, a3, a4, a5⟩ := own_at g1.rel e2 e3
          rw [hl] at a1
          cases a1
          refine hm S1.H S1.B l xs ws ds vs d ys Q a2 a3 (vals_rep rs e1) e4 (fun v us r1 r2 => ?_) a5
          have g2 := go_mut g1.rel (ys := ys) (ws := us) e2 a4 r1
          exact q ⟨S1.B, S1.ρ.set i (sl.upd ys), S1.σ, upd S1.H l (.lst us)⟩ rfl es (g1.trans h g2) v r2
end
section
variable {X : Cx} {apos cpos : Pos}
theorem re_mtd {x name : Str} {pos : Pos} {e : Expr} {es : List Expr} {f : M (List Od)} {g : Upd} {r : V → List V → Hp → VK → Prop} {id : String} (i : Nat) (slot : Slot "list" name id) (hty : typeOf (.builtin id) = pure (.type "method_descriptor")) (hm : MtR X id r) (hu : Mut_ X.K X.mg r g)
    (ha : RA X (e :: es) f) (hN : X.N[i]? = some x := by rfl) (hv : Vis X.env.scope x := by first | exact Or.inl rfl | exact Or.inr (Or.inl rfl) | exact Or.inr (Or.inr rfl)) (hd : (x == ("__debug__" : Str)) = false := by decide) (hcd : (x == ("__classdict__" : Str)) = false := by decide)
    (hbase : attributeBase (.Name x pos) name X.env (eval (.Name x pos) X.env) = eval (.Name x pos) X.env := by rfl)
    (hfew : ((backTo cpos (starEach (e :: es) X.env)).all (fun x => !x.1) && (backToKw cpos (keywordEach [] X.env)).all (fun x => x.1.isSome)
      && decide ((e :: es).length + ([] : List Keyword).length + (if ([] : List Keyword).isEmpty then 0 else 1) < 30)) = true := by rfl)
    (hline : (apos.endLine == cpos.line) = true := by rfl) (hs : starEach (e :: es) X.env = (false, eval e X.env) :: starEach es X.env := by rfl) (hplain : (backTo cpos (starEach es X.env)).any (·.1) = false := by rfl) :
    RE X (.Call (.Attribute (.Name x pos) name apos) (e :: es) [] cpos) (mtd i g f) := by
  refine ⟨fun Wi tk => pe_imp (pe_bm PySem.F.plainAttrs_list slot hty hm (pe_var hN hv hd hcd) (ha.run Wi tk) hbase hfew hline hs hplain) fun σ H Q q => ?_⟩
  obtain ⟨S, hS, rfl, rfl, q⟩ := q
  unfold mtd at q
  by_cases c : isOwn S.ρ i = true
  · rw [if_pos c] at q
    obtain ⟨l, vs, h1, h2⟩ := isOwn_at hS c
    exact ⟨.ref l, h1, .inl ⟨rfl, vs, .inl (.inl h2)⟩, S, hS, rfl, rfl, q.bnd fun os S1 es1 g1 _ q1 us rs => mtU_sat hu hS g1 es1 rs (by rw [es1]; exact h1) q1⟩
  · rw [if_neg c] at q; exact q.elim
theorem re_mtd0 {x name : Str} {pos : Pos} {g : Upd} {r : V → List V → Hp → VK → Prop} {id : String} (i : Nat) (slot : Slot "list" name id) (hty : typeOf (.builtin id) = pure (.type "method_descriptor")) (hm : MtR X id r) (hu : Mut_ X.K X.mg r g)
    (hN : X.N[i]? = some x := by rfl) (hv : Vis X.env.scope x := by first | exact Or.inl rfl | exact Or.inr (Or.inl rfl) | exact Or.inr (Or.inr rfl)) (hd : (x == ("__debug__" : Str)) = false := by decide) (hcd : (x == ("__classdict__" : Str)) = false := by decide)
    (hbase : attributeBase (.Name x pos) name X.env (eval (.Name x pos) X.env) = eval (.Name x pos) X.env := by rfl) (hline : (apos.endLine == cpos.line) = true := by rfl) :
    RE X (.Call (.Attribute (.Name x pos) name apos) [] [] cpos) (mtd i g aNil) := by
  refine ⟨fun Wi tk => pe_imp (pe_bm0 PySem.F.plainAttrs_list slot hty hm (pe_var hN hv hd hcd) hbase hline) fun σ H Q q => ?_⟩
  obtain ⟨S, hS, rfl, rfl, q⟩ := q
  unfold mtd at q
  by_cases c : isOwn S.ρ i = true
  · rw [if_pos c] at q
    obtain ⟨l, vs, h1, h2⟩ := isOwn_at hS c
    refine ⟨.ref l, h1, .inl ⟨rfl, vs, .inl (.inl h2)⟩, ?_⟩
    exact mtU_sat (S1 := S) (os := []) (vs := []) hu hS (Go.refl hS) rfl .nil h1 q
  · rw [if_neg c] at q; exact q.elim
/-! ### the methods -/
def gAppend : Upd
  | xs, [d] => if xs.length < 1000000 then some (.non, xs ++ [d]) else none
  | _, _ => none
def gPop : Upd
  | xs, [] => match xs.getLast? with
    | some d => some (d, xs.dropLast)
    | none => none
  | _, _ => none
def gPopAt : Upd
  | xs, [.int i] => if 0 ≤ i ∧ i < 1000000 then (match xs[i.toNat]? with
    | some d => some (d, xs.eraseIdx i.toNat)
    | none => none) else none
  | _, _ => none
def gInsert : Upd
  | xs, [.int i, d] => if 0 ≤ i ∧ i < 1000000 ∧ xs.length < 1000000 then some (.non, xs.take i.toNat ++ [d] ++ xs.drop i.toNat) else none
  | _, _ => none
def D.int? : D → Option Int
  | .int i => some i
  | _ => none
def ints? : List D → Option (List Int)
  | [] => some []
  | .int i :: r => match ints? r with
    | some is => some (i :: is)
    | none => none
  | _ :: _ => none
def gRemove : Upd
  | xs, [.int k] => match ints? xs with
    | some ns => if k ∈ ns then some (.non, (ns.erase k).map .int) else none
    | none => none
  | _, _ => none
theorem ints_map : ∀ {xs : List D} {ns : List Int}, ints? xs = some ns → xs = ns.map .int
  | [], ns, h => by cases h; rfl
  | .int i :: r, ns, h => by
    unfold ints? at h
    cases e : ints? r with
    | none => rw [e] at h; cases h
    | some is => rw [e] at h; cases h; rw [ints_map e]; rfl
  | .non :: _, _, h => by cases h
  | .bl _ :: _, _, h => by cases h
  | .str _ :: _, _, h => by cases h
  | .lst _ :: _, _, h => by cases h
  | .tup _ :: _, _, h => by cases h
  | .scr _ :: _, _, h => by cases h
  | .err _ _ :: _, _, h => by cases h
section
variable {K : PySem.W.Frag} {mg : MgT}
theorem mu_append : Mut_ K mg rAppend gAppend := fun H B l xs vs ds us d ys Q h1 h2 h3 h4 f hb => by
  unfold gAppend at h4
  split at h4
  · split at h4
    · rename_i c
      cases h4
      cases h3 with
      | cons r rn =>
        cases rn
        exact ⟨l, vs, _, rfl, rfl, h1, by rw [← h2.length]; exact Nat.lt_of_lt_of_le c (big_ok (Nat.le_refl _)), f _ _ (h2.append (.cons r .nil)) .non⟩
    · cases h4
  · cases h4
theorem RepL.dropLast {H : Hp} {B : Ad} : ∀ {xs : List D} {vs : List V}, RepL K mg H B xs vs → RepL K mg H B xs.dropLast vs.dropLast
  | _, _, .nil => .nil
  | _, _, .cons a .nil => .nil
  | _, _, .cons a (.cons b r) => .cons a (RepL.dropLast (.cons b r))
theorem RepL.eraseIdx {H : Hp} {B : Ad} : ∀ {xs : List D} {vs : List V} (i : Nat), RepL K mg H B xs vs → RepL K mg H B (xs.eraseIdx i) (vs.eraseIdx i)
  | _, _, _, .nil => .nil
  | _, _, 0, .cons a r => r
  | _, _, i + 1, .cons a r => .cons a (RepL.eraseIdx i r)
theorem mu_pop : Mut_ K mg rPop gPop := fun H B l xs vs ds us d ys Q h1 h2 h3 h4 f hb => by
  unfold gPop at h4
  split at h4
  · split at h4
    · rename_i z e
      cases h4
      cases h3
      rw [List.getLast?_eq_getElem?] at e
      obtain ⟨v, e2, r2⟩ := h2.get e
      rw [h2.length] at e2
      exact ⟨l, vs, v, rfl, rfl, h1, e2, f v _ h2.dropLast (Rep.mono (upd_fe hb) r2)⟩
    · cases h4
  · cases h4
theorem mu_popAt : Mut_ K mg rPopAt gPopAt := fun H B l xs vs ds us d ys Q h1 h2 h3 h4 f hb => by
  unfold gPopAt at h4
  split at h4
  · rename_i xs i
    split at h4
    · rename_i c
      split at h4
      · rename_i z e
        cases h4
        cases h3 with
        | cons r rn =>
          cases rn
          cases r
          obtain ⟨v, e2, r2⟩ := h2.get e
          have hlt := (List.getElem?_eq_some_iff.mp e2).1
          refine ⟨l, vs, i, i.toNat, v, rfl, rfl, h1, by omega, by omega, ?_, e2, f v _ (h2.eraseIdx _) (Rep.mono (upd_fe hb) r2)⟩
          unfold seqIndex?
          have e3 : ¬ i < 0 := by omega
          have e5 : (decide (0 ≤ i) && decide (i < (vs.length : Int))) = true := by
            rw [Bool.and_eq_true, decide_eq_true_eq, decide_eq_true_eq]
            omega
          simp only [e3, if_false]
          rw [if_pos e5]
      · cases h4
    · cases h4
  · cases h4
theorem mu_insert {X : Cx} : Mut_ K mg (fun x vs H Q => ∃ (l : Addr) (xs : List V) (i : Int) (y : V), x = .ref l ∧ vs = [.int i, y] ∧ H l = some (.lst xs) ∧ xs.length < sizeLine ∧ 0 ≤ i ∧ i < 2 ^ 63 ∧ Q .non (upd H l (.lst (xs.take i.toNat ++ [y] ++ xs.drop i.toNat)))) gInsert := fun H B l xs vs ds us d ys Q h1 h2 h3 h4 f hb => by
  unfold gInsert at h4
  split at h4
  · split at h4
    · rename_i c
      cases h4
      cases h3 with
      | cons r rn =>
        cases rn with
        | cons r2 rn =>
          cases rn
          cases r
          exact ⟨l, vs, _, _, rfl, rfl, h1, by rw [← h2.length]; exact Nat.lt_of_lt_of_le c.2.2 (big_ok (Nat.le_refl _)), c.1, by omega, f _ _ (((h2.take _).append (.cons r2 .nil)).append (h2.drop _)) .non⟩
    · cases h4
  · cases h4
theorem mu_remove : Mut_ K mg rRemI gRemove := fun H B l xs vs ds us d ys Q h1 h2 h3 h4 f hb => by
  unfold gRemove at h4
  split at h4
  · split at h4
    · rename_i ns e
      split at h4
      · rename_i c
        cases h4
        cases h3 with
        | cons r rn =>
          cases rn
          cases r
          have ex := ints_map e
          subst ex
          have ev := h2.ints
          subst ev
          obtain ⟨j, e1, e2, e3, e4⟩ := first_at c
          exact ⟨l, ns, _, j, rfl, rfl, h1, e2, e3, f _ _ (by rw [e4]; exact RepL.of_ints _) .non⟩
      · cases h4
    · cases h4
  · cases h4
end
end
end KL
end

section
set_option Elab.async false
set_option linter.all false
set_option maxRecDepth 100000
namespace KL
open PySem L2
variable [Tabs]

/-! ### x[i] = e, x a list of one's own -/
def sIx (i : Nat) (a : Vl) (k : Od) : Env → Out := fun ρ => match k.get ρ with
  | some (.int n) => match ρ[i]? with
    | some q => match q.lst? with
      | some xs => if 0 ≤ n ∧ n < xs.length then .nx (ρ.set i (q.upd (xs.set n.toNat a.d))) else .bad
      | none => .bad
    | none => .bad
  | _ => .bad
def setIx (i : Nat) (f : M Vl) (g : M Od) : SM := fun ρ => bndS (f ρ) fun a ρ1 => if isOwn ρ1 i = true then bndS (g ρ1) fun k ρ2 => sIx i a k ρ2 else .bad
section
variable {X : Cx} {pos tpos : Pos}
theorem rs_setIx {x : Str} {npos : Pos} {e ix : Expr} {f : M Vl} {g : M Od} (i : Nat) (he : RE X e f) (hi : RO X ix g) (hN : X.N[i]? = some x := by rfl) (hv : Vis X.env.scope x := by first | exact Or.inl rfl | exact Or.inr (Or.inl rfl) | exact Or.inr (Or.inr rfl)) (hd : (x == ("__debug__" : Str)) = false := by decide) (hcd : (x == ("__classdict__" : Str)) = false := by decide)
    (ha : ∀ v, assign (.Subscript (.Name x npos) ix tpos) X.env v = (do
      let ov ← holding [v] (eval (.Name x npos) X.env)
      let iv ← holding [v, ov] (eval ix X.env)
      standAt tpos
      holding [v, ov, iv] (setItem ov iv v)
      release [v, ov, iv] []) := by intro _; rfl)
    (hs : swapsWithSole [.Subscript (.Name x npos) ix tpos] e pos.line X.env = pure false := by rfl) (hw : swappedStores [.Subscript (.Name x npos) ix tpos] e X.env = pure none := by rfl)
    (h1 : (assignEach [.Subscript (.Name x npos) ix tpos] X.env).map (·.2) = [assign (.Subscript (.Name x npos) ix tpos) X.env] := by rfl) : RS X (.Assign [.Subscript (.Name x npos) ix tpos] e pos) (setIx i f g) := by
  refine ⟨fun Wi tk => ps_imp (ps_asg (he.run Wi tk) (pg_sub (pe_var hN hv hd hcd) (hi.run Wi tk) set_list ha) hs hw h1) fun D σ H q => ?_⟩
  obtain ⟨S, hS, rfl, rfl, q⟩ := q
  refine ⟨S, hS, rfl, rfl, q.bnd fun a S1 es g1 _ q1 v rv => ?_⟩
  obtain ⟨S2, f1, f2, f3, g2, r2⟩ := freeze hS g1 rv
  have es2 : S2.σ = S.σ := f2.trans es
  rw [← f1] at q1
  by_cases c : isOwn S2.ρ i = true
  · rw [if_pos c] at q1
    obtain ⟨l, vs, h1, h2⟩ := isOwn_at g2.rel c
    refine ⟨.ref l, by rw [← es2]; exact h1, S2, g2.rel, es2, f3, (SatS.from hS q1 g2).bnd fun k S3 es3 g3 _ q3 u ru => ?_⟩
    unfold sIx at q3
    cases e1 : k.get S3.ρ with
    | none => simp only [e1] at q3; exact q3.elim
    | some dk =>
      cases dk with
      | int n =>
        cases e2 : S3.ρ[i]? with
        | none => simp only [e1, e2] at q3; exact q3.elim
        | some sl =>
          cases e3 : sl.lst? with
          | none => simp only [e1, e2, e3] at q3; exact q3.elim
          | some xs =>
            simp only [e1, e2, e3] at q3
            by_cases c2 : 0 ≤ n ∧ n < xs.length
            · rw [if_pos c2] at q3
              obtain ⟨l', ws, a1, a2, a3, a4, a5⟩ := own_at g3.rel e2 e3
              rw [es3, h1] at a1
              cases a1
              have hu := (opn_of g3.rel ru e1).int
              have r3 : Rep X.K X.mg S3.H S3.B a.d v := Rep.mono (g3.fe g2.rel) r2
              have g4 := go_mut g3.rel e2 a4 (a3.set r3 n.toNat)
              have z := q3 ⟨S3.B, S3.ρ.set i (sl.upd (xs.set n.toNat a.d)), S3.σ, upd S3.H l (.lst (ws.set n.toNat v))⟩ rfl (g3.trans g2.rel g4)
              refine ⟨l, ws, n, n.toNat, rfl, hu, a2, ?_, ?_⟩
              · unfold ixN
                rw [if_pos c2.1, if_pos (by rw [← a3.length]; exact c2.2)]
              · rw [← es2, ← es3]; exact z
            · rw [if_neg c2] at q3; exact q3.elim
      | _ => simp only [e1] at q3; exact q3.elim
  · rw [if_neg c] at q1; exact q1.elim

/-! ### while -/
def whS (c : M Bool) (b : SM) : Nat → SM
  | 0, _ => .bad
  | n + 1, ρ => bndS (c ρ) fun t ρ1 => if t = true then (match b ρ1 with
    | .nx ρ2 => whS c b n ρ2
    | .ct ρ2 => whS c b n ρ2
    | .bk ρ2 => .nx ρ2
    | o => o) else .nx ρ1
theorem rs_while {c : Expr} {body : List Stmt} {fc : M Bool} {fb : SM} (n : Nat) (hp : PassesOwn (model X.prog X.w) X.A X.env X.xe) (hc : RT X c fc) (hb : RSs X body fb) : RS X (.While c body [] pos) (whS fc fb n) := by
  refine ⟨fun Wi tk => ps_imp (ps_while hp (hc.run Wi tk) (hb.run Wi tk)) fun D σ H q => ?_⟩
  obtain ⟨S, hS, rfl, rfl, q⟩ := q
  refine ⟨fun m σ H => ∃ S : Sx, S.rel X.K X.mg ∧ S.σ = σ ∧ S.H = H ∧ SatS X.K X.mg Wi S D (whS fc fb m S.ρ), ⟨n, S, hS, rfl, rfl, q⟩, ?_⟩
  rintro m σ H ⟨S, hS, rfl, rfl, q⟩
  cases m with
  | zero => exact q.elim
  | succ m =>
    unfold whS at q
    refine ⟨S, hS, rfl, rfl, q.bnd fun t S1 es g1 _ q1 => ?_⟩
    have q2 := SatS.from hS q1 g1
    cases t with
    | false =>
      dsimp only
      rw [if_neg Bool.false_ne_true] at q2 ⊢
      rw [← es]
      exact q2 S1 rfl (Go.refl g1.rel)
    | true =>
      dsimp only
      rw [if_pos rfl] at q2 ⊢
      refine ⟨fun σ' H' => ∃ S : Sx, S.rel X.K X.mg ∧ S.σ = σ' ∧ S.H = H' ∧ SatS X.K X.mg Wi S D (whS fc fb m S.ρ), fun σ' H' z => ⟨m, Nat.lt_succ_self m, z⟩, S1, g1.rel, es, rfl, ?_⟩
      cases e : fb S1.ρ with
      | bad => rw [e] at q2; exact q2
      | nx ρ2 => rw [e] at q2; exact fun S' a1 a3 => ⟨S', a3.rel, rfl, rfl, by rw [a1]; exact SatS.from g1.rel q2 a3⟩
      | ct ρ2 => rw [e] at q2; exact fun S' a1 a3 => ⟨S', a3.rel, rfl, rfl, by rw [a1]; exact SatS.from g1.rel q2 a3⟩
      | bk ρ2 => rw [e] at q2; exact q2
      | rt a ρ2 => rw [e] at q2; exact q2
      | ex a ρ2 => rw [e] at q2; exact q2
end

/-! ### for -/
/-- what an iterator hands out -/
def Yld (K : PySem.W.Frag) (mg : MgT) (J : It) (B : Ad) (H : Hp) (ds : List D) : Prop := ∀ B' H', FE B H B' H' → ∀ i, (∀ d, ds[i]? = some d → J.go i H' ∧ ∀ x H'', J.yld i H' x H'' → (∀ a o, H' a = some o → H'' a = some o) ∧ ((∀ a, B' a → H' a ≠ none) → Rep K mg H'' B' d x)) ∧ (i = ds.length → J.stop i H')
def TI_ (K : PySem.W.Frag) (mg : MgT) (Wi : WX) (f : M (List D)) : TI := fun σ H R => ∃ S : Sx, S.rel K mg ∧ S.σ = σ ∧ S.H = H ∧ Sat K mg Wi S (fun ds S' => ∀ J, Yld K mg J S'.B S'.H ds → R J S'.H) (f S.ρ)
structure RI (X : Cx) (tg iter : Expr) (f : M (List D)) : Prop where
  run : ∀ Wi, Takes X Wi → PI X tg iter (TI_ X.K X.mg Wi f)
/-- a target: what it does with a value -/
def GTg (K : PySem.W.Frag) (mg : MgT) (g : TG) (tg : D → Env → Out) : Prop := ∀ (Wi : WX) (S : Sx) (d : D) (v : V) (Dn : Ends), S.rel K mg → Rep K mg S.H S.B d v → SatS K mg Wi S Dn (tg d S.ρ) → (∃ ρ, tg d S.ρ = .nx ρ ∨ tg d S.ρ = .bad) → g v S.σ S.H Dn.nx
structure RG (X : Cx) (tg : Expr) (g : TG) (f : D → Env → Out) : Prop where
  pg : PG X tg g
  gt : GTg X.K X.mg g f
  only : ∀ d ρ, (∃ ρ', f d ρ = .nx ρ') ∨ f d ρ = .bad
def tgN (i : Nat) : D → Env → Out := fun d ρ => put i (.fz d) ρ
def tgT (is : List Nat) : D → Env → Out := fun d ρ => match d with
  | .tup ds => if ds.length = is.length then puts is ds ρ else .bad
  | _ => .bad
theorem puts_only : ∀ (is : List Nat) (ds : List D) (ρ : Env), (∃ ρ', puts is ds ρ = .nx ρ') ∨ puts is ds ρ = .bad
  | [], [], ρ => .inl ⟨ρ, rfl⟩
  | [], _ :: _, _ => .inr rfl
  | _ :: _, [], _ => .inr rfl
  | i :: is, d :: ds, ρ => by
    unfold puts
    by_cases c : notIo ρ i = true
    · rw [if_pos c]; exact puts_only is ds _
    · rw [if_neg c]; exact .inr rfl
section
variable {X : Cx} {pos : Pos}
theorem rg_name {i : Nat} {x : Str} (hN : X.N.Nodup) (hi : X.N[i]? = some x) (hx : Loc X.env.scope x) (hf : X.fn x = true ∨ X.env.scope.names.lookup x = some .local := by first | exact .inl rfl | exact .inr rfl | assumption) : RG X (.Name x pos) (gName i) (tgN i) :=
  ⟨pg_name hN hi hx hf, fun Wi S d v Dn hS r q _ => put_sat (a := .fz d) hS (Go.refl hS) r q, fun d ρ => by
    unfold tgN put
    by_cases c : notIo ρ i = true
    · rw [if_pos c]; exact .inl ⟨_, rfl⟩
    · rw [if_neg c]; exact .inr rfl⟩
theorem rg_tup {is : List Nat} {es : List Expr} {k : Nat} {n : Nat} (hc : X.calm = true) (hg : PGs X es (gNames is)) (hn : (assignEach es X.env).length = n := by rfl) (hst : (assignEach es X.env).findIdx? (·.1) = none := by rfl) (hl : is.length = n := by rfl) : RG X (.Tuple es k pos) (gTup X.K n (gNames is)) (tgT is) :=
  ⟨pg_tup hc hg hn hst, fun Wi S d v Dn hS r q _ => by
    cases d with
    | tup ds =>
      unfold tgT at q
      by_cases c : ds.length = is.length
      · simp only [if_pos c] at q
        obtain ⟨b, vs, rfl, h2, r⟩ := (Rep.opn r).tup
        exact ⟨b, vs, rfl, h2, by rw [← r.length, c, hl], puts_sat hS r q⟩
      · simp only [if_neg c] at q; exact q.elim
    | _ => exact q.elim, fun d ρ => by
    cases d with
    | tup ds =>
      unfold tgT
      by_cases c : ds.length = is.length
      · dsimp only; rw [if_pos c]; exact puts_only _ _ _
      · dsimp only; rw [if_neg c]; exact .inr rfl
    | _ => exact .inr rfl⟩
def forL (tg : D → Env → Out) (b : SM) : List D → SM
  | [], ρ => .nx ρ
  | d :: ds, ρ => match tg d ρ with
    | .nx ρ1 => (match b ρ1 with
      | .nx ρ2 => forL tg b ds ρ2
      | .ct ρ2 => forL tg b ds ρ2
      | .bk ρ2 => .nx ρ2
      | o => o)
    | _ => .bad
def forS (it : M (List D)) (tg : D → Env → Out) (b : SM) : SM := fun ρ => bndS (it ρ) fun ds ρ1 => forL tg b ds ρ1
theorem rs_for {tg iter : Expr} {body : List Stmt} {fi : M (List D)} {ft : D → Env → Out} {fb : SM} (hp : PassesOwn (model X.prog X.w) X.A X.env X.xe) (hc : X.calm = true) (hi : RI X tg iter fi) {g : TG} (hg : RG X tg g ft) (hb : RSs X body fb)
    (hs : ∀ x, foldedSetIterable iter X.env x = pure x := by intro _; rfl) : RS X (.For tg iter body [] pos) (forS fi ft fb) := by
  obtain ⟨hg, hgt, honly⟩ := hg
  refine ⟨fun Wi tk => ps_imp (ps_for hp hc (hi.run Wi tk) hg (hb.run Wi tk) hs) fun Dn σ H q => ?_⟩
  obtain ⟨S, hS, rfl, rfl, q⟩ := q
  refine ⟨S, hS, rfl, rfl, q.bnd fun ds S1 es g1 _ q1 J hJ => ?_⟩
  have hS1 := g1.rel
  refine ⟨fun i m σ H => m = ds.length - i ∧ i ≤ ds.length ∧ ∃ S : Sx, S.rel X.K X.mg ∧ S.σ = σ ∧ S.H = H ∧ FE S1.B S1.H S.B S.H ∧ SatS X.K X.mg Wi S Dn (forL ft fb (ds.drop i) S.ρ), ⟨ds.length, by simp, Nat.zero_le _, S1, hS1, es, rfl, FE.refl, SatS.from hS q1 g1⟩, ?_⟩
  rintro i m σ H ⟨rfl, hi, S2, hS2, rfl, rfl, fe, q2⟩
  obtain ⟨y1, y2⟩ := hJ S2.B S2.H fe i
  by_cases hlt : i < ds.length
  · right
    have e1 : ds[i]? = some ds[i] := List.getElem?_eq_getElem hlt
    obtain ⟨go, yl⟩ := y1 _ e1
    refine ⟨go, fun σ' H' => ∃ S : Sx, S.rel X.K X.mg ∧ S.σ = σ' ∧ S.H = H' ∧ FE S1.B S1.H S.B S.H ∧ SatS X.K X.mg Wi S Dn (forL ft fb (ds.drop (i + 1)) S.ρ), fun σ' H' z => ⟨ds.length - (i + 1), by omega, rfl, hlt, z⟩, fun x H3 y => ?_⟩
    obtain ⟨ext, rx⟩ := yl x H3 y
    have rx := rx hS2.alloc
    have al : ∀ a, S2.B a → H3 a ≠ none := fun a z => by
      cases w : S2.H a with
      | none => exact absurd w (hS2.alloc a z)
      | some o => rw [ext a o w]; simp
    have g3 : Go X.K X.mg S2 ⟨S2.B, S2.ρ, S2.σ, H3⟩ := go_extA hS2 ext (fun a z => z) (fun a z => .inl z) al
    have q3 := SatS.from hS2 q2 g3
    have e2 : ds.drop i = ds[i] :: ds.drop (i + 1) := List.drop_eq_getElem_cons hlt
    rw [e2] at q3
    unfold forL at q3
    rcases honly ds[i] S2.ρ with ⟨ρ1, e3⟩ | e3
    · rw [e3] at q3
      have q3' := q3
      refine hgt Wi ⟨S2.B, S2.ρ, S2.σ, H3⟩ ds[i] x { Dn with nx := fun σ2 H2 => TS_ X.K X.mg Wi fb { Dn with nx := fun σ' H' => ∃ S : Sx, S.rel X.K X.mg ∧ S.σ = σ' ∧ S.H = H' ∧ FE S1.B S1.H S.B S.H ∧ SatS X.K X.mg Wi S Dn (forL ft fb (ds.drop (i + 1)) S.ρ), ct := fun σ' H' => ∃ S : Sx, S.rel X.K X.mg ∧ S.σ = σ' ∧ S.H = H' ∧ FE S1.B S1.H S.B S.H ∧ SatS X.K X.mg Wi S Dn (forL ft fb (ds.drop (i + 1)) S.ρ), bk := Dn.nx } σ2 H2 } g3.rel rx ?_ ⟨ρ1, .inl e3⟩
      show SatS X.K X.mg Wi ⟨S2.B, S2.ρ, S2.σ, H3⟩ _ (ft ds[i] S2.ρ)
      rw [e3]
      intro S4 e4 g4
      have q4 := SatS.from g3.rel q3' g4
      have hS4 := g4.rel
      have fe4 : FE S1.B S1.H S4.B S4.H := (fe.trans (g3.fe hS2)).trans (g4.fe g3.rel)
      refine ⟨S4, hS4, rfl, rfl, ?_⟩
      dsimp only at q4
      rw [← e4] at q4
      cases e5 : fb S4.ρ with
      | bad => rw [e5] at q4; exact q4
      | nx ρ2 => rw [e5] at q4; exact fun S' a1 a3 => ⟨S', a3.rel, rfl, rfl, fe4.trans (a3.fe hS4), by rw [a1]; exact SatS.from hS4 q4 a3⟩
      | ct ρ2 => rw [e5] at q4; exact fun S' a1 a3 => ⟨S', a3.rel, rfl, rfl, fe4.trans (a3.fe hS4), by rw [a1]; exact SatS.from hS4 q4 a3⟩
      | bk ρ2 => rw [e5] at q4; exact q4
      | rt a ρ2 => rw [e5] at q4; exact q4
      | ex a ρ2 => rw [e5] at q4; exact q4
    · rw [e3] at q3
      exact q3.elim
  · have e : i = ds.length := by omega
    left
    refine ⟨y2 e, ?_⟩
    rw [e, List.drop_of_length_le (Nat.le_refl _)] at q2
    exact q2 S2 rfl (Go.refl hS2)
end
end KL
end

section
set_option Elab.async false
set_option linter.all false
set_option maxRecDepth 100000
namespace KL
open PySem L2 RZ
variable [Tabs]

/-! ### what is walked -/
def itE (f : M Vl) : M (List D) := fun ρ => bnd (f ρ) fun a ρ1 => match items? a.d with
  | some xs => .ok xs ρ1
  | none => .bad
section
variable {K : PySem.W.Frag} {mg : MgT} {H : Hp} {B : Ad}
theorem yld_list {a : Addr} {xs : List D} {vs : List V} (hb : ¬ B a) (h : H a = some (.lst vs)) (r : RepL K mg H B xs vs) : Yld K mg (Itl K a) B H xs := fun B' H' fe i => by
  have h' : H' a = some (.lst vs) := fe.keep a _ h hb trivial
  have sq : SqL K H' a vs := .inl (.inl h')
  refine ⟨fun d e => ?_, fun e => ⟨vs, sq, by rw [← r.length, e]; exact Nat.le_refl _⟩⟩
  obtain ⟨v, e2, rv⟩ := r.get e
  refine ⟨⟨vs, v, sq, e2⟩, fun x H'' y => ?_⟩
  obtain ⟨rfl, y⟩ := y
  have ex := y vs sq
  rw [e2] at ex
  cases ex
  exact ⟨fun _ _ z => z, fun _ => Rep.mono fe rv⟩
theorem yld_tup {a : Addr} {xs : List D} {vs : List V} (h : ∀ B' H', FE B H B' H' → SqT K H' a vs) (r : RepL K mg H B xs vs) : Yld K mg (Itt K a) B H xs := fun B' H' fe i => by
  have sq := h B' H' fe
  refine ⟨fun d e => ?_, fun e => ⟨vs, sq, by rw [← r.length, e]; exact Nat.le_refl _⟩⟩
  obtain ⟨v, e2, rv⟩ := r.get e
  refine ⟨⟨vs, v, sq, e2⟩, fun x H'' y => ?_⟩
  obtain ⟨rfl, y⟩ := y
  have ex := y vs sq
  rw [e2] at ex
  cases ex
  exact ⟨fun _ _ z => z, fun _ => Rep.mono fe rv⟩
/-- a list or a tuple -/
theorem seq_of {d : D} {xs : List D} {v : V} (e : items? d = some xs) (r : Rep K mg H B d v) : ∃ a vs, v = .ref a ∧ RepL K mg H B xs vs ∧ ((¬ B a ∧ H a = some (.lst vs)) ∨ ∀ B' H', FE B H B' H' → SqT K H' a vs) := by
  cases d with
  | lst ys =>
    cases e
    cases r with
    | lst hb h r => exact ⟨_, _, rfl, r, .inl ⟨hb, h⟩⟩
  | tup ys =>
    cases e
    cases r with
    | tup hb h r => exact ⟨_, _, rfl, r, .inr fun B' H' fe => .inl (.inl (fe.keep _ _ h hb trivial))⟩
    | tupK h r => exact ⟨_, _, rfl, r, .inr fun B' H' fe => h H'⟩
  | _ => cases e
end
def iSeq (K : PySem.W.Frag) (tl : TE) : TI := fun σ H R => tl σ H fun x H1 => ∃ a, x = .ref a ∧ (((∃ xs, SqL K H1 a xs) ∧ R (Itl K a) H1) ∨ ((∃ xs, SqT K H1 a xs) ∧ R (Itt K a) H1))
theorem pi_imp {X : Cx} {tg e : Expr} {t t' : TI} (h : PI X tg e t) (k : ∀ σ H R, t' σ H R → t σ H R) : PI X tg e t' := ⟨fun pins s σ H R I q => h.run pins s σ H R I (k σ H R q)⟩
section
variable {X : Cx} {tg : Expr}
theorem pi_seq {l : Expr} {tl : TE} (hl : PE X l tl) : PI X tg l (iSeq X.K tl) := by
  refine ⟨fun pins s σ H R I h => ?_⟩
  refine thn (hl.run pins s σ H _ I h) fun v s1 ⟨x, H1, I1, r1, q1⟩ => ?_
  obtain ⟨a, e, q⟩ := q1
  subst e
  rcases q with ⟨hq, q⟩ | ⟨hq, q⟩
  · obtain ⟨xs, hq⟩ := hq
    cases r1
    obtain ⟨its, rv, p, hz⟩ := I1.list hq
    refine wpAny_pyIter_list p.isList ?_
    refine ⟨s1.heap.objs.size, [s1.heap.objs.size], _, _, H1, rfl, I1.kept (t' := s1.toks) fun b o e => Heap.get?_push_of_some _ e, turn_list a _, ⟨_, Heap.get?_push_size _ rfl, rfl, rfl⟩, fun b hb => ?_, q⟩
    have e : b = s1.heap.objs.size := by simpa using hb
    subst e
    exact I1.fpOk (Nat.le_refl _) (I1.hok.fresh (Nat.le_refl _))
  · obtain ⟨xs, hq⟩ := hq
    cases r1
    obtain ⟨its, rv, p, hz⟩ := I1.tuple hq
    refine wpAny_pyIter_tuple (show s1.heap.IsTuple a its.toArray from p) ?_
    refine ⟨s1.heap.objs.size, [s1.heap.objs.size], _, _, H1, rfl, I1.kept (t' := s1.toks) fun b o e => Heap.get?_push_of_some _ e, turn_tuple a _, ⟨_, Heap.get?_push_size _ rfl, rfl, rfl⟩, fun b hb => ?_, q⟩
    have e : b = s1.heap.objs.size := by simpa using hb
    subst e
    exact I1.fpOk (Nat.le_refl _) (I1.hok.fresh (Nat.le_refl _))
theorem ri_seq {l : Expr} {f : M Vl} (hl : RE X l f) : RI X tg l (itE f) := by
  refine ⟨fun Wi tk => pi_imp (pi_seq (hl.run Wi tk)) fun σ H R q => ?_⟩
  obtain ⟨S, hS, rfl, rfl, q⟩ := q
  refine ⟨S, hS, rfl, rfl, q.bnd fun a S1 es g _ q1 v rv => ?_⟩
  obtain ⟨S2, f1, f2, f3, g2, r2⟩ := freeze hS g rv
  cases e : items? a.d with
  | none => simp only [e] at q1; exact q1.elim
  | some xs =>
    simp only [e] at q1
    obtain ⟨l, vs, rfl, r, z⟩ := seq_of e r2
    have q2 := q1 S2 f1 (f2.trans es) g2
    rw [← f3]
    rcases z with ⟨hb, h⟩ | h
    · exact ⟨l, rfl, .inl ⟨⟨vs, .inl (.inl h)⟩, q2 _ (yld_list hb h r)⟩⟩
    · exact ⟨l, rfl, .inr ⟨⟨vs, h _ _ FE.refl⟩, q2 _ (yld_tup h r)⟩⟩
/-! range -/
def rangeL (lo : Int) (n : Nat) : List D := (List.range n).map fun k => .int (lo + (k : Nat))
theorem rangeL_at {lo : Int} {n i : Nat} {d : D} (h : (rangeL lo n)[i]? = some d) : i < n ∧ d = .int (lo + (i : Nat)) := by
  unfold rangeL at h
  rw [List.getElem?_map] at h
  cases e : (List.range n)[i]? with
  | none => rw [e] at h; cases h
  | some k =>
    rw [e] at h
    obtain ⟨h1, h2⟩ := List.getElem?_eq_some_iff.mp e
    rw [List.getElem_range] at h2
    subst h2
    rw [List.length_range] at h1
    exact ⟨h1, (Option.some.inj h).symm⟩
theorem yld_range {K : PySem.W.Frag} {mg : MgT} {H : Hp} {B : Ad} {lo : Int} {n : Nat} : Yld K mg (Itr lo n) B H (rangeL lo n) := fun B' H' fe i => by
  refine ⟨fun d e => ?_, fun e => ?_⟩
  · obtain ⟨h1, rfl⟩ := rangeL_at e
    refine ⟨h1, fun x H'' y => ?_⟩
    obtain ⟨rfl, rfl⟩ := y
    exact ⟨fun _ _ z => z, fun _ => .int _⟩
  · show n ≤ i
    rw [e]; simp [rangeL]
def okR (i : Int) : Bool := decide (-1000000000 < i) && decide (i < 1000000000)
def i1? : List D → Option Int
  | [.int i] => some i
  | _ => none
def i2? : List D → Option (Int × Int)
  | [.int i, .int j] => some (i, j)
  | _ => none
theorem i1_of {ds : List D} {p : Int} (h : i1? ds = some p) : ds = [.int p] := by
  unfold i1? at h
  split at h
  · cases h; rfl
  · cases h
theorem i2_of {ds : List D} {p : Int × Int} (h : i2? ds = some p) : ds = [.int p.1, .int p.2] := by
  unfold i2? at h
  split at h
  · cases h; rfl
  · cases h
/-- arguments, looked at -/
def argM {α β : Type} (f : M (List Od)) (p : List D → Option α) (k : α → M β) : M β := fun ρ => bnd (f ρ) fun os ρ1 => match (getAll ρ1 os).bind p with
  | some a => k a ρ1
  | none => .bad
theorem sat_arg {K : PySem.W.Frag} {mg : MgT} {S : Sx} {Wi : WX} {α β : Type} {f : M (List Od)} {p : List D → Option α} {k : α → M β} {Ψ : β → Sx → Prop} {Φ : List Od → Sx → Prop} (h : S.rel K mg) (q : Sat K mg Wi S Ψ (argM f p k S.ρ))
    (z : ∀ os S1 ds a, S1.σ = S.σ → Go K mg S S1 → getAll S1.ρ os = some ds → p ds = some a → Sat K mg Wi S Ψ (k a S1.ρ) → Φ os S1) : Sat K mg Wi S Φ (f S.ρ) := q.bnd fun os S1 es g _ q1 => by
  cases e : getAll S1.ρ os with
  | none => simp only [e, Option.bind_none] at q1; exact q1.elim
  | some ds =>
    cases e2 : p ds with
    | none => simp only [e, Option.bind_some, e2] at q1; exact q1.elim
    | some a =>
      simp only [e, Option.bind_some, e2] at q1
      exact z os S1 ds a es g e e2 q1
theorem opnL1 {K : PySem.W.Frag} {mg : MgT} {S : Sx} {d : D} {vs : List V} (o : OpnL K mg S [d] vs) : ∃ v, vs = [v] ∧ Opn K mg S d v := by
  cases o with
  | cons a r => cases r; exact ⟨_, rfl, a⟩
theorem opnL2 {K : PySem.W.Frag} {mg : MgT} {S : Sx} {d e : D} {vs : List V} (o : OpnL K mg S [d, e] vs) : ∃ v w, vs = [v, w] ∧ Opn K mg S d v ∧ Opn K mg S e w := by
  cases o with
  | cons a r =>
    obtain ⟨w, rfl, b⟩ := opnL1 r
    exact ⟨_, w, rfl, a, b⟩
theorem opnL3 {K : PySem.W.Frag} {mg : MgT} {S : Sx} {d e f : D} {vs : List V} (o : OpnL K mg S [d, e, f] vs) : ∃ v w u, vs = [v, w, u] ∧ Opn K mg S d v ∧ Opn K mg S e w ∧ Opn K mg S f u := by
  cases o with
  | cons a r =>
    obtain ⟨w, u, rfl, b, c⟩ := opnL2 r
    exact ⟨_, w, u, rfl, a, b, c⟩
def itR1 (f : M (List Od)) : M (List D) := argM f i1? fun j ρ1 => if okR j = true then .ok (rangeL 0 j.toNat) ρ1 else .bad
def itR2 (f : M (List Od)) : M (List D) := argM f i2? fun p ρ1 => if (okR p.1 && okR p.2) = true then .ok (rangeL p.1 (p.2 - p.1).toNat) ρ1 else .bad
theorem ri_range1 {a : Expr} {f : M (List Od)} {p pos : Pos} (hg : Gl X "range") (hm : X.mg "range" = none) (ha : RA X [a] f) (hs : starEach [a] X.env = [(false, eval a X.env)] := by rfl) : RI X tg (.Call (.Name "range" p) [a] [] pos) (itR1 f) := by
  refine ⟨fun Wi tk => pi_imp (pi_range1 hg hm (ha.run Wi tk) hs) fun σ H R q => ?_⟩
  obtain ⟨S, hS, rfl, rfl, q⟩ := q
  refine ⟨S, hS, rfl, rfl, sat_arg hS q fun os S1 ds j es g e e2 q1 vs rv => ?_⟩
  have op := opnL_of g.rel rv e
  rw [i1_of e2] at op
  obtain ⟨v, rfl, o1⟩ := opnL1 op
  by_cases c : okR j = true
  · rw [if_pos c] at q1
    simp only [okR, Bool.and_eq_true, decide_eq_true_eq] at c
    rw [o1.int]
    exact ⟨j, rfl, by omega, by omega, q1 S1 rfl es g _ yld_range⟩
  · rw [if_neg c] at q1; exact q1.elim
theorem ri_range2 {a b : Expr} {f : M (List Od)} {p pos : Pos} (hg : Gl X "range") (hm : X.mg "range" = none) (ha : RA X [a, b] f) (hs : starEach [a, b] X.env = [(false, eval a X.env), (false, eval b X.env)] := by rfl) (hs2 : starEach [b] X.env = [(false, eval b X.env)] := by rfl) :
    RI X tg (.Call (.Name "range" p) [a, b] [] pos) (itR2 f) := by
  refine ⟨fun Wi tk => pi_imp (pi_range2 hg hm (ha.run Wi tk) hs hs2) fun σ H R q => ?_⟩
  obtain ⟨S, hS, rfl, rfl, q⟩ := q
  refine ⟨S, hS, rfl, rfl, sat_arg hS q fun os S1 ds j es g e e2 q1 vs rv => ?_⟩
  have op := opnL_of g.rel rv e
  rw [i2_of e2] at op
  obtain ⟨v, w, rfl, o1, o2⟩ := opnL2 op
  by_cases c : (okR j.1 && okR j.2) = true
  · rw [if_pos c] at q1
    simp only [okR, Bool.and_eq_true, decide_eq_true_eq] at c
    rw [o1.int, o2.int]
    exact ⟨j.1, j.2, rfl, by omega, q1 S1 rfl es g _ yld_range⟩
  · rw [if_neg c] at q1; exact q1.elim
/-! enumerate, zip -/
def lst1? : List D → Option (List D)
  | [.lst xs] => some xs
  | _ => none
theorem lst1_of {ds : List D} {p : List D} (h : lst1? ds = some p) : ds = [.lst p] := by
  unfold lst1? at h
  split at h
  · cases h; rfl
  · cases h
def enumL (s : Nat) (xs : List D) : List D := xs.zipIdx.map fun p => .tup [.int ((p.2 + s : Nat) : Int), p.1]
def zipL (xs ys : List D) : List D := (xs.zip ys).map fun p => .tup [p.1, p.2]
theorem vals_v {os : List Od} : ∀ {ds : List D}, vals? os = some ds → os = ds.map .v := by
  induction os with
  | nil => intro ds h; cases h; rfl
  | cons o os ih =>
    intro ds h
    cases o with
    | s i => cases h
    | v d =>
      unfold vals? at h
      cases e : vals? os with
      | none => rw [e] at h; cases h
      | some es => rw [e] at h; cases h; rw [ih e]; rfl
def itEn (f : M (List Od)) : M (List D) := fun ρ => bnd (f ρ) fun os ρ1 => match (vals? os).bind lst1? with
  | some xs => .ok (enumL 0 xs) ρ1
  | none => .bad
theorem rep_list {K : PySem.W.Frag} {mg : MgT} {H : Hp} {B : Ad} {xs : List D} {v : V} (r : Rep K mg H B (.lst xs) v) : ∃ a vs, v = .ref a ∧ ¬ B a ∧ H a = some (.lst vs) ∧ RepL K mg H B xs vs := by
  cases r with
  | lst hb h r => exact ⟨_, _, rfl, hb, h, r⟩
theorem yld_enum {K : PySem.W.Frag} {mg : MgT} {H : Hp} {B : Ad} {a : Addr} {xs : List D} {vs : List V} (hb : ¬ B a) (h : H a = some (.lst vs)) (r : RepL K mg H B xs vs) : Yld K mg (Ite K a) B H (enumL 0 xs) := fun B' H' fe i => by
  have h' : H' a = some (.lst vs) := fe.keep a _ h hb trivial
  have sq : SqL K H' a vs := .inl (.inl h')
  refine ⟨fun d e => ?_, fun e => ⟨vs, sq, by rw [← r.length, e]; simp [enumL]⟩⟩
  unfold enumL at e
  rw [List.getElem?_map, List.getElem?_zipIdx] at e
  cases e1 : xs[i]? with
  | none => rw [e1] at e; cases e
  | some x =>
    rw [e1] at e
    have ed : d = .tup [.int (i : Nat), x] := by
      have := (Option.some.inj e).symm
      simpa using this
    subst ed
    obtain ⟨v, e2, rv⟩ := r.get e1
    refine ⟨⟨vs, v, sq, e2⟩, fun y H'' z => ?_⟩
    obtain ⟨T, w, rfl, hT, rfl, z⟩ := z
    have ex := z vs sq
    rw [e2] at ex
    cases ex
    refine ⟨ext_upd hT, fun al => ?_⟩
    have nT : ¬ B' T := fun q => al T q hT
    have fe2 : FE B' H' B' (upd H' T (.tup [.int (i : Nat), v])) := fe_new hT
    exact .tup nT upd_same (.cons (.int _) (.cons (Rep.mono (fe.trans fe2) rv) .nil))
theorem ri_enum {e : Expr} {f : M (List Od)} {p pos tpos : Pos} {elts : List Expr} {kk : Nat} (hg : Gl X "enumerate") (hm : X.mg "enumerate" = none) (ha : RA X [e] f) (hs : starEach [e] X.env = [(false, eval e X.env)] := by rfl) :
    RI X (.Tuple elts kk tpos) (.Call (.Name "enumerate" p) [e] [] pos) (itEn f) := by
  refine ⟨fun Wi tk => pi_imp (pi_enum hg hm (ha.run Wi tk) hs) fun σ H R q => ?_⟩
  obtain ⟨S, hS, rfl, rfl, q⟩ := q
  refine ⟨S, hS, rfl, rfl, q.bnd fun os S1 es g _ q1 vs rv => ?_⟩
  cases e1 : vals? os with
  | none => simp only [e1, Option.bind_none] at q1; exact q1.elim
  | some ds =>
    cases e2 : lst1? ds with
    | none => simp only [e1, Option.bind_some, e2] at q1; exact q1.elim
    | some xs =>
      simp only [e1, Option.bind_some, e2] at q1
      have r := vals_rep rv e1
      rw [lst1_of e2] at r
      cases r with
      | cons r rn =>
        cases rn
        obtain ⟨a, ws, rfl, hb, h, r⟩ := rep_list r
        exact ⟨a, ws, rfl, .inl (.inl h), q1 S1 rfl es g _ (yld_enum hb h r)⟩
def lst2? : List D → Option (List D × List D)
  | [.lst xs, .lst ys] => some (xs, ys)
  | _ => none
theorem lst2_of {ds : List D} {p : List D × List D} (h : lst2? ds = some p) : ds = [.lst p.1, .lst p.2] := by
  unfold lst2? at h
  split at h
  · cases h; rfl
  · cases h
def tup2? : List D → Option (List D × List D)
  | [.tup xs, .tup ys] => some (xs, ys)
  | _ => none
theorem tup2_of {ds : List D} {p : List D × List D} (h : tup2? ds = some p) : ds = [.tup p.1, .tup p.2] := by
  unfold tup2? at h
  split at h
  · cases h; rfl
  · cases h
def itZ (f : M (List Od)) : M (List D) := fun ρ => bnd (f ρ) fun os ρ1 => match (vals? os).bind lst2? with
  | some p => .ok (zipL p.1 p.2) ρ1
  | none => match (vals? os).bind tup2? with
    | some p => .ok (zipL p.1 p.2) ρ1
    | none => .bad
theorem zip_at {xs ys : List D} {i : Nat} {d : D} (h : (zipL xs ys)[i]? = some d) : ∃ x y, xs[i]? = some x ∧ ys[i]? = some y ∧ d = .tup [x, y] := by
  unfold zipL at h
  rw [List.getElem?_map] at h
  cases e : (xs.zip ys)[i]? with
  | none => rw [e] at h; cases h
  | some p =>
    rw [e] at h
    obtain ⟨h1, h2⟩ := List.getElem?_zip_eq_some.mp e
    exact ⟨p.1, p.2, h1, h2, (Option.some.inj h).symm⟩
theorem zip_end {xs ys : List D} {i : Nat} (h : i = (zipL xs ys).length) : xs.length ≤ i ∨ ys.length ≤ i := by
  rw [h]; simp only [zipL, List.length_map, List.length_zip]; omega
theorem yld_zip {K : PySem.W.Frag} {mg : MgT} {H : Hp} {B : Ad} {a b : Addr} {xs ys : List D} {vs ws : List V} (hb : ¬ B a) (h : H a = some (.lst vs)) (r : RepL K mg H B xs vs) (hb2 : ¬ B b) (h2 : H b = some (.lst ws)) (r2 : RepL K mg H B ys ws) : Yld K mg (Itz K a b) B H (zipL xs ys) := fun B' H' fe i => by
  have sq : SqL K H' a vs := .inl (.inl (fe.keep a _ h hb trivial))
  have sq2 : SqL K H' b ws := .inl (.inl (fe.keep b _ h2 hb2 trivial))
  refine ⟨fun d e => ?_, fun e => ⟨vs, ws, sq, sq2, by rw [← r.length, ← r2.length]; exact zip_end e⟩⟩
  obtain ⟨x, y, e1, e2, rfl⟩ := zip_at e
  obtain ⟨v, f1, rv⟩ := r.get e1
  obtain ⟨w, f2, rw'⟩ := r2.get e2
  refine ⟨⟨vs, ws, v, w, sq, sq2, f1, f2⟩, fun y H'' z => ?_⟩
  obtain ⟨T, v', w', rfl, hT, rfl, z1, z2⟩ := z
  have ex := z1 vs sq
  rw [f1] at ex; cases ex
  have ey := z2 ws sq2
  rw [f2] at ey; cases ey
  refine ⟨ext_upd hT, fun al => ?_⟩
  have nT : ¬ B' T := fun q => al T q hT
  have fe2 : FE B' H' B' (upd H' T (.tup [v, w])) := fe_new hT
  exact .tup nT upd_same (.cons (Rep.mono (fe.trans fe2) rv) (.cons (Rep.mono (fe.trans fe2) rw') .nil))
theorem rep_tup {K : PySem.W.Frag} {mg : MgT} {H : Hp} {B : Ad} {xs : List D} {v : V} (r : Rep K mg H B (.tup xs) v) : ∃ a vs, v = .ref a ∧ RepL K mg H B xs vs ∧ ∀ B' H', FE B H B' H' → SqT K H' a vs := by
  cases r with
  | tup hb h r => exact ⟨_, _, rfl, r, fun B' H' fe => .inl (.inl (fe.keep _ _ h hb trivial))⟩
  | tupK h r => exact ⟨_, _, rfl, r, fun B' H' fe => h H'⟩
theorem yld_zipT {K : PySem.W.Frag} {mg : MgT} {H : Hp} {B : Ad} {a b : Addr} {xs ys : List D} {vs ws : List V} (h : ∀ B' H', FE B H B' H' → SqT K H' a vs) (r : RepL K mg H B xs vs) (h2 : ∀ B' H', FE B H B' H' → SqT K H' b ws) (r2 : RepL K mg H B ys ws) : Yld K mg (ItzT K a b) B H (zipL xs ys) := fun B' H' fe i => by
  have sq := h B' H' fe
  have sq2 := h2 B' H' fe
  refine ⟨fun d e => ?_, fun e => ⟨vs, ws, sq, sq2, by rw [← r.length, ← r2.length]; exact zip_end e⟩⟩
  obtain ⟨x, y, e1, e2, rfl⟩ := zip_at e
  obtain ⟨v, f1, rv⟩ := r.get e1
  obtain ⟨w, f2, rw'⟩ := r2.get e2
  refine ⟨⟨vs, ws, v, w, sq, sq2, f1, f2⟩, fun y H'' z => ?_⟩
  obtain ⟨T, v', w', rfl, hT, rfl, z1, z2⟩ := z
  have ex := z1 vs sq
  rw [f1] at ex; cases ex
  have ey := z2 ws sq2
  rw [f2] at ey; cases ey
  refine ⟨ext_upd hT, fun al => ?_⟩
  have nT : ¬ B' T := fun q => al T q hT
  have fe2 : FE B' H' B' (upd H' T (.tup [v, w])) := fe_new hT
  exact .tup nT upd_same (.cons (Rep.mono (fe.trans fe2) rv) (.cons (Rep.mono (fe.trans fe2) rw') .nil))
theorem ri_zip {e e2 : Expr} {f : M (List Od)} {p pos tpos : Pos} {elts : List Expr} {kk : Nat} (hg : Gl X "zip") (hm : X.mg "zip" = none) (ha : RA X [e, e2] f) (hs : starEach [e, e2] X.env = (false, eval e X.env) :: starEach [e2] X.env := by rfl) (hpl : (backTo pos (starEach [e2] X.env)).any (·.1) = false := by rfl) :
    RI X (.Tuple elts kk tpos) (.Call (.Name "zip" p) [e, e2] [] pos) (itZ f) := by
  refine ⟨fun Wi tk => pi_imp (pi_zipA hg hm (ha.run Wi tk) hs hpl) fun σ H R q => ?_⟩
  obtain ⟨S, hS, rfl, rfl, q⟩ := q
  refine ⟨S, hS, rfl, rfl, q.bnd fun os S1 es g _ q1 vs rv => ?_⟩
  cases e1 : vals? os with
  | none => simp only [e1, Option.bind_none] at q1; exact q1.elim
  | some ds =>
    have r := vals_rep rv e1
    cases e3 : lst2? ds with
    | some p =>
      simp only [e1, Option.bind_some, e3] at q1
      rw [lst2_of e3] at r
      cases r with
      | cons r rn =>
        cases rn with
        | cons r' rn =>
          cases rn
          obtain ⟨a, ws, rfl, hb, h, r⟩ := rep_list r
          obtain ⟨b, us, rfl, hb', h', r'⟩ := rep_list r'
          exact ⟨a, b, ws, us, rfl, .inl ⟨.inl (.inl h), .inl (.inl h'), q1 S1 rfl es g _ (yld_zip hb h r hb' h' r')⟩⟩
    | none =>
      cases e4 : tup2? ds with
      | none => simp only [e1, Option.bind_some, e3, e4] at q1; exact q1.elim
      | some p =>
        simp only [e1, Option.bind_some, e3, e4] at q1
        rw [tup2_of e4] at r
        cases r with
        | cons r rn =>
          cases rn with
          | cons r' rn =>
            cases rn
            obtain ⟨a, ws, rfl, r, h⟩ := rep_tup r
            obtain ⟨b, us, rfl, r', h'⟩ := rep_tup r'
            exact ⟨a, b, ws, us, rfl, .inr ⟨h _ _ FE.refl, h' _ _ FE.refl, q1 S1 rfl es g _ (yld_zipT h r h' r')⟩⟩
end
end KL
end

section
set_option Elab.async false
set_option linter.all false
set_option maxRecDepth 100000
namespace KL
open PySem L2
variable [Tabs]

/-! ### list comprehensions -/
def wipeE (ρ : Env) : List Nat → Env
  | [] => ρ
  | v :: vs => (wipeE ρ vs).set v .un
/-- the block's own names are forgotten, what the def had under them is there again -/
def rstE (ρ₀ ρ : Env) : List Nat → Env
  | [] => ρ
  | v :: vs => (rstE ρ₀ ρ vs).set v ((ρ₀[v]?).getD .un)
def okW (ρ : Env) (vs : List Nat) : Bool := vs.all fun v => match ρ[v]? with
  | some q => !q.mine
  | none => true
theorem wipeE_at {ρ : Env} : ∀ {vs : List Nat} {j : Nat} {q : Sl}, (wipeE ρ vs)[j]? = some q → q = .un ∨ (j ∉ vs ∧ ρ[j]? = some q)
  | [], j, q, h => .inr ⟨by simp, h⟩
  | v :: vs, j, q, h => by
    unfold wipeE at h
    rcases set_some h with ⟨_, e⟩ | ⟨ne, h⟩
    · exact .inl e
    · rcases wipeE_at h with e | ⟨h1, h2⟩
      · exact .inl e
      · exact .inr ⟨by simp only [List.mem_cons, not_or]; exact ⟨ne, h1⟩, h2⟩
theorem wipeE_ne {ρ : Env} : ∀ {vs : List Nat} {j : Nat}, j ∉ vs → (wipeE ρ vs)[j]? = ρ[j]?
  | [], j, _ => rfl
  | v :: vs, j, h => by
    simp only [List.mem_cons, not_or] at h
    unfold wipeE
    rw [List.getElem?_set_ne (fun e => h.1 e.symm)]
    exact wipeE_ne h.2
theorem wipe_ne {σ : L2.St} : ∀ {vs : List Nat} {j : Nat}, j ∉ vs → (wipe σ vs)[j]? = σ[j]?
  | [], j, _ => rfl
  | v :: vs, j, h => by
    simp only [List.mem_cons, not_or] at h
    unfold wipe
    rw [List.getElem?_set_ne (fun e => h.1 e.symm)]
    exact wipe_ne h.2
theorem wipeE_len (ρ : Env) : ∀ vs : List Nat, (wipeE ρ vs).length = ρ.length
  | [] => rfl
  | v :: vs => by unfold wipeE; rw [List.length_set]; exact wipeE_len ρ vs
theorem rstE_len (ρ₀ ρ : Env) : ∀ vs : List Nat, (rstE ρ₀ ρ vs).length = ρ.length
  | [] => rfl
  | v :: vs => by unfold rstE; rw [List.length_set]; exact rstE_len ρ₀ ρ vs
theorem rstE_at {ρ₀ ρ : Env} : ∀ {vs : List Nat} {j : Nat} {q : Sl}, (rstE ρ₀ ρ vs)[j]? = some q → (j ∈ vs ∧ q = (ρ₀[j]?).getD .un) ∨ (j ∉ vs ∧ ρ[j]? = some q)
  | [], j, q, h => .inr ⟨by simp, h⟩
  | v :: vs, j, q, h => by
    unfold rstE at h
    rcases set_some h with ⟨e1, e⟩ | ⟨ne, h⟩
    · subst e1; exact .inl ⟨List.mem_cons_self, e⟩
    · rcases rstE_at h with ⟨h1, h2⟩ | ⟨h1, h2⟩
      · exact .inl ⟨List.mem_cons_of_mem _ h1, h2⟩
      · exact .inr ⟨by simp only [List.mem_cons, not_or]; exact ⟨ne, h1⟩, h2⟩
theorem rstE_ne {ρ₀ ρ : Env} : ∀ {vs : List Nat} {j : Nat}, j ∉ vs → (rstE ρ₀ ρ vs)[j]? = ρ[j]?
  | [], j, _ => rfl
  | v :: vs, j, h => by
    simp only [List.mem_cons, not_or] at h
    unfold rstE
    rw [List.getElem?_set_ne (fun e => h.1 e.symm)]
    exact rstE_ne h.2
theorem okW_not {ρ : Env} {vs : List Nat} {j : Nat} {q : Sl} (h : okW ρ vs = true) (hj : j ∈ vs) (e : ρ[j]? = some q) : q.mine = false := by
  unfold okW at h
  have := List.all_eq_true.mp h j hj
  rw [e] at this
  simpa using this
section
variable {K : PySem.W.Frag} {mg : MgT} {S : Sx}
/-- into the block's slots: σ' is σ but for the slots vs, of which nothing is known -/
theorem go_wipe {vs : List Nat} {σ' : L2.St} (h : S.rel K mg) (hw : okW S.ρ vs = true) (hl : σ'.length = S.σ.length) (he : ∀ j, j ∉ vs → σ'[j]? = S.σ[j]?) :
    Rel K mg S.B (wipeE S.ρ vs) σ' S.H ∧ ∀ a, Own (wipeE S.ρ vs) σ' a ↔ Own S.ρ S.σ a := by
  have own : ∀ j a, OwnAt (wipeE S.ρ vs) σ' j a → OwnAt S.ρ S.σ j a := fun j a ⟨⟨q, e1, e2⟩, e3⟩ => by
    rcases wipeE_at e1 with rfl | ⟨h1, h2⟩
    · cases e2
    · rw [he j h1] at e3
      exact ⟨⟨q, h2, e2⟩, e3⟩
  have own' : ∀ j a, OwnAt S.ρ S.σ j a → OwnAt (wipeE S.ρ vs) σ' j a := fun j a ⟨⟨q, e1, e2⟩, e3⟩ => by
    have hj : j ∉ vs := fun hj => by rw [okW_not hw hj e1] at e2; cases e2
    exact ⟨⟨q, by rw [wipeE_ne hj]; exact e1, e2⟩, by rw [he j hj]; exact e3⟩
  refine ⟨⟨by rw [wipeE_len, hl]; exact h.len, fun j q e => ?_, fun i j a o1 o2 => h.dist i j a (own i a o1) (own j a o2), h.alloc, h.tab⟩, fun a => ⟨fun ⟨j, z⟩ => ⟨j, own j a z⟩, fun ⟨j, z⟩ => ⟨j, own' j a z⟩⟩⟩
  rcases wipeE_at e with rfl | ⟨h1, h2⟩
  · trivial
  · rw [he j h1]; exact h.sl j q h2
/-- out of the block -/
theorem go_rest {S0 S1 : Sx} {vs : List Nat} (h0 : S0.rel K mg) (hw0 : okW S0.ρ vs = true) (h1 : S1.rel K mg) (hw1 : okW S1.ρ vs = true) (hl : S1.σ.length = S0.σ.length) (he : ∀ j, j ∉ vs → S1.σ[j]? = S0.σ[j]?) (fe : FE S0.B S0.H S1.B S1.H) :
    Rel K mg S1.B (rstE S0.ρ S1.ρ vs) S0.σ S1.H ∧ ∀ a, Own (rstE S0.ρ S1.ρ vs) S0.σ a ↔ Own S1.ρ S1.σ a := by
  have own : ∀ j a, OwnAt (rstE S0.ρ S1.ρ vs) S0.σ j a → OwnAt S1.ρ S1.σ j a := fun j a ⟨⟨q, e1, e2⟩, e3⟩ => by
    rcases rstE_at e1 with ⟨a1, a2⟩ | ⟨a1, a2⟩
    · subst a2
      cases w : S0.ρ[j]? with
      | none => rw [w] at e2; cases e2
      | some r =>
        rw [w] at e2
        have e2 : r.mine = true := e2
        rw [okW_not hw0 a1 w] at e2; cases e2
    · exact ⟨⟨q, a2, e2⟩, by rw [he j a1]; exact e3⟩
  have own' : ∀ j a, OwnAt S1.ρ S1.σ j a → OwnAt (rstE S0.ρ S1.ρ vs) S0.σ j a := fun j a ⟨⟨q, e1, e2⟩, e3⟩ => by
    have hj : j ∉ vs := fun hj => by rw [okW_not hw1 hj e1] at e2; cases e2
    exact ⟨⟨q, by rw [rstE_ne hj]; exact e1, e2⟩, by rw [← he j hj]; exact e3⟩
  refine ⟨⟨by rw [rstE_len, ← hl]; exact h1.len, fun j q e => ?_, fun i j a o1 o2 => h1.dist i j a (own i a o1) (own j a o2), h1.alloc, h1.tab⟩, fun a => ⟨fun ⟨j, z⟩ => ⟨j, own j a z⟩, fun ⟨j, z⟩ => ⟨j, own' j a z⟩⟩⟩
  rcases rstE_at e with ⟨a1, a2⟩ | ⟨a1, a2⟩
  · subst a2
    cases w : S0.ρ[j]? with
    | none => exact trivial
    | some r =>
      have y := h0.sl j r w
      have m := okW_not hw0 a1 w
      show SlR K mg S1.H S1.B r _
      cases r with
      | un => trivial
      | va d => obtain ⟨v, b1, b2⟩ := y; exact ⟨v, b1, Rep.mono fe b2⟩
      | ow xs => cases m
      | io xs => cases m
  · rw [← he j a1]; exact h1.sl j q a2
end
/-- the block's turns -/
def lcL (vs : List Nat) (tg : D → Env → Out) (c : M Bool) (e : M Vl) : List D → List D → Env → R (List D)
  | [], acc, ρ => .ok acc ρ
  | d :: ds, acc, ρ => match tg d ρ with
    | .nx ρ1 => match c ρ1 with
      | .ok true ρ2 => match e ρ2 with
        | .ok a ρ3 => if (okW ρ3 vs && decide (acc.length < 1000000)) = true then lcL vs tg c e ds (acc ++ [a.d]) (wipeE ρ3 vs) else .bad
        | _ => .bad
      | .ok false ρ2 => if okW ρ2 vs = true then lcL vs tg c e ds acc (wipeE ρ2 vs) else .bad
      | _ => .bad
    | _ => .bad
def lcE (vs : List Nat) (it : M (List D)) (tg : D → Env → Out) (c : M Bool) (e : M Vl) : M Vl := fun ρ => bnd (it ρ) fun ds ρ1 => if okW ρ1 vs = true then (match lcL vs tg c e ds [] (wipeE ρ1 vs) with
  | .ok acc ρ2 => if okW ρ2 vs = true then .ok (.fr acc) (rstE ρ1 ρ2 vs) else .bad
  | _ => .bad) else .bad
def yesB : M Bool := fun ρ => .ok true ρ
structure RTs (X : Cx) (ifs : List Expr) (f : M Bool) : Prop where
  run : ∀ Wi, Takes X Wi → PTs X ifs (TT_ X.K X.mg Wi f)
theorem rts_nil {X : Cx} : RTs X [] yesB := ⟨fun Wi tk => ⟨fun pins s σ H Q I q => by
  obtain ⟨S, hS, rfl, rfl, q⟩ := q
  exact pts_nil.run pins s S.σ S.H Q I (q S rfl rfl (Go.refl hS))⟩⟩
theorem rts_one {X : Cx} {e : Expr} {f : M Bool} (h : RT X e f) : RTs X [e] f := ⟨fun Wi tk => pts_one (h.run Wi tk)⟩
abbrev W0 : WX := fun _ _ _ _ => False
section
variable {X : Cx} {pos : Pos}
theorem lcL_ok {vs : List Nat} {tg : D → Env → Out} {c : M Bool} {e : M Vl} {d : D} {ds acc : List D} {ρ : Env} {r : R (List D)} (h : lcL vs tg c e (d :: ds) acc ρ = r) (hr : r ≠ .bad) :
    ∃ ρ1, tg d ρ = .nx ρ1 ∧ ((∃ ρ2 a ρ3, c ρ1 = .ok true ρ2 ∧ e ρ2 = .ok a ρ3 ∧ okW ρ3 vs = true ∧ acc.length < 1000000 ∧ lcL vs tg c e ds (acc ++ [a.d]) (wipeE ρ3 vs) = r) ∨ (∃ ρ2, c ρ1 = .ok false ρ2 ∧ okW ρ2 vs = true ∧ lcL vs tg c e ds acc (wipeE ρ2 vs) = r)) := by
  unfold lcL at h
  cases e1 : tg d ρ with
  | nx ρ1 =>
    simp only [e1] at h
    refine ⟨ρ1, rfl, ?_⟩
    cases e2 : c ρ1 with
    | bad => simp only [e2] at h; exact absurd h.symm hr
    | ex _ _ => simp only [e2] at h; exact absurd h.symm hr
    | ok b ρ2 =>
      cases b with
      | false =>
        simp only [e2] at h
        by_cases cw : okW ρ2 vs = true
        · rw [if_pos cw] at h; exact .inr ⟨ρ2, rfl, cw, h⟩
        · rw [if_neg cw] at h; exact absurd h.symm hr
      | true =>
        simp only [e2] at h
        cases e3 : e ρ2 with
        | bad => simp only [e3] at h; exact absurd h.symm hr
        | ex _ _ => simp only [e3] at h; exact absurd h.symm hr
        | ok a ρ3 =>
          simp only [e3] at h
          by_cases cw : (okW ρ3 vs && decide (acc.length < 1000000)) = true
          · rw [if_pos cw] at h
            simp only [Bool.and_eq_true, decide_eq_true_eq] at cw
            exact .inl ⟨ρ2, a, ρ3, rfl, e3, cw.1, cw.2, h⟩
          · rw [if_neg cw] at h; exact absurd h.symm hr
  | _ => simp only [e1] at h; exact absurd h.symm hr
theorem wipe_idem (σ : L2.St) : ∀ {vs : List Nat} {j : Nat}, j ∉ vs → (wipe σ vs)[j]? = σ[j]? := fun h => wipe_ne h
theorem wipe_ext {σ σ' : L2.St} (hl : σ'.length = σ.length) {vs : List Nat} (he : ∀ j, j ∉ vs → σ'[j]? = σ[j]?) : wipe σ' vs = wipe σ vs := by
  apply List.ext_getElem?
  intro j
  by_cases hj : j ∈ vs
  · have gone : ∀ (τ : L2.St) (vs : List Nat), j ∈ vs → τ.length = σ.length → (wipe τ vs)[j]? = if j < σ.length then some none else none := by
      intro τ vs
      induction vs with
      | nil => intro h; cases h
      | cons v vs ih =>
        intro h hlen
        unfold wipe
        by_cases e : v = j
        · subst e
          by_cases hlt : v < σ.length
          · rw [if_pos hlt]; exact List.getElem?_set_self (by rw [wipe_length, hlen]; exact hlt)
          · rw [if_neg hlt]; exact List.getElem?_eq_none (by rw [List.length_set, wipe_length, hlen]; omega)
        · rw [List.getElem?_set_ne e]
          exact ih ((List.mem_cons.mp h).resolve_left (fun q => e q.symm)) hlen
    rw [gone σ' vs hj hl, gone σ vs hj rfl]
  · rw [wipe_ne hj, wipe_ne hj]; exact he j hj
/-- a target stores into the slots vs alone -/
structure GOnly (g : TG) (vs : List Nat) : Prop where
  only : ∀ v σ H Q, g v σ H Q → g v σ H fun σ' H' => Q σ' H' ∧ σ'.length = σ.length ∧ ∀ j, j ∉ vs → σ'[j]? = σ[j]?
  mono : ∀ v σ H (Q Q' : L2.St → Hp → Prop), (∀ σ H, Q σ H → Q' σ H) → g v σ H Q → g v σ H Q'
theorem gonly_name {i : Nat} {vs : List Nat} (h : i ∈ vs) : GOnly (gName i) vs :=
  ⟨fun v σ H Q q => ⟨q, List.length_set .., fun j hj => List.getElem?_set_ne (fun e => hj (by rw [← e]; exact h))⟩, fun v σ H Q Q' k q => k _ _ q⟩
theorem gNames_mono : ∀ (is : List Nat) (ws : List V) (σ : L2.St) (H : Hp) (Q Q' : L2.St → Hp → Prop), (∀ σ H, Q σ H → Q' σ H) → gNames is ws σ H Q → gNames is ws σ H Q'
  | [], _, _, _, _, _, k, q => ⟨q.1, k _ _ q.2⟩
  | i :: is, _, _, _, _, _, k, q => by
    obtain ⟨v, r, e, q⟩ := q
    exact ⟨v, r, e, gNames_mono is _ _ _ _ _ k q⟩
theorem gonly_names : ∀ {is : List Nat} {vs : List Nat} (h : ∀ i ∈ is, i ∈ vs) (ws : List V) (σ : L2.St) (H : Hp) (Q : L2.St → Hp → Prop), gNames is ws σ H Q → gNames is ws σ H fun σ' H' => Q σ' H' ∧ σ'.length = σ.length ∧ ∀ j, j ∉ vs → σ'[j]? = σ[j]?
  | [], vs, h, ws, σ, H, Q, q => ⟨q.1, q.2, rfl, fun _ _ => rfl⟩
  | i :: is, vs, h, ws, σ, H, Q, q => by
    obtain ⟨v, r, e, q⟩ := q
    refine ⟨v, r, e, ?_⟩
    have z := gonly_names (vs := vs) (fun j hj => h j (List.mem_cons_of_mem _ hj)) r (σ.set i (some v)) H Q q
    exact gNames_mono is r _ H _ _ (fun σ' H' ⟨a, b, c⟩ => ⟨a, b.trans (List.length_set ..), fun j hj => (c j hj).trans (List.getElem?_set_ne (fun e => hj (by rw [← e]; exact h i List.mem_cons_self)))⟩) z
theorem gonly_tup {K : PySem.W.Frag} {n : Nat} {is : List Nat} {vs : List Nat} (h : ∀ i ∈ is, i ∈ vs) : GOnly (gTup K n (gNames is)) vs := ⟨fun v σ H Q q => by
  obtain ⟨a, xs, e, h1, h2, q⟩ := q
  exact ⟨a, xs, e, h1, h2, gonly_names h xs σ H Q q⟩, fun v σ H Q Q' k q => by
  obtain ⟨a, xs, e, h1, h2, q⟩ := q
  exact ⟨a, xs, e, h1, h2, gNames_mono _ _ _ _ _ _ k q⟩⟩
theorem Tr.congr {B W B' W' : Ad} {H H' : Hp} {V V' : Ad} (t : Tr B W H B' W' H') (h : ∀ a, V a ↔ W a) (h' : ∀ a, V' a ↔ W' a) : Tr B V H B' V' H' :=
  ⟨fun a o q n u => t.keep a o q (fun z => n ((h a).mpr z)) u, t.there, t.bnew, fun a z => (t.wnew a ((h' a).mp z)).imp (h a).mpr id, fun a z n => t.bkeep a z fun y => n ((h a).mpr y), t.tabs⟩
theorem okW_wipe {ρ : Env} {vs : List Nat} : okW (wipeE ρ vs) vs = true := by
  unfold okW
  refine List.all_eq_true.mpr fun v hv => ?_
  cases e : (wipeE ρ vs)[v]? with
  | none => rfl
  | some q =>
    rcases wipeE_at e with rfl | ⟨h, _⟩
    · rfl
    · exact absurd hv h
theorem lc_imp {tg : Expr} {scope : Scope} {own : List (Str × Nat)} {fi : M (List D)} {ft : D → Env → Out} {fc : M Bool} {fe : M Vl} {g : TG} (Wi : WX)
    (hg : ∀ (s : Shared) (H : Hp) (C : Addr) (cl : List (Str × Addr)) (fp : List Addr), RG (X.blk s H scope (compEnvC scope cl C X.env) fp) tg g ft) (hgo : GOnly g (own.map (·.2))) :
    ∀ σ H Q, TE_ X.K X.mg Wi (lcE (own.map (·.2)) fi ft fc fe) σ H Q → tLc (TI_ X.K X.mg Wi fi) g (TT_ X.K X.mg W0 fc) (TE_ X.K X.mg W0 fe) (own.map (·.2)) σ H Q := by
  intro σ H Q q
  have hgt : GTg X.K X.mg g ft ∧ ∀ d ρ, (∃ ρ', ft d ρ = .nx ρ') ∨ ft d ρ = .bad := by
    have z := hg X.s_0 X.H_0 0 [] []
    exact ⟨z.gt, z.only⟩
  obtain ⟨hgt, honly⟩ := hgt
  generalize own.map (·.2) = vs at *
  obtain ⟨S, hS, rfl, rfl, q⟩ := q
  refine ⟨S, hS, rfl, rfl, q.bnd fun ds S1 es g1 _ q1 J hJ D0 hD => ?_⟩
  have hS1 := g1.rel
  by_cases cw : okW S1.ρ vs = true
  · rw [if_pos cw] at q1
    cases er : lcL vs ft fc fe ds [] (wipeE S1.ρ vs) with
    | bad => simp only [er] at q1; exact q1.elim
    | ex _ _ => simp only [er] at q1; exact q1.elim
    | ok accF ρF =>
      simp only [er] at q1
      by_cases cf : okW ρF vs = true
      · rw [if_pos cf] at q1
        have hl1 : (wipe S.σ vs).length = S1.σ.length := by rw [wipe_length, es]
        have hn1 : ∀ j, j ∉ vs → (wipe S.σ vs)[j]? = S1.σ[j]? := fun j hj => by rw [wipe_ne hj, es]
        obtain ⟨ri0, oi0⟩ := go_wipe (σ' := wipe S.σ vs) hS1 cw hl1 hn1
        let S0 : Sx := ⟨S1.B, wipeE S1.ρ vs, wipe S.σ vs, S1.H⟩
        have hS0 : S0.rel X.K X.mg := ri0
        have nD : ¬ S1.B D0 := fun z => hS1.alloc D0 z hD
        -- the state ahead of a turn
        refine ⟨fun i m H => m = ds.length - i ∧ i ≤ ds.length ∧ ∃ (B : Ad) (ρ : Env) (acc : List D) (us : List V), Go X.K X.mg S0 ⟨B, ρ, wipe S.σ vs, H⟩ ∧ okW ρ vs = true ∧ B D0 ∧ ¬ Own ρ (wipe S.σ vs) D0 ∧ H D0 = some (.lst us) ∧ RepL X.K X.mg H B acc us ∧
          lcL vs ft fc fe (ds.drop i) acc ρ = .ok accF ρF, ⟨ds.length, by simp, Nat.zero_le _, fun a => S1.B a ∨ a = D0, wipeE S1.ρ vs, [], [], ?_, okW_wipe, .inr rfl, fun z => nD (hS0.wb z), upd_same, .nil, er⟩, ?_⟩
        · refine go_extA hS0 (ext_upd hD) (fun a z => .inl z) (fun a z => z.imp id fun e => by rw [e]; exact hD) fun a z => ?_
          by_cases e : a = D0
          · rw [e, upd_same]; simp
          · rw [upd_ne e]; exact hS1.alloc a (z.resolve_right e)
        rintro i m H ⟨rfl, hi', B, ρ, acc, us, gi, okρ, bD, oD, eD, rD, el⟩
        have hSi := gi.rel
        have feI : FE S1.B S1.H B H := gi.fe hS0
        obtain ⟨y1, y2⟩ := hJ B H feI i
        by_cases hlt : i < ds.length
        · right
          have e1 : ds[i]? = some ds[i] := List.getElem?_eq_getElem hlt
          obtain ⟨go, yl⟩ := y1 _ e1
          have e2 : ds.drop i = ds[i] :: ds.drop (i + 1) := List.drop_eq_getElem_cons hlt
          rw [e2] at el
          obtain ⟨ρ1, et, el⟩ := lcL_ok el (by simp)
          -- what the turn is to reach
          refine ⟨go, fun H' => ∃ (B : Ad) (ρ : Env) (acc : List D) (us : List V), Go X.K X.mg S0 ⟨B, ρ, wipe S.σ vs, H'⟩ ∧ okW ρ vs = true ∧ B D0 ∧ ¬ Own ρ (wipe S.σ vs) D0 ∧ H' D0 = some (.lst us) ∧ RepL X.K X.mg H' B acc us ∧
            lcL vs ft fc fe (ds.drop (i + 1)) acc ρ = .ok accF ρF, fun H' z => ⟨ds.length - (i + 1), by omega, rfl, hlt, z⟩, fun x H3 y => ?_⟩
          obtain ⟨ext, rx⟩ := yl x H3 y
          have rx := rx hSi.alloc
          have al : ∀ a, B a → H3 a ≠ none := fun a z => by
            cases w : H a with
            | none => exact absurd w (hSi.alloc a z)
            | some o => rw [ext a o w]; simp
          have g3 : Go X.K X.mg ⟨B, ρ, wipe S.σ vs, H⟩ ⟨B, ρ, wipe S.σ vs, H3⟩ := go_extA hSi ext (fun a z => z) (fun a z => .inl z) al
          have g03 := gi.trans hS0 g3
          -- the target
          have key : g x (wipe S.σ vs) H3 fun σ2 H2 => ∃ S4 : Sx, S4.σ = σ2 ∧ S4.H = H2 ∧ S4.ρ = ρ1 ∧ Go X.K X.mg ⟨B, ρ, wipe S.σ vs, H3⟩ S4 :=
            hgt W0 ⟨B, ρ, wipe S.σ vs, H3⟩ ds[i] x { nx := fun σ2 H2 => ∃ S4 : Sx, S4.σ = σ2 ∧ S4.H = H2 ∧ S4.ρ = ρ1 ∧ Go X.K X.mg ⟨B, ρ, wipe S.σ vs, H3⟩ S4, rt := fun _ _ => False } g3.rel rx
              (by
                show SatS X.K X.mg W0 _ _ (ft ds[i] ρ)
                rw [et]
                exact fun S4 a1 a2 => ⟨S4, rfl, rfl, a1, a2⟩) ⟨ρ1, .inl et⟩
          have key := hgo.only x _ _ _ key
          refine hgo.mono x _ _ _ _ (fun σ2 H2 z => ?_) key
          obtain ⟨⟨S4, rfl, rfl, rfl, g4⟩, hl4, hn4⟩ := z
          have hS4 := g4.rel
          have g04 := g03.trans hS0 g4
          have bD4 : S4.B D0 := g4.tr.bkeep D0 bD oD
          have oD4 : ¬ Own S4.ρ S4.σ D0 := fun z => (g4.tr.wnew D0 z).elim oD (al D0 bD)
          have eD3 : H3 D0 = some (.lst us) := ext D0 _ eD
          have eD4 : S4.H D0 = some (.lst us) := g4.tr.keep D0 _ eD3 oD trivial
          have rD4 : RepL X.K X.mg S4.H S4.B acc us := RepL.mono ((g3.fe hSi).trans (g4.fe g3.rel)) rD
          have hl4' : S4.σ.length = (wipe S.σ vs).length := hl4
          -- back to the next turn: what stands at a state behind the test or the element
          have back : ∀ (S5 : Sx) (acc' : List D) (us' : List V), S5.σ = S4.σ → Go X.K X.mg S0 S5 → okW S5.ρ vs = true → S5.B D0 → ¬ Own S5.ρ S5.σ D0 → S5.H D0 = some (.lst us') → RepL X.K X.mg S5.H S5.B acc' us' →
              lcL vs ft fc fe (ds.drop (i + 1)) acc' (wipeE S5.ρ vs) = .ok accF ρF →
              ∃ (B : Ad) (ρ : Env) (acc : List D) (us : List V), Go X.K X.mg S0 ⟨B, ρ, wipe S.σ vs, S5.H⟩ ∧ okW ρ vs = true ∧ B D0 ∧ ¬ Own ρ (wipe S.σ vs) D0 ∧ S5.H D0 = some (.lst us) ∧ RepL X.K X.mg S5.H B acc us ∧ lcL vs ft fc fe (ds.drop (i + 1)) acc ρ = .ok accF ρF := by
            intro S5 acc' us' e5 g5 w5 b5 o5 h5 r5 l5
            obtain ⟨rr, oo⟩ := go_wipe (σ' := wipe S.σ vs) g5.rel w5 (by rw [e5, hl4']) (fun j hj => by rw [e5, hn4 j hj])
            refine ⟨S5.B, wipeE S5.ρ vs, acc', us', ⟨rr, g5.tr.congr (fun _ => Iff.rfl) oo, fun j r e1 e2 => ⟨rfl, ?_⟩, rfl⟩, okW_wipe, b5, fun z => o5 ((oo D0).mp z), h5, r5, l5⟩
            obtain ⟨_, q', a1, a2⟩ := g5.io j r e1 e2
            have hj : j ∉ vs := fun hj => by
              have z5 := okW_not w5 hj a1
              cases q' with
              | io xs => exact Bool.noConfusion (show true = false from z5)
              | _ => exact Bool.noConfusion (show false = true from a2)
            exact ⟨q', by show (wipeE S5.ρ vs)[j]? = _; rw [wipeE_ne hj]; exact a1, a2⟩
          refine ⟨wipe_ext (hl4.trans (wipe_length _ _)) (fun j hj => (hn4 j hj).trans (wipe_ne hj)), S4, hS4, rfl, rfl, ?_⟩
          rcases el with ⟨ρ2, a, ρ3, ec, ee, w3, ha, el⟩ | ⟨ρ2, ec, w2, el⟩
          · rw [ec]
            intro S5 e5 s5 g5
            subst e5
            rw [if_pos rfl]
            have hS5 := g5.rel
            have g05 := g04.trans hS0 g5
            refine ⟨S5, hS5, s5, rfl, ?_⟩
            rw [ee]
            intro S6 e6 s6 g6 v rv
            subst e6
            obtain ⟨S7, f1, f2, f3, g7, r7⟩ := freeze hS5 g6 rv
            have bD5 : S5.B D0 := g5.tr.bkeep D0 bD4 oD4
            have oD5 : ¬ Own S5.ρ S5.σ D0 := fun z => (g5.tr.wnew D0 z).elim oD4 (hS4.alloc D0 bD4)
            have eD5 : S5.H D0 = some (.lst us) := g5.tr.keep D0 _ eD4 oD4 trivial
            have bD7 : S7.B D0 := g7.tr.bkeep D0 bD5 oD5
            have oD7 : ¬ Own S7.ρ S7.σ D0 := fun z => (g7.tr.wnew D0 z).elim oD5 (hS5.alloc D0 bD5)
            have eD7 : S7.H D0 = some (.lst us) := g7.tr.keep D0 _ eD5 oD5 trivial
            have rD7 : RepL X.K X.mg S7.H S7.B acc us := RepL.mono ((g5.fe hS4).trans (g7.fe hS5)) rD4
            have g07 := g05.trans hS0 g7
            have hS7 := g07.rel
            rw [← f3]
            refine ⟨us, eD7, by rw [← rD7.length]; exact Nat.lt_of_lt_of_le ha (big_ok (Nat.le_refl _)), ?_⟩
            -- the list has grown
            have fe8 : FE S7.B S7.H S7.B (upd S7.H D0 (.lst (us ++ [v]))) := upd_fe bD7
            have nn : ∀ a, S7.H a ≠ none → upd S7.H D0 (.lst (us ++ [v])) a ≠ none := fun a z => by
              by_cases c : a = D0
              · rw [c, upd_same]; simp
              · rw [upd_ne c]; exact z
            have ownD : ∀ j b, OwnAt S7.ρ S7.σ j b → b ≠ D0 := fun j b z c => oD7 ⟨j, by rw [← c]; exact z⟩
            have tD : ∀ a, GxR.TabG S7.H a → GxR.TabG (upd S7.H D0 (.lst (us ++ [v]))) a := fun a ⟨ps, e, q⟩ => ⟨ps, by
              rw [upd_ne (fun c => by rw [c] at e; rw [eD7] at e; cases e)]; exact e, q⟩
            have g08 : Go X.K X.mg S0 ⟨S7.B, S7.ρ, S7.σ, upd S7.H D0 (.lst (us ++ [v]))⟩ := by
              refine ⟨⟨hS7.len, fun j q e => ?_, hS7.dist, fun a z => nn a (hS7.alloc a z), fun a z => ⟨tD a (hS7.tab a z).1, (hS7.tab a z).2⟩⟩, ⟨fun a o z nw n => ?_, fun a z => nn a (g07.tr.there a z), g07.tr.bnew, g07.tr.wnew, g07.tr.bkeep, fun a z nb => tD a (g07.tr.tabs a z nb)⟩, g07.io, g07.len⟩
              · have y := hS7.sl j q e
                cases q with
                | un => trivial
                | va d => obtain ⟨w, b1, b2⟩ := y; exact ⟨w, b1, Rep.mono fe8 b2⟩
                | ow zs => obtain ⟨b, ws, b1, b2, b3, b4⟩ := y; exact ⟨b, ws, b1, b2, (upd_ne (ownD j b ⟨⟨_, e, rfl⟩, getD_some b1⟩)).trans b3, RepL.mono fe8 b4⟩
                | io zs => obtain ⟨b, ws, b1, b2, b3, b4⟩ := y; exact ⟨b, ws, b1, b2, (upd_ne (ownD j b ⟨⟨_, e, rfl⟩, getD_some b1⟩)).trans b3, RepL.mono fe8 b4⟩
              · have z1 := g07.tr.keep a o z nw n
                show upd S7.H D0 (.lst (us ++ [v])) a = some o
                rw [upd_ne (fun c => by rw [c] at z; rw [show S0.H D0 = none from hD] at z; cases z)]
                exact z1
            exact back ⟨S7.B, S7.ρ, S7.σ, upd S7.H D0 (.lst (us ++ [v]))⟩ (acc ++ [a.d]) (us ++ [v]) ((f2.trans s6).trans s5) g08 (by rw [f1]; exact w3) bD7 oD7 upd_same (RepL.append (RepL.mono fe8 rD7) (.cons (Rep.mono fe8 r7) .nil)) (by rw [f1]; exact el)
          · rw [ec]
            intro S5 e5 s5 g5
            subst e5
            rw [if_neg Bool.false_ne_true]
            have hS5 := g5.rel
            have g05 := g04.trans hS0 g5
            refine back S5 acc us s5 g05 w2 (g5.tr.bkeep D0 bD4 oD4) (fun z => (g5.tr.wnew D0 z).elim oD4 (hS4.alloc D0 bD4)) (g5.tr.keep D0 _ eD4 oD4 trivial) (RepL.mono (g5.fe hS4) rD4) el
        · have e : i = ds.length := by omega
          left
          refine ⟨y2 e, ?_⟩
          rw [e, List.drop_of_length_le (Nat.le_refl _)] at el
          cases el
          obtain ⟨rr, oo⟩ := go_rest (S1 := ⟨B, ρF, wipe S.σ vs, H⟩) hS1 cw hSi okρ hl1 hn1 feI
          have gF : Go X.K X.mg S1 ⟨B, rstE S1.ρ ρF vs, S1.σ, H⟩ := by
            refine ⟨rr, gi.tr.congr (fun a => (oi0 a).symm) oo, fun j r e1 e2 => ⟨rfl, ?_⟩, rfl⟩
            have hj : j ∉ vs := fun hj => by
              have z5 := okW_not cw hj e1
              cases r with
              | io xs => exact Bool.noConfusion (show true = false from z5)
              | _ => exact Bool.noConfusion (show false = true from e2)
            obtain ⟨_, q', a1, a2⟩ := gi.io j r (by show (wipeE S1.ρ vs)[j]? = _; rw [wipeE_ne hj]; exact e1) e2
            exact ⟨q', by show (rstE S1.ρ ρF vs)[j]? = _; rw [rstE_ne hj]; exact a1, a2⟩
          refine q1 ⟨B, rstE S1.ρ ρF vs, S1.σ, H⟩ rfl es (g1.trans hS gF) (.ref D0) ⟨D0, us, rfl, .inr ?_, bD, fun z => oD ((oo D0).mp z), eD, rD⟩
          cases w : S.H D0 with
          | none => rfl
          | some o => exact absurd hD (g1.tr.there D0 (by rw [w]; simp))
      · rw [if_neg cf] at q1; exact q1.elim
  · rw [if_neg cw] at q1; exact q1.elim
theorem re_lc {elt tg iter : Expr} {ifs : List Expr} {scope : Scope} {own : List (Str × Nat)} {fi : M (List D)} {ft : D → Env → Out} {fc : M Bool} {fe : M Vl} {g : TG} (hc : X.calm = true) (hN : X.N.Nodup) (hi : RI X tg iter fi) (ok : BlkOk X.N X.env.scope scope own)
    (hg : ∀ (s : Shared) (H : Hp) (C : Addr) (cl : List (Str × Addr)) (fp : List Addr), RG (X.blk s H scope (compEnvC scope cl C X.env) fp) tg g ft) (ht : ∀ (s : Shared) (H : Hp) (C : Addr) (cl : List (Str × Addr)) (fp : List Addr), RTs (X.blk s H scope (compEnvC scope cl C X.env) fp) ifs fc)
    (he : ∀ (s : Shared) (H : Hp) (C : Addr) (cl : List (Str × Addr)) (fp : List Addr), RE (X.blk s H scope (compEnvC scope cl C X.env) fp) elt fe) (hgo : GOnly g (own.map (·.2))) (hs : ∀ x, foldedSetIterable iter X.env x = pure x := by intro _; rfl) :
    RE X (.ListComp elt [⟨tg, iter, ifs, 0⟩] scope pos) (lcE (own.map (·.2)) fi ft fc fe) :=
  ⟨fun Wi tk => pe_imp (pe_lc (tt := TT_ X.K X.mg W0 fc) (te := TE_ X.K X.mg W0 fe) hc hN (hi.run Wi tk) ok (fun s H C cl fp => (hg s H C cl fp).pg) (fun s H C cl fp => (ht s H C cl fp).run W0 takes0) (fun s H C cl fp => (he s H C cl fp).run W0 takes0) hs) (lc_imp Wi hg hgo)⟩
/-- name = [..] on one line -/
theorem rs_setLc {i : Nat} {y : Str} {py spos : Pos} {elt tg iter : Expr} {ifs : List Expr} {scope : Scope} {own : List (Str × Nat)} {fi : M (List D)} {ft : D → Env → Out} {fc : M Bool} {fe : M Vl} {g : TG} (hc : X.calm = true) (hN : X.N.Nodup) (hy : X.N[i]? = some y) (hyl : X.env.scope.names.lookup y = some .local) (hi : RI X tg iter fi) (ok : BlkOk X.N X.env.scope scope own)
    (hg : ∀ (s : Shared) (H : Hp) (C : Addr) (cl : List (Str × Addr)) (fp : List Addr), RG (X.blk s H scope (compEnvC scope cl C X.env) fp) tg g ft) (ht : ∀ (s : Shared) (H : Hp) (C : Addr) (cl : List (Str × Addr)) (fp : List Addr), RTs (X.blk s H scope (compEnvC scope cl C X.env) fp) ifs fc)
    (he : ∀ (s : Shared) (H : Hp) (C : Addr) (cl : List (Str × Addr)) (fp : List Addr), RE (X.blk s H scope (compEnvC scope cl C X.env) fp) elt fe) (hgo : GOnly g (own.map (·.2))) (hsw : swapsWith (.ListComp elt [⟨tg, iter, ifs, 0⟩] scope pos) (some (.Name y py)) spos.line X.env = pure true := by rfl) (hs : ∀ x, foldedSetIterable iter X.env x = pure x := by intro _; rfl) :
    RS X (.Assign [.Name y py] (.ListComp elt [⟨tg, iter, ifs, 0⟩] scope pos) spos) (setS i (lcE (own.map (·.2)) fi ft fc fe)) := by
  refine ⟨fun Wi tk => ps_imp (ps_setLc (tt := TT_ X.K X.mg W0 fc) (te := TE_ X.K X.mg W0 fe) hc hN hy hyl hsw (hi.run Wi tk) ok (fun s H C cl fp => (hg s H C cl fp).pg) (fun s H C cl fp => (ht s H C cl fp).run W0 takes0) (fun s H C cl fp => (he s H C cl fp).run W0 takes0) hs) fun D σ H q => ?_⟩
  obtain ⟨S, hS, rfl, rfl, q⟩ := q
  refine lc_imp Wi hg hgo S.σ S.H (fun x H1 => gName i x S.σ H1 D.nx) ⟨S, hS, rfl, rfl, q.bnd fun a S1 es g1 _ q1 v rv => ?_⟩
  show D.nx (S.σ.set i (some v)) S1.H
  rw [← es]
  exact put_sat hS g1 rv q1
end
end KL
end

section
set_option Elab.async false
set_option linter.all false
set_option maxRecDepth 100000
namespace KL
open PySem L2
variable [Tabs]

/-! ### defs -/
def vaL (ds : List D) : Env := ds.map Sl.va
/-- how a def is entered: io: its first parameter is a borrowed list -/
def Entry (io : Bool) (ρ : Env) : Prop := if io = true then ∃ xs ds, ρ = .io xs :: vaL ds else ∃ ds, ρ = vaL ds
section
variable (K : PySem.W.Frag) (mg : MgT)
def spF (np : Nat) (io : Bool) (f : M Vl) : Sp := fun vs H Q E => vs.length = np ∧ ∃ S : Sx, S.rel K mg ∧ S.σ = vs.map some ∧ S.H = H ∧ Entry io S.ρ ∧ Sat K mg (fun c d _ H => E c d H) S (fun a S' => ∀ v, RepV K mg S S' a v → Q v S'.H) (f S.ρ)
end
/-- of the parameters' slots the borrowed lists alone are handed back -/
def cutE : Env → Env → Env
  | [], _ => []
  | q0 :: r0, [] => .un :: cutE r0 []
  | q0 :: r0, q :: r => (if (q0.isIo && q.isIo) = true then q else .un) :: cutE r0 r
/-- a def of m more names than parameters -/
def fnM (m : Nat) (b : SM) : M Vl := fun ρ => match b (ρ ++ List.replicate m .un) with
  | .nx ρ' => .ok (.fz .non) (cutE ρ ρ')
  | .rt a ρ' => .ok a (cutE ρ ρ')
  | .ex e ρ' => .ex e (cutE ρ ρ')
  | _ => .bad
section
variable {K : PySem.W.Frag} {mg : MgT}
theorem cutE_len : ∀ (r0 r : Env), (cutE r0 r).length = r0.length
  | [], _ => rfl
  | q0 :: r0, [] => by simp [cutE, cutE_len r0 []]
  | q0 :: r0, q :: r => by simp [cutE, cutE_len r0 r]
theorem cutE_at : ∀ {r0 r : Env} {i : Nat} {q : Sl}, (cutE r0 r)[i]? = some q → q = .un ∨ (∃ q0, r0[i]? = some q0 ∧ q0.isIo = true ∧ r[i]? = some q ∧ q.isIo = true)
  | [], _, i, q, h => by simp [cutE] at h
  | q0 :: r0, [], 0, q, h => by simp [cutE] at h; exact .inl h.symm
  | q0 :: r0, [], i + 1, q, h => by
    simp only [cutE, List.getElem?_cons_succ] at h
    rcases cutE_at h with h | ⟨_, _, _, h3, _⟩
    · exact .inl h
    · simp at h3
  | q0 :: r0, q1 :: r, 0, q, h => by
    simp only [cutE, List.getElem?_cons_zero, Option.some.injEq] at h
    by_cases c : (q0.isIo && q1.isIo) = true
    · rw [if_pos c] at h
      subst h
      simp only [Bool.and_eq_true] at c
      exact .inr ⟨q0, by simp, c.1, by simp, c.2⟩
    · rw [if_neg c] at h
      exact .inl h.symm
  | q0 :: r0, q1 :: r, i + 1, q, h => by
    simp only [cutE, List.getElem?_cons_succ] at h
    rcases cutE_at h with h | ⟨a, b, c, d, e⟩
    · exact .inl h
    · exact .inr ⟨a, by simpa using b, c, by simpa using d, e⟩
theorem cutE_io : ∀ {r0 r : Env} {i : Nat} {q0 q : Sl}, r0[i]? = some q0 → q0.isIo = true → r[i]? = some q → q.isIo = true → (cutE r0 r)[i]? = some q
  | [], _, i, q0, q, h, _, _, _ => by simp at h
  | p0 :: r0, [], i, q0, q, _, _, h, _ => by simp at h
  | p0 :: r0, p :: r, 0, q0, q, h1, h2, h3, h4 => by
    simp at h1 h3
    subst h1; subst h3
    simp [cutE, h2, h4]
  | p0 :: r0, p :: r, i + 1, q0, q, h1, h2, h3, h4 => by
    simp only [cutE, List.getElem?_cons_succ]
    exact cutE_io (by simpa using h1) h2 (by simpa using h3) h4
theorem io_mine {q : Sl} (h : q.isIo = true) : q.mine = true := by cases q <;> first | rfl | exact nomatch h
/-- back to the caller: the parameters' slots alone -/
theorem go_cut {S S1 : Sx} {Sb : Sx} {m : Nat} (hS : S.rel K mg) (hb1 : Sb.B = S.B) (hb2 : Sb.ρ = S.ρ ++ List.replicate m .un) (hb3 : Sb.σ = S.σ ++ List.replicate m none) (hb4 : Sb.H = S.H)
    (g : Go K mg Sb S1) : Go K mg S ⟨S1.B, cutE S.ρ S1.ρ, S.σ, S1.H⟩ ∧ ∀ a v, RepV K mg Sb S1 a v → RepV K mg S ⟨S1.B, cutE S.ρ S1.ρ, S.σ, S1.H⟩ a v := by
  have ownb : ∀ a, Own Sb.ρ Sb.σ a ↔ Own S.ρ S.σ a := fun a => by
    have hl := hS.len
    constructor
    · rintro ⟨i, ⟨q, e1, e2⟩, e3⟩
      rw [hb2] at e1
      rw [hb3] at e3
      by_cases hi : i < S.ρ.length
      · rw [List.getElem?_append_left hi] at e1
        rw [List.getElem?_append_left (by omega)] at e3
        exact ⟨i, ⟨q, e1, e2⟩, e3⟩
      · rw [List.getElem?_append_right (by omega), List.getElem?_replicate] at e1
        split at e1
        · cases e1; cases e2
        · cases e1
    · rintro ⟨i, ⟨q, e1, e2⟩, e3⟩
      have hi : i < S.ρ.length := (List.getElem?_eq_some_iff.mp e1).1
      refine ⟨i, ⟨q, ?_, e2⟩, ?_⟩
      · rw [hb2, List.getElem?_append_left hi]; exact e1
      · rw [hb3, List.getElem?_append_left (by omega)]; exact e3
  have low : ∀ {i : Nat} {q0 : Sl}, S.ρ[i]? = some q0 → Sb.ρ[i]? = some q0 ∧ Sb.σ[i]? = S.σ[i]? := fun {i q0} e => by
    have hi : i < S.ρ.length := (List.getElem?_eq_some_iff.mp e).1
    have hl := hS.len
    exact ⟨by rw [hb2, List.getElem?_append_left hi]; exact e, by rw [hb3, List.getElem?_append_left (by omega)]⟩
  have own : ∀ i a, OwnAt (cutE S.ρ S1.ρ) S.σ i a → OwnAt S1.ρ S1.σ i a := fun i a ⟨⟨q, e1, e2⟩, e3⟩ => by
    rcases cutE_at e1 with rfl | ⟨q0, h1, h2, h3, h4⟩
    · cases e2
    · obtain ⟨l1, l2⟩ := low h1
      obtain ⟨g1, _⟩ := g.io i q0 l1 h2
      exact ⟨⟨q, h3, e2⟩, by rw [g1, l2]; exact e3⟩
  have gg : Go K mg S ⟨S1.B, cutE S.ρ S1.ρ, S.σ, S1.H⟩ := by
    refine ⟨⟨by rw [cutE_len]; exact hS.len, fun i q e => ?_, fun i j a o1 o2 => g.rel.dist i j a (own i a o1) (own j a o2), g.rel.alloc, g.rel.tab⟩,
      ⟨fun a o z nw n => g.tr.keep a o (by rw [hb4]; exact z) (fun y => nw ((ownb a).mp y)) n, fun a z => g.tr.there a (by rw [hb4]; exact z), fun a z => (by have := g.tr.bnew a z; rw [hb1, hb4] at this; exact this), fun a ⟨i, z⟩ => (g.tr.wnew a ⟨i, own i a z⟩).imp (ownb a).mp (fun e => by rw [hb4] at e; exact e), fun a z nw => g.tr.bkeep a (by rw [hb1]; exact z) fun y => nw ((ownb a).mp y), fun a z nb => g.tr.tabs a (by rw [hb4]; exact z) (by rw [hb1]; exact nb)⟩, fun i q e1 e2 => ⟨rfl, ?_⟩, rfl⟩
    · have e : (cutE S.ρ S1.ρ)[i]? = some q := e
      rcases cutE_at e with rfl | ⟨q0, h1, h2, h3, h4⟩
      · trivial
      · obtain ⟨l1, l2⟩ := low h1
        obtain ⟨g1, _⟩ := g.io i q0 l1 h2
        have y := g.rel.sl i q h3
        rw [g1, l2] at y
        exact y
    · obtain ⟨l1, l2⟩ := low e1
      obtain ⟨_, q', g2, g3⟩ := g.io i q l1 e2
      exact ⟨q', cutE_io e1 e2 g2 g3, g3⟩
  refine ⟨gg, fun a v r => ?_⟩
  cases a with
  | fz d => exact r
  | fr xs =>
    obtain ⟨l, vs, e, z, hb, hw, hh, hr⟩ := r
    exact ⟨l, vs, e, z.imp (ownb l).mp (fun e => by rw [hb4] at e; exact e), hb, fun ⟨i, y⟩ => hw ⟨i, own i l y⟩, hh, hr⟩
end
/-- THE RULE: a def keeps the promise that its body's terms make -/
theorem fn_rule {P : Program} {w : World} {K : PySem.W.Frag} {mg : MgT} {base : Heap} {x qual : Str} {params : Arguments} {body : List Stmt} {scope : Scope} {dvs : List V} {kws : List (Str × V)} {f : Addr} {fd : FuncData} {N ps : List Str} {k : Nat} {io : Bool} {b : SM}
    (F : FunD K x qual params body scope dvs kws f fd) (Sc : FnScope N ps scope) (n : Nat) (hn : N.length = ps.length + n) (hb : ∀ (cdv : Value), fd.code = cdv → ∀ (A : Around) (outer : List PySem.Env) (s : Shared) (H : Hp) (E : XK), Room k (A.deeper (PyProof.Rows.envOfC qual scope s.heap.objs.size f cdv)) →
      RSs (cxOf (L2.CX P w) P w K mg base N qual scope f cdv A outer s H E) body b) : FnOk P w K mg base (L2.CX P w) (k + 1) f fd ps (spF K mg ps.length io (fnM n b)) := by
  obtain ⟨oc, od, dV, kV, doc, pm, an, cdv, ct, osl, rfl, lk, hcd, _, _⟩ := F.ex
  refine fn_of lk hcd Sc (fun vs H Q E h => h.1) fun A outer s H vs Q E hr hsp => ⟨_, (hb cdv rfl A outer s H E hr).run (fun c d _ H => E c d H) (takes_of rfl rfl rfl rfl), ?_⟩
  obtain ⟨hvl, S, hS, e1, e2, hE, q⟩ := hsp
  have hst : L2.start N vs = S.σ ++ List.replicate n none := by
    unfold L2.start
    rw [e1, hn, hvl, Nat.add_sub_cancel_left]
  have hl : S.ρ.length = S.σ.length := hS.len
  have hl2 : S.σ.length = vs.length := by rw [e1, List.length_map]
  let Sb : Sx := ⟨S.B, S.ρ ++ List.replicate n .un, S.σ ++ List.replicate n none, S.H⟩
  have hSb : Sb.rel K mg := by
    have low : ∀ {i : Nat} {q : Sl}, Sb.ρ[i]? = some q → q = .un ∨ (S.ρ[i]? = some q ∧ Sb.σ[i]? = S.σ[i]?) := fun {i q} e => by
      have e : (S.ρ ++ List.replicate n .un)[i]? = some q := e
      by_cases hi : i < S.ρ.length
      · rw [List.getElem?_append_left hi] at e
        exact .inr ⟨e, by show (S.σ ++ List.replicate n none)[i]? = _; rw [List.getElem?_append_left (by omega)]⟩
      · rw [List.getElem?_append_right (by omega), List.getElem?_replicate] at e
        split at e
        · exact .inl (Option.some.inj e).symm
        · cases e
    have own : ∀ i a, OwnAt Sb.ρ Sb.σ i a → OwnAt S.ρ S.σ i a := fun i a ⟨⟨q, e1, e2⟩, e3⟩ => by
      rcases low e1 with rfl | ⟨h1, h2⟩
      · cases e2
      · exact ⟨⟨q, h1, e2⟩, by rw [← h2]; exact e3⟩
    refine ⟨by simp [Sb, hl], fun i q e => ?_, fun i j a o1 o2 => hS.dist i j a (own i a o1) (own j a o2), hS.alloc, hS.tab⟩
    rcases low e with rfl | ⟨h1, h2⟩
    · trivial
    · rw [h2]; exact hS.sl i q h1
  refine ⟨Sb, hSb, hst.symm, e2, ?_⟩
  unfold fnM at q
  cases eb : b Sb.ρ with
  | bad => rw [show b (S.ρ ++ List.replicate n .un) = .bad from eb] at q; exact q
  | bk ρ' => rw [show b (S.ρ ++ List.replicate n .un) = .bk ρ' from eb] at q; exact q.elim
  | ct ρ' => rw [show b (S.ρ ++ List.replicate n .un) = .ct ρ' from eb] at q; exact q.elim
  | nx ρ' =>
    rw [show b (S.ρ ++ List.replicate n .un) = .nx ρ' from eb] at q
    intro S1 f1 g
    obtain ⟨gg, rr⟩ := go_cut (S := S) (Sb := Sb) hS rfl rfl rfl rfl g
    subst f1
    exact q ⟨S1.B, cutE S.ρ S1.ρ, S.σ, S1.H⟩ rfl rfl gg .non (rr (.fz .non) .non .non)
  | rt a ρ' =>
    rw [show b (S.ρ ++ List.replicate n .un) = .rt a ρ' from eb] at q
    intro S1 v f1 g rv
    obtain ⟨gg, rr⟩ := go_cut (S := S) (Sb := Sb) hS rfl rfl rfl rfl g
    subst f1
    exact q ⟨S1.B, cutE S.ρ S1.ρ, S.σ, S1.H⟩ rfl rfl gg v (rr a v rv)
  | ex e ρ' =>
    rw [show b (S.ρ ++ List.replicate n .un) = .ex e ρ' from eb] at q
    intro S1 cls dd f1 g rx
    obtain ⟨gg, rr⟩ := go_cut (S := S) (Sb := Sb) hS rfl rfl rfl rfl g
    subst f1
    exact q ⟨S1.B, cutE S.ρ S1.ρ, S.σ, S1.H⟩ cls dd rfl rfl gg rx
end KL
end

section
set_option Elab.async false
set_option linter.all false
set_option maxRecDepth 100000
namespace KL
open PySem L2
variable [Tabs]

/-! ### calls of defs -/
def back {α : Type} (r : R α) (ρ : Env) : R α := match r with
  | .ok a _ => .ok a ρ
  | .ex e _ => .ex e ρ
  | .bad => .bad
def callV (np : Nat) (f : M Vl) (dd : List D) (args : M (List Od)) : M Vl := fun ρ => bnd (args ρ) fun os ρ1 => match vals? os with
  | some ds => if (ds ++ dd).length = np then back (f (vaL (ds ++ dd))) ρ1 else .bad
  | none => .bad
/-- the first argument is a list of one's own, borrowed -/
def backI (i : Nat) (r : R Vl) (ρ : Env) : R Vl := match r with
  | .ok a (.io ys :: _) => (match ρ[i]? with
    | some q => .ok a (ρ.set i (q.upd ys))
    | none => .bad)
  | .ex e (.io ys :: _) => (match ρ[i]? with
    | some q => .ex e (ρ.set i (q.upd ys))
    | none => .bad)
  | _ => .bad
def callI (np : Nat) (f : M Vl) (dd : List D) (args : M (List Od)) : M Vl := fun ρ => bnd (args ρ) fun os ρ1 => match os with
  | .s i :: os' => match vals? os' with
    | some ds => match ρ1[i]? with
      | some q => match q.lst? with
        | some xs => if (ds ++ dd).length + 1 = np then backI i (f (.io xs :: vaL (ds ++ dd))) ρ1 else .bad
        | none => .bad
      | none => .bad
    | none => .bad
  | _ => .bad
section
variable {K : PySem.W.Frag} {mg : MgT} {S : Sx}
theorem vaL_at {ds : List D} {i : Nat} {q : Sl} (h : (vaL ds)[i]? = some q) : ∃ d, ds[i]? = some d ∧ q = .va d := by
  unfold vaL at h
  rw [List.getElem?_map] at h
  cases e : ds[i]? with
  | none => rw [e] at h; cases h
  | some d => rw [e] at h; exact ⟨d, rfl, (Option.some.inj h).symm⟩
/-- the callee's state at its entry -/
theorem entryV (h : S.rel K mg) {ds : List D} {vs : List V} (r : RepL K mg S.H S.B ds vs) : Sx.rel K mg ⟨S.B, vaL ds, vs.map some, S.H⟩ ∧ ∀ a, ¬ Own (vaL ds) (vs.map some) a := by
  have no : ∀ i a, ¬ OwnAt (vaL ds) (vs.map some) i a := fun i a ⟨⟨q, e1, e2⟩, _⟩ => by
    obtain ⟨d, _, rfl⟩ := vaL_at e1
    cases e2
  refine ⟨⟨by simp [vaL, r.length], fun i q e => ?_, fun i j a o _ => absurd o (no i a), h.alloc, h.tab⟩, fun a ⟨i, z⟩ => no i a z⟩
  obtain ⟨d, e1, rfl⟩ := vaL_at e
  obtain ⟨v, e2, rv⟩ := r.get e1
  exact ⟨v, by rw [List.getElem?_map, e2]; rfl, rv⟩
/-- behind a call that borrowed nothing -/
theorem go_back {S1 : Sx} {ds : List D} {vs : List V} (h : S.rel K mg) (no : ∀ a, ¬ Own (vaL ds) (vs.map some) a) (g : Go K mg ⟨S.B, vaL ds, vs.map some, S.H⟩ S1) : Go K mg S ⟨S1.B, S.ρ, S.σ, S1.H⟩ ∧ ∀ a v, RepV K mg ⟨S.B, vaL ds, vs.map some, S.H⟩ S1 a v → RepV K mg S ⟨S1.B, S.ρ, S.σ, S1.H⟩ a v := by
  have gg : Go K mg S ⟨S1.B, S.ρ, S.σ, S1.H⟩ := go_ext h (fun a o q n => g.tr.keep a o q (no a) n) g.tr.tabs (fun a z => g.tr.bkeep a z (no a)) g.tr.bnew g.rel.alloc g.tr.there
  refine ⟨gg, fun a v r => ?_⟩
  cases a with
  | fz d => exact r
  | fr xs =>
    obtain ⟨l, ws, e, z, hb, hw, hh, hr⟩ := r
    have z' : S.H l = none := z.resolve_left (no l)
    exact ⟨l, ws, e, .inr z', hb, fun o => h.alloc l (h.wb o) z', hh, hr⟩
/-- behind a call that borrowed the list of the slot i -/
theorem go_backI {S1 : Sx} {i : Nat} {q : Sl} {l : Addr} {xs ys : List D} {ds : List D} {vs : List V} {r : Env} (h : S.rel K mg) (e : S.ρ[i]? = some q) (e2 : q.lst? = some xs) (hl : S.σ[i]? = some (some (.ref l)))
    (g : Go K mg ⟨S.B, .io xs :: vaL ds, some (.ref l) :: vs.map some, S.H⟩ S1) (hσ : S1.σ = some (.ref l) :: vs.map some) (hρ : S1.ρ = .io ys :: r) :
    Go K mg S ⟨S1.B, S.ρ.set i (q.upd ys), S.σ, S1.H⟩ ∧ ∀ a v, RepV K mg ⟨S.B, .io xs :: vaL ds, some (.ref l) :: vs.map some, S.H⟩ S1 a v → RepV K mg S ⟨S1.B, S.ρ.set i (q.upd ys), S.σ, S1.H⟩ a v := by
  obtain ⟨l', ws, a1, a2, a3, hO, a5⟩ := own_at h e e2
  rw [hl] at a1
  cases a1
  have own0 : ∀ a, Own (.io xs :: vaL ds) (some (.ref l) :: vs.map some) a → a = l := fun a ⟨j, ⟨p, f1, f2⟩, f3⟩ => by
    cases j with
    | zero => exact (V.ref.inj (Option.some.inj (Option.some.inj f3))).symm
    | succ j =>
      obtain ⟨d, _, rfl⟩ := vaL_at (by simpa using f1)
      cases f2
  have hO1 : OwnAt S1.ρ S1.σ 0 l := ⟨⟨_, by rw [hρ]; rfl, rfl⟩, by rw [hσ]; rfl⟩
  have y := g.rel.sl 0 _ (show S1.ρ[0]? = some (.io ys) by rw [hρ]; rfl)
  rw [hσ] at y
  obtain ⟨l'', us', b1, b2, b3, b4⟩ := y
  have b1 : l = l'' := V.ref.inj (Option.some.inj b1)
  subst b1
  have hm : q.mine = true := by
    cases q <;> first | rfl | cases e2
  have um : (q.upd ys).mine = true := by cases q <;> first | rfl | exact hm
  have ui : (q.upd ys).isIo = q.isIo := by cases q <;> rfl
  have nb : ∀ a, ¬ S.B a → a ≠ l := fun a hb z => hb (by rw [z]; exact a5)
  have fe : FE S.B S.H S1.B S1.H := ⟨fun a o z hb n => g.tr.keep a o z (fun y => nb a hb (own0 a y)) n, g.tr.bnew, fun a z _ => g.tr.there a z⟩
  have own : ∀ j b, OwnAt (S.ρ.set i (q.upd ys)) S.σ j b → OwnAt S.ρ S.σ j b := fun j b ⟨⟨p, f1, f2⟩, f3⟩ => by
    rcases set_some f1 with ⟨rfl, rfl⟩ | ⟨_, f1⟩
    · exact ⟨⟨q, e, hm⟩, f3⟩
    · exact ⟨⟨p, f1, f2⟩, f3⟩
  have gg : Go K mg S ⟨S1.B, S.ρ.set i (q.upd ys), S.σ, S1.H⟩ := by
    refine ⟨⟨by show (S.ρ.set i _).length = _; rw [List.length_set]; exact h.len, fun j p f1 => ?_, fun j k b o1 o2 => h.dist j k b (own j b o1) (own k b o2), g.rel.alloc, g.rel.tab⟩,
      ⟨fun a o z nw n => g.tr.keep a o z (fun y => nw (by rw [own0 a y]; exact ⟨i, hO⟩)) n, g.tr.there, g.tr.bnew, fun a ⟨j, z⟩ => .inl ⟨j, own j a z⟩, fun a z nw => g.tr.bkeep a z fun y => nw (by rw [own0 a y]; exact ⟨i, hO⟩), g.tr.tabs⟩, fun j p f1 f2 => ⟨rfl, ?_⟩, rfl⟩
    · have f1 : (S.ρ.set i (q.upd ys))[j]? = some p := f1
      show SlR K mg S1.H S1.B p (S.σ[j]?.getD none)
      rcases set_some f1 with ⟨rfl, rfl⟩ | ⟨nj, f1⟩
      · rw [getD_of hl]
        cases q with
        | un => cases hm
        | va d => cases hm
        | ow zs => exact ⟨l, us', rfl, b2, b3, b4⟩
        | io zs => exact ⟨l, us', rfl, b2, b3, b4⟩
      · have y := h.sl j p f1
        have other : ∀ b, S.σ[j]?.getD none = some (.ref b) → p.mine = true → b ≠ l := fun b eb em z => by
          subst z
          exact nj (h.dist j i b ⟨⟨p, f1, em⟩, getD_some eb⟩ hO)
        cases p with
        | un => trivial
        | va d => obtain ⟨w, c1, c2⟩ := y; exact ⟨w, c1, Rep.mono fe c2⟩
        | ow zs => obtain ⟨b, vs', c1, c2, c3, c4⟩ := y; exact ⟨b, vs', c1, g.tr.bkeep b c2 (fun z => other b c1 rfl (own0 b z)), g.tr.keep b _ c3 (fun z => other b c1 rfl (own0 b z)) trivial, RepL.mono fe c4⟩
        | io zs => obtain ⟨b, vs', c1, c2, c3, c4⟩ := y; exact ⟨b, vs', c1, g.tr.bkeep b c2 (fun z => other b c1 rfl (own0 b z)), g.tr.keep b _ c3 (fun z => other b c1 rfl (own0 b z)) trivial, RepL.mono fe c4⟩
    · show ∃ q', (S.ρ.set i (q.upd ys))[j]? = some q' ∧ _
      by_cases c : j = i
      · subst c
        rw [e] at f1; cases f1
        exact ⟨q.upd ys, List.getElem?_set_self (List.getElem?_eq_some_iff.mp e).1, by rw [ui]; exact f2⟩
      · exact ⟨p, by rw [List.getElem?_set_ne (Ne.symm c)]; exact f1, f2⟩
  refine ⟨gg, fun a v rv => ?_⟩
  cases a with
  | fz d => exact rv
  | fr zs =>
    obtain ⟨m, ws', e', z, hb, hw, hh, hr⟩ := rv
    have ne : m ≠ l := fun c => hw (by rw [c]; exact ⟨0, hO1⟩)
    have z' : S.H m = none := z.resolve_left fun y => ne (own0 m y)
    exact ⟨m, ws', e', .inr z', hb, fun ⟨j, o⟩ => h.alloc m (h.wb ⟨j, own j m o⟩) z', hh, hr⟩
theorem entryI (h : S.rel K mg) {i : Nat} {q : Sl} {l : Addr} {xs : List D} {ds : List D} {vs : List V} (e : S.ρ[i]? = some q) (e2 : q.lst? = some xs) (hl : S.σ[i]? = some (some (.ref l))) (r : RepL K mg S.H S.B ds vs) :
    Sx.rel K mg ⟨S.B, .io xs :: vaL ds, some (.ref l) :: vs.map some, S.H⟩ := by
  obtain ⟨l', ws, a1, a2, a3, hO, a5⟩ := own_at h e e2
  rw [hl] at a1
  cases a1
  have z0 : ∀ j a, OwnAt (.io xs :: vaL ds) (some (.ref l) :: vs.map some) j a → j = 0 := fun j a ⟨⟨p, f1, f2⟩, f3⟩ => by
    cases j with
    | zero => rfl
    | succ j =>
      obtain ⟨d, _, rfl⟩ := vaL_at (by simpa using f1)
      cases f2
  refine ⟨by simp [vaL, r.length], fun j p f1 => ?_, fun j k a o1 o2 => by rw [z0 j a o1, z0 k a o2], h.alloc, h.tab⟩
  cases j with
  | zero =>
    have ep : p = .io xs := (Option.some.inj f1).symm
    subst ep
    exact ⟨l, ws, rfl, a5, a2, a3⟩
  | succ j =>
    obtain ⟨d, e1, rfl⟩ := vaL_at (by simpa using f1)
    obtain ⟨v, e3, rv⟩ := r.get e1
    exact ⟨v, by rw [List.getElem?_cons_succ, List.getElem?_map, e3]; rfl, rv⟩
end
/-- the defaults: data of one word -/
def Dfl (K : PySem.W.Frag) (mg : MgT) (dd : List D) (dvs : List V) : Prop := ∀ H B, RepL K mg H B dd dvs
section
variable {X : Cx} {k : Nat} {f : Addr} {fd : FuncData} {ps : List Str} {fm : M Vl} {np : Nat} {x : Str} {p pos : Pos} {e : Expr} {es : List Expr} {g : M (List Od)} {dd : List D} {dvs : List V} {ds : List Value}
/-- the call's result, as the caller sees it -/
theorem callV_sat {S : Sx} {Wi : WX} {Q : VK} {zs : List D} {vs : List V} (hS : S.rel X.K X.mg) (r : RepL X.K X.mg S.H S.B zs vs) (hn : vs.length = np)
    (q : Sat X.K X.mg Wi S (fun a S' => ∀ v, RepV X.K X.mg S S' a v → Q v S'.H) (back (fm (vaL zs)) S.ρ)) : spF X.K X.mg np false fm vs S.H Q (WE Wi S.σ) := by
  obtain ⟨hE, no⟩ := entryV hS r
  refine ⟨hn, _, hE, rfl, rfl, ⟨zs, rfl⟩, ?_⟩
  cases ef : fm (vaL zs) with
  | bad => rw [ef] at q; exact q
  | ok a ρ' =>
    rw [ef] at q
    intro S1 e1 e2 g1 v rv
    obtain ⟨gg, rr⟩ := go_back hS no g1
    exact q ⟨S1.B, S.ρ, S.σ, S1.H⟩ rfl rfl gg v (rr a v rv)
  | ex d ρ' =>
    rw [ef] at q
    intro S1 cls dd e1 e2 g1 rx
    obtain ⟨gg, rr⟩ := go_back hS no g1
    exact q ⟨S1.B, S.ρ, S.σ, S1.H⟩ cls dd rfl rfl gg rx
theorem re_call (F : FnOk X.prog X.w X.K X.mg X.base (L2.CX X.prog X.w) k f fd ps (spF X.K X.mg np false fm)) (hr : Room k X.A) (hg : Gl X x) (hm : X.mg x = some (.ref f)) (hk : PySem.W.keepIn X.K (.ref f) = true) (hb : Binds X.K fd ps ds) (hd : Vals dvs ds) (hD : Dfl X.K X.mg dd dvs)
    (ha : RA X (e :: es) g) (hdb : (x == ("__debug__" : Str)) = false := by decide) (he : starEach (e :: es) X.env = (false, eval e X.env) :: starEach es X.env := by rfl) (hpl : (backTo pos (starEach es X.env)).any (·.1) = false := by rfl) :
    RE X (.Call (.Name x p) (e :: es) [] pos) (callV np fm dd g) := by
  refine ⟨fun Wi tk => pe_imp (pe_callSD (E := fun σ => WE Wi σ) F hr hg hm hk hb hd (fun σ => passAt tk σ) (ha.run Wi tk) hdb he hpl) fun σ H Q q => ?_⟩
  obtain ⟨S, hS, rfl, rfl, q⟩ := q
  refine ⟨S, hS, rfl, rfl, q.bnd fun os S1 es1 g1 _ q1 vs rs => ?_⟩
  cases e1 : vals? os with
  | none => simp only [e1] at q1; exact q1.elim
  | some zs =>
    simp only [e1] at q1
    by_cases c : (zs ++ dd).length = np
    · rw [if_pos c] at q1
      have r := (vals_rep rs e1).append (hD S1.H S1.B)
      have q2 := callV_sat (np := np) g1.rel r (by rw [← r.length]; exact c) (q1.vfrom hS g1 es1)
      rw [← es1]
      exact q2
    · rw [if_neg c] at q1; exact q1.elim
theorem re_callI (F : FnOk X.prog X.w X.K X.mg X.base (L2.CX X.prog X.w) k f fd ps (spF X.K X.mg np true fm)) (hr : Room k X.A) (hg : Gl X x) (hm : X.mg x = some (.ref f)) (hk : PySem.W.keepIn X.K (.ref f) = true) (hb : Binds X.K fd ps ds) (hd : Vals dvs ds) (hD : Dfl X.K X.mg dd dvs)
    (ha : RA X (e :: es) g) (hdb : (x == ("__debug__" : Str)) = false := by decide) (he : starEach (e :: es) X.env = (false, eval e X.env) :: starEach es X.env := by rfl) (hpl : (backTo pos (starEach es X.env)).any (·.1) = false := by rfl) :
    RE X (.Call (.Name x p) (e :: es) [] pos) (callI np fm dd g) := by
  refine ⟨fun Wi tk => pe_imp (pe_callSD (E := fun σ => WE Wi σ) F hr hg hm hk hb hd (fun σ => passAt tk σ) (ha.run Wi tk) hdb he hpl) fun σ H Q q => ?_⟩
  obtain ⟨S, hS, rfl, rfl, q⟩ := q
  refine ⟨S, hS, rfl, rfl, q.bnd fun os S1 es1 g1 _ q1 vs rs => ?_⟩
  cases rs with
  | nil => exact q1.elim
  | @cons o os' v vs' r0 rs =>
    cases o with
    | v d => exact q1.elim
    | s i =>
      cases e1 : vals? os' with
      | none => simp only [e1] at q1; exact q1.elim
      | some zs =>
        cases e2 : S1.ρ[i]? with
        | none => simp only [e1, e2] at q1; exact q1.elim
        | some sl =>
          cases e3 : sl.lst? with
          | none => simp only [e1, e2, e3] at q1; exact q1.elim
          | some xs =>
            simp only [e1, e2, e3] at q1
            by_cases c : (zs ++ dd).length + 1 = np
            · rw [if_pos c] at q1
              have r := (vals_rep rs e1).append (hD S1.H S1.B)
              obtain ⟨l, ws, a1, a2, a3, hO, a5⟩ := own_at g1.rel e2 e3
              have hv : v = .ref l := by
                have r0' : S1.σ[i]? = some (some v) := r0
                rw [a1] at r0'
                exact (Option.some.inj (Option.some.inj r0')).symm
              subst hv
              have q2 := q1.vfrom hS g1 es1
              have hE := entryI g1.rel e2 e3 a1 r
              rw [← es1]
              show spF X.K X.mg np true fm (.ref l :: vs' ++ dvs) S1.H Q (WE Wi S1.σ)
              refine ⟨by rw [List.cons_append, List.length_cons, ← r.length]; exact c, _, hE, rfl, rfl, ⟨xs, _, rfl⟩, ?_⟩
              cases ef : fm (.io xs :: vaL (zs ++ dd)) with
              | bad => rw [ef] at q2; exact q2
              | ok a ρ' =>
                rw [ef] at q2
                match ρ', q2 with
                | [], q2 => exact q2.elim
                | .un :: _, q2 => exact q2.elim
                | .va _ :: _, q2 => exact q2.elim
                | .ow _ :: _, q2 => exact q2.elim
                | .io ys :: rr, q2 =>
                  simp only [backI, e2] at q2
                  intro S2 f1 f2 g2 v rv
                  obtain ⟨gg, tr⟩ := go_backI g1.rel e2 e3 a1 g2 f2 f1
                  exact q2 ⟨S2.B, S1.ρ.set i (sl.upd ys), S1.σ, S2.H⟩ rfl rfl gg v (tr a v rv)
              | ex d ρ' =>
                rw [ef] at q2
                match ρ', q2 with
                | [], q2 => exact q2.elim
                | .un :: _, q2 => exact q2.elim
                | .va _ :: _, q2 => exact q2.elim
                | .ow _ :: _, q2 => exact q2.elim
                | .io ys :: rr, q2 =>
                  simp only [backI, e2] at q2
                  intro S2 cls dd f1 f2 g2 rx
                  obtain ⟨gg, tr⟩ := go_backI g1.rel e2 e3 a1 g2 f2 f1
                  exact q2 ⟨S2.B, S1.ρ.set i (sl.upd ys), S1.σ, S2.H⟩ cls dd rfl rfl gg rx
            · rw [if_neg c] at q1; exact q1.elim
/-! ### keywords -/
structure RK (X : Cx) (kws : List Keyword) (f : M (List Od)) : Prop where
  run : ∀ Wi, Takes X Wi → PK X kws (TA_ X.K X.mg Wi f)
theorem pk_imp {kws : List Keyword} {t t' : TA} (h : PK X kws t) (k : ∀ σ H Q, t' σ H Q → t σ H Q) : PK X kws t' := ⟨fun pos pins s σ H Q I q => h.run pos pins s σ H Q I (k σ H Q q)⟩
theorem rk_nil : RK X [] aNil := by
  refine ⟨fun Wi tk => pk_imp pk_nil fun σ H Q q => ?_⟩
  obtain ⟨S, hS, rfl, rfl, q⟩ := q
  exact q S rfl rfl (Go.refl hS) [] .nil
theorem rk_cons {nm : Option Str} {kpos : Pos} {kws : List Keyword} {f : M Od} {g : M (List Od)} (ha : RO X e f) (hr : RK X kws g) : RK X (⟨nm, e, kpos⟩ :: kws) (aCons f g) := by
  refine ⟨fun Wi tk => pk_imp (pk_cons (ha.run Wi tk) (hr.run Wi tk)) fun σ H Q q => ?_⟩
  obtain ⟨S, hS, rfl, rfl, q⟩ := q
  refine ⟨S, hS, rfl, rfl, q.bnd fun a S1 es1 g1 _ q1 x rx => ?_⟩
  refine ⟨S1, g1.rel, es1, rfl, (q1.from hS es1 g1).bnd fun b S2 es2 g2 _ q2 ys ry => ?_⟩
  exact q2 S2 rfl (es2) (g2) (x :: ys) (.cons (rx.later g1.rel es2 g2) ry)
def callK (np n m : Nat) (f : M Vl) (gD : List D → List D → List D) (args kws : M (List Od)) : M Vl := fun ρ => bnd (args ρ) fun os ρ1 => bnd (kws ρ1) fun ks ρ2 => match vals? os with
  | some ds => (match vals? ks with
    | some zs => if ds.length = n ∧ zs.length = m ∧ (gD ds zs).length = np then back (f (vaL (gD ds zs))) ρ2 else .bad
    | none => .bad)
  | none => .bad
def tCallNS (n m : Nat) (sp : Sp) (gV : List V → List V → List V) (E : L2.St → XK) (t tk : TA) : TE := fun σ H Q => t σ H fun vs H1 => tk σ H1 fun zs H2 => vs.length = n ∧ zs.length = m ∧ sp (gV vs zs) H2 Q (E σ)
section
variable {CX : CXT} {n : Nat} {ks : List Str} {sp : Sp} {E : L2.St → XK} {kws : List Keyword} {t tk : TA} {gg : List Value → List Value → List Value} {gV : List V → List V → List V}
theorem run_fnNS {pins : List (Addr × Obj)} {σ : L2.St} {H : Hp} {s : Shared} {Q : VK} {us ws : List Value} {vs zs : List V} (F : FnOk X.prog X.w X.K X.mg X.base CX k f fd ps sp) (hr : Room k X.A) (hb : KBn X.K fd ps n ks gg gV) (hx : PassesAt CX X σ (E σ))
    (I : Inv X pins σ H s) (r : Vals vs us) (rz : Vals zs ws) (l1 : vs.length = n) (l2 : zs.length = ks.length) (h : sp (gV vs zs) H Q (E σ)) : wpAny (model X.prog X.w) X.A (call (.ref f) us (ks.zip ws)) (EP X pins σ Q) X.xe s := by
  have r2 := hb.rel r rz
  refine wpAny_call (codeAny_mono (F.run X.A X.stack s H ⟨us, ks.zip ws⟩ (gg us ws) (gV vs zs) Q (E σ) hr I.env0 (hb.to s us ws I.kIn (r.length.symm.trans l1) (rz.length.symm.trans l2)) r2 h) fun r s' hq => ?_)
  cases r with
  | error e => exact hx pins H s e s' I hq
  | ok fl =>
    cases fl with
    | ret u => exact I.after hq
    | next => exact False.elim hq
    | brk => exact False.elim hq
    | cont => exact False.elim hq
/-- f(e, .., k = v, ..), f(k = v, ..) -/
theorem pe_callNS {es : List Expr} (F : FnOk X.prog X.w X.K X.mg X.base CX k f fd ps sp) (hr : Room k X.A) (hg : Gl X x) (hm : X.mg x = some (.ref f)) (hk : PySem.W.keepIn X.K (.ref f) = true) (hb : KBn X.K fd ps n ks gg gV) (hx : ∀ σ, PassesAt CX X σ (E σ))
    (ha : PA X (e :: es) t) (hkw : PK X kws tk) (hall : (backToKw pos (keywordEach kws X.env)).all (·.1.isSome) = true := by rfl) (hks : (backToKw pos (keywordEach kws X.env)).filterMap (·.1) = ks := by rfl)
    (hdb : (x == ("__debug__" : Str)) = false := by decide) (he : starEach (e :: es) X.env = (false, eval e X.env) :: starEach es X.env := by rfl)
    (hpl : ((backTo pos (starEach (e :: es) X.env)).any (·.1) || (backToKw pos (keywordEach kws X.env)).any (·.1.isNone)) = false := by rfl) :
    PE X (.Call (.Name x p) (e :: es) kws pos) (tCallNS n ks.length sp gV E t tk) := by
  refine ⟨fun pins s σ H Q I h => ?_⟩
  refine wpAny_Call_Name_kw (ld_glob I hg hm ?_ hdb)
  refine PySem.W.callWith_KW (h₀ := X.base) I.ok.mod.kin hk hall (thn (ha.run pos pins s σ H _ I h) fun us s1 ⟨vs, H1, I1, r, q⟩ => ?_) hpl he
  refine thn (hkw.run pos pins s1 σ H1 _ I1 q) fun ws s2 ⟨zs, H2, I2, rz, l1, l2, q2⟩ => ⟨I2.kIn, ?_⟩
  rw [hks]
  exact run_fnNS F hr hb (hx σ) I2 r rz l1 l2 q2
theorem re_callK {es : List Expr} {m : Nat} {gk : M (List Od)} {gD : List D → List D → List D} (F : FnOk X.prog X.w X.K X.mg X.base (L2.CX X.prog X.w) k f fd ps (spF X.K X.mg np false fm)) (hr : Room k X.A) (hg : Gl X x) (hm : X.mg x = some (.ref f)) (hk : PySem.W.keepIn X.K (.ref f) = true) (hb : KBn X.K fd ps n ks gg gV)
    (hD : ∀ H B ds vs zs us, RepL X.K X.mg H B ds vs → RepL X.K X.mg H B zs us → ds.length = n → zs.length = ks.length → RepL X.K X.mg H B (gD ds zs) (gV vs us))
    (ha : RA X (e :: es) g) (hkw : RK X kws gk) (hml : m = ks.length := by rfl) (hall : (backToKw pos (keywordEach kws X.env)).all (·.1.isSome) = true := by rfl) (hks : (backToKw pos (keywordEach kws X.env)).filterMap (·.1) = ks := by rfl)
    (hdb : (x == ("__debug__" : Str)) = false := by decide) (he : starEach (e :: es) X.env = (false, eval e X.env) :: starEach es X.env := by rfl)
    (hpl : ((backTo pos (starEach (e :: es) X.env)).any (·.1) || (backToKw pos (keywordEach kws X.env)).any (·.1.isNone)) = false := by rfl) :
    RE X (.Call (.Name x p) (e :: es) kws pos) (callK np n m fm gD g gk) := by
  subst hml
  refine ⟨fun Wi tk => pe_imp (pe_callNS (E := fun σ => WE Wi σ) F hr hg hm hk hb (fun σ => passAt tk σ) (ha.run Wi tk) (hkw.run Wi tk) hall hks hdb he hpl) fun σ H Q q => ?_⟩
  obtain ⟨S, hS, rfl, rfl, q⟩ := q
  refine ⟨S, hS, rfl, rfl, q.bnd fun os S1 es1 g1 _ q1 vs rs => ?_⟩
  refine ⟨S1, g1.rel, es1, rfl, (q1.vfrom hS g1 es1).bnd fun kos S2 es2 g2 _ q2 us ru => ?_⟩
  have rs2 := rs.later g1.rel es2 g2
  cases e1 : vals? os with
  | none => simp only [e1] at q2; exact q2.elim
  | some ds =>
    cases e2 : vals? kos with
    | none => simp only [e1, e2] at q2; exact q2.elim
    | some zs =>
      simp only [e1, e2] at q2
      by_cases c : ds.length = n ∧ zs.length = ks.length ∧ (gD ds zs).length = np
      · rw [if_pos c] at q2
        have r1 := vals_rep rs2 e1
        have r2 := vals_rep ru e2
        have r := hD _ _ _ _ _ _ r1 r2 c.1 c.2.1
        have q3 := callV_sat (np := np) g2.rel r (by rw [← r.length]; exact c.2.2) (q2.vfrom g1.rel g2 es2)
        rw [← es1, ← es2]
        exact ⟨by rw [← r1.length]; exact c.1, by rw [← r2.length]; exact c.2.1, q3⟩
      · rw [if_neg c] at q2; exact q2.elim
end
end
end KL
end

section
set_option Elab.async false
set_option linter.all false
set_option maxRecDepth 100000
namespace KL
open PySem L2
variable [Tabs]

/-! ### raise -/
def raise0 (c : Str) : SM := fun ρ => .ex (.err c []) ρ
def raiseN (c : Str) (names : List Str) (dd : List D) (f : M (List Od)) : SM := fun ρ => bndS (f ρ) fun os ρ1 => match vals? os with
  | some ds => if (ds ++ dd).length = names.length ∧ names.length ≤ 900 then .ex (.err c (names.zip (ds ++ dd)).reverse) ρ1 else .bad
  | none => .bad
theorem RepF.append {K : PySem.W.Frag} {mg : MgT} {H : Hp} {B : Ad} : ∀ {fs gs : List (Str × D)} {us ws : List (Str × V)}, RepF K mg H B fs us → RepF K mg H B gs ws → RepF K mg H B (fs ++ gs) (us ++ ws)
  | _, _, _, _, .nil, s => s
  | _, _, _, _, .cons a b, s => .cons a (RepF.append b s)
theorem RepF.reverse {K : PySem.W.Frag} {mg : MgT} {H : Hp} {B : Ad} : ∀ {fs : List (Str × D)} {us : List (Str × V)}, RepF K mg H B fs us → RepF K mg H B fs.reverse us.reverse
  | _, _, .nil => .nil
  | _, _, .cons a b => by simp only [List.reverse_cons]; exact (RepF.reverse b).append (.cons a .nil)
theorem RepF.zip {K : PySem.W.Frag} {mg : MgT} {H : Hp} {B : Ad} : ∀ (names : List Str) {ds : List D} {vs : List V}, RepL K mg H B ds vs → RepF K mg H B (names.zip ds) (names.zip vs)
  | [], _, _, _ => .nil
  | _ :: _, _, _, .nil => .nil
  | n :: ns, _, _, .cons a b => .cons a (RepF.zip ns b)
/-- the promise of an exception's __init__ that stores its arguments -/
def spInit (C : Addr) (names : List Str) : Sp := fun vs H Q _ => vs.length = names.length + 1 ∧ ∃ a ws, vs = .ref a :: ws ∧ ws.length = names.length ∧ H a = some (exo a C none) ∧
  ∀ dx H', H dx = none → H' a = some (exo a C (some dx)) → H' dx = some (exd dx (names.zip ws).reverse) → (∀ b, b ≠ a → b ≠ dx → H' b = H b) → Q .non H'
section
variable {X : Cx} {pos pos' : Pos}
theorem rs_raise0 {c m : Str} {j : Nat} {p p2 : Pos} {C : Addr} {bmB : List Value} {B newId initId : String} (hc : X.calm = true) (F : ExcBaseFacts B newId initId bmB) (q : PySem.W.excIn X.K C bmB newId = true) (gC : X.mg c = some (.ref C)) (kC : PySem.W.keepIn X.K (.ref C) = true) (r : Raises X (.ref C)) (hg : Gl X c)
    (hdb : (c == ("__debug__" : Str)) = false := by decide) : RS X (.Raise (some (.Call (.Name c p) [.Constant (.str m) j p2] [] pos)) none pos') (raise0 c) := by
  refine ⟨fun Wi tk => ps_imp (ps_raise hc tk (pmk_own F q gC kC r hg hdb)) fun D σ H q => ?_⟩
  obtain ⟨S, hS, rfl, rfl, q⟩ := q
  exact q S (.ref C) none rfl (Go.refl hS) ⟨c, [], C, rfl, gC, rfl, .inl ⟨rfl, rfl⟩⟩
theorem rs_raiseN {c : Str} {p : Pos} {C fI : Addr} {k : Nat} {fd : FuncData} {ps names : List Str} {e : Expr} {es : List Expr} {ds : List Value} {dvs : List V} {dd : List D} {f : M (List Od)} (hc : X.calm = true) (T : OexC X.K C) (iC : PySem.W.findIn X.K (.ref C) "__init__" = some (some (.ref fI))) (tI : PySem.W.typeIn X.K (.ref fI) = some (.type "function"))
    (F1 : FnOk X.prog X.w X.K X.mg X.base CX0 k fI fd ps (spInit C names)) (hr : Room (k + 1) X.A) (hb : Binds X.K fd ps ds) (hd : Vals dvs ds) (hD : Dfl X.K X.mg dd dvs) (hg : Gl X c) (hm : X.mg c = some (.ref C)) (ha : RA X (e :: es) f)
    (hdb : (c == ("__debug__" : Str)) = false := by decide) (he : starEach (e :: es) X.env = (false, eval e X.env) :: starEach es X.env := by rfl) (hpl : (backTo pos (starEach es X.env)).any (·.1) = false := by rfl) :
    RS X (.Raise (some (.Call (.Name c p) (e :: es) [] pos)) none pos') (raiseN c names dd f) := by
  refine ⟨fun Wi tk => ps_imp (ps_raise hc tk (pmk_oex T iC tI F1 hr hb hd (fun _ _ _ _ _ _ _ h => h.elim) hg hm (ha.run Wi tk) hdb he hpl)) fun D σ H q => ?_⟩
  obtain ⟨S, hS, rfl, rfl, q⟩ := q
  refine ⟨S, hS, rfl, rfl, q.bnd fun os S1 es1 g1 _ q1 vs rs => ?_⟩
  cases e1 : vals? os with
  | none => simp only [e1] at q1; exact q1.elim
  | some zs =>
    simp only [e1] at q1
    by_cases cl : (zs ++ dd).length = names.length ∧ names.length ≤ 900
    · rw [if_pos cl] at q1
      have r0 := vals_rep rs e1
      have r := r0.append (hD S1.H S1.B)
      have hl : (vs ++ dvs).length = names.length := by rw [← r.length]; exact cl.1
      refine ⟨by rw [List.length_append] at hl; omega, fun a hna => ⟨by rw [List.length_cons, hl], a, vs ++ dvs, rfl, hl, upd_same, fun dx H' hdx h1 h2 h3 => ?_⟩⟩
      have ne : dx ≠ a := fun z => by rw [z, upd_same] at hdx; cases hdx
      have hdx1 : S1.H dx = none := by rw [upd_ne ne] at hdx; exact hdx
      refine ⟨rfl, dx, _, h1, h2, hdx1, ?_⟩
      -- the heap behind it
      have at_ : ∀ b, b ≠ dx → upd (del H' a) dx (.xd (names.zip (vs ++ dvs)).reverse) b = S1.H b := fun b hb => by
        rw [upd_ne hb]
        by_cases c : b = a
        · rw [c, del_same]; exact hna.symm
        · rw [del_ne c, h3 b c hb, upd_ne c]
      have nb : ¬ S1.B dx := fun z => g1.rel.alloc dx z hdx1
      have g2 : Go X.K X.mg S1 ⟨S1.B, S1.ρ, S1.σ, upd (del H' a) dx (.xd (names.zip (vs ++ dvs)).reverse)⟩ := go_extA g1.rel (fun b o q => by rw [at_ b (fun z => by rw [z, hdx1] at q; cases q)]; exact q) (fun b z => z) (fun b z => .inl z) (fun b z => by
        rw [at_ b (fun c => nb (by rw [← c]; exact z))]; exact g1.rel.alloc b z)
      have z := q1 ⟨S1.B, S1.ρ, S1.σ, upd (del H' a) dx (.xd (names.zip (vs ++ dvs)).reverse)⟩ (.ref C) (some dx) rfl (g1.trans hS g2)
        ⟨c, _, C, rfl, hm, rfl, .inr ⟨dx, _, rfl, nb, upd_same, RepF.reverse (RepF.zip names (RepL.mono (g2.fe g1.rel) r))⟩⟩
      rw [← es1]
      exact z
    · rw [if_neg cl] at q1; exact q1.elim
/-! an exception's __init__ of one field, of three -/
section
variable {P : Program} {w : World} {K : PySem.W.Frag} {mg : MgT} {base : Heap} {qual : Str} {params : Arguments} {scope : Scope} {dvs : List V} {kws : List (Str × V)} {f : Addr} {fd : FuncData} {C : Addr}
theorem init1 {f1 : Str} {p1 p2 p3 p4 : Pos} (F : FunD K "__init__" qual params [.Assign [.Attribute (.Name "self" p1) f1 p2] (.Name f1 p3) p4] scope dvs kws f fd) (Sc : FnScope ["self", f1] ["self", f1] scope) (T : OexC K C) (n1 : PySem.W.findIn K (.ref C) f1 = some none)
    (v0 : scope.names.lookup (("self" : Str)) = some .local) (v1 : scope.names.lookup f1 = some .local) (hd : (f1 == ("__debug__" : Str)) = false) (hcd : (f1 == ("__classdict__" : Str)) = false) (hs : ∀ env : PySem.Env, swapsWith (.Name f1 p3) (some (.Attribute (.Name "self" p1) f1 p2)) p4.line env = pure false) : FnOk P w K mg base CX0 1 f fd ["self", f1] (spInit C [f1]) := by
  refine F.ok Sc (fun vs H Q E h => h.1) fun cdv A outer s H vs Q E hr h => ?_
  obtain ⟨_, a, ws, rfl, hl, ea, q⟩ := h
  match ws, hl with
  | [v], _ =>
    refine ⟨_, PSs.nox (pss_one (ps_ost (pe_var (i := 0) rfl (.inl v0)) (pe_var (i := 1) rfl (.inl v1) hd hcd) (hs _))), ?_⟩
    refine ⟨v, rfl, .ref a, rfl, a, C, rfl, T, n1, .inl ⟨ea, fun dx hdx ne => ?_⟩⟩
    refine q dx _ hdx upd_same ?_ fun b h1 h2 => ?_
    · rw [upd_ne ne, upd_same]; rfl
    · rw [upd_ne h1, upd_ne h2]
theorem init3 {f1 f2 f3 : Str} {p1 p2 p3 p4 q1 q2 q3 q4 r1 r2 r3 r4 : Pos} (F : FunD K "__init__" qual params [.Assign [.Attribute (.Name "self" p1) f1 p2] (.Name f1 p3) p4, .Assign [.Attribute (.Name "self" q1) f2 q2] (.Name f2 q3) q4, .Assign [.Attribute (.Name "self" r1) f3 r2] (.Name f3 r3) r4] scope dvs kws f fd)
    (Sc : FnScope ["self", f1, f2, f3] ["self", f1, f2, f3] scope) (T : OexC K C) (n1 : PySem.W.findIn K (.ref C) f1 = some none) (n2 : PySem.W.findIn K (.ref C) f2 = some none) (n3 : PySem.W.findIn K (.ref C) f3 = some none)
    (v0 : scope.names.lookup (("self" : Str)) = some .local) (v1 : scope.names.lookup f1 = some .local) (v2 : scope.names.lookup f2 = some .local) (v3 : scope.names.lookup f3 = some .local) (hd : ∀ x ∈ [f1, f2, f3], (x == ("__debug__" : Str)) = false ∧ (x == ("__classdict__" : Str)) = false)
    (hs1 : ∀ env : PySem.Env, swapsWith (.Name f1 p3) (some (.Attribute (.Name "self" p1) f1 p2)) p4.line env = pure false) (hs2 : ∀ env : PySem.Env, swapsWith (.Name f2 q3) (some (.Attribute (.Name "self" q1) f2 q2)) q4.line env = pure false) (hs3 : ∀ env : PySem.Env, swapsWith (.Name f3 r3) (some (.Attribute (.Name "self" r1) f3 r2)) r4.line env = pure false) :
    FnOk P w K mg base CX0 1 f fd ["self", f1, f2, f3] (spInit C [f1, f2, f3]) := by
  refine F.ok Sc (fun vs H Q E h => h.1) fun cdv A outer s H vs Q E hr h => ?_
  obtain ⟨_, a, ws, rfl, hl, ea, q⟩ := h
  match ws, hl with
  | [u, v, y], _ =>
    refine ⟨_, PSs.nox (pss_cons (ps_ost (pe_var (i := 0) rfl (.inl v0)) (pe_var (i := 1) rfl (.inl v1) (hd f1 (by simp)).1 (hd f1 (by simp)).2) (hs1 _)) (pss_cons (ps_ost (pe_var (i := 0) rfl (.inl v0)) (pe_var (i := 2) rfl (.inl v2) (hd f2 (by simp)).1 (hd f2 (by simp)).2) (hs2 _))
      (pss_one (ps_ost (pe_var (i := 0) rfl (.inl v0)) (pe_var (i := 3) rfl (.inl v3) (hd f3 (by simp)).1 (hd f3 (by simp)).2) (hs3 _))))), ?_⟩
    refine ⟨u, rfl, .ref a, rfl, a, C, rfl, T, n1, .inl ⟨ea, fun dx hdx ne => ?_⟩⟩
    refine ⟨v, rfl, .ref a, rfl, a, C, rfl, T, n2, .inr ⟨dx, _, upd_same, (upd_ne ne).trans upd_same, by simp, ?_⟩⟩
    refine ⟨y, rfl, .ref a, rfl, a, C, rfl, T, n3, .inr ⟨dx, _, (upd_ne (Ne.symm ne)).trans upd_same, upd_same, by simp, ?_⟩⟩
    refine q dx _ hdx ?_ ?_ fun b h1 h2 => ?_
    · rw [upd_ne (Ne.symm ne), upd_ne (Ne.symm ne), upd_same]
    · rw [upd_same]; rfl
    · rw [upd_ne h2, upd_ne h2, upd_ne h1, upd_ne h2]
end
end
end KL
end

section
set_option Elab.async false
set_option linter.all false
set_option maxRecDepth 100000
namespace KL
open PySem L2
variable [Tabs]

/-! ### all(..) of a generator -/
def allL (vs : List Nat) (tg : D → Env → Out) (e : M Vl) : List D → Env → R Bool
  | [], ρ => .ok true ρ
  | d :: ds, ρ => match tg d ρ with
    | .nx ρ1 => match e ρ1 with
      | .ok (.fz (.bl b)) ρ2 => if b = true then (if okW ρ2 vs = true then allL vs tg e ds (wipeE ρ2 vs) else .bad) else .ok false ρ2
      | _ => .bad
    | _ => .bad
def allE (vs : List Nat) (it : M (List D)) (tg : D → Env → Out) (e : M Vl) : M Vl := fun ρ => bnd (it ρ) fun ds ρ1 => if okW ρ1 vs = true then (match allL vs tg e ds (wipeE ρ1 vs) with
  | .ok b ρ2 => if okW ρ2 vs = true then .ok (.fz (.bl b)) (rstE ρ1 ρ2 vs) else .bad
  | _ => .bad) else .bad
theorem allL_ok {vs : List Nat} {tg : D → Env → Out} {e : M Vl} {d : D} {ds : List D} {ρ : Env} {bF : Bool} {ρF : Env} (h : allL vs tg e (d :: ds) ρ = .ok bF ρF) :
    ∃ ρ1 ρ2 b, tg d ρ = .nx ρ1 ∧ e ρ1 = .ok (.fz (.bl b)) ρ2 ∧ ((b = true ∧ okW ρ2 vs = true ∧ allL vs tg e ds (wipeE ρ2 vs) = .ok bF ρF) ∨ (b = false ∧ bF = false ∧ ρF = ρ2)) := by
  unfold allL at h
  cases e1 : tg d ρ with
  | nx ρ1 =>
    simp only [e1] at h
    cases e2 : e ρ1 with
    | bad => simp only [e2] at h; cases h
    | ex _ _ => simp only [e2] at h; cases h
    | ok a ρ2 =>
      simp only [e2] at h
      cases a with
      | fr xs => cases h
      | fz d' =>
        cases d' with
        | bl b =>
          refine ⟨ρ1, ρ2, b, rfl, e2, ?_⟩
          cases b with
          | true =>
            by_cases cw : okW ρ2 vs = true
            · simp only [if_pos, cw] at h; exact .inl ⟨rfl, cw, h⟩
            · simp only [if_pos, if_neg cw] at h; cases h
          | false =>
            simp only [Bool.false_eq_true, if_false] at h
            cases h
            exact .inr ⟨rfl, rfl, rfl⟩
        | _ => cases h
  | _ => simp only [e1] at h; cases h
section
variable {X : Cx} {pos p gpos : Pos}
theorem re_all {c P : Addr} {elt tg iter : Expr} {scope : Scope} {own : List (Str × Nat)} {fi : M (List D)} {ft : D → Env → Out} {fe : M Vl} {g : TG} {k : Nat} (hP : Tabs.is P) (hc : X.calm = true) (hN : X.N.Nodup) (hr : Room k X.A) (hgl : Gl X "all") (hm : X.mg "all" = none) (TB : GxR.TabB X.base X.mg c P) (hcode : X.env.code = .ref c)
    (ok : BlkOk X.N X.env.scope scope own) (hcell : ∀ y ∈ scope.names, y.2 ≠ .cell) (hdot : scope.names.lookup (".0" : Str) = some NameKind.local) (hco : scope.isCoroutine = false) (hi : RI X tg iter fi)
    (hg : ∀ (s : Shared) (H : Hp) (C : Addr) (cd : Value) (fp : List Addr) (a : Addr) (ob : Obj), RG (genX X s H (genE X scope C cd) fp a ob) tg g ft) (he : ∀ (s : Shared) (H : Hp) (C : Addr) (cd : Value) (fp : List Addr) (a : Addr) (ob : Obj), RE (genX X s H (genE X scope C cd) fp a ob) elt fe) (hgo : GOnly g (own.map (·.2)))
    (hs : ∀ v, genFold iter X.env v = pure v := by intro _; rfl) (hst : starEach [.GeneratorExp elt [⟨tg, iter, [], 0⟩] scope gpos] X.env = (false, eval (.GeneratorExp elt [⟨tg, iter, [], 0⟩] scope gpos) X.env) :: starEach [] X.env := by rfl) :
    RE X (.Call (.Name "all" p) [.GeneratorExp elt [⟨tg, iter, [], 0⟩] scope gpos] [] pos) (allE (own.map (·.2)) fi ft fe) := by
  refine ⟨fun Wi tk => pe_imp (pe_allG (k := k) (te := TE_ X.K X.mg W0 fe) hc hN hr hgl hm TB hcode ok hcell hdot hco (hi.run Wi tk) (fun s H C cd fp a ob => (hg s H C cd fp a ob).pg) (fun s H C cd fp a ob => (he s H C cd fp a ob).run W0 takes0) (by rfl) hs hst) fun σ H Q q => ?_⟩
  have hgt : GTg X.K X.mg g ft ∧ ∀ d ρ, (∃ ρ', ft d ρ = .nx ρ') ∨ ft d ρ = .bad := by
    have z := hg X.s_0 X.H_0 0 .none [] 0 { cls := .none, data := .plain }
    exact ⟨z.gt, z.only⟩
  obtain ⟨hgt, honly⟩ := hgt
  generalize own.map (·.2) = vs at *
  obtain ⟨S, hS, rfl, rfl, q⟩ := q
  refine ⟨S, hS, rfl, rfl, q.bnd fun ds S1 es g1 _ q1 J hJ => ?_⟩
  have hS1 := g1.rel
  refine ⟨(hS1.tab P hP).1, fun H2 hT => ?_⟩
  by_cases cw : okW S1.ρ vs = true
  · rw [if_pos cw] at q1
    cases er : allL vs ft fe ds (wipeE S1.ρ vs) with
    | bad => simp only [er] at q1; exact q1.elim
    | ex _ _ => simp only [er] at q1; exact q1.elim
    | ok bF ρF =>
      simp only [er] at q1
      by_cases cf : okW ρF vs = true
      · rw [if_pos cf] at q1
        have hl1 : (wipe S.σ vs).length = S1.σ.length := by rw [wipe_length, es]
        have hn1 : ∀ j, j ∉ vs → (wipe S.σ vs)[j]? = S1.σ[j]? := fun j hj => by rw [wipe_ne hj, es]
        obtain ⟨ri0, oi0⟩ := go_wipe (σ' := wipe S.σ vs) hS1 cw hl1 hn1
        let S0 : Sx := ⟨S1.B, wipeE S1.ρ vs, wipe S.σ vs, S1.H⟩
        have hS0 : S0.rel X.K X.mg := ri0
        have nP : ¬ S1.B P := (hS1.tab P hP).2
        have gT : Go X.K X.mg S0 ⟨S1.B, wipeE S1.ρ vs, wipe S.σ vs, H2⟩ := by
          obtain ⟨t1, t2⟩ := hT
          have nn : ∀ a, S1.H a ≠ none → H2 a ≠ none := fun a z => by
            by_cases e : a = P
            · rw [e]; exact tab_there t1
            · rw [t2 a e]; exact z
          refine go_ext hS0 (fun a o z n => ?_) (fun a z _ => ?_) (fun a z => z) (fun a z => .inl z) (fun a z => nn a (hS1.alloc a z)) nn
          · by_cases e : a = P
            · obtain ⟨ps, z2, _⟩ := (hS1.tab P hP).1
              rw [e] at z
              rw [show S1.H P = some o from z] at z2
              cases z2; exact n.elim
            · rw [t2 a e]; exact z
          · by_cases e : a = P
            · rw [e]; exact t1
            · obtain ⟨ps, z1, z2⟩ := z
              exact ⟨ps, by rw [t2 a e]; exact z1, z2⟩
        -- the end, from a state in the block
        have fin : ∀ S5 : Sx, S5.ρ = ρF → S5.σ.length = S1.σ.length → (∀ j, j ∉ vs → S5.σ[j]? = S1.σ[j]?) → Go X.K X.mg S0 S5 → Q (.bl bF) S5.H := fun S5 e5 l5 n5 g5 => by
          subst e5
          have fe5 : FE S1.B S1.H S5.B S5.H := Go.fe (S := S0) hS0 g5
          obtain ⟨rr, oo⟩ := go_rest (S1 := S5) hS1 cw g5.rel cf l5 n5 fe5
          have gF : Go X.K X.mg S1 ⟨S5.B, rstE S1.ρ S5.ρ vs, S1.σ, S5.H⟩ := by
            refine ⟨rr, g5.tr.congr (fun a => (oi0 a).symm) oo, fun j r e1 e2 => ⟨rfl, ?_⟩, rfl⟩
            have hj : j ∉ vs := fun hj => by
              have z5 := okW_not cw hj e1
              cases r with
              | io xs => exact Bool.noConfusion (show true = false from z5)
              | _ => exact Bool.noConfusion (show false = true from e2)
            obtain ⟨_, q', a1, a2⟩ := g5.io j r (by show (wipeE S1.ρ vs)[j]? = _; rw [wipeE_ne hj]; exact e1) e2
            exact ⟨q', by show (rstE S1.ρ S5.ρ vs)[j]? = _; rw [rstE_ne hj]; exact a1, a2⟩
          exact q1 ⟨S5.B, rstE S1.ρ S5.ρ vs, S1.σ, S5.H⟩ rfl es (g1.trans hS gF) (.bl bF) (.bl bF)
        refine ⟨fun i m H => m = ds.length - i ∧ i ≤ ds.length ∧ ∃ (B : Ad) (ρ : Env), Go X.K X.mg S0 ⟨B, ρ, wipe S.σ vs, H⟩ ∧ okW ρ vs = true ∧ allL vs ft fe (ds.drop i) ρ = .ok bF ρF, ⟨ds.length, by simp, Nat.zero_le _, S1.B, wipeE S1.ρ vs, gT, okW_wipe, er⟩, ?_⟩
        rintro i m H ⟨rfl, hi', B, ρ, gi, okρ, el⟩
        have hSi := gi.rel
        obtain ⟨y1, y2⟩ := hJ B H (gi.fe hS0) i
        by_cases hlt : i < ds.length
        · right
          have e1 : ds[i]? = some ds[i] := List.getElem?_eq_getElem hlt
          obtain ⟨go, yl⟩ := y1 _ e1
          have e2 : ds.drop i = ds[i] :: ds.drop (i + 1) := List.drop_eq_getElem_cons hlt
          rw [e2] at el
          obtain ⟨ρ1, ρ2, b, et, ee, el⟩ := allL_ok el
          refine ⟨go, fun H' => ∃ (B : Ad) (ρ : Env), Go X.K X.mg S0 ⟨B, ρ, wipe S.σ vs, H'⟩ ∧ okW ρ vs = true ∧ allL vs ft fe (ds.drop (i + 1)) ρ = .ok bF ρF, fun H' z => ⟨ds.length - (i + 1), by omega, rfl, hlt, z⟩, fun x H3 y => ?_⟩
          obtain ⟨ext, rx⟩ := yl x H3 y
          have rx := rx hSi.alloc
          have al : ∀ a, B a → H3 a ≠ none := fun a z => by
            cases w : H a with
            | none => exact absurd w (hSi.alloc a z)
            | some o => rw [ext a o w]; simp
          have g3 : Go X.K X.mg ⟨B, ρ, wipe S.σ vs, H⟩ ⟨B, ρ, wipe S.σ vs, H3⟩ := go_extA hSi ext (fun a z => z) (fun a z => .inl z) al
          have g03 := gi.trans hS0 g3
          have key : g x (wipe S.σ vs) H3 fun σ2 H2 => ∃ S4 : Sx, S4.σ = σ2 ∧ S4.H = H2 ∧ S4.ρ = ρ1 ∧ Go X.K X.mg ⟨B, ρ, wipe S.σ vs, H3⟩ S4 :=
            hgt W0 ⟨B, ρ, wipe S.σ vs, H3⟩ ds[i] x { nx := fun σ2 H2 => ∃ S4 : Sx, S4.σ = σ2 ∧ S4.H = H2 ∧ S4.ρ = ρ1 ∧ Go X.K X.mg ⟨B, ρ, wipe S.σ vs, H3⟩ S4, rt := fun _ _ => False } g3.rel rx
              (by
                show SatS X.K X.mg W0 _ _ (ft ds[i] ρ)
                rw [et]
                exact fun S4 a1 a2 => ⟨S4, rfl, rfl, a1, a2⟩) ⟨ρ1, .inl et⟩
          have key := hgo.only x _ _ _ key
          refine hgo.mono x _ _ _ _ (fun σ2 H2 z => ?_) key
          obtain ⟨⟨S4, rfl, rfl, rfl, g4⟩, hl4, hn4⟩ := z
          have hl4' : S4.σ.length = (wipe S.σ vs).length := hl4
          have g04 := g03.trans hS0 g4
          refine ⟨wipe_ext (hl4.trans (wipe_length _ _)) (fun j hj => (hn4 j hj).trans (wipe_ne hj)), S4, g4.rel, rfl, rfl, ?_⟩
          rw [ee]
          intro S5 e5 s5 g5 v rv
          subst e5
          have hv : v = .bl b := by
            have rv : Rep X.K X.mg S5.H S5.B (.bl b) v := rv
            cases rv; rfl
          refine ⟨b, hv, ?_⟩
          have g05 := g04.trans hS0 g5
          rcases el with ⟨rfl, w2, el⟩ | ⟨rfl, rfl, e⟩
          · rw [if_pos rfl]
            obtain ⟨rr, oo⟩ := go_wipe (σ' := wipe S.σ vs) g05.rel w2 (by rw [s5, hl4']) (fun j hj => by rw [s5, hn4 j hj])
            refine ⟨S5.B, wipeE S5.ρ vs, ⟨rr, g05.tr.congr (fun _ => Iff.rfl) oo, fun j r e1 e2 => ⟨rfl, ?_⟩, rfl⟩, okW_wipe, el⟩
            obtain ⟨_, q', a1, a2⟩ := g05.io j r e1 e2
            have hj : j ∉ vs := fun hj => by
              have z5 := okW_not w2 hj a1
              cases q' with
              | io xs => exact Bool.noConfusion (show true = false from z5)
              | _ => exact Bool.noConfusion (show false = true from a2)
            exact ⟨q', by show (wipeE S5.ρ vs)[j]? = _; rw [wipeE_ne hj]; exact a1, a2⟩
          · rw [if_neg Bool.false_ne_true]
            exact fin S5 e.symm (by rw [s5, hl4', hl1]) (fun j hj => by rw [s5, hn4 j hj, hn1 j hj]) g05
        · have e : i = ds.length := by omega
          left
          refine ⟨y2 e, ?_⟩
          rw [e, List.drop_of_length_le (Nat.le_refl _)] at el
          unfold allL at el
          cases el
          exact fin ⟨B, ρF, wipe S.σ vs, H⟩ rfl hl1 hn1 gi
      · rw [if_neg cf] at q1; exact q1.elim
  · rw [if_neg cw] at q1; exact q1.elim
end
end KL
end

section
set_option Elab.async false
set_option linter.all false
set_option maxRecDepth 100000
namespace KL
open PySem PySem.Spec PyProof.Rows L2

/-! ### try: the exception's object is kept -/
section
variable {X : Cx} {pins : List (Addr × Obj)} {σ : L2.St} {H : Hp} {s : Shared}
/-- an object of after the entry, not tracked so far, is tracked from now on -/
theorem inv_track {a : Addr} {oe : Obj} {o : HO} (I : Inv X pins σ H s) (ha : s.heap.get? a = some oe) (na : H a = none) (n0 : X.s_0.heap.get? a = none) (nL : a ≠ X.env.locals) (nC : ∀ v, oe.data ≠ .cell v) (nP : ∀ p ∈ X.pn ++ pins, p.1 ≠ a)
    (new : ObjOk X.prog X.w (upd H a o) s.heap a o) : Inv X pins σ (upd H a o) s := by
  have old : ∀ {b u}, X.s_0.heap.get? b = some u → b ≠ a := fun {b u} e z => by rw [z, n0] at e; cases e
  have trk : ∀ {b u}, H b = some u → b ≠ a := fun {b u} e z => by rw [z, na] at e; cases e
  have up : ∀ {b : Addr}, b ≠ a → upd H a o b = H b := fun hb => upd_ne hb
  have cell : ∀ x c, X.env.cells.lookup x = some c → c ≠ a := fun x c e z => by
    obtain ⟨v, ob, e1, e2⟩ := I.cell x c e
    rw [z, ha] at e1; cases e1
    exact nC _ e2
  refine ⟨I.ok, I.os, I.bare, ⟨I.base.keep, I.base.slot, fun b u e n x => ?_, I.base.there, fun b xs e => ?_, fun b u xs e => ?_, fun b ps e => ?_⟩, I.loc, I.cell, ?_, fun x c e => ?_, fun p hp => ?_, fun b u e => ?_, I.len⟩
  · rw [up (old e)]; exact I.base.free b u e n x
  · have z := I.base.tups b xs e
    rw [up (trk z)]; exact z
  · have z := I.base.frzs b u xs e
    rw [up (trk z)]; exact z
  · obtain ⟨more, z⟩ := I.base.tbls b ps e
    exact ⟨more, by rw [up (trk z)]; exact z⟩
  · rw [up (Ne.symm nL)]; exact I.free
  · rw [up (cell x c e)]; exact I.freeC x c e
  · obtain ⟨e1, e2, e3⟩ := I.pin p hp
    exact ⟨e1, by rw [up (nP p hp)]; exact e2, e3⟩
  · by_cases hb : b = a
    · subst hb
      rw [upd_same] at e; cases e
      exact new
    · rw [up hb] at e
      exact (I.hok b u e).stay (fun c v _ q => q) (fun c q => by rw [up (trk q)]; exact q) fun c xs q => by rw [up (trk q)]; exact q
theorem errO_ok {P : Program} {w : World} {H' : Hp} {h : Heap} {a C : Addr} {d : Option Addr} {oe : Obj} (e : h.get? a = some oe) (z : Zc (.ref C) d oe) (hd : ∃ vs, oe.data = .fields vs) : ObjOk P w H' h a (errO C a d) := by
  obtain ⟨vs, hd⟩ := hd
  exact ⟨⟨oe, vs, e, z.1, z.2, hd⟩, ⟨oe, e⟩, fun h1 h2 ⟨o, v, q, r⟩ k => ⟨o, v, k o q, r⟩⟩
end
/-- behind the suite: the name is gone, the exception's object is known -/
def endT (a C : Addr) (d : Option Addr) (i : Nat) (D : Ends) : Ends where
  nx := fun σ' H' => D.nx (σ'.set i none) (upd H' a (errO C a d))
  rt := fun v H' => D.rt v (upd H' a (errO C a d))
  bk := fun σ' H' => D.bk (σ'.set i none) (upd H' a (errO C a d))
  ct := fun σ' H' => D.ct (σ'.set i none) (upd H' a (errO C a d))
def wTry (K : PySem.W.Frag) (c : Value) (i : Nat) (ts : TS) (Wout : WX) (D : Ends) : WX := fun cls d σ H =>
  ∃ b C, cls = .ref C ∧ PySem.W.exmOne K cls c = some b ∧ (b = true → ∀ a, H a = none → ts (endT a C d i D) (σ.set i (some (.ref a))) H) ∧ (b = false → Wout cls d σ H)
section
variable {X : Cx} {x n : Str} {c : Value} {i : Nat} {body suite : List Stmt} {b₀ : Stmt} {np pos pos' : Pos} {tb : WX → TS} {ts : TS} {Wout : WX}
theorem ps_tryK (hs : X.stack = X.env :: X.outer) (hf : X.env.frame = some X.env.locals) (hex : X.ex = []) (hN : X.N.Nodup) (hi : X.N[i]? = some n) (hln : X.env.kindOf n = some .local) (hc : Names X x c) (tk : Takes X Wout)
    (hb : ∀ (W : WX) (pn : List (Addr × Obj)) (xe : Value → Shared → Prop), Takes (X.tr pn xe) W → PassesOwn (model X.prog X.w) X.A X.env xe → PSs (X.tr pn xe) body (tb W))
    (hsu : ∀ (a : Addr) (pn : List (Addr × Obj)), PSs (X.suite a pn) (b₀ :: suite) ts) :
    PS X (.Try body [.ExceptHandler (some (.Name x np)) (some n) (b₀ :: suite) pos'] [] [] pos) (fun D σ H => tb (wTry X.K c i ts Wout D) D σ H) := by
  refine ⟨fun pins s σ H D I h => ?_⟩
  have ok := I.ok
  refine wpAny_Try_except (wpAny_mono ((hb (wTry X.K c i ts Wout D) (X.pn ++ pins) (fun e s₁ => wpAny (model X.prog X.w) X.A (noteFrame e X.env) (fun _ s₂ => wpAny (model X.prog X.w) X.A (setFlight e none) (fun _ s₃ =>
    wpAny (model X.prog X.w) X.A (handleBy e X.env [.ExceptHandler (some (.Name x np)) (some n) (b₀ :: suite) pos']) (SP X pins D) X.xe s₃) X.xe s₂) X.xe s₁) (fun u s' hx => ?_) PassesOwn.looking).run [] s σ H D (I.toTry _) h) (fun f s1 hsp => ?_) fun e s1 he => he)
  · -- an exception has come
    obtain ⟨a, B, sI, pins', σ', H', cls, d, rfl, J', nb, up, sky, na, os, ag, b, C, rfl, hb1, hyes, hno⟩ := hx
    have J : Inv X pins σ' H' sI := J'.ofTry ok
    rw [show (X.tr (X.pn ++ pins) _).stack = X.env :: X.outer from hs] at sky
    refine Sky.land (E₁ := X.xe) Zc.steady (show X.A.frames = some (X.env :: X.outer) by rw [ok.frames, hs]) hf sky fun h3 fl3 up3 => ?_
    have stay3 : Inv X pins σ' H' { s' with heap := h3 } := J.landed nb fl3.1 (up.trans up3) os ag
    obtain ⟨oe3, vs3, he3, hz3, hd3⟩ := fl3.there
    have nfr : a ∉ frs (X.env :: X.outer) := fun hm => by
      obtain ⟨_, o', e', hnf⟩ := fl3.2.2.1.mem hm
      rw [he3] at e'; cases e'
      exact hnf _ hd3
    have nL : a ≠ X.env.locals := fun z => nfr (List.mem_filterMap.mpr ⟨X.env, List.mem_cons_self, by rw [hf, z]⟩)
    have nF : a ∉ X.fs := fun hm => by
      obtain ⟨e, he, q⟩ := List.mem_filterMap.mp hm
      exact nfr (List.mem_filterMap.mpr ⟨e, List.mem_cons_of_mem _ he, q⟩)
    -- it is younger than the body's ground
    have nI : sI.heap.get? a = none := by
      cases e : sI.heap.get? a with
      | none => rfl
      | some o =>
        have z := nb a o e (by rw [show (X.tr (X.pn ++ pins) _).stack = X.env :: X.outer from hs]; exact nfr)
        rw [fl3.2.1] at z; cases z
    have n0 : X.s_0.heap.get? a = none := by
      cases e : X.s_0.heap.get? a with
      | none => rfl
      | some o =>
        obtain ⟨o', z⟩ := J.base.there a o e (by rw [hex]; simp)
        rw [nI] at z; cases z
    have nP : ∀ p ∈ X.pn ++ pins, p.1 ≠ a := fun p hp z => by
      have q := (J.pin p hp).1
      rw [z, nI] at q; cases q
    have S3 := stay3.suite he3 hd3 na nL nF
    refine wpAny_handleBy_cons (codeAny_handlers_test ?_) (by intro q; cases q)
    have LM := PySem.W.exm_one (M := model X.prog X.w) (stay3.kIn) (fun A Q E s k q => wpAny_typeOf_ref (k _ _ he3) (by rw [hz3.1]; exact q)) hb1
    have test : ∀ {Q : Value → Shared → Prop} {E : Value → Shared → Prop}, Q c { s' with heap := h3 } → wpAny (model X.prog X.w) (X.A.mark (some (.ref a))) (eval (.Name x np) X.env) Q E { s' with heap := h3 } := fun {Q E} q => by
      obtain ⟨hg, hdbg, hm | ⟨hm, hv, hnn⟩⟩ := hc
      · exact ld_glob (X := X.suite a ((a, oe3) :: (X.pn ++ pins))) S3 hg hm q hdbg
      · exact ld_blt (X := X.suite a ((a, oe3) :: (X.pn ++ pins))) S3 hg hm hv q hnn hdbg
    refine test (LM.here ?_)
    cases b with
    | true =>
      refine codeAny_handlers_suite_as (HandSPX.lands_againZ fl3 fun h4 fl4 up4 => ?_)
      obtain ⟨oe4, vs4, he4, hz4, hd4⟩ := fl4.there
      have S4 := (J.landed (s' := { s' with heap := h4 }) nb fl4.1 ((up.trans up3).trans up4) os ag : Inv X pins σ' H' { s' with heap := h4 }).suite he4 hd4 na nL nF
      refine store_ok (X := X.suite a ((a, oe4) :: (X.pn ++ pins))) (v := .ref a) S4 hN hi (.inl hln) rfl (fun s5 S5 => ?_) (.inr hln)
      refine wpAny_mono ((hsu a ((a, oe4) :: (X.pn ++ pins))).run [] s5 _ H' _ S5 (hyes rfl a na)) (fun f s6 hsp => ?_) fun _ _ z => z.elim
      have seen : ∀ {σ6 : L2.St} {H6 : Hp}, Inv (X.suite a ((a, oe4) :: (X.pn ++ pins))) [] σ6 H6 s6 → Inv X pins σ6 (upd H6 a (errO C a d)) s6 := fun {σ6 H6} S6 => by
        obtain ⟨e6, n6, _⟩ := S6.pin (a, oe4) (by simp)
        exact inv_track (S6.unsuite ok) e6 n6 n0 nL (fun v z => by rw [hd4] at z; cases z) nP (errO_ok e6 hz4 ⟨_, hd4⟩)
      cases f with
      | ret u =>
        obtain ⟨v6, σ6, H6, S6, r6, q6⟩ := hsp
        exact gone_ok (seen S6) hN hi hln fun s7 J7 => ⟨_, _, _, J7, r6, q6⟩
      | next =>
        obtain ⟨σ6, H6, S6, q6⟩ := hsp
        exact gone_ok (seen S6) hN hi hln fun s7 J7 => ⟨_, _, J7, q6⟩
      | brk =>
        obtain ⟨σ6, H6, S6, q6⟩ := hsp
        exact gone_ok (seen S6) hN hi hln fun s7 J7 => ⟨_, _, J7, q6⟩
      | cont =>
        obtain ⟨σ6, H6, S6, q6⟩ := hsp
        exact gone_ok (seen S6) hN hi hln fun s7 J7 => ⟨_, _, J7, q6⟩
    | false =>
      show wpAny _ X.A (handleBy (.ref a) X.env []) _ _ _
      refine wpAny_handleBy_nil ?_
      obtain ⟨_, _, _, oe, vs, T, oT, _, he, _, hd, h1, _⟩ := id fl3
      unfold PySem.passOn
      refine wpAny_bind (wpAny_field he hd h1 ?_)
      rw [if_neg (show ¬ ((Value.ref T == Value.none) = true) from by simp)]
      have out : wpAny (model X.prog X.w) X.A (setFlight (.ref a) X.env.frame) (fun _ s4 => wpAny (model X.prog X.w) X.A (throw (.ref a) : Sem Flow) (SP X pins D) X.xe s4) X.xe { s' with heap := h3 } := by
        rw [hf]
        exact HandSPX.setFlight_upZ fl3 fun h4 hh4 up4 => wpAny_throw (tk _ _ ⟨a, B, sI, pins, σ', H', .ref C, d, rfl, J, nb, (up.trans up3).trans up4, .inr (.inr (by rw [hs]; exact hh4)), na, os, ag, hno rfl⟩)
      first
        | exact wpAny_bind (wpAny_pure (wpAny_bind out))
        | exact wpAny_bind out
  · cases f with
    | ret u =>
      obtain ⟨v, σ', H', J', r, q⟩ := hsp
      exact ⟨v, σ', H', J'.ofTry ok, r, q⟩
    | next =>
      obtain ⟨σ', H', J', q⟩ := hsp
      exact wpAny_execs_nil ⟨σ', H', J'.ofTry ok, q⟩
    | brk =>
      obtain ⟨σ', H', J', q⟩ := hsp
      exact ⟨σ', H', J'.ofTry ok, q⟩
    | cont =>
      obtain ⟨σ', H', J', q⟩ := hsp
      exact ⟨σ', H', J'.ofTry ok, q⟩
end
end KL
end

section
set_option Elab.async false
set_option linter.all false
set_option maxRecDepth 100000
namespace KL
open PySem L2
variable [Tabs]

/-- try: body / except C as n: y = n; cat: does the clause take an exception of this class? -/
def tryS (cat : Str → Option Bool) (i j : Nat) (body : SM) : SM := fun ρ => match body ρ with
  | .ex (.err c fs) ρ1 => (match cat c with
    | some true => if (decide (i < ρ1.length) && (notIo ρ1 i && notIo (ρ1.set i .un) j)) = true then .nx ((ρ1.set i .un).set j (.va (.err c fs))) else .bad
    | some false => .ex (.err c fs) ρ1
    | none => .bad)
  | .ex _ _ => .bad
  | o => o
def CatOk (K : PySem.W.Frag) (mg : MgT) (c : Value) (cat : Str → Option Bool) : Prop := ∀ x C b, mg x = some (.ref C) → cat x = some b → PySem.W.exmOne K (.ref C) c = some b
section
variable {K : PySem.W.Frag} {mg : MgT} {S : Sx}
/-- a slot is forgotten -/
theorem go_un (h : S.rel K mg) {i : Nat} {o : Option V} (ni : notIo S.ρ i = true) : Go K mg S ⟨S.B, S.ρ.set i .un, S.σ.set i o, S.H⟩ := by
  have own : ∀ j b, OwnAt (S.ρ.set i .un) (S.σ.set i o) j b → OwnAt S.ρ S.σ j b := fun j b ⟨⟨r, e1, e2⟩, e3⟩ => by
    rcases set_some e1 with ⟨_, rfl⟩ | ⟨ne, f1⟩
    · cases e2
    · rw [List.getElem?_set_ne (Ne.symm ne)] at e3
      exact ⟨⟨r, f1, e2⟩, e3⟩
  refine ⟨⟨by show (S.ρ.set i .un).length = (S.σ.set i o).length; rw [List.length_set, List.length_set]; exact h.len, fun j r e => ?_, fun j k b o1 o2 => h.dist j k b (own j b o1) (own k b o2), h.alloc, h.tab⟩,
    ⟨fun _ _ z _ _ => z, fun _ z => z, fun _ z => .inl z, fun b ⟨j, z⟩ => .inl ⟨j, own j b z⟩, fun _ z _ => z, fun _ z _ => z⟩, fun j r e1 e2 => ?_, by show (S.σ.set i o).length = _; rw [List.length_set]⟩
  · have e : (S.ρ.set i .un)[j]? = some r := e
    rcases set_some e with ⟨_, rfl⟩ | ⟨ne, f1⟩
    · trivial
    · show SlR K mg S.H S.B r ((S.σ.set i o)[j]?.getD none)
      rw [List.getElem?_set_ne (Ne.symm ne)]
      exact h.sl j r f1
  · have ne : j ≠ i := fun z => by
      subst z
      unfold notIo at ni
      rw [e1] at ni
      cases r with
      | io xs => exact Bool.noConfusion ni
      | _ => exact nomatch e2
    exact ⟨List.getElem?_set_ne (Ne.symm ne), r, (List.getElem?_set_ne (Ne.symm ne)).trans e1, e2⟩
/-- an exception's object is known from now on -/
theorem go_exc (h : S.rel K mg) {a : Addr} {o : HO} (ha : S.H a = none) : Go K mg S ⟨S.B, S.ρ, S.σ, upd S.H a o⟩ :=
  go_extA h (ext_upd ha) (fun _ z => z) (fun _ z => .inl z) fun b z => by
    rw [upd_ne (fun e => h.alloc b z (by rw [e]; exact ha))]; exact h.alloc b z
theorem rep_exc (h : S.rel K mg) {c : Str} {fs : List (Str × D)} {C a : Addr} {dd : Option Addr} (rx : RepX K mg S (.err c fs) (.ref C) dd) (ha : S.H a = none) : Rep K mg (upd S.H a (errO C a dd)) S.B (.err c fs) (.ref a) := by
  have fe : FE S.B S.H S.B (upd S.H a (errO C a dd)) := fe_new ha
  obtain ⟨c', fs', C', e1, e2, e3, e4⟩ := rx
  cases e1
  cases e3
  have nb : ¬ S.B a := fun z => h.alloc a z ha
  rcases e4 with ⟨rfl, rfl⟩ | ⟨dx, gs, rfl, f2, f3, f4⟩
  · exact .err0 nb e2 upd_same
  · exact .err nb f2 e2 upd_same (ext_upd ha _ _ f3) (RepF.mono fe f4)
end
section
variable {X : Cx} {x n y : Str} {c : Value} {i j : Nat} {body : List Stmt} {np yp vp ap pos pos' : Pos} {fb : SM} {cat : Str → Option Bool}
theorem rs_try (hs : X.stack = X.env :: X.outer) (hf : X.env.frame = some X.env.locals) (hex : X.ex = []) (hN : X.N.Nodup) (hi : X.N[i]? = some n) (hj : X.N[j]? = some y) (hij : i ≠ j) (hln : X.env.kindOf n = some .local) (hly : Loc X.env.scope y) (hc : Names X x c) (hcat : CatOk X.K X.mg c cat)
    (hb : ∀ (pn : List (Addr × Obj)) (xe : Value → Shared → Prop), PassesOwn (model X.prog X.w) X.A X.env xe → RSs (X.tr pn xe) body fb) (hdn : (n == ("__debug__" : Str)) = false := by decide) (hcn : (n == ("__classdict__" : Str)) = false := by decide)
    (hfy : X.fn y = true ∨ X.env.scope.names.lookup y = some .local := by first | exact .inl rfl | exact .inr rfl | assumption) (hsw : swapsWith (.Name n vp) (some (.Name y yp)) ap.line X.env = pure false := by rfl) :
    RS X (.Try body [.ExceptHandler (some (.Name x np)) (some n) [.Assign [.Name y yp] (.Name n vp) ap] pos'] [] [] pos) (tryS cat i j fb) := by
  refine ⟨fun Wi tk => ps_imp (ps_tryK (tb := fun W => TS_ X.K X.mg W fb) (ts := fun D σ H => tVar i σ H fun v H' => D.nx (σ.set j (some v)) H') hs hf hex hN hi hln hc tk (fun W pn xe t p => (hb pn xe p).run W t) fun a pn => ?_) fun D σ H q => ?_⟩
  · exact pss_one (L2.ps_set (X := X.suite a pn) hN hj hly (pe_var hi (.inl hln) hdn hcn) hsw hfy)
  · obtain ⟨S, hS, rfl, rfl, q⟩ := q
    refine ⟨S, hS, rfl, rfl, ?_⟩
    unfold tryS at q
    cases e : fb S.ρ with
    | nx ρ => rw [e] at q; exact q
    | bad => rw [e] at q; exact q
    | bk ρ => rw [e] at q; exact q
    | ct ρ => rw [e] at q; exact q
    | rt a ρ => rw [e] at q; exact q
    | ex er ρ1 =>
      rw [e] at q
      cases er with
      | err cn fs =>
        intro S1 cls dd e1 g1 rx
        subst e1
        obtain ⟨c', fs', C, z1, z2, rfl, z4⟩ := id rx
        have z1 := KL.D.err.inj z1
        obtain ⟨rfl, rfl⟩ := z1
        cases ec : cat cn with
        | none => simp only [ec] at q; exact q.elim
        | some b =>
          refine ⟨b, C, rfl, hcat cn C b z2 ec, fun hb a ha => ?_, fun hb => ?_⟩
          · subst hb
            simp only [ec] at q
            by_cases cw : (decide (i < S1.ρ.length) && (notIo S1.ρ i && notIo (S1.ρ.set i .un) j)) = true
            · rw [if_pos cw] at q
              simp only [Bool.and_eq_true, decide_eq_true_eq] at cw
              obtain ⟨cl, cw⟩ := cw
              have il : i < S1.σ.length := by rw [← g1.rel.len]; exact cl
              refine ⟨.ref a, List.getElem?_set_self il, ?_⟩
              have g2 := g1.trans hS (go_exc (o := errO C a dd) g1.rel ha)
              have g3 := g2.trans hS (go_un (i := i) (o := none) g2.rel cw.1)
              have rv : RepV X.K X.mg S ⟨S1.B, S1.ρ.set i .un, S1.σ.set i none, upd S1.H a (errO C a dd)⟩ (.fz (.err cn fs)) (.ref a) := rep_exc g1.rel rx ha
              have g4 := go_put (a := .fz (.err cn fs)) hS g3 rv cw.2
              have key := q _ rfl g4
              show D.nx ((((S1.σ.set i (some (.ref a))).set j (some (.ref a)))).set i none) (upd S1.H a (errO C a dd))
              rw [show (((S1.σ.set i (some (.ref a))).set j (some (V.ref a)))).set i none = (S1.σ.set i none).set j (some (V.ref a)) by
                rw [List.set_comm _ _ (Ne.symm hij), List.set_set]]
              exact key
            · rw [if_neg cw] at q; exact q.elim
          · subst hb
            simp only [ec] at q
            exact q S1 (.ref C) dd rfl g1 rx
      | _ => exact q.elim
end
end KL
end

section
set_option Elab.async false
set_option linter.all false
set_option maxRecDepth 100000
namespace KL
open PySem L2
variable [Tabs]

/-! ### calls of built-in functions, by values -/
def callB (p : List D → Option Vl) (args : M (List Od)) : M Vl := fun ρ => bnd (args ρ) fun os ρ1 => appN p os ρ1
section
variable {X : Cx} {x : Str} {e : Expr} {es : List Expr} {q pos : Pos} {r : List V → Hp → VK → Prop} {p : List D → Option Vl} {f : M (List Od)}
theorem tcb {K : PySem.W.Frag} {mg : MgT} {Wi : WX} (hp : PN K mg r p) : ∀ σ H Q, TE_ K mg Wi (callB p f) σ H Q → tCB r (TA_ K mg Wi f) σ H Q := fun σ H Q z => by
  obtain ⟨S, hS, rfl, rfl, z⟩ := z
  refine ⟨S, hS, rfl, rfl, z.bnd fun os S1 es1 g1 _ q1 vs rs => ?_⟩
  exact satN hp g1.rel rs (q1.vfrom hS g1 es1)
theorem re_callB {id : String} (hc : CallR X (.builtin id) r) (hp : PN X.K X.mg r p) (hg : Gl X x) (hm : X.mg x = none) (ha : RA X (e :: es) f) (hv : bootBuiltins x = some (.builtin id) := by rfl) (hn : x ≠ "__name__" := by decide) (hdb : (x == ("__debug__" : Str)) = false := by decide)
    (he : starEach (e :: es) X.env = (false, eval e X.env) :: starEach es X.env := by rfl) (hpl : (backTo pos (starEach es X.env)).any (·.1) = false := by rfl) : RE X (.Call (.Name x q) (e :: es) [] pos) (callB p f) :=
  ⟨fun Wi tk => pe_imp (pe_callB hc hg hm hv (ha.run Wi tk) hn hdb he hpl) (tcb hp)⟩
theorem re_callTy {T : String} (hc : CallR X (.type T) r) (hp : PN X.K X.mg r p) (hg : Gl X x) (hm : X.mg x = none) (ha : RA X (e :: es) f) (hv : bootBuiltins x = some (.type T) := by rfl) (hn : x ≠ "__name__" := by decide) (hdb : (x == ("__debug__" : Str)) = false := by decide)
    (he : starEach (e :: es) X.env = (false, eval e X.env) :: starEach es X.env := by rfl) (hpl : (backTo pos (starEach es X.env)).any (·.1) = false := by rfl) : RE X (.Call (.Name x q) (e :: es) [] pos) (callB p f) :=
  ⟨fun Wi tk => pe_imp (pe_callTy hc hg hm hv (ha.run Wi tk) hn hdb he hpl) (tcb hp)⟩
end

/-! ### len, list, tuple -/
def lenP : List D → Option Vl
  | [.lst xs] => some (.fz (.int xs.length))
  | [.tup xs] => some (.fz (.int xs.length))
  | [.scr ns] => some (.fz (.int ns.length))
  | _ => none
def listP : List D → Option Vl
  | [.lst xs] => some (.fr xs)
  | [.tup xs] => some (.fr xs)
  | _ => none
def tupleP : List D → Option Vl
  | [.lst xs] => some (.fz (.tup xs))
  | [.tup xs] => some (.fz (.tup xs))
  | _ => none
def D.ints? : D → Option (List Int)
  | .lst xs => KL.ints? xs
  | .tup xs => KL.ints? xs
  | _ => none
def sumP : List D → Option Vl
  | [d] => match d.ints? with
    | some ns => some (.fz (.int ns.sum))
    | none => none
  | _ => none
/-- in order -/
def insI (i : Int) : List Int → List Int
  | [] => [i]
  | j :: r => if i ≤ j then i :: j :: r else j :: insI i r
def isortI : List Int → List Int
  | [] => []
  | i :: r => insI i (isortI r)
def sortP : List D → Option Vl
  | [.lst xs] => match ints? xs with
    | some ns => some (.fr ((isortI ns).map .int))
    | none => none
  | _ => none
def maxP2 : List D → Option Vl
  | [.int i, .int j] => some (.fz (.int (if j > i then j else i)))
  | _ => none
def minP2 : List D → Option Vl
  | [.int i, .int j] => some (.fz (.int (if j < i then j else i)))
  | _ => none
def maxI : Int → List Int → Int
  | m, [] => m
  | m, i :: r => maxI (if i > m then i else m) r
def minI : Int → List Int → Int
  | m, [] => m
  | m, i :: r => minI (if i < m then i else m) r
def maxP : List D → Option Vl
  | [.lst xs] => match ints? xs with
    | some (i :: r) => some (.fz (.int (maxI i r)))
    | _ => none
  | _ => none
def minP : List D → Option Vl
  | [.lst xs] => match ints? xs with
    | some (i :: r) => some (.fz (.int (minI i r)))
    | _ => none
  | _ => none
section
variable {K : PySem.W.Frag} {mg : MgT}
theorem p_len : PN K mg (fun xs H Q => ∃ x n, xs = [x] ∧ LenV K x H n ∧ Q (.int n) H) lenP := fun S ds vs a Q hS h o f => by
  match ds, h, o with
  | [.lst xs], h, .cons (v := v) o .nil =>
    cases h
    obtain ⟨b, ws, rfl, h1, r⟩ := o
    exact ⟨_, ws.length, rfl, .inl ⟨ws, .inl (.inl h1), rfl⟩, by rw [← r.length]; exact f.d hS (.int _)⟩
  | [.tup xs], h, .cons (v := v) o .nil =>
    cases h
    obtain ⟨b, ws, rfl, h1, r⟩ := Opn.tup o
    exact ⟨_, ws.length, rfl, .inr ⟨ws, h1, rfl⟩, by rw [← r.length]; exact f.d hS (.int _)⟩
  | [.scr ns], h, .cons (v := v) o .nil =>
    cases h
    have o : Rep K mg S.H S.B (.scr ns) v := o
    cases o with
    | scr hb h1 => exact ⟨_, ns.length, rfl, .inl ⟨_, .inl h1, by simp⟩, f.d hS (.int _)⟩
    | scrK h1 => exact ⟨_, ns.length, rfl, .inl ⟨_, h1 _, by simp⟩, f.d hS (.int _)⟩
theorem p_list : PN K mg (fun xs H Q => ∃ p ys, xs = [.ref p] ∧ (SqL K H p ys ∨ SqT K H p ys) ∧ ∀ l, H l = none → Q (.ref l) (upd H l (.lst ys))) listP := fun S ds vs a Q hS h o f => by
  match ds, h, o with
  | [.lst xs], h, .cons (v := v) o .nil =>
    cases h
    obtain ⟨b, ws, rfl, h1, r⟩ := o
    exact ⟨b, ws, rfl, .inl (.inl (.inl h1)), f.newL hS r⟩
  | [.tup xs], h, .cons (v := v) o .nil =>
    cases h
    obtain ⟨b, ws, rfl, h1, r⟩ := Opn.tup o
    exact ⟨b, ws, rfl, .inr h1, f.newL hS r⟩
theorem p_tuple : PN K mg (fun xs H Q => ∃ p ys, xs = [.ref p] ∧ ((SqL K H p ys ∧ ∀ l, H l = none → Q (.ref l) (upd H l (.tup ys))) ∨ (SqT K H p ys ∧ Q (.ref p) H))) tupleP := fun S ds vs a Q hS h o f => by
  match ds, h, o with
  | [.lst xs], h, .cons (v := v) o .nil =>
    cases h
    obtain ⟨b, ws, rfl, h1, r⟩ := o
    exact ⟨b, ws, rfl, .inl ⟨.inl (.inl h1), f.newT hS r⟩⟩
  | [.tup xs], h, .cons (v := v) o .nil =>
    cases h
    have o' : Rep K mg S.H S.B (.tup xs) v := o
    obtain ⟨b, ws, rfl, h1, r⟩ := Opn.tup o
    exact ⟨b, ws, rfl, .inr ⟨h1, f.d hS o'⟩⟩
theorem ints_of {S : Sx} {d : D} {ns : List Int} {v : V} (h : d.ints? = some ns) (o : Opn K mg S d v) : ∃ b, v = .ref b ∧ ((SqL K S.H b (ns.map V.int)) ∨ SqT K S.H b (ns.map V.int)) := by
  cases d with
  | lst xs =>
    have e := ints_map (show ints? xs = some ns from h)
    subst e
    obtain ⟨b, ws, rfl, h1, r⟩ := o
    rw [r.ints] at h1
    exact ⟨b, rfl, .inl (.inl (.inl h1))⟩
  | tup xs =>
    have e := ints_map (show ints? xs = some ns from h)
    subst e
    obtain ⟨b, ws, rfl, h1, r⟩ := Opn.tup o
    rw [r.ints] at h1
    exact ⟨b, rfl, .inr h1⟩
  | _ => cases h
/-- sum(xs) of ints, a list or a tuple -/
def rSumA (K : PySem.W.Frag) : List V → Hp → VK → Prop := fun vs H Q => ∃ (a : Addr) (ns : List Int), vs = [V.ref a] ∧ (SqL K H a (ns.map V.int) ∨ SqT K H a (ns.map V.int)) ∧ Q (.int ns.sum) H
theorem p_sum : PN K mg (rSumA K) sumP := fun S ds vs a Q hS h o f => by
  match ds, h, o with
  | [d], h, .cons (v := v) o .nil =>
    unfold sumP at h
    cases e : d.ints? with
    | none => simp only [e] at h; cases h
    | some ns =>
      simp only [e] at h
      cases h
      obtain ⟨b, rfl, z⟩ := ints_of e o
      exact ⟨b, ns, rfl, z, f.d hS (.int _)⟩
theorem isort_perm : ∀ ns : List Int, (isortI ns).Perm ns := by
  have ip : ∀ (i : Int) (r : List Int), (insI i r).Perm (i :: r) := fun i r => by
    induction r with
    | nil => exact List.Perm.refl _
    | cons j r ih =>
      unfold insI
      split
      · exact List.Perm.refl _
      · exact (List.Perm.cons j ih).trans (List.Perm.swap i j r)
  intro ns
  induction ns with
  | nil => exact List.Perm.refl _
  | cons i r ih => exact (ip i _).trans (List.Perm.cons i ih)
theorem isort_sorted : ∀ ns : List Int, (isortI ns).Pairwise (· ≤ ·) := by
  have ip : ∀ (i : Int) (r : List Int), r.Pairwise (· ≤ ·) → (insI i r).Pairwise (· ≤ ·) ∧ ∀ k ∈ insI i r, k = i ∨ k ∈ r := fun i r => by
    induction r with
    | nil => exact fun _ => ⟨by simp [insI], fun k hk => .inl (by simpa [insI] using hk)⟩
    | cons j r ih =>
      intro h
      unfold insI
      split
      · rename_i hij
        refine ⟨List.pairwise_cons.mpr ⟨fun k hk => ?_, h⟩, fun k hk => List.mem_cons.mp hk⟩
        rcases List.mem_cons.mp hk with rfl | hk
        · exact hij
        · exact Int.le_trans hij ((List.pairwise_cons.mp h).1 k hk)
      · rename_i hij
        obtain ⟨a1, a2⟩ := ih (List.pairwise_cons.mp h).2
        refine ⟨List.pairwise_cons.mpr ⟨fun k hk => ?_, a1⟩, fun k hk => ?_⟩
        · rcases a2 k hk with rfl | hk
          · omega
          · exact (List.pairwise_cons.mp h).1 k hk
        · rcases List.mem_cons.mp hk with rfl | hk
          · exact .inr (List.mem_cons_self ..)
          · exact (a2 k hk).imp id fun z => List.mem_cons_of_mem _ z
  intro ns
  induction ns with
  | nil => exact .nil
  | cons i r ih => exact (ip i _ ih).1
theorem sorted_unique : ∀ (a b : List Int), a.Perm b → a.Pairwise (· ≤ ·) → b.Pairwise (· ≤ ·) → a = b
  | [], b, p, _, _ => (List.nil_perm.mp p).symm
  | x :: a, [], p, _, _ => (List.perm_nil.mp p)
  | x :: a, y :: b, p, h1, h2 => by
    have hx : x ∈ y :: b := p.subset (List.mem_cons_self ..)
    have hy : y ∈ x :: a := p.symm.subset (List.mem_cons_self ..)
    have e : x = y := by
      rcases List.mem_cons.mp hx with e | hx
      · exact e
      · rcases List.mem_cons.mp hy with e | hy
        · exact e.symm
        · have z1 := (List.pairwise_cons.mp h1).1 y hy
          have z2 := (List.pairwise_cons.mp h2).1 x hx
          omega
    subst e
    rw [sorted_unique a b (List.Perm.cons_inv p) (List.pairwise_cons.mp h1).2 (List.pairwise_cons.mp h2).2]
theorem p_sort : PN K mg (rSortedI K) sortP := fun S ds vs a Q hS h o f => by
  match ds, h, o with
  | [.lst xs], h, .cons (v := v) o .nil =>
    unfold sortP at h
    cases e : ints? xs with
    | none => simp only [e] at h; cases h
    | some ns =>
      simp only [e] at h
      cases h
      obtain ⟨b, rfl, z⟩ := ints_of (d := .lst xs) e o
      rcases z with z | z
      · refine ⟨b, ns, rfl, z, fun ns' p h1 h2 hp => ?_⟩
        rw [sorted_unique ns' (isortI ns) (h1.trans (isort_perm ns).symm) h2 (isort_sorted ns)]
        exact f.newL hS (RepL.of_ints _) p hp
      · obtain ⟨b', ws, e1, h1, r⟩ := o
        cases e1
        rw [ints_map e] at r
        rw [r.ints] at h1
        refine ⟨b, ns, rfl, .inl (.inl h1), fun ns' p h1 h2 hp => ?_⟩
        rw [sorted_unique ns' (isortI ns) (h1.trans (isort_perm ns).symm) h2 (isort_sorted ns)]
        exact f.newL hS (RepL.of_ints _) p hp
theorem p_max2 : PN K mg (fun xs H Q => ∃ i j, xs = [.int i, .int j] ∧ Q (.int (if j > i then j else i)) H) maxP2 := fun S ds vs a Q hS h o f => by
  match ds, h, o with
  | [.int i, .int j], h, .cons o1 (.cons o2 .nil) =>
    cases h
    cases Opn.int o1; cases Opn.int o2
    exact ⟨i, j, rfl, f.d hS (.int _)⟩
theorem p_min2 : PN K mg (fun xs H Q => ∃ i j, xs = [.int i, .int j] ∧ Q (.int (if j < i then j else i)) H) minP2 := fun S ds vs a Q hS h o f => by
  match ds, h, o with
  | [.int i, .int j], h, .cons o1 (.cons o2 .nil) =>
    cases h
    cases Opn.int o1; cases Opn.int o2
    exact ⟨i, j, rfl, f.d hS (.int _)⟩
end
theorem preSum_of (ns : List Int) : ∀ j, j ≤ ns.length → preSum (fun i => ns.getD i 0) j = (ns.take j).sum
  | 0, _ => by simp [preSum]
  | j + 1, h => by
    have hl : j < ns.length := by omega
    have e : ns.getD j 0 = ns[j] := by rw [List.getD_eq_getElem?_getD, List.getElem?_eq_getElem hl]; rfl
    rw [preSum, preSum_of ns j (by omega), List.take_add_one, List.sum_append, List.getElem?_eq_getElem hl, e]
    show _ = _ + [ns[j]].sum
    rw [List.sum_cons, List.sum_nil, Int.add_zero]
/-- sum of a tuple's ints too -/
theorem cr_sumA {X : Cx} (hc : X.calm = true) : CallR X (.builtin "sum") (rSumA X.K) := by
  intro pins s σ H vs us Q I r h
  obtain ⟨a, ns, rfl, hs, q⟩ := h
  rcases hs with hs | hs
  · exact cr_sum hc pins s σ H [.ref a] us Q I r ⟨a, ns, rfl, hs, q⟩
  · obtain ⟨its, rv, ht, hz⟩ := I.tuple hs
    have hlt := ht.lt
    rw [Vals.ref1 r]
    refine call_sum_walkG (wpAny_pyIter_tuple (show s.heap.IsTuple a its.toArray from ht) ?_)
    have hi := intsAre_of rv
    have hv : ∀ (i : Nat) (v : Value), its.toArray[i]? = some v → ∃ t, v = Value.int (ns.getD i 0) t := fun i v e => by
      have e' : its[i]? = some v := by simpa using e
      cases en : ns[i]? with
      | none =>
        have : its[i]? = none := Vals.none_of rv (by rw [List.getElem?_map, en]; rfl)
        rw [e'] at this; cases this
      | some n =>
        obtain ⟨u, e1, r1⟩ := Vals.get rv (show (ns.map V.int)[i]? = some (V.int n) by rw [List.getElem?_map, en]; rfl)
        rw [e'] at e1; cases e1
        obtain ⟨t, rfl⟩ := r1
        exact ⟨t, by rw [List.getD_eq_getElem?_getD, en]; rfl⟩
    refine ⟨_, _, _, _, _, _, (fun i => ns.getD i 0), rfl, Walks.tuple (A := X.A.in1) (I.ok.hd hc) _ a (Nat.ne_of_lt hlt) its.toArray, ⟨⟨_, Heap.get?_push_size _ rfl, rfl, rfl⟩, ht.push _⟩, fun b hb => ?_, hv, fun h' tk t' hk => ?_⟩
    · show b < (s.heap.push _).objs.size
      rw [Heap.size_push]
      rcases List.mem_cons.mp hb with rfl | hb
      · exact Nat.lt_succ_self _
      · rcases List.mem_cons.mp hb with rfl | hb
        · exact Nat.lt_succ_of_lt hlt
        · cases hb
    · have el : its.toArray.size = ns.length := by rw [List.size_toArray, ← rv.length, List.length_map]
      have es : preSum (fun i => ns.getD i 0) its.toArray.size = ns.sum := by
        rw [el, preSum_of ns _ (Nat.le_refl _), List.take_of_length_le (Nat.le_refl _)]
      rw [es]
      refine ⟨.int _, H, I.kept fun b o eo => hk b o (fun hm => ?_) (Heap.get?_push_of_some _ eo), ⟨_, rfl⟩, q⟩
      rcases List.mem_cons.mp hm with e1 | hm
      · exact absurd (e1 ▸ Heap.lt_size eo) (Nat.lt_irrefl _)
      · cases hm
end KL
end

section
set_option Elab.async false
set_option linter.all false
set_option maxRecDepth 100000
namespace KL
open PySem L2
variable [Tabs]

/-! ### isinstance -/
def D.ty : D → String
  | .non => "NoneType" | .bl _ => "bool" | .int _ => "int" | .str _ => "str" | .lst _ => "list" | .tup _ => "tuple" | .scr _ => "list" | .err _ _ => ""
/-- kd: the answer by a built-in type's name; ke: by an own class's -/
def isiP (kd : String → Option Bool) (ke : Str → Option Bool) (d : D) : Option Vl := match d with
  | .err c _ => (ke c).map fun b => .fz (.bl b)
  | d => (kd d.ty).map fun b => .fz (.bl b)
/-- an exception's object, with a dict of its own or without one: its __class__ -/
theorem class_of_exc {prog : Program} {w : World} {A : Around} {E : Value → Shared → Prop} {s : Shared} {K : PySem.W.Frag} {x C : Addr} {ox : Obj} {od : Option Obj} {Q : Option Value → Shared → Prop} (c : ExcC K C) (Kin : K.In s.heap) (J : PySem.W.InstAt s.heap x ox C od)
    (q : Q (some (.ref C)) { s with toks := s.toks + 1 }) : wpAny (model prog w) A (getAttr? (.ref x) "__class__") Q E s := by
  obtain ⟨c1, c2, c3, c4, c5, c6, c7, c8⟩ := c
  have found : PySem.W.findObj K C od "__class__" = some (.bind (.builtin "getset_descriptor.__get__") (.builtin "object.__class__")) := by
    obtain ⟨cd, e, _⟩ := PySem.W.any_some c4
    unfold PySem.W.findObj
    rw [e, Option.bind_some, c5, Option.bind_some]
    simp [c6, c7]
  obtain ⟨hp, gn, dr, tk, os⟩ := s
  have T0 := J.type (M := model prog w)
  have T1 := PySem.W.looks_findIn (M := model prog w) Kin c1
  have T2 := PySem.W.looks_findIn (M := model prog w) Kin c2
  have T3 := PySem.W.looks_find (M := model prog w) Kin J found
  have isB : PySem.W.Looks (model prog w) hp (isInstance (.ref x) (.type "BaseException")) true := T0.andThen (PySem.W.looks_subIn Kin c3)
  have no : (Value.builtin "BaseException.__getattribute__" == Value.builtin "object.__getattribute__") = false := by decide +kernel
  have no2 : (onTheHeap (Value.ref C) && Value.builtin "BaseException.__getattribute__" == Value.builtin "object.__getattribute__") = false := by rw [no]; rfl
  unfold getAttr? getAttrBy? getAttrBy
  refine wpAny_bind (wpAny_mkText (wpAny_bind (wpAny_attempt (wpAny_holding (wpAny_bind (T0.at (wpAny_bind (T1.at ?_))))))))
  show wpAny _ _ (if (onTheHeap (Value.ref C) && Value.builtin "BaseException.__getattribute__" == Value.builtin "object.__getattribute__") = true then _ else _) _ _ _
  rw [no2, if_neg Bool.false_ne_true]
  unfold getAttrByItsOwn hookBefore
  refine wpAny_bind ?_
  rw [if_pos (show onTheHeap (Value.ref C) = true from rfl)]
  refine T2.at (wpAny_bind (wpAny_attempt (wpAny_holding ?_)))
  unfold callGetattribute
  rw [show (false && onTheHeap (Value.builtin "BaseException.__getattribute__")) = false from rfl, if_neg Bool.false_ne_true]
  unfold boundAndCalled
  rw [PySem.F.excAttr_ValueError.ga.bind (.ref x)]
  refine wpAny_bind (wpAny_pure ?_)
  show wpAny _ _ (call (.builtin "BaseException.__getattribute__") [.ref x, .str "__class__" tk]) _ _ _
  refine wpAny_call (codeAny_call_builtin PySem.F.excAttr_ValueError.ga.plain PySem.F.entry_bexc_ga ?_)
  refine @PySem.W.check_slot (model prog w) _ _ ⟨hp, gn, dr, tk + 1, os⟩ "BaseException.__getattribute__" "BaseException" "__getattribute__" (.ref x) [.str "__class__" tk] [] _ (by decide +kernel) (by decide +kernel) isB (PySem.F.args_bexc_ga (.ref x) (.str "__class__" tk)) ?_
  unfold Builtin.«object.__getattribute__»
  refine wpAny_bind (wpAny_of_eq (a := ((Value.ref x : Value), [Value.str "__class__" tk])) (by first | rfl | (simp only [slotArgs]; rfl)) ?_)
  refine wpAny_bind (wpAny_pure (wpAny_bind (T0.at (wpAny_bind (T3.at ?_)))))
  show wpAny _ _ (holding [Value.builtin "object.__class__"] (call (.builtin "getset_descriptor.__get__") [.builtin "object.__class__", .ref x, .ref C]) >>= ret) _ _ _
  refine wpAny_bind (wpAny_holding (wpAny_call (PySem.W.class_get (s := ⟨hp, gn, dr, tk + 1, os⟩) (ox := ox) (od := od) Kin J c8 (wpAny_pure ?_))))
  show wpAny _ _ (handedOut (.ref C)) _ _ _
  rw [PySem.W.handedOut_of (v := .ref C) rfl]
  first
    | exact wpAny_pure (wpAny_pure q)
    | exact wpAny_pure q
    | exact wpAny_pure (wpAny_bind (wpAny_pure (wpAny_pure q)))
theorem cls_obj {K : PySem.W.Frag} {C : Addr} (c : ExcC K C) : ∃ oc od cd sl, K.lookup C = some ⟨oc, od, .cls cd, sl⟩ := by
  obtain ⟨cd, e, _⟩ := PySem.W.any_some c.hd
  unfold PySem.W.clsIn at e
  split at e
  · rename_i a b c d h
    exact ⟨a, b, c, d, h⟩
  · cases e
theorem kitx_of_exc {K : PySem.W.Frag} {x C : Addr} {ox : Obj} {od : Option Obj} (c : ExcC K C) : PySem.W.KitX K (.ref x) (.ref C) (fun h => PySem.W.InstAt h x ox C od) where
  ty := fun _ _ _ J => J.type
  it := fun _ h Kin _ => by
    obtain ⟨oc, od', cd, sl, e⟩ := cls_obj c
    intro A' Q' E' s' k q
    unfold isType loadHead
    exact wpAny_bind (wpAny_loadPart (k _ _ (Kin _ _ e)) (wpAny_pure q))
  ne := fun h tp dd its n sl Kin htp => by
    obtain ⟨oc, od', cd, sl', e⟩ := cls_obj c
    refine Bool.eq_false_iff.mpr fun z => ?_
    have z := Value.ref.inj (beq_iff_eq.mp z)
    rw [← z] at htp
    have y := (Kin _ _ e).symm.trans htp
    cases y
  ca := fun Kin J q => class_of_exc c Kin J q
/-- a tracked exception -/
def rIsX (K : PySem.W.Frag) : List V → Hp → VK → Prop := fun xs H Q => ∃ (a C : Addr) (d : Option Addr) (c : V) (u : Value) (b : Bool), xs = [.ref a, c] ∧ ClsV c u ∧ H a = some (errO C a d) ∧ (∀ dx, d = some dx → ∃ gs, H dx = some (.xd gs)) ∧ ExcC K C ∧ PySem.W.kitOne K (.ref C) u = some b ∧ Q (.bl b) H
theorem call_isX {X : Cx} : CallR X (.builtin "isinstance") (rIsX X.K) := by
  intro pins s σ H xs us Q I r h
  obtain ⟨a, C, d, c, u, b, rfl, k, e, hd, cc, hk, q⟩ := h
  obtain ⟨u1, u2, rfl, r1, r2⟩ := vals2 r
  have e2 := k.eq r2
  subst e2
  cases (show u1 = Value.ref a from r1)
  obtain ⟨⟨oe, vs, g1, g2, g3, g4⟩, _, _⟩ := (show ObjOk X.prog X.w H s.heap a (errO C a d) from I.hok a _ e)
  have J : ∃ od, PySem.W.InstAt s.heap a oe C od := by
    have nc : PySem.W.notCls oe = true := by unfold PySem.W.notCls; rw [g4] <;> rfl
    cases d with
    | none => exact ⟨none, g1, g2, nc, by rw [g3]; trivial⟩
    | some dx =>
      obtain ⟨gs, eo⟩ := hd dx rfl
      obtain ⟨mA, ⟨ob, es, ep, z, _⟩, _⟩ := (show ObjOk X.prog X.w H s.heap dx (.xd gs) from I.hok dx _ eo)
      exact ⟨some ob, g1, g2, nc, by rw [g3]; exact z⟩
  obtain ⟨od, J⟩ := J
  exact PySem.W.kia_one (kitx_of_exc cc) I.kIn J hk (fun z => nomatch z) fun tk => ⟨.bl b, H, I.kept (t' := tk) fun _ _ z => z, rfl, q⟩
section
variable {K : PySem.W.Frag} {mg : MgT} {S : Sx}
/-- of what type a value of data is -/
theorem ty_of {d : D} {v : V} (o : Opn K mg S d v) (he : ∀ c fs, d ≠ .err c fs) : TyX K S.H v (.type d.ty) := by
  cases d with
  | non => cases Opn.non o; exact .base .non
  | bl b => cases Opn.bl o; exact .base (.bl b)
  | int i => cases Opn.int o; exact .base (.int i)
  | str x => cases Opn.str o; exact .base (.str x)
  | lst xs => obtain ⟨a, vs, rfl, h, _⟩ := o; exact .base (.lst h)
  | tup xs =>
    obtain ⟨a, vs, rfl, h, _⟩ := Opn.tup o
    rcases h with (h | ⟨o, h⟩) | ⟨o, its, n, h1, h2, _⟩
    · exact .base (.tup h)
    · exact .fTuple h
    · exact .kTuple h1 h2
  | scr ns =>
    have o : Rep K mg S.H S.B (.scr ns) v := o
    cases o with
    | scr hb h =>
      rcases h with h | ⟨o, h⟩
      · exact .base (.lst h)
      · exact .base (.frz h)
    | scrK h =>
      rcases h S.H with (h | ⟨o, h⟩) | ⟨o, its, n, h1, h2, _⟩
      · exact .base (.lst h)
      · exact .base (.frz h)
      · exact .kList h1 h2
  | err c fs => exact absurd rfl (he c fs)
end
section
variable {X : Cx} {e c : Expr} {f : M Od} {q pos : Pos} {cv : V} {u : Value} {kd : String → Option Bool} {ke : Str → Option Bool}
theorem re_isi (ha : RO X e f) (hc : PE X c (tC cv)) (k : ClsV cv u) (hkd : ∀ t b, kd t = some b → PySem.W.kitOne X.K (.type t) u = some b) (hke : ∀ x C b, X.mg x = some (.ref C) → ke x = some b → PySem.W.kitOne X.K (.ref C) u = some b ∧ ExcC X.K C) (hg : Gl X "isinstance") (hm : X.mg "isinstance" = none)
    (hs : starEach [e, c] X.env = (false, eval e X.env) :: starEach [c] X.env := by rfl) (hs2 : starEach [c] X.env = (false, eval c X.env) :: starEach [] X.env := by rfl) (hpl : (backTo pos (starEach [c] X.env)).any (·.1) = false := by rfl) :
    RE X (.Call (.Name "isinstance" q) [e, c] [] pos) (un1 (isiP kd ke) f) := by
  refine ⟨fun Wi tk => pe_imp (pe_callB (call_isi.or call_isX) hg hm (by rfl) (pa_cons (ha.run Wi tk) (pa_cons hc pa_nil hs2) hs) (by decide) (by decide) hs hpl) fun σ H Q z => ?_⟩
  obtain ⟨S, hS, rfl, rfl, z⟩ := z
  refine ⟨S, hS, rfl, rfl, z.bnd fun a S1 es1 g1 _ q1 x rx => ?_⟩
  have q2 := q1.vfrom hS g1 es1
  show rIsi X.K [x, cv] S1.H Q ∨ rIsX X.K [x, cv] S1.H Q
  unfold app1 ofO at q2
  cases e1 : a.get S1.ρ with
  | none => simp only [e1] at q2; exact q2.elim
  | some d =>
    have o := opn_of g1.rel rx e1
    have plain : (∀ c fs, d ≠ .err c fs) → isiP kd ke d = (kd d.ty).map (fun b => Vl.fz (.bl b)) → rIsi X.K [x, cv] S1.H Q := fun he ei => by
      simp only [e1, ei] at q2
      cases e2 : kd d.ty with
      | none => simp only [e2] at q2; exact q2.elim
      | some b =>
        simp only [e2, Option.map_some] at q2
        exact ⟨x, cv, _, u, b, rfl, k, ty_of o he, hkd _ _ e2, (fin_of q2).d g1.rel (.bl b)⟩
    cases d with
    | err c fs =>
      simp only [e1, isiP] at q2
      cases e2 : ke c with
      | none => simp only [e2] at q2; exact q2.elim
      | some b =>
        simp only [e2, Option.map_some] at q2
        have o : Rep X.K X.mg S1.H S1.B (.err c fs) x := o
        cases o with
        | err0 hb hc h =>
          obtain ⟨h1, h2⟩ := hke _ _ _ hc e2
          exact .inr ⟨_, _, none, cv, u, b, rfl, k, h, (fun _ z => by cases z), h2, h1, (fin_of q2).d g1.rel (.bl b)⟩
        | err hb hb2 hc h h2 r =>
          obtain ⟨z1, z2⟩ := hke _ _ _ hc e2
          exact .inr ⟨_, _, some _, cv, u, b, rfl, k, h, (fun _ z => by cases z; exact ⟨_, h2⟩), z2, z1, (fin_of q2).d g1.rel (.bl b)⟩
    | _ => exact .inl (plain (fun _ _ z => by cases z) rfl)
end
end KL
end

section
set_option Elab.async false
set_option linter.all false
set_option maxRecDepth 100000
namespace KL
open PySem PySem.Spec PyProof.Rows L2
variable [Tabs]

/-! ### sorted(xs, reverse=True), a list or a tuple of ints -/
def rSortRev (K : PySem.W.Frag) : List V → List V → Hp → VK → Prop := fun vs zs H Q => ∃ (a : Addr) (ns : List Int), vs = [V.ref a] ∧ zs = [.bl true] ∧ (SqL K H a (ns.map V.int) ∨ SqT K H a (ns.map V.int)) ∧
  ∀ (ns' : List Int) (p : Addr), ns'.Perm ns → ns'.Pairwise (· ≥ ·) → H p = none → Q (.ref p) (upd H p (.lst (ns'.map V.int)))
omit [Tabs] in
theorem sorted_tup {prog : Program} {w : World} {A : Around} {E : Value → Shared → Prop} {s : Shared} {t : Addr} {vs : List Value} {ns : List Int} {Q : Value → Shared → Prop} (ht : s.heap.IsTuple t vs.toArray) (hi : IntsAre vs ns) (hz : vs.length ≤ sizeLine)
    (h : ∀ (h' : Heap) (l : Addr) (out : List Value) (ns' : List Int) (e : Nat), (∀ b o, s.heap.get? b = some o → h'.get? b = some o) → s.heap.get? l = none → h'.get? l = some (seqObj "list" out.toArray e) → IntsAre out ns' → ns'.Perm ns → ns'.Pairwise (· ≥ ·) → Q (.ref l) { s with heap := h' }) :
    wpAny (model prog w) A (call (.builtin "sorted") [.ref t] [(Str.ofString "reverse", .bool true)]) Q E s := by
  refine call_function_entry_kw kind_sorted plain_sorted entry_sorted (PyProof.Rows.args_sorted_rev _ _) ?_
  unfold Builtin.«sorted»
  refine wpAny_bind (m := checkCount "sorted" 1 1 _) (wpAny_pure ?_)
  obtain ⟨o, ho, hc, n, hd⟩ := id ht
  refine wpAny_bind (wpAny_collect_seq t (.inr rfl) ho hc hd (fun h1 k1 => ?_) (by rw [List.size_toArray]; exact hz))
  refine wpAny_bind (wpAny_newList ?_ hz)
  have hl : (h1.push (seqObj "list" vs.toArray 0)).get? h1.objs.size = some (seqObj "list" vs.toArray 0) := Heap.get?_push_size _ rfl
  show wpAny _ _ _ _ _ { s with heap := h1.push (seqObj "list" vs.toArray 0) }
  refine wpAny_bind (wpAny_holding (wpAny_call_entry_kw slot_list_sort ⟨_, hl, rfl⟩ entry_list_sort ?_ (PyProof.Rows.args_list_sort_rev _ _)))
  refine SrtR.list_sort_ordR (b := true) (ltv := SrtO.ltIv) SrtO.swo_int hl hz (fun h2 => SrtO.ints_sortable hi h2) fun out hs hb => ⟨_, rfl, ?_⟩
  obtain ⟨ns', i1, i2, i3⟩ := SrtR.ints_outR (b := true) hi hs hb
  obtain ⟨e, he⟩ := sortedHeap_at (out := out.toArray.reverse) hl
  refine wpAny_pure ⟨_, rfl, h _ h1.objs.size _ ns' e (fun b u q => ?_) ?_ ?_ i1 i2 i3⟩
  · have q1 := k1 b u q
    have lt := Heap.lt_size q1
    exact (sortedHeap_old (Nat.ne_of_lt lt) (by rw [Heap.size_push]; exact Nat.lt_succ_of_lt lt)).trans (Heap.get?_push_of_some _ q1)
  · cases q : s.heap.get? h1.objs.size with
    | none => rfl
    | some u => exact absurd (Heap.lt_size (k1 _ _ q)) (Nat.lt_irrefl _)
  · show (sortedHeap (h1.push (seqObj "list" vs.toArray 0)) h1.objs.size vs out.toArray.reverse).get? h1.objs.size = some (seqObj "list" ((if true = true then out.toArray.reverse else out.toArray).toList).toArray e)
    rw [he, if_pos rfl, Array.toArray_toList]
theorem cr_sortRev {X : Cx} : CallRK X (.builtin "sorted") [Str.ofString "reverse"] (rSortRev X.K) := by
  intro pins s σ H vs zs us ws Q I r rz h
  obtain ⟨a, ns, rfl, rfl, hs, q⟩ := h
  rcases hs with hs | hs
  · exact cr_sortedRev (b := true) pins s σ H _ _ us ws Q I r rz ⟨a, ns, rfl, rfl, hs, fun ns' p h1 h2 h3 => q ns' p h1 (show ns'.Pairwise (· ≥ ·) from h2) h3⟩
  · obtain rfl := Vals.ref1 r
    obtain ⟨w1, rfl, e1⟩ := vals1 rz
    obtain rfl : w1 = Value.bool true := e1
    obtain ⟨its, rv, ht, hz⟩ := I.tuple hs
    have hi := intsAre_of rv
    refine sorted_tup (show s.heap.IsTuple a its.toArray from ht) hi (by rw [← rv.length]; exact hz) fun h' l out ns' e k n0 he i1 i2 i3 => ?_
    have hn : H l = none := I.hok.gone n0
    have hlen : (ns'.map V.int).length ≤ sizeLine := by
      rw [List.length_map, i2.length_eq]
      rw [List.length_map] at hz
      exact hz
    exact ⟨.ref l, upd H l (.lst (ns'.map V.int)), I.laidN (t' := s.toks) k n0 hn ⟨hlen, out, e, vals_of_ints i1, he⟩, rfl, q ns' l i2 i3 hn⟩
def sortRevP (d : D) : Option Vl := match d.ints? with
  | some ns => some (.fr ((isortI ns).reverse.map .int))
  | none => none
theorem rev_unique {a b : List Int} (p : a.Perm b) (h1 : a.Pairwise (· ≥ ·)) (h2 : b.Pairwise (· ≤ ·)) : a = b.reverse := by
  have z := sorted_unique a.reverse b ((List.reverse_perm a).trans p) (List.pairwise_reverse.mpr h1) h2
  rw [← z, List.reverse_reverse]
section
variable {X : Cx} {e : Expr} {f : M Od} {q pos kp bp : Pos} {k : Nat}
theorem re_sortRev (ha : RO X e f) (hg : Gl X "sorted") (hm : X.mg "sorted" = none) (he : backTo pos (starEach [e] X.env) = (false, eval e X.env) :: backTo pos (starEach [] X.env) := by rfl) (hpl : (backTo pos (starEach [e] X.env)).any (·.1) = false := by rfl)
    (hs : starEach [e] X.env = (false, eval e X.env) :: starEach [] X.env := by rfl) (hall : (backToKw pos (keywordEach [⟨some (Str.ofString "reverse"), .Constant (.bool true) k bp, kp⟩] X.env)).all (·.1.isSome) = true := by rfl)
    (hnone : (backToKw pos (keywordEach [⟨some (Str.ofString "reverse"), .Constant (.bool true) k bp, kp⟩] X.env)).any (·.1.isNone) = false := by rfl) (hks : (backToKw pos (keywordEach [⟨some (Str.ofString "reverse"), .Constant (.bool true) k bp, kp⟩] X.env)).filterMap (·.1) = [Str.ofString "reverse"] := by rfl) :
    RE X (.Call (.Name "sorted" q) [e] [⟨some (Str.ofString "reverse"), .Constant (.bool true) k bp, kp⟩] pos) (un1 sortRevP f) := by
  refine ⟨fun Wi tk => pe_imp (pe_callBK cr_sortRev hg hm (by rfl) (pa_cons (ha.run Wi tk) pa_nil hs) (pk_cons pe_bl pk_nil) (by decide) (by decide) he hpl hall hnone hks) fun σ H Q z => ?_⟩
  obtain ⟨S, hS, rfl, rfl, z⟩ := z
  refine ⟨S, hS, rfl, rfl, z.bnd fun a S1 es1 g1 _ q1 x rx => ?_⟩
  have q2 := q1.vfrom hS g1 es1
  show rSortRev X.K [x] [.bl true] S1.H Q
  unfold app1 ofO sortRevP at q2
  cases e1 : a.get S1.ρ with
  | none => simp only [e1] at q2; exact q2.elim
  | some d =>
    cases e2 : d.ints? with
    | none => simp only [e1, e2] at q2; exact q2.elim
    | some ns =>
      simp only [e1, e2] at q2
      obtain ⟨b, rfl, z⟩ := ints_of e2 (opn_of g1.rel rx e1)
      refine ⟨b, ns, rfl, rfl, z, fun ns' p h1 h2 hp => ?_⟩
      rw [rev_unique (h1.trans (isort_perm ns).symm) h2 (isort_sorted ns)]
      exact (fin_of q2).newL g1.rel (RepL.of_ints _) p hp
end

/-! ### max, min, any of a list -/
theorem maxI_ok : ∀ (r : List Int) (m : Int), maxI m r ∈ m :: r ∧ ∀ y ∈ m :: r, y ≤ maxI m r
  | [], m => ⟨by simp [maxI], fun y hy => by simp at hy; subst hy; exact Int.le_refl _⟩
  | i :: r, m => by
    obtain ⟨h1, h2⟩ := maxI_ok r (if i > m then i else m)
    unfold maxI
    refine ⟨?_, fun y hy => ?_⟩
    · rcases List.mem_cons.mp h1 with e | h1
      · rw [e]
        split
        · simp
        · simp
      · exact List.mem_cons_of_mem _ (List.mem_cons_of_mem _ h1)
    · have h3 := h2 _ (List.mem_cons_self ..)
      rcases List.mem_cons.mp hy with rfl | hy
      · exact Int.le_trans (by split <;> omega) h3
      · rcases List.mem_cons.mp hy with rfl | hy
        · exact Int.le_trans (by split <;> omega) h3
        · exact h2 y (List.mem_cons_of_mem _ hy)
theorem minI_ok : ∀ (r : List Int) (m : Int), minI m r ∈ m :: r ∧ ∀ y ∈ m :: r, minI m r ≤ y
  | [], m => ⟨by simp [minI], fun y hy => by simp at hy; subst hy; exact Int.le_refl _⟩
  | i :: r, m => by
    obtain ⟨h1, h2⟩ := minI_ok r (if i < m then i else m)
    unfold minI
    refine ⟨?_, fun y hy => ?_⟩
    · rcases List.mem_cons.mp h1 with e | h1
      · rw [e]
        split
        · simp
        · simp
      · exact List.mem_cons_of_mem _ (List.mem_cons_of_mem _ h1)
    · have h3 := h2 _ (List.mem_cons_self ..)
      rcases List.mem_cons.mp hy with rfl | hy
      · exact Int.le_trans h3 (by split <;> omega)
      · rcases List.mem_cons.mp hy with rfl | hy
        · exact Int.le_trans h3 (by split <;> omega)
        · exact h2 y (List.mem_cons_of_mem _ hy)
/-- max, min of a list or a tuple of ints -/
def rMaxA (K : PySem.W.Frag) : List V → Hp → VK → Prop := fun vs H Q => ∃ (a : Addr) (ns : List Int), vs = [V.ref a] ∧ (SqL K H a (ns.map V.int) ∨ SqT K H a (ns.map V.int)) ∧ 0 < ns.length ∧ ∀ m, m ∈ ns → (∀ y, y ∈ ns → y ≤ m) → Q (.int m) H
def rMinA (K : PySem.W.Frag) : List V → Hp → VK → Prop := fun vs H Q => ∃ (a : Addr) (ns : List Int), vs = [V.ref a] ∧ (SqL K H a (ns.map V.int) ∨ SqT K H a (ns.map V.int)) ∧ 0 < ns.length ∧ ∀ m, m ∈ ns → (∀ y, y ∈ ns → m ≤ y) → Q (.int m) H
omit [Tabs] in
theorem items_int {ns : List Int} {its : List Value} (rv : Vals (ns.map V.int) its) (i : Nat) (v : Value) (e : its.toArray[i]? = some v) : ∃ t, v = Value.int (ns.getD i 0) t := by
  have e' : its[i]? = some v := by simpa using e
  cases en : ns[i]? with
  | none =>
    have : its[i]? = none := Vals.none_of rv (by rw [List.getElem?_map, en]; rfl)
    rw [e'] at this; cases this
  | some n =>
    obtain ⟨u, e1, r1⟩ := Vals.get rv (show (ns.map V.int)[i]? = some (V.int n) by rw [List.getElem?_map, en]; rfl)
    rw [e'] at e1; cases e1
    obtain ⟨t, rfl⟩ := r1
    exact ⟨t, by rw [List.getD_eq_getElem?_getD, en]; rfl⟩
omit [Tabs] in
theorem getD_in {ns : List Int} {j : Nat} (h : j < ns.length) : ns.getD j 0 ∈ ns := by
  rw [List.getD_eq_getElem?_getD, List.getElem?_eq_getElem h]
  exact List.getElem_mem h
theorem cr_maxA {X : Cx} (hc : X.calm = true) : CallR X (.builtin "max") (rMaxA X.K) := by
  intro pins s σ H vs us Q I r h
  obtain ⟨a, ns, rfl, hs, hne, q⟩ := h
  rcases hs with hs | hs
  · exact cr_max hc pins s σ H [.ref a] us Q I r ⟨a, ns, rfl, hs, hne, q⟩
  · obtain ⟨its, rv, ht, hz⟩ := I.tuple hs
    have hlt := ht.lt
    rw [Vals.ref1 r]
    have el : its.toArray.size = ns.length := by rw [List.size_toArray, ← rv.length, List.length_map]
    refine call_max_walk (wpAny_pyIter_tuple (show s.heap.IsTuple a its.toArray from ht) ?_)
    refine ⟨_, _, _, _, _, _, _, rfl, Walks.tuple (A := X.A.in1) (I.ok.hd hc) _ a (Nat.ne_of_lt hlt) its.toArray, ⟨⟨_, Heap.get?_push_size _ rfl, rfl, rfl⟩, ht.push _⟩, fun b hb => ?_, by rw [el]; exact hne, CmpOf.ints_gt (fun i => ns.getD i 0) (fun i v e => items_int rv i v e), fun v h' tk hP hk => ?_⟩
    · show b < (s.heap.push _).objs.size
      rw [Heap.size_push]
      rcases List.mem_cons.mp hb with rfl | hb
      · exact Nat.lt_succ_self _
      · rcases List.mem_cons.mp hb with rfl | hb
        · exact Nat.lt_succ_of_lt hlt
        · cases hb
    · obtain ⟨t, rfl⟩ := items_int rv _ _ hP
      obtain ⟨h1, h2⟩ := argBest_gt (fun i => ns.getD i 0) (its.toArray.size - 1)
      refine ⟨.int _, H, I.kept fun b o eo => hk b o (fun hm => ?_) (Heap.get?_push_of_some _ eo), ⟨_, rfl⟩, q _ (getD_in (by omega)) fun y hy => ?_⟩
      · rcases List.mem_cons.mp hm with e1 | hm
        · exact absurd (e1 ▸ Heap.lt_size eo) (Nat.lt_irrefl _)
        · cases hm
      · obtain ⟨j, hj, e⟩ := List.getElem_of_mem hy
        have h3 := h2 j (by omega)
        rw [show y = ns.getD j 0 by rw [List.getD_eq_getElem?_getD, List.getElem?_eq_getElem hj]; exact e.symm]
        exact h3
theorem cr_minA {X : Cx} (hc : X.calm = true) : CallR X (.builtin "min") (rMinA X.K) := by
  intro pins s σ H vs us Q I r h
  obtain ⟨a, ns, rfl, hs, hne, q⟩ := h
  rcases hs with hs | hs
  · exact cr_min hc pins s σ H [.ref a] us Q I r ⟨a, ns, rfl, hs, hne, q⟩
  · obtain ⟨its, rv, ht, hz⟩ := I.tuple hs
    have hlt := ht.lt
    rw [Vals.ref1 r]
    have el : its.toArray.size = ns.length := by rw [List.size_toArray, ← rv.length, List.length_map]
    refine call_min_walk (wpAny_pyIter_tuple (show s.heap.IsTuple a its.toArray from ht) ?_)
    refine ⟨_, _, _, _, _, _, _, rfl, Walks.tuple (A := X.A.in1) (I.ok.hd hc) _ a (Nat.ne_of_lt hlt) its.toArray, ⟨⟨_, Heap.get?_push_size _ rfl, rfl, rfl⟩, ht.push _⟩, fun b hb => ?_, by rw [el]; exact hne, CmpOf.ints_lt (fun i => ns.getD i 0) (fun i v e => items_int rv i v e), fun v h' tk hP hk => ?_⟩
    · show b < (s.heap.push _).objs.size
      rw [Heap.size_push]
      rcases List.mem_cons.mp hb with rfl | hb
      · exact Nat.lt_succ_self _
      · rcases List.mem_cons.mp hb with rfl | hb
        · exact Nat.lt_succ_of_lt hlt
        · cases hb
    · obtain ⟨t, rfl⟩ := items_int rv _ _ hP
      obtain ⟨h1, h2⟩ := argBest_lt (fun i => ns.getD i 0) (its.toArray.size - 1)
      refine ⟨.int _, H, I.kept fun b o eo => hk b o (fun hm => ?_) (Heap.get?_push_of_some _ eo), ⟨_, rfl⟩, q _ (getD_in (by omega)) fun y hy => ?_⟩
      · rcases List.mem_cons.mp hm with e1 | hm
        · exact absurd (e1 ▸ Heap.lt_size eo) (Nat.lt_irrefl _)
        · cases hm
      · obtain ⟨j, hj, e⟩ := List.getElem_of_mem hy
        have h3 := h2 j (by omega)
        rw [show y = ns.getD j 0 by rw [List.getD_eq_getElem?_getD, List.getElem?_eq_getElem hj]; exact e.symm]
        exact h3
def maxA : List D → Option Vl
  | [d] => match d.ints? with
    | some (i :: r) => some (.fz (.int (maxI i r)))
    | _ => none
  | _ => none
def minA : List D → Option Vl
  | [d] => match d.ints? with
    | some (i :: r) => some (.fz (.int (minI i r)))
    | _ => none
  | _ => none
section
variable {K : PySem.W.Frag} {mg : MgT}
theorem p_max : PN K mg (rMaxA K) maxA := fun S ds vs a Q hS h o f => by
  match ds, h, o with
  | [d], h, .cons (v := v) o .nil =>
    unfold maxA at h
    cases e : d.ints? with
    | none => simp only [e] at h; cases h
    | some ns =>
     cases ns with
     | nil => simp only [e] at h; cases h
     | cons i r =>
      simp only [e] at h
      cases h
      obtain ⟨b, rfl, z⟩ := ints_of e o
      refine ⟨b, i :: r, rfl, z, by simp, fun m h2 h3 => ?_⟩
      obtain ⟨k1, k2⟩ := maxI_ok r i
      rw [show m = maxI i r from Int.le_antisymm (k2 m h2) (h3 _ k1)]
      exact f.d hS (.int _)
theorem p_min : PN K mg (rMinA K) minA := fun S ds vs a Q hS h o f => by
  match ds, h, o with
  | [d], h, .cons (v := v) o .nil =>
    unfold minA at h
    cases e : d.ints? with
    | none => simp only [e] at h; cases h
    | some ns =>
     cases ns with
     | nil => simp only [e] at h; cases h
     | cons i r =>
      simp only [e] at h
      cases h
      obtain ⟨b, rfl, z⟩ := ints_of e o
      refine ⟨b, i :: r, rfl, z, by simp, fun m h2 h3 => ?_⟩
      obtain ⟨k1, k2⟩ := minI_ok r i
      rw [show m = minI i r from Int.le_antisymm (h3 _ k1) (k2 m h2)]
      exact f.d hS (.int _)
def bls? : List D → Option (List Bool)
  | [] => some []
  | .bl b :: r => match bls? r with
    | some bs => some (b :: bs)
    | none => none
  | _ :: _ => none
theorem bls_map : ∀ {xs : List D} {bs : List Bool}, bls? xs = some bs → xs = bs.map .bl
  | [], _, h => by cases h; rfl
  | .bl b :: r, bs, h => by
    unfold bls? at h
    cases e : bls? r with
    | none => simp only [e] at h; cases h
    | some cs => simp only [e] at h; cases h; rw [bls_map e]; rfl
  | .non :: _, _, h => by cases h
  | .int _ :: _, _, h => by cases h
  | .str _ :: _, _, h => by cases h
  | .lst _ :: _, _, h => by cases h
  | .tup _ :: _, _, h => by cases h
  | .scr _ :: _, _, h => by cases h
  | .err _ _ :: _, _, h => by cases h
def anyP : List D → Option Vl
  | [.lst xs] => match bls? xs with
    | some bs => some (.fz (.bl (bs.any id)))
    | none => none
  | _ => none
def allP : List D → Option Vl
  | [.lst xs] => match bls? xs with
    | some bs => some (.fz (.bl (bs.all id)))
    | none => none
  | _ => none
theorem p_any : PN K mg (rAny K) anyP := fun S ds vs a Q hS h o f => by
  match ds, h, o with
  | [.lst xs], h, .cons (v := v) o .nil =>
    unfold anyP at h
    cases e : bls? xs with
    | none => simp only [e] at h; cases h
    | some bs =>
      simp only [e] at h
      cases h
      rw [bls_map e] at o
      obtain ⟨b, ws, rfl, h1, rr⟩ := o
      rw [rr.bls] at h1
      exact ⟨b, bs, rfl, .inl (.inl h1), f.d hS (.bl _)⟩
theorem p_all : PN K mg (rAll K) allP := fun S ds vs a Q hS h o f => by
  match ds, h, o with
  | [.lst xs], h, .cons (v := v) o .nil =>
    unfold allP at h
    cases e : bls? xs with
    | none => simp only [e] at h; cases h
    | some bs =>
      simp only [e] at h
      cases h
      rw [bls_map e] at o
      obtain ⟨b, ws, rfl, h1, rr⟩ := o
      rw [rr.bls] at h1
      exact ⟨b, bs, rfl, .inl (.inl h1), f.d hS (.bl _)⟩
end
end KL
end

section
set_option Elab.async false
set_option linter.all false
set_option maxRecDepth 100000
namespace KL
open PySem L2
variable [Tabs]

/-! ### slices -/
def cutD {α : Type} (xs : List α) (lo hi : Option Int) : List α := (xs.drop (HT.sIx xs.length 0 lo)).take (HT.sIx xs.length xs.length hi - HT.sIx xs.length 0 lo)
def slP (d : D) (lo hi : Option Int) : Option Vl := match d with
  | .lst xs => some (.fr (cutD xs lo hi))
  | .tup xs => some (.fz (.tup (cutD xs lo hi)))
  | .str x => if x.length ≤ 1000000 then some (.fz (.str (cutS x lo hi))) else none
  | _ => none
def ptN : M (Option Int) := fun ρ => .ok none ρ
def ptS (f : M Od) : M (Option Int) := fun ρ => bnd (f ρ) fun a ρ1 => match a.get ρ1 with
  | some (.int i) => .ok (some i) ρ1
  | _ => .bad
def slE (f : M Od) (lo hi : M (Option Int)) : M Vl := fun ρ => bnd (f ρ) fun a ρ1 => bnd (lo ρ1) fun l ρ2 => bnd (hi ρ2) fun u ρ3 => match a.get ρ3 with
  | some d => ofO (slP d l u) ρ3
  | none => .bad
section
variable (K : PySem.W.Frag) (mg : MgT) (Wi : WX)
def TP_ (f : M (Option Int)) : St → Hp → (Option Int → Hp → Prop) → Prop := fun σ H Q => ∃ S : Sx, S.rel K mg ∧ S.σ = σ ∧ S.H = H ∧ Sat K mg Wi S (fun a S' => Q a S'.H) (f S.ρ)
end
structure RPo (X : Cx) (e : Option Expr) (f : M (Option Int)) : Prop where
  run : ∀ Wi, Takes X Wi → PO X e (TP_ X.K X.mg Wi f)
theorem po_imp {X : Cx} {e : Option Expr} {t t' : TO} (h : PO X e t) (k : ∀ σ H Q, t' σ H Q → t σ H Q) : PO X e t' := ⟨fun pins s σ H Q I q => h.run pins s σ H Q I (k σ H Q q)⟩
section
variable {X : Cx} {e : Expr} {lo hi : Option Expr} {f : M Od} {fl fh : M (Option Int)} {p2 pos : Pos}
theorem rpo_none : RPo X none ptN := ⟨fun Wi tk => po_imp po_none fun σ H Q q => by
  obtain ⟨S, hS, rfl, rfl, q⟩ := q
  exact q S rfl rfl (Go.refl hS)⟩
theorem rpo_some (h : RO X e f) : RPo X (some e) (ptS f) := ⟨fun Wi tk => po_imp (po_some (h.run Wi tk)) fun σ H Q q => by
  obtain ⟨S, hS, rfl, rfl, q⟩ := q
  refine ⟨S, hS, rfl, rfl, q.bnd fun a S1 es1 g1 _ q1 x rx => ?_⟩
  cases e1 : a.get S1.ρ with
  | none => simp only [e1] at q1; exact q1.elim
  | some d =>
    cases d with
    | int i =>
      simp only [e1] at q1
      cases Opn.int (opn_of g1.rel rx e1)
      exact ⟨i, rfl, q1 S1 rfl es1 g1⟩
    | _ => simp only [e1] at q1; exact q1.elim⟩
theorem cut_rep {K : PySem.W.Frag} {mg : MgT} {H : Hp} {B : Ad} {xs : List D} {vs : List V} (r : RepL K mg H B xs vs) (lo hi : Option Int) : RepL K mg H B (cutD xs lo hi) (cutV vs lo hi) := by
  unfold cutD cutV
  rw [r.length]
  exact (r.drop _).take _
theorem re_slice (he : RO X e f) (hl : RPo X lo fl) (hh : RPo X hi fh) : RE X (.Subscript e (.Slice lo hi none p2) pos) (slE f fl fh) := by
  refine ⟨fun Wi tk => pe_imp (pe_slice ((sl_list (X := X)).or ((sl_tupA (X := X)).or (sl_str (X := X)))) (he.run Wi tk) (hl.run Wi tk) (hh.run Wi tk)) fun σ H Q q => ?_⟩
  obtain ⟨S, hS, rfl, rfl, q⟩ := q
  refine ⟨S, hS, rfl, rfl, q.bnd fun a S1 es1 g1 _ q1 x rx => ?_⟩
  refine ⟨S1, g1.rel, es1, rfl, (q1.vfrom hS g1 es1).bnd fun l S2 es2 g2 _ q2 => ?_⟩
  have es2' : S2.σ = S.σ := es2.trans es1
  refine ⟨S2, g2.rel, es2', rfl, (q2.vfrom g1.rel g2 es2).bnd fun u S3 es3 g3 _ q3 => ?_⟩
  have q4 := q3.vfrom g2.rel g3 es3
  have rx3 := (rx.later g1.rel es2 g2).later g2.rel es3 g3
  have h3 := g3.rel
  cases e1 : a.get S3.ρ with
  | none => simp only [e1] at q4; exact q4.elim
  | some d =>
    simp only [e1] at q4
    unfold ofO at q4
    have o := opn_of h3 rx3 e1
    cases d with
    | lst xs =>
      simp only [slP] at q4
      obtain ⟨b, ws, rfl, h1, r⟩ := o
      exact .inl ⟨b, ws, rfl, .inl (.inl h1), (fin_of q4).newL h3 (cut_rep r l u)⟩
    | tup xs =>
      simp only [slP] at q4
      have o' : Rep X.K X.mg S3.H S3.B (.tup xs) x := o
      obtain ⟨b, ws, rfl, h1, r⟩ := Opn.tup o
      refine .inr (.inl ⟨b, ws, rfl, h1, fun hw => ?_, fun _ => (fin_of q4).newT h3 (cut_rep r l u)⟩)
      have e2 : cutD xs l u = xs := by
        unfold cutD
        rw [r.length, hw.1, hw.2, List.drop_zero, Nat.sub_zero, ← r.length]
        exact List.take_of_length_le (Nat.le_refl _)
      rw [e2] at q4
      exact (fin_of q4).d h3 o'
    | str z =>
      simp only [slP] at q4
      by_cases c : z.length ≤ 1000000
      · simp only [if_pos c] at q4
        cases Opn.str o
        exact .inr (.inr ⟨z, rfl, big_ok c, (fin_of q4).d h3 (.str _)⟩)
      · simp only [if_neg c] at q4; exact q4.elim
    | _ => simp only [slP] at q4; exact q4.elim
def revP : D → Option Vl
  | .lst xs => some (.fr xs.reverse)
  | _ => none
theorem re_rev {k : Nat} {p1 p3 p4 : Pos} (he : RO X e f) : RE X (.Subscript e (.Slice none none (some (.UnaryOp .USub (.Constant (.int 1) k p1) p3)) p4) pos) (un1 revP f) := by
  refine ⟨fun Wi tk => pe_imp (pe_revL (he.run Wi tk)) fun σ H Q q => ?_⟩
  obtain ⟨S, hS, rfl, rfl, q⟩ := q
  refine ⟨S, hS, rfl, rfl, q.bnd fun a S1 es1 g1 _ q1 x rx => ?_⟩
  have q2 := q1.vfrom hS g1 es1
  unfold app1 ofO at q2
  cases e1 : a.get S1.ρ with
  | none => simp only [e1] at q2; exact q2.elim
  | some d =>
    simp only [e1] at q2
    have o := opn_of g1.rel rx e1
    cases d with
    | lst xs =>
      simp only [revP] at q2
      obtain ⟨b, ws, rfl, h1, r⟩ := o
      exact ⟨b, ws, rfl, .inl (.inl h1), (fin_of q2).newL g1.rel r.reverse⟩
    | _ => simp only [revP] at q2; exact q2.elim
end
end KL
end

section
set_option Elab.async false
set_option linter.all false
set_option maxRecDepth 100000
namespace KL
open PySem L2
variable [Tabs]

/-! ### list(range(..)) -/
def lrg1 (f : M Od) : M Vl := fun ρ => bnd (f ρ) fun a ρ1 => match a.get ρ1 with
  | some (.int j) => if (okR j && decide (j ≤ 1000000)) = true then .ok (.fr (rangeL 0 (j - 0).toNat)) ρ1 else .bad
  | _ => .bad
def lrg2 (f g : M Od) : M Vl := fun ρ => bnd (f ρ) fun a ρ1 => bnd (g ρ1) fun b ρ2 => match a.get ρ2 with
  | some (.int i) => (match b.get ρ2 with
    | some (.int j) => if (okR i && okR j && decide (j - i ≤ 1000000)) = true then .ok (.fr (rangeL i (j - i).toNat)) ρ2 else .bad
    | _ => .bad)
  | _ => .bad
section
variable {X : Cx} {a b : Expr} {f g : M Od} {p q pos pos' : Pos}
theorem rangeL_rep {K : PySem.W.Frag} {mg : MgT} {H : Hp} {B : Ad} (lo hi : Int) : RepL K mg H B (rangeL lo (hi - lo).toNat) (rgV lo hi) := by
  have e1 : rangeL lo (hi - lo).toNat = ((List.range (hi - lo).toNat).map fun k => lo + (k : Nat)).map D.int := by unfold rangeL; rw [List.map_map]; rfl
  have e2 : rgV lo hi = ((List.range (hi - lo).toNat).map fun k => lo + (k : Nat)).map V.int := by unfold rgV; rw [List.map_map]; rfl
  rw [e1, e2]
  exact RepL.of_ints _
theorem okR_le {i : Int} (h : okR i = true) : -1000000000 < i ∧ i < 1000000000 := by
  unfold okR at h
  simp only [Bool.and_eq_true, decide_eq_true_eq] at h
  exact h
theorem rg_ok {i j : Int} (h1 : okR i = true) (h2 : okR j = true) (h3 : j - i ≤ 1000000) : RgOk i j := by
  have a := okR_le h1
  have b := okR_le h2
  exact ⟨by omega, by omega, by omega, by omega, by omega⟩
theorem re_lrg1 (ha : RO X a f) (hc : X.calm = true) (hl : Gl X "list") (hml : X.mg "list" = none) (hg : Gl X "range") (hm : X.mg "range" = none) (he : starEach [.Call (.Name "range" q) [a] [] pos'] X.env = (false, eval (.Call (.Name "range" q) [a] [] pos') X.env) :: starEach [] X.env := by rfl)
    (he2 : starEach [a] X.env = (false, eval a X.env) :: starEach [] X.env := by rfl) : RE X (.Call (.Name "list" p) [.Call (.Name "range" q) [a] [] pos'] [] pos) (lrg1 f) := by
  refine ⟨fun Wi tk => pe_imp (pe_listRg hc hl hml (prg_1 hg hm (ha.run Wi tk) he2) he) fun σ H Q z => ?_⟩
  obtain ⟨S, hS, rfl, rfl, z⟩ := z
  refine ⟨S, hS, rfl, rfl, z.bnd fun o S1 es1 g1 _ q1 x rx => ?_⟩
  have q2 := q1.vfrom hS g1 es1
  cases e1 : o.get S1.ρ with
  | none => simp only [e1] at q2; exact q2.elim
  | some d =>
    cases d with
    | int j =>
      simp only [e1] at q2
      by_cases c : (okR j && decide (j ≤ 1000000)) = true
      · rw [if_pos c] at q2
        simp only [Bool.and_eq_true, decide_eq_true_eq] at c
        cases Opn.int (opn_of g1.rel rx e1)
        exact ⟨j, rfl, rg_ok (by decide) c.1 (by omega), (fin_of q2).newL g1.rel (rangeL_rep 0 j)⟩
      · rw [if_neg c] at q2; exact q2.elim
    | _ => simp only [e1] at q2; exact q2.elim
theorem re_lrg2 (ha : RO X a f) (hb : RO X b g) (hc : X.calm = true) (hl : Gl X "list") (hml : X.mg "list" = none) (hg : Gl X "range") (hm : X.mg "range" = none) (he : starEach [.Call (.Name "range" q) [a, b] [] pos'] X.env = (false, eval (.Call (.Name "range" q) [a, b] [] pos') X.env) :: starEach [] X.env := by rfl)
    (na : starEach [a, b] X.env = (false, eval a X.env) :: starEach [b] X.env := by rfl) (nb : starEach [b] X.env = (false, eval b X.env) :: starEach [] X.env := by rfl) (hp : (backTo pos' (starEach [b] X.env)).any (·.1) = false := by rfl) :
    RE X (.Call (.Name "list" p) [.Call (.Name "range" q) [a, b] [] pos'] [] pos) (lrg2 f g) := by
  refine ⟨fun Wi tk => pe_imp (pe_listRg hc hl hml (prg_2 hg hm (ha.run Wi tk) (hb.run Wi tk) na nb hp) he) fun σ H Q z => ?_⟩
  obtain ⟨S, hS, rfl, rfl, z⟩ := z
  refine ⟨S, hS, rfl, rfl, z.bnd fun o S1 es1 g1 _ q1 x rx => ?_⟩
  refine ⟨S1, g1.rel, es1, rfl, (q1.vfrom hS g1 es1).bnd fun o2 S2 es2 g2 _ q2 y ry => ?_⟩
  have q3 := q2.vfrom g1.rel g2 es2
  have rx2 := rx.later g1.rel es2 g2
  cases e1 : o.get S2.ρ with
  | none => simp only [e1] at q3; exact q3.elim
  | some d =>
    cases d with
    | int i =>
      simp only [e1] at q3
      cases e2 : o2.get S2.ρ with
      | none => simp only [e2] at q3; exact q3.elim
      | some d2 =>
        cases d2 with
        | int j =>
          simp only [e2] at q3
          by_cases c : (okR i && okR j && decide (j - i ≤ 1000000)) = true
          · rw [if_pos c] at q3
            simp only [Bool.and_eq_true, decide_eq_true_eq] at c
            cases Opn.int (opn_of g2.rel rx2 e1)
            cases Opn.int (opn_of g2.rel ry e2)
            exact ⟨i, j, rfl, rfl, rg_ok c.1.1 c.1.2 c.2, (fin_of q3).newL g2.rel (rangeL_rep i j)⟩
          · rw [if_neg c] at q3; exact q3.elim
        | _ => simp only [e2] at q3; exact q3.elim
    | _ => simp only [e1] at q3; exact q3.elim
end
end KL
end

section
set_option Elab.async false
set_option linter.all false
set_option maxRecDepth 100000
namespace KL
open PySem L2
variable [Tabs]

/-! ### f(k = v, ..) alone -/
section
variable {X : Cx} {k : Nat} {f : Addr} {fd : FuncData} {ps ks : List Str} {fm : M Vl} {np : Nat} {x : Str} {p pos : Pos} {kws : List Keyword} {gg : List Value → List Value → List Value} {gV : List V → List V → List V}
theorem re_callK0 {m : Nat} {gk : M (List Od)} {gD : List D → List D → List D} (F : FnOk X.prog X.w X.K X.mg X.base (L2.CX X.prog X.w) k f fd ps (spF X.K X.mg np false fm)) (hr : Room k X.A) (hg : Gl X x) (hm : X.mg x = some (.ref f)) (hk : PySem.W.keepIn X.K (.ref f) = true) (hb : KBn X.K fd ps 0 ks gg gV)
    (hD : ∀ H B ds vs zs us, RepL X.K X.mg H B ds vs → RepL X.K X.mg H B zs us → ds.length = 0 → zs.length = ks.length → RepL X.K X.mg H B (gD ds zs) (gV vs us))
    (hkw : RK X kws gk) (hml : m = ks.length := by rfl) (hall : (backToKw pos (keywordEach kws X.env)).all (·.1.isSome) = true := by rfl) (hks : (backToKw pos (keywordEach kws X.env)).filterMap (·.1) = ks := by rfl)
    (hdb : (x == ("__debug__" : Str)) = false := by decide) (hpl : ((backTo pos (starEach [] X.env)).any (·.1) || (backToKw pos (keywordEach kws X.env)).any (·.1.isNone)) = false := by rfl) :
    RE X (.Call (.Name x p) [] kws pos) (callK np 0 m fm gD aNil gk) := by
  subst hml
  refine ⟨fun Wi tk => ⟨fun pins s σ H Q I q => ?_⟩⟩
  obtain ⟨S, hS, rfl, rfl, q⟩ := q
  refine wpAny_Call_Name_kw (ld_glob I hg hm ?_ hdb)
  have q0 : Sat X.K X.mg Wi S (fun a S' => ∀ v, RepV X.K X.mg S S' a v → Q v S'.H) (bnd (gk S.ρ) fun kos ρ2 => match vals? kos with
    | some zs => if ([] : List D).length = 0 ∧ zs.length = ks.length ∧ (gD [] zs).length = np then back (fm (vaL (gD [] zs))) ρ2 else .bad
    | none => .bad) := q
  have step := (hkw.run Wi tk).run pos pins s S.σ S.H (fun us H2 => us.length = ks.length ∧ spF X.K X.mg np false fm (gV [] us) H2 Q (WE Wi S.σ)) I ⟨S, hS, rfl, rfl, q0.bnd fun kos S2 es2 g2 _ q2 us ru => by
    cases e2 : vals? kos with
    | none => simp only [e2] at q2; exact q2.elim
    | some zs =>
      simp only [e2] at q2
      by_cases c : ([] : List D).length = 0 ∧ zs.length = ks.length ∧ (gD [] zs).length = np
      · rw [if_pos c] at q2
        have r2 := vals_rep ru e2
        have r := hD _ _ _ _ _ _ .nil r2 c.1 c.2.1
        have q3 := callV_sat (np := np) g2.rel r (by rw [← r.length]; exact c.2.2) (q2.vfrom hS g2 es2)
        rw [← es2]
        exact ⟨by rw [← r2.length]; exact c.2.1, q3⟩
      · rw [if_neg c] at q2; exact q2.elim⟩
  refine PySem.W.callWith_KW0 (h₀ := X.base) I.ok.mod.kin hk hall (thn step fun ws s2 ⟨zs, H2, I2, rz, l2, q2⟩ => ⟨I2.kIn, ?_⟩) hpl
  rw [hks]
  exact run_fnNS F hr hb (passAt tk S.σ) I2 .nil rz rfl l2 q2
end

/-! ### facts of a law's head -/
theorem room_gen {k : Nat} {A : Around} (h : Room (k + 3) A) (env : PySem.Env) : Room k (A.in1.in1.deeper env) := h.in1.in1.deeper env
/-- an own class of error without __init__ -/
structure ErrK (K : PySem.W.Frag) (mg : MgT) (x : Str) : Prop where
  ex : ∃ C, mg x = some (.ref C) ∧ PySem.W.excIn K C He.veBase "ValueError.__new__" = true ∧ PySem.W.keepIn K (.ref C) = true ∧ PySem.W.subIn K (.ref C) (.type "BaseException") = some true ∧ PySem.W.typeIn K (.ref C) = some (.type "type")
theorem rs_raiseE {X : Cx} {c m : Str} {j : Nat} {p p2 pos pos' : Pos} (hc : X.calm = true) (e : ErrK X.K X.mg c) (hg : Gl X c) (hdb : (c == ("__debug__" : Str)) = false := by decide) : RS X (.Raise (some (.Call (.Name c p) [.Constant (.str m) j p2] [] pos)) none pos') (raise0 c) := by
  obtain ⟨C, h1, h2, h3, h4, h5⟩ := e.ex
  exact rs_raise0 hc PySem.F.excBase_ValueError h2 h1 h3 (raises_own h4 h5) hg hdb
omit [Tabs] in
/-- isinstance's answer for a value of data: n the class's name -/
def tyB (n : String) (t : String) : Option Bool := if t = "NoneType" ∨ t = "bool" ∨ t = "int" ∨ t = "str" ∨ t = "list" ∨ t = "tuple" then some (decide (t = n) || (decide (t = "bool") && decide (n = "int"))) else none
omit [Tabs] in
theorem tyB_ok {K : PySem.W.Frag} {n : String} (hn : n = "int" ∨ n = "bool" ∨ n = "tuple" ∨ n = "list" ∨ n = "str") : ∀ t b, tyB n t = some b → PySem.W.kitOne K (.type t) (.type n) = some b := fun t b h => by
  unfold tyB at h
  split at h
  · rename_i ht
    have h := Option.some.inj h
    rcases hn with rfl | rfl | rfl | rfl | rfl <;> rcases ht with rfl | rfl | rfl | rfl | rfl | rfl <;> (subst h; exact kit_ty (by decide +kernel))
  · cases h
def noK : Str → Option Bool := fun _ => none
theorem noK_ok {K : PySem.W.Frag} {mg : MgT} {u : Value} : ∀ (x : Str) (C : Addr) (b : Bool), mg x = some (.ref C) → noK x = some b → PySem.W.kitOne K (.ref C) u = some b ∧ ExcC K C := fun _ _ _ _ h => by cases h
/-- isinstance(e, T), T a built-in type, no exceptions -/
theorem re_isiT {X : Cx} {e : Expr} {f : M Od} {n : Str} {T : String} {q cp pos : Pos} (hn : T = "int" ∨ T = "bool" ∨ T = "tuple" ∨ T = "list" ∨ T = "str") (ha : RO X e f) (hg : Gl X "isinstance") (hm : X.mg "isinstance" = none) (hgn : Gl X n) (hmn : X.mg n = none) (hv : bootBuiltins n = some (.type T) := by rfl) (hnn : n ≠ "__name__" := by decide) (hd : (n == ("__debug__" : Str)) = false := by decide)
    (hs : starEach [e, .Name n cp] X.env = (false, eval e X.env) :: starEach [.Name n cp] X.env := by rfl) (hs2 : starEach [.Name n cp] X.env = (false, eval (.Name n cp) X.env) :: starEach [] X.env := by rfl) (hpl : (backTo pos (starEach [.Name n cp] X.env)).any (·.1) = false := by rfl) :
    RE X (.Call (.Name "isinstance" q) [e, .Name n cp] [] pos) (un1 (isiP (tyB T) noK) f) :=
  re_isi ha (pe_bltn (v := .ty T) hgn hmn hv rfl hnn hd) (.ty T) (tyB_ok hn) noK_ok hg hm hs hs2 hpl
end KL
end

section
set_option Elab.async false
set_option linter.all false
set_option maxRecDepth 100000
namespace KL
open PySem L2

/-! ### keywords in another order -/
def permL {α : Type} (is : List Nat) (us ws : List α) : List α := us ++ is.filterMap (ws[·]?)
theorem permL_vals {is : List Nat} {vs zs : List V} {us ws : List Value} (r : Vals vs us) (q : Vals zs ws) : Vals (permL is vs zs) (permL is us ws) := by
  refine r.append ?_
  induction is with
  | nil => exact .nil
  | cons i is ih =>
    cases e : zs[i]? with
    | none =>
      have e2 : ws[i]? = none := Vals.none_of q e
      simp only [List.filterMap_cons, e, e2]
      exact ih
    | some z =>
      obtain ⟨u, e2, h⟩ := Vals.get q e
      simp only [List.filterMap_cons, e, e2]
      exact .cons h ih
theorem permL_rep {K : PySem.W.Frag} {mg : MgT} {H : Hp} {B : Ad} {is : List Nat} {ds zs : List D} {vs us : List V} (r : RepL K mg H B ds vs) (q : RepL K mg H B zs us) : RepL K mg H B (permL is ds zs) (permL is vs us) := by
  refine r.append ?_
  induction is with
  | nil => exact .nil
  | cons i is ih =>
    cases e : zs[i]? with
    | none =>
      have e2 : us[i]? = none := by
        rw [List.getElem?_eq_none_iff] at e ⊢
        rw [← q.length]; exact e
      simp only [List.filterMap_cons, e, e2]
      exact ih
    | some z =>
      obtain ⟨u, e2, h⟩ := q.get e
      simp only [List.filterMap_cons, e, e2]
      exact .cons h ih
theorem kbn0 {K : PySem.W.Frag} {x qual : Str} {params : Arguments} {body : List Stmt} {scope : Scope} {kws : List (Str × V)} {f : Addr} {fd : FuncData} {ps ks : List Str} (F : FunD K x qual params body scope [] kws f fd) (n : Nat) (is : List Nat)
    (h : ∀ (kV doc pm : Value) (an : Option Addr) (cdv ct : Value) (us ws : List Value), us.length = n → ws.length = ks.length → bindArgs (PySem.W.fnOf x qual params body scope .none kV doc pm an cdv ct) ⟨us, ks.zip ws⟩ = pure (ps.zip (permL is us ws))) : KBn K fd ps n ks (permL is) (permL is) := by
  obtain ⟨oc, od, dV, kV, doc, pm, an, cdv, ct, osl, rfl, lk, hcd, hD, hK⟩ := F.ex
  rcases hD with ⟨_, rfl⟩ | ⟨e, _⟩
  · exact ⟨fun s us ws _ h1 h2 => .of_eq (h kV doc pm an cdv ct us ws h1 h2), fun r q => permL_vals r q⟩
  · exact absurd rfl e
/-! ### a generator's scope, by one look -/
def genC (N : List Str) (sc scope : Scope) (own : List (Str × Nat)) : Bool := blkC N sc scope own && (scope.names.all (fun y => !(y.2 == .cell)) && (scope.names.lookup (".0" : Str) == some NameKind.local && !scope.isCoroutine))
theorem genC_ok {N : List Str} {sc scope : Scope} {own : List (Str × Nat)} (h : genC N sc scope own = true) : BlkOk N sc scope own ∧ (∀ y ∈ scope.names, y.2 ≠ .cell) ∧ scope.names.lookup (".0" : Str) = some NameKind.local ∧ scope.isCoroutine = false := by
  unfold genC at h
  simp only [Bool.and_eq_true, List.all_eq_true, Bool.not_eq_true', beq_iff_eq] at h
  exact ⟨blkOk_by h.1, fun y hy e => by
    have := h.2.1 y hy
    rw [e] at this
    exact absurd this (by decide), h.2.2.1, h.2.2.2⟩
section
variable [Tabs] {X : Cx} {pos p gpos : Pos}
theorem re_allB {c P : Addr} {elt tg iter : Expr} {scope : Scope} {fi : M (List D)} {ft : D → Env → Out} {fe : M Vl} {g : TG} {k : Nat} (own : List (Str × Nat)) (hP : Tabs.is P) (hc : X.calm = true) (hN : X.N.Nodup) (hr : Room k X.A) (hgl : Gl X "all") (hm : X.mg "all" = none) (TB : GxR.TabB X.base X.mg c P) (hcode : X.env.code = .ref c)
    (ok : genC X.N X.env.scope scope own = true) (hi : RI X tg iter fi)
    (hg : ∀ (s : Shared) (H : Hp) (C : Addr) (cd : Value) (fp : List Addr) (a : Addr) (ob : Obj), RG (genX X s H (genE X scope C cd) fp a ob) tg g ft) (he : ∀ (s : Shared) (H : Hp) (C : Addr) (cd : Value) (fp : List Addr) (a : Addr) (ob : Obj), RE (genX X s H (genE X scope C cd) fp a ob) elt fe) (hgo : GOnly g (own.map (·.2)))
    (hs : ∀ v, genFold iter X.env v = pure v := by intro _; rfl) (hst : starEach [.GeneratorExp elt [⟨tg, iter, [], 0⟩] scope gpos] X.env = (false, eval (.GeneratorExp elt [⟨tg, iter, [], 0⟩] scope gpos) X.env) :: starEach [] X.env := by rfl) :
    RE X (.Call (.Name "all" p) [.GeneratorExp elt [⟨tg, iter, [], 0⟩] scope gpos] [] pos) (allE (own.map (·.2)) fi ft fe) := by
  obtain ⟨h1, h2, h3, h4⟩ := genC_ok ok
  exact re_all hP hc hN hr hgl hm TB hcode h1 h2 h3 h4 hi hg he hgo hs hst
theorem re_lcB {elt tg iter : Expr} {ifs : List Expr} {scope : Scope} {fi : M (List D)} {ft : D → Env → Out} {fc : M Bool} {fe : M Vl} {g : TG} (own : List (Str × Nat)) (hc : X.calm = true) (hN : X.N.Nodup) (ok : blkC X.N X.env.scope scope own = true) (hi : RI X tg iter fi)
    (hg : ∀ (s : Shared) (H : Hp) (C : Addr) (cl : List (Str × Addr)) (fp : List Addr), RG (X.blk s H scope (compEnvC scope cl C X.env) fp) tg g ft) (ht : ∀ (s : Shared) (H : Hp) (C : Addr) (cl : List (Str × Addr)) (fp : List Addr), RTs (X.blk s H scope (compEnvC scope cl C X.env) fp) ifs fc)
    (he : ∀ (s : Shared) (H : Hp) (C : Addr) (cl : List (Str × Addr)) (fp : List Addr), RE (X.blk s H scope (compEnvC scope cl C X.env) fp) elt fe) (hgo : GOnly g (own.map (·.2))) (hs : ∀ x, foldedSetIterable iter X.env x = pure x := by intro _; rfl) :
    RE X (.ListComp elt [⟨tg, iter, ifs, 0⟩] scope pos) (lcE (own.map (·.2)) fi ft fc fe) := re_lc hc hN hi (blkOk_by ok) hg ht he hgo hs
theorem rs_setLcB {i : Nat} {y : Str} {py spos : Pos} {elt tg iter : Expr} {ifs : List Expr} {scope : Scope} {fi : M (List D)} {ft : D → Env → Out} {fc : M Bool} {fe : M Vl} {g : TG} (own : List (Str × Nat)) (hc : X.calm = true) (hN : X.N.Nodup) (hy : X.N[i]? = some y) (hyl : X.env.scope.names.lookup y = some .local) (ok : blkC X.N X.env.scope scope own = true) (hi : RI X tg iter fi)
    (hg : ∀ (s : Shared) (H : Hp) (C : Addr) (cl : List (Str × Addr)) (fp : List Addr), RG (X.blk s H scope (compEnvC scope cl C X.env) fp) tg g ft) (ht : ∀ (s : Shared) (H : Hp) (C : Addr) (cl : List (Str × Addr)) (fp : List Addr), RTs (X.blk s H scope (compEnvC scope cl C X.env) fp) ifs fc)
    (he : ∀ (s : Shared) (H : Hp) (C : Addr) (cl : List (Str × Addr)) (fp : List Addr), RE (X.blk s H scope (compEnvC scope cl C X.env) fp) elt fe) (hgo : GOnly g (own.map (·.2))) (hsw : swapsWith (.ListComp elt [⟨tg, iter, ifs, 0⟩] scope pos) (some (.Name y py)) spos.line X.env = pure true := by rfl) (hs : ∀ x, foldedSetIterable iter X.env x = pure x := by intro _; rfl) :
    RS X (.Assign [.Name y py] (.ListComp elt [⟨tg, iter, ifs, 0⟩] scope pos) spos) (setS i (lcE (own.map (·.2)) fi ft fc fe)) := rs_setLc hc hN hy hyl hi (blkOk_by ok) hg ht he hgo hsw hs
end
end KL
end

section
set_option Elab.async false
set_option linter.all false
set_option maxRecDepth 100000
namespace KL
open PySem L2

/-! ### the law's own promise -/
/-- the tables of these code objects -/
abbrev tabsOf (cs : List (Addr × Addr)) : Tabs := ⟨fun a => a ∈ cs.map (·.2)⟩
theorem law_sp {K : PySem.W.Frag} {mg : MgT} {cs : List (Addr × Addr)} {f : M Vl} {H : Hp} {a : Addr} {ns : List Int} (hT : ∀ p ∈ cs, H p.2 = some (.tbl #[])) (hs : SqL K H a (ns.map V.int)) (h : ∃ ρ, f [.va (.scr ns)] = .ok (.fz (.bl true)) ρ) :
    @spF (tabsOf cs) K mg 1 false f [.ref a] H (fun v _ => v = .bl true) fun _ _ _ => False := by
  letI := tabsOf cs
  obtain ⟨ρ, h⟩ := h
  have no : ∀ i b, ¬ OwnAt [.va (.scr ns)] [some (.ref a)] i b := fun i b ⟨⟨q, e1, e2⟩, _⟩ => by
    cases i with
    | zero => cases e1; cases e2
    | succ i => simp at e1
  refine ⟨rfl, ⟨fun _ => False, [.va (.scr ns)], [some (.ref a)], H⟩, ⟨rfl, fun i q e => ?_, fun i j b o _ => absurd o (no i b), fun b z => z.elim, fun b hb => ?_⟩, rfl, rfl, ⟨[.scr ns], rfl⟩, ?_⟩
  · cases i with
    | zero =>
      cases e
      refine ⟨.ref a, rfl, ?_⟩
      rcases hs with hs | hs
      · exact .scr (fun z => z) hs
      · exact .scrK fun _ => .inr hs
    | succ i => simp at e
  · obtain ⟨p, hp, e⟩ := List.mem_map.mp hb
    exact ⟨⟨#[], by rw [← e]; exact hT p hp, by trivial⟩, fun z => z⟩
  · show Sat K mg _ _ _ (f [.va (.scr ns)])
    rw [h]
    intro S' e1 e2 g v rv
    have rv : Rep K mg S'.H S'.B (.bl true) v := rv
    cases rv; rfl
end KL
namespace KL
open PySem PySem.Spec PyProof.Rows L2
/-- a law's end over a head by facts, with tables -/
theorem walk_ofX {l : PySem.W.OpenLaw} {n k : Nat} {q : Program} {loose : List Str} {XP : (Str → Option Value) → Heap → Prop} {YP : World → Heap → Prop} {d : DefRec} {x : Str}
    (hn : l.most = some n) (hn2 : n ≤ sizeLine) (hdf : d.params.defaults = []) (hr : Room k callerA)
    (F : ∀ (w : World) (mg : Str → Option Value) (fa : Addr) (h : Heap), YP w h → h.Ns mainGlobals mg → mg d.name = some (.ref fa) → ∃ K : PySem.W.Frag, K.In h ∧ LamX.LawAtS l w K (L2.CX l.prog w) k n x mg fa h) :
    PySem.W.WalkO q loose XP YP l.row.toRowW d [] (fun f vs => PySem.call f vs) := by
  refine Att.attach_callB hn hdf fun w s₀ s₁ mg mb fa o pm cd doc a vs ns G Y ho hd hcd hmg hobj hints hlen hbits hg => ?_
  obtain ⟨K, KX, fd, cs, sp, hT, nT, C, hb, hsp, hF⟩ := F w mg fa _ Y G.T.g hmg
  refine LamX.law_callTs KX G.T.g G.T.b G.T.builtins G.T.nolimit hg hT nT C G.T.bmain hobj hints (Nat.le_trans hlen hn2) hr hF hb (fun H hH hS => hsp H a ns hlen hbits hH hS) fun H e s' z => ?_
  obtain ⟨_, _, _, _, _, _, _, _, _, _, _, _, z⟩ := z
  exact z
theorem tab_g {base : Heap} {mg : Str → Option Value} {c P : Addr} (h : LamX.TabB base mg c P) : GxR.TabB base mg c P := ⟨h.code, h.bm, h.gP⟩
theorem code_is {K : PySem.W.Frag} {x qual : Str} {params : Arguments} {body : List Stmt} {scope : Scope} {dvs : List V} {kws : List (Str × V)} {fd : FuncData} {p : He.Defn} (F : FunD K x qual params body scope dvs kws (He.fAd K p) fd) : ∀ cdv, fd.code = cdv → cdv = .ref (He.cT K p).1 := fun cdv e => by
  obtain ⟨oc, od, dV, kV, doc, pm, an, cdv', ct, osl, rfl, lk, hcd, _, _⟩ := F.ex
  obtain ⟨c, rfl⟩ := He.codeIn_ref hcd
  subst e
  rw [show (He.cT K p).1 = He.codeOf K p from rfl, He.codeOf_eq lk rfl]
theorem err_k {K : PySem.W.Frag} {mg : MgT} {h : Heap} {x : Str} (KX : K.In h) (G : h.Ns mainGlobals mg) (c1 : (He.Fa.glo x).ok K = true) (c2 : (He.Fa.exc x).ok K = true) : ErrK K mg x := by
  obtain ⟨h1, h2, h3, h4⟩ := He.exc_ok c2
  exact ⟨⟨_, He.glo_ok KX G c1, h1, h2, h3, h4⟩⟩
end KL
end

section
set_option Elab.async false
set_option linter.all false
set_option maxRecDepth 100000
set_option maxHeartbeats 4000000
namespace K02
open PySem L2 KL
def top (i : Nat) : Stmt := PySem.Challenge.pw_keenlot_k02_sums_and_capacities.main.body.getD i (.Pass ⟨0, 0, 0, 0⟩)
abbrev FnP (K : PySem.W.Frag) (x : Str) (st : Stmt) (f : Addr) (fd : FuncData) : Prop := FunD K x x (defArgs st) (defBody st) (defScope st) [] [] f fd
section
variable [Tabs]
/-! ### is_integer -/
abbrev s_is_integer : Stmt := top 8
def bd_is_integer : SM := retS (eAnd (un1 (isiP (tyB "int") noK) (nmO 0)) (eNot (frz (un1 (isiP (tyB "bool") noK) (nmO 0)))))
def f_is_integer : M Vl := fnM 0 bd_is_integer
theorem S_is_integer : FnScope ["value"] ["value"] (defScope s_is_integer) := ⟨rfl, rfl, rfl, by decide +kernel, rfl, by decide +kernel, by decide +kernel⟩
theorem ok_is_integer {P : Program} {w : World} {K : PySem.W.Frag} {mg : MgT} {base : Heap} {a_is_integer : Addr} {d_is_integer : FuncData} (F_is_integer : FnP K "is_integer" s_is_integer a_is_integer d_is_integer) (n_bool : mg "bool" = none) (n_int : mg "int" = none) (n_isinstance : mg "isinstance" = none) : FnOk P w K mg base (L2.CX P w) 1 a_is_integer d_is_integer ["value"] (spF K mg 1 false f_is_integer) := by
  refine fn_rule (b := bd_is_integer) F_is_integer S_is_integer 0 rfl fun cdv hcd A outer s H E hr => ?_
  exact rss_one (rs_ret (re_and (re_isiT (by simp) (ro_name 0) rfl n_isinstance rfl n_int) (re_one (re_not (ro_of (re_isiT (by simp) (ro_name 0) rfl n_isinstance rfl n_bool))))))
/-! ### is_between -/
abbrev s_is_between : Stmt := top 9
def bd_is_between : SM := retS (eAnd (callV 1 f_is_integer [] (aCons (frz (nmE 0)) (aNil))) (chn leP leP (nmO 1) (nmO 0) (nmO 2)))
def f_is_between : M Vl := fnM 0 bd_is_between
theorem S_is_between : FnScope ["value", "low", "high"] ["value", "low", "high"] (defScope s_is_between) := ⟨rfl, rfl, rfl, by decide +kernel, rfl, by decide +kernel, by decide +kernel⟩
theorem ok_is_between {P : Program} {w : World} {K : PySem.W.Frag} {mg : MgT} {base : Heap} {a_is_between : Addr} {d_is_between : FuncData} {a_is_integer : Addr} {d_is_integer : FuncData} (F_is_between : FnP K "is_between" s_is_between a_is_between d_is_between) (F_is_integer : FnP K "is_integer" s_is_integer a_is_integer d_is_integer) (g_is_integer : mg "is_integer" = some (.ref a_is_integer)) (G_is_integer : FnOk P w K mg base (L2.CX P w) 1 a_is_integer d_is_integer ["value"] (spF K mg 1 false f_is_integer)) : FnOk P w K mg base (L2.CX P w) 2 a_is_between d_is_between ["value", "low", "high"] (spF K mg 3 false f_is_between) := by
  have b_is_integer : Binds K d_is_integer ["value"] [] := F_is_integer.bindsN fun _ _ _ _ _ _ us hl => match us, hl with | [_], _ => rfl
  refine fn_rule (b := bd_is_between) F_is_between S_is_between 0 rfl fun cdv hcd A outer s H E hr => ?_
  exact rss_one (rs_ret (re_and (re_call G_is_integer (hr.mono (by decide)) rfl g_is_integer F_is_integer.kp b_is_integer .nil (fun _ _ => .nil) (ra_cons (ro_of (re_name 0)) (ra_nil))) (re_one (re_chn rc_le rc_le (ro_name 1) (ro_name 0) (ro_name 2)))))
/-! ### is_within_limits -/
abbrev s_is_within_limits : Stmt := top 10
def bd_is_within_limits : SM := retS (eAnd (bin leP (frz (callB lenP (aCons (nmO 0) (aNil)))) (frz (cE (.int 60)))) (bin leP (frz (callB sumP (aCons (nmO 0) (aNil)))) (frz (cE (.int 200)))))
def f_is_within_limits : M Vl := fnM 0 bd_is_within_limits
theorem S_is_within_limits : FnScope ["lot"] ["lot"] (defScope s_is_within_limits) := ⟨rfl, rfl, rfl, by decide +kernel, rfl, by decide +kernel, by decide +kernel⟩
theorem ok_is_within_limits {P : Program} {w : World} {K : PySem.W.Frag} {mg : MgT} {base : Heap} {a_is_within_limits : Addr} {d_is_within_limits : FuncData} (F_is_within_limits : FnP K "is_within_limits" s_is_within_limits a_is_within_limits d_is_within_limits) (n_len : mg "len" = none) (n_sum : mg "sum" = none) (i_MOST_STEEL : ∃ t, mg "MOST_STEEL" = some (.int 200 t)) (i_MOST_TOOLS : ∃ t, mg "MOST_TOOLS" = some (.int 60 t)) : FnOk P w K mg base (L2.CX P w) 1 a_is_within_limits d_is_within_limits ["lot"] (spF K mg 1 false f_is_within_limits) := by
  refine fn_rule (b := bd_is_within_limits) F_is_within_limits S_is_within_limits 0 rfl fun cdv hcd A outer s H E hr => ?_
  exact rss_one (rs_ret (re_and (re_c1 rc_le (ro_of (re_callB call_len p_len rfl n_len (ra_cons (ro_name 0) (ra_nil)))) (ro_of (re_globI rfl i_MOST_TOOLS))) (re_one (re_c1 rc_le (ro_of (re_callB (cr_sumA rfl) p_sum rfl n_sum (ra_cons (ro_name 0) (ra_nil)))) (ro_of (re_globI rfl i_MOST_STEEL))))))
/-! ### is_valid_lot -/
abbrev s_is_valid_lot : Stmt := top 11
def bd_is_valid_lot : SM := seqS (ifS (tNotB (tru (frz (un1 (isiP (tyB "tuple") noK) (nmO 0))))) (retS (cE (.bl false))) (nxS)) (seqS (ifS (tNotB (tru (frz (allE [1] (itE (nmE 0)) (tgN 1) (callV 3 f_is_between [] (aCons (frz (nmE 1)) (aCons (frz (cE (.int 1))) (aCons (frz (cE (.int 200))) (aNil))))))))) (retS (cE (.bl false))) (nxS)) (retS (eAnd (bin eqP (frz (callB listP (aCons (nmO 0) (aNil)))) (frz (un1 sortRevP (nmO 0)))) (callV 1 f_is_within_limits [] (aCons (frz (nmE 0)) (aNil))))))
def f_is_valid_lot : M Vl := fnM 1 bd_is_valid_lot
theorem S_is_valid_lot : FnScope ["value", "tool"] ["value"] (defScope s_is_valid_lot) := ⟨rfl, rfl, rfl, by decide +kernel, rfl, by decide +kernel, by decide +kernel⟩
theorem ok_is_valid_lot {P : Program} {w : World} {K : PySem.W.Frag} {mg : MgT} {base : Heap} {a_is_between : Addr} {d_is_between : FuncData} {a_is_valid_lot : Addr} {d_is_valid_lot : FuncData} {a_is_within_limits : Addr} {d_is_within_limits : FuncData} {c_is_valid_lot P_is_valid_lot : Addr} (F_is_valid_lot : FnP K "is_valid_lot" s_is_valid_lot a_is_valid_lot d_is_valid_lot) (F_is_between : FnP K "is_between" s_is_between a_is_between d_is_between) (g_is_between : mg "is_between" = some (.ref a_is_between)) (G_is_between : FnOk P w K mg base (L2.CX P w) 2 a_is_between d_is_between ["value", "low", "high"] (spF K mg 3 false f_is_between)) (F_is_within_limits : FnP K "is_within_limits" s_is_within_limits a_is_within_limits d_is_within_limits) (g_is_within_limits : mg "is_within_limits" = some (.ref a_is_within_limits)) (G_is_within_limits : FnOk P w K mg base (L2.CX P w) 1 a_is_within_limits d_is_within_limits ["lot"] (spF K mg 1 false f_is_within_limits)) (n_all : mg "all" = none) (n_isinstance : mg "isinstance" = none) (n_list : mg "list" = none) (n_sorted : mg "sorted" = none) (n_tuple : mg "tuple" = none) (i_MOST_STEEL : ∃ t, mg "MOST_STEEL" = some (.int 200 t)) (hP_is_valid_lot : Tabs.is P_is_valid_lot) (TB_is_valid_lot : GxR.TabB base mg c_is_valid_lot P_is_valid_lot) (hc_is_valid_lot : ∀ cdv, d_is_valid_lot.code = cdv → cdv = .ref c_is_valid_lot) : FnOk P w K mg base (L2.CX P w) 6 a_is_valid_lot d_is_valid_lot ["value"] (spF K mg 1 false f_is_valid_lot) := by
  have b_is_between : Binds K d_is_between ["value", "low", "high"] [] := F_is_between.bindsN fun _ _ _ _ _ _ us hl => match us, hl with | [_, _, _], _ => rfl
  have b_is_within_limits : Binds K d_is_within_limits ["lot"] [] := F_is_within_limits.bindsN fun _ _ _ _ _ _ us hl => match us, hl with | [_], _ => rfl
  refine fn_rule (b := bd_is_valid_lot) F_is_valid_lot S_is_valid_lot 1 rfl fun cdv hcd A outer s H E hr => ?_
  exact rss_cons (rs_if (rt_not (rt_tru (ro_of (re_isiT (by simp) (ro_name 0) rfl n_isinstance rfl n_tuple)))) (rss_one (rs_ret (re_bl))) (rss_nil)) (rss_cons (rs_if (rt_not (rt_tru (ro_of (re_allB (k := 0) [("tool", 1)] hP_is_valid_lot rfl S_is_valid_lot.nd (hr.mono (by decide)) rfl n_all TB_is_valid_lot (hc_is_valid_lot _ hcd) (by kernel_rfl) (ri_seq (re_name 0)) (fun _ _ _ _ _ _ _ => rg_name S_is_valid_lot.nd rfl (by first | exact Or.inl rfl | exact Or.inr rfl)) (fun _ _ _ _ _ _ _ => re_call G_is_between ((room_gen (k := 2) (hr.mono (by decide)) _).mono (by decide)) rfl g_is_between F_is_between.kp b_is_between .nil (fun _ _ => .nil) (ra_cons (ro_of (re_name 1)) (ra_cons (ro_of (re_int)) (ra_cons (ro_of (re_globI rfl i_MOST_STEEL)) (ra_nil))))) (gonly_name (by decide)))))) (rss_one (rs_ret (re_bl))) (rss_nil)) (rss_one (rs_ret (re_and (re_c1 (rc_eq hr) (ro_of (re_callTy call_list_of p_list rfl n_list (ra_cons (ro_name 0) (ra_nil)))) (ro_of (re_sortRev (ro_name 0) rfl n_sorted))) (re_one (re_call G_is_within_limits (hr.mono (by decide)) rfl g_is_within_limits F_is_within_limits.kp b_is_within_limits .nil (fun _ _ => .nil) (ra_cons (ro_of (re_name 0)) (ra_nil))))))))
/-! ### check_lot -/
abbrev s_check_lot : Stmt := top 12
def bd_check_lot : SM := ifS (tNotB (tru (frz (callV 1 f_is_valid_lot [] (aCons (frz (nmE 0)) (aNil)))))) (raise0 "InvalidLot") (nxS)
def f_check_lot : M Vl := fnM 0 bd_check_lot
theorem S_check_lot : FnScope ["value"] ["value"] (defScope s_check_lot) := ⟨rfl, rfl, rfl, by decide +kernel, rfl, by decide +kernel, by decide +kernel⟩
theorem ok_check_lot {P : Program} {w : World} {K : PySem.W.Frag} {mg : MgT} {base : Heap} {a_check_lot : Addr} {d_check_lot : FuncData} {a_is_valid_lot : Addr} {d_is_valid_lot : FuncData} (F_check_lot : FnP K "check_lot" s_check_lot a_check_lot d_check_lot) (F_is_valid_lot : FnP K "is_valid_lot" s_is_valid_lot a_is_valid_lot d_is_valid_lot) (g_is_valid_lot : mg "is_valid_lot" = some (.ref a_is_valid_lot)) (G_is_valid_lot : FnOk P w K mg base (L2.CX P w) 6 a_is_valid_lot d_is_valid_lot ["value"] (spF K mg 1 false f_is_valid_lot)) (e_InvalidLot : ErrK K mg "InvalidLot") : FnOk P w K mg base (L2.CX P w) 7 a_check_lot d_check_lot ["value"] (spF K mg 1 false f_check_lot) := by
  have b_is_valid_lot : Binds K d_is_valid_lot ["value"] [] := F_is_valid_lot.bindsN fun _ _ _ _ _ _ us hl => match us, hl with | [_], _ => rfl
  refine fn_rule (b := bd_check_lot) F_check_lot S_check_lot 0 rfl fun cdv hcd A outer s H E hr => ?_
  exact rss_one (rs_if (rt_not (rt_tru (ro_of (re_call G_is_valid_lot (hr.mono (by decide)) rfl g_is_valid_lot F_is_valid_lot.kp b_is_valid_lot .nil (fun _ _ => .nil) (ra_cons (ro_of (re_name 0)) (ra_nil)))))) (rss_one (rs_raiseE rfl e_InvalidLot rfl)) (rss_nil))
/-! ### check_positive -/
abbrev s_check_positive : Stmt := top 13
def bd_check_positive : SM := ifS (tNotB (tru (frz (callV 3 f_is_between [] (aCons (frz (nmE 0)) (aCons (frz (cE (.int 1))) (aCons (frz (cE (.int 200))) (aNil)))))))) (raise0 "InvalidNumber") (nxS)
def f_check_positive : M Vl := fnM 0 bd_check_positive
theorem S_check_positive : FnScope ["value"] ["value"] (defScope s_check_positive) := ⟨rfl, rfl, rfl, by decide +kernel, rfl, by decide +kernel, by decide +kernel⟩
theorem ok_check_positive {P : Program} {w : World} {K : PySem.W.Frag} {mg : MgT} {base : Heap} {a_check_positive : Addr} {d_check_positive : FuncData} {a_is_between : Addr} {d_is_between : FuncData} (F_check_positive : FnP K "check_positive" s_check_positive a_check_positive d_check_positive) (F_is_between : FnP K "is_between" s_is_between a_is_between d_is_between) (g_is_between : mg "is_between" = some (.ref a_is_between)) (G_is_between : FnOk P w K mg base (L2.CX P w) 2 a_is_between d_is_between ["value", "low", "high"] (spF K mg 3 false f_is_between)) (i_MOST_NUMBER : ∃ t, mg "MOST_NUMBER" = some (.int 200 t)) (e_InvalidNumber : ErrK K mg "InvalidNumber") : FnOk P w K mg base (L2.CX P w) 3 a_check_positive d_check_positive ["value"] (spF K mg 1 false f_check_positive) := by
  have b_is_between : Binds K d_is_between ["value", "low", "high"] [] := F_is_between.bindsN fun _ _ _ _ _ _ us hl => match us, hl with | [_, _, _], _ => rfl
  refine fn_rule (b := bd_check_positive) F_check_positive S_check_positive 0 rfl fun cdv hcd A outer s H E hr => ?_
  exact rss_one (rs_if (rt_not (rt_tru (ro_of (re_call G_is_between (hr.mono (by decide)) rfl g_is_between F_is_between.kp b_is_between .nil (fun _ _ => .nil) (ra_cons (ro_of (re_name 0)) (ra_cons (ro_of (re_int)) (ra_cons (ro_of (re_globI rfl i_MOST_NUMBER)) (ra_nil)))))))) (rss_one (rs_raiseE rfl e_InvalidNumber rfl)) (rss_nil))
/-! ### check_count -/
abbrev s_check_count : Stmt := top 14
def bd_check_count : SM := ifS (tNotB (tru (frz (callV 3 f_is_between [] (aCons (frz (nmE 0)) (aCons (frz (cE (.int 0))) (aCons (frz (cE (.int 200))) (aNil)))))))) (raise0 "InvalidNumber") (nxS)
def f_check_count : M Vl := fnM 0 bd_check_count
theorem S_check_count : FnScope ["value"] ["value"] (defScope s_check_count) := ⟨rfl, rfl, rfl, by decide +kernel, rfl, by decide +kernel, by decide +kernel⟩
theorem ok_check_count {P : Program} {w : World} {K : PySem.W.Frag} {mg : MgT} {base : Heap} {a_check_count : Addr} {d_check_count : FuncData} {a_is_between : Addr} {d_is_between : FuncData} (F_check_count : FnP K "check_count" s_check_count a_check_count d_check_count) (F_is_between : FnP K "is_between" s_is_between a_is_between d_is_between) (g_is_between : mg "is_between" = some (.ref a_is_between)) (G_is_between : FnOk P w K mg base (L2.CX P w) 2 a_is_between d_is_between ["value", "low", "high"] (spF K mg 3 false f_is_between)) (i_MOST_NUMBER : ∃ t, mg "MOST_NUMBER" = some (.int 200 t)) (e_InvalidNumber : ErrK K mg "InvalidNumber") : FnOk P w K mg base (L2.CX P w) 3 a_check_count d_check_count ["value"] (spF K mg 1 false f_check_count) := by
  have b_is_between : Binds K d_is_between ["value", "low", "high"] [] := F_is_between.bindsN fun _ _ _ _ _ _ us hl => match us, hl with | [_, _, _], _ => rfl
  refine fn_rule (b := bd_check_count) F_check_count S_check_count 0 rfl fun cdv hcd A outer s H E hr => ?_
  exact rss_one (rs_if (rt_not (rt_tru (ro_of (re_call G_is_between (hr.mono (by decide)) rfl g_is_between F_is_between.kp b_is_between .nil (fun _ _ => .nil) (ra_cons (ro_of (re_name 0)) (ra_cons (ro_of (re_int)) (ra_cons (ro_of (re_globI rfl i_MOST_NUMBER)) (ra_nil)))))))) (rss_one (rs_raiseE rfl e_InvalidNumber rfl)) (rss_nil))
/-! ### steel -/
abbrev s_steel : Stmt := top 16
def bd_steel : SM := seqS (exS (callV 1 f_check_lot [] (aCons (frz (nmE 0)) (aNil)))) (retS (callB sumP (aCons (nmO 0) (aNil))))
def f_steel : M Vl := fnM 0 bd_steel
theorem S_steel : FnScope ["lot"] ["lot"] (defScope s_steel) := ⟨rfl, rfl, rfl, by decide +kernel, rfl, by decide +kernel, by decide +kernel⟩
theorem ok_steel {P : Program} {w : World} {K : PySem.W.Frag} {mg : MgT} {base : Heap} {a_check_lot : Addr} {d_check_lot : FuncData} {a_steel : Addr} {d_steel : FuncData} (F_steel : FnP K "steel" s_steel a_steel d_steel) (F_check_lot : FnP K "check_lot" s_check_lot a_check_lot d_check_lot) (g_check_lot : mg "check_lot" = some (.ref a_check_lot)) (G_check_lot : FnOk P w K mg base (L2.CX P w) 7 a_check_lot d_check_lot ["value"] (spF K mg 1 false f_check_lot)) (n_sum : mg "sum" = none) : FnOk P w K mg base (L2.CX P w) 8 a_steel d_steel ["lot"] (spF K mg 1 false f_steel) := by
  have b_check_lot : Binds K d_check_lot ["value"] [] := F_check_lot.bindsN fun _ _ _ _ _ _ us hl => match us, hl with | [_], _ => rfl
  refine fn_rule (b := bd_steel) F_steel S_steel 0 rfl fun cdv hcd A outer s H E hr => ?_
  exact rss_cons (rs_expr (re_call G_check_lot (hr.mono (by decide)) rfl g_check_lot F_check_lot.kp b_check_lot .nil (fun _ _ => .nil) (ra_cons (ro_of (re_name 0)) (ra_nil)))) (rss_one (rs_ret (re_callB (cr_sumA rfl) p_sum rfl n_sum (ra_cons (ro_name 0) (ra_nil)))))
/-! ### top_sum -/
abbrev s_top_sum : Stmt := top 17
def bd_top_sum : SM := seqS (exS (callV 1 f_check_lot [] (aCons (frz (nmE 0)) (aNil)))) (seqS (exS (callV 1 f_check_count [] (aCons (frz (nmE 1)) (aNil)))) (retS (callB sumP (aCons (frz (slE (nmO 0) (ptN) (ptS (nmO 1)))) (aNil)))))
def f_top_sum : M Vl := fnM 0 bd_top_sum
theorem S_top_sum : FnScope ["lot", "count"] ["lot", "count"] (defScope s_top_sum) := ⟨rfl, rfl, rfl, by decide +kernel, rfl, by decide +kernel, by decide +kernel⟩
theorem ok_top_sum {P : Program} {w : World} {K : PySem.W.Frag} {mg : MgT} {base : Heap} {a_check_count : Addr} {d_check_count : FuncData} {a_check_lot : Addr} {d_check_lot : FuncData} {a_top_sum : Addr} {d_top_sum : FuncData} (F_top_sum : FnP K "top_sum" s_top_sum a_top_sum d_top_sum) (F_check_count : FnP K "check_count" s_check_count a_check_count d_check_count) (g_check_count : mg "check_count" = some (.ref a_check_count)) (G_check_count : FnOk P w K mg base (L2.CX P w) 3 a_check_count d_check_count ["value"] (spF K mg 1 false f_check_count)) (F_check_lot : FnP K "check_lot" s_check_lot a_check_lot d_check_lot) (g_check_lot : mg "check_lot" = some (.ref a_check_lot)) (G_check_lot : FnOk P w K mg base (L2.CX P w) 7 a_check_lot d_check_lot ["value"] (spF K mg 1 false f_check_lot)) (n_sum : mg "sum" = none) : FnOk P w K mg base (L2.CX P w) 8 a_top_sum d_top_sum ["lot", "count"] (spF K mg 2 false f_top_sum) := by
  have b_check_count : Binds K d_check_count ["value"] [] := F_check_count.bindsN fun _ _ _ _ _ _ us hl => match us, hl with | [_], _ => rfl
  have b_check_lot : Binds K d_check_lot ["value"] [] := F_check_lot.bindsN fun _ _ _ _ _ _ us hl => match us, hl with | [_], _ => rfl
  refine fn_rule (b := bd_top_sum) F_top_sum S_top_sum 0 rfl fun cdv hcd A outer s H E hr => ?_
  exact rss_cons (rs_expr (re_call G_check_lot (hr.mono (by decide)) rfl g_check_lot F_check_lot.kp b_check_lot .nil (fun _ _ => .nil) (ra_cons (ro_of (re_name 0)) (ra_nil)))) (rss_cons (rs_expr (re_call G_check_count (hr.mono (by decide)) rfl g_check_count F_check_count.kp b_check_count .nil (fun _ _ => .nil) (ra_cons (ro_of (re_name 1)) (ra_nil)))) (rss_one (rs_ret (re_callB (cr_sumA rfl) p_sum rfl n_sum (ra_cons (ro_of (re_slice (ro_name 0) (rpo_none) (rpo_some (ro_name 1)))) (ra_nil))))))
/-! ### capacity_of -/
abbrev s_capacity_of : Stmt := top 20
def bd_capacity_of : SM := retS (callB sumP (aCons (frz (lcE [2] (itE (nmE 0)) (tgN 2) (tst (bin geP (nmO 2) (nmO 1))) (bin addP (frz (bin subP (nmO 2) (nmO 1))) (frz (cE (.int 1)))))) (aNil)))
def f_capacity_of : M Vl := fnM 1 bd_capacity_of
theorem S_capacity_of : FnScope ["tools", "need", "tool"] ["tools", "need"] (defScope s_capacity_of) := ⟨rfl, rfl, rfl, by decide +kernel, rfl, by decide +kernel, by decide +kernel⟩
theorem ok_capacity_of {P : Program} {w : World} {K : PySem.W.Frag} {mg : MgT} {base : Heap} {a_capacity_of : Addr} {d_capacity_of : FuncData} (F_capacity_of : FnP K "capacity_of" s_capacity_of a_capacity_of d_capacity_of) (n_sum : mg "sum" = none) : FnOk P w K mg base (L2.CX P w) 1 a_capacity_of d_capacity_of ["tools", "need"] (spF K mg 2 false f_capacity_of) := by
  refine fn_rule (b := bd_capacity_of) F_capacity_of S_capacity_of 1 rfl fun cdv hcd A outer s H E hr => ?_
  exact rss_one (rs_ret (re_callB (cr_sumA rfl) p_sum rfl n_sum (ra_cons (ro_of (re_lcB [("tool", 2)] rfl S_capacity_of.nd (by kernel_rfl) (ri_seq (re_name 0)) (fun _ _ _ _ _ => rg_name S_capacity_of.nd rfl (by first | exact Or.inl rfl | exact Or.inr rfl)) (fun _ _ _ _ _ => rts_one (rt_c1 rc_ge (ro_name 2) (ro_name 1))) (fun _ _ _ _ _ => re_add (ro_of (re_sub (ro_name 2) (ro_name 1))) (ro_of (re_int))) (gonly_name (by decide)))) (ra_nil))))
/-! ### capacity -/
abbrev s_capacity : Stmt := top 18
def bd_capacity : SM := seqS (exS (callV 1 f_check_lot [] (aCons (frz (nmE 0)) (aNil)))) (seqS (exS (callV 1 f_check_positive [] (aCons (frz (nmE 1)) (aNil)))) (retS (callV 2 f_capacity_of [] (aCons (frz (nmE 0)) (aCons (frz (nmE 1)) (aNil))))))
def f_capacity : M Vl := fnM 0 bd_capacity
theorem S_capacity : FnScope ["lot", "need"] ["lot", "need"] (defScope s_capacity) := ⟨rfl, rfl, rfl, by decide +kernel, rfl, by decide +kernel, by decide +kernel⟩
theorem ok_capacity {P : Program} {w : World} {K : PySem.W.Frag} {mg : MgT} {base : Heap} {a_capacity : Addr} {d_capacity : FuncData} {a_capacity_of : Addr} {d_capacity_of : FuncData} {a_check_lot : Addr} {d_check_lot : FuncData} {a_check_positive : Addr} {d_check_positive : FuncData} (F_capacity : FnP K "capacity" s_capacity a_capacity d_capacity) (F_capacity_of : FnP K "capacity_of" s_capacity_of a_capacity_of d_capacity_of) (g_capacity_of : mg "capacity_of" = some (.ref a_capacity_of)) (G_capacity_of : FnOk P w K mg base (L2.CX P w) 1 a_capacity_of d_capacity_of ["tools", "need"] (spF K mg 2 false f_capacity_of)) (F_check_lot : FnP K "check_lot" s_check_lot a_check_lot d_check_lot) (g_check_lot : mg "check_lot" = some (.ref a_check_lot)) (G_check_lot : FnOk P w K mg base (L2.CX P w) 7 a_check_lot d_check_lot ["value"] (spF K mg 1 false f_check_lot)) (F_check_positive : FnP K "check_positive" s_check_positive a_check_positive d_check_positive) (g_check_positive : mg "check_positive" = some (.ref a_check_positive)) (G_check_positive : FnOk P w K mg base (L2.CX P w) 3 a_check_positive d_check_positive ["value"] (spF K mg 1 false f_check_positive)) : FnOk P w K mg base (L2.CX P w) 8 a_capacity d_capacity ["lot", "need"] (spF K mg 2 false f_capacity) := by
  have b_capacity_of : Binds K d_capacity_of ["tools", "need"] [] := F_capacity_of.bindsN fun _ _ _ _ _ _ us hl => match us, hl with | [_, _], _ => rfl
  have b_check_lot : Binds K d_check_lot ["value"] [] := F_check_lot.bindsN fun _ _ _ _ _ _ us hl => match us, hl with | [_], _ => rfl
  have b_check_positive : Binds K d_check_positive ["value"] [] := F_check_positive.bindsN fun _ _ _ _ _ _ us hl => match us, hl with | [_], _ => rfl
  refine fn_rule (b := bd_capacity) F_capacity S_capacity 0 rfl fun cdv hcd A outer s H E hr => ?_
  exact rss_cons (rs_expr (re_call G_check_lot (hr.mono (by decide)) rfl g_check_lot F_check_lot.kp b_check_lot .nil (fun _ _ => .nil) (ra_cons (ro_of (re_name 0)) (ra_nil)))) (rss_cons (rs_expr (re_call G_check_positive (hr.mono (by decide)) rfl g_check_positive F_check_positive.kp b_check_positive .nil (fun _ _ => .nil) (ra_cons (ro_of (re_name 1)) (ra_nil)))) (rss_one (rs_ret (re_call G_capacity_of (hr.mono (by decide)) rfl g_capacity_of F_capacity_of.kp b_capacity_of .nil (fun _ _ => .nil) (ra_cons (ro_of (re_name 0)) (ra_cons (ro_of (re_name 1)) (ra_nil)))))))
/-! ### count_from -/
abbrev s_count_from : Stmt := top 19
def bd_count_from : SM := seqS (exS (callV 1 f_check_lot [] (aCons (frz (nmE 0)) (aNil)))) (seqS (exS (callV 1 f_check_positive [] (aCons (frz (nmE 1)) (aNil)))) (retS (callB lenP (aCons (frz (lcE [2] (itE (nmE 0)) (tgN 2) (tst (bin geP (nmO 2) (nmO 1))) (nmE 2))) (aNil)))))
def f_count_from : M Vl := fnM 1 bd_count_from
theorem S_count_from : FnScope ["lot", "need", "tool"] ["lot", "need"] (defScope s_count_from) := ⟨rfl, rfl, rfl, by decide +kernel, rfl, by decide +kernel, by decide +kernel⟩
theorem ok_count_from {P : Program} {w : World} {K : PySem.W.Frag} {mg : MgT} {base : Heap} {a_check_lot : Addr} {d_check_lot : FuncData} {a_check_positive : Addr} {d_check_positive : FuncData} {a_count_from : Addr} {d_count_from : FuncData} (F_count_from : FnP K "count_from" s_count_from a_count_from d_count_from) (F_check_lot : FnP K "check_lot" s_check_lot a_check_lot d_check_lot) (g_check_lot : mg "check_lot" = some (.ref a_check_lot)) (G_check_lot : FnOk P w K mg base (L2.CX P w) 7 a_check_lot d_check_lot ["value"] (spF K mg 1 false f_check_lot)) (F_check_positive : FnP K "check_positive" s_check_positive a_check_positive d_check_positive) (g_check_positive : mg "check_positive" = some (.ref a_check_positive)) (G_check_positive : FnOk P w K mg base (L2.CX P w) 3 a_check_positive d_check_positive ["value"] (spF K mg 1 false f_check_positive)) (n_len : mg "len" = none) : FnOk P w K mg base (L2.CX P w) 8 a_count_from d_count_from ["lot", "need"] (spF K mg 2 false f_count_from) := by
  have b_check_lot : Binds K d_check_lot ["value"] [] := F_check_lot.bindsN fun _ _ _ _ _ _ us hl => match us, hl with | [_], _ => rfl
  have b_check_positive : Binds K d_check_positive ["value"] [] := F_check_positive.bindsN fun _ _ _ _ _ _ us hl => match us, hl with | [_], _ => rfl
  refine fn_rule (b := bd_count_from) F_count_from S_count_from 1 rfl fun cdv hcd A outer s H E hr => ?_
  exact rss_cons (rs_expr (re_call G_check_lot (hr.mono (by decide)) rfl g_check_lot F_check_lot.kp b_check_lot .nil (fun _ _ => .nil) (ra_cons (ro_of (re_name 0)) (ra_nil)))) (rss_cons (rs_expr (re_call G_check_positive (hr.mono (by decide)) rfl g_check_positive F_check_positive.kp b_check_positive .nil (fun _ _ => .nil) (ra_cons (ro_of (re_name 1)) (ra_nil)))) (rss_one (rs_ret (re_callB call_len p_len rfl n_len (ra_cons (ro_of (re_lcB [("tool", 2)] rfl S_count_from.nd (by kernel_rfl) (ri_seq (re_name 0)) (fun _ _ _ _ _ => rg_name S_count_from.nd rfl (by first | exact Or.inl rfl | exact Or.inr rfl)) (fun _ _ _ _ _ => rts_one (rt_c1 rc_ge (ro_name 2) (ro_name 1))) (fun _ _ _ _ _ => re_name 2) (gonly_name (by decide)))) (ra_nil))))))
/-! ### _law_mixed -/
abbrev s_u_law_mixed : Stmt := top 22
def bd_u_law_mixed : SM := seqS (setS 2 (bin modP (frz (bin addP (frz (bin addP (frz (bin mulP (frz (bin modP (nmO 0) (frz (cE (.int 2147483647))))) (frz (cE (.int 48271))))) (frz (bin mulP (nmO 1) (frz (cE (.int 69621))))))) (frz (cE (.int 1048583))))) (frz (cE (.int 2147483629))))) (seqS (setS 2 (bin modP (frz (bin mulP (nmO 2) (nmO 2))) (frz (cE (.int 2147483587))))) (retS (bin modP (frz (bin mulP (nmO 2) (frz (bin addP (nmO 2) (frz (cE (.int 2))))))) (frz (cE (.int 2147483579))))))
def f_u_law_mixed : M Vl := fnM 1 bd_u_law_mixed
theorem S_u_law_mixed : FnScope ["cell", "k", "mix"] ["cell", "k"] (defScope s_u_law_mixed) := ⟨rfl, rfl, rfl, by decide +kernel, rfl, by decide +kernel, by decide +kernel⟩
theorem ok_u_law_mixed {P : Program} {w : World} {K : PySem.W.Frag} {mg : MgT} {base : Heap} {a_u_law_mixed : Addr} {d_u_law_mixed : FuncData} (F_u_law_mixed : FnP K "_law_mixed" s_u_law_mixed a_u_law_mixed d_u_law_mixed) : FnOk P w K mg base (L2.CX P w) 1 a_u_law_mixed d_u_law_mixed ["cell", "k"] (spF K mg 2 false f_u_law_mixed) := by
  refine fn_rule (b := bd_u_law_mixed) F_u_law_mixed S_u_law_mixed 1 rfl fun cdv hcd A outer s H E hr => ?_
  exact rss_cons (rs_set S_u_law_mixed.nd (i := 2) rfl (by first | exact Or.inl rfl | exact Or.inr rfl) (re_mod (ro_of (re_add (ro_of (re_add (ro_of (re_mul (ro_of (re_mod (ro_name 0) (ro_of (re_int)))) (ro_of (re_int)))) (ro_of (re_mul (ro_name 1) (ro_of (re_int)))))) (ro_of (re_int)))) (ro_of (re_int)))) (rss_cons (rs_set S_u_law_mixed.nd (i := 2) rfl (by first | exact Or.inl rfl | exact Or.inr rfl) (re_mod (ro_of (re_mul (ro_name 2) (ro_name 2))) (ro_of (re_int)))) (rss_one (rs_ret (re_mod (ro_of (re_mul (ro_name 2) (ro_of (re_add (ro_name 2) (ro_of (re_int)))))) (ro_of (re_int))))))
/-! ### _law_cell -/
abbrev s_u_law_cell : Stmt := top 23
def bd_u_law_cell : SM := seqS (setS 2 (cE (.int 0))) (seqS (ifS (tst (bin ltP (nmO 1) (frz (callB lenP (aCons (nmO 0) (aNil)))))) (setS 2 (bin ixP (nmO 0) (nmO 1))) (nxS)) (seqS (ifS (tst (bin geP (nmO 2) (frz (bin powP (frz (cE (.int 10))) (frz (cE (.int 18))))))) (retS (bin modP (frz (bin subP (nmO 2) (frz (bin powP (frz (cE (.int 10))) (frz (cE (.int 18))))))) (frz (bin mulP (frz (bin mulP (frz (bin mulP (frz (bin powP (frz (cE (.int 10))) (frz (cE (.int 60))))) (frz (bin powP (frz (cE (.int 10))) (frz (cE (.int 60))))))) (frz (bin powP (frz (cE (.int 10))) (frz (cE (.int 60))))))) (frz (bin powP (frz (cE (.int 10))) (frz (cE (.int 60))))))))) (nxS)) (seqS (setS 3 (cE (.int 0))) (seqS (forS (itR1 (aCons (frz (cE (.int 24))) (aNil))) (tgN 4) (setS 3 (bin addP (frz (bin mulP (nmO 3) (frz (cE (.int 2147483579))))) (frz (callV 2 f_u_law_mixed [] (aCons (frz (nmE 2)) (aCons (frz (bin addP (frz (bin addP (frz (bin mulP (frz (cE (.int 7))) (nmO 1))) (frz (bin mulP (frz (cE (.int 100))) (nmO 4))))) (frz (bin mulP (nmO 4) (nmO 4))))) (aNil)))))))) (retS (nmM 3))))))
def f_u_law_cell : M Vl := fnM 3 bd_u_law_cell
theorem S_u_law_cell : FnScope ["script", "k", "cell", "found", "j"] ["script", "k"] (defScope s_u_law_cell) := ⟨rfl, rfl, rfl, by decide +kernel, rfl, by decide +kernel, by decide +kernel⟩
theorem ok_u_law_cell {P : Program} {w : World} {K : PySem.W.Frag} {mg : MgT} {base : Heap} {a_u_law_cell : Addr} {d_u_law_cell : FuncData} {a_u_law_mixed : Addr} {d_u_law_mixed : FuncData} (F_u_law_cell : FnP K "_law_cell" s_u_law_cell a_u_law_cell d_u_law_cell) (F_u_law_mixed : FnP K "_law_mixed" s_u_law_mixed a_u_law_mixed d_u_law_mixed) (g_u_law_mixed : mg "_law_mixed" = some (.ref a_u_law_mixed)) (G_u_law_mixed : FnOk P w K mg base (L2.CX P w) 1 a_u_law_mixed d_u_law_mixed ["cell", "k"] (spF K mg 2 false f_u_law_mixed)) (n_len : mg "len" = none) (n_range : mg "range" = none) : FnOk P w K mg base (L2.CX P w) 2 a_u_law_cell d_u_law_cell ["script", "k"] (spF K mg 2 false f_u_law_cell) := by
  have b_u_law_mixed : Binds K d_u_law_mixed ["cell", "k"] [] := F_u_law_mixed.bindsN fun _ _ _ _ _ _ us hl => match us, hl with | [_, _], _ => rfl
  refine fn_rule (b := bd_u_law_cell) F_u_law_cell S_u_law_cell 3 rfl fun cdv hcd A outer s H E hr => ?_
  exact rss_cons (rs_set S_u_law_cell.nd (i := 2) rfl (by first | exact Or.inl rfl | exact Or.inr rfl) (re_int)) (rss_cons (rs_if (rt_c1 rc_lt (ro_name 1) (ro_of (re_callB call_len p_len rfl n_len (ra_cons (ro_name 0) (ra_nil))))) (rss_one (rs_set S_u_law_cell.nd (i := 2) rfl (by first | exact Or.inl rfl | exact Or.inr rfl) (re_ix (ro_name 0) (ro_name 1)))) (rss_nil)) (rss_cons (rs_if (rt_c1 rc_ge (ro_name 2) (ro_of (re_pow (ro_of (re_int)) (ro_of (re_int))))) (rss_one (rs_ret (re_mod (ro_of (re_sub (ro_name 2) (ro_of (re_pow (ro_of (re_int)) (ro_of (re_int)))))) (ro_of (re_mul (ro_of (re_mul (ro_of (re_mul (ro_of (re_pow (ro_of (re_int)) (ro_of (re_int)))) (ro_of (re_pow (ro_of (re_int)) (ro_of (re_int)))))) (ro_of (re_pow (ro_of (re_int)) (ro_of (re_int)))))) (ro_of (re_pow (ro_of (re_int)) (ro_of (re_int))))))))) (rss_nil)) (rss_cons (rs_set S_u_law_cell.nd (i := 3) rfl (by first | exact Or.inl rfl | exact Or.inr rfl) (re_int)) (rss_cons (rs_for (passes_of rfl) rfl (ri_range1 rfl n_range (ra_cons (ro_of (re_int)) (ra_nil))) (rg_name S_u_law_cell.nd rfl (by first | exact Or.inl rfl | exact Or.inr rfl)) (rss_one (rs_set S_u_law_cell.nd (i := 3) rfl (by first | exact Or.inl rfl | exact Or.inr rfl) (re_add (ro_of (re_mul (ro_name 3) (ro_of (re_int)))) (ro_of (re_call G_u_law_mixed (hr.mono (by decide)) rfl g_u_law_mixed F_u_law_mixed.kp b_u_law_mixed .nil (fun _ _ => .nil) (ra_cons (ro_of (re_name 2)) (ra_cons (ro_of (re_add (ro_of (re_add (ro_of (re_mul (ro_of (re_int)) (ro_name 1))) (ro_of (re_mul (ro_of (re_int)) (ro_name 4))))) (ro_of (re_mul (ro_name 4) (ro_name 4))))) (ra_nil))))))))) (rss_one (rs_ret (re_move 3)))))))
/-! ### _law_take -/
abbrev s_u_law_take : Stmt := top 24
def bd_u_law_take : SM := seqS (setS 2 (bin modP (frz (bin ixP (nmO 0) (frz (cE (.int 0))))) (nmO 1))) (seqS (setIx 0 (bin divP (frz (bin ixP (nmO 0) (frz (cE (.int 0))))) (nmO 1)) (frz (cE (.int 0)))) (retS (nmM 2)))
def f_u_law_take : M Vl := fnM 1 bd_u_law_take
theorem S_u_law_take : FnScope ["own", "size", "digit"] ["own", "size"] (defScope s_u_law_take) := ⟨rfl, rfl, rfl, by decide +kernel, rfl, by decide +kernel, by decide +kernel⟩
theorem ok_u_law_take {P : Program} {w : World} {K : PySem.W.Frag} {mg : MgT} {base : Heap} {a_u_law_take : Addr} {d_u_law_take : FuncData} (F_u_law_take : FnP K "_law_take" s_u_law_take a_u_law_take d_u_law_take) : FnOk P w K mg base (L2.CX P w) 1 a_u_law_take d_u_law_take ["own", "size"] (spF K mg 2 true f_u_law_take) := by
  refine fn_rule (b := bd_u_law_take) F_u_law_take S_u_law_take 1 rfl fun cdv hcd A outer s H E hr => ?_
  exact rss_cons (rs_set S_u_law_take.nd (i := 2) rfl (by first | exact Or.inl rfl | exact Or.inr rfl) (re_mod (ro_of (re_ix (ro_name 0) (ro_of (re_int)))) (ro_name 1))) (rss_cons (rs_setIx 0 (re_div (ro_of (re_ix (ro_name 0) (ro_of (re_int)))) (ro_name 1)) (ro_of (re_int))) (rss_one (rs_ret (re_move 2))))
/-! ### _law_lot -/
abbrev s_u_law_lot : Stmt := top 25
def w_u_law_lot_0 : Nat := 1000
def bd_u_law_lot : SM := seqS (setS 3 (un1 revP (frz (callB sortP (aCons (frz (lcE [4] (itR1 (aCons (frz (callI 2 f_u_law_take [] (aCons (nmO 0) (aCons (frz (bin addP (nmO 1) (frz (cE (.int 1))))) (aNil))))) (aNil))) (tgN 4) (yesB) (bin addP (frz (cE (.int 1))) (frz (callI 2 f_u_law_take [] (aCons (nmO 0) (aCons (frz (nmE 2)) (aNil)))))))) (aNil)))))) (seqS (whS (tst (bin gtP (frz (callB sumP (aCons (nmO 3) (aNil)))) (frz (cE (.int 200))))) (exS (mtd 3 gPopAt (aCons (frz (cE (.int 0))) (aNil)))) w_u_law_lot_0) (retS (callB tupleP (aCons (nmO 3) (aNil)))))
def f_u_law_lot : M Vl := fnM 2 bd_u_law_lot
theorem S_u_law_lot : FnScope ["own", "tools", "top", "values", "k"] ["own", "tools", "top"] (defScope s_u_law_lot) := ⟨rfl, rfl, rfl, by decide +kernel, rfl, by decide +kernel, by decide +kernel⟩
theorem ok_u_law_lot {P : Program} {w : World} {K : PySem.W.Frag} {mg : MgT} {base : Heap} {a_u_law_lot : Addr} {d_u_law_lot : FuncData} {a_u_law_take : Addr} {d_u_law_take : FuncData} (F_u_law_lot : FnP K "_law_lot" s_u_law_lot a_u_law_lot d_u_law_lot) (F_u_law_take : FnP K "_law_take" s_u_law_take a_u_law_take d_u_law_take) (g_u_law_take : mg "_law_take" = some (.ref a_u_law_take)) (G_u_law_take : FnOk P w K mg base (L2.CX P w) 1 a_u_law_take d_u_law_take ["own", "size"] (spF K mg 2 true f_u_law_take)) (n_range : mg "range" = none) (n_sorted : mg "sorted" = none) (n_sum : mg "sum" = none) (n_tuple : mg "tuple" = none) : FnOk P w K mg base (L2.CX P w) 2 a_u_law_lot d_u_law_lot ["own", "tools", "top"] (spF K mg 3 true f_u_law_lot) := by
  have b_u_law_take : Binds K d_u_law_take ["own", "size"] [] := F_u_law_take.bindsN fun _ _ _ _ _ _ us hl => match us, hl with | [_, _], _ => rfl
  refine fn_rule (b := bd_u_law_lot) F_u_law_lot S_u_law_lot 2 rfl fun cdv hcd A outer s H E hr => ?_
  exact rss_cons (rs_set S_u_law_lot.nd (i := 3) rfl (by first | exact Or.inl rfl | exact Or.inr rfl) (re_rev (ro_of (re_callB cr_sortedI p_sort rfl n_sorted (ra_cons (ro_of (re_lcB [("k", 4)] rfl S_u_law_lot.nd (by kernel_rfl) (ri_range1 rfl n_range (ra_cons (ro_of (re_callI G_u_law_take (hr.mono (by decide)) rfl g_u_law_take F_u_law_take.kp b_u_law_take .nil (fun _ _ => .nil) (ra_cons (ro_name 0) (ra_cons (ro_of (re_add (ro_name 1) (ro_of (re_int)))) (ra_nil))))) (ra_nil))) (fun _ _ _ _ _ => rg_name S_u_law_lot.nd rfl (by first | exact Or.inl rfl | exact Or.inr rfl)) (fun _ _ _ _ _ => rts_nil) (fun _ _ _ _ _ => re_add (ro_of (re_int)) (ro_of (re_callI G_u_law_take (hr.mono (by decide)) rfl g_u_law_take F_u_law_take.kp b_u_law_take .nil (fun _ _ => .nil) (ra_cons (ro_name 0) (ra_cons (ro_of (re_name 2)) (ra_nil)))))) (gonly_name (by decide)))) (ra_nil)))))) (rss_cons (rs_while w_u_law_lot_0 (passes_of rfl) (rt_c1 rc_gt (ro_of (re_callB (cr_sumA rfl) p_sum rfl n_sum (ra_cons (ro_name 3) (ra_nil)))) (ro_of (re_int))) (rss_one (rs_expr (re_mtd 3 PySem.F.slot_list_pop PySem.F.type_list_pop mt_popAt mu_popAt (ra_cons (ro_of (re_int)) (ra_nil)))))) (rss_one (rs_ret (re_callTy call_tuple_of p_tuple rfl n_tuple (ra_cons (ro_name 3) (ra_nil))))))
/-! ### _law_capacity -/
abbrev s_u_law_capacity : Stmt := top 26
def bd_u_law_capacity : SM := retS (callB sumP (aCons (frz (lcE [2] (itE (nmE 0)) (tgN 2) (tst (bin geP (nmO 2) (nmO 1))) (bin addP (frz (bin subP (nmO 2) (nmO 1))) (frz (cE (.int 1)))))) (aNil)))
def f_u_law_capacity : M Vl := fnM 1 bd_u_law_capacity
theorem S_u_law_capacity : FnScope ["batch", "level", "value"] ["batch", "level"] (defScope s_u_law_capacity) := ⟨rfl, rfl, rfl, by decide +kernel, rfl, by decide +kernel, by decide +kernel⟩
theorem ok_u_law_capacity {P : Program} {w : World} {K : PySem.W.Frag} {mg : MgT} {base : Heap} {a_u_law_capacity : Addr} {d_u_law_capacity : FuncData} (F_u_law_capacity : FnP K "_law_capacity" s_u_law_capacity a_u_law_capacity d_u_law_capacity) (n_sum : mg "sum" = none) : FnOk P w K mg base (L2.CX P w) 1 a_u_law_capacity d_u_law_capacity ["batch", "level"] (spF K mg 2 false f_u_law_capacity) := by
  refine fn_rule (b := bd_u_law_capacity) F_u_law_capacity S_u_law_capacity 1 rfl fun cdv hcd A outer s H E hr => ?_
  exact rss_one (rs_ret (re_callB (cr_sumA rfl) p_sum rfl n_sum (ra_cons (ro_of (re_lcB [("value", 2)] rfl S_u_law_capacity.nd (by kernel_rfl) (ri_seq (re_name 0)) (fun _ _ _ _ _ => rg_name S_u_law_capacity.nd rfl (by first | exact Or.inl rfl | exact Or.inr rfl)) (fun _ _ _ _ _ => rts_one (rt_c1 rc_ge (ro_name 2) (ro_name 1))) (fun _ _ _ _ _ => re_add (ro_of (re_sub (ro_name 2) (ro_name 1))) (ro_of (re_int))) (gonly_name (by decide)))) (ra_nil))))
/-! ### _law_top -/
abbrev s_u_law_top : Stmt := top 27
def bd_u_law_top : SM := seqS (setS 2 (cE (.int 0))) (seqS (forS (itR1 (aCons (frz (callB minP2 (aCons (nmO 1) (aCons (frz (callB lenP (aCons (nmO 0) (aNil)))) (aNil))))) (aNil))) (tgN 3) (setS 2 (bin addP (nmO 2) (frz (bin ixP (nmO 0) (nmO 3)))))) (retS (nmM 2)))
def f_u_law_top : M Vl := fnM 2 bd_u_law_top
theorem S_u_law_top : FnScope ["batch", "number", "total", "place"] ["batch", "number"] (defScope s_u_law_top) := ⟨rfl, rfl, rfl, by decide +kernel, rfl, by decide +kernel, by decide +kernel⟩
theorem ok_u_law_top {P : Program} {w : World} {K : PySem.W.Frag} {mg : MgT} {base : Heap} {a_u_law_top : Addr} {d_u_law_top : FuncData} (F_u_law_top : FnP K "_law_top" s_u_law_top a_u_law_top d_u_law_top) (n_len : mg "len" = none) (n_min : mg "min" = none) (n_range : mg "range" = none) : FnOk P w K mg base (L2.CX P w) 1 a_u_law_top d_u_law_top ["batch", "number"] (spF K mg 2 false f_u_law_top) := by
  refine fn_rule (b := bd_u_law_top) F_u_law_top S_u_law_top 2 rfl fun cdv hcd A outer s H E hr => ?_
  exact rss_cons (rs_set S_u_law_top.nd (i := 2) rfl (by first | exact Or.inl rfl | exact Or.inr rfl) (re_int)) (rss_cons (rs_for (passes_of rfl) rfl (ri_range1 rfl n_range (ra_cons (ro_of (re_callB (call_min2 rfl) p_min2 rfl n_min (ra_cons (ro_name 1) (ra_cons (ro_of (re_callB call_len p_len rfl n_len (ra_cons (ro_name 0) (ra_nil)))) (ra_nil))))) (ra_nil))) (rg_name S_u_law_top.nd rfl (by first | exact Or.inl rfl | exact Or.inr rfl)) (rss_one (rs_set S_u_law_top.nd (i := 2) rfl (by first | exact Or.inl rfl | exact Or.inr rfl) (re_add (ro_name 2) (ro_of (re_ix (ro_name 0) (ro_name 3))))))) (rss_one (rs_ret (re_move 2))))
/-! ### _law_plain -/
abbrev s_u_law_plain : Stmt := top 28
def bd_u_law_plain : SM := seqS (setS 1 (mkL (aCons (frz (callV 1 f_steel [] (aCons (frz (nmE 0)) (aNil)))) (aCons (frz (callV 2 f_top_sum [] (aCons (frz (nmE 0)) (aCons (frz (cE (.int 0))) (aNil))))) (aCons (frz (callV 2 f_top_sum [] (aCons (frz (nmE 0)) (aCons (frz (cE (.int 1))) (aNil))))) (aCons (frz (callV 2 f_capacity [] (aCons (frz (nmE 0)) (aCons (frz (cE (.int 1))) (aNil))))) (aCons (frz (callV 2 f_capacity [] (aCons (frz (nmE 0)) (aCons (frz (cE (.int 200))) (aNil))))) (aNil)))))))) (seqS (setS 1 (bin addP (nmO 1) (frz (mkL (aCons (frz (callV 2 f_count_from [] (aCons (frz (nmE 0)) (aCons (frz (cE (.int 1))) (aNil))))) (aCons (frz (callV 2 f_count_from [] (aCons (frz (nmE 0)) (aCons (frz (cE (.int 200))) (aNil))))) (aNil))))))) (retS (eNot (frz (callB anyP (aCons (frz (lcE [2] (itE (nmE 1)) (tgN 2) (yesB) (un1 (isiP (tyB "bool") noK) (nmO 2)))) (aNil)))))))
def f_u_law_plain : M Vl := fnM 2 bd_u_law_plain
theorem S_u_law_plain : FnScope ["batch", "found", "number"] ["batch"] (defScope s_u_law_plain) := ⟨rfl, rfl, rfl, by decide +kernel, rfl, by decide +kernel, by decide +kernel⟩
theorem ok_u_law_plain {P : Program} {w : World} {K : PySem.W.Frag} {mg : MgT} {base : Heap} {a_capacity : Addr} {d_capacity : FuncData} {a_count_from : Addr} {d_count_from : FuncData} {a_steel : Addr} {d_steel : FuncData} {a_top_sum : Addr} {d_top_sum : FuncData} {a_u_law_plain : Addr} {d_u_law_plain : FuncData} (F_u_law_plain : FnP K "_law_plain" s_u_law_plain a_u_law_plain d_u_law_plain) (F_capacity : FnP K "capacity" s_capacity a_capacity d_capacity) (g_capacity : mg "capacity" = some (.ref a_capacity)) (G_capacity : FnOk P w K mg base (L2.CX P w) 8 a_capacity d_capacity ["lot", "need"] (spF K mg 2 false f_capacity)) (F_count_from : FnP K "count_from" s_count_from a_count_from d_count_from) (g_count_from : mg "count_from" = some (.ref a_count_from)) (G_count_from : FnOk P w K mg base (L2.CX P w) 8 a_count_from d_count_from ["lot", "need"] (spF K mg 2 false f_count_from)) (F_steel : FnP K "steel" s_steel a_steel d_steel) (g_steel : mg "steel" = some (.ref a_steel)) (G_steel : FnOk P w K mg base (L2.CX P w) 8 a_steel d_steel ["lot"] (spF K mg 1 false f_steel)) (F_top_sum : FnP K "top_sum" s_top_sum a_top_sum d_top_sum) (g_top_sum : mg "top_sum" = some (.ref a_top_sum)) (G_top_sum : FnOk P w K mg base (L2.CX P w) 8 a_top_sum d_top_sum ["lot", "count"] (spF K mg 2 false f_top_sum)) (n_any : mg "any" = none) (n_bool : mg "bool" = none) (n_isinstance : mg "isinstance" = none) : FnOk P w K mg base (L2.CX P w) 9 a_u_law_plain d_u_law_plain ["batch"] (spF K mg 1 false f_u_law_plain) := by
  have b_capacity : Binds K d_capacity ["lot", "need"] [] := F_capacity.bindsN fun _ _ _ _ _ _ us hl => match us, hl with | [_, _], _ => rfl
  have b_count_from : Binds K d_count_from ["lot", "need"] [] := F_count_from.bindsN fun _ _ _ _ _ _ us hl => match us, hl with | [_, _], _ => rfl
  have b_steel : Binds K d_steel ["lot"] [] := F_steel.bindsN fun _ _ _ _ _ _ us hl => match us, hl with | [_], _ => rfl
  have b_top_sum : Binds K d_top_sum ["lot", "count"] [] := F_top_sum.bindsN fun _ _ _ _ _ _ us hl => match us, hl with | [_, _], _ => rfl
  refine fn_rule (b := bd_u_law_plain) F_u_law_plain S_u_law_plain 2 rfl fun cdv hcd A outer s H E hr => ?_
  exact rss_cons (rs_set S_u_law_plain.nd (i := 1) rfl (by first | exact Or.inl rfl | exact Or.inr rfl) (re_lst (ra_cons (ro_of (re_call G_steel (hr.mono (by decide)) rfl g_steel F_steel.kp b_steel .nil (fun _ _ => .nil) (ra_cons (ro_of (re_name 0)) (ra_nil)))) (ra_cons (ro_of (re_call G_top_sum (hr.mono (by decide)) rfl g_top_sum F_top_sum.kp b_top_sum .nil (fun _ _ => .nil) (ra_cons (ro_of (re_name 0)) (ra_cons (ro_of (re_int)) (ra_nil))))) (ra_cons (ro_of (re_call G_top_sum (hr.mono (by decide)) rfl g_top_sum F_top_sum.kp b_top_sum .nil (fun _ _ => .nil) (ra_cons (ro_of (re_name 0)) (ra_cons (ro_of (re_int)) (ra_nil))))) (ra_cons (ro_of (re_call G_capacity (hr.mono (by decide)) rfl g_capacity F_capacity.kp b_capacity .nil (fun _ _ => .nil) (ra_cons (ro_of (re_name 0)) (ra_cons (ro_of (re_int)) (ra_nil))))) (ra_cons (ro_of (re_call G_capacity (hr.mono (by decide)) rfl g_capacity F_capacity.kp b_capacity .nil (fun _ _ => .nil) (ra_cons (ro_of (re_name 0)) (ra_cons (ro_of (re_int)) (ra_nil))))) (ra_nil)))))))) (rss_cons (rs_set S_u_law_plain.nd (i := 1) rfl (by first | exact Or.inl rfl | exact Or.inr rfl) (re_add (ro_name 1) (ro_of (re_lst (ra_cons (ro_of (re_call G_count_from (hr.mono (by decide)) rfl g_count_from F_count_from.kp b_count_from .nil (fun _ _ => .nil) (ra_cons (ro_of (re_name 0)) (ra_cons (ro_of (re_int)) (ra_nil))))) (ra_cons (ro_of (re_call G_count_from (hr.mono (by decide)) rfl g_count_from F_count_from.kp b_count_from .nil (fun _ _ => .nil) (ra_cons (ro_of (re_name 0)) (ra_cons (ro_of (re_int)) (ra_nil))))) (ra_nil))))))) (rss_one (rs_ret (re_not (ro_of (re_callB (cr_any rfl) p_any rfl n_any (ra_cons (ro_of (re_lcB [("number", 2)] rfl S_u_law_plain.nd (by kernel_rfl) (ri_seq (re_name 1)) (fun _ _ _ _ _ => rg_name S_u_law_plain.nd rfl (by first | exact Or.inl rfl | exact Or.inr rfl)) (fun _ _ _ _ _ => rts_nil) (fun _ _ _ _ _ => re_isiT (by simp) (ro_name 2) rfl n_isinstance rfl n_bool) (gonly_name (by decide)))) (ra_nil))))))))
/-! ### _law_good -/
abbrev s_u_law_good : Stmt := top 29
def bd_u_law_good : SM := seqS (ifS (tNotB (tru (frz (callV 1 f_u_law_plain [] (aCons (frz (nmE 0)) (aNil)))))) (retS (cE (.bl false))) (nxS)) (seqS (ifS (tOrB (tst (bin neP (frz (callV 1 f_steel [] (aCons (frz (nmE 0)) (aNil)))) (frz (callB sumP (aCons (nmO 0) (aNil)))))) (tst (bin neP (frz (callK 1 0 1 f_steel (permL [0]) aNil (aCons (frz (nmE 0)) (aNil)))) (frz (callB sumP (aCons (nmO 0) (aNil))))))) (retS (cE (.bl false))) (nxS)) (seqS (setS 1 (lrg1 (frz (bin addP (frz (callB lenP (aCons (nmO 0) (aNil)))) (frz (cE (.int 3))))))) (seqS (setS 2 (lcE [6] (itE (nmE 1)) (tgN 6) (yesB) (callV 2 f_top_sum [] (aCons (frz (nmE 0)) (aCons (frz (nmE 6)) (aNil)))))) (seqS (ifS (tOrB (tst (bin neP (nmO 2) (frz (lcE [6] (itE (nmE 1)) (tgN 6) (yesB) (callV 2 f_u_law_top [] (aCons (frz (nmE 0)) (aCons (frz (nmE 6)) (aNil)))))))) (tst (bin neP (frz (callK 2 0 2 f_top_sum (permL [1, 0]) aNil (aCons (frz (cE (.int 200))) (aCons (frz (nmE 0)) (aNil))))) (frz (callB sumP (aCons (nmO 0) (aNil))))))) (retS (cE (.bl false))) (nxS)) (seqS (setS 3 (lrg2 (frz (cE (.int 1))) (frz (bin addP (frz (callB minP2 (aCons (frz (cE (.int 200))) (aCons (frz (bin addP (frz (callB maxA (aCons (frz (bin addP (nmO 0) (frz (mkT (aCons (frz (cE (.int 0))) (aNil)))))) (aNil)))) (frz (cE (.int 3))))) (aNil))))) (frz (cE (.int 1))))))) (seqS (setS 4 (lcE [5] (itE (nmE 3)) (tgN 5) (yesB) (callV 2 f_capacity [] (aCons (frz (nmE 0)) (aCons (frz (nmE 5)) (aNil)))))) (seqS (ifS (tst (bin neP (nmO 4) (frz (lcE [5] (itE (nmE 3)) (tgN 5) (yesB) (callV 2 f_u_law_capacity [] (aCons (frz (nmE 0)) (aCons (frz (nmE 5)) (aNil)))))))) (retS (cE (.bl false))) (nxS)) (seqS (ifS (tst (bin neP (frz (lcE [5] (itE (nmE 3)) (tgN 5) (yesB) (callV 2 f_count_from [] (aCons (frz (nmE 0)) (aCons (frz (nmE 5)) (aNil)))))) (frz (lcE [8] (itE (nmE 3)) (tgN 8) (yesB) (callB lenP (aCons (frz (lcE [9] (itE (nmE 0)) (tgN 9) (tst (bin geP (nmO 9) (nmO 8))) (nmE 9))) (aNil))))))) (retS (cE (.bl false))) (nxS)) (seqS (forS (itE (nmE 3)) (tgN 5) (seqS (setS 7 (callB maxA (aCons (frz (lcE [6] (itE (nmE 1)) (tgN 6) (yesB) (bin subP (frz (bin ixP (nmO 2) (nmO 6))) (frz (bin mulP (nmO 6) (frz (bin subP (nmO 5) (frz (cE (.int 1)))))))))) (aNil)))) (ifS (tst (bin neP (frz (callK 2 0 2 f_capacity (permL [1, 0]) aNil (aCons (frz (nmE 5)) (aCons (frz (nmE 0)) (aNil))))) (nmO 7))) (retS (cE (.bl false))) (nxS)))) (seqS (forS (itE (slE (nmO 1) (ptS (frz (cE (.int 1)))) (ptN))) (tgN 6) (ifS (tst (bin neP (frz (bin ixP (nmO 2) (nmO 6))) (frz (callB minA (aCons (frz (lcE [5] (itE (nmE 3)) (tgN 5) (yesB) (bin addP (frz (callV 2 f_u_law_capacity [] (aCons (frz (nmE 0)) (aCons (frz (nmE 5)) (aNil))))) (frz (bin mulP (nmO 6) (frz (bin subP (nmO 5) (frz (cE (.int 1)))))))))) (aNil)))))) (retS (cE (.bl false))) (nxS))) (retS (eAnd (bin eqP (frz (callK 2 0 2 f_count_from (permL [1, 0]) aNil (aCons (frz (cE (.int 1))) (aCons (frz (nmE 0)) (aNil))))) (frz (callB lenP (aCons (nmO 0) (aNil))))) (bin eqP (frz (callV 2 f_capacity [] (aCons (frz (nmE 0)) (aCons (frz (cE (.int 200))) (aNil))))) (frz (callV 2 f_u_law_capacity [] (aCons (frz (nmE 0)) (aCons (frz (cE (.int 200))) (aNil))))))))))))))))))
def f_u_law_good : M Vl := fnM 9 bd_u_law_good
theorem S_u_law_good : FnScope ["batch", "sizes", "tops", "levels", "found", "level", "size", "due", "k", "one"] ["batch"] (defScope s_u_law_good) := ⟨rfl, rfl, rfl, by decide +kernel, rfl, by decide +kernel, by decide +kernel⟩
theorem ok_u_law_good {P : Program} {w : World} {K : PySem.W.Frag} {mg : MgT} {base : Heap} {a_capacity : Addr} {d_capacity : FuncData} {a_count_from : Addr} {d_count_from : FuncData} {a_steel : Addr} {d_steel : FuncData} {a_top_sum : Addr} {d_top_sum : FuncData} {a_u_law_capacity : Addr} {d_u_law_capacity : FuncData} {a_u_law_good : Addr} {d_u_law_good : FuncData} {a_u_law_plain : Addr} {d_u_law_plain : FuncData} {a_u_law_top : Addr} {d_u_law_top : FuncData} (F_u_law_good : FnP K "_law_good" s_u_law_good a_u_law_good d_u_law_good) (F_u_law_capacity : FnP K "_law_capacity" s_u_law_capacity a_u_law_capacity d_u_law_capacity) (g_u_law_capacity : mg "_law_capacity" = some (.ref a_u_law_capacity)) (G_u_law_capacity : FnOk P w K mg base (L2.CX P w) 1 a_u_law_capacity d_u_law_capacity ["batch", "level"] (spF K mg 2 false f_u_law_capacity)) (F_u_law_plain : FnP K "_law_plain" s_u_law_plain a_u_law_plain d_u_law_plain) (g_u_law_plain : mg "_law_plain" = some (.ref a_u_law_plain)) (G_u_law_plain : FnOk P w K mg base (L2.CX P w) 9 a_u_law_plain d_u_law_plain ["batch"] (spF K mg 1 false f_u_law_plain)) (F_u_law_top : FnP K "_law_top" s_u_law_top a_u_law_top d_u_law_top) (g_u_law_top : mg "_law_top" = some (.ref a_u_law_top)) (G_u_law_top : FnOk P w K mg base (L2.CX P w) 1 a_u_law_top d_u_law_top ["batch", "number"] (spF K mg 2 false f_u_law_top)) (F_capacity : FnP K "capacity" s_capacity a_capacity d_capacity) (g_capacity : mg "capacity" = some (.ref a_capacity)) (G_capacity : FnOk P w K mg base (L2.CX P w) 8 a_capacity d_capacity ["lot", "need"] (spF K mg 2 false f_capacity)) (F_count_from : FnP K "count_from" s_count_from a_count_from d_count_from) (g_count_from : mg "count_from" = some (.ref a_count_from)) (G_count_from : FnOk P w K mg base (L2.CX P w) 8 a_count_from d_count_from ["lot", "need"] (spF K mg 2 false f_count_from)) (F_steel : FnP K "steel" s_steel a_steel d_steel) (g_steel : mg "steel" = some (.ref a_steel)) (G_steel : FnOk P w K mg base (L2.CX P w) 8 a_steel d_steel ["lot"] (spF K mg 1 false f_steel)) (F_top_sum : FnP K "top_sum" s_top_sum a_top_sum d_top_sum) (g_top_sum : mg "top_sum" = some (.ref a_top_sum)) (G_top_sum : FnOk P w K mg base (L2.CX P w) 8 a_top_sum d_top_sum ["lot", "count"] (spF K mg 2 false f_top_sum)) (n_len : mg "len" = none) (n_list : mg "list" = none) (n_max : mg "max" = none) (n_min : mg "min" = none) (n_range : mg "range" = none) (n_sum : mg "sum" = none) : FnOk P w K mg base (L2.CX P w) 10 a_u_law_good d_u_law_good ["batch"] (spF K mg 1 false f_u_law_good) := by
  have b_u_law_capacity : Binds K d_u_law_capacity ["batch", "level"] [] := F_u_law_capacity.bindsN fun _ _ _ _ _ _ us hl => match us, hl with | [_, _], _ => rfl
  have b_u_law_plain : Binds K d_u_law_plain ["batch"] [] := F_u_law_plain.bindsN fun _ _ _ _ _ _ us hl => match us, hl with | [_], _ => rfl
  have b_u_law_top : Binds K d_u_law_top ["batch", "number"] [] := F_u_law_top.bindsN fun _ _ _ _ _ _ us hl => match us, hl with | [_, _], _ => rfl
  have b_capacity : Binds K d_capacity ["lot", "need"] [] := F_capacity.bindsN fun _ _ _ _ _ _ us hl => match us, hl with | [_, _], _ => rfl
  have b_count_from : Binds K d_count_from ["lot", "need"] [] := F_count_from.bindsN fun _ _ _ _ _ _ us hl => match us, hl with | [_, _], _ => rfl
  have b_steel : Binds K d_steel ["lot"] [] := F_steel.bindsN fun _ _ _ _ _ _ us hl => match us, hl with | [_], _ => rfl
  have b_top_sum : Binds K d_top_sum ["lot", "count"] [] := F_top_sum.bindsN fun _ _ _ _ _ _ us hl => match us, hl with | [_, _], _ => rfl
  have b_capacity_0_need_lot : KBn K d_capacity ["lot", "need"] 0 ["need", "lot"] (permL [1, 0]) (permL [1, 0]) := kbn0 F_capacity 0 [1, 0] fun _ _ _ _ _ _ us ws h1 h2 => match us, h1, ws, h2 with | [], _, [_, _], _ => rfl
  have b_count_from_0_need_lot : KBn K d_count_from ["lot", "need"] 0 ["need", "lot"] (permL [1, 0]) (permL [1, 0]) := kbn0 F_count_from 0 [1, 0] fun _ _ _ _ _ _ us ws h1 h2 => match us, h1, ws, h2 with | [], _, [_, _], _ => rfl
  have b_steel_0_lot : KBn K d_steel ["lot"] 0 ["lot"] (permL [0]) (permL [0]) := kbn0 F_steel 0 [0] fun _ _ _ _ _ _ us ws h1 h2 => match us, h1, ws, h2 with | [], _, [_], _ => rfl
  have b_top_sum_0_count_lot : KBn K d_top_sum ["lot", "count"] 0 ["count", "lot"] (permL [1, 0]) (permL [1, 0]) := kbn0 F_top_sum 0 [1, 0] fun _ _ _ _ _ _ us ws h1 h2 => match us, h1, ws, h2 with | [], _, [_, _], _ => rfl
  refine fn_rule (b := bd_u_law_good) F_u_law_good S_u_law_good 9 rfl fun cdv hcd A outer s H E hr => ?_
  exact rss_cons (rs_if (rt_not (rt_tru (ro_of (re_call G_u_law_plain (hr.mono (by decide)) rfl g_u_law_plain F_u_law_plain.kp b_u_law_plain .nil (fun _ _ => .nil) (ra_cons (ro_of (re_name 0)) (ra_nil)))))) (rss_one (rs_ret (re_bl))) (rss_nil)) (rss_cons (rs_if (rt_w (rw_or (rt_c1 (rc_ne hr) (ro_of (re_call G_steel (hr.mono (by decide)) rfl g_steel F_steel.kp b_steel .nil (fun _ _ => .nil) (ra_cons (ro_of (re_name 0)) (ra_nil)))) (ro_of (re_callB (cr_sumA rfl) p_sum rfl n_sum (ra_cons (ro_name 0) (ra_nil))))) (rw_or1 (rt_c1 (rc_ne hr) (ro_of (re_callK0 G_steel (hr.mono (by decide)) rfl g_steel F_steel.kp b_steel_0_lot (fun _ _ _ _ _ _ r q _ _ => permL_rep r q) (rk_cons (ro_of (re_name 0)) (rk_nil)))) (ro_of (re_callB (cr_sumA rfl) p_sum rfl n_sum (ra_cons (ro_name 0) (ra_nil)))))))) (rss_one (rs_ret (re_bl))) (rss_nil)) (rss_cons (rs_set S_u_law_good.nd (i := 1) rfl (by first | exact Or.inl rfl | exact Or.inr rfl) (re_lrg1 (ro_of (re_add (ro_of (re_callB call_len p_len rfl n_len (ra_cons (ro_name 0) (ra_nil)))) (ro_of (re_int)))) rfl rfl n_list rfl n_range)) (rss_cons (by first | exact rs_set S_u_law_good.nd (i := 2) rfl (by first | exact Or.inl rfl | exact Or.inr rfl) (re_lcB [("size", 6)] rfl S_u_law_good.nd (by kernel_rfl) (ri_seq (re_name 1)) (fun _ _ _ _ _ => rg_name S_u_law_good.nd rfl (by first | exact Or.inl rfl | exact Or.inr rfl)) (fun _ _ _ _ _ => rts_nil) (fun _ _ _ _ _ => re_call G_top_sum (hr.mono (by decide)) rfl g_top_sum F_top_sum.kp b_top_sum .nil (fun _ _ => .nil) (ra_cons (ro_of (re_name 0)) (ra_cons (ro_of (re_name 6)) (ra_nil)))) (gonly_name (by decide))) | exact rs_setLcB [("size", 6)] rfl S_u_law_good.nd (i := 2) rfl rfl (by kernel_rfl) (ri_seq (re_name 1)) (fun _ _ _ _ _ => rg_name S_u_law_good.nd rfl (by first | exact Or.inl rfl | exact Or.inr rfl)) (fun _ _ _ _ _ => rts_nil) (fun _ _ _ _ _ => re_call G_top_sum (hr.mono (by decide)) rfl g_top_sum F_top_sum.kp b_top_sum .nil (fun _ _ => .nil) (ra_cons (ro_of (re_name 0)) (ra_cons (ro_of (re_name 6)) (ra_nil)))) (gonly_name (by decide))) (rss_cons (rs_if (rt_w (rw_or (rt_c1 (rc_ne hr) (ro_name 2) (ro_of (re_lcB [("size", 6)] rfl S_u_law_good.nd (by kernel_rfl) (ri_seq (re_name 1)) (fun _ _ _ _ _ => rg_name S_u_law_good.nd rfl (by first | exact Or.inl rfl | exact Or.inr rfl)) (fun _ _ _ _ _ => rts_nil) (fun _ _ _ _ _ => re_call G_u_law_top (hr.mono (by decide)) rfl g_u_law_top F_u_law_top.kp b_u_law_top .nil (fun _ _ => .nil) (ra_cons (ro_of (re_name 0)) (ra_cons (ro_of (re_name 6)) (ra_nil)))) (gonly_name (by decide))))) (rw_or1 (rt_c1 (rc_ne hr) (ro_of (re_callK0 G_top_sum (hr.mono (by decide)) rfl g_top_sum F_top_sum.kp b_top_sum_0_count_lot (fun _ _ _ _ _ _ r q _ _ => permL_rep r q) (rk_cons (ro_of (re_int)) (rk_cons (ro_of (re_name 0)) (rk_nil))))) (ro_of (re_callB (cr_sumA rfl) p_sum rfl n_sum (ra_cons (ro_name 0) (ra_nil)))))))) (rss_one (rs_ret (re_bl))) (rss_nil)) (rss_cons (rs_set S_u_law_good.nd (i := 3) rfl (by first | exact Or.inl rfl | exact Or.inr rfl) (re_lrg2 (ro_of (re_int)) (ro_of (re_add (ro_of (re_callB (call_min2 rfl) p_min2 rfl n_min (ra_cons (ro_of (re_int)) (ra_cons (ro_of (re_add (ro_of (re_callB (cr_maxA rfl) p_max rfl n_max (ra_cons (ro_of (re_add (ro_name 0) (ro_of (re_tup (ra_cons (ro_of (re_int)) (ra_nil)))))) (ra_nil)))) (ro_of (re_int)))) (ra_nil))))) (ro_of (re_int)))) rfl rfl n_list rfl n_range)) (rss_cons (by first | exact rs_set S_u_law_good.nd (i := 4) rfl (by first | exact Or.inl rfl | exact Or.inr rfl) (re_lcB [("level", 5)] rfl S_u_law_good.nd (by kernel_rfl) (ri_seq (re_name 3)) (fun _ _ _ _ _ => rg_name S_u_law_good.nd rfl (by first | exact Or.inl rfl | exact Or.inr rfl)) (fun _ _ _ _ _ => rts_nil) (fun _ _ _ _ _ => re_call G_capacity (hr.mono (by decide)) rfl g_capacity F_capacity.kp b_capacity .nil (fun _ _ => .nil) (ra_cons (ro_of (re_name 0)) (ra_cons (ro_of (re_name 5)) (ra_nil)))) (gonly_name (by decide))) | exact rs_setLcB [("level", 5)] rfl S_u_law_good.nd (i := 4) rfl rfl (by kernel_rfl) (ri_seq (re_name 3)) (fun _ _ _ _ _ => rg_name S_u_law_good.nd rfl (by first | exact Or.inl rfl | exact Or.inr rfl)) (fun _ _ _ _ _ => rts_nil) (fun _ _ _ _ _ => re_call G_capacity (hr.mono (by decide)) rfl g_capacity F_capacity.kp b_capacity .nil (fun _ _ => .nil) (ra_cons (ro_of (re_name 0)) (ra_cons (ro_of (re_name 5)) (ra_nil)))) (gonly_name (by decide))) (rss_cons (rs_if (rt_c1 (rc_ne hr) (ro_name 4) (ro_of (re_lcB [("level", 5)] rfl S_u_law_good.nd (by kernel_rfl) (ri_seq (re_name 3)) (fun _ _ _ _ _ => rg_name S_u_law_good.nd rfl (by first | exact Or.inl rfl | exact Or.inr rfl)) (fun _ _ _ _ _ => rts_nil) (fun _ _ _ _ _ => re_call G_u_law_capacity (hr.mono (by decide)) rfl g_u_law_capacity F_u_law_capacity.kp b_u_law_capacity .nil (fun _ _ => .nil) (ra_cons (ro_of (re_name 0)) (ra_cons (ro_of (re_name 5)) (ra_nil)))) (gonly_name (by decide))))) (rss_one (rs_ret (re_bl))) (rss_nil)) (rss_cons (rs_if (rt_c1 (rc_ne hr) (ro_of (re_lcB [("level", 5)] rfl S_u_law_good.nd (by kernel_rfl) (ri_seq (re_name 3)) (fun _ _ _ _ _ => rg_name S_u_law_good.nd rfl (by first | exact Or.inl rfl | exact Or.inr rfl)) (fun _ _ _ _ _ => rts_nil) (fun _ _ _ _ _ => re_call G_count_from (hr.mono (by decide)) rfl g_count_from F_count_from.kp b_count_from .nil (fun _ _ => .nil) (ra_cons (ro_of (re_name 0)) (ra_cons (ro_of (re_name 5)) (ra_nil)))) (gonly_name (by decide)))) (ro_of (re_lcB [("k", 8)] rfl S_u_law_good.nd (by kernel_rfl) (ri_seq (re_name 3)) (fun _ _ _ _ _ => rg_name S_u_law_good.nd rfl (by first | exact Or.inl rfl | exact Or.inr rfl)) (fun _ _ _ _ _ => rts_nil) (fun _ _ _ _ _ => re_callB call_len p_len rfl n_len (ra_cons (ro_of (re_lcB [("one", 9)] rfl S_u_law_good.nd (by kernel_rfl) (ri_seq (re_name 0)) (fun _ _ _ _ _ => rg_name S_u_law_good.nd rfl (by first | exact Or.inl rfl | exact Or.inr rfl)) (fun _ _ _ _ _ => rts_one (rt_c1 rc_ge (ro_name 9) (ro_name 8))) (fun _ _ _ _ _ => re_name 9) (gonly_name (by decide)))) (ra_nil))) (gonly_name (by decide))))) (rss_one (rs_ret (re_bl))) (rss_nil)) (rss_cons (rs_for (passes_of rfl) rfl (ri_seq (re_name 3)) (rg_name S_u_law_good.nd rfl (by first | exact Or.inl rfl | exact Or.inr rfl)) (rss_cons (rs_set S_u_law_good.nd (i := 7) rfl (by first | exact Or.inl rfl | exact Or.inr rfl) (re_callB (cr_maxA rfl) p_max rfl n_max (ra_cons (ro_of (re_lcB [("size", 6)] rfl S_u_law_good.nd (by kernel_rfl) (ri_seq (re_name 1)) (fun _ _ _ _ _ => rg_name S_u_law_good.nd rfl (by first | exact Or.inl rfl | exact Or.inr rfl)) (fun _ _ _ _ _ => rts_nil) (fun _ _ _ _ _ => re_sub (ro_of (re_ix (ro_name 2) (ro_name 6))) (ro_of (re_mul (ro_name 6) (ro_of (re_sub (ro_name 5) (ro_of (re_int))))))) (gonly_name (by decide)))) (ra_nil)))) (rss_one (rs_if (rt_c1 (rc_ne hr) (ro_of (re_callK0 G_capacity (hr.mono (by decide)) rfl g_capacity F_capacity.kp b_capacity_0_need_lot (fun _ _ _ _ _ _ r q _ _ => permL_rep r q) (rk_cons (ro_of (re_name 5)) (rk_cons (ro_of (re_name 0)) (rk_nil))))) (ro_name 7)) (rss_one (rs_ret (re_bl))) (rss_nil))))) (rss_cons (rs_for (passes_of rfl) rfl (ri_seq (re_slice (ro_name 1) (rpo_some (ro_of (re_int))) (rpo_none))) (rg_name S_u_law_good.nd rfl (by first | exact Or.inl rfl | exact Or.inr rfl)) (rss_one (rs_if (rt_c1 (rc_ne hr) (ro_of (re_ix (ro_name 2) (ro_name 6))) (ro_of (re_callB (cr_minA rfl) p_min rfl n_min (ra_cons (ro_of (re_lcB [("level", 5)] rfl S_u_law_good.nd (by kernel_rfl) (ri_seq (re_name 3)) (fun _ _ _ _ _ => rg_name S_u_law_good.nd rfl (by first | exact Or.inl rfl | exact Or.inr rfl)) (fun _ _ _ _ _ => rts_nil) (fun _ _ _ _ _ => re_add (ro_of (re_call G_u_law_capacity (hr.mono (by decide)) rfl g_u_law_capacity F_u_law_capacity.kp b_u_law_capacity .nil (fun _ _ => .nil) (ra_cons (ro_of (re_name 0)) (ra_cons (ro_of (re_name 5)) (ra_nil))))) (ro_of (re_mul (ro_name 6) (ro_of (re_sub (ro_name 5) (ro_of (re_int))))))) (gonly_name (by decide)))) (ra_nil))))) (rss_one (rs_ret (re_bl))) (rss_nil)))) (rss_one (rs_ret (re_and (re_c1 (rc_eq hr) (ro_of (re_callK0 G_count_from (hr.mono (by decide)) rfl g_count_from F_count_from.kp b_count_from_0_need_lot (fun _ _ _ _ _ _ r q _ _ => permL_rep r q) (rk_cons (ro_of (re_int)) (rk_cons (ro_of (re_name 0)) (rk_nil))))) (ro_of (re_callB call_len p_len rfl n_len (ra_cons (ro_name 0) (ra_nil))))) (re_one (re_c1 (rc_eq hr) (ro_of (re_call G_capacity (hr.mono (by decide)) rfl g_capacity F_capacity.kp b_capacity .nil (fun _ _ => .nil) (ra_cons (ro_of (re_name 0)) (ra_cons (ro_of (re_int)) (ra_nil))))) (ro_of (re_call G_u_law_capacity (hr.mono (by decide)) rfl g_u_law_capacity F_u_law_capacity.kp b_u_law_capacity .nil (fun _ _ => .nil) (ra_cons (ro_of (re_name 0)) (ra_cons (ro_of (re_int)) (ra_nil))))))))))))))))))))
/-! ### law -/
abbrev s_law : Stmt := top 30
def bd_law : SM := seqS (forS (itR1 (aCons (frz (callB maxP2 (aCons (frz (callB minP2 (aCons (frz (callB lenP (aCons (nmO 0) (aNil)))) (aCons (frz (cE (.int 5))) (aNil))))) (aCons (frz (cE (.int 1))) (aNil))))) (aNil))) (tgN 1) (seqS (setS 2 (mkL (aCons (frz (callV 2 f_u_law_cell [] (aCons (frz (nmE 0)) (aCons (frz (nmE 1)) (aNil))))) (aNil)))) (forS (itR1 (aCons (frz (cE (.int 4))) (aNil))) (tgN 3) (ifS (tNotB (tru (frz (callV 1 f_u_law_good [] (aCons (frz (callI 3 f_u_law_lot [] (aCons (nmO 2) (aCons (frz (cE (.int 20))) (aCons (frz (bin ixP (frz (mkL (aCons (frz (cE (.int 3))) (aCons (frz (cE (.int 12))) (aCons (frz (cE (.int 40))) (aCons (frz (cE (.int 100))) (aNil))))))) (frz (callI 2 f_u_law_take [] (aCons (nmO 2) (aCons (frz (cE (.int 4))) (aNil))))))) (aNil)))))) (aNil)))))) (retS (cE (.bl false))) (nxS))))) (seqS (ifS (tOrB (tNotB (tru (frz (callV 1 f_u_law_good [] (aCons (frz (mkT (aCons (frz (cE (.int 150))) (aCons (frz (cE (.int 50))) (aNil))))) (aNil)))))) (tOrB (tNotB (tru (frz (callV 1 f_u_law_good [] (aCons (frz (mkT (aCons (frz (cE (.int 101))) (aCons (frz (cE (.int 99))) (aNil))))) (aNil)))))) (tNotB (tru (frz (callV 1 f_u_law_good [] (aCons (frz (bin mulP (frz (mkT (aCons (frz (cE (.int 5))) (aNil)))) (frz (cE (.int 40))))) (aNil)))))))) (retS (cE (.bl false))) (nxS)) (retS (eAnd (callV 1 f_u_law_good [] (aCons (frz (mkT (aNil))) (aNil))) (eAnd (callV 1 f_u_law_good [] (aCons (frz (mkT (aCons (frz (cE (.int 200))) (aNil)))) (aNil))) (callV 1 f_u_law_good [] (aCons (frz (bin mulP (frz (mkT (aCons (frz (cE (.int 1))) (aNil)))) (frz (cE (.int 60))))) (aNil)))))))
def f_law : M Vl := fnM 3 bd_law
theorem S_law : FnScope ["script", "turn", "own", "k"] ["script"] (defScope s_law) := ⟨rfl, rfl, rfl, by decide +kernel, rfl, by decide +kernel, by decide +kernel⟩
theorem ok_law {P : Program} {w : World} {K : PySem.W.Frag} {mg : MgT} {base : Heap} {a_law : Addr} {d_law : FuncData} {a_u_law_cell : Addr} {d_u_law_cell : FuncData} {a_u_law_good : Addr} {d_u_law_good : FuncData} {a_u_law_lot : Addr} {d_u_law_lot : FuncData} {a_u_law_take : Addr} {d_u_law_take : FuncData} (F_law : FnP K "law" s_law a_law d_law) (F_u_law_cell : FnP K "_law_cell" s_u_law_cell a_u_law_cell d_u_law_cell) (g_u_law_cell : mg "_law_cell" = some (.ref a_u_law_cell)) (G_u_law_cell : FnOk P w K mg base (L2.CX P w) 2 a_u_law_cell d_u_law_cell ["script", "k"] (spF K mg 2 false f_u_law_cell)) (F_u_law_good : FnP K "_law_good" s_u_law_good a_u_law_good d_u_law_good) (g_u_law_good : mg "_law_good" = some (.ref a_u_law_good)) (G_u_law_good : FnOk P w K mg base (L2.CX P w) 10 a_u_law_good d_u_law_good ["batch"] (spF K mg 1 false f_u_law_good)) (F_u_law_lot : FnP K "_law_lot" s_u_law_lot a_u_law_lot d_u_law_lot) (g_u_law_lot : mg "_law_lot" = some (.ref a_u_law_lot)) (G_u_law_lot : FnOk P w K mg base (L2.CX P w) 2 a_u_law_lot d_u_law_lot ["own", "tools", "top"] (spF K mg 3 true f_u_law_lot)) (F_u_law_take : FnP K "_law_take" s_u_law_take a_u_law_take d_u_law_take) (g_u_law_take : mg "_law_take" = some (.ref a_u_law_take)) (G_u_law_take : FnOk P w K mg base (L2.CX P w) 1 a_u_law_take d_u_law_take ["own", "size"] (spF K mg 2 true f_u_law_take)) (n_len : mg "len" = none) (n_max : mg "max" = none) (n_min : mg "min" = none) (n_range : mg "range" = none) : FnOk P w K mg base (L2.CX P w) 11 a_law d_law ["script"] (spF K mg 1 false f_law) := by
  have b_u_law_cell : Binds K d_u_law_cell ["script", "k"] [] := F_u_law_cell.bindsN fun _ _ _ _ _ _ us hl => match us, hl with | [_, _], _ => rfl
  have b_u_law_good : Binds K d_u_law_good ["batch"] [] := F_u_law_good.bindsN fun _ _ _ _ _ _ us hl => match us, hl with | [_], _ => rfl
  have b_u_law_lot : Binds K d_u_law_lot ["own", "tools", "top"] [] := F_u_law_lot.bindsN fun _ _ _ _ _ _ us hl => match us, hl with | [_, _, _], _ => rfl
  have b_u_law_take : Binds K d_u_law_take ["own", "size"] [] := F_u_law_take.bindsN fun _ _ _ _ _ _ us hl => match us, hl with | [_, _], _ => rfl
  refine fn_rule (b := bd_law) F_law S_law 3 rfl fun cdv hcd A outer s H E hr => ?_
  exact rss_cons (rs_for (passes_of rfl) rfl (ri_range1 rfl n_range (ra_cons (ro_of (re_callB (call_max2 rfl) p_max2 rfl n_max (ra_cons (ro_of (re_callB (call_min2 rfl) p_min2 rfl n_min (ra_cons (ro_of (re_callB call_len p_len rfl n_len (ra_cons (ro_name 0) (ra_nil)))) (ra_cons (ro_of (re_int)) (ra_nil))))) (ra_cons (ro_of (re_int)) (ra_nil))))) (ra_nil))) (rg_name S_law.nd rfl (by first | exact Or.inl rfl | exact Or.inr rfl)) (rss_cons (rs_set S_law.nd (i := 2) rfl (by first | exact Or.inl rfl | exact Or.inr rfl) (re_lst (ra_cons (ro_of (re_call G_u_law_cell (hr.mono (by decide)) rfl g_u_law_cell F_u_law_cell.kp b_u_law_cell .nil (fun _ _ => .nil) (ra_cons (ro_of (re_name 0)) (ra_cons (ro_of (re_name 1)) (ra_nil))))) (ra_nil)))) (rss_one (rs_for (passes_of rfl) rfl (ri_range1 rfl n_range (ra_cons (ro_of (re_int)) (ra_nil))) (rg_name S_law.nd rfl (by first | exact Or.inl rfl | exact Or.inr rfl)) (rss_one (rs_if (rt_not (rt_tru (ro_of (re_call G_u_law_good (hr.mono (by decide)) rfl g_u_law_good F_u_law_good.kp b_u_law_good .nil (fun _ _ => .nil) (ra_cons (ro_of (re_callI G_u_law_lot (hr.mono (by decide)) rfl g_u_law_lot F_u_law_lot.kp b_u_law_lot .nil (fun _ _ => .nil) (ra_cons (ro_name 2) (ra_cons (ro_of (re_int)) (ra_cons (ro_of (re_ix (ro_of (re_lst (ra_cons (ro_of (re_int)) (ra_cons (ro_of (re_int)) (ra_cons (ro_of (re_int)) (ra_cons (ro_of (re_int)) (ra_nil))))))) (ro_of (re_callI G_u_law_take (hr.mono (by decide)) rfl g_u_law_take F_u_law_take.kp b_u_law_take .nil (fun _ _ => .nil) (ra_cons (ro_name 2) (ra_cons (ro_of (re_int)) (ra_nil))))))) (ra_nil)))))) (ra_nil)))))) (rss_one (rs_ret (re_bl))) (rss_nil))))))) (rss_cons (rs_if (rt_w (rw_or (rt_not (rt_tru (ro_of (re_call G_u_law_good (hr.mono (by decide)) rfl g_u_law_good F_u_law_good.kp b_u_law_good .nil (fun _ _ => .nil) (ra_cons (ro_of (re_tup (ra_cons (ro_of (re_int)) (ra_cons (ro_of (re_int)) (ra_nil))))) (ra_nil)))))) (rw_or (rt_not (rt_tru (ro_of (re_call G_u_law_good (hr.mono (by decide)) rfl g_u_law_good F_u_law_good.kp b_u_law_good .nil (fun _ _ => .nil) (ra_cons (ro_of (re_tup (ra_cons (ro_of (re_int)) (ra_cons (ro_of (re_int)) (ra_nil))))) (ra_nil)))))) (rw_or1 (rt_not (rt_tru (ro_of (re_call G_u_law_good (hr.mono (by decide)) rfl g_u_law_good F_u_law_good.kp b_u_law_good .nil (fun _ _ => .nil) (ra_cons (ro_of (re_mul (ro_of (re_tup (ra_cons (ro_of (re_int)) (ra_nil)))) (ro_of (re_int)))) (ra_nil)))))))))) (rss_one (rs_ret (re_bl))) (rss_nil)) (rss_one (rs_ret (re_and (re_call G_u_law_good (hr.mono (by decide)) rfl g_u_law_good F_u_law_good.kp b_u_law_good .nil (fun _ _ => .nil) (ra_cons (ro_of (re_tup (ra_nil))) (ra_nil))) (re_and (re_call G_u_law_good (hr.mono (by decide)) rfl g_u_law_good F_u_law_good.kp b_u_law_good .nil (fun _ _ => .nil) (ra_cons (ro_of (re_tup (ra_cons (ro_of (re_int)) (ra_nil)))) (ra_nil))) (re_one (re_call G_u_law_good (hr.mono (by decide)) rfl g_u_law_good F_u_law_good.kp b_u_law_good .nil (fun _ _ => .nil) (ra_cons (ro_of (re_mul (ro_of (re_tup (ra_cons (ro_of (re_int)) (ra_nil)))) (ro_of (re_int)))) (ra_nil)))))))))
/-! ### the head -/
end
def dd_is_integer : He.DefD := ⟨("is_integer", none), "is_integer", "is_integer", defArgs s_is_integer, defBody s_is_integer, defScope s_is_integer, [], []⟩
def dd_is_between : He.DefD := ⟨("is_between", none), "is_between", "is_between", defArgs s_is_between, defBody s_is_between, defScope s_is_between, [], []⟩
def dd_is_within_limits : He.DefD := ⟨("is_within_limits", none), "is_within_limits", "is_within_limits", defArgs s_is_within_limits, defBody s_is_within_limits, defScope s_is_within_limits, [], []⟩
def dd_is_valid_lot : He.DefD := ⟨("is_valid_lot", none), "is_valid_lot", "is_valid_lot", defArgs s_is_valid_lot, defBody s_is_valid_lot, defScope s_is_valid_lot, [], []⟩
def dd_check_lot : He.DefD := ⟨("check_lot", none), "check_lot", "check_lot", defArgs s_check_lot, defBody s_check_lot, defScope s_check_lot, [], []⟩
def dd_check_positive : He.DefD := ⟨("check_positive", none), "check_positive", "check_positive", defArgs s_check_positive, defBody s_check_positive, defScope s_check_positive, [], []⟩
def dd_check_count : He.DefD := ⟨("check_count", none), "check_count", "check_count", defArgs s_check_count, defBody s_check_count, defScope s_check_count, [], []⟩
def dd_steel : He.DefD := ⟨("steel", none), "steel", "steel", defArgs s_steel, defBody s_steel, defScope s_steel, [], []⟩
def dd_top_sum : He.DefD := ⟨("top_sum", none), "top_sum", "top_sum", defArgs s_top_sum, defBody s_top_sum, defScope s_top_sum, [], []⟩
def dd_capacity_of : He.DefD := ⟨("capacity_of", none), "capacity_of", "capacity_of", defArgs s_capacity_of, defBody s_capacity_of, defScope s_capacity_of, [], []⟩
def dd_capacity : He.DefD := ⟨("capacity", none), "capacity", "capacity", defArgs s_capacity, defBody s_capacity, defScope s_capacity, [], []⟩
def dd_count_from : He.DefD := ⟨("count_from", none), "count_from", "count_from", defArgs s_count_from, defBody s_count_from, defScope s_count_from, [], []⟩
def dd_u_law_mixed : He.DefD := ⟨("_law_mixed", none), "_law_mixed", "_law_mixed", defArgs s_u_law_mixed, defBody s_u_law_mixed, defScope s_u_law_mixed, [], []⟩
def dd_u_law_cell : He.DefD := ⟨("_law_cell", none), "_law_cell", "_law_cell", defArgs s_u_law_cell, defBody s_u_law_cell, defScope s_u_law_cell, [], []⟩
def dd_u_law_take : He.DefD := ⟨("_law_take", none), "_law_take", "_law_take", defArgs s_u_law_take, defBody s_u_law_take, defScope s_u_law_take, [], []⟩
def dd_u_law_lot : He.DefD := ⟨("_law_lot", none), "_law_lot", "_law_lot", defArgs s_u_law_lot, defBody s_u_law_lot, defScope s_u_law_lot, [], []⟩
def dd_u_law_capacity : He.DefD := ⟨("_law_capacity", none), "_law_capacity", "_law_capacity", defArgs s_u_law_capacity, defBody s_u_law_capacity, defScope s_u_law_capacity, [], []⟩
def dd_u_law_top : He.DefD := ⟨("_law_top", none), "_law_top", "_law_top", defArgs s_u_law_top, defBody s_u_law_top, defScope s_u_law_top, [], []⟩
def dd_u_law_plain : He.DefD := ⟨("_law_plain", none), "_law_plain", "_law_plain", defArgs s_u_law_plain, defBody s_u_law_plain, defScope s_u_law_plain, [], []⟩
def dd_u_law_good : He.DefD := ⟨("_law_good", none), "_law_good", "_law_good", defArgs s_u_law_good, defBody s_u_law_good, defScope s_u_law_good, [], []⟩
def dd_law : He.DefD := ⟨("law", none), "law", "law", defArgs s_law, defBody s_law, defScope s_law, [], []⟩
def fnL_0 : List He.DefD := [dd_is_integer, dd_is_between, dd_is_within_limits, dd_is_valid_lot, dd_check_lot, dd_check_positive, dd_check_count, dd_steel, dd_top_sum, dd_capacity_of, dd_capacity, dd_count_from, dd_u_law_mixed, dd_u_law_cell, dd_u_law_take, dd_u_law_lot, dd_u_law_capacity, dd_u_law_top, dd_u_law_plain, dd_u_law_good, dd_law]
def fnL : List He.DefD := fnL_0
def faL_0 : List He.Fa := [.glo "is_integer", .glo "is_between", .glo "is_within_limits", .glo "is_valid_lot", .glo "check_lot", .glo "check_positive", .glo "check_count", .glo "steel", .glo "top_sum", .glo "capacity_of", .glo "capacity", .glo "count_from", .glo "_law_mixed", .glo "_law_cell", .glo "_law_take", .glo "_law_lot", .glo "_law_capacity", .glo "_law_top", .glo "_law_plain", .glo "_law_good", .glo "law", .free "all", .free "any", .free "bool", .free "int", .free "isinstance", .free "len", .free "list", .free "max", .free "min"]
def faL_1 : List He.Fa := [.free "range", .free "sorted", .free "sum", .free "tuple", .int "MOST_NUMBER" 200, .int "MOST_STEEL" 200, .int "MOST_TOOLS" 60, .glo "InvalidLot", .exc "InvalidLot", .glo "InvalidNumber", .exc "InvalidNumber"]
def faL : List He.Fa := faL_0 ++ faL_1
def tfL : List He.Defn := [("is_valid_lot", none)]
def exL : PySem.W.Frag → Bool := fun _ => true
abbrev R : PySem.W.OpenRow := PySem.W.OpenLaw.row PySem.Challenge.rw_keenlot_k02_sums_and_capacities
abbrev hk : PySem.W.Hook := He.hookX 4 faL fnL [] tfL exL
def ob (s : PySem.W.SharedT) : He.AlX := He.obsX 4 faL fnL [] tfL exL (HandSHeadRun.getT s)
theorem ob_eq (s : PySem.W.SharedT) : ob s = hk.obs s.abs := He.obsX_eq (HandSHeadRun.getT_eq s)
def looseL_0 : List PySem.Str := ["KeenError", "InvalidLot", "InvalidNumber", "MOST_TOOLS", "MOST_STEEL", "MOST_NUMBER", "is_integer", "is_between", "is_within_limits", "is_valid_lot", "check_lot", "check_positive", "check_count", "steel", "top_sum", "capacity", "count_from", "capacity_of", "_law_mixed", "_law_cell", "_law_take", "_law_lot", "_law_capacity", "_law_top", "_law_plain", "_law_good"]
def looseL : List PySem.Str := looseL_0
theorem run (w : World) : HandSHeadRun.RunEq R (PySem.W.view R.prog [30]) hk ob 6000 looseL w := by
  intro os
  kernel_rfl
theorem facts {P : Program} {w : World} {K : PySem.W.Frag} {h : Heap} {mg : Str → Option Value} (KX : K.In h) (G : h.Ns PySem.mainGlobals mg) (c : He.SaysX faL fnL [] tfL exL w h K) {d_law : FuncData} (F_law : FnP K "law" s_law (He.fAd K ("law", none)) d_law) (base : Heap) (KB : K.In base) (GB : base.Ns PySem.mainGlobals mg) (hTB : ∀ p ∈ tfL.map (He.cT K), LamX.TabB base mg p.1 p.2) :
    @FnOk P w K mg base (L2.CX P w) 11 (He.fAd K ("law", none)) d_law ["script"] (@spF (tabsOf (tfL.map (He.cT K))) K mg 1 false f_law) := by
  letI := tabsOf (tfL.map (He.cT K))
  have cd := c.t.d
  obtain ⟨d_is_integer, F_is_integer⟩ := cd.def_ 0 (d := dd_is_integer) rfl
  have g_is_integer : mg "is_integer" = some (.ref (He.fAd K ("is_integer", none))) := He.glo_ok KX G (cd.fact 0 (f := .glo "is_integer") rfl)
  obtain ⟨d_is_between, F_is_between⟩ := cd.def_ 1 (d := dd_is_between) rfl
  have g_is_between : mg "is_between" = some (.ref (He.fAd K ("is_between", none))) := He.glo_ok KX G (cd.fact 1 (f := .glo "is_between") rfl)
  obtain ⟨d_is_within_limits, F_is_within_limits⟩ := cd.def_ 2 (d := dd_is_within_limits) rfl
  have g_is_within_limits : mg "is_within_limits" = some (.ref (He.fAd K ("is_within_limits", none))) := He.glo_ok KX G (cd.fact 2 (f := .glo "is_within_limits") rfl)
  obtain ⟨d_is_valid_lot, F_is_valid_lot⟩ := cd.def_ 3 (d := dd_is_valid_lot) rfl
  have g_is_valid_lot : mg "is_valid_lot" = some (.ref (He.fAd K ("is_valid_lot", none))) := He.glo_ok KX G (cd.fact 3 (f := .glo "is_valid_lot") rfl)
  obtain ⟨d_check_lot, F_check_lot⟩ := cd.def_ 4 (d := dd_check_lot) rfl
  have g_check_lot : mg "check_lot" = some (.ref (He.fAd K ("check_lot", none))) := He.glo_ok KX G (cd.fact 4 (f := .glo "check_lot") rfl)
  obtain ⟨d_check_positive, F_check_positive⟩ := cd.def_ 5 (d := dd_check_positive) rfl
  have g_check_positive : mg "check_positive" = some (.ref (He.fAd K ("check_positive", none))) := He.glo_ok KX G (cd.fact 5 (f := .glo "check_positive") rfl)
  obtain ⟨d_check_count, F_check_count⟩ := cd.def_ 6 (d := dd_check_count) rfl
  have g_check_count : mg "check_count" = some (.ref (He.fAd K ("check_count", none))) := He.glo_ok KX G (cd.fact 6 (f := .glo "check_count") rfl)
  obtain ⟨d_steel, F_steel⟩ := cd.def_ 7 (d := dd_steel) rfl
  have g_steel : mg "steel" = some (.ref (He.fAd K ("steel", none))) := He.glo_ok KX G (cd.fact 7 (f := .glo "steel") rfl)
  obtain ⟨d_top_sum, F_top_sum⟩ := cd.def_ 8 (d := dd_top_sum) rfl
  have g_top_sum : mg "top_sum" = some (.ref (He.fAd K ("top_sum", none))) := He.glo_ok KX G (cd.fact 8 (f := .glo "top_sum") rfl)
  obtain ⟨d_capacity_of, F_capacity_of⟩ := cd.def_ 9 (d := dd_capacity_of) rfl
  have g_capacity_of : mg "capacity_of" = some (.ref (He.fAd K ("capacity_of", none))) := He.glo_ok KX G (cd.fact 9 (f := .glo "capacity_of") rfl)
  obtain ⟨d_capacity, F_capacity⟩ := cd.def_ 10 (d := dd_capacity) rfl
  have g_capacity : mg "capacity" = some (.ref (He.fAd K ("capacity", none))) := He.glo_ok KX G (cd.fact 10 (f := .glo "capacity") rfl)
  obtain ⟨d_count_from, F_count_from⟩ := cd.def_ 11 (d := dd_count_from) rfl
  have g_count_from : mg "count_from" = some (.ref (He.fAd K ("count_from", none))) := He.glo_ok KX G (cd.fact 11 (f := .glo "count_from") rfl)
  obtain ⟨d_u_law_mixed, F_u_law_mixed⟩ := cd.def_ 12 (d := dd_u_law_mixed) rfl
  have g_u_law_mixed : mg "_law_mixed" = some (.ref (He.fAd K ("_law_mixed", none))) := He.glo_ok KX G (cd.fact 12 (f := .glo "_law_mixed") rfl)
  obtain ⟨d_u_law_cell, F_u_law_cell⟩ := cd.def_ 13 (d := dd_u_law_cell) rfl
  have g_u_law_cell : mg "_law_cell" = some (.ref (He.fAd K ("_law_cell", none))) := He.glo_ok KX G (cd.fact 13 (f := .glo "_law_cell") rfl)
  obtain ⟨d_u_law_take, F_u_law_take⟩ := cd.def_ 14 (d := dd_u_law_take) rfl
  have g_u_law_take : mg "_law_take" = some (.ref (He.fAd K ("_law_take", none))) := He.glo_ok KX G (cd.fact 14 (f := .glo "_law_take") rfl)
  obtain ⟨d_u_law_lot, F_u_law_lot⟩ := cd.def_ 15 (d := dd_u_law_lot) rfl
  have g_u_law_lot : mg "_law_lot" = some (.ref (He.fAd K ("_law_lot", none))) := He.glo_ok KX G (cd.fact 15 (f := .glo "_law_lot") rfl)
  obtain ⟨d_u_law_capacity, F_u_law_capacity⟩ := cd.def_ 16 (d := dd_u_law_capacity) rfl
  have g_u_law_capacity : mg "_law_capacity" = some (.ref (He.fAd K ("_law_capacity", none))) := He.glo_ok KX G (cd.fact 16 (f := .glo "_law_capacity") rfl)
  obtain ⟨d_u_law_top, F_u_law_top⟩ := cd.def_ 17 (d := dd_u_law_top) rfl
  have g_u_law_top : mg "_law_top" = some (.ref (He.fAd K ("_law_top", none))) := He.glo_ok KX G (cd.fact 17 (f := .glo "_law_top") rfl)
  obtain ⟨d_u_law_plain, F_u_law_plain⟩ := cd.def_ 18 (d := dd_u_law_plain) rfl
  have g_u_law_plain : mg "_law_plain" = some (.ref (He.fAd K ("_law_plain", none))) := He.glo_ok KX G (cd.fact 18 (f := .glo "_law_plain") rfl)
  obtain ⟨d_u_law_good, F_u_law_good⟩ := cd.def_ 19 (d := dd_u_law_good) rfl
  have g_u_law_good : mg "_law_good" = some (.ref (He.fAd K ("_law_good", none))) := He.glo_ok KX G (cd.fact 19 (f := .glo "_law_good") rfl)
  have g_law : mg "law" = some (.ref (He.fAd K ("law", none))) := He.glo_ok KX G (cd.fact 20 (f := .glo "law") rfl)
  have n_all : mg "all" = none := He.free_ok KX G (cd.fact 21 (f := .free "all") rfl)
  have n_any : mg "any" = none := He.free_ok KX G (cd.fact 22 (f := .free "any") rfl)
  have n_bool : mg "bool" = none := He.free_ok KX G (cd.fact 23 (f := .free "bool") rfl)
  have n_int : mg "int" = none := He.free_ok KX G (cd.fact 24 (f := .free "int") rfl)
  have n_isinstance : mg "isinstance" = none := He.free_ok KX G (cd.fact 25 (f := .free "isinstance") rfl)
  have n_len : mg "len" = none := He.free_ok KX G (cd.fact 26 (f := .free "len") rfl)
  have n_list : mg "list" = none := He.free_ok KX G (cd.fact 27 (f := .free "list") rfl)
  have n_max : mg "max" = none := He.free_ok KX G (cd.fact 28 (f := .free "max") rfl)
  have n_min : mg "min" = none := He.free_ok KX G (cd.fact 29 (f := .free "min") rfl)
  have n_range : mg "range" = none := He.free_ok KX G (cd.fact 30 (f := .free "range") rfl)
  have n_sorted : mg "sorted" = none := He.free_ok KX G (cd.fact 31 (f := .free "sorted") rfl)
  have n_sum : mg "sum" = none := He.free_ok KX G (cd.fact 32 (f := .free "sum") rfl)
  have n_tuple : mg "tuple" = none := He.free_ok KX G (cd.fact 33 (f := .free "tuple") rfl)
  have i_MOST_NUMBER : ∃ t, mg "MOST_NUMBER" = some (.int 200 t) := He.int_ok KX G (cd.fact 34 (f := .int "MOST_NUMBER" 200) rfl)
  have i_MOST_STEEL : ∃ t, mg "MOST_STEEL" = some (.int 200 t) := He.int_ok KX G (cd.fact 35 (f := .int "MOST_STEEL" 200) rfl)
  have i_MOST_TOOLS : ∃ t, mg "MOST_TOOLS" = some (.int 60 t) := He.int_ok KX G (cd.fact 36 (f := .int "MOST_TOOLS" 60) rfl)
  have e_InvalidLot : ErrK K mg "InvalidLot" := err_k KX G (cd.fact 37 (f := .glo "InvalidLot") rfl) (cd.fact 38 (f := .exc "InvalidLot") rfl)
  have e_InvalidNumber : ErrK K mg "InvalidNumber" := err_k KX G (cd.fact 39 (f := .glo "InvalidNumber") rfl) (cd.fact 40 (f := .exc "InvalidNumber") rfl)
  have m_is_valid_lot : He.cT K ("is_valid_lot", none) ∈ tfL.map (He.cT K) := List.mem_map.mpr ⟨_, by simp [tfL], rfl⟩
  have TB_is_valid_lot := tab_g (hTB _ m_is_valid_lot)
  have hP_is_valid_lot : Tabs.is (He.cT K ("is_valid_lot", none)).2 := List.mem_map.mpr ⟨_, m_is_valid_lot, rfl⟩
  have hc_is_valid_lot := code_is (p := ("is_valid_lot", none)) F_is_valid_lot
  have G_is_integer := ok_is_integer (P := P) (w := w) (mg := mg) (base := base) F_is_integer n_bool n_int n_isinstance
  have G_is_between := ok_is_between (P := P) (w := w) (mg := mg) (base := base) F_is_between F_is_integer g_is_integer G_is_integer
  have G_is_within_limits := ok_is_within_limits (P := P) (w := w) (mg := mg) (base := base) F_is_within_limits n_len n_sum i_MOST_STEEL i_MOST_TOOLS
  have G_is_valid_lot := ok_is_valid_lot (P := P) (w := w) (mg := mg) (base := base) F_is_valid_lot F_is_between g_is_between G_is_between F_is_within_limits g_is_within_limits G_is_within_limits n_all n_isinstance n_list n_sorted n_tuple i_MOST_STEEL hP_is_valid_lot TB_is_valid_lot hc_is_valid_lot
  have G_check_lot := ok_check_lot (P := P) (w := w) (mg := mg) (base := base) F_check_lot F_is_valid_lot g_is_valid_lot G_is_valid_lot e_InvalidLot
  have G_check_positive := ok_check_positive (P := P) (w := w) (mg := mg) (base := base) F_check_positive F_is_between g_is_between G_is_between i_MOST_NUMBER e_InvalidNumber
  have G_check_count := ok_check_count (P := P) (w := w) (mg := mg) (base := base) F_check_count F_is_between g_is_between G_is_between i_MOST_NUMBER e_InvalidNumber
  have G_steel := ok_steel (P := P) (w := w) (mg := mg) (base := base) F_steel F_check_lot g_check_lot G_check_lot n_sum
  have G_top_sum := ok_top_sum (P := P) (w := w) (mg := mg) (base := base) F_top_sum F_check_count g_check_count G_check_count F_check_lot g_check_lot G_check_lot n_sum
  have G_capacity_of := ok_capacity_of (P := P) (w := w) (mg := mg) (base := base) F_capacity_of n_sum
  have G_capacity := ok_capacity (P := P) (w := w) (mg := mg) (base := base) F_capacity F_capacity_of g_capacity_of G_capacity_of F_check_lot g_check_lot G_check_lot F_check_positive g_check_positive G_check_positive
  have G_count_from := ok_count_from (P := P) (w := w) (mg := mg) (base := base) F_count_from F_check_lot g_check_lot G_check_lot F_check_positive g_check_positive G_check_positive n_len
  have G_u_law_mixed := ok_u_law_mixed (P := P) (w := w) (mg := mg) (base := base) F_u_law_mixed
  have G_u_law_cell := ok_u_law_cell (P := P) (w := w) (mg := mg) (base := base) F_u_law_cell F_u_law_mixed g_u_law_mixed G_u_law_mixed n_len n_range
  have G_u_law_take := ok_u_law_take (P := P) (w := w) (mg := mg) (base := base) F_u_law_take
  have G_u_law_lot := ok_u_law_lot (P := P) (w := w) (mg := mg) (base := base) F_u_law_lot F_u_law_take g_u_law_take G_u_law_take n_range n_sorted n_sum n_tuple
  have G_u_law_capacity := ok_u_law_capacity (P := P) (w := w) (mg := mg) (base := base) F_u_law_capacity n_sum
  have G_u_law_top := ok_u_law_top (P := P) (w := w) (mg := mg) (base := base) F_u_law_top n_len n_min n_range
  have G_u_law_plain := ok_u_law_plain (P := P) (w := w) (mg := mg) (base := base) F_u_law_plain F_capacity g_capacity G_capacity F_count_from g_count_from G_count_from F_steel g_steel G_steel F_top_sum g_top_sum G_top_sum n_any n_bool n_isinstance
  have G_u_law_good := ok_u_law_good (P := P) (w := w) (mg := mg) (base := base) F_u_law_good F_u_law_capacity g_u_law_capacity G_u_law_capacity F_u_law_plain g_u_law_plain G_u_law_plain F_u_law_top g_u_law_top G_u_law_top F_capacity g_capacity G_capacity F_count_from g_count_from G_count_from F_steel g_steel G_steel F_top_sum g_top_sum G_top_sum n_len n_list n_max n_min n_range n_sum
  have G_law := ok_law (P := P) (w := w) (mg := mg) (base := base) F_law F_u_law_cell g_u_law_cell G_u_law_cell F_u_law_good g_u_law_good G_u_law_good F_u_law_lot g_u_law_lot G_u_law_lot F_u_law_take g_u_law_take G_u_law_take n_len n_max n_min n_range
  exact G_law
theorem at_ {w : World} {mg : Str → Option Value} {fa : Addr} {h : Heap} (pure : ∀ ns : List Int, ns.length ≤ 63 → (∀ z ∈ ns, Builtin.Int.intBits z ≤ 1048576) → ∃ ρ, f_law [.va (.scr ns)] = .ok (.fz (.bl true)) ρ) (hG : h.Ns PySem.mainGlobals mg) (hfa : mg ("law" : Str) = some (.ref fa)) (Y : hk.says w h) : ∃ K : PySem.W.Frag, K.In h ∧ LamX.LawAtS PySem.Challenge.rw_keenlot_k02_sums_and_capacities w K (L2.CX PySem.Challenge.rw_keenlot_k02_sums_and_capacities.prog w) 11 63 "script" mg fa h := by
  obtain ⟨K, KX, c⟩ := Y
  refine ⟨K, KX, ?_⟩
  obtain ⟨fd, F0⟩ := c.t.d.def_ 20 (d := dd_law) rfl
  have e := hfa.symm.trans (He.glo_ok KX hG (c.t.d.fact 20 (f := .glo "law") rfl))
  cases e
  have b := FunD.bindsA (ps := ["script"]) F0 fun _ _ _ _ _ _ us hl => match us, hl with | [_], _ => rfl
  refine ⟨fd, tfL.map (He.cT K), @spF (tabsOf (tfL.map (He.cT K))) K mg 1 false f_law, fun p hp => ?_, fun p hp => ?_, fun p hp => ?_, fun s v => b s [v] rfl, fun H a ns hl hb hH hs => law_sp hH hs (pure ns hl hb), fun base KB GB hTB => ?_⟩
  · obtain ⟨q, hq, rfl⟩ := List.mem_map.mp hp
    exact c.empty q hq
  · obtain ⟨q, hq, rfl⟩ := List.mem_map.mp hp
    exact c.out q hq
  · obtain ⟨q, hq, rfl⟩ := List.mem_map.mp hp
    exact PySem.W.codeHd_of_K KX (c.hd q hq)
  · exact facts (P := PySem.Challenge.rw_keenlot_k02_sums_and_capacities.prog) (w := w) KX hG c F0 base KB GB hTB
end K02
end

section
set_option Elab.async false
set_option linter.all false
set_option maxRecDepth 100000
set_option maxHeartbeats 0
open PySem PySem.W PySem.Calls PyProof.Rows
theorem k02_of (pure : ∀ ns : List Int, ns.length ≤ 63 → (∀ z ∈ ns, Builtin.Int.intBits z ≤ 1048576) → ∃ ρ, K02.f_law [.va (.scr ns)] = .ok (.fz (.bl true)) ρ) : PySem.Challenge.rw_keenlot_k02_sums_and_capacities.Holds := by
  w_on; o_law
  refine HandSHeadRun.head_any (r := OpenLaw.row PySem.Challenge.rw_keenlot_k02_sums_and_capacities) (q := view (OpenLaw.row PySem.Challenge.rw_keenlot_k02_sums_and_capacities).prog [30]) (H := K02.hk) (ob := K02.ob) (M := 6000) (loose := K02.looseL) (d := HandSHeadRun.topDef (OpenLaw.row PySem.Challenge.rw_keenlot_k02_sums_and_capacities).prog 30) (kwd := []) K02.ob_eq
    (by kernel_rfl) (fun s => by kernel_rfl) K02.run (by kernel_rfl) (by kernel_rfl) (by kernel_rfl) (by rfl) (by first | assumption | decide +kernel) (by decide +kernel) ⟨rfl, rfl, rfl, rfl, rfl, by decide +kernel⟩ ?hw ?hc
  case hw => w_witness2
  case hc =>
    refine KL.walk_ofX (l := PySem.Challenge.rw_keenlot_k02_sums_and_capacities) (n := 63) (k := 11) (x := "script") rfl (by decide) (by kernel_rfl) ⟨rfl, by decide, by decide⟩ ?F
    intro w mg fa h Y G hmg0
    have hmg : mg ("law" : PySem.Str) = some (.ref fa) := by
      have e : (HandSHeadRun.topDef (OpenLaw.row PySem.Challenge.rw_keenlot_k02_sums_and_capacities).prog 30).name = ("law" : PySem.Str) := by kernel_rfl
      rw [← e]
      exact hmg0
    exact K02.at_ pure G hmg Y
end

section
set_option Elab.async false
set_option linter.all false
set_option maxRecDepth 100000
namespace KL
open PySem L2
/-! ### how the functions of the layer are worked out: equations for simp -/
@[simp] theorem leP_i (i j : Int) : leP (.int i) (.int j) = some (.fz (.bl (decide (i ≤ j)))) := rfl
@[simp] theorem ltP_i (i j : Int) : ltP (.int i) (.int j) = some (.fz (.bl (decide (i < j)))) := rfl
@[simp] theorem geP_i (i j : Int) : geP (.int i) (.int j) = some (.fz (.bl (decide (j ≤ i)))) := rfl
@[simp] theorem gtP_i (i j : Int) : gtP (.int i) (.int j) = some (.fz (.bl (decide (j < i)))) := rfl
@[simp] theorem addP_i (i j : Int) : addP (.int i) (.int j) = some (.fz (.int (i + j))) := rfl
@[simp] theorem subP_i (i j : Int) : subP (.int i) (.int j) = some (.fz (.int (i - j))) := rfl
theorem mulP_i {i j : Int} (h : mulC i j = true) : mulP (.int i) (.int j) = some (.fz (.int (i * j))) := by
  unfold mulP orP arC; simp only [h, if_true]; rfl
theorem modP_i {i j : Int} (h : 0 < j) : modP (.int i) (.int j) = some (.fz (.int (i % j))) := by
  unfold modP arC; simp only [h, decide_true, if_true]; rfl
theorem divP_i {i j : Int} (h : 0 < j) (h2 : j < 1073741824) : divP (.int i) (.int j) = some (.fz (.int (i / j))) := by
  unfold divP arC; simp only [h, h2, decide_true, Bool.and_self, if_true]; rfl
@[simp] theorem eqP_i (i j : Int) : eqP (.int i) (.int j) = some (.fz (.bl (i == j))) := rfl
@[simp] theorem neP_i (i j : Int) : neP (.int i) (.int j) = some (.fz (.bl (!(i == j)))) := rfl
theorem ints_some : ∀ ts : List Int, ints? (ts.map .int) = some ts
  | [] => rfl
  | t :: r => by simp [ints?, D.int?, ints_some r]
@[simp] theorem dints_t (ts : List Int) : D.ints? (.tup (ts.map .int)) = some ts := ints_some ts
@[simp] theorem dints_l (ts : List Int) : D.ints? (.lst (ts.map .int)) = some ts := ints_some ts
theorem depL_ints : ∀ ts : List Int, D.depL (ts.map .int) ≤ 1
  | [] => by simp [D.depL]
  | t :: r => by
    have := depL_ints r
    simp [D.depL, D.dep]
    omega
theorem plnL_ints : ∀ ts : List Int, D.plnL (ts.map .int) = true
  | [] => by simp [D.plnL]
  | t :: r => by simp [D.plnL, D.pln, plnL_ints r]
theorem eqL_ints : ∀ a b : List Int, D.eqL (a.map .int) (b.map .int) = decide (a = b)
  | [], [] => by simp [D.eqL]
  | [], _ :: _ => by simp [D.eqL]
  | _ :: _, [] => by simp [D.eqL]
  | x :: a, y :: b => by
    simp only [List.map_cons, D.eqL, D.eqD, eqL_ints a b]
    by_cases h : x = y <;> simp [h]
theorem eqP_lints (a b : List Int) : eqP (.lst (a.map .int)) (.lst (b.map .int)) = some (.fz (.bl (decide (a = b)))) := by
  unfold eqP
  have h1 := depL_ints a
  have h2 := depL_ints b
  rw [if_pos (by simp [D.pln, plnL_ints, D.dep]; omega)]
  simp [blV, D.eqD, eqL_ints]
theorem neP_lints (a b : List Int) : neP (.lst (a.map .int)) (.lst (b.map .int)) = some (.fz (.bl (!decide (a = b)))) := by
  unfold neP
  have h1 := depL_ints a
  have h2 := depL_ints b
  rw [if_pos (by simp [D.pln, plnL_ints, D.dep]; omega)]
  simp [blV, D.eqD, eqL_ints]
end KL
end

section
set_option Elab.async false
set_option linter.all false
set_option maxRecDepth 100000
namespace K02
open PySem L2 KL

theorem is_integer_int (i : Int) : f_is_integer [.va (.int i)] = .ok (.fz (.bl true)) [.un] := by rfl
theorem is_between_int (i lo hi : Int) : f_is_between [.va (.int i), .va (.int lo), .va (.int hi)] = .ok (.fz (.bl (decide (lo ≤ i) && decide (i ≤ hi)))) [.un, .un, .un] := by
  by_cases h : lo ≤ i <;> simp [seqS, nxS, setS, bndS, bnd, retS, exS, ifS, KL.bin, un1, frz, nmE, nmO, nmM, cE, aNil, aCons, vals?, vaL, back, callV, callB, appN, getAll, app1, app2, Od.get, Sl.d?, ofO, tst, tru, tNotB, tAndB, tOrB, eAnd, eOr, eNot, chn, put, notIo, Vl.sl, Vl.d, D.tru, fnM, cutE, Sl.isIo, itE, items?, mkT, mkL, raise0, argM, h, f_is_between, bd_is_between, is_integer_int]
theorem is_within (ts : List Int) : f_is_within_limits [.va (.tup (ts.map .int))] = .ok (.fz (.bl (decide ((ts.length : Int) ≤ 60) && decide (ts.sum ≤ 200)))) [.un] := by
  by_cases h : (ts.length : Int) ≤ 60 <;> simp [seqS, nxS, setS, bndS, bnd, retS, exS, ifS, KL.bin, un1, frz, nmE, nmO, nmM, cE, aNil, aCons, vals?, vaL, back, callV, callB, appN, getAll, app1, app2, Od.get, Sl.d?, ofO, tst, tru, tNotB, tAndB, tOrB, eAnd, eOr, eNot, chn, put, notIo, Vl.sl, Vl.d, D.tru, fnM, cutE, Sl.isIo, itE, items?, mkT, mkL, raise0, argM, h, f_is_within_limits, bd_is_within_limits, lenP, sumP]
structure Good (ts : List Int) : Prop where
  rng : ∀ t ∈ ts, 1 ≤ t ∧ t ≤ 200
  desc : ts.Pairwise (· ≥ ·)
  len : ts.length ≤ 60
  sum : ts.sum ≤ 200
abbrev tp (ts : List Int) : D := .tup (ts.map .int)
theorem all_good (x : D) : ∀ ts : List Int, (∀ t ∈ ts, 1 ≤ t ∧ t ≤ 200) → allL [1] (tgN 1) (callV 3 f_is_between [] (aCons (frz (nmE 1)) (aCons (frz (cE (.int 1))) (aCons (frz (cE (.int 200))) aNil)))) (ts.map .int) [.va x, .un] = .ok true [.va x, .un]
  | [], _ => rfl
  | t :: r, h => by
    have h1 := h t (List.mem_cons_self ..)
    have ih := all_good x r fun u hu => h u (List.mem_cons_of_mem _ hu)
    simp only [List.map_cons, allL]
    simp [seqS, nxS, setS, bndS, bnd, retS, exS, ifS, KL.bin, un1, frz, nmE, nmO, nmM, cE, aNil, aCons, vals?, vaL, back, callV, callB, appN, getAll, app1, app2, Od.get, Sl.d?, ofO, tst, tru, tNotB, tAndB, tOrB, eAnd, eOr, eNot, chn, put, notIo, Vl.sl, Vl.d, D.tru, fnM, cutE, Sl.isIo, itE, items?, mkT, mkL, raise0, argM, tgN, is_between_int, h1.1, h1.2, okW, wipeE, Sl.mine]
    exact ih
theorem sort_good {ts : List Int} (h : ts.Pairwise (· ≥ ·)) : (isortI ts).reverse = ts := by
  letI : Tabs := ⟨fun _ => False⟩
  exact (rev_unique (isort_perm ts).symm h (isort_sorted ts)).symm
theorem valid_good {ts : List Int} (g : Good ts) : f_is_valid_lot [.va (tp ts)] = .ok (.fz (.bl true)) [.un] := by
  have h1 := all_good (tp ts) ts g.rng
  have h2 : (ts.length : Int) ≤ 60 := by have := g.len; omega
  have h3 : sortRevP (tp ts) = some (.fr (ts.map .int)) := by
    unfold sortRevP
    simp [seqS, nxS, setS, bndS, bnd, retS, exS, ifS, KL.bin, un1, frz, nmE, nmO, nmM, cE, aNil, aCons, vals?, vaL, back, callV, callB, appN, getAll, app1, app2, Od.get, Sl.d?, ofO, tst, tru, tNotB, tAndB, tOrB, eAnd, eOr, eNot, chn, put, notIo, Vl.sl, Vl.d, D.tru, fnM, cutE, Sl.isIo, itE, items?, mkT, mkL, raise0, argM, sort_good g.desc]
  have hi : isiP (tyB "tuple") noK (tp ts) = some (.fz (.bl true)) := rfl
  simp [seqS, nxS, setS, bndS, bnd, retS, exS, ifS, KL.bin, un1, frz, nmE, nmO, nmM, cE, aNil, aCons, vals?, vaL, back, callV, callB, appN, getAll, app1, app2, Od.get, Sl.d?, ofO, tst, tru, tNotB, tAndB, tOrB, eAnd, eOr, eNot, chn, put, notIo, Vl.sl, Vl.d, D.tru, fnM, cutE, Sl.isIo, itE, items?, mkT, mkL, raise0, argM, f_is_valid_lot, bd_is_valid_lot, hi, allE, okW, wipeE, rstE, Sl.mine, h1, listP, h3, eqP_lints, is_within, h2, g.sum]
theorem check_good {ts : List Int} (g : Good ts) : f_check_lot [.va (tp ts)] = .ok (.fz .non) [.un] := by
  simp [seqS, nxS, setS, bndS, bnd, retS, exS, ifS, KL.bin, un1, frz, nmE, nmO, nmM, cE, aNil, aCons, vals?, vaL, back, callV, callB, appN, getAll, app1, app2, Od.get, Sl.d?, ofO, tst, tru, tNotB, tAndB, tOrB, eAnd, eOr, eNot, chn, put, notIo, Vl.sl, Vl.d, D.tru, fnM, cutE, Sl.isIo, itE, items?, mkT, mkL, raise0, argM, f_check_lot, bd_check_lot, valid_good g]
theorem steel_good {ts : List Int} (g : Good ts) : f_steel [.va (tp ts)] = .ok (.fz (.int ts.sum)) [.un] := by
  simp [seqS, nxS, setS, bndS, bnd, retS, exS, ifS, KL.bin, un1, frz, nmE, nmO, nmM, cE, aNil, aCons, vals?, vaL, back, callV, callB, appN, getAll, app1, app2, Od.get, Sl.d?, ofO, tst, tru, tNotB, tAndB, tOrB, eAnd, eOr, eNot, chn, put, notIo, Vl.sl, Vl.d, D.tru, fnM, cutE, Sl.isIo, itE, items?, mkT, mkL, raise0, argM, f_steel, bd_steel, check_good g, sumP]
theorem count_ok {c : Int} (h1 : 0 ≤ c) (h2 : c ≤ 200) : f_check_count [.va (.int c)] = .ok (.fz .non) [.un] := by
  simp [seqS, nxS, setS, bndS, bnd, retS, exS, ifS, KL.bin, un1, frz, nmE, nmO, nmM, cE, aNil, aCons, vals?, vaL, back, callV, callB, appN, getAll, app1, app2, Od.get, Sl.d?, ofO, tst, tru, tNotB, tAndB, tOrB, eAnd, eOr, eNot, chn, put, notIo, Vl.sl, Vl.d, D.tru, fnM, cutE, Sl.isIo, itE, items?, mkT, mkL, raise0, argM, f_check_count, bd_check_count, is_between_int, h1, h2]
theorem pos_ok {c : Int} (h1 : 1 ≤ c) (h2 : c ≤ 200) : f_check_positive [.va (.int c)] = .ok (.fz .non) [.un] := by
  simp [seqS, nxS, setS, bndS, bnd, retS, exS, ifS, KL.bin, un1, frz, nmE, nmO, nmM, cE, aNil, aCons, vals?, vaL, back, callV, callB, appN, getAll, app1, app2, Od.get, Sl.d?, ofO, tst, tru, tNotB, tAndB, tOrB, eAnd, eOr, eNot, chn, put, notIo, Vl.sl, Vl.d, D.tru, fnM, cutE, Sl.isIo, itE, items?, mkT, mkL, raise0, argM, f_check_positive, bd_check_positive, is_between_int, h1, h2]
/-! ### top sums, capacities -/
theorem cut_top (ts : List Int) {c : Int} (h : 0 ≤ c) : cutD (ts.map D.int) none (some c) = (ts.take c.toNat).map .int := by
  unfold cutD
  have e : HT.sIx (ts.map D.int).length (ts.map D.int).length (some c) = min c.toNat (ts.map D.int).length := by
    show (if c < 0 then _ else _) = _
    rw [if_neg (by omega)]
  rw [e, HT.sIx_none, List.drop_zero, Nat.sub_zero, List.map_take]
  by_cases hc : c.toNat ≤ (ts.map D.int).length
  · rw [Nat.min_eq_left hc]
  · rw [Nat.min_eq_right (by omega), List.take_of_length_le (Nat.le_refl _), List.take_of_length_le (by omega)]
theorem dints_take (ts : List Int) (k : Nat) : D.ints? (.tup (List.take k (ts.map D.int))) = some (ts.take k) := by
  rw [← List.map_take]; exact dints_t _
def top_ (ts : List Int) (c : Int) : Int := (ts.take c.toNat).sum
theorem top_good {ts : List Int} (g : Good ts) {c : Int} (h1 : 0 ≤ c) (h2 : c ≤ 200) : f_top_sum [.va (tp ts), .va (.int c)] = .ok (.fz (.int (top_ ts c))) [.un, .un] := by
  simp [seqS, nxS, setS, bndS, bnd, retS, exS, ifS, KL.bin, un1, frz, nmE, nmO, nmM, cE, aNil, aCons, vals?, vaL, back, callV, callB, appN, getAll, app1, app2, Od.get, Sl.d?, ofO, tst, tru, tNotB, tAndB, tOrB, eAnd, eOr, eNot, chn, put, notIo, Vl.sl, Vl.d, D.tru, fnM, cutE, Sl.isIo, itE, items?, mkT, mkL, raise0, argM, f_top_sum, bd_top_sum, check_good g, count_ok h1 h2, slE, ptN, ptS, slP, cut_top ts h1, sumP, top_, dints_take]
def capL (ts : List Int) (n : Int) : List Int := (ts.filter fun t => decide (n ≤ t)).map fun t => t - n + 1
def cap (ts : List Int) (n : Int) : Int := (capL ts n).sum
theorem capL_run (x : D) (n : Int) : ∀ (ts : List Int) (acc : List D), acc.length + ts.length ≤ 1000 → lcL [2] (tgN 2) (tst (bin geP (nmO 2) (nmO 1))) (bin addP (frz (bin subP (nmO 2) (nmO 1))) (frz (cE (.int 1)))) (ts.map .int) acc [.va x, .va (.int n), .un] = .ok (acc ++ (capL ts n).map .int) [.va x, .va (.int n), .un]
  | [], acc, _ => by simp [seqS, nxS, setS, bndS, bnd, retS, exS, ifS, KL.bin, un1, frz, nmE, nmO, nmM, cE, aNil, aCons, vals?, vaL, back, callV, callB, appN, getAll, app1, app2, Od.get, Sl.d?, ofO, tst, tru, tNotB, tAndB, tOrB, eAnd, eOr, eNot, chn, put, notIo, Vl.sl, Vl.d, D.tru, fnM, cutE, Sl.isIo, itE, items?, mkT, mkL, raise0, argM, lcL, capL]
  | t :: r, acc, h => by
    simp only [List.length_cons] at h
    simp only [List.map_cons, lcL]
    by_cases c : n ≤ t
    · have ih := capL_run x n r (acc ++ [.int (t - n + 1)]) (by simp [seqS, nxS, setS, bndS, bnd, retS, exS, ifS, KL.bin, un1, frz, nmE, nmO, nmM, cE, aNil, aCons, vals?, vaL, back, callV, callB, appN, getAll, app1, app2, Od.get, Sl.d?, ofO, tst, tru, tNotB, tAndB, tOrB, eAnd, eOr, eNot, chn, put, notIo, Vl.sl, Vl.d, D.tru, fnM, cutE, Sl.isIo, itE, items?, mkT, mkL, raise0, argM]; omega)
      have hl : acc.length < 1000000 := by omega
      simp [seqS, nxS, setS, bndS, bnd, retS, exS, ifS, KL.bin, un1, frz, nmE, nmO, nmM, cE, aNil, aCons, vals?, vaL, back, callV, callB, appN, getAll, app1, app2, Od.get, Sl.d?, ofO, tst, tru, tNotB, tAndB, tOrB, eAnd, eOr, eNot, chn, put, notIo, Vl.sl, Vl.d, D.tru, fnM, cutE, Sl.isIo, itE, items?, mkT, mkL, raise0, argM, tgN, c, okW, wipeE, Sl.mine, hl]
      rw [ih]
      simp [seqS, nxS, setS, bndS, bnd, retS, exS, ifS, KL.bin, un1, frz, nmE, nmO, nmM, cE, aNil, aCons, vals?, vaL, back, callV, callB, appN, getAll, app1, app2, Od.get, Sl.d?, ofO, tst, tru, tNotB, tAndB, tOrB, eAnd, eOr, eNot, chn, put, notIo, Vl.sl, Vl.d, D.tru, fnM, cutE, Sl.isIo, itE, items?, mkT, mkL, raise0, argM, capL, c]
    · have ih := capL_run x n r acc (by omega)
      simp [seqS, nxS, setS, bndS, bnd, retS, exS, ifS, KL.bin, un1, frz, nmE, nmO, nmM, cE, aNil, aCons, vals?, vaL, back, callV, callB, appN, getAll, app1, app2, Od.get, Sl.d?, ofO, tst, tru, tNotB, tAndB, tOrB, eAnd, eOr, eNot, chn, put, notIo, Vl.sl, Vl.d, D.tru, fnM, cutE, Sl.isIo, itE, items?, mkT, mkL, raise0, argM, tgN, c, okW, wipeE, Sl.mine]
      rw [ih]
      simp [seqS, nxS, setS, bndS, bnd, retS, exS, ifS, KL.bin, un1, frz, nmE, nmO, nmM, cE, aNil, aCons, vals?, vaL, back, callV, callB, appN, getAll, app1, app2, Od.get, Sl.d?, ofO, tst, tru, tNotB, tAndB, tOrB, eAnd, eOr, eNot, chn, put, notIo, Vl.sl, Vl.d, D.tru, fnM, cutE, Sl.isIo, itE, items?, mkT, mkL, raise0, argM, capL, c]
theorem cap_of {ts : List Int} (h : ts.length ≤ 60) (n : Int) : f_capacity_of [.va (tp ts), .va (.int n)] = .ok (.fz (.int (cap ts n))) [.un, .un] := by
  have e := capL_run (tp ts) n ts [] (by simp [seqS, nxS, setS, bndS, bnd, retS, exS, ifS, KL.bin, un1, frz, nmE, nmO, nmM, cE, aNil, aCons, vals?, vaL, back, callV, callB, appN, getAll, app1, app2, Od.get, Sl.d?, ofO, tst, tru, tNotB, tAndB, tOrB, eAnd, eOr, eNot, chn, put, notIo, Vl.sl, Vl.d, D.tru, fnM, cutE, Sl.isIo, itE, items?, mkT, mkL, raise0, argM]; omega)
  simp [seqS, nxS, setS, bndS, bnd, retS, exS, ifS, KL.bin, un1, frz, nmE, nmO, nmM, cE, aNil, aCons, vals?, vaL, back, callV, callB, appN, getAll, app1, app2, Od.get, Sl.d?, ofO, tst, tru, tNotB, tAndB, tOrB, eAnd, eOr, eNot, chn, put, notIo, Vl.sl, Vl.d, D.tru, fnM, cutE, Sl.isIo, itE, items?, mkT, mkL, raise0, argM, f_capacity_of, bd_capacity_of, lcE, okW, wipeE, rstE, Sl.mine, e, sumP, cap]
theorem law_cap_of {ts : List Int} (h : ts.length ≤ 60) (n : Int) : f_u_law_capacity [.va (tp ts), .va (.int n)] = .ok (.fz (.int (cap ts n))) [.un, .un] := by
  have e := capL_run (tp ts) n ts [] (by simp [seqS, nxS, setS, bndS, bnd, retS, exS, ifS, KL.bin, un1, frz, nmE, nmO, nmM, cE, aNil, aCons, vals?, vaL, back, callV, callB, appN, getAll, app1, app2, Od.get, Sl.d?, ofO, tst, tru, tNotB, tAndB, tOrB, eAnd, eOr, eNot, chn, put, notIo, Vl.sl, Vl.d, D.tru, fnM, cutE, Sl.isIo, itE, items?, mkT, mkL, raise0, argM]; omega)
  simp [seqS, nxS, setS, bndS, bnd, retS, exS, ifS, KL.bin, un1, frz, nmE, nmO, nmM, cE, aNil, aCons, vals?, vaL, back, callV, callB, appN, getAll, app1, app2, Od.get, Sl.d?, ofO, tst, tru, tNotB, tAndB, tOrB, eAnd, eOr, eNot, chn, put, notIo, Vl.sl, Vl.d, D.tru, fnM, cutE, Sl.isIo, itE, items?, mkT, mkL, raise0, argM, f_u_law_capacity, bd_u_law_capacity, lcE, okW, wipeE, rstE, Sl.mine, e, sumP, cap]
theorem cap_good {ts : List Int} (g : Good ts) {n : Int} (h1 : 1 ≤ n) (h2 : n ≤ 200) : f_capacity [.va (tp ts), .va (.int n)] = .ok (.fz (.int (cap ts n))) [.un, .un] := by
  simp [seqS, nxS, setS, bndS, bnd, retS, exS, ifS, KL.bin, un1, frz, nmE, nmO, nmM, cE, aNil, aCons, vals?, vaL, back, callV, callB, appN, getAll, app1, app2, Od.get, Sl.d?, ofO, tst, tru, tNotB, tAndB, tOrB, eAnd, eOr, eNot, chn, put, notIo, Vl.sl, Vl.d, D.tru, fnM, cutE, Sl.isIo, itE, items?, mkT, mkL, raise0, argM, f_capacity, bd_capacity, check_good g, pos_ok h1 h2, cap_of g.len]
def cnt (ts : List Int) (n : Int) : Int := ((ts.filter fun t => decide (n ≤ t)).length : Nat)
theorem cntL_run (x : D) (n : Int) : ∀ (ts : List Int) (acc : List D), acc.length + ts.length ≤ 1000 → lcL [2] (tgN 2) (tst (bin geP (nmO 2) (nmO 1))) (nmE 2) (ts.map .int) acc [.va x, .va (.int n), .un] = .ok (acc ++ (ts.filter fun t => decide (n ≤ t)).map .int) [.va x, .va (.int n), .un]
  | [], acc, _ => by simp [seqS, nxS, setS, bndS, bnd, retS, exS, ifS, KL.bin, un1, frz, nmE, nmO, nmM, cE, aNil, aCons, vals?, vaL, back, callV, callB, appN, getAll, app1, app2, Od.get, Sl.d?, ofO, tst, tru, tNotB, tAndB, tOrB, eAnd, eOr, eNot, chn, put, notIo, Vl.sl, Vl.d, D.tru, fnM, cutE, Sl.isIo, itE, items?, mkT, mkL, raise0, argM, lcL]
  | t :: r, acc, h => by
    simp only [List.length_cons] at h
    simp only [List.map_cons, lcL]
    by_cases c : n ≤ t
    · have ih := cntL_run x n r (acc ++ [.int t]) (by simp [seqS, nxS, setS, bndS, bnd, retS, exS, ifS, KL.bin, un1, frz, nmE, nmO, nmM, cE, aNil, aCons, vals?, vaL, back, callV, callB, appN, getAll, app1, app2, Od.get, Sl.d?, ofO, tst, tru, tNotB, tAndB, tOrB, eAnd, eOr, eNot, chn, put, notIo, Vl.sl, Vl.d, D.tru, fnM, cutE, Sl.isIo, itE, items?, mkT, mkL, raise0, argM]; omega)
      have hl : acc.length < 1000000 := by omega
      simp [seqS, nxS, setS, bndS, bnd, retS, exS, ifS, KL.bin, un1, frz, nmE, nmO, nmM, cE, aNil, aCons, vals?, vaL, back, callV, callB, appN, getAll, app1, app2, Od.get, Sl.d?, ofO, tst, tru, tNotB, tAndB, tOrB, eAnd, eOr, eNot, chn, put, notIo, Vl.sl, Vl.d, D.tru, fnM, cutE, Sl.isIo, itE, items?, mkT, mkL, raise0, argM, tgN, c, okW, wipeE, Sl.mine, hl]
      rw [ih]
      simp [seqS, nxS, setS, bndS, bnd, retS, exS, ifS, KL.bin, un1, frz, nmE, nmO, nmM, cE, aNil, aCons, vals?, vaL, back, callV, callB, appN, getAll, app1, app2, Od.get, Sl.d?, ofO, tst, tru, tNotB, tAndB, tOrB, eAnd, eOr, eNot, chn, put, notIo, Vl.sl, Vl.d, D.tru, fnM, cutE, Sl.isIo, itE, items?, mkT, mkL, raise0, argM]
    · have ih := cntL_run x n r acc (by omega)
      simp [seqS, nxS, setS, bndS, bnd, retS, exS, ifS, KL.bin, un1, frz, nmE, nmO, nmM, cE, aNil, aCons, vals?, vaL, back, callV, callB, appN, getAll, app1, app2, Od.get, Sl.d?, ofO, tst, tru, tNotB, tAndB, tOrB, eAnd, eOr, eNot, chn, put, notIo, Vl.sl, Vl.d, D.tru, fnM, cutE, Sl.isIo, itE, items?, mkT, mkL, raise0, argM, tgN, c, okW, wipeE, Sl.mine]
      rw [ih]
theorem cnt_good {ts : List Int} (g : Good ts) {n : Int} (h1 : 1 ≤ n) (h2 : n ≤ 200) : f_count_from [.va (tp ts), .va (.int n)] = .ok (.fz (.int (cnt ts n))) [.un, .un] := by
  have e := cntL_run (tp ts) n ts [] (by have := g.len; simp [seqS, nxS, setS, bndS, bnd, retS, exS, ifS, KL.bin, un1, frz, nmE, nmO, nmM, cE, aNil, aCons, vals?, vaL, back, callV, callB, appN, getAll, app1, app2, Od.get, Sl.d?, ofO, tst, tru, tNotB, tAndB, tOrB, eAnd, eOr, eNot, chn, put, notIo, Vl.sl, Vl.d, D.tru, fnM, cutE, Sl.isIo, itE, items?, mkT, mkL, raise0, argM]; omega)
  simp [seqS, nxS, setS, bndS, bnd, retS, exS, ifS, KL.bin, un1, frz, nmE, nmO, nmM, cE, aNil, aCons, vals?, vaL, back, callV, callB, appN, getAll, app1, app2, Od.get, Sl.d?, ofO, tst, tru, tNotB, tAndB, tOrB, eAnd, eOr, eNot, chn, put, notIo, Vl.sl, Vl.d, D.tru, fnM, cutE, Sl.isIo, itE, items?, mkT, mkL, raise0, argM, f_count_from, bd_count_from, check_good g, pos_ok h1 h2, lcE, okW, wipeE, rstE, Sl.mine, e, lenP, cnt]
end K02
end

section
set_option Elab.async false
set_option linter.all false
set_option maxRecDepth 100000
namespace K02
open PySem L2 KL

/-! ### numbers drawn from a cell -/
theorem small_mul {i j : Int} (h1 : -(2 ^ 64) < i) (h2 : i < 2 ^ 64) : mulC i j = true := by
  unfold mulC; rw [decide_eq_true h1, decide_eq_true h2]; rfl
theorem small_mulR {i j : Int} (h1 : -(2 ^ 64) < j) (h2 : j < 2 ^ 64) : mulC i j = true := by
  unfold mulC; rw [decide_eq_true h1, decide_eq_true h2, Bool.true_and, Bool.or_true]; rfl
theorem modP_i' {i j : Int} (h : 0 < j) : modP (.int i) (.int j) = some (.fz (.int (i % j))) := modP_i h
def mixed (c k : Int) : Int :=
  let m := (c % 2147483647 * 48271 + k * 69621 + 1048583) % 2147483629
  let m := m * m % 2147483587
  m * (m + 2) % 2147483579
theorem mixed_ok (c k : Int) : f_u_law_mixed [.va (.int c), .va (.int k)] = .ok (.fz (.int (mixed c k))) [.un, .un] := by
  have h1 : mulC (c % 2147483647) 48271 = true := small_mulR (by decide) (by decide)
  have h2 : mulC k 69621 = true := small_mulR (by decide) (by decide)
  have b1 := Int.emod_lt_of_pos (c % 2147483647 * 48271 + k * 69621 + 1048583) (show (0 : Int) < 2147483629 by decide)
  have b2 := Int.emod_nonneg (c % 2147483647 * 48271 + k * 69621 + 1048583) (show (2147483629 : Int) ≠ 0 by decide)
  generalize hm : (c % 2147483647 * 48271 + k * 69621 + 1048583) % 2147483629 = m at b1 b2
  have h3 : mulC m m = true := small_mul (by omega) (by omega)
  have b3 := Int.emod_lt_of_pos (m * m) (show (0 : Int) < 2147483587 by decide)
  have b4 := Int.emod_nonneg (m * m) (show (2147483587 : Int) ≠ 0 by decide)
  have h4 : mulC (m * m % 2147483587) (m * m % 2147483587 + 2) = true := small_mul (by omega) (by omega)
  simp [seqS, nxS, setS, bndS, bnd, retS, exS, ifS, KL.bin, un1, frz, nmE, nmO, nmM, cE, aNil, aCons, vals?, vaL, back, callV, callB, appN, getAll, app1, app2, Od.get, Sl.d?, ofO, tst, tru, tNotB, tAndB, tOrB, eAnd, eOr, eNot, chn, put, notIo, Vl.sl, Vl.d, D.tru, fnM, cutE, Sl.isIo, itE, items?, mkT, mkL, raise0, argM, f_u_law_mixed, bd_u_law_mixed, modP_i, mulP_i h1, mulP_i h2, hm, mulP_i h3, mulP_i h4, mixed]
theorem mixed_nn (c k : Int) : 0 ≤ mixed c k := Int.emod_nonneg _ (by decide)
abbrev bodyC : SM := setS 3 (bin addP (frz (bin mulP (nmO 3) (frz (cE (.int 2147483579))))) (frz (callV 2 f_u_law_mixed [] (aCons (frz (nmE 2)) (aCons (frz (bin addP (frz (bin addP (frz (bin mulP (frz (cE (.int 7))) (nmO 1))) (frz (bin mulP (frz (cE (.int 100))) (nmO 4))))) (frz (bin mulP (nmO 4) (nmO 4))))) aNil)))))
theorem loopC (A : D) (k c : Int) : ∀ (ds : List Int), (∀ j ∈ ds, 0 ≤ j ∧ j < 1000000) → ∀ (f : Int) (q : Sl), 0 ≤ f → (q = .un ∨ ∃ j, q = .va (.int j)) →
    ∃ f' q', 0 ≤ f' ∧ forL (tgN 4) bodyC (ds.map .int) [.va A, .va (.int k), .va (.int c), .va (.int f), q] = .nx [.va A, .va (.int k), .va (.int c), .va (.int f'), q']
  | [], _, f, q, hf, _ => ⟨f, q, hf, rfl⟩
  | j :: r, h, f, q, hf, hq => by
    have hj := h j (List.mem_cons_self ..)
    have h1 : mulC f 2147483579 = true := small_mulR (by decide) (by decide)
    have h2 : mulC 7 k = true := small_mul (by decide) (by decide)
    have h3 : mulC 100 j = true := small_mul (by decide) (by decide)
    have h4 : mulC j j = true := small_mul (by omega) (by omega)
    have hn := mixed_nn c (7 * k + 100 * j + j * j)
    obtain ⟨f', q', a1, a2⟩ := loopC A k c r (fun i hi => h i (List.mem_cons_of_mem _ hi)) (f * 2147483579 + mixed c (7 * k + 100 * j + j * j)) (.va (.int j)) (by omega) (.inr ⟨j, rfl⟩)
    refine ⟨f', q', a1, ?_⟩
    rw [← a2]
    rcases hq with rfl | ⟨i, rfl⟩ <;> simp [seqS, nxS, setS, bndS, bnd, retS, exS, ifS, KL.bin, un1, frz, nmE, nmO, nmM, cE, aNil, aCons, vals?, vaL, back, callV, callB, appN, getAll, app1, app2, Od.get, Sl.d?, ofO, tst, tru, tNotB, tAndB, tOrB, eAnd, eOr, eNot, chn, put, notIo, Vl.sl, Vl.d, D.tru, fnM, cutE, Sl.isIo, itE, items?, mkT, mkL, raise0, argM, forL, tgN, mulP_i h1, mulP_i h2, mulP_i h3, mulP_i h4, mixed_ok]
theorem range24 : rangeL 0 24 = ([0, 1, 2, 3, 4, 5, 6, 7, 8, 9, 10, 11, 12, 13, 14, 15, 16, 17, 18, 19, 20, 21, 22, 23] : List Int).map .int := by rfl
def tailC : SM := seqS (ifS (tst (bin geP (nmO 2) (frz (bin powP (frz (cE (.int 10))) (frz (cE (.int 18))))))) (retS (bin modP (frz (bin subP (nmO 2) (frz (bin powP (frz (cE (.int 10))) (frz (cE (.int 18))))))) (frz (bin mulP (frz (bin mulP (frz (bin mulP (frz (bin powP (frz (cE (.int 10))) (frz (cE (.int 60))))) (frz (bin powP (frz (cE (.int 10))) (frz (cE (.int 60))))))) (frz (bin powP (frz (cE (.int 10))) (frz (cE (.int 60))))))) (frz (bin powP (frz (cE (.int 10))) (frz (cE (.int 60))))))))) (nxS)) (seqS (setS 3 (cE (.int 0))) (seqS (forS (itR1 (aCons (frz (cE (.int 24))) (aNil))) (tgN 4) (setS 3 (bin addP (frz (bin mulP (nmO 3) (frz (cE (.int 2147483579))))) (frz (callV 2 f_u_law_mixed [] (aCons (frz (nmE 2)) (aCons (frz (bin addP (frz (bin addP (frz (bin mulP (frz (cE (.int 7))) (nmO 1))) (frz (bin mulP (frz (cE (.int 100))) (nmO 4))))) (frz (bin mulP (nmO 4) (nmO 4))))) (aNil)))))))) (retS (nmM 3))))
theorem bd_cell : bd_u_law_cell = seqS (setS 2 (cE (.int 0))) (seqS (ifS (tst (bin ltP (nmO 1) (frz (callB lenP (aCons (nmO 0) (aNil)))))) (setS 2 (bin ixP (nmO 0) (nmO 1))) (nxS)) tailC) := rfl
theorem tail_ok (ns : List Int) (k c0 : Int) : ∃ (c : Int) (a b : Sl), 0 ≤ c ∧ tailC [.va (.scr ns), .va (.int k), .va (.int c0), .un, .un] = .rt (.fz (.int c)) [.va (.scr ns), .va (.int k), .va (.int c0), a, b] := by
  have p18 : powP (.int 10) (.int 18) = some (.fz (.int 1000000000000000000)) := by rfl
  have p60 : powP (.int 10) (.int 60) = some (.fz (.int (10 ^ 60))) := by rfl
  have m1 : mulP (.int (10 ^ 60)) (.int (10 ^ 60)) = some (.fz (.int (10 ^ 60 * 10 ^ 60))) := mulP_i (by decide +kernel)
  have m2 : mulP (.int (10 ^ 60 * 10 ^ 60)) (.int (10 ^ 60)) = some (.fz (.int (10 ^ 60 * 10 ^ 60 * 10 ^ 60))) := mulP_i (by decide +kernel)
  have m3 : mulP (.int (10 ^ 60 * 10 ^ 60 * 10 ^ 60)) (.int (10 ^ 60)) = some (.fz (.int (10 ^ 60 * 10 ^ 60 * 10 ^ 60 * 10 ^ 60))) := mulP_i (by decide +kernel)
  have md : ∀ i : Int, modP (.int i) (.int (10 ^ 60 * 10 ^ 60 * 10 ^ 60 * 10 ^ 60)) = some (.fz (.int (i % (10 ^ 60 * 10 ^ 60 * 10 ^ 60 * 10 ^ 60)))) := fun i => modP_i (by decide +kernel)
  by_cases hc : 1000000000000000000 ≤ c0
  · refine ⟨(c0 - 1000000000000000000) % (10 ^ 60 * 10 ^ 60 * 10 ^ 60 * 10 ^ 60), .un, .un, Int.emod_nonneg _ (by decide +kernel : ((10 : Int) ^ 60 * 10 ^ 60 * 10 ^ 60 * 10 ^ 60) ≠ 0), ?_⟩
    simp only [tailC, seqS, ifS, tst, KL.bin, nmO, bndS, bnd, frz, cE, app2, Od.get, Sl.d?, Vl.d, p18, ofO, geP_i, hc, List.getElem?_cons_zero, List.getElem?_cons_succ, decide_true, if_true, retS, subP_i, p60, m1, m2, m3, md]
  · obtain ⟨f', q', a1, a2⟩ := loopC (.scr ns) k c0 [0, 1, 2, 3, 4, 5, 6, 7, 8, 9, 10, 11, 12, 13, 14, 15, 16, 17, 18, 19, 20, 21, 22, 23] (by decide) 0 .un (Int.le_refl _) (.inl rfl)
    refine ⟨f', .va (.int f'), q', a1, ?_⟩
    rw [← range24] at a2
    simp [seqS, nxS, setS, bndS, bnd, retS, exS, ifS, KL.bin, un1, frz, nmE, nmO, nmM, cE, aNil, aCons, vals?, vaL, back, callV, callB, appN, getAll, app1, app2, Od.get, Sl.d?, ofO, tst, tru, tNotB, tAndB, tOrB, eAnd, eOr, eNot, chn, put, notIo, Vl.sl, Vl.d, D.tru, fnM, cutE, Sl.isIo, itE, items?, mkT, mkL, raise0, argM, tailC, hc, p18, forS, itR1, getAll, i1?, okR, a2]
theorem cell_ok (ns : List Int) (k : Int) (hk : 0 ≤ k) : ∃ c : Int, 0 ≤ c ∧ f_u_law_cell [.va (.scr ns), .va (.int k)] = .ok (.fz (.int c)) [.un, .un] := by
  by_cases h : k < (ns.length : Int)
  · obtain ⟨m, rfl⟩ := Int.eq_ofNat_of_zero_le hk
    have hm : m < ns.length := by omega
    obtain ⟨c, a, b, h1, h2⟩ := tail_ok ns m ns[m]
    refine ⟨c, h1, ?_⟩
    simp [seqS, nxS, setS, bndS, bnd, retS, exS, ifS, KL.bin, un1, frz, nmE, nmO, nmM, cE, aNil, aCons, vals?, vaL, back, callV, callB, appN, getAll, app1, app2, Od.get, Sl.d?, ofO, tst, tru, tNotB, tAndB, tOrB, eAnd, eOr, eNot, chn, put, notIo, Vl.sl, Vl.d, D.tru, fnM, cutE, Sl.isIo, itE, items?, mkT, mkL, raise0, argM, f_u_law_cell, bd_cell, lenP, hm, ixP, ixA, h2]
  · obtain ⟨c, a, b, h1, h2⟩ := tail_ok ns k 0
    refine ⟨c, h1, ?_⟩
    simp [seqS, nxS, setS, bndS, bnd, retS, exS, ifS, KL.bin, un1, frz, nmE, nmO, nmM, cE, aNil, aCons, vals?, vaL, back, callV, callB, appN, getAll, app1, app2, Od.get, Sl.d?, ofO, tst, tru, tNotB, tAndB, tOrB, eAnd, eOr, eNot, chn, put, notIo, Vl.sl, Vl.d, D.tru, fnM, cutE, Sl.isIo, itE, items?, mkT, mkL, raise0, argM, f_u_law_cell, bd_cell, lenP, h, h2]
end K02
end

section
set_option Elab.async false
set_option linter.all false
set_option maxRecDepth 100000
namespace K02
open PySem L2 KL

theorem take_ok {c m : Int} (h1 : 0 < m) (h2 : m < 1073741824) : f_u_law_take [.io [.int c], .va (.int m)] = .ok (.fz (.int (c % m))) [.io [.int (c / m)], .un] := by
  simp [seqS, nxS, setS, bndS, bnd, retS, exS, ifS, KL.bin, un1, frz, nmE, nmO, nmM, cE, aNil, aCons, vals?, vaL, back, callV, callB, appN, getAll, app1, app2, Od.get, Sl.d?, ofO, tst, tru, tNotB, tAndB, tOrB, eAnd, eOr, eNot, chn, put, notIo, Vl.sl, Vl.d, D.tru, fnM, cutE, Sl.isIo, itE, items?, mkT, mkL, raise0, argM, f_u_law_take, bd_u_law_take, ixP, ixA, modP_i h1, divP_i h1 h2, setIx, isOwn, Sl.mine, sIx, Sl.lst?, Sl.upd]
abbrev elL : M Vl := bin addP (frz (cE (.int 1))) (frz (callI 2 f_u_law_take [] (aCons (nmO 0) (aCons (frz (nmE 2)) aNil))))
theorem lotL {p : Int} (h1 : 0 < p) (h2 : p < 1073741824) (A : Sl) : ∀ (ds acc : List D) (c : Int), acc.length + ds.length ≤ 1000 → 0 ≤ c → ∃ (vs : List Int) (c' : Int), vs.length = ds.length ∧ (∀ v ∈ vs, 1 ≤ v ∧ v ≤ p) ∧ 0 ≤ c' ∧
    lcL [4] (tgN 4) yesB elL ds acc [.io [.int c], A, .va (.int p), .un, .un] = .ok (acc ++ vs.map .int) [.io [.int c'], A, .va (.int p), .un, .un]
  | [], acc, c, _, hc => ⟨[], c, rfl, (by simp [seqS, nxS, setS, bndS, bnd, retS, exS, ifS, KL.bin, un1, frz, nmE, nmO, nmM, cE, aNil, aCons, vals?, vaL, back, callV, callB, appN, getAll, app1, app2, Od.get, Sl.d?, ofO, tst, tru, tNotB, tAndB, tOrB, eAnd, eOr, eNot, chn, put, notIo, Vl.sl, Vl.d, D.tru, fnM, cutE, Sl.isIo, itE, items?, mkT, mkL, raise0, argM]), hc, by simp [seqS, nxS, setS, bndS, bnd, retS, exS, ifS, KL.bin, un1, frz, nmE, nmO, nmM, cE, aNil, aCons, vals?, vaL, back, callV, callB, appN, getAll, app1, app2, Od.get, Sl.d?, ofO, tst, tru, tNotB, tAndB, tOrB, eAnd, eOr, eNot, chn, put, notIo, Vl.sl, Vl.d, D.tru, fnM, cutE, Sl.isIo, itE, items?, mkT, mkL, raise0, argM, lcL]⟩
  | d :: r, acc, c, h, hc => by
    simp only [List.length_cons] at h
    have hl : acc.length < 1000000 := by omega
    have b1 := Int.emod_nonneg c (show p ≠ 0 by omega)
    have b2 := Int.emod_lt_of_pos c h1
    obtain ⟨vs, c', a1, a2, a3, a4⟩ := lotL h1 h2 A r (acc ++ [.int (1 + c % p)]) (c / p) (by simp [seqS, nxS, setS, bndS, bnd, retS, exS, ifS, KL.bin, un1, frz, nmE, nmO, nmM, cE, aNil, aCons, vals?, vaL, back, callV, callB, appN, getAll, app1, app2, Od.get, Sl.d?, ofO, tst, tru, tNotB, tAndB, tOrB, eAnd, eOr, eNot, chn, put, notIo, Vl.sl, Vl.d, D.tru, fnM, cutE, Sl.isIo, itE, items?, mkT, mkL, raise0, argM]; omega) (Int.ediv_nonneg hc (by omega))
    refine ⟨(1 + c % p) :: vs, c', by simp [seqS, nxS, setS, bndS, bnd, retS, exS, ifS, KL.bin, un1, frz, nmE, nmO, nmM, cE, aNil, aCons, vals?, vaL, back, callV, callB, appN, getAll, app1, app2, Od.get, Sl.d?, ofO, tst, tru, tNotB, tAndB, tOrB, eAnd, eOr, eNot, chn, put, notIo, Vl.sl, Vl.d, D.tru, fnM, cutE, Sl.isIo, itE, items?, mkT, mkL, raise0, argM, a1], ?_, a3, ?_⟩
    · intro v hv
      rcases List.mem_cons.mp hv with rfl | hv
      · exact ⟨by omega, by omega⟩
      · exact a2 v hv
    · simp only [lcL]
      simp [seqS, nxS, setS, bndS, bnd, retS, exS, ifS, KL.bin, un1, frz, nmE, nmO, nmM, cE, aNil, aCons, vals?, vaL, back, callV, callB, appN, getAll, app1, app2, Od.get, Sl.d?, ofO, tst, tru, tNotB, tAndB, tOrB, eAnd, eOr, eNot, chn, put, notIo, Vl.sl, Vl.d, D.tru, fnM, cutE, Sl.isIo, itE, items?, mkT, mkL, raise0, argM, tgN, callI, backI, yesB, take_ok h1 h2, okW, wipeE, Sl.mine, hl, Sl.lst?, Sl.upd]
      rw [a4]
      simp [seqS, nxS, setS, bndS, bnd, retS, exS, ifS, KL.bin, un1, frz, nmE, nmO, nmM, cE, aNil, aCons, vals?, vaL, back, callV, callB, appN, getAll, app1, app2, Od.get, Sl.d?, ofO, tst, tru, tNotB, tAndB, tOrB, eAnd, eOr, eNot, chn, put, notIo, Vl.sl, Vl.d, D.tru, fnM, cutE, Sl.isIo, itE, items?, mkT, mkL, raise0, argM]
abbrev gtL : M Bool := tst (bin gtP (frz (callB sumP (aCons (nmO 3) aNil))) (frz (cE (.int 200))))
abbrev ppL : SM := exS (mtd 3 gPopAt (aCons (frz (cE (.int 0))) aNil))
theorem whL (a b q : Sl) (s0 : Sl) : ∀ (n : Nat) (xs : List Int), xs.length < n → (∀ t ∈ xs, 1 ≤ t ∧ t ≤ 200) → xs.Pairwise (· ≥ ·) → xs.length ≤ 60 →
    ∃ ys : List Int, Good ys ∧ whS gtL ppL n [s0, a, b, .ow (xs.map .int), q] = .nx [s0, a, b, .ow (ys.map .int), q]
  | 0, xs, h, _, _, _ => by omega
  | n + 1, xs, h, h1, h2, h3 => by
    by_cases c : 200 < xs.sum
    · cases xs with
      | nil => simp at c
      | cons t r =>
        simp only [List.length_cons] at h h3
        obtain ⟨ys, a1, a2⟩ := whL a b q s0 n r (by omega) (fun u hu => h1 u (List.mem_cons_of_mem _ hu)) (List.pairwise_cons.mp h2).2 (by omega)
        refine ⟨ys, a1, ?_⟩
        rw [← a2]
        have e : D.ints? (.lst (D.int t :: r.map D.int)) = some (t :: r) := dints_l (t :: r)
        have c' : 200 < t + r.sum := by simpa using c
        simp [seqS, nxS, setS, bndS, bnd, retS, exS, ifS, KL.bin, un1, frz, nmE, nmO, nmM, cE, aNil, aCons, vals?, vaL, back, callV, callB, appN, getAll, app1, app2, Od.get, Sl.d?, ofO, tst, tru, tNotB, tAndB, tOrB, eAnd, eOr, eNot, chn, put, notIo, Vl.sl, Vl.d, D.tru, fnM, cutE, Sl.isIo, itE, items?, mkT, mkL, raise0, argM, whS, sumP, e, c', mtd, mtU, isOwn, Sl.mine, Sl.lst?, Sl.upd, gPopAt]
    · refine ⟨xs, ⟨h1, h2, h3, by omega⟩, ?_⟩
      simp [seqS, nxS, setS, bndS, bnd, retS, exS, ifS, KL.bin, un1, frz, nmE, nmO, nmM, cE, aNil, aCons, vals?, vaL, back, callV, callB, appN, getAll, app1, app2, Od.get, Sl.d?, ofO, tst, tru, tNotB, tAndB, tOrB, eAnd, eOr, eNot, chn, put, notIo, Vl.sl, Vl.d, D.tru, fnM, cutE, Sl.isIo, itE, items?, mkT, mkL, raise0, argM, whS, sumP, c]
theorem lot_ok {p c : Int} (h1 : 0 < p) (h2 : p ≤ 200) (hc : 0 ≤ c) : ∃ (ts : List Int) (c' : Int), Good ts ∧ 0 ≤ c' ∧
    f_u_law_lot [.io [.int c], .va (.int 20), .va (.int p)] = .ok (.fz (tp ts)) [.io [.int c'], .un, .un] := by
  letI : Tabs := ⟨fun _ => False⟩
  have b1 := Int.emod_nonneg c (show (21 : Int) ≠ 0 by decide)
  have b2 := Int.emod_lt_of_pos c (show (0 : Int) < 21 by decide)
  have tk := @take_ok c 21 (by decide) (by decide)
  have hr : (rangeL 0 (c % 21).toNat).length = (c % 21).toNat := by simp [seqS, nxS, setS, bndS, bnd, retS, exS, ifS, KL.bin, un1, frz, nmE, nmO, nmM, cE, aNil, aCons, vals?, vaL, back, callV, callB, appN, getAll, app1, app2, Od.get, Sl.d?, ofO, tst, tru, tNotB, tAndB, tOrB, eAnd, eOr, eNot, chn, put, notIo, Vl.sl, Vl.d, D.tru, fnM, cutE, Sl.isIo, itE, items?, mkT, mkL, raise0, argM, rangeL]
  obtain ⟨vs, c', a1, a2, a3, a4⟩ := lotL (p := p) h1 (by omega) (.va (.int 20)) (rangeL 0 (c % 21).toNat) [] (c / 21) (by simp [seqS, nxS, setS, bndS, bnd, retS, exS, ifS, KL.bin, un1, frz, nmE, nmO, nmM, cE, aNil, aCons, vals?, vaL, back, callV, callB, appN, getAll, app1, app2, Od.get, Sl.d?, ofO, tst, tru, tNotB, tAndB, tOrB, eAnd, eOr, eNot, chn, put, notIo, Vl.sl, Vl.d, D.tru, fnM, cutE, Sl.isIo, itE, items?, mkT, mkL, raise0, argM, hr]; omega) (Int.ediv_nonneg hc (by decide))
  have pm := isort_perm vs
  have l2 : (isortI vs).reverse.length = vs.length := by rw [List.length_reverse]; exact pm.length_eq
  obtain ⟨ys, g, w⟩ := whL (.va (.int 20)) (.va (.int p)) .un (.io [.int c']) 1000 (isortI vs).reverse (by rw [l2, a1, hr]; omega)
    (fun t ht => by have := a2 t (pm.mem_iff.mp (List.mem_reverse.mp ht)); exact ⟨this.1, by omega⟩)
    (List.pairwise_reverse.mpr (isort_sorted vs)) (by rw [l2, a1, hr]; omega)
  refine ⟨ys, c', g, a3, ?_⟩
  have o1 : okR (c % 21) = true := by unfold okR; rw [decide_eq_true (by omega), decide_eq_true (by omega)]; rfl
  rw [List.map_reverse] at w
  simp [seqS, nxS, setS, bndS, bnd, retS, exS, ifS, KL.bin, un1, frz, nmE, nmO, nmM, cE, aNil, aCons, vals?, vaL, back, callV, callB, appN, getAll, app1, app2, Od.get, Sl.d?, ofO, tst, tru, tNotB, tAndB, tOrB, eAnd, eOr, eNot, chn, put, notIo, Vl.sl, Vl.d, D.tru, fnM, cutE, Sl.isIo, itE, items?, mkT, mkL, raise0, argM, f_u_law_lot, bd_u_law_lot, lcE, itR1, i1?, callI, backI, Sl.lst?, Sl.upd, tk, okW, wipeE, rstE, Sl.mine, o1, a4, sortP, ints_some, revP, w_u_law_lot_0, w, tupleP]
end K02
end

section
set_option Elab.async false
set_option linter.all false
set_option maxRecDepth 100000
namespace K02
open PySem L2 KL

theorem rangeL_map (lo : Int) (n : Nat) : rangeL lo n = ((List.range n).map fun (k : Nat) => lo + (k : Int)).map .int := by
  unfold rangeL; rw [List.map_map]; rfl
theorem take_sum_succ (ts : List Int) (j : Nat) (h : j < ts.length) : (ts.take (j + 1)).sum = (ts.take j).sum + ts[j] := by
  rw [List.take_succ, List.getElem?_eq_getElem h, List.sum_append]; simp [seqS, nxS, setS, bndS, bnd, retS, exS, ifS, KL.bin, un1, frz, nmE, nmO, nmM, cE, aNil, aCons, vals?, vaL, back, callV, callB, appN, getAll, app1, app2, Od.get, Sl.d?, ofO, tst, tru, tNotB, tAndB, tOrB, eAnd, eOr, eNot, chn, put, notIo, Vl.sl, Vl.d, D.tru, fnM, cutE, Sl.isIo, itE, items?, mkT, mkL, raise0, argM]
theorem topL (ts : List Int) (A : Sl) : ∀ (n j : Nat) (q : Sl), j + n ≤ ts.length → (q = .un ∨ ∃ i, q = .va (.int i)) →
    ∃ q', forL (tgN 3) (setS 2 (bin addP (nmO 2) (frz (bin ixP (nmO 0) (nmO 3))))) (((List.range n).map fun (k : Nat) => (j : Int) + (k : Int)).map .int) [.va (tp ts), A, .va (.int (ts.take j).sum), q] = .nx [.va (tp ts), A, .va (.int (ts.take (j + n)).sum), q']
  | 0, j, q, _, _ => ⟨q, rfl⟩
  | n + 1, j, q, h, hq => by
    obtain ⟨q', a⟩ := topL ts A n (j + 1) (.va (.int j)) (by omega) (.inr ⟨j, rfl⟩)
    refine ⟨q', ?_⟩
    have hj : j < ts.length := by omega
    rw [show j + 1 + n = j + (n + 1) by omega] at a
    rw [← a, List.range_succ_eq_map, List.map_cons, List.map_cons, List.map_map, List.map_map, List.map_map]
    have e : ixP (tp ts) (.int (j : Int)) = some (.fz (.int ts[j])) := by simp [seqS, nxS, setS, bndS, bnd, retS, exS, ifS, KL.bin, un1, frz, nmE, nmO, nmM, cE, aNil, aCons, vals?, vaL, back, callV, callB, appN, getAll, app1, app2, Od.get, Sl.d?, ofO, tst, tru, tNotB, tAndB, tOrB, eAnd, eOr, eNot, chn, put, notIo, Vl.sl, Vl.d, D.tru, fnM, cutE, Sl.isIo, itE, items?, mkT, mkL, raise0, argM, ixP, ixA, hj]
    have e2 := take_sum_succ ts j hj
    have e3 : ((D.int ∘ (fun k : Nat => (j : Int) + (k : Int))) ∘ Nat.succ) = (D.int ∘ fun k : Nat => ((j + 1 : Nat) : Int) + (k : Int)) := by
      funext k; simp only [Function.comp]; congr 1; push_cast; omega
    rw [e3]
    rcases hq with rfl | ⟨i, rfl⟩ <;> simp [seqS, nxS, setS, bndS, bnd, retS, exS, ifS, KL.bin, un1, frz, nmE, nmO, nmM, cE, aNil, aCons, vals?, vaL, back, callV, callB, appN, getAll, app1, app2, Od.get, Sl.d?, ofO, tst, tru, tNotB, tAndB, tOrB, eAnd, eOr, eNot, chn, put, notIo, Vl.sl, Vl.d, D.tru, fnM, cutE, Sl.isIo, itE, items?, mkT, mkL, raise0, argM, forL, tgN, e, e2]
theorem law_top_ok {ts : List Int} (h : ts.length ≤ 60) {c : Int} (h1 : 0 ≤ c) (h2 : c ≤ 200) : f_u_law_top [.va (tp ts), .va (.int c)] = .ok (.fz (.int (top_ ts c))) [.un, .un] := by
  have hm : minP2 [.int c, .int (ts.length : Int)] = some (.fz (.int ((min c.toNat ts.length : Nat) : Int))) := by
    simp only [minP2]; congr 3; split <;> omega
  obtain ⟨q', a⟩ := topL ts (.va (.int c)) (min c.toNat ts.length) 0 .un (by omega) (.inl rfl)
  have ho : okR ((min c.toNat ts.length : Nat) : Int) = true := by unfold okR; rw [decide_eq_true (by omega), decide_eq_true (by omega)]; rfl
  have e : (ts.take (0 + min c.toNat ts.length)).sum = top_ ts c := by
    have e1 : ts.take (0 + min c.toNat ts.length) = ts.take c.toNat := by
      rw [Nat.zero_add]
      by_cases hc : c.toNat ≤ ts.length
      · rw [Nat.min_eq_left hc]
      · rw [Nat.min_eq_right (by omega), List.take_of_length_le (Nat.le_refl _), List.take_of_length_le (by omega)]
    rw [e1]; rfl
  rw [e] at a
  have z := rangeL_map 0 (min c.toNat ts.length)
  rw [show (((0 : Nat) : Int)) = (0 : Int) from rfl, ← z] at a
  simp [seqS, nxS, setS, bndS, bnd, retS, exS, ifS, KL.bin, un1, frz, nmE, nmO, nmM, cE, aNil, aCons, vals?, vaL, back, callV, callB, appN, getAll, app1, app2, Od.get, Sl.d?, ofO, tst, tru, tNotB, tAndB, tOrB, eAnd, eOr, eNot, chn, put, notIo, Vl.sl, Vl.d, D.tru, fnM, cutE, Sl.isIo, itE, items?, mkT, mkL, raise0, argM, f_u_law_top, bd_u_law_top, lenP, hm, forS, itR1, i1?, ho]
  simp only [List.take_zero, List.sum_nil] at a
  rw [a]
  simp [seqS, nxS, setS, bndS, bnd, retS, exS, ifS, KL.bin, un1, frz, nmE, nmO, nmM, cE, aNil, aCons, vals?, vaL, back, callV, callB, appN, getAll, app1, app2, Od.get, Sl.d?, ofO, tst, tru, tNotB, tAndB, tOrB, eAnd, eOr, eNot, chn, put, notIo, Vl.sl, Vl.d, D.tru, fnM, cutE, Sl.isIo, itE, items?, mkT, mkL, raise0, argM]
end K02
end

section
set_option Elab.async false
set_option linter.all false
set_option maxRecDepth 100000
namespace K02
open PySem L2 KL

/-! ### the two duals -/
theorem cap_nil (l : Int) : cap [] l = 0 := rfl
theorem cap_cons (t : Int) (r : List Int) (l : Int) : cap (t :: r) l = (if l ≤ t then t - l + 1 else 0) + cap r l := by
  unfold cap capL
  by_cases h : l ≤ t <;> simp [seqS, nxS, setS, bndS, bnd, retS, exS, ifS, KL.bin, un1, frz, nmE, nmO, nmM, cE, aNil, aCons, vals?, vaL, back, callV, callB, appN, getAll, app1, app2, Od.get, Sl.d?, ofO, tst, tru, tNotB, tAndB, tOrB, eAnd, eOr, eNot, chn, put, notIo, Vl.sl, Vl.d, D.tru, fnM, cutE, Sl.isIo, itE, items?, mkT, mkL, raise0, argM, h]
theorem cap_nn (l : Int) : ∀ ts : List Int, 0 ≤ cap ts l
  | [] => Int.le_refl _
  | t :: r => by
    have := cap_nn l r
    rw [cap_cons]; split <;> omega
theorem dual_le {l : Int} (hl : 1 ≤ l) : ∀ (ts : List Int) (c : Nat), (ts.take c).sum - (c : Int) * (l - 1) ≤ cap ts l
  | [], c => by
    have : 0 ≤ (c : Int) * (l - 1) := Int.mul_nonneg (by omega) (by omega)
    rw [cap_nil, List.take_nil, List.sum_nil]; omega
  | t :: r, 0 => by
    have := cap_nn l (t :: r)
    simp only [List.take_zero, List.sum_nil]
    omega
  | t :: r, c + 1 => by
    have ih := dual_le hl r c
    have e : ((c + 1 : Nat) : Int) * (l - 1) = (c : Int) * (l - 1) + (l - 1) := by push_cast; rw [Int.add_mul, Int.one_mul]
    rw [cap_cons, List.take_succ_cons, List.sum_cons, e]
    split <;> omega
theorem cap_zero {l : Int} : ∀ ts : List Int, (∀ x ∈ ts, x ≤ l - 1) → cap ts l = 0
  | [], _ => rfl
  | t :: r, h => by
    have h1 := h t (List.mem_cons_self ..)
    rw [cap_cons, cap_zero r (fun x hx => h x (List.mem_cons_of_mem _ hx)), if_neg (by omega)]; rfl
theorem dual_eq {l : Int} : ∀ (ts : List Int) (c : Nat), c ≤ ts.length → (∀ x ∈ ts.take c, l - 1 ≤ x) → (∀ x ∈ ts.drop c, x ≤ l - 1) → (ts.take c).sum - (c : Int) * (l - 1) = cap ts l
  | ts, 0, _, _, h => by
    rw [List.drop_zero] at h
    rw [cap_zero ts h]; simp [seqS, nxS, setS, bndS, bnd, retS, exS, ifS, KL.bin, un1, frz, nmE, nmO, nmM, cE, aNil, aCons, vals?, vaL, back, callV, callB, appN, getAll, app1, app2, Od.get, Sl.d?, ofO, tst, tru, tNotB, tAndB, tOrB, eAnd, eOr, eNot, chn, put, notIo, Vl.sl, Vl.d, D.tru, fnM, cutE, Sl.isIo, itE, items?, mkT, mkL, raise0, argM]
  | [], c + 1, h, _, _ => by simp at h
  | t :: r, c + 1, h, h1, h2 => by
    simp only [List.length_cons] at h
    rw [List.take_succ_cons] at h1
    have ih := dual_eq r c (by omega) (fun x hx => h1 x (List.mem_cons_of_mem _ hx)) h2
    have ht := h1 t (List.mem_cons_self ..)
    have e : ((c + 1 : Nat) : Int) * (l - 1) = (c : Int) * (l - 1) + (l - 1) := by push_cast; rw [Int.add_mul, Int.one_mul]
    rw [cap_cons, List.take_succ_cons, List.sum_cons, e]
    split <;> omega
theorem split_at (l : Int) : ∀ ts : List Int, ts.Pairwise (· ≥ ·) → ∃ c, c ≤ ts.length ∧ (∀ x ∈ ts.take c, l ≤ x) ∧ (∀ x ∈ ts.drop c, x ≤ l - 1)
  | [], _ => ⟨0, Nat.le_refl _, by simp [seqS, nxS, setS, bndS, bnd, retS, exS, ifS, KL.bin, un1, frz, nmE, nmO, nmM, cE, aNil, aCons, vals?, vaL, back, callV, callB, appN, getAll, app1, app2, Od.get, Sl.d?, ofO, tst, tru, tNotB, tAndB, tOrB, eAnd, eOr, eNot, chn, put, notIo, Vl.sl, Vl.d, D.tru, fnM, cutE, Sl.isIo, itE, items?, mkT, mkL, raise0, argM], by simp [seqS, nxS, setS, bndS, bnd, retS, exS, ifS, KL.bin, un1, frz, nmE, nmO, nmM, cE, aNil, aCons, vals?, vaL, back, callV, callB, appN, getAll, app1, app2, Od.get, Sl.d?, ofO, tst, tru, tNotB, tAndB, tOrB, eAnd, eOr, eNot, chn, put, notIo, Vl.sl, Vl.d, D.tru, fnM, cutE, Sl.isIo, itE, items?, mkT, mkL, raise0, argM]⟩
  | t :: r, h => by
    have hp := List.pairwise_cons.mp h
    by_cases c : l ≤ t
    · obtain ⟨k, a1, a2, a3⟩ := split_at l r hp.2
      refine ⟨k + 1, by simp [seqS, nxS, setS, bndS, bnd, retS, exS, ifS, KL.bin, un1, frz, nmE, nmO, nmM, cE, aNil, aCons, vals?, vaL, back, callV, callB, appN, getAll, app1, app2, Od.get, Sl.d?, ofO, tst, tru, tNotB, tAndB, tOrB, eAnd, eOr, eNot, chn, put, notIo, Vl.sl, Vl.d, D.tru, fnM, cutE, Sl.isIo, itE, items?, mkT, mkL, raise0, argM]; omega, ?_, a3⟩
      rw [List.take_succ_cons]
      intro x hx
      rcases List.mem_cons.mp hx with rfl | hx
      · exact c
      · exact a2 x hx
    · refine ⟨0, Nat.zero_le _, by simp [seqS, nxS, setS, bndS, bnd, retS, exS, ifS, KL.bin, un1, frz, nmE, nmO, nmM, cE, aNil, aCons, vals?, vaL, back, callV, callB, appN, getAll, app1, app2, Od.get, Sl.d?, ofO, tst, tru, tNotB, tAndB, tOrB, eAnd, eOr, eNot, chn, put, notIo, Vl.sl, Vl.d, D.tru, fnM, cutE, Sl.isIo, itE, items?, mkT, mkL, raise0, argM], ?_⟩
      intro x hx
      rw [List.drop_zero] at hx
      rcases List.mem_cons.mp hx with rfl | hx
      · omega
      · have := hp.1 x hx; omega
theorem cap_one : ∀ ts : List Int, (∀ t ∈ ts, 1 ≤ t) → cap ts 1 = ts.sum
  | [], _ => rfl
  | t :: r, h => by
    have h1 := h t (List.mem_cons_self ..)
    rw [cap_cons, if_pos h1, cap_one r (fun x hx => h x (List.mem_cons_of_mem _ hx)), List.sum_cons]; omega
/-! ### max, min -/
theorem maxI_is : ∀ (r : List Int) (m : Int), (maxI m r = m ∨ maxI m r ∈ r) ∧ m ≤ maxI m r ∧ ∀ x ∈ r, x ≤ maxI m r
  | [], m => ⟨.inl rfl, Int.le_refl _, by simp [seqS, nxS, setS, bndS, bnd, retS, exS, ifS, KL.bin, un1, frz, nmE, nmO, nmM, cE, aNil, aCons, vals?, vaL, back, callV, callB, appN, getAll, app1, app2, Od.get, Sl.d?, ofO, tst, tru, tNotB, tAndB, tOrB, eAnd, eOr, eNot, chn, put, notIo, Vl.sl, Vl.d, D.tru, fnM, cutE, Sl.isIo, itE, items?, mkT, mkL, raise0, argM]⟩
  | i :: r, m => by
    obtain ⟨h1, h2, h3⟩ := maxI_is r (if i > m then i else m)
    have e : maxI m (i :: r) = maxI (if i > m then i else m) r := rfl
    rw [e]
    generalize maxI (if i > m then i else m) r = z at *
    refine ⟨?_, ?_, ?_⟩
    · rcases h1 with h1 | h1
      · split at h1
        · right; rw [h1]; exact List.mem_cons_self ..
        · left; exact h1
      · right; exact List.mem_cons_of_mem _ h1
    · split at h2 <;> omega
    · intro x hx
      rcases List.mem_cons.mp hx with rfl | hx
      · split at h2 <;> omega
      · exact h3 x hx
theorem minI_is : ∀ (r : List Int) (m : Int), (minI m r = m ∨ minI m r ∈ r) ∧ minI m r ≤ m ∧ ∀ x ∈ r, minI m r ≤ x
  | [], m => ⟨.inl rfl, Int.le_refl _, by simp [seqS, nxS, setS, bndS, bnd, retS, exS, ifS, KL.bin, un1, frz, nmE, nmO, nmM, cE, aNil, aCons, vals?, vaL, back, callV, callB, appN, getAll, app1, app2, Od.get, Sl.d?, ofO, tst, tru, tNotB, tAndB, tOrB, eAnd, eOr, eNot, chn, put, notIo, Vl.sl, Vl.d, D.tru, fnM, cutE, Sl.isIo, itE, items?, mkT, mkL, raise0, argM]⟩
  | i :: r, m => by
    obtain ⟨h1, h2, h3⟩ := minI_is r (if i < m then i else m)
    have e : minI m (i :: r) = minI (if i < m then i else m) r := rfl
    rw [e]
    generalize minI (if i < m then i else m) r = z at *
    refine ⟨?_, ?_, ?_⟩
    · rcases h1 with h1 | h1
      · split at h1
        · right; rw [h1]; exact List.mem_cons_self ..
        · left; exact h1
      · right; exact List.mem_cons_of_mem _ h1
    · split at h2 <;> omega
    · intro x hx
      rcases List.mem_cons.mp hx with rfl | hx
      · split at h2 <;> omega
      · exact h3 x hx
theorem maxA_eq {xs : List Int} {b : Int} (h1 : b ∈ xs) (h2 : ∀ x ∈ xs, x ≤ b) (d : D) (hd : d.ints? = some xs) : maxA [d] = some (.fz (.int b)) := by
  cases xs with
  | nil => cases h1
  | cons i r =>
    obtain ⟨a1, a2, a3⟩ := maxI_is r i
    have e : maxI i r = b := by
      have u1 : b ≤ maxI i r := by
        rcases List.mem_cons.mp h1 with rfl | h
        · exact a2
        · exact a3 b h
      have u2 : maxI i r ≤ b := by
        rcases a1 with a1 | a1
        · rw [a1]; exact h2 i (List.mem_cons_self ..)
        · exact h2 _ (List.mem_cons_of_mem _ a1)
      omega
    simp [seqS, nxS, setS, bndS, bnd, retS, exS, ifS, KL.bin, un1, frz, nmE, nmO, nmM, cE, aNil, aCons, vals?, vaL, back, callV, callB, appN, getAll, app1, app2, Od.get, Sl.d?, ofO, tst, tru, tNotB, tAndB, tOrB, eAnd, eOr, eNot, chn, put, notIo, Vl.sl, Vl.d, D.tru, fnM, cutE, Sl.isIo, itE, items?, mkT, mkL, raise0, argM, maxA, hd, e]
theorem minA_eq {xs : List Int} {b : Int} (h1 : b ∈ xs) (h2 : ∀ x ∈ xs, b ≤ x) (d : D) (hd : d.ints? = some xs) : minA [d] = some (.fz (.int b)) := by
  cases xs with
  | nil => cases h1
  | cons i r =>
    obtain ⟨a1, a2, a3⟩ := minI_is r i
    have e : minI i r = b := by
      have u1 : minI i r ≤ b := by
        rcases List.mem_cons.mp h1 with rfl | h
        · exact a2
        · exact a3 b h
      have u2 : b ≤ minI i r := by
        rcases a1 with a1 | a1
        · rw [a1]; exact h2 i (List.mem_cons_self ..)
        · exact h2 _ (List.mem_cons_of_mem _ a1)
      omega
    simp [seqS, nxS, setS, bndS, bnd, retS, exS, ifS, KL.bin, un1, frz, nmE, nmO, nmM, cE, aNil, aCons, vals?, vaL, back, callV, callB, appN, getAll, app1, app2, Od.get, Sl.d?, ofO, tst, tru, tNotB, tAndB, tOrB, eAnd, eOr, eNot, chn, put, notIo, Vl.sl, Vl.d, D.tru, fnM, cutE, Sl.isIo, itE, items?, mkT, mkL, raise0, argM, minA, hd, e]
/-! ### a comprehension whose element changes nothing -/
theorem lcP {v : Nat} {e : M Vl} {g : Int → D} {ρ : KL.Env} (hv : ρ[v]? = some .un) : ∀ (ds : List Int) (acc : List D), acc.length + ds.length ≤ 1000 → (∀ d ∈ ds, e (ρ.set v (.va (.int d))) = .ok (.fz (g d)) (ρ.set v (.va (.int d)))) →
    lcL [v] (tgN v) yesB e (ds.map .int) acc ρ = .ok (acc ++ ds.map g) ρ
  | [], acc, _, _ => by simp [seqS, nxS, setS, bndS, bnd, retS, exS, ifS, KL.bin, un1, frz, nmE, nmO, nmM, cE, aNil, aCons, vals?, vaL, back, callV, callB, appN, getAll, app1, app2, Od.get, Sl.d?, ofO, tst, tru, tNotB, tAndB, tOrB, eAnd, eOr, eNot, chn, put, notIo, Vl.sl, Vl.d, D.tru, fnM, cutE, Sl.isIo, itE, items?, mkT, mkL, raise0, argM, lcL]
  | d :: r, acc, h, he => by
    simp only [List.length_cons] at h
    have ih := lcP (g := g) hv r (acc ++ [g d]) (by simp [seqS, nxS, setS, bndS, bnd, retS, exS, ifS, KL.bin, un1, frz, nmE, nmO, nmM, cE, aNil, aCons, vals?, vaL, back, callV, callB, appN, getAll, app1, app2, Od.get, Sl.d?, ofO, tst, tru, tNotB, tAndB, tOrB, eAnd, eOr, eNot, chn, put, notIo, Vl.sl, Vl.d, D.tru, fnM, cutE, Sl.isIo, itE, items?, mkT, mkL, raise0, argM]; omega) (fun x hx => he x (List.mem_cons_of_mem _ hx))
    have h1 := he d (List.mem_cons_self ..)
    have hl : acc.length < 1000000 := by omega
    have lv : v < ρ.length := (List.getElem?_eq_some_iff.mp hv).1
    have n1 : notIo ρ v = true := by unfold notIo; rw [hv]
    have t : tgN v (.int d) ρ = .nx (ρ.set v (.va (.int d))) := by unfold tgN put; rw [if_pos n1]; rfl
    have k : okW (ρ.set v (.va (.int d))) [v] = true := by simp [seqS, nxS, setS, bndS, bnd, retS, exS, ifS, KL.bin, un1, frz, nmE, nmO, nmM, cE, aNil, aCons, vals?, vaL, back, callV, callB, appN, getAll, app1, app2, Od.get, Sl.d?, ofO, tst, tru, tNotB, tAndB, tOrB, eAnd, eOr, eNot, chn, put, notIo, Vl.sl, Vl.d, D.tru, fnM, cutE, Sl.isIo, itE, items?, mkT, mkL, raise0, argM, okW, lv, Sl.mine]
    have w : wipeE (ρ.set v (.va (.int d))) [v] = ρ := by
      show (ρ.set v (.va (.int d))).set v .un = ρ
      rw [List.set_set]
      apply List.ext_getElem?
      intro j
      by_cases c : v = j
      · subst c; rw [List.getElem?_set_self lv, hv]
      · rw [List.getElem?_set_ne c]
    simp only [List.map_cons, lcL, t, yesB, h1, k, hl, decide_true, Bool.and_self, if_true, w]
    show lcL [v] (tgN v) (fun ρ => .ok true ρ) e (r.map .int) (acc ++ [g d]) ρ = _
    have ih' : lcL [v] (tgN v) (fun ρ => .ok true ρ) e (r.map .int) (acc ++ [g d]) ρ = .ok ((acc ++ [g d]) ++ r.map g) ρ := ih
    rw [ih', List.append_assoc]; rfl
theorem lcEP {v : Nat} {e : M Vl} {it : M (List D)} (g : Int → D) {ρ ρ1 : KL.Env} (ds : List Int) (hi : it ρ = .ok (ds.map .int) ρ1) (hw : okW ρ1 [v] = true) (lv : v < ρ1.length) (hl : ds.length ≤ 1000)
    (h : ∀ d ∈ ds, e (ρ1.set v (.va (.int d))) = .ok (.fz (g d)) (ρ1.set v (.va (.int d)))) : lcE [v] it (tgN v) yesB e ρ = .ok (.fr (ds.map g)) ρ1 := by
  have hv : (wipeE ρ1 [v])[v]? = some .un := by show (ρ1.set v .un)[v]? = _; rw [List.getElem?_set_self lv]
  have z := lcP (e := e) (g := g) hv ds [] (by simpa using hl) (fun d hd => by
    show e ((ρ1.set v .un).set v (.va (.int d))) = .ok _ ((ρ1.set v .un).set v (.va (.int d)))
    rw [List.set_set]; exact h d hd)
  have k : okW (wipeE ρ1 [v]) [v] = true := by simp [seqS, nxS, setS, bndS, bnd, retS, exS, ifS, KL.bin, un1, frz, nmE, nmO, nmM, cE, aNil, aCons, vals?, vaL, back, callV, callB, appN, getAll, app1, app2, Od.get, Sl.d?, ofO, tst, tru, tNotB, tAndB, tOrB, eAnd, eOr, eNot, chn, put, notIo, Vl.sl, Vl.d, D.tru, fnM, cutE, Sl.isIo, itE, items?, mkT, mkL, raise0, argM, okW, hv, Sl.mine]
  have q : rstE ρ1 (wipeE ρ1 [v]) [v] = ρ1 := by
    show (ρ1.set v .un).set v ((ρ1[v]?).getD .un) = ρ1
    rw [List.set_set]
    apply List.ext_getElem?
    intro j
    by_cases c : v = j
    · subst c; rw [List.getElem?_set_self lv, List.getElem?_eq_getElem lv]; rfl
    · rw [List.getElem?_set_ne c]
  simp only [lcE, hi, bnd, hw, if_true, z, k, q, List.nil_append]
end K02
end

section
set_option Elab.async false
set_option linter.all false
set_option maxRecDepth 100000
namespace K02
open PySem L2 KL

def LX0 : M Vl := lcE [6] (itE (nmE 1)) (tgN 6) (yesB) (callV 2 f_top_sum [] (aCons (frz (nmE 0)) (aCons (frz (nmE 6)) (aNil))))
def LX1 : M Vl := lcE [6] (itE (nmE 1)) (tgN 6) (yesB) (callV 2 f_u_law_top [] (aCons (frz (nmE 0)) (aCons (frz (nmE 6)) (aNil))))
def LX2 : M Vl := lcE [5] (itE (nmE 3)) (tgN 5) (yesB) (callV 2 f_capacity [] (aCons (frz (nmE 0)) (aCons (frz (nmE 5)) (aNil))))
def LX3 : M Vl := lcE [5] (itE (nmE 3)) (tgN 5) (yesB) (callV 2 f_u_law_capacity [] (aCons (frz (nmE 0)) (aCons (frz (nmE 5)) (aNil))))
def LX4 : M Vl := lcE [5] (itE (nmE 3)) (tgN 5) (yesB) (callV 2 f_count_from [] (aCons (frz (nmE 0)) (aCons (frz (nmE 5)) (aNil))))
def LX5 : M Vl := lcE [8] (itE (nmE 3)) (tgN 8) (yesB) (callB lenP (aCons (frz (lcE [9] (itE (nmE 0)) (tgN 9) (tst (bin geP (nmO 9) (nmO 8))) (nmE 9))) (aNil)))
def LX6 : M Vl := lcE [6] (itE (nmE 1)) (tgN 6) (yesB) (bin subP (frz (bin ixP (nmO 2) (nmO 6))) (frz (bin mulP (nmO 6) (frz (bin subP (nmO 5) (frz (cE (.int 1))))))))
def LX7 : M Vl := lcE [5] (itE (nmE 3)) (tgN 5) (yesB) (bin addP (frz (callV 2 f_u_law_capacity [] (aCons (frz (nmE 0)) (aCons (frz (nmE 5)) (aNil))))) (frz (bin mulP (nmO 6) (frz (bin subP (nmO 5) (frz (cE (.int 1))))))))
def SX0 : SM := ifS (tNotB (tru (frz (callV 1 f_u_law_plain [] (aCons (frz (nmE 0)) (aNil)))))) (retS (cE (.bl false))) (nxS)
def SX1 : SM := ifS (tOrB (tst (bin neP (frz (callV 1 f_steel [] (aCons (frz (nmE 0)) (aNil)))) (frz (callB sumP (aCons (nmO 0) (aNil)))))) (tst (bin neP (frz (callK 1 0 1 f_steel (permL [0]) aNil (aCons (frz (nmE 0)) (aNil)))) (frz (callB sumP (aCons (nmO 0) (aNil))))))) (retS (cE (.bl false))) (nxS)
def SX2 : SM := setS 1 (lrg1 (frz (bin addP (frz (callB lenP (aCons (nmO 0) (aNil)))) (frz (cE (.int 3))))))
def SX3 : SM := setS 2 LX0
def SX4 : SM := ifS (tOrB (tst (bin neP (nmO 2) (frz LX1))) (tst (bin neP (frz (callK 2 0 2 f_top_sum (permL [1, 0]) aNil (aCons (frz (cE (.int 200))) (aCons (frz (nmE 0)) (aNil))))) (frz (callB sumP (aCons (nmO 0) (aNil))))))) (retS (cE (.bl false))) (nxS)
def SX5 : SM := setS 3 (lrg2 (frz (cE (.int 1))) (frz (bin addP (frz (callB minP2 (aCons (frz (cE (.int 200))) (aCons (frz (bin addP (frz (callB maxA (aCons (frz (bin addP (nmO 0) (frz (mkT (aCons (frz (cE (.int 0))) (aNil)))))) (aNil)))) (frz (cE (.int 3))))) (aNil))))) (frz (cE (.int 1))))))
def SX6 : SM := setS 4 LX2
def SX7 : SM := ifS (tst (bin neP (nmO 4) (frz LX3))) (retS (cE (.bl false))) (nxS)
def SX8 : SM := ifS (tst (bin neP (frz LX4) (frz LX5))) (retS (cE (.bl false))) (nxS)
def SX9 : SM := forS (itE (nmE 3)) (tgN 5) (seqS (setS 7 (callB maxA (aCons (frz LX6) (aNil)))) (ifS (tst (bin neP (frz (callK 2 0 2 f_capacity (permL [1, 0]) aNil (aCons (frz (nmE 5)) (aCons (frz (nmE 0)) (aNil))))) (nmO 7))) (retS (cE (.bl false))) (nxS)))
def SX10 : SM := forS (itE (slE (nmO 1) (ptS (frz (cE (.int 1)))) (ptN))) (tgN 6) (ifS (tst (bin neP (frz (bin ixP (nmO 2) (nmO 6))) (frz (callB minA (aCons (frz LX7) (aNil)))))) (retS (cE (.bl false))) (nxS))
def SX11 : SM := retS (eAnd (bin eqP (frz (callK 2 0 2 f_count_from (permL [1, 0]) aNil (aCons (frz (cE (.int 1))) (aCons (frz (nmE 0)) (aNil))))) (frz (callB lenP (aCons (nmO 0) (aNil))))) (bin eqP (frz (callV 2 f_capacity [] (aCons (frz (nmE 0)) (aCons (frz (cE (.int 200))) (aNil))))) (frz (callV 2 f_u_law_capacity [] (aCons (frz (nmE 0)) (aCons (frz (cE (.int 200))) (aNil)))))))
theorem bd_good : bd_u_law_good = seqS SX0 (seqS SX1 (seqS SX2 (seqS SX3 (seqS SX4 (seqS SX5 (seqS SX6 (seqS SX7 (seqS SX8 (seqS SX9 (seqS SX10 SX11)))))))))) := rfl
def LXP : M Vl := lcE [2] (itE (nmE 1)) (tgN 2) (yesB) (un1 (isiP (tyB "bool") noK) (nmO 2))
theorem bd_plain : bd_u_law_plain = seqS (setS 1 (mkL (aCons (frz (callV 1 f_steel [] (aCons (frz (nmE 0)) (aNil)))) (aCons (frz (callV 2 f_top_sum [] (aCons (frz (nmE 0)) (aCons (frz (cE (.int 0))) (aNil))))) (aCons (frz (callV 2 f_top_sum [] (aCons (frz (nmE 0)) (aCons (frz (cE (.int 1))) (aNil))))) (aCons (frz (callV 2 f_capacity [] (aCons (frz (nmE 0)) (aCons (frz (cE (.int 1))) (aNil))))) (aCons (frz (callV 2 f_capacity [] (aCons (frz (nmE 0)) (aCons (frz (cE (.int 200))) (aNil))))) (aNil)))))))) (seqS (setS 1 (bin addP (nmO 1) (frz (mkL (aCons (frz (callV 2 f_count_from [] (aCons (frz (nmE 0)) (aCons (frz (cE (.int 1))) (aNil))))) (aCons (frz (callV 2 f_count_from [] (aCons (frz (nmE 0)) (aCons (frz (cE (.int 200))) (aNil))))) (aNil))))))) (retS (eNot (frz (callB anyP (aCons (frz LXP) (aNil))))))) := rfl

theorem lxp (x : D) (is : List Int) (hl : is.length ≤ 1000) : LXP [.va x, .va (.lst (is.map .int)), .un] = .ok (.fr (is.map fun _ => .bl false)) [.va x, .va (.lst (is.map .int)), .un] := by
  refine lcEP (fun _ => .bl false) is ?_ rfl (by simp [seqS, nxS, setS, bndS, bnd, retS, exS, ifS, KL.bin, un1, frz, nmE, nmO, nmM, cE, aNil, aCons, vals?, vaL, back, callV, callB, appN, getAll, app1, app2, Od.get, Sl.d?, ofO, tst, tru, tNotB, tAndB, tOrB, eAnd, eOr, eNot, chn, put, notIo, Vl.sl, Vl.d, D.tru, fnM, cutE, Sl.isIo, itE, items?, mkT, mkL, raise0, argM]) hl fun d _ => ?_
  · simp [seqS, nxS, setS, bndS, bnd, retS, exS, ifS, KL.bin, un1, frz, nmE, nmO, nmM, cE, aNil, aCons, vals?, vaL, back, callV, callB, appN, getAll, app1, app2, Od.get, Sl.d?, ofO, tst, tru, tNotB, tAndB, tOrB, eAnd, eOr, eNot, chn, put, notIo, Vl.sl, Vl.d, D.tru, fnM, cutE, Sl.isIo, itE, items?, mkT, mkL, raise0, argM, items?]
  · simp [seqS, nxS, setS, bndS, bnd, retS, exS, ifS, KL.bin, un1, frz, nmE, nmO, nmM, cE, aNil, aCons, vals?, vaL, back, callV, callB, appN, getAll, app1, app2, Od.get, Sl.d?, ofO, tst, tru, tNotB, tAndB, tOrB, eAnd, eOr, eNot, chn, put, notIo, Vl.sl, Vl.d, D.tru, fnM, cutE, Sl.isIo, itE, items?, mkT, mkL, raise0, argM, isiP]; rfl
theorem lxp' (x : D) (is : List Int) (hl : is.length ≤ 1000) : LXP [.va x, .ow (is.map .int), .un] = .ok (.fr (is.map fun _ => .bl false)) [.va x, .va (.lst (is.map .int)), .un] := by
  refine lcEP (fun _ => .bl false) is ?_ rfl (by simp [seqS, nxS, setS, bndS, bnd, retS, exS, ifS, KL.bin, un1, frz, nmE, nmO, nmM, cE, aNil, aCons, vals?, vaL, back, callV, callB, appN, getAll, app1, app2, Od.get, Sl.d?, ofO, tst, tru, tNotB, tAndB, tOrB, eAnd, eOr, eNot, chn, put, notIo, Vl.sl, Vl.d, D.tru, fnM, cutE, Sl.isIo, itE, items?, mkT, mkL, raise0, argM]) hl fun d _ => ?_
  · simp [seqS, nxS, setS, bndS, bnd, retS, exS, ifS, KL.bin, un1, frz, nmE, nmO, nmM, cE, aNil, aCons, vals?, vaL, back, callV, callB, appN, getAll, app1, app2, Od.get, Sl.d?, ofO, tst, tru, tNotB, tAndB, tOrB, eAnd, eOr, eNot, chn, put, notIo, Vl.sl, Vl.d, D.tru, fnM, cutE, Sl.isIo, itE, items?, mkT, mkL, raise0, argM, items?]
  · simp [seqS, nxS, setS, bndS, bnd, retS, exS, ifS, KL.bin, un1, frz, nmE, nmO, nmM, cE, aNil, aCons, vals?, vaL, back, callV, callB, appN, getAll, app1, app2, Od.get, Sl.d?, ofO, tst, tru, tNotB, tAndB, tOrB, eAnd, eOr, eNot, chn, put, notIo, Vl.sl, Vl.d, D.tru, fnM, cutE, Sl.isIo, itE, items?, mkT, mkL, raise0, argM, isiP]; rfl
theorem bls_f : ∀ is : List Int, bls? (is.map fun _ => (.bl false : D)) = some (is.map fun _ => false)
  | [] => rfl
  | _ :: r => by simp [seqS, nxS, setS, bndS, bnd, retS, exS, ifS, KL.bin, un1, frz, nmE, nmO, nmM, cE, aNil, aCons, vals?, vaL, back, callV, callB, appN, getAll, app1, app2, Od.get, Sl.d?, ofO, tst, tru, tNotB, tAndB, tOrB, eAnd, eOr, eNot, chn, put, notIo, Vl.sl, Vl.d, D.tru, fnM, cutE, Sl.isIo, itE, items?, mkT, mkL, raise0, argM, bls?, bls_f r]
theorem cat_ok (a b : List D) (h : a.length + b.length ≤ 1000) : addP (.lst a) (.lst b) = some (.fr (a ++ b)) := by
  have h' : a.length + b.length ≤ 1000000 := by omega
  simp [seqS, nxS, setS, bndS, bnd, retS, exS, ifS, KL.bin, un1, frz, nmE, nmO, nmM, cE, aNil, aCons, vals?, vaL, back, callV, callB, appN, getAll, app1, app2, Od.get, Sl.d?, ofO, tst, tru, tNotB, tAndB, tOrB, eAnd, eOr, eNot, chn, put, notIo, Vl.sl, Vl.d, D.tru, fnM, cutE, Sl.isIo, itE, items?, mkT, mkL, raise0, argM, addP, orP, arI, catL, h']
theorem plain_ok {ts : List Int} (g : Good ts) : f_u_law_plain [.va (tp ts)] = .ok (.fz (.bl true)) [.un] := by
  have a1 := top_good g (c := 0) (by decide) (by decide)
  have a2 := top_good g (c := 1) (by decide) (by decide)
  have a3 := cap_good g (n := 1) (by decide) (by decide)
  have a4 := cap_good g (n := 200) (by decide) (by decide)
  have a5 := cnt_good g (n := 1) (by decide) (by decide)
  have a6 := cnt_good g (n := 200) (by decide) (by decide)
  have z := lxp' (tp ts) [ts.sum, top_ ts 0, top_ ts 1, cap ts 1, cap ts 200, cnt ts 1, cnt ts 200] (by simp [seqS, nxS, setS, bndS, bnd, retS, exS, ifS, KL.bin, un1, frz, nmE, nmO, nmM, cE, aNil, aCons, vals?, vaL, back, callV, callB, appN, getAll, app1, app2, Od.get, Sl.d?, ofO, tst, tru, tNotB, tAndB, tOrB, eAnd, eOr, eNot, chn, put, notIo, Vl.sl, Vl.d, D.tru, fnM, cutE, Sl.isIo, itE, items?, mkT, mkL, raise0, argM])
  simp only [List.map_cons, List.map_nil] at z
  simp [seqS, nxS, setS, bndS, bnd, retS, exS, ifS, KL.bin, un1, frz, nmE, nmO, nmM, cE, aNil, aCons, vals?, vaL, back, callV, callB, appN, getAll, app1, app2, Od.get, Sl.d?, ofO, tst, tru, tNotB, tAndB, tOrB, eAnd, eOr, eNot, chn, put, notIo, Vl.sl, Vl.d, D.tru, fnM, cutE, Sl.isIo, itE, items?, mkT, mkL, raise0, argM, f_u_law_plain, bd_plain, steel_good g, a1, a2, a3, a4, a5, a6, cat_ok, z, anyP, bls?]
end K02
end

section
set_option Elab.async false
set_option linter.all false
set_option maxRecDepth 100000
namespace K02
open PySem L2 KL

def rg (lo : Int) (n : Nat) : List Int := (List.range n).map fun (k : Nat) => lo + (k : Int)
theorem rg_mem {lo : Int} {n : Nat} {x : Int} : x ∈ rg lo n ↔ lo ≤ x ∧ x < lo + n := by
  unfold rg
  rw [List.mem_map]
  constructor
  · rintro ⟨k, hk, rfl⟩
    have := List.mem_range.mp hk
    omega
  · rintro ⟨h1, h2⟩
    exact ⟨(x - lo).toNat, List.mem_range.mpr (by omega), by omega⟩
theorem rg_len (lo : Int) (n : Nat) : (rg lo n).length = n := by simp [seqS, nxS, setS, bndS, bnd, retS, exS, ifS, KL.bin, un1, frz, nmE, nmO, nmM, cE, aNil, aCons, vals?, vaL, back, callV, callB, appN, getAll, app1, app2, Od.get, Sl.d?, ofO, tst, tru, tNotB, tAndB, tOrB, eAnd, eOr, eNot, chn, put, notIo, Vl.sl, Vl.d, D.tru, fnM, cutE, Sl.isIo, itE, items?, mkT, mkL, raise0, argM, rg]
theorem rg_get {n k : Nat} (h : k < n) (lo : Int) : (rg lo n)[k]? = some (lo + (k : Int)) := by simp [seqS, nxS, setS, bndS, bnd, retS, exS, ifS, KL.bin, un1, frz, nmE, nmO, nmM, cE, aNil, aCons, vals?, vaL, back, callV, callB, appN, getAll, app1, app2, Od.get, Sl.d?, ofO, tst, tru, tNotB, tAndB, tOrB, eAnd, eOr, eNot, chn, put, notIo, Vl.sl, Vl.d, D.tru, fnM, cutE, Sl.isIo, itE, items?, mkT, mkL, raise0, argM, rg, h]
def zs (ts : List Int) : List Int := rg 0 (ts.length + 3)
def tops (ts : List Int) : List Int := (zs ts).map (top_ ts)
abbrev li (xs : List Int) : D := .lst (xs.map .int)
theorem lens {ts : List Int} (g : Good ts) : (zs ts).length ≤ 1000 := by have := g.len; unfold zs; rw [rg_len]; omega
theorem zs_mem {ts : List Int} (g : Good ts) {c : Int} (h : c ∈ zs ts) : 0 ≤ c ∧ c ≤ 200 := by
  have := g.len; have := rg_mem.mp h; push_cast at this; omega
theorem lx0 {ts : List Int} (g : Good ts) : LX0 [.va (tp ts), .ow ((zs ts).map .int), .un, .un, .un, .un, .un, .un, .un, .un] = .ok (.fr ((tops ts).map .int)) [.va (tp ts), .va (li (zs ts)), .un, .un, .un, .un, .un, .un, .un, .un] := by
  rw [tops, List.map_map]
  refine lcEP (D.int ∘ top_ ts) (zs ts) ?_ rfl (by simp [seqS, nxS, setS, bndS, bnd, retS, exS, ifS, KL.bin, un1, frz, nmE, nmO, nmM, cE, aNil, aCons, vals?, vaL, back, callV, callB, appN, getAll, app1, app2, Od.get, Sl.d?, ofO, tst, tru, tNotB, tAndB, tOrB, eAnd, eOr, eNot, chn, put, notIo, Vl.sl, Vl.d, D.tru, fnM, cutE, Sl.isIo, itE, items?, mkT, mkL, raise0, argM]) (lens g) fun d hd => ?_
  · simp [seqS, nxS, setS, bndS, bnd, retS, exS, ifS, KL.bin, un1, frz, nmE, nmO, nmM, cE, aNil, aCons, vals?, vaL, back, callV, callB, appN, getAll, app1, app2, Od.get, Sl.d?, ofO, tst, tru, tNotB, tAndB, tOrB, eAnd, eOr, eNot, chn, put, notIo, Vl.sl, Vl.d, D.tru, fnM, cutE, Sl.isIo, itE, items?, mkT, mkL, raise0, argM, items?]
  · have h := zs_mem g hd
    simp [seqS, nxS, setS, bndS, bnd, retS, exS, ifS, KL.bin, un1, frz, nmE, nmO, nmM, cE, aNil, aCons, vals?, vaL, back, callV, callB, appN, getAll, app1, app2, Od.get, Sl.d?, ofO, tst, tru, tNotB, tAndB, tOrB, eAnd, eOr, eNot, chn, put, notIo, Vl.sl, Vl.d, D.tru, fnM, cutE, Sl.isIo, itE, items?, mkT, mkL, raise0, argM, top_good g h.1 h.2]
theorem lx1 {ts : List Int} (g : Good ts) (q : Sl) : LX1 [.va (tp ts), .va (li (zs ts)), q, .un, .un, .un, .un, .un, .un, .un] = .ok (.fr ((tops ts).map .int)) [.va (tp ts), .va (li (zs ts)), q, .un, .un, .un, .un, .un, .un, .un] := by
  rw [tops, List.map_map]
  refine lcEP (D.int ∘ top_ ts) (zs ts) ?_ rfl (by simp [seqS, nxS, setS, bndS, bnd, retS, exS, ifS, KL.bin, un1, frz, nmE, nmO, nmM, cE, aNil, aCons, vals?, vaL, back, callV, callB, appN, getAll, app1, app2, Od.get, Sl.d?, ofO, tst, tru, tNotB, tAndB, tOrB, eAnd, eOr, eNot, chn, put, notIo, Vl.sl, Vl.d, D.tru, fnM, cutE, Sl.isIo, itE, items?, mkT, mkL, raise0, argM]) (lens g) fun d hd => ?_
  · simp [seqS, nxS, setS, bndS, bnd, retS, exS, ifS, KL.bin, un1, frz, nmE, nmO, nmM, cE, aNil, aCons, vals?, vaL, back, callV, callB, appN, getAll, app1, app2, Od.get, Sl.d?, ofO, tst, tru, tNotB, tAndB, tOrB, eAnd, eOr, eNot, chn, put, notIo, Vl.sl, Vl.d, D.tru, fnM, cutE, Sl.isIo, itE, items?, mkT, mkL, raise0, argM, items?]
  · have h := zs_mem g hd
    simp [seqS, nxS, setS, bndS, bnd, retS, exS, ifS, KL.bin, un1, frz, nmE, nmO, nmM, cE, aNil, aCons, vals?, vaL, back, callV, callB, appN, getAll, app1, app2, Od.get, Sl.d?, ofO, tst, tru, tNotB, tAndB, tOrB, eAnd, eOr, eNot, chn, put, notIo, Vl.sl, Vl.d, D.tru, fnM, cutE, Sl.isIo, itE, items?, mkT, mkL, raise0, argM, law_top_ok g.len h.1 h.2]
theorem top_all {ts : List Int} (g : Good ts) : top_ ts 200 = ts.sum := by
  unfold top_; rw [List.take_of_length_le (by have := g.len; simp [seqS, nxS, setS, bndS, bnd, retS, exS, ifS, KL.bin, un1, frz, nmE, nmO, nmM, cE, aNil, aCons, vals?, vaL, back, callV, callB, appN, getAll, app1, app2, Od.get, Sl.d?, ofO, tst, tru, tNotB, tAndB, tOrB, eAnd, eOr, eNot, chn, put, notIo, Vl.sl, Vl.d, D.tru, fnM, cutE, Sl.isIo, itE, items?, mkT, mkL, raise0, argM]; omega)]
theorem s0 {ts : List Int} (g : Good ts) : SX0 [.va (tp ts), .un, .un, .un, .un, .un, .un, .un, .un, .un] = .nx [.va (tp ts), .un, .un, .un, .un, .un, .un, .un, .un, .un] := by
  simp [seqS, nxS, setS, bndS, bnd, retS, exS, ifS, KL.bin, un1, frz, nmE, nmO, nmM, cE, aNil, aCons, vals?, vaL, back, callV, callB, appN, getAll, app1, app2, Od.get, Sl.d?, ofO, tst, tru, tNotB, tAndB, tOrB, eAnd, eOr, eNot, chn, put, notIo, Vl.sl, Vl.d, D.tru, fnM, cutE, Sl.isIo, itE, items?, mkT, mkL, raise0, argM, SX0, plain_ok g]
theorem s1 {ts : List Int} (g : Good ts) : SX1 [.va (tp ts), .un, .un, .un, .un, .un, .un, .un, .un, .un] = .nx [.va (tp ts), .un, .un, .un, .un, .un, .un, .un, .un, .un] := by
  simp [seqS, nxS, setS, bndS, bnd, retS, exS, ifS, KL.bin, un1, frz, nmE, nmO, nmM, cE, aNil, aCons, vals?, vaL, back, callV, callB, appN, getAll, app1, app2, Od.get, Sl.d?, ofO, tst, tru, tNotB, tAndB, tOrB, eAnd, eOr, eNot, chn, put, notIo, Vl.sl, Vl.d, D.tru, fnM, cutE, Sl.isIo, itE, items?, mkT, mkL, raise0, argM, SX1, steel_good g, sumP, callK, permL]
theorem zs_rg (ts : List Int) : rangeL 0 (ts.length + 3) = (zs ts).map .int := by
  unfold zs rg; exact rangeL_map 0 _
theorem zs_ok {n : Nat} (h : n ≤ 60) : okR ((n : Int) + 3) = true := by
  unfold okR; rw [decide_eq_true (by omega), decide_eq_true (by omega)]; rfl
theorem s2_ {A : D} {m : Int} {xs : List D} {n : Nat} (h0 : lenP [A] = some (.fz (.int n))) (hm : (n : Int) + 3 = m) (h1 : okR m = true) (h2 : m ≤ 1000000) (h3 : rangeL 0 m.toNat = xs) : SX2 [.va A, .un, .un, .un, .un, .un, .un, .un, .un, .un] = .nx [.va A, .ow xs, .un, .un, .un, .un, .un, .un, .un, .un] := by
  simp [seqS, nxS, setS, bndS, bnd, retS, exS, ifS, KL.bin, un1, frz, nmE, nmO, nmM, cE, aNil, aCons, vals?, vaL, back, callV, callB, appN, getAll, app1, app2, Od.get, Sl.d?, ofO, tst, tru, tNotB, tAndB, tOrB, eAnd, eOr, eNot, chn, put, notIo, Vl.sl, Vl.d, D.tru, fnM, cutE, Sl.isIo, itE, items?, mkT, mkL, raise0, argM, SX2, h0, lrg1, hm, h1, h2, h3]
theorem s2 {ts : List Int} (g : Good ts) : SX2 [.va (tp ts), .un, .un, .un, .un, .un, .un, .un, .un, .un] = .nx [.va (tp ts), .ow ((zs ts).map .int), .un, .un, .un, .un, .un, .un, .un, .un] := by
  have hl := g.len
  refine s2_ (n := ts.length) (by simp [seqS, nxS, setS, bndS, bnd, retS, exS, ifS, KL.bin, un1, frz, nmE, nmO, nmM, cE, aNil, aCons, vals?, vaL, back, callV, callB, appN, getAll, app1, app2, Od.get, Sl.d?, ofO, tst, tru, tNotB, tAndB, tOrB, eAnd, eOr, eNot, chn, put, notIo, Vl.sl, Vl.d, D.tru, fnM, cutE, Sl.isIo, itE, items?, mkT, mkL, raise0, argM, lenP]) rfl (zs_ok hl) (by omega) ?_
  have e : ((ts.length : Int) + 3).toNat = ts.length + 3 := by omega
  rw [e]; exact zs_rg ts
theorem s3 {ts : List Int} (g : Good ts) : SX3 [.va (tp ts), .ow ((zs ts).map .int), .un, .un, .un, .un, .un, .un, .un, .un] = .nx [.va (tp ts), .va (li (zs ts)), .ow ((tops ts).map .int), .un, .un, .un, .un, .un, .un, .un] := by
  simp [seqS, nxS, setS, bndS, bnd, retS, exS, ifS, KL.bin, un1, frz, nmE, nmO, nmM, cE, aNil, aCons, vals?, vaL, back, callV, callB, appN, getAll, app1, app2, Od.get, Sl.d?, ofO, tst, tru, tNotB, tAndB, tOrB, eAnd, eOr, eNot, chn, put, notIo, Vl.sl, Vl.d, D.tru, fnM, cutE, Sl.isIo, itE, items?, mkT, mkL, raise0, argM, SX3, lx0 g]
theorem s4 {ts : List Int} (g : Good ts) : SX4 [.va (tp ts), .va (li (zs ts)), .ow ((tops ts).map .int), .un, .un, .un, .un, .un, .un, .un] = .nx [.va (tp ts), .va (li (zs ts)), .ow ((tops ts).map .int), .un, .un, .un, .un, .un, .un, .un] := by
  have h := top_good g (c := 200) (by decide) (by decide)
  simp [seqS, nxS, setS, bndS, bnd, retS, exS, ifS, KL.bin, un1, frz, nmE, nmO, nmM, cE, aNil, aCons, vals?, vaL, back, callV, callB, appN, getAll, app1, app2, Od.get, Sl.d?, ofO, tst, tru, tNotB, tAndB, tOrB, eAnd, eOr, eNot, chn, put, notIo, Vl.sl, Vl.d, D.tru, fnM, cutE, Sl.isIo, itE, items?, mkT, mkL, raise0, argM, SX4, lx1 g, sumP, callK, permL, neP_lints, h, top_all g]
def mx (ts : List Int) : Int := maxI 0 ts
def lv (ts : List Int) : List Int := rg 1 (min 200 (mx ts + 3)).toNat
theorem mx_is {ts : List Int} (g : Good ts) : 0 ≤ mx ts ∧ mx ts ≤ 200 ∧ (∀ t ∈ ts, t ≤ mx ts) ∧ mx ts ∈ ts ++ [0] := by
  obtain ⟨h1, h2, h3⟩ := maxI_is ts 0
  refine ⟨h2, ?_, h3, ?_⟩
  · rcases h1 with h1 | h1
    · unfold mx; omega
    · exact (g.rng _ h1).2
  · rcases h1 with h1 | h1
    · unfold mx; rw [h1]; simp [seqS, nxS, setS, bndS, bnd, retS, exS, ifS, KL.bin, un1, frz, nmE, nmO, nmM, cE, aNil, aCons, vals?, vaL, back, callV, callB, appN, getAll, app1, app2, Od.get, Sl.d?, ofO, tst, tru, tNotB, tAndB, tOrB, eAnd, eOr, eNot, chn, put, notIo, Vl.sl, Vl.d, D.tru, fnM, cutE, Sl.isIo, itE, items?, mkT, mkL, raise0, argM]
    · exact List.mem_append_left _ h1
theorem lv_mem {ts : List Int} (g : Good ts) {l : Int} : l ∈ lv ts ↔ 1 ≤ l ∧ l ≤ 200 ∧ l ≤ mx ts + 3 := by
  have := mx_is g
  unfold lv; rw [rg_mem]
  omega
theorem s5 {ts : List Int} (g : Good ts) : SX5 [.va (tp ts), .va (li (zs ts)), .ow ((tops ts).map .int), .un, .un, .un, .un, .un, .un, .un] = .nx [.va (tp ts), .va (li (zs ts)), .ow ((tops ts).map .int), .ow ((lv ts).map .int), .un, .un, .un, .un, .un, .un] := by
  have hl := g.len
  obtain ⟨m1, m2, m3, m4⟩ := mx_is g
  have e : addP (tp ts) (.tup [.int 0]) = some (.fz (tp (ts ++ [0]))) := by
    have h' : ts.length + 1 ≤ 1000000 := by omega
    simp [seqS, nxS, setS, bndS, bnd, retS, exS, ifS, KL.bin, un1, frz, nmE, nmO, nmM, cE, aNil, aCons, vals?, vaL, back, callV, callB, appN, getAll, app1, app2, Od.get, Sl.d?, ofO, tst, tru, tNotB, tAndB, tOrB, eAnd, eOr, eNot, chn, put, notIo, Vl.sl, Vl.d, D.tru, fnM, cutE, Sl.isIo, itE, items?, mkT, mkL, raise0, argM, addP, orP, arI, catL, catT, h']
  have e2 : maxA [tp (ts ++ [0])] = some (.fz (.int (mx ts))) := maxA_eq m4 (fun x hx => by
    rcases List.mem_append.mp hx with h | h
    · exact m3 x h
    · simp at h; omega) _ (dints_t _)
  have e3 : minP2 [.int 200, .int (mx ts + 3)] = some (.fz (.int (min 200 (mx ts + 3)))) := by
    simp only [minP2]; congr 3; split <;> omega
  have o1 : okR (min 200 (mx ts + 3) + 1) = true := by unfold okR; rw [decide_eq_true (by omega), decide_eq_true (by omega)]; rfl
  have o3 : okR 1 = true := by decide
  have o2 : min 200 (mx ts + 3) ≤ 1000000 := by omega
  have h3 : rangeL 1 (min 200 (mx ts + 3)).toNat = (lv ts).map .int := by
    rw [rangeL_map]; rfl
  generalize hm : min 200 (mx ts + 3) = m at *
  simp only [SX5, setS, lrg2, frz, cE, KL.bin, callB, aCons, aNil, nmO, mkT, bndS, bnd, appN, getAll, app2, vals?, Od.get, Sl.d?, Vl.d, List.getElem?_cons_zero, List.getElem?_cons_succ, ofO]
  simp [seqS, nxS, setS, bndS, bnd, retS, exS, ifS, KL.bin, un1, frz, nmE, nmO, nmM, cE, aNil, aCons, vals?, vaL, back, callV, callB, appN, getAll, app1, app2, Od.get, Sl.d?, ofO, tst, tru, tNotB, tAndB, tOrB, eAnd, eOr, eNot, chn, put, notIo, Vl.sl, Vl.d, D.tru, fnM, cutE, Sl.isIo, itE, items?, mkT, mkL, raise0, argM, e, e2, e3, o1, o3, o2, h3]
end K02
end

section
set_option Elab.async false
set_option linter.all false
set_option maxRecDepth 100000
namespace K02
open PySem L2 KL

def caps (ts : List Int) : List Int := (lv ts).map (cap ts)
def cnts (ts : List Int) : List Int := (lv ts).map (cnt ts)
theorem lv_len {ts : List Int} (g : Good ts) : (lv ts).length ≤ 1000 := by
  have := mx_is g; unfold lv; rw [rg_len]; omega
theorem lx2 {ts : List Int} (g : Good ts) (z t : Sl) : LX2 [.va (tp ts), z, t, .ow ((lv ts).map .int), .un, .un, .un, .un, .un, .un] = .ok (.fr ((caps ts).map .int)) [.va (tp ts), z, t, .va (li (lv ts)), .un, .un, .un, .un, .un, .un] := by
  rw [caps, List.map_map]
  refine lcEP (D.int ∘ cap ts) (lv ts) ?_ rfl (by simp [seqS, nxS, setS, bndS, bnd, retS, exS, ifS, KL.bin, un1, frz, nmE, nmO, nmM, cE, aNil, aCons, vals?, vaL, back, callV, callB, appN, getAll, app1, app2, Od.get, Sl.d?, ofO, tst, tru, tNotB, tAndB, tOrB, eAnd, eOr, eNot, chn, put, notIo, Vl.sl, Vl.d, D.tru, fnM, cutE, Sl.isIo, itE, items?, mkT, mkL, raise0, argM]) (lv_len g) fun d hd => ?_
  · simp [seqS, nxS, setS, bndS, bnd, retS, exS, ifS, KL.bin, un1, frz, nmE, nmO, nmM, cE, aNil, aCons, vals?, vaL, back, callV, callB, appN, getAll, app1, app2, Od.get, Sl.d?, ofO, tst, tru, tNotB, tAndB, tOrB, eAnd, eOr, eNot, chn, put, notIo, Vl.sl, Vl.d, D.tru, fnM, cutE, Sl.isIo, itE, items?, mkT, mkL, raise0, argM, items?]
  · have h := (lv_mem g).mp hd
    simp [seqS, nxS, setS, bndS, bnd, retS, exS, ifS, KL.bin, un1, frz, nmE, nmO, nmM, cE, aNil, aCons, vals?, vaL, back, callV, callB, appN, getAll, app1, app2, Od.get, Sl.d?, ofO, tst, tru, tNotB, tAndB, tOrB, eAnd, eOr, eNot, chn, put, notIo, Vl.sl, Vl.d, D.tru, fnM, cutE, Sl.isIo, itE, items?, mkT, mkL, raise0, argM, cap_good g h.1 h.2.1]
theorem lx3 {ts : List Int} (g : Good ts) (z t q : Sl) : LX3 [.va (tp ts), z, t, .va (li (lv ts)), q, .un, .un, .un, .un, .un] = .ok (.fr ((caps ts).map .int)) [.va (tp ts), z, t, .va (li (lv ts)), q, .un, .un, .un, .un, .un] := by
  rw [caps, List.map_map]
  refine lcEP (D.int ∘ cap ts) (lv ts) ?_ rfl (by simp [seqS, nxS, setS, bndS, bnd, retS, exS, ifS, KL.bin, un1, frz, nmE, nmO, nmM, cE, aNil, aCons, vals?, vaL, back, callV, callB, appN, getAll, app1, app2, Od.get, Sl.d?, ofO, tst, tru, tNotB, tAndB, tOrB, eAnd, eOr, eNot, chn, put, notIo, Vl.sl, Vl.d, D.tru, fnM, cutE, Sl.isIo, itE, items?, mkT, mkL, raise0, argM]) (lv_len g) fun d hd => ?_
  · simp [seqS, nxS, setS, bndS, bnd, retS, exS, ifS, KL.bin, un1, frz, nmE, nmO, nmM, cE, aNil, aCons, vals?, vaL, back, callV, callB, appN, getAll, app1, app2, Od.get, Sl.d?, ofO, tst, tru, tNotB, tAndB, tOrB, eAnd, eOr, eNot, chn, put, notIo, Vl.sl, Vl.d, D.tru, fnM, cutE, Sl.isIo, itE, items?, mkT, mkL, raise0, argM, items?]
  · have h := (lv_mem g).mp hd
    simp [seqS, nxS, setS, bndS, bnd, retS, exS, ifS, KL.bin, un1, frz, nmE, nmO, nmM, cE, aNil, aCons, vals?, vaL, back, callV, callB, appN, getAll, app1, app2, Od.get, Sl.d?, ofO, tst, tru, tNotB, tAndB, tOrB, eAnd, eOr, eNot, chn, put, notIo, Vl.sl, Vl.d, D.tru, fnM, cutE, Sl.isIo, itE, items?, mkT, mkL, raise0, argM, law_cap_of g.len]
theorem lx4 {ts : List Int} (g : Good ts) (z t q : Sl) : LX4 [.va (tp ts), z, t, .va (li (lv ts)), q, .un, .un, .un, .un, .un] = .ok (.fr ((cnts ts).map .int)) [.va (tp ts), z, t, .va (li (lv ts)), q, .un, .un, .un, .un, .un] := by
  rw [cnts, List.map_map]
  refine lcEP (D.int ∘ cnt ts) (lv ts) ?_ rfl (by simp [seqS, nxS, setS, bndS, bnd, retS, exS, ifS, KL.bin, un1, frz, nmE, nmO, nmM, cE, aNil, aCons, vals?, vaL, back, callV, callB, appN, getAll, app1, app2, Od.get, Sl.d?, ofO, tst, tru, tNotB, tAndB, tOrB, eAnd, eOr, eNot, chn, put, notIo, Vl.sl, Vl.d, D.tru, fnM, cutE, Sl.isIo, itE, items?, mkT, mkL, raise0, argM]) (lv_len g) fun d hd => ?_
  · simp [seqS, nxS, setS, bndS, bnd, retS, exS, ifS, KL.bin, un1, frz, nmE, nmO, nmM, cE, aNil, aCons, vals?, vaL, back, callV, callB, appN, getAll, app1, app2, Od.get, Sl.d?, ofO, tst, tru, tNotB, tAndB, tOrB, eAnd, eOr, eNot, chn, put, notIo, Vl.sl, Vl.d, D.tru, fnM, cutE, Sl.isIo, itE, items?, mkT, mkL, raise0, argM, items?]
  · have h := (lv_mem g).mp hd
    simp [seqS, nxS, setS, bndS, bnd, retS, exS, ifS, KL.bin, un1, frz, nmE, nmO, nmM, cE, aNil, aCons, vals?, vaL, back, callV, callB, appN, getAll, app1, app2, Od.get, Sl.d?, ofO, tst, tru, tNotB, tAndB, tOrB, eAnd, eOr, eNot, chn, put, notIo, Vl.sl, Vl.d, D.tru, fnM, cutE, Sl.isIo, itE, items?, mkT, mkL, raise0, argM, cnt_good g h.1 h.2.1]
theorem cnt9 (a b c d e : Sl) (n : Int) : ∀ (ts : List Int) (acc : List D), acc.length + ts.length ≤ 1000 → lcL [9] (tgN 9) (tst (bin geP (nmO 9) (nmO 8))) (nmE 9) (ts.map .int) acc [a, b, c, d, e, .un, .un, .un, .va (.int n), .un] = .ok (acc ++ (ts.filter fun t => decide (n ≤ t)).map .int) [a, b, c, d, e, .un, .un, .un, .va (.int n), .un]
  | [], acc, _ => by simp [seqS, nxS, setS, bndS, bnd, retS, exS, ifS, KL.bin, un1, frz, nmE, nmO, nmM, cE, aNil, aCons, vals?, vaL, back, callV, callB, appN, getAll, app1, app2, Od.get, Sl.d?, ofO, tst, tru, tNotB, tAndB, tOrB, eAnd, eOr, eNot, chn, put, notIo, Vl.sl, Vl.d, D.tru, fnM, cutE, Sl.isIo, itE, items?, mkT, mkL, raise0, argM, lcL]
  | t :: r, acc, h => by
    simp only [List.length_cons] at h
    simp only [List.map_cons, lcL]
    by_cases k : n ≤ t
    · have ih := cnt9 a b c d e n r (acc ++ [.int t]) (by simp [seqS, nxS, setS, bndS, bnd, retS, exS, ifS, KL.bin, un1, frz, nmE, nmO, nmM, cE, aNil, aCons, vals?, vaL, back, callV, callB, appN, getAll, app1, app2, Od.get, Sl.d?, ofO, tst, tru, tNotB, tAndB, tOrB, eAnd, eOr, eNot, chn, put, notIo, Vl.sl, Vl.d, D.tru, fnM, cutE, Sl.isIo, itE, items?, mkT, mkL, raise0, argM]; omega)
      have hl : acc.length < 1000000 := by omega
      simp [seqS, nxS, setS, bndS, bnd, retS, exS, ifS, KL.bin, un1, frz, nmE, nmO, nmM, cE, aNil, aCons, vals?, vaL, back, callV, callB, appN, getAll, app1, app2, Od.get, Sl.d?, ofO, tst, tru, tNotB, tAndB, tOrB, eAnd, eOr, eNot, chn, put, notIo, Vl.sl, Vl.d, D.tru, fnM, cutE, Sl.isIo, itE, items?, mkT, mkL, raise0, argM, tgN, k, okW, wipeE, Sl.mine, hl]
      rw [ih]
      simp [seqS, nxS, setS, bndS, bnd, retS, exS, ifS, KL.bin, un1, frz, nmE, nmO, nmM, cE, aNil, aCons, vals?, vaL, back, callV, callB, appN, getAll, app1, app2, Od.get, Sl.d?, ofO, tst, tru, tNotB, tAndB, tOrB, eAnd, eOr, eNot, chn, put, notIo, Vl.sl, Vl.d, D.tru, fnM, cutE, Sl.isIo, itE, items?, mkT, mkL, raise0, argM]
    · have ih := cnt9 a b c d e n r acc (by omega)
      simp [seqS, nxS, setS, bndS, bnd, retS, exS, ifS, KL.bin, un1, frz, nmE, nmO, nmM, cE, aNil, aCons, vals?, vaL, back, callV, callB, appN, getAll, app1, app2, Od.get, Sl.d?, ofO, tst, tru, tNotB, tAndB, tOrB, eAnd, eOr, eNot, chn, put, notIo, Vl.sl, Vl.d, D.tru, fnM, cutE, Sl.isIo, itE, items?, mkT, mkL, raise0, argM, tgN, k, okW, wipeE, Sl.mine]
      rw [ih]
theorem lx5 {ts : List Int} (g : Good ts) (z t q : Sl) : LX5 [.va (tp ts), z, t, .va (li (lv ts)), q, .un, .un, .un, .un, .un] = .ok (.fr ((cnts ts).map .int)) [.va (tp ts), z, t, .va (li (lv ts)), q, .un, .un, .un, .un, .un] := by
  rw [cnts, List.map_map]
  refine lcEP (D.int ∘ cnt ts) (lv ts) ?_ rfl (by simp [seqS, nxS, setS, bndS, bnd, retS, exS, ifS, KL.bin, un1, frz, nmE, nmO, nmM, cE, aNil, aCons, vals?, vaL, back, callV, callB, appN, getAll, app1, app2, Od.get, Sl.d?, ofO, tst, tru, tNotB, tAndB, tOrB, eAnd, eOr, eNot, chn, put, notIo, Vl.sl, Vl.d, D.tru, fnM, cutE, Sl.isIo, itE, items?, mkT, mkL, raise0, argM]) (lv_len g) fun d hd => ?_
  · simp [seqS, nxS, setS, bndS, bnd, retS, exS, ifS, KL.bin, un1, frz, nmE, nmO, nmM, cE, aNil, aCons, vals?, vaL, back, callV, callB, appN, getAll, app1, app2, Od.get, Sl.d?, ofO, tst, tru, tNotB, tAndB, tOrB, eAnd, eOr, eNot, chn, put, notIo, Vl.sl, Vl.d, D.tru, fnM, cutE, Sl.isIo, itE, items?, mkT, mkL, raise0, argM, items?]
  · have e := cnt9 (.va (tp ts)) z t (.va (li (lv ts))) q d ts [] (by have := g.len; simp [seqS, nxS, setS, bndS, bnd, retS, exS, ifS, KL.bin, un1, frz, nmE, nmO, nmM, cE, aNil, aCons, vals?, vaL, back, callV, callB, appN, getAll, app1, app2, Od.get, Sl.d?, ofO, tst, tru, tNotB, tAndB, tOrB, eAnd, eOr, eNot, chn, put, notIo, Vl.sl, Vl.d, D.tru, fnM, cutE, Sl.isIo, itE, items?, mkT, mkL, raise0, argM]; omega)
    simp [seqS, nxS, setS, bndS, bnd, retS, exS, ifS, KL.bin, un1, frz, nmE, nmO, nmM, cE, aNil, aCons, vals?, vaL, back, callV, callB, appN, getAll, app1, app2, Od.get, Sl.d?, ofO, tst, tru, tNotB, tAndB, tOrB, eAnd, eOr, eNot, chn, put, notIo, Vl.sl, Vl.d, D.tru, fnM, cutE, Sl.isIo, itE, items?, mkT, mkL, raise0, argM, lcE, okW, wipeE, rstE, Sl.mine, e, lenP, cnt]
abbrev E9 (ts : List Int) (q5 q6 q7 : Sl) : KL.Env := [.va (tp ts), .va (li (zs ts)), .ow ((tops ts).map .int), .va (li (lv ts)), .ow ((caps ts).map .int), q5, q6, q7, .un, .un]
theorem s6 {ts : List Int} (g : Good ts) : SX6 [.va (tp ts), .va (li (zs ts)), .ow ((tops ts).map .int), .ow ((lv ts).map .int), .un, .un, .un, .un, .un, .un] = .nx (E9 ts .un .un .un) := by
  simp [seqS, nxS, setS, bndS, bnd, retS, exS, ifS, KL.bin, un1, frz, nmE, nmO, nmM, cE, aNil, aCons, vals?, vaL, back, callV, callB, appN, getAll, app1, app2, Od.get, Sl.d?, ofO, tst, tru, tNotB, tAndB, tOrB, eAnd, eOr, eNot, chn, put, notIo, Vl.sl, Vl.d, D.tru, fnM, cutE, Sl.isIo, itE, items?, mkT, mkL, raise0, argM, SX6, lx2 g]
theorem s7 {ts : List Int} (g : Good ts) : SX7 (E9 ts .un .un .un) = .nx (E9 ts .un .un .un) := by
  simp [seqS, nxS, setS, bndS, bnd, retS, exS, ifS, KL.bin, un1, frz, nmE, nmO, nmM, cE, aNil, aCons, vals?, vaL, back, callV, callB, appN, getAll, app1, app2, Od.get, Sl.d?, ofO, tst, tru, tNotB, tAndB, tOrB, eAnd, eOr, eNot, chn, put, notIo, Vl.sl, Vl.d, D.tru, fnM, cutE, Sl.isIo, itE, items?, mkT, mkL, raise0, argM, SX7, E9, lx3 g, neP_lints]
theorem s8 {ts : List Int} (g : Good ts) : SX8 (E9 ts .un .un .un) = .nx (E9 ts .un .un .un) := by
  simp [seqS, nxS, setS, bndS, bnd, retS, exS, ifS, KL.bin, un1, frz, nmE, nmO, nmM, cE, aNil, aCons, vals?, vaL, back, callV, callB, appN, getAll, app1, app2, Od.get, Sl.d?, ofO, tst, tru, tNotB, tAndB, tOrB, eAnd, eOr, eNot, chn, put, notIo, Vl.sl, Vl.d, D.tru, fnM, cutE, Sl.isIo, itE, items?, mkT, mkL, raise0, argM, SX8, E9, lx4 g, lx5 g, neP_lints]
theorem tops_at {ts : List Int} {c : Int} (h : c ∈ zs ts) : ixP (li (tops ts)) (.int c) = some (.fz (.int (top_ ts c))) := by
  have hm := rg_mem.mp h
  obtain ⟨k, rfl⟩ := Int.eq_ofNat_of_zero_le hm.1
  have hk : k < ts.length + 3 := by have := hm.2; push_cast at this; omega
  have e : (tops ts)[k]? = some (top_ ts k) := by
    unfold tops zs
    rw [List.getElem?_map, rg_get hk]; simp [seqS, nxS, setS, bndS, bnd, retS, exS, ifS, KL.bin, un1, frz, nmE, nmO, nmM, cE, aNil, aCons, vals?, vaL, back, callV, callB, appN, getAll, app1, app2, Od.get, Sl.d?, ofO, tst, tru, tNotB, tAndB, tOrB, eAnd, eOr, eNot, chn, put, notIo, Vl.sl, Vl.d, D.tru, fnM, cutE, Sl.isIo, itE, items?, mkT, mkL, raise0, argM]
  have h0 : (0 : Int) ≤ (k : Int) := Int.natCast_nonneg k
  simp only [ixP, ixA, if_pos h0, Int.toNat_natCast, List.getElem?_map, e, Option.map_some]
theorem lx6 {ts : List Int} (g : Good ts) {l : Int} (h1 : 1 ≤ l) (h2 : l ≤ 200) {q7 : Sl} : LX6 (E9 ts (.va (.int l)) .un q7) = .ok (.fr (((zs ts).map fun c => top_ ts c - c * (l - 1)).map .int)) (E9 ts (.va (.int l)) .un q7) := by
  rw [List.map_map]
  refine lcEP (D.int ∘ fun c => top_ ts c - c * (l - 1)) (zs ts) ?_ rfl (by simp [seqS, nxS, setS, bndS, bnd, retS, exS, ifS, KL.bin, un1, frz, nmE, nmO, nmM, cE, aNil, aCons, vals?, vaL, back, callV, callB, appN, getAll, app1, app2, Od.get, Sl.d?, ofO, tst, tru, tNotB, tAndB, tOrB, eAnd, eOr, eNot, chn, put, notIo, Vl.sl, Vl.d, D.tru, fnM, cutE, Sl.isIo, itE, items?, mkT, mkL, raise0, argM]) (lens g) fun c hc => ?_
  · simp [seqS, nxS, setS, bndS, bnd, retS, exS, ifS, KL.bin, un1, frz, nmE, nmO, nmM, cE, aNil, aCons, vals?, vaL, back, callV, callB, appN, getAll, app1, app2, Od.get, Sl.d?, ofO, tst, tru, tNotB, tAndB, tOrB, eAnd, eOr, eNot, chn, put, notIo, Vl.sl, Vl.d, D.tru, fnM, cutE, Sl.isIo, itE, items?, mkT, mkL, raise0, argM, items?]
  · have h := zs_mem g hc
    have m : mulP (.int c) (.int (l - 1)) = some (.fz (.int (c * (l - 1)))) := mulP_i (small_mul (by omega) (by omega))
    simp [seqS, nxS, setS, bndS, bnd, retS, exS, ifS, KL.bin, un1, frz, nmE, nmO, nmM, cE, aNil, aCons, vals?, vaL, back, callV, callB, appN, getAll, app1, app2, Od.get, Sl.d?, ofO, tst, tru, tNotB, tAndB, tOrB, eAnd, eOr, eNot, chn, put, notIo, Vl.sl, Vl.d, D.tru, fnM, cutE, Sl.isIo, itE, items?, mkT, mkL, raise0, argM, tops_at hc, m]
theorem dual_max {ts : List Int} (g : Good ts) {l : Int} (h1 : 1 ≤ l) : maxA [li ((zs ts).map fun c => top_ ts c - c * (l - 1))] = some (.fz (.int (cap ts l))) := by
  refine maxA_eq ?_ ?_ _ (dints_l _)
  · obtain ⟨c, a1, a2, a3⟩ := split_at l ts g.desc
    refine List.mem_map.mpr ⟨(c : Int), rg_mem.mpr (by push_cast; omega), ?_⟩
    have e := dual_eq (l := l) ts c a1 (fun x hx => by have := a2 x hx; omega) a3
    rw [← e]; rfl
  · intro x hx
    obtain ⟨c, hc, rfl⟩ := List.mem_map.mp hx
    obtain ⟨k, rfl⟩ := Int.eq_ofNat_of_zero_le (rg_mem.mp hc).1
    exact dual_le h1 ts k
abbrev body9 : SM := seqS (setS 7 (callB maxA (aCons (frz LX6) (aNil)))) (ifS (tst (bin neP (frz (callK 2 0 2 f_capacity (permL [1, 0]) aNil (aCons (frz (nmE 5)) (aCons (frz (nmE 0)) (aNil))))) (nmO 7))) (retS (cE (.bl false))) (nxS))
def Pl (q : Sl) : Prop := q = .un ∨ ∃ d, q = .va d
theorem loop9 {ts : List Int} (g : Good ts) : ∀ ls : List Int, (∀ l ∈ ls, 1 ≤ l ∧ l ≤ 200) → ∀ q5 q7, Pl q5 → Pl q7 → ∃ q5' q7', Pl q5' ∧ Pl q7' ∧ forL (tgN 5) body9 (ls.map .int) (E9 ts q5 .un q7) = .nx (E9 ts q5' .un q7')
  | [], _, q5, q7, h5, h7 => ⟨q5, q7, h5, h7, rfl⟩
  | l :: r, h, q5, q7, h5, h7 => by
    have hl := h l (List.mem_cons_self ..)
    obtain ⟨q5', q7', a1, a2, a3⟩ := loop9 g r (fun x hx => h x (List.mem_cons_of_mem _ hx)) (.va (.int l)) (.va (.int (cap ts l))) (.inr ⟨_, rfl⟩) (.inr ⟨_, rfl⟩)
    refine ⟨q5', q7', a1, a2, ?_⟩
    rw [← a3]
    have z := fun q7 => @lx6 ts g l hl.1 hl.2 q7
    have m := dual_max g hl.1
    have c := cap_good g hl.1 hl.2
    simp only [E9] at z ⊢
    rcases h5 with rfl | ⟨d5, rfl⟩ <;> rcases h7 with rfl | ⟨d7, rfl⟩ <;> simp [seqS, nxS, setS, bndS, bnd, retS, exS, ifS, KL.bin, un1, frz, nmE, nmO, nmM, cE, aNil, aCons, vals?, vaL, back, callV, callB, appN, getAll, app1, app2, Od.get, Sl.d?, ofO, tst, tru, tNotB, tAndB, tOrB, eAnd, eOr, eNot, chn, put, notIo, Vl.sl, Vl.d, D.tru, fnM, cutE, Sl.isIo, itE, items?, mkT, mkL, raise0, argM, -List.map_map, forL, tgN, z, m, callK, permL, c]
theorem s9 {ts : List Int} (g : Good ts) : ∃ q5 q7, Pl q5 ∧ Pl q7 ∧ SX9 (E9 ts .un .un .un) = .nx (E9 ts q5 .un q7) := by
  obtain ⟨q5, q7, a1, a2, a3⟩ := loop9 g (lv ts) (fun l hl => by have := (lv_mem g).mp hl; exact ⟨this.1, this.2.1⟩) .un .un (.inl rfl) (.inl rfl)
  refine ⟨q5, q7, a1, a2, ?_⟩
  rw [← a3]
  simp [seqS, nxS, setS, bndS, bnd, retS, exS, ifS, KL.bin, un1, frz, nmE, nmO, nmM, cE, aNil, aCons, vals?, vaL, back, callV, callB, appN, getAll, app1, app2, Od.get, Sl.d?, ofO, tst, tru, tNotB, tAndB, tOrB, eAnd, eOr, eNot, chn, put, notIo, Vl.sl, Vl.d, D.tru, fnM, cutE, Sl.isIo, itE, items?, mkT, mkL, raise0, argM, SX9, forS, E9, items?]
end K02
end

section
set_option Elab.async false
set_option linter.all false
set_option maxRecDepth 100000
namespace K02
open PySem L2 KL

theorem lx7 {ts : List Int} (g : Good ts) {c : Int} (h1 : 0 ≤ c) (h2 : c ≤ 200) {q5 q7 : Sl} (h5 : Pl q5) : LX7 (E9 ts q5 (.va (.int c)) q7) = .ok (.fr (((lv ts).map fun l => cap ts l + c * (l - 1)).map .int)) (E9 ts q5 (.va (.int c)) q7) := by
  rw [List.map_map]
  refine lcEP (D.int ∘ fun l => cap ts l + c * (l - 1)) (lv ts) ?_ ?_ (by simp [seqS, nxS, setS, bndS, bnd, retS, exS, ifS, KL.bin, un1, frz, nmE, nmO, nmM, cE, aNil, aCons, vals?, vaL, back, callV, callB, appN, getAll, app1, app2, Od.get, Sl.d?, ofO, tst, tru, tNotB, tAndB, tOrB, eAnd, eOr, eNot, chn, put, notIo, Vl.sl, Vl.d, D.tru, fnM, cutE, Sl.isIo, itE, items?, mkT, mkL, raise0, argM]) (lv_len g) fun l hl => ?_
  · simp [seqS, nxS, setS, bndS, bnd, retS, exS, ifS, KL.bin, un1, frz, nmE, nmO, nmM, cE, aNil, aCons, vals?, vaL, back, callV, callB, appN, getAll, app1, app2, Od.get, Sl.d?, ofO, tst, tru, tNotB, tAndB, tOrB, eAnd, eOr, eNot, chn, put, notIo, Vl.sl, Vl.d, D.tru, fnM, cutE, Sl.isIo, itE, items?, mkT, mkL, raise0, argM, items?]
  · rcases h5 with rfl | ⟨d5, rfl⟩ <;> rfl
  · have h := (lv_mem g).mp hl
    have m : mulP (.int c) (.int (l - 1)) = some (.fz (.int (c * (l - 1)))) := mulP_i (small_mul (by omega) (by omega))
    simp [seqS, nxS, setS, bndS, bnd, retS, exS, ifS, KL.bin, un1, frz, nmE, nmO, nmM, cE, aNil, aCons, vals?, vaL, back, callV, callB, appN, getAll, app1, app2, Od.get, Sl.d?, ofO, tst, tru, tNotB, tAndB, tOrB, eAnd, eOr, eNot, chn, put, notIo, Vl.sl, Vl.d, D.tru, fnM, cutE, Sl.isIo, itE, items?, mkT, mkL, raise0, argM, law_cap_of g.len, m]
theorem dual_min {ts : List Int} (g : Good ts) {c : Int} (hc : 1 ≤ c) : minA [li ((lv ts).map fun l => cap ts l + c * (l - 1))] = some (.fz (.int (top_ ts c))) := by
  obtain ⟨k, rfl⟩ := Int.eq_ofNat_of_zero_le (show 0 ≤ c by omega)
  have hk : 1 ≤ k := by omega
  obtain ⟨m1, m2, m3, m4⟩ := mx_is g
  have tk : top_ ts (k : Int) = (ts.take k).sum := by simp [seqS, nxS, setS, bndS, bnd, retS, exS, ifS, KL.bin, un1, frz, nmE, nmO, nmM, cE, aNil, aCons, vals?, vaL, back, callV, callB, appN, getAll, app1, app2, Od.get, Sl.d?, ofO, tst, tru, tNotB, tAndB, tOrB, eAnd, eOr, eNot, chn, put, notIo, Vl.sl, Vl.d, D.tru, fnM, cutE, Sl.isIo, itE, items?, mkT, mkL, raise0, argM, top_]
  refine minA_eq ?_ ?_ _ (dints_l _)
  · by_cases h : k < ts.length
    · have hx : ts[k] ∈ ts := List.getElem_mem h
      have hr := g.rng _ hx
      have hd : ts.drop k = ts[k] :: ts.drop (k + 1) := List.drop_eq_getElem_cons h
      have hp : (ts.take k ++ ts.drop k).Pairwise (· ≥ ·) := by rw [List.take_append_drop]; exact g.desc
      obtain ⟨p1, p2, p3⟩ := List.pairwise_append.mp hp
      have e2 : ∀ x ∈ ts.take k, ts[k] ≤ x := fun x hx => p3 x hx _ (by rw [hd]; exact List.mem_cons_self ..)
      have e3 : ∀ x ∈ ts.drop k, x ≤ ts[k] := by
        intro x hx
        rw [hd] at hx p2
        rcases List.mem_cons.mp hx with rfl | hx
        · exact Int.le_refl _
        · exact (List.pairwise_cons.mp p2).1 x hx
      have hs : ts[k] ≤ 199 := by
        cases ts with
        | nil => simp at h
        | cons t r =>
          obtain ⟨j, rfl⟩ : ∃ j, k = j + 1 := ⟨k - 1, by omega⟩
          have hj : j < r.length := by simpa using h
          have hn : ∀ x ∈ r, 0 ≤ x := fun x hx => by have := g.rng x (List.mem_cons_of_mem _ hx); omega
          have s1 : ∀ (r : List Int) (j : Nat) (hj : j < r.length), (∀ x ∈ r, 0 ≤ x) → r[j] ≤ r.sum := by
            intro r
            induction r with
            | nil => intro j hj; simp at hj
            | cons a r ih =>
              intro j hj hn
              have a0 := hn a (List.mem_cons_self ..)
              have sn : 0 ≤ r.sum := by
                clear ih hj
                induction r with
                | nil => simp [seqS, nxS, setS, bndS, bnd, retS, exS, ifS, KL.bin, un1, frz, nmE, nmO, nmM, cE, aNil, aCons, vals?, vaL, back, callV, callB, appN, getAll, app1, app2, Od.get, Sl.d?, ofO, tst, tru, tNotB, tAndB, tOrB, eAnd, eOr, eNot, chn, put, notIo, Vl.sl, Vl.d, D.tru, fnM, cutE, Sl.isIo, itE, items?, mkT, mkL, raise0, argM]
                | cons b r ih2 =>
                  have := ih2 (fun x hx => hn x (by
                    rcases List.mem_cons.mp hx with rfl | hx
                    · exact List.mem_cons_self ..
                    · exact List.mem_cons_of_mem _ (List.mem_cons_of_mem _ hx)))
                  have := hn b (List.mem_cons_of_mem _ (List.mem_cons_self ..))
                  rw [List.sum_cons]; omega
              cases j with
              | zero => rw [List.sum_cons]; show a ≤ _; omega
              | succ j =>
                have hj' : j < r.length := by simpa using hj
                have := ih j hj' (fun x hx => hn x (List.mem_cons_of_mem _ hx))
                rw [List.sum_cons]; show r[j] ≤ _; omega
          have := s1 r j hj hn
          have h1 := (g.rng t (List.mem_cons_self ..)).1
          have h2 := g.sum
          rw [List.sum_cons] at h2
          show r[j] ≤ 199
          omega
      have hm := m3 _ hx
      refine List.mem_map.mpr ⟨ts[k] + 1, (lv_mem g).mpr ⟨by omega, by omega, by omega⟩, ?_⟩
      have e := dual_eq (l := ts[k] + 1) ts k (by omega) (fun x hx => by have := e2 x hx; omega) (fun x hx => by have := e3 x hx; omega)
      rw [tk, ← e]; omega
    · refine List.mem_map.mpr ⟨1, (lv_mem g).mpr ⟨by omega, by omega, by omega⟩, ?_⟩
      rw [cap_one ts (fun t ht => (g.rng t ht).1), tk, List.take_of_length_le (by omega)]
      simp [seqS, nxS, setS, bndS, bnd, retS, exS, ifS, KL.bin, un1, frz, nmE, nmO, nmM, cE, aNil, aCons, vals?, vaL, back, callV, callB, appN, getAll, app1, app2, Od.get, Sl.d?, ofO, tst, tru, tNotB, tAndB, tOrB, eAnd, eOr, eNot, chn, put, notIo, Vl.sl, Vl.d, D.tru, fnM, cutE, Sl.isIo, itE, items?, mkT, mkL, raise0, argM]
  · intro x hx
    obtain ⟨l, hl, rfl⟩ := List.mem_map.mp hx
    have h := (lv_mem g).mp hl
    have := dual_le h.1 ts k
    rw [tk]; omega
abbrev body10 : SM := ifS (tst (bin neP (frz (bin ixP (nmO 2) (nmO 6))) (frz (callB minA (aCons (frz LX7) (aNil)))))) (retS (cE (.bl false))) (nxS)
theorem loop10 {ts : List Int} (g : Good ts) {q5 q7 : Sl} (h5 : Pl q5) : ∀ cs : List Int, (∀ c ∈ cs, 1 ≤ c ∧ c ∈ zs ts) → ∀ q6, Pl q6 → ∃ q6', forL (tgN 6) body10 (cs.map .int) (E9 ts q5 q6 q7) = .nx (E9 ts q5 q6' q7)
  | [], _, q6, h6 => ⟨q6, rfl⟩
  | c :: r, h, q6, h6 => by
    obtain ⟨hc, hz⟩ := h c (List.mem_cons_self ..)
    have h2 := zs_mem g hz
    obtain ⟨q6', a⟩ := loop10 g h5 r (fun x hx => h x (List.mem_cons_of_mem _ hx)) (.va (.int c)) (.inr ⟨_, rfl⟩)
    refine ⟨q6', ?_⟩
    rw [← a]
    have z := lx7 (q7 := q7) g h2.1 h2.2 h5
    have m := dual_min g hc
    have t := tops_at hz
    simp only [E9] at z ⊢
    rcases h6 with rfl | ⟨d6, rfl⟩ <;> simp [seqS, nxS, setS, bndS, bnd, retS, exS, ifS, KL.bin, un1, frz, nmE, nmO, nmM, cE, aNil, aCons, vals?, vaL, back, callV, callB, appN, getAll, app1, app2, Od.get, Sl.d?, ofO, tst, tru, tNotB, tAndB, tOrB, eAnd, eOr, eNot, chn, put, notIo, Vl.sl, Vl.d, D.tru, fnM, cutE, Sl.isIo, itE, items?, mkT, mkL, raise0, argM, -List.map_map, forL, tgN, z, m, t]
theorem cut1 (xs : List D) : cutD xs (some 1) none = xs.drop 1 := by
  unfold cutD
  rw [HT.sIx_none]
  have e : HT.sIx xs.length 0 (some 1) = min 1 xs.length := by
    simp [seqS, nxS, setS, bndS, bnd, retS, exS, ifS, KL.bin, un1, frz, nmE, nmO, nmM, cE, aNil, aCons, vals?, vaL, back, callV, callB, appN, getAll, app1, app2, Od.get, Sl.d?, ofO, tst, tru, tNotB, tAndB, tOrB, eAnd, eOr, eNot, chn, put, notIo, Vl.sl, Vl.d, D.tru, fnM, cutE, Sl.isIo, itE, items?, mkT, mkL, raise0, argM, HT.sIx]
  rw [e]
  cases xs with
  | nil => rfl
  | cons a r =>
    have : min 1 (a :: r).length = 1 := by simp [seqS, nxS, setS, bndS, bnd, retS, exS, ifS, KL.bin, un1, frz, nmE, nmO, nmM, cE, aNil, aCons, vals?, vaL, back, callV, callB, appN, getAll, app1, app2, Od.get, Sl.d?, ofO, tst, tru, tNotB, tAndB, tOrB, eAnd, eOr, eNot, chn, put, notIo, Vl.sl, Vl.d, D.tru, fnM, cutE, Sl.isIo, itE, items?, mkT, mkL, raise0, argM]
    rw [this]
    simp [seqS, nxS, setS, bndS, bnd, retS, exS, ifS, KL.bin, un1, frz, nmE, nmO, nmM, cE, aNil, aCons, vals?, vaL, back, callV, callB, appN, getAll, app1, app2, Od.get, Sl.d?, ofO, tst, tru, tNotB, tAndB, tOrB, eAnd, eOr, eNot, chn, put, notIo, Vl.sl, Vl.d, D.tru, fnM, cutE, Sl.isIo, itE, items?, mkT, mkL, raise0, argM]
theorem zs_drop (ts : List Int) : ∀ c ∈ (zs ts).drop 1, 1 ≤ c ∧ c ∈ zs ts := by
  intro c hc
  refine ⟨?_, List.mem_of_mem_drop hc⟩
  unfold zs rg at hc
  rw [List.range_succ_eq_map, List.map_cons, List.drop_one, List.tail_cons, List.map_map] at hc
  obtain ⟨k, _, rfl⟩ := List.mem_map.mp hc
  simp only [Function.comp, Nat.succ_eq_add_one]
  omega
theorem s10 {ts : List Int} (g : Good ts) {q5 q7 : Sl} (h5 : Pl q5) (h7 : Pl q7) : ∃ q6, SX10 (E9 ts q5 .un q7) = .nx (E9 ts q5 q6 q7) := by
  obtain ⟨q6, a⟩ := loop10 (q7 := q7) g h5 ((zs ts).drop 1) (zs_drop ts) .un (.inl rfl)
  refine ⟨q6, ?_⟩
  rw [← a]
  have e : slP (li (zs ts)) (some 1) none = some (.fr (((zs ts).drop 1).map .int)) := by
    simp only [slP, cut1, List.map_drop]
  simp [seqS, nxS, setS, bndS, bnd, retS, exS, ifS, KL.bin, un1, frz, nmE, nmO, nmM, cE, aNil, aCons, vals?, vaL, back, callV, callB, appN, getAll, app1, app2, Od.get, Sl.d?, ofO, tst, tru, tNotB, tAndB, tOrB, eAnd, eOr, eNot, chn, put, notIo, Vl.sl, Vl.d, D.tru, fnM, cutE, Sl.isIo, itE, items?, mkT, mkL, raise0, argM, -List.map_drop, SX10, forS, E9, items?, slE, ptS, ptN, e]
theorem s11_ {A b c d e q5 q6 q7 : Sl} {a : D} {n k : Int} (hA : A = .va a) (a1 : f_count_from [.va a, .va (.int 1)] = .ok (.fz (.int n)) [.un, .un]) (a2 : f_capacity [.va a, .va (.int 200)] = .ok (.fz (.int k)) [.un, .un]) (a3 : f_u_law_capacity [.va a, .va (.int 200)] = .ok (.fz (.int k)) [.un, .un]) (a4 : lenP [a] = some (.fz (.int n))) :
    SX11 [A, b, c, d, e, q5, q6, q7, .un, .un] = .rt (.fz (.bl true)) [A, b, c, d, e, q5, q6, q7, .un, .un] := by
  subst hA
  simp [seqS, nxS, setS, bndS, bnd, retS, exS, ifS, KL.bin, un1, frz, nmE, nmO, nmM, cE, aNil, aCons, vals?, vaL, back, callV, callB, appN, getAll, app1, app2, Od.get, Sl.d?, ofO, tst, tru, tNotB, tAndB, tOrB, eAnd, eOr, eNot, chn, put, notIo, Vl.sl, Vl.d, D.tru, fnM, cutE, Sl.isIo, itE, items?, mkT, mkL, raise0, argM, SX11, callK, permL, a1, a2, a3, a4]
theorem len_tp (ts : List Int) : lenP [tp ts] = some (.fz (.int (ts.length : Int))) := by simp [seqS, nxS, setS, bndS, bnd, retS, exS, ifS, KL.bin, un1, frz, nmE, nmO, nmM, cE, aNil, aCons, vals?, vaL, back, callV, callB, appN, getAll, app1, app2, Od.get, Sl.d?, ofO, tst, tru, tNotB, tAndB, tOrB, eAnd, eOr, eNot, chn, put, notIo, Vl.sl, Vl.d, D.tru, fnM, cutE, Sl.isIo, itE, items?, mkT, mkL, raise0, argM, lenP]
theorem s11 {ts : List Int} (g : Good ts) {q5 q6 q7 : Sl} : SX11 (E9 ts q5 q6 q7) = .rt (.fz (.bl true)) (E9 ts q5 q6 q7) := by
  have a1 := cnt_good g (n := 1) (by decide) (by decide)
  have a4 : cnt ts 1 = (ts.length : Int) := by
    unfold cnt; rw [List.filter_eq_self.mpr (fun t ht => decide_eq_true (g.rng t ht).1)]
  rw [a4] at a1
  exact s11_ rfl a1 (cap_good g (by decide) (by decide)) (law_cap_of g.len 200) (len_tp ts)
theorem seq_nx {f h : SM} {ρ ρ1 : KL.Env} (e : f ρ = .nx ρ1) : seqS f h ρ = h ρ1 := by unfold seqS; rw [e]
theorem fn_rt {b : SM} {m : Nat} {ρ ρ' : KL.Env} {a : Vl} (e : b (ρ ++ List.replicate m .un) = .rt a ρ') : fnM m b ρ = .ok a (cutE ρ ρ') := by unfold fnM; rw [e]
theorem good_run {ts : List Int} (g : Good ts) : ∃ q5 q6 q7, bd_u_law_good [.va (tp ts), .un, .un, .un, .un, .un, .un, .un, .un, .un] = .rt (.fz (.bl true)) (E9 ts q5 q6 q7) := by
  obtain ⟨q5, q7, h5, h7, a9⟩ := s9 g
  obtain ⟨q6, a10⟩ := s10 g h5 h7
  refine ⟨q5, q6, q7, (congrFun bd_good _).trans ?_⟩
  refine (seq_nx (s0 g)).trans ((seq_nx (s1 g)).trans ((seq_nx (s2 g)).trans ((seq_nx (s3 g)).trans ((seq_nx (s4 g)).trans ((seq_nx (s5 g)).trans ((seq_nx (s6 g)).trans ((seq_nx (s7 g)).trans ((seq_nx (s8 g)).trans ((seq_nx a9).trans ((seq_nx a10).trans (s11 g)))))))))))
theorem good_ok {ts : List Int} (g : Good ts) : f_u_law_good [.va (tp ts)] = .ok (.fz (.bl true)) [.un] := by
  obtain ⟨q5, q6, q7, e⟩ := good_run g
  have z : f_u_law_good [.va (tp ts)] = .ok (.fz (.bl true)) (cutE [.va (tp ts)] (E9 ts q5 q6 q7)) := fn_rt e
  exact z
end K02
end

section
set_option Elab.async false
set_option linter.all false
set_option maxRecDepth 100000
namespace K02
open PySem L2 KL

def BI : SM := ifS (tNotB (tru (frz (callV 1 f_u_law_good [] (aCons (frz (callI 3 f_u_law_lot [] (aCons (nmO 2) (aCons (frz (cE (.int 20))) (aCons (frz (bin ixP (frz (mkL (aCons (frz (cE (.int 3))) (aCons (frz (cE (.int 12))) (aCons (frz (cE (.int 40))) (aCons (frz (cE (.int 100))) (aNil))))))) (frz (callI 2 f_u_law_take [] (aCons (nmO 2) (aCons (frz (cE (.int 4))) (aNil))))))) (aNil)))))) (aNil)))))) (retS (cE (.bl false))) (nxS)
def BO : SM := seqS (setS 2 (mkL (aCons (frz (callV 2 f_u_law_cell [] (aCons (frz (nmE 0)) (aCons (frz (nmE 1)) (aNil))))) (aNil)))) (forS (itR1 (aCons (frz (cE (.int 4))) (aNil))) (tgN 3) BI)
def SL0 : SM := forS (itR1 (aCons (frz (callB maxP2 (aCons (frz (callB minP2 (aCons (frz (callB lenP (aCons (nmO 0) (aNil)))) (aCons (frz (cE (.int 5))) (aNil))))) (aCons (frz (cE (.int 1))) (aNil))))) (aNil))) (tgN 1) BO
def SL1 : SM := ifS (tOrB (tNotB (tru (frz (callV 1 f_u_law_good [] (aCons (frz (mkT (aCons (frz (cE (.int 150))) (aCons (frz (cE (.int 50))) (aNil))))) (aNil)))))) (tOrB (tNotB (tru (frz (callV 1 f_u_law_good [] (aCons (frz (mkT (aCons (frz (cE (.int 101))) (aCons (frz (cE (.int 99))) (aNil))))) (aNil)))))) (tNotB (tru (frz (callV 1 f_u_law_good [] (aCons (frz (bin mulP (frz (mkT (aCons (frz (cE (.int 5))) (aNil)))) (frz (cE (.int 40))))) (aNil)))))))) (retS (cE (.bl false))) (nxS)
def SL2 : SM := retS (eAnd (callV 1 f_u_law_good [] (aCons (frz (mkT (aNil))) (aNil))) (eAnd (callV 1 f_u_law_good [] (aCons (frz (mkT (aCons (frz (cE (.int 200))) (aNil)))) (aNil))) (callV 1 f_u_law_good [] (aCons (frz (bin mulP (frz (mkT (aCons (frz (cE (.int 1))) (aNil)))) (frz (cE (.int 60))))) (aNil)))))
theorem bd_law_eq : bd_law = seqS SL0 (seqS SL1 SL2) := rfl

theorem tab_ok {c : Int} (h0 : 0 ≤ c) : ∃ p : Int, 0 < p ∧ p ≤ 200 ∧ ixP (.lst [.int 3, .int 12, .int 40, .int 100]) (.int (c % 4)) = some (.fz (.int p)) := by
  have b1 := Int.emod_nonneg c (show (4 : Int) ≠ 0 by decide)
  have b2 := Int.emod_lt_of_pos c (show (0 : Int) < 4 by decide)
  generalize c % 4 = m at *
  have : m = 0 ∨ m = 1 ∨ m = 2 ∨ m = 3 := by omega
  rcases this with rfl | rfl | rfl | rfl
  · exact ⟨3, by decide, by decide, rfl⟩
  · exact ⟨12, by decide, by decide, rfl⟩
  · exact ⟨40, by decide, by decide, rfl⟩
  · exact ⟨100, by decide, by decide, rfl⟩
theorem loopI (A : D) (k : Int) : ∀ (ds : List D) (c : Int) (q : Sl), 0 ≤ c → Pl q → ∃ c' q', 0 ≤ c' ∧ Pl q' ∧ forL (tgN 3) BI ds [.va A, .va (.int k), .ow [.int c], q] = .nx [.va A, .va (.int k), .ow [.int c'], q']
  | [], c, q, hc, hq => ⟨c, q, hc, hq, rfl⟩
  | d :: r, c, q, hc, hq => by
    obtain ⟨p, p1, p2, p3⟩ := tab_ok hc
    obtain ⟨ts, c1, g, hc1, lo⟩ := lot_ok (c := c / 4) p1 p2 (Int.ediv_nonneg hc (by decide))
    obtain ⟨c', q', a1, a2, a3⟩ := loopI A k r c1 (.va d) hc1 (.inr ⟨_, rfl⟩)
    refine ⟨c', q', a1, a2, ?_⟩
    rw [← a3]
    have tk := @take_ok c 4 (by decide) (by decide)
    rcases hq with rfl | ⟨d5, rfl⟩ <;> simp [seqS, nxS, setS, bndS, bnd, retS, exS, ifS, KL.bin, un1, frz, nmE, nmO, nmM, cE, aNil, aCons, vals?, vaL, back, callV, callB, appN, getAll, app1, app2, Od.get, Sl.d?, ofO, tst, tru, tNotB, tAndB, tOrB, eAnd, eOr, eNot, chn, put, notIo, Vl.sl, Vl.d, D.tru, fnM, cutE, Sl.isIo, itE, items?, mkT, mkL, raise0, argM, forL, tgN, BI, callI, backI, Sl.lst?, Sl.upd, tk, p3, lo, good_ok g]
theorem loopO (ns : List Int) : ∀ (ks : List Int), (∀ k ∈ ks, 0 ≤ k) → ∀ q1 q2 q3, Pl q1 → (q2 = .un ∨ ∃ c : Int, q2 = .ow [.int c]) → Pl q3 → ∃ q1' q2' q3', forL (tgN 1) BO (ks.map .int) [.va (.scr ns), q1, q2, q3] = .nx [.va (.scr ns), q1', q2', q3']
  | [], _, q1, q2, q3, _, _, _ => ⟨q1, q2, q3, rfl⟩
  | k :: r, h, q1, q2, q3, h1, h2, h3 => by
    obtain ⟨c, c0, ce⟩ := cell_ok ns k (h k (List.mem_cons_self ..))
    obtain ⟨c', q', a1, a2, a3⟩ := loopI (.scr ns) k (rangeL 0 4) c q3 c0 h3
    obtain ⟨e1, e2, e3, e⟩ := loopO ns r (fun x hx => h x (List.mem_cons_of_mem _ hx)) (.va (.int k)) (.ow [.int c']) q' (.inr ⟨_, rfl⟩) (.inr ⟨_, rfl⟩) a2
    refine ⟨e1, e2, e3, ?_⟩
    rw [← e]
    have o4 : okR 4 = true := by decide
    rcases h1 with rfl | ⟨d1, rfl⟩ <;> rcases h2 with rfl | ⟨d2, rfl⟩ <;> simp [seqS, nxS, setS, bndS, bnd, retS, exS, ifS, KL.bin, un1, frz, nmE, nmO, nmM, cE, aNil, aCons, vals?, vaL, back, callV, callB, appN, getAll, app1, app2, Od.get, Sl.d?, ofO, tst, tru, tNotB, tAndB, tOrB, eAnd, eOr, eNot, chn, put, notIo, Vl.sl, Vl.d, D.tru, fnM, cutE, Sl.isIo, itE, items?, mkT, mkL, raise0, argM, forL, tgN, BO, ce, forS, itR1, i1?, o4, a3]
theorem sl0 (ns : List Int) : ∃ q1 q2 q3, SL0 [.va (.scr ns), .un, .un, .un] = .nx [.va (.scr ns), q1, q2, q3] := by
  have hm : ∃ j : Nat, j ≤ 5 ∧ (∀ A : Option Vl, minP2 [.int (ns.length : Int), .int 5] = A → ∃ m : Int, A = some (.fz (.int m)) ∧ maxP2 [.int m, .int 1] = some (.fz (.int (j : Int)))) := by
    refine ⟨max (min ns.length 5) 1, by omega, fun A hA => ⟨((min ns.length 5 : Nat) : Int), ?_, ?_⟩⟩
    · rw [← hA]; simp only [minP2]; congr 3; split <;> omega
    · simp only [maxP2]; congr 3; split <;> omega
  obtain ⟨j, hj, hm⟩ := hm
  obtain ⟨m, m1, m2⟩ := hm _ rfl
  have ho : okR (j : Int) = true := by unfold okR; rw [decide_eq_true (by omega), decide_eq_true (by omega)]; rfl
  obtain ⟨q1, q2, q3, e⟩ := loopO ns (rg 0 j) (fun k hk => (rg_mem.mp hk).1) .un .un .un (.inl rfl) (.inl rfl) (.inl rfl)
  refine ⟨q1, q2, q3, ?_⟩
  rw [← e]
  have hr : rangeL 0 (Int.toNat (j : Int)) = (rg 0 j).map .int := by rw [Int.toNat_natCast]; exact rangeL_map 0 j
  have hl : lenP [.scr ns] = some (.fz (.int (ns.length : Int))) := rfl
  generalize (ns.length : Int) = n at *
  generalize (j : Int) = z at *
  simp [seqS, nxS, setS, bndS, bnd, retS, exS, ifS, KL.bin, un1, frz, nmE, nmO, nmM, cE, aNil, aCons, vals?, vaL, back, callV, callB, appN, getAll, app1, app2, Od.get, Sl.d?, ofO, tst, tru, tNotB, tAndB, tOrB, eAnd, eOr, eNot, chn, put, notIo, Vl.sl, Vl.d, D.tru, fnM, cutE, Sl.isIo, itE, items?, mkT, mkL, raise0, argM, SL0, forS, itR1, i1?, hl, m1, m2, ho, hr]
end K02
end

section
set_option Elab.async false
set_option linter.all false
set_option maxRecDepth 100000
namespace K02
open PySem L2 KL

theorem rep_flat (x : D) : ∀ n, (List.replicate n [x]).flatten = List.replicate n x
  | 0 => rfl
  | n + 1 => by rw [List.replicate_succ, List.flatten_cons, rep_flat x n]; rfl
theorem mul_tup (i k : Int) (h1 : 2 ≤ k) (h2 : k ≤ 1000) : mulP (.tup [.int i]) (.int k) = some (.fz (tp (List.replicate k.toNat i))) := by
  have e : repT (.tup [.int i]) (.int k) = some (.fz (tp (List.replicate k.toNat i))) := by
    simp only [repT, rep_flat]
    rw [if_pos ⟨by simp [seqS, nxS, setS, bndS, bnd, retS, exS, ifS, KL.bin, un1, frz, nmE, nmO, nmM, cE, aNil, aCons, vals?, vaL, back, callV, callB, appN, getAll, app1, app2, Od.get, Sl.d?, ofO, tst, tru, tNotB, tAndB, tOrB, eAnd, eOr, eNot, chn, put, notIo, Vl.sl, Vl.d, D.tru, fnM, cutE, Sl.isIo, itE, items?, mkT, mkL, raise0, argM], h1, h2, by simp [seqS, nxS, setS, bndS, bnd, retS, exS, ifS, KL.bin, un1, frz, nmE, nmO, nmM, cE, aNil, aCons, vals?, vaL, back, callV, callB, appN, getAll, app1, app2, Od.get, Sl.d?, ofO, tst, tru, tNotB, tAndB, tOrB, eAnd, eOr, eNot, chn, put, notIo, Vl.sl, Vl.d, D.tru, fnM, cutE, Sl.isIo, itE, items?, mkT, mkL, raise0, argM]⟩]
    show _ = some (Vl.fz (D.tup ((List.replicate k.toNat i).map D.int)))
    rw [List.map_replicate]
  show (match (none : Option Vl) with | some a => some a | none => (match (none : Option Vl) with | some a => some a | none => repT (.tup [.int i]) (.int k))) = _
  exact e
theorem mul_r (i : Int) (k : Nat) (r : List Int) (hr : r = List.replicate k i) (h1 : 2 ≤ k) (h2 : k ≤ 1000) : mulP (.tup [.int i]) (.int k) = some (.fz (tp r)) := by
  subst hr
  have m := mul_tup i k (by omega) (by omega)
  rw [Int.toNat_natCast] at m
  exact m
theorem good_r (i : Int) (k : Nat) (h0 : 1 ≤ i) (h1 : i ≤ 200) (h2 : k ≤ 60) (h3 : (List.replicate k i).sum ≤ 200) : Good (List.replicate k i) := by
  refine ⟨fun t ht => ?_, ?_, by simpa using h2, h3⟩
  · have := (List.mem_replicate.mp ht).2
    subst this; exact ⟨h0, h1⟩
  · exact List.pairwise_replicate.mpr (.inr (Int.le_refl _))
theorem g1 : Good [150, 50] := ⟨by decide, by decide, by decide, by decide⟩
theorem g2 : Good [101, 99] := ⟨by decide, by decide, by decide, by decide⟩
theorem g4 : Good [] := ⟨by decide, by decide, by decide, by decide⟩
theorem g5 : Good [200] := ⟨by decide, by decide, by decide, by decide⟩
theorem ex40 : ∃ x, f_u_law_good [.va x] = .ok (.fz (.bl true)) [.un] ∧ mulP (.tup [.int 5]) (.int 40) = some (.fz x) := by
  obtain ⟨r, hr⟩ : ∃ r, r = List.replicate 40 (5 : Int) := ⟨_, rfl⟩
  have g : Good r := by rw [hr]; exact good_r 5 40 (by decide) (by decide) (by decide) (by decide +kernel)
  exact ⟨tp r, good_ok g, mul_r 5 40 r hr (by decide) (by decide)⟩
theorem ex60 : ∃ x, f_u_law_good [.va x] = .ok (.fz (.bl true)) [.un] ∧ mulP (.tup [.int 1]) (.int 60) = some (.fz x) := by
  obtain ⟨r, hr⟩ : ∃ r, r = List.replicate 60 (1 : Int) := ⟨_, rfl⟩
  have g : Good r := by rw [hr]; exact good_r 1 60 (by decide) (by decide) (by decide) (by decide +kernel)
  exact ⟨tp r, good_ok g, mul_r 1 60 r hr (by decide) (by decide)⟩
section
variable {ρ : KL.Env}
theorem bin_vv {p : D → D → Option Vl} {f g : M Od} {x y z : D} (hf : f ρ = .ok (.v x) ρ) (hg : g ρ = .ok (.v y) ρ) (h : p x y = some (.fz z)) : frz (bin p f g) ρ = .ok (.v z) ρ := by simp [seqS, nxS, setS, bndS, bnd, retS, exS, ifS, KL.bin, un1, frz, nmE, nmO, nmM, cE, aNil, aCons, vals?, vaL, back, callV, callB, appN, getAll, app1, app2, Od.get, Sl.d?, ofO, tst, tru, tNotB, tAndB, tOrB, eAnd, eOr, eNot, chn, put, notIo, Vl.sl, Vl.d, D.tru, fnM, cutE, Sl.isIo, itE, items?, mkT, mkL, raise0, argM, hf, hg, h]
theorem cv {E : M Od} {d : D} (hE : E ρ = .ok (.v d) ρ) (h : f_u_law_good [.va d] = .ok (.fz (.bl true)) [.un]) : callV 1 f_u_law_good [] (aCons E aNil) ρ = .ok (.fz (.bl true)) ρ := by simp [seqS, nxS, setS, bndS, bnd, retS, exS, ifS, KL.bin, un1, frz, nmE, nmO, nmM, cE, aNil, aCons, vals?, vaL, back, callV, callB, appN, getAll, app1, app2, Od.get, Sl.d?, ofO, tst, tru, tNotB, tAndB, tOrB, eAnd, eOr, eNot, chn, put, notIo, Vl.sl, Vl.d, D.tru, fnM, cutE, Sl.isIo, itE, items?, mkT, mkL, raise0, argM, hE, h]
theorem nb {E : M Od} {d : D} (hE : E ρ = .ok (.v d) ρ) (h : f_u_law_good [.va d] = .ok (.fz (.bl true)) [.un]) : tNotB (tru (frz (callV 1 f_u_law_good [] (aCons E aNil)))) ρ = .ok false ρ := by simp [seqS, nxS, setS, bndS, bnd, retS, exS, ifS, KL.bin, un1, frz, nmE, nmO, nmM, cE, aNil, aCons, vals?, vaL, back, callV, callB, appN, getAll, app1, app2, Od.get, Sl.d?, ofO, tst, tru, tNotB, tAndB, tOrB, eAnd, eOr, eNot, chn, put, notIo, Vl.sl, Vl.d, D.tru, fnM, cutE, Sl.isIo, itE, items?, mkT, mkL, raise0, argM, hE, h]
theorem orb {a b : M Bool} (ha : a ρ = .ok false ρ) (hb : b ρ = .ok false ρ) : tOrB a b ρ = .ok false ρ := by simp [seqS, nxS, setS, bndS, bnd, retS, exS, ifS, KL.bin, un1, frz, nmE, nmO, nmM, cE, aNil, aCons, vals?, vaL, back, callV, callB, appN, getAll, app1, app2, Od.get, Sl.d?, ofO, tst, tru, tNotB, tAndB, tOrB, eAnd, eOr, eNot, chn, put, notIo, Vl.sl, Vl.d, D.tru, fnM, cutE, Sl.isIo, itE, items?, mkT, mkL, raise0, argM, ha, hb]
theorem ifn {c : M Bool} {f g : SM} (h : c ρ = .ok false ρ) : ifS c f g ρ = g ρ := by simp [seqS, nxS, setS, bndS, bnd, retS, exS, ifS, KL.bin, un1, frz, nmE, nmO, nmM, cE, aNil, aCons, vals?, vaL, back, callV, callB, appN, getAll, app1, app2, Od.get, Sl.d?, ofO, tst, tru, tNotB, tAndB, tOrB, eAnd, eOr, eNot, chn, put, notIo, Vl.sl, Vl.d, D.tru, fnM, cutE, Sl.isIo, itE, items?, mkT, mkL, raise0, argM, h]
theorem eand {f g : M Vl} (hf : f ρ = .ok (.fz (.bl true)) ρ) (hg : g ρ = .ok (.fz (.bl true)) ρ) : eAnd f g ρ = .ok (.fz (.bl true)) ρ := by simp [seqS, nxS, setS, bndS, bnd, retS, exS, ifS, KL.bin, un1, frz, nmE, nmO, nmM, cE, aNil, aCons, vals?, vaL, back, callV, callB, appN, getAll, app1, app2, Od.get, Sl.d?, ofO, tst, tru, tNotB, tAndB, tOrB, eAnd, eOr, eNot, chn, put, notIo, Vl.sl, Vl.d, D.tru, fnM, cutE, Sl.isIo, itE, items?, mkT, mkL, raise0, argM, hf, hg]
theorem rts {f : M Vl} {a : Vl} (hf : f ρ = .ok a ρ) : retS f ρ = .rt a ρ := by simp [seqS, nxS, setS, bndS, bnd, retS, exS, ifS, KL.bin, un1, frz, nmE, nmO, nmM, cE, aNil, aCons, vals?, vaL, back, callV, callB, appN, getAll, app1, app2, Od.get, Sl.d?, ofO, tst, tru, tNotB, tAndB, tOrB, eAnd, eOr, eNot, chn, put, notIo, Vl.sl, Vl.d, D.tru, fnM, cutE, Sl.isIo, itE, items?, mkT, mkL, raise0, argM, hf]
end
theorem h150 : f_u_law_good [.va (.tup [.int 150, .int 50])] = .ok (.fz (.bl true)) [.un] := @good_ok [150, 50] g1
theorem h101 : f_u_law_good [.va (.tup [.int 101, .int 99])] = .ok (.fz (.bl true)) [.un] := @good_ok [101, 99] g2
theorem hnil : f_u_law_good [.va (.tup [])] = .ok (.fz (.bl true)) [.un] := @good_ok [] g4
theorem h200 : f_u_law_good [.va (.tup [.int 200])] = .ok (.fz (.bl true)) [.un] := @good_ok [200] g5
theorem sl1 (ρ : KL.Env) : SL1 ρ = .nx ρ := by
  obtain ⟨x, a, b⟩ := ex40
  unfold SL1
  exact (ifn (orb (nb (d := .tup [.int 150, .int 50]) rfl h150) (orb (nb (d := .tup [.int 101, .int 99]) rfl h101) (nb (d := x) (bin_vv (x := .tup [.int 5]) (y := .int 40) rfl rfl b) a)))).trans rfl
theorem sl2 (ρ : KL.Env) : SL2 ρ = .rt (.fz (.bl true)) ρ := by
  obtain ⟨x, a, b⟩ := ex60
  unfold SL2
  exact rts (eand (cv (d := .tup []) rfl hnil) (eand (cv (d := .tup [.int 200]) rfl h200) (cv (d := x) (bin_vv (x := .tup [.int 1]) (y := .int 60) rfl rfl b) a)))
theorem law_ok (ns : List Int) : ∃ ρ, f_law [.va (.scr ns)] = .ok (.fz (.bl true)) ρ := by
  obtain ⟨q1, q2, q3, e⟩ := sl0 ns
  have z : bd_law ([.va (.scr ns)] ++ List.replicate 3 .un) = .rt (.fz (.bl true)) [.va (.scr ns), q1, q2, q3] :=
    (congrFun bd_law_eq _).trans ((seq_nx e).trans ((seq_nx (sl1 _)).trans (sl2 _)))
  exact ⟨_, fn_rt z⟩
end K02
end

theorem PySem.Challenge.cw_keenlot_k02_sums_and_capacities_holds : PySem.Challenge.rw_keenlot_k02_sums_and_capacities.Holds :=
  k02_of fun ns _ _ => K02.law_ok ns
